import PyProof.Rows.All
import Wide.All
import OpenK.AllK
import Wide.FinOn
import Lean
import PyProof.EqAt
import PyProof.EqKinds
import PyProof.TupleCall
import PyProof.TupleOfStr
import PyProof.ListStr
import PyProof.ZipIter
import PyProof.TupleIter
import PyProof.EnumMake
import PyProof.Draws
import PyProof.ListRange
import PyProof.AttrMissHeap
import KE.KSortTup
import PyProof.Rows.SortShellK
import PyProof.SetKind
import PyProof.Rows.SetFrom
import KE.KRevIter
import PyProof.CollectWalk
import PyProof.MeetsSeq2
import PyProof.FactsAll.list_4
import PyProof.AutoSeq1
import PyProof.ConsumeWalk
import PyProof.FactsAll.tuple_2
import PyProof.WalksMore
import PyProof.DictItemsLoops
import PyProof.ListMulRoad
import PyProof.Rows.SeqMore
import PyProof.StrOps2
import PyProof.FactsAll.zip_1
import PyProof.MeetsDictList
import PyProof.SeqI3
import PyProof.Rows.SumAny
import PyProof.Rows.Range3
import PySem.Challenge.RW_askwithin_k57_what_stays
open PySem renaming PyData->aA,Value->aB,Addr->aC,Str->aD,wpAny_bind->aE,Shared->aF,wpAny_pure->aH,wpAny->aJ,model->aO,Heap->aP,Expr->aT,World->aX,Obj->aZ,Program->bE,eval->bF,starEach->bH,Pos->bJ,Around->bM,Paired->bY,rawInt->cT,SetTable->cY,wpAny_holding->eG,Stmt->eI,wpAny_call_entry->fK,Scope->fS,sysModules->fW,mainGlobals->fX,compareOp->fY,wpAny_field->gZ,assignEach->hE,wpAny_seqItems->iC,wpAny_newObj_type->iD,codeAny_builtin->iE,backTo->iF,merged->iR,cellsFrom->iS,ReadsAll->jB,NameKind->jD,FuncData->jE,codeAny->jJ,wpAny_typeOf->jV,pyNext->jW,plainId_quiet->jX,binaryOp->jY,swapsWith->kS,sizeLine_eq->kT,assign->kU,Reads->kW,wpAny_mono->mA,wpAny_callSpecial?_slot->mB,Spec->mD,wpAny_setField_rec->mV,wpAny_rule->mW,bootBuiltins->mX,Result->mY,holding->nN,wpAny_setState_of->oM,wpAny_ite_split->oO,pyIter->oP,atKey->oQ,wpAny_attempt->pW,storedH->pX,getItem->pY,IsPart->qE,IsPair->qF,GenState->qG,DictEntry->qH,wpAny_updateSeq->rO,wpAny_specialOf->rP,wpAny_isInstance->rQ,typeLookup->rR,typeLookup_type->tV,intKind->tW,foldedSetIterable->tX,builtinLookup_eq_fast->tY,ItemsOf->uI,wpAny_passesOwn->wD,valueAt->wF,updateSeq->wG,sliceBounds->wH,relabel->wI,behindInMarks->wJ,mem_of_lookup->wM,Fin->wN,wpAny_setEntries_of->zU,wpAny_pyIter_list->zV,wpAny_of_eq->zW,wpAny_forIn_list->zX,wpAny_fieldsOf->zY,wpAny_askSetting->zZ,codeAny_mono->AB,call_meets->AC,wpAny_pyIter_slot->FB,wpAny_newList->FC,wpAny_letGo->FD,isSubtype_stop->FG,intKind_is->FH,attributeBase->FI,wpAny_typeNameOf_keyiter->NB,wpAny_typeNameOfWhole_keyiter->NC,wpAny_truthy_bool->ND,wpAny_throw->NF,wpAny_storeSet_of->NG,wpAny_setField->NH,wpAny_runValue->NI,wpAny_pyIter_zip->NJ,wpAny_onRaise->NK,wpAny_newTuple->NL,wpAny_handled->NM,wpAny_execs_nil->NN,unsupported->NO,swapsWithSole->NP,swappedStores->NQ,subscripted->NR,ofAClassStatement->NT,letOwnedTupleGo->NU,hashByValue->NV,firstArgMember->NW,concat_meets->NX,call_meetsIn->NY,callType_codes->NZ,wpAny_updateSeq_pair->Hx,wpAny_tupleItemsOf->Hy,wpAny_pyIter_tuple->Hz,wpAny_notOrdered_dict->Ia,wpAny_dictEntries->Ib,wpAny_Call_Name_kw->Ic,noFill_tuple_add->Ie,SetTable->Ii
open PySem.W renaming Frag->aI,nsIn->nP,kia_one->oU,fnOf->qA,keepIn->uA,codeIn->AD,mg_of->FL,kitx_list->Ig,kitOne->Ih
open PySem.PyData renaming int->aU,eqv->bW,canLay0->bX,tuple->cD,depthAll->cU,str->dE,depth->fE,eqvAll->iT,bool->jK,list->jZ,canLayAll0->FM,dict->OE
open Nat renaming le_refl->bA,ne_of_lt->cP,le_trans->cQ,zero_le->cZ,lt_of_lt_of_le->jC,ne_of_gt->jL,le_of_lt->mE,lt_irrefl->nQ,le_succ->rS,mod_lt->wO,lt_or_ge->wQ,min_eq_left->AI,lt_trichotomy->AJ,lt_of_le_of_lt->AK,pow_succ->FP,lt_trans->FQ,lt_succ_self->FR,lt_succ_of_lt->FS,add_assoc->FT,zero_add->OK,mul_le_mul->OL,le_add_right->OM,le_mul_of_pos_right->aAi
open PySem.Heap renaming get?_push_of_some->bC,lt_size->bN,get?_push_size->cH,SameBut->kY,size_push->mK,get?_update_self->nU,get?_update_other->oY,get?_push_ne->GA,ExtBut->PQ
open List renaming mem_cons_self->bD,mem_map->bG,mem_cons_of_mem->bI,length_map->bT,range->bZ,getElem?_eq_some_iff->cE,mem_singleton->cG,mem_cons->cI,size_toArray->dA,map_cons->dB,map_map->dF,all_eq_true->eB,getElem?_map->eD,getElem?_eq_getElem->eE,mem_range->eQ,mem_of_getElem?->eW,length_cons->eX,map_append->hG,foldl_cons->hJ,map_congr_left->iH,toArray->iV,find?_cons->iW,mem_append->jM,length_append->jN,mem_filter->kX,not_mem_nil->mF,mem_flatten->mG,length_take->mH,getD_eq_getElem?_getD->mI,nodup_cons->nA,getElem_mem->nB,getElem?_set_self->nR,append_nil->oW,take_add_one->qB,foldl_append->qC,take_length->rT,nodup_append->rV,getElem?_set_ne->rW,replicate->uB,pairwise_map->uC,mem_filterMap->uD,length_filterMap_le->uE,getElem_of_mem->uF,filter_eq_self->uG,cons_lt_cons_iff->uH,mem_append_right->wR,map_take->wU,map_drop->wV,length_set->wW,length_filter_le->wX,length_drop->wY,flatMap_cons->wZ,eraseIdx_cons_succ->xA,any_cons->xB,zipWith->AM,map_id->AN,length_range->AO,getElem?_range->AQ,flatten_cons->AR,ext_getElem->AS,cons_append->AU,mergeSort_perm->FU,lt_irrefl->FV,length_zip->FW,getElem?_append_left->FX,findSome?_cons->FY,take_append_drop->OQ,nodup_range->OR,nodup_nil->OS,mem_of_find?_eq_some->OT,mem_flatMap->OU,mem_append_left->OV,map_inj_right->OW,lookup_cons->OX,length->OY,getElem?_eq_none->OZ,getElem?_drop->PB,find?_eq_none->PC,filter_sublist->PD,exists_of_findSome?_eq_some->PF,drop_eq_getElem_cons->PH,any_eq_true->PJ,Nodup->PL,pairwise_mergeSort->Iw,pairwise_iff_getElem->Iy,of_mem_zip->Iz,mem_iff_getElem?->Ja,mem_iff_getElem->Jb,length_singleton->Jc,length_nil->Jd,length_eq_zero_iff->Je,getElem?_take_of_lt->Jf,getElem?_append_right->Jg,findIdx?_eq_none_iff->Jh,find?_some->Ji,find?_append->Jj,filter_cons->Jk,filterMap_cons->Jl,ext_getElem?->Jm,append_assoc->Jn,perm_ext_iff_of_nodup->aAj,length_erase_of_mem->aAk,length_eraseIdx_of_lt->aAl,findIdx?_eq_some_iff_getElem->aAm
open Option renaming bind_some->bQ,map_eq_some_iff->fG,isSome_iff_exists->FN,getD->FO,map_some->OG,map_eq_none_iff->OH,isSome_map->OI
open PySem.Obj renaming mapSeq->eK,putSet->AH,data_mapFields->OJ
open PySem.Value renaming none->eP,ref->eU,type->iG,int->pZ,str->tZ,isStrOf->OA
open Option.some renaming inj->fF
open Sum renaming inr->fR,inl->wK
open Ne renaming symm->fZ
open Array renaming length_toList->gA,getElem?_eq_getElem->jP,getElem?_toList->nW,getElem?_eq_some_iff->rZ,toList_inj->GG,toList_filterMap->QI,getElem?_eq_none->QJ,getD_eq_getD_getElem?->QK,forIn_toList->QL,toList_push->Ke
open PyProof.Rows renaming seqObj->gK,callWith_type1->oV,IntsAre->oX,sortedHeap->AA,envOfC->AG,listUpdate_at->FE,slot_tuple_getitem->NS,boot_list->OD,slot_tuple_getitem->Ip,boot_tuple->Iq,boot_sorted->Ir,boot_dict->Iu,mulOk_of_bits->aAh
open PySem.Paired renaming length->iU
open PySem.Expr renaming Call->jF
open Bool renaming and_eq_true_iff->jO,eq_iff_iff->nV,false_eq_true->rY,true_and->uK,and_self->AY,and_eq_true->AZ,false_ne_true->QH,or_false->Kc,false_or->Kd
open Int renaming ofNat->kA,toNat_natCast->mJ,natCast_mul->PN,eq_ofNat_of_zero_le->PP,lt_irrefl->Jr
open PySem.Str renaming join->mC
open PySem.NameKind renaming free->mZ,cell->ON
open True renaming intro->oR
open PySem.Builtin.Int renaming intBits->rX
open PySem.F renaming slot_zip_next->uJ,called_set->xD,plainAttrs_list->AE,slot_tuple_hash->GB,slot_dict_keyiterator_next->GC,plainAttrs_dict->OC,slot_tuple_iterator_next->PU,slot_set_iter->PV,plain_extend_loop->PX,entry_zip_next->PY,args_zip_next_1->QA,slot_tuple_add->Ij,slot_dict_setdefault->Ik,slot_dict_get->Il,entry_tuple_add->Im,args_tuple_add_2->Io,slot_zip_getattribute->Jt,slot_list_getattribute->Ju,type_list_append->aAa,type_dict_setdefault->aAb,slot_list_index->aAc,slot_list_append->aAd,slot_dict_update->aAe,slot_dict_getitem->aAf,args_dict_get_3->aAg,entry_dict_keyiterator_next->aAn,args_dict_keyiterator_next_1->aAo
open PySem.SetTable renaming fill->wL,grown->FJ,fresh->FK,tooFull->OB
open PySem.Heap.SameBut renaming update->xC,refl->Js
open PySem.Builtin.List renaming listSameRef->xE,listExtendWith->QG,listTooLong->Jz,listLengthHint->Ka
open ForInStep renaming yield->AV
open PySem.Builtin.Tuple renaming tupleHashOf->AW,tupleExact->AX,tupleItemsOf->Jx
open List.Pairwise renaming imp_of_mem->FZ,nil->Jp
open PySem.Calls renaming spliced_cons->GE,spliced_nil->QC,call_function_entry->Jv,callWith_builtin->Jw
open PySem.Builtin.Range renaming rangeSize->GF
open Array.Perm renaming refl->GH
open PySem.Moved renaming trans->OO
open PySem.MeetsSeq renaming EqGives->OP
open List.Sublist renaming refl->PK
open Int.ofNat renaming inj->PM
open PyProof.Rows.F renaming entry_set_update_loop->PZ
open Classical renaming byContradiction->QB
open PySem.Builtin.Str renaming occurrences->QD
open PySem.Builtin.SmallTypes renaming nextOf->QE
open PySem.Builtin.Slice renaming slicePlaces->QF,sliceAdjust->Jy
open PySem.PyData.tuple renaming inj->Iv
open List.Perm renaming eq_of_pairwise->Jo
open List.Nodup renaming length_le_of_subset->Jq
open PySem.Builtin.Dict renaming updateFrom->Kb
open PySem.Around renaming under_plainId->Kf
abbrev aar:=Option Int
abbrev aaq:=List Nat
abbrev aap:=Option aB
abbrev aan:=List aC
abbrev aal:=List aD
abbrev aak:=List aB
abbrev aaj:=List Int
abbrev aah:=Option aA
abbrev aag:=List aA
abbrev aae:=List aan
abbrev aad:=Option aag
abbrev aab:=Array aap
abbrev aaa:=List (aD×jD)
abbrev tt:=Array (Int×aB)
abbrev sn:=List (aD×aC)
abbrev po:=List (Option Nat)
abbrev pi:=List (Nat×Nat)
abbrev on:=List (aD×Int)
abbrev lm:=List (aC×aZ)
abbrev ii:=List aaj
abbrev dL:=List (aA×aA)
abbrev bv:=List aag
abbrev be:=List aah
theorem ar {α β:Type}{x:Option α}{f:α->Option β}{b:β}(h:x.bind f=some b) : ∃ a,x=some a/\f a=some b:=Option.bind_eq_some_iff.1 h
set_option Elab.async false
set_option maxHeartbeats 4000000
set_option compiler.extract_closed false
set_option bootstrap.genMatcherCode false
set_option genSizeOfSpec false
set_option linter.all false
set_option maxRecDepth 100000
set_option exponentiation.threshold 2000
noncomputable section
local macro_rules|`(())=>`(by lia)
local macro_rules|`(nofun)=>`(by decide)
set_option hygiene false in
local macro_rules|`(tactic|rw[0])=>`(tactic|decide +kernel)
set_option hygiene false in
local macro_rules
|`(tactic|rw[1])=>`(tactic|obtain⟨P,Y,d,hP,rs,ef,k⟩:=gh)
|`(tactic|rw[2])=>`(tactic|intro ad s Z H x y v u Q I rx ry h)
|`(tactic|rw[3])=>`(tactic|intro ad s Z H xs us Q I r h)
|`(tactic|rw[4])=>`(tactic|(
 obtain⟨u,rfl,ru⟩:=vals1 r;cases ru))
|`(tactic|rw[5])=>`(tactic|obtain⟨B0,Y,fp,o,S,ef,k⟩:=gh)
|`(tactic|rw[6])=>`(tactic|intro ad s Z H Q I h)
|`(tactic|rw[7])=>`(tactic|obtain⟨v,rfl,r'⟩:=fC r)
open Option renaming some->aa,none->ab
open Bool renaming true->af,false->ah
namespace L2
open PySem PySem.Spec PyProof.Rows
variable {p pos:bJ}{h h' base:aP}{ks:aag}{s:aF}{a b:aC}{xs:List (List aA×aC×aB)}{us:aak}{x:aD}{u:aB}{o:aZ}{t' j k ep:Nat}{fp:aan}{M:Model}{A:bM}{E Q:aB->aF->Prop}{e c tg:aT}{ad:lm}{K:aI}{es:List aT}{body:List eI}{op:CmpOp}{f:aB->aB->Sem aB}{fd:jE}{ps:aal}{mg:aD->aap}{prog:bE}
instance decEqData:DecidableEq aA:=λa b=>Classical.propDecidable (a=b)
mutual
def cA:aA->Bool
 |.int _=>af
 |.str x=>bX (.str x)
 |.tuple ds=>bS ds
 |_=>ah
def bS:aag->Bool
 |[]=>af
 |d::r=>cA d&&bS r
end
mutual
theorem rE {p:aA->Prop}(hi:∀ i,p (.int i))(hs:∀ x,bX (.str x)=af->p (.str x))(ht:∀ ks,bS ks=af->(∀ d∈ks,p d)->p (.tuple ks)):∀ d,cA d=af->p d
 |.int i,_=>hi i
 |.str x,h=>hs x (by simpa [cA] using h)
 |.tuple ks,h=>ht ks (by simpa [cA] using h) (WV hi hs ht ks (by simpa [cA] using h))
 |.none,h|.bool _,h|.list _,h|.dict _,h=>by simp[cA] at h
theorem WV {p:aA->Prop}(hi:∀ i,p (.int i))(hs:∀ x,bX (.str x)=af->p (.str x))(ht:∀ ks,bS ks=af->(∀ d∈ks,p d)->p (.tuple ks)):∀ ds,bS ds=af->∀ d∈ds,p d
 |[],_,_,m=>by simp at m
 |d::r,h,x,m=>by
  have h':cA d=af/\bS r=af:=by simpa [bS] using h
  rcases cI.1 m with e|m
  .rw[e];exact rE hi hs ht d h'.1
  .exact WV hi hs ht r h'.2 x m
end
theorem Aq3:∀ {ds:aag},bS ds=af ↔ ∀ d∈ds,cA d=af
 |[]=>by simp[bS]
 |d::r=>by simp[bS,Aq3 (ds:=r)]
theorem yW:∀ {ks:aag} {d:aA},d∈ks->d.depth<=cU ks
 |k::ks,d,m=>by
  rcases cI.1 m with rfl|m
  .exact Nat.le_max_left _ _
  .exact cQ (yW m) (Nat.le_max_right _ _)
theorem VZ:∀ d:aA,cA d=af->d.canLay0=af:=rE (λ_=>by simp[bX]) (λ_ h=>h) λks hk ih=>by
 simp only[bX];clear hk;induction ks with
 |nil=>simp[FM]
 |cons d r iq=>simp only[FM,ih d bD,iq (λx m=>ih x (bI _ m)),AY]
theorem KN:∀ {xs ys:aag},(∀ x∈xs,∀ y,cA y=af->bW x y=decide (x=y))->bS ys=af->iT xs ys=decide (xs=ys)
 |[],[],_,_=>by simp[iT]
 |[],_::_,_,_=>by simp[iT]
 |_::_,[],_,_=>by simp[iT]
 |x::xs,y::ys,h1,h2=>by
  have h2':cA y=af/\bS ys=af:=by simpa [bS] using h2
  simp only[iT,h1 x bD y h2'.1,KN (λz m=>h1 z (bI _ m)) h2'.2]
  grind
theorem WX (x y:aA)(hx:cA x=af):cA y=af->bW x y=decide (x=y):=by
 revert y
 refine rE (p:=λx=>∀ y,cA y=af->bW x y=decide (x=y)) (λi y h=>?_) (λi _ y h=>?_) (λks _ ih y h=>?_) x hx
 .cases y with
  |int j=>by_cases e:i=j<;>simp[bW,e]
  |_=>first|simp[cA] at h;done|simp[bW]
 .cases y with
  |str j=>by_cases e:i=j<;>simp[bW,e]
  |_=>first|simp[cA] at h;done|simp[bW]
 .cases y with
  |tuple ys=>
   simp only[bW,KN ih (by simpa [cA] using h)]
   grind
  |_=>first|simp[cA] at h;done|simp[bW]
theorem T9 (xs ys:aag)(h1:bS xs=af)(h2:bS ys=af):iT xs ys=decide (xs=ys):=KN (λx m y=>WX x y (Aq3.1 h1 x m)) h2
mutual
def dU (w:aX):aA->Int
 |.int i=>hashInt i
 |.str x=>hashStr w x
 |.tuple ds=>reduceHash (AW (lO w ds))
 |_=>0
def lO (w:aX):aag->aaj
 |[]=>[]
 |d::r=>dU w d::lO w r
end
mutual
def sP:aA->Nat
 |.tuple ds=>oB ds+1
 |_=>1
def oB:aag->Nat
 |[]=>0
 |d::r=>sP d+oB r
end
theorem Dt (a b:aag):oB (a++b)=oB a+oB b:=by
 induction a with
 |nil=>simp[oB]
 |cons x r ih=>simp only[AU,oB,ih];lia
theorem Dq (w:aX)(a b:aag):lO w (a++b)=lO w a++lO w b:=by
 induction a with
 |nil=>rfl
 |cons x r ih=>simp only[AU,lO,ih]
section
variable {w:aX}
theorem lW{v:aB}{as:aan}(r:kW h v (.tuple ks) as):∃ a o vs n,v=.ref a/\h.get? a=aa o/\o.cls=.type "tuple" /\ o.data=.seq vs n/\jB h vs.toList ks as:=by
 cases r with
 |tuple h1 h2 h3 h4=>exact⟨_,_,_,_,rfl,h1,h2,h3,h4⟩
theorem LZ{as:aan}(r:kW s.heap (.ref a) (.tuple ks) as):s.TypeIs (.ref a) "tuple":=by
 obtain⟨a',o,vs,n,e,h1,h2,_⟩:=lW r;cases e;exact⟨o,h1,h2⟩
theorem l8:∀ (d:aA),cA d=af->∀ {A:bM} {E:aB->aF->Prop} {s:aF} {v:aB} {as:aan} {Q:Int->aF->Prop},A.units+d.depth<cLine->kW s.heap v d as ->
  Q (dU w d) { s with toks:=s.toks+sP d }->aJ (aO prog w) A (pyHash v) Q E s:=by
 refine rE (λi {A E s v as Q} hu r h=>?_) (λx _ {A E s v as Q} hu r h=>?_) λks _ ih {A E s v as Q} hu r h=>?_
 .cases r with
  |int _ t=>exact wpAny_pyHash_int (by simpa [dU,sP] using h)
 .cases r with
  |str _ t=>exact wpAny_pyHash_str (by simpa [dU,sP] using h)
 .obtain⟨a,o,items,n,rfl,ho,hc,hd,hi⟩:=lW r;have hT:s.TypeIs (.ref a) "tuple":=⟨o,ho,hc⟩;have wf:A.units+(cU ks+1)<cLine:=by simpa [fE] using hu
  first|unfold pyHashByItsType|skip
  first|refine aE (wpAny_cRoomFor_or (.inr ()) ?_)|skip
  refine aE (rP hT GB.lookup (aE (rP hT GB.lookup (aE (wpAny_callSpecialIfBoundUnlessNone?_slot hT GB (fK GB hT F.entry_tuple_hash ?_ (F.args_tuple_hash_1 _)))))));show aJ _ _ (Jx (.ref a)>>=_) _ _ s;refine aE (Hy ho hd (aE ?_));rw[<-QL];refine zX _
   (λav (b:Array Int) s'=>∃ done left bs,ks=done++left/\jB s.heap av left bs/\b.toList=lO w done/\s'={ s with toks:=s.toks+oB done })
   _ ?_ ?_ _ _ ⟨[],ks,as,rfl,hi,rfl,rfl⟩
  .rintro x av b s' ⟨done,left,bs,e,hl,hb,rfl⟩;cases hl with
   |@cons _ _ d ds as1 vb h1 lu=>
    have hm:d∈ks:=by rw[e];exact wR _ bD
    refine aE (ih d hm (by
     have:=yW hm
     lia) h1 ?_)
    first
     |exact aH ⟨done++[d],ds,vb,by simp[e],lu,by simp[hb,Dq,lO],by simp[Dt,oB,FT]⟩
     |exact aE (aH (aH ⟨done++[d],ds,vb,by simp[e],lu,by simp[hb,Dq,lO],by simp[Dt,oB,FT]⟩))
  .rintro b s' ⟨done,left,bs,e,hl,hb,rfl⟩;cases hl;rw[oW] at e;subst e;show aJ _ _ (retInt (AW b.toList)) _ _ _;rw[hb];refine wpAny_ret_mkInt ?_;show aJ _ _ (if (decide (-(2:Int)^63<=AW (lO w ks))&&decide (AW (lO w ks)<2^63))=af then _ else _) Q E _
   simp only[dU,sP] at h;unfold reduceHash at h;by_cases hr:(decide (-(2:Int)^63<=AW (lO w ks))&&decide (AW (lO w ks)<2^63))=af
   .rw[if_pos hr];rw[if_pos hr] at h;exact aH (by simpa [FT] using h)
   .rw[if_neg hr];rw[if_neg hr] at h;exact aE (mW (aH (by simpa [FT] using h)))
end
section
variable {w:aX}
theorem KB:∀ (d:aA),cA d=af->∀ (n:Nat) {A:bM} {E:aB->aF->Prop} {s:aF} {v:aB} {as:aan} {Q:Bool->aF->Prop},d.depth<=n->kW s.heap v d as ->
  Q af s->aJ (aO prog w) A (eqIsQuiet n v) Q E s:=by
 refine rE (λi n {A E s v as Q} hu r h=>?_) (λx _ n {A E s v as Q} hu r h=>?_) λks _ ih n {A E s v as Q} hu r h=>?_
 .cases r with
  |int _ t=>
   rw[eqIsQuiet_byValue n (by rfl)]
   exact aH h
 .cases r with
  |str _ t=>
   rw[eqIsQuiet_byValue n (by rfl)]
   exact aH h
 .obtain⟨a,o,items,m,rfl,ho,hc,hd,hi⟩:=lW r;have hT:s.TypeIs (.ref a) "tuple":=⟨o,ho,hc⟩;have wf:cU ks+1<=n:=by simpa [fE] using hu
  obtain⟨n,rfl⟩:∃ m,n=m+1:=⟨n-1,by omega⟩
  unfold eqIsQuiet;refine aE (rP hT F.slot_tuple_eq.lookup (aE (rQ hT isSubtype_tuple_tuple (aE (iC ho hd (aE ?_))))));rw[<-QL];refine zX _ (λav r s'=>r.1=ab/\s'=s/\∃ ds bs,jB s.heap av ds bs/\∀ d∈ds,d∈ks) _ ?_ ?_ _ _ ⟨rfl,rfl,ks,as,hi,λ_ h=>h⟩
  .rintro v av r s' ⟨hr,rfl,ds,bs,hl,cv⟩;cases hl with
   |@cons _ _ d ds as1 vb h1 lu=>
    exact aE (ih d (cv d bD) n (cQ (yW (cv d bD)) ()) h1 (aH ⟨rfl,rfl,ds,vb,lu,λu xw=>cv u (bI _ xw)⟩))
  .rintro⟨r1,r2⟩ s' ⟨hr,rfl,_⟩;subst hr;exact aH h
theorem z5(kp:∀ b o vs n,h.get? b=aa o->o.cls=.type "tuple" -> o.data=.seq vs n->h'.get? b=aa o):∀ (d:aA),cA d=af->∀ {v:aB} {as:aan},kW h v d as->kW h' v d as:=by
 refine rE (λi {v as} r=>?_) (λx _ {v as} r=>?_) λks _ ih {v as} r=>?_
 .cases r with
  |int _ t=>exact .int i t
 .cases r with
  |str _ t=>exact .str x t
 .obtain⟨a,o,items,m,rfl,ho,hc,hd,hi⟩:=lW r;refine .tuple (kp _ _ _ _ ho hc hd) hc hd ?_;have go:∀ {ds:aag} {vs:aak} {as:aan},(∀ d∈ds,∀ {v as},kW h v d as->kW h' v d as)->jB h vs ds as->jB h' vs ds as:=by
   intro ds;induction ds with
   |nil=>intro vs as _ r;cases r;exact .nil
   |cons d ds iq=>intro vs as f r;cases r with|cons r1 r2=>exact .cons (f d bD r1) (iq (λx m=>f x (bI _ m)) r2)
  exact go ih hi
def Abf (h:aP)(ks:aag)(a:aC):Prop:=bS ks=af/\cU ks<=6/\∃ as,kW h (.ref a) (.tuple ks) as
theorem Abf.keep(kp:∀ b o vs n,h.get? b=aa o->o.cls=.type "tuple" -> o.data=.seq vs n->h'.get? b=aa o)(k:Abf h ks a):Abf h' ks a:=
 ⟨k.1,k.2.1,k.2.2.choose,z5 kp (.tuple ks) (by simpa [cA] using k.1) k.2.2.choose_spec⟩
def jA (prog:bE)(w:aX):HeapKind prog w aag where
 is:=Abf
 hash:=λks=>dU w (.tuple ks)
 draws:=λks=>sP (.tuple ks)
 room:=λA=>A.units+20<cLine
 inj:=λ{h a x y} hx hy=>by
  obtain⟨k1,_,as,r1⟩:=hx;obtain⟨k2,_,bs,r2⟩:=hy;exact Iv (reads_det (λ_ _ e _=>e) r2 r1).1
 keeps:=λ{h h' k a d o es ep} x ho hd hs=>x.keep λb ob vs n hb _ lx=>by
  have dw:b≠d:=by
   rintro rfl;rw[ho] at hb;cases hb;rw[hd] at lx;cases lx
  exact(hs.2 b dw).trans hb
 pyHash:=λ{A E s k a Q} hu hk h=>by
  obtain⟨k1,k2,as,r⟩:=hk;exact l8 (.tuple k) (by simpa [cA] using k1) (by simp only[fE];lia) r h
 eqBool:=λ{A E s x y a b Q} hu hx hy h=>by
  obtain⟨k1,d1,as,r1⟩:=hx;obtain⟨k2,d2,bs,r2⟩:=hy;have e:=WX (.tuple x) (.tuple y) (by simpa [cA] using k1) (by simpa [cA] using k2)
  have e2:decide ((cD x)=.tuple y)=decide (x=y):=by
   by_cases q:x=y
   .subst q;simp
   .rw[decide_eq_false q,decide_eq_false (λz=>q (Iv z))]
  have:=SeqAt.eqAt_reads (.tuple x) (.tuple y) A s (.ref a) (.ref b) as bs r1 r2 (VZ _ (by simpa [cA] using k1)) (VZ _ (by simpa [cA] using k2)) (by simp only[fE];omega)
  rw[e,e2] at this;exact this prog w E Q h
 quiet:=λ{A E s k a Q} hk h=>by
  obtain⟨k1,k2,as,r⟩:=hk;exact KB (.tuple k) (by simpa [cA] using k1) 8 (by simp only[fE];lia) r h
end
abbrev aG:=Sum Int aD
abbrev aam:=List aG
abbrev aaf:=List (aG×Int)
abbrev aac:=List (aD×aam)
abbrev tz:=List (aG×aB)
def uR:aG->aB->Bool
 |.inl k,v=>Value.isInt k v
 |.inr x,v=>OA x v
def Lx (w:aX):aG->Int
 |.inl k=>hashInt k
 |.inr x=>hashStr w x
theorem oH:∀ {k:aG} {v:aB},uR k v=af->(∃ i t,k=wK i/\v=pZ i t)\/(∃ x t,k=fR x/\v=tZ x t)
 |.inl i,v,h=>by
  obtain⟨t,e⟩:=Value.isInt_shape (k:=i) (v:=v) h
  grind
 |.inr x,v,h=>by
  obtain⟨t,e⟩:=Value.isStrOf_shape (x:=x) (v:=v) h
  grind
theorem X2 (i:Int)(t:Tok):uR (.inl i) (.int i t)=af:=by simp[uR,Value.isInt]
theorem V7 (x:aD)(t:Tok):uR (.inr x) (.str x t)=af:=by simp[uR,OA]
theorem Tx (a b:Int):decide ((wK a:aG)=wK b)=(a==b):=by
 grind
theorem Qs (a b:aD):decide ((fR a:aG)=fR b)=decide (a=b):=by
 grind
theorem Pp (a:Int)(b:aD):decide ((wK a:aG)=fR b)=ah:=decide_eq_false (λq=>nomatch q)
theorem Pb (a:aD)(b:Int):decide ((fR a:aG)=wK b)=ah:=decide_eq_false (λq=>nomatch q)
def dP (prog:bE)(w:aX):PySem.KeyKind prog w aG where
 is:=uR
 hash:=Lx w
 inj:=λv a b ha hb=>by
  rcases oH ha with⟨i,t,rfl,rfl⟩|⟨x,t,rfl,rfl⟩
  .rcases oH hb with⟨j,u,rfl,e⟩|⟨y,u,rfl,e⟩
   .injection e with e1 _;rw[e1]
   .exact nomatch e
  .rcases oH hb with⟨j,u,rfl,e⟩|⟨y,u,rfl,e⟩
   .exact nomatch e
   .injection e with e1 _;rw[e1]
 byValue:=λk v h=>by
  rcases oH h with⟨i,t,rfl,rfl⟩|⟨x,t,rfl,rfl⟩<;>rfl
 pyHash:=λhv h=>by
  rcases oH hv with⟨i,t,rfl,rfl⟩|⟨x,t,rfl,rfl⟩
  .exact wpAny_pyHash_int h
  .exact wpAny_pyHash_str h
 eqBool:=λhu hv h=>by
  rcases oH hu with⟨i,t,rfl,rfl⟩|⟨x,t,rfl,rfl⟩
  .rcases oH hv with⟨j,u,rfl,rfl⟩|⟨y,u,rfl,rfl⟩
   .rw[Tx] at h;exact wpAny_eqBool_int h
   .rw[Pp] at h;exact SeqAt.EqAt.int_str i t y u _ _ _ _ h
  .rcases oH hv with⟨j,u,rfl,rfl⟩|⟨y,u,rfl,rfl⟩
   .rw[Pb] at h;exact SeqAt.EqAt.str_int x t j u _ _ _ _ h
   .rw[Qs] at h;exact wpAny_eqBool_str h
 «strs»:=λk x t v h=>by
  rcases oH h with⟨i,u,rfl,e⟩|⟨y,u,rfl,e⟩
  .exact nomatch e
  .injection e with e1 _;subst e1;cases v<;>rfl
theorem zF (prog:bE)(w:aX)(i:Int)(t:Tok):(dP prog w).is (.inl i) (.int i t)=af:=X2 i t
theorem tT (prog:bE)(w:aX)(x:aD)(t:Tok):(dP prog w).is (.inr x) (.str x t)=af:=V7 x t
inductive V where
 |non|bl (b:Bool)|int (i:Int)|str (x:aD)|byt (b:Array UInt8)|flt (b:UInt64)|ref (a:aC)|ty (n:String)
 deriving DecidableEq
abbrev aai:=List V
abbrev li:=List (aG×V)
abbrev jp:=List (List aA×V)
def RelV:V->aB->Prop
 |.non,u=>u=eP
 |.bl b,u=>u=Value.bool b
 |.int i,u=>∃ t,u=pZ i t
 |.str x,u=>∃ t,u=tZ x t
 |.byt b,u=>∃ t,u=Value.bytes b t
 |.flt b,u=>∃ t,u=Value.float b t
 |.ref a,u=>u=eU a
 |.ty n,u=>u=iG n
abbrev Vals:aai->aak->Prop:=bY RelV
theorem Vals.length {xs:aai}(r:Vals xs us):xs.length=us.length:=iU r
theorem Vals.get:∀ {xs:aai} {us:aak} {i:Nat} {x:V},Vals xs us->xs[i]?=aa x->∃ u,us[i]?=aa u/\RelV x u
 |_,_,_,_,.nil,e=>by simp at e
 |_,_,0,_,.cons r _,e=>by simp at e;subst e;exact⟨_,rfl,r⟩
 |_,_,i+1,x,.cons _ t,e=>by
  obtain⟨u,h1,h2⟩:=Vals.get (i:=i) (x:=x) t (by simpa using e)
  grind
theorem Vals.set {x:V}(r:RelV x u):∀ {xs:aai} {us:aak} (i:Nat),Vals xs us->Vals (xs.set i x) (us.set i u)
 |_,_,_,.nil=>.nil
 |_,_,0,.cons _ t=>.cons r t
 |_,_,i+1,.cons q t=>.cons q (Vals.set r i t)
theorem Vals.append:∀ {xs ys:aai} {us ws:aak},Vals xs us->Vals ys ws->Vals (xs++ys) (us++ws)
 |_,_,_,_,.nil,s=>s
 |_,_,_,_,.cons r t,s=>.cons r (Vals.append t s)
theorem Vals.take:∀ {xs:aai} {us:aak} (n:Nat),Vals xs us->Vals (xs.take n) (us.take n)
 |_,_,0,_=>.nil
 |_,_,_+1,.nil=>.nil
 |_,_,n+1,.cons r t=>.cons r (Vals.take n t)
theorem Vals.drop:∀ {xs:aai} {us:aak} (n:Nat),Vals xs us->Vals (xs.drop n) (us.drop n)
 |_,_,0,r=>r
 |_,_,_+1,.nil=>.nil
 |_,_,n+1,.cons _ t=>Vals.drop n t
def Ayn:Option V->aap->Prop
 |some v,aa u=>RelV v u
 |none,ab=>True
 |_,_=>False
def KV {κ:Type}:List (κ×V)->List (κ×aB)->Prop:=bY λ(p:κ×V) (q:κ×aB)=>p.1=q.1/\RelV p.2 q.2
def kV:aG->V
 |.inl i=>.int i
 |.inr x=>.str x
inductive HO where
 |lst (xs:List V)|tup (xs:List V)
 |dK (ep:Nat) (kvs:List (aG×V))|dT (ep:Nat) (kvs:List (List aA×V))
 |rng (lo hi:Int)
 |frz (o:aZ) (u:HO)
 |ext (φ:aP->Prop)
abbrev Hp:=aC->Option HO
def ax (H:Hp)(a:aC)(o:HO):Hp:=λb=>if b=a then aa o else H b
theorem eF {H:Hp}{o:HO}:ax H a o a=aa o:=by unfold ax;rw[if_pos rfl]
theorem cN {H:Hp}{o:HO}(h:b≠a):ax H a o b=H b:=by unfold ax;rw[if_neg h]
theorem Yr {H:Hp}{o u:HO}:ax (ax H a o) a u=ax H a u:=by
 funext b;unfold ax;split<;>rfl
theorem Mg {H:Hp}{o u:HO}(h:H a=aa o)(h':H b=aa u)(d:o≠u):a≠b:=by
 grind
theorem lY {H:Hp}{o:HO}(h:H a=aa o)(h':H b=ab):a≠b:=by
 intro e;subst e;rw[h] at h';cases h'
mutual
def Ahe (H:Hp):aA->V->Prop
 |.int i,v=>v=.int i
 |.str x,v=>v=.str x
 |.tuple ds,v=>∃ a xs,v=.ref a/\H a=aa (.tup xs)/\Ad8 H ds xs
 |_,_=>False
def Ad8 (H:Hp):aag->aai->Prop
 |[],vs=>vs=[]
 |d::r,vs=>∃ x rr,vs=x::rr/\Ahe H d x/\Ad8 H r rr
end
mutual
theorem Ahe.keep {H H':Hp}(ht:∀ b xs,H b=aa (.tup xs)->H' b=aa (.tup xs)):∀ {d:aA} {v:V},Ahe H d v->Ahe H' d v
 |.int _,_,k=>by simpa [Ahe] using k
 |.str _,_,k=>by simpa [Ahe] using k
 |.tuple ds,_,k=>by
  simp only[Ahe] at k ⊢;obtain⟨a,xs,e,h,ks⟩:=k;exact⟨a,xs,e,ht _ _ h,Ad8.keep ht ks⟩
 |.none,_,k=>by simp[Ahe] at k
 |.bool _,_,k=>by simp[Ahe] at k
 |.list _,_,k=>by simp[Ahe] at k
 |.dict _,_,k=>by simp[Ahe] at k
theorem Ad8.keep {H H':Hp}(ht:∀ b xs,H b=aa (.tup xs)->H' b=aa (.tup xs)):∀ {ds:aag} {vs:aai},Ad8 H ds vs->Ad8 H' ds vs
 |[],_,k=>by simpa [Ad8] using k
 |d::ds,_,k=>by
  simp only[Ad8] at k ⊢;obtain⟨x,r,e,k1,k2⟩:=k;exact⟨x,r,e,Ahe.keep ht k1,Ad8.keep ht k2⟩
end
def Ajz (H:Hp)(ks:aag)(a:aC):Prop:=bS ks=af/\cU ks<=6/\∃ xs,H a=aa (.tup xs)/\Ad8 H ks xs
theorem Ajz.keep {H H':Hp}(k:Ajz H ks a)(ht:∀ b xs,H b=aa (.tup xs)->H' b=aa (.tup xs)):Ajz H' ks a:=
 ⟨k.1,k.2.1,k.2.2.choose,ht _ _ k.2.2.choose_spec.1,k.2.2.choose_spec.2.keep ht⟩
def A8a (h:aP)(a:aC)(its:Array aB):Prop:=IsTup h a its/\∃ o,h.get? a=aa o/\o.dict=ab
theorem A8a.new (h:aP)(its:Array aB):A8a (h.push { cls:=.type "tuple",data:=.seq its }) h.objs.size its:=⟨IsTup.new _ _,_,cH _ rfl,rfl⟩
section
variable (P:bE)(w:aX)
def Aby (H:Hp)(h:aP)(a:aC):HO->Prop
 |.lst xs=>xs.length<=sizeLine/\∃ (its:aak) (n:Nat),Vals xs its/\h.get? a=aa { cls:=.type "list",data:=.seq its.toArray n }
 |.tup xs=>xs.length<=sizeLine/\∃ its:aak,Vals xs its/\A8a h a its.toArray
 |.dK ep kvs=>kvs.length<=sizeLine/\(a==fW)=ah/\∃ vs,KV kvs vs/\h.DictAt (dP P w) a vs ep
 |.dT ep kvs=>kvs.length<=sizeLine/\(a==fW)=ah/\∃ xs:List (List aA×aC×aB),
   bY (λ(p:List aA×V) (q:List aA×aC×aB)=>p.1=q.1/\Ajz H p.1 q.2.1/\RelV p.2 q.2.2) kvs xs /\
   ∃ o es,h.get? a=aa o/\o.ExactDict/\o.data=.dict es ep/\es.toList=xs.map (entryOfKey (jA P w))/\(xs.map (·.1)).Nodup
 |.rng lo hi=>∃ t u v,h.get? a=aa { cls:=.type "range",data:=.fields #[.int lo t,.int hi u,.int 1 v] }
 |.frz o u=>h.get? a=aa o/\Aby H h a u
 |.ext φ=>φ h/\(∃ o,h.get? a=aa o)/\∀ h1 h2:aP,φ h1->(∀ o,h1.get? a=aa o->h2.get? a=aa o)->φ h2
def HOk (H:Hp)(h:aP):Prop:=∀ a o,H a=aa o->Aby P w H h a o
end
section
variable {P:bE}{w:aX}{H H':Hp}{o:HO}
theorem Aby.obj (x:Aby P w H h a o):∃ u,h.get? a=aa u:=by
 cases o with
 |lst xs=>obtain⟨_,_,_,_,e⟩:=x;exact⟨_,e⟩
 |tup xs=>obtain⟨_,_,_,_,o,e,_⟩:=x;exact⟨_,e⟩
 |dK ep kvs=>obtain⟨_,_,_,_,o,_,e,_⟩:=x;exact⟨_,e⟩
 |dT ep kvs=>obtain⟨_,_,_,_,o,_,e,_⟩:=x;exact⟨_,e⟩
 |rng lo hi=>obtain⟨_,_,_,e⟩:=x;exact⟨_,e⟩
 |frz ob u=>exact⟨_,x.1⟩
 |ext φ=>exact x.2.1
theorem Paired.mapP {α β:Type}{F G:α->β->Prop}:∀ {l₁:List α} {l₂:List β},bY F l₁ l₂->(∀ a b,F a b->G a b)->bY G l₁ l₂:=by
 intro l₁ l₂ h;induction h with
 |nil=>exact λ_=>.nil
 |cons r _ ih=>exact λf=>.cons (f _ _ r) (ih f)
theorem Aby.stay (x:Aby P w H h a o)(k:∀ u,h.get? a=aa u->h'.get? a=aa u)(ht:∀ b xs,H b=aa (.tup xs)->H' b=aa (.tup xs)):Aby P w H' h' a o:=by
 induction o with
 |lst xs=>obtain⟨z,its,n,r,e⟩:=x;exact⟨z,its,n,r,k _ e⟩
 |tup xs=>obtain⟨z,its,r,⟨ob,e,c⟩,ob2,e2,c2⟩:=x;exact⟨z,its,r,⟨ob,k _ e,c⟩,ob2,k _ e2,c2⟩
 |dK ep kvs=>obtain⟨z,y,vs,r,ob,es,e,c⟩:=x;exact⟨z,y,vs,r,ob,es,k _ e,c⟩
 |dT ep kvs=>
  obtain⟨z,y,xs,r,ob,es,e,c⟩:=x;exact⟨z,y,xs,Paired.mapP r λp q z=>⟨z.1,z.2.1.keep ht,z.2.2⟩,ob,es,k _ e,c⟩
 |rng lo hi=>obtain⟨t,u,v,e⟩:=x;exact⟨t,u,v,k _ e⟩
 |frz ob u ih=>exact⟨k _ x.1,ih x.2⟩
 |ext φ=>obtain⟨p,⟨o,e⟩,st⟩:=x;exact⟨st _ _ p λo=>k o,⟨o,k _ e⟩,st⟩
theorem HOk.lt (x:HOk P w H h)(e:H a=aa o):a<h.objs.size:=let ⟨_,q⟩:=(x a o e).obj;bN q
theorem HOk.fresh (x:HOk P w H h)(e:h.objs.size<=a):H a=ab:=by
 cases q:H a with
 |none=>rfl
 |some u=>exact absurd (jC (x.lt q) e) (nQ _)
theorem HOk.kept (x:HOk P w H h)(k:∀ b u,h.get? b=aa u->h'.get? b=aa u):HOk P w H h':=λa o e=>
 (x a o e).stay (k a) λ_ _ q=>q
theorem HOk.laid (x:HOk P w H h)(k:∀ b u,h.get? b=aa u->h'.get? b=aa u)(hp:h.objs.size<=a)(new:Aby P w (ax H a o) h' a o):HOk P w (ax H a o) h':=λb u e=>by
 have hn:=x.fresh hp;by_cases hb:b=a
 .subst hb;rw[eF] at e;cases e;exact new
 .rw[cN hb] at e;exact(x b u e).stay (k b) λc xs q=>by rw[cN (lY q hn)];exact q
end
def Rd (H:Hp)(a:aC)(u:HO):Prop:=H a=aa u\/∃ o,H a=aa (.frz o u)
theorem Rd.ok {P:bE}{w:aX}{H:Hp}{u:HO}(r:Rd H a u)(x:HOk P w H h):Aby P w H h a u:=by
 rcases r with r|⟨o,r⟩
 .exact x a u r
 .obtain⟨_,q⟩:=x a _ r;exact q
def Mut:Option HO->Prop
 |some (.lst _)=>True
 |some (.dK _ _)=>True
 |some (.dT _ _)=>True
 |some (.ext _)=>True
 |_=>False
theorem HOk.write {P:bE}{w:aX}{H:Hp}{x:aC}{o':HO}(ok:HOk P w H h)(mu:Mut (H x))(k:∀ b u,b≠x->h.get? b=aa u->h'.get? b=aa u)(new:Aby P w (ax H x o') h' x o'):HOk P w (ax H x o') h':=λb u q=>by
 by_cases hb:b=x
 .subst hb;rw[eF] at q;cases q;exact new
 .rw[cN hb] at q;refine(ok b u q).stay (λv=>k b v hb) λc xs r=>?_
  rw[cN λz=>by subst z;rw[r] at mu;exact mu]
  exact r
structure Un (ex:List aC)(H H':Hp)(h h':aP):Prop where
 keep:∀ b o,h.get? b=aa o->H b=ab->b∉ex->h'.get? b=aa o/\H' b=ab
 there:∀ b o,h.get? b=aa o->b∉ex->∃ o',h'.get? b=aa o'
 tups:∀ b xs,H b=aa (.tup xs)->H' b=aa (.tup xs)
 frzs:∀ b o u,H b=aa (.frz o u)->H' b=aa (.frz o u)
section
variable {ex:aan}{H:Hp}{x:aC}{o:HO}
theorem Un.kept (k:∀ b u,h.get? b=aa u->h'.get? b=aa u):Un ex H H h h':=⟨λb o q n _=>⟨k b o q,n⟩,λb o q _=>⟨o,k b o q⟩,λ_ _ q=>q,λ_ _ _ q=>q⟩
theorem Un.laid (k:∀ b u,h.get? b=aa u->h'.get? b=aa u)(hp:h.objs.size<=a)(hn:H a=ab):Un ex H (ax H a o) h h':=
 ⟨λb u q n _=>⟨k b u q,by rw[cN (cP (jC (bN q) hp))];exact n⟩,λb u q _=>⟨u,k b u q⟩,λb xs q=>by rw[cN (lY q hn)];exact q,λb u xs q=>by rw[cN (lY q hn)];exact q⟩
theorem Un.write (mu:Mut (H x))(k:∀ b u,b≠x->h.get? b=aa u->h'.get? b=aa u)(heo:∃ u,h'.get? x=aa u):Un ex H (ax H x o) h h':=by
 have hm:∀ {b u},H b=u->¬ Mut u->b≠x:=λq nm z=>by subst z;rw[q] at mu;exact nm mu
 refine⟨λb u q n _=>⟨k b u (hm n λz=>z) q,by rw[cN (hm n λz=>z)];exact n⟩,λb u q _=>?_,λb xs q=>by rw[cN (hm q λz=>z)];exact q,λb u xs q=>by rw[cN (hm q λz=>z)];exact q⟩
 grind
end
def trk (h:aP)(H:Hp):aan:=(bZ h.objs.size).filter λa=>(H a).isSome
def pU (h:aP)(H:Hp):aP:=PySem.W.hideAll h (trk h H)
theorem j9 (h:aP)(H:Hp):(pU h H).objs.size=h.objs.size:=PySem.W.hideAll_size _ _
theorem j5{H:Hp}(e:h.get? b=aa o)(n:H b=ab):(pU h H).get? b=aa o:=
 PySem.W.hideAll_get _ e λhm=>by
  have q:(H b).isSome=af:=(kX.1 hm).2;rw[n] at q;simp at q
theorem Uo{H:Hp}(e:(pU h H).get? b=aa o):h.get? b=aa o/\H b=ab:=by
 have e':h.get? b=aa o:=PySem.W.of_hideAll (trk h H) e;refine⟨e',?_⟩;cases q:H b with
 |none=>rfl
 |some x=>
  have hm:b∈trk h H:=kX.2 ⟨eQ.2 (bN e'),by simp[q]⟩
  have z:(pU h H).get? b=ab:=PySem.W.hideAll_none (trk h H) hm;rw[z] at e;cases e
structure Mod (K:aI)(mg:aD->Option aB)(base:aP):Prop where
 kin:K.In base
 glob:base.Ns fX mg
 blt:∃ mb,base.Ns builtinsNs mb/\∀ x:aD,x ≠ "__name__" -> mb x=mX x
 nolimit:base.NoLimit
structure Cx where
 prog:bE
 w:aX
 K:aI
 mg:aD->Option aB
 base:aP
 A:bM
 N:List aD
 s₀:aF
 H₀:Hp
 env:Env
 ex:List aC
 fn:aD->Bool
abbrev Cx.xe (_:Cx):aB->aF->Prop:=λ_ _=>False
def uL (sc:fS)(x:aD):Prop:=sc.names.lookup x=aa .local\/sc.names.lookup x=aa .cell\/sc.names.lookup x=aa .free
def kB (sc:fS)(x:aD):Prop:=sc.names.lookup x=aa .local\/sc.names.lookup x=aa .cell
def Look (env:Env)(h:aP)(m:aD->aap)(x:aD)(u:aB):Prop:=
 (env.kindOf x=aa .local/\m x=aa u)\/((env.kindOf x=aa .cell\/env.kindOf x=aa .free)/\∃ c,env.cells.lookup x=aa c/\h.IsCell c (aa u))
abbrev Fn (X:Cx)(x:aD):Prop:=X.fn x=af\/X.env.scope.names.lookup x=aa .local
theorem qU {X:Cx}(h:X.fn x=af\/X.env.scope.names.lookup x=aa .local:=by first|exact .inl rfl|exact .inr rfl|assumption):Fn X x:=h
structure Cx.Ok (X:Cx):Prop where
 mod:Mod X.K X.mg X.base
 kind:X.env.scope.kind=.function
 glob:X.env.globals=fX
 blt:X.env.builtins=builtinsNs
 above:X.s₀.heap.objs.size<=X.env.locals
 inj:∀ x y c,X.env.cells.lookup x=aa c->X.env.cells.lookup y=aa c->x=y
 has:∀ x,(X.env.kindOf x=aa .cell\/X.env.kindOf x=aa .free)->∃ c,X.env.cells.lookup x=aa c
 cab:∀ x c,X.fn x=af->X.env.cells.lookup x=aa c->X.s₀.heap.objs.size<=c
 hd:X.A.handled=ab
 exf:∀ b∈X.ex,b≠X.env.locals/\∀ x c,X.env.cells.lookup x=aa c->c≠b
 bs:∀ b o,X.base.get? b=aa o->X.s₀.heap.get? b=aa o/\X.H₀ b=ab
 bsz:X.base.objs.size<=X.s₀.heap.objs.size
 noex:∀ b o,X.base.get? b=aa o->b∉X.ex
structure Inv (X:Cx)(ad:List (aC×aZ))(Z:List (Option V))(H:Hp)(s:aF):Prop where
 ok:X.Ok
 os:s.os=X.s₀.os
 bare:AllBare s.gens
 base:Un X.ex X.H₀ H X.s₀.heap s.heap
 loc:∃ m,s.heap.Ns X.env.locals m/\∀ (i:Nat) (x:aD) (v:V),X.N[i]?=aa x->Z[i]?=aa (aa v)->uL X.env.scope x->∃ u,RelV v u/\Look X.env s.heap m x u
 cell:∀ x c,X.env.cells.lookup x=aa c->∃ v,s.heap.IsCell c v
 free:H X.env.locals=ab
 freeC:∀ x c,X.env.cells.lookup x=aa c->H c=ab
 pin:∀ p∈ad,s.heap.get? p.1=aa p.2/\H p.1=ab/\p.1≠X.env.locals/\∀ v,p.2.data ≠ .cell v
 hok:HOk X.prog X.w H s.heap
 len:Z.length=X.N.length
section
variable {X:Cx}{Z:List (Option V)}{H H':Hp}
theorem Inv.bs (I:Inv X ad Z H s):∀ b o,X.base.get? b=aa o->s.heap.get? b=aa o/\H b=ab:=λb o e=>I.base.keep b o (I.ok.bs b o e).1 (I.ok.bs b o e).2 (I.ok.noex b o e)
theorem Inv.bk (I:Inv X ad Z H s):∀ b o,X.base.get? b=aa o->s.heap.get? b=aa o:=λb o e=>(I.bs b o e).1
theorem Inv.mod (I:Inv X ad Z H s):Mod X.K X.mg X.base:=I.ok.mod
theorem Inv.kIn (I:Inv X ad Z H s):X.K.In s.heap:=I.ok.mod.kin.keeps I.bk
theorem Inv.lt (I:Inv X ad Z H s):X.env.locals<s.heap.objs.size:=let ⟨_,hn,_⟩:=I.loc;hn.lt
theorem Inv.sz (I:Inv X ad Z H s):X.s₀.heap.objs.size<=s.heap.objs.size:=cQ I.ok.above (mE I.lt)
theorem Inv.cne (I:Inv X ad Z H s):∀ x c,X.env.cells.lookup x=aa c->c≠X.env.locals:=λx c e z=>by
 obtain⟨v,o,ho,hd⟩:=I.cell x c e;obtain⟨m,⟨o',es,ep,wg,lx,_⟩,_⟩:=I.loc
 grind
def iI (X:Cx)(ad:lm)(H:Hp)(b:aC):Prop:=
 H b=ab/\b≠X.env.locals/\(b∈X.ex\/X.s₀.heap.objs.size<=b)/\(∀ x c,X.env.cells.lookup x=aa c->c≠b)/\∀ p∈ad,p.1≠b
theorem Inv.step {s':aF}{ch:aan}(I:Inv X ad Z H s)(ho:s'.os=s.os)(u:Un ch H H' s.heap s'.heap)(hok:HOk X.prog X.w H' s'.heap)(hg:AllBare s'.gens)
  (hch:∀ b∈ch,b≠X.env.locals/\(b∈X.ex\/X.s₀.heap.objs.size<=b)/\(∀ x c,X.env.cells.lookup x=aa c->c≠b)/\∀ p∈ad,p.1≠b):Inv X ad Z H' s':=by
 have neC:∀ b o,X.s₀.heap.get? b=aa o->b∉X.ex->b∉ch:=λb o e hx hb=>(hch b hb).2.1.elim hx λz=>nQ _ (jC (bN e) z)
 have qi:∀ x c,X.env.cells.lookup x=aa c->∀ o,s.heap.get? c=aa o->s'.heap.get? c=aa o/\H' c=ab:=λx c e o q=>u.keep c o q (I.freeC x c e) λz=>(hch c z).2.2.1 x c e rfl
 obtain⟨m,⟨oL,es,ep,hL,r⟩,hl⟩:=I.loc;have kL:=u.keep _ oL hL I.free λz=>(hch _ z).1 rfl
 refine⟨I.ok,ho.trans I.os,hg,⟨λb o e n hx=>?_,λb o e hx=>?_,λb xs e=>u.tups b xs (I.base.tups b xs e),λb o xs e=>u.frzs b o xs (I.base.frzs b o xs e)⟩,⟨m,⟨oL,es,ep,kL.1,r⟩,λi x v e1 e2 e3=>?_⟩,λx c e=>?_,kL.2,λx c e=>?_,λp hp=>?_,hok,I.len⟩
 .obtain⟨k1,k2⟩:=I.base.keep b o e n hx;exact u.keep b o k1 k2 (neC b o e hx)
 .obtain⟨o',e1⟩:=I.base.there b o e hx;exact u.there b o' e1 (neC b o e hx)
 .obtain⟨w',r',l⟩:=hl i x v e1 e2 e3;exact⟨w',r',l.imp id λ⟨k,c,e,o,q,d⟩=>⟨k,c,e,o,(qi x c e o q).1,d⟩⟩
 .obtain⟨v,o,q,d⟩:=I.cell x c e;exact⟨v,o,(qi x c e o q).1,d⟩
 .obtain⟨v,o,q,d⟩:=I.cell x c e;exact(qi x c e o q).2
 .obtain⟨e,n,ne,d⟩:=I.pin p hp;obtain⟨k1,k2⟩:=u.keep p.1 p.2 e n λz=>(hch _ z).2.2.2 p hp rfl
  exact⟨k1,k2,ne,d⟩
theorem Inv.un(I:Inv X ad Z H s)(u:Un [] H H' s.heap h')(hok:HOk X.prog X.w H' h'):Inv X ad Z H' { s with heap:=h',toks:=t' }:=I.step rfl u hok I.bare λ_ z=>nomatch z
theorem Inv.turnM(I:Inv X ad Z H s)(hf:∀ b∈fp,iI X ad H b)(k:∀ b o,b∉fp->s.heap.get? b=aa o->h'.get? b=aa o):Inv X ad Z H { s with heap:=h',toks:=t' }:=
 I.step rfl ⟨λb o e n hb=>⟨k b o hb e,n⟩,λb o e hb=>⟨o,k b o hb e⟩,λ_ _ q=>q,λ_ _ _ q=>q⟩ (λb u e=>(I.hok b u e).stay (λv=>k b v λm=>by rw[(hf b m).1] at e;cases e) λ_ _ q=>q) I.bare λb m=>(hf b m).2
theorem Inv.tok (I:Inv X ad Z H s)(t:Nat):Inv X ad Z H { s with toks:=t }:=I.un (h':=s.heap) (t':=t) (Un.kept λ_ _ q=>q) I.hok
theorem Inv.kept(I:Inv X ad Z H s)(k:∀ b u,s.heap.get? b=aa u->h'.get? b=aa u):Inv X ad Z H { s with heap:=h',toks:=t' }:=I.un (Un.kept k) (I.hok.kept k)
theorem Inv.laid{o:HO}(I:Inv X ad Z H s)(k:∀ b u,s.heap.get? b=aa u->h'.get? b=aa u)(hp:s.heap.objs.size<=a)(new:Aby X.prog X.w (ax H a o) h' a o) :
  Inv X ad Z (ax H a o) { s with heap:=h',toks:=t' }:=I.un (Un.laid k hp (I.hok.fresh hp)) (I.hok.laid k hp new)
theorem Inv.write {x:aC}{o:HO}(I:Inv X ad Z H s)(mu:Mut (H x))(k:∀ b u,b≠x->s.heap.get? b=aa u->h'.get? b=aa u)
  (new:Aby X.prog X.w (ax H x o) h' x o):Inv X ad Z (ax H x o) { s with heap:=h',toks:=t' }:=I.un (Un.write mu k new.obj) (I.hok.write mu k new)
theorem Inv.pins_of {vc:lm}(I:Inv X ad Z H s)(h:∀ p∈vc,s.heap.get? p.1=aa p.2/\H p.1=ab/\p.1≠X.env.locals/\∀ v,p.2.data ≠ .cell v):Inv X vc Z H s:=
 ⟨I.ok,I.os,I.bare,I.base,I.loc,I.cell,I.free,I.freeC,h,I.hok,I.len⟩
theorem Zl {N:aal}(hN:N.Nodup){i:Nat}(a:N[i]?=aa x)(b:N[j]?=aa x):i=j:=by
 obtain⟨h1,e1⟩:=cE.1 a;obtain⟨h2,e2⟩:=cE.1 b;exact(List.getElem_inj hN).1 (e1.trans e2.symm)
theorem Inv.stored {σ':List (Option V)}(I:Inv X ad Z H s)(hs:kY a s.heap h')(hn:H a=ab)(km:X.s₀.heap.objs.size<=a)(hp:∀ p∈ad,p.1≠a)
  (loc:∃ m,h'.Ns X.env.locals m/\∀ (i:Nat) (x:aD) (v:V),X.N[i]?=aa x->σ'[i]?=aa (aa v)->uL X.env.scope x->∃ u,RelV v u/\Look X.env h' m x u) (cell:∀ x c,X.env.cells.lookup x=aa c->∃ v,h'.IsCell c v) (len:σ'.length=X.N.length):Inv X ad σ' H { s with heap:=h',toks:=t' }:=
 have yq:∀ b o,X.s₀.heap.get? b=aa o->b≠a:=λb o e=>cP (jC (bN e) km)
 ⟨I.ok,I.os,I.bare,⟨λb o e n hx=>(I.base.keep b o e n hx).imp_left ((hs.2 b (yq b o e)).trans ·),λb o e hx=>(I.base.there b o e hx).imp λ_ q=>(hs.2 b (yq b o e)).trans q,I.base.tups,I.base.frzs⟩,loc,cell,I.free,I.freeC,
  λp m=>(I.pin p m).imp_left ((hs.2 _ (hp p m)).trans ·),λb ob e=>(I.hok b ob e).stay (λv q=>(hs.2 b λz=>by rw[z,hn] at e;cases e).trans q) λ_ _ q=>q,len⟩
theorem Ai{i:Nat}{v:V}{Q:Unit->aF->Prop}(I:Inv X ad Z H s)(hN:X.N.Nodup)(hi:X.N[i]?=aa x)(hx:kB X.env.scope x)(r:RelV v u)
  (h:∀ s',Inv X ad (Z.set i (aa v)) H s'->(∃ a,kY a s.heap s'.heap/\(a=X.env.locals\/X.env.cells.lookup x=aa a))->Q Unit.unit s') (hf:Fn X x:=by exact qU):aJ M A (storeName X.env x u) Q E s:=by
 obtain⟨m,hn,hl⟩:=id I.loc;have hiZ:i<Z.length:=by rw[I.len];exact(cE.1 hi).1
 have yt:∀ {h' m'},Look X.env h' m' x u->(∀ y w',y≠x->Look X.env s.heap m y w'->Look X.env h' m' y w')->∀ (j:Nat) y v',X.N[j]?=aa y->(Z.set i (aa v))[j]?=aa (aa v')->uL X.env.scope y->∃ u',RelV v' u'/\Look X.env h' m' y u':=λ{h' m'} new df j y v' e1 e2 e3=>by
  by_cases hj:j=i
  .subst hj;rw[hi] at e1;cases e1;rw[nR hiZ] at e2;cases e2;exact⟨u,r,new⟩
  .rw[rW (fZ hj)] at e2;obtain⟨u',r',q⟩:=hl j y v' e1 e2 e3;exact⟨u',r',df y u' (λe=>hj (Zl hN e1 (e ▸ hi))) q⟩
 have len:(Z.set i (aa v)).length=X.N.length:=by simpa using I.len
 rcases hx with hk|hk
 .refine wpAny_storeName_local hk hn (λh' hn' hs=>h _ (I.stored hs I.free I.ok.above (λp hp=>(I.pin p hp).2.2.1) ⟨_,hn',yt (.inl ⟨hk,by simp⟩) λy w' ne q=>?_⟩ (λy c e=>(I.cell y c e).imp λ_ z=>z.sameBut hs (I.cne y c e)) len) ⟨_,hs,.inl rfl⟩) (by rw[I.ok.kind];rfl)
  exact q.imp (λ⟨k,e⟩=>⟨k,by simp[ne,e]⟩) λ⟨k,c,e,z⟩=>⟨k,c,e,z.sameBut hs (I.cne y c e)⟩
 .obtain⟨c,hc⟩:=I.ok.has x (.inl hk);obtain⟨w',z⟩:=I.cell x c hc;have hfn:X.fn x=af:=hf.elim id λz=>by rw[z] at hk;cases hk
  refine wpAny_storeName_cell I.ok.kind hk hc z (λh' gr hs=>h { s with heap:=h' } (I.stored hs (I.freeC x c hc) (I.ok.cab x c hfn hc) (λp hp q=>?_) ⟨m,hn.sameBut hs (fZ (I.cne x c hc)),yt (.inr ⟨.inl hk,c,hc,gr⟩) λy w2 ne q=>?_⟩ (λy c' e=>?_) len) ⟨c,hs,.inr hc⟩)
  .obtain⟨e,_,_,d⟩:=I.pin p hp;obtain⟨oc,hoc,hd⟩:=z;rw[q,hoc] at e;exact d w' (fF e ▸ hd)
  .exact q.imp id λ⟨k,c',e,z'⟩=>⟨k,c',e,z'.sameBut hs λw=>ne (I.ok.inj _ _ _ (w ▸ e) hc)⟩
  .by_cases hcc:c'=c
   .subst hcc;exact⟨_,gr⟩
   .exact(I.cell y c' e).imp λ_ z2=>z2.sameBut hs hcc
theorem WA{i:Nat}{v:V}{Q:Unit->aF->Prop}(I:Inv X ad Z H s)(hN:X.N.Nodup)(hi:X.N[i]?=aa x)(hx:kB X.env.scope x)(r:RelV v u)
  (h:∀ s',Inv X ad (Z.set i (aa v)) H s'->Q Unit.unit s') (hf:Fn X x:=by exact qU):aJ M A (storeName X.env x u) Q E s:=
 Ai I hN hi hx r (λs' I' _=>h s' I') hf
end
abbrev St:=List (Option V)
abbrev VK:=V->Hp->Prop
abbrev TE:=St->Hp->VK->Prop
abbrev TT:=St->Hp->(Bool->Hp->Prop)->Prop
abbrev TA:=St->Hp->(aai->Hp->Prop)->Prop
structure Ends where
 nx:St->Hp->Prop
 rt:VK
 bk:St->Hp->Prop:=λ_ _=>False
 ct:St->Hp->Prop:=λ_ _=>False
abbrev TS:=Ends->St->Hp->Prop
def EP (X:Cx)(ad:lm)(Z:St)(Q:VK)(u:aB)(s':aF):Prop:=∃ v H',Inv X ad Z H' s'/\RelV v u/\Q v H'
def TP (X:Cx)(ad:lm)(Z:St)(Q:Bool->Hp->Prop)(b:Bool)(s':aF):Prop:=∃ H',Inv X ad Z H' s'/\Q b H'
def AP (X:Cx)(ad:lm)(Z:St)(Q:aai->Hp->Prop)(us:aak)(s':aF):Prop:=∃ vs H',Inv X ad Z H' s'/\Vals vs us/\Q vs H'
def SP (X:Cx)(ad:lm)(D:Ends)(f:Flow)(s':aF):Prop:=
 match f with
 |.next=>∃ σ' H',Inv X ad σ' H' s'/\D.nx σ' H'
 |.brk=>∃ σ' H',Inv X ad σ' H' s'/\D.bk σ' H'
 |.cont=>∃ σ' H',Inv X ad σ' H' s'/\D.ct σ' H'
 |.ret u=>∃ v σ' H',Inv X ad σ' H' s'/\RelV v u/\D.rt v H'
def PE (X:Cx)(e:aT)(t:TE):Prop:=
 ∀ (ad:lm) (s:aF) (Z:St) (H:Hp) (Q:VK),Inv X ad Z H s->t Z H Q->aJ (aO X.prog X.w) X.A (bF e X.env) (EP X ad Z Q) X.xe s
def PT (X:Cx)(e:aT)(t:TT):Prop:=
 ∀ (ad:lm) (s:aF) (Z:St) (H:Hp) (Q:Bool->Hp->Prop),Inv X ad Z H s->t Z H Q->aJ (aO X.prog X.w) X.A (isTrue e X.env (bF e X.env)) (TP X ad Z Q) X.xe s
def PW (X:Cx)(e:aT)(t:TT):Prop:=
 ∀ (gi:Sem aB) (ad:lm) (s:aF) (Z:St) (H:Hp) (Q:Bool->Hp->Prop),Inv X ad Z H s->t Z H Q->aJ (aO X.prog X.w) X.A (isTrue e X.env gi) (TP X ad Z Q) X.xe s
theorem PW.pt {X:Cx}{t:TT}(h:PW X e t):PT X e t:=h _
def PA (X:Cx)(es:List aT)(t:TA):Prop:=
 ∀ (pos:bJ) (ad:lm) (s:aF) (Z:St) (H:Hp) (Q:aai->Hp->Prop),Inv X ad Z H s->t Z H Q->aJ (aO X.prog X.w) X.A (spliced (iF pos (bH es X.env))) (AP X ad Z Q) X.xe s
def PS (X:Cx)(st:eI)(t:TS):Prop:=
 ∀ (ad:lm) (s:aF) (Z:St) (H:Hp) (D:Ends),Inv X ad Z H s->t D Z H->aJ (aO X.prog X.w) X.A (exec st X.env) (SP X ad D) X.xe s
def PSs (X:Cx)(st:List eI)(t:TS):Prop:=
 ∀ (ad:lm) (s:aF) (Z:St) (H:Hp) (D:Ends),Inv X ad Z H s->t D Z H->aJ (aO X.prog X.w) X.A (execs st X.env) (SP X ad D) X.xe s
theorem bj {α:Type}{t:Sem α}{Q Q':α->aF->Prop}(h:aJ M A t Q E s)(hQ:∀ a s,Q a s->Q' a s):aJ M A t Q' E s:=mA h hQ λ_ _ x=>x
section
variable {X:Cx}
abbrev BH (i:Nat):TE:=λZ H Q=>∃ v,Z[i]?=aa (aa v)/\Q v H
abbrev tC (v:V):TE:=λ_ H Q=>Q v H
theorem Rr {i:Nat}(hN:X.N[i]?=aa x)(hv:uL X.env.scope x)(hd:(x==("__debug__" : aD))=ah:=by decide)(ly:(x==("__classdict__" : aD))=ah:=by decide):PE X (.Name x pos) (BH i):=by
 rw[6];obtain⟨v,e,h⟩:=h;obtain⟨m,hn,hl⟩:=I.loc;obtain⟨u,r,l⟩:=hl i x v hN e hv;have fin:EP X ad Z Q u s:=⟨v,H,I,r,h⟩;rcases l with⟨hk,hm⟩|⟨hk,c,hc,mh⟩
 .exact wpAny_Name (wpAny_loadName_local I.ok.kind hk hn hm fin) hd
 .rcases hk with hk|hk
  .exact wpAny_Name (wpAny_loadName_cell I.ok.kind hk hc mh fin) hd
  .exact wpAny_Name (wpAny_loadName_free I.ok.kind hk hc mh fin ly) hd
structure Nm (X:Cx)(i:Nat)(x:aD):Prop where
 a:X.N[i]?=aa x
 v:uL X.env.scope x
 d:(x==("__debug__" : aD))=ah
 c:(x==("__classdict__" : aD))=ah
theorem jI {i:Nat}(hN:X.N[i]?=aa x:=by rfl)(hv:uL X.env.scope x:=by first|exact Or.inl rfl|exact Or.inr (Or.inl rfl)|exact Or.inr (Or.inr rfl))(hd:(x==("__debug__" : aD))=ah:=by decide)(ly:(x==("__classdict__" : aD))=ah:=by decide):Nm X i x:=⟨hN,hv,hd,ly⟩
theorem Nm.pe {i:Nat}(h:Nm X i x):PE X (.Name x pos) (BH i):=Rr h.a h.v h.d h.c
theorem Pz {i j pos}:PE X (.Constant (.int i) j pos) (tC (.int i)):=λ_ _ _ H _ I h=>wpAny_Constant_int ⟨.int i,H,I.tok _,⟨_,rfl⟩,h⟩
theorem RU {b j pos}:PE X (.Constant (.bool b) j pos) (tC (.bl b)):=λ_ _ _ H _ I h=>Constant_bool ⟨.bl b,H,I,rfl,h⟩
theorem UJ {j pos}:PE X (.Constant .none j pos) (tC .non):=λ_ _ _ H _ I h=>Constant_none ⟨.non,H,I,rfl,h⟩
theorem Oo {x j pos}:PE X (.Constant (.str x) j pos) (tC (.str x)):=λ_ _ _ H _ I h=>Calls.Constant_str ⟨.str x,H,I.tok _,⟨_,rfl⟩,h⟩
def Gl (X:Cx)(x:aD):Prop:=X.env.kindOf x=aa .globalImplicit
theorem En{Z:St}{H:Hp}(I:Inv X ad Z H s)(hg:Gl X x)(hm:X.mg x=aa u)(h:Q u s)
  (hd:(x==("__debug__" : aD))=ah:=by decide):aJ (aO X.prog X.w) X.A (bF (.Name x pos) X.env) Q E s:=
 Calls.Name_function_global I.ok.kind hg (Calls.loadGlobal_global (by rw[I.ok.glob];exact I.mod.glob.keeps I.bk) hm h) hd
theorem lH{Z:St}{H:Hp}(I:Inv X ad Z H s)(hg:Gl X x)(hm:X.mg x=ab)(hv:mX x=aa u)(h:Q u s)
  (hn:x ≠ "__name__":=by decide) (hd:(x==("__debug__" : aD))=ah:=by decide):aJ (aO X.prog X.w) X.A (bF (.Name x pos) X.env) Q E s:=by
 obtain⟨mb,h1,h2⟩:=I.mod.blt;exact Calls.Name_function_global I.ok.kind hg (Calls.loadGlobal_builtin (by rw[I.ok.glob];exact I.mod.glob.keeps I.bk) hm (by rw[I.ok.blt];exact h1.keeps I.bk) ((h2 x hn).trans hv) h) hd
theorem Gx{v:V}(hg:Gl X x)(hm:X.mg x=aa u)(r:RelV v u)(hd:(x==("__debug__" : aD))=ah:=by decide):PE X (.Name x pos) (tC v):=
 λ_ _ _ H _ I h=>En I hg hm ⟨v,H,I,r,h⟩ hd
theorem Xk{v:V}(hg:Gl X x)(hm:X.mg x=ab)(hv:mX x=aa u)(r:RelV v u)(hn:x ≠ "__name__":=by decide)(hd:(x==("__debug__" : aD))=ah:=by decide):PE X (.Name x pos) (tC v):=
 λ_ _ _ H _ I h=>lH I hg hm hv ⟨v,H,I,r,h⟩ hn hd
variable {a b:aT}{ta tb:TE}
def tB (t:TE):TT:=λZ H Q=>t Z H λx H1=>∃ c,x=.bl c/\Q c H1
theorem Tz{t:TE}(h:PE X e t)(he:∀ gi,isTrue e X.env gi=(do let v <-gi;standAt e.pos;nN [v] (truthy v)):=by intro _;rfl):PT X e (tB t):=by
 intro ad s Z H Q I hw;refine isTrue_plain (bj (h ad s Z H _ I hw) λv s1 ⟨x,H1,I1,r1,q1⟩=>?_) (he _)
 obtain⟨d,rfl,q⟩:=q1;cases r1;exact ND ⟨H1,I1,q⟩
variable {tA tB':TT}{av:List aT}
def Lh (t u:TT):TT:=λZ H Q=>t Z H λc H1=>if c=af then u Z H1 Q else Q ah H1
def tOr (t u:TT):TT:=λZ H Q=>t Z H λc H1=>if c=af then Q af H1 else u Z H1 Q
def Lw (t:TT):TT:=λZ H Q=>t Z H λc H1=>Q (!c) H1
theorem Td (ha:PT X a tA):PW X (.BoolOp .And [a] pos) tA:=by
 intro wh ad s Z H Q I h;refine isTrue_and (bj (ha ad s Z H Q I h) λc s1 e=>?_)
 cases c with
 |true=>exact isTrue_and_nil e
 |false=>exact e
theorem Pj (ha:PT X a tA):PW X (.BoolOp .Or [a] pos) tA:=by
 intro wh ad s Z H Q I h;refine isTrue_or (bj (ha ad s Z H Q I h) λc s1 e=>?_)
 cases c with
 |false=>exact isTrue_or_nil e
 |true=>exact e
theorem Sj (ha:PT X a tA)(hb:PW X (.BoolOp .And (b::av) pos) tB'):PW X (.BoolOp .And (a::b::av) pos) (Lh tA tB'):=by
 intro wh ad s Z H Q I h;refine isTrue_and (bj (ha ad s Z H _ I h) λc s1 gh=>?_)
 obtain⟨H1,I1,q1⟩:=gh;cases c with
 |true=>exact hb wh ad s1 Z H1 Q I1 q1
 |false=>exact⟨H1,I1,q1⟩
theorem Oa (ha:PT X a tA)(hb:PW X (.BoolOp .Or (b::av) pos) tB'):PW X (.BoolOp .Or (a::b::av) pos) (tOr tA tB'):=by
 intro wh ad s Z H Q I h;refine isTrue_or (bj (ha ad s Z H _ I h) λc s1 gh=>?_)
 obtain⟨H1,I1,q1⟩:=gh;cases c with
 |true=>exact⟨H1,I1,q1⟩
 |false=>exact hb wh ad s1 Z H1 Q I1 q1
theorem Pc (ha:PT X a tA):PT X (.UnaryOp .Not a pos) (Lw tA):=by
 rw[6];exact isTrue_not (ha ad s Z H (λc H1=>Q (!c) H1) I h)
def Li (ta tb:TE):TE:=λZ H Q=>ta Z H λx H1=>∃ c,x=.bl c/\if c=af then tb Z H1 Q else Q (.bl ah) H1
theorem Sr {op}{t:TE}(h:PE X a t):PE X (.BoolOp op [a] pos) t:=λad s Z H Q I hw=>BoolOp_one (h ad s Z H Q I hw)
theorem Qf (ha:PE X a ta)(hb:PE X (.BoolOp .And (b::av) pos) tb):PE X (.BoolOp .And (a::b::av) pos) (Li ta tb):=by
 rw[6];refine BoolOp_and (bj (ha ad s Z H _ I h) λv s1 gh=>?_)
 obtain⟨x,H1,I1,r1,q1⟩:=gh;obtain⟨c,rfl,q1⟩:=q1;cases r1;refine ND ?_;cases c with
 |true=>exact hb ad s1 Z H1 Q I1 q1
 |false=>exact⟨.bl ah,H1,I1,rfl,q1⟩
def tIf (t:TT)(ta tb:TE):TE:=λZ H Q=>t Z H λc H1=>if c=af then ta Z H1 Q else tb Z H1 Q
theorem WE(hc:PT X c tA)(ha:PE X a ta)(hb:PE X b tb):PE X (.IfExp c a b pos) (tIf tA ta tb):=by
 rw[6];refine wpAny_IfExp (bj (hc ad s Z H _ I h) λd s1 gh=>?_)
 obtain⟨H1,I1,q1⟩:=gh;cases d with
 |true=>exact ha ad s1 Z H1 Q I1 q1
 |false=>exact hb ad s1 Z H1 Q I1 q1
end
def SqL (K:aI)(H:Hp)(a:aC)(xs:aai):Prop:=
 Rd H a (.lst xs) \/
  ∃ (o:aZ) (its:Array aB) (n:Nat),K.lookup a=aa o/\o.cls=.type "list" /\ o.dict=ab/\o.data=.seq its n/\its.size<=sizeLine/\Vals xs its.toList
def SqT (K:aI)(H:Hp)(a:aC)(xs:aai):Prop:=
 Rd H a (.tup xs) \/
  ∃ (o:aZ) (its:Array aB) (n:Nat),K.lookup a=aa o/\o.cls=.type "tuple" /\ o.data=.seq its n/\its.size<=sizeLine/\Vals xs its.toList
noncomputable def Kz:aB->Option V
 |.none=>aa .non
 |.bool b=>aa (.bl b)
 |.int i _=>aa (.int i)
 |.str x _=>aa (.str x)
 |.bytes b _=>aa (.byt b)
 |.float b _=>aa (.flt b)
 |.ref a=>aa (.ref a)
 |.type n=>aa (.ty n)
 |_=>ab
theorem RelV.abs {x:V}(r:RelV x u):Kz u=aa x:=by
 cases x with
 |non=>cases r;rfl
 |bl _=>cases r;rfl
 |int _=>obtain⟨t,rfl⟩:=r;rfl
 |str _=>obtain⟨t,rfl⟩:=r;rfl
 |byt _=>obtain⟨t,rfl⟩:=r;rfl
 |flt _=>obtain⟨t,rfl⟩:=r;rfl
 |ref _=>cases r;rfl
 |ty _=>cases r;rfl
theorem RelV.inj {x y:V}(r:RelV x u)(q:RelV y u):x=y:=fF (r.abs.symm.trans q.abs)
theorem Vals.inj:∀ {xs ys:aai} {us:aak},Vals xs us->Vals ys us->xs=ys:=by
 intro xs ys us h;induction h generalizing ys with
 |nil=>intro h;cases h;rfl
 |cons r _ ih=>
  intro h;cases h with
  |cons r' t'=>rw[r.inj r',ih t']
section
variable {X:Cx}{Z:St}{H:Hp}{xs ys:aai}
theorem SqL.of(h:H a=aa (.lst xs)):SqL K H a xs:=.inl (.inl h)
theorem SqT.of(h:H a=aa (.tup xs)):SqT K H a xs:=.inl (.inl h)
theorem Inv.list (I:Inv X ad Z H s)(h:SqL X.K H a xs):∃ its:aak,Vals xs its/\PlainL s.heap a its.toArray/\xs.length<=sizeLine:=by
 rcases h with h|⟨o,its,n,hk,hc,hd,hs,hz,r⟩
 .obtain⟨z,its,n,r,e⟩:=h.ok I.hok;exact⟨its,r,⟨_,n,e,rfl,rfl,rfl⟩,z⟩
 .refine⟨its.toList,r,⟨o,n,I.kIn a o hk,hc,hd,by simpa using hs⟩,?_⟩
  have e:=r.length
  grind
theorem Inv.tuple (I:Inv X ad Z H s)(h:SqT X.K H a xs):∃ its:aak,Vals xs its/\IsTup s.heap a its.toArray/\xs.length<=sizeLine:=by
 rcases h with h|⟨o,its,n,hk,hc,hs,hz,r⟩
 .obtain⟨z,its,r,p⟩:=h.ok I.hok;exact⟨its,r,p.1,z⟩
 .refine⟨its.toList,r,⟨o,I.kIn a o hk,hc,n,by simpa using hs⟩,?_⟩
  have e:=r.length
  grind
theorem Inv.list_inj (I:Inv X ad Z H s)(h:SqL X.K H a xs)(h':SqL X.K H a ys):xs=ys:=by
 obtain⟨its,r,⟨o,n,e,_,_,d⟩,_⟩:=I.list h;obtain⟨its',r',⟨o',n',e',_,_,d'⟩,_⟩:=I.list h';rw[e] at e';cases e';rw[d] at d';injection d' with d1 _;have:its=its':=by simpa using congrArg Array.toList d1
 subst this;exact r.inj r'
theorem Inv.tuple_inj (I:Inv X ad Z H s)(h:SqT X.K H a xs)(h':SqT X.K H a ys):xs=ys:=by
 obtain⟨its,r,⟨o,e,_,n,d⟩,_⟩:=I.tuple h;obtain⟨its',r',⟨o',e',_,n',d'⟩,_⟩:=I.tuple h';rw[e] at e';cases e';rw[d] at d';injection d' with d1 _;have:its=its':=by simpa using congrArg Array.toList d1
 subst this;exact r.inj r'
end
section
variable {X:Cx}{st:eI}{av:List eI}{t u:TS}{te:TE}
def Ob:TS:=λD Z H=>D.nx Z H
def Kl (t u:TS):TS:=λD Z H=>t { D with nx:=u D } Z H
theorem Xw:PSs X [] Ob:=λ_ _ Z H _ I h=>NN ⟨Z,H,I,h⟩
theorem JF (h1:PS X st t)(h2:PSs X av u):PSs X (st::av) (Kl t u):=by
 intro ad s Z H D I h;refine wpAny_execs_cons (bj (h1 ad s Z H { D with nx:=u D } I h) λf s1 q=>?_)
 cases f with
 |next=>
  obtain⟨σ',H',I',q⟩:=q;exact h2 ad s1 σ' H' D I' q
 |ret v=>exact q
 |brk=>exact q
 |cont=>exact q
theorem IK (h1:PS X st t):PSs X [st] t:=by
 intro ad s Z H D I h;refine wpAny_execs_cons (bj (h1 ad s Z H D I h) λf s1 q=>?_)
 cases f with
 |next=>exact NN q
 |ret v=>exact q
 |brk=>exact q
 |cont=>exact q
theorem Inv.quiet{Z:St}{H:Hp}(I:Inv X ad Z H s):interactive X.env=ah:=by simp[interactive,I.ok.kind]
def Nu (te:TE):TS:=λD Z H=>te Z H λ_ H1=>D.nx Z H1
theorem tH (he:PE X e te)(hs:kS e ab pos.line X.env=pure ah:=by rfl):PS X (.Expr e pos) (Nu te):=by
 intro ad s Z H D I h;exact wpAny_Expr_any (bj (he ad s Z H _ I h) λv s1 ⟨x,H1,I1,r1,q1⟩=>⟨Z,H1,I1,q1⟩) I.quiet hs
def Kk (te:TE):TS:=λD Z H=>te Z H D.rt
theorem MW (he:PE X e te):PS X (.Return (aa e) pos) (Kk te):=by
 intro ad s Z H D I h;exact wpAny_Return_some (bj (he ad s Z H _ I h) λv s1 ⟨x,H1,I1,r1,q1⟩=>⟨x,Z,H1,I1,r1,q1⟩)
def Kw (c:TT)(t u:TS):TS:=λD Z H=>c Z H λb H1=>if b=af then t D Z H1 else u D Z H1
theorem Nb{a b:List eI}{tc:TT}(hc:PT X c tc)(ha:PSs X a t)(hb:PSs X b u):PS X (.If c a b pos) (Kw tc t u):=by
 intro ad s Z H D I h;refine wpAny_If (bj (hc ad s Z H _ I h) λd s1 gh=>?_)
 obtain⟨H1,I1,q1⟩:=gh;cases d with
 |true=>exact ha ad s1 Z H1 D I1 q1
 |false=>exact hb ad s1 Z H1 D I1 q1
end
abbrev TG:=V->St->Hp->(St->Hp->Prop)->Prop
abbrev xi:=aai->St->Hp->(St->Hp->Prop)->Prop
def PG (X:Cx)(im:aT)(t:TG):Prop:=
 ∀ (ad:lm) (s:aF) (Z:St) (H:Hp) (v:V) (u:aB) (Q:St->Hp->Prop),Inv X ad Z H s->RelV v u->t v Z H Q ->
  aJ (aO X.prog X.w) X.A (kU im X.env u) (λ_ s'=>∃ σ' H',Inv X ad σ' H' s'/\Q σ' H') X.xe s
def PGs (X:Cx)(ts:List aT)(t:xi):Prop:=
 ∀ (ad:lm) (s:aF) (Z:St) (H:Hp) (vs:aai) (us:aak) (Q:St->Hp->Prop),Inv X ad Z H s->Vals vs us->t vs Z H Q ->
  aJ (aO X.prog X.w) X.A (assignInOrder ((hE ts X.env).map (·.2)) us) (λ_ s'=>∃ σ' H',Inv X ad σ' H' s'/\Q σ' H') X.xe s
abbrev GU:=V->V->V->Hp->(Hp->Prop)->Prop
def QY (X:Cx)(t:GU):Prop:=
 ∀ (ad:lm) (s:aF) (Z:St) (H:Hp) (o i v:V) (ov iv u:aB) (Q:Hp->Prop),Inv X ad Z H s->RelV o ov->RelV i iv->RelV v u->t o i v H Q ->
  aJ (aO X.prog X.w) X.A (setItem ov iv u) (λ_ s'=>∃ H',Inv X ad Z H' s'/\Q H') X.xe s
section
variable {X:Cx}
def HQ (i:Nat):TG:=λv Z H Q=>Q (Z.set i (aa v)) H
theorem tD {i:Nat}(hN:X.N.Nodup)(hi:X.N[i]?=aa x)(hx:kB X.env.scope x)(hf:Fn X x:=by exact qU):PG X (.Name x pos) (HQ i):=by
 intro ad s Z H v u Q I r h;exact wpAny_assign_Name (WA I hN hi hx r (λs' I'=>⟨_,H,I',h⟩) hf)
def Kq:xi:=λvs Z H Q=>vs=[]/\Q Z H
def Mz (t:TG)(u:xi):xi:=λvs Z H Q=>∃ v r,vs=v::r/\t v Z H λσ' H'=>u r σ' H' Q
theorem Fj:PGs X [] Kq:=by
 intro ad s Z H vs us Q I r h;obtain⟨e,h⟩:=h;subst e;cases r;exact assignInOrder_nil ⟨Z,H,I,h⟩
theorem DX{t:TG}{u:xi}(h1:PG X e t)(h2:PGs X es u)
  (hs:(hE (e::es) X.env).map (·.2)=kU e X.env::(hE es X.env).map (·.2):=by rfl):PGs X (e::es) (Mz t u):=by
 intro ad s Z H vs us Q I r h;obtain⟨v,vr,e1,h⟩:=h;subst e1;cases r with
 |cons r rr=>
  rw[hs];refine assignInOrder_cons (bj (h1 ad s Z H _ _ _ I r h) λ_ s1 gh=>?_)
  obtain⟨σ1,H1,I1,q1⟩:=gh;exact h2 ad s1 σ1 H1 _ _ Q I1 rr q1
def Kj (K:aI)(n:Nat)(t:xi):TG:=λv Z H Q=>∃ a xs,v=.ref a/\SqT K H a xs/\xs.length=n/\t xs Z H Q
theorem UC{t:xi}{n:Nat}(h:PGs X es t)
  (hn:(hE es X.env).length=n:=by rfl) (du:(hE es X.env).findIdx? (·.1)=ab:=by rfl):PG X (.Tuple es k pos) (Kj X.K n t):=by
 intro ad s Z H v u Q I r hw;obtain⟨a,xs,e1,hq,hl,hw⟩:=hw;subst e1;cases r;obtain⟨its,rv,ht,hz⟩:=I.tuple hq;refine assign_Tuple_tuple I.ok.hd ht (by simp[hn,<-hl,rv.length]) du λh' hx=>?_
 have I1:Inv X ad Z H { s with heap:=h' }:=I.kept (t':=s.toks) λb o e=>hx b o (cP (bN e)) e
 exact h ad _ Z H xs _ Q I1 (by simpa using rv) hw
def Kp (to ti:TE)(t:GU):TG:=λv Z H Q=>to Z H λo H1=>ti Z H1 λi H2=>t o i v H2 λH3=>Q Z H3
theorem SR {o i:aT}{to ti:TE}{t:GU}(ho:PE X o to)(hi:PE X i ti)(hs:QY X t)
  (ha:∀ v,kU (.Subscript o i pos) X.env v=(do
   let ov <-nN [v] (bF o X.env)
   let iv <-nN [v,ov] (bF i X.env)
   standAt pos
   nN [v,ov,iv] (setItem ov iv v)
   release [v,ov,iv] []):=by intro _;rfl):PG X (.Subscript o i pos) (Kp to ti t):=by
 intro ad s Z H v u Q I r h;rw[ha];refine aE (eG (bj (ho ad s Z H _ I h) λov s1 gh=>?_))
 obtain⟨x,H1,I1,r1,q1⟩:=gh;refine aE (eG (bj (hi ad s1 Z H1 _ I1 q1) λiv s2 gh=>?_))
 obtain⟨y,H2,I2,r2,q2⟩:=gh;refine aE (wpAny_standAt (aE (eG (bj (hs ad s2 Z H2 x y v ov iv u _ I2 r1 r2 r q2) λ_ s3 gh=>?_))))
 obtain⟨H3,I3,q3⟩:=gh;exact wpAny_release ⟨Z,H3,I3,q3⟩
def GW (te:TE)(g:TG):TS:=λD Z H=>te Z H λx H1=>g x Z H1 D.nx
theorem MZ{te:TE}{g:TG}(he:PE X e te)(hg:PG X tg g)(hs:NP [tg] e pos.line X.env=pure ah:=by rfl)(hw:NQ [tg] e X.env=pure ab:=by rfl)
  (h1:(hE [tg] X.env).map (·.2)=[kU tg X.env]:=by rfl):PS X (.Assign [tg] e pos) (GW te g):=by
 intro ad s Z H D I h;refine wpAny_Assign_stores (bj (he ad s Z H _ I h) λv s1 ⟨x,H1,I1,r1,q1⟩=>?_) hs hw
 rw[h1];exact bj (hg ad s1 Z H1 x v _ I1 r1 q1) λ_ s2 q=>q
theorem MF {i:Nat}{te:TE}{jr:bJ}(hN:X.N.Nodup)(hi:X.N[i]?=aa x)(hx:kB X.env.scope x)(he:PE X e te)(hs:kS e (aa (.Name x jr)) pos.line X.env=pure ah:=by rfl)(hf:Fn X x:=by exact qU) :
  PS X (.Assign [.Name x jr] e pos) (GW te (HQ i)):=by
 intro ad s Z H D I h;refine wpAny_Assign_Name (bj (he ad s Z H _ I h) λv s1 ⟨y,H1,I1,r1,q1⟩=>?_) hs
 exact WA I1 hN hi hx r1 (λs2 I2=>⟨_,H1,I2,q1⟩) hf
end
section
variable {X:Cx}
def Rp (c:TT)(tb:TS):TS:=λD Z H=>∃ W:Nat->St->Hp->Prop,(∃ m,W m Z H)/\∀ m Z H,W m Z H ->
 c Z H λb H1=>if b=af then ∃ N:St->Hp->Prop,(∀ σ' H',N σ' H'->∃ m',m'<m/\W m' σ' H')/\tb { D with nx:=N,ct:=N,bk:=D.nx } Z H1 else D.nx Z H1
theorem M5{tc:TT}{tb:TS}(hc:PT X c tc)(hb:PSs X body tb):PS X (.While c body [] pos) (Rp tc tb):=by
 intro ad s Z H D I h;obtain⟨W,⟨m0,w0⟩,ko⟩:=h;refine wpAny_While (codeAny_whileLoop (λn s'=>∃ σ' H',Inv X ad σ' H' s'/\W n σ' H') ?_ m0 ⟨Z,H,I,w0⟩)
 rintro n s1 ⟨σ1,H1,I1,w1⟩;refine wD .never (bj (hc ad s1 σ1 H1 _ I1 (ko n σ1 H1 w1)) λb s2 gh=>?_)
 obtain⟨H2,I2,q2⟩:=gh;cases b with
 |true=>
  obtain⟨N,hN,q2⟩:=q2;rw[if_pos rfl];refine wD .never (bj (hb ad s2 σ1 H2 _ I2 q2) λf s3 q3=>?_)
  cases f with
  |next=>
   obtain⟨σ3,H3,I3,n3⟩:=q3
   grind
  |cont=>
   obtain⟨σ3,H3,I3,n3⟩:=q3
   grind
  |brk=>exact q3
  |ret v=>exact q3
 |false=>
  rw[if_neg QH];exact NN ⟨σ1,H2,I2,q2⟩
end
structure It where
 go:Nat->Hp->Prop
 yld:Nat->Hp->V->Hp->Prop
 stop:Nat->Hp->Prop
theorem Inv.fpOk {X:Cx}{Z:St}{H H':Hp}(I:Inv X ad Z H s)(hb:s.heap.objs.size<=b)(hn:H' b=ab):iI X ad H' b:=
 ⟨hn,jL (jC I.lt hb),.inr (cQ I.sz hb),λx c e z=>let ⟨_,q⟩:=I.cell x c e;nQ _ (jC q.lt (z ▸ hb)),λp hp z=>nQ _ (jC (bN (I.pin p hp).1) (z ▸ hb))⟩
structure Turn (P:bE)(w:aX)(K:aI)(tg:aT)(J:It)(fp:List aC)(it:aC)(tn:Nat->aP->Prop):Prop where
 mem:it∈fp
 obj:∀ i h,tn i h->∀ b∈fp,∃ o,h.get? b=aa o/\∀ v,o.data ≠ .cell v
 keep:∀ i h h',tn i h->(∀ b∈fp,∀ o,h.get? b=aa o->h'.get? b=aa o)->tn i h'
 item:∀ (X:Cx),X.prog=P->X.w=w->X.K=K->∀ (i:Nat) (ad:List (aC×aZ)) (s:aF) (Z:St) (H:Hp) (E:aB->aF->Prop),Inv X ad Z H s->(∀ b∈fp,iI X ad H b)->tn i s.heap->J.go i H ->
  aJ (aO P w) X.A (jW (.ref it)) (λr s1=>∃ u,r=aa u /\
   aJ (aO P w) X.A (NU tg (.ref it) u) (λ_ s2=>∃ x H',Inv X ad Z H' s2/\RelV x u/\J.yld i H x H'/\tn (i+1) s2.heap/\∀ b∈fp,H' b=ab) E s1) E s
 done:∀ (X:Cx),X.prog=P->X.w=w->X.K=K->∀ (i:Nat) (ad:List (aC×aZ)) (s:aF) (Z:St) (H:Hp) (E:aB->aF->Prop),Inv X ad Z H s->(∀ b∈fp,iI X ad H b)->tn i s.heap->J.stop i H ->
  aJ (aO P w) X.A (jW (.ref it)) (λr s1=>r=ab/\Inv X ad Z H s1) E s
 self:∀ (A:bM) (i:Nat) (s:aF) (Q:aB->aF->Prop) (E:aB->aF->Prop),tn i s.heap->Q (.ref it) s->aJ (aO P w) A (oP (.ref it)) Q E s
abbrev TI:=St->Hp->(It->Hp->Prop)->Prop
def PIE (X:Cx)(ad:lm)(Z:St)(tg:aT)(R:It->Hp->Prop)(itv:aB)(s2:aF):Prop:=
 ∃ (it:aC) (fp:aan) (tn:Nat->aP->Prop) (J:It) (H':Hp),itv=.ref it/\Inv X ad Z H' s2/\Turn X.prog X.w X.K tg J fp it tn/\tn 0 s2.heap/\(∀ b∈fp,iI X ad H' b)/\R J H'
def PI (X:Cx)(tg bm:aT)(wi:TI):Prop:=
 ∀ (ad:lm) (s:aF) (Z:St) (H:Hp) (R:It->Hp->Prop),Inv X ad Z H s->wi Z H R ->
  aJ (aO X.prog X.w) X.A (bF bm X.env) (λv s1=>aJ (aO X.prog X.w) X.A (oP v) (PIE X ad Z tg R) X.xe s1) X.xe s
theorem BP{it:aC}{n:String}{vs:Array aB}{Q:Unit->aF->Prop}(ho:s.heap.get? it=aa o)(hc:o.cls=.type n)(hd:o.data=.fields vs)
    (hn:["enumerate","zip","dict_itemiterator","dict_reverseitemiterator","odict_iterator","itertools.zip_longest","itertools.pairwise"].contains n=ah) (hQ:Q Unit.unit s):aJ M A (NU tg (.ref it) u) Q E s:=by
  unfold NU;cases tg<;>first
    |exact aH hQ
    | (cases u<;>first
        |exact aH hQ
        | (refine aE (wpAny_load ho ?_)
           rw[hc,hd];show aJ M A (if (["enumerate","zip","dict_itemiterator","dict_reverseitemiterator","odict_iterator","itertools.zip_longest","itertools.pairwise"].contains n&&vs[0]?==aa (cT _))=af then _ else _) Q E s
           rw[if_neg (by intro h;rw[hn,Bool.false_and] at h;cases h)]
           exact aH hQ))
def GK (K:aI)(a:aC):It:=
 ⟨λi H=>∃ xs x,SqL K H a xs/\xs[i]?=aa x,λi H x H'=>H'=H/\∀ xs,SqL K H a xs->xs[i]?=aa x,λi H=>∃ xs,SqL K H a xs/\xs.length<=i⟩
def uM (K:aI)(a:aC):It:=
 ⟨λi H=>∃ xs x,SqT K H a xs/\xs[i]?=aa x,λi H x H'=>H'=H/\∀ xs,SqT K H a xs->xs[i]?=aa x,λi H=>∃ xs,SqT K H a xs/\xs.length<=i⟩
def uN (lo:Int)(n:Nat)(d:Int:=1):It:=⟨λi _=>i<n,λi H x H'=>H'=H/\x=.int (lo+i*d),λi _=>n<=i⟩
theorem R6 {P:bE}{w:aX}(a it:aC):Turn P w K tg (GK K a) [it] it (λi h=>h.IsListIter it a i) where
 mem:=by simp
 obj:=λi h st b hb=>by
  have e:b=it:=by simpa using hb
  subst e;obtain⟨o,e,c,d⟩:=st
  grind
 keep:=λi h h' st k=>st.at λo e=>k it (by simp) o e
 item:=by
  intro X hP hw hK i ad s Z H E I hf st hg;subst hP hw hK;obtain⟨xs,x,hq,hx⟩:=hg;obtain⟨its,rv,p,hz⟩:=I.list hq;obtain⟨u,hu,ru⟩:=rv.get hx;refine wpAny_pyNext_list_item st p.isList (x:=u) (by simpa using hu) λh' gw sb=>?_
  have I1:Inv X ad Z H { s with heap:=h' }:=I.turnM (t':=s.toks) hf λb o hb e=>(sb.2 b λz=>hb (by simp[z])).trans e
  obtain⟨o,e,c,d⟩:=id gw;exact⟨u,rfl,BP (s:={ s with heap:=h' }) e c d nofun ⟨x,H,I1,ru,⟨rfl,λys hy=>by rw[I.list_inj hy hq];exact hx⟩,gw,λb hb=>(hf b hb).1⟩⟩
 done:=by
  intro X hP hw hK i ad s Z H E I hf st hg;subst hP hw hK;obtain⟨xs,hq,hx⟩:=hg;obtain⟨its,rv,p,hz⟩:=I.list hq;have hl:=rv.length;exact wpAny_pyNext_list_end I.ok.hd st p.isList (by simp;lia) λh' eb=>⟨rfl,I.turnM (t':=s.toks) hf λb o hb e=>eb b o (λz=>hb (by simp[z])) e⟩
 self:=λ_ _ _ _ _ st h=>wpAny_pyIter_listiter st h
theorem o9 {P:bE}{w:aX}(a it:aC):Turn P w K tg (uM K a) [it] it (λi h=>h.IsTupleIter it a i) where
 mem:=by simp
 obj:=λi h st b hb=>by
  have e:b=it:=by simpa using hb
  subst e;obtain⟨o,e,c,d⟩:=st
  grind
 keep:=λi h h' st k=>st.at λo e=>k it (by simp) o e
 item:=by
  intro X hP hw hK i ad s Z H E I hf st hg;subst hP hw hK;obtain⟨xs,x,hq,hx⟩:=hg;obtain⟨its,rv,p,hz⟩:=I.tuple hq;obtain⟨u,hu,ru⟩:=rv.get hx;refine wpAny_pyNext_tuple_item st (show s.heap.IsTuple a its.toArray from p) (x:=u) (by simpa using hu) λh' gw sb=>?_
  have I1:Inv X ad Z H { s with heap:=h' }:=I.turnM (t':=s.toks) hf λb o hb e=>(sb.2 b λz=>hb (by simp[z])).trans e
  obtain⟨o,e,c,d⟩:=id gw;exact⟨u,rfl,BP (s:={ s with heap:=h' }) e c d nofun ⟨x,H,I1,ru,⟨rfl,λys hy=>by rw[I.tuple_inj hy hq];exact hx⟩,gw,λb hb=>(hf b hb).1⟩⟩
 done:=by
  intro X hP hw hK i ad s Z H E I hf st hg;subst hP hw hK;obtain⟨xs,hq,hx⟩:=hg;obtain⟨its,rv,p,hz⟩:=I.tuple hq;have hl:=rv.length;exact wpAny_pyNext_tuple_end I.ok.hd st (show s.heap.IsTuple a its.toArray from p) (by simp;lia) λh' eb=>⟨rfl,I.turnM (t':=s.toks) hf λb o hb e=>eb b o (λz=>hb (by simp[z])) e⟩
 self:=λ_ _ _ _ _ st h=>wpAny_pyIter_tupleiter st h
theorem Bd {P:bE}{w:aX}(it:aC)(lo:Int)(n:Nat)(d:Int:=1):Turn P w K tg (uN lo n d) [it] it (λi h=>IsRangeIter h it (lo+(i:Nat)*d) ((n:Int)-(i:Nat)) d) where
 mem:=by simp
 obj:=λi h st b hb=>by
  grind
 keep:=λi h h' st k=>k it (by simp) _ st
 item:=by
  intro X hP hw hK i ad s Z H E I hf st hg;subst hP hw hK;have W:=Walks.range (prog:=X.prog) (w:=X.w) I.ok.hd it lo d n;refine W.item i s _ _ hg st λv h' tk hv gw kk=>?_
  obtain⟨t,rfl⟩:=hv;have I1:Inv X ad Z H { s with heap:=h',toks:=tk }:=I.turnM hf λb o hb e=>kk b o hb e
  exact⟨_,rfl,BP (s:={ s with heap:=h',toks:=tk }) (n:="range_iterator") gw rfl rfl nofun ⟨.int (lo+i*d),H,I1,⟨t,rfl⟩,⟨rfl,rfl⟩,gw,λb hb=>(hf b hb).1⟩⟩
 done:=by
  intro X hP hw hK i ad s Z H E I hf st hg;subst hP hw hK;exact wpAny_pyNext_range_end I.ok.hd st (by have:n<=i:=hg;lia) λh' eb=>⟨rfl,I.turnM (t':=s.toks) hf λb o hb e=>eb b o (λz=>hb (by simp[z])) e⟩
 self:=λ_ _ _ _ _ st h=>wpAny_pyIter_rangeiter st h
section
variable {X:Cx}
def Nv (K:aI)(tl:TE):TI:=λZ H R=>tl Z H λx H1=>∃ a,x=.ref a/\(∃ xs,SqL K H1 a xs)/\R (GK K a) H1
def Lg (K:aI)(tl:TE):TI:=λZ H R=>tl Z H λx H1=>∃ a,x=.ref a/\(∃ xs,SqT K H1 a xs)/\R (uM K a) H1
theorem Wd {l:aT}{tl:TE}(hl:PE X l tl):PI X tg l (Nv X.K tl):=by
 intro ad s Z H R I h;refine bj (hl ad s Z H _ I h) λv s1 gh=>?_
 obtain⟨x,H1,I1,r1,q1⟩:=gh;obtain⟨a,e,⟨xs,hq⟩,q⟩:=q1;subst e;cases r1;obtain⟨its,rv,p,hz⟩:=I1.list hq;refine zV p.isList ?_;refine⟨s1.heap.objs.size,[s1.heap.objs.size],_,_,H1,rfl,I1.kept (t':=s1.toks) λb o e=>bC _ e,R6 a _,⟨_,cH _ rfl,rfl,rfl⟩,λb hb=>?_,q⟩
 have e:b=s1.heap.objs.size:=by simpa using hb
 subst e;exact I1.fpOk (bA _) (I1.hok.fresh (bA _))
theorem SV {l:aT}{tl:TE}(hl:PE X l tl):PI X tg l (Lg X.K tl):=by
 intro ad s Z H R I h;refine bj (hl ad s Z H _ I h) λv s1 gh=>?_
 obtain⟨x,H1,I1,r1,q1⟩:=gh;obtain⟨a,e,⟨xs,hq⟩,q⟩:=q1;subst e;cases r1;obtain⟨its,rv,p,hz⟩:=I1.tuple hq;refine Hz (show s1.heap.IsTuple a its.toArray from p) ?_
 refine⟨s1.heap.objs.size,[s1.heap.objs.size],_,_,H1,rfl,I1.kept (t':=s1.toks) λb o e=>bC _ e,o9 a _,⟨_,cH _ rfl,rfl,rfl⟩,λb hb=>?_,q⟩
 have e:b=s1.heap.objs.size:=by simpa using hb
 subst e;exact I1.fpOk (bA _) (I1.hok.fresh (bA _))
theorem UT{Z:St}{H:Hp}{R:It->Hp->Prop}{lo hi:Int}{t u v:Tok}{tk:Nat}(I:Inv X ad Z H s)(h1 : -(2^62)<=lo)(h2:lo<2^62)(h3 : -(2^62)<=hi)(h4:hi<2^62)
  (q:R (uN lo (hi-lo).toNat) H):aJ (aO X.prog X.w) X.A (oP (.ref s.heap.objs.size)) (PIE X ad Z tg R) E { s with heap:=s.heap.push { cls:=.type "range",data:=.fields #[.int lo t,.int hi u,.int 1 v] },toks:=tk }:=by
 refine wpAny_pyIter_range (IsRange.new ..) (small_one h1 h2 h3 h4) ?_;have I1:Inv X ad Z H { s with heap:=s.heap.push { cls:=.type "range",data:=.fields #[.int lo t,.int hi u,.int 1 v] },toks:=tk }:=I.kept λb o e=>bC _ e
 refine⟨(s.heap.push { cls:=.type "range",data:=.fields #[.int lo t,.int hi u,.int 1 v] }).objs.size,[(s.heap.push { cls:=.type "range",data:=.fields #[.int lo t,.int hi u,.int 1 v] }).objs.size],_,_,H,rfl,
  I1.kept (t':=tk) λb o e=>bC _ e,Bd _ lo (hi-lo).toNat,?_,λb hb=>?_,q⟩
 .have e1:lo+((0:Nat):Int)*1=lo:=by simp
  have e2:(((hi-lo).toNat:Nat):Int)-((0:Nat):Int)=GF lo hi 1:=by rw[rangeSize_one];split<;>lia
  show IsRangeIter _ _ (lo+((0:Nat):Int)*1) ((((hi-lo).toNat:Nat):Int)-((0:Nat):Int)) 1;rw[e1,e2];exact cH _ rfl
 .have e:b=(s.heap.push { cls:=.type "range",data:=.fields #[.int lo t,.int hi u,.int 1 v] }).objs.size:=by simpa using hb
  subst e;exact I1.fpOk (bA _) (I1.hok.fresh (bA _))
def Mi (ta:TA):TI:=λZ H R=>ta Z H λvs H1=>∃ j:Int,vs=[.int j] /\ -(2^62)<=j/\j<2^62/\R (uN 0 j.toNat) H1
def Mf (ta:TA):TI:=λZ H R=>ta Z H λvs H1=>∃ i j:Int,vs=[.int i,.int j]/\(-(2^62)<=i/\i<2^62 /\ -(2^62)<=j/\j<2^62)/\R (uN i (j-i).toNat) H1
theorem A0i {a:aT}{ta:TA}(hg:Gl X "range")(hm:X.mg "range" = ab)(ha:PA X [a] ta)(hs:bH [a] X.env=[(ah,bF a X.env)]:=by rfl):PI X tg (.Call (.Name "range" p) [a] [] pos) (Mi ta):=by
 intro ad s Z H R I h;refine Call_ (lH I hg hm boot_range (oV (bj (ha pos ad s Z H _ I h) λus s1 ⟨vs,H1,I1,r1,q1⟩=>?_) hs rfl))
 obtain⟨j,e,q1,q2,q⟩:=q1;subst e;cases r1 with
 |cons r rr=>
  cases rr;obtain⟨t,rfl⟩:=r;exact call_range_1 (UT I1 () () q1 q2 (by simpa using q))
theorem Q9 {a b:aT}{ta:TA}(hg:Gl X "range")(hm:X.mg "range" = ab)(ha:PA X [a,b] ta)(hs:bH [a,b] X.env=[(ah,bF a X.env),(ah,bF b X.env)]:=by rfl)(dv:bH [b] X.env=[(ah,bF b X.env)]:=by rfl) :
  PI X tg (.Call (.Name "range" p) [a,b] [] pos) (Mf ta):=by
 intro ad s Z H R I h;refine Call_ (lH I hg hm boot_range (oV (bj (ha pos ad s Z H _ I h) λus s1 ⟨vs,H1,I1,r1,q1⟩=>?_) (by rw[hs,dv]) (by rw[dv];rfl)))
 obtain⟨i,j,e,⟨q1,q2,q3,q4⟩,q⟩:=q1;subst e;cases r1 with
 |cons r rr=>
  cases rr with
  |cons r' rr=>
   cases rr;obtain⟨t,rfl⟩:=r;obtain⟨t',rfl⟩:=r';exact call_range_2 (UT I1 q1 q2 q3 q4 q)
def Kx (wi:TI)(g:TG)(tb:TS):TS:=λD Z H=>wi Z H λJ H1=>∃ W:Nat->Nat->St->Hp->Prop,(∃ m,W 0 m Z H1)/\∀ i m Z H,W i m Z H ->
 (J.stop i H/\D.nx Z H)\/(J.go i H/\∃ N:St->Hp->Prop,(∀ σ' H',N σ' H'->∃ m',m'<m/\W (i+1) m' σ' H')/\∀ x H',J.yld i H x H'->g x Z H' λσ2 H2=>tb { D with nx:=N,ct:=N,bk:=D.nx } σ2 H2)
def xS (fp:aan)(h:aP):lm:=fp.filterMap λb=>(h.get? b).map λo=>(b,o)
theorem EL(hb:b∈fp)(e:h.get? b=aa o):(b,o)∈xS fp h:=uD.2 ⟨b,hb,by rw[e];rfl⟩
theorem T6{p:aC×aZ}(hp:p∈xS fp h):p.1∈fp/\h.get? p.1=aa p.2:=by
 obtain⟨b,hb,e⟩:=uD.1 hp;cases q:h.get? b with
 |none=>rw[q] at e;cases e
 |some o=>
  grind
theorem Inv.pinned{Z:St}{H:Hp}(I:Inv X ad Z H s)(hf:∀ b∈fp,iI X ad H b)(ho:∀ b∈fp,∃ o,s.heap.get? b=aa o/\∀ v,o.data ≠ .cell v):Inv X (ad++xS fp s.heap) Z H s:=
 I.pins_of λp hp=>(jM.1 hp).elim (I.pin p) λz=>by
  obtain⟨hb,e⟩:=T6 z;obtain⟨f0,f1,_⟩:=hf p.1 hb
  grind
theorem Inv.unpinned {pl:lm}{Z:St}{H:Hp}(I:Inv X (ad++pl) Z H s):Inv X ad Z H s:=I.pins_of λp hp=>I.pin p (OV _ hp)
theorem TQ {bm:aT}{wi:TI}{g:TG}{tb:TS}(hi:PI X tg bm wi)(hg:PG X tg g)(hb:PSs X body tb)
  (hs:∀ x,tX bm X.env x=pure x:=by intro _;rfl):PS X (.For tg bm body [] pos) (Kx wi g tb):=by
 intro ad s Z H D I h;refine wpAny_For (bj (hi ad s Z H _ I h) λv s1 h1=>bj h1 λitv s2 h2=>?_) hs
 obtain⟨it,fp,tn,J,H2,e,I2,T,jt,f2,W,⟨m0,w0⟩,ko⟩:=h2;subst e;have kq:∀ {H':Hp},(∀ b∈fp,H' b=ab)->∀ b∈fp,iI X ad H' b:=λhn b hb=>⟨hn b hb,(f2 b hb).2⟩
 refine codeAny_forLoop_any (λn s'=>∃ i σ' H',Inv X ad σ' H' s'/\tn i s'.heap/\(∀ b∈fp,H' b=ab)/\W i n σ' H') ?_ m0 ⟨0,Z,H2,I2,jt,λb hb=>(f2 b hb).1,w0⟩
 rintro n s3 ⟨i,σ3,H3,I3,yu,yv,w3⟩;rcases ko i n σ3 H3 w3 with⟨stop,qn⟩|⟨go,N,hN,step⟩
 .refine wD .never (bj (T.done X rfl rfl rfl i ad s3 σ3 H3 X.xe I3 (kq yv) yu stop) λr s4 gh=>?_)
  obtain⟨hr,I4⟩:=gh;subst hr;exact NN ⟨σ3,H3,I4,qn⟩
 .refine wD .never (bj (T.item X rfl rfl rfl i ad s3 σ3 H3 X.xe I3 (kq yv) yu go) λr s4 gh=>?_)
  obtain⟨u,hr,h4⟩:=gh;subst hr;refine wD .never (bj h4 λ_ s5 gh=>?_)
  obtain⟨x,H5,I5,r5,y5,wj,fr5⟩:=gh;have I5':=I5.pinned (kq fr5) (T.obj _ _ wj);refine wD .never (bj (hg _ s5 σ3 H5 x u _ I5' r5 (step x H5 y5)) λ_ s6 gh=>?_)
  obtain⟨σ6,H6,I6,q6⟩:=gh;refine wD .never (bj (hb _ s6 σ6 H6 _ I6 q6) λf s7 q7=>?_)
  have again:∀ {σ7:St} {H7:Hp},Inv X (ad++xS fp s5.heap) σ7 H7 s7->N σ7 H7->∃ m,m<n/\∃ i σ' H',Inv X ad σ' H' s7/\tn i s7.heap/\(∀ b∈fp,H' b=ab)/\W i m σ' H':=λ{σ7 H7} I7 n7=>by
   obtain⟨m',hm,w7⟩:=hN σ7 H7 n7;refine⟨m',hm,i+1,σ7,H7,I7.unpinned,T.keep _ _ _ wj λb hb o e=>(I7.pin (b,o) (wR _ (EL hb e))).1,λb hb=>?_,w7⟩
   obtain⟨o,e,d⟩:=T.obj _ _ wj b hb;exact(I7.pin (b,o) (wR _ (EL hb e))).2.1
  cases f with
  |next=>obtain⟨σ7,H7,I7,n7⟩:=q7;exact again I7 n7
  |cont=>obtain⟨σ7,H7,I7,n7⟩:=q7;exact again I7 n7
  |brk=>obtain⟨σ7,H7,I7,q7⟩:=q7;exact⟨σ7,H7,I7.unpinned,q7⟩
  |ret v=>obtain⟨x7,σ7,H7,I7,r7,q7⟩:=q7;exact⟨x7,σ7,H7,I7.unpinned,r7,q7⟩
end
theorem Vi{xs:aai}{g:TG}{tb:TS}{D:Ends}{Z:St}{H:Hp}(Pv:Nat->St->Hp->Prop)(h0:Pv 0 Z H)(hl:∀ i Z H,i<=xs.length->Pv i Z H->SqT K H a xs)
  (hs:∀ i x Z H,xs[i]?=aa x->Pv i Z H->g x Z H λσ2 H2=>tb { D with nx:=Pv (i+1),ct:=Pv (i+1),bk:=D.nx } σ2 H2) (hd:∀ Z H,Pv xs.length Z H->D.nx Z H) :
  ∃ W:Nat->Nat->St->Hp->Prop,(∃ m,W 0 m Z H)/\∀ i m Z H,W i m Z H ->
   ((uM K a).stop i H/\D.nx Z H)\/((uM K a).go i H/\∃ N:St->Hp->Prop,(∀ σ' H',N σ' H'->∃ m',m'<m/\W (i+1) m' σ' H')/\∀ x H',(uM K a).yld i H x H'->g x Z H' λσ2 H2=>tb { D with nx:=N,ct:=N,bk:=D.nx } σ2 H2):=by
 refine⟨λi m Z H=>m=xs.length-i/\i<=xs.length/\Pv i Z H,⟨xs.length,by simp,cZ _,h0⟩,?_⟩
 rintro i m Z H ⟨rfl,hi,p⟩;have q:=hl i Z H hi p;by_cases bu:i<xs.length
 .refine .inr ⟨⟨xs,xs[i],q,by simp[bu]⟩,Pv (i+1),λσ' H' p'=>⟨xs.length-(i+1),(),rfl,bu,p'⟩,λx H' y=>?_⟩
  obtain⟨e,y⟩:=y;subst e;exact hs i x Z _ (y xs q) p
 .have e:i=xs.length:=()
  subst e;exact .inl ⟨⟨xs,q,bA _⟩,hd Z H p⟩
abbrev R2:=V->V->Hp->VK->Prop
def OpR (X:Cx)(f:aB->aB->Sem aB)(r:R2):Prop:=
 ∀ (ad:lm) (s:aF) (Z:St) (H:Hp) (x y:V) (v u:aB) (Q:VK),Inv X ad Z H s->RelV x v->RelV y u->r x y H Q ->
  aJ (aO X.prog X.w) X.A (f v u) (EP X ad Z Q) X.xe s
def UnR (X:Cx)(f:aB->Sem aB)(r:V->Hp->VK->Prop):Prop:=
 ∀ (ad:lm) (s:aF) (Z:St) (H:Hp) (x:V) (v:aB) (Q:VK),Inv X ad Z H s->RelV x v->r x H Q ->
  aJ (aO X.prog X.w) X.A (f v) (EP X ad Z Q) X.xe s
def Ack (X:Cx)(f:aB)(r:aai->Hp->VK->Prop):Prop:=
 ∀ (ad:lm) (s:aF) (Z:St) (H:Hp) (xs:aai) (us:aak) (Q:VK),Inv X ad Z H s->Vals xs us->r xs H Q ->
  aJ (aO X.prog X.w) X.A (call f us) (EP X ad Z Q) X.xe s
def xu (r:R2)(ta tb:TE):TE:=λZ H Q=>ta Z H λx H1=>tb Z H1 λy H2=>r x y H2 Q
def tUn (r:V->Hp->VK->Prop)(ta:TE):TE:=λZ H Q=>ta Z H λx H1=>r x H1 Q
def rI (C:Int->Int->Prop)(g:Int->Int->V):R2:=λx y H Q=>∃ i j,x=.int i/\y=.int j/\C i j/\Q (g i j) H
def ub (g:Int->Int->V):R2:=λx y H Q=>∃ i j,x=.int i/\y=.int j/\Q (g i j) H
def rU (g:Int->V):V->Hp->VK->Prop:=λx H Q=>∃ i,x=.int i/\Q (g i) H
section
variable {X:Cx}{a b:aT}{ta tb tc:TE}
theorem GP (ha:PE X a ta)(hb:PE X b tb){Z:St}{H:Hp}{R:V->V->Hp->Prop}(I:Inv X ad Z H s)
  (h:ta Z H λx H1=>tb Z H1 λy H2=>R x y H2) {Q:aB->aF->Prop} {f:aB->aB->Sem aB}
  (hf:∀ v u s2 x y H2,Inv X ad Z H2 s2->RelV x v->RelV y u->R x y H2->aJ (aO X.prog X.w) X.A (f v u) Q X.xe s2) :
  aJ (aO X.prog X.w) X.A (bF a X.env) (λv s₁=>aJ (aO X.prog X.w) X.A (bF b X.env) (λu s₂=>aJ (aO X.prog X.w) X.A (f v u) Q X.xe s₂) X.xe s₁) X.xe s:=by
 refine bj (ha ad s Z H _ I h) λv s1 gh=>?_
 obtain⟨x,H1,I1,r1,q1⟩:=gh;refine bj (hb ad s1 Z H1 _ I1 q1) λu s2 gh=>?_
 obtain⟨y,H2,I2,r2,q2⟩:=gh;exact hf v u s2 x y H2 I2 r1 r2 q2
theorem Nz {op:Operator}{r:R2}(ho:OpR X (jY op) r)(ha:PE X a ta)(hb:PE X b tb):PE X (.BinOp a op b pos) (xu r ta tb):=by
 rw[6];exact wpAny_BinOp (GP ha hb I h λv u s2 x y H2 I2 rx ry q=>ho ad s2 Z H2 x y v u Q I2 rx ry q)
theorem Ls {op:UnaryOp}{r:V->Hp->VK->Prop}(ho:UnR X (unaryOp op) r)(ha:PE X a ta):PE X (.UnaryOp op a pos) (tUn r ta):=by
 rw[6];exact UnaryOp_ (bj (ha ad s Z H _ I h) λv s1 ⟨x,H1,I1,r1,q1⟩=>ho ad s1 Z H1 x v Q I1 r1 q1)
theorem yn{C:Int->Int->Prop}{g:Int->Int->Int}
  (rule:∀ (i j:Int) (t u:Tok) (s:aF) (Q:aB->aF->Prop) (E:aB->aF->Prop),C i j->Q (.int (g i j) s.toks) { s with toks:=s.toks+1 }->aJ (aO X.prog X.w) X.A (f (.int i t) (.int j u)) Q E s) :
  OpR X f (rI C λi j=>.int (g i j)):=by
 rw[2];obtain⟨i,j,rfl,rfl,hc,q⟩:=h;obtain⟨t,rfl⟩:=rx;obtain⟨t',rfl⟩:=ry;exact rule i j t t' s _ _ hc ⟨.int (g i j),H,I.tok _,⟨_,rfl⟩,q⟩
theorem QU{g:Int->Int->Int}
  (rule:∀ (i j:Int) (t u:Tok) (s:aF) (Q:aB->aF->Prop) (E:aB->aF->Prop),Q (.int (g i j) s.toks) { s with toks:=s.toks+1 }->aJ (aO X.prog X.w) X.A (f (.int i t) (.int j u)) Q E s) :
  OpR X f (ub λi j=>.int (g i j)):=by
 rw[2];obtain⟨i,j,rfl,rfl,q⟩:=h;obtain⟨t,rfl⟩:=rx;obtain⟨t',rfl⟩:=ry;exact rule i j t t' s _ _ ⟨.int (g i j),H,I.tok _,⟨_,rfl⟩,q⟩
theorem RC{g:Int->Int->Bool}
  (rule:∀ (i j:Int) (t u:Tok) (s:aF) (Q:aB->aF->Prop) (E:aB->aF->Prop),Q (.bool (g i j)) s->aJ (aO X.prog X.w) X.A (f (.int i t) (.int j u)) Q E s) :
  OpR X f (ub λi j=>.bl (g i j)):=by
 rw[2];obtain⟨i,j,rfl,rfl,q⟩:=h;obtain⟨t,rfl⟩:=rx;obtain⟨t',rfl⟩:=ry;exact rule i j t t' s _ _ ⟨.bl (g i j),H,I,rfl,q⟩
def Ki (i j:Int):Prop:=0<j/\j<1073741824
def Ky (i j:Int):Prop:=0<=j/\j<=1000000/\i.natAbs<2^64
def Bnf (i j:Int):Prop:=(-(2^64)<i/\i<2^64)\/(-(2^64)<j/\j<2^64)
theorem Bnf.ok {i j:Int}(h:Bnf i j):IntMulOk i j:=by
 rcases h with⟨h1,h2⟩|⟨h1,h2⟩
 .exact .of_left (intBits_le_64 h1 h2)
 .exact .of_right (intBits_le_64 h1 h2)
theorem Bkx:OpR X (jY .Add) (ub λi j=>.int (i+j)):=QU λ_ _ _ _ _ _ _ q=>add_int q
theorem Pq:OpR X (jY .Sub) (ub λi j=>.int (i-j)):=QU λ_ _ _ _ _ _ _ q=>sub_int q
theorem Tt:OpR X (jY .Mult) (rI Bnf λi j=>.int (i*j)):=yn λ_ _ _ _ _ _ _ hc q=>mul_int q hc.ok
theorem Vr:OpR X (jY .FloorDiv) (rI Ki λi j=>.int (i/j)):=yn λi j _ _ _ _ _ hc q=>by
 have h1:(0:Int)<j:=hc.1;have h2:j<1073741824:=hc.2;exact floordiv_int () (by rw[Int.fdiv_eq_ediv_of_nonneg i ()];exact q) (.inl (PyProof.noPylong_small ()))
theorem Qt:OpR X (jY .Mod) (rI (λ_ j=>0<j) λi j=>.int (i%j)):=yn λi j _ _ _ _ _ hc q=>by
 have h1:(0:Int)<j:=hc;exact mod_int' () (by rw[Int.fmod_eq_emod_of_nonneg i ()];exact q)
theorem Rc:OpR X (jY .Pow) (rI Ky λi j=>.int (i^j.toNat)):=yn λ_ _ _ _ _ _ _ hc q=>pow_int_small hc.1 hc.2.1 hc.2.2 q
theorem unI {f:aB->Sem aB}{g:Int->Int}
  (rule:∀ (i:Int) (t:Tok) (s:aF) (Q:aB->aF->Prop) (E:aB->aF->Prop),Q (.int (g i) s.toks) { s with toks:=s.toks+1 }->aJ (aO X.prog X.w) X.A (f (.int i t)) Q E s) :
  UnR X f (rU λi=>.int (g i)):=by
 intro ad s Z H x v Q I rx h;obtain⟨i,rfl,q⟩:=h;obtain⟨t,rfl⟩:=rx;exact rule i t s _ _ ⟨.int (g i),H,I.tok _,⟨_,rfl⟩,q⟩
theorem Ts:UnR X (unaryOp .USub) (rU λi=>.int (-i)):=unI λ_ _ _ _ _ q=>neg_int q
end
section
variable {X:Cx}{a b:aT}{ta tb tc:TE}
theorem CC{Z:St}{H:Hp}{Q:VK}{k k':Bool}(I:Inv X ad Z H s)(q:Q (.bl k) H)(e:k=k'):EP X ad Z Q (.bool k') s:=by
 subst e;exact⟨.bl k,H,I,rfl,q⟩
theorem Bn3:OpR X (fY .Lt) (ub λi j=>.bl (decide (i<j))):=RC λ_ _ _ _ _ _ _ q=>lt_int q
theorem Nk:OpR X (fY .Gt) (ub λi j=>.bl (decide (j<i))):=RC λ_ _ _ _ _ _ _ q=>gt_int q
theorem Y4:OpR X (fY .Lt) (λx y H Q=>∃ i j,x=.str i/\y=.str j/\Q (.bl (decide (i.cps.toList<j.cps.toList))) H):=by
 rw[2];obtain⟨i,j,rfl,rfl,q⟩:=h;obtain⟨t,rfl⟩:=rx;obtain⟨t',rfl⟩:=ry;exact lt_str (CC I q rfl)
theorem R4:OpR X (fY .In) (λx y H Q=>∃ i j,x=.str i/\y=.str j/\Q (.bl (!(QD j i 0 j.length 1).isEmpty)) H):=by
 rw[2];obtain⟨i,j,rfl,rfl,q⟩:=h;obtain⟨t,rfl⟩:=rx;obtain⟨t',rfl⟩:=ry;exact in_str (CC I q rfl)
theorem Rz:OpR X (fY .Is) (λx y H Q=>y=.non/\Q (.bl (decide (x=.non))) H):=by
 rw[2];obtain⟨rfl,q⟩:=h;cases ry;refine is_none_gen (CC I q ?_);cases x<;>first
  |(cases rx;rfl)
  |(obtain⟨t,rfl⟩:=rx;rfl)
theorem Xg:OpR X (fY .IsNot) (λx y H Q=>y=.non/\Q (.bl (!decide (x=.non))) H):=by
 rw[2];obtain⟨rfl,q⟩:=h;cases ry;refine isnot_none_gen (CC I q ?_);cases x<;>first
  |(cases rx;rfl)
  |(obtain⟨t,rfl⟩:=rx;rfl)
theorem OpR.or{r r':R2}(h:OpR X f r)(h':OpR X f r'):OpR X f (λx y H Q=>r x y H Q\/r' x y H Q):=by
 intro ad s Z H x y v u Q I rx ry q;rcases q with q|q
 .exact h ad s Z H x y v u Q I rx ry q
 .exact h' ad s Z H x y v u Q I rx ry q
theorem sX (b:aT)(h:op ≠ .In:=by decide)(h2:op ≠ .NotIn:=by decide):wJ op b=ah:=by
 have e1:(op==CmpOp.In)=ah:=by cases op<;>first|rfl|exact absurd rfl h
 have e2:(op==CmpOp.NotIn)=ah:=by cases op<;>first|rfl|exact absurd rfl h2
 cases b<;>simp[wJ,e1,e2]
theorem Vl{r:R2}(ho:OpR X (fY op) r)(ha:PE X a ta)(hb:PE X b tb)(hm:wJ op b=ah):PE X (.Compare a [op] [b] pos) (xu r ta tb):=by
 rw[6];exact wpAny_Compare1 (GP ha hb I h λv u s2 x y H2 I2 rx ry q=>ho ad s2 Z H2 x y v u Q I2 rx ry q) hm
def Mt (t:TE):TT:=λZ H Q=>t Z H λx H'=>∃ k,x=.bl k/\Q k H'
theorem Hj{r:R2}(ho:OpR X (fY op) r)(ha:PE X a ta)(hb:PE X b tb)(hm:wJ op b=ah):PT X (.Compare a [op] [b] pos) (Mt (xu r ta tb)):=by
 rw[6];refine wpAny_isTrue_Compare1 (bj (ha ad s Z H _ I h) λv s1 ⟨x,H1,I1,r1,q1⟩=>bj (hb ad s1 Z H1 _ I1 q1) λu s2 ⟨y,H2,I2,r2,q2⟩=>
  bj (ho ad s2 Z H2 x y v u _ I2 r1 r2 q2) λc s3 ⟨z,H3,I3,r3,k,e,q3⟩=>?_) hm
 subst e;cases r3;exact ND ⟨H3,I3,q3⟩
theorem sZ:(sizeLine:Nat)<2^63:=by rw[kT];decide
theorem Azi:OpR X (jY .Add) (λx y H Q=>∃ i j,x=.str i/\y=.str j/\i.length+j.length<=sizeLine/\Q (.str (i++j)) H):=by
 rw[2];obtain⟨i,j,rfl,rfl,hz,q⟩:=h;obtain⟨t,rfl⟩:=rx;obtain⟨t',rfl⟩:=ry;exact add_str (λt' tk=>⟨.str (i++j),H,I.tok _,⟨_,rfl⟩,q⟩) hz
theorem vals1 {x:V}(r:Vals [x] us):∃ u,us=[u]/\RelV x u:=by
 cases r with
 |cons r1 r2=>cases r2;exact⟨_,rfl,r1⟩
theorem vals2 {x y:V}(r:Vals [x,y] us):∃ u w',us=[u,w']/\RelV x u/\RelV y w':=by
 cases r with
 |cons r1 r2=>
  cases r2 with
  |cons r3 r4=>cases r4;exact⟨_,_,rfl,r1,r3⟩
theorem F8:Ack X (.type "str") (λxs H Q=>∃ i,xs=[.int i]/\i.natAbs.log2<1920/\Q (.str (toString i)) H):=by
 rw[3];obtain⟨i,rfl,hz,q⟩:=h;obtain⟨u,rfl,t,rfl⟩:=vals1 r;exact PySem.P.str_of_int hz ⟨.str _,H,I.tok _,⟨_,rfl⟩,q⟩
end
theorem Ayn.some_of {v:V}{o:aap}(r:Ayn (aa v) o):∃ u,o=aa u/\RelV v u:=by
 cases o with
 |none=>exact(show False from r).elim
 |some u=>exact⟨u,rfl,r⟩
theorem Ayn.none_of {o:aap}(r:Ayn ab o):o=ab:=by
 cases o with
 |none=>rfl
 |some u=>exact(show False from r).elim
section
variable {X:Cx}{Z:St}{H:Hp}{c:aB}{b:Bool}
inductive TyOf (K:aI)(H:Hp):V->aB->Prop where
 |non:TyOf K H .non (.type "NoneType")
 |bl (x:Bool):TyOf K H (.bl x) (.type "bool")
 |int (i:Int):TyOf K H (.int i) (.type "int")
 |str (x:aD):TyOf K H (.str x) (.type "str")
 |flt (x:UInt64):TyOf K H (.flt x) (.type "float")
 |lst {a:aC} {xs:List V} (e:H a=aa (.lst xs)):TyOf K H (.ref a) (.type "list")
 |frz {a:aC} {o:aZ} {xs:List V} (e:H a=aa (.frz o (.lst xs))):TyOf K H (.ref a) (.type "list")
 |tup {a:aC} {xs:List V} (e:H a=aa (.tup xs)):TyOf K H (.ref a) (.type "tuple")
 |dK {a:aC} {ep:Nat} {kvs:List (aG×V)} (e:H a=aa (.dK ep kvs)):TyOf K H (.ref a) (.type "dict")
 |dT {a:aC} {ep:Nat} {kvs:List (List aA×V)} (e:H a=aa (.dT ep kvs)):TyOf K H (.ref a) (.type "dict")
theorem Z2 {x:V}{t:aB}(I:Inv X ad Z H s)(rx:RelV x u)(ty:TyOf X.K H x t)(e:Ih X.K t c=aa b)(h:∀ tk,Q (.bool b) { s with toks:=tk }) :
  aJ (aO X.prog X.w) A (call (.builtin "isinstance") [u,c]) Q E s:=by
 cases ty with
 |non=>cases(show u=eP from rx);exact oU PySem.W.kitx_none I.kIn oR e (λz=>nomatch z) h
 |bl y=>cases(show u=Value.bool y from rx);exact oU PySem.W.kitx_bool I.kIn oR e (λz=>nomatch z) h
 |int i=>obtain⟨t,q⟩:=(show ∃ t,u=pZ i t from rx);cases q;exact oU PySem.W.kitx_int I.kIn oR e (λz=>nomatch z) h
 |str y=>obtain⟨t,q⟩:=(show ∃ t,u=tZ y t from rx);cases q;exact oU PySem.W.kitx_str I.kIn oR e (λz=>nomatch z) h
 |flt y=>obtain⟨t,q⟩:=(show ∃ t,u=Value.float y t from rx);cases q;exact oU PySem.W.kitx_float I.kIn oR e (λz=>nomatch z) h
 |@lst a xs ea=>
  cases(show u=eU a from rx)
  obtain⟨_,_,n,_,h1⟩:=(show Aby X.prog X.w H s.heap a (.lst xs) from I.hok a _ ea)
  exact oU Ig I.kIn ⟨_,h1,rfl⟩ e (λz=>nomatch z) h
 |@frz a ob xs ea=>
  cases(show u=eU a from rx)
  obtain⟨_,_,_,n,_,h1⟩:=(show Aby X.prog X.w H s.heap a (.frz ob (.lst xs)) from I.hok a _ ea)
  exact oU Ig I.kIn ⟨_,h1,rfl⟩ e (λz=>nomatch z) h
 |@tup a xs ea=>
  cases(show u=eU a from rx)
  obtain⟨_,_,_,p⟩:=(show Aby X.prog X.w H s.heap a (.tup xs) from I.hok a _ ea)
  obtain⟨o,h1,h2,_⟩:=p.1;exact oU PySem.W.kitx_tuple I.kIn ⟨o,h1,h2⟩ e (λz=>nomatch z) h
 |@dK a ep kvs ea=>
  cases(show u=eU a from rx)
  obtain⟨_,_,vs,_,p⟩:=(show Aby X.prog X.w H s.heap a (.dK ep kvs) from I.hok a _ ea)
  obtain⟨o,es,h1,h2,_⟩:=p;exact oU PySem.W.kitx_dict I.kIn ⟨o,h1,h2.1⟩ e (λz=>nomatch z) h
 |@dT a ep kvs ea=>
  cases(show u=eU a from rx)
  obtain⟨_,_,xs,_,o,es,h1,h2,_⟩:=(show Aby X.prog X.w H s.heap a (.dT ep kvs) from I.hok a _ ea)
  exact oU PySem.W.kitx_dict I.kIn ⟨o,h1,h2.1⟩ e (λz=>nomatch z) h
end
structure Room (k:Nat)(A:bM):Prop where
 hd:A.handled=ab
 dp:A.depth+3*k+5<recursionLimit
 un:A.units+16*k+200<cLine
theorem Room.mono(r:Room k A)(h:j<=k):Room j A:=⟨r.hd,by have:=r.dp;lia,by have:=r.un;lia⟩
theorem Room.deeper(r:Room (k+1) A)(env:Env):Room k (A.deeper env):=
 ⟨r.hd,by have:=r.dp;show A.depth+1+3*k+5<_;lia,by have:=r.un;show A.units+3+16*k+200<_;lia⟩
theorem Room.depth(r:Room k A):A.depth<recursionLimit:=by have:=r.dp;lia
theorem Room.units(r:Room k A):A.units+64<cLine:=by have:=r.un;lia
abbrev QW:TA:=λ_ H Q=>Q [] H
abbrev HP (ta:TE)(tr:TA):TA:=λZ H Q=>ta Z H λx H1=>tr Z H1 λxs H2=>Q (x::xs) H2
section
variable {X:Cx}{te:TE}{t:TA}
theorem iN:PA X [] QW:=λ_ _ _ _ H Q I h=>QC ⟨[],H,I,.nil,h⟩
theorem gJ (ha:PE X e te)(hr:PA X es t)(hs:bH (e::es) X.env=(ah,bF e X.env)::bH es X.env:=by rfl):PA X (e::es) (HP te t):=by
 intro pos ad s Z H Q I h;rw[hs];show aJ _ _ (spliced ((ah,bF e X.env)::iF pos (bH es X.env))) _ _ s;refine GE (bj (ha ad s Z H _ I h) λu s1 gh=>?_)
 obtain⟨x,H1,I1,r1,q1⟩:=gh;exact bj (hr pos ad s1 Z H1 _ I1 q1) λus s2 ⟨xs,H2,I2,r2,q2⟩=>⟨x::xs,H2,I2,.cons r1 r2,q2⟩
def Lb (t:TA):TE:=λZ H Q=>t Z H λxs H1=>xs.length<=sizeLine/\∀ p,H1 p=ab->Q (.ref p) (ax H1 p (.tup xs))
def Ly (t:TA):TE:=λZ H Q=>t Z H λxs H1=>xs.length<=sizeLine/\∀ p,H1 p=ab->Q (.ref p) (ax H1 p (.lst xs))
theorem Rg {x1}(h:PA X es t):PE X (.Tuple es x1 pos) (Lb t):=by
 intro ad s Z H Q I hq;refine wpAny_Tuple_spliced (bj (h pos ad s Z H _ I hq) λus s1 ⟨xs,H1,I1,r,z,q⟩=>⟨by rw[<-r.length];exact z,?_⟩)
 have hf:H1 s1.heap.objs.size=ab:=I1.hok.fresh (bA _);refine⟨.ref s1.heap.objs.size,ax H1 s1.heap.objs.size (.tup xs),I1.laid (t':=s1.toks) (λb u e=>bC _ e) (bA _) ?_,rfl,q _ hf⟩
 exact⟨z,us,r,⟨_,cH _ rfl,rfl,_,rfl⟩,_,cH _ rfl,rfl⟩
theorem Sg (h:PA X es t):PE X (.List es pos) (Ly t):=by
 intro ad s Z H Q I hq;refine wpAny_List_spliced (bj (h pos ad s Z H _ I hq) λus s1 ⟨xs,H1,I1,r,z,q⟩=>⟨by rw[<-r.length];exact z,?_⟩)
 have hf:H1 s1.heap.objs.size=ab:=I1.hok.fresh (bA _);refine⟨.ref s1.heap.objs.size,ax H1 s1.heap.objs.size (.lst xs),I1.laid (t':=s1.toks) (λb u e=>bC _ e) (bA _) ?_,rfl,q _ hf⟩
 exact⟨z,us,0,r,cH _ rfl⟩
end
abbrev Sp:=aai->Hp->VK->Prop
structure Env0 (P:bE)(w:aX)(K:aI)(mg:aD->Option aB)(base:aP)(s:aF)(H:Hp):Prop where
 mod:Mod K mg base
 bs:∀ b o,base.get? b=aa o->s.heap.get? b=aa o/\H b=ab
 bsz:base.objs.size<=s.heap.objs.size
 hok:HOk P w H s.heap
 bare:AllBare s.gens
def CR (P:bE)(w:aX)(H:Hp)(s:aF)(Q:VK)(r:mY)(s':aF):Prop:=
 match r with
 |.ok (.ret u)=>∃ v H',s'.os=s.os/\AllBare s'.gens/\Un [] H H' s.heap s'.heap/\HOk P w H' s'.heap/\RelV v u/\Q v H'
 |_=>False
structure FnOk (P:bE)(w:aX)(K:aI)(mg:aD->Option aB)(base:aP)(k:Nat)(f:aC)(fd:jE)(ps:List aD)(sp:Sp):Prop where
 len:∀ vs H Q,sp vs H Q->vs.length=ps.length
 run:∀ (A:bM) (s:aF) (H:Hp) (args:Args) (us:List aB) (vs:List V) (Q:VK),Room k A->Env0 P w K mg base s H->BindsTo s fd args (ps.zip us)->Vals vs us->sp vs H Q ->
  jJ (aO P w) A (.call (.ref f) args) (CR P w H s Q) s
section
variable {P:bE}{w:aX}{f:aC}{sp sp':Sp}
theorem FnOk.imp (F:FnOk P w K mg base k f fd ps sp)(h:∀ vs H Q,sp' vs H Q->sp vs H Q):FnOk P w K mg base k f fd ps sp':=
 ⟨λvs H Q q=>F.len vs H Q (h _ _ _ q),λA s H args us vs Q hr he hb hv hs=>F.run A s H args us vs Q hr he hb hv (h _ _ _ hs)⟩
end
section
variable {X:Cx}{Z:St}{H:Hp}{s':aF}
theorem Inv.env0 (I:Inv X ad Z H s):Env0 X.prog X.w X.K X.mg X.base s H:=⟨I.ok.mod,I.bs,cQ I.ok.bsz I.sz,I.hok,I.bare⟩
end
def RI (sp:Sp)(dvs:aai)(t:TA):TE:=λZ H Q=>t Z H λvs H1=>sp (vs++dvs) H1 Q
def Binds (K:aI)(fd:jE)(ps:aal)(ds:aak):Prop:=
 ∀ (s:aF) (us:aak),K.In s.heap->(us++ds).length=ps.length->BindsTo s fd ⟨us,[]⟩ (ps.zip (us++ds))
theorem Binds.all(h:∀ us:aak,us.length=ps.length->bindArgs fd ⟨us,[]⟩=pure (ps.zip us)):Binds K fd ps []:=λs us _ hl=>by
 rw[oW] at hl ⊢;exact .of_eq (h us hl)
section
variable {X:Cx}{f:aC}{sp:Sp}{dvs:aai}{ds:aak}{t:TA}
theorem UM (F:FnOk X.prog X.w X.K X.mg X.base k f fd ps sp)(hr:Room k X.A)(hg:Gl X x)(hm:X.mg x=aa (.ref f))(hk:uA X.K (.ref f)=af)(hb:Binds X.K fd ps ds)(hd:Vals dvs ds)
  (ha:PA X (e::es) t) (kr:(x==("__debug__" : aD))=ah:=by decide) (he:bH (e::es) X.env=(ah,bF e X.env)::bH es X.env:=by rfl) (dr:(iF pos (bH es X.env)).any (·.1)=ah:=by rfl) :
  PE X (.Call (.Name x p) (e::es) [] pos) (RI sp dvs t):=by
 rw[6];refine Ic (En I hg hm ?_ kr);refine PySem.W.callWith_K (h₀:=X.base) I.ok.mod.kin hk (bj (ha pos ad s Z H _ I h) λus s1 ⟨vs,H1,I1,r,q⟩=>⟨I1.kIn,?_⟩) he dr
 have r2:Vals (vs++dvs) (us++ds):=r.append hd;refine wpAny_call (AB (F.run X.A s1 H1 ⟨us,[]⟩ (us++ds) (vs++dvs) Q hr I1.env0 (hb s1 us I1.kIn (by rw[<-r2.length];exact F.len _ _ _ q)) r2 q) λr s' hq=>?_)
 match r,hq with
 |.ok (.ret u),⟨v,H',os,bare,un,hok,r,q⟩=>exact⟨v,H',I1.step os un hok bare (λb z=>nomatch z),r,q⟩
end
structure FnScope (N P:List aD)(sc:fS):Prop where
 kind:sc.kind=.function
 co:sc.isCoroutine=ah
 gen:sc.isGenerator=ah
 nd:N.Nodup
 pre:N.take P.length=P
 par:∀ x∈P,sc.names.lookup x=aa .local\/sc.names.lookup x=aa .cell
 nofree:∀ y∈sc.names,y.2 ≠ .free
theorem YQ {kindOf:aD->Option jD}:∀ {binds:List (aD×aB)} {m:aD->aap},(∀ v,(x,v)∉binds)->bindL kindOf binds m x=m x
 |[],_,_=>rfl
 |(n,v)::r,m,h=>by
  unfold bindL;rw[YQ λw hw=>h w (bI _ hw)]
  split
  all_goals grind
theorem ZM {kindOf:aD->Option jD}:∀ {binds:List (aD×aB)} {m:aD->aap},(∀ v,(x,v)∉binds)->bindC kindOf binds m x=m x
 |[],_,_=>rfl
 |(n,v)::r,m,h=>by
  unfold bindC;rw[ZM λw hw=>h w (bI _ hw)]
  split
  all_goals grind
theorem YB {kindOf:aD->Option jD}{x:aD}{v:aB}:∀ {P:aal} {vs:aak} {i:Nat} {m:aD->aap},P.Nodup->P[i]?=aa x->vs[i]?=aa v->kindOf x=aa .local ->
  bindL kindOf (P.zip vs) m x=aa v
 |[],_,_,_,_,h,_,_=>by simp at h
 |_::_,[],_,_,_,_,h,_=>by simp at h
 |p::P,w::vs,0,m,nd,h1,h2,hk=>by
  simp at h1 h2;subst h1;subst h2;show bindL kindOf ((p,w)::P.zip vs) m p=_;unfold bindL;rw[YQ λv hv=>(nA.1 nd).1 (Iz hv).1,if_pos hk]
  simp
 |p::P,w::vs,i+1,m,nd,h1,h2,hk=>by
  show bindL kindOf ((p,w)::P.zip vs) m x=_;unfold bindL;exact YB (i:=i) (nA.1 nd).2 (by simpa using h1) (by simpa using h2) hk
theorem ZK {kindOf:aD->Option jD}{x:aD}{v:aB}:∀ {P:aal} {vs:aak} {i:Nat} {m:aD->aap},P.Nodup->P[i]?=aa x->vs[i]?=aa v->kindOf x≠aa .local ->
  bindC kindOf (P.zip vs) m x=aa v
 |[],_,_,_,_,h,_,_=>by simp at h
 |_::_,[],_,_,_,_,h,_=>by simp at h
 |p::P,w::vs,0,m,nd,h1,h2,hk=>by
  simp at h1 h2;subst h1;subst h2;show bindC kindOf ((p,w)::P.zip vs) m p=_;unfold bindC;rw[ZM λv hv=>(nA.1 nd).1 (Iz hv).1,if_neg hk]
  simp
 |p::P,w::vs,i+1,m,nd,h1,h2,hk=>by
  show bindC kindOf ((p,w)::P.zip vs) m x=_;unfold bindC;exact ZK (i:=i) (nA.1 nd).2 (by simpa using h1) (by simpa using h2) hk
def start (N:aal)(vs:aai):St:=vs.map aa++uB (N.length-vs.length) ab
noncomputable def pC (P:bE)(w:aX)(K:aI)(mg:aD->aap)(base:aP)(N:aal)(qual:aD)(scope:fS)(f:aC)(cd:aB)(A:bM)(s:aF)(H:Hp):Cx where
 prog:=P
 w:=w
 K:=K
 mg:=mg
 base:=base
 A:=A.deeper (envOfC qual scope s.heap.objs.size f cd)
 N:=N
 s₀:=s
 H₀:=H
 env:=envOfC qual scope s.heap.objs.size f cd
 ex:=[]
 fn:=λ_=>af
theorem UY {sc:fS}{n:Nat}(h:sc.names.lookup x=aa .cell):∃ c,(iS n sc.names []).lookup x=aa c:=by
 have q:=PySem.W.cellsFrom_some sc.names n [] (.inl h);exact FN.1 q
theorem X9 {P:bE}{w:aX}{N:aal}{qual:aD}{scope:fS}{f:aC}{cd:aB}{s1:aF}{H:Hp}{vs:aai}
  (S:FnScope N ps scope) (hd:A.handled=ab) (e0:Env0 P w K mg base s H) (hl:vs.length=ps.length) (r:Vals vs us)
  (x:InCallC s s.heap.objs.size (bindL (envOfC qual scope s.heap.objs.size f cd).kindOf (ps.zip us) λ_=>ab) (iS (s.heap.objs.size+1) scope.names []) (bindC (envOfC qual scope s.heap.objs.size f cd).kindOf (ps.zip us) λ_=>ab) s1) :
  Inv (pC P w K mg base N qual scope f cd A s H) [] (start N vs) H s1:=by
 have dr:ps.length<=N.length:=by have:=congrArg OY S.pre;rw[mH] at this;lia
 obtain⟨h1,tk,rfl,hk⟩:=x.done;refine⟨⟨e0.mod,S.kind,rfl,rfl,bA _,λy z c h1 h2=>?_,λy hy=>?_,λy c _ h=>?_,hd,(λb z=>nomatch z),e0.bs,e0.bsz,(λb _ _ z=>nomatch z)⟩,
  rfl,e0.bare,Un.kept hk,⟨_,x.toInCall.ns,λi y v h1 h2 h3=>?_⟩,λy c h=>⟨_,x.cell y c h⟩,e0.hok.fresh (bA _),λy c h=>?_,(λp hp=>nomatch hp),e0.hok.kept hk,?_⟩
 .exact name_of_addr x.apart (wM h1) (wM h2)
 .have hy:scope.names.lookup y=aa .cell\/scope.names.lookup y=aa .free:=hy;rcases hy with hy|hy
  .exact UY hy
  .exact absurd rfl (S.nofree _ (wM hy))
 .exact mE (x.above y c (wM h))
 .have hi:i<vs.length:=by
   unfold start at h2;by_cases hi:i<vs.length
   all_goals grind
  have ha:vs[i]?=aa v:=by
   unfold start at h2
   grind
  obtain⟨u,hu,rv⟩:=r.get ha;have hp:ps[i]?=aa y:=by
   rw[<-S.pre,Jf ()];exact h1
  have ndP:ps.Nodup:=by rw[<-S.pre];exact S.nd.sublist (List.take_sublist _ _)
  refine⟨u,rv,?_⟩;rcases S.par y (eW hp) with k|k
  .exact .inl ⟨k,YB ndP hp hu k⟩
  .obtain⟨c,e⟩:=UY (n:=s.heap.objs.size+1) k;refine .inr ⟨.inl k,c,e,?_⟩;have q:=x.cell y c e;rw[ZK ndP hp hu (by show scope.names.lookup y≠_;rw[k];decide)] at q
   exact q
 .exact e0.hok.fresh (mE (x.above y c (wM h)))
 .unfold start;show _=N.length;rw[jN,bT,List.length_replicate]
  lia
theorem RW {P:bE}{w:aX}{f:aC}{name qual:aD}{params:Arguments}{scope:fS}{dV kV ia pm ca ct oc:aB}{an od:Option aC}
  {oy:aab} {N ps:aal} {sp:Sp} (lk:K.lookup f=aa ⟨oc,od,.func (qA name qual params body scope dV kV ia pm an ca ct),oy⟩) (ly:AD K ca qual=af) (S:FnScope N ps scope)
  (len:∀ vs H Q,sp vs H Q->vs.length=ps.length)
  (qj:∀ (A:bM) (s:aF) (H:Hp) (vs:aai) (Q:VK),Room k (A.deeper (envOfC qual scope s.heap.objs.size f ca))->sp vs H Q ->
   ∃ t,PSs (pC P w K mg base N qual scope f ca A s H) body t/\t { nx:=λ_ H'=>Q .non H',rt:=Q } (start N vs) H) :
  FnOk P w K mg base (k+1) f (qA name qual params body scope dV kV ia pm an ca ct) ps sp:=by
 refine⟨len,λA s H args us vs Q hr e0 hb r su=>?_⟩
 have hl:=len _ _ _ su;have KX:K.In s.heap:=e0.mod.kin.keeps λb o e=>(e0.bs b o e).1
 have lim:s.heap.NoLimit:=e0.mod.nolimit.keeps λb o e=>(e0.bs b o e).1
 have ql:∀ y∈ps.zip us,scope.names.lookup y.1=aa .local\/(scope.names.lookup y.1=aa .cell/\((iS (s.heap.objs.size+1) scope.names []).lookup y.1).isSome=af):=λ⟨n,v⟩ hy=>by
  rcases S.par n (Iz hy).1 with q|q
  .exact .inl q
  .exact .inr ⟨q,PySem.W.cellsFrom_some _ _ _ (.inl q)⟩
 refine codeAny_call_function hr.depth (KX _ _ lk) rfl S.co S.gen rfl (PySem.W.codeRec_of KX ly) (hb _ _ _ _ ?_);refine wpAny_newFunctionEnv_cells S.kind ql λenv he s1 x=>?_
 subst he;refine⟨lim.keeps x.toInCall.keep,codeAny_func ?_⟩;obtain⟨t,ht,hq⟩:=qj A s H vs Q (hr.deeper _) su;refine mA (ht [] s1 (start N vs) H _ (X9 S hr.hd e0 hl r x) hq) (λfl s' hs=>?_) λe s' hs=>hs.elim
 cases fl with
 |ret u=>
  obtain⟨v,σ',H',J,rv,q⟩:=hs;exact⟨v,H',J.os,J.bare,J.base,J.hok,rv,q⟩
 |next=>
  obtain⟨σ',H',J,q⟩:=hs;exact⟨.non,H',J.os,J.bare,J.base,J.hok,rfl,q⟩
 |brk=>exact hs.elim λ_ ⟨_,_,q⟩=>False.elim q
 |cont=>exact hs.elim λ_ ⟨_,_,q⟩=>False.elim q
section
variable {X:Cx}{t:TA}{id T:String}{r:aai->Hp->VK->Prop}
def tCB (r:aai->Hp->VK->Prop)(t:TA):TE:=λZ H Q=>t Z H λvs H1=>r vs H1 Q
theorem DC (hc:Ack X (.builtin id) r)(hg:Gl X x)(hm:X.mg x=ab)(hv:mX x=aa (.builtin id))(ha:PA X (e::es) t)(hn:x ≠ "__name__":=by decide)(kr:(x==("__debug__" : aD))=ah:=by decide)
  (he:bH (e::es) X.env=(ah,bF e X.env)::bH es X.env:=by rfl) (dr:(iF pos (bH es X.env)).any (·.1)=ah:=by rfl):PE X (.Call (.Name x p) (e::es) [] pos) (tCB r t):=by
 rw[6];refine Ic (lH I hg hm hv ?_ hn kr);exact PyProof.Rows.callWith_builtin1 (bj (ha pos ad s Z H _ I h) λus s1 ⟨vs,H1,I1,r1,q1⟩=>hc ad s1 Z H1 vs us Q I1 r1 q1) he dr
theorem vW (hc:Ack X (.type T) r)(hg:Gl X x)(hm:X.mg x=ab)(hv:mX x=aa (.type T))(ha:PA X (e::es) t)(hn:x ≠ "__name__":=by decide)(kr:(x==("__debug__" : aD))=ah:=by decide)
  (he:bH (e::es) X.env=(ah,bF e X.env)::bH es X.env:=by rfl) (dr:(iF pos (bH es X.env)).any (·.1)=ah:=by rfl):PE X (.Call (.Name x p) (e::es) [] pos) (tCB r t):=by
 rw[6];refine Ic (lH I hg hm hv ?_ hn kr);exact oV (bj (ha pos ad s Z H _ I h) λus s1 ⟨vs,H1,I1,r1,q1⟩=>hc ad s1 Z H1 vs us Q I1 r1 q1) he dr
end
section
variable {κ:Type}[DecidableEq κ]
def dH (kvs:List (κ×V))(k:κ):Option V:=(kvs.find? λkv=>decide (kv.1=k)).map (·.2)
noncomputable def putK (kvs:List (κ×V))(k:κ)(v:V):List (κ×V):=
 if (kvs.any λkv=>decide (kv.1=k))=af then kvs.map (λkv=>if kv.1=k then(kv.1,v) else kv) else kvs++[(k,v)]
theorem lT {p:κ×V}{r:List (κ×V)}{k:κ}(e:p.1=k):dH (p::r) k=aa p.2:=by simp[dH,iW,e]
theorem kP {p:κ×V}{r:List (κ×V)}{k:κ}(e:¬ p.1=k):dH (p::r) k=dH r k:=by simp[dH,iW,e]
theorem yJ (k:κ):∀ kvs:List (κ×V),(kvs.any λkv=>decide (kv.1=k))=(dH kvs k).isSome
 |[]=>rfl
 |p::r=>by
  rw[xB];by_cases e:p.1=k
  .simp only[lT e,decide_eq_true e,Bool.true_or,Option.isSome_some]
  .rw[kP e,decide_eq_false e,Kd];exact yJ k r
theorem XX (k j:κ)(y:V):∀ kvs:List (κ×V),dH (kvs.map λkv=>if kv.1=k then(kv.1,y) else kv) j=(dH kvs j).map λx=>if j=k then y else x
 |[]=>rfl
 |p::r=>by
  have ih:=XX k j y r;rw[dB];by_cases h:p.1=k
  .rw[if_pos h];by_cases e:p.1=j
   .rw[lT (p:=(p.1,y)) e,lT e,OG,if_pos (e.symm.trans h)]
   .rw[kP (p:=(p.1,y)) e,kP e,ih]
  .rw[if_neg h];by_cases e:p.1=j
   .rw[lT (p:=p) e,lT e,OG,if_neg (λz=>h (e.trans z))]
   .rw[kP (p:=p) e,kP e,ih]
theorem ZZ (k j:κ)(y:V):∀ kvs:List (κ×V),dH kvs k=ab->dH (kvs++[(k,y)]) j=if j=k then aa y else dH kvs j
 |[],_=>by
  by_cases e:k=j
  .rw[if_pos e.symm];exact lT (p:=(k,y)) e
  .rw[if_neg (λz=>e z.symm)];exact kP (p:=(k,y)) e
 |p::r,hn=>by
  rw[AU];have hk:¬ p.1=k:=λz=>by rw[lT z] at hn;cases hn
  rw[kP hk] at hn;have ih:=ZZ k j y r hn;by_cases e:p.1=j
  .rw[lT e,lT e,if_neg (λz=>hk (e.trans z))]
  .rw[kP e,kP e,ih]
theorem M3 (kvs:List (κ×V))(k j:κ)(y:V):dH (putK kvs k y) j=if j=k then aa y else dH kvs j:=by
 unfold putK;by_cases a:(kvs.any λkv=>decide (kv.1=k))=af
 .rw[if_pos a,XX];rw[yJ] at a;by_cases e:j=k
  .obtain⟨x,hx⟩:=FN.1 a
   grind
  .rw[if_neg e];cases dH kvs j with
   |none=>rfl
   |some x=>rw[OG,if_neg e]
 .rw[if_neg a];refine ZZ k j y kvs ?_;rw[yJ] at a;cases q:dH kvs k with
  |none=>rfl
  |some x=>rw[q] at a;exact(a rfl).elim
theorem vY (kvs:List (κ×V))(k:κ)(v:V):(putK kvs k v).length<=kvs.length+1:=by
 unfold putK
 grind
theorem Ayn.isSome_eq {o:Option V}{u:aap}(r:Ayn o u):o.isSome=u.isSome:=by
 cases o with
 |none=>cases u with
  |none=>rfl
  |some _=>exact(show False from r).elim
 |some _=>cases u with
  |none=>exact(show False from r).elim
  |some _=>rfl
theorem Ayn.getD {o:Option V}{u:aap}{d:V}{d':aB}(r:Ayn o u)(rd:RelV d d'):RelV (o.getD d) (u.getD d'):=by
 cases o with
 |none=>cases u with
  |none=>exact rd
  |some _=>exact(show False from r).elim
 |some _=>cases u with
  |none=>exact(show False from r).elim
  |some _=>exact r
theorem KV.val {kvs:List (κ×V)}{vs:List (κ×aB)}(r:KV kvs vs)(k:κ):Ayn (dH kvs k) (wF vs k):=by
 unfold KV at r;induction r with
 |nil=>exact oR
 |@cons p q ps qs h t ih=>
  obtain⟨h1,h2⟩:=h;by_cases e:p.1=k
  .have e':q.1=k:=h1.symm.trans e;have b:wF (q::qs) k=aa q.2:=by simp[wF,iW,e']
   rw[lT e,b];exact h2
  .have e':¬ q.1=k:=λz=>e (h1.trans z)
   have b:wF (q::qs) k=wF qs k:=by simp[wF,iW,e']
   rw[kP e,b];exact ih
theorem KV.any {kvs:List (κ×V)}{vs:List (κ×aB)}(r:KV kvs vs)(k:κ):(kvs.any λkv=>decide (kv.1=k))=vs.any λkv=>decide (kv.1=k):=by
 unfold KV at r;induction r with
 |nil=>rfl
 |cons h t ih=>rw[xB,xB,ih,h.1]
theorem KV.repl {kvs:List (κ×V)}{vs:List (κ×aB)}(r:KV kvs vs)(k:κ){y:V}(ry:RelV y u) :
  KV (kvs.map λkv=>if kv.1=k then(kv.1,y) else kv) (vs.map λkv=>if kv.1=k then(kv.1,u) else kv):=by
 unfold KV at r ⊢;induction r with
 |nil=>exact .nil
 |@cons p q ps qs h t ih=>
  rw[dB,dB];refine .cons ?_ ih
  grind
theorem KV.put {kvs:List (κ×V)}{vs:List (κ×aB)}(r:KV kvs vs)(k:κ){y:V}(ry:RelV y u):KV (putK kvs k y) (stored vs k u):=by
 unfold putK stored;rw[r.any k];by_cases e:(vs.any λkv=>decide (kv.1=k))=af
 .rw[if_pos e,if_pos e];exact r.repl k ry
 .rw[if_neg e,if_neg e];exact Paired.snoc r ⟨rfl,ry⟩
theorem KV.length {kvs:List (κ×V)}{vs:List (κ×aB)}(r:KV kvs vs):kvs.length=vs.length:=iU r
end
theorem nX {P:bE}{w:aX}{k:aG}(r:RelV (kV k) u):(dP P w).is k u=af:=by
 cases k with
 |inl i=>obtain⟨t,e⟩:=(show ∃ t,u=pZ i t from r);subst e;exact zF P w i t
 |inr x=>obtain⟨t,e⟩:=(show ∃ t,u=tZ x t from r);subst e;exact tT P w x t
abbrev KT (H:Hp):jp->List (List aA×aC×aB)->Prop:=bY λp q=>p.1=q.1/\Ajz H p.1 q.2.1/\RelV p.2 q.2.2
theorem KT.val {H:Hp}{kvs:jp}(r:KT H kvs xs)(k:aag):Ayn (dH kvs k) ((oQ xs k).map (·.2)):=by
 induction r with
 |nil=>exact oR
 |@cons p q ps qs h t ih=>
  obtain⟨h1,_,h2⟩:=h;by_cases e:p.1=k
  .have e':q.1=k:=h1.symm.trans e;have b:oQ (q::qs) k=aa q.2:=by simp[oQ,iW,e']
   rw[lT e,b];exact h2
  .have e':¬ q.1=k:=λz=>e (h1.trans z)
   have b:oQ (q::qs) k=oQ qs k:=by simp[oQ,iW,e']
   rw[kP e,b];exact ih
theorem KT.repl {H:Hp}{kvs:jp}(r:KT H kvs xs)(k:aag){y:V}(ry:RelV y u) :
  KT H (kvs.map λkv=>if kv.1=k then(kv.1,y) else kv) (xs.map (putAt k u)):=by
 induction r with
 |nil=>exact .nil
 |@cons p q ps qs h t ih=>
  rw[dB,dB];refine .cons ?_ ih;obtain⟨h1,h2,h3⟩:=h;unfold putAt
  grind
theorem KT.put {H:Hp}{kvs:jp}(r:KT H kvs xs)(k:aag){y:V}(hb:Ajz H k b)(ry:RelV y u) :
  KT H (putK kvs k y) (pX xs k b u):=by
 have e:(kvs.any λkv=>decide (kv.1=k))=(oQ xs k).isSome:=by
  rw[yJ,(r.val k).isSome_eq,OI]
 unfold putK pX;rw[e];by_cases q:(oQ xs k).isSome=af
 .rw[if_pos q,if_pos q];exact r.repl k ry
 .rw[if_neg q,if_neg q];exact Paired.snoc r ⟨rfl,hb,ry⟩
theorem KT.keeps {H H':Hp}{kvs:jp}(r:KT H kvs xs)(ht:∀ b ys,H b=aa (.tup ys)->H' b=aa (.tup ys)):KT H' kvs xs:=
 Paired.mapP r λ_ _ z=>⟨z.1,z.2.1.keep ht,z.2.2⟩
section
variable {P:bE}{w:aX}{H:Hp}
theorem RP {u:HO}(ok:HOk P w H h)(e:Rd H a u):Aby P w H h a u:=e.ok ok
theorem Lj{kvs:li}(ok:HOk P w H h)(e:Rd H a (.dK ep kvs)):kvs.length<=sizeLine/\(a==fW)=ah/\∃ vs,KV kvs vs/\h.DictAt (dP P w) a vs ep:=
 show Aby P w H h a (.dK ep kvs) from RP ok e
theorem pK{kvs:li}(ok:HOk P w H h)(e:Rd H a (.dK ep kvs)):kvs.length<=sizeLine/\(a==fW)=ah/\∃ vs,KV kvs vs/\h.DictOf (dP P w) a vs:=
 let ⟨z,y,vs,r,d⟩:=Lj ok e;⟨z,y,vs,r,d.dictOf⟩
theorem zT{kvs:li}(ok:HOk P w H h)(e:H a=aa (.dK ep kvs)):kvs.length<=sizeLine/\(a==fW)=ah/\∃ vs,KV kvs vs/\h.DictOf (dP P w) a vs:=pK ok (.inl e)
theorem zG {P:bE}{w:aX}(hu:A.units+40<cLine):(jA P w).room A.in1:=by
 show A.in1.units+20<cLine
 grind
mutual
theorem YF (ok:HOk P w H h):∀ (d:aA) {v:V} {u:aB},Ahe H d v->RelV v u->∃ as,kW h u d as
 |.int i,v,u,k,r=>by
  have e:v=.int i:=by simpa [Ahe] using k
  subst e;obtain⟨t,rfl⟩:=r;exact⟨_,.int i t⟩
 |.str x,v,u,k,r=>by
  have e:v=.str x:=by simpa [Ahe] using k
  subst e;obtain⟨t,rfl⟩:=r;exact⟨_,.str x t⟩
 |.tuple ds,v,u,k,r=>by
  simp only[Ahe] at k;obtain⟨a,xs,rfl,e,ks⟩:=k;cases r;obtain⟨_,its,rv,⟨o,h1,h2,n,h3⟩,_⟩:=(show Aby P w H h a (.tup xs) from ok a _ e)
  obtain⟨as,ra⟩:=ZL ok ds ks rv;exact⟨as,.tuple h1 h2 h3 (by simpa using ra)⟩
 |.none,v,u,k,r=>by simp[Ahe] at k
 |.bool _,v,u,k,r=>by simp[Ahe] at k
 |.list _,v,u,k,r=>by simp[Ahe] at k
 |.dict _,v,u,k,r=>by simp[Ahe] at k
theorem ZL (ok:HOk P w H h):∀ (ds:aag) {vs:aai} {us:aak},Ad8 H ds vs->Vals vs us->∃ as,jB h us ds as
 |[],vs,us,k,r=>by
  have e:vs=[]:=by simpa [Ad8] using k
  subst e;cases r;exact⟨_,.nil⟩
 |d::ds,vs,us,k,r=>by
  simp only[Ad8] at k;obtain⟨x,rr,rfl,k1,k2⟩:=k;cases r with
  |cons r1 r2=>
   obtain⟨as,ra⟩:=YF ok d k1 r1;obtain⟨bs,rb⟩:=ZL ok ds k2 r2;exact⟨_,.cons ra rb⟩
end
theorem key_of(ok:HOk P w H h)(e:Ajz H ks a):(jA P w).is h ks a:=by
 obtain⟨k1,k2,xs,e,gx⟩:=e;refine⟨k1,k2,?_⟩;exact YF ok (.tuple ks) (v:=.ref a) (u:=.ref a) (by simp only[Ahe];exact⟨a,xs,rfl,e,gx⟩) rfl
theorem sQ {kvs:jp}(ok:HOk P w H h)(e:∃ ep,Rd H a (.dT ep kvs)):kvs.length<=sizeLine/\(a==fW)=ah /\
  ∃ xs,KT H kvs xs/\h.DictOfH (jA P w) a xs:=by
 obtain⟨ep,e⟩:=e;obtain⟨z,y,xs,r,o,es,h1,h2,h3,h4,h5⟩:=(show Aby P w H h a (.dT ep kvs) from RP ok e)
 refine⟨z,y,xs,r,o,es,ep,h1,h2,h3,h4,λx hx=>?_,h5⟩
 have all:∀ {l:jp} {m:List (List aA×aC×aB)},KT H l m->∀ x∈m,(jA P w).is h x.1 x.2.1:=by
  intro l m q;induction q with
  |nil=>intro x hx;exact nomatch hx
  |@cons p q ps qs hq t ih=>
   intro x hx;rcases cI.1 hx with e|hx
   .subst e;exact key_of ok (by rw[<-hq.1];exact hq.2.1)
   .exact ih x hx
 exact all r x hx
theorem Ni{kvs:jp}(ok:HOk P w H h)(e:H a=aa (.dT ep kvs)):kvs.length<=sizeLine/\(a==fW)=ah /\
  ∃ xs,KT H kvs xs/\h.DictOfH (jA P w) a xs:=sQ ok ⟨ep,.inl e⟩
end
def qJ (H:Hp)(a:aC)(y:V)(r:Option V):Prop:=
 (∃ ep kvs k,Rd H a (.dK ep kvs)/\y=kV k/\r=dH kvs k)\/∃ kvs k b,(∃ ep,Rd H a (.dT ep kvs))/\y=.ref b/\Ajz H k b/\r=dH kvs k
def QR (H:Hp)(a:aC)(y v:V)(H':Nat->Hp):Prop:=
 (∃ ep kvs k,H a=aa (.dK ep kvs)/\y=kV k/\kvs.length<sizeLine/\H'=λn=>ax H a (.dK n (putK kvs k v))) \/
 ∃ kvs k b,(∃ ep,H a=aa (.dT ep kvs))/\y=.ref b/\Ajz H k b/\kvs.length<sizeLine/\H'=λn=>ax H a (.dT n (putK kvs k v))
section
variable {X:Cx}{Z:St}{H:Hp}{y v:V}{r:aB}{o:Option V}
theorem Inv.big (I:Inv X ad Z H s):fW<s.heap.objs.size:=by
 have h:fX<s.heap.objs.size:=(I.mod.glob.keeps I.bk).lt;exact FQ nofun h
theorem R7(hu:A.units+40<cLine)(I:Inv X ad Z H s)(g:qJ H a y (aa v))(ry:RelV y u)(h:∀ w' s',Inv X ad Z H s'->RelV v w'->Q w' s') :
  aJ (aO X.prog X.w) A (pY (.ref a) u) Q E s:=by
 rcases g with⟨ep,kvs,k,e,ey,l⟩|⟨kvs,k,b,e,ey,eb,l⟩
 .subst ey;obtain⟨z,hd,vs,dg,dd⟩:=pK I.hok e;obtain⟨w',hw,ju⟩:=Ayn.some_of (v:=v) (o:=wF vs k) (by rw[l];exact dg.val k)
  exact wpAny_getItem_of (nX ry) dd.mapOf hw (h w' _ (I.tok _) ju)
 .subst ey;cases(show u=eU b from ry)
  obtain⟨z,hd,xs,dg,dd⟩:=sQ I.hok e;obtain⟨w',hw,ju⟩:=Ayn.some_of (v:=v) (o:=(oQ xs k).map (·.2)) (by rw[l];exact dg.val k)
  obtain⟨p,hp,hp2⟩:=fG.1 hw;refine wpAny_getItem_heap (zG hu) (key_of I.hok eb) dd hp ?_;rw[hp2];exact h w' _ (I.tok _) ju
theorem Ks(hu:A.units+40<cLine)(I:Inv X ad Z H s)(g:qJ H a y o)(ry:RelV y u)(h:∀ s',Inv X ad Z H s'->Q (.bool o.isSome) s') :
  aJ (aO X.prog X.w) A (fY .In u (.ref a)) Q E s:=by
 rcases g with⟨ep,kvs,k,e,ey,l⟩|⟨kvs,k,b,e,ey,eb,l⟩
 .subst ey;obtain⟨z,hd,vs,dg,dd⟩:=pK I.hok e;refine wpAny_in_of (nX ry) hd dd.mapOf ?_;rw[<-(dg.val k).isSome_eq,<-l];exact h _ (I.tok _)
 .subst ey;cases(show u=eU b from ry)
  obtain⟨z,hd,xs,dg,dd⟩:=sQ I.hok e;refine wpAny_in_heap (zG hu) (key_of I.hok eb) hd dd ?_;have q:=(dg.val k).isSome_eq;rw[OI] at q;rw[<-q,<-l];exact h _ (I.tok _)
theorem Yi(hu:A.units+40<cLine)(I:Inv X ad Z H s)(g:qJ H a y o)(ry:RelV y u)(h:∀ s',Inv X ad Z H s'->Q (.bool (!o.isSome)) s') :
  aJ (aO X.prog X.w) A (fY .NotIn u (.ref a)) Q E s:=by
 rcases g with⟨ep,kvs,k,e,ey,l⟩|⟨kvs,k,b,e,ey,eb,l⟩
 .subst ey;obtain⟨z,hd,vs,dg,dd⟩:=pK I.hok e;refine wpAny_notIn_of (nX ry) hd dd.mapOf ?_;rw[<-(dg.val k).isSome_eq,<-l];exact h _ (I.tok _)
 .subst ey;cases(show u=eU b from ry)
  obtain⟨z,hd,xs,dg,dd⟩:=sQ I.hok e;refine wpAny_notIn_heap (zG hu) (key_of I.hok eb) hd dd ?_;have q:=(dg.val k).isSome_eq;rw[OI] at q;rw[<-q,<-l];exact h _ (I.tok _)
theorem CQ{ob:HO}(I:Inv X ad Z H s)(mu:Mut (H a))(hs:kY a s.heap h')(new:Aby X.prog X.w (ax H a ob) h' a ob) :
  Inv X ad Z (ax H a ob) { s with heap:=h',toks:=t' }:=
 I.write mu (λb q hb z=>(hs.2 b hb).trans z) new
theorem uX {P:bE}{w:aX}{H':Hp}{kvs:li}{vs:tz}(z:kvs.length<=sizeLine)(hd:(a==fW)=ah)(dg:KV kvs vs)(dd:h'.DictAt (dP P w) a vs ep) :
  Aby P w H' h' a (.dK ep kvs):=⟨z,hd,vs,dg,dd⟩
theorem A0e {H':Nat->Hp}{Q:Unit->aF->Prop}(hu:A.units+40<cLine)(I:Inv X ad Z H s)(g:QR H a y v H')(ry:RelV y u)(rv:RelV v r)(h:∀ n s',Inv X ad Z (H' n) s'->Q Unit.unit s') :
  aJ (aO X.prog X.w) A (setItem (.ref a) u r) Q E s:=by
 rcases g with⟨ep,kvs,k,e,ey,l,eH⟩|⟨kvs,k,b,e,ey,eb,l,eH⟩
 .subst ey eH;obtain⟨z,hd,vs,dg,dd⟩:=zT I.hok e;have hz:vs.length<=sizeLine:=by rw[<-dg.length];exact z
  have hl:(putK kvs k v).length<=sizeLine:=by have:=vY kvs k v;lia
  refine wpAny_setItem_pairs (hsz:=hz) (nX ry) dd λh' ue hs=>?_
  obtain⟨n,da⟩:=ue.dictAt;exact h n _ (CQ I (by rw[e];exact oR) hs (uX hl hd (dg.put k rv) da))
 .subst ey eH;cases(show u=eU b from ry)
  obtain⟨ep0,e⟩:=e;obtain⟨z,hd,xs,dg,dd⟩:=Ni I.hok e;have hz:xs.length<=sizeLine:=by rw[<-iU dg];exact z
  have hl:(putK kvs k v).length<=sizeLine:=by have:=vY kvs k v;lia
  refine wpAny_setItem_heap (hsz:=hz) (zG hu) (key_of I.hok eb) dd λh' ue hs=>?_
  obtain⟨q,es,ep,hq,h2,h3,h4,_,h5⟩:=ue;refine h ep _ ?_;refine CQ I (by rw[e];exact oR) hs ⟨hl,hd,_,(dg.put k eb rv).keeps λc ys ec=>?_,q,es,hq,h2,h3,h4,h5⟩
  rw[cN (Mg ec e (λz=>nomatch z))]
  exact ec
end
section
variable {X:Cx}{Z:St}{H:Hp}{kvs:li}{k:aG}
theorem Mm(I:Inv X ad Z H s)(e:Rd H a (.dK ep kvs))(h:∀ t s',Inv X ad Z H s'->Q (.int kvs.length t) s'):aJ (aO X.prog X.w) A (call (.builtin "len") [.ref a]) Q E s:=by
 obtain⟨z,hd,vs,dg,dd⟩:=pK I.hok e;refine call_len_dict hd dd (by rw[<-dg.length];rw[kT] at z;lia) ?_
 rw[<-dg.length];exact h _ _ (I.tok _)
end
def GS (i:aT):Prop:=∀ ov iv,NR i ah ov iv=operate [ov,iv] (pY ov iv)
theorem Ew{w:aX}{env:Env}{value dh:aT}{T id:String}
  (hl:rR (.type T) "__getitem__" = pure (aa (.builtin id))) (hs:GS dh)
  (h:aJ (aO prog w) A (bF value env) (λo s₁=>aJ (aO prog w) A (bF dh env) (λi s₂=>s₂.TypeIs o T/\aJ (aO prog w) A (pY o i) Q E s₂) E s₁) E s) :
  aJ (aO prog w) A (bF (.Subscript value dh pos) env) Q E s:=by
 refine Subscript_ (mA h (λo s₁ h₁=>mA h₁ (λi s₂ h₂=>?_) λ_ _ x=>x) λ_ _ x=>x)
 obtain⟨hT,h₂⟩:=h₂;unfold subscriptTail;refine aE ?_;rw[getitemInPython_of_ne hT.not_modules];refine aE (rP hT hl ?_);have fin:aJ (aO prog w) A (NR dh ah o i) (λr s₃=>aJ (aO prog w) A (letTemporaryGo value o r>>=λ_=>pure r) Q E s₃) E s₂:=by
  rw[hs o i];exact wpAny_operating (mA h₂ (λr s₃ h₃=>aE (wpAny_letTemporaryGo (aH h₃))) λ_ _ x=>x)
 first
  |exact aH (aE fin)
  |exact aE (aH (aE fin))
  |exact aE fin
theorem E1 {X:Cx}{Z:St}{H:Hp}{y:V}{o:Option V}(I:Inv X ad Z H s)(g:qJ H a y o):s.TypeIs (.ref a) "dict":=by
 rcases g with⟨ep,kvs,k,e,_,_⟩|⟨kvs,k,b,e,_,_,_⟩
 .obtain⟨_,_,vs,_,dd⟩:=pK I.hok e;exact dd.typeIs
 .obtain⟨_,_,xs,_,dd⟩:=sQ I.hok e;exact dd.typeIs
def Og (td ty:TE):TE:=λZ H Q=>td Z H λx H1=>ty Z H1 λy H2=>∃ a v,x=.ref a/\qJ H2 a y (aa v)/\Q v H2
def Mo (td ty tv:TE):TS:=λD Z H=>tv Z H λv H1=>td Z H1 λx H2=>ty Z H2 λy H3=>∃ a H4,x=.ref a/\QR H3 a y v H4/\∀ n,D.nx Z (H4 n)
section
variable {X:Cx}{o i value:aT}{jr nv:bJ}{td ty tv:TE}
theorem Ye (hu:X.A.units+40<cLine)(ho:PE X o td)(hi:PE X i ty)(hs:GS i):PE X (.Subscript o i pos) (Og td ty):=by
 rw[6];refine Ew aAf.lookup hs (bj (ho ad s Z H _ I h) λu s1 ⟨x,H1,I1,rx,q1⟩=>bj (hi ad s1 Z H1 _ I1 q1) λiv s2 gh=>?_)
 obtain⟨y,H2,I2,ry,a,v,ex,g,q2⟩:=gh;subst ex;obtain rfl:u=eU a:=rx;exact⟨E1 I2 g,R7 hu I2 g ry λw' s3 I3 ju=>⟨v,H2,I3,ju,q2⟩⟩
theorem Gc (hu:X.A.units+40<cLine)(ho:PE X o td)(hi:PE X i ty)(hv:PE X value tv)(hs:kS value (aa (.Subscript o i jr)) pos.line X.env=pure ah) :
  PS X (.Assign [.Subscript o i jr] value pos) (Mo td ty tv):=by
 intro ad s Z H D I h;refine wpAny_Assign_Subscript (bj (hv ad s Z H _ I h) λr s1 ⟨v,H1,I1,rv,q1⟩=>bj (ho ad s1 Z H1 _ I1 q1) λu s2 ⟨x,H2,I2,rx,q2⟩=>bj (hi ad s2 Z H2 _ I2 q2) λiv s3 ⟨y,H3,I3,ry,a,H4,ex,g,q3⟩=>?_) hs
 subst ex;obtain rfl:u=eU a:=rx;exact A0e hu I3 g ry rv λn s4 I4=>⟨Z,H4 n,I4,q3 n⟩
end
theorem Q7 {P:bE}{w:aX}{H:Hp}(h:aP)(hb:fW<h.objs.size):Aby P w H (h.push { cls:=.type "dict",data:=.dict #[] }) h.objs.size (.dK 0 []):=
 ⟨cZ _,beq_eq_false_iff_ne.2 (fZ (cP hb)),[],.nil,_,#[],cH _ rfl,⟨rfl,rfl,rfl⟩,rfl,λ_ he=>by simp at he,Pairs.nil,OS⟩
theorem b9 {P:bE}{w:aX}{H:Hp}(h:aP)(hb:fW<h.objs.size):Aby P w H (h.push { cls:=.type "dict",data:=.dict #[] }) h.objs.size (.dT 0 []):=
 ⟨cZ _,beq_eq_false_iff_ne.2 (fZ (cP hb)),[],.nil,_,#[],cH _ rfl,⟨rfl,rfl,rfl⟩,rfl,rfl,OS⟩
def Qe:TE:=λ_ H Q=>∀ p,H p=ab->Q (.ref p) (ax H p (.dK 0 []))
def Ol:TE:=λ_ H Q=>∀ p,H p=ab->Q (.ref p) (ax H p (.dT 0 []))
section
variable {X:Cx}
theorem XC:PE X (.Dict [] [] pos) Qe:=λad s Z H Q I h=>
 wpAny_Dict_empty ⟨.ref s.heap.objs.size,_,I.laid (a:=s.heap.objs.size) (o:=.dK 0 []) (t':=s.toks) (λ_ _ q=>bC _ q) (bA _) (Q7 s.heap I.big),rfl,h _ (I.hok.fresh (bA _))⟩
theorem Zw:PE X (.Dict [] [] pos) Ol:=λad s Z H Q I h=>
 wpAny_Dict_empty ⟨.ref s.heap.objs.size,_,I.laid (a:=s.heap.objs.size) (o:=.dT 0 []) (t':=s.toks) (λ_ _ q=>bC _ q) (bA _) (b9 s.heap I.big),rfl,h _ (I.hok.fresh (bA _))⟩
end
def nG (kvs more:li):li:=more.foldl (λak kv=>putK ak kv.1 kv.2) kvs
theorem KV.merge:∀ {more:li} {rs:tz} {kvs:li} {vs:tz},KV more rs->KV kvs vs->KV (nG kvs more) (iR vs rs):=by
 intro more rs kvs vs r;unfold KV at r;induction r generalizing kvs vs with
 |nil=>intro q;exact q
 |@cons p q ps qs h t ih=>
  intro r0;have e:KV (putK kvs p.1 p.2) (stored vs q.1 q.2):=by
   have:=r0.put p.1 h.2;rw[<-h.1];exact this
  exact ih e
theorem ES:∀ (more kvs:li),(nG kvs more).length<=kvs.length+more.length
 |[],kvs=>by show kvs.length<=kvs.length+0;lia
 |p::r,kvs=>by
  have h1:=ES r (putK kvs p.1 p.2);have h2:=vY kvs p.1 p.2;show(nG (putK kvs p.1 p.2) r).length<=_;rw[eX];lia
structure M2 (X:Cx)(o:aT)(m:aD)(ay:bJ)(e f:aT)(ba:bJ):Prop where
 base:FI o m X.env (bF o X.env)=bF o X.env
 few:((iF ba (bH [e,f] X.env)).all (λx=>!x.1)&&(backToKw ba (keywordEach [] X.env)).all (λx=>x.1.isSome)
  && decide (([e,f]:List aT).length+([]:List Keyword).length+(if ([]:List Keyword).isEmpty then 0 else 1)<30))=af
 line:(ay.endLine==ba.line)=af
 trees:iF ba (bH [e,f] X.env)=[(ah,bF e X.env),(ah,bF f X.env)]
def IsD (H:Hp)(a:aC):Prop:=(∃ ep kvs,Rd H a (.dK ep kvs))\/∃ kvs,∃ ep,Rd H a (.dT ep kvs)
theorem Si {X:Cx}{Z:St}{H:Hp}(I:Inv X ad Z H s)(d:IsD H a) :
  s.TypeIs (.ref a) "dict" /\ (∀ b,eU a=.ref b->∃ ob,s.heap.get? b=aa ob/\ob.dict=ab)/\(a==fW)=ah:=by
 rcases d with⟨ep,kvs,e⟩|⟨kvs,e⟩
 .obtain⟨_,hd,vs,_,dd⟩:=pK I.hok e;refine⟨dd.typeIs,λb q=>?_,hd⟩
  cases q;obtain⟨ob,_,_,h1,h2,_⟩:=dd;exact⟨ob,h1,h2.2.1⟩
 .obtain⟨_,hd,xs,_,dd⟩:=sQ I.hok e;refine⟨dd.typeIs,λb q=>?_,hd⟩
  cases q;obtain⟨ob,_,_,h1,h2,_⟩:=dd;exact⟨ob,h1,h2.2.1⟩
section
variable {X:Cx}{Z:St}{H:Hp}{y d:V}{r:aB}{o:Option V}
theorem Sw(hu:A.units+40<cLine)(I:Inv X ad Z H s)(g:qJ H a y o)(ry:RelV y u)(rd:RelV d r)(h:∀ w' s',Inv X ad Z H s'->RelV (o.getD d) w'->Q w' s') :
  aJ (aO X.prog X.w) A (call (.builtin "dict.get") [.ref a,u,r]) Q E s:=by
 rcases g with⟨ep,kvs,k,e,ey,l⟩|⟨kvs,k,b,e,ey,eb,l⟩
 .subst ey;obtain⟨z,hd,vs,dg,dd⟩:=pK I.hok e;refine NY Il dd.typeIs PySem.F.entry_dict_get (aAg _ _ _) (meets_dict_get_default (dP X.prog X.w) a (nX ry) hd r) ⟨_,dd.mapOf,h _ _ (I.tok _) ?_⟩;rw[l];exact(dg.val k).getD rd
 .subst ey;cases(show u=eU b from ry)
  obtain⟨z,hd,xs,dg,dd⟩:=sQ I.hok e;refine NY Il dd.typeIs PySem.F.entry_dict_get (aAg _ _ _) (meetsH_dict_get_default (jA X.prog X.w) a b hd r) ⟨zG hu,k,xs,key_of I.hok eb,dd,h _ _ (I.tok _) ?_⟩;rw[l];exact(dg.val k).getD rd
end
def Rn (td ty tx:TE):TE:=λZ H Q=>td Z H λx H1=>∃ a,x=.ref a/\IsD H1 a/\ty Z H1 λy H2=>tx Z H2 λz H3=>∃ o,qJ H3 a y o/\Q (o.getD z) H3
section
variable {X:Cx}{o f:aT}{ay ba:bJ}{td ty tx:TE}
theorem Zq (hu:X.A.units+40<cLine)(ho:PE X o td)(he:PE X e ty)(hf:PE X f tx)(m:M2 X o "get" ay e f ba):PE X (.Call (.Attribute o "get" ay) [e,f] [] ba) (Rn td ty tx):=by
 rw[6];refine wpAny_Call_method m.base m.few m.line OC Il PySem.F.type_dict_get (bj (ho ad s Z H _ I h) λu s1 gh=>?_)
 obtain⟨x,H1,I1,rx,a,ex,d,q1⟩:=gh;subst ex;obtain rfl:u=eU a:=rx;obtain⟨t1,t2,_⟩:=Si I1 d;refine⟨t1,t2,?_⟩;rw[m.trees];refine Jw rfl (Calls.evalArgs_plain (GE (bj (he ad s1 Z H1 _ I1 q1) λiv s2 ⟨y,H2,I2,ry,q2⟩=>
  GE (bj (hf ad s2 Z H2 _ I2 q2) λfv s3 ⟨z,H3,I3,rz,ov,g,q3⟩=>QC ?_))))
 exact Sw hu I3 g ry rz λw' s4 I4 ju=>⟨_,H3,I4,ju,q3⟩
end
section
variable {X:Cx}{Z:St}{H:Hp}{kvs:li}
theorem Zj(I:Inv X ad Z H s)(e:Rd H a (.dK ep kvs))(h:∀ p n s',H p=ab->Inv X ad Z (ax H p (.dK n kvs)) s'->Q (.ref p) s'):aJ (aO X.prog X.w) A (call (.type "dict") [.ref a]) Q E s:=by
 obtain⟨z,hd,vs,dg,dd⟩:=pK I.hok e;refine kt_call_dict hd dd (by rw[<-dg.length];exact z) λh' ue hs=>?_
 obtain⟨n,da⟩:=ue.dictAt;refine h _ n _ (I.hok.fresh (bA _)) (I.laid (a:=s.heap.objs.size) (o:=.dK n kvs) (t':=s.toks) (λb q hq=>?_) (bA _) (uX z (beq_eq_false_iff_ne.2 (fZ (cP I.big))) dg da))
 exact(hs.2 b (cP (bN hq))).trans (bC _ hq)
end
end L2
namespace HT
open PySem PyProof.Rows
section
variable {prog:bE}{w:aX}{A:bM}{E:aB->aF->Prop}{s:aF}
theorem Bh4 {t b:aC}{vs ws:aak}{Q:aB->aF->Prop}(ht:IsTup s.heap t vs.toArray)(hb:IsTup s.heap b ws.toArray)(hv:vs≠[])
  (h1:ws=[]->Q (.ref t) s) (h2:ws≠[]->Q (.ref s.heap.objs.size) { s with heap:=s.heap.push { cls:=.type "tuple",data:=.seq (vs++ws).toArray } })
  (hsz:vs.length+ws.length<=sizeLine):aJ (aO prog w) A (jY .Add (.ref t) (.ref b)) Q E s:=by
 obtain⟨⟨cls,dd,data,sl⟩,ho,hc,n,hd⟩:=id ht;obtain⟨⟨yw,vd,data2,xy⟩,sw,sx,n2,sy⟩:=id hb;simp only at hc hd sx sy;subst hc hd sx sy;have e:vs.toArray++ws.toArray=(vs++ws).toArray:=by simp
 by_cases hw:ws=[]
 .exact NX ⟨_,ho,rfl⟩ ⟨_,sw,rfl⟩ Ie seq_tuple_add Ij Im (Io _ _)
   (tuple_addW1 t b vs.toArray ws.toArray n n2 dd vd sl xy (by simpa using hv) (by simp[hw])) ⟨ho,sw,h1 hw⟩
 .refine NX ⟨_,ho,rfl⟩ ⟨_,sw,rfl⟩ Ie seq_tuple_add Ij Im (Io _ _)
   (tuple_addW2 t b vs.toArray ws.toArray n n2 dd vd sl xy (by simpa using hv) (by simpa using hw) (by rw[dA,dA];exact hsz)) ⟨ho,sw,?_⟩
  rw[e];exact h2 hw
noncomputable def sIx (n d:Nat):aar->Nat
 |none=>d
 |some v=>if v<0 then(v+(n:Int)).toNat else min v.toNat n
theorem Av4 (n d:Nat):sIx n d ab=d:=rfl
theorem Af4 (n d k:Nat):sIx n d (aa (k:Int))=min k n:=by
 show(if (k:Int)<0 then((k:Int)+(n:Int)).toNat else min (k:Int).toNat n)=min k n
 grind
theorem Pr (n d:Nat)(hd:d<=n)(o:aar):sIx n d o<=n:=by
 cases o with
 |none=>exact hd
 |some v=>
  show(if v<0 then(v+(n:Int)).toNat else min v.toNat n)<=n
  grind
theorem Gz (v:Int)(n d:Nat):(if v<0 then max (v+(n:Int)) 0 else min v (n:Int))=((sIx n d (aa v):Nat):Int):=by
 show(if v<0 then max (v+(n:Int)) 0 else min v (n:Int))=(((if v<0 then(v+(n:Int)).toNat else min v.toNat n):Nat):Int)
 grind
theorem p9 (lo hi:aar)(n:Nat):Jy lo hi 1 (n:Int)=(((sIx n 0 lo:Nat):Int),((sIx n n hi:Nat):Int)):=by
 have h1:¬ ((1:Int)<0):=()
 unfold Jy;simp only[h1,if_false];refine Prod.ext ?_ ?_
 .cases lo with
  |none=>rfl
  |some v=>exact Gz v n 0
 .cases hi with
  |none=>rfl
  |some v=>exact Gz v n n
theorem q8 (i j:Nat):QF (i:Int) (j:Int) 1=j-i:=by
 unfold QF
 grind
theorem Ba {v:aB}{o:aar}{Q:aar->aF->Prop}(p:qE v o)(h:Q o s):aJ (aO prog w) A (Builtin.Slice.slicePartIndex v) Q E s:=by
 cases p with
 |none=>exact slicePart_none h
 |int i t=>exact slicePart_int h
theorem Afo {sl:aC}{vl vu:aB}{lo hi:aar}{n:Nat}{Q:Int×Int×Nat->aF->Prop}(hs:s.heap.IsSliceOf sl vl vu .none)(pl:qE vl lo)(pu:qE vu hi)
  (h:Q (((sIx n 0 lo:Nat):Int),1,sIx n n hi-sIx n 0 lo) s):aJ (aO prog w) A (Builtin.Slice.sliceApplied (.ref sl) (pure (n:Int))) Q E s:=by
 obtain⟨os,uf,hcs,hds⟩:=id hs;unfold Builtin.Slice.sliceApplied Builtin.Slice.sliceFields;refine aE (aE (gZ uf hds (x:=vl) rfl (aE (gZ uf hds (x:=vu) rfl (aE (gZ uf hds (x:=.none) rfl (aH ?_)))))));refine aE (slicePart_none ?_);show aJ _ _ (if ((1:Int)==0)=af then _ else _) _ _ s
 rw[if_neg nofun]
 refine aE (Ba pl (aE (Ba pu (aE (aH ?_)))));show aJ _ _ (match Jy lo hi 1 (n:Int) with|(lo,hi)=>pure (lo,(1:Int),QF lo hi 1)) _ _ s
 rw[p9 lo hi n];show aJ _ _ (pure (((sIx n 0 lo:Nat):Int),(1:Int),QF ((sIx n 0 lo:Nat):Int) ((sIx n n hi:Nat):Int) 1)) _ _ s;rw[q8];exact aH h
theorem O4 (xs:Array aB)(i k:Nat):((bZ k).filterMap λ(m:Nat)=>xs[((i:Int)+(m:Int)*1).toNat]?).toArray=((xs.toList.drop i).take k).toArray:=by
 have e:(λ(m:Nat)=>xs[((i:Int)+(m:Int)*1).toNat]?)=λm=>xs[i+m]?:=by
  grind
 rw[e];have:=pick_run xs i k;rw[List.filterMap_map] at this;have e2:((λx=>xs[x]?)∘λx=>i+x)=λm=>xs[i+m]?:=rfl
 rw[e2] at this;rw[this]
theorem Aii {t sl:aC}{items:Array aB}{vl vu:aB}{lo hi:aar}{Q:aB->aF->Prop}(ht:IsTup s.heap t items)(hs:s.heap.IsSliceOf sl vl vu .none)(pl:qE vl lo)(pu:qE vu hi)
  (hw:¬ (sIx items.size 0 lo=0/\sIx items.size items.size hi=items.size))
  (h:Q (.ref s.heap.objs.size) { s with heap:=s.heap.push { cls:=.type "tuple",data:=.seq ((items.toList.drop (sIx items.size 0 lo)).take (sIx items.size items.size hi-sIx items.size 0 lo)).toArray } })
  (hsz:items.size<=sizeLine):aJ (aO prog w) A (pY (.ref t) (.ref sl)) Q E s:=by
 have mn:sizeOk (.seq ((items.toList.drop (sIx items.size 0 lo)).take (sIx items.size items.size hi-sIx items.size 0 lo)).toArray):=by
  show((items.toList.drop (sIx items.size 0 lo)).take (sIx items.size items.size hi-sIx items.size 0 lo)).toArray.size<=sizeLine
  grind
 have hj:sIx items.size items.size hi<=items.size:=Pr _ _ (bA _) hi;obtain⟨os,uf,hcs,hds⟩:=id hs;have hTs:s.TypeIs (.ref sl) "slice":=⟨os,uf,hcs⟩;unfold pY
 try with_reducible refine eG ?_
 first|refine aE (aH ?_)|skip
 refine aE (wpAny_sequenceKey ht.typeIs nofun ?_)
 refine aE (mB (name:=Str.ofString "__getitem__") ht.typeIs Ip
  (fK Ip ht.typeIs entry_tuple_getitem ?_ (args_tuple_getitem _ _)))
 show aJ _ _ (Jx (.ref t)>>=_) _ _ s;refine aE (tupleItemsOf_ ht ?_);refine aE (jV hTs ?_);rw[if_pos nofun]
 refine aE (Afo hs pl pu ?_);have qm:¬ ((((sIx items.size 0 lo:Nat):Int)==0&&(1:Int)==1&&(sIx items.size items.size hi-sIx items.size 0 lo)==items.size)=af):=by
  grind
 show aJ _ _ (if (((sIx items.size 0 lo:Nat):Int)==0&&(1:Int)==1&&(sIx items.size items.size hi-sIx items.size 0 lo)==items.size)=af then _ else _) _ _ s
 rw[if_neg qm,O4]
 first
  |exact aE (m:=AX _) (iD (aH ⟨_,rfl,aH h⟩) mn)
  |exact aE (m:=AX _) (iD (aE (aH (aH ⟨_,rfl,aH h⟩))) mn)
  |exact aE (aE (m:=AX _) (iD (aH (aH ⟨_,rfl,aH h⟩)) mn))
  |exact aE (aE (m:=AX _) (iD (aH ⟨_,rfl,aH h⟩) mn))
end
end HT
namespace L2
open PySem PySem.Spec PyProof.Rows
variable {xs:aai}{n:Nat}{ad:lm}{Z:St}{H:Hp}{s:aF}{its:aak}
abbrev TO:=St->Hp->(aar->Hp->Prop)->Prop
def PO (X:Cx)(e:Option aT)(t:TO):Prop:=
 ∀ (ad:lm) (s:aF) (Z:St) (H:Hp) (Q:aar->Hp->Prop),Inv X ad Z H s->t Z H Q ->
  aJ (aO X.prog X.w) X.A (evalPart e X.env) (λu s'=>∃ o H',Inv X ad Z H' s'/\qE u o/\Q o H') X.xe s
def To:TO:=λ_ H Q=>Q ab H
def Lu (t:TE):TO:=λZ H Q=>t Z H λx H1=>∃ i,x=.int i/\Q (aa i) H1
section
variable {X:Cx}{e:aT}{te:TE}{lo hi:Option aT}{tl th:TO}{pos p2:bJ}
theorem Vp:PO X ab To:=by
 rw[6];rw[evalPart_none];exact aH ⟨ab,H,I,.none,h⟩
theorem Yd (h:PE X e te):PO X (aa e) (Lu te):=by
 intro ad s Z H Q I hw;rw[evalPart_some];refine bj (h ad s Z H _ I hw) λu s1 gh=>?_
 obtain⟨x,H1,I1,r1,q1⟩:=gh;obtain⟨i,rfl,q⟩:=q1;obtain⟨t,rfl⟩:=r1;exact⟨aa i,H1,I1,.int i t,q⟩
def SlR (X:Cx)(r:V->aar->aar->Hp->VK->Prop):Prop:=
 ∀ (ad:lm) (s:aF) (Z:St) (H:Hp) (x:V) (v vl vu:aB) (lo hi:aar) (sl:aC) (Q:VK),Inv X ad Z H s->RelV x v->s.heap.IsSliceOf sl vl vu .none->qE vl lo->qE vu hi->r x lo hi H Q ->
  ∃ T id,rR (.type T) "__getitem__" = pure (aa (.builtin id))/\s.TypeIs v T/\aJ (aO X.prog X.w) X.A (pY v (.ref sl)) (EP X ad Z Q) X.xe s
theorem SlR.or {r r':V->aar->aar->Hp->VK->Prop}(h:SlR X r)(h':SlR X r'):SlR X (λx lo hi H Q=>r x lo hi H Q\/r' x lo hi H Q):=by
 intro ad s Z H x v vl vu lo hi sl Q I rx hs pl pu q;rcases q with q|q
 .exact h ad s Z H x v vl vu lo hi sl Q I rx hs pl pu q
 .exact h' ad s Z H x v vl vu lo hi sl Q I rx hs pl pu q
def tSl (r:V->aar->aar->Hp->VK->Prop)(te:TE)(tl th:TO):TE:=λZ H Q=>te Z H λx H1=>tl Z H1 λl H2=>th Z H2 λu H3=>r x l u H3 Q
theorem WG {r:V->aar->aar->Hp->VK->Prop}(hr:SlR X r)(he:PE X e te)(hl:PO X lo tl)(hu:PO X hi th):PE X (.Subscript e (.Slice lo hi ab p2) pos) (tSl r te tl th):=by
 rw[6];refine Subscript_ (bj (he ad s Z H _ I h) λv s1 gh=>?_)
 obtain⟨x,H1,I1,r1,q1⟩:=gh;refine wpAny_Slice (bj (hl ad s1 Z H1 _ I1 q1) λvl s2 ⟨l,H2,I2,pl,q2⟩=>bj (hu ad s2 Z H2 _ I2 q2) λvu s3 gh=>?_)
 obtain⟨u,H3,I3,pu,q3⟩:=gh;rw[evalPart_none];refine aH ?_;have I4:Inv X ad Z H3 { s3 with heap:=s3.heap.push { cls:=.type "slice",data:=.fields #[vl,vu,.none] } }:=I3.kept (t':=s3.toks) λb ob q=>bC _ q
 obtain⟨T,id,hT,ht,hg⟩:=hr ad { s3 with heap:=s3.heap.push { cls:=.type "slice",data:=.fields #[vl,vu,.none] } } Z H3 x v vl vu l u s3.heap.objs.size Q I4 r1 (Heap.IsSliceOf.new ..) pl pu q3;show aJ (aO X.prog X.w) X.A (subscriptTail e (.Slice lo hi ab p2) v (.ref s3.heap.objs.size)) (EP X ad Z Q) X.xe { s3 with heap:=s3.heap.push { cls:=.type "slice",data:=.fields #[vl,vu,.none] } };exact tail_any (ops:=[.ref s3.heap.objs.size,v]) ht hT hg (by with_unfolding_all rfl)
def qM (xs:aai)(lo hi:aar):aai:=(xs.drop (HT.sIx xs.length 0 lo)).take (HT.sIx xs.length xs.length hi-HT.sIx xs.length 0 lo)
theorem Bu (xs:aai)(lo hi:aar):(qM xs lo hi).length<=xs.length:=by
 unfold qM;rw[mH,wY]
 lia
def Ld (K:aI):V->aar->aar->Hp->VK->Prop:=λx lo hi H Q=>∃ a xs,x=.ref a/\SqT K H a xs /\
 ¬ (HT.sIx xs.length 0 lo=0/\HT.sIx xs.length xs.length hi=xs.length)/\∀ p,H p=ab->Q (.ref p) (ax H p (.tup (qM xs lo hi)))
theorem Sn:SlR X (Ld X.K):=by
 intro ad s Z H x v vl vu lo hi sl Q I rx hs pl pu h;obtain⟨a,xs,rfl,hx,hw,q⟩:=h;cases rx;obtain⟨its,r,ht,hz⟩:=I.tuple hx;have aw:its.toArray.size=xs.length:=by rw[dA];exact r.length.symm
 refine⟨"tuple",_,Ip.lookup,ht.typeIs,?_⟩;refine HT.Aii ht hs pl pu (by rw[aw];exact hw) ?_ (by rw[aw];exact hz)
 rw[aw];refine⟨.ref s.heap.objs.size,_,I.laid (t':=s.toks) (o:=.tup (qM xs lo hi)) (λb ob q=>bC _ q) (bA _) ?_,rfl,q _ (I.hok.fresh (bA _))⟩
 exact⟨cQ (Bu xs lo hi) hz,_,(r.drop (HT.sIx xs.length 0 lo)).take (HT.sIx xs.length xs.length hi-HT.sIx xs.length 0 lo),A8a.new _ _⟩
def HG (K:aI):R2:=λx y H Q=>∃ a b xs ys,x=.ref a/\y=.ref b/\SqT K H a xs/\SqT K H b ys/\xs≠[]/\xs.length+ys.length<=sizeLine /\
 (ys=[]->Q (.ref a) H)/\(ys≠[]->∀ p,H p=ab->Q (.ref p) (ax H p (.tup (xs++ys))))
theorem Vals.nil_iff{us:aak}(r:Vals xs us):us=[]↔xs=[]:=by
 cases r with
 |nil=>simp
 |cons _ _=>simp
theorem A6u:OpR X (jY .Add) (HG X.K):=by
 rw[2];obtain⟨a,b,xs,ys,rfl,rfl,ha,hb,hx,hz,q1,q2⟩:=h;cases rx;cases ry;obtain⟨its,r1,p1,_⟩:=I.tuple ha;obtain⟨gj,r2,p2,_⟩:=I.tuple hb;refine HT.Bh4 p1 p2 (λz=>hx (r1.nil_iff.1 z)) (λz=>⟨.ref a,H,I,rfl,q1 (r2.nil_iff.1 z)⟩) (λz=>?_) (by rw[<-r1.length,<-r2.length];exact hz)
 refine⟨.ref s.heap.objs.size,_,I.laid (t':=s.toks) (o:=.tup (xs++ys)) (λb ob q=>bC _ q) (bA _) ?_,rfl,q2 (λw=>z (r2.nil_iff.2 w)) _ (I.hok.fresh (bA _))⟩
 exact⟨by rw[jN];exact hz,_,r1.append r2,A8a.new _ _⟩
end
noncomputable def jg (n:Nat)(i:Int):Option Nat:=if 0<=i then(if i<n then aa i.toNat else ab) else if -(n:Int)<=i then aa (i+n).toNat else ab
def iw {α:Type}(xs:List α)(i:Int):Option α:=(jg xs.length i).bind λj=>xs[j]?
theorem Et{i:Int}{j:Nat}(h:jg n i=aa j):seqIndex? i n=aa j/\j<n /\ -(n:Int)<=i/\i<n:=by
 unfold jg at h;by_cases h0:0<=i
 .rw[if_pos h0] at h;by_cases h1:i<n
  .rw[if_pos h1] at h;have e:i.toNat=j:=fF h;exact⟨by rw[seqIndex_of h0 h1,e],(),(),h1⟩
  all_goals grind
 .rw[if_neg h0] at h;by_cases h1 : -(n:Int)<=i
  .rw[if_pos h1] at h;have e:(i+n).toNat=j:=fF h;exact⟨by rw[seqIndex_neg () h1,e],(),h1,()⟩
  all_goals grind
theorem IM {α:Type}{xs:List α}{i:Int}{v:α}(h:iw xs i=aa v):∃ j,seqIndex? i xs.length=aa j/\xs[j]?=aa v/\j<xs.length /\ -(xs.length:Int)<=i/\i<xs.length:=by
 unfold iw at h;cases e:jg xs.length i with
 |none=>rw[e] at h;cases h
 |some j=>
  rw[e] at h;obtain⟨h1,h2,h3,h4⟩:=Et e
  grind
theorem pS {α:Type}{xs:List α}{j:Nat}{v:α}(h:xs[j]?=aa v):iw xs (j:Int)=aa v:=by
 have hj:j<xs.length:=(cE.1 h).1;have e:jg xs.length (j:Int)=aa j:=by
  unfold jg;rw[if_pos (),if_pos ()];simp
 unfold iw;rw[e];exact h
def Fp (b:aT):Prop:=∀ o i,NR b ah o i=operate [o,i] (pY o i)
def IxR (X:Cx)(r:R2):Prop:=
 ∀ (value dh:aT) (ad:lm) (s:aF) (Z:St) (H:Hp) (x y:V) (v u:aB) (Q:VK),Inv X ad Z H s->RelV x v->RelV y u->r x y H Q ->
  NR dh ah v u=operate [v,u] (pY v u)->aJ (aO X.prog X.w) X.A (subscriptTail value dh v u) (EP X ad Z Q) X.xe s
def MtR (X:Cx)(id:String)(r:V->aai->Hp->VK->Prop):Prop:=
 ∀ (ad:lm) (s:aF) (Z:St) (H:Hp) (x:V) (xs:aai) (v:aB) (us:aak) (Q:VK),Inv X ad Z H s->RelV x v->Vals xs us->r x xs H Q ->
  aJ (aO X.prog X.w) X.A (call (.builtin id) (v::us)) (EP X ad Z Q) X.xe s
section
variable {X:Cx}{a b:aT}{ta tb:TE}{pos:bJ}
theorem IxR.or {r r':R2}(h:IxR X r)(h':IxR X r'):IxR X (λx y H Q=>r x y H Q\/r' x y H Q):=by
 intro value dh ad s Z H x y v u Q I rx ry q hs;rcases q with q|q
 .exact h value dh ad s Z H x y v u Q I rx ry q hs
 .exact h' value dh ad s Z H x y v u Q I rx ry q hs
theorem Nn {r:R2}(hr:IxR X r)(ha:PE X a ta)(hb:PE X b tb)(hs:Fp b):PE X (.Subscript a b pos) (xu r ta tb):=by
 rw[6];exact Subscript_ (GP ha hb I h λv u s2 x y H2 I2 rx ry q=>hr a b ad s2 Z H2 x y v u Q I2 rx ry q (hs _ _))
def QV (K:aI):R2:=λx y H Q=>∃ p xs i v,x=.ref p/\y=.int i/\SqL K H p xs/\iw xs i=aa v/\Q v H
def QQ (K:aI):R2:=λx y H Q=>∃ p xs i v,x=.ref p/\y=.int i/\SqT K H p xs/\iw xs i=aa v/\Q v H
def QX:R2:=λx y H Q=>∃ z i c,x=.str z/\y=.int i/\z.length<=sizeLine/\iw z.cps.toList i=aa c/\Q (.str ⟨#[c]⟩) H
theorem Ber:IxR X (QV X.K):=by
 intro value dh ad s Z H x y v u Q I rx ry h hs;obtain⟨p,xs,i,z,rfl,rfl,hq,he,q⟩:=h;cases rx;obtain⟨t,rfl⟩:=ry;obtain⟨its,r,pl,hz⟩:=I.list hq;obtain⟨j,h1,h2,h3,h4,h5⟩:=IM he;obtain⟨w,ew,ju⟩:=r.get h2;have hl:=r.length;have hn:=sZ;have fin:EP X ad Z Q w s:=⟨z,H,I,ju,q⟩;by_cases h0:0<=i
 .have hj:i.toNat=j:=by
   rw[seqIndex_of h0 h5] at h1;exact fF h1
  exact item_listR pl.isList h0 () (by rw[hj];simpa using ew) fin hs
 .have hj:(i+(its.toArray.size:Int)).toNat=j:=by
   rw[seqIndex_neg () h4] at h1
   grind
  exact subscriptTail_builtinR (x:=w) pl.isList.typeIs slot_list_getitem.lookup
   (wpAny_getItem_list_neg (Q:=λr s'=>r=w/\EP X ad Z Q r s') pl.isList () (by rw[dA]<;>lia) () (by rw[hj];simpa using ew) ⟨rfl,fin⟩) hs
theorem Bjr:IxR X (QQ X.K):=by
 intro value dh ad s Z H x y v u Q I rx ry h hs;obtain⟨p,xs,i,z,rfl,rfl,hq,he,q⟩:=h;cases rx;obtain⟨t,rfl⟩:=ry;obtain⟨its,r,pl,hz⟩:=I.tuple hq;obtain⟨j,h1,h2,h3,h4,h5⟩:=IM he;obtain⟨w,ew,ju⟩:=r.get h2;have hl:=r.length;have hn:=sZ;have fin:EP X ad Z Q w s:=⟨z,H,I,ju,q⟩;exact subscriptTail_builtinR (x:=w) pl.typeIs NS.lookup
  (getItem_tuple (j:=j) (Q:=λr s'=>r=w/\EP X ad Z Q r s') pl () () (by rw[dA,<-hl];exact h1) (by simpa using ew) ⟨rfl,fin⟩) hs
theorem Po:IxR X QX:=by
 intro value dh ad s Z H x y v u Q I rx ry h hs;obtain⟨z,i,c,rfl,rfl,hz,he,q⟩:=h;obtain⟨t,rfl⟩:=rx;obtain⟨t',rfl⟩:=ry;obtain⟨j,h1,h2,h3,h4,h5⟩:=IM he;have hl:z.cps.toList.length=z.length:=by simp[Str.length]
 rw[hl] at h1 h4 h5;have hn:=sZ;exact tail_any (typeIs_str s z t) slot_str_getitem.lookup (getItem_str (c:=c) (by
  have e1:decide (i < -(2^63:Int))=ah:=decide_eq_false ()
  have e2:decide (i ≥ 2^63)=ah:=decide_eq_false ()
  rw[e1,e2,Kc]) (by rw[h1];simpa using h2) ⟨.str ⟨#[c]⟩,H,I.tok _,⟨_,rfl⟩,q⟩) hs
def rIx (K:aI):R2:=λx y H Q=>QV K x y H Q\/QQ K x y H Q\/QX x y H Q
theorem Pw:IxR X (rIx X.K):=Ber.or (Bjr.or Po)
theorem p8 (its:aak)(n j:Nat)(u:aB):eK (·.setIfInBounds j u) { cls:=.type "list",data:=.seq its.toArray n }={ cls:=.type "list",data:=.seq (its.set j u).toArray n }:=by
 simp[eK]
theorem Inv.lst{p:aC}(I:Inv X ad Z H s)(h:H p=aa (.lst xs)) :
  ∃ (its:aak) (n:Nat),Vals xs its/\s.heap.get? p=aa { cls:=.type "list",data:=.seq its.toArray n }/\xs.length<=sizeLine:=by
 obtain⟨z,its,n,r,e⟩:=I.hok p _ h;exact⟨its,n,r,e,z⟩
theorem Inv.lstUpd{p:aC}{ys:aai}{its':aak}{n':Nat}{f:aZ->aZ}(I:Inv X ad Z H s)(h:H p=aa (.lst xs))
  (ho:s.heap.get? p=aa { cls:=.type "list",data:=.seq its.toArray n }) (hf:f { cls:=.type "list",data:=.seq its.toArray n }={ cls:=.type "list",data:=.seq its'.toArray n' }) (r:Vals ys its') (hz:ys.length<=sizeLine) (t:Nat) :
  Inv X ad Z (ax H p (.lst ys)) { s with heap:=s.heap.update p f,toks:=t }:=by
 have e:(s.heap.update p f).get? p=aa { cls:=.type "list",data:=.seq its'.toArray n' }:=by
  rw[nU f ho (by rw[hf]<;>rfl),hf]
 refine I.write (by rw[h];trivial) (λb u hb q=>(oY _ _ (fZ hb)).trans q) ?_
 exact⟨hz,its',n',r,e⟩
def Nc:V->V->V->Hp->(Hp->Prop)->Prop:=λo i v H Q=>∃ p xs k j,o=.ref p/\i=.int k/\H p=aa (.lst xs)/\jg xs.length k=aa j/\Q (ax H p (.lst (xs.set j v)))
theorem set_list:QY X Nc:=by
 intro ad s Z H o i v ov iv u Q I ro ri rv h;obtain⟨p,xs,k,j,rfl,rfl,hp,hj,q⟩:=h;cases ro;obtain⟨t,rfl⟩:=ri;obtain⟨its,n,r,ho,hz⟩:=I.lst hp;obtain⟨h1,h2,h3,h4⟩:=Et hj;have hl:=r.length;have hn:=sZ;have I':Inv X ad Z (ax H p (.lst (xs.set j v))) { s with heap:=s.heap.update p (eK (·.setIfInBounds j u)) }:=
  I.lstUpd hp ho (p8 its n j u) (r.set rv j) (by rw[wW];exact hz) s.toks
 by_cases h0:0<=k
 .have hk:k.toNat=j:=by
   rw[seqIndex_of h0 h4] at h1;exact fF h1
  exact PySem.W.ki_setAt ho h0 () (by rw[dA,<-hl];exact h4) (by rw[hk];exact⟨_,I',q⟩)
 .have hk:(k+(its.toArray.size:Int)).toNat=j:=by
   rw[seqIndex_neg () h3] at h1
   grind
  exact PySem.W.ki_setBack ho () (by rw[dA,<-hl];exact h3) () (by rw[hk];exact⟨_,I',q⟩)
theorem J4 (lo hi:aar)(n:Nat):(wH lo hi ab n).1=((HT.sIx n 0 lo:Nat):Int)/\(wH lo hi ab n).2.1=((HT.sIx n n hi:Nat):Int)/\(wH lo hi ab n).2.2=1:=by
 refine⟨?_,?_,rfl⟩
 .cases lo with
  |none=>simp[wH,HT.sIx]
  |some i=>
   simp only[wH,HT.sIx,Option.getD_none,show(1:Int) > 0 by decide,if_true]
   grind
 .cases hi with
  |none=>simp[wH,HT.sIx]
  |some i=>
   simp only[wH,HT.sIx,Option.getD_none,show(1:Int) > 0 by decide,if_true]
   grind
theorem J1 (its:aak)(lo hi:aar):slicePick its.toArray lo hi ab=((its.drop (HT.sIx its.length 0 lo)).take (HT.sIx its.length its.length hi-HT.sIx its.length 0 lo)).toArray:=by
 obtain⟨h1,h2,h3⟩:=J4 lo hi its.toArray.size;unfold slicePick;rw[h1,h2,h3];simp only[sliceRange_one,pick_run,dA]<;>rfl
def Kt (K:aI):V->aar->aar->Hp->VK->Prop:=λx lo hi H Q=>∃ a xs,x=.ref a/\SqL K H a xs/\∀ p,H p=ab->Q (.ref p) (ax H p (.lst (qM xs lo hi)))
theorem Uk:SlR X (Kt X.K):=by
 intro ad s Z H x v vl vu lo hi sl Q I rx hs pl pu h;obtain⟨a,xs,rfl,hx,q⟩:=h;cases rx;obtain⟨its,r,ht,hz⟩:=I.list hx;have aw:=r.length;refine⟨"list",_,slot_list_getitem.lookup,ht.isList.typeIs,?_⟩;refine wpAny_getItem_list_slice ht.isList hs pl pu .none (by simp) ?_ (by rw[dA]<;>lia)
 rw[J1,<-aw];refine⟨.ref s.heap.objs.size,_,I.laid (t':=s.toks) (o:=.lst (qM xs lo hi)) (λb ob q=>bC _ q) (bA _) ?_,rfl,q _ (I.hok.fresh (bA _))⟩
 exact⟨cQ (Bu xs lo hi) hz,_,0,(r.drop (HT.sIx xs.length 0 lo)).take (HT.sIx xs.length xs.length hi-HT.sIx xs.length 0 lo),cH _ rfl⟩
theorem G4:OpR X (fY .NotIn) (λx y H Q=>∃ i j,x=.str i/\y=.str j/\Q (.bl (!(!(QD j i 0 j.length 1).isEmpty))) H):=by
 rw[2];obtain⟨i,j,rfl,rfl,q⟩:=h;obtain⟨t,rfl⟩:=rx;obtain⟨t',rfl⟩:=ry;exact notIn_str ⟨.bl _,H,I,rfl,q⟩
theorem Apx:Ack X (.builtin "len") (λxs H Q=>∃ p ys,xs=[.ref p]/\(SqL X.K H p ys\/SqT X.K H p ys)/\Q (.int ys.length) H):=by
 rw[3];obtain⟨p,ys,rfl,hq,q⟩:=h;obtain⟨u,rfl,rx⟩:=vals1 r;cases rx;have hn:=sZ;rcases hq with hq|hq
 .obtain⟨its,r',pl,hz⟩:=I.list hq;have aw:=r'.length;exact Calls.call_len_list pl.isList (by simp only[dA]<;>lia) ⟨.int ys.length,H,I.tok _,⟨s.toks+1,by rw[dA,aw]⟩,q⟩
 .obtain⟨its,r',pl,hz⟩:=I.tuple hq;have aw:=r'.length;exact len_tuple pl (by simp only[dA]<;>lia) ⟨.int ys.length,H,I.tok _,⟨s.toks+1,by rw[dA,aw]⟩,q⟩
theorem Aqq:Ack X (.builtin "len") (λxs H Q=>∃ z,xs=[.str z]/\z.length<=sizeLine/\Q (.int z.length) H):=by
 rw[3];obtain⟨z,rfl,hz,q⟩:=h;obtain⟨u,rfl,t,rfl⟩:=vals1 r;have hn:=sZ;exact len_str () ⟨.int z.length,H,I.tok _,⟨_,rfl⟩,q⟩
theorem Ack.or {f:aB}{r r':aai->Hp->VK->Prop}(h:Ack X f r)(h':Ack X f r'):Ack X f (λxs H Q=>r xs H Q\/r' xs H Q):=by
 intro ad s Z H xs us Q I rs q;rcases q with q|q
 .exact h ad s Z H xs us Q I rs q
 .exact h' ad s Z H xs us Q I rs q
theorem G5:Ack X (.type "list") (λxs H Q=>∃ p ys,xs=[.ref p]/\(SqL X.K H p ys\/SqT X.K H p ys)/\∀ l,H l=ab->Q (.ref l) (ax H l (.lst ys))):=by
 rw[3];obtain⟨p,ys,rfl,hq,q⟩:=h;obtain⟨u,rfl,rx⟩:=vals1 r;cases rx;have fin:∀ (its:aak),Vals ys its->ys.length<=sizeLine->∀ (h':aP) (c':Nat),(∀ b o',s.heap.get? b=aa o'->h'.get? b=aa o') ->
   h'.get? s.heap.objs.size=aa { cls:=.type "list",dict:=ab,data:=.seq its.toArray c',slots:=#[] }->EP X ad Z Q (.ref s.heap.objs.size) { s with heap:=h' }:=λits r' hz h' c' kp e=>
  ⟨.ref s.heap.objs.size,_,I.laid (t':=s.toks) kp (bA _) (show Aby X.prog X.w _ h' _ (.lst ys) from⟨hz,its,c',r',e⟩),rfl,q _ (I.hok.fresh (bA _))⟩
 rcases hq with hq|hq
 .obtain⟨its,r',pl,hz⟩:=I.list hq;have aw:=r'.length;obtain⟨o,ho,hc,n,hd⟩:=pl.isList;exact call_list_seq p (.inl rfl) ho hc hd (λh' c' kp e=>fin its r' hz h' c' kp e) (by simp only[dA]<;>lia)
 .obtain⟨its,r',pl,hz⟩:=I.tuple hq;have aw:=r'.length;obtain⟨o,ho,hc,n,hd⟩:=pl;exact call_list_seq p (.inr rfl) ho hc hd (λh' c' kp e=>fin its r' hz h' c' kp e) (by simp only[dA]<;>lia)
theorem K2:Ack X (.type "tuple") (λxs H Q=>∃ p ys,xs=[.ref p]/\((SqL X.K H p ys/\∀ l,H l=ab->Q (.ref l) (ax H l (.tup ys)))\/(SqT X.K H p ys/\Q (.ref p) H))):=by
 rw[3];obtain⟨p,ys,rfl,h⟩:=h;obtain⟨u,rfl,rx⟩:=vals1 r;cases rx;rcases h with⟨hq,q⟩|⟨hq,q⟩
 .obtain⟨its,r',pl,hz⟩:=I.list hq;have aw:=r'.length;refine call_tuple_list pl.isList (λh' kp=>?_) (by simp only[dA]<;>lia)
  have I1:Inv X ad Z H { s with heap:=h' }:=I.kept (t':=s.toks) kp;have I2:Inv X ad Z (ax H h'.objs.size (.tup ys)) { s with heap:=h'.push { cls:=.type "tuple",data:=.seq its.toArray } }:=
   I1.laid (t':=s.toks) (λb o e=>bC _ e) (bA _) (show Aby X.prog X.w _ _ _ (.tup ys) from⟨hz,its,r',A8a.new _ _⟩)
  exact⟨.ref h'.objs.size,_,I2,rfl,q _ (I1.hok.fresh (bA _))⟩
 .obtain⟨its,r',pl,hz⟩:=I.tuple hq;exact call_tuple_same pl ⟨.ref p,H,I,rfl,q⟩
def tyV (K:aI)(T:String)(x:V)(H:Hp):Prop:=match x with
 |.str _=>T = "str"
 |.int _=>T = "int"
 |.ref p=>(T = "list" /\ ∃ xs,SqL K H p xs)\/(T = "tuple" /\ ((∃ o,K.lookup p=aa o/\o.cls=.type "tuple" /\ o.dict=ab)\/∃ xs,H p=aa (.tup xs))) \/
   (T = "dict" /\ ((∃ ep kvs,H p=aa (.dK ep kvs))\/∃ kvs,∃ ep,H p=aa (.dT ep kvs)))
 |_=>False
theorem SL{T:String}{x:V}{v:aB}(I:Inv X ad Z H s)(r:RelV x v)(ty:tyV X.K T x H) :
  s.TypeIs v T/\∀ a,v=.ref a->∃ ob,s.heap.get? a=aa ob/\ob.dict=ab:=by
 cases x with
 |str z=>
  obtain⟨t,rfl⟩:=r;cases(show T = "str" from ty)
  exact⟨typeIs_str s z t,λ_ e=>nomatch e⟩
 |int i=>
  obtain⟨t,rfl⟩:=r;cases(show T = "int" from ty)
  exact⟨typeIs_int s i t,λ_ e=>nomatch e⟩
 |ref p=>
  cases r;rcases ty with⟨rfl,xs,hq⟩|⟨rfl,⟨o,hk,hc,hd⟩|⟨xs,hx⟩⟩|⟨rfl,hk⟩
  .obtain⟨its,_,pl,_⟩:=I.list hq;refine⟨pl.isList.typeIs,λa e=>?_⟩
   cases e;obtain⟨o,n,e,c,hd,_⟩:=pl;exact⟨o,e,hd⟩
  .refine⟨⟨o,I.kIn p o hk,hc⟩,λa e=>?_⟩
   cases e;exact⟨o,I.kIn _ o hk,hd⟩
  .obtain⟨_,_,_,⟨o,e,c,_⟩,n⟩:=(show Aby X.prog X.w H s.heap p (.tup xs) from I.hok p _ hx)
   refine⟨⟨o,e,c⟩,λa e=>?_⟩
   cases e;exact n
  .have z:∃ o,s.heap.get? p=aa o/\o.ExactDict:=by
    rcases hk with⟨ep,kvs,hk⟩|⟨kvs,ep,hk⟩
    .obtain⟨_,_,_,_,o,_,e,ex,_⟩:=I.hok p _ hk;exact⟨o,e,ex⟩
    .obtain⟨_,_,_,_,o,_,e,ex,_⟩:=I.hok p _ hk;exact⟨o,e,ex⟩
   obtain⟨o,e,ex⟩:=z;refine⟨⟨o,e,ex.1⟩,λa e2=>?_⟩
   cases e2;exact⟨o,e,ex.2.1⟩
 |_=>exact False.elim ty
def Mb (K:aI)(T:String)(r:V->aai->Hp->VK->Prop)(to:TE):TE:=λZ H Q=>to Z H λx H1=>tyV K T x H1/\r x [] H1 Q
def tBM (K:aI)(T:String)(r:V->aai->Hp->VK->Prop)(to:TE)(t:TA):TE:=λZ H Q=>to Z H λx H1=>tyV K T x H1/\t Z H1 λxs H2=>r x xs H2 Q
variable {o e:aT}{es:List aT}{to:TE}{t:TA}{name:aD}{ay ba:bJ}{T id:String}{r:V->aai->Hp->VK->Prop}
theorem Sk (pa:PlainAttrs T)(slot:Slot T name id)(hty:typeOf (.builtin id)=pure (.type "method_descriptor"))(hm:MtR X id r)(ho:PE X o to)
  (qp:FI o name X.env (bF o X.env)=bF o X.env:=by rfl) (qr:(ay.endLine==ba.line)=af:=by rfl):PE X (.Call (.Attribute o name ay) [] [] ba) (Mb X.K T r to):=by
 rw[6];refine wpAny_Call_method0_late qp qr (bj (ho ad s Z H _ I h) λv s1 gh=>?_)
 obtain⟨x,H1,I1,r1,ty,q1⟩:=gh;obtain⟨h1,h2⟩:=SL I1 r1 ty;exact⟨T,id,pa,slot,hty,h1,h2,Jw rfl (PySem.evalArgs_none (hm ad s1 Z H1 x [] v [] Q I1 r1 .nil q1))⟩
structure Bm (X:Cx)(o e:aT)(es:List aT)(name:aD)(ay ba:bJ):Prop where
 b:FI o name X.env (bF o X.env)=bF o X.env
 f:((iF ba (bH (e::es) X.env)).all (λx=>!x.1)&&(backToKw ba (keywordEach [] X.env)).all (λx=>x.1.isSome)&&decide ((e::es).length+([]:List Keyword).length+(if ([]:List Keyword).isEmpty then 0 else 1)<30))=af
 l:(ay.endLine==ba.line)=af
 s:bH (e::es) X.env=(ah,bF e X.env)::bH es X.env
 p:(iF ba (bH es X.env)).any (·.1)=ah
theorem pG (pa:PlainAttrs T)(slot:Slot T name id)(hty:typeOf (.builtin id)=pure (.type "method_descriptor"))(hm:MtR X id r)(ho:PE X o to)(ha:PA X (e::es) t)
  (q5:Bm X o e es name ay ba:=by exact⟨rfl,rfl,rfl,rfl,rfl⟩) :
  PE X (.Call (.Attribute o name ay) (e::es) [] ba) (tBM X.K T r to t):=by
 rw[6];refine wpAny_Call_method_late q5.b q5.f q5.l rfl (bj (ho ad s Z H _ I h) λv s1 gh=>?_)
 obtain⟨x,H1,I1,r1,ty,q1⟩:=gh;obtain⟨h1,h2⟩:=SL I1 r1 ty;refine⟨T,id,pa,slot,hty,h1,h2,?_⟩;have hA:=ha ba ad s1 Z H1 _ I1 q1;rw[q5.s] at hA ⊢;refine Jw (by show(ah||(iF ba (bH es X.env)).any (·.1))=ah;rw[q5.p]<;>rfl) (Calls.evalArgs_plain ?_)
 exact bj hA λus s2 ⟨vs,H2,I2,r2,q2⟩=>hm ad s2 Z H2 x vs v us Q I2 r1 r2 q2
end
def yg (X:Cx)(id:String)(r:V->aai->Hp->VK->Prop):Prop:=
 ∀ (ad:lm) (s:aF) (Z:St) (H:Hp) (x:V) (xs:aai) (v:aB) (us:aak) (Q:VK),Inv X ad Z H s->RelV x v->Vals xs us->r x xs H Q ->
  aJ (aO X.prog X.w) X.A (call (.builtin id) (v::us)) (EP X ad Z Q) X.xe s
theorem Vals.one:∀ {x:V} {us:aak},Vals [x] us->∃ u,us=[u]/\RelV x u:=by
 intro x us h;cases h with
 |cons r t=>cases t;exact⟨_,rfl,r⟩
theorem Vals.zero:∀ {us:aak},Vals [] us->us=[]
 |_,.nil=>rfl
theorem Vals.eraseIdx:∀ {xs:aai} {us:aak} (i:Nat),Vals xs us->Vals (xs.eraseIdx i) (us.eraseIdx i)
 |_,_,_,.nil=>.nil
 |_,_,0,.cons _ t=>t
 |_,_,i+1,.cons r t=>.cons r (Vals.eraseIdx i t)
theorem YV {α:Type}:∀ (l:List α) (i:Nat),(l.eraseIdx i).length<=l.length
 |[],_=>bA _
 |_::_,0=>rS _
 |_::r,i+1=>Nat.succ_le_succ (YV r i)
section
variable {X:Cx}{l b:aC}{ys zs:aai}
theorem Inv.lset {its':aak}{f:Array aB->Array aB}{t':Nat}(I:Inv X ad Z H s)(hH:H l=aa (.lst xs))
  (e:s.heap.get? l=aa { cls:=.type "list",data:=.seq its.toArray n }) (hf:f its.toArray=its'.toArray) (hv:Vals ys its') (hz:ys.length<=sizeLine) :
  Inv X ad Z (ax H l (.lst ys)) { s with heap:=s.heap.update l (eK f),toks:=t' }:=by
 have q:=PySem.IsL.update e f;rw[hf] at q;refine I.write (by rw[hH];exact trivial) (λb' u hb hu=>(oY s.heap (eK f) (fZ hb)).trans hu) ?_
 exact⟨hz,its',_,hv,q⟩
theorem Inv.lnew{t':Nat}(I:Inv X ad Z H s)(hv:Vals ys its)(hz:ys.length<=sizeLine) :
  Inv X ad Z (ax H s.heap.objs.size (.lst ys)) { s with heap:=s.heap.push { cls:=.type "list",data:=.seq its.toArray },toks:=t' }:=
 I.laid (λ_ _ q=>bC _ q) (bA _) ⟨hz,its,0,hv,cH _ rfl⟩
theorem Inv.fresh (I:Inv X ad Z H s):H s.heap.objs.size=ab:=I.hok.fresh (bA _)
theorem Inv.lstM (I:Inv X ad Z H s)(hH:H l=aa (.lst xs)):xs.length<=sizeLine/\∃ (its:aak) (n:Nat),Vals xs its/\xs.length=its.length/\s.heap.get? l=aa { cls:=.type "list",data:=.seq its.toArray n }:=by
 obtain⟨z,its,n,r,e⟩:=I.hok l _ hH;exact⟨z,its,n,r,r.length,e⟩
theorem c7(h:n<=sizeLine):Jz n=ah:=by
 unfold Jz;exact decide_eq_false ()
end
section
variable {X:Cx}
def Ui:V->aai->Hp->VK->Prop:=λx vs H Q=>∃ l xs y,x=.ref l/\vs=[y]/\H l=aa (.lst xs)/\xs.length<sizeLine/\Q .non (ax H l (.lst (xs++[y])))
theorem KM:yg X "list.append" Ui:=by
 intro ad s Z H x vs v us Q I rx rv h;obtain⟨l,xs,y,rfl,rfl,hH,hz,q⟩:=h;cases rx;obtain⟨u,rfl,ru⟩:=rv.one;obtain⟨z,its,n,r,hl,e⟩:=I.lstM hH;refine AC F.slot_list_append ⟨_,e,rfl⟩ F.entry_list_append (F.args_list_append_2 _ _) (PySem.list_append l its.toArray n u (by rw[dA];lia)) ⟨e,?_⟩
 refine⟨.non,_,I.lset (its':=its++[u]) hH e (by simp) (r.append (.cons ru .nil)) ?_,rfl,q⟩
 grind
def Rf:V->aai->Hp->VK->Prop:=λx vs H Q=>∃ l xs,x=.ref l/\vs=[]/\H l=aa (.lst xs)/\Q .non (ax H l (.lst []))
theorem j4:yg X "list.clear" Rf:=by
 intro ad s Z H x vs v us Q I rx rv h;obtain⟨l,xs,rfl,rfl,hH,q⟩:=h;cases rx;have hus:=rv.zero;subst hus;obtain⟨z,its,n,r,hl,e⟩:=I.lstM hH;refine AC F.slot_list_clear ⟨_,e,rfl⟩ F.entry_list_clear (F.args_list_clear_1 _) (AutoSeq1.list_clear_list_0 l its.toArray n (by rw[dA];lia)) ⟨e,?_⟩
 exact⟨.non,_,I.lset (its':=[]) (ys:=[]) hH e rfl .nil (cZ _),rfl,q⟩
end
end L2
namespace Att
open PySem PySem.W PySem.Calls PyProof.Rows
theorem L4 {P:Params}{h:aP}:∀ (ns:aaj) (vs:aak),WellAll P h vs (ns.map WData.int)->oX vs ns:=by
 intro ns;induction ns with
 |nil=>
  intro vs w;rw[List.map_nil] at w;cases w;exact .nil
 |cons n ns ih=>
  intro vs w;rw[dB] at w;cases w with
  |cons a b=>
   cases a;exact .cons _ _ (ih _ b)
theorem V4 {l:OpenLaw}{n:Nat}(hn:l.most=aa n){P:Params}{h:aP}{args:List WData}{wm:aak}
  (ny:l.row.toRowW.claim.pre args=af) (hwl:WellAll P h wm args) :
  ∃ a vs ns,wm=[eU a]/\args=[WData.list (ns.map WData.int)]/\h.get? a=aa { cls:=.type "list",data:=.seq vs.toArray }/\oX vs ns/\ns.length<=n:=by
 have hsh:WShape.hasAll [] args [.list .int]=af:=(pre_splitW ny).1;have hc:l.pre.holds [] { args:=args }=af:=(pre_splitW ny).2;obtain⟨d,r,rfl,h1,h2⟩:=hasAllW_cons hsh;obtain rfl:=hasAllW_nil h2;obtain⟨xs,rfl,h3⟩:=hasW_list h1;obtain⟨ns,rfl⟩:=items_int h3;have aw:ns.length<=n:=by
  unfold OpenLaw.pre at hc;have h4:(WTm.not (.lt (.lit (.int (n:Int))) (.len (.arg 0)))).holds [] { args:=[.list (ns.map .int)] }=af:=by
   have h4:=(holds_andW hc).1;rw[hn] at h4;exact h4
  have h5:=condW_of h4 (w_not (w_lt w_lit (w_len_list (w_arg rfl))))
  grind
 cases hwl with
 |cons w1 w2=>
  cases w2;cases w1 with
  |list ho cv=>exact⟨_,_,ns,rfl,rfl,ho,L4 ns _ cv,aw⟩
theorem Z3 (l:OpenLaw)(args:List WData):l.row.toRowW.claim.post args (.bool af) args=af:=
 postW_of (r:=l.row.toRowW) (X:=(af==af))
  (show WShape.has [] (.bool af) .bool=af by first|rfl|decide|simp[WShape.has,WShape.arms,WShape.armsAll])
  (show(WTm.eq .res (.lit (.bool af))).value [] { args:=args,res:=aa (.bool af),after:=args }=aa (.bool (af==af)) from w_eq_bool (w_res rfl) w_lit) rfl
end Att
namespace L2
open PySem PySem.Spec PyProof.Rows
variable {w:aX}{K:aI}{mg:aD->aap}{k:aG}{a f p:aC}{fd:jE}{x qual:aD}{sp:Sp}{st:eI}{N ps:aal}{A:bM}{pos px oa p2:bJ}{iu bm c b tg e:aT}{ie es:List aT}{env:Env}{n j n0:Nat}{sc:fS}{v:V}{t:TT}{fp:Nat->aan}{σ' Z:St}{H' H B' B0 H0:Hp}{s:aF}{ad:lm}{cap:po}{o:HO}{xs:aai}{ds:aag}{d:aA}{kvs:li}{Y:be}{kds:dL}{g:aA->aA->aah}{r:R2}{T:String}{P0:aC->Prop}
theorem YX:∀ {vs:aak} {ns:aaj},oX vs ns->Vals (ns.map V.int) vs
 |_,_,.nil=>.nil
 |_,_,.cons n t h=>.cons ⟨t,rfl⟩ (YX h)
def Only (H:Hp):Prop:=∀ b,H b=ab\/∃ o xs,H b=aa (.frz o (.lst xs))
theorem P5 {P:bE}{mb:aD->aap}{k:Nat}{fa:aC}{s₁:aF}{vs:aak}{ns:aaj}
  (KX:K.In s₁.heap) (hns:s₁.heap.Ns fX mg) (hb:s₁.heap.Ns builtinsNs mb) (hbb:∀ x:aD,x ≠ "__name__" -> mb x=mX x) (hlim:s₁.heap.NoLimit) (hg:s₁.gens = #[])
  (ha:s₁.heap.get? a=aa { cls:=.type "list",data:=.seq vs.toArray }) (hi:oX vs ns) (hl:ns.length<=sizeLine) (hr:Room k callerA)
  (F:∀ base:aP,K.In base->base.Ns fX mg->FnOk P w K mg base k fa fd [x] sp) (yx:∀ (s:aF) (u:aB),BindsTo s fd ⟨[u],[]⟩ [(x,u)])
  (su:∀ H:Hp,Only H->SqL K H a (ns.map V.int)->sp [.ref a] H λv _=>v=.bl af) :
  jJ (aO P w) callerA (.call (.ref fa) ⟨[.ref a],[]⟩) (λr s'=>r=.ok (.ret (.bool af))/\OldK s₁.heap s'.heap/\s'.os=s₁.os/\AllBare s'.gens) s₁:=by
 have rv:=YX hi;have lenV:=hi.length;have yy:∀ H:Hp,Only H->SqL K H a (ns.map V.int)->HOk P w H s₁.heap->(∀ b,H b≠ab->b=a)->(H a≠ab->K.lookup a=ab) ->
   jJ (aO P w) callerA (.call (.ref fa) ⟨[.ref a],[]⟩) (λr s'=>r=.ok (.ret (.bool af))/\OldK s₁.heap s'.heap/\s'.os=s₁.os/\AllBare s'.gens) s₁:=by
  intro H hO hS hok hA hK;have base_of:∀ {b:aC} {o:aZ},s₁.heap.get? b=aa o->H b=ab->(pU s₁.heap H).get? b=aa o:=λe n=>j5 e n
  have noA:∀ {b:aC} {o:aZ} {es:Array qH} {ep:Nat},s₁.heap.get? b=aa o->o.data=.dict es ep->H b=ab:=λ{b o es ep} e d=>by
   cases q:H b with
   |none=>rfl
   |some u=>
    have e':b=a:=hA b (by rw[q];simp)
    subst e';rw[ha] at e;cases e;have d':Data.seq vs.toArray _=Data.dict es ep:=d;cases d'
  have nsK:∀ {b:aC} {m:aD->aap},s₁.heap.Ns b m->(pU s₁.heap H).Ns b m:=λ{b m} ⟨o,es,ep,e,d,r⟩=>⟨o,es,ep,base_of e (noA e d),d,r⟩
  have hKb:K.In (pU s₁.heap H):=λb o e=>base_of (KX b o e) (by
   cases q:H b with
   |none=>rfl
   |some u=>
    have e':b=a:=hA b (by rw[q];simp)
    subst e';rw[hK (by rw[q];simp)] at e;cases e)
  have hM:Mod K mg (pU s₁.heap H):=⟨hKb,nsK hns,⟨mb,nsK hb,hbb⟩,let ⟨mc,h1,h2⟩:=hlim;⟨mc,nsK h1,h2⟩⟩;have e0:Env0 P w K mg (pU s₁.heap H) s₁ H:=⟨hM,λb o e=>Uo e,Nat.le_of_eq (j9 _ _),hok,.of_eq hg⟩
  refine AB ((F _ hKb (nsK hns)).run callerA s₁ H ⟨[.ref a],[]⟩ [.ref a] [.ref a] _ hr e0 (yx s₁ (.ref a)) (.cons rfl .nil) (su H hO hS)) λr s' h=>?_
  match r,h with
  |.ok (.ret u),⟨v,H',os,bare,un,hok',r',q⟩=>
   cases(show v=.bl af from q)
   obtain rfl:u=Value.bool af:=r';refine⟨rfl,OldK.of_keep λb o e=>?_,os,bare⟩
   cases q:H b with
   |none=>exact(un.keep b o e q (λz=>nomatch z)).1
   |some u=>
    rcases hO b with z|⟨ob,xs,z⟩
    .rw[q] at z;cases z
    .obtain⟨e1,_⟩:=hok b _ z;obtain⟨e2,_⟩:=hok' b _ (un.frzs b ob _ z);rw[e] at e1;cases e1;exact e2
 cases hk:K.lookup a with
 |some o=>
  have e:=KX a o hk;rw[ha] at e;cases e;refine yy (λ_=>ab) (λ_=>.inl rfl) (.inr ⟨_,vs.toArray,_,hk,rfl,rfl,rfl,by rw[dA,lenV];exact hl,by simpa using rv⟩) (λb u z=>by have z':(ab:Option HO)=aa u:=z;cases z') (λb z=>absurd rfl z) λz=>absurd rfl z
 |none=>
  refine yy (λb=>if b=a then aa (.frz { cls:=.type "list",data:=.seq vs.toArray } (.lst (ns.map V.int))) else ab) (λb=>?_) (.inl (.inr ⟨{ cls:=.type "list",data:=.seq vs.toArray },if_pos rfl⟩)) (λb u z=>?_) (λb z=>?_) λ_=>hk
  .by_cases hb:b=a
   .exact .inr ⟨_,_,if_pos hb⟩
   .exact .inl (if_neg hb)
  .by_cases hb:b=a
   .have z':=(if_pos hb).symm.trans z;cases z';subst hb;exact⟨ha,by rw[bT];exact hl,vs,_,rv,ha⟩
   all_goals grind
  all_goals grind
def rF (s:eI):Arguments:=match s with
 |.FunctionDef _ a _ _ _ _ _ _ _ _=>a
 |_=>{ posonlyargs:=[],args:=[],vararg:=ab,kwonlyargs:=[],kw_defaults:=[],kwarg:=ab,defaults:=[] }
def jT (s:eI):List eI:=match s with
 |.FunctionDef _ _ b _ _ _ _ _ _ _=>b
 |_=>[]
def dX (s:eI):fS:=match s with
 |.FunctionDef _ _ _ _ _ _ sc _ _ _=>sc
 |_=>{ kind:=.function,names:=[],isGenerator:=ah,isCoroutine:=ah }
structure Fun (K:aI)(x qual:aD)(st:eI)(f:aC)(fd:jE):Prop where
 ex:∃ (oc:aB) (od:Option aC) (kV ia pm:aB) (an:Option aC) (ca ct:aB) (oy:Array (Option aB)),
  fd=qA x qual (rF st) (jT st) (dX st) .none kV ia pm an ca ct/\K.lookup f=aa ⟨oc,od,.func fd,oy⟩/\AD K ca qual=af
 kp:uA K (.ref f)=af
section
variable {P:bE}{base:aP}
theorem Fun.ok{k:Nat}(F:Fun K x qual st f fd)(S:FnScope N ps (dX st))(len:∀ vs H Q,sp vs H Q->vs.length=ps.length)
  (qj:∀ (ca:aB) (A:bM) (s:aF) (H:Hp) (vs:aai) (Q:VK),Room k (A.deeper (envOfC qual (dX st) s.heap.objs.size f ca))->sp vs H Q ->
   ∃ t,PSs (pC P w K mg base N qual (dX st) f ca A s H) (jT st) t/\t { nx:=λ_ H'=>Q .non H',rt:=Q } (start N vs) H):FnOk P w K mg base (k+1) f fd ps sp:=by
 obtain⟨oc,od,kV,ia,pm,an,ca,ct,oy,rfl,lk,ly⟩:=F.ex;exact RW lk ly S len λA s H vs Q hr su=>qj ca A s H vs Q hr su
theorem Fun.binds(F:Fun K x qual st f fd)
  (h:∀ (kV ia pm:aB) (an:Option aC) (ca ct:aB) (us:aak),us.length=ps.length->bindArgs (qA x qual (rF st) (jT st) (dX st) .none kV ia pm an ca ct) ⟨us,[]⟩=pure (ps.zip us)):Binds K fd ps []:=by
 obtain⟨oc,od,kV,ia,pm,an,ca,ct,oy,rfl,lk,ly⟩:=F.ex;exact .all (h kV ia pm an ca ct)
theorem Su{oc:aB}{od an:Option aC}{oy:aab}{kV ia pm ca ct:aB}(l:K.lookup f=aa ⟨oc,od,.func (qA x qual (rF st) (jT st) (dX st) .none kV ia pm an ca ct),oy⟩)
  (c:AD K ca qual=af) (k:uA K (.ref f)=af):Fun K x qual st f (qA x qual (rF st) (jT st) (dX st) .none kV ia pm an ca ct):=⟨⟨oc,od,kV,ia,pm,an,ca,ct,oy,rfl,l,c⟩,k⟩
end
theorem FA{k:Nat}(hr:Room k A):A.units+40<cLine:=AK (Nat.add_le_add_left (by decide:40<=64) _) hr.units
section
variable {X:Cx}
theorem pv (i:Nat)(hN:Nm X i x):PE X (.Name x pos) (BH i):=hN.pe
theorem Y9:Ack X (.builtin "len") (λxs H Q=>∃ a ep kvs,xs=[V.ref a]/\H a=aa (.dK ep kvs)/\Q (.int kvs.length) H):=by
 rw[3];obtain⟨a,ep,kvs,rfl,ha,q⟩:=h;rw[4];exact Mm I (.inl ha) λt s' I'=>⟨.int kvs.length,H,I',⟨t,rfl⟩,q⟩
end
theorem sN {A B:Prop}(h:B):if ah=af then A else B:=by
 rw[if_neg QH];exact h
theorem sF {A B:Prop}(h:A):if af=af then A else B:=by
 rw[if_pos rfl];exact h
section
variable {prog:bE}{R:mY->aF->Prop}
theorem C8 {im:aT}{scope:fS}{it ak:aB}(I:Nat->aF->Prop)
  (ko:∀ n s,I n s->aJ (aO prog w) A (jW it) (λr s₁=>match r with
   |none=>R (.ok .next) s₁
   | some v=>aJ (aO prog w) A (NU im it v) (λ_ s₂=>aJ (aO prog w) A (kU im env v) (λ_ s₃=>
     aJ (aO prog w) A (forIn ie af λc r=>if r=af then do let ok <-isTrue c env (bF c env);pure (AV ok) else pure (AV r)) (λok s₄=>
      if ok=af then aJ (aO prog w) A (bF iu env) (λx s₅=>
       aJ (aO prog w) A (call (.builtin "list.append") [ak,x]) (λ_ s₆=>∃ m,m<n/\I m s₆) (λ_ _=>False) s₅) (λ_ _=>False) s₄
      else ∃ m,m<n/\I m s₄) (λ_ _=>False) s₃) (λ_ _=>False) s₂) (λ_ _=>False) s₁) (λ_ _=>False) s)
  (n:Nat) (h:I n s):jJ (aO prog w) A (.compLoop (.ListComp iu [⟨im,bm,ie,0⟩] scope pos) 0 it ak env) R s:=by
 refine codeAny_loop rfl I (λn s hI=>?_) n h
 refine wpAny_noted (aE (wpAny_standAt (aE (mA (ko n s hI) (λr s₁ h₁=>?_) λ_ _ h'=>h'.elim))))
 cases r with
 |none=>exact aH h₁
 |some v=>
  refine aE (mA h₁ (λ_ s₂ h₂=>?_) λ_ _ h'=>h'.elim)
  refine aE (mA h₂ (λ_ s₃ h₃=>aE (mA h₃ (λok s₄ h₄=>?_) λ_ _ h'=>h'.elim)) λ_ _ h'=>h'.elim)
  cases ok with
  |false=>exact aH ⟨rfl,h₄⟩
  |true=>
   exact aE (aE (mA h₄ (λx s₅ h₅=>aE (mA h₅ (λ_ s₆ h₆=>aH (aH ⟨rfl,h₆⟩)) λ_ _ h'=>h'.elim)) λ_ _ h'=>h'.elim))
end
theorem cellOf_eq{n:aD}{c:aC}(h:env.cells.lookup n=aa c):cellOf env n=pure c:=by
 unfold cellOf;rw[h]
noncomputable def gV (env:Env):aaa->sn->sn
 |[],cs=>cs
 |(n,k)::r,cs=>gV env r (if (k==mZ)=af then(match env.cells.lookup n with|some c=>(n,c)::cs|none=>cs) else cs)
theorem Dp(h:∀ n,(n,mZ)∈sc.names->∃ c,env.cells.lookup n=aa c):closureFor sc env=pure (gV env sc.names []):=by
 unfold closureFor;have go:∀ (l:aaa) (cs:sn),(∀ n,(n,mZ)∈l->∃ c,env.cells.lookup n=aa c) ->
   (forIn l cs (λ(x:aD×jD) (r:sn)=>if (x.2==mZ)=af then(do let c <-cellOf env x.1;pure (AV ((x.1,c)::r))) else pure (AV r)):Sem sn)=pure (gV env l cs):=by
  intro l;induction l with
  |nil=>intro cs _;rfl
  |cons p r ih=>
   intro cs hl;obtain⟨n,k⟩:=p;rw[List.forIn_cons];cases hk:(k==mZ) with
   |true=>
    have ek:k=mZ:=by simpa using hk
    subst ek;obtain⟨c,hc⟩:=hl n bD;have e1:gV env ((n,mZ)::r) cs=gV env r ((n,c)::cs):=by
     show gV env r (if (mZ==mZ)=af then(match env.cells.lookup n with|some c=>(n,c)::cs|none=>cs) else cs)=_
     rw[hc];rfl
    rw[e1];simp only[cellOf_eq hc,hk,if_true];exact ih ((n,c)::cs) (λn hn=>hl n (bI _ hn))
   |false=>
    have e1:gV env ((n,k)::r) cs=gV env r cs:=by
     show gV env r (if (k==mZ)=af then(match env.cells.lookup n with|some c=>(n,c)::cs|none=>cs) else cs)=_
     rw[hk];rfl
    grind
 grind
theorem KU:∀ (l:aaa) (cs:sn),(∀ x c,cs.lookup x=aa c->env.cells.lookup x=aa c)->∀ x c,(gV env l cs).lookup x=aa c->env.cells.lookup x=aa c
 |[],cs,h,x,c,e=>h x c e
 |(n,k)::r,cs,h,x,c,e=>by
  refine KU r _ ?_ x c e
  grind
theorem Cc{c:aC}(hx:env.cells.lookup x=aa c):∀ (l:aaa) (cs:sn),cs.lookup x=aa c->(gV env l cs).lookup x=aa c
 |[],cs,h=>h
 |(n,k)::r,cs,h=>by
  refine Cc hx r _ ?_
  grind
theorem KY{c:aC}(hx:env.cells.lookup x=aa c):∀ (l:aaa) (cs:sn),(x,mZ)∈l->(gV env l cs).lookup x=aa c
 |[],cs,h=>by simp at h
 |(n,k)::r,cs,h=>by
  rcases cI.1 h with e|h
  .cases e;refine Cc hx r _ ?_
   grind
  .exact KY hx r _ h
theorem De(x:aD):(wI sc env).names.lookup x=(sc.names.lookup x).map λk=>if (k==mZ&&env.scope.kind==.function&&env.kindOf x==aa .cell)=af then ON else k:=by
 unfold wI;induction sc.names with
 |nil=>rfl
 |cons p r ih=>
  grind
theorem lookup_mem {α:Type}{v:α}:∀ {l:List (aD×α)},l.lookup x=aa v->(x,v)∈l
 |[],h=>by simp at h
 |(n,k)::r,h=>by
  by_cases hy:(x==n)=af
  .grind
  .have ve:(x==n)=ah:=by simpa using hy
   simp only[OX,ve] at h;exact bI _ (lookup_mem h)
theorem LG {α:Type}(x:aD):∀ (l m:List (aD×α)),(l++m).lookup x=(l.lookup x).or (m.lookup x)
 |[],m=>rfl
 |(n,k)::r,m=>by
  rw[AU,OX,OX];cases x==n with
  |true=>rfl
  |false=>exact LG x r m
theorem LU:∀ (names:aaa) (n:Nat) (a b:sn),iS n names (a++b)=iS n names a++b
 |[],_,_,_=>rfl
 |(x,k)::r,n,a,b=>by
  unfold iS;split
  .exact LU r (n+1) ((x,n)::a) b
  .exact LU r n a b
theorem LO:∀ (names:aaa) (n:Nat) (a:sn) {x:aD} {c:aC},(x,c)∈iS n names a->(x,ON)∈names\/(x,c)∈a
 |[],_,_,_,_,h=>.inr h
 |(y,k)::r,n,a,x,c,h=>by
  unfold iS at h;split at h
  .rename_i hk;have hk:k=.cell:=by simpa using hk
   rcases LO r _ _ h with q|q
   .exact .inl (bI _ q)
   .rcases cI.1 q with e|q
    .cases e;rw[hk];exact .inl bD
    .exact .inr q
  .exact(LO r _ _ h).imp (bI _) id
theorem zH:∀ (names:aaa) (n:Nat) (a:sn) {x:aD},((x,ON)∈names\/∃ c,a.lookup x=aa c)->∃ c,(iS n names a).lookup x=aa c
 |[],_,_,_,h=>h.elim (λh=>nomatch h) id
 |(y,k)::r,n,a,x,h=>by
  unfold iS;split
  .refine zH r _ _ ?_;by_cases e:x=y
   .subst e;exact .inr ⟨n,by simp⟩
   .rcases h with h|⟨c,h⟩
    .rcases cI.1 h with q|q
     .cases q;exact absurd rfl e
     .exact .inl q
    .exact .inr ⟨c,by rw[OX,show(x==y)=ah by simpa using e];exact h⟩
  .rename_i hk;refine zH r _ _ (h.imp (λh=>?_) id)
   rcases cI.1 h with q|q
   .cases q;exact absurd rfl hk
   .exact q
def pQ (sc:fS)(env:Env)(n:Nat):sn:=iS (n+1) sc.names (gV env sc.names [])
theorem YE (sc:fS)(env:Env)(n:Nat):pQ sc env n=iS (n+1) sc.names []++gV env sc.names []:=by
 rw[<-LU]
 rfl
noncomputable def kJ (X:Cx)(N:aal)(sc:fS)(cl:sn)(C:aC)(s₀:aF)(H₀:Hp)(ex:aan):Cx:=
 { X with N:=N,s₀:=s₀,H₀:=H₀,env:=compEnvC sc cl C X.env,ex:=ex,fn:=λx=>sc.names.lookup x==aa .cell }
structure CompScope (X:Cx)(N:List aD)(cap:List (Option Nat))(sc:fS):Prop where
 kind:sc.kind=.function
 own:∀ y∈sc.names,y.2=.cell->sc.names.lookup y.1=aa .cell
 nm:∀ y∈sc.names,y.2=.local->sc.names.lookup y.1=aa .local
 fre:∀ y∈sc.names,y.2=.free->X.env.scope.names.lookup y.1=aa .cell\/X.env.scope.names.lookup y.1=aa .free
 len:cap.length=N.length
 cap:∀ (i j:Nat),cap[i]?=aa (aa j)->∃ x,N[i]?=aa x/\X.N[j]?=aa x/\sc.names.lookup x=aa .free
noncomputable def uO (cap:po)(Z:St):St:=cap.map λo=>o.bind λj=>(Z[j]?).join
def sE (X:Cx)(ie:List aT)(t:TT):Prop:=
 ∀ (ad:lm) (s:aF) (Z:St) (H:Hp) (Q:Bool->Hp->Prop),Inv X ad Z H s->t Z H Q ->
  aJ (aO X.prog X.w) X.A (forIn ie af λc r=>if r=af then do let ok <-isTrue c X.env (bF c X.env);pure (AV ok) else pure (AV r)) (TP X ad Z Q) X.xe s
def Ph:TT:=λ_ H Q=>Q af H
theorem Yg {X:Cx}:sE X [] Ph:=λ_ _ _ H _ I h=>wpAny_tests_nil ⟨H,I,h⟩
theorem Xt {X:Cx}(h:PT X c t):sE X [c] t:=λad s Z H Q I hw=>wpAny_tests_one (h ad s Z H Q I hw)
def QP (cap:po)(J:It)(g:TG)(tc:TT)(te:TE)(Z:St)(H1:Hp)(Q:VK):Prop:=∀ D,H1 D=ab ->
 ∃ W:Nat->Nat->aai->St->Hp->Prop,(∃ m,W 0 m [] (uO cap Z) (ax H1 D (.lst []))) /\
  ∀ i m ys σ' H',W i m ys σ' H'->H' D=aa (.lst ys)/\((J.stop i H'/\Q (.ref D) H') \/
   (J.go i H'/\ys.length<sizeLine/\∃ M:aai->St->Hp->Prop,(∀ zs σ2 H2,M zs σ2 H2->∃ m',m'<m/\W (i+1) m' zs σ2 H2)/\∀ x H2,J.yld i H' x H2->g x σ' H2 λσ3 H3=>tc σ3 H3 λb H4=>
    if b=af then te σ3 H4 λy H5=>H5 D=aa (.lst ys)/\M (ys++[y]) σ3 (ax H5 D (.lst (ys++[y]))) else M ys σ3 H4))
def tLC (cap:po)(wi:TI)(g:TG)(tc:TT)(te:TE):TE:=λZ H Q=>wi Z H λJ H1=>QP cap J g tc te Z H1 Q
section
variable {X:Cx}
theorem CompScope.cells (S:CompScope X N cap sc)(ok:X.Ok):∀ n,(n,mZ)∈sc.names->∃ c,X.env.cells.lookup n=aa c:=λn hn=>ok.has n (S.fre _ hn rfl)
theorem VL (sc:fS)(h:aP):CellsOk (pushCells (h.push { cls:=.type "dict",data:=.dict #[] }) sc.names) (h.objs.size+1) (iS (h.objs.size+1) sc.names []):=by
 have ok:=cellsFrom_ok sc.names (h.push { cls:=.type "dict",data:=.dict #[] }) (h.objs.size+1) [] ⟨λ_ _ hm=>(nomatch hm),Jp⟩ (by rw[mK];exact bA _)
 rwa [mK] at ok
theorem wB{c:aC}(h:(pQ sc env n).lookup x=aa c):(x,c)∈iS (n+1) sc.names []\/((iS (n+1) sc.names []).lookup x=ab/\(gV env sc.names []).lookup x=aa c):=by
 rw[YE,LG] at h;cases e:(iS (n+1) sc.names []).lookup x with
 |none=>rw[e] at h;exact .inr ⟨rfl,h⟩
 |some c'=>rw[e] at h;cases h;exact .inl (wM e)
theorem CompScope.free (S:CompScope X N cap sc){c:aC}(f:sc.names.lookup x=aa .free)(h:(gV env sc.names []).lookup x=aa c):(pQ sc env n).lookup x=aa c:=by
 rw[YE,LG];cases e:(iS (n+1) sc.names []).lookup x with
 |none=>exact h
 |some c'=>
  rcases LO _ _ _ (wM e) with q|q
  .have:=S.own _ q rfl;rw[f] at this;cases this
  .exact nomatch q
theorem Y3 (S:CompScope X N cap sc){fp:aan}(I:Inv X ad Z H s)(hf:∀ b∈fp,iI X ad H b)(hl:∀ b∈fp,b<s.heap.objs.size) :
  (kJ X N sc (pQ sc X.env s.heap.objs.size) s.heap.objs.size s H fp).Ok:=by
 have sub:∀ x c,(gV X.env sc.names []).lookup x=aa c->X.env.cells.lookup x=aa c:=KU sc.names [] (λx c e=>by simp at e)
 have nw:=VL sc s.heap;have df:∀ {x c},(gV X.env sc.names []).lookup x=aa c->c<s.heap.objs.size:=λ{x c} e=>by
  obtain⟨v,h⟩:=I.cell x c (sub x c e);exact h.lt
 refine⟨I.ok.mod,?_,I.ok.glob,I.ok.blt,bA _,?_,?_,?_,I.ok.hd,?_,I.bs,cQ I.ok.bsz I.sz,?_⟩
 .exact S.kind
 .intro x y c h1 h2;rcases wB h1 with a|⟨_,a⟩<;>rcases wB h2 with b|⟨_,b⟩
  .exact name_of_addr nw.apart a b
  .have:=(nw.empty _ _ a).2;have:=df b;lia
  .have:=(nw.empty _ _ b).2;have:=df a;lia
  .exact I.ok.inj x y c (sub x c a) (sub y c b)
 .intro x hx;have hk:(wI sc X.env).names.lookup x=aa .cell\/(wI sc X.env).names.lookup x=aa .free:=hx;rw[De] at hk;cases e:sc.names.lookup x with
  |none=>rw[e] at hk;simp at hk
  |some k=>
   have hm:=lookup_mem e;have kk:k=.cell\/k=.free:=by grind
   rcases kk with rfl|rfl
   .exact zH _ _ _ (.inl hm)
   .obtain⟨c,hc⟩:=S.cells I.ok x hm;exact zH _ _ _ (.inr ⟨c,KY hc _ _ hm⟩)
 .intro x c h1 h2;have e:sc.names.lookup x=aa .cell:=by simpa using(show(sc.names.lookup x==aa .cell)=af from h1)
  rcases wB h2 with a|⟨a,_⟩
  .exact Nat.le_of_succ_le (nw.empty _ _ a).2
  .obtain⟨c',h⟩:=zH sc.names (s.heap.objs.size+1) [] (.inl (lookup_mem e));rw[a] at h;cases h
 .intro b hb;refine⟨cP (hl b hb),λx c e=>?_⟩
  rcases wB e with a|⟨_,a⟩
  .have:=(nw.empty _ _ a).2;have:=hl b hb;lia
  .exact(hf b hb).2.2.2.1 x c (sub x c a)
 .intro b o e hb;rcases(hf b hb).2.2.1 with z|z
  .exact I.ok.noex b o e z
  .exact absurd (jC (bN e) (cQ I.ok.bsz z)) (nQ _)
theorem Yx (S:CompScope X N cap sc){fp:aan}{h':aP}{tk:Nat}(I:Inv X ad Z H s)(hf:∀ b∈fp,iI X ad H b)(hl:∀ b∈fp,b<s.heap.objs.size)
  (hn:h'.Ns s.heap.objs.size λ_=>ab) (hk:∀ b o,s.heap.get? b=aa o->h'.get? b=aa o) (hw:CellsOk h' (s.heap.objs.size+1) (iS (s.heap.objs.size+1) sc.names [])) :
  Inv (kJ X N sc (pQ sc X.env s.heap.objs.size) s.heap.objs.size s H fp) [] (uO cap Z) H { s with heap:=h',toks:=tk }:=by
 have sub:∀ x c,(gV X.env sc.names []).lookup x=aa c->X.env.cells.lookup x=aa c:=KU sc.names [] (λx c e=>by simp at e)
 refine⟨Y3 S I hf hl,rfl,I.bare,Un.kept hk,⟨_,hn,λi x v e1 e2 e3=>?_⟩,λx c e=>?_,I.hok.fresh (bA _),λx c e=>(wB e).elim (λa=>I.hok.fresh (Nat.le_of_succ_le (hw.empty _ _ a).2)) λa=>I.freeC x c (sub x c a.2),(λp hp=>nomatch hp),I.hok.kept hk,?_⟩
 .have vf:(cap.map λo=>o.bind λj=>(Z[j]?).join)[i]?=aa (aa v):=e2
  rw[eD] at vf;cases hc:cap[i]? with
  |none=>rw[hc] at vf;simp at vf
  |some o=>
   rw[hc] at vf;cases o with
   |none=>simp at vf
   |some j=>
    have ej:Z[j]?=aa (aa v):=by
     grind
    obtain⟨y,n1,n2,fr1⟩:=S.cap i j hc;have exy:=fF (e1.symm.trans n1);subst exy;have hmem:=lookup_mem fr1;have ql:=S.fre _ hmem rfl;obtain⟨m,_,hlk⟩:=I.loc;obtain⟨u,r,l⟩:=hlk j x v n2 ej (.inr ql);refine⟨u,r,.inr ⟨?_,?_⟩⟩
    .show(wI sc X.env).names.lookup x=aa .cell\/(wI sc X.env).names.lookup x=aa .free;rw[De,fr1]
     grind
    .rcases l with⟨k1,_⟩|⟨_,c,yz,mh⟩
     .exfalso;have k1':X.env.scope.names.lookup x=aa .local:=k1
      grind
     .obtain⟨oc,h1,h2⟩:=mh;exact⟨c,S.free fr1 (KY yz _ _ hmem),oc,hk _ _ h1,h2⟩
 .rcases wB e with a|⟨_,a⟩
  .exact⟨_,(hw.empty _ _ a).1⟩
  .obtain⟨v,oc,h1,h2⟩:=I.cell x c (sub x c a);exact⟨v,oc,hk _ _ h1,h2⟩
 .show(cap.map _).length=N.length;rw[bT,S.len]
theorem comp_back {fp:aan}{cl:sn}{s':aF}{pl:lm}(I:Inv X ad Z H s)(hf:∀ b∈fp,iI X ad H b)
  (I':Inv (kJ X N sc cl s.heap.objs.size s H fp) pl σ' H' s'):Inv X ad Z H' s':=
 I.step I'.os I'.base I'.hok I'.bare λb hb=>(hf b hb).2
end
section
variable {X:Cx}{wi:TI}{g:TG}{tc:TT}{te:TE}
def Block (X:Cx)(N:aal)(sc:fS)(tg iu:aT)(ie:List aT)(g:TG)(tc:TT)(te:TE):Prop:=
 ∀ (cl:sn) (C:aC) (s₀:aF) (H₀:Hp) (ex:aan),PG (kJ X N sc cl C s₀ H₀ ex) tg g/\sE (kJ X N sc cl C s₀ H₀ ex) ie tc/\PE (kJ X N sc cl C s₀ H₀ ex) iu te
theorem J9 {M:Model}{E:aB->aF->Prop}{scope:fS}{globals:aC}{cl:sn}{func:Option aC}{code:aB}{ae:Env}{bi:aC}{Q:Env->aF->Prop}
  (hQ:Q (newEnv scope s.heap.objs.size globals (iS (s.heap.objs.size+1) scope.names cl) qual func code (aa ae) bi) { s with heap:=pushCells (s.heap.push { cls:=.type "dict",data:=.dict #[] }) scope.names }) :
  aJ M A (newFunctionEnv scope globals cl [] qual func code (aa ae) bi) Q E s:=by
 simp only[newFunctionEnv,Option.isSome_some,if_true];refine aE (wpAny_alloc (aE (wpAny_layCells _ (λname kind cells=>by cases hkc:kind==ON<;>simp[hkc]) _ _ _ _ ?_)))
 rw[show({ s with heap:=s.heap.push { cls:=.type "dict",data:=.dict #[] } }:aF).heap.objs.size=s.heap.objs.size+1 from mK ..]
 exact aE (aH (aH hQ))
theorem Gy{RR:aB->aC->mY->aF->Prop}{E:aB->aF->Prop}(S:CompScope X N cap sc)(hb:Block X N sc tg iu ie g tc te)
  {it:aC} {fp:aan} {tn:Nat->aP->Prop} {J:It} {Q:VK} (I:Inv X ad Z H s) (T:Turn X.prog X.w X.K tg J fp it tn) (st:tn 0 s.heap) (hf:∀ b∈fp,iI X ad H b)
  (q:QP cap J g tc te Z H Q)
  (hRR:∀ (D:aC) (s₀:aF) (H₀:Hp) (σ':St) (H':Hp) (s':aF),Inv X ad Z H₀ s₀->(∀ b∈fp,iI X ad H₀ b)->Inv (kJ X N sc (pQ sc X.env s₀.heap.objs.size) s₀.heap.objs.size s₀ H₀ fp) [] σ' H' s'->Q (.ref D) H' ->
   RR (.ref D) s₀.heap.objs.size (.ok .next) s') :
  aJ (aO X.prog X.w) X.A (newList []) (λak s₃=>aJ (aO X.prog X.w) X.A (newFunctionEnv sc X.env.globals (gV X.env sc.names []) [] X.env.qual ab .none (aa X.env)) (λze s₄=>
   jJ (aO X.prog X.w) X.A (.compStart (.ListComp iu [⟨tg,bm,ie,0⟩] sc pos) 0 (.ref it) ak { ze with scope:=wI sc X.env }) (RR ak ze.locals) s₄) E s₃) E s:=by
 have hl:∀ b∈fp,b<s.heap.objs.size:=λb hb=>by
  obtain⟨o,e,_⟩:=T.obj 0 _ st b hb;exact bN e
 refine iD (J9 ?_);dsimp only;have I0:Inv X ad Z (ax H s.heap.objs.size (.lst [])) { s with heap:=s.heap.push { cls:=.type "list",data:=.seq ([]:aak).toArray },toks:=s.toks }:=I.lnew .nil (by simp)
 obtain⟨W,⟨m0,w0⟩,ko⟩:=q s.heap.objs.size I.fresh;generalize hs0:({ s with heap:=s.heap.push { cls:=.type "list",data:=.seq ([]:aak).toArray },toks:=s.toks }:aF)=s0 at I0;have hh:s.heap.push { cls:=.type "list",dict:=ab,data:=.seq ([]:aak).toArray }=s0.heap:=by rw[<-hs0]
 rw[hh];generalize uh:pushCells (s0.heap.push { cls:=.type "dict",data:=.dict #[] }) sc.names=h₁;have zf:∀ b o,s.heap.get? b=aa o->s0.heap.get? b=aa o:=λb o e=>by rw[<-hh];exact bC _ e
 have zg:∀ b o,s0.heap.get? b=aa o->h₁.get? b=aa o:=λb o e=>by rw[<-uh];exact pushCells_keeps _ _ b o (bC _ e)
 have hf0:∀ b∈fp,iI X ad (ax H s.heap.objs.size (.lst [])) b:=λb hb=>by
  refine⟨?_,(hf b hb).2⟩;rw[cN (cP (hl b hb))];exact(hf b hb).1
 let al:=kJ X N sc (pQ sc X.env s0.heap.objs.size) s0.heap.objs.size s0 (ax H s.heap.objs.size (.lst [])) fp
 have I1:Inv al [] (uO cap Z) (ax H s.heap.objs.size (.lst [])) { s0 with heap:=h₁,toks:=s.toks }:=
  Yx (tk:=s.toks) S I0 hf0 (λb hb=>by
  obtain⟨o,e,_⟩:=T.obj 0 _ st b hb;exact bN (zf b o e)) (by rw[<-uh];exact(Heap.Ns.new s0.heap (.type "dict")).keeps (pushCells_keeps _ _)) zg (by rw[<-uh];exact VL sc s0.heap)
 obtain⟨pg,pf,pe⟩:=hb (pQ sc X.env s0.heap.objs.size) s0.heap.objs.size s0 (ax H s.heap.objs.size (.lst [])) fp;have jv:=T.keep _ _ _ st λb hb o e=>zg b o (zf b o e)
 have kq:∀ {H':Hp},(∀ b∈fp,H' b=ab)->∀ b∈fp,iI al [] H' b:=λhn b hb=>
  ⟨hn b hb,(I1.ok.exf b hb).1,.inl hb,(I1.ok.exf b hb).2,λp hp=>nomatch hp⟩
 have zh:∀ s3:aF,s3={ s0 with heap:=h₁,toks:=s.toks } ->
   jJ (aO X.prog X.w) X.A (.compLoop (.ListComp iu [⟨tg,bm,ie,0⟩] sc pos) 0 (.ref it) (.ref s.heap.objs.size) (compEnvC sc (pQ sc X.env s0.heap.objs.size) s0.heap.objs.size X.env)) (RR (.ref s.heap.objs.size) s0.heap.objs.size) s3:=by
  rintro s3 rfl;refine C8 (λn s'=>∃ i ys σ' H',Inv al [] σ' H' s'/\tn i s'.heap/\(∀ b∈fp,H' b=ab)/\W i n ys σ' H') ?_ m0
   ⟨0,[],uO cap Z,_,I1,jv,λb hb=>(hf0 b hb).1,w0⟩
  rintro n s3 ⟨i,ys,σ3,H3,I3,yu,yv,w3⟩;obtain⟨hD,h3⟩:=ko i n ys σ3 H3 w3;rcases h3 with⟨stop,qn⟩|⟨go,aw,M,hM,step⟩
  .refine bj (T.done al rfl rfl rfl i [] s3 σ3 H3 (λ_ _=>False) I3 (kq yv) yu stop) λr s4 gh=>?_
   obtain⟨hr,I4⟩:=gh;subst hr;exact hRR _ s0 _ σ3 H3 s4 I0 hf0 I4 qn
  .refine bj (T.item al rfl rfl rfl i [] s3 σ3 H3 (λ_ _=>False) I3 (kq yv) yu go) λr s4 gh=>?_
   obtain⟨u,hr,h4⟩:=gh;subst hr;refine bj h4 λ_ s5 ⟨x,H5,I5,r5,y5,wj,fr5⟩=>bj (pg _ s5 σ3 H5 x u _ (I5.pinned (kq fr5) (T.obj _ _ wj)) r5 (step x H5 y5)) λ_ s6 ⟨σ6,H6,I6,q6⟩=>bj (pf _ s6 σ6 H6 _ I6 q6) λb s7 gh=>?_
   obtain⟨H7,I7,q7⟩:=gh;have again:∀ {s8:aF} {H8:Hp} {zs:aai},Inv al ([]++xS fp s5.heap) σ6 H8 s8->M zs σ6 H8 ->
     ∃ m,m<n/\∃ i ys σ' H',Inv al [] σ' H' s8/\tn i s8.heap/\(∀ b∈fp,H' b=ab)/\W i m ys σ' H':=λ{s8 H8 zs} I8 w8=>by
    obtain⟨m',hm,w8⟩:=hM _ _ _ w8;refine⟨m',hm,i+1,zs,σ6,H8,I8.unpinned,T.keep _ _ _ wj λb hb o e=>(I8.pin (b,o) (wR _ (EL hb e))).1,λb hb=>?_,w8⟩
    obtain⟨o,e,d⟩:=T.obj _ _ wj b hb;exact(I8.pin (b,o) (wR _ (EL hb e))).2.1
   cases b with
   |false=>
    exact again I7 q7
   |true=>
    refine bj (pe _ s7 σ6 H7 _ I7 q7) λv s8 ⟨y,H8,I8,r8,hD8,w8⟩=>bj (KM (X:=al) _ s8 σ6 H8 (.ref s.heap.objs.size) [y] (.ref s.heap.objs.size) [v] (λ_ H9=>H9=ax H8 s.heap.objs.size (.lst (ys++[y]))) I8 rfl (.cons r8 .nil) ⟨_,ys,y,rfl,rfl,hD8,aw,rfl⟩) λ_ s9 gh=>?_
    obtain⟨_,H9,I9,_,e9⟩:=gh;subst e9;exact again I9 w8
 have fin:=codeAny_compStart_list (zh _ rfl) (T.self X.A 0 _ _ _ jv (zh _ rfl));have e3:({ s with heap:=h₁ }:aF)={ s0 with heap:=h₁,toks:=s.toks }:=by
  rw[<-hs0]
 rw[<-e3] at fin;exact fin
theorem SG{s':aF}{h':aP}{H₀:Hp}(I0:Inv X ad Z H₀ s)(I:Inv X ad σ' H' s')(hn:H' s.heap.objs.size=ab)(hs:kY s.heap.objs.size s'.heap h'):Inv X ad σ' H' { s' with heap:=h' }:=
 I.turnM (t':=s'.toks) (fp:=[s.heap.objs.size]) (λb m=>by rw[cG.1 m];exact I0.fpOk (bA _) hn) λb o n e=>(hs.2 b λz=>n (cG.2 z)).trans e
theorem My (S:CompScope X N cap sc)(hi:PI X tg bm wi)(hb:Block X N sc tg iu ie g tc te)(hs:∀ x,tX bm X.env x=pure x:=by intro _;rfl) :
  PE X (.ListComp iu [⟨tg,bm,ie,0⟩] sc pos) (tLC cap wi g tc te):=by
 rw[6];refine wpAny_comprehension_free rfl hs (Dp (S.cells I.ok)) S.kind S.nm (bj (hi ad s Z H _ I h) λv s1 h1=>bj h1 λitv s2 gh=>?_)
 obtain⟨it,fp,tn,J,H2,e,I2,T,jt,f2,q2⟩:=gh;subst e;refine Gy S hb I2 T jt f2 q2 λD s₀ H₀ σ' H' s' I0 f0 I' qD=>?_
 obtain⟨m,hn,_⟩:=id I'.loc;exact⟨m,hn,λh' zi=>⟨.ref D,H',SG I0 (comp_back I0 f0 I') I'.free zi,rfl,qD⟩⟩
theorem i9 {i:Nat}(hN:X.N.Nodup)(ui:X.N[i]?=aa x)(hx:kB X.env.scope x)(S:CompScope X N cap sc)(hi:PI X tg bm wi)(hb:Block X N sc tg iu ie g tc te)
  (jw:kS (.ListComp iu [⟨tg,bm,ie,0⟩] sc pos) (aa (.Name x px)) oa.line X.env=pure af:=by rfl)
  (hs:∀ x,tX bm X.env x=pure x:=by intro _;rfl) (hf:Fn X x:=by exact qU) :
  PS X (.Assign [.Name x px] (.ListComp iu [⟨tg,bm,ie,0⟩] sc pos) oa) (GW (tLC cap wi g tc te) (HQ i)):=by
 intro ad s Z H D I h;rw[exec_Assign_Name_used _ _ _ _ jw];refine aE (wpAny_standAt (aE (aE (mA (wpAny_comprehension_free rfl hs (Dp (S.cells I.ok)) S.kind S.nm
  (bj (hi ad s Z H _ I h) λv s1 h1=>bj h1 λitv s2 ⟨it,fp,tn,J,H2,e,I2,T,jt,f2,q2⟩=>?_)) (λ_ s' hq=>aH (aH hq)) λ_ _ e=>e))))
 subst e;refine Gy S hb I2 T jt f2 q2 λD' s₀ H₀ σ' H' s' I0 f0 I' qD=>?_
 obtain⟨m,hn,_⟩:=id I'.loc;refine wpAny_assign_Name (Ai (comp_back I0 f0 I') hN ui hx (show RelV (.ref D') (.ref D') from rfl) (λs3 I3 ⟨a,sb,ha⟩=>?_) hf)
 have fp:=I0.fpOk (bA _) I'.free;exact⟨m,hn.sameBut sb λz=>ha.elim (λq=>fp.2.1 (z.trans q)) λq=>fp.2.2.2.1 x a q z.symm,λh' zi=>⟨_,H',SG I0 I3 I'.free zi,qD⟩⟩
end
noncomputable def IP (out:aaa)(XN N:aal)(cap:po)(ns:aaa):Bool:=
 ns.all (λy=>y.2 != .cell||ns.lookup y.1==aa .cell)&&ns.all (λy=>y.2 != .local||ns.lookup y.1==aa .local)&&ns.all (λy=>y.2 != .free||out.lookup y.1==aa .cell||out.lookup y.1==aa .free) &&
 cap.length==N.length&&(cap.zip N).all (λp=>match p.1 with|none=>af|some j=>XN[j]?==aa p.2&&ns.lookup p.2==aa .free)
theorem G9 {X:Cx}{out:aaa}{XN:aal}(h1:X.env.scope.names=out)(h2:X.N=XN)(zj:IP out XN N cap sc.names=af)(hk:sc.kind=.function):CompScope X N cap sc:=by
 unfold IP at zj;simp only[AZ,eB,bne_iff_ne,ne_eq,Bool.or_eq_true,beq_iff_eq] at zj;obtain⟨⟨⟨⟨c1,c2⟩,c3⟩,c4⟩,c5⟩:=zj;refine⟨hk,λy hy e=>(c1 y hy).elim (λq=>absurd e q) id,λy hy e=>?_,λy hy e=>?_,c4,λi j e=>?_⟩
 .rcases c2 y hy with q|q
  .exact absurd e q
  .exact q
 .rw[h1];rcases c3 y hy with(q|q)|q
  .exact absurd e q
  .exact .inl q
  .exact .inr q
 .have hi:=(cE.1 e).1;have ui:i<N.length:=()
  have hm:(cap[i],N[i])∈cap.zip N:=by
   have:(cap.zip N)[i]?=aa (cap[i],N[i]):=by
    rw[List.getElem?_zip_eq_some];exact⟨eE hi,eE ui⟩
   exact eW this
  have q:=c5 _ hm;have ec:cap[i]=aa j:=by
   rw[eE hi] at e;exact fF e
  rw[ec] at q;simp only[AZ,beq_iff_eq] at q;exact⟨N[i],eE ui,by rw[h2];exact q.1,q.2⟩
abbrev Ext (H H':Hp):Prop:=∀ b o,H b=aa o->H' b=aa o
theorem Ext.refl:Ext H H:=λ_ _ e=>e
theorem Ext.trans {H1 H2:Hp}(a:Ext H H1)(b:Ext H1 H2):Ext H H2:=λx o e=>b x o (a x o e)
theorem Ext.new(n:H p=ab):Ext H (ax H p o):=λb u e=>by
 rw[cN (lY e n)];exact e
theorem Ext.rd(x:Ext H H'){u:HO}(r:Rd H a u):Rd H' a u:=by
 rcases r with r|⟨o,r⟩
 .exact .inl (x _ _ r)
 .exact .inr ⟨o,x _ _ r⟩
theorem Ext.sqL(x:Ext H H')(h:SqL K H a xs):SqL K H' a xs:=h.imp x.rd id
theorem Ext.sqT(x:Ext H H')(h:SqT K H a xs):SqT K H' a xs:=h.imp x.rd id
theorem Ext.none(x:Ext H H')(h:H' a=Option.none):H a=Option.none:=by
 cases e:H a with
 |none=>rfl
 |some o=>rw[x a o e] at h;cases h
open Classical in
def hid (H:Hp)(P:aC->Prop):Hp:=λa=>if P a then ab else H a
theorem Acz{P:aC->Prop}:hid H P a=aa o ↔ ¬ P a/\H a=aa o:=by
 unfold hid;by_cases h:P a<;>simp[h]
theorem hZ{P:aC->Prop}(n:¬ P a)(e:H a=aa o):hid H P a=aa o:=Acz.2 ⟨n,e⟩
theorem Aam{P:aC->Prop}:Ext (hid H P) H:=λ_ _ e=>(Acz.1 e).2
theorem cS{P:aC->Prop}(x:Ext H H'):Ext (hid H P) (hid H' P):=λb o e=>by
 obtain⟨n,e⟩:=Acz.1 e;exact hZ n (x b o e)
theorem rB{P P':aC->Prop}(s:∀ a,P' a->P a):Ext (hid H P) (hid H P'):=λb o e=>by
 obtain⟨n,e⟩:=Acz.1 e;exact hZ (λq=>n (s b q)) e
def Hid (P:aC->Prop)(H:Hp):Prop:=∀ a,P a->Mut (H a)
theorem Mut.ext(x:Ext H H')(m:Mut (H a)):H' a=H a:=by
 cases e:H a with
 |none=>rw[e] at m;exact m.elim
 |some o=>exact x _ _ e
theorem Hid.ext {P:aC->Prop}(h:Hid P H)(x:Ext H H'):Hid P H':=λa p=>by rw[(h a p).ext x];exact h a p
theorem Hid.new {P:aC->Prop}(h:Hid P H)(n:H a=ab):¬ P a:=λp=>by
 have:=h a p;rw[n] at this;exact this
theorem Hid.tup {P:aC->Prop}(h:Hid P H)(e:H a=aa (.tup xs)):hid H P a=aa (.tup xs):=hZ (λp=>by
 have:=h a p;rw[e] at this;exact this) e
abbrev ja (P:aC->Prop)(F:aan):aC->Prop:=λa=>P a\/a∈F
theorem Gw {P:aC->Prop}:ja P []=P:=by
 funext a;simp[ja]
noncomputable def kD:aG->aA
 |.inl i=>.int i
 |.inr x=>.str x
theorem Ri {a b:aG}(e:kD a=kD b):a=b:=by
 cases a<;>cases b<;>simp[kD] at e<;>rw[e]
mutual
def Abg (K:aI)(H:Hp):aA->V->Prop
 |.none,v=>v=.non
 |.bool b,v=>v=.bl b
 |.int i,v=>v=.int i
 |.str x,v=>v=.str x/\bX (.str x)=af
 |.list ds,v=>∃ a xs,v=.ref a/\SqL K H a xs/\Aan K H ds xs
 |.tuple ds,v=>∃ a xs,v=.ref a/\H a=aa (.tup xs)/\Aan K H ds xs
 |.dict kds,v=>∃ a,v=.ref a/\((∃ kvs:Nat×li,H a=aa (.dK kvs.1 kvs.2)/\Ajl K H (λk k'=>k=kD k') kds kvs.2)\/∃ ts:Nat×jp,H a=aa (.dT ts.1 ts.2)/\Azu K H kds ts.2)
def Aan (K:aI)(H:Hp):aag->aai->Prop
 |[],xs=>xs=[]
 |d::ds,xs=>∃ x r,xs=x::r/\Abg K H d x/\Aan K H ds r
def Ajl (K:aI)(H:Hp){κ:Type}(f:aA->κ->Prop):dL->List (κ×V)->Prop
 |[],xs=>xs=[]
 |(k,d)::ds,xs=>∃ k' x r,xs=(k',x)::r/\f k k'/\Abg K H d x/\Ajl K H f ds r
def Azu (K:aI)(H:Hp):dL->jp->Prop
 |[],_=>False
 |(k,_)::ds,xs=>k=.none/\Ajl K H (λk k'=>k=.tuple k'/\bS k'=af) ds xs
end
abbrev gR (K:aI)(H:Hp):dL->li->Prop:=Ajl K H λk k'=>k=kD k'
abbrev pH (K:aI)(H:Hp):dL->jp->Prop:=Ajl K H λk k'=>k=.tuple k'/\bS k'=af
noncomputable def ic:dL->Bool
 |(.none,_)::_=>ah
 |_=>af
theorem Abl:Abg K H .none v↔v=.non:=by simp[Abg]
theorem Aas {b:Bool}:Abg K H (.bool b) v↔v=.bl b:=by simp[Abg]
theorem Aaj {b:Int}:Abg K H (.int b) v↔v=.int b:=by simp[Abg]
theorem Aa2 {b:aD}:Abg K H (.str b) v↔v=.str b/\bX (.str b)=af:=by simp only[Abg]
theorem Aav:Abg K H (.list ds) v ↔ ∃ a xs,v=.ref a/\SqL K H a xs/\Aan K H ds xs:=by simp only[Abg]
theorem Aal:Abg K H (.tuple ds) v ↔ ∃ a xs,v=.ref a/\H a=aa (.tup xs)/\Aan K H ds xs:=by simp only[Abg]
theorem Acx {ds:dL}:Abg K H (.dict ds) v ↔ ∃ a,v=.ref a/\((∃ kvs:Nat×li,H a=aa (.dK kvs.1 kvs.2)/\gR K H ds kvs.2)\/∃ ts:Nat×jp,H a=aa (.dT ts.1 ts.2)/\Azu K H ds ts.2):=by simp only[Abg]
theorem Abm {κ:Type}{f:aA->κ->Prop}{xs:List (κ×V)}:Ajl K H f [] xs↔xs=[]:=by simp[Ajl]
theorem Aba {κ:Type}{f:aA->κ->Prop}{k:aA}{ds:dL}{xs:List (κ×V)}:Ajl K H f ((k,d)::ds) xs ↔ ∃ k' x r,xs=(k',x)::r/\f k k'/\Abg K H d x/\Ajl K H f ds r:=by simp only[Ajl]
theorem Ad0 {k m:aA}{ds:dL}{xs:jp}:Azu K H ((k,m)::ds) xs↔k=.none/\pH K H ds xs:=by simp only[Azu]
theorem M9 {ds:dL}{xs:jp}(hk:ic ds=af):¬ Azu K H ds xs:=by
 cases ds with
 |nil=>simp[Azu]
 |cons p r=>
  obtain⟨k,d⟩:=p;intro h;rw[(Ad0.1 h).1] at hk;simp[ic] at hk
theorem vQ {ds:dL}(hk:ic ds=af):Abg K H (.dict ds) v ↔ ∃ a,∃ kvs:Nat×li,v=.ref a/\H a=aa (.dK kvs.1 kvs.2)/\gR K H ds kvs.2:=by
 rw[Acx];constructor
 .rintro⟨a,e,⟨kvs,h,r⟩|⟨ts,h,r⟩⟩
  .exact⟨a,kvs,e,h,r⟩
  .exact absurd r (M9 hk)
 .rintro⟨a,kvs,e,h,r⟩;exact⟨a,e,.inl ⟨kvs,h,r⟩⟩
theorem Y1 {ds:dL}{kvs:Nat×li}(e:v=.ref a)(h:H a=aa (.dK kvs.1 kvs.2))(r:gR K H ds kvs.2):Abg K H (.dict ds) v:=Acx.2 ⟨a,e,.inl ⟨kvs,h,r⟩⟩
theorem Aah:Aan K H [] xs↔xs=[]:=by simp[Aan]
theorem Aac:Aan K H (d::ds) xs ↔ ∃ x r,xs=x::r/\Abg K H d x/\Aan K H ds r:=by simp only[Aan]
theorem Apt {m:aA}{ds:dL}:Abg K H (.dict ((.none,m)::ds)) v ↔ ∃ a,∃ ts:Nat×jp,v=.ref a/\H a=aa (.dT ts.1 ts.2)/\pH K H ds ts.2:=by
 rw[Acx];constructor
 .rintro⟨a,e,⟨kvs,h,r⟩|⟨ts,h,r⟩⟩
  .obtain⟨k',_,_,_,ek,_⟩:=Aba.1 r;cases k'<;>simp[kD] at ek
  .exact⟨a,ts,e,h,(Ad0.1 r).2⟩
 .rintro⟨a,ts,e,h,r⟩;exact⟨a,e,.inr ⟨ts,h,Ad0.2 ⟨rfl,r⟩⟩⟩
mutual
theorem Abg.ext(x:Ext H H'):∀ {d:aA} {v:V},Abg K H d v->Abg K H' d v
 |.none,_,h=>Abl.2 (Abl.1 h)
 |.bool _,_,h=>Aas.2 (Aas.1 h)
 |.int _,_,h=>Aaj.2 (Aaj.1 h)
 |.str _,_,h=>Aa2.2 (Aa2.1 h)
 |.list ds,_,h=>by
  obtain⟨a,xs,e,s,r⟩:=Aav.1 h;exact Aav.2 ⟨a,xs,e,x.sqL s,Aan.ext x r⟩
 |.tuple ds,_,h=>by
  obtain⟨a,xs,e,s,r⟩:=Aal.1 h;exact Aal.2 ⟨a,xs,e,x _ _ s,Aan.ext x r⟩
 |.dict ds,_,h=>by
  obtain⟨a,e,⟨kvs,r,q⟩|⟨ts,r,q⟩⟩:=Acx.1 h
  .exact Acx.2 ⟨a,e,.inl ⟨kvs,x _ _ r,Ajl.ext x q⟩⟩
  .exact Acx.2 ⟨a,e,.inr ⟨ts,x _ _ r,Azu.ext x q⟩⟩
theorem Aan.ext(x:Ext H H'):∀ {ds:aag} {vs:aai},Aan K H ds vs->Aan K H' ds vs
 |[],_,h=>Aah.2 (Aah.1 h)
 |d::ds,_,h=>by
  obtain⟨y,r,e,h1,h2⟩:=Aac.1 h;exact Aac.2 ⟨y,r,e,Abg.ext x h1,Aan.ext x h2⟩
theorem Ajl.ext(x:Ext H H'){κ:Type}{f:aA->κ->Prop}:∀ {ds:dL} {vs:List (κ×V)},Ajl K H f ds vs->Ajl K H' f ds vs
 |[],_,h=>Abm.2 (Abm.1 h)
 |(k,d)::ds,_,h=>by
  obtain⟨k',y,r,e,ek,h1,h2⟩:=Aba.1 h;exact Aba.2 ⟨k',y,r,e,ek,Abg.ext x h1,Ajl.ext x h2⟩
theorem Azu.ext(x:Ext H H'):∀ {ds:dL} {vs:jp},Azu K H ds vs->Azu K H' ds vs
 |[],_,h=>absurd h (by simp[Azu])
 |(k,d)::ds,_,h=>Ad0.2 ⟨(Ad0.1 h).1,Ajl.ext x (Ad0.1 h).2⟩
end
theorem Aan.length:∀ {ds:aag} {vs:aai},Aan K H ds vs->vs.length=ds.length
 |[],_,h=>by rw[Aah.1 h];rfl
 |d::ds,_,h=>by
  obtain⟨y,r,e,h1,h2⟩:=Aac.1 h;rw[e,eX,eX,Aan.length h2]
theorem Aan.get:∀ {ds:aag} {vs:aai} {i:Nat} {d:aA},Aan K H ds vs->ds[i]?=aa d->∃ v,vs[i]?=aa v/\Abg K H d v
 |[],_,_,_,h,e=>by simp at e
 |d::ds,_,0,d',h,e=>by
  obtain⟨y,r,rfl,h1,h2⟩:=Aac.1 h;have:d=d':=by simpa using e
  subst this;exact⟨y,rfl,h1⟩
 |d::ds,_,i+1,d',h,e=>by
  obtain⟨y,r,rfl,h1,h2⟩:=Aac.1 h;obtain⟨v,h3,h4⟩:=Aan.get h2 (by simpa using e)
  exact⟨v,by simpa using h3,h4⟩
theorem Aan.append:∀ {ds es:aag} {vs ws:aai},Aan K H ds vs->Aan K H es ws->Aan K H (ds++es) (vs++ws)
 |[],es,_,_,h,g=>by rw[Aah.1 h];exact g
 |d::ds,es,_,_,h,g=>by
  obtain⟨y,r,rfl,h1,h2⟩:=Aac.1 h;exact Aac.2 ⟨y,_,rfl,h1,Aan.append h2 g⟩
theorem Aan.snoc{vs:aai}(h:Aan K H ds vs)(g:Abg K H d v):Aan K H (ds++[d]) (vs++[v]):=
 h.append (Aac.2 ⟨v,[],rfl,g,Aah.2 rfl⟩)
theorem Aan.drop:∀ {ds:aag} {vs:aai} (n:Nat),Aan K H ds vs->Aan K H (ds.drop n) (vs.drop n)
 |_,_,0,h=>h
 |[],_,n+1,h=>by rw[Aah.1 h];exact Aah.2 rfl
 |d::ds,_,n+1,h=>by
  obtain⟨y,r,rfl,h1,h2⟩:=Aac.1 h;exact Aan.drop n h2
theorem Aan.take:∀ {ds:aag} {vs:aai} (n:Nat),Aan K H ds vs->Aan K H (ds.take n) (vs.take n)
 |_,_,0,h=>Aah.2 rfl
 |[],_,n+1,h=>by rw[Aah.1 h];exact Aah.2 rfl
 |d::ds,_,n+1,h=>by
  obtain⟨y,r,rfl,h1,h2⟩:=Aac.1 h;exact Aac.2 ⟨y,_,rfl,h1,Aan.take n h2⟩
theorem Aan.set(g:Abg K H d v):∀ {ds:aag} {vs:aai} (n:Nat),Aan K H ds vs->Aan K H (ds.set n d) (vs.set n v)
 |[],_,n,h=>by rw[Aah.1 h];exact Aah.2 rfl
 |e::ds,_,0,h=>by
  obtain⟨y,r,rfl,h1,h2⟩:=Aac.1 h;exact Aac.2 ⟨v,r,rfl,g,h2⟩
 |e::ds,_,n+1,h=>by
  obtain⟨y,r,rfl,h1,h2⟩:=Aac.1 h;exact Aac.2 ⟨y,_,rfl,h1,Aan.set g n h2⟩
theorem KH:∀ ns:aaj,Aan K H (ns.map aU) (ns.map V.int)
 |[]=>Aah.2 rfl
 |n::r=>Aac.2 ⟨_,_,rfl,Aaj.2 rfl,KH r⟩
theorem C6(h:Abg K H (kD k) v):v=kV k:=by
 cases k with
 |inl i=>exact Aaj.1 h
 |inr x=>exact(Aa2.1 h).1
mutual
theorem Abg.key {K:aI}{H:Hp}:∀ (d:aA) {v:V},cA d=af->Abg K H d v->Ahe H d v
 |.int i,v,_,h=>by simpa [Ahe] using Aaj.1 h
 |.str i,v,_,h=>by simpa [Ahe] using(Aa2.1 h).1
 |.tuple ds,v,k,h=>by
  obtain⟨a,xs,e,s,r⟩:=Aal.1 h;simp only[Ahe];exact⟨a,xs,e,s,Aan.keys ds (by simpa [cA] using k) r⟩
 |.none,v,k,_=>by simp[cA] at k
 |.bool _,v,k,_=>by simp[cA] at k
 |.list _,v,k,_=>by simp[cA] at k
 |.dict _,v,k,_=>by simp[cA] at k
theorem Aan.keys {K:aI}{H:Hp}:∀ (ds:aag) {vs:aai},bS ds=af->Aan K H ds vs->Ad8 H ds vs
 |[],vs,_,h=>by simpa [Ad8] using Aah.1 h
 |d::ds,vs,k,h=>by
  have k':cA d=af/\bS ds=af:=by simpa [bS] using k
  obtain⟨y,r,e,h1,h2⟩:=Aac.1 h;simp only[Ad8];exact⟨y,r,e,Abg.key d k'.1 h1,Aan.keys ds k'.2 h2⟩
end
mutual
def gQ:aA->Bool
 |.list _=>ah
 |.dict _=>ah
 |.tuple ds=>iO ds
 |_=>af
def iO:aag->Bool
 |[]=>af
 |d::r=>gQ d&&iO r
end
theorem Ap:∀ ds:aag,iO ds=ds.all gQ
 |[]=>by simp[iO]
 |d::r=>by simp[iO,Ap r]
mutual
theorem Abg.flat(x:∀ a xs,H a=aa (.tup xs)->H' a=aa (.tup xs)):∀ (d:aA) {v:V},gQ d=af->Abg K H d v->Abg K H' d v
 |.none,_,_,h=>Abl.2 (Abl.1 h)
 |.bool _,_,_,h=>Aas.2 (Aas.1 h)
 |.int _,_,_,h=>Aaj.2 (Aaj.1 h)
 |.str _,_,_,h=>Aa2.2 (Aa2.1 h)
 |.tuple ds,_,f,h=>by
  obtain⟨a,xs,e,s,r⟩:=Aal.1 h;exact Aal.2 ⟨a,xs,e,x _ _ s,Aan.flat x ds (by simpa [gQ] using f) r⟩
 |.list _,_,f,_=>by simp[gQ] at f
 |.dict _,_,f,_=>by simp[gQ] at f
theorem Aan.flat(x:∀ a xs,H a=aa (.tup xs)->H' a=aa (.tup xs)):∀ (ds:aag) {vs:aai},iO ds=af->Aan K H ds vs->Aan K H' ds vs
 |[],_,_,h=>Aah.2 (Aah.1 h)
 |d::ds,_,f,h=>by
  have f':gQ d=af/\iO ds=af:=by simpa [iO] using f
  obtain⟨y,r,e,h1,h2⟩:=Aac.1 h;exact Aac.2 ⟨y,r,e,Abg.flat x d f'.1 h1,Aan.flat x ds f'.2 h2⟩
end
inductive All3 {α β γ:Type}(R:α->β->γ->Prop):List α->List β->List γ->Prop
 |nil:All3 R [] [] []
 |cons {a b c as bs cs}:R a b c->All3 R as bs cs->All3 R (a::as) (b::bs) (c::cs)
theorem All3.imp {α β γ:Type}{R S:α->β->γ->Prop}:∀ {as:List α} {bs:List β} {cs:List γ},All3 R as bs cs->(∀ a b c,c∈cs->R a b c->S a b c)->All3 S as bs cs:=by
 intro as bs cs h;induction h with
 |nil=>exact λ_=>.nil
 |cons h _ ih=>exact λf=>.cons (f _ _ _ bD h) (ih λa b c m=>f a b c (bI _ m))
def Adr (K:aI)(B H:Hp):Nat->aA->V->aan->Prop
 |0,d,v,F=>F=[]/\Abg K B d v
 |n+1,d,v,F=>match d with
  |.list ds=>∃ p xs Fs,v=.ref p/\H p=aa (.lst xs)/\F=p::Fs.flatten/\All3 (Adr K B H n) ds xs Fs
  |.dict kds=>∃ p,∃ kvs:Nat×li,∃ Fs,v=.ref p/\H p=aa (.dK kvs.1 kvs.2)/\F=p::Fs.flatten/\All3 (λ(kd:aA×aA) (kv:aG×V) f=>kd.1=kD kv.1/\Adr K B H n kd.2 kv.2 f) kds kvs.2 Fs
  |.tuple ds=>(n=0/\F=[]/\Abg K B (.tuple ds) v)\/(n≠0/\∃ p xs Fs,v=.ref p/\B p=aa (.tup xs)/\F=Fs.flatten/\All3 (Adr K B H n) ds xs Fs)
  |d=>F=[]/\Abg K B d v
theorem Adr.keep{B:Hp}(xb:Ext B B'):∀ {n:Nat} {d:aA} {v:V} {F:aan},(∀ a∈F,H' a=H a)->Adr K B H n d v F->Adr K B' H' n d v F
 |0,d,v,F,_,h=>⟨h.1,h.2.ext xb⟩
 |n+1,.list ds,v,F,kp,h=>by
  obtain⟨p,xs,Fs,e,hp,rfl,q⟩:=h;refine⟨p,xs,Fs,e,(kp p bD).trans hp,rfl,q.imp λa b c m r=>Adr.keep xb (λz hz=>kp z (bI _ (mG.2 ⟨c,m,hz⟩))) r⟩
 |n+1,.dict kds,v,F,kp,h=>by
  obtain⟨p,xs,Fs,e,hp,rfl,q⟩:=h;refine⟨p,xs,Fs,e,(kp p bD).trans hp,rfl,q.imp λa b c m r=>⟨r.1,Adr.keep xb (λz hz=>kp z (bI _ (mG.2 ⟨c,m,hz⟩))) r.2⟩⟩
 |n+1,.none,v,F,_,h=>⟨h.1,h.2.ext xb⟩
 |n+1,.bool _,v,F,_,h=>⟨h.1,h.2.ext xb⟩
 |n+1,.int _,v,F,_,h=>⟨h.1,h.2.ext xb⟩
 |n+1,.str _,v,F,_,h=>⟨h.1,h.2.ext xb⟩
 |n+1,.tuple ds,v,F,kp,h=>by
  rcases h with⟨h0,h1,h2⟩|⟨h0,p,xs,Fs,e,hp,rfl,q⟩
  .exact .inl ⟨h0,h1,h2.ext xb⟩
  .exact .inr ⟨h0,p,xs,Fs,e,xb _ _ hp,rfl,q.imp λa b c m r=>Adr.keep xb (λz hz=>kp z (mG.2 ⟨c,m,hz⟩)) r⟩
theorem YZ{B:Hp}{R:aA->V->aan->Prop}(f:∀ d v F,R d v F->Abg K B d v):∀ {ds:aag} {xs:aai} {Fs:aae},All3 R ds xs Fs->Aan K B ds xs:=by
 intro ds xs Fs h;induction h with
 |nil=>exact Aah.2 rfl
 |cons h _ ih=>exact Aac.2 ⟨_,_,rfl,f _ _ _ h,ih⟩
theorem U4{B:Hp}{R:aA×aA->aG×V->aan->Prop}(f:∀ d v F,R d v F->d.1=kD v.1/\Abg K B d.2 v.2):∀ {ds:dL} {xs:li} {Fs:aae},All3 R ds xs Fs->gR K B ds xs:=by
 intro ds xs Fs h;induction h with
 |nil=>exact Abm.2 rfl
 |@cons p q F ds xs Fs h _ ih=>
  obtain⟨k,d⟩:=p;obtain⟨k',v⟩:=q;exact Aba.2 ⟨_,_,_,rfl,(f _ _ _ h).1,(f _ _ _ h).2,ih⟩
theorem Adr.share{B:Hp}(xb:Ext B B'):∀ {n:Nat} {d:aA} {v:V} {F:aan},(∀ a∈F,∀ o,H a=aa o->B' a=aa o)->Adr K B H n d v F->Abg K B' d v
 |0,d,v,F,_,h=>h.2.ext xb
 |n+1,.list ds,v,F,kp,h=>by
  obtain⟨p,xs,Fs,e,hp,rfl,q⟩:=h;exact Aav.2 ⟨p,xs,e,SqL.of (kp p bD _ hp),YZ (λd v F r=>r) (q.imp λa b c m r=>Adr.share xb (λz hz=>kp z (bI _ (mG.2 ⟨c,m,hz⟩))) r)⟩
 |n+1,.dict kds,v,F,kp,h=>by
  obtain⟨p,xs,Fs,e,hp,rfl,q⟩:=h;exact Y1 e (kp p bD _ hp) (U4 (λd v F r=>r) (q.imp λa b c m r=>⟨r.1,Adr.share xb (λz hz=>kp z (bI _ (mG.2 ⟨c,m,hz⟩))) r.2⟩))
 |n+1,.none,v,F,_,h=>h.2.ext xb
 |n+1,.bool _,v,F,_,h=>h.2.ext xb
 |n+1,.int _,v,F,_,h=>h.2.ext xb
 |n+1,.str _,v,F,_,h=>h.2.ext xb
 |n+1,.tuple ds,v,F,kp,h=>by
  rcases h with⟨h0,h1,h2⟩|⟨h0,p,xs,Fs,e,hp,rfl,q⟩
  .exact h2.ext xb
  .exact Aal.2 ⟨p,xs,e,xb _ _ hp,YZ (λd v F r=>r) (q.imp λa b c m r=>Adr.share xb (λz hz=>kp z (mG.2 ⟨c,m,hz⟩)) r)⟩
noncomputable def fJ:Nat->aA->Bool
 |0,d=>gQ d
 |n+1,.list ds=>ds.all (fJ n)
 |n+1,.dict kds=>kds.all λkd=>fJ n kd.2
 |n+2,.tuple ds=>ds.all (fJ (n+1))
 |n+1,d=>gQ d
theorem Adr.flat{B:Hp}(xb:∀ a xs,B a=aa (.tup xs)->B' a=aa (.tup xs)):∀ {n:Nat} {d:aA} {v:V} {F:aan},fJ n d=af->Adr K B H n d v F->Adr K B' H n d v F
 |0,d,v,F,f,h=>⟨h.1,h.2.flat xb d f⟩
 |n+1,.list ds,v,F,f,h=>by
  obtain⟨p,xs,Fs,e,hp,rfl,q⟩:=h;refine⟨p,xs,Fs,e,hp,rfl,?_⟩;have f':∀ d∈ds,fJ n d=af:=by simpa [fJ] using f
  clear hp f e;induction q with
  |nil=>exact .nil
  |cons h t ih=>exact .cons (Adr.flat xb (f' _ bD) h) (ih λd m=>f' d (bI _ m))
 |n+1,.dict kds,v,F,f,h=>by
  obtain⟨p,xs,Fs,e,hp,rfl,q⟩:=h;refine⟨p,xs,Fs,e,hp,rfl,?_⟩;have f':∀ d∈kds,fJ n d.2=af:=λd m=>by
   have:kds.all (λkd=>fJ n kd.2)=af:=by simpa [fJ] using f
   exact eB.1 this d m
  clear hp f e;obtain⟨xe,xs⟩:=xs;replace q:All3 _ kds xs Fs:=q;induction q with
  |nil=>exact .nil
  |cons h t ih=>exact .cons ⟨h.1,Adr.flat xb (f' _ bD) h.2⟩ (ih λd m=>f' d (bI _ m))
 |n+1,.none,v,F,f,h=>⟨h.1,h.2.flat xb _ f⟩
 |n+1,.bool _,v,F,f,h=>⟨h.1,h.2.flat xb _ f⟩
 |n+1,.int _,v,F,f,h=>⟨h.1,h.2.flat xb _ f⟩
 |n+1,.str _,v,F,f,h=>⟨h.1,h.2.flat xb _ f⟩
 |1,.tuple ds,v,F,f,h=>by
  rcases h with⟨h0,h1,h2⟩|⟨h0,_⟩
  .exact .inl ⟨h0,h1,h2.flat xb _ f⟩
  .exact absurd rfl h0
 |n+2,.tuple ds,v,F,f,h=>by
  rcases h with⟨h0,_⟩|⟨h0,p,xs,Fs,e,hp,rfl,q⟩
  .exact absurd h0 ()
  .refine .inr ⟨h0,p,xs,Fs,e,xb _ _ hp,rfl,?_⟩;have f':∀ d∈ds,fJ (n+1) d=af:=by simpa [fJ] using f
   clear hp f e;induction q with
   |nil=>exact .nil
   |cons h t ih=>exact .cons (Adr.flat xb (f' _ bD) h) (ih λd m=>f' d (bI _ m))
theorem All3.of {α β γ:Type}{R:α->β->γ->Prop}:∀ {as:List α} {bs:List β} {cs:List γ},All3 R as bs cs->∀ c∈cs,∃ a b,R a b c:=by
 intro as bs cs h;induction h with
 |nil=>exact λc m=>by simp at m
 |cons h _ ih=>
  intro c m;rcases cI.1 m with rfl|m
  .exact⟨_,_,h⟩
  .exact ih c m
theorem Adr.mut{B:Hp}:∀ {n:Nat} {d:aA} {v:V} {F:aan},Adr K B H n d v F->∀ a∈F,Mut (H a)
 |0,d,v,F,h,a,m=>by rw[h.1] at m;simp at m
 |n+1,.list ds,v,F,h,a,m=>by
  obtain⟨p,xs,Fs,e,hp,rfl,q⟩:=h;rcases cI.1 m with e1|m2
  .rw[e1,hp];trivial
  .obtain⟨f,hf,ha⟩:=mG.1 m2;obtain⟨_,_,r⟩:=q.of f hf;exact Adr.mut r a ha
 |n+1,.dict kds,v,F,h,a,m=>by
  obtain⟨p,xs,Fs,e,hp,rfl,q⟩:=h;rcases cI.1 m with e1|m2
  .rw[e1,hp];trivial
  .obtain⟨f,hf,ha⟩:=mG.1 m2;obtain⟨_,_,r⟩:=q.of f hf;exact Adr.mut r.2 a ha
 |n+1,.none,v,F,h,a,m=>by rw[h.1] at m;simp at m
 |n+1,.bool _,v,F,h,a,m=>by rw[h.1] at m;simp at m
 |n+1,.int _,v,F,h,a,m=>by rw[h.1] at m;simp at m
 |n+1,.str _,v,F,h,a,m=>by rw[h.1] at m;simp at m
 |n+1,.tuple ds,v,F,h,a,m=>by
  rcases h with⟨_,h1,_⟩|⟨h0,p,xs,Fs,e,hp,rfl,q⟩
  .rw[h1] at m;simp at m
  .obtain⟨f,hf,ha⟩:=mG.1 m;obtain⟨_,_,r⟩:=q.of f hf;exact Adr.mut r a ha
section
variable {B:Hp}{F:aan}
theorem Y6:∀ {ds:aag} {xs:aai} {Fs:aae},All3 (Adr K B H 0) ds xs Fs->Aan K B ds xs/\Fs.flatten=[]:=by
 intro ds xs Fs h;induction h with
 |nil=>exact⟨Aah.2 rfl,rfl⟩
 |cons h t ih=>
  obtain⟨rfl,r⟩:=h;exact⟨Aac.2 ⟨_,_,rfl,r,ih.1⟩,by rw[AR,ih.2];rfl⟩
theorem n6:∀ {ds:dL} {xs:li} {Fs:aae},All3 (λ(kd:aA×aA) (kv:aG×V) f=>kd.1=kD kv.1/\Adr K B H 0 kd.2 kv.2 f) ds xs Fs->gR K B ds xs/\Fs.flatten=[]:=by
 intro ds xs Fs h;induction h with
 |nil=>exact⟨Abm.2 rfl,rfl⟩
 |@cons p q F ds xs Fs h t ih=>
  obtain⟨k,d⟩:=p;obtain⟨k',v⟩:=q;obtain⟨ek,rfl,r⟩:=h;exact⟨Aba.2 ⟨_,_,_,rfl,ek,r,ih.1⟩,by rw[AR,ih.2];rfl⟩
theorem ZU:∀ {ds:aag} {xs:aai},Aan K B ds xs->All3 (Adr K B H 0) ds xs (xs.map λ_=>[])/\(xs.map λ_=>([]:aan)).flatten=[]
 |[],xs,r=>by rw[Aah.1 r];exact⟨.nil,rfl⟩
 |d::ds,xs,r=>by
  obtain⟨y,t,rfl,h1,h2⟩:=Aac.1 r;obtain⟨q1,q2⟩:=ZU h2;exact⟨.cons ⟨rfl,h1⟩ q1,by rw[dB,AR,q2];rfl⟩
theorem Bj:∀ {ds:dL} {xs:li},gR K B ds xs->All3 (λ(kd:aA×aA) (kv:aG×V) f=>kd.1=kD kv.1/\Adr K B H 0 kd.2 kv.2 f) ds xs (xs.map λ_=>[])/\(xs.map λ_=>([]:aan)).flatten=[]
 |[],xs,r=>by rw[Abm.1 r];exact⟨.nil,rfl⟩
 |(k,d)::ds,xs,r=>by
  obtain⟨k',y,t,rfl,ek,h1,h2⟩:=Aba.1 r;obtain⟨q1,q2⟩:=Bj h2;exact⟨.cons ⟨ek,rfl,h1⟩ q1,by rw[dB,AR,q2];rfl⟩
theorem SM(h:Adr K B H 1 (.list ds) v F):∃ p xs,v=.ref p/\H p=aa (.lst xs)/\F=[p]/\Aan K B ds xs:=by
 obtain⟨p,xs,Fs,e,hp,hF,h3⟩:=h;obtain⟨r,hn⟩:=Y6 h3;exact⟨p,xs,e,hp,by rw[hF,hn],r⟩
theorem CB(hp:H p=aa (.lst xs))(r:Aan K B ds xs):Adr K B H 1 (.list ds) (.ref p) [p]:=
 let ⟨q1,q2⟩:=ZU r
 ⟨p,xs,_,rfl,hp,by rw[q2],q1⟩
theorem Pl {ds:dL}(h:Adr K B H 1 (.dict ds) v F):∃ p,∃ xs:Nat×li,v=.ref p/\H p=aa (.dK xs.1 xs.2)/\F=[p]/\gR K B ds xs.2:=by
 obtain⟨p,xs,Fs,e,hp,hF,h3⟩:=h;obtain⟨r,hn⟩:=n6 h3;exact⟨p,xs,e,hp,by rw[hF,hn],r⟩
theorem SE {ds:dL}{xs:li}(hp:H p=aa (.dK n xs))(r:gR K B ds xs):Adr K B H 1 (.dict ds) (.ref p) [p]:=
 let ⟨q1,q2⟩:=Bj r
 ⟨p,(n,xs),_,rfl,hp,by rw[q2],q1⟩
end
abbrev EF:=be->aah
abbrev BF:=be->Option Bool
abbrev AF:=be->aad
def Ama (K:aI)(B:Hp)(Y:be)(Z:St):Prop:=∀ (i:Nat) d,Y[i]?=aa (aa d)->∃ v,Z[i]?=aa (aa v)/\Abg K B d v
theorem Ama.ext{B:Hp}(h:Ama K B Y Z)(x:Ext B B'):Ama K B' Y Z:=λi d e=>let ⟨v,h1,h2⟩:=h i d e;⟨v,h1,h2.ext x⟩
def Res (K:aI)(P:aC->Prop)(n:Nat)(d:aA)(H:Hp)(Q:VK):Prop:=
 ∀ v H' Fr,Ext H H'->Fr.Nodup->(∀ a∈Fr,H a=ab/\∃ o,H' a=aa o)->Adr K (hid H' (ja P Fr)) H' n d v Fr->Q v H'
section
variable {P:aC->Prop}{Q:VK}
theorem Res.zero (h:Res K P 0 d H Q)(x:Ext H H')(r:Abg K (hid H' P) d v):Q v H':=
 h v H' [] x .nil (λa m=>by simp at m) ⟨rfl,by rw[Gw];exact r⟩
theorem dY (h:∀ v H',Ext H H'->Abg K (hid H' P) d v->Q v H'):Res K P 0 d H Q:=λv H' Fr x _ _ r=>by
 obtain⟨rfl,r⟩:=r;rw[Gw] at r;exact h v H' x r
theorem Res.mono (h:Res K P n d H Q)(x:Ext H H'):Res K P n d H' Q:=λv H2 Fr x2 nd fr r=>
 h v H2 Fr (x.trans x2) nd (λa m=>⟨x.none (fr a m).1,(fr a m).2⟩) r
theorem Res.of (hP:Hid P H)(h:Res K P 0 d H Q):Res K P n d H Q:=λv H2 Fr x2 nd fr r=>
 h.zero x2 (r.share (rB λa p=>.inl p) λa m o e=>hZ (hP.new (fr a m).1) e)
theorem Res.root{d:aA}(h:Res K P 1 d H Q)(n:H p=ab)(r:Ext (hid H P) (hid (ax H p o) (ja P [p]))->Adr K (hid (ax H p o) (ja P [p])) (ax H p o) 1 d (.ref p) [p]):Q (.ref p) (ax H p o):=
 h (.ref p) _ [p] (Ext.new n) (nA.2 ⟨by simp,.nil⟩) (λa m=>by rw[cG.1 m];exact⟨n,_,eF⟩) (r λb o e=>by
  obtain⟨nb,e⟩:=Acz.1 e;have hb:=lY e n;exact hZ (λq=>q.elim nb λm=>hb (by simpa using m)) (by rw[cN hb];exact e))
theorem Res.lst(hP:Hid P H)(h:Res K P 1 (.list ds) H Q)(n:H p=ab)(r:Aan K (hid H P) ds xs):Q (.ref p) (ax H p (.lst xs)):=h.root n λxe=>CB eF (r.ext xe)
theorem Res.dic{ep:Nat}(hP:Hid P H)(h:Res K P 1 (.dict kds) H Q)(n:H p=ab)(r:gR K (hid H P) kds kvs):Q (.ref p) (ax H p (.dK ep kvs)):=h.root n λxe=>SE eF (r.ext xe)
theorem Res.tup(hP:Hid P H)(h:Res K P 0 (.tuple ds) H Q)(n:H p=ab)(r:Aan K (hid H P) ds xs):Q (.ref p) (ax H p (.tup xs)):=by
 refine h.zero (Ext.new n) (Aal.2 ⟨p,xs,rfl,hZ (hP.new n) eF,r.ext λb o e=>?_⟩)
 obtain⟨nb,e⟩:=Acz.1 e;exact hZ nb (Ext.new n _ _ e)
end
def tF (K:aI)(n:Nat)(f:EF):TE:=λZ H Q=>∃ P Y d,Hid P H/\Ama K (hid H P) Y Z/\f Y=aa d/\Res K P n d H Q
def uz (K:aI)(f:BF):TT:=λZ H Q=>∃ P Y b,Hid P H/\Ama K (hid H P) Y Z/\f Y=aa b/\∀ H',Ext H H'->Q b H'
def tAF (K:aI)(f:AF):TA:=λZ H Q=>∃ P Y ds,Hid P H/\Ama K (hid H P) Y Z/\f Y=aa ds/\∀ vs H',Ext H H'->Aan K (hid H' P) ds vs->Q vs H'
abbrev DF (n:Nat)(X:Cx)(e:aT)(f:EF):Prop:=PE X e (tF X.K n f)
abbrev DE (X:Cx)(e:aT)(f:EF):Prop:=PE X e (tF X.K 0 f)
abbrev DT (X:Cx)(e:aT)(f:BF):Prop:=PT X e (uz X.K f)
abbrev DW (X:Cx)(e:aT)(f:BF):Prop:=PW X e (uz X.K f)
abbrev DA (X:Cx)(es:List aT)(f:AF):Prop:=PA X es (tAF X.K f)
section
variable {X:Cx}{a:aT}
theorem PE.imp {t t':TE}(h:PE X e t)(w:∀ Z H Q,t' Z H Q->t Z H Q):PE X e t':=λad s Z H Q I q=>h ad s Z H Q I (w _ _ _ q)
theorem PT.imp {t':TT}(h:PT X e t)(w:∀ Z H Q,t' Z H Q->t Z H Q):PT X e t':=λad s Z H Q I q=>h ad s Z H Q I (w _ _ _ q)
theorem PW.imp {t':TT}(h:PW X e t)(w:∀ Z H Q,t' Z H Q->t Z H Q):PW X e t':=λgi ad s Z H Q I q=>h gi ad s Z H Q I (w _ _ _ q)
theorem PA.imp {t t':TA}(h:PA X es t)(w:∀ Z H Q,t' Z H Q->t Z H Q):PA X es t':=λpos ad s Z H Q I q=>h pos ad s Z H Q I (w _ _ _ q)
theorem Zx {f:EF}(h:DF n X e f):DE X e f:=PE.imp h λZ H Q ⟨P,Y,d,hP,rs,ef,k⟩=>⟨P,Y,d,hP,rs,ef,Res.of hP k⟩
noncomputable def bR (i:Nat):EF:=λY=>(Y[i]?).join
theorem ZG {i:Nat}(h:bR i Y=aa d):Y[i]?=aa (aa d):=by
 unfold bR at h
 grind
theorem Pa (i:Nat)(hN:Nm X i x):DE X (.Name x pos) (bR i):=PE.imp (hN.pe) λZ H Q gh=>by
 rw[1];obtain⟨v,h1,h2⟩:=rs i d (ZG ef);exact⟨v,h1,k.zero Ext.refl h2⟩
def eC (d:aA):EF:=λ_=>aa d
theorem BJ(h:PE X e (tC v))(hr:∀ H,Abg X.K H d v):DE X e (eC d):=PE.imp h λZ H Q gh=>by
 obtain⟨P,Y,d',hP,rs,ef,k⟩:=gh;cases ef;exact k.zero Ext.refl (hr _)
theorem Rh {i j}:DE X (.Constant (.int i) j pos) (eC (.int i)):=BJ Pz λ_=>Aaj.2 rfl
theorem Ng {i j}:DE X (.Constant (.bool i) j pos) (eC (.bool i)):=BJ RU λ_=>Aas.2 rfl
theorem Sf {j}:DE X (.Constant .none j pos) (eC .none):=BJ UJ λ_=>Abl.2 rfl
theorem Tr {i j}(h:bX (.str i)=af):DE X (.Constant (.str i) j pos) (eC (.str i)):=BJ Oo λ_=>Aa2.2 ⟨rfl,h⟩
def dD:AF:=λ_=>aa []
def aM (f:EF)(g:AF):AF:=λY=>(f Y).bind λd=>(g Y).bind λds=>aa (d::ds)
theorem TU:DA X [] dD:=PA.imp iN λZ H Q gh=>by
 rw[1];cases ef;exact k [] H Ext.refl (Aah.2 rfl)
theorem Uj {f:EF}{g:AF}(h1:DE X e f)(h2:DA X es g)(hs:bH (e::es) X.env=(ah,bF e X.env)::bH es X.env):DA X (e::es) (aM f g):=
 PA.imp (gJ h1 h2 hs) λZ H Q gh=>by
  obtain⟨P,Y,ds,hP,rs,ef,k⟩:=gh;obtain⟨d,e1,ef⟩:=ar ef;obtain⟨r,e2,ef⟩:=ar ef;cases ef;exact⟨P,Y,d,hP,rs,e1,dY λv H1 x1 r1=>⟨P,Y,r,hP.ext x1,rs.ext (cS x1),e2,λvs H2 x2 r2=>
   k _ _ (x1.trans x2) (Aac.2 ⟨v,vs,rfl,r1.ext (cS x2),r2⟩)⟩⟩
def cV (g:AF):EF:=λY=>(g Y).bind λds=>if ds.length<=sizeLine then aa (.tuple ds) else ab
def dC (g:AF):EF:=λY=>(g Y).bind λds=>if ds.length<=sizeLine then aa (.list ds) else ab
theorem cJ {α:Type}{c:Prop}[Decidable c]{x y:α}(h:(if c then aa x else ab)=aa y):c/\x=y:=by
 grind
theorem Qz {g:AF}{x1}(h:DA X es g):DE X (.Tuple es x1 pos) (cV g):=PE.imp (Rg h) λZ H Q gh=>by
 rw[1];obtain⟨ds,e1,ef⟩:=ar ef;obtain⟨hl,rfl⟩:=cJ ef;exact⟨P,Y,ds,hP,rs,e1,λvs H1 x1 r1=>⟨by rw[r1.length];exact hl,λp hp=>(k.mono x1).tup (hP.ext x1) hp r1⟩⟩
theorem TH {g:AF}(h:DA X es g):DF 1 X (.List es pos) (dC g):=PE.imp (Sg h) λZ H Q gh=>by
 rw[1];obtain⟨ds,e1,ef⟩:=ar ef;obtain⟨hl,rfl⟩:=cJ ef;exact⟨P,Y,ds,hP,rs,e1,λvs H1 x1 r1=>⟨by rw[r1.length];exact hl,λp hp=>(k.mono x1).lst (hP.ext x1) hp r1⟩⟩
def lh (K:aI)(n:Nat)(r:R2)(g:aA->aA->aah):Prop:=
 ∀ (P:aC->Prop) (H:Hp) (x y:V) (a b d:aA) (Q:VK),Hid P H->Abg K (hid H P) a x->Abg K (hid H P) b y->g a b=aa d->Res K P n d H Q->r x y H Q
def ai (g:aA->aA->aah)(fa fb:EF):EF:=λY=>(fa Y).bind λa=>(fb Y).bind λb=>g a b
theorem HL{fa fb:EF}(hg:lh K n r g):∀ Z H Q,tF K n (ai g fa fb) Z H Q->xu r (tF K 0 fa) (tF K 0 fb) Z H Q:=λZ H Q gh=>by
 rw[1];obtain⟨d1,e1,ef⟩:=ar ef;obtain⟨d2,e2,ef⟩:=ar ef;exact⟨P,Y,d1,hP,rs,e1,dY λv H1 x1 r1=>⟨P,Y,d2,hP.ext x1,rs.ext (cS x1),e2,dY λu H2 x2 r2=>
  hg P H2 v u d1 d2 d Q (hP.ext (x1.trans x2)) (r1.ext (cS x2)) r2 ef (k.mono (x1.trans x2))⟩⟩
theorem pM {op:Operator}{fa fb:EF}(ho:OpR X (jY op) r)(hg:lh X.K n r g)(ha:DE X a fa)(hb:DE X b fb):DF n X (.BinOp a op b pos) (ai g fa fb):=PE.imp (Nz ho ha hb) (HL hg)
theorem UE {op:CmpOp}{fa fb:EF}(ho:OpR X (fY op) r)(hg:lh X.K 0 r g)(ha:DE X a fa)(hb:DE X b fb)(hm:wJ op b=ah):DE X (.Compare a [op] [b] pos) (ai g fa fb):=PE.imp (Vl ho ha hb hm) (HL hg)
def UnD (K:aI)(n:Nat)(r:V->Hp->VK->Prop)(g:aA->aah):Prop:=
 ∀ (P:aC->Prop) (H:Hp) (x:V) (a d:aA) (Q:VK),Hid P H->Abg K (hid H P) a x->g a=aa d->Res K P n d H Q->r x H Q
def ff (g:aA->aah)(fa:EF):EF:=λY=>(fa Y).bind g
theorem Mp {op:UnaryOp}{r:V->Hp->VK->Prop}{g:aA->aah}{fa:EF}(ho:UnR X (unaryOp op) r)(hg:UnD X.K n r g)(ha:DE X a fa):DF n X (.UnaryOp op a pos) (ff g fa):=
 PE.imp (Ls ho ha) λZ H Q gh=>by
  rw[1];obtain⟨d1,e1,ef⟩:=ar ef;exact⟨P,Y,d1,hP,rs,e1,dY λv H1 x1 r1=>hg P H1 v d1 d Q (hP.ext x1) r1 ef (k.mono x1)⟩
def CallD (K:aI)(n:Nat)(r:aai->Hp->VK->Prop)(g:aag->aah):Prop:=
 ∀ (P:aC->Prop) (H:Hp) (xs:aai) (ds:aag) (d:aA) (Q:VK),Hid P H->Aan K (hid H P) ds xs->g ds=aa d->Res K P n d H Q->r xs H Q
def aK (g:aag->aah)(fa:AF):EF:=λY=>(fa Y).bind g
variable {r:aai->Hp->VK->Prop}{g:aag->aah}{fa:AF}{p:bJ}{id:String}
theorem yM (hc:Ack X (.builtin id) r)(hg:CallD X.K n r g)(zk:Gl X x)(hm:X.mg x=ab)(hv:mX x=aa (.builtin id))(ha:DA X (e::es) fa)(hn:x ≠ "__name__")(kr:(x==("__debug__" : aD))=ah)
  (he:bH (e::es) X.env=(ah,bF e X.env)::bH es X.env) (dr:(iF pos (bH es X.env)).any (·.1)=ah):DF n X (.Call (.Name x p) (e::es) [] pos) (aK g fa):=
 PE.imp (DC hc zk hm hv ha hn kr he dr) λZ H Q gh=>by
  rw[1];obtain⟨d1,e1,ef⟩:=ar ef;exact⟨P,Y,d1,hP,rs,e1,λvs H1 x1 r1=>hg P H1 vs d1 d Q (hP.ext x1) r1 ef (k.mono x1)⟩
theorem tR (hc:Ack X (.type T) r)(hg:CallD X.K n r g)(zk:Gl X x)(hm:X.mg x=ab)(hv:mX x=aa (.type T))(ha:DA X (e::es) fa)(hn:x ≠ "__name__")(kr:(x==("__debug__" : aD))=ah)
  (he:bH (e::es) X.env=(ah,bF e X.env)::bH es X.env) (dr:(iF pos (bH es X.env)).any (·.1)=ah):DF n X (.Call (.Name x p) (e::es) [] pos) (aK g fa):=
 PE.imp (vW hc zk hm hv ha hn kr he dr) λZ H Q gh=>by
  rw[1];obtain⟨d1,e1,ef⟩:=ar ef;exact⟨P,Y,d1,hP,rs,e1,λvs H1 x1 r1=>hg P H1 vs d1 d Q (hP.ext x1) r1 ef (k.mono x1)⟩
noncomputable def rp:aA->Option Bool
 |.bool b=>aa b
 |_=>ab
theorem DH{b:Bool}(h:rp d=aa b):d=.bool b:=by
 cases d<;>simp[rp] at h;rw[h]
def br (f:EF):BF:=λY=>(f Y).bind rp
theorem Qd {f:EF}(h:DE X e f)(he:∀ gi,isTrue e X.env gi=(do let v <-gi;standAt e.pos;nN [v] (truthy v))):DT X e (br f):=PT.imp (Tz h he) λZ H Q gh=>by
 obtain⟨P,Y,b,hP,rs,ef,k⟩:=gh;obtain⟨d,e1,ef⟩:=ar ef;cases DH ef;exact⟨P,Y,_,hP,rs,e1,dY λv H1 x1 r1=>⟨b,Aas.1 r1,k H1 x1⟩⟩
theorem qZ {op:CmpOp}{r:R2}{g:aA->aA->aah}{fa fb:EF}(ho:OpR X (fY op) r)(hg:lh X.K 0 r g)(ha:DE X a fa)(hb:DE X b fb)(hm:wJ op b=ah):DT X (.Compare a [op] [b] pos) (br (ai g fa fb)):=
 PT.imp (Hj ho ha hb hm) λZ H Q gh=>by
  obtain⟨P,Y,c,hP,rs,ef,k⟩:=gh;obtain⟨d,e1,ef⟩:=ar ef;cases DH ef;exact HL hg Z H _ ⟨P,Y,_,hP,rs,e1,dY λv H1 x1 r1=>⟨c,Aas.1 r1,k H1 x1⟩⟩
def pE (f:BF):BF:=λY=>(f Y).bind λb=>aa (!b)
def fT (f g:BF):BF:=λY=>(f Y).bind λb=>if b=af then g Y else aa ah
def tm (f g:BF):BF:=λY=>(f Y).bind λb=>if b=af then aa af else g Y
variable {fB gB:BF}{av:List aT}
theorem Sm (h:DT X a fB):DT X (.UnaryOp .Not a pos) (pE fB):=PT.imp (Pc h) λZ H Q gh=>by
 obtain⟨P,Y,c,hP,rs,ef,k⟩:=gh;obtain⟨b,e1,ef⟩:=ar ef;cases ef;exact⟨P,Y,b,hP,rs,e1,λH1 x1=>k H1 x1⟩
theorem Vg (h:DT X a fB):DW X (.BoolOp .And [a] pos) fB:=Td h
theorem Re (h:DT X a fB):DW X (.BoolOp .Or [a] pos) fB:=Pj h
theorem Pd (h:DT X a fB)(h2:DW X (.BoolOp .And (b::av) pos) gB):DW X (.BoolOp .And (a::b::av) pos) (fT fB gB):=PW.imp (Sj h h2) λZ H Q gh=>by
 obtain⟨P,Y,c,hP,rs,ef,k⟩:=gh;obtain⟨b,e1,ef⟩:=ar ef;refine⟨P,Y,b,hP,rs,e1,λH1 x1=>?_⟩
 cases b with
 |true=>exact sF ⟨P,Y,c,hP.ext x1,rs.ext (cS x1),by simpa using ef,λH2 x2=>k H2 (x1.trans x2)⟩
 |false=>
  grind
theorem Mv (h:DT X a fB)(h2:DW X (.BoolOp .Or (b::av) pos) gB):DW X (.BoolOp .Or (a::b::av) pos) (tm fB gB):=PW.imp (Oa h h2) λZ H Q gh=>by
 obtain⟨P,Y,c,hP,rs,ef,k⟩:=gh;obtain⟨b,e1,ef⟩:=ar ef;refine⟨P,Y,b,hP,rs,e1,λH1 x1=>?_⟩
 cases b with
 |true=>
  grind
 |false=>exact sN ⟨P,Y,c,hP.ext x1,rs.ext (cS x1),by simpa using ef,λH2 x2=>k H2 (x1.trans x2)⟩
theorem QZ (h:DW X a fB):DT X a fB:=h.pt
def pB (f g:EF):EF:=λY=>(f Y).bind λd=>(rp d).bind λb=>if b=af then g Y else aa (.bool ah)
variable {f1 f2:EF}
theorem Rw {op}(h:DE X a f1):DE X (.BoolOp op [a] pos) f1:=Sr h
theorem Ov (h:DE X a f1)(h2:DE X (.BoolOp .And (b::av) pos) f2):DE X (.BoolOp .And (a::b::av) pos) (pB f1 f2):=PE.imp (Qf h h2) λZ H Q gh=>by
 obtain⟨P,Y,c,hP,rs,ef,k⟩:=gh;obtain⟨d,e1,ef⟩:=ar ef;obtain⟨b,e2,cg⟩:=ar ef;clear ef;have ef:=cg;clear cg;cases DH e2;refine⟨P,Y,_,hP,rs,e1,dY λv H1 x1 r1=>⟨b,Aas.1 r1,?_⟩⟩
 cases b with
 |true=>exact sF ⟨P,Y,c,hP.ext x1,rs.ext (cS x1),by simpa using ef,k.mono x1⟩
 |false=>
  have:jK ah=c:=by simpa using ef
  subst this;exact sN (k.zero x1 (Aas.2 rfl))
def xk (t:BF)(f g:EF):EF:=λY=>(t Y).bind λb=>if b=af then f Y else g Y
theorem Q5{t:BF}(hc:DT X c t)(ha:DF n X a f1)(hb:DF n X b f2):DF n X (.IfExp c a b pos) (xk t f1 f2):=PE.imp (WE hc ha hb) λZ H Q gh=>by
 rw[1];obtain⟨b,e1,ef⟩:=ar ef;refine⟨P,Y,b,hP,rs,e1,λH1 x1=>?_⟩
 cases b with
 |true=>exact sF ⟨P,Y,d,hP.ext x1,rs.ext (cS x1),by simpa using ef,k.mono x1⟩
 |false=>exact sN ⟨P,Y,d,hP.ext x1,rs.ext (cS x1),by simpa using ef,k.mono x1⟩
end
abbrev Slot:=Option (Nat×aA)
abbrev aQ:=List Slot
noncomputable def vS (Y:aQ):be:=Y.map λs=>match s with|some (0,d)=>aa d|_=>ab
noncomputable def vA (Y:aQ):be:=Y.map λs=>s.map (·.2)
theorem Sd {Y:aQ}{i:Nat}(h:(vS Y)[i]?=aa (aa d)):Y[i]?=aa (aa (0,d)):=by
 unfold vS at h
 grind
theorem Pu {Y:aQ}{i:Nat}(h:(vA Y)[i]?=aa (aa d)):∃ n,Y[i]?=aa (aa (n,d)):=by
 unfold vA at h;rw[eD] at h;cases e:Y[i]? with
 |none=>rw[e] at h;simp at h
 |some s=>
  rw[e] at h;cases s with
  |none=>simp at h
  |some q=>
   grind
abbrev Hd (P0:aC->Prop)(fp:Nat->aan):aC->Prop:=λa=>P0 a\/∃ i,a∈fp i
structure Sta (K:aI)(H0:Hp)(P0:aC->Prop)(B0:Hp)(Y:aQ)(Z:St)(H:Hp)(fp:Nat->List aC):Prop where
 len:Z.length=Y.length
 nd:∀ i,(fp i).Nodup
 dj:∀ i j a,a∈fp i->a∈fp j->i=j
 own:∀ i a,a∈fp i->H0 a=ab/\Mut (H a)
 ext:Ext H0 H
 hd:Hid P0 H0
 base:Ext B0 (hid H (Hd P0 fp))
 slot:∀ (i:Nat) n d,Y[i]?=aa (aa (n,d))->∃ v,Z[i]?=aa (aa v)/\Adr K (hid H (Hd P0 fp)) H n d v (fp i)
section
variable {Y:aQ}
theorem Sta.hid (S:Sta K H0 P0 B0 Y Z H fp):Hid (Hd P0 fp) H:=λa h=>by
 rcases h with h|⟨i,h⟩
 .exact S.hd.ext S.ext a h
 .exact(S.own i a h).2
theorem Sta.np (S:Sta K H0 P0 B0 Y Z H fp){i:Nat}(m:a∈fp i):¬ P0 a:=S.hd.new (S.own i a m).1
theorem Sta.grow (S:Sta K H0 P0 B0 Y Z H fp)(x:Ext H H'):Sta K H0 P0 B0 Y Z H' fp:=by
 refine⟨S.len,S.nd,S.dj,λi a m=>⟨(S.own i a m).1,by rw[(S.own i a m).2.ext x];exact(S.own i a m).2⟩,S.ext.trans x,S.hd,S.base.trans (cS x),λi n d e=>?_⟩
 obtain⟨v,h1,h2⟩:=S.slot i n d e;exact⟨v,h1,h2.keep (cS x) λa m=>(S.own i a m).2.ext x⟩
theorem Sta.re {ρ':aQ}(S:Sta K H0 P0 B0 Y Z H fp)(π:Nat->Option Nat)(inj:∀ j k l,π j=aa l->π k=aa l->j=k)(hl:σ'.length=ρ'.length)
  (slot:∀ B',Ext (L2.hid H (Hd P0 fp)) B'->(∀ l,(∀ j,π j≠aa l)->∀ a∈fp l,∀ o,H a=aa o->B' a=aa o)->∀ (j:Nat) n d,ρ'[j]?=aa (aa (n,d))->∃ v,σ'[j]?=aa (aa v)/\Adr K B' H n d v ((π j).elim [] fp)) :
  ∃ ce,Sta K H0 P0 B0 ρ' σ' H ce/\Ext (L2.hid H (Hd P0 fp)) (L2.hid H (Hd P0 ce))/\∀ l,(∀ j,π j≠aa l)->∀ a∈fp l,∀ o,H a=aa o->L2.hid H (Hd P0 ce) a=aa o:=by
 have mem:∀ j a,a∈(π j).elim [] fp->∃ l,π j=aa l/\a∈fp l:=λj a h=>by
  cases e:π j with
  |none=>rw[e] at h;cases h
  |some l=>rw[e] at h;exact⟨l,rfl,h⟩
 have qt:∀ a,Hd P0 (λj=>(π j).elim [] fp) a->Hd P0 fp a:=λa h=>h.imp id λ⟨j,h⟩=>let ⟨l,_,m⟩:=mem j a h;⟨l,m⟩
 have cz:∀ l,(∀ j,π j≠aa l)->∀ a∈fp l,∀ o,H a=aa o->L2.hid H (Hd P0 λj=>(π j).elim [] fp) a=aa o:=λl n a m o e=>hZ (λz=>z.elim (S.np m) λ⟨j,z⟩=>let ⟨l',e',m'⟩:=mem j a z;n j (S.dj l' l a m' m ▸ e')) e
 refine⟨_,⟨hl,λj=>?_,λj k a h1 h2=>?_,λj a h=>let ⟨l,_,m⟩:=mem j a h;S.own l a m,S.ext,S.hd,S.base.trans (rB qt),slot _ (rB qt) cz⟩,rB qt,cz⟩
 .cases π j with
  |none=>exact .nil
  |some l=>exact S.nd l
 .obtain⟨l,e1,m1⟩:=mem j a h1;obtain⟨l',e2,m2⟩:=mem k a h2;obtain rfl:=S.dj l l' a m1 m2;exact inj j k l e1 e2
theorem Sta.viewS (S:Sta K H0 P0 B0 Y Z H fp):Ama K (L2.hid H (Hd P0 fp)) (vS Y) Z:=λi d e=>by
 obtain⟨v,h1,h2⟩:=S.slot i 0 d (Sd e);exact⟨v,h1,h2.2⟩
theorem Sta.viewA (S:Sta K H0 P0 B0 Y Z H fp):Ama K (L2.hid H P0) (vA Y) Z:=λi d e=>by
 obtain⟨n,e⟩:=Pu e;obtain⟨v,h1,h2⟩:=S.slot i n d e;exact⟨v,h1,h2.share (rB λa p=>.inl p) λa m o e=>hZ (S.np m) e⟩
def Tmp (K:aI)(H0:Hp)(P0:aC->Prop)(B0:Hp)(Y:aQ)(Z:St)(n:Nat)(d:aA)(v:V)(H:Hp):Prop:=
 ∃ fp,Sta K H0 P0 B0 Y Z H fp/\Adr K (L2.hid H (Hd P0 fp)) H n d v (fp Y.length)
inductive Md|s|a
noncomputable def eV (n:Nat)(m:Md)(f:EF)(Y:aQ):aah:=match m with
 |.s=>f (vS Y)
 |.a=>(f (vA Y)).bind λd=>if fJ n d=af then aa d else ab
noncomputable def bV (m:Md)(f:BF)(Y:aQ):Option Bool:=match m with
 |.s=>f (vS Y)
 |.a=>f (vA Y)
noncomputable def aV (m:Md)(f:AF)(Y:aQ):aad:=match m with
 |.s=>f (vS Y)
 |.a=>f (vA Y)
def tE (K:aI)(H0:Hp)(P0:aC->Prop)(n:Nat)(m:Md)(f:EF):TE:=λZ H Q=>∃ B0 Y fp d,Sta K H0 P0 B0 Y Z H fp/\eV n m f Y=aa d/\∀ v H',Tmp K H0 P0 B0 Y Z n d v H'->Q v H'
end
section
variable {X:Cx}
theorem Sta.tmp{Y:aQ}{Fr:aan}(S:Sta K H0 P0 B0 Y Z H fp)(x:Ext H H')(nd:Fr.Nodup)(fr:∀ a∈Fr,H a=ab/\∃ o,H' a=aa o)(r:Adr K (L2.hid H' (Hd P0 λi=>if i=Y.length then Fr else fp i)) H' n d v Fr):Tmp K H0 P0 B0 Y Z n d v H':=by
 have S':=S.grow x;have nfr:∀ i a,a∈fp i->a∉Fr:=λi a h1 h2=>by
  have:=(S.own i a h1).2;rw[(fr a h2).1] at this;exact this
 have xb:Ext (L2.hid H (Hd P0 fp)) (L2.hid H' (Hd P0 λi=>if i=Y.length then Fr else fp i)):=λb o e=>by
  obtain⟨nb,e⟩:=Acz.1 e;refine hZ (λq=>?_) (x _ _ e)
  grind
 refine⟨λi=>if i=Y.length then Fr else fp i,⟨S.len,λi=>?_,λi j a hi hj=>?_,λi a hi=>?_,S'.ext,S.hd,S.base.trans xb,λi n' d' e'=>?_⟩,?_⟩
 .by_cases hi:i=Y.length
  .simp only[hi,if_true];exact nd
  .simp only[hi,if_false];exact S.nd i
 .by_cases h1:i=Y.length<;>by_cases h2:j=Y.length
  .rw[h1,h2]
  .grind
  .grind
  .simp only[h1,if_false] at hi;simp only[h2,if_false] at hj;exact S.dj i j a hi hj
 .by_cases h1:i=Y.length
  .simp only[h1,if_true] at hi;exact⟨S.ext.none (fr a hi).1,r.mut a hi⟩
  .simp only[h1,if_false] at hi;exact S'.own i a hi
 .have bu:=(cE.1 e').1;have h1:i≠Y.length:=()
  obtain⟨v2,p1,p2⟩:=S.slot i n' d' e';refine⟨v2,p1,?_⟩;simp only[h1,if_false];exact p2.keep xb λa m=>(S.own i a m).2.ext x
 .simp only[if_true];exact r
theorem Sta.tmpA{Y:aQ}{Fr:aan}(S:Sta K H0 P0 B0 Y Z H fp)(fl:fJ n d=af)(x:Ext H H')(nd:Fr.Nodup)(fr:∀ a∈Fr,H a=ab/\∃ o,H' a=aa o)(r:Adr K (L2.hid H' (ja P0 Fr)) H' n d v Fr):Tmp K H0 P0 B0 Y Z n d v H':=
 S.tmp x nd fr (r.flat (λa xs e=>by
  obtain⟨na,e⟩:=Acz.1 e;refine hZ (λq=>?_) e
  rcases q with q|⟨j,q⟩
  .exact na (.inl q)
  .by_cases hj:j=Y.length
   .grind
   .simp only[hj,if_false] at q;have:=((S.grow x).own j a q).2;rw[e] at this;exact this) fl)
theorem QN{f:EF}(m:Md):∀ Z H Q,tE K H0 P0 n m f Z H Q->tF K n f Z H Q:=λZ H Q gh=>by
 obtain⟨B0,Y,fp,d,S,ef,k⟩:=gh;cases m with
 |s=>exact⟨Hd P0 fp,vS Y,d,S.hid,S.viewS,ef,λv H' Fr x nd fr r=>k v H' (S.tmp x nd fr (r.keep (rB λa h=>by grind) λa m=>rfl))⟩
 |a=>
  obtain⟨d',ed,ef⟩:=ar ef;obtain⟨fl,rfl⟩:=cJ ef;exact⟨P0,vA Y,d',S.hd.ext S.ext,S.viewA,ed,λv H' Fr x nd fr r=>k v H' (S.tmpA fl x nd fr r)⟩
theorem ev {f:EF}(m:Md)(h:DF n X e f):PE X e (tE X.K H0 P0 n m f):=PE.imp h (QN m)
def tB' (K:aI)(H0:Hp)(P0:aC->Prop)(m:Md)(f:BF):TT:=λZ H Q=>∃ B0 Y fp b,Sta K H0 P0 B0 Y Z H fp/\bV m f Y=aa b/\∀ H',Sta K H0 P0 B0 Y Z H' fp->Q b H'
theorem evB {f:BF}(m:Md)(h:DT X e f):PT X e (tB' X.K H0 P0 m f):=PT.imp h λZ H Q gh=>by
 obtain⟨B0,Y,fp,b,S,ef,k⟩:=gh;cases m with
 |s=>exact⟨Hd P0 fp,vS Y,b,S.hid,S.viewS,ef,λH' x=>k H' (S.grow x)⟩
 |a=>exact⟨P0,vA Y,b,S.hd.ext S.ext,S.viewA,ef,λH' x=>k H' (S.grow x)⟩
end
inductive Out where
 |nx (Y:aQ)|rt (d:aA)|bk (Y:aQ)|ct (Y:aQ)
abbrev SF:=aQ->Option Out
def QM (K:aI)(H0:Hp)(P0:aC->Prop)(n0:Nat)(d:aA)(v:V)(H':Hp):Prop:=
 ∃ Fr,Ext H0 H'/\Fr.Nodup/\(∀ a∈Fr,H0 a=ab/\∃ o,H' a=aa o)/\Adr K (hid H' (ja P0 Fr)) H' n0 d v Fr
def Mu (K:aI)(H0:Hp)(P0:aC->Prop)(B0:Hp)(n0:Nat)(D:Ends):Out->Prop
 |.nx Y=>∀ Z H fp,Sta K H0 P0 B0 Y Z H fp->D.nx Z H
 |.bk Y=>∀ Z H fp,Sta K H0 P0 B0 Y Z H fp->D.bk Z H
 |.ct Y=>∀ Z H fp,Sta K H0 P0 B0 Y Z H fp->D.ct Z H
 |.rt d=>∀ v H',QM K H0 P0 n0 d v H'->D.rt v H'
def tS (K:aI)(H0:Hp)(P0:aC->Prop)(n0:Nat)(F:SF):TS:=λD Z H=>∃ B0 Y fp o,Sta K H0 P0 B0 Y Z H fp/\F Y=aa o/\Mu K H0 P0 B0 n0 D o
abbrev DS (X:Cx)(H0:Hp)(P0:aC->Prop)(n0:Nat)(s:eI)(F:SF):Prop:=PS X s (tS X.K H0 P0 n0 F)
abbrev jk (X:Cx)(H0:Hp)(P0:aC->Prop)(n0:Nat)(s:List eI)(F:SF):Prop:=PSs X s (tS X.K H0 P0 n0 F)
section
variable {X:Cx}{s:eI}{ss:List eI}{F G:SF}{f:EF}
theorem PS.imp {t t':TS}(h:PS X s t)(w:∀ D Z H,t' D Z H->t D Z H):PS X s t':=λad st Z H D I q=>h ad st Z H D I (w _ _ _ q)
theorem PSs.imp {t t':TS}(h:PSs X ss t)(w:∀ D Z H,t' D Z H->t D Z H):PSs X ss t':=λad st Z H D I q=>h ad st Z H D I (w _ _ _ q)
def dQ:SF:=λY=>aa (.nx Y)
noncomputable def aN (F G:SF):SF:=λY=>(F Y).bind λo=>match o with
 |.nx ρ'=>G ρ'
 |o=>aa o
theorem Xy:jk X H0 P0 n0 [] dQ:=PSs.imp Xw λD Z H gh=>by
 rw[5];cases ef;exact k Z H fp S
theorem Va (h:DS X H0 P0 n0 s F):jk X H0 P0 n0 [s] F:=IK h
theorem WZ (h:DS X H0 P0 n0 s F)(h2:jk X H0 P0 n0 ss G):jk X H0 P0 n0 (s::ss) (aN F G):=PSs.imp (JF h h2) λD Z H gh=>by
 rw[5];obtain⟨o1,e1,ef⟩:=ar ef;refine⟨B0,Y,fp,o1,S,e1,?_⟩;cases o1 with
 |nx ρ1=>exact λσ1 H1 uj S1=>⟨B0,ρ1,uj,o,S1,ef,k⟩
 |rt d=>cases ef;exact k
 |bk ρ1=>cases ef;exact k
 |ct ρ1=>cases ef;exact k
def qg (m:Md)(t:BF)(F G:SF):SF:=λY=>(bV m t Y).bind λb=>if b=af then F Y else G Y
theorem Nl{a b:List eI}{t:BF}(m:Md)(hc:DT X c t)(ha:jk X H0 P0 n0 a F)(hb:jk X H0 P0 n0 b G):DS X H0 P0 n0 (.If c a b pos) (qg m t F G):=
 PS.imp (Nb (evB m hc) ha hb) λD Z H gh=>by
  rw[5];obtain⟨b,e1,ef⟩:=ar ef;refine⟨B0,Y,fp,b,S,e1,λH1 S1=>?_⟩
  cases b with
  |true=>exact sF ⟨B0,Y,fp,o,S1,by simpa using ef,k⟩
  |false=>exact sN ⟨B0,Y,fp,o,S1,by simpa using ef,k⟩
noncomputable def frz (i:Nat)(Y:aQ):aQ:=match Y[i]? with
 |some (aa (_,d))=>Y.set i (aa (0,d))
 |_=>Y
theorem Sta.frz{Y:aQ}(S:Sta K H0 P0 B0 Y Z H fp)(i:Nat):∃ ce,Sta K H0 P0 B0 (L2.frz i Y) Z H ce:=by
 unfold L2.frz;cases e:Y[i]? with
 |none=>exact⟨fp,S⟩
 |some s=>
  cases s with
  |none=>exact⟨fp,S⟩
  |some q=>
   obtain⟨n,d⟩:=q;obtain⟨ce,S',_⟩:=S.re (ρ':=Y.set i (aa (0,d))) (σ':=Z) (λj=>if j=i then ab else aa j) (by grind) (by simp[S.len]) λB' xb cz j n' d' e'=>by
    by_cases hj:j=i
    .subst hj;rw[nR ((cE.1 e).1)] at e';cases e';obtain⟨v,h1,h2⟩:=S.slot j n d e;exact⟨v,h1,by simp,h2.share xb (cz j (by grind))⟩
    .rw[rW (λz=>hj z.symm)] at e'
     obtain⟨v,h1,h2⟩:=S.slot j n' d' e';exact⟨v,h1,by rw[if_neg hj];exact h2.keep xb λa m=>rfl⟩
   exact⟨ce,S'⟩
def eR (i:Nat)(F:SF):SF:=λY=>F (frz i Y)
theorem Wh (i:Nat)(h:jk X H0 P0 n0 ss F):jk X H0 P0 n0 ss (eR i F):=PSs.imp h λD Z H ⟨B0,Y,fp,o,S,ef,k⟩=>let ⟨ce,S'⟩:=S.frz i;⟨B0,_,ce,o,S',ef,k⟩
theorem Tmp.set{Y:aQ}{i:Nat}(t:Tmp K H0 P0 B0 Y Z n d v H)(hi:i<Y.length):∃ fp,Sta K H0 P0 B0 (Y.set i (aa (n,d))) (Z.set i (aa v)) H fp:=by
 obtain⟨fp,S,r⟩:=t;obtain⟨ce,S',_⟩:=S.re (ρ':=Y.set i (aa (n,d))) (σ':=Z.set i (aa v)) (λj=>if j=i then aa Y.length else if j=Y.length then ab else aa j) (by grind) (by simp[S.len]) λB' xb cz j n' d' e'=>by
  by_cases hj:j=i
  .subst hj;rw[nR hi] at e';cases e';exact⟨v,nR (by rw[S.len];exact hi),by rw[if_pos rfl];exact r.keep xb λa m=>rfl⟩
  .rw[rW (λz=>hj z.symm)] at e' ⊢
   have bu:=(cE.1 e').1;obtain⟨v',h1,h2⟩:=S.slot j n' d' e';exact⟨v',h1,by rw[if_neg hj,if_neg ()];exact h2.keep xb λa m=>rfl⟩
 exact⟨ce,S'⟩
def fM (i n:Nat)(m:Md)(f:EF):SF:=λY=>(eV n m f Y).bind λd=>if i<Y.length then aa (.nx (Y.set i (aa (n,d)))) else ab
theorem Qn {i:Nat}{jr:bJ}(n:Nat)(m:Md)(hN:X.N.Nodup)(hi:X.N[i]?=aa x)(hx:kB X.env.scope x)(he:DF n X e f)(hs:kS e (aa (.Name x jr)) pos.line X.env=pure ah)(hf:X.fn x=af\/X.env.scope.names.lookup x=aa .local) :
  DS X H0 P0 n0 (.Assign [.Name x jr] e pos) (fM i n m f):=PS.imp (MF hN hi hx (ev m he) hs hf) λD Z H gh=>by
 rw[5];obtain⟨d,e1,ef⟩:=ar ef;obtain⟨hl,rfl⟩:=cJ ef;refine⟨B0,Y,fp,d,S,e1,λv H' t=>?_⟩
 obtain⟨ce,S'⟩:=t.set hl;exact k _ _ ce S'
theorem Tmp.ret{Y:aQ}(t:Tmp K H0 P0 B0 Y Z n d v H):QM K H0 P0 n d v H:=by
 obtain⟨fp,S,r⟩:=t;refine⟨fp Y.length,S.ext,S.nd _,λa m=>⟨(S.own _ a m).1,?_⟩,r.keep (rB λa h=>?_) λa m=>rfl⟩
 .cases e:H a with
  |none=>have:=(S.own _ a m).2;rw[e] at this;exact this.elim
  |some o=>exact⟨o,rfl⟩
 all_goals grind
def mM (n:Nat)(m:Md)(f:EF):SF:=λY=>(eV n m f Y).bind λd=>aa (.rt d)
theorem Pf (m:Md)(he:DF n0 X e f):DS X H0 P0 n0 (.Return (aa e) pos) (mM n0 m f):=PS.imp (MW (ev m he)) λD Z H gh=>by
 rw[5];obtain⟨d,e1,ef⟩:=ar ef;cases ef;exact⟨B0,Y,fp,d,S,e1,λv H' t=>k v H' t.ret⟩
noncomputable def lF (i n0:Nat):SF:=λY=>match Y[i]? with
 |some (aa (n,d))=>if n=n0 then aa (.rt d) else ab
 |_=>ab
theorem Um (i:Nat){p:bJ}(hN:Nm X i x):DS X H0 P0 n0 (.Return (aa (.Name x p)) pos) (lF i n0):=PS.imp (MW (hN.pe)) λD Z H gh=>by
 rw[5];unfold lF at ef;cases e:Y[i]? with
 |none=>rw[e] at ef;simp at ef
 |some q=>
  cases q with
  |none=>rw[e] at ef;simp at ef
  |some q=>
   obtain⟨n,d⟩:=q;rw[e] at ef;obtain⟨rfl,rfl⟩:=cJ ef;obtain⟨v,h1,h2⟩:=S.slot i n d e;refine⟨v,h1,k v H ⟨fp i,S.ext,S.nd i,λa m=>⟨(S.own i a m).1,?_⟩,h2.keep (rB λa h=>?_) λa m=>rfl⟩⟩
   .cases e:H a with
    |none=>have:=(S.own _ a m).2;rw[e] at this;exact this.elim
    |some o=>exact⟨o,rfl⟩
   all_goals grind
def Mk (m:Md)(f:EF):SF:=λY=>(eV 0 m f Y).bind λ_=>aa (.nx Y)
theorem Vk (m:Md)(he:DE X e f)(hs:kS e ab pos.line X.env=pure ah):DS X H0 P0 n0 (.Expr e pos) (Mk m f):=PS.imp (tH (ev m he) hs) λD Z H gh=>by
 rw[5];obtain⟨d,e1,ef⟩:=ar ef;cases ef;refine⟨B0,Y,fp,d,S,e1,λv H' ⟨ce,S',r⟩=>k _ _ ce S'⟩
end
section
variable {X:Cx}
theorem A3:Ack X (.builtin "isinstance") (λxs H Q=>∃ x T t b,xs=[x,.ty T]/\TyOf X.K H x t/\Ih X.K t (.type T)=aa b/\Q (.bl b) H):=by
 rw[3];obtain⟨x,T,t,b,rfl,ty,e,q⟩:=h;obtain⟨u,w',rfl,ru,ju⟩:=vals2 r;cases ju;exact Z2 I ru ty e λtk=>⟨.bl b,H,I.tok tk,rfl,q⟩
end
section
variable {X:Cx}
def allB (xs:aai):Bool:=xs.all λv=>decide (v=.bl af)
theorem k6:Ack X (.builtin "all") (λxs H Q=>∃ p ys,xs=[.ref p]/\SqL X.K H p ys/\(∀ y∈ys,∃ b,y=.bl b)/\Q (.bl (allB ys)) H):=by
 rw[3];obtain⟨p,ys,rfl,hs,hb,q⟩:=h;rw[4];obtain⟨its,rv,pl,hz⟩:=I.list hs;have hl:=pl.isList;have len:=rv.length;refine call_all_walk (zV hl ⟨s.heap.objs.size,_,_,_,_,_,λi=>decide (ys[i]?=aa (.bl af)),rfl,Walks.list (A:=X.A.in1) I.ok.hd s.heap.objs.size p (cP (by obtain⟨o,n,e,_⟩:=pl;exact bN e)) its.toArray,
  ⟨⟨_,cH _ rfl,rfl,rfl⟩,hl.at λo e=>bC _ e⟩,?_,?_⟩)
 .intro i v s' Q' E' hv hq;have vg:its[i]?=aa v:=by simpa using hv
  have hi:i<ys.length:=by rw[len];exact(cE.1 vg).1
  obtain⟨b,hy⟩:=hb ys[i] (nB hi);have ve:ys[i]?=aa (.bl b):=by rw[eE hi,hy]
  obtain⟨u',h1,h2⟩:=rv.get ve;rw[vg] at h1;cases h1;cases h2;refine ND ?_;have:decide (ys[i]?=aa (V.bl af))=b:=by rw[ve];cases b<;>simp
  grind
 .intro h' tk hk;have e:((bZ its.toArray.size).all λi=>decide (ys[i]?=aa (V.bl af)))=allB ys:=by
   have hn:its.toArray.size=ys.length:=by simp[len]
   rw[hn];unfold allB;rw[nV];simp only[eB,eQ,decide_eq_true_eq];constructor
   .intro h v hv;obtain⟨i,hi,rfl⟩:=uF hv
    grind
   .intro h i hi;rw[eE hi,h _ (nB hi)]
  rw[e];refine⟨.bl (allB ys),H,?_,rfl,q⟩;exact I.kept λb o eb=>hk b o (by simp;exact cP (bN eb)) (bC _ eb)
end
structure Def (P:bE)(w:aX)(K:aI)(mg:aD->Option aB)(base:aP)(x:aD)(k:Nat)(ps:List aD)(sp:Sp):Prop where
 ex:∃ f fd,FnOk P w K mg base k f fd ps sp/\mg x=aa (.ref f)/\uA K (.ref f)=af/\Binds K fd ps []
section
variable {X:Cx}{k:Nat}{t:TA}{p:bJ}
theorem Oz (D:Def X.prog X.w X.K X.mg X.base x k ps sp)(hr:Room k X.A)(hg:Gl X x)(ha:PA X (e::es) t)(kr:(x==("__debug__" : aD))=ah:=by decide)(he:bH (e::es) X.env=(ah,bF e X.env)::bH es X.env:=by rfl)
  (dr:(iF pos (bH es X.env)).any (·.1)=ah:=by rfl):PE X (.Call (.Name x p) (e::es) [] pos) (RI sp [] t):=by
 obtain⟨f,fd,F,hm,hk,hb⟩:=D.ex;exact UM F hr hg hm hk hb .nil ha kr he dr
end
def GT (a b:String):Option Bool:=if (iG a==iG b)=af then aa af else if PySem.W.kitMeta b=af then(fastBuiltinMro a).map (·.contains (.type b)) else ab
theorem Apv{a b:String}:Ih K (.type a) (.type b)=GT a b:=rfl
def kinds:List String:=["NoneType","bool","int","str","list","tuple","dict"]
def tw (t T:String):Bool:=t==T||(t == "bool" && T == "int")
theorem Yv:(kinds.all λt=>["int","bool","str","list","tuple","dict"].all λT=>decide (GT t T=aa (tw t T)))=af:=by rw[0]
theorem Yc {t:String}(ht:t∈kinds)(hT:T∈["int","bool","str","list","tuple","dict"]):GT t T=aa (tw t T):=by
 have h:=eB.1 Yv t ht
 grind
section
variable {X:Cx}
theorem Mr(hg:Gl X x)(hm:X.mg x=ab)(hv:mX x=aa (.type T))(hn:x ≠ "__name__":=by decide)(hd:(x==("__debug__" : aD))=ah:=by decide):PE X (.Name x pos) (tC (.ty T)):=
 Xk hg hm hv rfl hn hd
end
theorem boot_isinstance:mX "isinstance" = aa (.builtin "isinstance"):=by rw[0]
theorem boot_all:mX "all" = aa (.builtin "all"):=by rw[0]
theorem bits_le {i:Int}(h:i.natAbs<2^n):rX i<=n:=by
 unfold rX;split
 .exact cZ _
 .rename_i dw;have h0:i.natAbs≠0:=by
   grind
  have:=(Nat.log2_lt h0).2 h
  lia
theorem Xc {X:Cx}:OpR X (jY .Mult) (rI (λi j=>i.natAbs<2^1000/\j.natAbs<2^1000) λi j=>.int (i*j)):=yn λi j _ _ _ _ _ hc q=>
 mul_int q (aAh (bits_le hc.1) (bits_le hc.2) nofun)
theorem HM{k:Nat}(hr:Room k A):A.units+100<cLine:=by
 have:=hr.un
 lia
theorem Cs:∀ {xs:aai} {us:aak},xs.length=us.length->(∀ (j:Nat) x u,xs[j]?=aa x->us[j]?=aa u->RelV x u)->Vals xs us
 |[],[],_,_=>.nil
 |[],_::_,h,_=>by simp at h
 |_::_,[],h,_=>by simp at h
 |x::xs,u::us,h,r=>.cons (r 0 x u rfl rfl) (Cs (by simpa using h) λj y w h1 h2=>r (j+1) y w (by simpa using h1) (by simpa using h2))
section
variable {X:Cx}
theorem l6 {ys:aal}:∀ {us:aak},Vals (ys.map V.str) us->StrsAre us ys:=by
 induction ys with
 |nil=>intro us r;cases r;exact .nil
 |cons y r ih=>
  intro us h;cases h with
  |cons h1 h2=>
   obtain⟨t,rfl⟩:=h1;exact .cons y t (ih h2)
theorem Yh:MtR X "str.join" (λx vs H Q=>∃ ji l ys,x=.str ji/\vs=[.ref l]/\SqL X.K H l (ys.map V.str)/\(ys.map (·.length)).sum+ys.length*ji.length<=16777216/\Q (.str (mC ji ys)) H):=by
 intro ad s Z H x xs v us Q I rx rv h;obtain⟨ji,l,ys,rfl,rfl,hs,hok,q⟩:=h;obtain⟨t,rfl⟩:=rx;obtain⟨u,rfl,ru⟩:=vals1 rv;cases ru;obtain⟨its,r,pl,hz⟩:=I.list hs;refine join_list pl.isList (by simpa using l6 r) hok λt' k=>?_
 have e:Txt.join ji ys=mC ji ys:=StrLaws.glued_eq_join ji ys;rw[e];exact⟨.str _,H,I.tok k,⟨t',rfl⟩,q⟩
end
def rn (K:aI)(B:Hp)(J:It)(ds:aag):Prop:=∀ (i:Nat) (H2:Hp),Ext B H2 ->
 (∀ d,ds[i]?=aa d->J.go i H2/\∀ x H3,J.yld i H2 x H3->Ext H2 H3/\∀ P2,Hid P2 H2->Ext B (hid H2 P2)->Abg K (hid H3 P2) d x)/\(ds.length=i->J.stop i H2)
def tI (K:aI)(f:AF):TI:=λZ H R=>∃ P Y ds,Hid P H/\Ama K (hid H P) Y Z/\f Y=aa ds/\∀ J H',Ext H H'->rn K (hid H' P) J ds->R J H'
def tI0 (K:aI)(f:AF):TI:=λZ H R=>∃ P Y ds,Hid P H/\Ama K (hid H P) Y Z/\f Y=aa ds/\∀ J H',Ext H H'->rn K (λ_=>ab) J ds->R J H'
abbrev DI (X:Cx)(tg e:aT)(f:AF):Prop:=PI X tg e (tI X.K f)
abbrev yc (X:Cx)(tg e:aT)(f:AF):Prop:=PI X tg e (tI0 X.K f)
noncomputable def itemsOf:aA->aad
 |.list ds=>aa ds
 |.tuple ds=>aa ds
 |_=>ab
def cf (f:EF):AF:=λY=>(f Y).bind itemsOf
section
variable {X:Cx}{a:aT}{p:bJ}
theorem PI.imp {t t':TI}(h:PI X tg e t)(w:∀ Z H R,t' Z H R->t Z H R):PI X tg e t':=λad s Z H R I q=>h ad s Z H R I (w _ _ _ q)
theorem PI.or {t t':TI}(h:PI X tg e t)(h':PI X tg e t'):PI X tg e (λZ H R=>t Z H R\/t' Z H R):=λad s Z H R I q=>q.elim (h ad s Z H R I) (h' ad s Z H R I)
theorem P8{B:Hp}{a:aC}(h:SqL K B a xs)(r:Aan K B ds xs):rn K B (GK K a) ds:=λi H2 x2=>by
 have h2:=x2.sqL h;refine⟨λd hd=>?_,λe=>⟨xs,h2,by rw[r.length];lia⟩⟩
 obtain⟨v,h3,h4⟩:=r.get hd;refine⟨⟨xs,v,h2,h3⟩,?_⟩;rintro x H3 ⟨rfl,hx⟩;have:=h3.symm.trans (hx xs h2);cases this;exact⟨Ext.refl,λP2 _ xb=>h4.ext xb⟩
theorem Vh{B:Hp}{a:aC}(h:B a=aa (.tup xs))(r:Aan K B ds xs):rn K B (uM K a) ds:=λi H2 x2=>by
 have h2:SqT K H2 a xs:=SqT.of (x2 _ _ h);refine⟨λd hd=>?_,λe=>⟨xs,h2,by rw[r.length];lia⟩⟩
 obtain⟨v,h3,h4⟩:=r.get hd;refine⟨⟨xs,v,h2,h3⟩,?_⟩;rintro x H3 ⟨rfl,hx⟩;have:aa v=aa x:=h3.symm.trans (hx xs h2);cases this;exact⟨Ext.refl,λP2 _ xb=>h4.ext xb⟩
theorem O8 {z:aD}{i c:Nat}(h:bX (.str z)=af)(hc:z.cps.toList[i]?=aa c):bX (.str ⟨#[c]⟩)=af:=by
 have hz:∀ d∈z.cps,d<0x110000:=by
  intro d hd;exact of_decide_eq_true (Array.all_eq_true'.1 (by simpa only[bX,PyData.strOk] using h) d hd)
 have:=hz c (by simpa using eW hc)
 simp[bX,PyData.strOk,this]
theorem KF{lo d:Int}{B:Hp}:rn K B (uN lo n d) ((bZ n).map λ(k:Nat)=>aU (lo+k*d)):=λi H2 x2=>by
 refine⟨λe hd=>?_,λe=>?_⟩
 .have bu:i<n:=by
   have:=(cE.1 hd).1;simpa using this
  have lx:aU (lo+i*d)=e:=by
   rw[eD,AQ bu] at hd;simpa using hd
  subst lx;refine⟨bu,?_⟩;rintro x H3 ⟨rfl,rfl⟩;exact⟨Ext.refl,λP2 _ _=>Aaj.2 rfl⟩
 .have:n=i:=by simpa using e
  exact Nat.le_of_eq this
theorem Tv {f:EF}(h:DE X e f):DI X tg e (cf f):=PI.imp (PI.or (Wd h) (SV h)) λZ H R gh=>by
 obtain⟨P,Y,ds,hP,rs,ef,k⟩:=gh;obtain⟨d,e1,ef⟩:=ar ef;cases d with
 |list qu=>
  have:qu=ds:=by simpa [itemsOf] using ef
  subst this;refine .inl ⟨P,Y,_,hP,rs,e1,dY λv H1 x1 r1=>?_⟩
  obtain⟨a,xs,rfl,hr,rr⟩:=Aav.1 r1;exact⟨a,rfl,⟨xs,Aam.sqL hr⟩,k _ H1 x1 (P8 hr rr)⟩
 |tuple qu=>
  have:qu=ds:=by simpa [itemsOf] using ef
  subst this;refine .inr ⟨P,Y,_,hP,rs,e1,dY λv H1 x1 r1=>?_⟩
  obtain⟨a,xs,rfl,hr,rr⟩:=Aal.1 r1;exact⟨a,rfl,⟨xs,SqT.of (Aam _ _ hr)⟩,k _ H1 x1 (Vh hr rr)⟩
 |_=>simp[itemsOf] at ef
noncomputable def BK (lo hi:Int):aad:=if -(2^62)<=lo/\lo<2^62 /\ -(2^62)<=hi/\hi<2^62 then aa ((bZ (hi-lo).toNat).map λ(k:Nat)=>aU (lo+k)) else ab
def oq (fa:AF):AF:=λY=>(fa Y).bind λds=>match ds with
 |[.int j]=>BK 0 j
 |_=>ab
def iR2 (fa:AF):AF:=λY=>(fa Y).bind λds=>match ds with
 |[.int i,.int j]=>BK i j
 |_=>ab
theorem X8 {fa:AF}(hg:Gl X "range")(hm:X.mg "range" = ab)(ha:DA X [a] fa)(hs:bH [a] X.env=[(ah,bF a X.env)]):yc X tg (.Call (.Name "range" p) [a] [] pos) (oq fa):=PI.imp (A0i hg hm ha hs) λZ H R gh=>by
 obtain⟨P,Y,ds,hP,rs,ef,k⟩:=gh;obtain⟨as,e1,ef⟩:=ar ef;refine⟨P,Y,as,hP,rs,e1,λvs H1 x1 r1=>?_⟩
 split at ef
 .rename_i j;obtain⟨hb,rfl⟩:=cJ ef;obtain⟨v,t,rfl,h1,h2⟩:=Aac.1 r1;obtain rfl:=Aah.1 h2;obtain rfl:=Aaj.1 h1;refine⟨j,rfl,hb.2.2.1,hb.2.2.2,k _ H1 x1 ?_⟩;simpa using KF (lo:=0) (d:=1)
 .cases ef
theorem o8 {fa:AF}(hg:Gl X "range")(hm:X.mg "range" = ab)(ha:DA X [a,b] fa)(hs:bH [a,b] X.env=[(ah,bF a X.env),(ah,bF b X.env)])(dv:bH [b] X.env=[(ah,bF b X.env)]):yc X tg (.Call (.Name "range" p) [a,b] [] pos) (iR2 fa):=PI.imp (Q9 hg hm ha hs dv) λZ H R gh=>by
 obtain⟨P,Y,ds,hP,rs,ef,k⟩:=gh;obtain⟨as,e1,ef⟩:=ar ef;refine⟨P,Y,as,hP,rs,e1,λvs H1 x1 r1=>?_⟩
 split at ef
 .rename_i i j;obtain⟨hb,rfl⟩:=cJ ef;obtain⟨v,t,rfl,h1,h2⟩:=Aac.1 r1;obtain⟨v2,t2,rfl,h3,h4⟩:=Aac.1 h2;obtain rfl:=Aah.1 h4;obtain rfl:=Aaj.1 h1;obtain rfl:=Aaj.1 h3;exact⟨i,j,rfl,hb,k _ H1 x1 (by simpa using KF (d:=1))⟩
 .cases ef
theorem Ru {f:AF}(h:yc X tg e f):DI X tg e f:=PI.imp h λZ H R ⟨P,Y,ds,hP,rs,ef,k⟩=>⟨P,Y,ds,hP,rs,ef,λJ H' x it=>k J H' x λi H2 x2=>by
 obtain⟨h1,h2⟩:=it i H2 (λ_ _ e=>by cases e)
 exact⟨λd hd=>⟨(h1 d hd).1,λv H3 y=>⟨((h1 d hd).2 v H3 y).1,λP2 hp _=>((h1 d hd).2 v H3 y).2 P2 hp λ_ _ e=>by cases e⟩⟩,h2⟩⟩
def tI' (K:aI)(H0:Hp)(P0:aC->Prop)(m:Md)(f:AF):TI:=λZ H R=>∃ B0 Y fp ds,Sta K H0 P0 B0 Y Z H fp/\aV m f Y=aa ds/\∀ J B1 H',Sta K H0 P0 B1 Y Z H' fp->Ext B0 B1->rn K B1 J ds->R J H'
theorem Sta.rebase{B1:Hp}{Y:aQ}(S:Sta K H0 P0 B0 Y Z H fp)(b:Ext B1 (L2.hid H (Hd P0 fp))):Sta K H0 P0 B1 Y Z H fp:=⟨S.len,S.nd,S.dj,S.own,S.ext,S.hd,b,S.slot⟩
theorem evI {f:AF}(h:DI X tg e f):PI X tg e (tI' X.K H0 P0 .s f):=PI.imp h λZ H R ⟨B0,Y,fp,ds,S,ef,k⟩=>
 ⟨Hd P0 fp,vS Y,ds,S.hid,S.viewS,ef,λJ H' x it=>k J _ H' ((S.grow x).rebase Ext.refl) (S.grow x).base it⟩
theorem Mc {f:AF}(m:Md)(h:yc X tg e f):PI X tg e (tI' X.K H0 P0 m f):=PI.imp h λZ H R gh=>by
 obtain⟨B0,Y,fp,ds,S,ef,k⟩:=gh;have up:∀ {J:It} {B:Hp},rn X.K (λ_=>ab) J ds->rn X.K B J ds:=λ{J B} it i H2 x2=>by
  obtain⟨h1,h2⟩:=it i H2 (λ_ _ e=>by cases e)
  exact⟨λd hd=>⟨(h1 d hd).1,λv H3 y=>⟨((h1 d hd).2 v H3 y).1,λP2 hp _=>((h1 d hd).2 v H3 y).2 P2 hp λ_ _ e=>by cases e⟩⟩,h2⟩
 cases m with
 |s=>exact⟨Hd P0 fp,vS Y,ds,S.hid,S.viewS,ef,λJ H' x it=>k J _ H' (S.grow x) Ext.refl (up it)⟩
 |a=>exact⟨P0,vA Y,ds,S.hd.ext S.ext,S.viewA,ef,λJ H' x it=>k J _ H' (S.grow x) Ext.refl (up it)⟩
end
def tG (K:aI)(H0:Hp)(P0:aC->Prop)(T:aA->aQ->Option aQ):TG:=λv Z H Q=>∃ B0 Y fp d ρ',Sta K H0 P0 B0 Y Z H fp/\Abg K (hid H (Hd P0 fp)) d v/\T d Y=aa ρ'/\∀ σ' ce,Sta K H0 P0 B0 ρ' σ' H ce->Q σ' H
abbrev DG (X:Cx)(H0:Hp)(P0:aC->Prop)(tg:aT)(T:aA->aQ->Option aQ):Prop:=PG X tg (tG X.K H0 P0 T)
section
variable {X:Cx}
theorem PG.imp{t t':TG}(h:PG X tg t)(w:∀ v Z H Q,t' v Z H Q->t v Z H Q):PG X tg t':=λad s Z H v u Q I r q=>h ad s Z H v u Q I r (w _ _ _ _ q)
theorem Sta.Aot{Y:aQ}{i:Nat}(S:Sta K H0 P0 B0 Y Z H fp)(r:Abg K (L2.hid H (Hd P0 fp)) d v)(hi:i<Y.length):∃ ce,Sta K H0 P0 B0 (Y.set i (aa (0,d))) (Z.set i (aa v)) H ce:=by
 obtain⟨ce,S',_⟩:=S.re (ρ':=Y.set i (aa (0,d))) (σ':=Z.set i (aa v)) (λj=>if j=i then ab else aa j) (by grind) (by simp[S.len]) λB' xb cz j n' d' e'=>by
  by_cases hj:j=i
  .subst hj;rw[nR hi] at e';cases e';exact⟨v,nR (by rw[S.len];exact hi),by simp,r.ext xb⟩
  .rw[rW (λz=>hj z.symm)] at e' ⊢
   obtain⟨v',h1,h2⟩:=S.slot j n' d' e';exact⟨v',h1,by rw[if_neg hj];exact h2.keep xb λa m=>rfl⟩
 exact⟨ce,S'⟩
noncomputable def ir (i:Nat):aA->aQ->Option aQ:=λd Y=>if i<Y.length then aa (Y.set i (aa (0,d))) else ab
theorem Xe {i:Nat}(hN:X.N.Nodup)(hi:X.N[i]?=aa x)(hx:kB X.env.scope x)(hf:X.fn x=af\/X.env.scope.names.lookup x=aa .local):DG X H0 P0 (.Name x pos) (ir i):=
 PG.imp (tD hN hi hx hf) λv Z H Q gh=>by
  obtain⟨B0,Y,fp,d,ρ',S,r,ef,k⟩:=gh;obtain⟨hl,rfl⟩:=cJ ef;obtain⟨ce,S'⟩:=S.Aot r hl;exact k _ ce S'
def kH (i j:Nat):aA->aQ->Option aQ:=λd Y=>match d with
 |.tuple [a,b]=>(ir i a Y).bind λρ'=>ir j b ρ'
 |_=>ab
theorem Ve {i:Nat}{y:aD}{p1:bJ}{k}(hN:X.N.Nodup)(hi:X.N[i]?=aa x)(hj:X.N[j]?=aa y)(hx:kB X.env.scope x)(hy:kB X.env.scope y)
  (hf:X.fn x=af\/X.env.scope.names.lookup x=aa .local) (hf2:X.fn y=af\/X.env.scope.names.lookup y=aa .local)
  (hn:(hE [.Name x p1,.Name y p2] X.env).length=2) (du:(hE [.Name x p1,.Name y p2] X.env).findIdx? (·.1)=ab)
  (h1:(hE [.Name x p1,.Name y p2] X.env).map (·.2)=kU (.Name x p1) X.env::(hE [.Name y p2] X.env).map (·.2)) (h2:(hE [.Name y p2] X.env).map (·.2)=kU (.Name y p2) X.env::(hE [] X.env).map (·.2)):DG X H0 P0 (.Tuple [.Name x p1,.Name y p2] k pos) (kH i j):=
 PG.imp (UC (DX (tD hN hi hx hf) (DX (tD hN hj hy hf2) Fj h2) h1) hn du) λv Z H Q gh=>by
  obtain⟨B0,Y,fp,d,ρ',S,r,ef,k⟩:=gh;unfold kH at ef;split at ef
  .rename_i a b;obtain⟨ρ1,e1,e2⟩:=ar ef;obtain⟨l1,rfl⟩:=cJ e1;obtain⟨l2,rfl⟩:=cJ e2;obtain⟨p,xs,rfl,hp,rr⟩:=Aal.1 r;obtain⟨v1,t1,rfl,r1,rr⟩:=Aac.1 rr;obtain⟨v2,t2,rfl,r2,rr⟩:=Aac.1 rr;obtain rfl:=Aah.1 rr;refine⟨p,_,rfl,SqT.of (Aam _ _ hp),rfl,v1,_,rfl,v2,_,rfl,rfl,?_⟩;obtain⟨uj,S1⟩:=(S.rebase Ext.refl).Aot r1 l1;obtain⟨gt,S2⟩:=S1.Aot (r2.ext S1.base) l2;exact k _ gt (S2.rebase (S.base.trans S2.base))
  .cases ef
end
noncomputable def iJ (F:SF)(T:aA->aQ->Option aQ):aag->SF
 |[],Y=>aa (.nx Y)
 |d::r,Y=>(T d Y).bind λρ1=>(F ρ1).bind λo=>match o with
  |.nx ρ'=>iJ F T r ρ'
  |.ct ρ'=>iJ F T r ρ'
  |.bk ρ'=>aa (.nx ρ')
  |.rt d=>aa (.rt d)
def iX (m:Md)(fi:AF)(T:aA->aQ->Option aQ)(F:SF):SF:=λY=>(aV m fi Y).bind λds=>iJ F T ds Y
section
variable {X:Cx}{body:List eI}{F:SF}{T:aA->aQ->Option aQ}{fi:AF}{m:Md}
theorem XT (hi:PI X tg bm (tI' X.K H0 P0 m fi))(hg:DG X H0 P0 tg T)(hb:jk X H0 P0 n0 body F)
  (hs:∀ x,tX bm X.env x=pure x:=by intro _;rfl):DS X H0 P0 n0 (.For tg bm body [] pos) (iX m fi T F):=PS.imp (TQ hi hg hb hs) λD Z H gh=>by
 rw[5];obtain⟨ds,e1,ef⟩:=ar ef;refine⟨B0,Y,fp,ds,S,e1,λJ B1 H' S1 xb it=>⟨λi m Z H=>m=ds.length-i/\i<=ds.length/\∃ Y fp,Sta X.K H0 P0 B1 Y Z H fp/\iJ F T (ds.drop i) Y=aa o,⟨ds.length,by simp,cZ _,Y,fp,S1,by simpa using ef⟩,?_⟩⟩
 rintro i m σ2 H2 ⟨rfl,hi,ρ2,gt,S2,e2⟩;obtain⟨go,st⟩:=it i H2 (S2.base.trans Aam);by_cases bu:i<ds.length
 .have hd:=eE bu;rw[PH bu] at e2;obtain⟨ρ3,e3,e2⟩:=ar e2;obtain⟨o3,e4,e2⟩:=ar e2;obtain⟨g1,g2⟩:=go _ hd;refine .inr ⟨g1,λσ' H'=>i+1<=ds.length/\∃ Y fp,Sta X.K H0 P0 B1 Y σ' H' fp/\iJ F T (ds.drop (i+1)) Y=aa o,λσ' H' ⟨h1,h2⟩=>⟨ds.length-(i+1),(),rfl,h1,h2⟩,λx H3 y=>?_⟩
  obtain⟨x3,r3⟩:=g2 x H3 y;refine⟨B1,ρ2,gt,_,ρ3,S2.grow x3,r3 _ S2.hid S2.base,e3,λσ4 fp4 S4=>⟨B1,ρ3,fp4,o3,S4,e4,?_⟩⟩
  cases o3 with
  |nx ρ5=>exact λσ5 H5 uk S5=>⟨bu,ρ5,uk,S5,e2⟩
  |ct ρ5=>exact λσ5 H5 uk S5=>⟨bu,ρ5,uk,S5,e2⟩
  |bk ρ5=>
   cases e2;exact λσ5 H5 uk S5=>k σ5 H5 uk (S5.rebase (xb.trans S5.base))
  |rt d=>
   cases e2;exact k
 .have e:i=ds.length:=()
  subst e;rw[List.drop_length] at e2;cases e2;exact .inl ⟨st rfl,k σ2 H2 gt (S2.rebase (xb.trans S2.base))⟩
theorem Qp (hi:DI X tg bm fi)(hg:DG X H0 P0 tg T)(hb:jk X H0 P0 n0 body F)
  (hs:∀ x,tX bm X.env x=pure x):DS X H0 P0 n0 (.For tg bm body [] pos) (iX .s fi T F):=XT (evI hi) hg hb hs
theorem IH (m:Md)(hi:yc X tg bm fi)(hg:DG X H0 P0 tg T)(hb:jk X H0 P0 n0 body F)
  (hs:∀ x,tX bm X.env x=pure x):DS X H0 P0 n0 (.For tg bm body [] pos) (iX m fi T F):=XT (Mc m hi) hg hb hs
end
def jc (m:Md)(t:BF)(F:SF):Nat->SF
 |0,_=>ab
 |n+1,Y=>(bV m t Y).bind λb=>if b=af then(F Y).bind λo=>match o with
   |.nx ρ'=>jc m t F n ρ'
   |.ct ρ'=>jc m t F n ρ'
   |.bk ρ'=>aa (.nx ρ')
   |.rt d=>aa (.rt d)
  else aa (.nx Y)
section
variable {X:Cx}{body:List eI}{F:SF}{t:BF}
theorem Ze (m:Md)(fuel:Nat)(hc:DT X c t)(hb:jk X H0 P0 n0 body F):DS X H0 P0 n0 (.While c body [] pos) (jc m t F fuel):=
 PS.imp (M5 (evB m hc) hb) λD Z H gh=>by
  rw[5];refine⟨λn Z H=>∃ Y fp,Sta X.K H0 P0 B0 Y Z H fp/\jc m t F n Y=aa o,⟨fuel,Y,fp,S,ef⟩,?_⟩
  rintro n σ1 H1 ⟨ρ1,uj,S1,e1⟩;cases n with
  |zero=>cases e1
  |succ n=>
   obtain⟨b,e2,e1⟩:=ar e1;refine⟨B0,ρ1,uj,b,S1,e2,λH2 S2=>?_⟩
   cases b with
   |false=>
    have:aa (Out.nx ρ1)=aa o:=by simpa using e1
    cases this;exact sN (k σ1 H2 uj S2)
   |true=>
    obtain⟨o3,e4,e1⟩:=ar e1;refine sF ⟨λσ' H'=>∃ Y fp,Sta X.K H0 P0 B0 Y σ' H' fp/\jc m t F n Y=aa o,λσ' H' h=>⟨n,FR n,h⟩,B0,ρ1,uj,o3,S2,e4,?_⟩
    cases o3 with
    |nx ρ5=>exact λσ5 H5 uk S5=>⟨ρ5,uk,S5,e1⟩
    |ct ρ5=>exact λσ5 H5 uk S5=>⟨ρ5,uk,S5,e1⟩
    |bk ρ5=>cases e1;exact k
    |rt d=>cases e1;exact k
end
noncomputable def nr (T:aA->be->Option be)(t:BF)(f:EF)(Y:be):aag->aad
 |[]=>aa []
 |d::r=>(T d Y).bind λρ1=>(t ρ1).bind λc=>if c=af then(f ρ1).bind λy=>(nr T t f Y r).bind λys=>aa (y::ys) else nr T t f Y r
noncomputable def lB (cap:po)(Y:be):be:=cap.map λo=>o.bind λj=>(Y[j]?).join
def dq (cap:po)(fi:AF)(T:aA->be->Option be)(t:BF)(f:EF):EF:=λY=>(fi Y).bind λds=>(nr T t f (lB cap Y) ds).bind λys=>if ds.length<=sizeLine then aa (.list ys) else ab
def tGB (K:aI)(T:aA->be->Option be):TG:=λv Z H Q=>∃ P Y d ρ',Hid P H/\Ama K (hid H P) Y Z/\Abg K (hid H P) d v/\T d Y=aa ρ'/\∀ σ',Ama K (hid H P) ρ' σ'->Q σ' H
def U' (T:aA->be->Option be):Prop:=∀ d Y ρ',T d Y=aa ρ'->∀ (i:Nat) d',Y[i]?=aa (aa d')->ρ'[i]?=aa (aa d')
def dZ:BF:=λ_=>aa af
noncomputable def gB (j:Nat):aA->be->Option be:=λd Y=>match Y[j]? with
 |some ab=>aa (Y.set j (aa d))
 |_=>ab
theorem CM{ρ':be}(h:gB j d Y=aa ρ'):Y[j]?=aa ab/\Y.set j (aa d)=ρ':=by
 unfold gB at h;split at h
 .rename_i e;exact⟨e,fF h⟩
 .cases h
def vy (i j:Nat):aA->be->Option be:=λd Y=>match d with
 |.tuple [a,b]=>(gB i a Y).bind λρ'=>gB j b ρ'
 |_=>ab
theorem BO:U' (gB j):=λd Y ρ' e i d' h=>by
 obtain⟨hj,rfl⟩:=CM e;by_cases q:j=i
 .subst q;rw[hj] at h;cases h
 .rw[rW q];exact h
theorem SS {i:Nat}:U' (vy i j):=λd Y ρ' e k d' h=>by
 unfold vy at e;split at e
 .obtain⟨ρ1,e1,e2⟩:=ar e;exact BO _ _ _ e2 k d' (BO _ _ _ e1 k d' h)
 .cases e
section
variable {X:Cx}{fi:AF}{T:aA->be->Option be}{t:BF}{f:EF}
theorem Ut:sE X [] (uz X.K dZ):=λad s Z H Q I gh=>by
 obtain⟨P,Y,b,hP,rs,ef,k⟩:=gh;cases ef;exact Yg ad s Z H Q I (k H Ext.refl)
theorem Wt (h:DT X c t):sE X [c] (uz X.K t):=Xt h
theorem Ama.set{B:Hp}(h:Ama K B Y Z)(r:Abg K B d v)(hl:j<Z.length):Ama K B (Y.set j (aa d)) (Z.set j (aa v)):=λi d' e=>by
 by_cases q:j=i
 .subst q;have hj:j<Y.length:=by
   have:=(cE.1 e).1;simpa using this
  rw[nR hj] at e;cases e;exact⟨v,nR hl,r⟩
 .rw[rW q] at e;obtain⟨w,h1,h2⟩:=h i d' e;exact⟨w,by rw[rW q];exact h1,h2⟩
def DGB (X:Cx)(tg:aT)(T:aA->be->Option be):Prop:=
 ∀ (ad:lm) (s:aF) (Z:St) (H:Hp) (v:V) (u:aB) (Q:St->Hp->Prop),Inv X ad Z H s->RelV v u->tGB X.K T v Z H Q ->
  aJ (aO X.prog X.w) X.A (kU tg X.env u) (λ_ s'=>∃ σ' H',Inv X ad σ' H' s'/\Q σ' H') X.xe s
theorem VU(hN:X.N.Nodup)(hi:X.N[j]?=aa x)(hx:kB X.env.scope x)(hf:Fn X x:=by exact qU):DGB X (.Name x pos) (gB j):=λad s Z H v u Q I r gh=>by
 obtain⟨P,Y,d,ρ',hP,rs,rd,ef,k⟩:=gh;obtain⟨hj,rfl⟩:=CM ef;exact tD hN hi hx hf ad s Z H v u Q I r (k _ (rs.set rd (by rw[I.len];exact(cE.1 hi).1)))
theorem XQ {i:Nat}{y:aD}{p1:bJ}{kk}(hN:X.N.Nodup)(hi:X.N[i]?=aa x)(hj:X.N[j]?=aa y)(hx:kB X.env.scope x)(hy:kB X.env.scope y)
  (hf:Fn X x:=by exact qU) (hf2:Fn X y:=by exact qU)
  (hn:(hE [.Name x p1,.Name y p2] X.env).length=2:=by rfl) (du:(hE [.Name x p1,.Name y p2] X.env).findIdx? (·.1)=ab:=by rfl)
  (h1:(hE [.Name x p1,.Name y p2] X.env).map (·.2)=kU (.Name x p1) X.env::(hE [.Name y p2] X.env).map (·.2):=by rfl) (h2:(hE [.Name y p2] X.env).map (·.2)=kU (.Name y p2) X.env::(hE [] X.env).map (·.2):=by rfl):DGB X (.Tuple [.Name x p1,.Name y p2] kk pos) (vy i j):=λad s Z H v u Q I r gh=>by
 obtain⟨P,Y,d,ρ',hP,rs,rd,ef,k⟩:=gh;unfold vy at ef;split at ef
 .rename_i a b;obtain⟨ρ1,e1,e2⟩:=ar ef;obtain⟨l1,rfl⟩:=CM e1;obtain⟨l2,rfl⟩:=CM e2;obtain⟨p,xs,rfl,hp,rr⟩:=Aal.1 rd;obtain⟨v1,t1,rfl,r1,rr⟩:=Aac.1 rr;obtain⟨v2,t2,rfl,r2,rr⟩:=Aac.1 rr;obtain rfl:=Aah.1 rr;exact UC (DX (tD hN hi hx hf) (DX (tD hN hj hy hf2) Fj h2) h1) hn du ad s Z H _ u Q I r ⟨p,_,rfl,SqT.of (Aam _ _ hp),rfl,v1,_,rfl,v2,_,rfl,rfl,k _ ((rs.set r1 (by rw[I.len];exact(cE.1 hi).1)).set r2 (by simpa using(by rw[I.len];exact(cE.1 hj).1)))⟩
 .cases ef
theorem d6{B:Hp}(h:Ama K B Y Z):Ama K B (lB cap Y) (uO cap Z):=λi d e=>by
 unfold lB at e;unfold uO;rw[eD] at e ⊢;cases hc:cap[i]? with
 |none=>rw[hc] at e;simp at e
 |some o=>
  rw[hc] at e;cases o with
  |none=>simp at e
  |some j=>
   simp only[OG,bQ,Option.some.injEq] at e ⊢;obtain⟨v,h1,h2⟩:=h j d (ZG e);exact⟨v,by rw[h1];rfl,h2⟩
theorem RY(hT:U' T):∀ Z H Q,tF K 1 (dq cap fi T t f) Z H Q->tLC cap (tI K fi) (tGB K T) (uz K t) (tF K 0 f) Z H Q:=λZ H Q gh=>by
 rw[1];obtain⟨ds,e1,ef⟩:=ar ef;obtain⟨all,e2,ef⟩:=ar ef;obtain⟨hz,rfl⟩:=cJ ef;refine⟨P,Y,ds,hP,rs,e1,λJ H1 x1 it A hA=>?_⟩
 have wn:∀ {H':Hp} {ys:aai},hid (ax H' A (.lst ys)) (ja P [A])=hid H' (ja P [A]):=λ{H' ys}=>by
  funext b;unfold hid;by_cases hb:ja P [A] b
  .rw[if_pos hb,if_pos hb]
  .rw[if_neg hb,if_neg hb];exact cN (λz=>hb (.inr (by simp[z])))
 refine⟨λi m ys σ' H'=>m=ds.length-i/\i<=ds.length/\H' A=aa (.lst ys)/\Ext H1 H'/\Ext (hid H1 P) (hid H' (ja P [A]))/\Ama K (hid H' (ja P [A])) (lB cap Y) σ'/\ys.length<=i /\
  ∃ done av,Aan K (hid H' (ja P [A])) done ys/\nr T t f (lB cap Y) (ds.drop i)=aa av/\all=done++av,⟨ds.length,?_⟩,?_⟩
 .have xa:Ext (hid H1 P) (hid (ax H1 A (.lst [])) (ja P [A])):=λb o e=>by
   obtain⟨nb,e⟩:=Acz.1 e;have hb:=lY e hA;exact hZ (λz=>z.elim nb λm=>hb (by simpa using m)) (by rw[cN hb];exact e)
  exact⟨by simp,cZ _,eF,Ext.new hA,xa,(d6 (rs.ext (cS x1))).ext xa,cZ _,[],all,Aah.2 rfl,by simpa using e2,rfl⟩
 .rintro i m ys σ' H' ⟨rfl,hi,hD,x2,xb,rs2,hl,done,av,rd,e3,rfl⟩;refine⟨hD,?_⟩;obtain⟨go,st⟩:=it i H' (Aam.trans x2);have ul:Hid (ja P [A]) H':=λa h=>by
   rcases h with h|h
   .exact(hP.ext (x1.trans x2)) a h
   .have:a=A:=by simpa using h
    rw[this,hD]
    trivial
  by_cases bu:i<ds.length
  .have hd:=eE bu;rw[PH bu] at e3;obtain⟨ρ1,e4,e3⟩:=ar e3;obtain⟨c,e5,e3⟩:=ar e3;obtain⟨g1,g2⟩:=go _ hd;refine .inr ⟨g1,(),λys σ' H'=>i+1<=ds.length/\H' A=aa (.lst ys)/\Ext H1 H'/\Ext (hid H1 P) (hid H' (ja P [A]))/\Ama K (hid H' (ja P [A])) (lB cap Y) σ'/\ys.length<=i+1 /\
    ∃ d2 r2,Aan K (hid H' (ja P [A])) d2 ys/\nr T t f (lB cap Y) (ds.drop (i+1))=aa r2/\done++av=d2++r2,λzs σ2 H2 h=>⟨ds.length-(i+1),(),rfl,h⟩,λx H2 y=>?_⟩
   obtain⟨x3,r3⟩:=g2 x H2 y;refine⟨ja P [A],lB cap Y,_,ρ1,ul.ext x3,rs2.ext (cS x3),r3 _ ul xb,e4,λσ3 rs3=>⟨ja P [A],ρ1,c,ul.ext x3,rs3,e5,λH4 x4=>?_⟩⟩
   have rs4:Ama K (hid H2 (ja P [A])) (lB cap Y) σ3:=λj d' e=>rs3 j d' (hT _ _ _ e4 j d' e)
   cases c with
   |false=>
    refine sN ⟨bu,x4 _ _ (x3 _ _ hD),x2.trans (x3.trans x4),xb.trans (cS (x3.trans x4)),rs4.ext (cS x4),(),done,av,rd.ext (cS (x3.trans x4)),e3,rfl⟩
   |true=>
    obtain⟨yd,e6,e3⟩:=ar e3;obtain⟨r2,e7,e3⟩:=ar e3;cases e3;refine sF ⟨ja P [A],ρ1,yd,ul.ext (x3.trans x4),rs3.ext (cS x4),e6,dY λv H5 x5 r5=>⟨x5 _ _ (x4 _ _ (x3 _ _ hD)),bu,eF,?_,?_,?_,by simp;lia,done++[yd],r2,?_,e7,by simp⟩⟩
    .intro b o e;rw[cN (lY e hA)];exact x5 _ _ (x4 _ _ (x3 _ _ (x2 _ _ e)))
    .rw[wn];exact xb.trans (cS (x3.trans (x4.trans x5)))
    .rw[wn];exact rs4.ext (cS (x4.trans x5))
    .rw[wn];exact(rd.ext (cS (x3.trans (x4.trans x5)))).snoc r5
  .have e:i=ds.length:=()
   subst e;rw[List.drop_length] at e3;cases e3;rw[oW] at k;exact .inl ⟨st rfl,k (.ref A) H' [A] (x1.trans x2) (nA.2 ⟨by simp,.nil⟩) (λa m=>by rw[cG.1 m];exact⟨x1.none hA,_,hD⟩) (CB hD rd)⟩
def LcB (X:Cx)(cap:po)(sc:fS)(tg bm iu:aT)(ie:List aT)(fi:AF)(T:aA->be->Option be)(t:BF)(f:EF):Prop:=
 ∃ N,CompScope X N cap sc/\U' T/\DI X tg bm fi/\∀ (cl:sn) (C:aC) (s₀:aF) (H₀:Hp) (ex:aan),DGB (kJ X N sc cl C s₀ H₀ ex) tg T/\sE (kJ X N sc cl C s₀ H₀ ex) ie (uz X.K t)/\DE (kJ X N sc cl C s₀ H₀ ex) iu f
theorem Mq (B:LcB X cap sc tg bm iu ie fi T t f)(hs:∀ x,tX bm X.env x=pure x) :
  DF 1 X (.ListComp iu [⟨tg,bm,ie,0⟩] sc pos) (dq cap fi T t f):=let ⟨_,S,hT,hi,hb⟩:=B;PE.imp (My S hi (g:=tGB X.K T) (tc:=uz X.K t) (te:=tF X.K 0 f) hb hs) (RY hT)
theorem i6 {i:Nat}(m:Md)(hN:X.N.Nodup)(ui:X.N[i]?=aa x)(hx:kB X.env.scope x)(B:LcB X cap sc tg bm iu ie fi T t f)
  (jw:kS (.ListComp iu [⟨tg,bm,ie,0⟩] sc pos) (aa (.Name x px)) oa.line X.env=pure af)
  (hs:∀ x,tX bm X.env x=pure x) (hf:X.fn x=af\/X.env.scope.names.lookup x=aa .local) :
  DS X H0 P0 n0 (.Assign [.Name x px] (.ListComp iu [⟨tg,bm,ie,0⟩] sc pos) oa) (fM i 1 m (dq cap fi T t f)):=let ⟨_,S,hT,hi,hb⟩:=B;PS.imp (i9 hN ui hx S hi (g:=tGB X.K T) (tc:=uz X.K t) (te:=tF X.K 0 f) hb jw hs hf) λD Z H gh=>by
 rw[5];obtain⟨d,e1,ef⟩:=ar ef;obtain⟨hl,rfl⟩:=cJ ef;refine RY hT Z H _ (QN m Z H _ ⟨B0,Y,fp,d,S,e1,λv H' t=>?_⟩)
 obtain⟨ce,S'⟩:=t.set hl;exact k _ _ ce S'
end
noncomputable def outD:Option Out->aah
 |some (.rt d)=>aa d
 |some (.nx _)=>aa .none
 |_=>ab
def bw (np n:Nat)(body:SF):aag->aah:=λds=>if ds.length=np then outD (body (ds.map (λd=>aa (0,d))++uB (n-np) ab)) else ab
def sr (K:aI)(n0:Nat)(F:aag->aah):Sp:=λvs H Q=>∃ P ds d,Hid P H/\Aan K (hid H P) ds vs/\F ds=aa d/\Res K P n0 d H Q
section
variable {P:bE}{base:aP}
theorem UG{k np:Nat}{body:SF}(ok:∀ {sp:Sp},(∀ vs H Q,sp vs H Q->vs.length=ps.length)->(∀ (ca:aB) (A:bM) (s:aF) (H:Hp) (vs:aai) (Q:VK),Room k (A.deeper (envOfC qual (dX st) s.heap.objs.size f ca))->sp vs H Q ->
   ∃ t,PSs (pC P w K mg base N qual (dX st) f ca A s H) (jT st) t/\t { nx:=λ_ H'=>Q .non H',rt:=Q } (start N vs) H)->FnOk P w K mg base (k+1) f fd ps sp) (zl:np=ps.length) (hN:ps.length<=N.length)
  (hb:∀ (ca:aB) (A:bM) (s:aF) (H:Hp) (P0:aC->Prop),Room k (A.deeper (envOfC qual (dX st) s.heap.objs.size f ca))->jk (pC P w K mg base N qual (dX st) f ca A s H) H P0 n0 (jT st) body) :
  FnOk P w K mg base (k+1) f fd ps (sr K n0 (bw np N.length body)):=by
 refine ok (λvs H Q h=>?_) (λca A s H vs Q hr h=>?_)
 .obtain⟨P,ds,d,_,r,ef,_⟩:=h;unfold bw at ef;by_cases hl:ds.length=np
  .rw[r.length,hl,zl]
  .rw[if_neg hl] at ef;cases ef
 .obtain⟨P0,ds,d,hP,r,ef,k⟩:=h;refine⟨_,hb ca A s H P0 hr,?_⟩;unfold bw at ef;by_cases hl:ds.length=np
  case neg=>rw[if_neg hl] at ef;cases ef
  rw[if_pos hl] at ef;rw[<-hl] at ef;have aw:=r.length;have S0:Sta K H P0 (hid H P0) (ds.map (λd=>aa (0,d))++uB (N.length-ds.length) ab) (start N vs) H (λ_=>[]):=by
   have eH:Hd P0 (λ_=>[])=P0:=by
    funext a;simp[Hd]
   refine⟨by simp[start,aw],λ_=>.nil,λi j a h=>by simp at h,λi a h=>by simp at h,Ext.refl,hP,by rw[eH];exact Ext.refl,λi n' d' e=>?_⟩
   rw[eH];by_cases hi:i<ds.length
   .rw[FX (by simpa using hi),eD] at e
    cases q:ds[i]? with
    |none=>rw[q] at e;simp at e
    |some d2=>
     rw[q] at e;obtain⟨rfl,rfl⟩:=by simpa using e
     obtain⟨v,h1,h2⟩:=r.get q;refine⟨v,?_,rfl,h2⟩;unfold start;rw[FX (by rw[bT,aw];exact hi),eD,h1]
     rfl
   .rw[Jg (by simpa using hi)] at e
    have:=eW e;simp at this
  cases eb:body (ds.map (λd=>aa (0,d))++uB (N.length-ds.length) ab) with
  |none=>rw[eb] at ef;cases ef
  |some o=>
   rw[eb] at ef;refine⟨_,_,_,o,S0,eb,?_⟩;cases o with
   |rt d'=>
    cases ef;exact λv H' ⟨Fr,h1,h2,h3,h4⟩=>k v H' Fr h1 h2 h3 h4
   |nx ρ'=>
    cases ef;intro σ' H' ce S';refine k .non H' [] S'.ext .nil (λa m=>by simp at m) ?_
    cases n0 with
    |zero=>exact⟨rfl,Abl.2 rfl⟩
    |succ n=>
     exact⟨rfl,Abl.2 rfl⟩
   |bk _=>cases ef
   |ct _=>cases ef
variable {X:Cx}{k np:Nat}{F:aag->aah}{fa:AF}{p:bJ}
theorem RM {x:aD}{ps:aal}{k n0 np:Nat}{body:SF}(F:Fun K x qual st f fd)(S:FnScope N ps (dX st))(zl:np=ps.length)(hN:ps.length<=N.length)
  (hb:∀ (ca:aB) (A:bM) (s:aF) (H:Hp) (P0:aC->Prop),Room k (A.deeper (envOfC qual (dX st) s.heap.objs.size f ca))->jk (pC P w K mg base N qual (dX st) f ca A s H) H P0 n0 (jT st) body) :
  FnOk P w K mg base (k+1) f fd ps (sr K n0 (bw np N.length body)):=UG (λ{sp}=>F.ok S) zl hN hb
theorem Py (D:Def X.prog X.w X.K X.mg X.base x k ps (sr X.K n0 F))(hr:Room k X.A)(hg:Gl X x)(ha:DA X (e::es) fa)(kr:(x==("__debug__" : aD))=ah)(he:bH (e::es) X.env=(ah,bF e X.env)::bH es X.env)
  (dr:(iF pos (bH es X.env)).any (·.1)=ah):DF n0 X (.Call (.Name x p) (e::es) [] pos) (aK F fa):=
 PE.imp (Oz D hr hg ha kr he dr) λZ H Q gh=>by
  rw[1];obtain⟨ds,e1,ef⟩:=ar ef;refine⟨P,Y,ds,hP,rs,e1,λvs H1 x1 r1=>?_⟩
  show sr X.K n0 F (vs++[]) H1 Q;rw[oW];exact⟨P,ds,d,hP.ext x1,r1,ef,k.mono x1⟩
end
noncomputable def Y' (g:Int->Int->aA):aA->aA->aah
 |.int i,.int j=>aa (g i j)
 |_,_=>ab
def vx (C:Int->Int->Prop)[∀ i j,Decidable (C i j)](g:Int->Int->aA):aA->aA->aah
 |.int i,.int j=>if C i j then aa (g i j) else ab
 |_,_=>ab
theorem UB {g:Int->Int->V}{gd:Int->Int->aA}(h:∀ i j H,Abg K H (gd i j) (g i j)):lh K 0 (ub g) (Y' gd):=λP H x y a b d Q hP ra rb e k=>by
 unfold Y' at e;split at e
 .rename_i i j;cases e;exact⟨i,j,Aaj.1 ra,Aaj.1 rb,k.zero Ext.refl (h i j _)⟩
 .cases e
theorem zN {C C':Int->Int->Prop}[∀ i j,Decidable (C' i j)]{g:Int->Int->V}{gd:Int->Int->aA}(hC:∀ i j,C' i j->C i j)(h:∀ i j H,Abg K H (gd i j) (g i j)):lh K 0 (rI C g) (vx C' gd):=λP H x y a b d Q hP ra rb e k=>by
 unfold vx at e;split at e
 .rename_i i j;obtain⟨hc,rfl⟩:=cJ e;exact⟨i,j,Aaj.1 ra,Aaj.1 rb,hC i j hc,k.zero Ext.refl (h i j _)⟩
 .cases e
section
variable {X:Cx}{a:aT}{fa fb fc:EF}
def lJ:aA->aA->aah:=Y' λi j=>.int (i-j)
theorem Ss (ha:DE X a fa)(hb:DE X b fb):DE X (.BinOp a .Sub b pos) (ai lJ fa fb):=pM Pq (UB λ_ _ _=>Aaj.2 rfl) ha hb
noncomputable def gG:aA->aA->aah:=vx (λi j=>(i.natAbs<2^64\/j.natAbs<2^64)\/(i.natAbs<2^1000/\j.natAbs<2^1000)) λi j=>.int (i*j)
theorem XZ:OpR X (jY .Mult) (rI (λi j=>(i.natAbs<2^64\/j.natAbs<2^64)\/(i.natAbs<2^1000/\j.natAbs<2^1000)) λi j=>.int (i*j)):=by
 rw[2];obtain⟨i,j,ex,ey,hc,q⟩:=h;rcases hc with hc|hc
 .refine Tt ad s Z H x y v u Q I rx ry ⟨i,j,ex,ey,?_,q⟩;rcases hc with hc|hc
  .exact .inl ⟨(),()⟩
  .exact .inr ⟨(),()⟩
 .exact Xc ad s Z H x y v u Q I rx ry ⟨i,j,ex,ey,hc,q⟩
theorem Sa (ha:DE X a fa)(hb:DE X b fb):DE X (.BinOp a .Mult b pos) (ai gG fa fb):=pM XZ (zN (λ_ _ h=>h) λ_ _ _=>Aaj.2 rfl) ha hb
noncomputable def cX:aA->aA->aah:=vx (λ_ j=>0<j/\j<1073741824) λi j=>.int (i/j)
theorem Wj (ha:DE X a fa)(hb:DE X b fb):DE X (.BinOp a .FloorDiv b pos) (ai cX fa fb):=pM Vr (zN (λ_ _ h=>h) λ_ _ _=>Aaj.2 rfl) ha hb
noncomputable def cR:aA->aA->aah:=vx (λ_ j=>0<j) λi j=>.int (i%j)
theorem Rm (ha:DE X a fa)(hb:DE X b fb):DE X (.BinOp a .Mod b pos) (ai cR fa fb):=pM Qt (zN (λ_ _ h=>h) λ_ _ _=>Aaj.2 rfl) ha hb
noncomputable def qL:aA->aA->aah:=vx (λi j=>0<=j/\j<=1000000/\i.natAbs<2^64) λi j=>.int (i^j.toNat)
theorem Oy (ha:DE X a fa)(hb:DE X b fb):DE X (.BinOp a .Pow b pos) (ai qL fa fb):=pM Rc (zN (λ_ _ h=>h) λ_ _ _=>Aaj.2 rfl) ha hb
def sG:aA->aah
 |.int i=>aa (.int (-i))
 |_=>ab
theorem Ra (ha:DE X a fa):DE X (.UnaryOp .USub a pos) (ff sG fa):=Mp Ts (λP H x a d Q hP r e k=>by
 unfold sG at e;split at e
 .cases e;exact⟨_,Aaj.1 r,k.zero Ext.refl (Aaj.2 rfl)⟩
 .cases e) ha
theorem LH {y:aD}(hx:bX (.str x)=af)(hy:bX (.str y)=af):bX (.str (x++y))=af:=by
 have e:(x++y).cps=x.cps++y.cps:=rfl;simp only[bX,PyData.strOk] at hx hy ⊢;rw[e,Array.all_append,hx,hy]
 rfl
noncomputable def cF:aA->aA->aah
 |.int i,.int j=>aa (.int (i+j))
 |.str x,.str y=>if x.length+y.length<=sizeLine then aa (.str (x++y)) else ab
 |.tuple (x::xs),.tuple ys=>if (x::xs).length+ys.length<=sizeLine then aa (.tuple ((x::xs)++ys)) else ab
 |_,_=>ab
theorem Xd:lh K 0 (λx y H Q=>ub (λi j=>.int (i+j)) x y H Q\/(∃ i j,x=.str i/\y=.str j/\i.length+j.length<=sizeLine/\Q (.str (i++j)) H)\/HG K x y H Q) cF:=λP H x y a b d Q hP ra rb e k=>by
 unfold cF at e;split at e
 .rename_i i j;cases e;exact .inl ⟨i,j,Aaj.1 ra,Aaj.1 rb,k.zero Ext.refl (Aaj.2 rfl)⟩
 .rename_i i j;obtain⟨hc,rfl⟩:=cJ e;exact .inr (.inl ⟨i,j,(Aa2.1 ra).1,(Aa2.1 rb).1,hc,k.zero Ext.refl (Aa2.2 ⟨rfl,LH (Aa2.1 ra).2 (Aa2.1 rb).2⟩)⟩)
 .rename_i z zs ys;obtain⟨hc,rfl⟩:=cJ e;obtain⟨p,us,rfl,hp,r1⟩:=Aal.1 ra;obtain⟨q,ws,rfl,hq,r2⟩:=Aal.1 rb;have l1:=r1.length;have l2:=r2.length;refine .inr (.inr ⟨p,q,us,ws,rfl,rfl,SqT.of (Aam _ _ hp),SqT.of (Aam _ _ hq),λz=>by rw[z] at l1;simp at l1,by rw[l1,l2];exact hc,λz=>?_,λz r hr=>?_⟩)
  .subst z;have:ys=[]:=by simpa using l2.symm
   subst this;refine k.zero Ext.refl ?_;rw[oW];exact ra
  .exact k.tup hP hr (r1.append r2)
 .cases e
theorem Sz (ha:DE X a fa)(hb:DE X b fb):DE X (.BinOp a .Add b pos) (ai cF fa fb):=pM (Bkx.or (Azi.or A6u)) Xd ha hb
mutual
def noDict:aA->Bool
 |.dict _=>ah
 |.list ds=>noDicts ds
 |.tuple ds=>noDicts ds
 |_=>af
def noDicts:aag->Bool
 |[]=>af
 |d::r=>noDict d&&noDicts r
end
mutual
theorem nJ {X:Cx}(I:Inv X ad Z H s):∀ {d:aA} {v:V} {u:aB},noDict d=af->Abg X.K H d v->RelV v u->d.canLay0=af/\∃ as,kW s.heap u d as
 |.none,v,u,_,h,r=>by
  obtain rfl:=Abl.1 h;cases r;exact⟨by simp[bX],_,.none⟩
 |.bool b,v,u,_,h,r=>by
  obtain rfl:=Aas.1 h;cases r;exact⟨by simp[bX],_,.bool b⟩
 |.int i,v,u,_,h,r=>by
  obtain rfl:=Aaj.1 h;obtain⟨t,rfl⟩:=r;exact⟨by simp[bX],_,.int i t⟩
 |.str x,v,u,_,h,r=>by
  obtain⟨rfl,hl⟩:=Aa2.1 h;obtain⟨t,rfl⟩:=r;exact⟨hl,_,.str x t⟩
 |.list ds,v,u,n,h,r=>by
  obtain⟨a,xs,rfl,hs,hr⟩:=Aav.1 h;cases r;obtain⟨its,rv,⟨o,m,e,hc,_,hd⟩,_⟩:=I.list hs;obtain⟨hl,as,ha⟩:=LI I (by simpa [noDict] using n) hr rv
  exact⟨by simpa [bX] using hl,_,.list e hc hd (by simpa using ha)⟩
 |.tuple ds,v,u,n,h,r=>by
  obtain⟨a,xs,rfl,hs,hr⟩:=Aal.1 h;cases r;obtain⟨its,rv,⟨o,e,hc,m,hd⟩,_⟩:=I.tuple (SqT.of hs);obtain⟨hl,as,ha⟩:=LI I (by simpa [noDict] using n) hr rv
  exact⟨by simpa [bX] using hl,_,.tuple e hc hd (by simpa using ha)⟩
 |.dict _,_,_,n,h,_=>by simp[noDict] at n
theorem LI {X:Cx}(I:Inv X ad Z H s):∀ {ds:aag} {vs:aai} {us:aak},noDicts ds=af->Aan X.K H ds vs->Vals vs us->FM ds=af/\∃ as,jB s.heap us ds as
 |[],vs,us,_,h,r=>by
  obtain rfl:=Aah.1 h;cases r;exact⟨by simp[FM],_,.nil⟩
 |d::ds,vs,us,n,h,r=>by
  have n':noDict d=af/\noDicts ds=af:=by simpa [noDicts] using n
  obtain⟨x,rr,rfl,h1,h2⟩:=Aac.1 h;cases r with
  |cons r1 r2=>
   obtain⟨l1,as,ha⟩:=nJ I n'.1 h1 r1;obtain⟨l2,bs,hb⟩:=LI I n'.2 h2 r2;exact⟨by simp[FM,l1,l2],_,.cons ha hb⟩
end
noncomputable def dI (d:aA):Bool:=noDict d&&decide (d.depth<=60)
def cy:aA->aA->aah:=λa b=>if (dI a&&dI b)=af then aa (.bool (bW a b)) else ab
def ib:aA->aA->aah:=λa b=>if (dI a&&dI b)=af then aa (.bool (!bW a b)) else ab
def BD (K:aI)(neg:Bool):R2:=λx y H Q=>∃ da db,Abg K H da x/\Abg K H db y/\dI da=af/\dI db=af/\Q (.bl (neg != bW da db)) H
theorem SN (hu:X.A.units+100<cLine):OpR X (fY .Eq) (BD X.K ah):=by
 rw[2];obtain⟨da,db,ra,rb,fa,fb,q⟩:=h;have wp:noDict da=af/\da.depth<=60:=by simpa [dI] using fa
 have fb':noDict db=af/\db.depth<=60:=by simpa [dI] using fb
 obtain⟨la,as,ra⟩:=nJ I wp.1 ra rx;obtain⟨lb,bs,rb⟩:=nJ I fb'.1 rb ry;exact SeqAt.compareEq_reads ra rb la lb () ⟨.bl _,H,I,rfl,by simpa using q⟩
theorem Pn (hu:X.A.units+100<cLine):OpR X (fY .NotEq) (BD X.K af):=by
 rw[2];obtain⟨da,db,ra,rb,fa,fb,q⟩:=h;have wp:noDict da=af/\da.depth<=60:=by simpa [dI] using fa
 have fb':noDict db=af/\db.depth<=60:=by simpa [dI] using fb
 obtain⟨la,as,ra⟩:=nJ I wp.1 ra rx;obtain⟨lb,bs,rb⟩:=nJ I fb'.1 rb ry;exact SeqAt.compareNe_reads ra rb la lb () ⟨.bl _,H,I,rfl,by simpa using q⟩
theorem SQ:lh K 0 (BD K ah) cy:=λP H x y a b d Q hP ra rb e k=>by
 obtain⟨hc,rfl⟩:=cJ e;have gr:dI a=af/\dI b=af:=by simpa using hc
 exact⟨a,b,ra.ext Aam,rb.ext Aam,gr.1,gr.2,k.zero Ext.refl (Aas.2 (by simp))⟩
theorem Qb:lh K 0 (BD K af) ib:=λP H x y a b d Q hP ra rb e k=>by
 obtain⟨hc,rfl⟩:=cJ e;have gr:dI a=af/\dI b=af:=by simpa using hc
 exact⟨a,b,ra.ext Aam,rb.ext Aam,gr.1,gr.2,k.zero Ext.refl (Aas.2 (by simp))⟩
def GQ (K:aI)(neg:Bool):R2:=λx y H Q=>∃ d ds,Abg K H d x/\(Abg K H (.list ds) y\/Abg K H (.tuple ds) y)/\dI d=af/\noDicts ds=af/\Q (.bl (neg != ds.any λz=>bW z d)) H
theorem Qm (hu:X.A.units+100<cLine):OpR X (fY .In) (GQ X.K ah):=by
 rw[2];obtain⟨d,ds,ra,rb,fa,fb,q⟩:=h;have wp:noDict d=af/\d.depth<=60:=by simpa [dI] using fa
 obtain⟨la,as,ra⟩:=nJ I wp.1 ra rx;rcases rb with rb|rb
 .obtain⟨lb,bs,rb⟩:=nJ I (by simpa [noDict] using fb) rb ry
  exact SeqAt.in_list_reads rb ra (by simpa [bX] using lb) la () ⟨.bl _,H,I,rfl,by simpa using q⟩
 .obtain⟨lb,bs,rb⟩:=nJ I (by simpa [noDict] using fb) rb ry
  exact SeqAt.in_tuple_reads rb ra (by simpa [bX] using lb) la () ⟨.bl _,H,I,rfl,by simpa using q⟩
theorem Y7 (hu:X.A.units+100<cLine):OpR X (fY .NotIn) (GQ X.K af):=by
 rw[2];obtain⟨d,ds,ra,rb,fa,fb,q⟩:=h;have wp:noDict d=af/\d.depth<=60:=by simpa [dI] using fa
 obtain⟨la,as,ra⟩:=nJ I wp.1 ra rx;rcases rb with rb|rb
 .obtain⟨lb,bs,rb⟩:=nJ I (by simpa [noDict] using fb) rb ry
  exact SeqAt.notIn_list_reads rb ra (by simpa [bX] using lb) la () ⟨.bl _,H,I,rfl,by simpa using q⟩
 .obtain⟨lb,bs,rb⟩:=nJ I (by simpa [noDict] using fb) rb ry
  exact SeqAt.notIn_tuple_reads rb ra (by simpa [bX] using lb) la () ⟨.bl _,H,I,rfl,by simpa using q⟩
end
theorem PE.or {X:Cx}{t t':TE}(h:PE X e t)(h':PE X e t'):PE X e (λZ H Q=>t Z H Q\/t' Z H Q):=λad s Z H Q I q=>q.elim (h ad s Z H Q I) (h' ad s Z H Q I)
noncomputable def tu:aA->aA->aah
 |.int i,.int j=>aa (.bool (decide (i<j)))
 |.str i,.str j=>aa (.bool (decide (i.cps.toList<j.cps.toList)))
 |_,_=>ab
def vz:aA->aA->aah:=Y' λi j=>.bool (decide (j<i))
theorem Pk:lh K 0 (λx y H Q=>ub (λi j=>.bl (decide (i<j))) x y H Q\/∃ i j,x=.str i/\y=.str j/\Q (.bl (decide (i.cps.toList<j.cps.toList))) H) tu:=λP H x y a b d Q hP ra rb e k=>by
 unfold tu at e;split at e
 .cases e;exact .inl ⟨_,_,Aaj.1 ra,Aaj.1 rb,k.zero Ext.refl (Aas.2 rfl)⟩
 .cases e;exact .inr ⟨_,_,(Aa2.1 ra).1,(Aa2.1 rb).1,k.zero Ext.refl (Aas.2 rfl)⟩
 .cases e
theorem Qk:lh K 0 (ub λi j=>.bl (decide (j<i))) vz:=UB λ_ _ _=>Aas.2 rfl
def pF:aA->aA->aah
 |.none,.none=>aa (.bool af)
 |_,.none=>aa (.bool ah)
 |_,_=>ab
def jS:aA->aA->aah
 |.none,.none=>aa (.bool ah)
 |_,.none=>aa (.bool af)
 |_,_=>ab
theorem YD{a:aA}{x:V}(r:Abg K H a x):decide (x=.non)=(match a with|.none=>af|_=>ah):=by
 cases a with
 |none=>obtain rfl:=Abl.1 r;rfl
 |bool b=>obtain rfl:=Aas.1 r;rfl
 |int b=>obtain rfl:=Aaj.1 r;rfl
 |str b=>obtain⟨rfl,_⟩:=Aa2.1 r;rfl
 |list b=>obtain⟨_,_,rfl,_⟩:=Aav.1 r;rfl
 |tuple b=>obtain⟨_,_,rfl,_⟩:=Aal.1 r;rfl
 |dict b=>obtain⟨_,rfl,_⟩:=Acx.1 r;rfl
theorem Xp:lh K 0 (λx y H Q=>y=.non/\Q (.bl (decide (x=.non))) H) pF:=λP H x y a b d Q hP ra rb e k=>by
 have q:=YD ra;unfold pF at e;split at e
 .cases e;exact⟨Abl.1 rb,k.zero Ext.refl (Aas.2 (by rw[q]))⟩
 .rename_i h;cases e;refine⟨Abl.1 rb,k.zero Ext.refl (Aas.2 ?_)⟩;rw[q];cases a<;>first|rfl|exact(h rfl).elim
 .cases e
theorem Zr:lh K 0 (λx y H Q=>y=.non/\Q (.bl (!decide (x=.non))) H) jS:=λP H x y a b d Q hP ra rb e k=>by
 have q:=YD ra;unfold jS at e;split at e
 .cases e;exact⟨Abl.1 rb,k.zero Ext.refl (Aas.2 (by rw[q];rfl))⟩
 .rename_i h;cases e;refine⟨Abl.1 rb,k.zero Ext.refl (Aas.2 ?_)⟩;rw[q];cases a<;>first|rfl|exact(h rfl).elim
 .cases e
noncomputable def cC:aA->Option aG
 |.int i=>aa (.inl i)
 |.str x=>aa (.inr x)
 |_=>ab
theorem LB(h:cC d=aa k):d=kD k:=by
 cases d<;>simp[cC] at h<;>subst h<;>rfl
noncomputable def cM (kds:dL)(k:aG):aah:=(kds.find? λkd=>decide (cC kd.1=aa k)).map (·.2)
theorem yI (k:aG):cC (kD k)=aa k:=by cases k<;>rfl
section
variable {κ:Type}[DecidableEq κ]{f:aA->κ->Prop}{m:aA->Prop}[DecidablePred m]{k:κ}{kd:aA}
theorem JI (hm:∀ x k',f x k'->(m x↔k'=k)):∀ {kds:dL} {kvs:List (κ×V)},Ajl K H f kds kvs->((kds.find? λkd=>decide (m kd.1)).map (·.2)=ab/\dH kvs k=ab)\/∃ d v,(kds.find? λkd=>decide (m kd.1)).map (·.2)=aa d/\dH kvs k=aa v/\Abg K H d v
 |[],kvs,h=>by rw[Abm.1 h];exact .inl ⟨rfl,rfl⟩
 |(k0,d)::r,kvs,h=>by
  obtain⟨k',x,rr,rfl,e0,h1,h2⟩:=Aba.1 h;have e1:=hm _ _ e0;by_cases e:k'=k
  .exact .inr ⟨d,x,by simp[iW,e1.2 e],lT e,h1⟩
  .have e2:(List.find? (λkd=>decide (m kd.1)) ((k0,d)::r))=List.find? (λkd=>decide (m kd.1)) r:=by simp[iW,e1,e]
   rw[kP e,e2];exact JI hm h2
theorem Ajl.length:∀ {kds:dL} {kvs:List (κ×V)},Ajl K H f kds kvs->kvs.length=kds.length
 |[],kvs,h=>by rw[Abm.1 h];rfl
 |(k0,d0)::r,kvs,h=>by
  obtain⟨k',x,rr,rfl,_,h1,h2⟩:=Aba.1 h;rw[eX,eX,Ajl.length h2]
theorem XA (hm:∀ x k',f x k'->(m x↔k'=k))(hf:f kd k)(rv:Abg K H d v){kvs:List (κ×V)}(h:Ajl K H f kds kvs) :
  Ajl K H f (if (kds.any λkd=>decide (m kd.1))=af then kds.map λkd=>if m kd.1 then(kd.1,d) else kd else kds++[(kd,d)]) (putK kvs k v):=by
 have go:∀ {kds:dL} {kvs:List (κ×V)},Ajl K H f kds kvs->(kds.any λkd=>decide (m kd.1))=(kvs.any λkv=>decide (kv.1=k))/\Ajl K H f (kds.map λkd=>if m kd.1 then(kd.1,d) else kd) (kvs.map λkv=>if kv.1=k then(kv.1,v) else kv)/\Ajl K H f (kds++[(kd,d)]) (kvs++[(k,v)]):=by
  intro kds;induction kds with
  |nil=>
   intro kvs h;rw[Abm.1 h];exact⟨rfl,Abm.2 rfl,Aba.2 ⟨k,v,[],rfl,hf,rv,Abm.2 rfl⟩⟩
  |cons p r ih=>
   intro kvs h;obtain⟨k0,d0⟩:=p;obtain⟨k',x,rr,rfl,e0,h1,h2⟩:=Aba.1 h;obtain⟨g1,g2,g3⟩:=ih h2;have e1:=hm _ _ e0;refine⟨by rw[xB,xB,g1];simp[e1],?_,Aba.2 ⟨k',x,_,rfl,e0,h1,g3⟩⟩
   rw[dB,dB];by_cases e:k'=k
   .rw[if_pos (show m (k0,d0).1 from e1.2 e),if_pos (show(k',x).1=k from e)]
    exact Aba.2 ⟨k',v,_,rfl,e0,rv,g2⟩
   .rw[if_neg (show ¬ m (k0,d0).1 from λz=>e (e1.1 z)),if_neg (show ¬ (k',x).1=k from e)]
    exact Aba.2 ⟨k',x,_,rfl,e0,h1,g2⟩
 obtain⟨g1,g2,g3⟩:=go h;unfold putK;rw[g1];split
 .exact g2
 .exact g3
end
theorem UD(x:aA)(k':aG)(e:x=kD k'):cC x=aa k↔k'=k:=by rw[e,yI];simp
theorem EK(h:gR K H kds kvs):(cM kds k=ab/\dH kvs k=ab)\/∃ d v,cM kds k=aa d/\dH kvs k=aa v/\Abg K H d v:=JI UD h
theorem Cv:∀ {kds:dL} {kvs:jp},pH K H kds kvs->cM kds k=ab
 |[],kvs,h=>rfl
 |(k0,d)::r,kvs,h=>by
  obtain⟨k',x,rr,rfl,⟨rfl,_⟩,h1,h2⟩:=Aba.1 h;have e1:cM ((.tuple k',d)::r) k=cM r k:=by simp[cM,iW,cC]
  rw[e1];exact Cv h2
theorem i4(h:Abg K H (.dict kds) v)(e:cM kds k=aa d):∃ a,∃ kvs:Nat×li,v=.ref a/\H a=aa (.dK kvs.1 kvs.2)/\gR K H kds kvs.2:=by
 obtain⟨a,ev,⟨kvs,h1,r⟩|⟨ts,h1,r⟩⟩:=Acx.1 h
 .exact⟨a,kvs,ev,h1,r⟩
 .cases kds with
  |nil=>simp[Azu] at r
  |cons p q=>
   obtain⟨k0,m⟩:=p;obtain⟨rfl,r2⟩:=Ad0.1 r;have e1:cM ((.none,m)::q) k=cM q k:=by simp[cM,iW,cC]
   rw[e1,Cv r2] at e;cases e
noncomputable def qS (kds:dL)(k:aag):aah:=(kds.find? λkd=>decide (bW kd.1 (.tuple k)=af)).map (·.2)
theorem Ws (a b:aag):bW (.tuple a) (.tuple b)=iT a b:=by simp[bW]
theorem HV {k:aag}(hk:bS k=af)(x:aA)(k':aag)(e:x=.tuple k'/\bS k'=af):bW x (.tuple k)=af↔k'=k:=by rw[e.1,Ws,T9 _ _ e.2 hk,decide_eq_true_iff]
theorem X4{k:aag}(hk:bS k=af){kvs:jp}(h:pH K H kds kvs):(qS kds k=ab/\dH kvs k=ab)\/∃ d v,qS kds k=aa d/\dH kvs k=aa v/\Abg K H d v:=JI (HV hk) h
noncomputable def putD (kds:dL)(k:aG)(d:aA):dL:=
 if (kds.any λkd=>decide (cC kd.1=aa k))=af then kds.map λkd=>if cC kd.1=aa k then(kd.1,d) else kd else kds++[(kD k,d)]
theorem IE(h:gR K H kds kvs)(rv:Abg K H d v):gR K H (putD kds k d) (putK kvs k v):=XA UD rfl rv h
theorem lX{x:V}(h:cC d=aa k)(r:Abg K H d x):x=kV k:=by
 rw[LB h] at r;exact C6 r
def aq:aA->aA->aah
 |.list ds,.int i=>iw ds i
 |.tuple ds,.int i=>iw ds i
 |.str z,.int i=>if z.length<=sizeLine then(iw z.cps.toList i).bind λc=>aa (.str ⟨#[c]⟩) else ab
 |.dict kds,d=>(cC d).bind λk=>cM kds k
 |_,_=>ab
theorem Eo{i:Int}(r:Aan K H ds xs)(h:iw ds i=aa d):∃ v,iw xs i=aa v/\Abg K H d v:=by
 unfold iw at h ⊢;rw[r.length];obtain⟨j,h1,h2⟩:=ar h;obtain⟨v,h3,h4⟩:=r.get h2;exact⟨v,by rw[h1];exact h3,h4⟩
theorem Ti {α:Type}{xs:List α}{i:Int}{x:α}(h:iw xs i=aa x):∃ j:Nat,xs[j]?=aa x:=by
 obtain⟨j,h1,h2⟩:=ar h;exact⟨j,h2⟩
section
variable {X:Cx}{a:aT}{fa fb f:EF}{p:bJ}
theorem Oe (hu:X.A.units+40<cLine)(ha:DE X a fa)(hb:DE X b fb)(hs:Fp b):DE X (.Subscript a b pos) (ai aq fa fb):=PE.imp (PE.or (Nn Pw ha hb hs) (Ye hu ha hb hs)) λZ H Q h=>by
 obtain⟨P,Y,d,hP,rs,ef,k⟩:=h;obtain⟨d1,e1,cg⟩:=ar ef;obtain⟨d2,e2,ck⟩:=ar cg;have seq:(∀ (H2:Hp) (v u:V),Ext H H2->Abg X.K (hid H2 P) d1 v->Abg X.K (hid H2 P) d2 u->rIx X.K v u H2 Q)->xu (rIx X.K) (tF X.K 0 fa) (tF X.K 0 fb) Z H Q:=λz=>
  ⟨P,Y,d1,hP,rs,e1,dY λv H1 x1 r1=>⟨P,Y,d2,hP.ext x1,rs.ext (cS x1),e2,dY λu H2 x2 r2=>z H2 v u (x1.trans x2) (r1.ext (cS x2)) r2⟩⟩
 cases d1 with
 |list ds=>
  cases d2 with
  |int i=>
   refine .inl (seq λH2 v u x r1 r2=>.inl ?_)
   obtain⟨q,xs,rfl,hq,rr⟩:=Aav.1 r1;obtain⟨w,h1,h2⟩:=Eo rr (show iw ds i=aa d from ck)
   exact⟨q,xs,i,w,rfl,Aaj.1 r2,Aam.sqL hq,h1,k.zero x h2⟩
  |_=>cases ck
 |tuple ds=>
  cases d2 with
  |int i=>
   refine .inl (seq λH2 v u x r1 r2=>.inr (.inl ?_))
   obtain⟨q,xs,rfl,hq,rr⟩:=Aal.1 r1;obtain⟨w,h1,h2⟩:=Eo rr (show iw ds i=aa d from ck)
   exact⟨q,xs,i,w,rfl,Aaj.1 r2,SqT.of (Aam _ _ hq),h1,k.zero x h2⟩
  |_=>cases ck
 |str z=>
  cases d2 with
  |int i=>
   have ck:(if z.length<=sizeLine then(iw z.cps.toList i).bind λc=>aa (.str ⟨#[c]⟩) else ab)=aa d:=ck
   by_cases hz:z.length<=sizeLine
   .rw[if_pos hz] at ck;obtain⟨c,h1,h2⟩:=ar ck;cases h2;obtain⟨j,hj⟩:=Ti h1;refine .inl (seq λH2 v u x r1 r2=>.inr (.inr ⟨z,i,c,(Aa2.1 r1).1,Aaj.1 r2,hz,h1,k.zero x (Aa2.2 ⟨rfl,O8 (Aa2.1 r1).2 hj⟩)⟩))
   .rw[if_neg hz] at ck;cases ck
  |_=>cases ck
 |dict kds=>
  obtain⟨kk,h1,h2⟩:=ar (show((cC d2).bind λk=>cM kds k)=aa d by cases d2<;>exact ck)
  refine .inr ⟨P,Y,_,hP,rs,e1,dY λv H1 x1 r1=>⟨P,Y,d2,hP.ext x1,rs.ext (cS x1),e2,dY λu H2 x2 r2=>?_⟩⟩
  obtain⟨q,kvs,rfl,hq,rr⟩:=i4 (r1.ext (cS x2)) h2;rcases EK rr with⟨n1,_⟩|⟨d',v',s1,s2,rd⟩
  .rw[h2] at n1;cases n1
  .rw[h2] at s1;cases s1;refine⟨q,v',rfl,.inl ⟨kvs.1,kvs.2,kk,.inl (Aam _ _ hq),lX h1 r2,s2.symm⟩,k.zero (x1.trans x2) rd⟩
 |_=>cases d2<;>cases ck
def GY (neg:Bool):aA->dL->aah
 |.tuple _,(_,.list _)::_=>ab
 |.tuple k,(_,_)::kds=>if (bS k&&decide (cU k<=6))=af then aa (.bool (neg != (qS kds k).isSome)) else ab
 |_,_=>ab
def gy (neg:Bool):aA->aA->aah
 |d,.list ds=>if (dI d&&noDicts ds)=af then aa (.bool (neg != ds.any λz=>bW z d)) else ab
 |d,.tuple ds=>if (dI d&&noDicts ds)=af then aa (.bool (neg != ds.any λz=>bW z d)) else ab
 |.str i,.str j=>aa (.bool (neg != !(QD j i 0 j.length 1).isEmpty))
 |d,.dict kds=>if ic kds=af then(cC d).bind λk=>aa (.bool (neg != (cM kds k).isSome)) else GY neg d kds
 |_,_=>ab
def MS (K:aI)(neg:Bool):R2:=λx y H Q=>GQ K neg x y H Q\/(∃ i j,x=.str i/\y=.str j/\Q (.bl (neg != !(QD j i 0 j.length 1).isEmpty)) H)\/∃ a o,y=.ref a/\qJ H a x o/\Q (.bl (neg != o.isSome)) H
theorem US (hu:X.A.units+100<cLine):OpR X (fY .In) (MS X.K ah):=by
 rw[2];rcases h with h|⟨i,j,ex,ey,q⟩|⟨a,o,rfl,g,q⟩
 .exact Qm hu ad s Z H x y v u Q I rx ry h
 .exact R4 ad s Z H x y v u Q I rx ry ⟨i,j,ex,ey,by simpa using q⟩
 .cases ry;exact Ks () I g rx λs' I'=>⟨.bl _,H,I',rfl,by simpa using q⟩
theorem D0 (hu:X.A.units+100<cLine):OpR X (fY .NotIn) (MS X.K af):=by
 rw[2];rcases h with h|⟨i,j,ex,ey,q⟩|⟨a,o,rfl,g,q⟩
 .exact Y7 hu ad s Z H x y v u Q I rx ry h
 .exact G4 ad s Z H x y v u Q I rx ry ⟨i,j,ex,ey,by simpa using q⟩
 .cases ry;exact Yi () I g rx λs' I'=>⟨.bl _,H,I',rfl,by simpa using q⟩
theorem MO{neg:Bool}:lh K 0 (MS K neg) (gy neg):=λP H x y a b d Q hP ra rb e k=>by
 unfold gy at e;split at e
 .obtain⟨hc,rfl⟩:=cJ e;have gr:=jO.1 hc;exact .inl ⟨a,_,ra.ext Aam,.inl (rb.ext Aam),gr.1,gr.2,k.zero Ext.refl (Aas.2 rfl)⟩
 .obtain⟨hc,rfl⟩:=cJ e;have gr:=jO.1 hc;exact .inl ⟨a,_,ra.ext Aam,.inr (rb.ext Aam),gr.1,gr.2,k.zero Ext.refl (Aas.2 rfl)⟩
 .cases e;exact .inr (.inl ⟨_,_,(Aa2.1 ra).1,(Aa2.1 rb).1,k.zero Ext.refl (Aas.2 rfl)⟩)
 .rename_i kds;by_cases pk:ic kds=af
  case neg=>
   rw[if_neg pk] at e;have ek:∃ m r,kds=(.none,m)::r:=by
    cases kds with
    |nil=>simp[ic] at pk
    |cons p r=>
     obtain⟨k0,m⟩:=p;cases k0<;>simp[ic] at pk;exact⟨m,r,rfl⟩
   obtain⟨m,r,rfl⟩:=ek;cases a with
   |tuple kk=>
    replace e:(if (bS kk&&decide (cU kk<=6))=af then aa (jK (neg != (qS r kk).isSome)) else ab)=aa d:=by
     cases m with
     |list es=>cases e
     |_=>exact e
    obtain⟨hc,rfl⟩:=cJ e;have gr:bS kk=af/\cU kk<=6:=by simpa using hc
    obtain⟨q,ts,rfl,hq,rr⟩:=Apt.1 rb;obtain⟨b,xs,rfl,hb,rx⟩:=Aal.1 (ra.ext Aam);refine .inr (.inr ⟨q,dH ts.2 kk,rfl,.inr ⟨ts.2,kk,b,⟨_,.inl (Aam _ _ hq)⟩,rfl,⟨gr.1,gr.2,xs,hb,Aan.keys kk gr.1 rx⟩,rfl⟩,k.zero Ext.refl (Aas.2 ?_)⟩);rcases X4 gr.1 rr with⟨n1,n2⟩|⟨d',v',s1,s2,rd⟩
    .rw[n1,n2];rfl
    .rw[s1,s2];rfl
   |_=>simp[GY] at e
  rw[if_pos pk] at e;obtain⟨kk,h1,h2⟩:=ar e;cases h2;obtain⟨q,kvs,rfl,hq,rr⟩:=(vQ pk).1 rb;refine .inr (.inr ⟨q,dH kvs.2 kk,rfl,.inl ⟨kvs.1,kvs.2,kk,.inl (Aam _ _ hq),lX h1 ra,rfl⟩,k.zero Ext.refl (Aas.2 ?_)⟩);rcases EK rr with⟨n1,n2⟩|⟨d',v',s1,s2,rd⟩
  .rw[n1,n2];rfl
  .rw[s1,s2];rfl
 .cases e
end
def dM:aag->aah
 |[.list ds]=>aa (.int ds.length)
 |[.tuple ds]=>aa (.int ds.length)
 |[.dict kds]=>if ic kds=af then aa (.int kds.length) else ab
 |[.str z]=>if z.length<=sizeLine then aa (.int z.length) else ab
 |_=>ab
theorem fC(r:Aan K H [d] xs):∃ v,xs=[v]/\Abg K H d v:=by
 obtain⟨v,t,rfl,h1,h2⟩:=Aac.1 r;obtain rfl:=Aah.1 h2;exact⟨v,rfl,h1⟩
section
variable {X:Cx}
def QO (K:aI):aai->Hp->VK->Prop:=λxs H Q=>(∃ p ys,xs=[.ref p]/\(SqL K H p ys\/SqT K H p ys)/\Q (.int ys.length) H)\/(∃ z,xs=[.str z]/\z.length<=sizeLine/\Q (.int z.length) H)\/∃ a ep kvs,xs=[V.ref a]/\H a=aa (.dK ep kvs)/\Q (.int kvs.length) H
theorem D4:Ack X (.builtin "len") (QO X.K):=Apx.or (Aqq.or Y9)
theorem V0:CallD K 0 (QO K) dM:=λP H xs ds d Q hP r e k=>by
 unfold dM at e;split at e
 .cases e;rw[7];replace r:=r';obtain⟨q,ys,rfl,hq,rr⟩:=Aav.1 r;exact .inl ⟨q,ys,rfl,.inl (Aam.sqL hq),k.zero Ext.refl (Aaj.2 (by rw[rr.length]))⟩
 .cases e;rw[7];replace r:=r';obtain⟨q,ys,rfl,hq,rr⟩:=Aal.1 r;exact .inl ⟨q,ys,rfl,.inr (SqT.of (Aam _ _ hq)),k.zero Ext.refl (Aaj.2 (by rw[rr.length]))⟩
 .obtain⟨pk,rfl⟩:=cJ e;rw[7];replace r:=r';obtain⟨q,ys,rfl,hq,rr⟩:=(vQ pk).1 r;exact .inr (.inr ⟨q,ys.1,ys.2,rfl,Aam _ _ hq,k.zero Ext.refl (Aaj.2 (by rw[rr.length]))⟩)
 .obtain⟨hz,rfl⟩:=cJ e;rw[7];replace r:=r';exact .inr (.inl ⟨_,by rw[(Aa2.1 r).1],hz,k.zero Ext.refl (Aaj.2 rfl)⟩)
 .cases e
noncomputable def nC:aA->String
 |.none=>"NoneType"
 |.bool _=>"bool"
 |.int _=>"int"
 |.str _=>"str"
 |.list _=>"list"
 |.tuple _=>"tuple"
 |.dict _=>"dict"
def VP:List String:=["int","bool","str","list","tuple","dict"]
theorem Z7 (d:aA):nC d∈kinds:=by cases d<;>simp[nC,kinds]
theorem U5:Ack X (.builtin "isinstance") (λxs H Q=>∃ x T d,xs=[x,.ty T]/\Abg X.K H d x/\T∈VP/\Q (.bl (tw (nC d) T)) H):=by
 rw[3];obtain⟨x,T,d,rfl,rd,hT,q⟩:=h;have ek:=Yc (Z7 d) hT;have by_ty:TyOf X.K H x (.type (nC d))->aJ (aO X.prog X.w) X.A (call (.builtin "isinstance") us) (EP X ad Z Q) X.xe s:=λty=>
  A3 ad s Z H _ us Q I r ⟨x,T,_,tw (nC d) T,rfl,ty,Apv.trans ek,q⟩
 cases d with
 |none=>obtain rfl:=Abl.1 rd;exact by_ty .non
 |bool b=>obtain rfl:=Aas.1 rd;exact by_ty (.bl _)
 |int b=>obtain rfl:=Aaj.1 rd;exact by_ty (.int _)
 |str b=>obtain⟨rfl,_⟩:=Aa2.1 rd;exact by_ty (.str _)
 |list b=>
  obtain⟨a,ys,rfl,h,_⟩:=Aav.1 rd;obtain⟨u,w',rfl,ru,ju⟩:=vals2 r;cases ju;cases ru;obtain⟨its,_,⟨o,n,e1,hc,_,_⟩,_⟩:=I.list h;exact oU Ig I.kIn ⟨o,e1,hc⟩ (Apv.trans ek) (λz=>nomatch z) λtk=>⟨.bl _,H,I.tok tk,rfl,q⟩
 |tuple b=>obtain⟨_,_,rfl,h,_⟩:=Aal.1 rd;exact by_ty (.tup h)
 |dict b=>
  obtain⟨_,rfl,⟨_,h,_⟩|⟨_,h,_⟩⟩:=Acx.1 rd
  .exact by_ty (.dK h)
  .exact by_ty (.dT h)
noncomputable def eT (T:String):aA->aah:=λd=>aa (.bool (tw (nC d) T))
variable {a:aT}{f:EF}{fa:AF}{p ay ba:bJ}
theorem MJ(zk:Gl X "isinstance")(hm:X.mg "isinstance" = ab)(hg:Gl X x)(hmx:X.mg x=ab)(hv:mX x=aa (.type T))(hT:T∈VP)(he:DE X e f)
  (hn:x ≠ "__name__") (hd:(x==("__debug__" : aD))=ah) (io:bH (e::[.Name x p2]) X.env=(ah,bF e X.env)::bH [.Name x p2] X.env)
  (dv:bH (.Name x p2::[]) X.env=(ah,bF (.Name x p2) X.env)::bH [] X.env) (dr:(iF pos (bH [.Name x p2] X.env)).any (·.1)=ah):DE X (.Call (.Name "isinstance" p) [e,.Name x p2] [] pos) (ff (eT T) f):=
 PE.imp (DC U5 zk hm boot_isinstance (gJ he (gJ (Mr hg hmx hv hn hd) iN dv) io) nofun nofun io dr) λZ H Q gh=>by
  rw[1];obtain⟨d1,e1,ef⟩:=ar ef;cases ef;exact⟨P,Y,d1,hP,rs,e1,dY λv H1 x1 r1=>⟨v,T,d1,rfl,r1.ext Aam,hT,k.zero x1 (Aas.2 rfl)⟩⟩
def nH:aag->aah
 |[.list ds]=>aa (.tuple ds)
 |[.tuple ds]=>aa (.tuple ds)
 |_=>ab
theorem B5:CallD K 0 (λxs H Q=>∃ p ys,xs=[.ref p]/\((SqL K H p ys/\∀ l,H l=ab->Q (.ref l) (ax H l (.tup ys)))\/(SqT K H p ys/\Q (.ref p) H))) nH:=λP H xs ds d Q hP r e k=>by
 unfold nH at e;split at e
 .cases e;rw[7];replace r:=r';obtain⟨q,ys,rfl,hq,rr⟩:=Aav.1 r;exact⟨q,ys,rfl,.inl ⟨Aam.sqL hq,λl hl=>k.tup hP hl rr⟩⟩
 .cases e;rw[7];replace r:=r';obtain⟨q,ys,rfl,hq,rr⟩:=Aal.1 r;exact⟨q,ys,rfl,.inr ⟨SqT.of (Aam _ _ hq),k.zero Ext.refl r⟩⟩
 .cases e
noncomputable def lG:aag->aah
 |[.list ds]=>aa (.list ds)
 |[.tuple ds]=>aa (.list ds)
 |_=>ab
abbrev Nt (K:aI):aai->Hp->VK->Prop:=λxs H Q=>∃ p ys,xs=[.ref p]/\(SqL K H p ys\/SqT K H p ys)/\∀ l,H l=ab->Q (.ref l) (ax H l (.lst ys))
theorem y9:CallD K 1 (Nt K) lG:=λP H xs ds d Q hP r e k=>by
 unfold lG at e;split at e
 .cases e;rw[7];replace r:=r';obtain⟨q,ys,rfl,hq,rr⟩:=Aav.1 r;exact⟨q,ys,rfl,.inl (Aam.sqL hq),λl hl=>k.lst hP hl rr⟩
 .cases e;rw[7];replace r:=r';obtain⟨q,ys,rfl,hq,rr⟩:=Aal.1 r;exact⟨q,ys,rfl,.inr (SqT.of (Aam _ _ hq)),λl hl=>k.lst hP hl rr⟩
 .cases e
noncomputable def sI:aag->Option (List Bool)
 |[]=>aa []
 |.bool b::r=>(sI r).bind λbs=>aa (b::bs)
 |_::_=>ab
def uQ:aag->aah
 |[.list ds]=>(sI ds).bind λbs=>aa (.bool (bs.all id))
 |_=>ab
theorem WO:∀ {ds:aag} {xs:aai} {bs:List Bool},sI ds=aa bs->Aan K H ds xs->xs=bs.map V.bl
 |[],xs,bs,e,r=>by
  cases e;rw[Aah.1 r];rfl
 |.bool b::ds,xs,bs,e,r=>by
  obtain⟨um,e1,e2⟩:=ar (show((sI ds).bind λbs=>aa (b::bs))=aa bs from e)
  cases e2;obtain⟨v,t,rfl,h1,h2⟩:=Aac.1 r;rw[Aas.1 h1,WO e1 h2];rfl
 |.none::_,_,_,e,_=>by cases e
 |.int _::_,_,_,e,_=>by cases e
 |.str _::_,_,_,e,_=>by cases e
 |.list _::_,_,_,e,_=>by cases e
 |.tuple _::_,_,_,e,_=>by cases e
 |.dict _::_,_,_,e,_=>by cases e
theorem U8:CallD K 0 (λxs H Q=>∃ p ys,xs=[.ref p]/\SqL K H p ys/\(∀ y∈ys,∃ b,y=.bl b)/\Q (.bl (allB ys)) H) uQ:=λP H xs ds d Q hP r e k=>by
 unfold uQ at e;split at e
 .obtain⟨bs,e1,e2⟩:=ar e;cases e2;rw[7];replace r:=r';obtain⟨q,ys,rfl,hq,rr⟩:=Aav.1 r;obtain rfl:=WO e1 rr;refine⟨q,_,rfl,Aam.sqL hq,λy m=>?_,k.zero Ext.refl (Aas.2 ?_)⟩
  .grind
  .unfold allB;rw[List.all_map]
   grind
 .cases e
def cutD (ds:aag)(lo hi:aar):aag:=(ds.drop (HT.sIx ds.length 0 lo)).take (HT.sIx ds.length ds.length hi-HT.sIx ds.length 0 lo)
abbrev OF:=be->Option aar
def tOF (K:aI)(f:OF):TO:=λZ H Q=>∃ P Y o,Hid P H/\Ama K (hid H P) Y Z/\f Y=aa o/\∀ H',Ext H H'->Q o H'
abbrev DO (X:Cx)(e:Option aT)(f:OF):Prop:=PO X e (tOF X.K f)
def oN:OF:=λ_=>aa ab
def oS (f:EF):OF:=λY=>(f Y).bind λd=>match d with
 |.int i=>aa (aa i)
 |_=>ab
theorem PO.imp {o:Option aT}{t t':TO}(h:PO X o t)(w:∀ Z H Q,t' Z H Q->t Z H Q):PO X o t':=λad s Z H Q I q=>h ad s Z H Q I (w _ _ _ q)
theorem Vt:DO X ab oN:=PO.imp Vp λZ H Q gh=>by
 obtain⟨P,Y,o,hP,rs,ef,k⟩:=gh;cases ef;exact k H Ext.refl
theorem Wk (h:DE X e f):DO X (aa e) (oS f):=PO.imp (Yd h) λZ H Q gh=>by
 obtain⟨P,Y,o,hP,rs,ef,k⟩:=gh;obtain⟨d,e1,ef⟩:=ar ef;refine⟨P,Y,d,hP,rs,e1,dY λv H1 x1 r1=>?_⟩
 cases d with
 |int i=>cases ef;exact⟨i,Aaj.1 r1,k H1 x1⟩
 |_=>cases ef
def fU (f:EF)(lo hi:OF):EF:=λY=>(f Y).bind λd=>(lo Y).bind λl=>(hi Y).bind λh=>match d with
 |.list ds=>aa (.list (cutD ds l h))
 |_=>ab
theorem Sh {lo hi:Option aT}{fl fh:OF}{pp:bJ}(he:DE X e f)(hl:DO X lo fl)(hh:DO X hi fh):DF 1 X (.Subscript e (.Slice lo hi ab pp) pos) (fU f fl fh):=PE.imp (WG Uk he hl hh) λZ H Q gh=>by
 rw[1];obtain⟨d1,e1,cg⟩:=ar ef;obtain⟨l,e2,ck⟩:=ar cg;obtain⟨h,e3,fy⟩:=ar ck;cases d1 with
 |list ds=>
  cases fy;refine⟨P,Y,_,hP,rs,e1,dY λv H1 x1 r1=>⟨P,Y,l,hP.ext x1,rs.ext (cS x1),e2,λH2 x2=>⟨P,Y,h,hP.ext (x1.trans x2),rs.ext (cS (x1.trans x2)),e3,λH3 x3=>?_⟩⟩⟩
  obtain⟨q,ys,rfl,hq,rr⟩:=Aav.1 (r1.ext (cS (x2.trans x3)));refine⟨q,ys,rfl,Aam.sqL hq,λp hp=>(k.mono ((x1.trans x2).trans x3)).lst (hP.ext ((x1.trans x2).trans x3)) hp ?_⟩
  unfold qM cutD;rw[rr.length];exact(rr.drop _).take _
 |_=>cases fy
def qN:aag->Option aal
 |[]=>aa []
 |.str x::r=>(qN r).bind λxs=>aa (x::xs)
 |_::_=>ab
theorem XD:∀ {ds:aag} {xs:aai} {bs:aal},qN ds=aa bs->Aan K H ds xs->xs=bs.map V.str/\∀ b∈bs,bX (.str b)=af
 |[],xs,bs,e,r=>by
  cases e;rw[Aah.1 r];exact⟨rfl,λb m=>by simp at m⟩
 |.str b::ds,xs,bs,e,r=>by
  obtain⟨um,e1,e2⟩:=ar (show((qN ds).bind λbs=>aa (b::bs))=aa bs from e)
  cases e2;obtain⟨v,t,rfl,h1,h2⟩:=Aac.1 r;obtain⟨q1,q2⟩:=XD e1 h2;rw[(Aa2.1 h1).1,q1];refine⟨rfl,λc m=>?_⟩
  rcases cI.1 m with rfl|m
  .exact(Aa2.1 h1).2
  .exact q2 c m
 |.none::_,_,_,e,_=>by cases e
 |.int _::_,_,_,e,_=>by cases e
 |.bool _::_,_,_,e,_=>by cases e
 |.list _::_,_,_,e,_=>by cases e
 |.tuple _::_,_,_,e,_=>by cases e
 |.dict _::_,_,_,e,_=>by cases e
theorem JU {ji:aD}(hs:bX (.str ji)=af):∀ {ys:aal},(∀ b∈ys,bX (.str b)=af)->bX (.str (mC ji ys))=af
 |[],_=>by
  have:mC ji []=Str.empty:=by simp[mC]
  rw[this]
  decide +kernel
 |[x],h=>by
  have:mC ji [x]=x:=by simp[mC]
  grind
 |x::y::r,h=>by
  exact LH (LH (h x bD) hs) (JU hs λb m=>h b (bI _ m))
def EZ:aA->aA->aah
 |.str ji,.list ds=>(qN ds).bind λys=>if (ys.map (·.length)).sum+ys.length*ji.length<=16777216 then aa (.str (mC ji ys)) else ab
 |_,_=>ab
theorem Vw {g:EF}(ho:DE X a f)(he:DE X e g)(q5:Bm X a e [] "join" ay ba):DE X (.Call (.Attribute a "join" ay) [e] [] ba) (ai EZ f g):=
 PE.imp (pG PySem.F.plainAttrs_str PySem.F.slot_str_join PySem.F.type_str_join Yh ho (gJ he iN q5.s) q5) λZ H Q gh=>by
  rw[1];obtain⟨d1,e1,cg⟩:=ar ef;obtain⟨d2,e2,ck⟩:=ar cg;cases d1 with
  |str ji=>
   cases d2 with
   |list ds=>
    obtain⟨ys,h1,h2⟩:=ar (show((qN ds).bind λys=>if (ys.map (·.length)).sum+ys.length*ji.length<=16777216 then aa (dE (mC ji ys)) else ab)=aa d from ck)
    obtain⟨hz,rfl⟩:=cJ h2;refine⟨P,Y,_,hP,rs,e1,dY λv H1 x1 r1=>⟨by rw[(Aa2.1 r1).1];rfl,P,Y,_,hP.ext x1,rs.ext (cS x1),e2,dY λu H2 x2 r2=>?_⟩⟩
    obtain⟨q,zs,rfl,hq,rr⟩:=Aav.1 r2;obtain⟨rfl,hl⟩:=XD h1 rr;exact⟨ji,q,ys,(Aa2.1 r1).1,rfl,Aam.sqL hq,hz,k.zero (x1.trans x2) (Aa2.2 ⟨rfl,JU (Aa2.1 r1).2 hl⟩)⟩
   |_=>cases ck
  |_=>cases d2<;>cases ck
theorem Hi {α:Type}{c:Prop}[Decidable c]{x:Option α}{y:α}(h:(if c then x else ab)=aa y):c/\x=aa y:=by
 grind
def Mw:aA->aA->aA->aah
 |.dict kds,k,x=>if ic kds=af then(cC k).bind λk=>aa ((cM kds k).getD x) else ab
 |_,_,_=>ab
def qW (fd fk fx:EF):EF:=λY=>(fd Y).bind λd=>(fk Y).bind λk=>(fx Y).bind λx=>Mw d k x
theorem Ww {o k z:aT}{fd fk fx:EF}(hu:X.A.units+40<cLine)(ho:DE X o fd)(hk:DE X k fk)(hz:DE X z fx)(m:M2 X o "get" ay k z ba):DE X (.Call (.Attribute o "get" ay) [k,z] [] ba) (qW fd fk fx):=
 PE.imp (Zq hu ho hk hz m) λZ H Q gh=>by
  obtain⟨P,Y,d,hP,rs,ef,kk⟩:=gh;obtain⟨d1,e1,cg⟩:=ar ef;obtain⟨d2,e2,ck⟩:=ar cg;obtain⟨d3,e3,fy⟩:=ar ck;cases d1 with
  |dict kds=>
   obtain⟨pk,oe⟩:=Hi (show(if ic kds=af then(cC d2).bind λk=>aa ((cM kds k).getD d3) else ab)=aa d from fy)
   obtain⟨key,h1,h2⟩:=ar oe;cases h2;refine⟨P,Y,_,hP,rs,e1,dY λv H1 x1 r1=>?_⟩
   obtain⟨q,kvs,rfl,hq,rr⟩:=(vQ pk).1 r1;refine⟨q,rfl,.inl ⟨kvs.1,kvs.2,.inl (Aam _ _ hq)⟩,P,Y,d2,hP.ext x1,rs.ext (cS x1),e2,dY λu H2 x2 r2=>⟨P,Y,d3,hP.ext (x1.trans x2),rs.ext (cS (x1.trans x2)),e3,dY λw H3 x3 r3=>⟨dH kvs.2 key,.inl ⟨kvs.1,kvs.2,key,.inl (x3 _ _ (x2 _ _ (Aam _ _ hq))),lX h1 r2,rfl⟩,kk.zero ((x1.trans x2).trans x3) ?_⟩⟩⟩
   rcases EK (rr.ext (cS (x2.trans x3))) with⟨n1,n2⟩|⟨d',v',s1,s2,rd⟩
   .rw[n1,n2];exact r3
   .rw[s1,s2];exact rd
  |_=>cases fy
theorem Uv:DF 1 X (.Dict [] [] pos) (eC (.dict [])):=PE.imp XC λZ H Q gh=>by
 rw[1];cases ef;exact λq hq=>k.dic hP hq (Abm.2 rfl)
def BQ:aag->aah
 |[.dict kds]=>if ic kds=af then aa (.dict kds) else ab
 |_=>ab
theorem m3:Ack X (.type "dict") (λxs H Q=>∃ a ep kvs,xs=[.ref a]/\H a=aa (.dK ep kvs)/\∀ p n,H p=ab->Q (.ref p) (ax H p (.dK n kvs))):=by
 rw[3];obtain⟨a,ep,kvs,rfl,ha,q⟩:=h;rw[4];exact Zj I (.inl ha) λp n s' hp I'=>⟨.ref p,_,I',rfl,q p n hp⟩
theorem u7:CallD K 1 (λxs H Q=>∃ a ep kvs,xs=[.ref a]/\H a=aa (.dK ep kvs)/\∀ p n,H p=ab->Q (.ref p) (ax H p (.dK n kvs))) BQ:=λP H xs ds d Q hP r e k=>by
 unfold BQ at e;split at e
 .obtain⟨pk,rfl⟩:=cJ e;rw[7];replace r:=r';obtain⟨q,ys,rfl,hq,rr⟩:=(vQ pk).1 r;exact⟨q,ys.1,ys.2,rfl,Aam _ _ hq,λl n hl=>k.dic hP hl rr⟩
 .cases e
end
section
variable {Y:aQ}{i:Nat}
theorem Sta.write{d':aA}(S:Sta K H0 P0 B0 Y Z H fp)(hi:i<Y.length)(hv:Z[i]?=aa (aa (.ref p)))(hp:p∈fp i)(ho:Mut (aa o))
  (new:Adr K (L2.hid H (Hd P0 fp)) (ax H p o) 1 d' (.ref p) (fp i)):Sta K H0 P0 B0 (Y.set i (aa (1,d'))) Z (ax H p o) fp:=by
 have hb:L2.hid (ax H p o) (Hd P0 fp)=L2.hid H (Hd P0 fp):=by
  funext b;unfold L2.hid;by_cases q:Hd P0 fp b
  .rw[if_pos q,if_pos q]
  .rw[if_neg q,if_neg q];exact cN λz=>q (.inr ⟨i,by rw[z];exact hp⟩)
 refine⟨by simp[S.len],S.nd,S.dj,λj a m=>⟨(S.own j a m).1,?_⟩,λb u e=>?_,S.hd,by rw[hb];exact S.base,λj n d e=>?_⟩
 .by_cases q:a=p
  .subst q;rw[eF];exact ho
  .rw[cN q];exact(S.own j a m).2
 .rw[cN (lY e (S.own i p hp).1)];exact S.ext b u e
 .by_cases q:j=i
  .subst q;rw[nR hi] at e;cases e;exact⟨_,hv,by rw[hb];exact new⟩
  .rw[rW (λz=>q z.symm)] at e
   obtain⟨v,h1,h2⟩:=S.slot j n d e;refine⟨v,h1,?_⟩;rw[hb];exact h2.keep Ext.refl λa m=>cN λz=>q (S.dj j i a m (by rw[z];exact hp))
theorem Sta.lst1(S:Sta K H0 P0 B0 Y Z H fp)(e:Y[i]?=aa (aa (1,.list ds))):∃ p xs,Z[i]?=aa (aa (.ref p))/\H p=aa (.lst xs)/\Aan K (L2.hid H (Hd P0 fp)) ds xs /\
  ∀ qu jd,Aan K (L2.hid H (Hd P0 fp)) qu jd->Sta K H0 P0 B0 (Y.set i (aa (1,.list qu))) Z (ax H p (.lst jd)) fp:=by
 obtain⟨v,h1,h2⟩:=S.slot i 1 _ e;obtain⟨p,xs,rfl,hp,hF,r⟩:=SM h2;exact⟨p,xs,h1,hp,r,λqu jd r'=>S.write (cE.1 e).1 h1 (by rw[hF];exact bD) trivial (by rw[hF];exact CB eF r')⟩
theorem Sta.dic1 {ds:dL}(S:Sta K H0 P0 B0 Y Z H fp)(e:Y[i]?=aa (aa (1,.dict ds))):∃ p ep xs,Z[i]?=aa (aa (.ref p))/\H p=aa (.dK ep xs)/\gR K (L2.hid H (Hd P0 fp)) ds xs /\
  ∀ n qu jd,gR K (L2.hid H (Hd P0 fp)) qu jd->Sta K H0 P0 B0 (Y.set i (aa (1,.dict qu))) Z (ax H p (.dK n jd)) fp:=by
 obtain⟨v,h1,h2⟩:=S.slot i 1 _ e;obtain⟨p,xs,rfl,hp,hF,r⟩:=Pl h2;exact⟨p,xs.1,xs.2,h1,hp,r,λn qu jd r'=>S.write (cE.1 e).1 h1 (by rw[hF];exact bD) trivial (by rw[hF];exact SE eF r')⟩
end
noncomputable def getL (i:Nat)(Y:aQ):aad:=match Y[i]? with
 |some (aa (1,.list ds))=>aa ds
 |_=>ab
noncomputable def qQ (i:Nat)(Y:aQ):Option dL:=match Y[i]? with
 |some (aa (1,.dict ds))=>aa ds
 |_=>ab
theorem nK {i:Nat}{Y:aQ}(h:getL i Y=aa ds):Y[i]?=aa (aa (1,.list ds)):=by
 unfold getL at h;split at h
 .rename_i e;cases h;exact e
 .cases h
theorem tQ {i:Nat}{Y:aQ}{ds:dL}(h:qQ i Y=aa ds):Y[i]?=aa (aa (1,.dict ds)):=by
 unfold qQ at h;split at h
 .rename_i e;cases h;exact e
 .cases h
section
variable {X:Cx}{k o:aT}{f g:EF}{ay ba:bJ}{i:Nat}
def jR (i:Nat)(m:Md)(f:EF):SF:=λY=>(eV 0 m f Y).bind λd=>(getL i Y).bind λds=>if ds.length<sizeLine then aa (.nx (Y.set i (aa (1,.list (ds++[d]))))) else ab
theorem W1 (i:Nat)(m:Md)(he:DE X e f)(hN:Nm X i x)(q5:Bm X (.Name x px) e [] "append" ay ba)
  (jw:kS (.Call (.Attribute (.Name x px) "append" ay) [e] [] ba) ab pos.line X.env=pure ah):DS X H0 P0 n0 (.Expr (.Call (.Attribute (.Name x px) "append" ay) [e] [] ba) pos) (jR i m f):=
 PS.imp (tH (pG AE aAd aAa KM (hN.pe) (gJ (ev m he) iN q5.s) q5) jw) λD Z H gh=>by
  rw[5];obtain⟨d,e1,cg⟩:=ar ef;obtain⟨ds,e2,ck⟩:=ar cg;obtain⟨hl,rfl⟩:=cJ ck;obtain⟨p,xs,h1,h2,_,_⟩:=S.lst1 (nK e2);refine⟨.ref p,h1,.inl ⟨rfl,xs,SqL.of h2⟩,B0,Y,fp,d,S,e1,λv H2 gh=>?_⟩
  obtain⟨gt,S2,r2⟩:=gh;obtain⟨p2,wq,q1,q2,q3,q4⟩:=S2.lst1 (nK e2);have:p2=p:=by rw[h1] at q1;cases q1;rfl
  subst this;exact⟨p2,wq,v,rfl,rfl,q2,by rw[q3.length];exact hl,k _ _ gt (q4 _ _ (q3.snoc r2.2))⟩
def HA (i:Nat):SF:=λY=>(getL i Y).bind λds=>aa (.nx (Y.set i (aa (1,.list []))))
theorem i7 (i:Nat)(hN:Nm X i x)(qp:FI (.Name x px) "clear" X.env (bF (.Name x px) X.env)=bF (.Name x px) X.env)(qr:(ay.endLine==ba.line)=af)
  (jw:kS (.Call (.Attribute (.Name x px) "clear" ay) [] [] ba) ab pos.line X.env=pure ah):DS X H0 P0 n0 (.Expr (.Call (.Attribute (.Name x px) "clear" ay) [] [] ba) pos) (HA i):=
 PS.imp (tH (Sk AE PySem.F.slot_list_clear PySem.F.type_list_clear j4 (hN.pe) qp qr) jw) λD Z H gh=>by
  rw[5];obtain⟨ds,e2,ck⟩:=ar ef;cases ck;obtain⟨p,xs,h1,h2,h3,h4⟩:=S.lst1 (nK e2);exact⟨.ref p,h1,.inl ⟨rfl,xs,SqL.of h2⟩,p,xs,rfl,rfl,h2,k _ _ fp (h4 [] [] (Aah.2 rfl))⟩
def sT (i:Nat)(m:Md)(f:EF)(mk:Md)(g:EF):SF:=λY=>(eV 0 m f Y).bind λd=>(getL i Y).bind λds=>(eV 0 mk g Y).bind λk=>match k with
 |.int j=>(jg ds.length j).bind λj=>aa (.nx (Y.set i (aa (1,.list (ds.set j d)))))
 |_=>ab
theorem BN{m:Md}{Y:aQ}(S:Sta K H0 P0 B0 Y Z H fp)(e:eV 0 m g Y=aa d){Q:VK}(hd:gQ d=af)(k:∀ v H',Ext H H'->Abg K (hid H' (Hd P0 fp)) d v->Q v H'):tF K 0 g Z H Q:=by
 cases m with
 |s=>exact⟨Hd P0 fp,vS Y,d,S.hid,S.viewS,e,dY k⟩
 |a=>
  obtain⟨d',ed,ef⟩:=ar e;obtain⟨fl,rfl⟩:=cJ ef;refine⟨P0,vA Y,d',S.hd.ext S.ext,S.viewA,ed,dY λv H' x r=>k v H' x (r.flat (λa xs e=>?_) _ hd)⟩
  obtain⟨na,e⟩:=Acz.1 e;refine hZ (λq=>?_) e
  rcases q with q|⟨j,q⟩
  .exact na q
  .have:=((S.grow x).own j a q).2;rw[e] at this;exact this
theorem Ud (i:Nat)(m mk:Md)(he:DE X e f)(hk:DE X k g)(hN:Nm X i x)
  (ha:∀ v,kU (.Subscript (.Name x px) k ay) X.env v=(do
   let ov <-nN [v] (bF (.Name x px) X.env)
   let iv <-nN [v,ov] (bF k X.env)
   standAt ay
   nN [v,ov,iv] (setItem ov iv v)
   release [v,ov,iv] []))
  (hs:NP [.Subscript (.Name x px) k ay] e pos.line X.env=pure ah) (hw:NQ [.Subscript (.Name x px) k ay] e X.env=pure ab)
  (h1:(hE [.Subscript (.Name x px) k ay] X.env).map (·.2)=[kU (.Subscript (.Name x px) k ay) X.env]):DS X H0 P0 n0 (.Assign [.Subscript (.Name x px) k ay] e pos) (sT i m f mk g):=
 PS.imp (MZ (ev m he) (SR (hN.pe) hk set_list ha) hs hw h1) λD Z H gh=>by
  obtain⟨B0,Y,fp,o,S,ef,kk⟩:=gh;obtain⟨d,e1,cg⟩:=ar ef;obtain⟨ds,e2,ck⟩:=ar cg;obtain⟨kd,e3,fy⟩:=ar ck;cases kd with
  |int j=>
   obtain⟨jn,e5,oe⟩:=ar (show((jg ds.length j).bind λj=>aa (Out.nx (Y.set i (aa (1,.list (ds.set j d))))))=aa o from fy)
   cases oe;refine⟨B0,Y,fp,d,S,e1,λv H2 gh=>?_⟩
   obtain⟨gt,S2,r2⟩:=gh;obtain⟨p,xs,h1,h2,_,_⟩:=S2.lst1 (nK e2);refine⟨.ref p,h1,BN S2 e3 (by simp[gQ]) λu H3 x3 r3=>?_⟩
   obtain⟨p3,sB,q1,q2,q3,q4⟩:=(S2.grow x3).lst1 (nK e2);have:p3=p:=by rw[h1] at q1;cases q1;rfl
   subst this;exact⟨p3,sB,j,jn,rfl,Aaj.1 r3,q2,by rw[q3.length];exact e5,kk _ _ gt (q4 _ _ (q3.set (r2.2.ext (cS x3)) jn))⟩
  |_=>cases fy
def zQ (i:Nat)(m:Md)(f:EF)(mk:Md)(g:EF):SF:=λY=>(eV 0 m f Y).bind λd=>(qQ i Y).bind λkds=>(eV 0 mk g Y).bind λk=>(cC k).bind λk=>if kds.length<sizeLine then aa (.nx (Y.set i (aa (1,.dict (putD kds k d))))) else ab
theorem Vo (i:Nat)(m mk:Md)(hu:X.A.units+40<cLine)(he:DE X e f)(hk:DE X k g)(hN:Nm X i x)(hs:kS e (aa (.Subscript (.Name x px) k ay)) pos.line X.env=pure ah):DS X H0 P0 n0 (.Assign [.Subscript (.Name x px) k ay] e pos) (zQ i m f mk g):=
 PS.imp (Gc hu (hN.pe) hk (ev m he) hs) λD Z H gh=>by
  obtain⟨B0,Y,fp,o,S,ef,kk⟩:=gh;obtain⟨d,e1,cg⟩:=ar ef;obtain⟨kds,e2,ck⟩:=ar cg;obtain⟨kd,e3,fy⟩:=ar ck;obtain⟨key,e4,oe⟩:=ar fy;obtain⟨hl,rfl⟩:=cJ oe;refine⟨B0,Y,fp,d,S,e1,λv H2 gh=>?_⟩
  obtain⟨gt,S2,r2⟩:=gh;obtain⟨p,ep,xs,h1,h2,_,_⟩:=S2.dic1 (tQ e2);refine⟨.ref p,h1,BN S2 e3 (by rw[LB e4];cases key<;>simp[kD,gQ]) λu H3 x3 r3=>?_⟩
  obtain⟨p3,vh,sB,q1,q2,q3,q4⟩:=(S2.grow x3).dic1 (tQ e2);have:p3=p:=by rw[h1] at q1;cases q1;rfl
  subst this;refine⟨p3,_,rfl,.inl ⟨vh,sB,key,q2,lX e4 r3,by rw[q3.length];exact hl,rfl⟩,λn=>kk _ _ gt (q4 n _ _ (IE q3 (r2.2.ext (cS x3))))⟩
end
section
variable {X:Cx}{a:aT}{fa fb fc:EF}
noncomputable def lA:aA->aA->aah
 |.list xs,.list ys=>if xs.length+ys.length<=sizeLine then aa (.list (xs++ys)) else ab
 |_,_=>ab
theorem Vq:OpR X (jY .Add) (λx y H Q=>∃ l b xs zs,x=.ref l/\y=.ref b/\SqL X.K H l xs/\SqL X.K H b zs/\xs.length+zs.length<=sizeLine/\∀ p,H p=ab->Q (.ref p) (ax H p (.lst (xs++zs)))):=by
 rw[2];obtain⟨l,b,xs,zs,rfl,rfl,hH,hB,hz,q⟩:=h;cases rx;cases ry;obtain⟨its,r,p1,z1⟩:=I.list hH;obtain⟨gj,r2,p2,z2⟩:=I.list hB;have l1:=r.length;have l2:=r2.length;obtain⟨⟨cls,dd,data,sl⟩,ho,hc,n,hd⟩:=p1.isList;obtain⟨⟨yw,vd,data2,xy⟩,sw,sx,n2,sy⟩:=p2.isList;subst hc hd sx sy;refine NX ⟨_,ho,rfl⟩ ⟨_,sw,rfl⟩ noFill_list_add seq_list_add PySem.F.slot_list_add PySem.F.entry_list_add (PySem.F.args_list_add_2 _ _) (list_addW l b its.toArray gj.toArray n n2 dd vd sl xy (by simp only[dA];lia)) ⟨ho,sw,?_⟩
 have ea:its.toArray++gj.toArray=(its++gj).toArray:=by simp
 rw[ea];exact⟨.ref _,_,I.lnew (r.append r2) (by rw[jN];lia),rfl,q _ I.fresh⟩
theorem Oq (ha:DE X a fa)(hb:DE X b fb):DF 1 X (.BinOp a .Add b pos) (ai lA fa fb):=pM Vq (λP H x y a b d Q hP ra rb e k=>by
 unfold lA at e;split at e
 .obtain⟨hz,rfl⟩:=cJ e;obtain⟨p,xs,rfl,hp,r1⟩:=Aav.1 ra;obtain⟨q,ys,rfl,hq,r2⟩:=Aav.1 rb;exact⟨p,q,xs,ys,rfl,rfl,Aam.sqL hp,Aam.sqL hq,by rw[r1.length,r2.length];exact hz,λl hl=>k.lst hP hl (r1.append r2)⟩
 .cases e) ha hb
end
variable {X:Cx}{a:aT}{f fa fb:EF}
def RL (K:aI):R2:=λx y H Q=>∃ a b ys,x=.ref a/\y=.ref b/\SqT K H a []/\SqT K H b ys/\Q (.ref b) H
theorem Xr:OpR X (jY .Add) (RL X.K):=by
 rw[2];obtain⟨a,b,ys,rfl,rfl,ha,hb,q⟩:=h;cases rx;cases ry;obtain⟨its,r1,p1,_⟩:=I.tuple ha;obtain⟨gj,r2,p2,_⟩:=I.tuple hb;cases r1;obtain⟨⟨cls,dd,data,sl⟩,ho,hc,n,hd⟩:=p1;obtain⟨⟨yw,vd,data2,xy⟩,sw,sx,n2,sy⟩:=p2;subst hc hd sx sy;exact NX ⟨_,ho,rfl⟩ ⟨_,sw,rfl⟩ Ie seq_tuple_add Ij Im (Io _ _)
  (tuple_addW0 a b _ _ n n2 dd vd sl xy rfl) ⟨ho,sw,⟨.ref b,H,I,rfl,q⟩⟩
noncomputable def sR:aA->aA->aah
 |.tuple xs,.tuple ys=>if xs.length+ys.length<=sizeLine then aa (.tuple (xs++ys)) else ab
 |_,_=>ab
theorem O0:lh K 0 (λx y H Q=>HG K x y H Q\/RL K x y H Q) sR:=λP H x y a b d Q hP ra rb e k=>by
 unfold sR at e;split at e
 .rename_i zs ys;obtain⟨hc,rfl⟩:=cJ e;obtain⟨p,us,rfl,hp,r1⟩:=Aal.1 ra;obtain⟨q,ws,rfl,hq,r2⟩:=Aal.1 rb;have l1:=r1.length;have l2:=r2.length;cases zs with
  |nil=>
   have eu:us=[]:=by simpa using l1
   subst eu;exact .inr ⟨p,q,ws,rfl,rfl,SqT.of (Aam _ _ hp),SqT.of (Aam _ _ hq),k.zero Ext.refl rb⟩
  |cons z zs=>
   refine .inl ⟨p,q,us,ws,rfl,rfl,SqT.of (Aam _ _ hp),SqT.of (Aam _ _ hq),λz=>by rw[z] at l1;simp at l1,by rw[l1,l2];exact hc,λz=>?_,λz r hr=>?_⟩
   .subst z;have:ys=[]:=by simpa using l2.symm
    refine k.zero Ext.refl ?_
    grind
   .exact k.tup hP hr (r1.append r2)
 .cases e
theorem Wm (ha:DE X a fa)(hb:DE X b fb):DE X (.BinOp a .Add b pos) (ai sR fa fb):=pM (A6u.or Xr) O0 ha hb
end L2
namespace L2
open PySem PySem.Spec PyProof.Rows
variable {t:cY}{sl:aab}{us items:Array aB}{Q E:aB->aF->Prop}{ds:aag}{l a a1 D I r z i1 i2:aC}{h h':aP}{d:aA}{es:tt}{ep j k n nl N m n0 mask bx:Nat}{s:aF}{e c tg:aT}{R:mY->aF->Prop}{w:aX}{kvs:li}{K:aI}{u:aB}{x:aD}{b b1 b2:Bool}{xs ys:aai}{ta:TA}{v:V}{fa:AF}{H H' H0 B0:Hp}{fe f g:EF}{p1 p2 qv cc pos ay ba px ap cp:bJ}{wr fp o1 o2:aan}{G:Array qG->Array qG->Prop}{ad:lm}{kds:dL}{ps:aaq}{T:String}{p:Array Nat}{vs:aak}{ks kss qs:bv}{is ns:aaj}{P0:aC->Prop}{ow:Array (Option Nat)}{prog:bE}{A:bM}{o:aZ}{Y:aQ}{st:eI}{S1 S2:Nat->aP->Prop}
section
variable {P:bE}
theorem K1 {t sl:aC}{vl vu:aB}{lo hi:aar}(ht:IsTup s.heap t us)(hs:s.heap.IsSliceOf sl vl vu .none)(pl:qE vl lo)(pu:qE vu hi)
  (hw:HT.sIx us.size 0 lo=0/\HT.sIx us.size us.size hi=us.size) (h:Q (.ref t) s):aJ (aO P w) A (pY (.ref t) (.ref sl)) Q E s:=by
 obtain⟨os,e1,e2,e3⟩:=id hs;unfold pY
 try with_reducible refine eG ?_
 first|refine aE (aH ?_)|skip
 refine aE (wpAny_sequenceKey ht.typeIs nofun (aE (mB ht.typeIs NS (fK NS ht.typeIs entry_tuple_getitem ?_ (args_tuple_getitem _ _)))))
 show aJ _ _ (Jx (.ref t)>>=_) _ _ s;refine aE (tupleItemsOf_ ht (aE (jV ⟨os,e1,e2⟩ (aE (HT.Afo hs pl pu ?_)))));have yes:(((HT.sIx us.size 0 lo:Nat):Int)==0&&(1:Int)==1&&(HT.sIx us.size us.size hi-HT.sIx us.size 0 lo)==us.size)=af:=by
  rw[hw.1,hw.2];simp
 show aJ _ _ (if (((HT.sIx us.size 0 lo:Nat):Int)==0&&(1:Int)==1&&(HT.sIx us.size us.size hi-HT.sIx us.size 0 lo)==us.size)=af then _ else _) _ _ s
 rw[if_pos yes];exact aE (aE (jV ht.typeIs (aH (aE (mW (aH ⟨_,rfl,aH h⟩))))))
end
section
variable {X:Cx}
def Kh (K:aI):V->aar->aar->Hp->VK->Prop:=λx lo hi H Q=>∃ a xs,x=.ref a/\SqT K H a xs/\(HT.sIx xs.length 0 lo=0/\HT.sIx xs.length xs.length hi=xs.length)/\Q (.ref a) H
theorem A9h:SlR X (Kh X.K):=by
 intro ad s Z H x v vl vu lo hi sl Q I rx hs pl pu h;obtain⟨a,xs,rfl,hx,hw,q⟩:=h;cases rx;obtain⟨its,r,ht,hz⟩:=I.tuple hx;have aw:its.toArray.size=xs.length:=by rw[dA];exact r.length.symm
 exact⟨"tuple",_,NS.lookup,ht.typeIs,K1 ht hs pl pu (by rw[aw];exact hw) ⟨.ref a,H,I,rfl,q⟩⟩
def qK (f:EF)(lo hi:OF):EF:=λY=>(f Y).bind λd=>(lo Y).bind λl=>(hi Y).bind λh=>match d with
 |.tuple ds=>aa (.tuple (cutD ds l h))
 |_=>ab
theorem k9{l h:aar}(hw:HT.sIx ds.length 0 l=0/\HT.sIx ds.length ds.length h=ds.length):cutD ds l h=ds:=by
 unfold cutD;rw[hw.1,hw.2];simp
theorem Qq {lo hi:Option aT}{fl fh:OF}{pp:bJ}(he:DE X e f)(hl:DO X lo fl)(hh:DO X hi fh):DE X (.Subscript e (.Slice lo hi ab pp) pos) (qK f fl fh):=PE.imp (WG (A9h.or Sn) he hl hh) λZ H Q gh=>by
 rw[1];obtain⟨d1,e1,cg⟩:=ar ef;obtain⟨l,e2,ck⟩:=ar cg;obtain⟨h,e3,fy⟩:=ar ck;cases d1 with
 |tuple ds=>
  cases fy;refine⟨P,Y,_,hP,rs,e1,dY λv H1 x1 r1=>⟨P,Y,l,hP.ext x1,rs.ext (cS x1),e2,λH2 x2=>⟨P,Y,h,hP.ext (x1.trans x2),rs.ext (cS (x1.trans x2)),e3,λH3 x3=>?_⟩⟩⟩
  have r3:=r1.ext (cS (x2.trans x3));obtain⟨q,ys,rfl,hq,rr⟩:=Aal.1 r3;by_cases hw:HT.sIx ds.length 0 l=0/\HT.sIx ds.length ds.length h=ds.length
  .rw[k9 hw] at k;exact .inl ⟨q,ys,rfl,SqT.of (Aam _ _ hq),by rw[rr.length];exact hw,(k.mono ((x1.trans x2).trans x3)).zero Ext.refl r3⟩
  .refine .inr ⟨q,ys,rfl,SqT.of (Aam _ _ hq),by rw[rr.length];exact hw,λp hp=>(k.mono ((x1.trans x2).trans x3)).tup (hP.ext ((x1.trans x2).trans x3)) hp ?_⟩
   unfold qM cutD;rw[rr.length];exact(rr.drop _).take _
 |_=>cases fy
end
def As3 (h:aP)(d:aC)(es:Array qH)(ep:Nat):Prop:=∃ o,h.get? d=aa o/\o.ExactDict/\o.data=.dict es ep
theorem As3.keep{d:aC}{es:Array qH}(x:As3 h d es ep)(k:∀ o,h.get? d=aa o->h'.get? d=aa o):As3 h' d es ep:=
 let ⟨o,e,r⟩:=x;⟨o,k o e,r⟩
theorem As3.ty{d:aC}{es:Array qH}(x:As3 s.heap d es ep):s.TypeIs (.ref d) "dict":=let ⟨o,e,c,_⟩:=x;⟨o,e,c.1⟩
section
variable {d it:aC}{es:Array qH}{i:Nat}
theorem Zu(nm:(d==fW)=ah)(R:As3 s.heap d es ep)
  (q:Q (.ref s.heap.objs.size) { s with heap:=s.heap.push { cls:=.type "dict_keyiterator",data:=.fields #[.ref d,.int 0 0,.int es.size 0,.int ep 0] } }):aJ (aO prog w) A (oP (.ref d)) Q E s:=by
 have ty:=R.ty;obtain⟨o,eo,_,ed⟩:=R;refine FB ty F.slot_dict_iter (fK F.slot_dict_iter ty F.entry_dict_iter
  ?_ (F.args_dict_iter_1 _))
 refine aE (aE (Ia ty (aH ?_)));show aJ _ _ (Builtin.Dict.showsAll d>>=_) _ _ s;unfold Builtin.Dict.showsAll;rw[if_neg (show ¬ (d==fW)=af by rw[nm];exact QH)]
 refine aE (aH (aE (Ib eo ed (aE (wpAny_dictEpoch eo ed (aE (iD (aH ⟨_,rfl,"dict_keyiterator",_,
  ⟨_,cH _ rfl,rfl⟩,GC.lookup,?_⟩))))))))
 simpa [cT] using q
theorem c8 {e:qH}{Q:aap->aF->Prop}(K:s.heap.IsKeyIter it d i es.size ep)(R:As3 s.heap d es ep)(x:es[i]?=aa e)
  (q:∀ h',h'.IsKeyIter it d (i+1) es.size ep->kY it s.heap h'->Q (aa e.key) { s with heap:=h' }):aJ (aO prog w) A (jW (.ref it)) Q E s:=by
 obtain⟨oi,ei,ci,di⟩:=id K;obtain⟨o,eo,_,ed⟩:=R;refine aE (pW (mB K.typeIs
  GC (fK GC K.typeIs
   aAn ?_ (aAo _))))
 refine aE (aH (aE (aE ?_)))
 first
  |refine aE (NC K.typeIs (aH ?_))
  |refine aE (NB K.typeIs (aH ?_))
 refine aE (zY ei di ?_);show aJ _ _ (if (eU d==eP)=af then _ else _) _ _ s
 refine aE (aH (aE (Ib eo ed ?_)));rw[if_neg (by simp)]
 refine aE (aH (aE (wpAny_dictEpoch eo ed ?_)));rw[if_neg (by simp)]
 refine aH ?_;simp only[show ¬ ((i:Int)<0) from by lia,if_false,mJ,x]
 refine aE ?_
 first
  |refine aE (NC K.typeIs (aH ?_))
  |refine aE (NB K.typeIs (aH ?_))
 refine aE (wpAny_isOneOf_keyiter K.typeIs ?_);show aJ _ _ (setField (.ref it) 1 (cT ((i:Int)+1))>>=_) _ _ s;refine aE (NH ei di (by simp) ?_)
 have K':(s.heap.update it (Obj.mapFields (·.setIfInBounds 1 (cT ((i:Int)+1))))).IsKeyIter it d (i+1) es.size ep:=
  ⟨_,nU _ ei (Obj.isFreed_of_fields (OJ di _)),(Obj.cls_mapFields ..).trans ci,by
   rw[OJ di];simp[cT]⟩
 exact aE (eG (aE (wpAny_isOneOf_keyiter
  K'.typeIs (aH (aH ⟨_,rfl,aH (q _ K' (xC ..))⟩)))))
theorem Vj {Q:aap->aF->Prop}(hh:A.handled=ab)(K:s.heap.IsKeyIter it d i es.size ep)(R:As3 s.heap d es ep)(x:es.size<=i)
  (q:∀ h',PQ it s.heap h'->Q ab { s with heap:=h' }):aJ (aO prog w) A (jW (.ref it)) Q E s:=by
 obtain⟨oi,ei,ci,di⟩:=id K;obtain⟨o,eo,_,ed⟩:=R;refine aE (pW (mB K.typeIs
  GC (fK GC K.typeIs
   aAn ?_ (aAo _))))
 refine aE (aH (aE (aE ?_)))
 first
  |refine aE (NC K.typeIs (aH ?_))
  |refine aE (NB K.typeIs (aH ?_))
 refine aE (zY ei di ?_);show aJ _ _ (if (eU d==eP)=af then _ else _) _ _ s
 refine aE (aH (aE (Ib eo ed ?_)));rw[if_neg (by simp)]
 refine aE (aH (aE (wpAny_dictEpoch eo ed ?_)));rw[if_neg (by simp)]
 refine aH ?_;simp only[show ¬ ((i:Int)<0) from by lia,if_false,mJ,QJ x]
 refine aE ?_
 first
  |refine aE (NC K.typeIs (aH ?_))
  |refine aE (NB K.typeIs (aH ?_))
 show aJ _ _ (setField (.ref it) 0 .none>>=_) _ _ s;refine aE (NH ei di (by simp) (aE ?_))
 simp only[newExc,newTuple];refine aE (iD ?_ (by size_fits))
 refine aE (zW
  (by first|rfl|(simp only[NW];rfl)) (iD ?_ (by size_fits)))
 simp only[raiseNew];refine aE (NM ?_);rw[show A.in1.handled=ab from hh]
 refine aE (aH (NF ?_));refine aE (rQ
  ⟨_,cH _ rfl,rfl⟩ FG ?_)
 exact aH (q _ (((xC ..).extBut.push _).push _))
theorem Z8 (hh:A.handled=ab)(I d:aC)(ne:d≠I)(es:Array qH)(ep:Nat) :
  Walks prog w A I [I,d] [I] es.size (λi v=>∃ e,es[i]?=aa e/\v=e.key) (λi h=>h.IsKeyIter I d i es.size ep/\As3 h d es ep) where
 sub:=λb hb=>by simp at hb;simp[hb]
 frame:=λ_ _ _ st hk=>⟨st.1.at λo e=>hk I (by simp) o e,st.2.keep λo e=>hk d (by simp) o e⟩
 item:=λi s Q E hi st hQ=>by
  have hx:=jP hi;exact c8 st.1 st.2 hx λh' K' hs=>hQ _ h' s.toks ⟨_,hx,rfl⟩ ⟨K',st.2.keep λo e=>hs.extBut d o ne e⟩ λb o hb e=>hs.extBut b o (λh=>hb (by simp[h])) e
 done:=λs Q E st hQ=>Vj hh st.1 st.2 (bA _) λh' he=>hQ h' s.toks λb o hb e=>he b o (λh=>hb (by simp[h])) e
 self:=λ_ _ _ _ st hQ=>wpAny_pyIter_keyiter st.1 hQ
theorem K7:rR (.type "dict") "__len__" = pure (aa (.builtin "dict.__len__")):=by rw[tV,tY];kernel_rfl
theorem Bh(hh:A.handled=ab)(nm:(d==fW)=ah)(D:As3 s.heap d es ep)(S:aC)(res:aB)(c₀:Nat)(hSd:S≠d)
  (hS:s.heap.get? S=aa { cls:=.type "list",data:=.seq #[] c₀ }) (hn:es.size<=sizeLine)
  (q:∀ h' tk ak c',(∀ b o,b≠S->s.heap.get? b=aa o->h'.get? b=aa o)->h'.get? S=aa { cls:=.type "list",dict:=ab,data:=.seq ak c',slots:=#[] } ->
   uI (λi v=>∃ e,es[i]?=aa e/\v=e.key) ak es.size->R (.ok (.ret res)) { s with heap:=h',toks:=tk }) :
  aJ (aO prog w) A.in1 (QG (.ref S) (.ref d) res)
   (λfin s'=>match fin with|.done f=>R (.ok f) s'|.again c'=>c'.quiet=af/\jJ (aO prog w) A c' R s') (λe s'=>R (.error e) s') s:=by
 refine aE (jV D.ty ?_);have h1:xE (.ref S) (.ref d)=ah:=by
  simp[xE,hSd]
 have h2:(iG "dict" == iG "list")=ah:=by decide
 have h3:(iG "dict" == iG "tuple")=ah:=by decide
 simp only[h1,h2,h3,Kc,rY,if_false];refine aE (Zu nm D (aE (eG ?_)));have hS0:S<s.heap.objs.size:=bN hS;have mt:∀ b o,s.heap.get? b=aa o->(s.heap.push { cls:=.type "dict_keyiterator",data:=.fields #[.ref d,.int 0 0,.int es.size 0,.int ep 0] }).get? b=aa o:=λb o e=>bC _ e
 have D':As3 (s.heap.push { cls:=.type "dict_keyiterator",data:=.fields #[.ref d,.int 0 0,.int es.size 0,.int ep 0] }) d es ep:=D.keep λo e=>mt d o e
 have itG:(s.heap.push { cls:=.type "dict_keyiterator",data:=.fields #[.ref d,.int 0 0,.int es.size 0,.int ep 0] }).IsKeyIter s.heap.objs.size d 0 es.size ep:=⟨_,cH _ rfl,rfl,rfl⟩;unfold Ka;refine aE (rP (T:="dict") (v:=.ref d) (by obtain⟨o,e,c,_⟩:=D';exact⟨o,e,c.1⟩) K7 ?_)
 wp_delta
 refine aE (rQ (T:="dict") (v:=.ref d) (b:=af) (by obtain⟨o,e,c,_⟩:=D';exact⟨o,e,c.1⟩) (by rw[isSubtype_type];kernel_rfl) ?_)
 show aJ _ _ (typeOf (eU d)>>=_) _ _ _;refine aE (jV (T:="dict") (v:=.ref d) (by obtain⟨o,e,c,_⟩:=D';exact⟨o,e,c.1⟩) (aH ?_))
 rw[if_pos nofun]
 refine aE (mW (aE ?_));have S1:=mt _ _ hS;generalize(s.heap.push { cls:=.type "dict_keyiterator",data:=.fields #[.ref d,.int 0 0,.int es.size 0,.int ep 0] })=G at mt D' S1 itG ⊢;show aJ _ _ (wG S (·.push .none)>>=λ_=>wG S (·.pop)) _ _ _
 refine aE (rO S1 rfl ?_);have S2:=nU (eK (·.push eP)) S1 rfl;refine rO (hz:=by seq_fits) S2 rfl ?_
 have gk:∀ b o,b≠S->G.get? b=aa o->((G.update S (eK (·.push eP))).update S (eK (·.pop))).get? b=aa o:=λb o hb e=>
  (oY _ _ (fZ hb)).trans ((oY _ _ (fZ hb)).trans e)
 refine aH ⟨jX PX _,codeAny_extend_loopS (Z8 (A:=A.in1) hh s.heap.objs.size d (cP (by obtain⟨o,e,_⟩:=D;exact bN e)) es ep).toS hn _ (λhm=>by
  rcases cI.1 hm with z|z
  .exact absurd hS0 (by rw[z];exact nQ _)
  .exact hSd (cG.1 z)) _ es.size 0 _ _ _ rfl (cZ _)
  ⟨itG.at λo e=>gk _ o (jL hS0) e,D'.keep λo e=>gk _ o (fZ hSd) e⟩ (nU (eK (·.pop)) S2 rfl) (ItemsOf.nil _) λs' ak c' hm jx cw=>?_⟩
 rw[Moved.eq_with hm];refine q s'.heap s'.toks ak c' (λb ob hb e=>hm.heap b ob (λhmem=>?_) (gk b ob hb (mt _ _ e))) jx cw
 rcases cI.1 hmem with z|hmem
 .exact hb z
 .exact absurd (bN e) (by rw[cG.1 hmem];exact nQ _)
theorem e8(hh:A.handled=ab)(nm:(d==fW)=ah)(D:As3 s.heap d es ep)(hn:es.size<=sizeLine)
  (q:∀ h' tk ak c',(∀ b o,s.heap.get? b=aa o->h'.get? b=aa o)->h'.get? s.heap.objs.size=aa { cls:=.type "list",dict:=ab,data:=.seq ak c',slots:=#[] } ->
   uI (λi v=>∃ e,es[i]?=aa e/\v=e.key) ak es.size->Q (.ref s.heap.objs.size) { s with heap:=h',toks:=tk }):aJ (aO prog w) A (call (.type "list") [.ref d]) Q E s:=by
 refine NZ (Q₁:=λobj s₁=>obj=.ref s.heap.objs.size/\s₁={ s with heap:=s.heap.push { cls:=.type "list",data:=.seq #[] } })
  F.called_list (F.typeCall_list_1 _) F.entry_list_init (code_list_new _ ⟨rfl,rfl⟩) λobj s₁ h₁=>?_
 obtain⟨rfl,rfl⟩:=h₁;have hd0:d<s.heap.objs.size:=by obtain⟨o,e,_⟩:=D;exact bN e
 have N1:(s.heap.push { cls:=.type "list",data:=.seq #[] }).get? s.heap.objs.size=aa { cls:=.type "list",data:=.seq #[] }:=cH _ rfl;refine⟨⟨_,N1,rfl⟩,F.args_list_init_2 _ _,aE (aE (iC N1 rfl (aH (aE (rO N1 rfl ?_)))))⟩;have gk:∀ b o,b≠s.heap.objs.size->(s.heap.push { cls:=.type "list",data:=.seq #[] }).get? b=aa o ->
   ((s.heap.push { cls:=.type "list",data:=.seq #[] }).update s.heap.objs.size (eK (λ_=>(#[]:Array aB)))).get? b=aa o:=λb o hb e=>(oY _ _ (fZ hb)).trans e
 refine aE (FD (Bh (A:=A.in1) hh nm (D.keep λo e=>gk d o (cP hd0) (bC _ e)) s.heap.objs.size .none _ (jL hd0) (nU (eK (λ_=>(#[]:Array aB))) N1 rfl) hn λh' tk ak c' hk jx cw=>?_))
 exact⟨rfl,q h' tk ak c' (λb o e=>hk b o (cP (bN e)) (gk b o (cP (bN e)) (bC _ e))) jx cw⟩
theorem D1 {Q:aak->aF->Prop}(hh:A.handled=ab)(nm:(d==fW)=ah)(D:As3 s.heap d es ep)(hn:es.size<=sizeLine)
  (q:∀ s' ak,(∀ b o,s.heap.get? b=aa o->s'.heap.get? b=aa o)->s'.gens=s.gens->s'.drawn=s.drawn->s'.os=s.os->uI (λi v=>∃ e,es[i]?=aa e/\v=e.key) ak es.size->Q ak.toList s') :
  aJ (aO prog w) A (collect (.ref d)) Q E s:=by
 refine aE (NI (iE F.entry_proto_collect (aE (iD (aH ⟨jX F.plain_list_iadd _,iE F.entry_list_iadd ?_⟩)))));have fin:∀ (r:mY) (s':aF),(r=.ok (.ret (.ref s.heap.objs.size))/\∃ h' tk ak c',s'={ s with heap:=h',toks:=tk }/\(∀ b o,b≠s.heap.objs.size->(s.heap.push { cls:=.type "list",data:=.seq ([]:aak).toArray }).get? b=aa o->h'.get? b=aa o) /\
   h'.get? s.heap.objs.size=aa { cls:=.type "list",dict:=ab,data:=.seq ak c',slots:=#[] }/\uI (λi v=>∃ e,es[i]?=aa e/\v=e.key) ak es.size) ->
   (match r with
    | .ok (.ret v)=>aJ (aO prog w) A (match v with
      |.ref a=>do
       let o <-load a
       match o.data with
        |.seq xs _=>pure xs.toList
        |_=>NO "internal:collect"
      | _=>NO "internal:collect") Q E s'
    |.ok _=>False
    | .error e=>E e s'):=by
  rintro r s' ⟨rfl,h',tk,ak,c',rfl,hk,jx,cw⟩;exact aE (wpAny_load jx (aH (q { s with heap:=h',toks:=tk } ak (λb o e=>hk b o (cP (bN e)) (bC _ e)) rfl rfl rfl cw)))
 refine mA (Bh
  (R:=λr s'=>r=.ok (.ret (.ref s.heap.objs.size))/\∃ h' tk ak c',s'={ s with heap:=h',toks:=tk }/\(∀ b o,b≠s.heap.objs.size->(s.heap.push { cls:=.type "list",data:=.seq ([]:aak).toArray }).get? b=aa o->h'.get? b=aa o) /\
   h'.get? s.heap.objs.size=aa { cls:=.type "list",dict:=ab,data:=.seq ak c',slots:=#[] }/\uI (λi v=>∃ e,es[i]?=aa e/\v=e.key) ak es.size)
  hh nm (D.keep λo e=>bC _ e) s.heap.objs.size _ 0 (jL (by obtain⟨o,e,_⟩:=D;exact bN e)) (cH _ rfl) hn λh' tk ak c' hk jx cw=>⟨rfl,h',tk,ak,c',rfl,hk,jx,cw⟩) (λf s' hf=>?_) λe s' hf=>absurd hf.1 (by intro z;cases z)
 cases f with
 |done f=>exact fin _ s' hf
 |again c=>exact⟨hf.1,AB hf.2 λr s2 h2=>fin r s2 h2⟩
theorem K5 (nm:(d==fW)=ah)(hn:es.size<=sizeLine):Meets (Builtin.«tuple.__new__» ⟨[.type "tuple",.ref d],[]⟩)
   (λA R s=>A.handled=ab/\As3 s.heap d es ep/\∀ (s':aF) (ak:Array aB),(∀ b o,s.heap.get? b=aa o->s'.heap.get? b=aa o)->s'.gens=s.gens->s'.drawn=s.drawn->s'.os=s.os->uI (λi v=>∃ e,es[i]?=aa e/\v=e.key) ak es.size ->
    R (.ok (.ret (.ref s'.heap.objs.size))) { s' with heap:=s'.heap.push { cls:=.type "tuple",data:=.seq ak } }):=
 .of_wp λprog w A R s h=>by
  obtain⟨hh,D,h⟩:=h;have qt:=sub_tuple_self;have hinit:=init_tuple_lookup;have hmh:=madeHere_tuple;have uh:A.in1.handled=ab:=hh
  wp_walk using jV D.ty,D1 uh nm D hn
  intro s' ak hk hg hd uf cw;show aJ _ _ (AX ak.toList.toArray>>=λv=>ret v) _ _ _
  unfold AX;refine aE (iD ?_ (show ak.toList.toArray.size<=sizeLine by
   simp only[Array.toArray_toList];rw[cw.1];exact hn))
  refine aH ⟨_,rfl,?_⟩;have e:ak.toList.toArray=ak:=by simp
  rw[e];exact h s' ak hk hg hd uf cw
theorem V3(hh:A.handled=ab)(nm:(d==fW)=ah)(D:As3 s.heap d es ep)(hn:es.size<=sizeLine)
  (q:∀ (h':aP) (tk:Nat) (ak:Array aB),(∀ b o,s.heap.get? b=aa o->h'.get? b=aa o)->uI (λi v=>∃ e,es[i]?=aa e/\v=e.key) ak es.size ->
   Q (.ref h'.objs.size) { s with heap:=h'.push { cls:=.type "tuple",data:=.seq ak },toks:=tk }):aJ (aO prog w) A (call (.type "tuple") [.ref d]) Q E s:=by
 refine callType_new F.called_tuple nofun (F.typeCall_tuple_1 _) (F.newCall_tuple_1 _)
  (λobj=>F.args_object_init_2 obj _) F.entry_tuple_new (K5 nm hn) ⟨hh,D,λs' ak hk hg hd uf cw=>⟨⟨_,cH _ rfl,rfl⟩,?_⟩⟩
 obtain⟨h',g',d',ku,xz⟩:=s';subst hg hd uf;exact q h' ku ak hk cw
end
section
variable {X:Cx}{Z:St}
theorem LF {P:bE}:∀ {es:List qH} {kvs:li} {vs:tz},KV kvs vs->PySem.Pairs (dP P w) es vs->Vals (kvs.map λkv=>kV kv.1) (es.map (·.key))
 |[],kvs,vs,r,p=>by
  cases p;cases r;exact .nil
 |e::es,kvs,vs,r,p=>by
  cases p with
  |cons h hv t=>
   cases r with
   |cons h' t'=>
    refine .cons ?_ (LF t' t);show RelV (kV _) e.key;rw[h'.1];rcases oH h with⟨i,tk,e1,e2⟩|⟨x,tk,e1,e2⟩
    .rw[e1,e2];exact⟨tk,rfl⟩
    .rw[e1,e2];exact⟨tk,rfl⟩
theorem YR {es:Array qH}{ak:Array aB}(h:uI (λi v=>∃ e,es[i]?=aa e/\v=e.key) ak es.size):ak.toList=es.toList.map (·.key):=by
 obtain⟨h1,h2⟩:=h;apply Jm
 grind
theorem Ot {ep0:Nat}(I:Inv X ad Z H s)(ha:H a=aa (.dK ep0 kvs)):kvs.length<=sizeLine/\(a==fW)=ah/\∃ es ep,As3 s.heap a es ep/\Vals (kvs.map λkv=>kV kv.1) (es.toList.map (·.key))/\es.size=kvs.length:=by
 obtain⟨z,nm,vs,r,o,es,ep,e1,e2,e3,_,e5,_⟩:=zT I.hok ha;refine⟨z,nm,es,ep,⟨o,e1,e2,e3⟩,LF r e5,?_⟩;have l1:=(LF r e5).length;simp at l1;exact l1.symm
theorem t5:Ack X (.type "list") (λxs H Q=>∃ a ep kvs,xs=[.ref a]/\H a=aa (.dK ep kvs)/\∀ l,H l=ab->Q (.ref l) (ax H l (.lst (kvs.map λkv=>kV kv.1)))):=by
 rw[3];obtain⟨a,ep1,kvs,rfl,ha,q⟩:=h;rw[4];obtain⟨z,nm,es,ep,D,rv,el⟩:=Ot I ha;refine e8 I.ok.hd nm D () λh' tk ak c' hk hS cw=>?_
 rw[<-(YR cw)] at rv;exact⟨.ref s.heap.objs.size,_,I.laid hk (bA _) (show Aby X.prog X.w _ h' _ (.lst _) from⟨by rw[bT];exact z,ak.toList,c',rv,by simpa using hS⟩),rfl,q _ I.fresh⟩
theorem N0 {H:Hp}:∀ {kvs:jp} {ys:List (List aA×aC×aB)},bY (λp q=>p.1=q.1/\Ajz H p.1 q.2.1/\RelV p.2 q.2.2) kvs ys->bY (λ(p:List aA×V) (b:aC)=>Ajz H p.1 b) kvs (ys.map λy=>y.2.1):=by
 intro kvs ys h;induction h with
 |nil=>exact .nil
 |cons h _ ih=>exact .cons h.2.1 ih
theorem ZF {P:bE}:∀ (ys:List (List aA×aC×aB)),Vals ((ys.map λy=>y.2.1).map V.ref) ((ys.map (entryOfKey (jA P w))).map (·.key))
 |[]=>.nil
 |_::t=>.cons rfl (ZF t)
theorem F6:Ack X (.type "tuple") (λxs H Q=>∃ a ep kvs,xs=[.ref a]/\H a=aa (.dT ep kvs)/\∀ l as,H l=ab->bY (λ(p:List aA×V) (b:aC)=>Ajz H p.1 b) kvs as->Q (.ref l) (ax H l (.tup (as.map V.ref)))):=by
 rw[3];obtain⟨a,ep,kvs,rfl,ha,q⟩:=h;rw[4];obtain⟨z,nm,ys,kt,o,es,e1,e2,e3,e4,_⟩:=(show Aby X.prog X.w H s.heap a (.dT ep kvs) from I.hok a _ ha)
 have el:es.size=kvs.length:=by
  have:=congrArg OY e4;rw[bT,<-iU kt] at this;simpa using this
 have rv:Vals ((ys.map λy=>y.2.1).map V.ref) (es.toList.map (·.key)):=by
  rw[e4];exact ZF ys
 refine V3 I.ok.hd nm ⟨o,e1,e2,e3⟩ () λh' tk ak hk cw=>?_
 rw[<-(YR cw)] at rv;have I1:Inv X ad Z H { s with heap:=h',toks:=tk }:=I.kept hk;exact⟨.ref h'.objs.size,_,I1.laid (λb o e=>bC _ e) (bA _) (show Aby X.prog X.w _ _ _ (.tup _) from⟨by rw[bT,bT,<-iU kt];exact z,ak.toList,rv,A8a.new _ _⟩),rfl,q _ _ I1.fresh (N0 kt)⟩
theorem Af:∀ {kds:dL} {kvs:li},gR K H kds kvs->(∀ kd∈kds,bX kd.1=af)->Aan K H (kds.map (·.1)) (kvs.map λkv=>kV kv.1)
 |[],kvs,r,_=>by rw[Abm.1 r];exact Aah.2 rfl
 |(k,d)::kds,kvs,r,h=>by
  obtain⟨k',x,rr,rfl,rfl,h1,h2⟩:=Aba.1 r;refine Aac.2 ⟨_,_,rfl,?_,Af h2 λkd m=>h kd (bI _ m)⟩
  have hl:=h (kD k',d) bD;cases k' with
  |inl i=>exact Aaj.2 rfl
  |inr z=>exact Aa2.2 ⟨rfl,hl⟩
def BW:aag->aah
 |[.dict kds]=>if (ic kds&&kds.all λkd=>bX kd.1)=af then aa (.list (kds.map (·.1))) else ab
 |_=>ab
theorem F0:CallD K 1 (λxs H Q=>∃ a ep kvs,xs=[.ref a]/\H a=aa (.dK ep kvs)/\∀ l,H l=ab->Q (.ref l) (ax H l (.lst (kvs.map λkv=>kV kv.1)))) BW:=λP H xs ds d Q hP r e k=>by
 unfold BW at e;split at e
 .obtain⟨hl,rfl⟩:=cJ e;rw[7];obtain⟨pk,hl⟩:=jO.1 hl;obtain⟨q,ys,rfl,hq,rr⟩:=(vQ pk).1 r';exact⟨q,ys.1,ys.2,rfl,Aam _ _ hq,λl lu=>k.lst hP lu (Af rr (eB.1 hl))⟩
 .cases e
end
open PySem
structure Sub (P:bE)(w:aX)(it:aC)(own:List aC)(St:Nat->aP->Prop)(xs:Array aB):Prop where
 mem:it∈own
 obj:∀ k h,St k h->∀ c∈own,∃ o,h.get? c=aa o
 keep:∀ k h h',St k h->(∀ c∈own,∀ o,h.get? c=aa o->h'.get? c=aa o)->St k h'
 item:∀ (A:bM) (E:aB->aF->Prop) (s:aF) (Q:aB->aF->Prop) (k:Nat) (x:aB),St k s.heap->xs[k]?=aa x ->
  (∀ h',St (k+1) h'->kY it s.heap h'->Q x { s with heap:=h' })->aJ (aO P w) A (QE (.ref it)) Q E s
 done:∀ (A:bM) (E:aB->aF->Prop) (s:aF) (Q:aB->aF->Prop) (k:Nat),A.handled=ab->St k s.heap->xs[k]?=ab ->
  (∀ h' e,PQ it s.heap h'->(∃ o,h'.get? e=aa o/\o.cls=.type "StopIteration")->E (.ref e) { s with heap:=h' })->aJ (aO P w) A (QE (.ref it)) Q E s
section
variable {P:bE}
theorem O7 {j t:aC}(hj:s.heap.IsTupleIter j t k)(ht:s.heap.IsTuple t us)(hu:us[k]?=aa u)
  (q:∀ h',h'.IsTupleIter j t (k+1)->kY j s.heap h'->Q u { s with heap:=h' }):aJ (aO P w) A (QE (.ref j)) Q E s:=by
 obtain⟨oj,g1,g2,g3⟩:=id hj;obtain⟨ot,t1,_,nt,t2⟩:=ht;refine aE (mB hj.typeIs PU (fK PU hj.typeIs F.entry_tuple_iterator_next ?_ (F.args_tuple_iterator_next_1 _)));show aJ _ _ (field (.ref j) 0>>=_) _ _ s;refine aE (gZ g1 g3 (x:=.ref t) rfl ?_);refine aE (gZ g1 g3 rfl (aE (iC t1 t2 ?_)));simp only[mJ,hu];refine aE (NH g1 g3 (by simp) (aH ⟨u,rfl,aH (q _ ⟨_,nU _ g1 (Obj.isFreed_of_fields (OJ g3 _)),(Obj.cls_mapFields ..).trans g2,?_⟩ (xC ..))⟩))
 rw[OJ g3];simp[cT]
theorem Zf {j t:aC}(hh:A.handled=ab)(hj:s.heap.IsTupleIter j t k)(ht:s.heap.IsTuple t us)(hu:us[k]?=ab)
  (q:∀ h' e,PQ j s.heap h'->(∃ o,h'.get? e=aa o/\o.cls=.type "StopIteration")->E (.ref e) { s with heap:=h' }):aJ (aO P w) A (QE (.ref j)) Q E s:=by
 obtain⟨oj,g1,g2,g3⟩:=id hj;obtain⟨ot,t1,_,nt,t2⟩:=ht;refine aE (mB hj.typeIs PU (fK PU hj.typeIs F.entry_tuple_iterator_next ?_ (F.args_tuple_iterator_next_1 _)));show aJ _ _ (field (.ref j) 0>>=_) _ _ s;refine aE (gZ g1 g3 (x:=.ref t) rfl ?_);refine aE (gZ g1 g3 rfl (aE (iC t1 t2 ?_)));simp only[mJ,hu];refine aE (mW (aE (NH g1 g3 (by simp) (aE (aE (iD ?_ (by size_fits)))))))
 refine aE (zW (by first|rfl|(simp only[NW];rfl)) (iD ?_ (by size_fits)))
 refine aE (NM ?_)
 first|rw[show A.in1.handled=ab from hh]|rw[hh]
 refine aE (aH (NF (q _ _ (((xC ..).extBut.push _).push _) ⟨_,cH _ rfl,rfl⟩)))
theorem Xi (j t:aC)(us:Array aB)(ne:t≠j):Sub P w j [j,t] (λk h=>h.IsTupleIter j t k/\h.IsTuple t us) us where
 mem:=bD
 obj:=λk h ⟨⟨o,e,_⟩,⟨o',e',_⟩⟩ c hc=>by
  grind
 keep:=λk h h' ⟨⟨o,e,r⟩,⟨o',e',r'⟩⟩ kp=>⟨⟨o,kp j bD o e,r⟩,⟨o',kp t (by simp) o' e',r'⟩⟩
 item:=λA E s Q k x ⟨a,b⟩ hx q=>O7 a b hx λh' a' sb=>q h' ⟨a',b.extBut sb.extBut ne⟩ sb
 done:=λA E s Q k hh ⟨a,b⟩ hx q=>Zf hh a b hx q
theorem h9 (j t:aC)(us:Array aB)(ne:t≠j):Sub P w j [j,t] (λk h=>h.IsListIter j t k/\h.IsList t us) us where
 mem:=bD
 obj:=λk h ⟨⟨o,e,_⟩,⟨o',e',_⟩⟩ c hc=>by
  grind
 keep:=λk h h' ⟨⟨o,e,r⟩,⟨o',e',r'⟩⟩ kp=>⟨⟨o,kp j bD o e,r⟩,⟨o',kp t (by simp) o' e',r'⟩⟩
 item:=λA E s Q k x ⟨a,b⟩ hx q=>wpAny_nextOf_list_item a b hx λh' a' sb=>q h' ⟨a',b.extBut sb.extBut ne⟩ sb
 done:=λA E s Q k hh ⟨a,b⟩ hx q=>wpAny_nextOf_list_end hh a b hx q
structure ZApart (z TI TO i1 i2:aC)(o1 o2:List aC):Prop where
 TIz:TI≠z
 TOz:TO≠z
 TITO:TI≠TO
 TI1:TI≠i1
 TI2:TI≠i2
 i12:i1≠i2
 z1:z∉o1
 z2:z∉o2
 TO1:TO∉o1
 TO2:TO∉o2
 x12:i1∉o2
 x21:i2∉o1
variable {TI TO:aC}{xs ys:Array aB}
def pj (z TI TO i1 i2:aC)(S1 S2:Nat->aP->Prop)(f0:aB)(k:Nat)(h:aP):Prop:=
 IsZip h z TI TO f0/\qF h TI (.ref i1) (.ref i2)/\(∃ a b,qF h TO a b)/\S1 k h/\S2 k h
theorem Sub.but {it c:aC}{own:aan}{St:Nat->aP->Prop}(U:Sub P w it own St us)(st:St k h)(hc:c∉own)(e:PQ c h h'):St k h':=
 U.keep k h h' st λb hb o g=>e b o (λq=>hc (q ▸ hb)) g
theorem P9 {x y:aB}(D:ZApart z TI TO i1 i2 o1 o2)(U:Sub P w i1 o1 S1 xs)(V:Sub P w i2 o2 S2 ys)(st:pj z TI TO i1 i2 S1 S2 .none k s.heap)(hx:xs[k]?=aa x)(hy:ys[k]?=aa y)
  (q:∀ h',pj z TI TO i1 i2 S1 S2 (cT s.heap.objs.size) (k+1) h'->qF h' s.heap.objs.size x y->h'.objs.size=s.heap.objs.size+1 ->
   (∀ c o,c≠z->c≠TO->c≠i1->c≠i2->s.heap.get? c=aa o->h'.get? c=aa o)->Q (.ref s.heap.objs.size) { s with heap:=h' }) :
  aJ (aO P w) A (Builtin.«zip.__next__» ⟨[.ref z],[]⟩) (λfin s'=>∃ v,fin=.done (.ret v)/\Q v s') E s:=by
 obtain⟨gz,gI,⟨a,b,gO⟩,jv,jt⟩:=st;have z1:i1≠z:=λe=>D.z1 (e ▸ U.mem)
 have z2:i2≠z:=λe=>D.z2 (e ▸ V.mem)
 have t1:TO≠i1:=λe=>D.TO1 (e ▸ U.mem)
 have t2:TO≠i2:=λe=>D.TO2 (e ▸ V.mem)
 show aJ _ _ (field (.ref z) 2>>=_) _ E s;refine aE (gZ gz rfl rfl (aE (gZ gz rfl rfl (aE (iC gI rfl (aE (aE (gZ gz rfl rfl (aH (aE (mW (aE (gZ gz rfl rfl (aE (mV gz (by simp) λha wt sa=>aE (aE (aE (NK (aE (U.item _ _ _ _ k x (U.but jv D.z1 sa.extBut) hx λhb qw sb=>aH ?_))))))))))))))))))))
 have zm:=sb.extBut _ _ t1 (sa.extBut _ _ D.TOz gO);refine aE (iC zm rfl (aE (Hx zm λhc gOc sc=>aE (FD (aH (aE (aE (NK (aE (V.item _ _ _ _ k y (V.but (V.but (V.but jt D.z2 sa.extBut) D.x12 sb.extBut) D.TO2 sc.extBut) hy λhd wu sd=>aH ?_))))))))))
 have gOd:=sd.extBut _ _ t2 gOc;refine aE (iC gOd rfl (aE (Hx gOd λhe gOe se=>?_)))
 replace gOe:qF he TO x y:=gOe;refine aE (FD (aH (aH (aE (iC gOe rfl (aE (NL ?_)))))));have size:he.objs.size=s.heap.objs.size:=by rw[se.1,sd.1,sc.1,sb.1,sa.1]
 have gze:=se.extBut _ _ D.TOz.symm (sd.extBut _ _ z2.symm (sc.extBut _ _ D.TOz.symm (sb.extBut _ _ z1.symm wt)));have df:∀ c o,c≠z->c≠TO->c≠i1->c≠i2->s.heap.get? c=aa o->he.get? c=aa o:=λc o n1 n2 n3 n4 g=>se.extBut _ _ n2 (sd.extBut _ _ n4 (sc.extBut _ _ n2 (sb.extBut _ _ n3 (sa.extBut _ _ n1 g))))
 have zlt:=bN gze;refine aE (aE (mV (bC _ gze) (by simp) λhg gzg sg=>?_))
 refine mV gzg (by simp) λhi gzi si=>?_
 have up:∀ c o,c≠z->he.get? c=aa o->hi.get? c=aa o:=λc o n1 g=>si.extBut _ _ n1 (sg.extBut _ _ n1 (bC _ g))
 have gT:=si.extBut _ _ (jL zlt) (sg.extBut _ _ (jL zlt) (cH _ rfl));have sz:hi.objs.size=he.objs.size+1:=by rw[si.1,sg.1,mK]
 rw[size] at gzi gT sz;refine aH ⟨_,rfl,?_⟩;rw[size];exact q hi ⟨gzi,up _ _ D.TIz (df _ _ D.TIz D.TITO D.TI1 D.TI2 gI),⟨x,y,up _ _ D.TOz gOe⟩,U.keep _ _ _ (U.but (U.but (U.but qw D.TO1 sc.extBut) D.x21 sd.extBut) D.TO1 se.extBut) λc hc o g=>up c o (λe=>D.z1 (e ▸ hc)) g,V.keep _ _ _ (V.but wu D.TO2 se.extBut) λc hc o g=>up c o (λe=>D.z2 (e ▸ hc)) g⟩ gT sz λc o n1 n2 n3 n4 g=>up c o n1 (df c o n1 n2 n3 n4 g)
theorem b8 {Q:Fin->aF->Prop}(hh:A.handled=ab)(D:ZApart z TI TO i1 i2 o1 o2)(U:Sub P w i1 o1 S1 xs)(V:Sub P w i2 o2 S2 ys)(st:pj z TI TO i1 i2 S1 S2 .none k s.heap)(gm:xs[k]?=ab\/ys[k]?=ab)
  (q:∀ h' e,(∀ c o,c≠z->c≠TO->c≠i1->c≠i2->s.heap.get? c=aa o->h'.get? c=aa o)->(∃ o,h'.get? e=aa o/\o.cls=.type "StopIteration")->E (.ref e) { s with heap:=h' }) :
  aJ (aO P w) A (Builtin.«zip.__next__» ⟨[.ref z],[]⟩) Q E s:=by
 obtain⟨gz,gI,⟨a,b,gO⟩,jv,jt⟩:=st;have z1:i1≠z:=λe=>D.z1 (e ▸ U.mem)
 have z2:i2≠z:=λe=>D.z2 (e ▸ V.mem)
 have t1:TO≠i1:=λe=>D.TO1 (e ▸ U.mem)
 show aJ _ _ (field (.ref z) 2>>=_) _ E s;refine aE (gZ gz rfl rfl (aE (gZ gz rfl rfl (aE (iC gI rfl (aE (aE (gZ gz rfl rfl (aH (aE (mW (aE (gZ gz rfl rfl (aE (mV gz (by simp) λha wt sa=>aE (aE (aE (NK ?_))))))))))))))))))
 have yq:∀ {h':aP} {e:aC},IsZip h' z TI TO .ellipsis->(∃ o,h'.get? e=aa o/\o.cls=.type "StopIteration")->e≠z:=λg ⟨o,g1,g2⟩ n=>by
  subst n;rw[g] at g1;cases g1;simp at g2
 cases hx:xs[k]? with
 |none=>
  refine aE (U.done _ _ _ _ k hh (U.but jv D.z1 sa.extBut) hx λhb e sb he=>?_)
  have gzb:=sb _ _ z1.symm wt;have ne:=yq gzb he;obtain⟨o,g1,g2⟩:=he;exact mV gzb (by simp) λhc _ sc=>q hc e (λc o n1 _ n3 _ g=>sc.extBut _ _ n1 (sb _ _ n3 (sa.extBut _ _ n1 g))) ⟨o,sc.extBut _ _ ne g1,g2⟩
 |some x=>
  refine aE (U.item _ _ _ _ k x (U.but jv D.z1 sa.extBut) hx λhb qw sb=>aH ?_)
  have zm:=sb.extBut _ _ t1 (sa.extBut _ _ D.TOz gO);refine aE (iC zm rfl (aE (Hx zm λhc gOc sc=>aE (FD (aH (aE (aE (NK (aE (V.done _ _ _ _ k hh (V.but (V.but (V.but jt D.z2 sa.extBut) D.x12 sb.extBut) D.TO2 sc.extBut) (gm.resolve_left λh=>by rw[hx] at h;cases h) λhd e sd he=>?_))))))))))
  have gzd:=sd _ _ z2.symm (sc.extBut _ _ D.TOz.symm (sb.extBut _ _ z1.symm wt));have ne:=yq gzd he;obtain⟨o,g1,g2⟩:=he;exact mV gzd (by simp) λhf _ sf=>q hf e (λc o n1 n2 n3 n4 g=>sf.extBut _ _ n1 (sd _ _ n4 (sc.extBut _ _ n2 (sb.extBut _ _ n3 (sa.extBut _ _ n1 g))))) ⟨o,sf.extBut _ _ ne g1,g2⟩
theorem WS {x y:aB}{Q:aap->aF->Prop}(D:ZApart z TI TO i1 i2 o1 o2)(U:Sub P w i1 o1 S1 xs)(V:Sub P w i2 o2 S2 ys)(st:pj z TI TO i1 i2 S1 S2 .none k s.heap)(hx:xs[k]?=aa x)(hy:ys[k]?=aa y)
  (q:∀ h',pj z TI TO i1 i2 S1 S2 (cT s.heap.objs.size) (k+1) h'->qF h' s.heap.objs.size x y->h'.objs.size=s.heap.objs.size+1 ->
   (∀ c o,c≠z->c≠TO->c≠i1->c≠i2->s.heap.get? c=aa o->h'.get? c=aa o)->Q (aa (.ref s.heap.objs.size)) { s with heap:=h' }):aJ (aO P w) A (jW (.ref z)) Q E s:=by
 have ty:s.TypeIs (.ref z) "zip":=⟨_,st.1,rfl⟩;exact aE (pW (mB ty uJ (fK uJ ty PY (P9 D U V st hx hy λh' a1 a2 a3 a4=>aH (q h' a1 a2 a3 a4)) (QA _))))
theorem XU {Q:aap->aF->Prop}(hh:A.handled=ab)(D:ZApart z TI TO i1 i2 o1 o2)(U:Sub P w i1 o1 S1 xs)(V:Sub P w i2 o2 S2 ys)(st:pj z TI TO i1 i2 S1 S2 .none k s.heap)(gm:xs[k]?=ab\/ys[k]?=ab)
  (q:∀ h',(∀ c o,c≠z->c≠TO->c≠i1->c≠i2->s.heap.get? c=aa o->h'.get? c=aa o)->Q ab { s with heap:=h' }):aJ (aO P w) A (jW (.ref z)) Q E s:=by
 have ty:s.TypeIs (.ref z) "zip":=⟨_,st.1,rfl⟩;refine aE (pW (mB ty uJ (fK uJ ty PY (b8 hh D U V st gm λh' e kp ⟨o,g1,g2⟩=>?_) (QA _))))
 exact aE (rQ ⟨o,g1,g2⟩ FG (aH (q _ kp)))
end
def SqB (b:Bool)(h:aP)(l:aC)(us:Array aB):Prop:=match b with
 |true=>h.IsList l us
 |false=>h.IsTuple l us
def ua (b:Bool)(l:aC):aZ:={ cls:=.type (match b with|true=>"list_iterator" | false=>"tuple_iterator"),data:=.fields #[.ref l,.int 0 0] }
def StB (b:Bool)(j l:aC)(us:Array aB)(k:Nat)(h:aP):Prop:=match b with
 |true=>h.IsListIter j l k/\h.IsList l us
 |false=>h.IsTupleIter j l k/\h.IsTuple l us
theorem nZ {P:bE}(b:Bool)(j l:aC)(us:Array aB)(ne:l≠j):Sub P w j [j,l] (StB b j l us) us:=by
 cases b with
 |true=>exact h9 j l us ne
 |false=>exact Xi j l us ne
theorem SqB.keep(q:SqB b h l us)(k:∀ o,h.get? l=aa o->h'.get? l=aa o):SqB b h' l us:=by
 cases b with
 |true=>
  obtain⟨o,e,r⟩:=q;exact⟨o,k o e,r⟩
 |false=>
  obtain⟨o,e,r⟩:=q;exact⟨o,k o e,r⟩
theorem StB.new{j:aC}(q:SqB b h l us)(e:h.get? j=aa (ua b l)):StB b j l us 0 h:=by
 cases b with
 |true=>exact⟨⟨_,e,rfl,rfl⟩,q⟩
 |false=>exact⟨⟨_,e,rfl,rfl⟩,q⟩
section
variable {P:bE}{l1 l2:aC}{xs ys:Array aB}
theorem xV(h:SqB b s.heap l us)(q:Q (.ref s.heap.objs.size) { s with heap:=s.heap.push (ua b l) }):aJ (aO P w) A (oP (.ref l)) Q E s:=by
 cases b with
 |true=>exact zV h q
 |false=>exact Hz h q
abbrev zA (b1:Bool)(h:aP)(l1:aC):aP:=h.push (ua b1 l1)
abbrev zB (b1 b2:Bool)(h:aP)(l1 l2:aC):aP:=(zA b1 h l1).push (ua b2 l2)
abbrev zC (b1 b2:Bool)(h:aP)(l1 l2:aC):aP:=(zB b1 b2 h l1 l2).push { cls:=.type "tuple",data:=.seq #[.ref h.objs.size,.ref (zA b1 h l1).objs.size] }
abbrev zD (b1 b2:Bool)(h:aP)(l1 l2:aC):aP:=(zC b1 b2 h l1 l2).push { cls:=.type "tuple",data:=.seq #[.none,.none] }
abbrev zE (b1 b2:Bool)(h:aP)(l1 l2:aC):aP:=(zD b1 b2 h l1 l2).push { cls:=.type "zip",data:=.fields #[.none,.bool ah,.bool ah,.ref (zB b1 b2 h l1 l2).objs.size,.ref (zC b1 b2 h l1 l2).objs.size] }
theorem j6 (b1 b2:Bool)(l1 l2:aC)(xs ys:Array aB) :
  Meets (Builtin.«zip.__new__» ⟨[.type "zip",.ref l1,.ref l2],[]⟩) (λ_ R s=>SqB b1 s.heap l1 xs/\SqB b2 s.heap l2 ys /\
   R (.ok (.ret (.ref (zD b1 b2 s.heap l1 l2).objs.size))) { s with heap:=zE b1 b2 s.heap l1 l2 }):=
 .of_wp λprog w A R s h=>by
  obtain⟨q1,q2,q⟩:=h;have sz:=sub_zip
  wp_walk using xV q1,xV (q2.keep λo e=>bC _ e)
  exact⟨_,rfl,q⟩
theorem Z0 {l1 l2:Nat}(h1:l1<n)(h2:l2<n):ZApart (n+4) (n+2) (n+3) n (n+1) [n,l1] [n+1,l2]:=by
 have xL:∀ {a b c:Nat},a≠b->a≠c->a∉[b,c]:=λh h' m=>by
  grind
 have ne:∀ {a b:Nat},a<b->a≠b:=cP;have en:∀ {a b:Nat},b<a->a≠b:=jL;exact⟨ne (),ne (),ne (),en (),en (),ne (),xL (en ()) (en ()),xL (en ()) (en ()),xL (en ()) (en ()),xL (en ()) (en ()),xL (ne ()) (en h2),xL (en ()) (en ())⟩
theorem IY(h1:SqB b1 s.heap l1 xs)(h2:SqB b2 s.heap l2 ys)
  (q:∀ (z TI TO i1 i2:aC) (h':aP),s.heap.objs.size<=z->s.heap.objs.size<=TI->s.heap.objs.size<=TO->s.heap.objs.size<=i1->s.heap.objs.size<=i2->ZApart z TI TO i1 i2 [i1,l1] [i2,l2]->pj z TI TO i1 i2 (StB b1 i1 l1 xs) (StB b2 i2 l2 ys) .none 0 h' ->
   (∀ c o,s.heap.get? c=aa o->h'.get? c=aa o)->Q (.ref z) { s with heap:=h' }):aJ (aO P w) A (call (.type "zip") [.ref l1,.ref l2]) Q E s:=by
 refine callType_new F.called_zip nofun (F.typeCall_zip_2 _ _) (F.newCall_zip_2 _ _) (λobj=>F.args_object_init_3 obj _ _) F.entry_zip_new (j6 b1 b2 l1 l2 xs ys) ⟨h1,h2,?_⟩
 have za:(zA b1 s.heap l1).objs.size=s.heap.objs.size+1:=mK ..;have zb:(zB b1 b2 s.heap l1 l2).objs.size=s.heap.objs.size+2:=by rw[mK,za]
 have zc:(zC b1 b2 s.heap l1 l2).objs.size=s.heap.objs.size+3:=by rw[mK,zb]
 have zd:(zD b1 b2 s.heap l1 l2).objs.size=s.heap.objs.size+4:=by rw[mK,zc]
 have g5:(zE b1 b2 s.heap l1 l2).get? (zD b1 b2 s.heap l1 l2).objs.size=aa _:=cH _ rfl;have all:∀ c o,s.heap.get? c=aa o->(zE b1 b2 s.heap l1 l2).get? c=aa o:=λc o x=>bC _ (bC _ (bC _ (bC _ (bC _ x))))
 have lt1:l1<s.heap.objs.size:=by
  cases b1 with
  |true=>obtain⟨o,e,_⟩:=h1;exact bN e
  |false=>obtain⟨o,e,_⟩:=h1;exact bN e
 have lt2:l2<s.heap.objs.size:=by
  cases b2 with
  |true=>obtain⟨o,e,_⟩:=h2;exact bN e
  |false=>obtain⟨o,e,_⟩:=h2;exact bN e
 refine⟨⟨_,g5,rfl⟩,q _ (zB b1 b2 s.heap l1 l2).objs.size (zC b1 b2 s.heap l1 l2).objs.size s.heap.objs.size (zA b1 s.heap l1).objs.size _ () () () () () ?_ ⟨g5,bC _ (bC _ (cH _ rfl)),⟨_,_,bC _ (cH _ rfl)⟩,StB.new (h1.keep (all l1)) (bC _ (bC _ (bC _ (bC _ (cH _ (by cases b1<;>rfl)))))),StB.new (h2.keep (all l2)) (bC _ (bC _ (bC _ (cH _ (by cases b2<;>rfl)))))⟩ all⟩
 have ap:=Z0 lt1 lt2;rw[<-za,<-zb,<-zc,<-zd] at ap;exact ap
end
def ItB (b:Bool)(j l:aC)(k:Nat)(h:aP):Prop:=match b with
 |true=>h.IsListIter j l k
 |false=>h.IsTupleIter j l k
theorem Adp{j:aC}:StB b j l us k h↔ItB b j l k h/\SqB b h l us:=by cases b<;>exact Iff.rfl
theorem ItB.get{j:aC}(q:ItB b j l k h):∃ o,h.get? j=aa o/\∀ v,o.data ≠ .cell v:=by
 cases b with
 |true=>
  obtain⟨o,e,_,d⟩:=q
  grind
 |false=>
  obtain⟨o,e,_,d⟩:=q
  grind
theorem ItB.keep{j:aC}(q:ItB b j l k h)(kp:∀ o,h.get? j=aa o->h'.get? j=aa o):ItB b j l k h':=by
 cases b with
 |true=>
  obtain⟨o,e,r⟩:=q;exact⟨o,kp o e,r⟩
 |false=>
  obtain⟨o,e,r⟩:=q;exact⟨o,kp o e,r⟩
def ip (b:Bool)(K:aI)(H:Hp)(a:aC)(xs:aai):Prop:=match b with
 |true=>SqL K H a xs
 |false=>SqT K H a xs
section
variable {X:Cx}{Z:St}
theorem Inv.sqB(I:Inv X ad Z H s)(h:ip b X.K H a xs):∃ its:aak,Vals xs its/\SqB b s.heap a its.toArray:=by
 cases b with
 |true=>
  obtain⟨its,rv,p,_⟩:=I.list h;exact⟨its,rv,p.isList⟩
 |false=>
  obtain⟨its,rv,p,_⟩:=I.tuple h;exact⟨its,rv,p⟩
theorem Inv.sqV_inj(I:Inv X ad Z H s)(h:ip b X.K H a xs)(h':ip b X.K H a ys):xs=ys:=by
 cases b with
 |true=>exact I.list_inj h h'
 |false=>exact I.tuple_inj h h'
end
def GI (K:aI)(b1 b2:Bool)(a1 a2:aC):It:=
  ⟨λi H=>∃ xs ys x y,ip b1 K H a1 xs/\ip b2 K H a2 ys/\xs[i]?=aa x/\ys[i]?=aa y,
   λi H v H'=>∃ T x y,H T=ab/\v=.ref T/\(∀ xs,ip b1 K H a1 xs->xs[i]?=aa x)/\(∀ ys,ip b2 K H a2 ys->ys[i]?=aa y)/\H'=ax H T (.tup [x,y]),
   λi H=>∃ xs ys,ip b1 K H a1 xs/\ip b2 K H a2 ys/\(xs.length<=i\/ys.length<=i)⟩
def tnZ (b1 b2:Bool)(a1 a2 z TI TO i1 i2:aC)(i:Nat)(h:aP):Prop:=IsZip h z TI TO .none/\qF h TI (.ref i1) (.ref i2)/\(∃ a b,qF h TO a b)/\ItB b1 i1 a1 i h/\ItB b2 i2 a2 i h
theorem Q4 {P:bE}{es:List aT}{cx}{pos:bJ}{b1 b2:Bool}{a1 a2 z TI TO i1 i2:aC}(D:ZApart z TI TO i1 i2 [i1,a1] [i2,a2])(n1:a1≠i1)(n2:a2≠i2) :
  Turn P w K (.Tuple es cx pos) (GI K b1 b2 a1 a2) [z,TI,TO,i1,i2] z (tnZ b1 b2 a1 a2 z TI TO i1 i2) where
 mem:=by simp
 obj:=λi h ⟨g1,g2,⟨a,b,g3⟩,g4,g5⟩ c hc=>by
  simp only[cI,mF,or_false] at hc;rcases hc with rfl|rfl|rfl|rfl|rfl
  .exact⟨_,g1,λv q=>by cases q⟩
  .exact⟨_,g2,λv q=>by cases q⟩
  .exact⟨_,g3,λv q=>by cases q⟩
  .exact g4.get
  .exact g5.get
 keep:=λi h h' ⟨g1,g2,⟨a,b,g3⟩,g4,g5⟩ k=>⟨k z (by simp) _ g1,k TI (by simp) _ g2,⟨a,b,k TO (by simp) _ g3⟩,g4.keep (k i1 (by simp)),g5.keep (k i2 (by simp))⟩
 item:=by
  intro X hP hw hK i ad s Z H E I hf st hg;subst hP hw hK;obtain⟨xs,ys,x,y,q1,q2,hx,hy⟩:=hg;obtain⟨us,r1,s1⟩:=I.sqB q1;obtain⟨vs,r2,s2⟩:=I.sqB q2;obtain⟨u,hu,ru⟩:=r1.get hx;obtain⟨v,hv,rv⟩:=r2.get hy;obtain⟨g1,g2,⟨pa,pb,g3⟩,g4,g5⟩:=st;have jy:∀ b∈[z,TI,TO,i1,i2],b<s.heap.objs.size:=λb m=>by
   simp only[cI,mF,or_false] at m;rcases m with rfl|rfl|rfl|rfl|rfl
   .exact bN g1
   .exact bN g2
   .exact bN g3
   .obtain⟨o,e,_⟩:=g4.get;exact bN e
   .obtain⟨o,e,_⟩:=g5.get;exact bN e
  refine WS D (nZ b1 i1 a1 us.toArray n1) (nZ b2 i2 a2 vs.toArray n2) (⟨g1,g2,⟨pa,pb,g3⟩,Adp.2 ⟨g4,s1⟩,Adp.2 ⟨g5,s2⟩⟩) (by simpa using hu) (by simpa using hv) λh' zt pr sz df=>?_
  have I0:Inv X ad Z (ax H s.heap.objs.size (.tup [x,y])) { s with heap:=s.heap.push { cls:=.type "tuple",data:=.seq #[u,v] } }:=
   I.laid (λb ob q=>bC _ q) (bA _) ⟨by show 2<=sizeLine;decide,[u,v],.cons ru (.cons rv .nil),A8a.new _ _⟩
  have wv:∀ b∈[z,TI,TO,i1,i2],iI X ad (ax H s.heap.objs.size (.tup [x,y])) b:=λb m=>⟨by rw[cN (cP (jy b m))];exact(hf b m).1,(hf b m).2⟩
  obtain⟨w1,w2,⟨wa,wb,w3⟩,w4,w5⟩:=zt;exact⟨_,rfl,wpAny_letOwnedTupleGo_zip w1 λh2 gz sb=>⟨.ref s.heap.objs.size,_,(I0.turnM wv λb o n e=>by
   simp only[cI,mF,or_false,not_or] at n;by_cases hb:b=s.heap.objs.size
   .have e':(s.heap.push { cls:=.type "tuple",data:=.seq #[u,v] }).get? s.heap.objs.size=aa { cls:=.type "tuple",data:=.seq #[u,v] }:=cH _ rfl
    grind
   .exact df b o n.1 n.2.2.1 n.2.2.2.1 n.2.2.2.2 ((GA _ _ _ hb).symm.trans e)).turnM wv λb o n e=>sb.extBut b o (λq=>n (by simp[q])) e,rfl,⟨_,x,y,I.hok.fresh (bA _),rfl,λjd h=>by rw[I.sqV_inj h q1];exact hx,λoz h=>by rw[I.sqV_inj h q2];exact hy,rfl⟩,
   ⟨gz,sb.extBut _ _ D.TIz w2,⟨wa,wb,sb.extBut _ _ D.TOz w3⟩,(Adp.1 w4).1.keep λo e=>sb.extBut _ _ (λe=>D.z1 (e ▸ bD)) e,(Adp.1 w5).1.keep λo e=>sb.extBut _ _ (λe=>D.z2 (e ▸ bD)) e⟩,λb m=>(wv b m).1⟩⟩
 done:=by
  intro X hP hw hK i ad s Z H E I hf st hg;subst hP hw hK;obtain⟨xs,ys,q1,q2,hl⟩:=hg;obtain⟨us,r1,s1⟩:=I.sqB q1;obtain⟨vs,r2,s2⟩:=I.sqB q2;obtain⟨g1,g2,g3,g4,g5⟩:=st;have l1:=r1.length;have l2:=r2.length;refine XU I.ok.hd D (nZ b1 i1 a1 us.toArray n1) (nZ b2 i2 a2 vs.toArray n2) (⟨g1,g2,g3,Adp.2 ⟨g4,s1⟩,Adp.2 ⟨g5,s2⟩⟩) ?_ λh' df=>⟨rfl,I.turnM hf λb o n e=>?_⟩
  all_goals grind
 self:=λ_ _ _ _ _ st h=>NJ st.1 h
section
variable {X:Cx}{a b:aT}{p nv:bJ}{es:List aT}{cx:Nat}
def Kv (K:aI)(ta:TA):TI:=λZ H R=>ta Z H λvs H1=>∃ a1 a2 b1 b2 xs ys,vs=[.ref a1,.ref a2]/\ip b1 K H1 a1 xs/\ip b2 K H1 a2 ys/\R (GI K b1 b2 a1 a2) H1
theorem Oj(hg:Gl X "zip")(hm:X.mg "zip" = ab)(ha:PA X [a,b] ta)(hs:bH [a,b] X.env=[(ah,bF a X.env),(ah,bF b X.env)]:=by rfl)(dv:bH [b] X.env=[(ah,bF b X.env)]:=by rfl) :
  PI X (.Tuple es cx nv) (.Call (.Name "zip" p) [a,b] [] pos) (Kv X.K ta):=by
 intro ad s Z H R I h;refine Call_ (lH I hg hm boot_zip (oV (bj (ha pos ad s Z H _ I h) λus s1 ⟨vs,H1,I1,r1,q1⟩=>?_) (by rw[hs,dv]) (by rw[dv];rfl)))
 obtain⟨a1,a2,b1,b2,xs,ys,rfl,k1,k2,q⟩:=q1;cases r1 with
 |cons r rr=>
  cases rr with
  |cons r' rr=>
   cases rr;cases r;cases r';obtain⟨u1,_,w1⟩:=I1.sqB k1;obtain⟨u2,_,w2⟩:=I1.sqB k2;have m1:a1<s1.heap.objs.size:=by
    cases b1 with
    |true=>obtain⟨o,e,_⟩:=w1;exact bN e
    |false=>obtain⟨o,e,_⟩:=w1;exact bN e
   have m2:a2<s1.heap.objs.size:=by
    cases b2 with
    |true=>obtain⟨o,e,_⟩:=w2;exact bN e
    |false=>obtain⟨o,e,_⟩:=w2;exact bN e
   refine IY w1 w2 λz TI TO i1 i2 h' y0 y1 y2 y3 y4 D pc all=>NJ pc.1 (⟨z,[z,TI,TO,i1,i2],_,_,H1,rfl,I1.kept all,Q4 D (λe=>?_) (λe=>?_),⟨pc.1,pc.2.1,pc.2.2.1,(Adp.1 pc.2.2.2.1).1,(Adp.1 pc.2.2.2.2).1⟩,λb m=>?_,q⟩)
   .grind
   .grind
   .have le:s1.heap.objs.size<=b:=by
     grind
    exact I1.fpOk le (I1.hok.fresh le)
noncomputable def lM:aA->aad
 |.list ds=>aa ds
 |.tuple ds=>aa ds
 |_=>ab
def pairD (x y:aA):aA:=.tuple [x,y]
def iZ (fa:AF):AF:=λY=>(fa Y).bind λds=>match ds with
 |[x,y]=>(lM x).bind λxs=>(lM y).bind λys=>aa (AM pairD xs ys)
 |_=>ab
theorem tU{B:Hp}(e:lM d=aa ds)(r:Abg K B d v):∃ a b xs,v=.ref a/\(∀ H2,Ext B H2->ip b K H2 a xs)/\Aan K B ds xs:=by
 cases d with
 |list es=>
  cases e;obtain⟨a,xs,rfl,h,rr⟩:=Aav.1 r;exact⟨a,af,xs,rfl,λH2 x2=>x2.sqL h,rr⟩
 |tuple es=>
  cases e;obtain⟨a,xs,rfl,h,rr⟩:=Aal.1 r;exact⟨a,ah,xs,rfl,λH2 x2=>SqT.of (x2 _ _ h),rr⟩
 |_=>cases e
theorem Th{B:Hp}{a2:aC}{es:aag}(h1:∀ H2,Ext B H2->ip b1 K H2 a1 xs)(h2:∀ H2,Ext B H2->ip b2 K H2 a2 ys)(r1:Aan K B ds xs)(r2:Aan K B es ys) :
  rn K B (GI K b1 b2 a1 a2) (AM pairD ds es):=λi H2 x2=>by
 refine⟨λd hd=>?_,λe=>⟨xs,ys,h1 H2 x2,h2 H2 x2,?_⟩⟩
 .rw[List.getElem?_zipWith] at hd;cases c1:ds[i]? with
  |none=>rw[c1] at hd;simp at hd
  |some d1=>
   cases c2:es[i]? with
   |none=>rw[c1,c2] at hd;simp at hd
   |some d2=>
    rw[c1,c2] at hd;have hd:pairD d1 d2=d:=by simpa using hd
    subst hd;obtain⟨v1,g1,g2⟩:=r1.get c1;obtain⟨v2,g3,g4⟩:=r2.get c2;refine⟨⟨xs,ys,v1,v2,h1 H2 x2,h2 H2 x2,g1,g3⟩,?_⟩;rintro x H3 ⟨T,x',y',fr,rfl,k1,k2,rfl⟩;obtain rfl:v1=x':=fF (g1.symm.trans (k1 xs (h1 H2 x2)));obtain rfl:v2=y':=fF (g3.symm.trans (k2 ys (h2 H2 x2)));have ext:Ext H2 (ax H2 T (.tup [v1,v2])):=λb u e=>by rw[cN (lY e fr)];exact e
    refine⟨ext,λP2 hP2 xb=>?_⟩
    have xx:=xb.trans (cS ext);exact Aal.2 ⟨T,_,rfl,hZ (Hid.new hP2 fr) eF,Aac.2 ⟨_,_,rfl,g2.ext xx,Aac.2 ⟨_,_,rfl,g4.ext xx,Aah.2 rfl⟩⟩⟩
 .rw[List.length_zipWith] at e;rw[r1.length,r2.length]
  lia
theorem Sv(hg:Gl X "zip")(hm:X.mg "zip" = ab)(ha:DA X [a,b] fa)(hs:bH [a,b] X.env=[(ah,bF a X.env),(ah,bF b X.env)])(dv:bH [b] X.env=[(ah,bF b X.env)]) :
  DI X (.Tuple es cx nv) (.Call (.Name "zip" p) [a,b] [] pos) (iZ fa):=PI.imp (Oj hg hm ha hs dv) λZ H R gh=>by
 obtain⟨P,Y,ds,hP,rs,ef,k⟩:=gh;obtain⟨as,e1,cg⟩:=ar ef
 match as,e1,cg with
 |[x,y],e1,cg=>
  obtain⟨xs,e2,ck⟩:=ar (show((lM x).bind λxs=>(lM y).bind λys=>aa (AM pairD xs ys))=aa ds from cg)
  obtain⟨ys,e3,fy⟩:=ar ck;cases fy;refine⟨P,Y,_,hP,rs,e1,λvs H1 x1 r1=>?_⟩
  obtain⟨v,t,rfl,q1,q2⟩:=Aac.1 r1;obtain⟨v',rfl,q3⟩:=fC q2;obtain⟨a1,b1,us,rfl,k1,w1⟩:=tU e2 q1;obtain⟨a2,b2,zn,rfl,k2,w2⟩:=tU e3 q3;exact⟨a1,a2,b1,b2,us,zn,rfl,k1 _ Aam,k2 _ Aam,k _ H1 x1 (Th k1 k2 w1 w2)⟩
 |[],_,h=>cases h
 |[_],_,h=>cases h
 |_::_::_::_,_,h=>cases h
end
section
variable {P:bE}{e j:aC}{own:aan}{S:Nat->aP->Prop}{xs:Array aB}{x df:aB}
theorem Sub.draws {A:bM}(U:Sub P w j own S xs)(hh:A.handled=ab):Draws P w A j own xs.size (λi v=>xs[i]?=aa v) S where
 live:=λi h st=>U.obj i h st j U.mem
 frame:=U.keep
 item:=λi s Q E hi st q=>U.item A E s Q i xs[i] st (jP hi) λh'=>q _ h' s.toks (jP hi)
 done:=λs Q E st q=>U.done A E s Q _ hh st (QJ (bA _)) q
theorem Z5 (b:Bool)(l:aC)(us:Array aB) :
  Meets (Builtin.«enumerate.__new__» ⟨[.type "enumerate",.ref l],[]⟩) (λ_ R s=>SqB b s.heap l us /\
   R (.ok (.ret (.ref (s.heap.push (ua b l)).objs.size))) { s with heap:=(s.heap.push (ua b l)).push { cls:=.type "enumerate",data:=.fields #[.none,.bool ah,.ref s.heap.objs.size,cT 0,.none,.none] } }):=
 .of_wp λprog w A R s h=>by
  obtain⟨q1,q⟩:=h;have sz:=sub_enumerate;have u1:=q1
  wp_walk
  refine wpAny_stack_any λst=>aH ?_
  split
  .rename_i c _ _ _ _ _;cases(c==iG "enumerate")
   .wp_walk using xV u1
    exact⟨_,rfl,q⟩
   .wp_walk using xV u1
    exact⟨_,rfl,q⟩
  .wp_walk using xV u1
   exact⟨_,rfl,q⟩
theorem T8(h1:SqB b s.heap l us)
  (q:∀ (e j:aC) (h':aP),s.heap.objs.size<=e->s.heap.objs.size<=j->e∉[j,l]->l≠j->IsEnum h' e j ((0:Nat):Int) .none->StB b j l us 0 h'->(∀ c o,s.heap.get? c=aa o->h'.get? c=aa o)->Q (.ref e) { s with heap:=h' }) :
  aJ (aO P w) A (call (.type "enumerate") [.ref l]) Q E s:=by
 refine callType_new F.called_enumerate nofun (F.typeCall_enumerate_1 _) (F.newCall_enumerate_1 _) (λobj=>F.args_object_init_2 obj _) F.entry_enumerate_new (Z5 b l us) ⟨h1,?_⟩
 have z1:(s.heap.push (ua b l)).objs.size=s.heap.objs.size+1:=mK ..;have lt:l<s.heap.objs.size:=by
  cases b with
  |true=>obtain⟨o,e,_⟩:=h1;exact bN e
  |false=>obtain⟨o,e,_⟩:=h1;exact bN e
 have all:∀ c o,s.heap.get? c=aa o->((s.heap.push (ua b l)).push { cls:=.type "enumerate",data:=.fields #[.none,.bool ah,.ref s.heap.objs.size,cT 0,.none,.none] }).get? c=aa o:=λc o x=>bC _ (bC _ x)
 have g2:((s.heap.push (ua b l)).push { cls:=.type "enumerate",data:=.fields #[.none,.bool ah,.ref s.heap.objs.size,cT 0,.none,.none] }).get? (s.heap.push (ua b l)).objs.size=aa _:=cH _ rfl;refine⟨⟨_,g2,rfl⟩,q _ s.heap.objs.size _ () (bA _) (λm=>?_) (cP lt) g2 (StB.new (h1.keep (all l)) (bC _ (cH _ (by cases b<;>rfl)))) all⟩
 rw[z1] at m;rcases cI.1 m with m|m
 .exact Nat.succ_ne_self _ m
 .grind
end
def GL (K:aI)(b:Bool)(a:aC):It:=
  ⟨λi H=>∃ xs x,ip b K H a xs/\xs[i]?=aa x,
   λi H v H'=>∃ T x,H T=ab/\v=.ref T/\(∀ xs,ip b K H a xs->xs[i]?=aa x)/\H'=ax H T (.tup [.int i,x]),
   λi H=>∃ xs,ip b K H a xs/\xs.length=i⟩
def tnE (b:Bool)(a e j:aC)(i:Nat)(h:aP):Prop:=(∃ df,IsEnum h e j (i:Int) df)/\ItB b j a i h
theorem S7 {P:bE}{es:List aT}{cx}{pos:bJ}{b:Bool}{a e j:aC}(D:e∉[j,a])(n1:a≠j) :
  Turn P w K (.Tuple es cx pos) (GL K b a) [e,j] e (tnE b a e j) where
 mem:=by simp
 obj:=λi h ⟨⟨df,g1⟩,g2⟩ c hc=>by
  simp only[cI,mF,or_false] at hc;rcases hc with rfl|rfl
  .exact⟨_,g1,λv q=>by cases q⟩
  .exact g2.get
 keep:=λi h h' ⟨⟨df,g1⟩,g2⟩ k=>⟨⟨df,k e (by simp) _ g1⟩,g2.keep (k j (by simp))⟩
 item:=by
  intro X hP hw hK i ad s Z H E I hf st hg;subst hP hw hK;obtain⟨xs,x,q1,hx⟩:=hg;obtain⟨us,r1,s1⟩:=I.sqB q1;obtain⟨u,hu,ru⟩:=r1.get hx;obtain⟨⟨df,g1⟩,g2⟩:=st;have jy:∀ b∈[e,j],b<s.heap.objs.size:=λb m=>by
   simp only[cI,mF,or_false] at m;rcases m with rfl|rfl
   .exact bN g1
   .obtain⟨o,e,_⟩:=g2.get;exact bN e
  refine wpAny_pyNext_enum_itemD ((nZ b j a us.toArray n1).draws I.ok.hd) g1 (Adp.2 ⟨g2,s1⟩) (rZ.1 (by simpa using hu)).1 (λz=>D (z ▸ bD)) D λy h' tk hy eo sj pr sz keep=>?_
  have I0:Inv X ad Z (ax H s.heap.objs.size (.tup [.int i,x])) { s with heap:=s.heap.push { cls:=.type "tuple",data:=.seq #[.int i tk,u] },toks:=tk+1 }:=
   I.laid (t':=tk+1) (o:=.tup [.int i,x]) (λb ob q=>bC _ q) (bA _) ⟨by show 2<=sizeLine;decide,[.int i tk,u],.cons ⟨_,rfl⟩ (.cons ru .nil),A8a.new _ _⟩
  have wv:∀ b∈[e,j],iI X ad (ax H s.heap.objs.size (.tup [.int i,x])) b:=λb m=>⟨by rw[cN (cP (jy b m))];exact(hf b m).1,(hf b m).2⟩
  exact⟨_,rfl,wpAny_letOwnedTupleGo_enum eo λh2 ge sb=>⟨.ref s.heap.objs.size,_,(I0.turnM (t':=tk+1) wv λb o n g=>by
   simp only[cI,mF,or_false,not_or] at n;by_cases hb:b=s.heap.objs.size
   .subst hb;have e':(s.heap.push { cls:=.type "tuple",data:=.seq #[.int i tk,u] }).get? s.heap.objs.size=aa { cls:=.type "tuple",data:=.seq #[.int i tk,u] }:=cH _ rfl
    grind
   .exact keep b o n.1 n.2 ((GA _ _ _ hb).symm.trans g)).turnM (t':=tk+1) wv λb o n g=>sb.extBut b o (λq=>n (by simp[q])) g,rfl,⟨_,x,I.hok.fresh (bA _),rfl,λjd h=>by rw[I.sqV_inj h q1];exact hx,rfl⟩,⟨⟨_,ge⟩,(Adp.1 sj).1.keep λo g=>sb.extBut _ _ (λh=>D (h ▸ bD)) g⟩,λb m=>(wv b m).1⟩⟩
 done:=by
  intro X hP hw hK i ad s Z H E I hf st hg;subst hP hw hK;obtain⟨xs,q1,hl⟩:=hg;obtain⟨us,r1,s1⟩:=I.sqB q1;obtain⟨⟨df,g1⟩,g2⟩:=st;refine wpAny_pyNext_enum_endD ((nZ b j a us.toArray n1).draws I.ok.hd) g1 (Adp.2 ⟨(by rw[dA,<-r1.length,hl];exact g2),s1⟩) λh' kp=>⟨rfl,I.turnM (t':=s.toks) hf λb o n g=>?_⟩
  simp only[cI,mF,or_false,not_or] at n;exact kp b o n.2 g
 self:=λ_ _ _ _ _ st h=>by
  obtain⟨⟨df,g1⟩,_⟩:=st;exact wpAny_pyIter_enum g1 h
section
variable {X:Cx}{a:aT}{p nv:bJ}{es:List aT}{cx:Nat}
def Lq (K:aI)(ta:TA):TI:=λZ H R=>ta Z H λvs H1=>∃ a1 b1 xs,vs=[.ref a1]/\ip b1 K H1 a1 xs/\R (GL K b1 a1) H1
theorem Uy(hg:Gl X "enumerate")(hm:X.mg "enumerate" = ab)(ha:PA X [a] ta)(hs:bH [a] X.env=[(ah,bF a X.env)]:=by rfl) :
  PI X (.Tuple es cx nv) (.Call (.Name "enumerate" p) [a] [] pos) (Lq X.K ta):=by
 intro ad s Z H R I h;refine Call_ (lH I hg hm boot_enumerate (oV (bj (ha pos ad s Z H _ I h) λus s1 ⟨vs,H1,I1,r1,q1⟩=>?_) hs (by rfl)))
 obtain⟨a1,b1,xs,rfl,k1,q⟩:=q1;obtain⟨u,rfl,ru⟩:=vals1 r1;cases ru;obtain⟨u1,_,w1⟩:=I1.sqB k1;refine T8 w1 λe j h' y0 y1 D n1 ge sj all=>wpAny_pyIter_enum ge (⟨e,[e,j],_,_,H1,rfl,I1.kept all,S7 D n1,⟨⟨_,ge⟩,(Adp.1 sj).1⟩,λb m=>?_,q⟩)
 have le:s1.heap.objs.size<=b:=by
  grind
 exact I1.fpOk le (I1.hok.fresh le)
def pV (i:Nat)(x:aA):aA:=.tuple [.int i,x]
def ki (fa:AF):AF:=λY=>(fa Y).bind λds=>match ds with
 |[x]=>(lM x).bind λxs=>aa (xs.mapIdx pV)
 |_=>ab
theorem d9{B:Hp}(h1:∀ H2,Ext B H2->ip b1 K H2 a1 xs)(r1:Aan K B ds xs):rn K B (GL K b1 a1) (ds.mapIdx pV):=λi H2 x2=>by
 refine⟨λd hd=>?_,λe=>⟨xs,h1 H2 x2,?_⟩⟩
 .rw[List.getElem?_mapIdx] at hd;cases c1:ds[i]? with
  |none=>rw[c1] at hd;simp at hd
  |some d1=>
   rw[c1] at hd;have hd:pV i d1=d:=by simpa using hd
   subst hd;obtain⟨v1,g1,g2⟩:=r1.get c1;refine⟨⟨xs,v1,h1 H2 x2,g1⟩,?_⟩;rintro x H3 ⟨T,x',fr,rfl,k1,rfl⟩;obtain rfl:v1=x':=fF (g1.symm.trans (k1 xs (h1 H2 x2)));have ext:Ext H2 (ax H2 T (.tup [.int i,v1])):=λb u e=>by rw[cN (lY e fr)];exact e
   exact⟨ext,λP2 hP2 xb=>Aal.2 ⟨T,_,rfl,hZ (Hid.new hP2 fr) eF,Aac.2 ⟨_,_,rfl,Aaj.2 rfl,Aac.2 ⟨_,_,rfl,g2.ext (xb.trans (cS ext)),Aah.2 rfl⟩⟩⟩⟩
 .rw[List.length_mapIdx] at e;rw[r1.length];exact e
theorem Xb(hg:Gl X "enumerate")(hm:X.mg "enumerate" = ab)(ha:DA X [a] fa)(hs:bH [a] X.env=[(ah,bF a X.env)]) :
  DI X (.Tuple es cx nv) (.Call (.Name "enumerate" p) [a] [] pos) (ki fa):=PI.imp (Uy hg hm ha hs) λZ H R gh=>by
 obtain⟨P,Y,ds,hP,rs,ef,k⟩:=gh;obtain⟨as,e1,cg⟩:=ar ef
 match as,e1,cg with
 |[x],e1,cg=>
  obtain⟨xs,e2,ck⟩:=ar (show((lM x).bind λxs=>aa (xs.mapIdx pV))=aa ds from cg)
  cases ck;refine⟨P,Y,_,hP,rs,e1,λvs H1 x1 r1=>?_⟩
  obtain⟨v,rfl,q1⟩:=fC r1;obtain⟨a1,b1,us,rfl,k1,w1⟩:=tU e2 q1;exact⟨a1,b1,us,rfl,k1 _ Aam,k _ H1 x1 (d9 k1 w1)⟩
 |[],_,h=>cases h
 |_::_::_,_,h=>cases h
end
section
variable {X:Cx}
theorem Z6:Ack X (.type "range") (λxs H Q=>∃ j:Int,xs=[.int j]/\∀ a,H a=ab->Q (.ref a) (ax H a (.rng 0 j))):=by
 rw[3];obtain⟨j,rfl,q⟩:=h;obtain⟨u,rfl,t,rfl⟩:=vals1 r;exact call_range_1 (⟨.ref s.heap.objs.size,_,I.laid (o:=.rng 0 j) (λb ob g=>bC _ g) (bA _) ⟨_,_,_,cH _ rfl⟩,rfl,q _ I.fresh⟩)
noncomputable def upTo (n:Nat):aag:=(bZ n).map λ(k:Nat)=>aU k
noncomputable def ud (n:Nat):aai:=(bZ n).map λ(k:Nat)=>V.int k
theorem t8:Ack X (.type "list") (λxs H Q=>∃ a,∃ j:Int,xs=[.ref a]/\H a=aa (.rng 0 j) /\ -4096<=j/\j<=4096/\∀ l,H l=ab->Q (.ref l) (ax H l (.lst (ud j.toNat)))):=by
 rw[3];obtain⟨a,j,rfl,ha,h1,h2,q⟩:=h;rw[4];obtain⟨t,u,v,g⟩:=(show Aby X.prog X.w H s.heap a (.rng 0 j) from I.hok a _ ha)
 have hn:GF 0 j 1=(j.toNat:Int):=by rw[rangeSize_one];split<;>lia
 refine call_list_range I.ok.hd g (small_one () () () ()) hn () λh' tk dm c' hk hS cw=>?_
 have hv:Vals (ud j.toNat) dm.toList:=by
  refine Cs (by simp[ud,cw.1]) λi x u h1 h2=>?_
  obtain⟨t',rfl⟩:=cw.2 i u (by simpa using h2)
  have hi:i<j.toNat:=by
   have:=(cE.1 h1).1;simpa [ud] using this
  have:(ud j.toNat)[i]?=aa (V.int i):=by simp[ud,hi]
  rw[this] at h1;cases h1;exact⟨t',by simp⟩
 exact⟨.ref s.heap.objs.size,_,I.laid hk (bA _) (show Aby X.prog X.w _ h' _ (.lst (ud j.toNat)) from⟨by simp[ud,kT];lia,dm.toList,c',hv,by simpa using hS⟩),rfl,q _ I.fresh⟩
theorem W6(n:Nat):Aan K H (upTo n) (ud n):=by
 unfold upTo ud;generalize bZ n=l;induction l with
 |nil=>exact Aah.2 rfl
 |cons a l ih=>exact Aac.2 ⟨_,_,rfl,Aaj.2 rfl,ih⟩
def MD:aag->aah
 |[.int j]=>if -4096<=j/\j<=4096 then aa (.list (upTo j.toNat)) else ab
 |_=>ab
theorem Yw(g1:Gl X "list")(m1:X.mg "list" = ab)(g2:Gl X "range")(m2:X.mg "range" = ab)(he:DE X e fe)
  (io:bH [jF (.Name "range" p2) [e] [] cc] X.env=[(ah,bF (jF (.Name "range" p2) [e] [] cc) X.env)]) (dv:bH [e] X.env=[(ah,bF e X.env)]) :
  DF 1 X (.Call (.Name "list" p1) [.Call (.Name "range" p2) [e] [] cc] [] qv) (aK MD (aM fe dD)):=by
 refine PE.imp (vW t8 g1 m1 rfl (gJ (vW Z6 g2 m2 rfl (gJ he iN dv) nofun nofun dv rfl) iN io) nofun nofun io rfl) λZ H Q gh=>?_
 rw[1];obtain⟨zo,e0,ef⟩:=ar ef;obtain⟨d1,e1,e0⟩:=ar e0;have e0:[d1]=zo:=by simpa [dD] using e0
 subst e0;cases d1 with
 |int j=>
  obtain⟨hl,rfl⟩:=cJ (show(if -4096<=j/\j<=4096 then aa (jZ (upTo j.toNat)) else ab)=aa d from ef)
  refine⟨P,Y,.int j,hP,rs,e1,dY λv H1 x1 r1=>?_⟩
  obtain rfl:=Aaj.1 r1;refine⟨j,rfl,λa hn=>⟨a,j,rfl,eF,hl.1,hl.2,λl hl2=>?_⟩⟩
  have x2:Ext H (ax H1 a (.rng 0 j)):=x1.trans (Ext.new hn);exact(k.mono x2).lst (hP.ext x2) hl2 (W6 _)
 |_=>cases ef
end
theorem wA:entryFor table "dict.update.loop" = aa Builtin.«dict.update.loop»:=entryFor_of_tree (by kernel_rfl)
theorem rM:plainId "dict.update.loop" = af:=by rw[0]
theorem F7:rR (.type "list") "keys" = pure ab:=by rw[tV,tY];kernel_rfl
theorem Us{xs:Array aB}{Q:aap->aF->Prop}(hx:s.heap.get? a=aa { cls:=.type "list",dict:=ab,data:=.seq xs k,slots:=sl })(hA:A.handled=ab)
  (h:∀ h' tk,(∀ b o,s.heap.get? b=aa o->h'.get? b=aa o)->Q ab { s with heap:=h',toks:=tk }):aJ (aO prog w) A (getAttr? (.ref a) "keys") Q E s:=by
 obtain⟨hp,g,d,tk,os⟩:=s;have hT:∀ ku,(⟨hp,g,d,ku,os⟩:aF).TypeIs (.ref a) "list":=λ_=>⟨_,hx,rfl⟩
 have f1:=sub_AttributeError;have f3:=Ju.lookup;have f4:=Ju.bind (.ref a);have f5:=am_list_getattr_none
 repeat (any_goals (first|assumption|exact hT _|((with_reducible show aJ _ _ (call (Value.builtin "list.__getattribute__") _ _) _ _ _);refine AC Ju (hT _) am_entry_list_getattribute (F.args_list_getattribute_2 _ _) (meets_getattribute_miss_list a xs k sl _ _ F7 (by rw[0])) ⟨hx,hA,λh' ku e zp=>?_⟩)|wp_step))
 obtain⟨t',u',he⟩:=zp.there;unfold getattributeRaised
 repeat (any_goals (first|assumption|wp_step))
 exact h _ _ zp.keeps
def Anp (h:aP)(D:aC)(wr:aan)(items:Array aB)(kvs:tz):Prop:=
 ∀ (j:Nat) v,items[j]?=aa v->∃ b kv p,v=.ref b/\kvs[j]?=aa p/\h.IsTuple b #[kv,p.2]/\(dP prog w).is p.1 kv=af/\b≠D/\b∉wr
theorem Anp.keep{kvs:tz}(q:Anp (prog:=prog) (w:=w) h D wr items kvs)(k:∀ b o,b≠D->b∉wr->h.get? b=aa o->h'.get? b=aa o):Anp (prog:=prog) (w:=w) h' D wr items kvs:=λj v e=>by
 obtain⟨b,kv,p,rfl,e1,⟨o,e2,e3⟩,e4,e5,e6⟩:=q j v e;exact⟨b,kv,p,rfl,e1,⟨o,k b o e5 e6 e2,e3⟩,e4,e5,e6⟩
theorem KZ:∀ (more kvs:tz),(iR kvs more).length<=kvs.length+more.length
 |[],kvs=>bA _
 |p::r,kvs=>by
  have h1:=KZ r (stored kvs p.1 p.2);have h2:(stored kvs p.1 p.2).length<=kvs.length+1:=by
   unfold stored;split<;>simp
  show(iR (stored kvs p.1 p.2) r).length<=_;rw[eX]
  lia
theorem W9{St:Nat->aF->Prop}
  (W:WalksS prog w A.in1 I fp wr G n (λi v=>items[i]?=aa v) St) (D:aC) (zq:D∉fp) (kvs:tz) (hn:n<=sizeLine) (og:kvs.length=n) :
  ∀ (k i:Nat) (s:aF),n-i=k->i<=n->St i s->s.heap.DictOf (dP prog w) D (iR [] (kvs.take i))->Anp (prog:=prog) (w:=w) s.heap D wr items kvs ->
   (∀ s',Moved (D::wr) G s s'->s'.heap.DictOf (dP prog w) D (iR [] kvs)->R (.ok (.ret .none)) s') ->
   jJ (aO prog w) A (.builtin "dict.update.loop" ⟨[.ref D,.ref I,cT (i:Int),.none],[]⟩) R s:=by
 have zr:D∉wr:=λz=>zq (W.sub _ z)
 have more:∀ b∈wr,b∈D::wr:=λb z=>bI _ z
 intro k;induction k with
 |zero=>
  intro i s hk hi du hS hT hR;obtain rfl:i=n:=()
  refine iE wA (aE (W.done s _ _ du λs' hm=>aE (aH (aH (hR s' (hm.mono more) ?_)))))
  obtain⟨o,es,ep,ho,r⟩:=hS;rw[<-og,rT] at r;exact⟨o,es,ep,hm.heap D o zr ho,r⟩
 |succ k ih=>
  intro i s hk hi du hS hT hR;have bu:i<n:=()
  refine iE wA (aE (W.item i s _ _ bu du λv s' ww kw hm=>?_))
  have pd:=hT.keep λb o _ h2 e=>hm.heap b o h2 e
  obtain⟨b,kv,p,rfl,e1,tb,e4,e5,e6⟩:=pd i v ww;have jx:s'.heap.DictOf (dP prog w) D (iR [] (kvs.take i)):=by
   obtain⟨o,es,ep,ho,r⟩:=hS;exact⟨o,es,ep,hm.heap D o zr ho,r⟩
  have gn:iR [] (kvs.take (i+1))=stored (iR [] (kvs.take i)) p.1 p.2:=by
   rw[qB,e1];simp[iR,qC]
  have aw:(iR [] (kvs.take i)).length<=sizeLine:=by
   have:=KZ (kvs.take i) []
   grind
  refine aE (eG (aE (wpAny_tryCatch ?_)));unfold Builtin.Dict.pairItems;refine aE (jV tb.typeIs ?_);obtain⟨ob,g1,g2,nb,g3⟩:=tb;refine aE (iC g1 g3 (aH (eG (wpAny_dictSet_pairs e4 jx (λh' d' sb=>?_) aw))))
  refine aH ⟨jX rM _,ih (i+1) _ () bu (W.frame _ s' _ _ kw (rS _) λc hc o e=>?_) (by rw[gn];exact d') (pd.keep λb o h1 _ e=>(sb.2 b h1).trans e) λwx kx S4=>?_⟩
  .exact(sb.2 c (λz=>zq (z ▸ hc))).trans e
  .exact hR wx (OO W.gtrans ((hm.mono more).then_heap (rS _) λc o hc e=>(sb.2 c (λz=>hc (z ▸ bD))).trans e) kx) S4
theorem Ar{N:aP->Prop}(hh:A.handled=ab)(hl:s.heap.get? l=aa { cls:=.type "list",dict:=ab,data:=.seq items nl,slots:=sl })
  (hp:∀ (A':bM) (R:mY->aF->Prop) (I:aC) (s1:aF),A'.units<=A.units+50->WalksS prog w A'.in1 I [I,l] [I] (λa b=>b=a) items.size (λi v=>items[i]?=aa v) (λi s=>s.heap.IsListIter I l i/\s.heap.IsList l items)->s.heap.objs.size∉[I,l]->s.heap.objs.size<I->s1.heap.IsListIter I l 0/\s1.heap.IsList l items ->
   (∀ b o,(s.heap.push { cls:=.type "dict",data:=.dict #[] }).get? b=aa o->s1.heap.get? b=aa o)->(∀ s',Moved [s.heap.objs.size,I] (λa b=>b=a) s1 s'->N s'.heap->R (.ok (.ret .none)) s')->jJ (aO prog w) A' (.builtin "dict.update.loop" ⟨[.ref s.heap.objs.size,.ref I,cT ((0:Nat):Int),.none],[]⟩) R s1)
  (h:∀ h' tk,N h'->(∀ b o,s.heap.get? b=aa o->h'.get? b=aa o)->Q (.ref s.heap.objs.size) { s with heap:=h',toks:=tk }) :
  aJ (aO prog w) A (call (.type "dict") [.ref l]) Q E s:=by
 refine NZ (Q₁:=λobj s₁=>obj=.ref s.heap.objs.size/\s₁={ s with heap:=s.heap.push { cls:=.type "dict",data:=.dict #[] } }) F.kt_called_dict (F.kt_typeCall_dict_1 _) F.entry_dict_init (kt_code_dict_new _ ⟨rfl,rfl⟩) ?_
 rintro obj s₁ ⟨rfl,rfl⟩;have ds:(s.heap.push { cls:=.type "dict",data:=.dict #[] }).get? s.heap.objs.size=aa { cls:=.type "dict",data:=.dict #[] }:=cH _ rfl;have dn:Shared.TypeIs { s with heap:=(s.heap.push { cls:=.type "dict",data:=.dict #[] }) } (.ref s.heap.objs.size) "dict":=⟨_,ds,rfl⟩;have l1:(s.heap.push { cls:=.type "dict",data:=.dict #[] }).get? l=aa { cls:=.type "list",dict:=ab,data:=.seq items nl,slots:=sl }:=bC _ hl;refine⟨dn,F.args_dict_init_2 _ _,aE (aE (Ia dn (aH ?_)))⟩;show aJ _ _ (Kb "dict.__init__" s.heap.objs.size (.ref l) [] .none) _ _ _;refine aE (jV (T:="list") ⟨_,l1,rfl⟩ (aE (Us l1 (by simp[hh]) λh1 tk k1=>?_)))
 have L2:h1.IsList l items:=⟨_,k1 _ _ l1,rfl,nl,rfl⟩;refine aE (mW (aE (zV L2 (aH ⟨jX rM _,?_⟩))));have sD:s.heap.objs.size<h1.objs.size:=bN (k1 _ _ ds);refine hp _ _ _ _ (by simp<;>lia) ((Walks.list (by simp[hh]) _ l (cP (FQ (bN hl) sD)) items).toS) (λz=>by
  grind) sD ⟨⟨_,cH _ rfl,rfl,rfl⟩,L2.push _⟩ (λb o e=>bC _ (k1 _ _ e)) λs' hm S'=>?_
 obtain⟨h',g',d',ku,xz⟩:=s';obtain rfl:g'=s.gens:=hm.gens;obtain rfl:d'=s.drawn:=hm.drawn;obtain rfl:xz=s.os:=hm.os;refine⟨rfl,h h' ku S' λb o e=>?_⟩
 have lb:b<s.heap.objs.size:=bN e;refine hm.heap b o (λz=>?_) (bC _ (k1 _ _ (bC _ e)))
 rcases cI.1 z with z|z
 .exact absurd z (cP lb)
 .grind
theorem v8{kvs:tz}(hh:A.handled=ab)(hl:s.heap.get? l=aa { cls:=.type "list",dict:=ab,data:=.seq items nl,slots:=sl })
  (og:kvs.length=items.size) (hz:items.size<=sizeLine) (hp:∀ (j:Nat) v,items[j]?=aa v->∃ b kv p,v=.ref b/\kvs[j]?=aa p/\s.heap.IsTuple b #[kv,p.2]/\(dP prog w).is p.1 kv=af)
  (h:∀ h' tk,h'.DictOf (dP prog w) s.heap.objs.size (iR [] kvs)->(∀ b o,s.heap.get? b=aa o->h'.get? b=aa o)->Q (.ref s.heap.objs.size) { s with heap:=h',toks:=tk }) :
  aJ (aO prog w) A (call (.type "dict") [.ref l]) Q E s:=by
 refine Ar hh hl (λA' R I s1 _ W nS sD st kp q=>W9 W s.heap.objs.size nS kvs hz og (items.size-0) 0 _ rfl (cZ _) st ?_ (λj v e=>?_) q) h
 .obtain⟨o,es,ep,ho,r⟩:=(Heap.DictOf.new s.heap:(s.heap.push { cls:=.type "dict",data:=.dict #[] }).DictOf (dP prog w) s.heap.objs.size []);exact⟨o,es,ep,kp _ _ ho,r⟩
 .obtain⟨b,kv,p,rfl,e1,⟨o,e2,e3⟩,e4⟩:=hp j v e;have lb:=bN e2;exact⟨b,kv,p,rfl,e1,⟨o,kp b o (bC _ e2),e3⟩,e4,cP lb,λz=>absurd (cG.1 z) (cP (FQ lb sD))⟩
theorem UI {α β:Type}{R R':α->β->Prop}(f:∀ a b,R a b->R' a b):∀ {as:List α} {bs:List β},bY R as bs->bY R' as bs:=by
 intro as bs h;induction h with
 |nil=>exact .nil
 |cons h _ ih=>exact .cons (f _ _ h) ih
section
variable {X:Cx}
abbrev HI (K:aI)(H:Hp)(ys:aai)(ps:li):Prop:=bY (λy (p:aG×V)=>∃ b,y=V.ref b/\SqT K H b [kV p.1,p.2]) ys ps
theorem N5{Z:St}(I:Inv X ad Z H s):∀ {ys:aai} {ps:li} {its:aak},HI X.K H ys ps->Vals ys its ->
  ∃ kvs:tz,KV ps kvs/\kvs.length=its.length/\∀ (j:Nat) v,its[j]?=aa v->∃ b kv p,v=.ref b/\kvs[j]?=aa p/\s.heap.IsTuple b #[kv,p.2]/\(dP X.prog X.w).is p.1 kv=af:=by
 intro ys ps its hp;induction hp generalizing its with
 |nil=>
  intro r;cases r;exact⟨[],.nil,rfl,λj v e=>by simp at e⟩
 |@cons y p ys ps hq t ih=>
  intro r;obtain⟨b,e,q⟩:=hq;subst e;cases r with
  |cons r rr=>
   cases r;obtain⟨kvs,h1,h2,h3⟩:=ih rr;obtain⟨us,rv,tb,_⟩:=I.tuple q;cases rv with
   |cons ra rb=>
    cases rb with
    |cons rb rc=>
     cases rc;refine⟨(p.1,_)::kvs,.cons ⟨rfl,rb⟩ h1,by simp[h2],λj v e=>?_⟩
     cases j with
     |zero=>
      cases e;exact⟨b,_,(p.1,_),rfl,rfl,tb,nX ra⟩
     |succ j=>exact h3 j v (by simpa using e)
theorem E3:Ack X (.type "dict") (λxs H Q=>∃ p ys ps,xs=[.ref p]/\SqL X.K H p ys/\HI X.K H ys ps/\∀ q n,H q=ab->Q (.ref q) (ax H q (.dK n (nG [] ps)))):=by
 rw[3];obtain⟨p,ys,ps,rfl,hp,hv,q⟩:=h;rw[4];obtain⟨its,rv,⟨o,n,ho,yz,sx,hc3⟩,hz⟩:=I.list hp;obtain⟨kvs,h1,h2,h3⟩:=N5 I hv rv;have e1:=rv.length;obtain⟨c,dct,dat,sl⟩:=o;subst yz sx hc3;refine v8 I.ok.hd ho (by rw[dA];exact h2) (by rw[dA];lia) (λj v e=>h3 j v (by simpa using e)) λh' tk dd hk=>?_
 obtain⟨m,da⟩:=dd.dictAt;have lz:(nG [] ps).length<=sizeLine:=by
  have l1:=ES ps [];have l2:=iU h1;simp at l1
  lia
 exact⟨.ref s.heap.objs.size,_,I.laid hk (bA _) (uX lz (beq_eq_false_iff_ne.2 (fZ (cP I.big))) (h1.merge .nil) da),rfl,q _ m I.fresh⟩
def sJ:aag->Option (List (aG×aA))
 |[]=>aa []
 |.tuple [k,d]::r=>(cC k).bind λk=>(sJ r).bind λps=>aa ((k,d)::ps)
 |_::_=>ab
def kI (ps:List (aG×aA))(kds:dL):dL:=ps.foldl (λak p=>putD ak p.1 p.2) kds
def xP:aag->aah
 |[.list ds]=>(sJ ds).bind λps=>aa (.dict (kI ps []))
 |_=>ab
theorem KR:∀ {ps:List (aG×aA)} {qs:li},bY (λ(p:aG×aA) (q:aG×V)=>p.1=q.1/\Abg K H p.2 q.2) ps qs->∀ {kds:dL} {kvs:li},gR K H kds kvs->gR K H (kI ps kds) (nG kvs qs):=by
 intro ps qs hp;induction hp with
 |nil=>exact λr=>r
 |@cons p q ps qs hq t ih=>
  intro kds kvs r;have:=ih (IE (k:=p.1) r hq.2);show gR K H (kI _ (putD kds p.1 p.2)) (nG (putK kvs q.1 q.2) _);rw[<-hq.1];exact this
theorem f9:∀ {ds:aag} {ps:List (aG×aA)} {ys:aai},sJ ds=aa ps->Aan K H ds ys->∃ qs:li,bY (λ(y:V) (q:aG×V)=>∃ b,y=V.ref b/\H b=aa (.tup [kV q.1,q.2])) ys qs/\bY (λ(p:aG×aA) (q:aG×V)=>p.1=q.1/\Abg K H p.2 q.2) ps qs:=by
 intro ds;induction ds with
 |nil=>
  intro ps ys e r;cases e;rw[Aah.1 r];exact⟨[],.nil,.nil⟩
 |cons z ds ih=>
  intro ps ys e r;cases z with
  |tuple zs=>
   cases zs with
   |nil=>cases e
   |cons k zs=>
    cases zs with
    |nil=>cases e
    |cons d zs=>
     cases zs with
     |cons _ _=>cases e
     |nil=>
      obtain⟨key,e1,e⟩:=ar (show((cC k).bind λk=>(sJ ds).bind λps=>aa ((k,d)::ps))=aa ps from e)
      obtain⟨ps',e2,e⟩:=ar e;cases e;obtain⟨v,t,rfl,r1,r2⟩:=Aac.1 r;obtain⟨qs,h1,h2⟩:=ih e2 r2;obtain⟨b,xs,rfl,hb,rx⟩:=Aal.1 r1;obtain⟨u1,t1,rfl,a1,a2⟩:=Aac.1 rx;obtain⟨u2,rfl,a3⟩:=fC a2;rw[lX e1 a1] at hb;exact⟨(key,u2)::qs,.cons ⟨b,rfl,hb⟩ h1,.cons ⟨rfl,a3⟩ h2⟩
  |_=>cases e
theorem B6:CallD K 1 (λxs H Q=>∃ p ys ps,xs=[.ref p]/\SqL K H p ys/\HI K H ys ps/\∀ q n,H q=ab->Q (.ref q) (ax H q (.dK n (nG [] ps)))) xP:=λP H xs ds d Q hP r e k=>by
 unfold xP at e;split at e
 .obtain⟨ps,e1,e2⟩:=ar e;cases e2;rw[7];obtain⟨q,ys,rfl,hq,rr⟩:=Aav.1 r';obtain⟨qs,h1,h2⟩:=f9 e1 rr;refine⟨q,ys,qs,rfl,Aam.sqL hq,?_,λl n hn=>k.dic hP hn (KR h2 (Abm.2 rfl))⟩
  exact UI (λy p ⟨b,e,hb⟩=>⟨b,e,SqT.of (Aam _ _ hb)⟩) h1
 .cases e
end
abbrev lj:=List aA×aC×aB
def kO (xs more:List lj):List lj:=more.foldl (λak p=>pX ak p.1 p.2.1 p.2.2) xs
theorem B8 {xs:List lj}{k:aag}{v:aB}{x:lj}(m:x∈pX xs k a v):(x.1=k/\x.2.1=a)\/∃ y∈xs,x.1=y.1/\x.2.1=y.2.1:=by
 cases e:oQ xs k with
 |none=>
  rw[storedH_new e] at m
  grind
 |some p=>
  rw[storedH_old e] at m;obtain⟨y,my,rfl⟩:=bG.1 m;refine .inr ⟨y,my,?_⟩;unfold putAt
  grind
theorem C0 (xs:List lj)(k:aag)(a:aC)(v:aB):(pX xs k a v).length<=xs.length+1:=by
 cases e:oQ xs k with
 |none=>rw[storedH_new e];simp
 |some p=>rw[storedH_old e];simp
theorem Bz:∀ (more:List lj) {xs:List lj} {x:lj},x∈kO xs more->(∃ p∈more,x.1=p.1/\x.2.1=p.2.1)\/∃ y∈xs,x.1=y.1/\x.2.1=y.2.1
 |[],xs,x,m=>.inr ⟨x,m,rfl,rfl⟩
 |p::r,xs,x,m=>by
  rcases Bz r (show x∈kO (pX xs p.1 p.2.1 p.2.2) r from m) with⟨q,mq,e⟩|⟨y,my,e1,e2⟩
  .grind
  .rcases B8 my with⟨a1,a2⟩|⟨z,mz,a1,a2⟩
   all_goals grind
theorem Cf:∀ (more xs:List lj),(kO xs more).length<=xs.length+more.length
 |[],xs=>bA _
 |p::r,xs=>by
  have h1:=Cf r (pX xs p.1 p.2.1 p.2.2);have h2:=C0 xs p.1 p.2.1 p.2.2;show(kO (pX xs p.1 p.2.1 p.2.2) r).length<=_;rw[eX]
  lia
theorem YN {h0:aP}{xs:List lj}(e:∀ o,h.get? D=aa o->h'.get? D=aa o)(hs:∀ x∈xs,Abf h0 x.1 x.2.1)(hk:∀ b o,h0.get? b=aa o->h'.get? b=aa o)(d:h.DictOfH (jA prog w) D xs):h'.DictOfH (jA prog w) D xs:=by
 obtain⟨o,es,ep,ho,h1,h2,h3,_,h5⟩:=d;exact⟨o,es,ep,e o ho,h1,h2,h3,λx hx=>(hs x hx).keep λb o _ _ e _ _=>hk b o e,h5⟩
theorem l9{St:Nat->aF->Prop}
  (W:WalksS prog w A.in1 I fp wr G n (λi v=>items[i]?=aa v) St) (D:aC) (zq:D∉fp) (kvs:List lj) (hn:n<=sizeLine) (og:kvs.length=n) (hu:A.units+40<cLine) {h0:aP} (hD0:h0.get? D=ab) (x0:∀ b∈wr,h0.get? b=ab)
  (hp:∀ (j:Nat) v,items[j]?=aa v->∃ b p,v=.ref b/\kvs[j]?=aa p/\h0.IsTuple b #[.ref p.2.1,p.2.2]) (zu:∀ p∈kvs,Abf h0 p.1 p.2.1) :
  ∀ (k i:Nat) (s:aF),n-i=k->i<=n->St i s->s.heap.DictOfH (jA prog w) D (kO [] (kvs.take i))->(∀ b o,h0.get? b=aa o->s.heap.get? b=aa o) ->
   (∀ s',Moved (D::wr) G s s'->s'.heap.DictOfH (jA prog w) D (kO [] kvs)->R (.ok (.ret .none)) s') ->
   jJ (aO prog w) A (.builtin "dict.update.loop" ⟨[.ref D,.ref I,cT (i:Int),.none],[]⟩) R s:=by
 have zr:D∉wr:=λz=>zq (W.sub _ z)
 have more:∀ b∈wr,b∈D::wr:=λb z=>bI _ z
 have nw:∀ b o,h0.get? b=aa o->b∉wr:=λb o e z=>by rw[x0 b z] at e;cases e
 have kin:∀ i,∀ x∈kO [] (kvs.take i),Abf h0 x.1 x.2.1:=λi x m=>by
  rcases Bz _ m with⟨p,mp,e1,e2⟩|⟨y,my,_⟩
  all_goals grind
 intro k;induction k with
 |zero=>
  intro i s hk hi du hS hT hR;obtain rfl:i=n:=()
  refine iE wA (aE (W.done s _ _ du λs' hm=>aE (aH (aH (hR s' (hm.mono more) ?_)))))
  have:=YN (λo e=>hm.heap D o zr e) (kin i) (λb o e=>hm.heap b o (nw b o e) (hT b o e)) hS
  grind
 |succ k ih=>
  intro i s hk hi du hS hT hR;have bu:i<n:=()
  refine iE wA ?_;rw[Kf rM _];refine aE (W.item i s _ _ bu du λv s' ww kw hm=>?_)
  have pd:∀ b o,h0.get? b=aa o->s'.heap.get? b=aa o:=λb o e=>hm.heap b o (nw b o e) (hT b o e)
  obtain⟨b,p,rfl,e1,tb0⟩:=hp i v ww;have tb:s'.heap.IsTuple b #[.ref p.2.1,p.2.2]:=by
   obtain⟨o,a1,a2⟩:=tb0;exact⟨o,pd b o a1,a2⟩
  have gn:kO [] (kvs.take (i+1))=pX (kO [] (kvs.take i)) p.1 p.2.1 p.2.2:=by
   rw[qB,e1];simp[kO,qC]
  have aw:(kO [] (kvs.take i)).length<=sizeLine:=by
   have:=Cf (kvs.take i) []
   grind
  refine aE (eG (aE (wpAny_tryCatch (aE (jV tb.typeIs ?_)))));obtain⟨ob,g1,g2,nb,g3⟩:=tb;refine aE (iC g1 g3 (aH (eG (wpAny_dictSet_heap ?_ ((zu p (eW e1)).keep λb o _ _ e _ _=>pd b o e) (YN (λo e=>hm.heap D o zr e) (kin i) pd hS) (λh' d' sb=>?_) aw))))
  .show _+20<cLine
   grind
  refine aH ⟨jX rM _,ih (i+1) _ () bu (W.frame _ s' _ _ kw (OM _ _) λc hc o e=>?_) (by rw[gn];exact d') (λb o e=>(sb.2 b ((λb o e z=>by rw[z,hD0] at e;cases e) b o e)).trans (pd b o e)) λwx kx S4=>?_⟩
  .exact(sb.2 c (λz=>zq (z ▸ hc))).trans e
  .exact hR wx (OO W.gtrans ((hm.mono more).then_heap (OM _ _) λc o hc e=>(sb.2 c (λz=>hc (z ▸ bD))).trans e) kx) S4
theorem E2{kvs:List lj}(hu:A.units+90<cLine)(hh:A.handled=ab)(hl:s.heap.get? l=aa { cls:=.type "list",dict:=ab,data:=.seq items nl,slots:=sl })
  (og:kvs.length=items.size) (hz:items.size<=sizeLine) (hp:∀ (j:Nat) v,items[j]?=aa v->∃ b p,v=.ref b/\kvs[j]?=aa p/\s.heap.IsTuple b #[.ref p.2.1,p.2.2]) (zu:∀ p∈kvs,Abf s.heap p.1 p.2.1)
  (h:∀ h' tk,h'.DictOfH (jA prog w) s.heap.objs.size (kO [] kvs)->(∀ b o,s.heap.get? b=aa o->h'.get? b=aa o)->Q (.ref s.heap.objs.size) { s with heap:=h',toks:=tk }) :
  aJ (aO prog w) A (call (.type "dict") [.ref l]) Q E s:=by
 have out:∀ b,s.heap.objs.size<=b->s.heap.get? b=ab:=λb hb=>by
  cases e:s.heap.get? b with
  |none=>rfl
  |some o=>exact absurd (bN e) (Nat.not_lt.2 hb)
 refine Ar hh hl (λA' R I s1 ha W nS sD st kp q=>l9 W s.heap.objs.size nS kvs hz og () (h0:=s.heap) (out _ (bA _)) (λb z=>out b (by
  rw[cG.1 z];exact mE sD)) hp zu (items.size-0) 0 _ rfl (cZ _) st ?_ (λb o e=>kp b o (bC _ e)) q) h
 obtain⟨o,es,ep,ho,a1,a2,a3,_,a5⟩:=(Heap.DictOfH.new s.heap:(s.heap.push { cls:=.type "dict",data:=.dict #[] }).DictOfH (jA prog w) s.heap.objs.size []);exact⟨o,es,ep,kp _ _ ho,a1,a2,a3,λx hx=>absurd hx mF,a5⟩
section
variable {X:Cx}
abbrev HE (K:aI)(H:Hp)(ys:aai)(ps:jp):Prop:=bY (λy (p:List aA×V)=>∃ b c,y=V.ref b/\SqT K H b [.ref c,p.2]/\Ajz H p.1 c) ys ps
def oD (kvs more:jp):jp:=more.foldl (λak kv=>putK ak kv.1 kv.2) kvs
theorem Dy:∀ (more kvs:jp),(oD kvs more).length<=kvs.length+more.length
 |[],kvs=>by show kvs.length<=kvs.length+0;lia
 |p::r,kvs=>by
  have h1:=Dy r (putK kvs p.1 p.2);have h2:=vY kvs p.1 p.2;show(oD (putK kvs p.1 p.2) r).length<=_;rw[eX];lia
theorem KT.merge:∀ {more:jp} {rs:List lj} {kvs:jp} {vs:List lj},KT H more rs->KT H kvs vs->KT H (oD kvs more) (kO vs rs):=by
 intro more rs kvs vs r;induction r generalizing kvs vs with
 |nil=>intro q;exact q
 |@cons p q ps qs h t ih=>
  intro z;obtain⟨h1,h2,h3⟩:=h;have:=z.put p.1 h2 h3;show KT H (oD (putK kvs p.1 p.2) ps) (kO (pX vs q.1 q.2.1 q.2.2) qs);rw[<-h1];exact ih this
theorem YG{Z:St}(I:Inv X ad Z H s):∀ {ys:aai} {ps:jp} {its:aak},HE X.K H ys ps->Vals ys its ->
  ∃ kvs:List lj,KT H ps kvs/\kvs.length=its.length/\(∀ (j:Nat) v,its[j]?=aa v->∃ b p,v=.ref b/\kvs[j]?=aa p/\s.heap.IsTuple b #[.ref p.2.1,p.2.2])/\∀ p∈kvs,Abf s.heap p.1 p.2.1
 |_,_,_,.nil,.nil=>⟨[],.nil,rfl,λj v e=>by simp at e,λp m=>by simp at m⟩
 |_,_,_,.cons (b:=p) ⟨b,c,e,q,tk⟩ t,.cons r rr=>by
  subst e;cases r;obtain⟨kvs,h1,h2,h3,h4⟩:=YG I t rr;obtain⟨us,rv,tb,_⟩:=I.tuple q;cases rv with
  |cons ra rb=>
   cases ra;cases rb with
   |cons rb rc=>
    cases rc;refine⟨(p.1,c,_)::kvs,.cons ⟨rfl,tk,rb⟩ h1,by simp[h2],λj v e=>?_,λz m=>?_⟩
    .cases j with
     |zero=>
      cases e;exact⟨b,(p.1,c,_),rfl,rfl,tb⟩
     |succ j=>exact h3 j v (by simpa using e)
    .rcases cI.1 m with rfl|m
     .exact key_of I.hok tk
     .exact h4 z m
theorem G0 (hu:X.A.units+100<cLine):Ack X (.type "dict") (λxs H Q=>∃ p ys ps,xs=[.ref p]/\SqL X.K H p ys/\HE X.K H ys ps/\∀ q n,H q=ab->Q (.ref q) (ax H q (.dT n (oD [] ps)))):=by
 rw[3];obtain⟨p,ys,ps,rfl,hp,hv,q⟩:=h;rw[4];obtain⟨its,rv,⟨o,n,ho,yz,sx,hc3⟩,hz⟩:=I.list hp;obtain⟨kvs,h1,h2,h3,h4⟩:=YG I hv rv;have e1:=rv.length;obtain⟨c,dct,dat,sl⟩:=o;subst yz sx hc3;refine E2 () I.ok.hd ho (by rw[dA];exact h2) (by rw[dA];lia) (λj v e=>h3 j v (by simpa using e)) h4 λh' tk dd hk=>?_
 have lz:(oD [] ps).length<=sizeLine:=by
  have l1:=Dy ps [];have l2:=iU h1;simp at l1
  lia
 obtain⟨qo,es,ep,a1,a2,a3,a4,_,a5⟩:=dd;exact⟨.ref s.heap.objs.size,_,I.laid (o:=.dT ep (oD [] ps)) hk (bA _) ⟨lz,beq_eq_false_iff_ne.2 (fZ (cP I.big)),_,(h1.merge .nil).keeps λb zs e=>by rw[cN (lY e (I.hok.fresh (bA _)))];exact e,qo,es,a1,a2,a3,a4,a5⟩,rfl,q _ ep I.fresh⟩
noncomputable def sC:aag->Option (List (List aA×aA))
 |[]=>aa []
 |.tuple [.tuple k,d]::r=>if (bS k&&decide (cU k<=6))=af then(sC r).bind λps=>aa ((k,d)::ps) else ab
 |_::_=>ab
noncomputable def sH (kds:dL)(k:aag)(d:aA):dL:=if (kds.any λkd=>decide (bW kd.1 (.tuple k)=af))=af then kds.map λkd=>if bW kd.1 (.tuple k)=af then(kd.1,d) else kd else kds++[(.tuple k,d)]
def kM (ps:List (List aA×aA))(kds:dL):dL:=ps.foldl (λak p=>sH ak p.1 p.2) kds
def CZ:aag->aah
 |[.list ds]=>(sC ds).bind λps=>aa (.dict ((.none,.none)::kM ps []))
 |_=>ab
theorem O3{k:aag}{kvs:jp}(hk:bS k=af)(h:pH K H kds kvs)(rv:Abg K H d v):pH K H (sH kds k d) (putK kvs k v):=XA (HV hk) ⟨rfl,hk⟩ rv h
theorem Au:∀ {ps:List (List aA×aA)} {qs:jp},bY (λ(p:List aA×aA) (q:List aA×V)=>p.1=q.1/\bS p.1=af/\Abg K H p.2 q.2) ps qs->∀ {kds:dL} {kvs:jp},pH K H kds kvs->pH K H (kM ps kds) (oD kvs qs)
 |_,_,.nil,_,_,r=>r
 |_,_,.cons (a:=p) (b:=q) ⟨e,hk,h⟩ t,kds,kvs,r=>by
  have:=O3 hk r h;have:=Au t this;show pH K H (kM _ (sH kds p.1 p.2)) (oD (putK kvs q.1 q.2) _);rw[<-e];exact this
theorem XG:∀ {ds:aag} {ps:List (List aA×aA)} {ys:aai},sC ds=aa ps->Aan K H ds ys->∃ qs:jp,bY (λ(y:V) (q:List aA×V)=>∃ b c,y=V.ref b/\H b=aa (.tup [.ref c,q.2])/\Ajz H q.1 c) ys qs/\bY (λ(p:List aA×aA) (q:List aA×V)=>p.1=q.1/\bS p.1=af/\Abg K H p.2 q.2) ps qs
 |[],ps,ys,e,r=>by
  cases e;rw[Aah.1 r];exact⟨[],.nil,.nil⟩
 |d0::ds,ps,ys,e,r=>by
  unfold sC at e;split at e
  .rename_i e0;cases e0
  .rename_i k d r0 e0;cases e0;obtain⟨hc,e⟩:=Hi e;have gr:bS k=af/\cU k<=6:=by simpa using hc
   obtain⟨ps',e2,e⟩:=ar e;cases e;obtain⟨v,t,rfl,r1,r2⟩:=Aac.1 r;obtain⟨qs,h1,h2⟩:=XG e2 r2;obtain⟨b,xs,rfl,hb,rx⟩:=Aal.1 r1;obtain⟨u1,t1,rfl,a1,a2⟩:=Aac.1 rx;obtain⟨u2,rfl,a3⟩:=fC a2;obtain⟨c,zs,rfl,hz,rz⟩:=Aal.1 a1;exact⟨(k,u2)::qs,.cons ⟨b,c,rfl,hb,gr.1,gr.2,zs,hz,Aan.keys k gr.1 rz⟩ h1,.cons ⟨rfl,gr.1,a3⟩ h2⟩
  .cases e
theorem Ajz.ext(x:Ext H H'){k:aag}{c:aC}(t:Ajz H k c):Ajz H' k c:=t.keep λb xs e=>x _ _ e
theorem J0:CallD K 0 (λxs H Q=>∃ p ys ps,xs=[.ref p]/\SqL K H p ys/\HE K H ys ps/\∀ q n,H q=ab->Q (.ref q) (ax H q (.dT n (oD [] ps)))) CZ:=λP H xs ds d Q hP r e k=>by
 unfold CZ at e;split at e
 .obtain⟨ps,e1,e2⟩:=ar e;cases e2;rw[7];obtain⟨q,ys,rfl,hq,rr⟩:=Aav.1 r';obtain⟨qs,h1,h2⟩:=XG e1 rr;refine⟨q,ys,qs,rfl,Aam.sqL hq,?_,λl n hn=>?_⟩
  .exact UI (λy p ⟨b,c,e,hb,tk⟩=>⟨b,c,e,SqT.of (Aam _ _ hb),tk.ext Aam⟩) h1
  .refine k.zero (Ext.new hn) ((Apt).2 ⟨l,(n,_),rfl,hZ (hP.new hn) eF,Ajl.ext (λb o e=>?_) (Au h2 (Abm.2 rfl))⟩)
   obtain⟨nb,e⟩:=Acz.1 e;exact hZ nb (Ext.new hn _ _ e)
 .cases e
end
def keyed (kds:dL):Prop:=∀ kd∈kds,∃ k,kd.1=.tuple k/\bS k=af
theorem Fv {k:aag}(hk:bS k=af)(h:keyed kds):(kds.any λkd=>decide (bW kd.1 (.tuple k)=af))=af↔cD k∈kds.map (·.1):=by
 rw[PJ,bG];refine exists_congr λkd=>and_congr_right λm=>?_
 obtain⟨k',e⟩:=h kd m;rw[decide_eq_true_iff,HV hk _ k' e,e.1];exact⟨λz=>by rw[z],λz=>Iv z⟩
theorem A1(h:keyed kds){k:aag}(hk:bS k=af)(d:aA):keyed (sH kds k d)/\∀ x,x∈(sH kds k d).map (·.1)↔x∈kds.map (·.1)\/x=.tuple k:=by
 unfold sH;by_cases q:(kds.any λkd=>decide (bW kd.1 (.tuple k)=af))=af
 .rw[if_pos q];have e:(kds.map λkd=>if bW kd.1 (.tuple k)=af then(kd.1,d) else kd).map (·.1)=kds.map (·.1):=by
   rw[dF];refine iH λkd _=>?_
   grind
  refine⟨λkd m=>?_,λx=>?_⟩
  .obtain⟨y,my,e2⟩:=bG.1 (show kd.1∈kds.map (·.1) from e ▸ bG.2 ⟨kd,m,rfl⟩)
   rw[<-e2];exact h y my
  .rw[e];exact⟨.inl,λz=>z.elim id λz=>z ▸ (Fv hk h).1 q⟩
 .rw[if_neg q];refine⟨λkd m=>?_,λx=>by simp⟩
  rcases jM.1 m with m|m
  .exact h kd m
  all_goals grind
theorem Cq:∀ {ps:List (List aA×aA)} {kds:dL},keyed kds->(∀ p∈ps,bS p.1=af)->keyed (kM ps kds)/\∀ x,x∈(kM ps kds).map (·.1)↔x∈kds.map (·.1)\/∃ p∈ps,x=.tuple p.1
 |[],kds,h,_=>⟨h,λx=>by simp[kM]⟩
 |p::r,kds,h,hp=>by
  obtain⟨h1,h2⟩:=A1 h (hp p bD) p.2;obtain⟨h3,h4⟩:=Cq h1 λq m=>hp q (bI _ m)
  refine⟨h3,λx=>?_⟩
  show x∈(kM r (sH kds p.1 p.2)).map (·.1)↔_;rw[h4,h2];simp[or_assoc]
theorem C5 {ps:List (List aA×aA)}{k:aag}(hp:∀ p∈ps,bS p.1=af)(hk:bS k=af):(qS (kM ps []) k).isSome=decide (k∈ps.map (·.1)):=by
 obtain⟨h1,h2⟩:=Cq (kds:=[]) (λkd m=>by simp at m) hp
 have:=Fv hk h1;have e:(qS (kM ps []) k).isSome=(kM ps []).any λkd=>decide (bW kd.1 (.tuple k)=af):=by
  simp[qS,OI,List.isSome_find?]
 grind
section
variable {X:Cx}
def zI (m:Md)(f:EF)(T:aA->aQ->Option aQ):SF:=λY=>(eV 0 m f Y).bind λd=>(T d Y).bind λρ'=>aa (.nx ρ')
theorem Wv{T:aA->aQ->Option aQ}(m:Md)(he:DE X e f)(hg:DG X H0 P0 tg T)(hs:NP [tg] e pos.line X.env=pure ah)(hw:NQ [tg] e X.env=pure ab)
  (h1:(hE [tg] X.env).map (·.2)=[kU tg X.env]):DS X H0 P0 n0 (.Assign [tg] e pos) (zI m f T):=PS.imp (MZ (ev m he) hg hs hw h1) λD Z H gh=>by
 rw[5];obtain⟨d,e1,ef⟩:=ar ef;obtain⟨ρ',e2,ef⟩:=ar ef;cases ef;exact⟨B0,Y,fp,d,S,e1,λv H' ⟨ce,S',r⟩=>⟨B0,Y,ce,d,ρ',S',r.2,e2,λσ' gt S2=>k _ _ gt S2⟩⟩
end
open PySem PySem.W PyProof.Rows
def bo {α:Type}(lt:Nat->Nat->Bool):KasT α->α
 |.ret a=>a
 |.ask i j k=>bo lt (k (lt i j))
theorem vN {α β:Type}(lt:Nat->Nat->Bool)(f:α->KasT β):∀ t:KasT α,bo lt (t.bind f)=bo lt (f (bo lt t))
 |.ret _=>rfl
 |.ask i j k=>vN lt f (k (lt i j))
structure Ord (lt:Nat->Nat->Bool):Prop where
 asym:∀ a b,lt a b=af->lt b a=ah
 tr:∀ a b c,lt b a=ah->lt c b=ah->lt c a=ah
section
variable {lt:Nat->Nat->Bool}(O:Ord lt)
abbrev at' (p:Array Nat)(i:Nat):Nat:=p.getD i 0
def hV (lt:Nat->Nat->Bool)(p:Array Nat)(m:Nat):Prop:=∀ i j,i<=j->j<m->lt (at' p j) (at' p i)=ah
def sA (lt:Nat->Nat->Bool)(p:Array Nat)(m:Nat):Prop:=∀ i j,i<=j->j<m->lt (at' p i) (at' p j)=ah
include O
theorem Ord.refl (a:Nat):lt a a=ah:=by
 cases h:lt a a with
 |false=>rfl
 |true=>exact absurd (O.asym a a h) (by rw[h];decide)
theorem Vc(h1:1<=n)(h:hV lt p n)(hl:lt (at' p n) (at' p (n-1))=ah):hV lt p (n+1):=λi j ky hj=>by
 by_cases c:j<n
 .exact h i j ky c
 .obtain rfl:j=n:=()
  by_cases d:i=j
  .subst d;exact O.refl _
  .exact O.tr _ _ _ (h i (j-1) () ()) hl
theorem yD(h1:1<=n)(h:sA lt p n)(hl:lt (at' p (n-1)) (at' p n)=ah):sA lt p (n+1):=λi j ky hj=>by
 by_cases c:j<n
 .exact h i j ky c
 .obtain rfl:j=n:=()
  by_cases d:i=j
  .subst d;exact O.refl _
  .exact O.tr _ _ _ hl (h i (j-1) () ())
theorem Wn (p:Array Nat):hV lt p 1:=λi j ky hj=>by
 obtain rfl:j=0:=()
 obtain rfl:i=0:=()
 exact O.refl _
theorem IS:∀ (f n:Nat),1<=n->hV lt p n->n<=bo lt (kas_asc p f n)/\bo lt (kas_asc p f n)<=n+f/\hV lt p (bo lt (kas_asc p f n))/\(bo lt (kas_asc p f n)<n+f->lt (at' p (bo lt (kas_asc p f n))) (at' p (bo lt (kas_asc p f n)-1))=af)
 |0,n,h1,h=>⟨bA _,bA _,h,λz=>absurd z (by show ¬ n<n+0;lia)⟩
 |f+1,n,h1,h=>by
  have e:bo lt (kas_asc p (f+1) n)=bo lt (if lt (at' p n) (at' p (n-1))=af then KasT.ret n else kas_asc p f (n+1)):=rfl
  rw[e];by_cases c:lt (at' p n) (at' p (n-1))=af
  .rw[if_pos c];exact⟨bA _,by show n<=n+(f+1);lia,h,λ_=>c⟩
  .rw[if_neg c];obtain⟨a1,a2,a3,a4⟩:=IS f (n+1) () (Vc O h1 h (by simpa using c))
   exact⟨(),(),a3,λz=>a4 ()⟩
theorem KA(h:hV lt p k):∀ (f l r:Nat),l<=r->r<=k->r-l<=f->(∀ i<l,lt (at' p k) (at' p i)=ah)->(∀ i,r<=i->i<k->lt (at' p i) (at' p k)=ah) ->
  bo lt (kas_place p k f l r)<=k/\(∀ i<bo lt (kas_place p k f l r),lt (at' p k) (at' p i)=ah)/\∀ i,bo lt (kas_place p k f l r)<=i->i<k->lt (at' p i) (at' p k)=ah
 |0,l,r,h1,h2,h3,hl,hr=>by
  have e:bo lt (kas_place p k 0 l r)=l:=rfl;obtain rfl:l=r:=()
  exact⟨h2,hl,hr⟩
 |f+1,l,r,h1,h2,h3,hl,hr=>by
  unfold kas_place;by_cases c:l ≥ r
  .rw[if_pos c];obtain rfl:l=r:=()
   exact⟨h2,hl,hr⟩
  .rw[if_neg c];show bo lt (if lt (at' p k) (at' p ((l+r)/2))=af then kas_place p k f l ((l+r)/2) else kas_place p k f ((l+r)/2+1) r)<=k/\_
   by_cases d:lt (at' p k) (at' p ((l+r)/2))=af
   .have e:bo lt (KasT.ask (p.getD k 0) (p.getD ((l+r)/2) 0) λc=>if c=af then kas_place p k f l ((l+r)/2) else kas_place p k f ((l+r)/2+1) r)=bo lt (kas_place p k f l ((l+r)/2)):=by
     show bo lt (if lt (at' p k) (at' p ((l+r)/2))=af then _ else _)=_
     rw[if_pos d]
    rw[e,if_pos d];exact KA h f l ((l+r)/2) () () () hl λi a b=>O.tr _ _ _ (O.asym _ _ d) (h _ i a b)
   .have d':lt (at' p k) (at' p ((l+r)/2))=ah:=by simpa using d
    have e:bo lt (KasT.ask (p.getD k 0) (p.getD ((l+r)/2) 0) λc=>if c=af then kas_place p k f l ((l+r)/2) else kas_place p k f ((l+r)/2+1) r)=bo lt (kas_place p k f ((l+r)/2+1) r):=by
     show bo lt (if lt (at' p k) (at' p ((l+r)/2))=af then _ else _)=_
     rw[if_neg d]
    rw[e,if_neg d];refine KA h f ((l+r)/2+1) r () h2 () (λi hi=>?_) hr
    exact O.tr _ _ _ (h i ((l+r)/2) () ()) d'
end
theorem at_of(i:Nat):at' p i=(p[i]?).getD 0:=QK
theorem SX{l:Nat}(hk:k<p.size)(hl:l<=k)(i:Nat):at' (bubble p k (k-l)) i=if i=l then at' p k else if l<i/\i<=k then at' p (i-1) else at' p i:=by
 have e:k-(k-l)=l:=()
 have q:=getElem?_bubble hk (k-l) () i
 rw[e] at q;simp only[at_of,q];split
 .rfl
 .split<;>rfl
theorem mR{i:Nat}(hj:j<=p.size)(k:Nat):at' (kas_rev p i j) k=if i<=k/\k<j then at' p (i+j-1-k) else at' p k:=by
 simp only[at_of];unfold kas_rev;rw[(getElem?_mirror_all (i:=i) hj k)];split<;>rfl
theorem JJ (p:Array Nat)(i j:Nat):(kas_rev p i j).size=p.size:=mirror_size _ _ _ _
theorem rH (p:Array Nat)(i j:Nat):(kas_rev p i j).Perm p:=mirror_perm _ _ _ _
section
variable {lt:Nat->Nat->Bool}(O:Ord lt)
include O
theorem Hk:∀ (f:Nat) (p:Array Nat) (k:Nat),hV lt p k->k+f<=p.size->(bo lt (kas_bin f p k)).Perm p/\hV lt (bo lt (kas_bin f p k)) (k+f)
 |0,p,k,h,_=>⟨GH _,h⟩
 |f+1,p,k,h,hz=>by
  have e:bo lt (kas_bin (f+1) p k)=bo lt (kas_bin f (bubble p k (k-bo lt (kas_place p k k 0 k))) (k+1)):=by
   show bo lt ((kas_place p k k 0 k).bind λl=>kas_bin f (bubble p k (k-l)) (k+1))=_
   rw[vN]
  obtain⟨h1,h2,h3⟩:=KA O h k 0 k (cZ _) (bA _) () (λi hi=>absurd hi ()) (λi a b=>absurd b ())
  rw[e];generalize bo lt (kas_place p k k 0 k)=l at h1 h2 h3;have hk:k<p.size:=()
  have A':hV lt (bubble p k (k-l)) (k+1):=λi j ky hj=>by
   rw[SX hk h1,SX hk h1];by_cases ci:i=l
   .rw[if_pos ci];by_cases cj:j=l
    .rw[if_pos cj];exact O.refl _
    .rw[if_neg cj,if_pos ⟨(),()⟩]
     exact h3 (j-1) () ()
   .rw[if_neg ci];by_cases cj:j=l
    .rw[if_pos cj,if_neg ()]
     exact h2 i ()
    .rw[if_neg cj];by_cases di:l<i/\i<=k
     .rw[if_pos di,if_pos ⟨(),()⟩]
      exact h (i-1) (j-1) () ()
     .rw[if_neg di];by_cases dj:l<j/\j<=k
      .rw[if_pos dj];exact h i (j-1) () ()
      .rw[if_neg dj];exact h i j ky ()
  obtain⟨a1,a2⟩:=Hk f (bubble p k (k-l)) (k+1) A' (by rw[bubble_size];lia)
  exact⟨a1.trans (bubble_perm _ _ _),by rw[show k+(f+1)=k+1+f by lia];exact a2⟩
structure Fall (lt:Nat->Nat->Bool)(p:Array Nat)(n q:Nat):Prop where
 pos:q+1<=n
 dsc:sA lt p n
 eq:∀ i j,n-(q+1)<=i->i<n->n-(q+1)<=j->j<n->lt (at' p i) (at' p j)=ah
theorem Fall.rev{q:Nat}(F:Fall lt p n q)(hz:n<=p.size):Fall lt (kas_rev p (n-(q+1)) n) n q:=by
 refine⟨F.pos,λi j ky hj=>?_,λi j a b c d=>?_⟩
 .rw[mR hz,mR hz];by_cases ci:n-(q+1)<=i/\i<n
  .rw[if_pos ci,if_pos ⟨(),hj⟩]
   exact F.eq _ _ () () () ()
  .rw[if_neg ci];by_cases cj:n-(q+1)<=j/\j<n
   .rw[if_pos cj];exact F.dsc _ _ () ()
   .rw[if_neg cj];exact F.dsc i j ky hj
 .rw[mR hz,mR hz,if_pos ⟨a,b⟩,if_pos ⟨c,d⟩];exact F.eq _ _ () () () ()
theorem DD:∀ (f:Nat) (p:Array Nat) (n q:Nat),Fall lt p n q->n+f<=p.size->(bo lt (kas_desc f p n q)).1.Perm p/\n<=(bo lt (kas_desc f p n q)).2.1/\(bo lt (kas_desc f p n q)).2.1<=n+f/\Fall lt (bo lt (kas_desc f p n q)).1 (bo lt (kas_desc f p n q)).2.1 (bo lt (kas_desc f p n q)).2.2
 |0,p,n,q,F,_=>⟨GH _,bA _,bA _,F⟩
 |f+1,p,n,q,F,hz=>by
  have hp:=F.pos;have e:bo lt (kas_desc (f+1) p n q)=bo lt (if lt (at' p n) (at' p (n-1))=af then(if q > 0 then kas_desc f (kas_rev p (n-(q+1)) n) (n+1) 0 else kas_desc f p (n+1) 0) else KasT.ask (p.getD (n-1) 0) (p.getD n 0) λd=>if d=af then .ret (p,n,q) else kas_desc f p (n+1) (q+1)):=rfl
  rw[e];by_cases c:lt (at' p n) (at' p (n-1))=af
  .rw[if_pos c];by_cases hq:q > 0
   .rw[if_pos hq];have hn:at' (kas_rev p (n-(q+1)) n) n=at' p n:=by rw[mR (),if_neg ()]
    have F2:Fall lt (kas_rev p (n-(q+1)) n) (n+1) 0:=by
     refine⟨(),yD O () (F.rev O ()).dsc ?_,λi j a b c' d=>?_⟩
     .rw[hn,mR (),if_pos ⟨(),()⟩]
      exact O.tr _ _ _ (O.asym _ _ c) (F.eq _ _ () () () ())
     .obtain rfl:j=i:=()
      exact O.refl _
    obtain⟨a1,a2,a3,a4⟩:=DD f _ (n+1) 0 F2 (by rw[JJ];lia)
    exact⟨a1.trans (rH _ _ _),(),(),a4⟩
   .rw[if_neg hq];have F2:Fall lt p (n+1) 0:=by
     refine⟨(),yD O () F.dsc (O.asym _ _ c),λi j a b c' d=>?_⟩
     obtain rfl:j=i:=()
     exact O.refl _
    obtain⟨a1,a2,a3,a4⟩:=DD f _ (n+1) 0 F2 ()
    exact⟨a1,(),(),a4⟩
  .rw[if_neg c];have e2:bo lt (KasT.ask (p.getD (n-1) 0) (p.getD n 0) λd=>if d=af then .ret (p,n,q) else kas_desc f p (n+1) (q+1))=bo lt (if lt (at' p (n-1)) (at' p n)=af then .ret (p,n,q) else kas_desc f p (n+1) (q+1)):=rfl
   rw[e2];by_cases d:lt (at' p (n-1)) (at' p n)=af
   .rw[if_pos d];exact⟨GH _,bA _,by show n<=n+(f+1);lia,F⟩
   .rw[if_neg d];have d':lt (at' p (n-1)) (at' p n)=ah:=by simpa using d
    have F2:Fall lt p (n+1) (q+1):=by
     refine⟨(),yD O () F.dsc d',λi j a b a' b'=>?_⟩
     by_cases ci:i=n
     .by_cases cj:j=n
      .rw[ci,cj];exact O.refl _
      .rw[ci];exact O.tr _ _ _ (F.eq (n-1) j () () () ()) (by simpa using c)
     .by_cases cj:j=n
      .rw[cj];exact O.tr _ _ _ d' (F.eq i (n-1) () () () ())
      .exact F.eq i j () () () ()
    obtain⟨a1,a2,a3,a4⟩:=DD f _ (n+1) (q+1) F2 ()
    exact⟨a1,(),(),a4⟩
end
section
variable {lt:Nat->Nat->Bool}(O:Ord lt)
include O
theorem Yn(h:sA lt p n)(hz:n<=p.size):hV lt (kas_rev p 0 n) n:=λi j ky hj=>by
 rw[mR hz,mR hz,if_pos ⟨cZ _,hj⟩,if_pos ⟨cZ _,()⟩]
 exact h _ _ () ()
theorem VQ(h1:1<=n)(hn:n<=m)(hz:m<=p.size)(h:sA lt p n):(bo lt (kas_tail3 n m p)).2.Perm p/\(bo lt (kas_tail3 n m p)).1<=m/\1<=(bo lt (kas_tail3 n m p)).1/\hV lt (bo lt (kas_tail3 n m p)).2 (bo lt (kas_tail3 n m p)).1:=by
 unfold kas_tail3;rw[vN];obtain⟨a1,a2,a3,_⟩:=IS O (m-n) n h1 (Yn O h ())
 exact⟨rH _ _ _,by show bo lt (kas_asc (kas_rev p 0 n) (m-n) n)<=m;lia,by show 1<=bo lt (kas_asc (kas_rev p 0 n) (m-n) n);lia,a3⟩
theorem VN(h1:1<=n)(hn:n+1<=m)(hz:m<=p.size)(h:sA lt p (n+1)):(bo lt (kas_descPart n m p)).2.Perm p/\(bo lt (kas_descPart n m p)).1<=m/\1<=(bo lt (kas_descPart n m p)).1/\hV lt (bo lt (kas_descPart n m p)).2 (bo lt (kas_descPart n m p)).1:=by
 obtain⟨a1,a2,a3,a4⟩:=DD O (m-(n+1)) p (n+1) 0 ⟨(),h,λi j a b c d=>by
  obtain rfl:j=i:=()
  exact O.refl _⟩ ()
 unfold kas_descPart;rw[vN];have hs:=a1.size_eq;split
 .have F':=a4.rev O ()
  obtain⟨b1,b2,b3,b4⟩:=VQ O () () (by rw[JJ];lia) F'.dsc (m:=m)
  exact⟨b1.trans ((rH _ _ _).trans a1),b2,b3,b4⟩
 .obtain⟨b1,b2,b3,b4⟩:=VQ O () () () a4.dsc (m:=m)
  exact⟨b1.trans a1,b2,b3,b4⟩
theorem YI(h1:1<=m)(hz:m<=p.size):(bo lt (kas_count m p)).2.Perm p/\(bo lt (kas_count m p)).1<=m/\1<=(bo lt (kas_count m p)).1/\hV lt (bo lt (kas_count m p)).2 (bo lt (kas_count m p)).1:=by
 obtain⟨a1,a2,a3,a4⟩:=IS O (m-1) 1 (bA _) (Wn O p);unfold kas_count;rw[vN];generalize bo lt (kas_asc p (m-1) 1)=n at a1 a2 a3 a4;by_cases c:(n==m)=af
 .rw[if_pos c];exact⟨GH _,by show n<=m;lia,a1,a3⟩
 .rw[if_neg c];have hl:=a4 ()
  by_cases d:n > 1
  .rw[if_pos d];show(bo lt (if lt (at' p 0) (at' p (n-1))=af then KasT.ret (n,p) else kas_descPart n m (kas_rev p 0 n))).2.Perm p/\(bo lt (if lt (at' p 0) (at' p (n-1))=af then KasT.ret (n,p) else kas_descPart n m (kas_rev p 0 n))).1<=m/\1<=(bo lt (if lt (at' p 0) (at' p (n-1))=af then KasT.ret (n,p) else kas_descPart n m (kas_rev p 0 n))).1/\hV lt (bo lt (if lt (at' p 0) (at' p (n-1))=af then KasT.ret (n,p) else kas_descPart n m (kas_rev p 0 n))).2 (bo lt (if lt (at' p 0) (at' p (n-1))=af then KasT.ret (n,p) else kas_descPart n m (kas_rev p 0 n))).1
   by_cases e:lt (at' p 0) (at' p (n-1))=af
   .rw[if_pos e];exact⟨GH _,by show n<=m;lia,a1,a3⟩
   .rw[if_neg e];have same:∀ i j,i<n->j<n->lt (at' p i) (at' p j)=ah:=λi j hi hj=>
     O.tr _ (at' p 0) _ (O.tr _ _ _ (a3 j (n-1) () ()) (by simpa using e)) (a3 0 i (cZ _) hi)
    have D:sA lt (kas_rev p 0 n) (n+1):=by
     refine yD O a1 (λi j ky hj=>?_) ?_
     .rw[mR (),mR (),if_pos ⟨cZ _,()⟩,if_pos ⟨cZ _,hj⟩]
      exact same _ _ () ()
     .rw[mR (),mR (),if_pos ⟨cZ _,()⟩,if_neg ()]
      exact O.tr _ _ _ (O.asym _ _ hl) (same _ _ () ())
    obtain⟨b1,b2,b3,b4⟩:=VN O a1 () (by rw[JJ];exact hz) D (m:=m)
    exact⟨b1.trans (rH _ _ _),b2,b3,b4⟩
  .obtain rfl:n=1:=()
   exact VN O (bA _) () hz (yD O (bA _) (λi j ky hj=>by
    obtain rfl:j=0:=()
    obtain rfl:i=0:=()
    exact O.refl _) (O.asym _ _ hl))
theorem XW(h1:1<=n):(bo lt (kas_sort n)).Perm (iV (bZ n))/\hV lt (bo lt (kas_sort n)) n:=by
 have hs:(iV (bZ n)).size=n:=by simp
 obtain⟨a1,a2,a3,a4⟩:=YI O h1 (by rw[hs];exact bA _)
 unfold kas_sort;rw[vN];generalize bo lt (kas_count n (iV (bZ n)))=r at a1 a2 a3 a4;have hz:=a1.size_eq.trans hs;split
 .have em:max r.1 1=r.1:=()
  rw[em];obtain⟨b1,b2⟩:=Hk O (n-r.1) r.2 r.1 a4 ()
  exact⟨b1.trans a1,by rw[show r.1+(n-r.1)=n by lia] at b2;exact b2⟩
 .have:r.1=n:=()
  exact⟨a1,by rw[this] at a4;exact a4⟩
end
def gM {α:Type}(lt:Nat->Nat->Bool)(N:Nat):KasT α->Prop
 |.ret _=>True
 |.ask i j k=>(i<N/\j<N)/\gM lt N (k (lt i j))
theorem vL {α β:Type}{lt:Nat->Nat->Bool}{f:α->KasT β}:∀ {t:KasT α},gM lt N t->gM lt N (f (bo lt t))->gM lt N (t.bind f)
 |.ret _,_,h=>h
 |.ask i j k,h,h2=>⟨h.1,vL h.2 h2⟩
theorem RF {α:Type}{lt:Nat->Nat->Bool}{zv:Nat->Nat->(Bool->aF->Prop)->aF->Prop}(hc:∀ i j (C:Bool->aF->Prop),i<N->j<N->C (lt i j) s->zv i j C s){Q:α->aF->Prop}:∀ {t:KasT α},gM lt N t->Q (bo lt t) s->t.kasWp zv Q s
 |.ret _,_,h=>h
 |.ask i j k,h,q=>hc i j _ h.1.1 h.1.2 (RF hc h.2 q)
abbrev El (N:Nat)(p:Array Nat):Prop:=∀ x∈p,x<N
theorem El.at(h:El N p)(h0:0<N)(i:Nat):at' p i<N:=by
 rw[at_of];cases e:p[i]? with
 |none=>exact h0
 |some v=>exact h v (Array.mem_of_getElem? e)
theorem El.perm{q:Array Nat}(h:El N p)(x:q.Perm p):El N q:=λv m=>h v (x.mem_iff.1 m)
section
variable {lt:Nat->Nat->Bool}(h0:0<N)
include h0
theorem MG(h:El N p):∀ f n,gM lt N (kas_asc p f n)
 |0,_=>trivial
 |f+1,n=>by
  refine⟨⟨h.at h0 _,h.at h0 _⟩,?_⟩;show gM lt N (if lt (at' p n) (at' p (n-1))=af then KasT.ret n else kas_asc p f (n+1))
  by_cases c:lt (at' p n) (at' p (n-1))=af
  .rw[if_pos c];trivial
  .rw[if_neg c];exact MG h f (n+1)
theorem JO(h:El N p):∀ f l r,gM lt N (kas_place p k f l r)
 |0,_,_=>trivial
 |f+1,l,r=>by
  unfold kas_place;by_cases c:l ≥ r
  .rw[if_pos c];trivial
  .rw[if_neg c];refine⟨⟨h.at h0 _,h.at h0 _⟩,?_⟩;show gM lt N (if lt (at' p k) (at' p ((l+r)/2))=af then kas_place p k f l ((l+r)/2) else kas_place p k f ((l+r)/2+1) r)
   by_cases d:lt (at' p k) (at' p ((l+r)/2))=af
   .rw[if_pos d];exact JO h f _ _
   .rw[if_neg d];exact JO h f _ _
theorem SH:∀ (f:Nat) (p:Array Nat) (k:Nat),El N p->gM lt N (kas_bin f p k)
 |0,_,_,_=>trivial
 |f+1,p,k,h=>vL (JO h0 h k 0 k) (SH f _ _ (h.perm (bubble_perm _ _ _)))
theorem CV:∀ (f:Nat) (p:Array Nat) (n q:Nat),El N p->gM lt N (kas_desc f p n q)/\El N (bo lt (kas_desc f p n q)).1
 |0,_,_,_,h=>⟨trivial,h⟩
 |f+1,p,n,q,h=>by
  have e:bo lt (kas_desc (f+1) p n q)=bo lt (if lt (at' p n) (at' p (n-1))=af then(if q > 0 then kas_desc f (kas_rev p (n-(q+1)) n) (n+1) 0 else kas_desc f p (n+1) 0) else KasT.ask (p.getD (n-1) 0) (p.getD n 0) λd=>if d=af then .ret (p,n,q) else kas_desc f p (n+1) (q+1)):=rfl
  have g:gM lt N (kas_desc (f+1) p n q)↔(at' p n<N/\at' p (n-1)<N)/\gM lt N (if lt (at' p n) (at' p (n-1))=af then(if q > 0 then kas_desc f (kas_rev p (n-(q+1)) n) (n+1) 0 else kas_desc f p (n+1) 0) else KasT.ask (p.getD (n-1) 0) (p.getD n 0) λd=>if d=af then .ret (p,n,q) else kas_desc f p (n+1) (q+1)):=Iff.rfl
  rw[g,e];by_cases c:lt (at' p n) (at' p (n-1))=af
  .rw[if_pos c];by_cases hq:q > 0
   .rw[if_pos hq];obtain⟨a,b⟩:=CV f _ (n+1) 0 (h.perm (rH p (n-(q+1)) n));exact⟨⟨⟨h.at h0 _,h.at h0 _⟩,a⟩,b⟩
   .rw[if_neg hq];obtain⟨a,b⟩:=CV f _ (n+1) 0 h;exact⟨⟨⟨h.at h0 _,h.at h0 _⟩,a⟩,b⟩
  .rw[if_neg c];have e2:bo lt (KasT.ask (p.getD (n-1) 0) (p.getD n 0) λd=>if d=af then .ret (p,n,q) else kas_desc f p (n+1) (q+1))=bo lt (if lt (at' p (n-1)) (at' p n)=af then .ret (p,n,q) else kas_desc f p (n+1) (q+1)):=rfl
   have g2:gM lt N (KasT.ask (p.getD (n-1) 0) (p.getD n 0) λd=>if d=af then .ret (p,n,q) else kas_desc f p (n+1) (q+1))↔(at' p (n-1)<N/\at' p n<N)/\gM lt N (if lt (at' p (n-1)) (at' p n)=af then .ret (p,n,q) else kas_desc f p (n+1) (q+1)):=Iff.rfl
   rw[g2,e2];by_cases d:lt (at' p (n-1)) (at' p n)=af
   .rw[if_pos d];exact⟨⟨⟨h.at h0 _,h.at h0 _⟩,⟨h.at h0 _,h.at h0 _⟩,trivial⟩,h⟩
   .rw[if_neg d];obtain⟨a,b⟩:=CV f _ (n+1) (q+1) h;exact⟨⟨⟨h.at h0 _,h.at h0 _⟩,⟨h.at h0 _,h.at h0 _⟩,a⟩,b⟩
theorem Gp(n m:Nat)(h:El N p):gM lt N (kas_tail3 n m p):=vL (MG h0 (h.perm (rH _ _ _)) _ _) trivial
theorem Ge(n m:Nat)(h:El N p):gM lt N (kas_descPart n m p):=by
 obtain⟨a,b⟩:=CV h0 (m-(n+1)) p (n+1) 0 h;refine vL a ?_;split
 .exact Gp h0 _ _ (b.perm (rH _ _ _))
 .exact Gp h0 _ _ b
theorem c9(m:Nat)(h:El N p):gM lt N (kas_count m p):=by
 refine vL (MG h0 h _ _) ?_;generalize bo lt (kas_asc p (m-1) 1)=n;by_cases c:(n==m)=af
 .rw[if_pos c];trivial
 .rw[if_neg c];by_cases d:n > 1
  .rw[if_pos d];refine⟨⟨h.at h0 _,h.at h0 _⟩,?_⟩;show gM lt N (if lt (at' p 0) (at' p (n-1))=af then KasT.ret (n,p) else kas_descPart n m (kas_rev p 0 n))
   by_cases e:lt (at' p 0) (at' p (n-1))=af
   .rw[if_pos e];trivial
   .rw[if_neg e];exact Ge h0 _ _ (h.perm (rH _ _ _))
  .rw[if_neg d];exact Ge h0 _ _ h
end
theorem Ys {lt:Nat->Nat->Bool}(O:Ord lt)(h1:1<=n):gM lt n (kas_sort n):=by
 have hs:(iV (bZ n)).size=n:=by simp
 have h:El n (iV (bZ n)):=λx m=>by simpa using m
 refine vL (c9 () n h) ?_
 obtain⟨a1,_⟩:=YI O h1 (by rw[hs];exact bA _)
 split
 .exact SH () _ _ _ (h.perm a1)
 .trivial
theorem Xf {lt:Nat->Nat->Bool}(O:Ord lt)(h1:1<=n){zv:Nat->Nat->(Bool->aF->Prop)->aF->Prop}(hc:∀ i j (C:Bool->aF->Prop),i<n->j<n->C (lt i j) s->zv i j C s){G:Array Nat->aF->Prop}
  (h:∀ p:Array Nat,p.Perm (iV (bZ n))->hV lt p n->G p s):(kas_sort n).kasWp zv G s:=
 RF hc (Ys O h1) (h _ (XW O h1).1 (XW O h1).2)
abbrev Kg (a:aC)(h h':aP):Prop:=∀ b o,b≠a->h.get? b=aa o->h'.get? b=aa o
abbrev lQ (h:aP)(a:aC)(vs:aak):aP:=((h.update a (eK λ_=>#[])).push (gK "tuple" vs.toArray 0)).push (gK "list" #[] 0)
theorem Fo:Kg a h (lQ h a vs):=λb o hb e=>
 bC _ (bC _ (((xC h a (eK λ_=>(#[]:Array aB))).2 b hb).trans e))
theorem Te{κ:SortKind}{lt:Nat->Nat->Bool}{P:wN->aF->Prop}(O:Ord lt)(ho:s.heap.get? a=aa (gK "list" vs.toArray n))(h2:2<=vs.length)(kg:vs.length<64)
  (hk:∀ (Q:SortKind->aF->Prop),Q κ { s with heap:=lQ s.heap a vs }->aJ (aO prog w) A (keyKind' vs.toArray) Q E { s with heap:=lQ s.heap a vs })
  (hc:∀ i j (C:Bool->aF->Prop),i<vs.length->j<vs.length->C (lt i j) { s with heap:=lQ s.heap a vs }->aJ (aO prog w) A (keyLt' κ (vs.getD i eP) (vs.getD j eP)) C (λ_ _=>False) { s with heap:=lQ s.heap a vs })
  (h:∀ p:Array Nat,p.Perm (iV (bZ vs.length))->hV lt p vs.length->P (.done (.ret .none)) { s with heap:=AA s.heap a vs (iV (p.toList.map λi=>vs.getD i eP)) }) :
  aJ (aO prog w) A (Builtin.«list.sort» ⟨[.ref a],[]⟩) P E s:=by
 have lz:vs.length<=sizeLine:=by rw[kT];lia
 obtain⟨e1,zw⟩:∃ e,(s.heap.update a (eK λ_=>(#[]:Array aB))).get? a=aa (gK "list" #[] e):=⟨_,get?_update_seq ho λ_=>#[]⟩
 have zx:(lQ s.heap a vs).get? a=aa (gK "list" #[] e1):=bC _ (bC _ zw);rw[list_sort_plain];refine aE (listItems_at ho rfl (aE (FE ho rfl (aE (seqEpoch_at zw rfl (aE (NL (aE (FC (eG ?_) (cZ _))) (by simpa using lz))))) (by rw[dA];exact lz) (cZ _))))
 have big:¬ vs.toArray.size<2:=by rw[dA];lia
 rw[if_neg big,if_neg big];refine aE (hk _ ?_);have eS:SortSt.mk' κ (vs.toArray.zip vs.toArray) #[] 7 ab=kas_st κ (pairsOf vs) (iV (bZ vs.length)):=by
  have e:=kas_range (pairsOf vs);rw[pairsOf_size] at e;unfold kas_st;rw[e]
  rfl
 have run:=kas_runs (E:=E) (Q:=λ_ gw s'=>s'={ s with heap:=lQ s.heap a vs }/\∃ p:Array Nat,p.Perm (iV (bZ vs.length))/\hV lt p vs.length/\arrOf gw=p.map (kas_item (pairsOf vs))/\failedOf gw=ab)
  (G:=λp s'=>s'={ s with heap:=lQ s.heap a vs }/\p.Perm (iV (bZ vs.length))/\hV lt p vs.length) h2 kg (λp' gw s' a1 a2 a3 ⟨b1,b2,b3⟩=>⟨b1,p',b2,b3,a2,a3⟩)
  (Xf O () (λi j C hi hj q=>by
   unfold kas_cmp;rw[kas_item_eq,kas_item_eq];exact hc i j C hi hj q) λp b1 b2=>⟨rfl,b1,b2⟩)
 rw[<-eS] at run;refine aE (mA run ?_ λ_ _ e=>e)
 rintro⟨⟨⟩,gw⟩ s' ⟨rfl,p,b1,b2,har,hf⟩;dsimp only;have wy:(arrOf gw).map (·.2)=iV (p.toList.map λi=>vs.getD i eP):=by
  apply GG.1;rw[har,Array.map_map,Array.toList_map];exact iH λi _=>congrArg Prod.snd (kas_item_eq vs i)
 have hps:p.size=vs.length:=by
  have:=b1.size_eq;simpa using this
 have hsz:(iV (p.toList.map λi=>vs.getD i eP)).size<=sizeLine:=by
  grind
 rw[wy];refine aE (seqEpoch_at zx rfl (aE (FE zx rfl ?_ (cZ _) (Nat.le_succ_of_le hsz))));rw[hf];simp only[bne_self_eq_false,rY,if_false];exact aH (h p b1 b2)
noncomputable def gL:aA->aaj
 |.int i=>[0,i]
 |.str x=>1::x.cps.toList.map kA
 |_=>[2]
def bU (ks:aag):ii:=ks.map gL
theorem yS (a b:ii)(h:a<b):¬ b<a:=List.lt_asymm h
theorem EH (a b c:ii)(h1:¬ b<a)(h2:¬ c<b):¬ c<a:=by
 exact List.le_trans h1 h2
theorem IX {e:aA}(h1:(∃ i,d=.int i)\/∃ x,d=.str x)(h2:(∃ i,e=.int i)\/∃ x,e=.str x)(h:gL d=gL e):d=e:=by
 rcases h1 with⟨i,rfl⟩|⟨x,rfl⟩<;>rcases h2 with⟨j,rfl⟩|⟨y,rfl⟩
 .simp[gL] at h;rw[h]
 .simp[gL] at h
 .simp[gL] at h
 .have h':x.cps.toList.map kA=y.cps.toList.map kA:=by simpa [gL] using h
  have:=(OW (λa b q=>PM q)).1 h'
  have:x=y:=by
   cases x;cases y;simp only at this;rw[GG.1 this]
  rw[this]
def Lc (kss:bv)(i j:Nat):Bool:=decide (bU (kss.getD i [])<bU (kss.getD j []))
theorem Ta (kss:bv):Ord (Lc kss):=by
 refine⟨λa b h=>?_,λa b c h1 h2=>?_⟩
 .have:=yS _ _ (of_decide_eq_true h);exact decide_eq_false this
 .exact decide_eq_false (EH _ _ _ (of_decide_eq_false h1) (of_decide_eq_false h2))
mutual
theorem Ahe.rep:∀ (d:aA) {v:V},cA d=af->Ahe H d v->Abg K H d v
 |.int i,v,_,h=>Aaj.2 (by simpa [Ahe] using h)
 |.str i,v,k,h=>Aa2.2 ⟨by simpa [Ahe] using h,by simpa [cA] using k⟩
 |.tuple ds,v,k,h=>by
  obtain⟨a,xs,e,s,r⟩:=h;exact Aal.2 ⟨a,xs,e,s,Ad8.reps ds (by simpa [cA] using k) r⟩
 |.none,v,k,_=>by simp[cA] at k
 |.bool _,v,k,_=>by simp[cA] at k
 |.list _,v,k,_=>by simp[cA] at k
 |.dict _,v,k,_=>by simp[cA] at k
theorem Ad8.reps:∀ (ds:aag) {vs:aai},bS ds=af->Ad8 H ds vs->Aan K H ds vs
 |[],vs,_,h=>Aah.2 (by simpa [Ad8] using h)
 |d::ds,vs,k,h=>by
  have k':cA d=af/\bS ds=af:=by simpa [bS] using k
  obtain⟨x,r,e,h1,h2⟩:=h;exact Aac.2 ⟨x,r,e,Ahe.rep d k'.1 h1,Ad8.reps ds k'.2 h2⟩
end
theorem Ajz.rep{ks:aag}(h:Ajz H ks a):Abg K H (.tuple ks) (.ref a):=by
 obtain⟨k,_,xs,e,r⟩:=h;exact Aal.2 ⟨a,xs,rfl,e,Ad8.reps ks k r⟩
theorem Abg.tupK{ks:aag}(r:Abg K H (.tuple ks) v)(h1:bS ks=af)(h2:cU ks<=6):∃ a,v=.ref a/\Ajz H ks a:=by
 obtain⟨a,xs,e,s,r⟩:=Aal.1 r;exact⟨a,e,h1,h2,xs,s,Aan.keys ks h1 r⟩
theorem Cr{H1 G:Hp}(x:∀ c ys,H1 c=aa (.tup ys)->G c=aa (.tup ys)):∀ {kvs:jp} {as:aan},bY (λ(p:List aA×V) (b:aC)=>Ajz H1 p.1 b) kvs as->Aan K G ((kvs.map (·.1)).map cD) (as.map V.ref)
 |_,_,.nil=>Aah.2 rfl
 |_,_,.cons h t=>Aac.2 ⟨_,_,rfl,(h.keep x).rep,Cr x t⟩
noncomputable def gC:aag->Option bv
 |[]=>aa []
 |.tuple ks::r=>if bS ks=af/\cU ks<=6 then(gC r).bind λkss=>aa (ks::kss) else ab
 |_::_=>ab
def hX (ak:bv)(k:aag):bv:=if k∈ak then ak else ak++[k]
def eA (kss:bv):bv:=kss.foldl hX []
def HF:aag->aah
 |[.tuple ds]=>(gC ds).bind λkss=>if ds.length<sizeLine then aa (.tuple ((eA kss).map cD)) else ab
 |_=>ab
theorem JC:∀ {ds:aag} {kss:bv},gC ds=aa kss->ds=kss.map cD/\∀ ks∈kss,bS ks=af/\cU ks<=6
 |[],kss,h=>by cases h;exact⟨rfl,λ_ m=>by simp at m⟩
 |.tuple ks::r,kss,h=>by
  by_cases c:bS ks=af/\cU ks<=6
  .have h':((gC r).bind λkss=>aa (ks::kss))=aa kss:=by
    have:(if bS ks=af/\cU ks<=6 then(gC r).bind λkss=>aa (ks::kss) else ab)=aa kss:=h
    grind
   obtain⟨k2,e1,e2⟩:=ar h';cases e2;obtain⟨q1,q2⟩:=JC e1
   grind
  .have:(if bS ks=af/\cU ks<=6 then(gC r).bind λkss=>aa (ks::kss) else ab)=aa kss:=h
   grind
 |.none::_,_,h=>by cases h
 |.bool _::_,_,h=>by cases h
 |.int _::_,_,h=>by cases h
 |.str _::_,_,h=>by cases h
 |.list _::_,_,h=>by cases h
 |.dict _::_,_,h=>by cases h
def pJ (kss:bv):jp:=kss.foldl (λak k=>putK ak k (.bl af)) []
theorem W2 {kvs:jp}{k:aag}:(putK kvs k v).map (·.1)=hX (kvs.map (·.1)) k:=by
 unfold putK hX;by_cases h:(kvs.any λkv=>decide (kv.1=k))=af
 .rw[if_pos h];have hm:k∈kvs.map (·.1):=by
   grind
  rw[if_pos hm,dF];apply iH
  grind
 all_goals grind
theorem m8 (kss:bv):(pJ kss).map (·.1)=eA kss:=by
 have go:∀ (kss:bv) (ak:jp),(kss.foldl (λak k=>putK ak k (.bl af)) ak).map (·.1)=kss.foldl hX (ak.map (·.1)):=by
  intro kss;induction kss with
  |nil=>intro ak;rfl
  |cons k r ih=>
   intro ak;rw[hJ,hJ,ih,W2]
 exact go kss []
theorem m4 (kss:bv)(k:aag):pJ (kss++[k])=putK (pJ kss) k (.bl af):=by
 unfold pJ;rw[qC]
 rfl
theorem A0j (kss:bv):(pJ kss).length<=kss.length:=by
 have go:∀ (kss:bv) (ak:jp),(kss.foldl (λak k=>putK ak k (V.bl af)) ak).length<=ak.length+kss.length:=by
  intro kss;induction kss with
  |nil=>intro ak;simp
  |cons k r ih=>
   intro ak;have h2:=vY ak k (V.bl af)
   grind
 have:=go kss [];unfold pJ;simpa using this
open PySem PySem.Spec PySem.W PyProof.Rows
noncomputable def eM:aag->aag->Bool
 |[],[]=>af
 |.int _::r,.int _::r'=>eM r r'
 |.str _::r,.str _::r'=>eM r r'
 |_,_=>ah
theorem vO (i j:Int)(r r':aag):(bU (.int i::r)<bU (.int j::r'))↔i<j\/i=j/\bU r<bU r':=by
 show(gL (.int i)::bU r<gL (.int j)::bU r')↔_;simp[gL,uH]
theorem map_lt (xs ys:aaq):(xs.map kA<ys.map kA)↔xs<ys:=by
 induction xs generalizing ys with
 |nil=>cases ys<;>simp
 |cons x r ih=>
  cases ys with
  |nil=>simp
  |cons y r'=>
   rw[dB,dB,uH,uH,ih];have h1:(kA x<kA y)↔x<y:=Int.ofNat_lt;have h2:(kA x=kA y)↔x=y:=⟨λe=>PM e,λe=>by rw[e]⟩
   rw[h1,h2]
theorem CL (x y:aD)(r r':aag):(bU (.str x::r)<bU (.str y::r'))↔x.cps.toList<y.cps.toList\/x=y/\bU r<bU r':=by
 show(gL (.str x)::bU r<gL (.str y)::bU r')↔_;rw[uH];have h1:(gL (.str x)<gL (.str y))↔x.cps.toList<y.cps.toList:=by
  show((1:Int)::x.cps.toList.map kA<(1:Int)::y.cps.toList.map kA)↔_;rw[uH,map_lt];simp
 have h2:(gL (.str x)=gL (.str y))↔x=y:=⟨λe=>by
  have:=IX (.inr ⟨x,rfl⟩) (.inr ⟨y,rfl⟩) e;injection this,λe=>by rw[e]⟩
 rw[h1,h2]
section
variable {Q:Bool->aF->Prop}
theorem MP:∀ (ks gx:aag) {vs qy:aak} {as kz:aan} (i:Nat),eM ks gx=af->jB s.heap vs ks as->jB s.heap qy gx kz->Q (decide (bU ks<bU gx)) s->KatLex prog w A b ah Q (vs.zip qy) i s
 |[],[],vs,qy,as,kz,i,_,r,r',h=>by
  cases r;cases r';exact kat_nil h
 |.int x::ks,.int y::gx,vs,qy,as,kz,i,hs,r,r',h=>by
  cases r with
  |cons r1 r2=>
   cases r' with
   |cons vi vj=>
    cases r1 with
    |int _ t=>
     cases vi with
     |int _ u=>
      refine kat_cons ((dP prog w).eqBool (zF _ _ x t) (zF _ _ y u) (kat_go (λe=>kat_yes ?_) λe=>kat_no ?_))
      .have e':x=y:=by simpa using e
       subst e';refine MP ks gx (i+1) (by simpa [eM] using hs) r2 vj ?_
       have:decide (bU (.int x::ks)<bU (.int x::gx))=decide (bU ks<bU gx):=decide_eq_decide.2 (by rw[vO];simp)
       rw[<-this];exact h
      .have e':x≠y:=by simpa using e
       have:decide (bU (.int x::ks)<bU (.int y::gx))=decide (x<y):=decide_eq_decide.2 (by rw[vO];simp[e'])
       rw[this] at h;cases(b&&i==0) with
       |true=>exact oneLt_int h
       |false=>exact kat_one _ _ (lt_int h)
 |.str x::ks,.str y::gx,vs,qy,as,kz,i,hs,r,r',h=>by
  cases r with
  |cons r1 r2=>
   cases r' with
   |cons vi vj=>
    cases r1 with
    |str _ t=>
     cases vi with
     |str _ u=>
      refine kat_cons ((dP prog w).eqBool (tT _ _ x t) (tT _ _ y u) (kat_go (λe=>kat_yes ?_) λe=>kat_no ?_))
      .have e':x=y:=by simpa using e
       subst e';refine MP ks gx (i+1) (by simpa [eM] using hs) r2 vj ?_
       have:decide (bU (.str x::ks)<bU (.str x::gx))=decide (bU ks<bU gx):=decide_eq_decide.2 (by rw[CL];simp[FV])
       rw[<-this];exact h
      .have e':x≠y:=by simpa using e
       have:decide (bU (.str x::ks)<bU (.str y::gx))=decide (x.cps.toList<y.cps.toList):=decide_eq_decide.2 (by rw[CL];simp[e'])
       rw[this] at h;cases(b&&i==0) with
       |true=>exact oneLt_str h
       |false=>exact kat_one _ _ (lt_str h)
end
def lE:aag->Option String
 |.int _::_=>aa "int"
 |.str _::_=>aa "str"
 |_=>ab
theorem g7 {M:Model}{k:aag}{b:aC}(hd:Abf h k b)(hk:lE k=aa T) :
  ∃ o xs n f,h.get? b=aa o/\o.cls=.type "tuple" /\ o.data=.seq xs n/\xs[0]?=aa f/\Looks M h (typeOf f) (.type T):=by
 obtain⟨_,_,as,r⟩:=hd;obtain⟨a,o,xs,n,e,ho,hc,hd,hi⟩:=lW r;cases e
 match k,hk,hi with
 |.int i::r,hk,hi=>
  cases hk;generalize hx:xs.toList=l at hi;cases hi with
  |cons h1 _=>
   cases h1 with
   |int _ t=>exact⟨o,xs,n,.int i t,ho,hc,hd,by rw[<-nW,hx];rfl,Looks.of_pure rfl⟩
 |.str x::r,hk,hi=>
  cases hk;generalize hx:xs.toList=l at hi;cases hi with
  |cons h1 _=>
   cases h1 with
   |str _ t=>exact⟨o,xs,n,.str x t,ho,hc,hd,by rw[<-nW,hx];rfl,Looks.of_pure rfl⟩
abbrev Ad9 (h:aP)(vs:aak)(kss:bv):Prop:=bY (λv k=>∃ b,v=eU b/\Abf h k b) vs kss
theorem ZA {M:Model}{h:aP}{T:String}:∀ {vs:aak} {kss:bv},Ad9 h vs kss->(∀ k∈kss,lE k=aa T)->∃ fs,KatTups h vs fs/\fs.length=vs.length/\∀ f∈fs,Looks M h (typeOf f) (.type T)
 |_,_,.nil,_=>⟨[],KatTups.nil,rfl,λ_ m=>by simp at m⟩
 |_,_,.cons ⟨b,e,hd⟩ t,hk=>by
  obtain⟨fs,h1,h2,h3⟩:=ZA (M:=M) t λk m=>hk k (bI _ m)
  obtain⟨o,xs,n,f,q1,q2,q3,q4,q5⟩:=g7 (M:=M) hd (hk _ bD);subst e;refine⟨f::fs,KatTups.cons q1 q2 q3 q4 h1,by rw[eX,eX,h2],λg m=>?_⟩
  rcases cI.1 m with rfl|m
  .exact q5
  .exact h3 g m
theorem Ad9.get:∀ {vs:aak} {kss:bv},Ad9 h vs kss->∀ i,i<vs.length->∃ b,vs.getD i eP=.ref b/\Abf h (kss.getD i []) b/\kss.getD i []∈kss
 |_,_,.nil,i,hi=>absurd hi (by simp)
 |_,_,.cons ⟨b,e,hd⟩ t,0,_=>⟨b,e,hd,bD⟩
 |_,_,.cons _ t,i+1,hi=>by
  obtain⟨b,q1,q2,q3⟩:=Ad9.get t i (by simpa using hi)
  exact⟨b,by simpa using q1,by simpa using q2,by simpa using bI _ q3⟩
theorem Ad9.keep(k:∀ b o,h.get? b=aa o->h'.get? b=aa o):∀ {vs:aak} {kss:bv},Ad9 h vs kss->Ad9 h' vs kss
 |_,_,.nil=>.nil
 |_,_,.cons ⟨b,e,hd⟩ t=>.cons ⟨b,e,hd.keep λb o _ _ q _ _=>k b o q⟩ (Ad9.keep k t)
theorem EE:∀ {k k':aag},eM k k'=af->k.length=k'.length
 |[],[],_=>rfl
 |.int _::r,.int _::r',h=>by rw[eX,eX,EE (by simpa [eM] using h)]
 |.str _::r,.str _::r',h=>by rw[eX,eX,EE (by simpa [eM] using h)]
theorem yQ:∀ {vs:aak} {ks:aag} {as:aan},jB h vs ks as->vs.length=ks.length
 |_,_,_,.nil=>rfl
 |_,_,_,.cons _ t=>by rw[eX,eX,yQ t]
theorem JT {α:Type}(xs:List α)(d:α):(bZ xs.length).map (λi=>xs.getD i d)=xs:=by
 apply AS
 .simp
 .intro i h1 h2;simp at h1;simp[h1]
theorem g6{P:wN->aF->Prop}(ho:s.heap.get? a=aa (gK "list" vs.toArray n))(h2:vs.length<2)(h:P (.done (.ret .none)) { s with heap:=AA s.heap a vs vs.toArray }) :
  aJ (aO prog w) A (Builtin.«list.sort» ⟨[.ref a],[]⟩) P E s:=by
 have lz:vs.length<=sizeLine:=by rw[kT];lia
 obtain⟨e1,zw⟩:∃ e,(s.heap.update a (eK λ_=>(#[]:Array aB))).get? a=aa (gK "list" #[] e):=⟨_,get?_update_seq ho λ_=>#[]⟩
 have zx:(lQ s.heap a vs).get? a=aa (gK "list" #[] e1):=bC _ (bC _ zw);rw[list_sort_plain];refine aE (listItems_at ho rfl (aE (FE ho rfl (aE (seqEpoch_at zw rfl (aE (NL (aE (FC (eG ?_) (cZ _))) (by simpa using lz))))) (by rw[dA];exact lz) (cZ _))))
 dsimp only;have few:vs.toArray.size<2:=by rw[dA];exact h2
 rw[if_pos few,if_pos few];refine aE (aH (aE (aH ?_)));have wy:(arrOf (SortSt.mk' general' (vs.toArray.zip vs.toArray) #[] 7 ab)).map (·.2)=vs.toArray:=by
  apply GG.1;have:∀ l:aak,List.map (λx=>x.snd) (l.zip l)=l:=λl=>by
   induction l with
   |nil=>rfl
   |cons a l ih=>rw[List.zip_cons_cons,dB,ih]
  simpa using this vs
 rw[wy];refine aE (seqEpoch_at zx rfl (aE (FE zx rfl ?_ (cZ _) (Nat.le_succ_of_le (by rw[dA];exact lz)))))
 simp only[bne_self_eq_false,rY,if_false];exact aH h
theorem IA:∀ {a b:aag},eM a b=af->bU a=bU b->a=b
 |[],[],_,_=>rfl
 |.int i::r,.int j::r',h,e=>by
  have e':gL (.int i)=gL (.int j)/\bU r=bU r':=by simpa [bU] using e
  rw[IX (.inl ⟨i,rfl⟩) (.inl ⟨j,rfl⟩) e'.1,IA (by simpa [eM] using h) e'.2]
 |.str x::r,.str y::r',h,e=>by
  have e':gL (.str x)=gL (.str y)/\bU r=bU r':=by simpa [bU] using e
  rw[IX (.inr ⟨x,rfl⟩) (.inr ⟨y,rfl⟩) e'.1,IA (by simpa [eM] using h) e'.2]
def leT (a b:aag):Bool:=!decide (bU b<bU a)
theorem Ag5 {a b:aag}:leT a b=af ↔ ¬ bU b<bU a:=by simp[leT]
theorem V8 (a b c:aag)(h1:leT a b=af)(h2:leT b c=af):leT a c=af:=Ag5.2 (EH _ _ _ (Ag5.1 h1) (Ag5.1 h2))
theorem A0f (a b:aag):(leT a b||leT b a)=af:=by
 by_cases h:bU b<bU a
 .have:=yS _ _ h;simp[leT,h,this]
 .simp[leT,h]
theorem Za {a b:aag}(hs:eM a b=af)(h1:leT a b=af)(h2:leT b a=af):a=b:=by
 exact IA hs (List.le_antisymm (Ag5.1 h1) (Ag5.1 h2))
def jH (kss:bv):bv:=kss.mergeSort leT
def sameAll (kss:bv):Bool:=kss.all λk=>kss.all λk'=>eM k k'
def jm (kss:bv):Bool:=decide (kss.length<2)||(sameAll kss&&kss.all λk=>(lE k).isSome)
theorem tP (kss:bv):(jH kss).Perm kss:=FU kss leT
theorem LK (kss:bv):(jH kss).Pairwise λa b=>leT a b=af:=Iw V8 A0f kss
theorem YA(hs:jm kss=af)(hp:qs.Perm kss)(hr:qs.Pairwise λa b=>leT a b=af):qs=jH kss:=by
 have jz:=hp.trans (tP kss).symm;by_cases h2:kss.length<2
 .have l1:qs.length<2:=by rw[hp.length_eq];exact h2
  match qs,l1,jz with
  |[],_,jz=>exact(List.nil_perm.1 jz).symm
  |[q],_,jz=>exact List.singleton_perm.1 jz
 .have zi:sameAll kss=af:=by
   have:(sameAll kss&&kss.all λk=>(lE k).isSome)=af:=by simpa [jm,h2] using hs
   exact(jO.1 this).1
  refine Jo (λa b ma mb h1 h2=>Za ?_ h1 h2) hr (LK kss) jz
  exact eB.1 (eB.1 zi a (hp.mem_iff.1 ma)) b ((tP kss).mem_iff.1 mb)
theorem same_kind:∀ {k k':aag},eM k k'=af->lE k=lE k'
 |[],[],_=>rfl
 |.int _::_,.int _::_,_=>rfl
 |.str _::_,.str _::_,_=>rfl
theorem Wp {k:aag}(h:lE k=aa T):T = "int" \/ T = "str":=by
 unfold lE at h;split at h
 .cases h;exact .inl rfl
 .cases h;exact .inr rfl
 .cases h
theorem WL {h0:aP}{fj:bv}{lt:aag->aag->Bool}{P:wN->aF->Prop}(O:Ord λi j=>lt (kss.getD i []) (kss.getD j []))(ho:s.heap.get? a=aa (gK "list" vs.toArray n))(ht:Ad9 h0 vs kss)(kp:∀ b o,h0.get? b=aa o->(lQ s.heap a vs).get? b=aa o)(kg:vs.length<64)
  (ok:2<=kss.length->∃ T,(T = "int" \/ T = "str")/\(∀ k∈kss,lE k=aa T)/\∀ k∈kss,∀ k'∈kss,k.length=k'.length/\∀ {b:Bool} {vs qy:aak} {as kz:aan} {s:aF} {Q:Bool->aF->Prop},jB s.heap vs k as->jB s.heap qy k' kz->Q (lt k k') s->KatLex prog w A b ah Q (vs.zip qy) 0 s)
  (one:∀ qs:bv,qs.Perm kss->qs.Pairwise (λa b=>lt b a=ah)->qs=fj)
  (h:∀ p:aaq,p.Perm (bZ vs.length)->p.map (λi=>kss.getD i [])=fj->P (.done (.ret .none)) { s with heap:=AA s.heap a vs (iV (p.map λi=>vs.getD i eP)) }) :
  aJ (aO prog w) A (Builtin.«list.sort» ⟨[.ref a],[]⟩) P E s:=by
 have ln:=iU ht;by_cases h2:vs.length<2
 .refine g6 ho h2 ?_;have:=h (bZ vs.length) (List.Perm.refl _) (by
   rw[ln,JT kss];refine one kss (List.Perm.refl _) ?_
   match kss,ln with
   |[],_=>exact .nil
   |[k],_=>simp
   | _::_::_,ln=>simp at ln;lia)
  rw[JT vs] at this;exact this
 .obtain⟨T,hT,hk,sm⟩:=ok ()
  have zy:=ht.keep kp;refine Te (κ:=tuples' (iG T != iG "tuple")) O ho () kg (λR q=>?_) (λi j C hi hj q=>?_) λp hp ha=>?_
  .obtain⟨fs,f1,f2,f3⟩:=ZA (M:=aO prog w) zy hk;exact kat_kind f1 () f3 (by rcases hT with rfl|rfl<;>decide) q
  .obtain⟨b,e1,⟨_,_,as,r1⟩,m1⟩:=zy.get i hi;obtain⟨b',e2,⟨_,_,kz,r2⟩,m2⟩:=zy.get j hj;rw[e1,e2];obtain⟨_,o,xs,n,z,ho,_,hd,hr⟩:=lW r1;cases z;obtain⟨_,o',jd,n',z,wg,_,lx,sK⟩:=lW r2;cases z;obtain⟨ll,lex⟩:=sm _ m1 _ m2;have l1:=yQ hr;have l2:=yQ sK;have:decide (xs.size<jd.size)=ah:=decide_eq_false (by simp only[gA] at l1 l2;lia)
   refine kat_lt ho hd wg lx ?_;rw[this];exact lex hr sK q
  .have jz:p.toList.Perm (bZ vs.length):=by simpa using Array.perm_iff_toList_perm.1 hp
   have pl:p.toList.length=vs.length:=by rw[jz.length_eq,AO]
   refine h p.toList jz (one _ ?_ ?_)
   .have:=jz.map (λi=>kss.getD i [])
    rw[ln,JT kss] at this;exact this
   .rw[uC,Iy];intro i j hi hj ky;have:=ha i j (mE ky) ()
    have e1:at' p i=p.toList[i]:=by simp at hi;simp[at',hi]
    have e2:at' p j=p.toList[j]:=by simp at hj;simp[at',hj]
    rw[e1,e2] at this;exact this
theorem WB {h0:aP}{P:wN->aF->Prop}(ho:s.heap.get? a=aa (gK "list" vs.toArray n))(ht:Ad9 h0 vs kss)(kp:∀ b o,h0.get? b=aa o->(lQ s.heap a vs).get? b=aa o)(ok:jm kss=af)(kg:vs.length<64)
  (h:∀ p:aaq,p.Perm (bZ vs.length)->p.map (λi=>kss.getD i [])=jH kss->P (.done (.ret .none)) { s with heap:=AA s.heap a vs (iV (p.map λi=>vs.getD i eP)) }) :
  aJ (aO prog w) A (Builtin.«list.sort» ⟨[.ref a],[]⟩) P E s:=
 WL (lt:=λa b=>decide (bU a<bU b)) (Ta kss) ho ht kp kg (λh2=>by
  have hs:sameAll kss=af/\(kss.all λk=>(lE k).isSome)=af:=by
   have h2':¬ kss.length<2:=()
   have:(sameAll kss&&kss.all λk=>(lE k).isSome)=af:=by simpa [jm,h2'] using ok
   exact jO.1 this
  have m0:kss[0]∈kss:=nB _;obtain⟨T,hT⟩:=FN.1 (eB.1 hs.2 _ m0);have sm:∀ k∈kss,∀ k'∈kss,eM k k'=af:=λk m k' m'=>eB.1 (eB.1 hs.1 k m) k' m'
  exact⟨T,Wp hT,λk m=>(same_kind (sm k m _ m0)).trans hT,λk m k' m'=>⟨EE (sm k m k' m'),λhr sK q=>MP _ _ 0 (sm k m k' m') hr sK q⟩⟩)
  (λqs hp hr=>YA ok hp (hr.imp λe=>Ag5.2 (of_decide_eq_false e))) h
theorem l4(hl:s.heap.IsList l vs.toArray)(ht:Ad9 s.heap vs kss)(ok:jm kss=af)(kg:vs.length<64)
  (h:∀ p:aaq,p.Perm (bZ vs.length)->p.map (λi=>kss.getD i [])=jH kss->Q (.ref (s.heap.objs.size+1)) { s with heap:=sortedAll s.heap vs (iV (p.map λi=>vs.getD i eP)) }) :
  aJ (aO prog w) A (call (.builtin "sorted") [.ref l]) Q E s:=by
 refine Jv kind_sorted plain_sorted entry_sorted (args_sorted1 _) (aE (aH (aE (collect_list hl (aE (FC ?_))))));have z:((s.heap.push (gK "list" #[] 0)).update s.heap.objs.size (eK (· ++ vs.toArray))).objs.size=s.heap.objs.size+1:=by rw[Heap.size_update,size_push']
 have tf:(((s.heap.push (gK "list" #[] 0)).update s.heap.objs.size (eK (· ++ vs.toArray))).push (gK "list" vs.toArray 0)).get? (s.heap.objs.size+1)=aa (gK "list" vs.toArray 0):=z ▸ cH _ rfl;rw[z];refine aE (eG (fK slot_list_sort ⟨_,tf,rfl⟩ entry_list_sort (WB (h0:=s.heap) tf ht (λb o e=>by
  have hb:=bN e;refine Fo b o (λq=>?_) (bC _ (((xC _ s.heap.objs.size _).2 b (λq=>?_)).trans (bC _ e)))
  all_goals grind) ok kg λp hp hs=>⟨_,rfl,?_⟩) (args_list_sort _)))
 exact aH ⟨_,rfl,h p hp hs⟩
section
variable {X:Cx}
abbrev uU (H:Hp)(ys:aai)(kss:bv):Prop:=bY (λy k=>∃ b,y=V.ref b/\Ajz H k b) ys kss
theorem WD:∀ {kss:bv} {ys:aai},(∀ ks∈kss,bS ks=af/\cU ks<=6)->Aan K H (kss.map cD) ys->uU H ys kss
 |[],ys,_,r=>by rw[Aah.1 r];exact .nil
 |k::kss,ys,hk,r=>by
  obtain⟨v,t,rfl,r1,r2⟩:=Aac.1 r;obtain⟨b,rfl,tk⟩:=r1.tupK (hk k bD).1 (hk k bD).2;exact .cons ⟨b,rfl,tk⟩ (WD (λx m=>hk x (bI _ m)) r2)
theorem VR(x:∀ c zs,H c=aa (.tup zs)->H' c=aa (.tup zs)):∀ {ys:aai} {kss:bv},uU H ys kss->uU H' ys kss
 |_,_,.nil=>.nil
 |_,_,.cons ⟨b,e,tk⟩ t=>.cons ⟨b,e,tk.keep x⟩ (VR x t)
theorem Fk {P:bE}(ok:HOk P w H h):∀ {ys:aai} {kss:bv} {vs:aak},uU H ys kss->Vals ys vs->Ad9 h vs kss
 |_,_,_,.nil,.nil=>.nil
 |_,_,_,.cons ⟨b,e,tk⟩ t,.cons r rr=>by
  subst e;cases r;exact .cons ⟨b,rfl,key_of ok tk⟩ (Fk ok t rr)
def sS (p:aaq)(ys:aai):aai:=p.map λi=>ys.getD i .non
theorem ZP:∀ {ys:aai} {vs:aak} (i:Nat),Vals ys vs->i<ys.length->RelV (ys.getD i .non) (vs.getD i eP)
 |_,_,0,.cons r _,_=>r
 |_,_,i+1,.cons _ t,h=>ZP i t (by simpa using h)
theorem ZX(r:Vals ys vs):∀ p:aaq,(∀ i∈p,i<ys.length)->Vals (sS p ys) (p.map λi=>vs.getD i eP)
 |[],_=>.nil
 |i::p,h=>.cons (ZP i r (h i bD)) (ZX r p λj m=>h j (bI _ m))
theorem G6:Ack X (.builtin "sorted") (λxs H Q=>∃ p ys kss,xs=[.ref p]/\SqL X.K H p ys/\uU H ys kss/\jm kss=af/\kss.length<64 /\
  ∀ l q,H l=ab->q.Perm (bZ ys.length)->q.map (λi=>kss.getD i [])=jH kss->Q (.ref l) (ax H l (.lst (sS q ys)))):=by
 rw[3];obtain⟨p,ys,kss,rfl,hp,rf,ok,hl,q⟩:=h;rw[4];obtain⟨its,rv,pl,hz⟩:=I.list hp;have e1:=rv.length;have e2:=iU rf;refine l4 pl.isList (Fk I.hok rf rv) ok () λq' jz hs=>?_
 obtain⟨e,he⟩:=sortedAll_at s.heap its (iV (q'.map λi=>its.getD i eP))
 have lz:(sS q' ys).length<=sizeLine:=by
  unfold sS;rw[bT,jz.length_eq,AO]
  lia
 exact⟨.ref (s.heap.objs.size+1),_,I.laid (t':=s.toks) (o:=.lst (sS q' ys)) (λb ob g=>sortedAll_old g) (rS _) ⟨lz,_,e,ZX rv q' (λi m=>by
  have:=eQ.1 (jz.mem_iff.1 m)
  lia),he⟩,rfl,q _ q' (I.hok.fresh (rS _)) (by rw[e1];exact jz) hs⟩
def xU:aag->aah
 |[.list ds]=>(gC ds).bind λkss=>if jm kss=af/\kss.length<64 then aa (.list ((jH kss).map cD)) else ab
 |_=>ab
theorem Aj:∀ {kss:bv} {ys:aai} (i:Nat),Aan K H (kss.map cD) ys->i<ys.length->Abg K H (.tuple (kss.getD i [])) (ys.getD i .non)
 |[],ys,i,r,h=>by rw[Aah.1 r] at h;simp at h
 |k::kss,ys,0,r,h=>by
  obtain⟨v,t,rfl,r1,r2⟩:=Aac.1 r;exact r1
 |k::kss,ys,i+1,r,h=>by
  obtain⟨v,t,rfl,r1,r2⟩:=Aac.1 r;exact Aj i r2 (by simpa using h)
theorem Ae(r:Aan K H (kss.map cD) ys):∀ p:aaq,(∀ i∈p,i<ys.length)->Aan K H ((p.map λi=>kss.getD i []).map cD) (sS p ys)
 |[],_=>Aah.2 rfl
 |i::p,h=>Aac.2 ⟨_,_,rfl,Aj i r (h i bD),Ae r p λj m=>h j (bI _ m)⟩
theorem D6:CallD K 1 (λxs H Q=>∃ p ys kss,xs=[.ref p]/\SqL K H p ys/\uU H ys kss/\jm kss=af/\kss.length<64 /\
  ∀ l q,H l=ab->q.Perm (bZ ys.length)->q.map (λi=>kss.getD i [])=jH kss->Q (.ref l) (ax H l (.lst (sS q ys)))) xU:=λP H xs ds d Q hP r e k=>by
 unfold xU at e;split at e
 .obtain⟨kss,e1,e2⟩:=ar e;obtain⟨⟨ok,hl⟩,rfl⟩:=cJ e2;obtain⟨rfl,hk⟩:=JC e1;rw[7];obtain⟨q,ys,rfl,hq,rr⟩:=Aav.1 r';refine⟨q,ys,kss,rfl,Aam.sqL hq,?_,ok,hl,λl p hn hp hs=>?_⟩
  .exact VR (λc zs g=>Aam _ _ g) (WD hk rr)
  .have hi:∀ i∈p,i<ys.length:=λi m=>eQ.1 (hp.mem_iff.1 m)
   have:=Ae rr p hi;rw[hs] at this;exact k.lst hP hn this
 .cases e
theorem HK:∀ {ns:aaj} {vs:aak},Vals (ns.map V.int) vs->oX vs ns
 |[],_,.nil=>.nil
 |n::ns,_,.cons ⟨t,e⟩ r=>by
  subst e;exact .cons n t (HK r)
theorem RZ:∀ {ns:aaj} {vs:aak},oX vs ns->Vals (ns.map V.int) vs
 |_,_,.nil=>.nil
 |_,_,.cons n t h=>.cons ⟨t,rfl⟩ (RZ h)
noncomputable def kC:aag->Option aaj
 |[]=>aa []
 |.int i::r=>(kC r).bind λis=>aa (i::is)
 |_::_=>ab
theorem CU:∀ {ds:aag} {is:aaj},kC ds=aa is->ds=is.map aU
 |[],is,e=>by cases e;rfl
 |.int i::ds,is,e=>by
  obtain⟨is',e1,e2⟩:=ar (show((kC ds).bind λis=>aa (i::is))=aa is from e)
  cases e2;rw[CU e1]
  rfl
 |.none::_,_,e=>by cases e
 |.bool _::_,_,e=>by cases e
 |.str _::_,_,e=>by cases e
 |.list _::_,_,e=>by cases e
 |.tuple _::_,_,e=>by cases e
 |.dict _::_,_,e=>by cases e
theorem ER:∀ {is:aaj} {ys:aai},Aan K H (is.map aU) ys->ys=is.map V.int
 |[],ys,r=>Aah.1 r
 |i::is,ys,r=>by
  obtain⟨v,t,rfl,r1,r2⟩:=Aac.1 r;rw[Aaj.1 r1,ER r2]
  rfl
def sortI (is:aaj):aaj:=is.mergeSort λa b=>decide (a<=b)
theorem o7 {js:aaj}(hp:js.Perm is)(hr:js.Pairwise (· <= ·)):js=sortI is:=by
 refine Jo (le:=(· <= ·)) (λa b _ _ h1 h2=>Int.le_antisymm h1 h2) hr ?_ (hp.trans (FU is _).symm)
 have:=Iw (le:=λa b:Int=>decide (a<=b)) (λa b c h1 h2=>decide_eq_true (Int.le_trans (of_decide_eq_true h1) (of_decide_eq_true h2))) (λa b=>by
  rcases Int.le_total a b with h|h<;>simp[h]) is
 exact this.imp λh=>of_decide_eq_true h
end
def sNo:SF:=λ_=>ab
theorem Np {X:Cx}{s:eI}:DS X H0 P0 n0 s sNo:=λad st Z H D I q=>by
 obtain⟨B0,Y,fp,o,S,ef,k⟩:=q;cases ef
open PySem PySem.SetTable
def mL (xs:Array Nat):Prop:=∀ a b u v:Nat,a<b->xs[a]?=aa u->xs[b]?=aa v->u<v
theorem JS {xs:Array Nat}(hr:mL xs):∀ fuel lo hi,hi<=xs.size->lo<=hi->hi-lo<=fuel->(∀ k<lo,∀ v,xs[k]?=aa v->v<j)->(∀ k,hi<=k->∀ v,xs[k]?=aa v->j<=v) ->
  below.go xs j fuel lo hi<=xs.size/\(∀ k<below.go xs j fuel lo hi,∀ v,xs[k]?=aa v->v<j)/\∀ k,below.go xs j fuel lo hi<=k->∀ v,xs[k]?=aa v->j<=v
 |0,lo,hi,h1,h2,h3,hl,hh=>by
  have:lo=hi:=()
  subst this;exact⟨h1,hl,hh⟩
 |fuel+1,lo,hi,h1,h2,h3,hl,hh=>by
  unfold below.go;by_cases c:lo<hi
  .rw[if_pos c];have hm:(lo+hi)/2<xs.size:=()
   have em:=jP hm;have eg:xs.getD ((lo+hi)/2) j=xs[(lo+hi)/2]:=by simp[Array.getD,hm]
   simp only[eg];by_cases d:xs[(lo+hi)/2]<j
   .rw[if_pos d];refine JS hr fuel _ _ h1 () () (λk hk v ev=>?_) hh
    by_cases q:k=(lo+hi)/2
    .subst q;rw[em] at ev;cases ev;exact d
    .have:=hr k ((lo+hi)/2) v _ () ev em
     lia
   .rw[if_neg d];refine JS hr fuel _ _ () () () hl (λk hk v ev=>?_)
    by_cases q:k=(lo+hi)/2
    .subst q;rw[em] at ev;cases ev;lia
    .have:=hr ((lo+hi)/2) k _ v () em ev
     lia
  .rw[if_neg c];have:lo=hi:=()
   subst this;exact⟨h1,hl,hh⟩
theorem EM {xs:Array Nat}(hr:mL xs)(j:Nat):below xs j<=xs.size/\(∀ k<below xs j,∀ v,xs[k]?=aa v->v<j)/\∀ k,below xs j<=k->∀ v,xs[k]?=aa v->j<=v:=
 JS hr xs.size 0 xs.size (bA _) (cZ _) () (λk hk=>absurd hk ()) (λk hk v ev=>by
  have:=(rZ.1 ev).1
  lia)
theorem below_at {xs:Array Nat}(hr:mL xs){i:Nat}(h:xs[i]?=aa j):below xs j=i:=by
 obtain⟨h1,h2,h3⟩:=EM hr j;rcases AJ (below xs j) i with q|q|q
 .have hi:=(rZ.1 h).1;have e:xs[below xs j]?=aa (xs[below xs j]'()):=jP ()
  have a:=h3 _ (bA _) _ e;have b:=hr _ _ _ _ q e h
  lia
 .exact q
 .have:=h2 i q j h
  lia
theorem Ha (j:Nat):has #[] j=ah:=by simp[has]
theorem DZ(hd:t.dummies = #[])(hr:mL t.place){i:Nat}:t.slot j=.live i↔t.place[i]?=aa j:=by
 unfold slot;rw[hd,Ha];dsimp only;constructor
 .intro h;split at h
  .rename_i c;cases h;simpa using c
  .simp at h
 .intro h;rw[below_at hr h,h];simp
theorem A0(hd:t.dummies = #[])(hr:mL t.place)(h:∀ i:Nat,t.place[i]?≠aa j):t.slot j=.empty:=by
 unfold slot;rw[hd,Ha];rw[if_neg (by simpa using h _)]
 rfl
noncomputable def nk (mask:Nat)(p:Probe):Probe:=if p.more > 0 then { p with j:=p.j+1,more:=p.more-1 } else
 { p with j:=(leap mask p.i p.perturb).1,more:=runEnd mask (leap mask p.i p.perturb).1-(leap mask p.i p.perturb).1,i:=(leap mask p.i p.perturb).1,perturb:=(leap mask p.i p.perturb).2 }
theorem LC (t:cY)(p:Probe):t.advance p=nk t.mask p:=by
 rfl
def pN (mask:Nat)(p:Probe):Nat->Probe
 |0=>p
 |n+1=>nk mask (pN mask p n)
theorem MH (mask:Nat)(p:Probe)(a:Nat):∀ b,pN mask (pN mask p a) b=pN mask p (a+b)
 |0=>rfl
 |b+1=>by
  show nk mask (pN mask (pN mask p a) b)=nk mask (pN mask p (a+b));rw[MH mask p a b]
def nq (mask i bx:Nat):Probe:={ j:=i,more:=runEnd mask i-i,i,perturb:=bx,dummy:=ab }
theorem Qo (mask i:Nat):runEnd mask i-i<=9:=by
 unfold runEnd;split<;>lia
theorem IR (mask i bx:Nat):∀ k,k<=runEnd mask i-i->pN mask (nq mask i bx) k={ j:=i+k,more:=runEnd mask i-i-k,i,perturb:=bx,dummy:=ab }
 |0,_=>rfl
 |k+1,h=>by
  show nk mask (pN mask (nq mask i bx) k)=_;rw[IR mask i bx k ()]
  unfold nk;rw[if_pos (by show runEnd mask i-i-k > 0;lia)]
  rfl
theorem XF (mask i bx:Nat):pN mask (nq mask i bx) (runEnd mask i-i+1)=nq mask (leap mask i bx).1 (leap mask i bx).2:=by
 show nk mask (pN mask (nq mask i bx) (runEnd mask i-i))=_;rw[IR mask i bx _ (bA _)];unfold nk;rw[if_neg (by show ¬ (runEnd mask i-i-(runEnd mask i-i) > 0);lia)]
 rfl
def lp (mask:Nat)(s:Nat×Nat):Nat->Nat×Nat
 |0=>s
 |m+1=>leap mask (lp mask s m).1 (lp mask s m).2
theorem WI (mask i bx:Nat):∀ m,∃ n,n<=10*m/\pN mask (nq mask i bx) n=nq mask (lp mask (i,bx) m).1 (lp mask (i,bx) m).2
 |0=>⟨0,(),rfl⟩
 |m+1=>by
  obtain⟨n,hn,e⟩:=WI mask i bx m;have b:=Qo mask (lp mask (i,bx) m).1;refine⟨n+(runEnd mask (lp mask (i,bx) m).1-(lp mask (i,bx) m).1+1),(),?_⟩
  rw[<-MH,e,XF]
  rfl
theorem TB (mask i bx:Nat):∀ m,(lp mask (i,bx) m).2=bx/32^m
 |0=>by simp[lp]
 |m+1=>by
  show(lp mask (i,bx) m).2/32=_;rw[TB mask i bx m,Nat.div_div_eq_div_mul,FP]
def xp (mask:Nat)(i:Nat):Nat->Nat
 |0=>i
 |m+1=>(xp mask i m*5+1)%(mask+1)
def nL (mask:Nat):Prop:=mask=7\/mask=31\/mask=127\/mask=511\/mask=2047\/mask=8191
def gN (x:Nat):Nat->Nat
 |0=>x
 |m+1=>gN x m*5+1
theorem SO (x a:Nat):∀ b,gN (gN x a) b=gN x (a+b)
 |0=>rfl
 |b+1=>by
  show gN (gN x a) b*5+1=gN x (a+b)*5+1;rw[SO x a b]
theorem TX (x:Nat):∀ m,4*gN x m+1=5^m*(4*x+1)
 |0=>by simp[gN]
 |m+1=>by
  show 4*(gN x m*5+1)+1=5^(m+1)*(4*x+1);have:=TX x m;rw[FP,Nat.mul_comm (5^m) 5,Nat.mul_assoc,<-this]
  lia
theorem VF:∀ k,∃ q,5^2^k=1+2^k*(4*(2*q+1))
 |0=>⟨0,rfl⟩
 |k+1=>by
  obtain⟨q,e⟩:=VF k;refine⟨q+2^k*((2*q+1)*(2*q+1)),?_⟩;rw[FP 2 k,Nat.mul_comm (2^k) 2,Nat.two_mul,Nat.pow_add,e];generalize 2^k=M;generalize hu:2*q+1=u;have e2:2*(q+M*(u*u))+1=u+2*(M*(u*u)):=()
  rw[e2]
  lia
theorem Ug (x k:Nat):∃ q,gN x (2^k)=x+2^k*(2*q+1):=by
 obtain⟨q,e⟩:=VF k;have h:=TX x (2^k);rw[e] at h;refine⟨q*(4*x+1)+2*x,?_⟩;have e2:2*(q*(4*x+1)+2*x)+1=(2*q+1)*(4*x+1):=by
  lia
 rw[e2];generalize 2^k=M at h;generalize(2*q+1)=u at h
 lia
theorem TN:∀ (k x e:Nat),∃ m,m<2^k/\gN x m%2^k=e%2^k
 |0,x,e=>⟨0,by simp,by simp[Nat.mod_one]⟩
 |k+1,x,e=>by
  obtain⟨m,hm,h⟩:=TN k x e;have sp:∀ y:Nat,y%2^(k+1)=y%2^k+2^k*(y/2^k%2):=λy=>by rw[FP,Nat.mod_mul]
  by_cases c:gN x m/2^k%2=e/2^k%2
  .exact⟨m,(),by rw[sp,sp,h,c]⟩
  .obtain⟨q,hq⟩:=Ug (gN x m) k;refine⟨m+2^k,(),?_⟩
   rw[<-SO,hq,sp,sp,Nat.add_mul_mod_self_left,Nat.add_mul_div_left _ _ (Nat.two_pow_pos k),h]
   congr 2
   lia
theorem UK (mask i:Nat)(hi:i<=mask):∀ m,xp mask i m=gN i m%(mask+1)
 |0=>by
  show i=i%(mask+1);exact(Nat.mod_eq_of_lt ()).symm
 |m+1=>by
  show(xp mask i m*5+1)%(mask+1)=(gN i m*5+1)%(mask+1);rw[UK mask i hi m];simp[Nat.add_mod,Nat.mul_mod]
theorem vM(hk:mask+1=2^k){i e:Nat}(hi:i<=mask)(he:e<=mask):∃ m,m<=mask/\xp mask i m=e:=by
 obtain⟨m,h1,h2⟩:=TN k i e;refine⟨m,(),?_⟩
 rw[UK mask i hi,hk,h2,<-hk];exact Nat.mod_eq_of_lt ()
theorem Ya(hm:nL mask){i e:Nat}(hi:i<=mask)(he:e<=mask):∃ m,m<=mask/\xp mask i m=e:=by
 rcases hm with rfl|rfl|rfl|rfl|rfl|rfl
 .exact vM (k:=3) rfl hi he
 .exact vM (k:=5) rfl hi he
 .exact vM (k:=7) rfl hi he
 .exact vM (k:=9) rfl hi he
 .exact vM (k:=11) rfl hi he
 .exact vM (k:=13) rfl hi he
theorem Hm (h:Int):bits h<2^64:=by
 unfold bits
 lia
theorem TL {i:Nat}(hp:bx<2^64):∀ m,(lp mask (i,bx) (13+m)).1=xp mask (lp mask (i,bx) 13).1 m
 |0=>rfl
 |m+1=>by
  show((lp mask (i,bx) (13+m)).1*5+1+(lp mask (i,bx) (13+m)).2/32)%(mask+1)=(xp mask (lp mask (i,bx) 13).1 m*5+1)%(mask+1);rw[TL hp m,TB];have:bx/32^(13+m)=0:=by
   apply Nat.div_eq_of_lt;refine jC hp ?_;rw[Nat.pow_add]
   calc 2^64<=32^13:=by decide
    _<=32^13*32^m:=aAi _ (Nat.pow_pos nofun)
  rw[this]
theorem Nf {i:Nat}:∀ m,0<m->(lp mask (i,bx) m).1<=mask
 |0,h=>absurd h ()
 |m+1,_=>by
  show((lp mask (i,bx) m).1*5+1+(lp mask (i,bx) m).2/32)%(mask+1)<=mask;have:=wO ((lp mask (i,bx) m).1*5+1+(lp mask (i,bx) m).2/32) (show 0<mask+1 by lia)
  lia
theorem XR(hm:nL mask){i e:Nat}(hp:bx<2^64)(he:e<=mask):∃ m,m<=13+mask/\(lp mask (i,bx) m).1=e:=by
 obtain⟨m,h1,h2⟩:=Ya hm (Nf 13 ()) he
 exact⟨13+m,(),by rw[TL hp];exact h2⟩
def rd (mask:Nat)(h:Int)(n:Nat):Probe:=pN mask (nq mask (bits h%(mask+1)) (bits h)) n
theorem WM(hm:nL mask)(h:Int){e:Nat}(he:e<=mask):∃ n,n<10*turns mask/\(rd mask h n).j=e:=by
 obtain⟨m,h1,h2⟩:=XR hm (Hm h) he;obtain⟨n,h3,h4⟩:=WI mask (bits h%(mask+1)) (bits h) m;refine⟨n,by unfold turns;lia,?_⟩
 unfold rd;rw[h4];exact h2
theorem o5 (mask:Nat)(p:Probe):(nk mask p).dummy=p.dummy:=by
 unfold nk;split<;>rfl
theorem VW (mask:Nat)(h:Int):∀ n,(rd mask h n).dummy=ab
 |0=>rfl
 |n+1=>by
  show(nk mask (rd mask h n)).dummy=ab;rw[o5];exact VW mask h n
def iK (t:cY)(j:Nat):Prop:=∃ i:Nat,t.place[i]?=aa j
structure Good (t:cY)(es:Array (Int×aB)):Prop where
 small:nL t.mask
 nod:t.dummies = #[]
 ris:mL t.place
 len:t.place.size=es.size
 inb:∀ i j:Nat,t.place[i]?=aa j->j<=t.mask
 room:es.size<=t.mask
 reach:∀ (i j:Nat) (e:Int×aB),t.place[i]?=aa j->es[i]?=aa e->∃ n,(rd t.mask e.1 n).j=j/\∀ m<n,iK t (rd t.mask e.1 m).j
theorem rank {xs:Array Nat}(hr:mL xs):∀ e,(∀ v≤e,∃ i:Nat,xs[i]?=aa v)->∃ i:Nat,xs[i]?=aa e/\e<=i
 |0,h=>by
  obtain⟨i,q⟩:=h 0 (bA _);exact⟨i,q,cZ _⟩
 |e+1,h=>by
  obtain⟨i,q,hi⟩:=rank hr e λv hv=>h v ()
  obtain⟨k,qk⟩:=h (e+1) (bA _);refine⟨k,qk,?_⟩;rcases AJ i k with c|c|c
  .lia
  .subst c;rw[q] at qk;simp at qk
  .have:=hr k i _ _ c qk q
   lia
theorem Good.empty(G:Good t es):∃ e,e<=t.mask/\¬ iK t e:=by
 apply QB;intro hn;obtain⟨i,q,hi⟩:=rank G.ris t.mask (λv hv=>QB λq=>hn ⟨v,hv,q⟩)
 have h1:=(rZ.1 q).1;have h2:=G.len;have h3:=G.room
 lia
theorem WQ(h:¬ iK t j):∀ i:Nat,t.place[i]?≠aa j:=λi e=>h ⟨i,e⟩
section
variable {hashAt:Nat->Int}{h:Int}
theorem WW (hd:t.dummies = #[])(hr:mL t.place):∀ k n fuel,k<fuel->(∀ m,n<=m->m<n+k->∃ i:Nat,t.place[i]?=aa (rd t.mask h m).j/\hashAt i≠h)->¬ iK t (rd t.mask h (n+k)).j ->
  probe.go t hashAt h fuel (rd t.mask h n)=aa (.empty (rd t.mask h (n+k)).j ab)
 |_,_,0,hf,_,_=>absurd hf ()
 |0,n,fuel+1,_,_,he=>by
  rw[Nat.add_zero] at he ⊢;unfold probe.go;rw[A0 hd hr (WQ he),VW]
  rfl
 |k+1,n,fuel+1,hf,hm,he=>by
  obtain⟨i,e,dw⟩:=hm n (bA _) ()
  unfold probe.go;rw[(DZ hd hr).2 e];dsimp only;rw[if_neg (by simpa using dw),LC]
  have:=WW hd hr k (n+1) fuel () (λm a b=>hm m () ()) (by rw[show n+1+k=n+(k+1) by lia];exact he)
  rw[show n+1+k=n+(k+1) by lia] at this
  exact this
theorem Es (hd:t.dummies = #[])(hr:mL t.place){i0:Nat}(h0:hashAt i0=h):∀ k n fuel,k<fuel->(∀ m,n<=m->m<n+k->∃ i:Nat,t.place[i]?=aa (rd t.mask h m).j/\hashAt i≠h)->t.place[i0]?=aa (rd t.mask h (n+k)).j ->
  probe.go t hashAt h fuel (rd t.mask h n)=aa (.candidate (rd t.mask h (n+k)).j i0 (rd t.mask h (n+k+1)))
 |_,_,0,hf,_,_=>absurd hf ()
 |0,n,fuel+1,_,_,he=>by
  rw[Nat.add_zero] at he ⊢;unfold probe.go;rw[(DZ hd hr).2 he];dsimp only;rw[if_pos (by simpa using h0),LC]
  rfl
 |k+1,n,fuel+1,hf,hm,he=>by
  obtain⟨i,e,dw⟩:=hm n (bA _) ()
  unfold probe.go;rw[(DZ hd hr).2 e];dsimp only;rw[if_neg (by simpa using dw),LC]
  have:=Es hd hr h0 k (n+1) fuel () (λm a b=>hm m () ()) (by rw[show n+1+k=n+(k+1) by lia];exact he)
  rw[show n+1+k=n+(k+1) by lia] at this
  exact this
theorem Br (S:Nat->Prop):∀ d n,S (n+d)->∃ k,k<=d/\(∀ m,n<=m->m<n+k->¬ S m)/\S (n+k)
 |0,n,h=>⟨0,bA _,λm a b=>absurd b (),h⟩
 |d+1,n,h=>by
  by_cases c:S n
  .exact⟨0,cZ _,λm a b=>absurd b (),c⟩
  .obtain⟨k,h1,h2,h3⟩:=Br S d (n+1) (by rw[show n+1+d=n+(d+1) by lia];exact h)
   refine⟨k+1,(),λm a b=>?_,by rw[show n+(k+1)=n+1+k by lia];exact h3⟩
   by_cases q:m=n
   .subst q;exact c
   .exact h2 m () ()
theorem Good.next(G:Good t es)(h:Int)(hv:∀ m<n,iK t (rd t.mask h m).j):∃ k,n+k<10*turns t.mask/\(∀ m,n<=m->m<n+k->∃ i:Nat,t.place[i]?=aa (rd t.mask h m).j/\hashAt i≠h) /\
  ((¬ iK t (rd t.mask h (n+k)).j/\t.probe hashAt h (rd t.mask h n)=aa (.empty (rd t.mask h (n+k)).j ab)) \/
   ∃ i:Nat,t.place[i]?=aa (rd t.mask h (n+k)).j/\hashAt i=h/\t.probe hashAt h (rd t.mask h n)=aa (.candidate (rd t.mask h (n+k)).j i (rd t.mask h (n+k+1)))):=by
 obtain⟨e,he,dw⟩:=G.empty;obtain⟨N,hN,eN⟩:=WM G.small h he;have hnN:n<=N:=by
  rcases wQ N n with c|c
  .exact absurd (eN ▸ hv N c) dw
  .exact c
 obtain⟨d,rfl⟩:=Nat.exists_eq_add_of_le hnN;obtain⟨k,hk,h1,h2⟩:=Br (λm=>¬ iK t (rd t.mask h m).j\/∃ i:Nat,t.place[i]?=aa (rd t.mask h m).j/\hashAt i=h) d n (.inl (by rw[eN];exact dw))
 have hm:∀ m,n<=m->m<n+k->∃ i:Nat,t.place[i]?=aa (rd t.mask h m).j/\hashAt i≠h:=λm a b=>by
  have q:=h1 m a b;obtain⟨i,ei⟩:=QB λz=>q (.inl z)
  exact⟨i,ei,λz=>q (.inr ⟨i,ei,z⟩)⟩
 refine⟨k,(),hm,?_⟩
 rcases h2 with h2|⟨i,ei,hi⟩
 .exact .inl ⟨h2,WW G.nod G.ris k n _ () hm h2⟩
 .exact .inr ⟨i,ei,hi,Es G.nod G.ris hi k n _ () hm ei⟩
end
theorem RO (mask:Nat)(h:Int):∀ n,(rd mask h n).j+(rd mask h n).more<=mask
 |0=>by
  show bits h%(mask+1)+(runEnd mask (bits h%(mask+1))-bits h%(mask+1))<=mask;have:=wO (bits h) (show 0<mask+1 by lia)
  unfold runEnd;split<;>lia
 |n+1=>by
  have ih:=RO mask h n;show(nk mask (rd mask h n)).j+(nk mask (rd mask h n)).more<=mask;unfold nk;split
  .lia
  .have:(leap mask (rd mask h n).i (rd mask h n).perturb).1<mask+1:=wO _ ()
   unfold runEnd;split<;>lia
theorem Ms (mask:Nat)(h:Int)(n:Nat):(rd mask h n).j<=mask:=by
 have:=RO mask h n
 lia
theorem vV {α:Type}(xs:Array α){p:Nat}(hp:p<=xs.size)(x:α)(k:Nat):(insertAt xs p x)[k]?=if k<p then xs[k]? else if k=p then aa x else xs[k-1]?:=by
 rw[<-nW,toList_insertAt];by_cases c:k<p
 .rw[if_pos c,FX (by rw[mH,gA];lia),Jf c,nW]
 .rw[if_neg c,Jg (by rw[mH,gA];lia),mH,gA,AI hp]
  by_cases d:k=p
  .subst d;simp
  .rw[if_neg d];obtain⟨r,rfl⟩:∃ r,k=p+1+r:=⟨k-p-1,()⟩
   rw[show p+1+r-p=r+1 by lia,List.getElem?_cons_succ,PB,nW,show p+1+r-1=p+r by lia]
theorem Vf {xs:Array Nat}(hr:mL xs)(hj:∀ i:Nat,xs[i]?≠aa j):mL (insertAt xs (below xs j) j):=by
 obtain⟨h1,h2,h3⟩:=EM hr j;intro a b u v km ea eb;rw[vV xs h1] at ea eb;have lt_of:∀ k w,below xs j<=k->xs[k]?=aa w->j<w:=λk w hk e=>by
  have a:=h3 k hk w e;rcases wQ j w with c|c
  .exact c
  .have:w=j:=()
   subst this;exact absurd e (hj k)
 split at ea
 .split at eb
  .exact hr a b u v km ea eb
  .split at eb
   .cases eb;exact h2 a () u ea
   .exact FQ (h2 a () u ea) (lt_of _ v () eb)
 .split at ea
  .cases ea;rw[if_neg (),if_neg ()] at eb
   exact lt_of _ v () eb
  .rw[if_neg (),if_neg ()] at eb
   exact hr (a-1) (b-1) u v () ea eb
theorem yL {α:Type}(xs:Array α)(p:Nat)(x:α):(insertAt xs p x).size=xs.size+1:=by
 rw[<-gA,(insertAt_perm xs p x).length_eq,gA,Array.size_push]
theorem SY(hd:t.dummies = #[])(j:Nat):t.put j=({ t with place:=insertAt t.place (below t.place j) j },below t.place j):=by
 unfold put;cases t;subst hd
 rfl
theorem Good.put(G:Good t es){h:Int}{x:aB}(hv:∀ m<n,iK t (rd t.mask h m).j)(hn:¬ iK t (rd t.mask h n).j)  (je:es.size<t.mask)(pl:Bool) :
  Good { t with place:=insertAt t.place (below t.place (rd t.mask h n).j) (rd t.mask h n).j,plain:=pl } (insertAt es (below t.place (rd t.mask h n).j) (h,x)):=by
 have hb:=(EM G.ris (rd t.mask h n).j).1;have mono:∀ j,iK t j->∃ i:Nat,(insertAt t.place (below t.place (rd t.mask h n).j) (rd t.mask h n).j)[i]?=aa j:=λj gh=>by
  obtain⟨i,e⟩:=gh;by_cases c:i<below t.place (rd t.mask h n).j
  .exact⟨i,by rw[vV _ hb,if_pos c];exact e⟩
  .exact⟨i+1,by rw[vV _ hb,if_neg (),if_neg ()];exact e⟩
 refine⟨G.small,G.nod,Vf G.ris (WQ hn),?_,λi j e=>?_,?_,λi j e ei ee=>?_⟩
 .rw[yL,yL,G.len]
 .have e':=e;rw[vV _ hb] at e';split at e'
  .exact G.inb i j e'
  .split at e'
   .cases e';exact Ms _ _ _
   .exact G.inb _ j e'
 .rw[yL];exact je
 .have kh:=ei;rw[vV _ hb] at kh;rw[vV _ (by rw[<-G.len];exact hb)] at ee
  by_cases c:i<below t.place (rd t.mask h n).j
  .rw[if_pos c] at kh ee;obtain⟨m,h1,h2⟩:=G.reach i j e kh ee;exact⟨m,h1,λq hq=>mono _ (h2 q hq)⟩
  .rw[if_neg c] at kh ee;by_cases d:i=below t.place (rd t.mask h n).j
   .rw[if_pos d] at kh ee;cases kh;cases ee;exact⟨n,rfl,λq hq=>mono _ (hv q hq)⟩
   .rw[if_neg d] at kh ee;obtain⟨m,h1,h2⟩:=G.reach _ j e kh ee;exact⟨m,h1,λq hq=>mono _ (h2 q hq)⟩
structure Own (mask:Nat)(hs:List Int)(ow:Array (Option Nat)):Prop where
 size:ow.size=mask+1
 lt:∀ j i:Nat,ow[j]?=aa (aa i)->i<hs.length
 inj:∀ j j' i:Nat,ow[j]?=aa (aa i)->ow[j']?=aa (aa i)->j=j'
 all:∀ i<hs.length,∃ j:Nat,ow[j]?=aa (aa i)
 reach:∀ (j i:Nat) (h:Int),ow[j]?=aa (aa i)->hs[i]?=aa h->∃ n,(rd mask h n).j=j/\∀ m<n,∃ i':Nat,ow[(rd mask h m).j]?=aa (aa i')
theorem yN(hj:j<ow.size):ow[j]?=aa ab\/∃ i,ow[j]?=aa (aa i):=by
 rw[jP hj];cases ow[j] with
 |none=>exact .inl rfl
 |some i=>exact .inr ⟨i,rfl⟩
theorem Own.free{hs:aaj}(O:Own mask hs ow)(hl:hs.length<=mask):∃ e,e<=mask/\ow[e]?=aa ab:=by
 apply QB;intro hn;have cv:∀ j≤mask,∃ i:Nat,ow[j]?=aa (aa i):=λj hj=>by
  rcases yN (j:=j) (by rw[O.size];lia) with c|c
  .exact absurd ⟨j,hj,c⟩ hn
  .exact c
 have jj:((bZ (mask+1)).map λj=>((ow[j]?).join).getD 0).Nodup:=by
  unfold PL;rw[uC];refine FZ ?_ List.pairwise_lt_range;intro a b ha hb km e;obtain⟨i,ei⟩:=cv a (by have:=eQ.1 ha;lia)
  obtain⟨i',kh⟩:=cv b (by have:=eQ.1 hb;lia)
  rw[ei,kh] at e;have:i=i':=by simpa using e
  subst this;have:=O.inj a b i ei kh
  lia
 have:=Jq jj (λv m=>by
  obtain⟨j,hj,rfl⟩:=bG.1 m;obtain⟨i,ei⟩:=cv j (by have:=eQ.1 hj;lia)
  rw[ei];exact eQ.2 (O.lt j i ei))
 simp at this
 lia
theorem UR (mask i bx:Nat):∀ m,lp mask (i,bx) (m+1)=lp mask (leap mask i bx) m
 |0=>rfl
 |m+1=>by
  show leap mask (lp mask (i,bx) (m+1)).1 (lp mask (i,bx) (m+1)).2=_;rw[UR mask i bx m]
  rfl
theorem YH(hz:ow.size=mask+1):∀ (fuel i bx m:Nat),i<=mask->m<fuel->ow[(lp mask (i,bx) m).1]?=aa ab ->
  ∃ n,layClean.free mask ow fuel i bx=aa (pN mask (nq mask i bx) n).j/\ow[(pN mask (nq mask i bx) n).j]?=aa ab/\∀ q<n,∃ i':Nat,ow[(pN mask (nq mask i bx) q).j]?=aa (aa i')
 |0,_,_,_,_,h,_=>absurd h ()
 |fuel+1,i,bx,m,hi,hm,he=>by
  have hrun:runEnd mask i<=mask/\i<=runEnd mask i:=by unfold runEnd;split<;>lia
  have wz:∀ k,k<=runEnd mask i-i->(pN mask (nq mask i bx) k).j=i+k:=λk hk=>by rw[IR mask i bx k hk]
  have hg:∀ k,k<=runEnd mask i-i->((ow.getD (i+k) (aa 0)).isNone=af↔ow[i+k]?=aa ab):=λk hk=>by
   rw[QK];rcases yN (ow:=ow) (j:=i+k) () with c|⟨x,c⟩<;>rw[c]<;>simp
  unfold layClean.free;cases ef:(bZ (runEnd mask i+1-i)).find? λk=>(ow.getD (i+k) (aa 0)).isNone with
  |some k=>
   obtain⟨h1,h2,h3⟩:=List.find?_range_eq_some.1 ef;have hk:k<=runEnd mask i-i:=by have:=eQ.1 h2;lia
   refine⟨k,by rw[wz k hk],by rw[wz k hk];exact(hg k hk).1 h1,λq hq=>?_⟩
   rw[wz q ()]
   rcases yN (ow:=ow) (j:=i+q) () with c|c
   .have:=h3 q hq;rw[(hg q ()).2 c] at this
    exact absurd this nofun
   .exact c
  |none=>
   have cv:∀ k,k<=runEnd mask i-i->∃ i':Nat,ow[i+k]?=aa (aa i'):=λk hk=>by
    rcases yN (ow:=ow) (j:=i+k) () with c|c
    .have:=(List.find?_range_eq_none.1 ef) k ()
     rw[(hg k hk).2 c] at this;exact absurd this nofun
    .exact c
   cases m with
   |zero=>
    obtain⟨i',e'⟩:=cv 0 ()
    have he':ow[i]?=aa ab:=he;rw[Nat.add_zero,he'] at e';cases e'
   |succ m=>
    rw[UR] at he;have hle:(leap mask i bx).1<=mask:=by
     have:(leap mask i bx).1<mask+1:=wO _ ()
     lia
    obtain⟨n,e1,e2,e3⟩:=YH hz fuel (leap mask i bx).1 (leap mask i bx).2 m hle () he
    have hp:∀ q,pN mask (nq mask i bx) (runEnd mask i-i+1+q)=pN mask (nq mask (leap mask i bx).1 (leap mask i bx).2) q:=λq=>by
     rw[<-MH,XF]
    refine⟨runEnd mask i-i+1+n,?_,by rw[hp];exact e2,λq hq=>?_⟩
    .rw[hp];exact e1
    .by_cases c:q<=runEnd mask i-i
     .rw[wz q c];exact cv q c
     .obtain⟨r,rfl⟩:∃ r,q=runEnd mask i-i+1+r:=⟨q-(runEnd mask i-i+1),()⟩
      rw[hp];exact e3 r ()
theorem Own.add(hm:nL mask){hs:aaj}(O:Own mask hs ow)(hl:hs.length<=mask)(h:Int) :
  ∃ j,layClean.free mask ow (turns mask) (bits h%(mask+1)) (bits h)=aa j/\Own mask (hs++[h]) (ow.setIfInBounds j (aa hs.length)):=by
 obtain⟨e,he,dw⟩:=O.free hl;obtain⟨m,h1,h2⟩:=XR hm (Hm h) he;have hi:bits h%(mask+1)<=mask:=by
  have:=wO (bits h) (show 0<mask+1 by lia)
  lia
 obtain⟨n,e1,e2,e3⟩:=YH O.size (turns mask) (bits h%(mask+1)) (bits h) m hi (by unfold turns;lia) (by rw[h2];exact dw)
 have vf:ow[(rd mask h n).j]?=aa ab:=e2;have get:∀ k:Nat,(ow.setIfInBounds (rd mask h n).j (aa hs.length))[k]?=if (rd mask h n).j=k then aa (aa hs.length) else ow[k]?:=λk=>by
  rw[Array.getElem?_setIfInBounds];by_cases c:(rd mask h n).j=k
  .simp[((rZ.1 vf).1)]
  .rw[if_neg c,if_neg c]
 have mono:∀ k i:Nat,ow[k]?=aa (aa i)->(ow.setIfInBounds (rd mask h n).j (aa hs.length))[k]?=aa (aa i):=λk i q=>by
  rw[get,if_neg (by rintro rfl;rw[vf] at q;cases q)]
  exact q
 refine⟨_,e1,by simpa using O.size,λj i q=>?_,λj j' i q q'=>?_,λi hi=>?_,λj i x q qx=>?_⟩
 .have q:(ow.setIfInBounds (rd mask h n).j (aa hs.length))[j]?=aa (aa i):=q;rw[get] at q;rw[jN,Jc];split at q
  .cases q;lia
  .have:=O.lt j i q;lia
 .have q:(ow.setIfInBounds (rd mask h n).j (aa hs.length))[j]?=aa (aa i):=q;have q':(ow.setIfInBounds (rd mask h n).j (aa hs.length))[j']?=aa (aa i):=q';rw[get] at q q';split at q
  .split at q'
   .lia
   .cases q;have:=O.lt j' _ q'
    lia
  .split at q'
   .cases q';have:=O.lt j _ q
    lia
   .exact O.inj j j' i q q'
 .rw[jN,Jc] at hi;by_cases c:i=hs.length
  .exact⟨(rd mask h n).j,by show(ow.setIfInBounds (rd mask h n).j (aa hs.length))[(rd mask h n).j]?=_;rw[get,if_pos rfl,c]⟩
  .obtain⟨j,q⟩:=O.all i ()
   exact⟨j,mono j i q⟩
 .have q:(ow.setIfInBounds (rd mask h n).j (aa hs.length))[j]?=aa (aa i):=q;rw[get] at q;split at q
  .rename_i hj;cases q;have:h=x:=by simpa using qx
   subst this;refine⟨n,hj,λq hq=>?_⟩
   obtain⟨i',w⟩:=e3 q hq;exact⟨i',mono _ i' w⟩
  .have bu:=O.lt j i q;rw[FX bu] at qx;obtain⟨n',a,b⟩:=O.reach j i x q qx;refine⟨n',a,λr hr=>?_⟩
   obtain⟨i',w⟩:=b r hr;exact⟨i',mono _ i' w⟩
theorem SK(hm:nL mask):∀ (av hs:aaj) (ow:Array (Option Nat)),Own mask hs ow->hs.length+av.length<=mask+1 ->
  ∃ ow',av.foldl (λak h=>do
   let (owner,k) <-ak
   let j <-layClean.free mask owner (turns mask) (bits h%(mask+1)) (bits h)
   pure (owner.setIfInBounds j (aa k),k+1)) (aa (ow,hs.length))=aa (ow',(hs++av).length)/\Own mask (hs++av) ow'
 |[],hs,ow,O,_=>⟨ow,by simp,by simpa using O⟩
 |h::r,hs,ow,O,hl=>by
  rw[eX] at hl;obtain⟨j,e,O'⟩:=O.add hm () h
  obtain⟨ow',e2,O2⟩:=SK hm r (hs++[h]) _ O' (by rw[jN,Jc];lia)
  refine⟨ow',?_,by simpa using O2⟩
  rw[hJ];have:(do
   let (owner,k) <-aa (ow,hs.length)
   let j <-layClean.free mask owner (turns mask) (bits h%(mask+1)) (bits h)
   pure (owner.setIfInBounds j (aa k),k+1))=aa (ow.setIfInBounds j (aa hs.length),(hs++[h]).length):=by
   show((layClean.free mask ow (turns mask) (bits h%(mask+1)) (bits h)).bind λj=>aa (ow.setIfInBounds j (aa hs.length),hs.length+1))=_
   rw[e];simp
  rw[this,e2];simp
theorem Vs (mask:Nat):Own mask [] (Array.replicate (mask+1) ab):=by
 have hn:∀ j i:Nat,(Array.replicate (mask+1) (ab:Option Nat))[j]?≠aa (aa i):=λj i q=>by
  rw[Array.getElem?_replicate] at q;split at q<;>cases q
 exact⟨by simp,λj i q=>absurd q (hn j i),λj _ i q=>absurd q (hn j i),λi hi=>absurd hi (by simp),λj i _ q=>absurd q (hn j i)⟩
theorem Ad(hm:nL mask)(hs:Array Int)(hl:hs.size<=mask+1):∃ ow,layClean mask hs=aa ow/\Own mask hs.toList ow:=by
 obtain⟨ow,e,O⟩:=SK hm hs.toList [] _ (Vs mask) (by simpa using hl)
 refine⟨ow,?_,by simpa using O⟩
 unfold layClean;rw[<-Array.foldl_toList];exact congrArg (Option.map (·.1)) e
theorem MK {α β:Type}{f:α->Option β}:∀ (l:List α),(∀ k∈l,(f k).isSome=af)->∀ i:Nat,(l.filterMap f)[i]?=(l[i]?).bind f
 |[],_,i=>by simp
 |a::r,h,i=>by
  obtain⟨b,e⟩:=FN.1 (h a bD);rw[List.filterMap_cons_some e];cases i with
  |zero=>simp[e]
  |succ i=>
   exact MK r (λk m=>h k (bI _ m)) i
def fQ (mask:Nat)(ow:Array (Option Nat)):pi:=(bZ (mask+1)).filterMap λj=>(ow.getD j ab).map (j,·)
theorem jU(hz:ow.size=mask+1){i:Nat}:(j,i)∈fQ mask ow↔ow[j]?=aa (aa i):=by
 unfold fQ;rw[uD];constructor
 .rintro⟨j',hj,e⟩;obtain⟨i',e1,e2⟩:=fG.1 e;have e3:=congrArg Prod.fst e2;have e4:=congrArg Prod.snd e2;subst e3;subst e4;have bu:j'<ow.size:=by have:=eQ.1 hj;lia
  rw[QK] at e1;rcases yN bu with c|⟨x,c⟩
  .rw[c] at e1;cases e1
  .rw[c] at e1;cases e1;exact c
 .intro e;have bu:=(rZ.1 e).1;exact⟨j,eQ.2 (),by rw[QK,e];rfl⟩
theorem DY (mask:Nat)(ow:Array (Option Nat)):(fQ mask ow).Pairwise (λa b=>a.1<b.1):=by
 unfold fQ;rw[List.pairwise_filterMap];refine List.Pairwise.imp ?_ List.pairwise_lt_range;intro a b km x hx y hy;obtain⟨_,_,rfl⟩:=fG.1 hx;obtain⟨_,_,rfl⟩:=fG.1 hy;exact km
theorem ZS(hm:nL mask)(es:tt)(hl:es.size<=mask)(fg mv:Nat)(led pl:Bool) :
  ∃ t' cr,laid mask fg mv led pl (es.map (·.1))=aa (t',cr)/\Good t' (cr.filterMap (es[·]?))/\(cr.filterMap (es[·]?)).toList.Perm es.toList/\t'.mask=mask/\t'.led=led/\t'.plain=pl/\t'.dummies = #[]:=by
 obtain⟨ow,e,O⟩:=Ad hm (es.map (·.1)) (by rw[Array.size_map];lia)
 have hz:=O.size;have aw:(es.map (·.1)).toList.length=es.size:=by simp
 refine⟨{ mask,place:=((fQ mask ow).map (·.1)).toArray,dummies:=#[],finger:=fg,led,moves:=mv,plain:=pl },((fQ mask ow).map (·.2)).toArray,?_,?_,?_,rfl,rfl,rfl,rfl⟩
 .unfold laid;rw[e]
  rfl
 .have vk:∀ k∈(fQ mask ow).map (·.2),(es[k]?).isSome=af:=λk m=>by
   obtain⟨⟨j,i⟩,mm,rfl⟩:=bG.1 m;have:=O.lt j i ((jU hz).1 mm);rw[aw] at this;rw[jP this]
   rfl
  have hget:∀ i:Nat,((((fQ mask ow).map (·.2)).toArray).filterMap (es[·]?))[i]?=(((fQ mask ow)[i]?).bind λp=>es[p.2]?):=λi=>by
   rw[<-nW,QI,MK _ vk,eD];cases(fQ mask ow)[i]?<;>rfl
  have dr:∀ i:Nat,(((fQ mask ow).map (·.1)).toArray)[i]?=((fQ mask ow)[i]?).map (·.1):=λi=>by simp
  refine⟨hm,rfl,?_,?_,?_,?_,?_⟩
  .intro a b u v km ea eb;rw[dr] at ea eb;obtain⟨x,hx,rfl⟩:=fG.1 ea;obtain⟨y,hy,rfl⟩:=fG.1 eb;obtain⟨ha,rfl⟩:=cE.1 hx;obtain⟨hb,rfl⟩:=cE.1 hy;exact Iy.1 (DY mask ow) a b ha hb km
  .have:(List.filterMap (es[·]?) ((fQ mask ow).map (·.2))).length=((fQ mask ow).map (·.2)).length:=by
    rw[List.length_filterMap_eq_countP,List.countP_eq_length];exact vk
   rw[<-gA (xs:=Array.filterMap _ _),QI,this];simp
  .intro i j q;rw[dr] at q;obtain⟨⟨j',i'⟩,hx,rfl⟩:=fG.1 q;have:=(jU hz).1 (eW hx);have:=(rZ.1 this).1
   lia
  .have jj:((fQ mask ow).map (·.2)).Nodup:=by
    unfold PL;rw[uC];refine FZ ?_ (DY mask ow);rintro⟨a,i⟩ ⟨b,i'⟩ ma mb km e';subst e';have:=O.inj a b i ((jU hz).1 ma) ((jU hz).1 mb)
    lia
   have:=Jq jj (λv m=>by
    obtain⟨⟨j,i⟩,mm,rfl⟩:=bG.1 m;have:=O.lt j i ((jU hz).1 mm);exact eQ.2 this)
   have h2:((((fQ mask ow).map (·.2)).toArray).filterMap (es[·]?)).size<=((fQ mask ow).map (·.2)).length:=by
    rw[<-gA,QI];exact uE _ _
   rw[AO] at this
   lia
  .intro i j x q qx;rw[dr] at q;obtain⟨⟨j',k⟩,hx,rfl⟩:=fG.1 q;rw[hget,hx,bQ] at qx;have hk:(es.map (·.1)).toList[k]?=aa x.1:=by
    rw[nW,Array.getElem?_map,qx]
    rfl
   obtain⟨n,a,b⟩:=O.reach j' k x.1 ((jU hz).1 (eW hx)) hk;refine⟨n,a,λm hm'=>?_⟩
   obtain⟨i',w⟩:=b m hm';obtain⟨r,hr,er⟩:=Jb.1 ((jU hz).2 w);refine⟨r,?_⟩;rw[dr,eE hr,er]
   rfl
 .rw[QI];have jj:((fQ mask ow).map (·.2)).Nodup:=by
   unfold PL;rw[uC];refine FZ ?_ (DY mask ow);rintro⟨a,i⟩ ⟨b,i'⟩ ma mb km e';subst e';have:=O.inj a b i ((jU hz).1 ma) ((jU hz).1 mb)
   lia
  have hp:((fQ mask ow).map (·.2)).Perm (bZ es.size):=by
   rw[aAj jj OR];intro v;constructor
   .intro m;obtain⟨⟨j,i⟩,mm,rfl⟩:=bG.1 m;have:=O.lt j i ((jU hz).1 mm);rw[aw] at this;exact eQ.2 this
   .intro m;obtain⟨j,q⟩:=O.all v (by rw[aw];exact eQ.1 m)
    exact bG.2 ⟨(j,v),(jU hz).2 q,rfl⟩
  exact(hp.filterMap _).trans (by rw[filterMap_getElem?_range])
structure Fine (t:cY)(es:Array (Int×aB)):Prop where
 good:Good t es
 few:es.size*5<t.mask*3/\es.size<=4914
theorem Fine.fits(F:Fine t es):t.fits es.size=af:=by
 simp[SetTable.fits,wL,F.good.len,F.good.nod,F.good.room]
theorem Fine.odd(F:Fine t es):t.gaveWay=ah:=by
 rcases F.good.small with e|e|e|e|e|e<;>simp[SetTable.gaveWay,e]
theorem Ax (led:Bool):Fine (FK 0 0 led) #[]:=
 ⟨⟨.inl rfl,rfl,λa b u v _ h=>by simp[FK] at h,rfl,λi j h=>by simp[FK] at h,by simp,λi j e h=>by simp[FK] at h⟩,by simp[FK]⟩
theorem Ah(hs:nL t.mask)(h1:(n-1)*5<t.mask*3)(h0:0<n)(hf:t.mask*3<=n*5)(hn:n<=4914):∃ M,nL M/\n*5<M*3/\SetTable.sizeAbove (FJ n)=M+1:=by
 rcases hs with e|e|e|e|e|e<;>rw[e] at h1 hf
 .have h5:n=5:=()
  exact⟨31,.inr (.inl rfl),(),by rw[h5];decide⟩
 .have h5:n=19:=()
  exact⟨127,.inr (.inr (.inl rfl)),(),by rw[h5];decide⟩
 .have h5:n=77:=()
  exact⟨511,.inr (.inr (.inr (.inl rfl))),(),by rw[h5];decide⟩
 .have h5:n=307:=()
  exact⟨2047,.inr (.inr (.inr (.inr (.inl rfl)))),(),by rw[h5];decide⟩
 .have h5:n=1229:=()
  exact⟨8191,.inr (.inr (.inr (.inr (.inr rfl)))),(),by rw[h5];decide⟩
 .lia
open PySem PySem.Spec PyProof.Rows PySem.SetTable
noncomputable def eJ (w:aX):Bool:=w.params.followText "set-order"
abbrev Aot (led:Bool):aZ:={ cls:=.type "set",dict:=ab,data:=.set #[] 0 (.fresh 0 0 led) }
theorem G3(v:aB){Q₁:aB->aF->Prop}(h:Q₁ (.ref s.heap.objs.size) { s with heap:=s.heap.push (Aot (!eJ w)) }) :
  jJ (aO prog w) A (.call (.builtin "set.__new__") ⟨[.type "set",v],[]⟩) (wants Q₁ E) s:=by
 refine codeAny_of_tree (show aJ _ A.in1 (do checkBuiltinCall "set.__new__" ⟨[.type "set",v],[]⟩;again (.builtin "set.__new__" ⟨[.type "set",v],[]⟩)) _ _ s from(aE (zW (F.newCall_set_1 v) (aH ⟨jX F.plain_set_new _,iE F.entry_set_new ?_⟩))))
 unfold Builtin.«set.__new__» Builtin.Frozenset.newClass;have sub1:=sub_set_self
 wp_walk
 refine zZ (aH ?_);exact aE (wpAny_alloc (aH (aH h)))
structure WSet (w:aX)(h:aP)(a:aC)(o:aZ)(es:Array (Int×aB))(ep:Nat)(t:cY):Prop where
 get:h.get? a=aa o
 exact:o.ExactSet
 data:o.data=.set es ep t
 fine:Fine t es
 led:t.led=!eJ w
theorem Aa:∀ (d:aA),cA d=af->∀ (n:Nat) {A:bM} {E:aB->aF->Prop} {s:aF} {v:aB} {as:aan} {Q:Bool->aF->Prop},d.depth<=n->kW s.heap v d as ->
  Q ah s->aJ (aO prog w) A (NT n v) Q E s:=by
 refine rE (λi n {A E s v as Q} hu r h=>?_) (λx _ n {A E s v as Q} hu r h=>?_) λks _ ih n {A E s v as Q} hu r h=>?_
 .cases r with
  |int _ t=>
   unfold NT;exact aH h
 .cases r with
  |str _ t=>
   unfold NT;exact aH h
 .obtain⟨a,o,items,m,rfl,ho,hc,hd,hi⟩:=lW r;have wf:cU ks+1<=n:=by simpa [fE] using hu
  obtain⟨n,rfl⟩:∃ m,n=m+1:=⟨n-1,()⟩
  unfold NT;refine aE (jV ⟨o,ho,hc⟩ ?_);dsimp only;refine aE (aH (aE (iC ho hd (aE ?_))));rw[<-QL];refine zX _ (λav r s'=>r.1=ab/\s'=s/\∃ ds bs,jB s.heap av ds bs/\∀ d∈ds,d∈ks) _ ?_ ?_ _ _ ⟨rfl,rfl,ks,as,hi,λ_ h=>h⟩
  .rintro v av r s' ⟨hr,rfl,ds,bs,hl,cv⟩;cases hl with
   |@cons _ _ d ds as1 vb h1 lu=>
    exact aE (ih d (cv d bD) n (cQ (yW (cv d bD)) ()) h1 (aH ⟨rfl,rfl,ds,vb,lu,λu xw=>cv u (bI _ xw)⟩))
  .rintro⟨r1,r2⟩ s' ⟨hr,rfl,_⟩;subst hr;exact aH h
theorem Z9:∀ (d:aA),cA d=af->∀ (n:Nat) {A:bM} {E:aB->aF->Prop} {s:aF} {v:aB} {as:aan} {Q:Bool->aF->Prop},d.depth<=n->kW s.heap v d as ->
  (∀ b,Q b s)->aJ (aO prog w) A (NV n v) Q E s:=by
 refine rE (λi n {A E s v as Q} hu r h=>?_) (λx _ n {A E s v as Q} hu r h=>?_) λks _ ih n {A E s v as Q} hu r h=>?_
 .cases r with
  |int _ t=>
   cases n<;>(unfold NV;exact aH (h _))
 .cases r with
  |str _ t=>
   cases n<;>(unfold NV;exact aH (h _))
 .obtain⟨a,o,items,m,rfl,ho,hc,hd,hi⟩:=lW r;have wf:cU ks+1<=n:=by simpa [fE] using hu
  obtain⟨n,rfl⟩:∃ m,n=m+1:=⟨n-1,()⟩
  refine aE (rP ⟨o,ho,hc⟩ GB.lookup (aE (iC ho hd (aE ?_))));rw[<-QL];refine zX _ (λav r s'=>s'=s/\∃ ds bs,jB s.heap av ds bs/\∀ d∈ds,d∈ks) _ ?_ ?_ _ _ ⟨rfl,ks,as,hi,λ_ h=>h⟩
  .rintro v av r s' ⟨rfl,ds,bs,hl,cv⟩;cases hl with
   |@cons _ _ d ds as1 vb h1 lu=>
    refine aE (ih d (cv d bD) n (cQ (yW (cv d bD)) ()) h1 λb=>?_)
    cases b
    .exact aH (aH (h _))
    .exact aH ⟨rfl,ds,vb,lu,λu xw=>cv u (bI _ xw)⟩
  .rintro⟨r1,r2⟩ s' ⟨rfl,_⟩;cases r1 with
   |none=>exact aH (h _)
   |some b=>exact aH (h _)
theorem Xj{k:aag}{b:aC}{ys:aak}{Q:Bool->aF->Prop}(hk:Abf s.heap k b)(hy:∀ y∈ys,∃ k' b',y=.ref b'/\Abf s.heap k' b')(h:Q ah s) :
  aJ (aO prog w) A (searchCouldBeSeen (.ref b) ys) Q E s:=by
 refine aE (zX _ (λav r s'=>r.1=ab/\s'=s/\∀ y∈av,∃ k' b',y=.ref b'/\Abf s.heap k' b') _ ?_ ?_ _ _ ⟨rfl,rfl,hy⟩)
 .rintro v av r s' ⟨hr,rfl,cv⟩;obtain⟨k',b',rfl,jl⟩:=cv v bD;have vm:∀ y∈av,∃ k' b',y=.ref b'/\Abf s'.heap k' b':=λy m=>cv y (bI _ m)
  dsimp only;split
  .exact aH ⟨rfl,rfl,vm⟩
  .obtain⟨a1,a2,as,ra⟩:=hk;obtain⟨b1,b2,bs,rb⟩:=jl;have ka:cA (.tuple k)=af:=by simpa [cA] using a1
   have kb:cA (.tuple k')=af:=by simpa [cA] using b1
   have da:(cD k).depth<=8:=by simp only[fE];lia
   have db:(cD k').depth<=8:=by simp only[fE];lia
   exact aE (KB (.tuple k) ka 8 da ra (aE (KB (.tuple k') kb 8 db rb (aE (Aa (.tuple k) ka 8 da ra (aE (Aa (.tuple k') kb 8 db rb (aH ⟨rfl,rfl,vm⟩))))))))
 .rintro⟨r1,r2⟩ s' ⟨hr,rfl,_⟩;subst hr;exact aH h
theorem uZ {α β:Type}{R:α->β->Prop}:∀ {as:List α} {bs:List β},bY R as bs->∀ {i:Nat} {a:α},as[i]?=aa a->∃ b,bs[i]?=aa b/\R a b
 |_,_,.nil,i,a,h=>by simp at h
 |_,_,.cons h t,0,a,e=>⟨_,rfl,by simp at e;exact e ▸ h⟩
 |_,_,.cons h t,i+1,a,e=>uZ t (by simpa using e)
theorem CN {α β:Type}{R:α->β->Prop}:∀ {as:List α} {bs:List β},bY R as bs->∀ {i:Nat} {b:β},bs[i]?=aa b->∃ a,as[i]?=aa a/\R a b
 |_,_,.nil,i,a,h=>by simp at h
 |_,_,.cons h t,0,a,e=>⟨_,rfl,by simp at e;exact e ▸ h⟩
 |_,_,.cons h t,i+1,a,e=>CN t (by simpa using e)
theorem Good.met{f:Nat->Int}{h:Int}{r:Option Met}(G:Good t es)(hv:∀ m<n,iK t (rd t.mask h m).j)(ya:t.probe f h (rd t.mask h n)=r)(hf:∀ (i:Nat) e,es[i]?=aa e->f i=e.1) :
  ∃ N,n<=N/\N<10*turns t.mask/\(∀ m,n<=m->m<N->∃ (i:Nat) (e:Int×aB),t.place[i]?=aa (rd t.mask h m).j/\es[i]?=aa e/\e.1≠h) /\
   ((¬ iK t (rd t.mask h N).j/\r=aa (.empty (rd t.mask h N).j ab))\/∃ (i:Nat) (e:Int×aB),t.place[i]?=aa (rd t.mask h N).j/\es[i]?=aa e/\e.1=h/\r=aa (.candidate (rd t.mask h N).j i (rd t.mask h (N+1)))):=by
 obtain⟨k,h1,h2,h3⟩:=G.next h hv;have el:∀ i j:Nat,t.place[i]?=aa j->∃ e,es[i]?=aa e:=λi j q=>by
  have:=(rZ.1 q).1;rw[G.len] at this;exact⟨es[i],jP this⟩
 refine⟨n+k,(),h1,λm a b=>?_,?_⟩
 .obtain⟨i,e1,e2⟩:=h2 m a b;obtain⟨e,ee⟩:=el i _ e1;exact⟨i,e,e1,ee,by rw[<-hf i e ee];exact e2⟩
 .rcases h3 with⟨a,b⟩|⟨i,a,b,c⟩
  .exact .inl ⟨a,ya.symm.trans b⟩
  .obtain⟨e,ee⟩:=el i _ a;exact .inr ⟨i,e,a,ee,by rw[<-hf i e ee];exact b,ya.symm.trans c⟩
theorem Good.nope{f:Nat->Int}{h:Int}(G:Good t es)(hv:∀ m<n,iK t (rd t.mask h m).j)(hn:∀ met,t.probe f h (rd t.mask h n)=aa met->False):False:=by
 obtain⟨k,_,_,h3⟩:=G.next h hv;rcases h3 with⟨_,q⟩|⟨_,_,_,q⟩
 .exact hn _ q
 .exact hn _ q
section
variable {B:aag->aC->Prop}
def ye (w:aX)(B:aag->aC->Prop)(h:aP)(e:Int×aB)(k:aag):Prop:=∃ b,e.2=.ref b/\e.1=dU w (.tuple k)/\Abf h k b/\B k b
structure SetAt (w:aX)(B:List aA->aC->Prop)(h:aP)(a:aC)(o:aZ)(es:Array (Int×aB))(ep:Nat)(t:cY)(ks:List (List aA)):Prop where
 get:h.get? a=aa o
 exact:o.ExactSet
 data:o.data=.set es ep t
 fine:Fine t es
 led:t.led=!eJ w
 els:bY (ye w B h) es.toList ks
 nod:ks.Nodup
theorem Am{b:aC}{k:aag}{Q:SetFound->aF->Prop}
  (S:SetAt w B s.heap a o es ep t ks) (hk:Abf s.heap k b) (hu:A.units+20<cLine) (h1:k∈ks->Q (.there ab) s)
  (h2:k∉ks->∀ N,(∀ m<N,iK t (rd t.mask (dU w (.tuple k)) m).j)->¬ iK t (rd t.mask (dU w (.tuple k)) N).j->Q (.free (rd t.mask (dU w (.tuple k)) N).j ah) s) :
  ∀ fuel n nc,nc.getD (t.probeStart (dU w (.tuple k)))=rd t.mask (dU w (.tuple k)) n->(∀ m<n,∃ i:Nat,t.place[i]?=aa (rd t.mask (dU w (.tuple k)) m).j/\∀ k',ks[i]?=aa k'->k'≠k)->10*turns t.mask<fuel+n ->
   aJ (aO prog w) A (setSearchFrom a (.ref b) (dU w (.tuple k)) af fuel nc) Q E s
 |0,n,nc,_,hv,hf=>by
  obtain⟨e,he,dw⟩:=S.fine.good.empty;obtain⟨N,hN,eN⟩:=WM S.fine.good.small (dU w (.tuple k)) he;obtain⟨i,q,_⟩:=hv N ()
  exact absurd ⟨i,eN ▸ q⟩ dw
 |fuel+1,n,nc,du,hv,hf=>by
  have G:=S.fine.good;have vg:∀ m<n,iK t (rd t.mask (dU w (.tuple k)) m).j:=λm hm=>by
   obtain⟨i,q,_⟩:=hv m hm;exact⟨i,q⟩
  have vn:∀ (i:Nat) (e:Int×aB),es[i]?=aa e->∃ k',ks[i]?=aa k'/\ye w B s.heap e k':=λi e q=>uZ S.els (by rw[nW];exact q)
  refine aE (oM S.get S.data S.fine.fits ?_);dsimp only;rw[S.fine.odd];simp only[rY,if_false];rw[du];split
  .rename_i met ya;obtain⟨N,hnN,hN,hm,hc⟩:=G.met vg ya (λi e he=>by
    show(es[i]?.map (·.1)).getD 0=e.1;rw[he]
    rfl)
   rcases hc with⟨dw,hr⟩|⟨i,e,hp,vo,hh,hr⟩
   .cases hr;have hnk:k∉ks:=λmem=>by
     obtain⟨i,hi,ei⟩:=Jb.1 mem;have kh:ks[i]?=aa k:=by rw[eE hi,ei]
     obtain⟨e,q,b',_,hh,_⟩:=CN S.els kh;rw[nW] at q;have dr:=jP (by rw[G.len];exact(rZ.1 q).1)
     obtain⟨M,hM,hMl⟩:=G.reach i _ e dr q;rw[hh] at hM hMl;rcases AJ N M with c|c|c
     .exact dw (hMl N c)
     .subst c;exact dw ⟨i,by rw[dr,hM]⟩
     .have zz:∀ i':Nat,t.place[i']?=aa (rd t.mask (dU w (.tuple k)) M).j->i'=i:=λi' q'=>by
       rcases AJ i' i with z|z|z
       .have:=G.ris _ _ _ _ z q' dr;lia
       .exact z
       .have:=G.ris _ _ _ _ z dr q';lia
      rcases wQ M n with z|z
      .obtain⟨i',q',qz⟩:=hv M z;have:=zz i' q';subst this;exact qz k kh rfl
      .obtain⟨i',e',q',qe,qz⟩:=hm M z c;have:=zz i' q';subst this;rw[q] at qe;cases qe;exact qz hh
    exact aH (h2 hnk N (λm hmN=>by
    rcases wQ m n with c|c
    .exact vg m c
    .obtain⟨i,e,q,_⟩:=hm m c hmN;exact⟨i,q⟩) dw)
   .cases hr;dsimp only;obtain⟨k',jl,b',eb,eh,lx,_⟩:=vn i e vo;obtain⟨eh0,ey⟩:=e;subst eb;have At:k'≠k->aJ (aO prog w) A (setSearchFrom a (.ref b) (dU w (.tuple k)) af fuel (aa (rd t.mask (dU w (.tuple k)) (N+1)))) Q E s:=λdw=>by
     refine Am S hk hu h1 h2 fuel (N+1) _ rfl (λm hmN=>?_) ()
     rcases wQ m n with c|c
     .exact hv m c
     .rcases wQ m N with c2|c2
      .obtain⟨i',e',q',qe,qz⟩:=hm m c c2;refine⟨i',q',λk2 wE e2=>?_⟩
       obtain⟨k3,hk3,_,_,z,_⟩:=vn i' e' qe;rw[wE] at hk3;cases hk3;subst e2;exact qz z
      .have:m=N:=()
       subst this;refine⟨i,hp,λk2 wE e2=>?_⟩
       rw[jl] at wE;cases wE;exact dw e2
    have hsm:t.sameMemory t.moves t.mask=aa af:=by simp[sameMemory]
    split
    case' isTrue=>refine aE (Xj hk (λy my=>by
     obtain⟨e',me,rfl⟩:=bG.1 my;rw[Array.toList_filter] at me;obtain⟨q1,_⟩:=kX.1 me;obtain⟨i',ui,kh⟩:=Jb.1 q1;obtain⟨k2,_,b2,z1,_,z2,_⟩:=uZ S.els (by rw[eE ui,kh])
     exact⟨k2,b2,z1,z2⟩) ?_);simp only[rY,if_false]
    all_goals
     rw[vo];dsimp only;refine aE (eG ((jA prog w).eqBool hu lx hk (aE (oM S.get S.data S.fine.fits ?_))));dsimp only;by_cases ek:k'=k
     .rw[decide_eq_true ek];simp only[AY,if_true];exact aH (h1 (by rw[<-ek];exact eW jl))
     .rw[decide_eq_false ek];simp only[Bool.and_false,rY,if_false];rw[hsm];dsimp only;simp only[if_true];rw[(DZ G.nod G.ris).2 hp];dsimp only;rw[vo];dsimp only;refine aE (wpAny_isSame_ref_self (aE (aH ?_)));simp only[if_true];exact At ek
  .rename_i ya;exact(G.nope vg ya).elim
end
section
variable {B:aag->aC->Prop}
theorem XK(ho:h.get? a=aa o)(hd:o.data=.set es ep t)(hs:kY a h h'){k:aag}{b:aC}(hk:Abf h k b):Abf h' k b:=
 hk.keep λc oc vs n hc _ lx=>by
  have dw:c≠a:=by
   rintro rfl;rw[ho] at hc;cases hc;rw[hd] at lx;cases lx
  exact(hs.2 c dw).trans hc
theorem pP {α β:Type}{R R':α->β->Prop}(f:∀ a b,R a b->R' a b):∀ {as:List α} {bs:List β},bY R as bs->bY R' as bs
 |_,_,.nil=>.nil
 |_,_,.cons h t=>.cons (f _ _ h) (pP f t)
theorem vP {α β:Type}{R:α->β->Prop}{as kz:List α}(p:kz.Perm as):∀ {bs:List β},bY R as bs->∃ um,bY R kz um/\um.Perm bs:=by
 induction p with
 |nil=>intro bs h;exact⟨bs,h,.refl _⟩
 |cons x p ih=>
  intro bs h;cases h with
  |cons h t=>
   obtain⟨um,h1,h2⟩:=ih t;exact⟨_,.cons h h1,h2.cons _⟩
 |swap x y l=>
  intro bs h;cases h with
  |cons h t=>
   cases t with
   |cons h' t'=>exact⟨_,.cons h' (.cons h t'),.swap _ _ _⟩
 |trans p q ih1 ih2=>
  intro bs h;obtain⟨b1,h1,h2⟩:=ih2 h;obtain⟨b2,h3,h4⟩:=ih1 h1;exact⟨b2,h3,h4.trans h2⟩
theorem MV {α β:Type}{R:α->β->Prop}{a:α}{b:β}(h:R a b):∀ {as:List α} {bs:List β},bY R as bs->bY R (as++[a]) (bs++[b])
 |_,_,.nil=>.cons h .nil
 |_,_,.cons h' t=>.cons h' (MV h t)
def SetT (w:aX)(B:aag->aC->Prop)(h:aP)(a:aC)(ks:bv):Prop:=∃ o es ep t gx,SetAt w B h a o es ep t gx/\gx.Perm ks
theorem EI(ho:h.get? a=aa o)(hex:o.ExactSet)(hd:o.data=.set es ep t)(ig:tt)(t':cY) :
  ∃ o',(h.update a (AH ig t')).get? a=aa o'/\o'.ExactSet/\o'.data=.set ig (ep+1) t'/\kY a h (h.update a (AH ig t')):=by
 have hg:=nU (AH ig t') ho (by rw[putSet_of ig t' hd];rfl)
 rw[putSet_of ig t' hd] at hg;exact⟨_,hg,hex,rfl,xC h a _⟩
theorem Tc{b:aC}{k:aag}{Q:Bool->aF->Prop}{fuel:Nat}
  (S:SetAt w B s.heap a o es ep t ks) (hk:Abf s.heap k b) (hB:B k b) (hu:A.units+20<cLine) (je:es.size+1<=4914)
  (h:∀ h',kY a s.heap h'->SetT w B h' a (if k∈ks then ks else ks++[k])->Q (decide (k∉ks)) { s with heap:=h' }) :
  aJ (aO prog w) A (setAddHashedIn a (.ref b) (dU w (.tuple k)) (fuel+1)) Q E s:=by
 have G:=S.fine.good;have e0:s={ s with heap:=s.heap }:=by cases s;rfl
 refine aE (oM S.get S.data S.fine.fits ?_);dsimp only;have hbs:byScan (.ref b) es=ah:=by simp[byScan,Value.scannable]
 rw[hbs];refine aE (Am S hk hu (λmem=>?_) (λhn N hl dw=>?_) 100000 0 ab rfl (λm hm=>absurd hm ()) (by
  rcases G.small with e|e|e|e|e|e<;>rw[e]<;>decide))
 .refine aH ?_;have:=h s.heap (Js a s.heap) (by rw[if_pos mem];exact⟨o,es,ep,t,ks,S,.refl _⟩)
  rw[e0,show ah=decide (k∉ks) from(decide_eq_false (λz=>z mem)).symm]
  exact this
 .refine aE (oM S.get S.data S.fine.fits ?_);rw[SY G.nod];have ld:es.size<t.mask:=by
   have:=S.fine.few;rcases G.small with e|e|e|e|e|e<;>rw[e] at this ⊢<;>lia
  have tail:∀ pl:Bool,aJ (aO prog w) A (do
    storeSet a (insertAt es (below t.place (rd t.mask (dU w (.tuple k)) N).j) (dU w (.tuple k),.ref b)) { t with place:=insertAt t.place (below t.place (rd t.mask (dU w (.tuple k)) N).j) (rd t.mask (dU w (.tuple k)) N).j,plain:=pl }
    if (!ah&&({ t with place:=insertAt t.place (below t.place (rd t.mask (dU w (.tuple k)) N).j) (rd t.mask (dU w (.tuple k)) N).j,plain:=pl }:cY).tooFull)=af then do
      setRelay a (FJ (es.size+1))
      pure af
     else pure af) Q E s:=λpl=>by
   have G':=G.put (x:=.ref b) hl dw ld pl;have vp:=insertAt_perm es (below t.place (rd t.mask (dU w (.tuple k)) N).j) (dU w (.tuple k),eU b);rw[Ke] at vp;have hsz:=yL es (below t.place (rd t.mask (dU w (.tuple k)) N).j) (dU w (.tuple k),eU b);generalize insertAt es (below t.place (rd t.mask (dU w (.tuple k)) N).j) (dU w (.tuple k),eU b)=fq at *;generalize ht1:({ t with place:=insertAt t.place (below t.place (rd t.mask (dU w (.tuple k)) N).j) (rd t.mask (dU w (.tuple k)) N).j,plain:=pl }:cY)=t1 at *;have hm1:t1.mask=t.mask:=by rw[<-ht1]
   have le1:t1.led=!eJ w:=by rw[<-ht1];exact S.led
   obtain⟨o1,g1,x1,d1,ng⟩:=EI S.get S.exact S.data fq t1;obtain⟨ks1,rg,p1⟩:=vP vp (MV ⟨b,rfl,rfl,hk,hB⟩ S.els);have rh:ks1.Nodup:=p1.nodup_iff.2 (rV.2 ⟨S.nod,by simp,λx hx y hy e=>hn (by rw[<-cG.1 hy,<-e];exact hx)⟩)
   have vq:∀ e k',ye w B s.heap e k'->ye w B (s.heap.update a (AH fq t1)) e k':=λe k' ⟨b',q1,q2,q3,q4⟩=>⟨b',q1,q2,XK S.get S.data ng q3,q4⟩
   refine aE (NG S.get S.data ?_ (by have:sizeLine=sizeLine:=rfl;rw[kT];lia))
   have AT:t1.fits fq.size=af:=by
    have a1:=G'.len;have a2:=G'.nod;simp[SetTable.fits,wL,a1,a2,G'.room]
   by_cases hf:t1.tooFull=af
   .rw[if_pos (by simpa using hf)]
    have nh:t1.mask*3<=fq.size*5:=by
     simp[OB,wL,G'.len,G'.nod] at hf;exact hf
    obtain⟨M,hM,BT,uo⟩:=Ah (t:=t) (n:=es.size+1) G.small (by simpa using S.fine.few.1) () (by rw[hm1,hsz] at nh;exact nh) je
    have hM3:fq.size<=M:=by
     rcases hM with e|e|e|e|e|e<;>rw[e] at BT ⊢<;>lia
    obtain⟨t2,cr,el,G2,p2,m2,le2,_,_⟩:=ZS (mask:=M) hM fq hM3 t1.finger (t1.movedTo M) t1.led t1.plain;have hre:t1.relaid (fq.map (·.1)) (FJ (es.size+1))=aa (t2,cr):=by
     unfold SetTable.relaid;rw[uo];exact el
    have uq:(cr.filterMap (fq[·]?)).size=fq.size:=by
     rw[<-gA,p2.length_eq,gA]
    refine aE ?_;unfold setRelay;refine aE (oM g1 d1 AT ?_);dsimp only;rw[if_neg (by rw[kT,uo];rcases hM with e|e|e|e|e|e<;>rw[e]<;>decide),hre]
    refine aE (show aJ (aO prog w) A (do
     let ig:=cr.filterMap (fq[·]?)
     if ig.size != fq.size then NO "internal:set-table-lost-an-element"
     pure (ig,t2)) _ E _ from ?_)
    dsimp only;rw[if_neg (by rw[uq];simp)]
    refine aH ?_;generalize cr.filterMap (fq[·]?)=ph at *;obtain⟨o2,g2,x2,d2,yb⟩:=EI g1 x1 d1 ph t2;dsimp only;refine NG g1 d1 ?_ (by rw[kT];lia)
    refine aH ?_;obtain⟨Ch,wP,q2⟩:=vP p2 rg;have Cl:∀ e k',ye w B s.heap e k'->ye w B ((s.heap.update a (AH fq t1)).update a (AH ph t2)) e k':=λe k' z=>by
     obtain⟨b',z1,z2,z3,z4⟩:=vq e k' z;exact⟨b',z1,z2,XK g1 d1 yb z3,z4⟩
    rw[show af=decide (k∉ks) from(decide_eq_true hn).symm]
    exact h _ (ng.trans yb) (by rw[if_neg hn];exact⟨o2,ph,ep+1+1,t2,Ch,⟨g2,x2,d2,⟨G2,by rw[uq,m2,hsz];exact BT,()⟩,le2.trans le1,pP (λe k'=>Cl e k') wP,q2.nodup_iff.2 rh⟩,q2.trans p1⟩)
   .rw[if_neg (by simpa using hf)]
    have few:fq.size*5<t1.mask*3/\fq.size<=4914:=by
     refine⟨?_,()⟩
     simp[OB,wL,G'.len,G'.nod] at hf
     lia
    refine aH ?_;rw[show af=decide (k∉ks) from(decide_eq_true hn).symm]
    exact h _ ng (by rw[if_neg hn];exact⟨o1,fq,ep+1,t1,ks1,⟨g1,x1,d1,⟨G',few⟩,le1,pP (λe k'=>vq e k') rg,rh⟩,p1⟩)
  obtain⟨k1,k2,as,rk⟩:=id hk;split
  .refine aE (Z9 (.tuple k) (by simpa [cA] using k1) 8 (by simp only[fE];lia) rk λbb=>?_)
   cases bb
   .simp only[rY,if_false];exact tail ah
   .simp only[if_true];exact tail t.plain
  .refine aE (aH ?_);simp only[if_true];exact tail t.plain
end
section
variable {B:aag->aC->Prop}
theorem SetT.len(S:SetT w B h a ks):∃ o es ep t,h.get? a=aa o/\o.ExactSet/\o.data=.set es ep t/\t.fits es.size=af/\es.size=ks.length:=by
 obtain⟨o,es,ep,t,gx,bd,p⟩:=S;refine⟨o,es,ep,t,bd.get,bd.exact,bd.data,bd.fine.fits,?_⟩;have:=iU bd.els;rw[gA] at this;rw[this,p.length_eq]
theorem SetT.keep(S:SetT w B h a ks)(k1:∀ o,h.get? a=aa o->h'.get? a=aa o)(k2:∀ b o vs n,h.get? b=aa o->o.cls=.type "tuple" -> o.data=.seq vs n->h'.get? b=aa o):SetT w B h' a ks:=by
 obtain⟨o,es,ep,t,gx,bd,p⟩:=S;exact⟨o,es,ep,t,gx,⟨k1 o bd.get,bd.exact,bd.data,bd.fine,bd.led,pP (λe k ⟨b,q1,q2,q3,q4⟩=>⟨b,q1,q2,q3.keep k2,q4⟩) bd.els,bd.nod⟩,p⟩
theorem Zi {ls:bv}(p:ks.Perm ls)(k:aag):(if k∈ks then ks else ks++[k]).Perm (hX ls k):=by
 unfold hX;by_cases m:k∈ks
 .rw[if_pos m,if_pos (p.mem_iff.1 m)];exact p
 .rw[if_neg m,if_neg (λz=>m (p.mem_iff.2 z))]
  exact p.append_right [k]
theorem Yl{b:aC}{k:aag}{Q:Bool->aF->Prop}
  (S:SetT w B s.heap a ks) (hk:Abf s.heap k b) (hB:B k b) (hu:A.units+20<cLine) (je:ks.length+1<=4914)
  (h:∀ h' c,kY a s.heap h'->SetT w B h' a (hX ks k)->Q c { s with heap:=h',toks:=s.toks+sP (.tuple k) }) :
  aJ (aO prog w) A (setAdd a (.ref b)) Q E s:=by
 obtain⟨o,es,ep,t,gx,bd,p⟩:=S;refine eG (aE ((jA prog w).pyHash hu hk ?_));have vo:es.size=ks.length:=by
  have:=iU bd.els;rw[gA] at this;rw[this,p.length_eq]
 refine eG (Tc bd hk hB hu () λh' sb S'=>h h' _ sb ?_)
 obtain⟨o',ig,Db,t',Ch,Z',p'⟩:=S';exact⟨o',ig,Db,t',Ch,Z',p'.trans (Zi p k)⟩
theorem A0s (ak:bv)(k:aag):ak.length<=(hX ak k).length:=by
 unfold hX;split
 .exact bA _
 .simp
theorem Bc:∀ (kss ak:bv),ak.length<=(kss.foldl hX ak).length
 |[],ak=>bA _
 |k::r,ak=>cQ (A0s ak k) (Bc r (hX ak k))
theorem p7 (kss:bv)(i:Nat):(eA (kss.take i)).length<=(eA kss).length:=by
 have e:eA kss=(kss.drop i).foldl hX (eA (kss.take i)):=by
  unfold eA;rw[<-qC,OQ]
 rw[e];exact Bc _ _
theorem c6{P:Nat->aB->Prop}{St:Nat->aF->Prop}
  (W:WalksS prog w A.in1 I fp wr G n P St) (hu:A.units+30<cLine) (S:aC) (Ev:S∉fp) (kss:bv) (hn:(eA kss).length<=4900)
  (hT:∀ i s,St i s->∀ c∈wr,∀ o,s.heap.get? c=aa o->o.cls ≠ .type "tuple") :
  ∀ (k i:Nat) (s:aF),n-i=k->i<=n->St i s->SetT w B s.heap S (eA (kss.take i))->(∀ j v,P j v->∃ b q,v=.ref b/\kss[j]?=aa q/\Abf s.heap q b/\B q b) ->
   (∀ s',Moved (S::wr) G s s'->SetT w B s'.heap S (eA (kss.take n))->R (.ok (.ret .none)) s') ->
   jJ (aO prog w) A (.builtin "set.update.loop" ⟨[.ref S,.ref I],[]⟩) R s:=by
 have EQ:S∉wr:=λz=>Ev (W.sub _ z)
 have more:∀ b∈wr,b∈S::wr:=λb z=>bI _ z
 have ni:∀ {i s s'},St i s->Moved wr G s s'->∀ b o vs m,s.heap.get? b=aa o->o.cls=.type "tuple" -> o.data=.seq vs m->s'.heap.get? b=aa o:=λ{i s s'} st hm b o vs m q c _=>
  hm.heap b o (λz=>hT i s st b z o q c) q
 intro k;induction k with
 |zero=>
  intro i s hk hi du hS hP hR;obtain rfl:i=n:=()
  exact iE PZ (aE (W.done s _ _ du λs' hm=>aH (hR s' (hm.mono more) (hS.keep (λo q=>hm.heap S o EQ q) (ni du hm)))))
 |succ k ih=>
  intro i s hk hi du hS hP hR;have bu:i<n:=()
  refine iE PZ (aE (W.item i s _ _ bu du λv s' ww kw hm=>?_))
  obtain⟨b,q,rfl,hq,hd,hB⟩:=hP i v ww;have jx:=hS.keep (λo z=>hm.heap S o EQ z) (ni du hm)
  have gn:eA (kss.take (i+1))=hX (eA (kss.take i)) q:=by
   rw[qB,hq];simp[eA,qC]
  have aw:=cQ (p7 kss i) hn;refine aE (eG (Yl jx (hd.keep (ni du hm)) hB (by show A.units+1+20<cLine;lia) () λh' c sb S2=>?_))
  obtain⟨o2,ph,Fa,t2,g2,_,d2,_⟩:=jx.len;refine aH ⟨jX F.plain_set_update_loop _,ih (i+1) _ () bu (W.frame _ s' _ _ kw (OM _ _) λc hc o e=>?_) (by rw[gn];exact S2) (λj v z=>?_) λwx kx S3=>?_⟩
  .exact(sb.2 c (λz=>Ev (z ▸ hc))).trans e
  .obtain⟨b',q',e1,e2,e3,e4⟩:=hP j v z;exact⟨b',q',e1,e2,(e3.keep (ni du hm)).keep (λb o vs m z _ z'=>by
   have dw:b≠S:=by
    rintro rfl;rw[g2] at z;cases z;rw[d2] at z';cases z'
   exact(sb.2 b dw).trans z),e4⟩
  .exact hR wx (OO W.gtrans ((hm.mono more).then_heap (OM _ _) λc o hc e=>(sb.2 c (λz=>hc (z ▸ bD))).trans e) kx) S3
end
def Sq (T:String)(h:aP)(l:aC)(items:Array aB):Prop:=(T = "list" \/ T = "tuple")/\∃ o,h.get? l=aa o/\o.cls=.type T/\∃ n,o.data=.seq items n
theorem YO{bd:aP->Prop}(hh:A.handled=ab)(hl:Sq T s.heap l items)
  (fill:∀ {A':bM} {R:mY->aF->Prop} {I:aC} {fp wr:aan} {G:Array qG->Array qG->Prop} {P:Nat->aB->Prop} {St:Nat->aF->Prop} (s1:aF),A'.units=A.units+1+1->WalksS prog w A'.in1 I fp wr G items.size P St->s.heap.objs.size∉fp ->
   (∀ i s,St i s->∀ c∈wr,∀ o,s.heap.get? c=aa o->o.cls ≠ .type "tuple")->(∀ j v,P j v->items[j]?=aa v)->St 0 s1->s1.heap.get? s.heap.objs.size=aa (Aot (!eJ w))->(∀ b o,s.heap.get? b=aa o->s1.heap.get? b=aa o) ->
   (∀ s',Moved (s.heap.objs.size::wr) G s1 s'->bd s'.heap->R (.ok (.ret .none)) s')->jJ (aO prog w) A' (.builtin "set.update.loop" ⟨[.ref s.heap.objs.size,.ref I],[]⟩) R s1)
  (h:∀ (h':aP) (tk:Nat),s.toks<=tk->bd h'->(∀ b o,b<s.heap.objs.size->s.heap.get? b=aa o->h'.get? b=aa o)->Q (.ref s.heap.objs.size) { s with heap:=h',toks:=tk }) :
  aJ (aO prog w) A (call (.type "set") [.ref l]) Q E s:=by
 have hmade:=xD.made;have qt:=xD.sub;refine wpAny_call (codeAny_of_tree (show aJ _ _ (callAny (.type "set") _) _ _ _ from ?_))
 refine aH ⟨Code.quiet_builtin _ (by rw[0]),iE F.entry_type_call ?_⟩
 rw[Around.under_plain (weight_type_call_type "set" [.ref l] []) rfl];have z1:=xD.notType;have z2:=xD.canCreate;have z3:=F.typeCall_set_1 (.ref l)
 repeat (any_goals (first|assumption|wp_step))
 refine AB (G3 (.ref l) (E:=E) (Q₁:=λu s₁=>u=.ref s.heap.objs.size/\s₁={ s with heap:=s.heap.push (Aot (!eJ w)) }) ⟨rfl,rfl⟩) λr s₁ hr=>?_
 match r,hr with
 |.error e,hr=>exact hr
 |.ok (.ret u),hr=>
  obtain⟨rfl,rfl⟩:=hr;generalize Go:(!eJ w)=led;have gS:(s.heap.push (Aot led)).get? s.heap.objs.size=aa (Aot led):=cH _ rfl;have hT:Shared.TypeIs { s with heap:=s.heap.push (Aot led) } (.ref s.heap.objs.size) "set":=⟨_,gS,rfl⟩;have y1:=xD.init.lookup;have y2:=xD.init.bind (.ref s.heap.objs.size)
  repeat (any_goals (first|assumption|wp_step))
  refine AB (codeAny_call_builtin (R:=wants (λr s₂=>r=.none/\∃ h' tk,s.toks<=tk/\s₂={ s with heap:=h',toks:=tk }/\bd h'/\(∀ b o,b<s.heap.objs.size->s.heap.get? b=aa o->h'.get? b=aa o)) E) xD.init.plain F.entry_set_init (check_set_init_1 hT ?_)) λr₂ s₂ ke=>?_
  .obtain⟨pd,ol,gl,cl,nl,dl⟩:=hl;obtain⟨ocls,Id,odata,wS⟩:=ol;simp only at cl dl;subst cl;subst dl;have gl':(s.heap.push (Aot led)).get? l=aa { cls:=.type T,dict:=Id,data:=.seq items nl,slots:=wS }:=bC _ gl;have x1:isSubtype (.type T) (.type "set")=pure ah:=by rcases pd with rfl|rfl<;>first|exact F.sub_list_set|exact F.sub_tuple_set
   have x2:isSubtype (.type T) (.type "frozenset")=pure ah:=by rcases pd with rfl|rfl<;>first|exact F.sub_list_frozenset|exact F.sub_tuple_frozenset
   have x3:(iG T==iG "dict")=ah:=by rcases pd with rfl|rfl<;>decide
   unfold Builtin.«set.__init__» noKeywords Builtin.Frozenset.updateFrom;generalize hPI:oP=PI
   wp_walk
   all_goals try (rename_i z;cases(show ah=af from x3.symm.trans z))
   subst hPI;have lS:l<s.heap.objs.size:=bN gl;have hI:(s.heap.push (Aot led)).objs.size=s.heap.objs.size+1:=mK _ _;have nI:l≠(s.heap.push (Aot led)).objs.size:=by rw[hI];exact cP (FS lS)
   have nS:s.heap.objs.size∉[(s.heap.push (Aot led)).objs.size,l]:=by
    intro z;rw[hI] at z;rcases cI.1 z with z|z
    .exact absurd z (cP (FR _))
    .exact absurd (cG.1 z) (jL lS)
   rcases pd with rfl|rfl
   all_goals
    first
    |refine zV (items:=items) ⟨_,gl',rfl,nl,rfl⟩ (aE (NI (fill _ rfl (Walks.list (by simp[hh]) _ l nI items).toS nS (λi s1 st c hc o e z=>?_) (λ_ _ e=>e) ⟨⟨_,cH _ rfl,rfl,rfl⟩,⟨_,bC _ gl',rfl,nl,rfl⟩⟩ (by rw[Go];exact bC _ gS) (λb o e=>bC _ (bC _ e)) λs' hm S'=>?_)))
    |refine Hz (items:=items) ⟨_,gl',rfl,nl,rfl⟩ (aE (NI (fill _ rfl (Walks.tuple (by simp[hh]) _ l nI items).toS nS (λi s1 st c hc o e z=>?_) (λ_ _ e=>e) ⟨⟨_,cH _ rfl,rfl,rfl⟩,⟨_,bC _ gl',rfl,nl,rfl⟩⟩ (by rw[Go];exact bC _ gS) (λb o e=>bC _ (bC _ e)) λs' hm S'=>?_)))
    .obtain⟨⟨o',g',c',_⟩,_⟩:=st;rw[cG.1 hc,g'] at e;cases e;rw[c'] at z;exact absurd z nofun
    .obtain⟨h',g',d',ku,xz⟩:=s';obtain rfl:g'=s.gens:=hm.gens;obtain rfl:d'=s.drawn:=hm.drawn;obtain rfl:xz=s.os:=hm.os;show aJ _ _ _ _ _ _;refine aH ?_;show aJ _ _ (ret eP) _ _ _;refine aH ⟨rfl,h',ku,hm.toks,rfl,S',λb o hb e=>?_⟩
     refine hm.heap b o (λz=>?_) (bC _ (bC _ e))
     rw[hI] at z;rcases cI.1 z with z|z
     .exact absurd z (cP hb)
     .exact absurd (cG.1 z) (cP (FS hb))
  .match r₂,ke with
   |.error e,ke=>exact ke
   |.ok (.ret v),ke=>
    obtain⟨rfl,h',tk,ht,rfl,S',jl⟩:=ke
    repeat (any_goals (first|assumption|wp_step))
    exact h _ _ ht S' jl
section
variable {B:aag->aC->Prop}
theorem d8(e:h.get? a=aa (Aot (!eJ w))):SetT w B h a []:=
 ⟨Aot (!eJ w),#[],0,.fresh 0 0 (!eJ w),[],⟨e,⟨rfl,rfl,rfl⟩,rfl,Ax _,rfl,.nil,.nil⟩,.refl _⟩
theorem T7(hh:A.handled=ab)(hu:A.units+40<cLine)(hl:Sq T s.heap l items)
  (hd:∀ (j:Nat) v,items[j]?=aa v->∃ b q,v=.ref b/\kss[j]?=aa q/\Abf s.heap q b/\B q b) (aw:(eA kss).length<=4900) (og:kss.length=items.size)
  (h:∀ (h':aP) (tk:Nat),s.toks<=tk->SetT w B h' s.heap.objs.size (eA kss)->(∀ b o,b<s.heap.objs.size->s.heap.get? b=aa o->h'.get? b=aa o)->Q (.ref s.heap.objs.size) { s with heap:=h',toks:=tk }) :
  aJ (aO prog w) A (call (.type "set") [.ref l]) Q E s:=
 YO hh hl (λs1 xw W nS tp hv st g hk hR=>c6 (B:=B) W () _ nS kss aw tp (items.size-0) 0 s1 rfl (cZ _) st (d8 g) (λj v e=>by
  obtain⟨b,q,q1,q2,q3,q4⟩:=hd j v (hv j v e);exact⟨b,q,q1,q2,q3.keep λb o vs m z _ _=>hk b o z,q4⟩) λs' hm S'=>hR s' hm (by rw[<-rT (l:=kss),og];exact S')) h
end
abbrev isO (a:aC)(o:aZ):HO:=.ext λh=>h.get? a=aa o
section
variable {X:Cx}
abbrev Refs (H:Hp)(ys:aai)(kss:bv):Prop:=bY (λy k=>∃ b,y=V.ref b/\Ajz H k b) ys kss
theorem Ez:∀ {kss:bv} {ys:aai},(∀ ks∈kss,bS ks=af/\cU ks<=6)->Aan K H (kss.map cD) ys->Refs H ys kss
 |[],ys,_,r=>by rw[Aah.1 r];exact .nil
 |k::kss,ys,hk,r=>by
  obtain⟨v,t,rfl,r1,r2⟩:=Aac.1 r;obtain⟨b,rfl,tk⟩:=r1.tupK (hk k bD).1 (hk k bD).2;exact .cons ⟨b,rfl,tk⟩ (Ez (λx m=>hk x (bI _ m)) r2)
theorem Refs.le(x:∀ c zs,H c=aa (.tup zs)->H' c=aa (.tup zs))(r:Refs H ys kss):Refs H' ys kss:=pP (λy k ⟨b,e,t⟩=>⟨b,e,t.keep x⟩) r
end
instance memK (k:aG)(ak:aam):Decidable (k∈ak):=decidable_of_iff (ak.any (λx=>decide (x=k))=af) (by simp[PJ])
theorem Z1(G:Good t es)(h:Int):∃ n,(∀ m<n,iK t (rd t.mask h m).j)/\¬ iK t (rd t.mask h n).j/\t.freeSlot h=aa ((rd t.mask h n).j,ah):=by
 obtain⟨k,_,h2,h3⟩:=G.next h (n:=0) (λm hm=>absurd hm ())
 rw[OK] at h2 h3;refine⟨k,λm hm=>?_,?_⟩
 .obtain⟨i,e,_⟩:=h2 m (cZ _) hm;exact⟨i,e⟩
 .rcases h3 with⟨a,b⟩|⟨i,_,c,_⟩
  .refine⟨a,?_⟩;unfold SetTable.freeSlot;have b':t.probe (λ_=>h+1) h (t.probeStart h)=aa (.empty (rd t.mask h k).j ab):=b
   rw[b']
   rfl
  .exact absurd c ()
theorem ZI(G:Good t es):t.fits es.size=af:=by
 simp[SetTable.fits,wL,G.len,G.nod,G.room]
theorem Zh(F:Fine t es)(je:es.size+1<=4914)(h:Int)(x:aB) :
  ∃ fq t1,layNew t es h x=(fq,t1,ah,ah)/\Good t1 fq/\fq.toList.Perm (es.toList++[(h,x)])/\t1.mask=t.mask/\t1.led=t.led/\t1.plain=t.plain/\fq.size=es.size+1:=by
 have G:=F.good;obtain⟨n,h1,h2,h3⟩:=Z1 G h;have ld:es.size<t.mask:=by
  have:=F.few;rcases G.small with e|e|e|e|e|e<;>rw[e] at this ⊢<;>lia
 have G':=G.put (x:=x) h1 h2 ld t.plain;refine⟨insertAt es (below t.place (rd t.mask h n).j) (h,x),{ t with place:=insertAt t.place (below t.place (rd t.mask h n).j) (rd t.mask h n).j },?_,G',?_,rfl,rfl,rfl,yL _ _ _⟩
 .unfold layNew;rw[h3];dsimp only;rw[SY G.nod];have hf:=ZI G';unfold SetTable.orStandIn;rw[if_pos hf,hf]
  rfl
 .have:=insertAt_perm es (below t.place (rd t.mask h n).j) (h,x);rw[Ke] at this;exact this
theorem L9(hm:nL mask)(es:tt)(hl:es.size<=mask)(fg mv:Nat)(led pl:Bool){t':cY}{cr:Array Nat}(e0:laid mask fg mv led pl (es.map (·.1))=aa (t',cr)):coversAll cr es.size=af:=by
 obtain⟨ow,e,O⟩:=Ad hm (es.map (·.1)) (by rw[Array.size_map];lia)
 have hz:=O.size;have aw:(es.map (·.1)).toList.length=es.size:=by simp
 have eo:((fQ mask ow).map (·.2)).toArray=cr:=by
  have:laid mask fg mv led pl (es.map (·.1))=aa ({ mask,place:=((fQ mask ow).map (·.1)).toArray,dummies:=#[],finger:=fg,led,moves:=mv,plain:=pl },((fQ mask ow).map (·.2)).toArray):=by
   unfold laid;rw[e]
   rfl
  rw[this] at e0;injection e0 with e0;exact congrArg Prod.snd e0
 subst eo;have nd:((fQ mask ow).map (·.2)).Nodup:=by
  unfold PL;rw[uC];refine FZ ?_ (DY mask ow);rintro⟨a,i⟩ ⟨b,i'⟩ ma mb km e';subst e';have q:=O.inj a b i ((jU hz).1 ma) ((jU hz).1 mb)
  lia
 refine List.isPerm_iff.2 ?_;rw[aAj nd OR];intro v;constructor
 .intro m;obtain⟨⟨j,i⟩,mm,rfl⟩:=bG.1 m;have q:=O.lt j i ((jU hz).1 mm);rw[aw] at q;exact eQ.2 q
 .intro m;obtain⟨j,q⟩:=O.all v (by rw[aw];exact eQ.1 m)
  exact bG.2 ⟨(j,v),(jU hz).2 q,rfl⟩
theorem u4(G:Good t es)(wT:(es.size-1)*5<t.mask*3/\0<es.size/\es.size<=4914)(hf:t.tooFull=af) :
  ∃ ph t2,relayAll t es (FJ es.size)=(ph,t2,ah)/\Fine t2 ph/\ph.toList.Perm es.toList/\t2.led=t.led/\t2.plain=t.plain:=by
 have nh:t.mask*3<=es.size*5:=by
  simp[OB,wL,G.len,G.nod] at hf;exact hf
 obtain⟨M,hM,BT,uo⟩:=Ah G.small wT.1 wT.2.1 nh wT.2.2;have hM3:es.size<=M:=by
  rcases hM with e|e|e|e|e|e<;>rw[e] at BT ⊢<;>lia
 obtain⟨t2,cr,el,G2,p2,m2,l2,pl2,_⟩:=ZS hM es hM3 t.finger (t.movedTo M) t.led t.plain;have hre:t.relaid (es.map (·.1)) (FJ es.size)=aa (t2,cr):=by
  unfold SetTable.relaid;rw[uo];exact el
 have uq:(cr.filterMap (es[·]?)).size=es.size:=by
  rw[<-gA,p2.length_eq,gA]
 refine⟨cr.filterMap (es[·]?),t2,?_,⟨G2,by rw[uq,m2];exact BT,()⟩,p2,l2,pl2⟩
 unfold relayAll;rw[hre];dsimp only;rw[if_pos (by rw[L9 hM es hM3 _ _ _ _ el,ZI G2];rfl)]
def T' (prog:bE)(w:aX)(e:Int×aB)(n:Int):Prop:=e.1=(tW prog w).hash n/\∃ t,e.2=.int n t
structure IntsAt (prog:bE)(w:aX)(h:aP)(a:aC)(o:aZ)(es:Array (Int×aB))(ep:Nat)(t:cY)(ns:List Int):Prop where
 get:h.get? a=aa o
 exact:o.ExactSet
 data:o.data=.set es ep t
 fine:Fine t es
 led:t.led=!eJ w
 plain:t.plain=af
 els:bY (T' prog w) es.toList ns
 nod:ns.Nodup
theorem IntsAt.wset {prog:bE}{w:aX}(S:IntsAt prog w h a o es ep t ns):WSet w h a o es ep t:=⟨S.get,S.exact,S.data,S.fine,S.led⟩
def A4t (prog:bE)(w:aX)(h:aP)(a:aC)(ns:aaj):Prop:=∃ o es ep t dy,IntsAt prog w h a o es ep t dy/\dy.Perm ns
theorem A4t.keep(S:A4t prog w h a ns)(k:∀ o,h.get? a=aa o->h'.get? a=aa o):A4t prog w h' a ns:=by
 obtain⟨o,es,ep,t,dy,S,p⟩:=S;exact⟨o,es,ep,t,dy,⟨k o S.get,S.exact,S.data,S.fine,S.led,S.plain,S.els,S.nod⟩,p⟩
theorem GZ {α β:Type}{R:α->β->Prop}:∀ {as:List α} {bs:List β},bY R as bs->∀ {a},a∈as->∃ b∈bs,R a b
 |_,_,.nil,_,m=>by simp at m
 |_,_,.cons r p,_,m=>by
  rcases cI.1 m with rfl|m
  .exact⟨_,bD,r⟩
  .obtain⟨b,mb,rb⟩:=GZ p m;exact⟨b,bI _ mb,rb⟩
theorem QS {α β:Type}{R:α->β->Prop}:∀ {as:List α} {bs:List β},bY R as bs->∀ {b},b∈bs->∃ a∈as,R a b
 |_,_,.nil,_,m=>by simp at m
 |_,_,.cons r p,_,m=>by
  rcases cI.1 m with rfl|m
  .exact⟨_,bD,r⟩
  .obtain⟨b,mb,rb⟩:=QS p m;exact⟨b,bI _ mb,rb⟩
theorem Rx {es:List (Int×aB)}(p:bY (T' prog w) es ns):ElemsOf (tW prog w) es:=λe he=>by
 obtain⟨n,_,e1,t,e2⟩:=GZ p he;refine⟨⟨n,?_,e1⟩,?_⟩
 .rw[e2];exact FH _ _ _ _
 .rw[e2];rfl
theorem Fq {es:List (Int×aB)}(p:bY (T' prog w) es ns)(n:Int):n∈ns ↔ ∃ e∈es,(tW prog w).is n e.2=af:=by
 constructor
 .intro m;obtain⟨e,he,_,t,e2⟩:=QS p m;exact⟨e,he,by rw[e2];exact FH _ _ _ _⟩
 .rintro⟨e,he,hi⟩;obtain⟨n',hn',_,t,e2⟩:=GZ p he;rw[e2] at hi;have:=(tW prog w).inj _ n n' hi (FH _ _ _ _);rw[this];exact hn'
theorem d5{n:Int}{tk:Tok}{Q:Bool->aF->Prop}(S:A4t prog w s.heap a ns)(je:ns.length+1<=76)
  (h:∀ h',kY a s.heap h'->A4t prog w h' a (if n∈ns then ns else ns++[n])->Q (decide (n∉ns)) { s with heap:=h' }) :
  aJ (aO prog w) A (setAddHashed a (.int n tk) ((tW prog w).hash n)) Q E s:=by
 obtain⟨o,es,ep,t,dy,S,pm⟩:=S;have hle:es.size=dy.length:=by rw[<-gA];exact S.els.length
 have hln:=pm.length_eq;have hel:=Rx S.els;have fits:=S.fine.fits;have hmm:n∈dy↔n∈ns:=pm.mem_iff;refine eG (aE (oM S.get S.data fits ?_));dsimp only;rw[byScan_of rfl (by unfold scanBound;lia) hel]
 refine aE (aE (mW (aE (wpAny_setScan_of (FH _ _ _ _) S.get S.data fits hel ?_))));cases hr:List.findIdx? (λe=>(tW prog w).is n e.2) es.toList with
 |some j=>
  obtain⟨hj,hpj,_⟩:=aAm.1 hr;have mem:=(Fq S.els n).2 ⟨es.toList[j],nB hj,hpj⟩;refine aH (aH ?_);have q:=h s.heap (Js a s.heap) (by rw[if_pos (hmm.1 mem)];exact⟨o,es,ep,t,dy,S,pm⟩)
  rw[decide_eq_false (λz=>z (hmm.1 mem))] at q
  exact q
 |none=>
  have nm:n∉dy:=λz=>by
   obtain⟨e,he,hp⟩:=(Fq S.els n).1 z;have:=Jh.1 hr e he;rw[hp] at this;cases this
  have nm2:n∉ns:=λz=>nm (hmm.2 z)
  obtain⟨fq,t1,e1,G1,p1,m1,l1,pl1,z1⟩:=Zh S.fine () ((tW prog w).hash n) (.int n tk)
  rw[e1];obtain⟨o1,g1,x1,d1,ng⟩:=EI S.get S.exact S.data fq t1;obtain⟨ns1,rg,q1⟩:=vP p1 (MV ⟨rfl,tk,rfl⟩ S.els);have rh:=q1.nodup_iff.2 (rV.2 ⟨S.nod,by simp,λx hx y hy e=>nm (by rw[<-cG.1 hy,<-e];exact hx)⟩)
  have pm1:=q1.trans (pm.append_right _);have dr:=pl1.trans S.plain;have hz1:fq.size<=sizeLine:=by rw[kT];lia
  refine aE (show aJ (aO prog w) A (pure Unit.unit) _ E _ from aH ?_)
  rw[if_pos dr];refine aE (show aJ (aO prog w) A (NV 8 (.int n tk)) _ E _ from(zW (hashByValue_scannable 8 rfl) ?_))
  simp only[plainKind,if_true];refine aE (NG S.get S.data ?_ hz1);have few1:(fq.size-1)*5<t1.mask*3/\0<fq.size/\fq.size<=4914:=by
   have:=S.fine.few
   lia
  by_cases hf:t1.tooFull=af
  .rw[if_pos (by simpa using hf)]
   obtain⟨ph,t2,e2,F2,p2,l2,pl2⟩:=u4 G1 few1 hf;rw[e2];dsimp only;obtain⟨o2,g2,x2,d2,yb⟩:=EI g1 x1 d1 ph t2;obtain⟨Ix,wP,q2⟩:=vP p2 rg;have hz2:ph.size=fq.size:=by rw[<-gA,p2.length_eq,gA]
   refine aE (show aJ (aO prog w) A (pure Unit.unit) _ E _ from aH (aE (NG g1 d1 ?_ ())))
   refine aH (aH ?_);have q:=h _ (ng.trans yb) (by rw[if_neg nm2];exact⟨o2,ph,ep+1+1,t2,Ix,⟨g2,x2,d2,F2,l2.trans (l1.trans S.led),pl2.trans dr,wP,q2.nodup_iff.2 rh⟩,q2.trans pm1⟩)
   rw[decide_eq_true nm2] at q;exact q
  .rw[if_neg (by simpa using hf)]
   have few:fq.size*5<t1.mask*3/\fq.size<=4914:=by
    refine⟨?_,()⟩
    simp[OB,wL,G1.len,G1.nod] at hf
    lia
   refine aH (aH ?_);have q:=h _ ng (by rw[if_neg nm2];exact⟨o1,fq,ep+1,t1,ns1,⟨g1,x1,d1,⟨G1,few⟩,l1.trans S.led,dr,rg,rh⟩,pm1⟩)
   rw[decide_eq_true nm2] at q;exact q
def uP (ak:aaj)(n:Int):aaj:=if n∈ak then ak else ak++[n]
def gP (ns:aaj):aaj:=ns.foldl uP []
theorem KJ (ns:aaj):(gP ns).length<=ns.length:=by
 have go:∀ (l ak:aaj),(l.foldl uP ak).length<=ak.length+l.length:=by
  intro l;induction l with
  |nil=>intro ak;simp
  |cons x r ih=>
   intro ak;have h2:(uP ak x).length<=ak.length+1:=by unfold uP;split<;>simp
   have:=ih (uP ak x);simp only[hJ,eX]
   lia
 have:=go ns [];simpa [gP] using this
theorem N8(e:h.get? a=aa (Aot (!eJ w))):A4t prog w h a []:=
 ⟨_,#[],0,_,[],⟨e,⟨rfl,rfl,rfl⟩,rfl,Ax _,rfl,rfl,.nil,by simp⟩,.refl _⟩
theorem W4{P:Nat->aB->Prop}{St:Nat->aF->Prop}
  (W:WalksS prog w A.in1 I fp wr G n P St) (S:aC) (Ev:S∉fp) (ns:aaj) (hn:n<=75) (hP:∀ j v,P j v->∃ q t,ns[j]?=aa q/\v=.int q t) :
  ∀ (k i:Nat) (s:aF),n-i=k->i<=n->St i s->A4t prog w s.heap S (gP (ns.take i)) ->
   (∀ s',Moved (S::wr) G s s'->A4t prog w s'.heap S (gP (ns.take n))->R (.ok (.ret .none)) s') ->
   jJ (aO prog w) A (.builtin "set.update.loop" ⟨[.ref S,.ref I],[]⟩) R s:=by
 have EQ:S∉wr:=λz=>Ev (W.sub _ z)
 have more:∀ b∈wr,b∈S::wr:=λb z=>bI _ z
 intro k;induction k with
 |zero=>
  intro i s hk hi du hS hR;obtain rfl:i=n:=()
  exact iE PZ (aE (show aJ _ A.in1 (jW (.ref I)) _ _ s from W.done s _ _ du λs' hm=>aH (hR s' (hm.mono more) (hS.keep λo q=>hm.heap S o EQ q))))
 |succ k ih=>
  intro i s hk hi du hS hR;have bu:i<n:=()
  refine iE PZ (aE (show aJ _ A.in1 (jW (.ref I)) _ _ s from W.item i s _ _ bu du λv s' ww kw hm=>?_))
  obtain⟨q,t,hq,rfl⟩:=hP i v ww;have gn:gP (ns.take (i+1))=uP (gP (ns.take i)) q:=by
   rw[qB,hq];simp[gP,qC]
  have aw:(gP (ns.take i)).length<=i:=cQ (KJ _) (by rw[mH];lia)
  refine aE (show aJ _ A.in1 (nN [pZ q t] (setAdd S (.int q t))) _ _ s' from eG (eG (aE ((tW prog w).pyHash (FH _ _ _ _) (d5 (hS.keep λo z=>hm.heap S o EQ z) () λh' sb S2=>?_)))))
  have S3:A4t prog w h' S (gP (ns.take (i+1))):=by
   rw[gn];exact S2
  refine aH ⟨jX F.plain_set_update_loop _,ih (i+1) _ () bu (W.frame _ s' _ _ kw (rS _) λc hc o e=>?_) S3 λwx kx S4=>?_⟩
  .exact(sb.2 c (λz=>Ev (z ▸ hc))).trans e
  .exact hR wx (OO W.gtrans ((hm.mono more).then_heap (rS _) λc o hc e=>(sb.2 c (λz=>hc (z ▸ bD))).trans e) kx) S4
theorem Fu {α:Type}{l:List α}{i:Nat}(h:i<l.length):(l[i]::l.eraseIdx i).Perm l:=by
 rw[List.eraseIdx_eq_take_drop_succ];refine List.perm_middle.symm.trans ?_;have:l.take i++l[i]::l.drop (i+1)=l:=by
  rw[<-PH h,OQ]
 rw[this]
theorem Gf {α:Type}(f:Nat->Nat):∀ (n k:Nat) (l:List α) (out:Array α),l.length=n->(pickOrder.go f n k l out).toList.Perm (out.toList++l)
 |0,k,l,out,h=>by
  have:l=[]:=Je.1 h;subst this;show out.toList.Perm _;simp
 |n+1,k,l,out,h=>by
  have hi:f k%l.length<l.length:=wO _ ()
  unfold pickOrder.go;rw[eE hi];dsimp only;refine(Gf f n (k+1) _ _ (by rw[aAl hi];lia)).trans ?_
  rw[Ke,Jn];exact(Fu hi).append_left _
theorem U2 {α:Type}(f:Nat->Nat)(xs:Array α):(pickOrder f xs).toList.Perm xs.toList:=by
 have:=Gf f xs.size 0 xs.toList #[] (by simp)
 simpa [pickOrder] using this
def jq (w:aX)(a:aC)(ep:Nat)(es:tt):List (Int×aB):=if eJ w=af then(pickOrder (w.params.setOrder a ep) es).toList else es.toList
theorem JR (w:aX)(a:aC)(ep:Nat)(es:tt):(jq w a ep es).Perm es.toList:=by
 unfold jq;split
 .exact U2 _ _
 .exact .refl _
theorem CK (w:aX)(a:aC)(ep:Nat)(es:tt):(jq w a ep es).length=es.size:=by
 rw[(JR w a ep es).length_eq,gA]
def slotAt (w:aX)(t:cY):Nat->Nat
 |0=>0
 |i+1=>if eJ w=af then 0 else t.place.getD i 0+1
theorem KD (w:aX)(t:cY)(i:Nat):slotAt w t (i+1)=if eJ w=af then 0 else t.place.getD i 0+1:=rfl
theorem y8(hr:mL t.place)(hb:eJ w=ah){i:Nat}(hi:i<=t.place.size):below t.place (slotAt w t i)=i:=by
 obtain⟨b1,b2,b3⟩:=EM hr (slotAt w t i);cases i with
 |zero=>
  rcases Nat.eq_zero_or_pos (below t.place (slotAt w t 0)) with e|e
  .exact e
  .have:=b2 0 e (t.place[0]'()) (jP _)
   exact absurd this (by simp[slotAt])
 |succ i=>
  have hv:t.place[i]?=aa (t.place[i]'()):=jP _
  have es:slotAt w t (i+1)=t.place[i]'()+1:=by
   rw[KD,if_neg (by rw[hb];simp)]
   simp[Array.getD,show i<t.place.size by lia]
  rw[es] at b1 b2 b3 ⊢;rcases AJ (below t.place (t.place[i]'()+1)) (i+1) with c|c|c
  .have:=b3 i () _ hv
   lia
  .exact c
  .have IN:t.place[i+1]?=aa (t.place[i+1]'()):=jP _
   have h1:=b2 (i+1) c _ IN;have h2:=hr i (i+1) _ _ () hv IN
   lia
theorem XS (S:WSet w s.heap a o es ep t)(jj:eJ w=ah->(!t.plain&&decide (es.size > 1))=ah){i:Nat}(hi:i<=es.size){Q:Option (aB×Nat)->aF->Prop}
  (q:Q (((jq w a ep es)[i]?).map λe=>(e.2,slotAt w t (i+1))) s):aJ (aO prog w) A (setNext a (slotAt w t i) i ep) Q E s:=by
 refine aE (oM S.get S.data S.fine.fits (aE (aE (zZ (aH ?_)))));by_cases hb:eJ w=af
 .refine oO (λ_=>?_) (λz=>absurd hb z)
  rw[if_neg (by simp)]
  refine aE ?_;unfold setWalk;refine aE (oM S.get S.data S.fine.fits ?_);dsimp only;unfold setsByText;refine aE (aE (zZ (aH (oO (λ_=>?_) (λz=>absurd hb z)))))
  refine aE (zZ (aH (aH ?_)));have e1:jq w a ep es=(pickOrder (w.params.setOrder a ep) es).toList:=by unfold jq;rw[if_pos hb]
  have e2:∀ j,slotAt w t j=0:=λj=>by
   cases j with
   |zero=>rfl
   |succ j=>rw[KD,if_pos hb]
  rw[e1,e2 (i+1),nW] at q;rw[e2 i];exact q
 .refine oO (λz=>absurd z hb) (λ_=>?_)
  have vt:eJ w=ah:=by simpa using hb
  refine oO (λz=>?_) (λ_=>?_)
  .have z':(!t.plain&&decide (es.size > 1))=af:=z;rw[jj vt] at z';cases z'
  .refine aE (show aJ _ _ (if (!t.led&&!es.isEmpty)=af then NO "set:maker-not-led" else pure Unit.unit) _ _ _ from ?_)
   rw[if_neg (by rw[S.led,vt];simp)]
   refine aH (aH ?_);have e1:jq w a ep es=es.toList:=by unfold jq;rw[if_neg hb]
   have hz:=S.fine.good.len;rw[e1,nW] at q;rw[(y8 S.fine.good.ris vt ())]
   by_cases c:i<es.size
   .have p1:es[i]?=aa (es[i]'c):=jP _;have p3:slotAt w t (i+1)=t.place[i]'()+1:=by
     rw[KD,if_neg hb];simp[Array.getD,show i<t.place.size by lia]
    rw[p1,p3] at q;rw[p1,(jP _)];exact q
   .have p1:es[i]?=ab:=QJ ()
    rw[p1] at q;rw[p1];exact q
abbrev zR (h:aP)(r a:aC)(k i n ep:Nat):Prop:=h.get? r=aa { cls:=.type "set_iterator",dict:=ab,data:=.fields #[cT k,cT i,.ref a,cT n,cT ep],slots:=#[] }
theorem Aa4:PySem.Slot "set_iterator" "__next__" "set_iterator.__next__":=
 .of (owner:="set_iterator") (n:="__next__") (by rw[tV,tY];kernel_rfl) (by rw[0]) (by rw[0]) (by rw[0])
  (by first|exact .inl (by rw[0])|exact .inr (by rw[0])) (by rw[isSubtype_type];kernel_rfl)
theorem EX:entryFor table "set_iterator.__next__" = aa Builtin.«set_iterator.__next__»:=entryFor_of_tree (by kernel_rfl)
theorem EV (a:aB):argsOk "set_iterator.__next__" ⟨[a],[]⟩:=by
 unfold argsOk
 kernel_rfl
theorem EU:PySem.Slot "set_iterator" "__iter__" "set_iterator.__iter__":=
 .of (owner:="set_iterator") (n:="__iter__") (by rw[tV,tY];kernel_rfl) (by rw[0]) (by rw[0]) (by rw[0])
  (by first|exact .inl (by rw[0])|exact .inr (by rw[0])) (by rw[isSubtype_type];kernel_rfl)
theorem Dz:entryFor table "set_iterator.__iter__" = aa Builtin.«dict_keyiterator.__iter__»:=
 entryFor_alias (id':="dict_keyiterator.__iter__") (by kernel_rfl) (by first|rfl|decide +kernel|(unfold String.splitOn;simp +decide [String.splitOnAux])) (by rw[0]) (by kernel_rfl)
theorem Ds (a:aB):argsOk "set_iterator.__iter__" ⟨[a],[]⟩:=by
 unfold argsOk
 kernel_rfl
theorem Do:entryFor table "set.__iter__" = aa Builtin.«frozenset.__iter__»:=
 entryFor_alias (id':="frozenset.__iter__") (by kernel_rfl) (by first|rfl|decide +kernel|(unfold String.splitOn;simp +decide [String.splitOnAux])) (by rw[0]) (by kernel_rfl)
theorem Zk (S:WSet w s.heap a o es ep t)(jj:eJ w=ah->(!t.plain&&decide (es.size > 1))=ah){i:Nat}(hr:zR s.heap r a (slotAt w t i) i es.size ep){e:Int×aB}(he:(jq w a ep es)[i]?=aa e){Q:aap->aF->Prop}
  (q:∀ h',zR h' r a (slotAt w t (i+1)) (i+1) es.size ep->kY r s.heap h'->Q (aa e.2) { s with heap:=h' }):aJ (aO prog w) A (jW (.ref r)) Q E s:=by
 have ty:s.TypeIs (.ref r) "set_iterator":=⟨_,hr,rfl⟩;have hi:i<es.size:=by
  rw[<-CK w a ep es];exact(cE.1 he).1
 refine aE (pW (mB ty Aa4 (fK Aa4 ty EX ?_ (EV _))));show aJ _ _ (fieldsOf (.ref r)>>=_) _ _ s;refine aE (zY hr rfl (aE (zU S.get S.data S.fine.fits ?_)));rw[if_neg (by simp)]
 show aJ _ _ (setNext a ((slotAt w t i:Int)).toNat ((i:Int)).toNat ((ep:Int)).toNat>>=_) _ _ s;rw[mJ,mJ,mJ];refine aE (XS S jj () ?_)
 rw[he];refine aE (mV hr (by simp) λh1 g1 ng=>aE (mV g1 (by simp) λh2 g2 yb=>aH ⟨e.2,rfl,aH (q h2 ?_ (ng.trans yb))⟩))
 exact g2
theorem f6 (hh:A.handled=ab)(S:WSet w s.heap a o es ep t)(jj:eJ w=ah->(!t.plain&&decide (es.size > 1))=ah)(hr:zR s.heap r a (slotAt w t es.size) es.size es.size ep){Q:aap->aF->Prop}
  (q:∀ h',(∀ b ob,b≠r->s.heap.get? b=aa ob->h'.get? b=aa ob)->Q ab { s with heap:=h' }):aJ (aO prog w) A (jW (.ref r)) Q E s:=by
 have ty:s.TypeIs (.ref r) "set_iterator":=⟨_,hr,rfl⟩;refine aE (pW (mB ty Aa4 (fK Aa4 ty EX ?_ (EV _))));show aJ _ _ (fieldsOf (.ref r)>>=_) _ _ s;refine aE (zY hr rfl (aE (zU S.get S.data S.fine.fits ?_)));rw[if_neg (by simp)]
 show aJ _ _ (setNext a ((slotAt w t es.size:Int)).toNat ((es.size:Int)).toNat ((ep:Int)).toNat>>=_) _ _ s;rw[mJ,mJ,mJ];refine aE (XS S jj (bA _) ?_);rw[OZ (by rw[CK];exact bA _)]
 refine aE (mV hr (by simp) λh1 g1 ng=>aE ?_)
 simp only[newExc,newTuple];refine aE (iD ?_ (by size_fits))
 refine aE (zW (by first|rfl|(simp only[NW];rfl)) (iD ?_ (by size_fits)))
 simp only[raiseNew];refine aE (NM ?_)
 first|rw[show A.in1.handled=ab from hh]|rw[hh]
 refine aE (aH (NF ?_));refine aE (rQ ⟨_,cH _ rfl,rfl⟩ FG ?_);exact aH (q _ λb ob ne e=>bC _ (bC _ ((ng.2 b ne).trans e)))
theorem P1 {i:Nat}(hr:zR s.heap r a k i n ep)(q:Q (.ref r) s):aJ (aO prog w) A (oP (.ref r)) Q E s:=by
 have ty:s.TypeIs (.ref r) "set_iterator":=⟨_,hr,rfl⟩;refine FB ty EU (fK EU ty Dz ?_ (Ds _));exact aH ⟨_,rfl,"set_iterator",_,ty,Aa4.lookup,q⟩
theorem Yz (S:WSet w s.heap a o es ep t)(jj:eJ w=ah->(!t.plain&&decide (es.size > 1))=ah)
  (q:Q (.ref s.heap.objs.size) { s with heap:=s.heap.push { cls:=.type "set_iterator",data:=.fields #[cT (0:Nat),cT (0:Nat),.ref a,cT (es.size:Nat),cT (ep:Nat)] } }):aJ (aO prog w) A (oP (.ref a)) Q E s:=by
 have ty:s.TypeIs (.ref a) "set":=⟨_,S.get,S.exact.1⟩;refine FB ty PV (fK PV ty Do ?_ (F.args_set_iter_1 _));show aJ _ _ (Builtin.Frozenset.sizeOf a>>=_) _ _ s;refine aE (aE (zU S.get S.data S.fine.fits (aH (aE (aE (oM S.get S.data S.fine.fits ?_))))));dsimp only;unfold setsByText;refine aE (aE (zZ (aH (aH (oO (λz=>?_) (λ_=>aE (aH ?_)))))))
 .have z':(!(w.params.followText "set-order")&&(!t.plain&&decide (es.size > 1)))=af:=z;cases hb:eJ w with
  |true=>
   have vt:w.params.followText "set-order" = af:=hb;rw[vt] at z';cases z'
  |false=>
   rw[jj hb] at z';simp at z'
 .exact aE (wpAny_setEpoch_of S.get S.data S.fine.fits (aE (iD (aH ⟨_,rfl,"set_iterator",_,⟨_,cH _ rfl,rfl⟩,Aa4.lookup,q⟩) (by size_fits))))
theorem A0l (hh:A.handled=ab)(r a:aC)(ne:a≠r){h0:aP}(S:WSet w h0 a o es ep t)(jj:eJ w=ah->(!t.plain&&decide (es.size > 1))=ah) :
  Walks prog w A r [r,a] [r] es.size (λi v=>∃ e,(jq w a ep es)[i]?=aa e/\v=e.2) (λi h=>zR h r a (slotAt w t i) i es.size ep/\h.get? a=aa o) where
 sub:=λb hb=>by rw[cG.1 hb];exact bD
 frame:=λ_ _ _ st hk=>⟨hk r bD _ st.1,hk a (bI _ bD) _ st.2⟩
 item:=λi s Q E hi st hQ=>by
  have hx:(jq w a ep es)[i]?=aa ((jq w a ep es)[i]'(by rw[CK];exact hi)):=eE _
  exact Zk ⟨st.2,S.exact,S.data,S.fine,S.led⟩ jj st.1 hx λh' gw sb=>hQ _ h' s.toks ⟨_,hx,rfl⟩ ⟨gw,(sb.2 a ne).trans st.2⟩ λb o hb e=>(sb.2 b (λz=>hb (cG.2 z))).trans e
 done:=λs Q E st hQ=>by
  exact f6 hh ⟨st.2,S.exact,S.data,S.fine,S.led⟩ jj st.1 λh' he=>hQ h' s.toks λb ob hb e=>he b ob (λz=>hb (cG.2 z)) e
 self:=λ_ _ _ _ st hQ=>P1 st.1 hQ
def GJ (K:aI)(a:aC)(n:Nat):It:=
 ⟨λi H=>∃ xs,SqL K H a xs/\xs.length=n/\i<n,λi H x H'=>H'=H/\∀ xs,SqL K H a xs->xs[n-1-i]?=aa x,λi H=>n=i⟩
theorem g9 {P:bE}(a r:aC)(n:Nat):Turn P w K tg (GJ K a n) [r] r (λi h=>h.IsRevIter r a ((n:Int)-1-i)) where
 mem:=cG.2 rfl
 obj:=λi h ⟨o,e,_,d⟩ b hb=>by
  rw[cG.1 hb];exact⟨o,e,λv z=>by rw[d] at z;cases z⟩
 keep:=λi h h' st k=>st.at (k r (cG.2 rfl))
 item:=by
  intro X hP hw hK i ad s Z H E I hf st hg;subst hP hw hK;obtain⟨xs,hq,hn,hi⟩:=hg;obtain⟨its,rv,p,hz⟩:=I.list hq;obtain⟨x,hx⟩:∃ x,xs[n-1-i]?=aa x:=⟨_,eE ()⟩
  obtain⟨u,hu,ru⟩:=rv.get hx;rw[show((n:Int)-1-i)=((n-1-i:Nat):Int) by lia] at st
  refine wpAny_pyNext_rev_item st p.isList (by simpa using hu) λh' gw sb=>?_
  rw[show((n-1-i:Nat):Int)-1=((n:Int)-1-((i+1:Nat):Int)) by lia] at gw
  obtain⟨o,e,c,d⟩:=id gw;exact⟨u,rfl,BP (s:={ s with heap:=h' }) e c d nofun ⟨x,H,I.turnM hf λb o nb e=>sb.extBut b o (λq=>nb (cG.2 q)) e,ru,⟨rfl,λjd h=>by rw[I.list_inj h hq];exact hx⟩,gw,λb hb=>(hf b hb).1⟩⟩
 done:=by
  intro X hP hw hK i ad s Z H E I hf st hg;subst hg;rw[show((n:Int)-1-n) = -1 by lia] at st
  exact wpAny_pyNext_rev_end I.ok.hd st λh' eb=>⟨rfl,I.turnM hf λb o nb e=>eb b o (λq=>nb (cG.2 q)) e⟩
 self:=λ_ _ _ _ _ st h=>wpAny_pyIter_revIter st h
section
variable {X:Cx}{a:aT}{p:bJ}
def Lf (K:aI)(ta:TA):TI:=λZ H R=>ta Z H λvs H1=>∃ a1 xs,vs=[.ref a1]/\SqL K H1 a1 xs/\R (GJ K a1 xs.length) H1
theorem So(hg:Gl X "reversed")(hm:X.mg "reversed" = ab)(ha:PA X [a] ta)(hs:bH [a] X.env=[(ah,bF a X.env)]:=by rfl):PI X tg (.Call (.Name "reversed" p) [a] [] pos) (Lf X.K ta):=by
 intro ad s Z H R I h;refine Call_ (lH I hg hm boot_reversed (oV (bj (ha pos ad s Z H _ I h) λus s1 ⟨vs,H1,I1,r1,q1⟩=>?_) hs (by rfl)))
 obtain⟨a1,xs,rfl,k1,q⟩:=q1;obtain⟨u,rfl,ru⟩:=vals1 r1;cases ru;obtain⟨its,rv,p,hz⟩:=I1.list k1;refine call_reversed_list p.isList ?_;rw[show((its.toArray.size:Nat):Int)=xs.length by rw[dA,rv.length]]
 have g:(s1.heap.push (revObj a1 ((xs.length:Int)-1))).IsRevIter s1.heap.objs.size a1 ((xs.length:Int)-1):=⟨_,cH _ rfl,rfl,rfl⟩;refine wpAny_pyIter_revIter g ⟨s1.heap.objs.size,[s1.heap.objs.size],_,_,H1,rfl,I1.kept λb o e=>bC _ e,g9 a1 _ xs.length,?_,λb hb=>?_,q⟩
 .rw[show((xs.length:Int)-1-((0:Nat):Int))=(xs.length:Int)-1 by lia]
  exact g
 .rw[cG.1 hb];exact I1.fpOk (bA _) (I1.hok.fresh (bA _))
def iRv (fa:AF):AF:=λY=>(fa Y).bind λds=>match ds with
 |[.list xs]=>aa xs.reverse
 |_=>ab
theorem Vv{B:Hp}(h1:∀ H2,Ext B H2->SqL K H2 a1 xs)(r1:Aan K B ds xs):rn K B (GJ K a1 xs.length) ds.reverse:=λi H2 x2=>by
 have hl:=r1.length;refine⟨λd hd=>?_,λe=>?_⟩
 .have hi:i<ds.length:=by
   have:=(cE.1 hd).1;simpa using this
  rw[List.getElem?_reverse hi] at hd;obtain⟨v1,g1,g2⟩:=r1.get hd;refine⟨⟨xs,h1 H2 x2,rfl,()⟩,?_⟩
  rintro x H3 ⟨rfl,hx⟩;have:=hx xs (h1 _ x2);rw[hl] at this;obtain rfl:v1=x:=fF (g1.symm.trans this);exact⟨Ext.refl,λP2 _ xb=>g2.ext xb⟩
 .have e':ds.length=i:=by simpa using e
  show xs.length=i
  lia
theorem Qh(hg:Gl X "reversed")(hm:X.mg "reversed" = ab)(ha:DA X [a] fa)(hs:bH [a] X.env=[(ah,bF a X.env)]) :
  DI X tg (.Call (.Name "reversed" p) [a] [] pos) (iRv fa):=PI.imp (So hg hm ha hs) λZ H R gh=>by
 obtain⟨P,Y,ds,hP,rs,ef,k⟩:=gh;obtain⟨as,e1,cg⟩:=ar ef;split at cg
 .cases cg;refine⟨P,Y,_,hP,rs,e1,λvs H1 x1 r1=>?_⟩
  obtain⟨v,rfl,q1⟩:=fC r1;obtain⟨a1,xs,rfl,hr,rr⟩:=Aav.1 q1;exact⟨a1,xs,rfl,Aam.sqL hr,k _ H1 x1 (Vv (λH2 x2=>x2.sqL hr) rr)⟩
 .cases cg
end
theorem R5(hh:A.handled=ab)(hl:Sq "list" s.heap l items)
  (hd:∀ (j:Nat) v,items[j]?=aa v->∃ q t,ns[j]?=aa q/\v=.int q t) (aw:items.size<=75) (og:ns.length=items.size)
  (h:∀ (h':aP) (tk:Nat),s.toks<=tk->A4t prog w h' s.heap.objs.size (gP ns)->(∀ b o,b<s.heap.objs.size->s.heap.get? b=aa o->h'.get? b=aa o)->Q (.ref s.heap.objs.size) { s with heap:=h',toks:=tk }) :
  aJ (aO prog w) A (call (.type "set") [.ref l]) Q E s:=
 YO hh hl (λs1 _ W nS _ hv st g _ hR=>W4 W _ nS ns aw (λj v e=>hd j v (hv j v e)) (items.size-0) 0 s1 rfl (cZ _) st (N8 g) λs' hm S'=>hR s' hm (by rw[<-rT (l:=ns),og];exact S')) h
theorem P7{Q:Bool->aF->Prop}(ty:s.TypeIs (.ref a) "set")(q:Q ah s):aJ (aO prog w) A (Ka (.ref a)) Q E s:=by
 refine aE (rP ty F.slot_set_len.lookup ?_);generalize hid:("set.__len__" : String)=id0
 wp_delta
 subst hid;refine aE (rQ ty sub_set_self (oO (λkm=>absurd km nofun) (λ_=>oO (λ_=>?_) (λkm=>absurd (by rw[0]) km))))
 exact aE (jV ty (aH q))
theorem Bb{D:Drawn->Prop}{ws0:List (Int×aB)->Prop}(hh:A.handled=ab)(S:WSet w s.heap a o es ep t)
  (it:∀ {A':bM} {E':aB->aF->Prop} {h1:aP} {Q':aB->aF->Prop},h1.objs.size=s.heap.objs.size+1->WSet w h1 a o es ep t ->
   (∀ (r:aC) (h2:aP) (d:Drawn) (ws:List (Int×aB)) (fp:aan) (St:Nat->aP->Prop),D d->ws0 ws->ws.length=es.size->h1.objs.size<=r->(∀ b ob,h1.get? b=aa ob->h2.get? b=aa ob)->s.heap.objs.size∉fp ->
    (∀ {A'':bM},A''.handled=ab->Walks prog w A'' r fp [r] es.size (λi v=>∃ e,ws[i]?=aa e/\v=e.2) St)->(∀ h3:aP,(∀ b ob,b≠s.heap.objs.size->h2.get? b=aa ob->h3.get? b=aa ob)->St 0 h3)->Q' (.ref r) { s with heap:=h2,drawn:=d }) ->
   aJ (aO prog w) A' (oP (.ref a)) Q' E' { s with heap:=h1 }) {Q:aak->aF->Prop}
  (q:∀ h' tk d ws,D d->ws0 ws->s.toks<=tk->s.heap.objs.size<h'.objs.size->(∀ b ob,s.heap.get? b=aa ob->h'.get? b=aa ob)->Q (ws.map (·.2)) { s with heap:=h',toks:=tk,drawn:=d }):aJ (aO prog w) A (collect (.ref a)) Q E s:=by
 refine aE (NI (iE F.entry_proto_collect (aE (show aJ _ A.in1 (newList []) _ _ s from iD (aH ⟨jX F.plain_list_iadd _,iE F.entry_list_iadd ?_⟩)))))
 generalize uh:s.heap.push { cls:=.type "list",data:=.seq ([]:aak).toArray }=h1;have k1:∀ b ob,s.heap.get? b=aa ob->h1.get? b=aa ob:=λb ob e=>by rw[<-uh];exact bC _ e
 have z1:h1.objs.size=s.heap.objs.size+1:=by rw[<-uh];exact mK _ _
 have g1:h1.get? s.heap.objs.size=aa { cls:=.type "list",data:=.seq ([]:aak).toArray }:=by rw[<-uh];exact cH _ rfl
 have S1:WSet w h1 a o es ep t:=⟨k1 _ _ S.get,S.exact,S.data,S.fine,S.led⟩;show aJ _ A.in1 (QG (.ref s.heap.objs.size) (.ref a) (.ref s.heap.objs.size)) _ _ _;unfold QG;refine aE (jV ⟨_,S1.get,S1.exact.1⟩ ?_);have n1:xE (.ref s.heap.objs.size) (.ref a)=ah:=by simp[xE,jL (bN S.get)]
 rw[if_neg (by rw[n1];decide)]
 refine aE (it z1 S1 λr h2 d ws fp St hD hw dr hr k2 nS hW h0=>?_)
 have S2:WSet w h2 a o es ep t:=⟨k2 _ _ S1.get,S.exact,S.data,S.fine,S.led⟩;refine aE (eG (P7 ⟨_,S2.get,S2.exact.1⟩ (oO (λ_=>?_) (λz=>absurd (by rw[0]) z))))
 refine aE (mW (aE (show aJ _ A.in1 (wG s.heap.objs.size (·.push .none)>>=λ_=>wG s.heap.objs.size (·.pop)) _ _ _ from(aE (rO (k2 _ _ g1) rfl ?_)))))
 have hS2:=nU (eK (·.push eP)) (k2 _ _ g1) rfl;refine rO hS2 rfl ?_;have oth:∀ b ob,b≠s.heap.objs.size->h2.get? b=aa ob->((h2.update s.heap.objs.size (eK (·.push eP))).update s.heap.objs.size (eK (·.pop))).get? b=aa ob:=
  λb ob hb e=>(oY _ _ (fZ hb)).trans ((oY _ _ (fZ hb)).trans e)
 have few:=S.fine.few;refine aH ⟨jX PX _,codeAny_extend_loopS (hW (by simp[hh])).toS (by rw[kT];lia) _ nS _ es.size 0 _ _ _ rfl (cZ _) (h0 _ oth) (nU (eK (·.pop)) hS2 rfl) (ItemsOf.nil _) λs' dm c' hm jx cw=>aE (wpAny_load jx (aH ?_))⟩
 obtain⟨h',g',d',ku,xz⟩:=s';obtain rfl:g'=s.gens:=hm.gens;obtain rfl:d'=d:=hm.drawn;obtain rfl:xz=s.os:=hm.os;have eacc:dm.toList=ws.map (·.2):=by
  apply Jm;intro j;rw[eD,nW];by_cases hj:j<es.size
  .have e1:dm[j]?=aa (dm[j]'(by rw[cw.1];exact hj)):=jP _
   obtain⟨e,he,ev⟩:=cw.2 j _ e1;rw[e1,he,ev]
   rfl
  .rw[QJ (by rw[cw.1];lia),OZ (by rw[dr];lia)]
   rfl
 rw[eacc];refine q h' ku d' ws hD hw hm.toks (bN jx) λb ob e=>?_
 have hbb:=bN e;refine hm.heap b ob (λz=>?_) (oth b ob (cP hbb) (k2 _ _ (k1 _ _ e)))
 rcases cI.1 z with z|z
 .exact absurd z (cP hbb)
 .have z2:=cG.1 z
  lia
theorem Cb(hh:A.handled=ab)(S:WSet w s.heap a o es ep t)(jj:eJ w=ah->(!t.plain&&decide (es.size > 1))=ah){Q:aak->aF->Prop}
  (q:∀ h' tk,s.toks<=tk->s.heap.objs.size<h'.objs.size->(∀ b ob,s.heap.get? b=aa ob->h'.get? b=aa ob)->Q ((jq w a ep es).map (·.2)) { s with heap:=h',toks:=tk }):aJ (aO prog w) A (collect (.ref a)) Q E s:=
 Bb (D:=(· = s.drawn)) (ws0:=(· = jq w a ep es)) hh S (λ{_ _ h1 _} z1 S1 k=>Yz S1 jj (by
  have aS:=bN S.get;refine k _ _ s.drawn _ [h1.objs.size,a] _ rfl rfl (CK w a ep es) (bA _) (λb ob e=>bC _ e) (λz=>?_) (λhh'=>A0l hh' h1.objs.size a () (h0:=h1.push { cls:=.type "set_iterator",data:=.fields #[cT (0:Nat),cT (0:Nat),.ref a,cT (es.size:Nat),cT (ep:Nat)] }) ⟨bC _ S1.get,S.exact,S.data,S.fine,S.led⟩ jj) λh3 k3=>⟨k3 _ _ () (cH _ rfl),k3 _ _ () (bC _ S1.get)⟩
  simp only[cI,mF,or_false] at z
  lia)) λh' tk d ws hd hw h1 h2 h3=>by subst hd hw;exact q h' tk h1 h2 h3
theorem i8(p:bY (T' prog w) es.toList ns):∃ dy,oX ((jq w a ep es).map (·.2)) dy/\dy.Perm ns:=by
 obtain⟨dy,q,r⟩:=vP (JR w a ep es) p;refine⟨dy,?_,r⟩;generalize jq w a ep es=l at q;clear r p;induction q with
 |nil=>exact .nil
 |cons h t ih=>
  obtain⟨_,tk,e2⟩:=h;rw[dB,e2];exact .cons _ tk ih
theorem k8(hh:A.handled=ab)(S:A4t prog w s.heap a ns)(kg:ns.length<64)
  (q:∀ h' tk l e (out:aak) dy,s.toks<=tk->(∀ b ob,s.heap.get? b=aa ob->h'.get? b=aa ob)->s.heap.objs.size<=l->oX out dy->dy.Perm ns->dy.Pairwise (· <= ·)->h'.get? l=aa (gK "list" out.toArray e)->Q (.ref l) { s with heap:=h',toks:=tk }) :
  aJ (aO prog w) A (call (.builtin "sorted") [.ref a]) Q E s:=by
 obtain⟨o,es,ep,t,ns0,S,pm⟩:=S;obtain⟨ns1,hI,p1⟩:=i8 S.els;have aw:((jq w a ep es).map (·.2)).length<64:=by
  have:=hI.length;rw[this,p1.length_eq,pm.length_eq];exact kg
 refine Jv kind_sorted plain_sorted entry_sorted (args_sorted1 _) (aE (aH (aE (Cb (by simp[hh]) S.wset (λ_=>by rw[S.plain];rfl) λh1 tk IO hsz k1=>aE (FC ?_ (by rw[kT];lia))))))
 generalize(jq w a ep es).map (·.2)=vs at hI aw;have tf:(h1.push (gK "list" vs.toArray 0)).get? h1.objs.size=aa (gK "list" vs.toArray 0):=cH _ rfl;refine aE (eG (fK slot_list_sort ⟨_,tf,rfl⟩ entry_list_sort (list_sort_tree tf hI aw λout dy a1 a2 a3=>⟨_,rfl,?_⟩) (args_list_sort _)))
 refine aH ⟨_,rfl,?_⟩;obtain⟨e,he⟩:=sortedHeap_at tf;refine q _ tk h1.objs.size e out.toList dy IO (λb ob eb=>?_) (mE hsz) a1 (a2.trans (p1.trans pm)) a3 he
 have hb:=bN (k1 b ob eb);rw[sortedHeap_old (cP hb) (by rw[size_push'];exact FS hb),GA _ _ _ (cP hb)]
 exact k1 b ob eb
section
variable {T:aC}
theorem Tq {src:Source}{Q:Nat->aF->Prop}(h0:n≠0)(q:∀ i d,i<n->Q i { s with drawn:=d }):aJ (aO prog w) A (choose src n) Q E s:=λΓ p hΓ=>by
 unfold choose;exact⟨h0,q _ _ (wO _ (Nat.pos_of_ne_zero h0))⟩
theorem u5 {α:Type}(n:Nat):∀ (xs:List α) {s:aF} {Q:List α->aF->Prop},xs.length=n->(∀ ys d,ys.Perm xs->Q ys { s with drawn:=d })->aJ (aO prog w) A (drawOrder n xs) Q E s:=by
 induction n with
 |zero=>
  intro xs s Q h q;have:=Je.1 h;subst this;have:=q [] s.drawn (.refl _);exact aH this
 |succ n ih=>
  intro xs s Q h q;cases xs with
  |nil=>simp at h
  |cons x xs=>
   refine aE (Tq (by simp) λi d hi=>?_)
   rw[eE hi];exact aE (ih ((x::xs).eraseIdx i) (by rw[aAl hi];simp at h ⊢;lia) λys d' p=>aH (q _ d' ((p.cons _).trans (Fu hi))))
abbrev zJ (h:aP)(r T a:aC)(i n ep:Nat):Prop:=h.get? r=aa { cls:=.type "set_iterator",dict:=ab,data:=.fields #[.ref T,cT i,.ref a,cT n,cT ep],slots:=#[] }
def W' (es:tt)(ps:aaq):List (Int×aB):=ps.filterMap (es[·]?)
theorem WR(h:ps.Perm (bZ es.size)):(W' es ps).Perm es.toList:=(h.filterMap _).trans (by rw[filterMap_getElem?_range])
theorem Wa(h:∀ p∈ps,p<es.size):∀ {i:Nat} {p:Nat},ps[i]?=aa p->(W' es ps)[i]?=es[p]?:=by
 intro i p hp;unfold W';rw[MK _ (λk hk=>by rw[jP (h k hk)];rfl),hp]
 rfl
theorem i3 (S:WSet w s.heap a o es ep t)(hT:∃ oT n,s.heap.get? T=aa oT/\oT.data=.seq (ps.map λ(i:Nat)=>cT i).toArray n){i:Nat}(hr:zJ s.heap r T a i es.size ep){p:Nat}(hp:ps[i]?=aa p){e:Int×aB}(he:es[p]?=aa e){Q:aap->aF->Prop}
  (q:∀ h',zJ h' r T a (i+1) es.size ep->kY r s.heap h'->Q (aa e.2) { s with heap:=h' }):aJ (aO prog w) A (jW (.ref r)) Q E s:=by
 have ty:s.TypeIs (.ref r) "set_iterator":=⟨_,hr,rfl⟩;obtain⟨oT,nT,gT,dT⟩:=hT;refine aE (pW (mB ty Aa4 (fK Aa4 ty EX ?_ (EV _))));show aJ _ _ (fieldsOf (.ref r)>>=_) _ _ s;refine aE (zY hr rfl (aE (zU S.get S.data S.fine.fits ?_)));rw[if_neg (by simp)]
 refine aE (iC gT dT ?_);dsimp only;rw[show((i:Int)).toNat=i from mJ i]
 have e1:(ps.map λ(i:Nat)=>cT i).toArray[i]?=aa (cT p):=by simp[hp]
 rw[e1];show aJ _ _ (setNextDrawn a ((p:Int)).toNat ((ep:Int)).toNat>>=_) _ _ s;rw[mJ,mJ];refine aE (aE (oM S.get S.data S.fine.fits ?_));dsimp only;rw[if_neg (by simp),he]
 refine aH (aE (mV hr (by simp) λh1 g1 ng=>aH ⟨e.2,rfl,aH (q h1 g1 ng)⟩))
theorem M6 (hh:A.handled=ab)(S:WSet w s.heap a o es ep t)(hT:∃ oT n,s.heap.get? T=aa oT/\oT.data=.seq (ps.map λ(i:Nat)=>cT i).toArray n)(hl:ps.length=es.size)(hr:zJ s.heap r T a es.size es.size ep){Q:aap->aF->Prop}
  (q:∀ h',(∀ b ob,b≠r->s.heap.get? b=aa ob->h'.get? b=aa ob)->Q ab { s with heap:=h' }):aJ (aO prog w) A (jW (.ref r)) Q E s:=by
 have ty:s.TypeIs (.ref r) "set_iterator":=⟨_,hr,rfl⟩;obtain⟨oT,nT,gT,dT⟩:=hT;refine aE (pW (mB ty Aa4 (fK Aa4 ty EX ?_ (EV _))));show aJ _ _ (fieldsOf (.ref r)>>=_) _ _ s;refine aE (zY hr rfl (aE (zU S.get S.data S.fine.fits ?_)));rw[if_neg (by simp)]
 refine aE (iC gT dT ?_);dsimp only;rw[show((es.size:Int)).toNat=es.size from mJ _]
 have e1:(ps.map λ(i:Nat)=>cT i).toArray[es.size]?=ab:=by simp[hl]
 rw[e1];refine aE (mV hr (by simp) λh0 g0 sb0=>aE (mV g0 (by simp) λh1 g1 ng=>aE (aE (iD ?_ (by size_fits)))))
 refine aE (zW (by first|rfl|(simp only[NW];rfl)) (iD ?_ (by size_fits)))
 refine aE (NM ?_)
 first|rw[show A.in1.handled=ab from hh]|rw[hh]
 refine aE (aH (NF ?_));refine aE (rQ ⟨_,cH _ rfl,rfl⟩ FG ?_);exact aH (q _ λb ob ne e=>bC _ (bC _ ((ng.2 b ne).trans ((sb0.2 b ne).trans e))))
theorem j2 {i:Nat}(hr:zJ s.heap r T a i n ep)(q:Q (.ref r) s):aJ (aO prog w) A (oP (.ref r)) Q E s:=by
 have ty:s.TypeIs (.ref r) "set_iterator":=⟨_,hr,rfl⟩;refine FB ty EU (fK EU ty Dz ?_ (Ds _));exact aH ⟨_,rfl,"set_iterator",_,ty,Aa4.lookup,q⟩
abbrev BC (ps:aaq):aZ:={ cls:=.type "tuple",data:=.seq (ps.map λ(i:Nat)=>cT i).toArray }
theorem V2 (S:WSet w s.heap a o es ep t)(hb:eJ w=ah)(hd:(!t.plain&&decide (es.size > 1))=af)
  (q:∀ ps d,ps.Perm (bZ es.size)->Q (.ref (s.heap.objs.size+1)) { s with heap:=(s.heap.push (BC ps)).push { cls:=.type "set_iterator",data:=.fields #[.ref s.heap.objs.size,cT (0:Nat),.ref a,cT (es.size:Nat),cT (ep:Nat)] },drawn:=d }):aJ (aO prog w) A (oP (.ref a)) Q E s:=by
 have ty:s.TypeIs (.ref a) "set":=⟨_,S.get,S.exact.1⟩;refine FB ty PV (fK PV ty Do ?_ (F.args_set_iter_1 _));show aJ _ _ (Builtin.Frozenset.sizeOf a>>=_) _ _ s;refine aE (aE (zU S.get S.data S.fine.fits (aH (aE (aE (oM S.get S.data S.fine.fits (aE (aE (zZ (aH (aH ?_)))))))))));have vt:w.params.followText "set-order" = ah:=hb;refine oO (λ_=>?_) (λz=>absurd (show(!(w.params.followText "set-order")&&(!t.plain&&decide (es.size > 1)))=af by rw[vt,hd];rfl) z)
 have few:=S.fine.few;refine aE (u5 es.size (bZ es.size) (by simp) λps d hp=>?_)
 have hz:(ps.map λ(i:Nat)=>cT i).toArray.size<=sizeLine:=by
  have:=hp.length_eq;rw[kT];simp at this ⊢
  lia
 refine aE (iD ?_ hz);have S1:WSet w (s.heap.push (BC ps)) a o es ep t:=⟨bC _ S.get,S.exact,S.data,S.fine,S.led⟩;refine aE (wpAny_setEpoch_of S1.get S.data S.fine.fits (aE (iD (aH ⟨_,rfl,"set_iterator",_,⟨_,cH _ rfl,rfl⟩,Aa4.lookup,?_⟩) (by size_fits))))
 have:=q ps d hp;rw[<-(mK _ _)] at this;exact this
end
theorem Wo(h:ps.Perm (bZ es.size)):(W' es ps).length=es.size:=by
 rw[(WR h).length_eq,gA]
theorem o4(hh:A.handled=ab)(r T a:aC)(ne:a≠r)(nT:T≠r){h0:aP}(S:WSet w h0 a o es ep t)(hp:ps.Perm (bZ es.size)) :
  Walks prog w A r [r,a,T] [r] es.size (λi v=>∃ e,(W' es ps)[i]?=aa e/\v=e.2) (λi h=>zJ h r T a i es.size ep/\h.get? a=aa o/\h.get? T=aa (BC ps)) where
 sub:=λb hb=>by rw[cG.1 hb];exact bD
 frame:=λ_ _ _ st hk=>⟨hk r bD _ st.1,hk a (bI _ bD) _ st.2.1,hk T (bI _ (bI _ bD)) _ st.2.2⟩
 item:=λi s Q E hi st hQ=>by
  have hl:ps.length=es.size:=by simpa using hp.length_eq
  have hx:ps[i]?=aa (ps[i]'()):=eE _
  have bu:∀ p∈ps,p<es.size:=λp m=>eQ.1 (hp.mem_iff.1 m)
  have hy:es[ps[i]'()]?=aa (es[ps[i]'()]'(bu _ (nB _))):=jP _
  exact i3 ⟨st.2.1,S.exact,S.data,S.fine,S.led⟩ ⟨_,_,st.2.2,rfl⟩ st.1 hx hy λh' gw sb=>hQ _ h' s.toks ⟨_,(Wa bu hx).trans hy,rfl⟩ ⟨gw,(sb.2 a ne).trans st.2.1,(sb.2 T nT).trans st.2.2⟩ λb o hb e=>(sb.2 b (λz=>hb (cG.2 z))).trans e
 done:=λs Q E st hQ=>by
  exact M6 hh ⟨st.2.1,S.exact,S.data,S.fine,S.led⟩ ⟨_,_,st.2.2,rfl⟩ (by simpa using hp.length_eq) st.1 λh' he=>hQ h' s.toks λb ob hb e=>he b ob (λz=>hb (cG.2 z)) e
 self:=λ_ _ _ _ st hQ=>j2 st.1 hQ
theorem B3(hh:A.handled=ab)(S:WSet w s.heap a o es ep t){Q:aak->aF->Prop}
  (q:∀ h' tk d (ig:List (Int×aB)),ig.Perm es.toList->s.toks<=tk->s.heap.objs.size<h'.objs.size->(∀ b ob,s.heap.get? b=aa ob->h'.get? b=aa ob)->Q (ig.map (·.2)) { s with heap:=h',toks:=tk,drawn:=d }):aJ (aO prog w) A (collect (.ref a)) Q E s:=by
 by_cases c:eJ w=ah/\(!t.plain&&decide (es.size > 1))=af
 .refine Bb (D:=λ_=>True) (ws0:=λws=>ws.Perm es.toList) hh S (λ{_ _ h1 _} z1 S1 k=>V2 S1 c.1 c.2 λps d hps=>?_) λh' tk d ws _ hw h1 h2 h3=>q h' tk d ws hw h1 h2 h3
  have aS:=bN S.get;refine k _ _ d _ [h1.objs.size+1,a,h1.objs.size] _ trivial (WR hps) (Wo hps) (rS _) (λb ob e=>bC _ (bC _ e)) (λz=>?_) (λhh'=>o4 hh' (h1.objs.size+1) h1.objs.size a () (cP (FR _)) S1 hps) λh3 k3=>⟨k3 _ _ () (by rw[<-(mK _ _)];exact cH _ rfl),k3 _ _ () (bC _ (bC _ S1.get)),k3 _ _ () (bC _ (cH h1 (o:=BC ps) rfl))⟩
  simp only[cI,mF,or_false] at z
  lia
 .refine Cb hh S (λhb=>?_) λh' tk h1 h2 h3=>q h' tk s.drawn _ (JR w a ep es) h1 h2 h3
  cases hz:(!t.plain&&decide (es.size > 1)) with
  |false=>rfl
  |true=>exact absurd ⟨hb,hz⟩ c
theorem Ue {k k':aG}{v:aB}(r:RelV (kV k) u)(r':RelV (kV k') v):OP u v (decide (k=k')):=by
 intro prog w A E s Q q;cases k with
 |inl i=>
  obtain⟨t,rfl⟩:=(show ∃ t,u=pZ i t from r)
  cases k' with
  |inl j=>
   obtain⟨t',rfl⟩:=(show ∃ t,v=pZ j t from r')
   refine SeqAt.EqAt.int_int i t j t' prog w E Q ?_;have:(i==j)=decide ((wK i:aG)=wK j):=by
    rw[nV];simp
   rw[this];exact q
  |inr y=>
   obtain⟨t',rfl⟩:=(show ∃ t,v=tZ y t from r')
   exact SeqAt.EqAt.int_str i t y t' prog w E Q (by simpa using q)
 |inr x=>
  obtain⟨t,rfl⟩:=(show ∃ t,u=tZ x t from r)
  cases k' with
  |inl j=>
   obtain⟨t',rfl⟩:=(show ∃ t,v=pZ j t from r')
   exact SeqAt.EqAt.str_int x t j t' prog w E Q (by simpa using q)
  |inr y=>
   obtain⟨t',rfl⟩:=(show ∃ t,v=tZ y t from r')
   refine SeqAt.EqAt.str_str x t y t' prog w E Q ?_;have:(x==y)=decide ((fR x:aG)=fR y):=by
    rw[nV];simp
   rw[this];exact q
theorem P6 (l:aC)(us:Array aB)(n:Nat)(dd:Option aC)(sl:aab)(x:aB)(e:aB->Bool)(he:∀ y,y∈us->OP y x (e y))(dx:Int)(j:Nat)(hj:j<us.size)(ht:(j:Int)<dx)(ij:e us[j]=af) :
  ∀ (k i:Nat),j-i=k->i<=j->(∀ m (hm:m<us.size),i<=m->m<j->e us[m]=ah)->Meets (Builtin.«list.index.loop» ⟨[.ref l,x,cT i,cT dx],[]⟩)
   (λ_ R s=>s.heap.get? l=aa { cls:=.type "list",dict:=dd,data:=.seq us n,slots:=sl }/\R (.ok (.ret (.int j s.toks))) { s with toks:=s.toks+1 }):=by
 intro k;induction k with
 |zero=>
  intro i hk ky qm prog w A R s h;obtain⟨hl,h⟩:=h;obtain rfl:i=j:=()
  wp_walk using wpAny_loadPart' hl
  rw[show(if (i:Int)<dx then us[((i:Nat):Int).toNat]? else ab)=aa us[i] by simp[ht,hj]]
  refine aE (he _ (Array.getElem_mem hj) prog w _ _ _ _ ?_)
  wp_walk
  exact h
 |succ k ih=>
  intro i hk ky qm prog w A R s h;obtain⟨hl,h⟩:=h;have lt:i<us.size:=()
  have lo:(i:Int)<dx:=()
  wp_walk using wpAny_loadPart' hl
  rw[show(if (i:Int)<dx then us[((i:Nat):Int).toNat]? else ab)=aa us[i] by simp[lo,lt]]
  refine aE (he _ (Array.getElem_mem lt) prog w _ _ _ _ ?_);rw[qm i lt (bA _) ()]
  wp_walk
  exact⟨jX MeetsSeq.plain_index_loop _,iE MeetsSeq.entry_index_loop (ih (i+1) () () (λm hm h1 h2=>qm m hm () h2) prog w A R _ ⟨hl,h⟩)⟩
theorem W7 (l:aC)(us:Array aB)(n:Nat)(dd:Option aC)(sl:aab)(x:aB)(e:aB->Bool)(he:∀ y,y∈us->OP y x (e y))(j:Nat)(hj:j<us.size)(small:(j:Int)<2^63-1)(ij:e us[j]=af)(qm:∀ m (hm:m<us.size),m<j->e us[m]=ah) :
  Meets (Builtin.«list.index» ⟨[.ref l,x],[]⟩) (λ_ R s=>s.heap.get? l=aa { cls:=.type "list",dict:=dd,data:=.seq us n,slots:=sl }/\R (.ok (.ret (.int j s.toks))) { s with toks:=s.toks+1 }):=by
 intro prog w A R s h;obtain⟨hl,h⟩:=h
 wp_walk using wpAny_loadPart' hl
 exact⟨jX MeetsSeq.plain_index_loop _,iE MeetsSeq.entry_index_loop (P6 l us n dd sl x e he (2^63-1) j hj small ij _ 0 rfl (cZ _) (λm hm _ h2=>qm m hm h2) prog w A R _ ⟨hl,h⟩)⟩
section
variable {X:Cx}
def kf (ks:aam)(k:aG):Option Nat:=ks.findIdx? λy=>decide (y=k)
theorem JV {ks:aam}{k:aG}(h:kf ks k=aa j):ks[j]?=aa k/\∀ m,m<j->ks[m]?≠aa k:=by
 obtain⟨hj,h1,h2⟩:=aAm.1 h;refine⟨by rw[eE hj,of_decide_eq_true h1],λm hm e=>?_⟩
 have:=h2 m hm;rw[eE ()] at e
 exact this (decide_eq_true (fF e))
theorem EA:∀ {ks:aam} {us:aak},Vals (ks.map kV) us->∀ (m:Nat) (hm:m<us.length),∃ k,ks[m]?=aa k/\RelV (kV k) us[m]
 |[],_,.nil,m,hm=>by simp at hm
 |k::ks,_::us,.cons h t,0,hm=>⟨k,rfl,h⟩
 |k::ks,_::us,.cons h t,m+1,hm=>by
  obtain⟨k',e,r⟩:=EA t m (by simpa using hm)
  exact⟨k',by simpa using e,by simpa using r⟩
def qf (k:aG)(u:aB):Bool:=match k,u with
 |.inl i,.int j _=>decide (j=i)
 |.inr x,.str y _=>decide (y=x)
 |_,_=>ah
theorem ID {k k':aG}(r:RelV (kV k) u):qf k' u=decide (k=k'):=by
 cases k with
 |inl i=>
  obtain⟨t,rfl⟩:=(show ∃ t,u=pZ i t from r)
  cases k' with
  |inl j=>simp[qf]
  |inr y=>simp[qf]
 |inr x=>
  obtain⟨t,rfl⟩:=(show ∃ t,u=tZ x t from r)
  cases k' with
  |inl j=>simp[qf]
  |inr y=>simp[qf]
def Xv (K:aI):V->aai->Hp->VK->Prop:=λx vs H Q=>∃ p ks k j,x=.ref p/\vs=[kV k]/\SqL K H p (ks.map kV)/\kf ks k=aa j/\Q (.int j) H
theorem ZQ {ks:aam}{k:aG}{us:aak}{v:aB}(r:Vals (ks.map kV) us)(rk:RelV (kV k) v)(h:kf ks k=aa j) :
  (∀ y,y∈us.toArray->OP y v (qf k y))/\∃ hj:j<us.toArray.size,qf k us.toArray[j]=af/\∀ m (hm:m<us.toArray.size),m<j->qf k us.toArray[m]=ah:=by
 obtain⟨h1,h2⟩:=JV h;have hl:ks.length=us.length:=by simpa using r.length
 have hj:j<us.length:=by rw[<-hl];exact(cE.1 h1).1
 refine⟨λy m=>?_,by simpa using hj,?_,λm hm bu=>?_⟩
 .obtain⟨i,hi,rfl⟩:=uF (show y∈us by simpa using m)
  obtain⟨k',e,rr⟩:=EA r i hi;rw[ID rr];exact Ue rr rk
 .obtain⟨k',e,rr⟩:=EA r j hj;rw[h1] at e;cases e;show qf k us[j]=af;rw[ID rr];simp
 .have hm':m<us.length:=by simpa using hm
  obtain⟨k',e,rr⟩:=EA r m hm';show qf k us[m]=ah;rw[ID rr];exact decide_eq_false λq=>h2 m bu (q ▸ e)
theorem W3:MtR X "list.index" (Xv X.K):=by
 intro ad s Z H x vs v us Q I rx rv h;obtain⟨p,ks,k,j,rfl,rfl,hp,hj,q⟩:=h;cases rx;obtain⟨u,rfl,ru⟩:=rv.one;obtain⟨its,r,pl,hz⟩:=I.list hp;obtain⟨he,bu,ij,qm⟩:=ZQ r ru hj;obtain⟨⟨cls,dd,data,sl⟩,n,e,hc,_,hd⟩:=pl;subst hc hd;have hn:=sZ;have lz:its.toArray.size<=sizeLine:=by rw[dA,<-r.length];exact hz
 refine AC aAc ⟨_,e,rfl⟩ PySem.F.entry_list_index (PySem.F.args_list_index_2 _ _) (W7 p its.toArray n dd sl u (qf k) he j bu () ij qm) ⟨e,⟨.int j,H,I.tok _,⟨_,rfl⟩,q⟩⟩
end
def lL:aag->Option aam
 |[]=>aa []
 |d::r=>(cC d).bind λk=>(lL r).bind λks=>aa (k::ks)
theorem LD:∀ {ds:aag} {xs:aai} {ks:aam},lL ds=aa ks->Aan K H ds xs->xs=ks.map kV
 |[],xs,ks,e,r=>by
  cases e;exact Aah.1 r
 |d::ds,xs,ks,e,r=>by
  obtain⟨k,e1,e2⟩:=ar (show((cC d).bind λk=>(lL ds).bind λks=>aa (k::ks))=aa ks from e)
  obtain⟨gx,e3,e4⟩:=ar e2;cases e4;obtain⟨v,t,rfl,h1,h2⟩:=Aac.1 r;rw[lX e1 h1,LD e3 h2]
  rfl
def xH (ds:aag)(d:aA):aah:=(lL ds).bind λks=>(cC d).bind λk=>(kf ks k).bind λj=>aa (.int j)
section
variable {X:Cx}{o k:aT}{fo fk:EF}
theorem S6{r:aA}(h:xH ds d=aa r):∃ ks kk j,lL ds=aa ks/\cC d=aa kk/\kf ks kk=aa j/\r=.int j:=by
 obtain⟨ks,e1,h⟩:=ar h;obtain⟨kk,e2,h⟩:=ar h;obtain⟨j,e3,h⟩:=ar h;cases h;exact⟨ks,kk,j,e1,e2,e3,rfl⟩
def vK:aA->aA->aah
 |.list ds,d=>xH ds d
 |_,_=>ab
theorem j8 (ho:DE X o fo)(hk:DE X k fk)(q5:Bm X o k [] "index" ay ba) :
  DE X (.Call (.Attribute o "index" ay) [k] [] ba) (ai vK fo fk):=
 PE.imp (pG AE aAc PySem.F.type_list_index W3 ho (gJ hk iN q5.s) q5) λZ H Q gh=>by
  obtain⟨P,Y,d,hP,rs,ef,kk⟩:=gh;obtain⟨d1,e1,cg⟩:=ar ef;obtain⟨d2,e2,ck⟩:=ar cg;cases d1 with
  |list ds=>
   obtain⟨ks,key,j,g1,g2,g3,rfl⟩:=S6 (show xH ds d2=aa d from ck)
   refine⟨P,Y,_,hP,rs,e1,dY λv H1 x1 r1=>?_⟩
   obtain⟨q,ys,rfl,hq,rr⟩:=Aav.1 r1;obtain rfl:=LD g1 rr;exact⟨.inl ⟨rfl,_,Aam.sqL hq⟩,P,Y,d2,hP.ext x1,rs.ext (cS x1),e2,dY λu H2 x2 r2=>⟨q,ks,key,j,rfl,by rw[lX g2 r2],x2.sqL (Aam.sqL hq),g3,kk.zero (x1.trans x2) (Aaj.2 rfl)⟩⟩
  |_=>cases ck
theorem Bn:∀ {ds:aag} {xs:aai} (n:Nat),Aan K H ds xs->Aan K H (ds.eraseIdx n) (xs.eraseIdx n)
 |[],xs,n,r=>by
  rw[Aah.1 r];exact Aah.2 rfl
 |d::ds,xs,0,r=>by
  obtain⟨v,t,rfl,h1,h2⟩:=Aac.1 r;exact h2
 |d::ds,xs,n+1,r=>by
  obtain⟨v,t,rfl,h1,h2⟩:=Aac.1 r;exact Aac.2 ⟨v,_,rfl,h1,Bn n h2⟩
theorem M1 {j pos}:DF 1 X (.Constant .none j pos) (eC .none):=PE.imp UJ λZ H Q gh=>by
 rw[1];cases ef;exact k .non H [] Ext.refl .nil (λa m=>by simp at m) ⟨rfl,Abl.2 rfl⟩
end
def RQ (prog:bE)(w:aX)(o:aZ)(ns:aaj):Prop:=∃ es ep t dy,o.ExactSet/\o.data=.set es ep t/\Fine t es/\t.led=(!eJ w)/\t.plain=af/\bY (T' prog w) es.toList dy/\dy.Nodup/\dy.Perm ns
section
variable {X:Cx}
theorem y7:Ack X (.type "set") (λxs H Q=>∃ p,∃ ns:aaj,xs=[.ref p]/\SqL X.K H p (ns.map V.int)/\ns.length<64/\∀ a o,H a=ab->RQ X.prog X.w o (gP ns)->Q (.ref a) (ax H a (isO a o))):=by
 rw[3];obtain⟨p,ns,rfl,hp,hl,q⟩:=h;rw[4];obtain⟨its,rv,pl,_⟩:=I.list hp;have e1:=rv.length;rw[bT] at e1;refine R5 I.ok.hd ⟨.inl rfl,pl.isList⟩ (λj v ev=>?_) (by rw[dA];lia) (by rw[dA];omega) λh' tk ht S' hk=>?_
 .have J':its[j]?=aa v:=by simpa using ev
  obtain⟨y,hy,ry⟩:=CN rv J';rw[eD] at hy;obtain⟨n,hn,rfl⟩:=fG.1 hy;obtain⟨t,rfl⟩:=ry;exact⟨n,t,hn,rfl⟩
 .obtain⟨o,es,ep,t,dy,S',pm⟩:=S';exact⟨.ref s.heap.objs.size,_,I.laid (t':=tk) (λb u e=>hk b u (bN e) e) (bA _) (show Aby X.prog X.w _ _ _ (.ext _) from⟨S'.get,⟨o,S'.get⟩,λ_ _ e k=>k _ e⟩),rfl,q _ o I.fresh ⟨es,ep,t,dy,S'.exact,S'.data,S'.fine,S'.led,S'.plain,S'.els,S'.nod,pm⟩⟩
theorem A6:Ack X (.builtin "sorted") (λxs H Q=>∃ a o,∃ ns:aaj,xs=[.ref a]/\H a=aa (isO a o)/\RQ X.prog X.w o ns/\ns.length<64/\∀ (l:aC) (dy:aaj),H l=ab->dy.Perm ns->dy.Pairwise (· <= ·)->Q (.ref l) (ax H l (.lst (dy.map V.int)))):=by
 rw[3];obtain⟨a,o,ns,rfl,ha,⟨es,ep,t,dy,hx,hd,hf,hl,hp,he,hn,pm⟩,kg,q⟩:=h;rw[4];obtain⟨g,_,_⟩:=(show Aby X.prog X.w H s.heap a (.ext _) from I.hok a _ ha)
 refine k8 I.ok.hd ⟨o,es,ep,t,dy,⟨g,hx,hd,hf,hl,hp,he,hn⟩,pm⟩ kg λh' tk l e out Ix IO kept hle a1 a2 a3 ur=>?_
 have lz:(Ix.map V.int).length<=sizeLine:=by
  rw[bT,a2.length_eq,kT]
  lia
 exact⟨.ref l,_,I.laid (o:=.lst (Ix.map V.int)) (λb ob g=>kept b ob g) hle ⟨lz,out,e,RZ a1,ur⟩,rfl,q _ Ix (I.hok.fresh hle) a2 a3⟩
def DM:aag->aah
 |[.list ds]=>(kC ds).bind λis=>if is.length<64 then aa (.list ((sortI (gP is)).map aU)) else ab
 |_=>ab
theorem w9(g1:Gl X "sorted")(m1:X.mg "sorted" = ab)(g2:Gl X "set")(m2:X.mg "set" = ab)(he:DE X e fe)
  (io:bH [jF (.Name "set" p2) [e] [] cc] X.env=[(ah,bF (jF (.Name "set" p2) [e] [] cc) X.env)]) (dv:bH [e] X.env=[(ah,bF e X.env)]) :
  DF 1 X (.Call (.Name "sorted" p1) [.Call (.Name "set" p2) [e] [] cc] [] qv) (aK DM (aM fe dD)):=by
 refine PE.imp (DC A6 g1 m1 Ir (gJ (vW y7 g2 m2 rfl (gJ he iN dv) nofun nofun dv rfl) iN io) nofun nofun io rfl) λZ H Q gh=>?_
 rw[1];obtain⟨zo,e0,ef⟩:=ar ef;obtain⟨d1,e1,e0⟩:=ar e0;have e0:[d1]=zo:=by simpa [dD] using e0
 subst e0;cases d1 with
 |list ds=>
  obtain⟨is,e2,ef⟩:=ar (show((kC ds).bind λis=>if is.length<64 then aa (jZ ((sortI (gP is)).map aU)) else ab)=aa d from ef)
  obtain⟨hl,rfl⟩:=cJ ef;refine⟨P,Y,.list ds,hP,rs,e1,dY λv H1 x1 r1=>?_⟩
  obtain⟨q,ys,rfl,hq,rr⟩:=Aav.1 r1;rw[CU e2] at rr;obtain rfl:=ER rr;refine⟨q,is,rfl,Aam.sqL hq,hl,λa o hn S=>⟨a,o,gP is,rfl,eF,S,AK (KJ is) hl,λl dy hnl p1 p2=>?_⟩⟩
  obtain rfl:=o7 p1 p2;exact(k.mono (x1.trans (Ext.new hn))).lst (hP.ext (x1.trans (Ext.new hn))) hnl (KH _)
 |_=>cases ef
end
open PySem PySem.Spec PySem.W PyProof.Rows PySem.SetTable
section
theorem Yu(p:qs.Perm kss)(h:jm kss=af):jm qs=af:=by
 unfold jm at h ⊢;rw[p.length_eq];by_cases h2:kss.length<2
 .simp[h2]
 .have h':(sameAll kss&&kss.all λk=>(lE k).isSome)=af:=by simpa [h2] using h
  obtain⟨h3,h4⟩:=jO.1 h';have h5:sameAll qs=af:=eB.2 λk m=>eB.2 λk' m'=>eB.1 (eB.1 h3 k (p.mem_iff.1 m)) k' (p.mem_iff.1 m')
  rw[h5,(eB.2 λk m=>eB.1 h4 k (p.mem_iff.1 m))]
  simp
theorem t6(p:qs.Perm kss)(h:jm kss=af):jH qs=jH kss:=YA h ((tP qs).trans p) (LK qs)
theorem Hb {α β:Type}{R:α->β->Prop}{as:List α}{bs:List β}(h:bY R as bs)(x:α)(y:β):∀ p:aaq,(∀ i∈p,i<as.length)->bY R (p.map λi=>as.getD i x) (p.map λi=>bs.getD i y)
 |[],_=>.nil
 |i::p,hi=>by
  refine .cons ?_ (Hb h x y p λj m=>hi j (bI _ m))
  have bu:=hi i bD;obtain⟨b,hb,r⟩:=uZ h (eE bu);have e1:as.getD i x=as[i]:=by simp[bu]
  have e2:bs.getD i y=b:=by simp[hb]
  show R (as.getD i x) (bs.getD i y);rw[e1,e2];exact r
structure SortK (u:Nat)(ok:List (List aA)->Bool)(fj:List (List aA)->List (List aA)):Prop where
 run:∀ {prog:bE} {w:aX} {A:bM} {E:aB->aF->Prop} {s:aF} {h0:aP} {a:aC} {n:Nat} {vs:List aB} {kss:List (List aA)} {P:wN->aF->Prop},A.units+u<cLine->s.heap.get? a=aa (gK "list" vs.toArray n)->Ad9 h0 vs kss->(∀ b o,h0.get? b=aa o->(lQ s.heap a vs).get? b=aa o)->ok kss=af->vs.length<64 ->
  (∀ p:List Nat,p.Perm (bZ vs.length)->p.map (λi=>kss.getD i [])=fj kss->P (.done (.ret .none)) { s with heap:=AA s.heap a vs (iV (p.map λi=>vs.getD i eP)) })->aJ (aO prog w) A (Builtin.«list.sort» ⟨[.ref a],[]⟩) P E s
 perm:∀ {kss qs:List (List aA)},qs.Perm kss->ok kss=af->ok qs=af
 same:∀ {kss qs:List (List aA)},qs.Perm kss->ok kss=af->fj qs=fj kss
 len:∀ {kss:List (List aA)},ok kss=af->(fj kss).Perm kss
theorem Ul:SortK 0 jm jH:=⟨λ_=>WB,Yu,t6,λ_=>tP _⟩
variable {u:Nat}{ok:bv->Bool}{fj:bv->bv}
theorem C1 (K:SortK u ok fj)(hu:A.units+(u+40)<cLine){B:aag->aC->Prop}(hh:A.handled=ab)(S:SetT w B s.heap a kss)(xc:ok kss=af)(kg:kss.length<64)
  (q:∀ h' tk d l e (out:aak),s.toks<=tk->(∀ b ob,s.heap.get? b=aa ob->h'.get? b=aa ob)->s.heap.objs.size<=l->bY (λv k=>∃ b,v=eU b/\B k b) out (fj kss)->h'.get? l=aa (gK "list" out.toArray e)->Q (.ref l) { s with heap:=h',toks:=tk,drawn:=d }) :
  aJ (aO prog w) A (call (.builtin "sorted") [.ref a]) Q E s:=by
 obtain⟨o,es,ep,t,ks,S,pm⟩:=S;refine Jv kind_sorted plain_sorted entry_sorted (args_sorted1 _) ?_;have vo:es.size=kss.length:=by
  have:=iU S.els;rw[gA] at this;rw[this,pm.length_eq]
 refine aE (aH (aE (B3 (by simp[hh]) ⟨S.get,S.exact,S.data,S.fine,S.led⟩ λh1 tk d ig pe IO hsz k1=>aE (FC ?_ (by rw[kT,bT,pe.length_eq,gA];lia)))))
 obtain⟨Ch,p2,pm2⟩:=vP pe S.els;have pk:=pm2.trans pm;have tv:bY (λv k=>∃ b,v=eU b/\Abf s.heap k b/\B k b) (ig.map (·.2)) Ch:=by
  clear pe pm2 pk;induction p2 with
  |nil=>exact .nil
  |cons h t ih=>
   obtain⟨b,e1,_,e3,e4⟩:=h;exact .cons ⟨b,e1,e3,e4⟩ ih
 have aw:(ig.map (·.2)).length<64:=by rw[bT,pe.length_eq,gA];lia
 generalize ig.map (·.2)=vs at tv aw;have tf:(h1.push (gK "list" vs.toArray 0)).get? h1.objs.size=aa (gK "list" vs.toArray 0):=cH _ rfl;refine aE (eG (fK slot_list_sort ⟨_,tf,rfl⟩ entry_list_sort (K.run (h0:=s.heap) (s:={ s with heap:=_,toks:=tk,drawn:=d }) (by show A.units+1+1+u<cLine;lia) tf (pP (λv k ⟨b,e1,e2,_⟩=>⟨b,e1,e2⟩) tv) (λb ob eb=>?_) (K.perm pk xc) aw λp hp hs=>⟨_,rfl,?_⟩) (args_list_sort _)))
 .have hb:=bN (k1 b ob eb);exact Fo b ob (cP hb) (bC _ (k1 b ob eb))
 refine aH ⟨_,rfl,?_⟩;obtain⟨e,he⟩:=sortedHeap_at tf;refine q _ tk d h1.objs.size e (p.map λi=>vs.getD i eP) IO (λb ob eb=>?_) (mE hsz) ?_ he
 .have hb:=bN (k1 b ob eb);rw[sortedHeap_old (cP hb) (by rw[size_push'];exact FS hb),GA _ _ _ (cP hb)]
  exact k1 b ob eb
 .have:=Hb tv eP [] p λi m=>eQ.1 (hp.mem_iff.1 m)
  rw[hs,K.same pk xc] at this;exact pP (λv k ⟨b,e1,_,e3⟩=>⟨b,e1,e3⟩) this
end
def yf (kss:bv)(ys:aai)(k:aag)(b:aC):Prop:=∃ i:Nat,kss[i]?=aa k/\ys[i]?=aa (V.ref b)
def RS (w:aX)(kss:bv)(ys:aai)(o:aZ)(ls:bv):Prop:=∃ es ep t ks,o.ExactSet/\o.data=.set es ep t/\Fine t es/\t.led=(!eJ w)/\bY (λ(e:Int×aB) k=>∃ b,e.2=.ref b/\e.1=dU w (.tuple k)/\yf kss ys k b) es.toList ks/\ks.Nodup/\ks.Perm ls
theorem A0c {X:Cx}{Z:List (Option V)}{d:Drawn}(I:Inv X ad Z H s):Inv X ad Z H { s with drawn:=d }:=⟨I.ok,I.os,I.bare,I.base,I.loc,I.cell,I.free,I.freeC,I.pin,I.hok,I.len⟩
section
variable {X:Cx}{u:Nat}{ok:bv->Bool}{fj:bv->bv}
theorem z6 (hu:X.A.units+40<cLine):Ack X (.type "set") (λxs H Q=>∃ p ys kss,xs=[.ref p]/\(SqL X.K H p ys\/SqT X.K H p ys)/\Refs H ys kss/\(eA kss).length<=4900/\∀ a o,H a=ab->RS X.w kss ys o (eA kss)->Q (.ref a) (ax H a (isO a o))):=by
 rw[3];obtain⟨p,ys,kss,rfl,hp,rf,hl,q⟩:=h;rw[4];obtain⟨its,rv,T,pl⟩:∃ its,Vals ys its/\∃ T,Sq T s.heap p its.toArray:=by
  rcases hp with hp|hp
  .obtain⟨its,rv,pl,_⟩:=I.list hp;exact⟨its,rv,_,.inl rfl,pl.isList⟩
  .obtain⟨its,rv,pl,_⟩:=I.tuple hp;exact⟨its,rv,_,.inr rfl,pl⟩
 have e1:=rv.length;have e2:=iU rf;refine T7 (B:=yf kss ys) I.ok.hd hu pl (λj v ev=>?_) hl (by rw[dA];lia) λh' tk ht S' hk=>?_
 .have J':its[j]?=aa v:=by simpa using ev
  obtain⟨y,hy,ry⟩:=CN rv J';obtain⟨k,hk,b,rfl,tk⟩:=uZ rf hy;cases ry;exact⟨b,k,rfl,hk,key_of I.hok tk,j,hk,hy⟩
 .obtain⟨o,es,ep,t,gx,bd,pm⟩:=S';exact⟨.ref s.heap.objs.size,_,I.laid (t':=tk) (λb u e=>hk b u (bN e) e) (bA _) (show Aby X.prog X.w _ _ _ (.ext _) from⟨bd.get,⟨o,bd.get⟩,λ_ _ e k=>k _ e⟩),rfl,q _ o I.fresh ⟨es,ep,t,gx,bd.exact,bd.data,bd.fine,bd.led,pP (λe k ⟨b,q1,q2,_,q4⟩=>⟨b,q1,q2,q4⟩) bd.els,bd.nod,pm⟩⟩
theorem A9 (S:SortK u ok fj)(hu:X.A.units+(u+40)<cLine):Ack X (.builtin "sorted") (λxs H Q=>∃ a o ys kss ls,xs=[.ref a]/\H a=aa (isO a o)/\RS X.w kss ys o ls/\Refs H ys kss/\ok ls=af/\ls.length<64 /\
  ∀ l zs,H l=ab->bY (λz k=>∃ b,z=V.ref b/\yf kss ys k b) zs (fj ls)->Q (.ref l) (ax H l (.lst zs))):=by
 rw[3];obtain⟨a,o,ys,kss,ls,rfl,ha,⟨es,ep,t,ks,hx,hd,hf,hl,he,hn,pm⟩,rf,xc,kg,q⟩:=h;rw[4];obtain⟨g,_,_⟩:=(show Aby X.prog X.w H s.heap a (.ext _) from I.hok a _ ha)
 have deep:∀ k b,yf kss ys k b->Abf s.heap k b:=λk b gh=>by
  obtain⟨i,h1,h2⟩:=gh;obtain⟨k',jl,b',eb,tk⟩:=uZ rf h2;rw[h1] at jl;cases jl;cases eb;exact key_of I.hok tk
 refine C1 S hu I.ok.hd ⟨o,es,ep,t,ks,⟨g,hx,hd,hf,hl,pP (λe k ⟨b,q1,q2,q3⟩=>⟨b,q1,q2,deep k b q3,q3⟩) he,hn⟩,pm⟩ xc kg λh' tk d l e out IO kept hle pr ur=>?_
 let zs:aai:=out.map λv=>match v with|.ref b=>V.ref b|_=>V.non
 have pz:bY (λz k=>∃ b,z=V.ref b/\yf kss ys k b) zs (fj ls)/\Vals zs out:=by
  generalize fj ls=qs at pr;clear ur;induction pr with
  |nil=>exact⟨.nil,.nil⟩
  |cons h t ih=>
   obtain⟨b,rfl,hb⟩:=h;exact⟨.cons ⟨b,rfl,hb⟩ ih.1,.cons rfl ih.2⟩
 have lz:zs.length<=sizeLine:=by
  rw[(iU pz.1),(S.len xc).length_eq,kT]
  lia
 exact⟨.ref l,_,A0c (I.laid (o:=.lst zs) (λb ob g=>kept b ob g) hle ⟨lz,out,e,pz.2,ur⟩),rfl,q _ zs (I.hok.fresh hle) pz.1⟩
def KO (ok:bv->Bool)(fj:bv->bv):aag->aah
 |[.list ds]|[.tuple ds]=>(gC ds).bind λkss=>if (eA kss).length<64/\ok (eA kss)=af then aa (.list ((fj (eA kss)).map cD)) else ab
 |_=>ab
abbrev ED:=KO jm jH
theorem Gh:∀ {ds:aag} {kss:bv},gC ds=aa kss->ds=kss.map cD/\∀ k∈kss,bS k=af/\cU k<=6
 |[],kss,e=>by cases e;exact⟨rfl,by simp⟩
 |d::ds,kss,e=>by
  cases d with
  |tuple ks=>
   have e:(if bS ks=af/\cU ks<=6 then(gC ds).bind λkss=>aa (ks::kss) else ab)=aa kss:=e
   by_cases hk:bS ks=af/\cU ks<=6
   case neg=>rw[if_neg hk] at e;cases e
   rw[if_pos hk] at e;obtain⟨KK,e1,e2⟩:=ar e;cases e2;obtain⟨h1,h2⟩:=Gh e1;refine⟨by rw[h1];rfl,λk m=>?_⟩
   rcases cI.1 m with rfl|m
   .exact hk
   .exact h2 k m
  |_=>cases e
theorem Ff(r:Aan K H (kss.map cD) ys):∀ {zs:aai} {qs:bv},bY (λz k=>∃ b,z=V.ref b/\yf kss ys k b) zs qs->Aan K H (qs.map cD) zs
 |_,_,.nil=>Aah.2 rfl
 |_,k::_,.cons ⟨b,e,i,h1,h2⟩ t=>by
  refine Aac.2 ⟨_,_,rfl,?_,Ff r t⟩;obtain⟨v,hv,rv⟩:=r.get (by rw[eD,h1];rfl)
  rw[h2] at hv;cases hv;rw[e];exact rv
theorem Cd (S:SortK u ok fj)(hu:X.A.units+(u+40)<cLine)(g1:Gl X "sorted")(m1:X.mg "sorted" = ab)(g2:Gl X "set")(m2:X.mg "set" = ab)(he:DE X e fe)
  (io:bH [jF (.Name "set" p2) [e] [] cc] X.env=[(ah,bF (jF (.Name "set" p2) [e] [] cc) X.env)]:=by rfl) (dv:bH [e] X.env=[(ah,bF e X.env)]:=by rfl) :
  DF 1 X (.Call (.Name "sorted" p1) [.Call (.Name "set" p2) [e] [] cc] [] qv) (aK (KO ok fj) (aM fe dD)):=by
 refine PE.imp (DC (A9 S hu) g1 m1 Ir (gJ (vW (z6 ()) g2 m2 rfl (gJ he iN dv) nofun nofun dv rfl) iN io) nofun nofun io rfl) λZ H Q gh=>?_
 rw[1];obtain⟨zo,e0,ef⟩:=ar ef;obtain⟨d1,e1,e0⟩:=ar e0;have e0:[d1]=zo:=by simpa [dD] using e0
 subst e0;obtain⟨ds,hd,ef⟩:∃ ds,(d1=.list ds\/d1=.tuple ds)/\((gC ds).bind λkss=>if (eA kss).length<64/\ok (eA kss)=af then aa (jZ ((fj (eA kss)).map cD)) else ab)=aa d:=by
  cases d1<;>first|exact⟨_,.inl rfl,ef⟩|exact⟨_,.inr rfl,ef⟩|cases ef
 obtain⟨kss,e2,ef⟩:=ar ef;obtain⟨⟨hl,xc⟩,rfl⟩:=cJ ef;obtain⟨rfl,hk⟩:=Gh e2;refine⟨P,Y,d1,hP,rs,e1,dY λv H1 x1 r1=>?_⟩
 obtain⟨q,ys,rfl,hq,rr⟩:∃ q ys,v=.ref q/\(SqL X.K H1 q ys\/SqT X.K H1 q ys)/\Aan X.K (hid H1 P) (kss.map cD) ys:=by
  rcases hd with rfl|rfl
  .obtain⟨q,ys,rfl,hq,rr⟩:=Aav.1 r1;exact⟨q,ys,rfl,.inl (Aam.sqL hq),rr⟩
  .obtain⟨q,ys,rfl,hq,rr⟩:=Aal.1 r1;exact⟨q,ys,rfl,.inr (Aam.sqT (.inl (.inl hq))),rr⟩
 have rf:=Refs.le (λc zs e=>Aam _ _ e) (Ez hk rr)
 exact⟨q,ys,kss,rfl,hq,rf,(),λa o hn S=>⟨a,o,ys,kss,eA kss,rfl,eF,S,Refs.le (λc zs e=>(Ext.new hn) _ _ e) rf,xc,hl,λl zs hnl pz=>(k.mono (x1.trans (Ext.new hn))).lst (hP.ext (x1.trans (Ext.new hn))) hnl (Ff (rr.ext (cS (Ext.new hn))) pz)⟩⟩
theorem A8(hu:X.A.units+40<cLine)(g1:Gl X "sorted")(m1:X.mg "sorted" = ab)(g2:Gl X "set")(m2:X.mg "set" = ab)(he:DE X e fe)
  (io:bH [jF (.Name "set" p2) [e] [] cc] X.env=[(ah,bF (jF (.Name "set" p2) [e] [] cc) X.env)]) (dv:bH [e] X.env=[(ah,bF e X.env)]) :
  DF 1 X (.Call (.Name "sorted" p1) [.Call (.Name "set" p2) [e] [] cc] [] qv) (aK ED (aM fe dD)):=Cd Ul () g1 m1 g2 m2 he io dv
end
theorem D2 {k k':aag}{b:aC}{as kz:aan}{P:wN->aF->Prop}(ra:kW s.heap (.ref a) (.tuple k) as)(rb:kW s.heap (.ref b) (.tuple k') kz)(hs:eM k k'=af)(h:P (.done (.ret (.bool (decide (bU k<bU k'))))) s) :
  aJ (aO prog w) A (Builtin.«tuple.__lt__» ⟨[.ref a,.ref b],[]⟩) P E s:=by
 obtain⟨_,o,xs,n,z,ho,hc,hd,hr⟩:=lW ra;cases z;obtain⟨_,o',ys,n',z,wg,gr,lx,sK⟩:=lW rb;cases z;have hsz:xs.size=ys.size:=by
  have l1:=yQ hr;have l2:=yQ sK;have ll:=EE hs;simp only[gA] at l1 l2
  lia
 show aJ _ _ (isInstance (.ref b) (.type "tuple")>>=_) _ _ s;refine aE (rQ ⟨_,wg,gr⟩ isSubtype_tuple_tuple (aE (Hy ho hd (aE (Hy wg lx (aE (zX _
  (λav r s'=>r.1=ab/\s'=s/\∃ q q' jd oz bs um,av=List.zip jd oz/\jB s.heap jd q bs/\jB s.heap oz q' um/\eM q q'=af/\decide (bU q<bU q')=decide (bU k<bU k'))
  _ ?_ ?_ _ _ ⟨rfl,rfl,k,k',xs.toList,ys.toList,_,_,rfl,hr,sK,hs,rfl⟩)))))))
 .rintro⟨u,v⟩ av r s' ⟨hr0,rfl,q,q',jd,oz,bs,um,hz,h1,h2,hq,oh⟩;cases h1 with
  |nil=>simp at hz
  |cons r1 r2=>
   cases h2 with
   |nil=>simp at hz
   |cons vi vj=>
    obtain⟨⟨rfl,rfl⟩,rfl⟩:=hz;cases r1 with
    |int x t=>
     cases vi with
     |int y t'=>
      refine aE ((dP prog w).eqBool (zF _ _ x t) (zF _ _ y t') (oO (λz=>?_) λz=>?_))
      .have e:x≠y:=λq=>by simp[q] at z
       refine aE (mW (aE (show aJ _ _ (fY .Lt (.int x t) (.int y t')) _ _ _ from lt_int ?_)))
       have:decide (bU k<bU k')=decide (x<y):=by
        rw[<-oh,decide_eq_decide,vO];simp[e]
       rw[this] at h;exact aE (aH (aH (aH h)))
      .have e:x=y:=by simpa using z
       subst e;refine aH ⟨rfl,rfl,_,_,_,_,_,_,rfl,r2,vj,by simpa [eM] using hq,?_⟩
       rw[<-oh,decide_eq_decide,vO];simp
     |_=>simp[eM] at hq
    |str x t=>
     cases vi with
     |str y t'=>
      refine aE ((dP prog w).eqBool (tT _ _ x t) (tT _ _ y t') (oO (λz=>?_) λz=>?_))
      .have e:x≠y:=λq=>by simp[q] at z
       refine aE (mW (aE (show aJ _ _ (fY .Lt (.str x t) (.str y t')) _ _ _ from lt_str ?_)))
       have:decide (bU k<bU k')=decide (x.cps.toList<y.cps.toList):=by
        rw[<-oh,decide_eq_decide,CL];simp[e]
       rw[this] at h;exact aE (aH (aH (aH h)))
      .have e:x=y:=by simpa using z
       subst e;refine aH ⟨rfl,rfl,_,_,_,_,_,_,rfl,r2,vj,by simpa [eM] using hq,?_⟩
       rw[<-oh,decide_eq_decide,CL];have:¬ x.cps.toList<x.cps.toList:=FV _;simp[this]
     |_=>simp[eM] at hq
    |_=>simp[eM] at hq
 .rintro⟨r1,r2⟩ s' ⟨hr0,rfl,q,q',jd,oz,bs,um,hz,h1,h2,hq,oh⟩;subst hr0;refine aH ?_;have hf:decide (bU k<bU k')=ah:=by
   rw[<-oh];cases h1 with
   |nil=>
    cases h2 with
    |nil=>rfl
    |cons _ _=>simp[eM] at hq
   |cons _ _=>
    cases h2 with
    |nil=>simp[eM] at hq
    |cons _ _=>simp at hz
  rw[hf] at h;show P (.done (.ret (.bool (decide (xs.size<ys.size))))) s';rw[decide_eq_false ()]
  exact h
theorem Ox {k k':aag}{b:aC}(hu:A.units<cLine)(ha:Abf s.heap k a)(hb:Abf s.heap k' b)(hs:eM k k'=af)(h:Q (.bool (decide (bU k<bU k'))) s) :
  aJ (aO prog w) A (fY .Lt (.ref a) (.ref b)) Q E s:=by
 obtain⟨_,_,as,ra⟩:=ha;obtain⟨_,_,kz,rb⟩:=hb;show aJ _ _ (richCompare .Lt (.ref a) (.ref b)) Q E s;exact wpAny_richCompare_same_room (LZ ra) (LZ rb) PySem.F.slot_tuple_lt (fK PySem.F.slot_tuple_lt (LZ ra) PySem.F.entry_tuple_lt (D2 ra rb hs ⟨_,rfl,(λe=>nomatch e),h⟩) (PySem.F.args_tuple_lt_2 _ _)) hu
abbrev PR:=aD×aaj
def fL (p:PR):aag:=[.str p.1,.tuple (p.2.map aU)]
def intD:aA->Int
 |.int i=>i
 |_=>0
def jh:aag->PR
 |[.str z,.tuple ds]=>(z,ds.map intD)
 |_=>("",[])
theorem xT (p:PR):jh (fL p)=p:=by
 obtain⟨z,r⟩:=p;show(z,(r.map aU).map intD)=(z,r);rw[dF];have:(intD∘aU)=id:=rfl;rw[this,AN]
def ux:aag->Bool
 |[.str _,.tuple ds]=>ds.all λd=>match d with|.int _=>af|_=>ah
 |_=>ah
theorem IB {k:aag}(h:ux k=af):fL (jh k)=k:=by
 unfold ux at h;split at h
 .rename_i z ds;show [dE z,cD ((ds.map intD).map aU)]=_;have:(ds.map intD).map aU=ds:=by
   rw[dF];refine(iH λd m=>?_).trans (AN ds)
   have:=eB.1 h d m;cases d with
   |int i=>rfl
   |_=>cases this
  rw[this]
 .cases h
def encP (p:PR):ii:=[p.1.cps.toList.map kA,p.2]
theorem Fm (p q:PR):encP p<encP q↔p.1.cps.toList<q.1.cps.toList\/p.1=q.1/\p.2<q.2:=by
 show([p.1.cps.toList.map kA,p.2]<[q.1.cps.toList.map kA,q.2])↔_;rw[uH,uH,map_lt];have h2:(p.1.cps.toList.map kA=q.1.cps.toList.map kA)↔p.1=q.1:=⟨λe=>by
  have e:=(OW (λa b q=>PM q)).1 e
  have e:=GG.1 e;cases hp:p.1;cases hq:q.1;rw[hp,hq] at e;simp only at e;rw[e],λe=>by rw[e]⟩
 rw[h2];simp
theorem Q2 {p q:PR}(h:encP p=encP q):p=q:=by
 injection h with h1 h2;injection h2 with h2 _;have e:=(OW (λa b q=>PM q)).1 h1
 have e:=GG.1 e;obtain⟨⟨a⟩,r⟩:=p;simp only at e h2;rw[e,h2]
def leP (p q:PR):Bool:=!decide (encP q<encP p)
theorem Aiy {a b:PR}:leP a b=af ↔ ¬ encP b<encP a:=by simp[leP]
theorem A0g (a b c:PR)(h1:leP a b=af)(h2:leP b c=af):leP a c=af:=Aiy.2 (EH _ _ _ (Aiy.1 h1) (Aiy.1 h2))
theorem V5 (a b:PR):(leP a b||leP b a)=af:=by
 by_cases h:encP b<encP a
 .have:=yS _ _ h;simp[leP,h,this]
 .simp[leP,h]
theorem Zy {a b:PR}(h1:leP a b=af)(h2:leP b a=af):a=b:=by
 exact Q2 (List.le_antisymm (Aiy.1 h1) (Aiy.1 h2))
def qT (ps:List PR):List PR:=ps.mergeSort leP
theorem rK (ps:List PR):(qT ps).Perm ps:=FU ps leP
theorem By (ps:List PR):(qT ps).Pairwise λa b=>leP a b=af:=Iw A0g V5 ps
theorem Ag {ps qs:List PR}(hp:qs.Perm ps)(hr:qs.Pairwise λa b=>leP a b=af):qs=qT ps:=
 Jo (λa b _ _ h1 h2=>Zy h1 h2) hr (By ps) (hp.trans (rK ps).symm)
def rq (kss:bv):Bool:=(kss.all ux)&&kss.all λk=>kss.all λk'=>decide ((jh k).1=(jh k').1->(jh k).2.length=(jh k').2.length)
def oA (kss:bv):bv:=(qT (kss.map jh)).map fL
theorem ME(h:rq kss=af):∀ k∈kss,ux k=af:=eB.1 (jO.1 h).1
theorem UZ(h:rq kss=af):∀ k∈kss,∀ k'∈kss,(jh k).1=(jh k').1->(jh k).2.length=(jh k').2.length:=λk m k' m'=>of_decide_eq_true (eB.1 (eB.1 (jO.1 h).2 k m) k' m')
theorem O5(p:qs.Perm kss)(h:rq kss=af):rq qs=af:=by
 unfold rq;rw[jO];exact⟨eB.2 λk m=>ME h k (p.mem_iff.1 m),eB.2 λk m=>eB.2 λk' m'=>decide_eq_true (UZ h k (p.mem_iff.1 m) k' (p.mem_iff.1 m'))⟩
theorem Gn(h:∀ k∈kss,ux k=af):(kss.map jh).map fL=kss:=by
 rw[dF];exact(iH λk m=>IB (h k m)).trans (AN kss)
theorem Xx (ps:List PR):(ps.map fL).map jh=ps:=by
 rw[dF];exact(iH λp _=>xT p).trans (AN ps)
theorem z8(h:∀ k∈kss,ux k=af):(oA kss).Perm kss:=by
 have:=(rK (kss.map jh)).map fL;rw[Gn h] at this;exact this
theorem t9(p:qs.Perm kss):oA qs=oA kss:=by
 unfold oA;rw[Ag ((rK _).trans (p.map jh)) (By _)]
theorem TK:∀ (a b:aaj),a.length=b.length->((bU (a.map aU)<bU (b.map aU))↔a<b)
 |[],[],_=>by simp[bU]
 |x::a,y::b,h=>by
  rw[dB,dB,vO,uH,TK a b (by simpa using h)]
 |[],_::_,h=>by simp at h
 |_::_,[],h=>by simp at h
theorem ZT:∀ (a b:aaj),a.length=b.length->eM (a.map aU) (b.map aU)=af
 |[],[],_=>rfl
 |x::a,y::b,h=>ZT a b (by simpa using h)
 |[],_::_,h=>by simp at h
 |_::_,[],h=>by simp at h
theorem yO (a:aaj):bS (a.map aU)=af/\cU (a.map aU)<=6:=by
 induction a with
 |nil=>exact⟨by simp[bS],by simp[cU]⟩
 |cons x a ih=>exact⟨by simpa [bS,cA] using ih.1,by simpa [cU,fE] using ih.2⟩
theorem Od (kss:bv):Ord λi j=>decide (encP (jh (kss.getD i []))<encP (jh (kss.getD j []))):=by
 refine⟨λa b h=>?_,λa b c h1 h2=>?_⟩
 .have:=yS _ _ (of_decide_eq_true h);exact decide_eq_false this
 .exact decide_eq_false (EH _ _ _ (of_decide_eq_false h1) (of_decide_eq_false h2))
theorem Ko{p q:PR}{qy:aak}{as kz:aan}{Q:Bool->aF->Prop}(hu:A.units+20<cLine)(hw:p.1=q.1->p.2.length=q.2.length)(r:jB s.heap vs (fL p) as)(r':jB s.heap qy (fL q) kz)(h:Q (decide (encP p<encP q)) s):KatLex prog w A b ah Q (vs.zip qy) 0 s:=by
 obtain⟨x,a⟩:=p;obtain⟨y,c⟩:=q;cases r with
 |cons r1 r2=>
  cases r' with
  |cons vi vj=>
   cases r1 with
   |str _ t=>
    cases vi with
    |str _ u=>
     cases r2 with
     |cons r3 r4=>
      cases vj with
      |cons r3' r4'=>
       cases r4;cases r4';refine kat_cons ((dP prog w).eqBool (tT _ _ x t) (tT _ _ y u) (kat_go (λe=>kat_yes ?_) λe=>kat_no ?_))
       .have e':x=y:=by simpa using e
        subst e';have hl:=hw rfl;obtain⟨v,_,_,_,ev,_⟩:=lW r3;subst ev;obtain⟨v',_,_,_,J',_⟩:=lW r3';subst J';have d1:Abf s.heap (a.map aU) v:=⟨(yO a).1,(yO a).2,_,r3⟩;have d2:Abf s.heap (c.map aU) v':=⟨(yO c).1,(yO c).2,_,r3'⟩;refine kat_cons ((jA prog w).eqBool hu d1 d2 (kat_go (λe=>kat_yes (kat_nil ?_)) λe=>kat_no ?_))
        .have e':a.map aU=c.map aU:=by simpa using e
         have e':=(OW (λ_ _ z=>PyData.int.inj z)).1 e'
         subst e';have:decide (encP (x,a)<encP (x,a))=ah:=decide_eq_false (FV _);rw[<-this];exact h
        .have:decide (encP (x,a)<encP (x,c))=decide (bU (a.map aU)<bU (c.map aU)):=by
          rw[decide_eq_decide,Fm,TK a c hl];have:¬ x.cps.toList<x.cps.toList:=FV _;simp[this]
         rw[this] at h;have hb:(b&&(0+1==0))=ah:=by simp
         rw[hb];exact kat_one _ _ (Ox () d1 d2 (ZT a c hl) h)
       .have e':x≠y:=by simpa using e
        have:decide (encP (x,a)<encP (y,c))=decide (x.cps.toList<y.cps.toList):=decide_eq_decide.2 (by rw[Fm];simp[e'])
        rw[this] at h;cases(b&&0==0) with
        |true=>exact oneLt_str h
        |false=>exact kat_one _ _ (lt_str h)
theorem Nw {k:aag}(h:ux k=af):lE k=aa "str":=by
 unfold ux at h;split at h
 .rfl
 .cases h
theorem M4 {h0:aP}{P:wN->aF->Prop}(hu:A.units+20<cLine)(ho:s.heap.get? a=aa (gK "list" vs.toArray n))(ht:Ad9 h0 vs kss)(kp:∀ b o,h0.get? b=aa o->(lQ s.heap a vs).get? b=aa o)(ok:rq kss=af)(kg:vs.length<64)
  (h:∀ p:aaq,p.Perm (bZ vs.length)->p.map (λi=>kss.getD i [])=oA kss->P (.done (.ret .none)) { s with heap:=AA s.heap a vs (iV (p.map λi=>vs.getD i eP)) }) :
  aJ (aO prog w) A (Builtin.«list.sort» ⟨[.ref a],[]⟩) P E s:=by
 have his:=ME ok;refine WL (lt:=λa b=>decide (encP (jh a)<encP (jh b))) (Od kss) ho ht kp kg (λ_=>⟨"str",.inr rfl,λk m=>Nw (his k m),λk m k' m'=>?_⟩) (λqs hp hr=>?_) h
 .have k1:=IB (his _ m);have k2:=IB (his _ m');refine⟨by rw[<-k1,<-k2];rfl,λ{b _ _ _ _ s Q} hr sK q=>?_⟩
  rw[<-k1] at hr;rw[<-k2] at sK;exact Ko hu (UZ ok _ m _ m') hr sK q
 .unfold oA;rw[<-Ag (hp.map jh) (uC.2 (hr.imp λe=>Aiy.2 (of_decide_eq_false e))),Gn λk m=>his k (hp.mem_iff.1 m)]
section
variable {X:Cx}
theorem Vm:SortK 20 rq oA:=⟨M4,O5,λp _=>t9 p,λok=>z8 (ME ok)⟩
abbrev EG:=KO rq oA
theorem E9(hu:X.A.units+100<cLine)(g1:Gl X "sorted")(m1:X.mg "sorted" = ab)(g2:Gl X "set")(m2:X.mg "set" = ab)(he:DE X e fe)
  (io:bH [jF (.Name "set" p2) [e] [] cc] X.env=[(ah,bF (jF (.Name "set" p2) [e] [] cc) X.env)]) (dv:bH [e] X.env=[(ah,bF e X.env)]) :
  DF 1 X (.Call (.Name "sorted" p1) [.Call (.Name "set" p2) [e] [] cc] [] qv) (aK EG (aM fe dD)):=Cd Vm () g1 m1 g2 m2 he io dv
end
section
variable {X:Cx}
def Vb:V->aai->Hp->VK->Prop:=λx vs H Q=>∃ p ks k j,x=.ref p/\vs=[kV k]/\H p=aa (.lst (ks.map kV))/\kf ks k=aa j/\Q .non (ax H p (.lst ((ks.eraseIdx j).map kV)))
theorem A0h:yg X "list.remove" Vb:=by
 intro ad s Z H x vs v us Q I rx rv h;obtain⟨p,ks,k,j,rfl,rfl,hp,hj,q⟩:=h;cases rx;obtain⟨u,rfl,ru⟩:=rv.one;obtain⟨z,its,n,r,hl,e⟩:=I.lstM hp;obtain⟨he,bu,ij,qm⟩:=ZQ r ru hj;refine AC F.slot_list_remove ⟨_,e,rfl⟩ F.entry_list_remove (F.args_list_remove_2 _ _) (MeetsSeq.list_remove p its.toArray n u (qf k) he j bu ij qm (by rw[dA];lia)) ⟨e,?_⟩
 have ee:(ks.eraseIdx j).map kV=(ks.map kV).eraseIdx j:=by
  have go:∀ (xs:aam) (n:Nat),(xs.eraseIdx n).map kV=(xs.map kV).eraseIdx n:=by
   intro xs;induction xs with
   |nil=>intro n;simp
   |cons x xs ih=>
    intro n;cases n with
    |zero=>rfl
    |succ n=>rw[xA,dB,dB,xA,ih]
  exact go ks j
 refine⟨.non,_,I.lset hp e ?_ (by rw[ee];exact r.eraseIdx j) ?_,rfl,q⟩
 .rw[List.eraseIdxIfInBounds_toArray]
 .have:=YV (ks.map kV) j
  lia
end
section
variable {X:Cx}{i:Nat}
def oK (i:Nat)(m:Md)(f:EF):SF:=λY=>(eV 0 m f Y).bind λd=>(getL i Y).bind λds=>(lL ds).bind λks=>(cC d).bind λk=>(kf ks k).bind λj=>aa (.nx (Y.set i (aa (1,.list (ds.eraseIdx j)))))
theorem X6 (i:Nat)(m:Md)(he:DE X e f)(hN:Nm X i x)(q5:Bm X (.Name x px) e [] "remove" ay ba)
  (jw:kS (.Call (.Attribute (.Name x px) "remove" ay) [e] [] ba) ab pos.line X.env=pure ah):DS X H0 P0 n0 (.Expr (.Call (.Attribute (.Name x px) "remove" ay) [e] [] ba) pos) (oK i m f):=
 PS.imp (tH (pG AE PySem.F.slot_list_remove PySem.F.type_list_remove A0h (hN.pe) (gJ (ev m he) iN q5.s) q5) jw) λD Z H gh=>by
  rw[5];obtain⟨d,e1,cg⟩:=ar ef;obtain⟨ds,e2,ck⟩:=ar cg;obtain⟨ks,e3,fy⟩:=ar ck;obtain⟨key,e4,oe⟩:=ar fy;obtain⟨j,e5,ef6⟩:=ar oe;cases ef6;obtain⟨p,xs,h1,h2,_,_⟩:=S.lst1 (nK e2);refine⟨.ref p,h1,.inl ⟨rfl,xs,SqL.of h2⟩,B0,Y,fp,d,S,e1,λv H2 gh=>?_⟩
  obtain⟨gt,S2,r2⟩:=gh;obtain⟨p2,wq,q1,q2,q3,q4⟩:=S2.lst1 (nK e2);have:p2=p:=by rw[h1] at q1;cases q1;rfl
  subst this;obtain rfl:=LD e3 q3;have ee:(ks.eraseIdx j).map kV=(ks.map kV).eraseIdx j:=by
   have go:∀ (xs:aam) (n:Nat),(xs.eraseIdx n).map kV=(xs.map kV).eraseIdx n:=by
    intro xs;induction xs with
    |nil=>intro n;simp
    |cons x xs ih=>
     intro n;cases n with
     |zero=>rfl
     |succ n=>rw[xA,dB,dB,xA,ih]
   exact go ks j
  refine⟨p2,ks,key,j,rfl,by rw[lX e4 r2.2],q2,e5,?_⟩
  rw[ee];exact k _ _ gt (q4 _ _ (Bn j q3))
end
section
variable {X:Cx}{k:aT}{y:aD}{py oa:bJ}{i:Nat}
theorem Tmp.free{Z:St}(t:Tmp K H0 P0 B0 Y Z n d v H):∃ fp,Sta K H0 P0 B0 Y Z H fp/\Abg K (L2.hid H (Hd P0 fp)) d v:=by
 obtain⟨fp,S,r⟩:=t;obtain⟨ce,S',xb,cz⟩:=S.re (ρ':=Y) (σ':=Z) (λj=>if j=Y.length then ab else aa j) (by grind) S.len λB' xb cz j n' d' e'=>by
  have bu:=(cE.1 e').1;obtain⟨v',h1,h2⟩:=S.slot j n' d' e';exact⟨v',h1,by rw[if_neg ()];exact h2.keep xb λa m=>rfl⟩
 exact⟨ce,S',r.share xb (cz _ (by grind))⟩
def sY (i:Nat)(m:Md)(f:EF)(mk:Md)(g:EF):SF:=λY=>(eV 1 m f Y).bind λd=>(getL i Y).bind λds=>(eV 0 mk g Y).bind λk=>match k with
 |.int j=>(jg ds.length j).bind λj=>aa (.nx (Y.set i (aa (1,.list (ds.set j d)))))
 |_=>ab
theorem d7 (i:Nat)(m mk:Md)(he:DF 1 X e f)(hk:DE X k g)(hN:Nm X i x)
  (ha:∀ v,kU (.Subscript (.Name x px) k ay) X.env v=(do
   let ov <-nN [v] (bF (.Name x px) X.env)
   let iv <-nN [v,ov] (bF k X.env)
   standAt ay
   nN [v,ov,iv] (setItem ov iv v)
   release [v,ov,iv] []))
  (hs:NP [.Subscript (.Name x px) k ay] e pos.line X.env=pure ah) (hw:NQ [.Subscript (.Name x px) k ay] e X.env=pure ab)
  (h1:(hE [.Subscript (.Name x px) k ay] X.env).map (·.2)=[kU (.Subscript (.Name x px) k ay) X.env]):DS X H0 P0 n0 (.Assign [.Subscript (.Name x px) k ay] e pos) (sY i m f mk g):=
 PS.imp (MZ (ev m he) (SR (hN.pe) hk set_list ha) hs hw h1) λD Z H gh=>by
  obtain⟨B0,Y,fp,o,S,ef,kk⟩:=gh;obtain⟨d,e1,cg⟩:=ar ef;obtain⟨ds,e2,ck⟩:=ar cg;obtain⟨kd,e3,fy⟩:=ar ck;cases kd with
  |int j=>
   obtain⟨jn,e5,oe⟩:=ar (show((jg ds.length j).bind λj=>aa (Out.nx (Y.set i (aa (1,.list (ds.set j d))))))=aa o from fy)
   cases oe;refine⟨B0,Y,fp,d,S,e1,λv H2 t=>?_⟩
   obtain⟨gt,S2,r2⟩:=t.free;obtain⟨p,xs,h1,h2,_,_⟩:=S2.lst1 (nK e2);refine⟨.ref p,h1,BN S2 e3 (by simp[gQ]) λu H3 x3 r3=>?_⟩
   obtain⟨p3,sB,q1,q2,q3,q4⟩:=(S2.grow x3).lst1 (nK e2);have:p3=p:=by rw[h1] at q1;cases q1;rfl
   subst this;exact⟨p3,sB,j,jn,rfl,Aaj.1 r3,q2,by rw[q3.length];exact e5,kk _ _ gt (q4 _ _ (q3.set (r2.ext (cS x3)) jn))⟩
  |_=>cases fy
end
section
variable {Z:St}{fp:Nat->aan}{i:Nat}
theorem Sta.change{ce:Nat->aan}{d':aA}(S:Sta K H0 P0 B0 Y Z H fp)(hi:i<Y.length)(hv:Z[i]?=aa (aa v))
  (hf:∀ j,j≠i->j<Y.length->ce j=fp j) (hz:∀ j,Y.length<=j->ce j=[]\/ce j=fp j) (nd:(ce i).Nodup) (sub:∀ a∈ce i,∃ j,a∈fp j/\(j=i\/ce j=[]))
  (kp:∀ a,a∉fp i->H' a=H a) (ow:∀ a∈ce i,Mut (H' a))
  (new:Ext (L2.hid H (Hd P0 fp)) (L2.hid H' (Hd P0 ce))->Adr K (L2.hid H' (Hd P0 ce)) H' n d' v (ce i)):Sta K H0 P0 B0 (Y.set i (aa (n,d'))) Z H' ce:=by
 have same:∀ j,j≠i->∀ a∈ce j,a∈fp j:=λj hj a m=>by
  grind
 have from_:∀ j,∀ a∈ce j,∃ l,a∈fp l:=λj a m=>by
  grind
 have xb:Ext (L2.hid H (Hd P0 fp)) (L2.hid H' (Hd P0 ce)):=λb o e=>by
  obtain⟨nb,e⟩:=Acz.1 e;refine hZ (λq=>nb ?_) ?_
  all_goals grind
 have gk:∀ j,j≠i->∀ a∈ce j,H' a=H a:=λj hj a m=>kp a λq=>hj (S.dj j i a (same j hj a m) q)
 refine⟨by simp[S.len],λj=>?_,λj l a h1 h2=>?_,λj a m=>?_,λb u e=>?_,S.hd,S.base.trans xb,λj n' d2 e=>?_⟩
 .by_cases h:j=i
  .rw[h];exact nd
  .by_cases h2:j<Y.length
   .rw[hf j h h2];exact S.nd j
   .rcases hz j () with e|e
    .rw[e];exact .nil
    .rw[e];exact S.nd j
 .by_cases e1:j=i<;>by_cases e2:l=i
  .rw[e1,e2]
  .subst e1;obtain⟨m,hm,hm2⟩:=sub a h1;have:=S.dj m l a hm (same l e2 a h2)
   grind
  .subst e2;obtain⟨m,hm,hm2⟩:=sub a h2;have:=S.dj m j a hm (same j e1 a h1)
   grind
  .exact S.dj j l a (same j e1 a h1) (same l e2 a h2)
 .obtain⟨l,ml⟩:=from_ j a m;refine⟨(S.own l a ml).1,?_⟩;by_cases h:j=i
  .subst h;exact ow a m
  .rw[gk j h a m];exact(S.own j a (same j h a m)).2
 .rw[kp b λq=>by rw[(S.own i b q).1] at e;cases e]
  exact S.ext b u e
 .by_cases q:j=i
  .grind
  .rw[rW (λz=>q z.symm)] at e
   obtain⟨v2,h1,h2⟩:=S.slot j n' d2 e;refine⟨v2,h1,?_⟩;have:=gk j q;rw[hf j q ((cE.1 e).1)] at this ⊢;exact h2.keep xb this
abbrev R1 (K:aI)(B H:Hp):aA×aA->aG×V->aan->Prop:=λkd kv f=>kd.1=kD kv.1/\Adr K B H 1 kd.2 kv.2 f
theorem Sta.dic2 {ds:dL}(S:Sta K H0 P0 B0 Y Z H fp)(e:Y[i]?=aa (aa (2,.dict ds))):∃ p ep xs Fs,Z[i]?=aa (aa (.ref p))/\H p=aa (.dK ep xs)/\fp i=p::Fs.flatten/\All3 (R1 K (L2.hid H (Hd P0 fp)) H) ds xs Fs:=by
 obtain⟨v,h1,p,xs,Fs,rfl,hp,hF,h3⟩:=S.slot i 2 _ e;exact⟨p,xs.1,xs.2,Fs,h1,hp,hF,h3⟩
def pD:dL->aG->aA->dL
 |[],_,_=>[]
 |(k0,d0)::r,k,d=>if cC k0=aa k then(k0,d)::r else(k0,d0)::pD r k d
theorem LA (k0 d0:aA)(r:dL)(k:aG):cM ((k0,d0)::r) k=if cC k0=aa k then aa d0 else cM r k:=by
 unfold cM
 grind
theorem ZE {B:Hp}{k:aG}:∀ {ds:dL} {xs:li} {Fs:aae},All3 (R1 K B H) ds xs Fs->Fs.flatten.Nodup->∀ d,cM ds k=aa d ->
  ∃ v f,f∈Fs/\dH xs k=aa v/\Adr K B H 1 d v f/\∀ (B' H':Hp) (d':aA),Ext B B'->Adr K B' H' 1 d' v f->(∀ a,a∉f->H' a=H a)->All3 (R1 K B' H') (pD ds k d') xs Fs
 |_,_,_,.nil,_,d,e=>by simp[cM] at e
 |(k0,d0)::ds,(k',v0)::xs,f0::Fs,.cons h t,nd,d,e=>by
  obtain⟨ek,h⟩:=h;subst ek;rw[LA,yI] at e;rw[AR,rV] at nd;by_cases q:k'=k
  .rw[if_pos (by rw[q])] at e
   cases e;refine⟨v0,f0,bD,lT q,h,λB' H' d' xb r kp=>?_⟩
   show All3 _ (if cC (kD k')=aa k then(kD k',d')::ds else _) _ _
   rw[if_pos (by rw[yI,q])]
   exact .cons ⟨rfl,r⟩ (t.imp λa b c mm rr=>⟨rr.1,rr.2.keep xb λz hz=>kp z λz2=>nd.2.2 z z2 z (mG.2 ⟨c,mm,hz⟩) rfl⟩)
  .rw[if_neg (λz=>q (fF z))] at e
   obtain⟨v,f,mm,h1,h2,h3⟩:=ZE t nd.2.1 d e;refine⟨v,f,bI _ mm,(kP q).trans h1,h2,λB' H' d' xb r kp=>?_⟩
   show All3 _ (if cC (kD k')=aa k then(kD k',d')::ds else(kD k',d0)::pD ds k d') _ _
   rw[if_neg (by rw[yI];exact λz=>q (fF z))]
   refine .cons ⟨rfl,h.keep xb λz hz=>kp z λz2=>?_⟩ (h3 B' H' d' xb r kp)
   exact nd.2.2 z hz z (mG.2 ⟨f,mm,z2⟩) rfl
theorem Sta.inner {ds:dL}{k:aG}{es:aag}(S:Sta K H0 P0 B0 Y Z H fp)(e:Y[i]?=aa (aa (2,.dict ds)))(hk:cM ds k=aa (.list es)):∃ p ep xs q ys,Z[i]?=aa (aa (.ref p))/\H p=aa (.dK ep xs)/\dH xs k=aa (.ref q)/\H q=aa (.lst ys)/\Aan K (L2.hid H (Hd P0 fp)) es ys /\
  ∀ ig oz,Aan K (L2.hid H (Hd P0 fp)) ig oz->Sta K H0 P0 B0 (Y.set i (aa (2,.dict (pD ds k (.list ig))))) Z (ax H q (.lst oz)) fp:=by
 obtain⟨p,ep,xs,Fs,h1,h2,h3,h4⟩:=S.dic2 e;have nd:=S.nd i;rw[h3,nA] at nd;obtain⟨v,f,mf,hv,hr,up⟩:=ZE h4 nd.2 _ hk;obtain⟨q,ys,rfl,hq,hF,r⟩:=SM hr;refine⟨p,ep,xs,q,ys,h1,h2,hv,hq,r,λig oz r'=>?_⟩
 have mq:q∈fp i:=by
  rw[h3];exact bI _ (mG.2 ⟨f,mf,by rw[hF];exact bD⟩)
 refine S.change (cE.1 e).1 h1 (λ_ _ _=>rfl) (λ_ _=>.inr rfl) (S.nd i) (λa m=>⟨i,m,.inl rfl⟩) (λa na=>cN λz=>na (z ▸ mq)) (λa m=>?_) λxb=>?_
 .by_cases z:a=q
  .rw[z,eF];trivial
  .rw[cN z];exact(S.own i a m).2
 .refine⟨p,(ep,xs),Fs,rfl,by rw[cN (λz=>nd.1 (mG.2 ⟨f,mf,by rw[hF,z];exact bD⟩))];exact h2,h3,up _ _ _ xb ?_ λa na=>cN λz=>na (by rw[hF,z];exact bD)⟩
  rw[hF];exact CB eF (r'.ext xb)
theorem ZO {B:Hp}{kd:aA×aA}{kv:aG×V}{f:aan}(h:R1 K B H kd kv f):∀ {ds:dL} {xs:li} {Fs:aae},All3 (R1 K B H) ds xs Fs->All3 (R1 K B H) (ds++[kd]) (xs++[kv]) (Fs++[f])
 |_,_,_,.nil=>.cons h .nil
 |_,_,_,.cons h' t=>.cons h' (ZO h t)
theorem KC {B:Hp}{k:aG}:∀ {ds:dL} {xs:li} {Fs:aae},All3 (R1 K B H) ds xs Fs->cM ds k=ab->dH xs k=ab
 |_,_,_,.nil,_=>rfl
 |(k0,d0)::ds,(k',v0)::xs,f0::Fs,.cons h t,e=>by
  obtain⟨ek,h⟩:=h;subst ek;rw[LA,yI] at e;by_cases q:k'=k
  .rw[if_pos (by rw[q])] at e;cases e
  .rw[if_neg (λz=>q (fF z))] at e
   exact(kP q).trans (KC t e)
theorem JN {B:Hp}:∀ {ds:dL} {xs:li} {Fs:aae},All3 (R1 K B H) ds xs Fs->xs.length=ds.length
 |_,_,_,.nil=>rfl
 |_,_,_,.cons _ t=>by rw[eX,eX,JN t]
theorem Sta.putG{ds:dL}{xs:li}{p:aC}{A C Fs:aae}(S:Sta K H0 P0 B0 Y Z H fp)(hi:i<Y.length)(h1:Z[i]?=aa (aa (.ref p)))(h3:fp i=p::Fs.flatten)(sub:∀ a,a∈(A++C).flatten->a∈Fs.flatten)(nf:(A++C).flatten.Nodup)(r:Adr K (L2.hid H (Hd P0 fp)) H 1 d v (fp Y.length))
  (up:∀ B',Ext (L2.hid H (Hd P0 fp)) B'->Adr K B' (ax H p (.dK n xs)) 1 d v (fp Y.length)->(∀ g∈A++C,∀ a∈g,ax H p (.dK n xs) a=H a)->All3 (R1 K B' (ax H p (.dK n xs))) ds xs (A++fp Y.length::C)) :
  ∃ ce,Sta K H0 P0 B0 (Y.set i (aa (2,.dict ds))) Z (ax H p (.dK n xs)) ce:=by
 have nd:=S.nd i;rw[h3,nA] at nd;have mp:p∈fp i:=by rw[h3];exact bD
 have nl:∀ a∈fp Y.length,a∉fp i:=λa m m2=>by
  have:=S.dj _ _ a m m2
  lia
 have mem:∀ a,a∈p::(A++fp Y.length::C).flatten↔a=p\/a∈(A++C).flatten\/a∈fp Y.length:=λa=>by
  grind
 refine⟨λj=>if j=i then p::(A++fp Y.length::C).flatten else if j=Y.length then [] else fp j,S.change hi h1 (λj a b=>?_) (λj a=>?_) ?_ (λa m=>?_) (λa na=>cN λz=>na (by rw[show a=p from z];exact mp)) (λa m=>?_) λxb=>?_⟩
 .grind
 .grind
 .rw[List.flatten_append] at nf;simp only[List.flatten_append,AR];have n1:=rV.1 nf;refine nA.2 ⟨λm=>?_,rV.2 ⟨n1.1,rV.2 ⟨S.nd _,n1.2.1,λa ha b hb z=>?_⟩,λa ha b hb z=>?_⟩⟩
  all_goals grind
 .grind
 .simp only[if_true] at m;by_cases z:a=p
  .rw[z,eF];trivial
  .rw[cN z];rcases(mem a).1 m with m|m|m
   .exact absurd m z
   .exact(S.own i a (by rw[h3];exact bI _ (sub a m))).2
   .exact(S.own _ a m).2
 .simp only[if_true];refine⟨p,(n,xs),A++fp Y.length::C,rfl,eF,rfl,up _ xb (Adr.keep xb (λa m=>cN λz=>nl a m (by rw[show a=p from z];exact mp)) r) λg mg a ma=>cN λz=>nd.1 ?_⟩
  rw[<-z];exact sub a (mG.2 ⟨g,mg,ma⟩)
theorem Sta.newKey {ds:dL}{k:aG}(S:Sta K H0 P0 B0 Y Z H fp)(e:Y[i]?=aa (aa (2,.dict ds)))(hk:cM ds k=ab)(r:Adr K (L2.hid H (Hd P0 fp)) H 1 d v (fp Y.length)):∃ p ep xs,Z[i]?=aa (aa (.ref p))/\H p=aa (.dK ep xs)/\xs.length=ds.length /\
  ∀ n,∃ ce,Sta K H0 P0 B0 (Y.set i (aa (2,.dict (ds++[(kD k,d)])))) Z (ax H p (.dK n (putK xs k v))) ce:=by
 obtain⟨p,ep,xs,Fs,h1,h2,h3,h4⟩:=S.dic2 e;refine⟨p,ep,xs,h1,h2,JN h4,λn=>?_⟩
 have Db:putK xs k v=xs++[(k,v)]:=by
  unfold putK;rw[yJ,KC h4 hk]
  rfl
 have nd:=S.nd i;rw[h3,nA] at nd;rw[Db];exact S.putG (C:=[]) ((cE.1 e).1) h1 h3 (λa m=>by simpa using m) (by simpa using nd.2) r λB' xb rk kp=>ZO ⟨rfl,rk⟩ (h4.imp λa b c' mm rr=>⟨rr.1,Adr.keep xb (kp c' (by simpa using mm)) rr.2⟩)
end
noncomputable def uV (i:Nat)(Y:aQ):Option dL:=match Y[i]? with
 |some (aa (n,.dict ds))=>if n=2 then aa ds else ab
 |_=>ab
theorem tO {i:Nat}{ds:dL}(h:uV i Y=aa ds):Y[i]?=aa (aa (2,.dict ds)):=by
 unfold uV at h
 grind
section
variable {X:Cx}{k o:aT}{oa:bJ}{i:Nat}
theorem Q6:DF 2 X (.Dict [] [] pos) (eC (.dict [])):=PE.imp XC λZ H Q gh=>by
 rw[1];cases ef;refine λq hq=>k (.ref q) _ [q] (Ext.new hq) (nA.2 ⟨by simp,.nil⟩) (λa m=>?_) ⟨q,(0,[]),[],rfl,eF,rfl,.nil⟩
 have:a=q:=by simpa using m
 subst this;exact⟨hq,_,eF⟩
end
section
variable {X:Cx}
def Gj:V->aai->Hp->VK->Prop:=λx vs H Q=>∃ d ep kvs k y,x=.ref d/\vs=[kV k,y]/\H d=aa (.dK ep kvs)/\kvs.length<sizeLine /\
 ((∃ u,dH kvs k=aa u/\Q u H)\/(dH kvs k=ab/\∀ n,Q y (ax H d (.dK n (putK kvs k y)))))
theorem An:yg X "dict.setdefault" Gj:=by
 intro ad s Z H x vs v us Q I rx rv h;obtain⟨d,ep,kvs,k,y,rfl,rfl,e,l,q⟩:=h;cases rx;cases rv with
 |cons rk rr=>
  cases rr with
  |cons ry rr=>
   cases rr;obtain⟨z,hd,ws,dg,dd⟩:=zT I.hok e;refine NY Ik dd.typeIs PySem.F.entry_dict_setdefault (PySem.F.args_dict_setdefault_3 _ _ _) (kt_meets_setdefault (dP X.prog X.w) d (nX rk) hd _) ⟨ws,dd,by rw[<-dg.length];exact z,λw hw=>?_,λhn h' ue sb=>?_⟩
   .have rl:=dg.val k;rcases q with⟨u,hu,q⟩|⟨hu,q⟩
    .rw[hu] at rl;obtain⟨w',e1,e2⟩:=rl.some_of;have e3:w'=w:=by rw[e1] at hw;exact fF hw
     subst e3;exact⟨u,H,I.tok _,e2,q⟩
    .rw[hu] at rl;have:=rl.none_of;rw[this] at hw;cases hw
   .have rl:=dg.val k;rcases q with⟨u,hu,q⟩|⟨hu,q⟩
    .rw[hu] at rl;obtain⟨w',e1,e2⟩:=rl.some_of;rw[e1] at hn;cases hn
    .have hl:(putK kvs k y).length<=sizeLine:=by have:=vY kvs k y;lia
     obtain⟨n,da⟩:=ue.dictAt;exact⟨y,_,CQ I (by rw[e];exact oR) sb (uX hl hd (dg.put k ry) da),ry,q n⟩
end
section
variable {X:Cx}{k v e2:aT}{fc:BF}{fk fv f2:EF}{y:aD}{p3:bJ}{i:Nat}
def uc (i j:Nat)(mc:Md)(fc:BF)(mk:Md)(fk:EF)(mv:Md)(fv:EF)(m2:Md)(f2:EF):SF:=λY=>(bV mc fc Y).bind λb=>if b=af then
  (eV 0 mk fk Y).bind λkd=>(eV 0 mv fv Y).bind λd=>(cC kd).bind λkey=>(qQ j Y).bind λkds=>match d with
   | .int n=>if i<Y.length/\kds.length<sizeLine then aa (.nx (match cM kds key with
    |some u=>Y.set i (aa (0,u))
    | none=>(Y.set j (aa (1,.dict (putD kds key (.int n))))).set i (aa (0,.int n)))) else ab
   |_=>ab
 else(eV 0 m2 f2 Y).bind λd=>if i<Y.length then aa (.nx (Y.set i (aa (0,d)))) else ab
theorem Nx (i j:Nat)(mc mk mv m2:Md)(hN:X.N.Nodup)(hc:DT X c fc)(hk:DE X k fk)(hv:DE X v fv)(he:DE X e2 f2)(hi:X.N[i]?=aa x)(hx:kB X.env.scope x)
  (hj:Nm X j y) (q5:Bm X (.Name y p2) k [v] "setdefault" ap cp) (dv:bH (v::[]) X.env=(ah,bF v X.env)::bH [] X.env)
  (jw:kS (.IfExp c (.Call (.Attribute (.Name y p2) "setdefault" ap) [k,v] [] cp) e2 p3) (aa (.Name x p1)) pos.line X.env=pure ah) (hf:X.fn x=af\/X.env.scope.names.lookup x=aa .local) :
  DS X H0 P0 n0 (.Assign [.Name x p1] (.IfExp c (.Call (.Attribute (.Name y p2) "setdefault" ap) [k,v] [] cp) e2 p3) pos) (uc i j mc fc mk fk mv fv m2 f2):=
 PS.imp (MF hN hi hx (WE (evB mc hc) (pG OC Ik aAb An (hj.pe) (gJ (ev mk hk) (gJ (ev mv hv) iN dv) q5.s) q5) (ev m2 he)) jw hf) λD Z H gh=>by
  obtain⟨B0,Y,fp,o,S,ef,kk⟩:=gh;obtain⟨b,e1,cg⟩:=ar ef;refine⟨B0,Y,fp,b,S,e1,λH1 S1=>?_⟩
  cases b with
  |false=>
   refine sN ?_;obtain⟨d,g1,g2⟩:=ar (show((eV 0 m2 f2 Y).bind λd=>if i<Y.length then aa (Out.nx (Y.set i (aa (0,d)))) else ab)=aa o from cg)
   obtain⟨hl,rfl⟩:=cJ g2;refine⟨B0,Y,fp,d,S1,g1,λu H2 t=>?_⟩
   obtain⟨ce,S'⟩:=t.set hl;exact kk _ _ ce S'
  |true=>
   refine sF ?_;obtain⟨kd,g1,ck⟩:=ar (show((eV 0 mk fk Y).bind λkd=>(eV 0 mv fv Y).bind λd=>(cC kd).bind λkey=>(qQ j Y).bind λkds=>match d with
    | .int n=>if i<Y.length/\kds.length<sizeLine then aa (Out.nx (match cM kds key with
     |some u=>Y.set i (aa (0,u))
     | none=>(Y.set j (aa (1,.dict (putD kds key (.int n))))).set i (aa (0,.int n)))) else ab
    | _=>ab)=aa o from cg)
   obtain⟨d,g2,fy⟩:=ar ck;obtain⟨key,g3,oe⟩:=ar fy;obtain⟨kds,g4,ef6⟩:=ar oe;cases d with
   |int n=>
    obtain⟨⟨hl,hz⟩,rfl⟩:=cJ ef6;obtain⟨p,ep,xs,h1,h2,_,_⟩:=S1.dic1 (tQ g4);refine⟨.ref p,h1,.inr (.inr ⟨rfl,.inl ⟨ep,xs,h2⟩⟩),B0,Y,fp,kd,S1,g1,λv1 H2 gh=>?_⟩
    obtain⟨gt,S2,r2⟩:=gh;have ev1:=lX g3 r2.2;refine⟨B0,Y,gt,.int n,S2,g2,λv2 H3 gh=>?_⟩
    obtain⟨fp3,S3,r3⟩:=gh;have ev2:=Aaj.1 r3.2;subst ev1 ev2;obtain⟨p3,vh,sB,q1,q2,q3,q4⟩:=S3.dic1 (tQ g4);have:p3=p:=by rw[h1] at q1;cases q1;rfl
    subst this;refine⟨p3,vh,sB,key,.int n,rfl,rfl,q2,by rw[q3.length];exact hz,?_⟩
    rcases EK q3 with⟨n1,n2⟩|⟨d',v',s1,s2,rd⟩
    .refine .inr ⟨n2,λm=>?_⟩
     rw[n1] at kk;obtain⟨ce,S'⟩:=(q4 m _ _ (IE (k:=key) (d:=.int n) (v:=.int n) q3 (Aaj.2 rfl))).Aot (Aaj.2 rfl) (by simpa using hl)
     exact kk _ _ ce S'
    .refine .inl ⟨v',s2,?_⟩;rw[s1] at kk;obtain⟨ce,S'⟩:=S3.Aot rd hl;exact kk _ _ ce S'
   |_=>cases ef6
end
section
variable {Z:St}{fp:Nat->aan}{i:Nat}
def sk (kds:dL)(k:aG):dL:=match cM kds k with
 |some _=>kds
 |none=>kds++[(kD k,.list [])]
def AL (Z:St)(H:Hp)(i j:Nat)(k:aG):Prop:=∃ p ep xs q,Z[i]?=aa (aa (.ref p))/\H p=aa (.dK ep xs)/\dH xs k=aa (.ref q)/\Z[j]?=aa (aa (.ref q))
theorem set_same {Y:aQ}{i:Nat}{x:Slot}(h:Y[i]?=aa x):Y.set i x=Y:=by
 apply Jm
 grind
end
section
variable {X:Cx}{i l:Nat}{k e2:aT}{fm:EF}{t:BF}{y z:aD}{p3 p5 lp ap2 cp2 pos3 pos4:bJ}
theorem XJ(h:uV i Y=aa kds):i<Y.length:=(cE.1 (tO h)).1
end
section
variable {X:Cx}
def Oi (K:aI):V->aai->Hp->VK->Prop:=λx vs H Q=>∃ l b xs zs,x=.ref l/\vs=[.ref b]/\H l=aa (.lst xs)/\(SqL K H b zs\/SqT K H b zs)/\xs.length+zs.length<=sizeLine/\Q .non (ax H l (.lst (xs++zs)))
theorem r9:yg X "list.extend" (Oi X.K):=by
 intro ad s Z H x vs v us Q I rx rv h;obtain⟨l,b,xs,zs,rfl,rfl,hH,hB,hz,q⟩:=h;cases rx;obtain⟨u,rfl,ru⟩:=rv.one;cases ru;obtain⟨z,its,n,r,hl,e⟩:=I.lstM hH;obtain⟨gj,r2,T,o2,n2,g1,g2,g3,hT⟩:∃ (gj:aak),Vals zs gj/\∃ (T:String) (o2:aZ) (n2:Nat),s.heap.get? b=aa o2/\o2.cls=.type T/\o2.data=.seq gj.toArray n2/\(T = "list" \/ T = "tuple"):=by
  rcases hB with hB|hB
  .obtain⟨gj,r2,pl,_⟩:=I.list hB;obtain⟨o2,g1,g2,n2,g3⟩:=pl.isList
   grind
  .obtain⟨gj,r2,pl,_⟩:=I.tuple hB;obtain⟨o2,g1,g2,n2,g3⟩:=pl
   grind
 have hl2:=r2.length;have hsz:its.toArray.size+gj.toArray.size<=sizeLine:=by rw[dA,dA];lia
 have LE:¬ (!its.toArray.isEmpty&&Jz (its.toArray.size+gj.toArray.size))=af:=by
  rw[c7 hsz,Bool.and_false];exact QH
 refine fK F.slot_list_extend ⟨_,e,rfl⟩ F.entry_list_extend ?_ (F.args_list_extend_2 _ _);refine aE (aH (aE (jV ⟨o2,g1,g2⟩ ?_)));have yes:(xE (.ref l) (.ref b)||iG T==iG "list" || iG T==iG "tuple")=af:=by
  grind
 rw[if_pos yes];refine aE (listItems_at g1 g3 (aE (listItems_at e rfl ?_)));rw[if_neg LE];refine aE (FE e rfl (aH ⟨.none,rfl,?_⟩) (by rw[dA];lia) (by show(its.toArray++gj.toArray).size<=sizeLine+1;rw[Array.size_append];lia))
 refine⟨.non,_,I.lset hH e (by simp) (r.append r2) (by rw[jN];lia),rfl,q⟩
end
section
variable {X:Cx}{i:Nat}
def Km:aA->aad
 |.list es=>aa es
 |.tuple es=>aa es
 |_=>ab
def qV (i:Nat)(m:Md)(f:EF):SF:=λY=>(eV 0 m f Y).bind λd=>(getL i Y).bind λds=>(Km d).bind λes=>if ds.length+es.length<=sizeLine then aa (.nx (Y.set i (aa (1,.list (ds++es))))) else ab
theorem WU{es:aag}(h1:Aan K H ds xs)(h2:Aan K H es ys):Aan K H (ds++es) (xs++ys):=h1.append h2
theorem u3 (i:Nat)(m:Md)(he:DE X e f)(hN:Nm X i x)(q5:Bm X (.Name x px) e [] "extend" ay ba)
  (jw:kS (.Call (.Attribute (.Name x px) "extend" ay) [e] [] ba) ab pos.line X.env=pure ah):DS X H0 P0 n0 (.Expr (.Call (.Attribute (.Name x px) "extend" ay) [e] [] ba) pos) (qV i m f):=
 PS.imp (tH (pG AE PySem.F.slot_list_extend PySem.F.type_list_extend r9 (hN.pe) (gJ (ev m he) iN q5.s) q5) jw) λD Z H gh=>by
  rw[5];obtain⟨d,e1,cg⟩:=ar ef;obtain⟨ds,e2,ck⟩:=ar cg;obtain⟨es,e3,fy⟩:=ar ck;obtain⟨hl,rfl⟩:=cJ fy;obtain⟨p,xs,h1,h2,_,_⟩:=S.lst1 (nK e2);refine⟨.ref p,h1,.inl ⟨rfl,xs,SqL.of h2⟩,B0,Y,fp,d,S,e1,λv H2 gh=>?_⟩
  obtain⟨gt,S2,r2⟩:=gh;obtain⟨p2,wq,q1,q2,q3,q4⟩:=S2.lst1 (nK e2);have:p2=p:=by rw[h1] at q1;cases q1;rfl
  subst this;cases d with
  |list ig=>
   cases e3;obtain⟨b,ys,rfl,hb,rr⟩:=Aav.1 r2.2;exact⟨p2,b,wq,ys,rfl,rfl,q2,.inl (Aam.sqL hb),by rw[q3.length,rr.length];exact hl,k _ _ gt (q4 _ _ (WU q3 rr))⟩
  |tuple ig=>
   cases e3;obtain⟨b,ys,rfl,hb,rr⟩:=Aal.1 r2.2;exact⟨p2,b,wq,ys,rfl,rfl,q2,.inr (SqT.of (Aam _ _ hb)),by rw[q3.length,rr.length];exact hl,k _ _ gt (q4 _ _ (WU q3 rr))⟩
  |_=>cases e3
end
open PySem PySem.W PySem.Calls PyProof.Rows Att
def xO (ns:aaj):Prop:=∀ x∈ns,rX x<=1048576
theorem weigh:∀ {ns:aaj} {x:Int},x∈ns->rX x<=WData.weightAll (ns.map WData.int)
 |n::ns,x,m=>by
  rw[dB,WData.weightAll];have e:WData.weight (.int n)=rX n:=by
   rfl
  rcases cI.1 m with rfl|m
  .rw[e];lia
  .have:=weigh m
   lia
theorem Zv(h:WData.layableAll [WData.list (ns.map WData.int)]=af):xO ns:=λx m=>by
 have h1:WData.layable (.list (ns.map .int))=af:=by simpa [WData.layableAll] using h
 have h2:=of_decide_eq_true (jO.1 h1).2;rw[WData.weight] at h2;have:=weigh m
 lia
theorem F3 {l:OpenLaw}{q:bE}{jf:aal}{XP:(aD->aap)->aP->Prop}{YP:aX->aP->Prop}{d:DefRec}
  (hn:l.most=aa n) (LT:d.params.defaults=[])
  (call:∀ (w:aX) (s₀ s₁:aF) (mg mb:aD->aap) (fa:aC) (o:aZ) (pm cd ia:aB) (a:aC) (vs:aak) (ns:aaj),
   xO ns->Ground q jf [] XP w s₀ mg mb s₁.heap->YP w s₁.heap ->
   s₁.heap.get? fa=aa o->o.data=.func (docDef d.name d.params d.body d.scope pm cd ia)->s₁.heap.CodeRec cd d.name->mg d.name=aa (.ref fa) ->
   s₁.heap.get? a=aa { cls:=.type "list",data:=.seq vs.toArray }->oX vs ns->ns.length<=n->s₁.gens = #[] ->
   jJ (aO l.prog w) callerA (.call (.ref fa) ⟨[.ref a],[]⟩) (λr s'=>r=.ok (.ret (.bool af))/\OldK s₁.heap s'.heap/\s'.os=s₁.os/\AllBare s'.gens) s₁) :
  WalkO q jf XP YP l.row.toRowW d [] (λf vs=>PySem.call f vs):=by
 intro w s₀ s₁ mg mb G al fa o pm cd ia dV kV ho hd ly hD M' hg args wm as ny hlay hrd hwl hlo;obtain rfl:dV=.none:=Dflts.none hD LT;obtain rfl:kV=.none:=Dflts.noKw hD;obtain⟨a,vs,ns,rfl,rfl,xd,rj,aw⟩:=V4 hn ny hwl;refine enter_call (AB (call w s₀ s₁ mg mb fa o pm cd ia a vs ns (Zv hlay) G al ho (fd_plain hd) ly M' xd rj aw hg) λr s' hq=>?_)
 obtain⟨rfl,h2,h3,h4⟩:=hq;exact⟨.inl ⟨.bool af,.bool af,[],rfl,λ_=>rfl,.bool af,Z3 l _,λ_=>⟨Jp,λ_ hm=>(nomatch hm)⟩⟩,h2,h3,h4⟩
theorem A8x {l:PySem.W.OpenLaw}{q:bE}{jf:aal}{XP:(aD->aap)->aP->Prop}{YP:aX->aP->Prop}{d:DefRec}{K:Params->aI}{sp:aX->Sp}
  (hn:l.most=aa n) (hn2:n<=sizeLine) (LT:d.params.defaults=[]) (hr:Room k callerA)
  (hY:∀ (w:aX) (h:aP),YP w h->(K w.params).In h)
  (F:∀ (w:aX) (mg:aD->aap) (fa:aC) (h:aP),(K w.params).In h->h.Ns fX mg->mg d.name=aa (.ref fa) ->
   ∃ fd:jE,(∀ (s:aF) (u:aB),BindsTo s fd ⟨[u],[]⟩ [(x,u)]) /\
    ∀ base:aP,(K w.params).In base->base.Ns fX mg->FnOk l.prog w (K w.params) mg base k fa fd [x] (sp w))
  (su:∀ (w:aX) (H:Hp) (a:aC) (ns:aaj),xO ns->ns.length<=n->Only H->SqL (K w.params) H a (ns.map V.int)->sp w [.ref a] H λv _=>v=.bl af) :
  PySem.W.WalkO q jf XP YP l.row.toRowW d [] (λf vs=>PySem.call f vs):=by
 refine F3 hn LT λw s₀ s₁ mg mb fa o pm cd ia a vs ns hB G al ho hd ly M' xd rj aw hg=>?_
 have KX:=hY w _ al;obtain⟨fd,hb,hF⟩:=F w mg fa _ KX G.T.g M';exact P5 KX G.T.g G.T.b G.T.builtins G.T.nolimit hg xd rj (cQ aw hn2) hr hF hb λH hO hS=>su w H a ns hB aw hO hS
noncomputable def RH:aA->aA->aah:=vx (λi j=>(i.natAbs<2^64\/j.natAbs<2^64)\/rX i+rX j<=134217728) λi j=>.int (i*j)
section
variable {X:Cx}{a b:aT}{fa fb:EF}
theorem Yq:OpR X (jY .Mult) (rI (λi j=>(i.natAbs<2^64\/j.natAbs<2^64)\/rX i+rX j<=134217728) λi j=>.int (i*j)):=by
 intro ad s Z H x y v u Q I rx ry ⟨i,j,ex,ey,hc,q⟩;rcases hc with hc|hc
 .exact XZ ad s Z H x y v u Q I rx ry ⟨i,j,ex,ey,.inl hc,q⟩
 .exact yn (λi j _ _ _ _ _ hc q=>mul_int q (aAh (bA _) (bA _) hc)) ad s Z H x y v u Q I rx ry ⟨i,j,ex,ey,hc,q⟩
theorem Wy (ha:DE X a fa)(hb:DE X b fb):DE X (.BinOp a .Mult b pos) (ai RH fa fb):=pM Yq (zN (λ_ _ h=>h) λ_ _ _=>Aaj.2 rfl) ha hb
end
section
variable {X:Cx}{a b:aT}{fa fb:EF}
def zM:aag->aah
 |[.int i]=>if i.natAbs.log2<1920/\bX (.str (toString i))=af then aa (.str (toString i)) else ab
 |_=>ab
theorem v9:CallD K 0 (λxs H Q=>∃ i,xs=[.int i]/\i.natAbs.log2<1920/\Q (.str (toString i)) H) zM:=λP H xs ds d Q hP r e k=>by
 unfold zM at e;split at e
 .obtain⟨hc,rfl⟩:=cJ e;rw[7];exact⟨_,by rw[Aaj.1 r'],hc.1,k.zero Ext.refl (Aa2.2 ⟨rfl,hc.2⟩)⟩
 .cases e
end
section
variable {X:Cx}
def Ma:V->aai->Hp->VK->Prop:=λx vs H Q=>∃ d b ep Fa kvs more,x=.ref d/\vs=[.ref b]/\H d=aa (.dK ep kvs)/\H b=aa (.dK Fa more)/\d≠b/\kvs.length+more.length<=sizeLine/\∀ n,Q .non (ax H d (.dK n (nG kvs more)))
theorem W5:yg X "dict.update" Ma:=by
 intro ad s Z H x vs v us Q I rx rv h;obtain⟨d,b,ep,Fa,kvs,more,rfl,rfl,e,e2,ne,l,q⟩:=h;cases rx;obtain⟨u,rfl,ru⟩:=rv.one;cases ru;obtain⟨z,hd,ws,dg,dd⟩:=zT I.hok e;obtain⟨z2,sy,ws2,No,vd⟩:=zT I.hok e2;have l1:=iU dg;have l2:=iU No;refine NY aAe dd.typeIs PySem.F.entry_dict_update (PySem.F.args_dict_update_2 _ _) (meets_dict_update (dP X.prog X.w) d b ne sy) ⟨ws,ws2,dd,vd,(),λh' ue _ sb=>?_⟩
 obtain⟨n,da⟩:=ue.dictAt;exact⟨.non,_,CQ I (by rw[e];exact oR) sb (uX (by have:=ES more kvs;lia) hd (No.merge dg) da),rfl,q n⟩
end
section
variable {X:Cx}{i:Nat}
def qP:dL->Option (List (aG×aA))
 |[]=>aa []
 |p::r=>(cC p.1).bind λk=>(qP r).bind λps=>aa ((k,p.2)::ps)
theorem M8:∀ {es:dL} {ps:List (aG×aA)} {qs:li},qP es=aa ps->gR K H es qs->bY (λ(p:aG×aA) (q:aG×V)=>p.1=q.1/\Abg K H p.2 q.2) ps qs:=by
 intro es;induction es with
 |nil=>
  intro ps qs e r;cases e;rw[Abm.1 r];exact .nil
 |cons p es ih=>
  intro ps qs e r;obtain⟨k,e1,e⟩:=ar (show((cC p.1).bind λk=>(qP es).bind λps=>aa ((k,p.2)::ps))=aa ps from e)
  obtain⟨ps',e2,e⟩:=ar e;cases e;obtain⟨p1,p2⟩:=p;obtain⟨k',v,t,rfl,r1,r2,r3⟩:=Aba.1 r;refine .cons ⟨?_,r2⟩ (ih e2 r3);have:=LB e1;cases k<;>cases k'<;>simp_all[kD]
def xI (i:Nat)(m:Md)(f:EF):SF:=λY=>(eV 0 m f Y).bind λd=>(qQ i Y).bind λkds=>match d with
 |.dict es=>(qP es).bind λps=>if ic es=af/\kds.length+es.length<=sizeLine then aa (.nx (Y.set i (aa (1,.dict (kI ps kds))))) else ab
 |_=>ab
theorem Sta.dic1_out{Z:St}{fp:Nat->aan}{ds:dL}{p b:aC}{o:HO}(S:Sta K H0 P0 B0 Y Z H fp)(e:Y[i]?=aa (aa (1,.dict ds)))(h:Z[i]?=aa (aa (.ref p)))(hb:L2.hid H (Hd P0 fp) b=aa o):p≠b:=by
 obtain⟨v,h1,h2⟩:=S.slot i 1 _ e;obtain⟨p',xs,Fs,rfl,hp,hF,h3⟩:=h2;have:p'=p:=by rw[h] at h1;cases h1;rfl
 subst this;intro z;subst z;exact(Acz.1 hb).1 (.inr ⟨i,by rw[hF];exact bD⟩)
theorem R3 (i:Nat)(m:Md)(he:DE X e f)(hN:Nm X i x)(q5:Bm X (.Name x px) e [] "update" ay ba)
  (jw:kS (.Call (.Attribute (.Name x px) "update" ay) [e] [] ba) ab pos.line X.env=pure ah):DS X H0 P0 n0 (.Expr (.Call (.Attribute (.Name x px) "update" ay) [e] [] ba) pos) (xI i m f):=
 PS.imp (tH (pG OC aAe PySem.F.type_dict_update W5 (hN.pe) (gJ (ev m he) iN q5.s) q5) jw) λD Z H gh=>by
  rw[5];obtain⟨d,e1,cg⟩:=ar ef;obtain⟨kds,e2,ck⟩:=ar cg;cases d with
  |dict es=>
   obtain⟨ps,e3,fy⟩:=ar (show((qP es).bind λps=>if ic es=af/\kds.length+es.length<=sizeLine then aa (Out.nx (Y.set i (aa (1,.dict (kI ps kds))))) else ab)=aa o from ck)
   obtain⟨⟨hp,hl⟩,rfl⟩:=cJ fy;obtain⟨p,ep,xs,h1,h2,_,_⟩:=S.dic1 (tQ e2);refine⟨.ref p,h1,.inr (.inr ⟨rfl,.inl ⟨ep,xs,h2⟩⟩),B0,Y,fp,_,S,e1,λv H2 gh=>?_⟩
   obtain⟨gt,S2,r2⟩:=gh;obtain⟨p2,Fa,wq,q1,q2,q3,q4⟩:=S2.dic1 (tQ e2);have:p2=p:=by rw[h1] at q1;cases q1;rfl
   subst this;obtain⟨b,kvs,rfl,hb,rr⟩:=(vQ hp).1 r2.2;exact⟨p2,b,Fa,kvs.1,wq,kvs.2,rfl,rfl,q2,(Acz.1 hb).2,S2.dic1_out (tQ e2) q1 hb,by rw[q3.length,rr.length];exact hl,λn=>k _ _ gt (q4 n _ _ (KR (M8 e3 rr) q3))⟩
  |_=>cases ck
end
section
variable {P:bE}
theorem c0{Q:Option aZ->aF->Prop}(ho:s.heap.get? a=aa o)(h:Q (aa o) s):aJ (aO P w) A (loadIfAlive a) Q E s:=λΓ p _=>by
 show Q (s.heap.get? a) s;rw[ho];exact h
abbrev HC (h:aP)(z TI TO:aC)(T:Nat)(c:Bool):Prop:=
 h.get? z=aa { cls:=.type "zip",dict:=ab,data:=.fields #[cT T,.bool c,.bool ah,.ref TI,.ref TO],slots:=#[] }
variable {C TI TO:aC}{xs ys:Array aB}{T:Nat}{c:Bool}
def xj (D z TI TO i1 i2:aC)(S1 S2:Nat->aP->Prop)(k:Nat)(h:aP):Prop:=
 (∃ T c,HC h z TI TO T c/\(∃ o,h.get? T=aa o)/\T≠z/\T≠i1/\T≠i2/\T≠D)/\qF h TI (.ref i1) (.ref i2)/\S1 k h/\S2 k h
theorem Hu {Q:Bool->aF->Prop}(gz:HC s.heap z TI TO T c)(ha:∃ o,s.heap.get? T=aa o)(q:∀ h' c',HC h' z TI TO T c'->kY z s.heap h'->Q ah { s with heap:=h' }):aJ (aO P w) A (Builtin.SmallTypes.ownedTupleIsFree (.ref z)) Q E s:=by
 obtain⟨o,ha⟩:=ha;refine aE (gZ gz rfl rfl (aE (c0 (by simpa using ha) (aE (gZ gz rfl rfl ?_)))))
 cases c with
 |true=>
  exact aE (aH (aH (q _ _ gz (Js _ _))))
 |false=>
  exact aE (mV gz (by simp) λh' g' sb=>aH (q h' af g' sb))
theorem j7 {x y:aB}(D:ZApart z TI TO i1 i2 o1 o2)(U:Sub P w i1 o1 S1 xs)(V:Sub P w i2 o2 S2 ys)(st:xj C z TI TO i1 i2 S1 S2 k s.heap)(hx:xs[k]?=aa x)(hy:ys[k]?=aa y)
  (q:∀ h' T,xj C z TI TO i1 i2 S1 S2 (k+1) h'->qF h' T x y->T=s.heap.objs.size ->
   (∀ c o,c≠z->c≠TO->c≠i1->c≠i2->s.heap.get? c=aa o->h'.get? c=aa o)->Q (.ref T) { s with heap:=h' }) :
  aJ (aO P w) A (Builtin.«zip.__next__» ⟨[.ref z],[]⟩) (λfin s'=>∃ v,fin=.done (.ret v)/\Q v s') E s:=by
 obtain⟨⟨T,c,gz,⟨oT,gT⟩,T1,T2,T3,T4⟩,gI,jv,jt⟩:=st;have z1:i1≠z:=λe=>D.z1 (e ▸ U.mem)
 have z2:i2≠z:=λe=>D.z2 (e ▸ V.mem)
 show aJ _ _ (field (.ref z) 2>>=_) _ E s;refine aE (gZ gz rfl rfl (aE (gZ gz rfl rfl (aE (iC gI rfl (aE (Hu gz ⟨oT,gT⟩ λha c' wt sa=>aE (aE (aE (eG (aE (U.item _ _ _ _ k x (U.but jv D.z1 sa.extBut) hx λhb qw sb=>aH (aH (aE (aE (eG (aE (V.item _ _ _ _ k y (V.but (V.but jt D.z2 sa.extBut) D.x12 sb.extBut) hy λhd wu sd=>aH (aH (aH (aE (NL (hsz:=by show 2<=sizeLine;decide) ?_))))))))))))))))))))))
 have up:∀ c o,c≠z->c≠i1->c≠i2->s.heap.get? c=aa o->hd.get? c=aa o:=λc o n1 n3 n4 g=>sd.extBut _ _ n4 (sb.extBut _ _ n3 (sa.extBut _ _ n1 g))
 have pu:∀ (c:aC) o,hd.get? c=aa o->(hd.push { cls:=.type "tuple",data:=.seq #[x,y] }).get? c=aa o:=λc o g=>bC _ g
 refine aH ⟨_,rfl,q _ hd.objs.size ⟨⟨T,c',pu _ _ (sd.extBut _ _ z2.symm (sb.extBut _ _ z1.symm wt)),⟨oT,pu _ _ (up _ _ T1 T2 T3 gT)⟩,T1,T2,T3,T4⟩,pu _ _ (up _ _ D.TIz D.TI1 D.TI2 gI),U.keep _ _ _ (U.but qw D.x21 sd.extBut) λc _ o g=>pu _ _ g,V.keep _ _ _ wu λc _ o g=>pu _ _ g⟩ (cH _ rfl) (by rw[sd.1,sb.1,sa.1]) λc o n1 n2 n3 n4 g=>pu _ _ (up c o n1 n3 n4 g)⟩
theorem Zd {Q:Fin->aF->Prop}(hh:A.handled=ab)(D:ZApart z TI TO i1 i2 o1 o2)(U:Sub P w i1 o1 S1 xs)(V:Sub P w i2 o2 S2 ys)(st:xj C z TI TO i1 i2 S1 S2 k s.heap)(gm:xs[k]?=ab\/ys[k]?=ab)
  (q:∀ h' e,(∀ c o,c≠z->c≠TO->c≠i1->c≠i2->s.heap.get? c=aa o->h'.get? c=aa o)->(∃ o,h'.get? e=aa o/\o.cls=.type "StopIteration")->E (.ref e) { s with heap:=h' }) :
  aJ (aO P w) A (Builtin.«zip.__next__» ⟨[.ref z],[]⟩) Q E s:=by
 obtain⟨⟨T,c,gz,⟨oT,gT⟩,T1,T2,T3,T4⟩,gI,jv,jt⟩:=st;show aJ _ _ (field (.ref z) 2>>=_) _ E s;refine aE (gZ gz rfl rfl (aE (gZ gz rfl rfl (aE (iC gI rfl (aE (Hu gz ⟨oT,gT⟩ λha c' wt sa=>aE (aE (aE (eG ?_))))))))))
 cases hx:xs[k]? with
 |none=>
  exact aE (U.done _ _ _ _ k hh (U.but jv D.z1 sa.extBut) hx λhb e sb he=>q hb e (λc o n1 _ n3 _ g=>sb _ _ n3 (sa.extBut _ _ n1 g)) he)
 |some x=>
  exact aE (U.item _ _ _ _ k x (U.but jv D.z1 sa.extBut) hx λhb qw sb=>aH (aH (aE (aE (eG (aE (V.done _ _ _ _ k hh (V.but (V.but jt D.z2 sa.extBut) D.x12 sb.extBut) (gm.resolve_left λh=>by rw[hx] at h;cases h) λhd e sd he=>q hd e (λc o n1 _ n3 n4 g=>sd _ _ n4 (sb.extBut _ _ n3 (sa.extBut _ _ n1 g))) he)))))))
def Bfg (C z TI TO i1 i2:aC)(S1 S2:Nat->aP->Prop)(k:Nat)(h:aP):Prop:=pj z TI TO i1 i2 S1 S2 .none k h\/xj C z TI TO i1 i2 S1 S2 k h
theorem YW {x y:aB}{Q:aap->aF->Prop}(D:ZApart z TI TO i1 i2 o1 o2)(U:Sub P w i1 o1 S1 xs)(V:Sub P w i2 o2 S2 ys)(st:Bfg C z TI TO i1 i2 S1 S2 k s.heap)(hx:xs[k]?=aa x)(hy:ys[k]?=aa y)(lC:C<s.heap.objs.size)
  (q:∀ h' T,xj C z TI TO i1 i2 S1 S2 (k+1) h'->qF h' T x y->T=s.heap.objs.size ->
   (∀ c o,c≠z->c≠TO->c≠i1->c≠i2->s.heap.get? c=aa o->h'.get? c=aa o)->Q (aa (.ref T)) { s with heap:=h' }):aJ (aO P w) A (jW (.ref z)) Q E s:=by
 rcases st with st|st
 .have lz:=bN st.1;refine WS D U V st hx hy λh' ⟨g1,g2,g3,g4,g5⟩ pr sz df=>q h' _ ⟨⟨_,ah,g1,⟨_,pr⟩,jL lz,jL (by obtain⟨o,e⟩:=U.obj _ _ st.2.2.2.1 _ U.mem;exact bN e),jL (by obtain⟨o,e⟩:=V.obj _ _ st.2.2.2.2 _ V.mem;exact bN e),jL lC⟩,g2,g4,g5⟩ pr rfl df
 .have ty:s.TypeIs (.ref z) "zip":=by
   obtain⟨⟨T,c,gz,_⟩,_⟩:=st;exact⟨_,gz,rfl⟩
  exact aE (pW (mB ty uJ (fK uJ ty PY (j7 D U V st hx hy λh' T a1 a2 a3 a4=>aH (q h' T a1 a2 a3 a4)) (QA _))))
theorem ZD {Q:aap->aF->Prop}(hh:A.handled=ab)(D:ZApart z TI TO i1 i2 o1 o2)(U:Sub P w i1 o1 S1 xs)(V:Sub P w i2 o2 S2 ys)(st:Bfg C z TI TO i1 i2 S1 S2 k s.heap)(gm:xs[k]?=ab\/ys[k]?=ab)
  (q:∀ h',(∀ c o,c≠z->c≠TO->c≠i1->c≠i2->s.heap.get? c=aa o->h'.get? c=aa o)->Q ab { s with heap:=h' }):aJ (aO P w) A (jW (.ref z)) Q E s:=by
 rcases st with st|st
 .exact XU hh D U V st gm q
 .have ty:s.TypeIs (.ref z) "zip":=by
   obtain⟨⟨T,c,gz,_⟩,_⟩:=st;exact⟨_,gz,rfl⟩
  refine aE (pW (mB ty uJ (fK uJ ty PY (Zd hh D U V st gm λh' e kp ⟨o,g1,g2⟩=>?_) (QA _))))
  exact aE (rQ ⟨o,g1,g2⟩ FG (aH (q _ kp)))
end
theorem C9:rR (.type "zip") "keys" = pure ab:=by rw[tV,tY];kernel_rfl
section
variable {TI TO:aC}{xs ys:Array aB}
theorem Bfg.keep {P:bE}(U:Sub P w i1 o1 S1 xs)(V:Sub P w i2 o2 S2 ys)(nz:D≠z)(nI:D≠TI)(n1:D∉o1)(n2:D∉o2)(st:xj D z TI TO i1 i2 S1 S2 k h)(kp:∀ c o,c≠D->h.get? c=aa o->h'.get? c=aa o):xj D z TI TO i1 i2 S1 S2 k h':=by
 obtain⟨⟨T,c,gz,⟨oT,gT⟩,T1,T2,T3,T4⟩,gI,jv,jt⟩:=st;exact⟨⟨T,c,kp _ _ nz.symm gz,⟨oT,kp _ _ T4 gT⟩,T1,T2,T3,T4⟩,kp _ _ nI.symm gI,U.keep _ _ _ jv λc hc o g=>kp _ _ (λe=>n1 (e ▸ hc)) g,V.keep _ _ _ jt λc hc o g=>kp _ _ (λe=>n2 (e ▸ hc)) g⟩
theorem U6(hh:A.handled=ab)(bd:ZApart z TI TO i1 i2 o1 o2)(U:Sub prog w i1 o1 S1 xs)(V:Sub prog w i2 o2 S2 ys)(D:aC)(nz:D≠z)(nI:D≠TI)(nO:D≠TO)(n1:D∉o1)(n2:D∉o2)(kvs:tz)(hn:kvs.length<=sizeLine)
  (gm:xs[kvs.length]?=ab\/ys[kvs.length]?=ab) (hkv:∀ (j:Nat) p,kvs[j]?=aa p->∃ kv,xs[j]?=aa kv/\ys[j]?=aa p.2/\(dP prog w).is p.1 kv=af) :
  ∀ (k i:Nat) (s:aF),kvs.length-i=k->i<=kvs.length->Bfg D z TI TO i1 i2 S1 S2 i s.heap->s.heap.DictOf (dP prog w) D (iR [] (kvs.take i)) ->
   (∀ h' tk,(∀ c o,c≠D->c≠z->c≠TO->c≠i1->c≠i2->s.heap.get? c=aa o->h'.get? c=aa o)->h'.DictOf (dP prog w) D (iR [] kvs)->R (.ok (.ret .none)) { s with heap:=h',toks:=tk }) ->
   jJ (aO prog w) A (.builtin "dict.update.loop" ⟨[.ref D,.ref z,cT (i:Int),.none],[]⟩) R s:=by
 have e1:D≠i1:=λe=>n1 (e ▸ U.mem)
 have e2:D≠i2:=λe=>n2 (e ▸ V.mem)
 intro k;induction k with
 |zero=>
  intro i s hk hi du hS hR;obtain rfl:i=kvs.length:=()
  refine iE wA ?_;rw[Kf rM _];refine aE (ZD (by simp[hh]) bd U V du gm λh' kp=>aE (aH (aH (hR h' _ (λc o _ a b c' d g=>kp c o a b c' d g) ?_))))
  obtain⟨o,es,ep,ho,r⟩:=hS;rw[rT] at r;exact⟨o,es,ep,kp D o nz nO e1 e2 ho,r⟩
 |succ k ih=>
  intro i s hk hi du hS hR;have bu:i<kvs.length:=()
  obtain⟨p,hp⟩:∃ p,kvs[i]?=aa p:=⟨_,eE bu⟩;obtain⟨kv,hx,hy,hkk⟩:=hkv i p hp;have lD:D<s.heap.objs.size:=by
   obtain⟨o,es,ep,ho,r⟩:=hS;exact bN ho
  refine iE wA ?_;rw[Kf rM _];refine aE (YW bd U V du hx hy lD λh' T gw pr hT1 df=>?_)
  have jx:h'.DictOf (dP prog w) D (iR [] (kvs.take i)):=by
   obtain⟨o,es,ep,ho,r⟩:=hS;exact⟨o,es,ep,df D o nz nO e1 e2 ho,r⟩
  have gn:iR [] (kvs.take (i+1))=stored (iR [] (kvs.take i)) p.1 p.2:=by
   rw[qB,hp];simp[iR,qC]
  have aw:(iR [] (kvs.take i)).length<=sizeLine:=by
   have:=KZ (kvs.take i) [];rw[mH] at this;simp at this
   lia
  refine aE (eG (aE (wpAny_tryCatch ?_)));unfold Builtin.Dict.pairItems;have tb:(Shared.heap { s with heap:=h' }).IsTuple T #[kv,p.2]:=⟨_,pr,rfl,0,rfl⟩;refine aE (jV tb.typeIs (aE (iC pr rfl (aH (eG (wpAny_dictSet_pairs hkk jx (λh2 d' sb=>?_) aw))))))
  refine aH ⟨jX rM _,?_⟩;have kp2:∀ c o,c≠D->h'.get? c=aa o->h2.get? c=aa o:=λc o n g=>(sb.2 c n).trans g
  exact ih (i+1) _ () bu (.inr (Bfg.keep U V nz nI n1 n2 gw kp2)) (by rw[gn];exact d') λh3 tk kp3 S4=>hR h3 tk (λc o a b c' d e g=>kp3 c o a b c' d e (kp2 c o a (df c o b c' d e g))) S4
theorem L3:rR (.type "zip") "__getattr__" = pure ab:=by rw[tV,tY];kernel_rfl
theorem E4:entryFor table "zip.__getattribute__" = aa Builtin.«object.__getattribute__»:=
 entryFor_alias (id':="object.__getattribute__") (by kernel_rfl) (by rw[0]) (by rw[0]) (by kernel_rfl)
theorem N6 (a:aC)(fs:Array aB)(name:aD)(u:Tok)(hmiss:rR (.type "zip") name=pure ab)(NE:(["__module__","__name__","__qualname__","__doc__","__annotations__"]:aal).contains name=ah)(hsz:name.length+100<=sizeLine:=by size_fits) :
  Meets (Builtin.«object.__getattribute__» ⟨[.ref a,.str name u],[]⟩) (λA R s=>s.heap.get? a=aa { cls:=.type "zip",dict:=ab,data:=.fields fs,slots:=#[] }/\raisesAttr (.ref a) name A R s):=
 Meets.of_wp λprog w A R s hs=>by
  obtain⟨hx,hs⟩:=hs
  repeat (any_goals (first|assumption|wp_step))
  simp only[NE,rY,if_false]
  repeat (any_goals (first|assumption|wp_step))
  exact wpAny_raiseAttrError hs.1 hs.2 (attrMsg_fits (by rw[0]) hsz)
theorem C7{fs:Array aB}{Q:aap->aF->Prop}(hx:s.heap.get? a=aa { cls:=.type "zip",dict:=ab,data:=.fields fs,slots:=#[] })(hA:A.handled=ab)
  (h:∀ h' tk,(∀ b o,s.heap.get? b=aa o->h'.get? b=aa o)->Q ab { s with heap:=h',toks:=tk }):aJ (aO prog w) A (getAttr? (.ref a) "keys") Q E s:=by
 obtain⟨hp,g,d,tk,os⟩:=s;have hT:∀ ku,(⟨hp,g,d,ku,os⟩:aF).TypeIs (.ref a) "zip":=λ_=>⟨_,hx,rfl⟩
 have f1:=sub_AttributeError;have f3:=Jt.lookup;have f4:=Jt.bind (.ref a);have f5:=L3;unfold getAttr? getAttrBy? getAttrBy
 repeat (any_goals (first|assumption|exact hT _|((with_reducible show aJ _ _ (call (Value.builtin "zip.__getattribute__") _ _) _ _ _);refine AC Jt (hT _) E4 (F.args_zip_getattribute_2 _ _) (N6 a fs _ _ C9 (by rw[0])) ⟨hx,hA,λh' ku e zp=>?_⟩)|wp_step))
 obtain⟨t',u',he⟩:=zp.there;unfold getattributeRaised
 repeat (any_goals (first|assumption|wp_step))
 exact h _ _ zp.keeps
theorem p6{l1 l2:aC}{kvs:tz}(hh:A.handled=ab)(ap:ZApart z TI TO i1 i2 [i1,l1] [i2,l2])(ne1:l1≠i1)(ne2:l2≠i2)(st:pj z TI TO i1 i2 (StB b1 i1 l1 xs) (StB b2 i2 l2 ys) .none 0 s.heap)
  (hn:kvs.length<=sizeLine) (gm:xs[kvs.length]?=ab\/ys[kvs.length]?=ab) (hkv:∀ (j:Nat) p,kvs[j]?=aa p->∃ kv,xs[j]?=aa kv/\ys[j]?=aa p.2/\(dP prog w).is p.1 kv=af)
  (h:∀ h' tk,h'.DictOf (dP prog w) s.heap.objs.size (iR [] kvs)->(∀ b o,b≠z->b≠TO->b≠i1->b≠i2->s.heap.get? b=aa o->h'.get? b=aa o)->Q (.ref s.heap.objs.size) { s with heap:=h',toks:=tk }) :
  aJ (aO prog w) A (call (.type "dict") [.ref z]) Q E s:=by
 have U:Sub prog w i1 [i1,l1] (StB b1 i1 l1 xs) xs:=nZ b1 i1 l1 xs ne1;have V:Sub prog w i2 [i2,l2] (StB b2 i2 l2 ys) ys:=nZ b2 i2 l2 ys ne2;refine NZ (Q₁:=λobj s₁=>obj=.ref s.heap.objs.size/\s₁={ s with heap:=s.heap.push { cls:=.type "dict",data:=.dict #[] } }) F.kt_called_dict (F.kt_typeCall_dict_1 _) F.entry_dict_init (kt_code_dict_new _ ⟨rfl,rfl⟩) ?_
 rintro obj s₁ ⟨rfl,rfl⟩;have dn:(s.heap.push { cls:=.type "dict",data:=.dict #[] }).DictOf (dP prog w) s.heap.objs.size []:=Heap.DictOf.new s.heap;refine⟨dn.typeIs,F.args_dict_init_2 _ _,aE ?_⟩;unfold Builtin.Dict.selfAndRest;refine aE (Ia dn.typeIs (aH ?_));show aJ _ _ (Kb "dict.__init__" s.heap.objs.size (.ref z) [] .none) _ _ _;unfold Kb;have pz:(s.heap.push { cls:=.type "dict",data:=.dict #[] }).get? z=aa _:=bC _ st.1;refine aE (jV ⟨_,pz,rfl⟩ ?_);rw[if_pos nofun]
 refine aE (C7 pz (by simp[hh]) λh1 tk k1=>?_)
 have df:∀ b o,s.heap.get? b=aa o->h1.get? b=aa o:=λb o e=>k1 _ _ (bC _ e)
 have jv:pj z TI TO i1 i2 (StB b1 i1 l1 xs) (StB b2 i2 l2 ys) .none 0 h1:=by
  obtain⟨g1,g2,⟨a,b,g3⟩,g4,g5⟩:=st;exact⟨df _ _ g1,df _ _ g2,⟨a,b,df _ _ g3⟩,U.keep _ _ _ g4 λc _ o g=>df _ _ g,V.keep _ _ _ g5 λc _ o g=>df _ _ g⟩
 refine aE (mW (aE (NJ jv.1 (aH ⟨jX rM _,?_⟩))));have d1:h1.DictOf (dP prog w) s.heap.objs.size []:=by
  obtain⟨o,es,ep,ho,r⟩:=dn;exact⟨o,es,ep,k1 _ _ ho,r⟩
 have ne:∀ {b:aC},(∃ o,s.heap.get? b=aa o)->s.heap.objs.size≠b:=λ⟨o,e⟩=>jL (bN e)
 obtain⟨g1,g2,⟨a,b,g3⟩,g4,g5⟩:=st;refine U6 (by simp[hh]) ap U V s.heap.objs.size (ne ⟨_,g1⟩) (ne ⟨_,g2⟩) (ne ⟨_,g3⟩) (λq=>ne ((U.obj _ _ g4) _ q) rfl) (λq=>ne ((V.obj _ _ g5) _ q) rfl) kvs hn gm hkv (kvs.length-0) 0 _ rfl (cZ _) (.inl jv) d1 λh' ku kp S'=>⟨rfl,h h' ku S' λb o n1 n2 n3 n4 e=>kp b o (cP (bN e)) n1 n2 n3 n4 (df b o e)⟩
end
section
variable {X:Cx}{a b:aT}{p:bJ}
abbrev KyV (xs:aai)(ks:aam):Prop:=bY (λx k=>x=kV k) xs ks
def tDz (K:aI)(ta:TA):TE:=λZ H Q=>ta Z H λvs H1=>∃ a1 a2 b1 b2 xs ys ks,vs=[.ref a1,.ref a2]/\ip b1 K H1 a1 xs/\ip b2 K H1 a2 ys/\KyV xs ks/\xs.length<=sizeLine/\∀ q n,H1 q=ab->Q (.ref q) (ax H1 q (.dK n (nG [] (ks.zip ys))))
theorem Tu {X:Cx}:∀ {xs:aai} {ks:aam} {ys:aai} {us vs:aak},KyV xs ks->Vals xs us->Vals ys vs->∃ kvs:tz,KV (ks.zip ys) kvs/\(us[kvs.length]?=ab\/vs[kvs.length]?=ab)/\kvs.length<=xs.length/\∀ (j:Nat) p,kvs[j]?=aa p->∃ kv,us[j]?=aa kv/\vs[j]?=aa p.2/\(dP X.prog X.w).is p.1 kv=af:=by
 intro xs ks ys us vs h;induction h generalizing ys us vs with
 |nil=>
  intro r q;cases r;exact⟨[],.nil,.inl rfl,bA _,λj p e=>by simp at e⟩
 |@cons x k xs ks e t ih=>
  intro r q;cases r with
  |cons r rr=>
   cases q with
   |nil=>exact⟨[],.nil,.inr rfl,cZ _,λj p e=>by simp at e⟩
   |@cons y v ys vs q qq=>
    obtain⟨kvs,h1,h2,h3,h4⟩:=ih rr qq;subst e;refine⟨(k,v)::kvs,.cons ⟨rfl,q⟩ h1,by simpa using h2,by simpa using h3,λj p e=>?_⟩
    cases j with
    |zero=>
     cases e;exact⟨_,rfl,rfl,nX r⟩
    |succ j=>exact h4 j p (by simpa using e)
theorem Zt(g1:Gl X "dict")(m1:X.mg "dict" = ab)(g2:Gl X "zip")(m2:X.mg "zip" = ab)(ha:PA X [a,b] ta)
  (io:bH [jF (.Name "zip" p2) [a,b] [] cc] X.env=[(ah,bF (jF (.Name "zip" p2) [a,b] [] cc) X.env)]:=by rfl) (dv:bH [a,b] X.env=[(ah,bF a X.env),(ah,bF b X.env)]:=by rfl) (ut:bH [b] X.env=[(ah,bF b X.env)]:=by rfl) :
  PE X (.Call (.Name "dict" p) [.Call (.Name "zip" p2) [a,b] [] cc] [] pos) (tDz X.K ta):=by
 rw[6];refine Call_ (lH I g1 m1 boot_dict (oV ?_ io rfl));refine GE (Call_ (lH I g2 m2 boot_zip (oV (bj (ha cc ad s Z H _ I h) λus s1 ⟨vs,H1,I1,r1,q1⟩=>?_) (by rw[dv,ut]) (by rw[ut];rfl))))
 obtain⟨a1,a2,b1,b2,xs,ys,ks,rfl,k1,k2,kk,hz,q⟩:=q1;cases r1 with
 |cons r rr=>
  cases rr with
  |cons r' rr=>
   cases rr;cases r;cases r';obtain⟨u1,v1,w1⟩:=I1.sqB k1;obtain⟨u2,v2,w2⟩:=I1.sqB k2;have mm:∀ {b:Bool} {l:aC} {us:Array aB},SqB b s1.heap l us->l<s1.heap.objs.size:=λ{b l us} w=>by
    cases b with
    |true=>obtain⟨o,e,_⟩:=w;exact bN e
    |false=>obtain⟨o,e,_⟩:=w;exact bN e
   refine IY w1 w2 λz TI TO i1 i2 h' y0 y1 y2 y3 y4 D pc all=>QC ?_
   obtain⟨kvs,e1,e2,e3,e4⟩:=Tu kk v1 v2;refine p6 (kvs:=kvs) I1.ok.hd D (λe=>?_) (λe=>?_) pc () (by simpa using e2) (λj p e=>by simpa using e4 j p e) λh2 tk dd hk=>?_
   .exact nQ _ (jC (mm w1) (e ▸ y3))
   .exact nQ _ (jC (mm w2) (e ▸ y4))
   obtain⟨m,da⟩:=dd.dictAt;have lz:(nG [] (ks.zip ys)).length<=sizeLine:=by
    have l1:=ES (ks.zip ys) [];have l2:=iU e1;simp at l1 l2
    lia
   have le:s1.heap.objs.size<=h'.objs.size:=by
    rcases wQ z h'.objs.size with hl|hl
    .lia
    .exact absurd (bN pc.1) (Nat.not_lt.2 hl)
   exact⟨.ref h'.objs.size,_,I1.laid (λc o e=>by
    have lc:=bN e;exact hk c o (cP (jC lc y0)) (cP (jC lc y2)) (cP (jC lc y3)) (cP (jC lc y4)) (all c o e)) le (uX lz (beq_eq_false_iff_ne.2 (fZ (cP (jC I1.big le)))) (e1.merge .nil) da),rfl,q _ m (I1.hok.fresh le)⟩
def sM:aag->Option aam
 |[]=>aa []
 |k::r=>(cC k).bind λk=>(sM r).bind λks=>aa (k::ks)
def xR:aag->aah
 |[x,y]=>(lM x).bind λxs=>(lM y).bind λys=>(sM xs).bind λks=>if xs.length<=sizeLine then aa (.dict (kI (ks.zip ys) [])) else ab
 |_=>ab
theorem VE:∀ {ds:aag} {ks:aam} {xs:aai},sM ds=aa ks->Aan K H ds xs->KyV xs ks
 |[],ks,xs,e,r=>by
  cases e;rw[Aah.1 r];exact .nil
 |d::ds,ks,xs,e,r=>by
  obtain⟨k,e1,e⟩:=ar (show((cC d).bind λk=>(sM ds).bind λks=>aa (k::ks))=aa ks from e)
  obtain⟨gx,e2,e⟩:=ar e;cases e;obtain⟨v,t,rfl,r1,r2⟩:=Aac.1 r;exact .cons (lX e1 r1) (VE e2 r2)
theorem WC:∀ {ks:aam} {es:aag} {ys:aai},Aan K H es ys->bY (λ(p:aG×aA) (q:aG×V)=>p.1=q.1/\Abg K H p.2 q.2) (ks.zip es) (ks.zip ys)
 |[],_,_,_=>.nil
 |_::_,[],ys,r=>by
  rw[Aah.1 r];exact .nil
 |k::ks,e::es,ys,r=>by
  obtain⟨v,t,rfl,r1,r2⟩:=Aac.1 r;exact .cons ⟨rfl,r1⟩ (WC r2)
theorem O6(g1:Gl X "dict")(m1:X.mg "dict" = ab)(g2:Gl X "zip")(m2:X.mg "zip" = ab)(ha:DA X [a,b] fa)
  (io:bH [jF (.Name "zip" p2) [a,b] [] cc] X.env=[(ah,bF (jF (.Name "zip" p2) [a,b] [] cc) X.env)]) (dv:bH [a,b] X.env=[(ah,bF a X.env),(ah,bF b X.env)]) (ut:bH [b] X.env=[(ah,bF b X.env)]) :
  DF 1 X (.Call (.Name "dict" p) [.Call (.Name "zip" p2) [a,b] [] cc] [] pos) (aK xR fa):=PE.imp (Zt g1 m1 g2 m2 ha io dv ut) λZ H Q gh=>by
 rw[1];obtain⟨as,e1,cg⟩:=ar ef;unfold xR at cg;split at cg
 .obtain⟨xs,e2,ck⟩:=ar cg;obtain⟨ys,e3,fy⟩:=ar ck;obtain⟨ks,e4,oe⟩:=ar fy;obtain⟨hz,rfl⟩:=cJ oe;refine⟨P,Y,_,hP,rs,e1,λvs H1 x1 r1=>?_⟩
  obtain⟨v,t,rfl,q1,q2⟩:=Aac.1 r1;obtain⟨v',rfl,q3⟩:=fC q2;obtain⟨a1,b1,us,rfl,k1,w1⟩:=tU e2 q1;obtain⟨a2,b2,zn,rfl,k2,w2⟩:=tU e3 q3;exact⟨a1,a2,b1,b2,us,zn,ks,rfl,k1 _ Aam,k2 _ Aam,VE e4 w1,by rw[w1.length];exact hz,λl n hn=>(k.mono x1).dic (hP.ext x1) hn (KR (WC w2) (Abm.2 rfl))⟩
 .cases cg
end
def yo:aT->aal
 |.Name x _=>[x]
 |.Tuple [.Name x _,.Name y _] _ _=>[x,y]
 |_=>[]
def wc (xs XN:aal):po->aal
 |[]=>[]
 |none::r=>xs.headD "" :: wc xs.tail XN r
 |some j::r=>XN.getD j "" :: wc xs XN r
structure Sx (out:List (aD×jD))(XN:List aD):Prop
theorem lcS {X:Cx}{iu bm:aT}{fi:AF}{t:BF}{T:aA->be->Option be}{ie:List aT}{sc:fS}{cap:po}{out:aaa}{XN:aal}(_:Sx out XN)(hi:DI X tg bm fi)(ht:∀ cl C s₀ H₀ ex,sE (kJ X (wc (yo tg) XN cap) sc cl C s₀ H₀ ex) ie (uz X.K t))(hb:∀ cl C s₀ H₀ ex,DE (kJ X (wc (yo tg) XN cap) sc cl C s₀ H₀ ex) iu f)(h1:X.env.scope.names=out)(h2:X.N=XN)
  (zj:IP out XN (wc (yo tg) XN cap) cap sc.names=af) (hk:sc.kind=.function) (hT:U' T) (nd:(wc (yo tg) XN cap).Nodup) (hg:∀ cl C s₀ H₀ ex,(wc (yo tg) XN cap).Nodup->DGB (kJ X (wc (yo tg) XN cap) sc cl C s₀ H₀ ex) tg T) :
  LcB X cap sc tg bm iu ie fi T t f:=⟨_,G9 h1 h2 zj hk,hT,hi,λcl C s₀ H₀ ex=>⟨hg cl C s₀ H₀ ex nd,ht cl C s₀ H₀ ex,hb cl C s₀ H₀ ex⟩⟩
def GD (P:bE)(w:aX)(K:aI)(a:aC)(kvs:li):Prop:=(a==fW)=ah/\∀ h,K.In h->∃ vs,KV kvs vs/\h.DictOf (dP P w) a vs
abbrev xo (jb:aaf):li:=jb.map λp=>(p.1,V.int p.2)
abbrev xn (jb:aaf):dL:=jb.map λp=>(kD p.1,.int p.2)
section
variable {X:Cx}{jb:aaf}
theorem R9 (g:GD X.prog X.w X.K a kvs):OpR X (fY .NotIn) (λx y H Q=>y=.ref a/\∃ k,x=kV k/\Q (.bl (af != (dH kvs k).isSome)) H):=by
 rw[2];obtain⟨rfl,k,rfl,q⟩:=h;cases ry;obtain⟨hd,gg⟩:=g;obtain⟨vs,dg,dd⟩:=gg s.heap I.kIn;refine wpAny_notIn_of (nX rx) hd dd.mapOf ?_;rw[<-(dg.val k).isSome_eq];exact⟨.bl _,H,I.tok _,rfl,by simpa using q⟩
theorem TR (jb:aaf)(k:aG):∃ o:aar,cM (xn jb) k=o.map aU/\dH (xo jb) k=o.map V.int:=by
 induction jb with
 |nil=>exact⟨ab,rfl,rfl⟩
 |cons p r ih=>
  obtain⟨o,h1,h2⟩:=ih;have ek:cC (kD p.1)=aa p.1:=by cases p.1<;>rfl
  show ∃ o:aar,(((kD p.1,aU p.2)::xn r).find? λkd=>decide (cC kd.1=aa k)).map (·.2)=o.map aU/\(((p.1,V.int p.2)::xo r).find? λkv=>decide (kv.1=k)).map (·.2)=o.map V.int
  rw[iW,iW];by_cases h:p.1=k
  .have c1:decide (cC (kD p.1)=aa k)=af:=by rw[ek,h];simp
   have c2:decide (p.1=k)=af:=by simp[h]
   exact⟨aa p.2,by simp only[c1];rfl,by simp only[c2];rfl⟩
  .have c1:decide (cC (kD p.1)=aa k)=ah:=by rw[ek];simpa using h
   have c2:decide (p.1=k)=ah:=by simp[h]
   refine⟨o,?_,?_⟩
   .simp only[c1];exact h1
   .simp only[c2];exact h2
theorem plG (jb:aaf):ic (xn jb)=af:=by
 cases jb with
 |nil=>rfl
 |cons p r=>obtain⟨k,v⟩:=p;cases k<;>rfl
theorem Zc (neg:Bool)(d:aA)(kds:dL):gy neg d (.dict kds)=if ic kds=af then(cC d).bind λk=>aa (.bool (neg != (cM kds k).isSome)) else GY neg d kds:=by cases d<;>rfl
theorem Nr {neg:Bool}(Z:St)(H:Hp)(Q:VK)(h:tF X.K 0 (ai (gy neg) f (eC (.dict (xn jb)))) Z H Q) :
  xu (λx y H Q=>y=.ref a/\∃ k,x=kV k/\Q (.bl (neg != (dH (xo jb) k).isSome)) H) (tF X.K 0 f) (tC (.ref a)) Z H Q:=by
 obtain⟨P,Y,d,hP,rs,ef,k⟩:=h;obtain⟨d1,e1,ef⟩:=ar ef;obtain⟨d2,e2,ef⟩:=ar ef;cases e2;refine⟨P,Y,d1,hP,rs,e1,dY λv H1 x1 r1=>?_⟩
 have ef:((cC d1).bind λk=>aa (jK (neg != (cM (xn jb) k).isSome)))=aa d:=by
  rw[Zc,if_pos (plG jb)] at ef;exact ef
 obtain⟨k0,e3,ef⟩:=ar ef;cases ef;obtain⟨o,h1,h2⟩:=TR jb k0;refine⟨rfl,k0,lX e3 r1,?_⟩;rw[h1] at k;rw[h2];have:(o.map V.int).isSome=(o.map aU).isSome:=by cases o<;>rfl
 rw[this];exact(k.mono x1).zero Ext.refl (Aas.2 rfl)
theorem n8 (g:GD X.prog X.w X.K a (xo jb))(hg:Gl X x)(hm:X.mg x=aa (.ref a))(he:DE X e f)(hb:wJ .NotIn (.Name x px)=ah)(hd:(x==("__debug__" : aD))=ah):DT X (.Compare e [.NotIn] [.Name x px] pos) (br (ai (gy af) f (eC (.dict (xn jb))))):=
 PT.imp (Hj (R9 g) he (Gx (v:=.ref a) hg hm rfl hd) hb) λZ H Q gh=>by
  obtain⟨P,Y,c,hP,rs,ef,k⟩:=gh;obtain⟨d,e1,ef⟩:=ar ef;cases DH ef;exact Nr Z H _ ⟨P,Y,_,hP,rs,e1,dY λv H1 x1 r1=>⟨c,Aas.1 r1,k H1 x1⟩⟩
theorem Qu (g:GD X.prog X.w X.K a (xo jb))(hg:Gl X x)(hm:X.mg x=aa (.ref a))(he:DE X e f)(hs:GS e)(hd:(x==("__debug__" : aD))=ah):DE X (.Subscript (.Name x px) e pos) (ai aq (eC (.dict (xn jb))) f):=by
 rw[6];obtain⟨P,Y,d,hP,rs,ef,k⟩:=h;obtain⟨d2,e2,ef⟩:=ar ef;cases e2;obtain⟨d1,e1,ef⟩:=ar ef;obtain⟨k0,e3,ef⟩:=ar ef;obtain⟨o,h1,h2⟩:=TR jb k0;rw[h1] at ef;obtain⟨i,rfl,rfl⟩:=fG.1 ef;obtain⟨hsy,gg⟩:=g;refine Ew aAf.lookup hs (bj (Gx hg hm (v:=.ref a) rfl hd ad s Z H (λy H'=>y=.ref a/\H'=H) I ⟨rfl,rfl⟩) λu s1 gh=>?_)
 obtain⟨y,H1,I1,ry,e4,e5⟩:=gh;subst e4 e5;obtain rfl:u=eU a:=ry;refine bj (he ad s1 Z H1 _ I1 ⟨P,Y,d1,hP,rs,e1,dY (Q:=λv H2=>∃ x1:Ext H1 H2,v=kV k0) λv H2 x2 r2=>⟨x2,lX e3 r2⟩⟩) λiv s2 gh=>?_
 obtain⟨y,H2,I2,ry,x2,ey⟩:=gh;subst ey;obtain⟨vs,dg,dd⟩:=gg s2.heap I2.kIn;obtain⟨w',hw,ju⟩:=Ayn.some_of (by have:=dg.val k0;rw[h2] at this;exact this)
 exact⟨dd.typeIs,wpAny_getItem_of (nX ry) dd.mapOf hw ⟨.int i,H2,I2.tok _,ju,(k.mono x2).zero Ext.refl (Aaj.2 rfl)⟩⟩
end
def GO (P:bE)(w:aX)(o:aZ)(kvs:li):Prop:=∃ vs es ep,KV kvs vs/\o.ExactDict/\o.data=.dict es ep/\KeysOf (dP P w) es/\Pairs (dP P w) es.toList vs/\(vs.map (·.1)).Nodup
theorem GD.of {P:bE}(hs:(a==fW)=ah)(hl:K.lookup a=aa o)(g:GO P w o kvs):GD P w K a kvs:=⟨hs,λh hk=>by
 obtain⟨vs,es,ep,r,h1,h2,h3,h4,h5⟩:=g;exact⟨vs,r,o,es,ep,hk a o hl,h1,h2,h3,h4,h5⟩⟩
theorem strSelf (x:aD)(t:Tok):OA x (.str x t)=af:=by simp[OA]
theorem Bon {P:bE}(es:List (aD×Int×Tok×Tok))(ep:Nat)(nd:(es.map (·.1)).Nodup):GO P w { cls:=.type "dict",data:=.dict (es.map λe=>⟨PyData.keyHash w.params e.1,.str e.1 e.2.2.1,.int e.2.1 e.2.2.2⟩).toArray ep } (xo (es.map λe=>(.inr e.1,e.2.1))):=by
 refine⟨es.map λe=>(.inr e.1,.int e.2.1 e.2.2.2),_,ep,?_,⟨rfl,rfl,rfl⟩,rfl,?_,?_,?_⟩
 .clear nd;induction es with
  |nil=>exact .nil
  |cons e r ih=>exact .cons ⟨rfl,_,rfl⟩ ih
 .intro e m;have m:e∈es.map λe=>(⟨PyData.keyHash w.params e.1,.str e.1 e.2.2.1,.int e.2.1 e.2.2.2⟩:qH):=by simpa using m
  obtain⟨x,_,rfl⟩:=bG.1 m;exact⟨.inr x.1,strSelf x.1 x.2.2.1,rfl⟩
 .clear nd;induction es with
  |nil=>exact .nil
  |cons e r ih=>exact .cons (strSelf e.1 e.2.2.1) rfl ih
 .rw[dF];have:∀ l:List (aD×Int×Tok×Tok),(l.map (·.1)).Nodup->(l.map ((λkv:aG×aB=>kv.1)∘λe=>((.inr e.1:aG),pZ e.2.1 e.2.2.2))).Nodup:=λl=>by
   induction l with
   |nil=>intro _;simp
   |cons e r ih=>
    intro h;rw[dB,nA] at h ⊢;refine⟨λm=>h.1 ?_,ih h.2⟩
    obtain⟨y,my,q⟩:=bG.1 m;exact bG.2 ⟨y,my,Sum.inr.inj q⟩
  exact this es nd
section
variable {X:Cx}{i:Nat}
theorem Tp{Z:St}{fp:Nat->aan}{mk:Md}{kd:aA}{key:aG}{es:aag}{Q:VK}
  (S:Sta K H0 P0 B0 Y Z H fp) (e2:uV i Y=aa kds) (e3:eV 0 mk g Y=aa kd) (e4:cC kd=aa key) (hl:kds.length<sizeLine) (he:cM (sk kds key) key=aa (.list es))
  (kk:∀ q H1 uj ys p ep xs,Sta K H0 P0 B0 (Y.set i (aa (2,.dict (sk kds key)))) Z H1 uj->Z[i]?=aa (aa (.ref p))->H1 p=aa (.dK ep xs)->dH xs key=aa (.ref q)->H1 q=aa (.lst ys)->Aan K (L2.hid H1 (Hd P0 uj)) es ys->Q (.ref q) H1) :
  tBM K "dict" Gj (BH i) (HP (tE K H0 P0 0 mk g) (HP (tE K H0 P0 1 .s (dC dD)) QW)) Z H Q:=by
 obtain⟨p,ep,xs,Fs,h1,h2,_,_⟩:=S.dic2 (tO e2);refine⟨.ref p,h1,.inr (.inr ⟨rfl,.inl ⟨ep,xs,h2⟩⟩),B0,Y,fp,kd,S,e3,λv1 H2 gh=>?_⟩
 obtain⟨gt,S2,r2⟩:=gh;have ev1:=lX e4 r2.2;subst ev1;refine⟨B0,Y,gt,.list [],S2,rfl,λv2 H3 gh=>?_⟩
 obtain⟨fp3,S3,r3⟩:=gh;cases nj:cM kds key with
 |none=>
  have esd:sk kds key=kds++[(kD key,.list [])]:=by unfold sk;rw[nj]
  obtain⟨p3,vh,sB,q1,q2,q3,q4⟩:=S3.newKey (tO e2) nj r3;have:p3=p:=by rw[h1] at q1;cases q1;rfl
  subst this;obtain⟨p4,ep4,xs4,Fs4,a1,a2,a3,a4⟩:=S3.dic2 (tO e2);have e1:p4=p3:=by rw[q1] at a1;cases a1;rfl
  subst e1;have ex:=a2.symm.trans q2;injection ex with ex;injection ex with _ ex;subst ex;refine⟨p4,vh,xs4,key,v2,rfl,rfl,q2,by rw[q3];exact hl,.inr ⟨KC a4 nj,λn=>?_⟩⟩
  obtain⟨ce,S4⟩:=q4 n;rw[<-esd] at S4;obtain⟨p5,ep5,xs5,q5,ys5,b1,b2,b3,b4,b5,_⟩:=S4.inner (nR (XJ e2)) he;have e5:p5=p4:=by rw[q1] at b1;cases b1;rfl
  subst e5;have N':=b2.symm.trans eF;injection N' with N';injection N' with _ N';have b6:=b3;rw[N',M3,if_pos rfl] at b3;cases b3;exact kk _ _ ce ys5 _ _ _ S4 b1 b2 b6 b4 b5
 |some d=>
  have esd:sk kds key=kds:=by unfold sk;rw[nj]
  rw[esd] at he kk;obtain⟨p3,vh,sB,q,ys,g1,g2,g3,g4,g5,_⟩:=S3.inner (tO e2) he;have:p3=p:=by rw[h1] at g1;cases g1;rfl
  subst this;obtain⟨p4,ep4,xs4,Fs4,a1,a2,a3,a4⟩:=S3.dic2 (tO e2);have e1:p4=p3:=by rw[g1] at a1;cases a1;rfl
  subst e1;have ex:=a2.symm.trans g2;injection ex with ex;injection ex with _ ex;subst ex;refine⟨p4,vh,xs4,key,v2,rfl,rfl,g2,by rw[JN a4];exact hl,.inl ⟨.ref q,g3,?_⟩⟩
  rw[set_same (tO e2)] at kk;exact kk q H3 fp3 ys _ _ _ S3 g1 g2 g3 g4 g5
variable {k:aT}{lp:bJ}
def xQ (i:Nat)(mk:Md)(g:EF)(m:Md)(f:EF):SF:=λY=>(uV i Y).bind λkds=>(eV 0 mk g Y).bind λkd=>(cC kd).bind λkey=>match cM (sk kds key) key with
 |some (.list es)=>(eV 0 m f (Y.set i (aa (2,.dict (sk kds key))))).bind λd=>if gQ d=af/\kds.length<sizeLine/\es.length<sizeLine then aa (.nx (Y.set i (aa (2,.dict (pD (sk kds key) key (.list (es++[d]))))))) else ab
 |_=>ab
theorem M7 (i:Nat)(mk m:Md)(hk:DE X k g)(he:DE X e f)(hi:Nm X i x)
  (q5:Bm X (.Name x p2) k [.List [] lp] "setdefault" ap cp) (dv:bH (.List [] lp::[]) X.env=(ah,bF (.List [] lp) X.env)::bH [] X.env)
  (xf:FI (.Call (.Attribute (.Name x p2) "setdefault" ap) [k,.List [] lp] [] cp) "append" X.env (bF (.Call (.Attribute (.Name x p2) "setdefault" ap) [k,.List [] lp] [] cp) X.env)=bF (.Call (.Attribute (.Name x p2) "setdefault" ap) [k,.List [] lp] [] cp) X.env)
  (Op:((iF ba (bH (e::[]) X.env)).all (λx=>!x.1)&&(backToKw ba (keywordEach [] X.env)).all (λx=>x.1.isSome)&&decide ((e::[]).length+([]:List Keyword).length+(if ([]:List Keyword).isEmpty then 0 else 1)<30))=af)
  (xg:(ay.endLine==ba.line)=af) (hse:bH (e::[]) X.env=(ah,bF e X.env)::bH [] X.env) (uu:(iF ba (bH [] X.env)).any (·.1)=ah)
  (jw:kS (.Call (.Attribute (.Call (.Attribute (.Name x p2) "setdefault" ap) [k,.List [] lp] [] cp) "append" ay) [e] [] ba) ab pos.line X.env=pure ah) :
  DS X H0 P0 n0 (.Expr (.Call (.Attribute (.Call (.Attribute (.Name x p2) "setdefault" ap) [k,.List [] lp] [] cp) "append" ay) [e] [] ba) pos) (xQ i mk g m f):=
 PS.imp (tH (pG AE aAd aAa KM (pG OC Ik aAb An (hi.pe) (gJ (ev mk hk) (gJ (ev .s (TH TU)) iN dv) q5.s) q5) (gJ he iN hse) ⟨xf,Op,xg,hse,uu⟩) jw) λD Z H gh=>by
  obtain⟨B0,Y,fp,o,S,ef,kk⟩:=gh;obtain⟨kds,g1,ef⟩:=ar ef;obtain⟨kd,g2,ef⟩:=ar ef;obtain⟨key,g3,ef⟩:=ar ef;have hi.a:=XJ g1;split at ef
  .rename_i es vo;obtain⟨d,g4,ef⟩:=ar ef;obtain⟨⟨hfd,hl,lz⟩,rfl⟩:=cJ ef;refine Tp S g1 g2 g3 hl vo λq H2 gt ys p ep xs S2 h1 h2 h3 h4 h5=>⟨.inl ⟨rfl,ys,SqL.of h4⟩,BN S2 g4 hfd λv H3 x3 r3=>?_⟩
   obtain⟨p3,vh,sB,q3,ys3,a1,a2,a3,a4,a5,a6⟩:=(S2.grow x3).inner (nR hi.a) vo;have Db:p3=p:=by rw[h1] at a1;cases a1;rfl
   subst Db;have ex:=a2.symm.trans (x3 _ _ h2);injection ex with ex;injection ex with ex1 ex2;subst ex2;have eq':q3=q:=by
    have:=a3.symm.trans h3;injection this with this;injection this
   subst eq';have S4:=a6 _ _ (a5.snoc r3);rw[List.set_set] at S4;exact⟨q3,ys3,v,rfl,rfl,a4,by rw[a5.length];exact lz,kk _ _ gt S4⟩
  .cases ef
end
def sOr (F G:SF):SF:=λY=>(F Y).or (G Y)
theorem Of {X:Cx}{F G:SF}(h1:DS X H0 P0 n0 st F)(h2:DS X H0 P0 n0 st G):DS X H0 P0 n0 st (sOr F G):=λad s Z H D I gh=>by
 rw[5];have ef:(F Y).or (G Y)=aa o:=ef;cases e:F Y with
 |some o'=>rw[e] at ef;cases ef;exact h1 ad s Z H D I ⟨B0,Y,fp,_,S,e,k⟩
 |none=>rw[e] at ef;exact h2 ad s Z H D I ⟨B0,Y,fp,o,S,by simpa using ef,k⟩
def xM (f:EF):EF:=λY=>(f Y).bind λd=>match d with
 |.tuple ds=>aa (.tuple ds)
 |_=>ab
theorem Pt {X:Cx}(h:DE X e f):DF 1 X e (xM f):=PE.imp h λZ H Q gh=>by
 rw[1];obtain⟨d',e1,e2⟩:=ar ef;cases d' with
 |tuple ds=>
  cases e2;refine⟨P,Y,_,hP,rs,e1,λv H' Fr x nd fr r=>?_⟩
  obtain⟨rfl,r⟩:=r;exact k v H' [] x .nil (λa m=>by simp at m) (.inl ⟨rfl,rfl,r⟩)
 |_=>cases e2
def yi:EF:=λ_=>ab
theorem Oh {X:Cx}:DF n X e yi:=PE.imp (t:=λ_ _ _=>False) (λ_ _ _ _ _ _ (h:False)=>nomatch h) λZ H Q ⟨P,Y,d,hP,rs,ef,k⟩=>by cases ef
structure FunD (K:aI)(x qual:aD)(st:eI)(f:aC)(fd:jE):Prop where
 ex:∃ (oc:aB) (od:Option aC) (kV ia pm:aB) (an:Option aC) (ca ct:aB) (oy:Array (Option aB)) (T:aC) (o:aZ) (n:Nat),
  fd=qA x qual (rF st) (jT st) (dX st) (.ref T) kV ia pm an ca ct/\K.lookup f=aa ⟨oc,od,.func fd,oy⟩/\AD K ca qual=af/\K.lookup T=aa o/\o.data=.seq #[.none] n
 kp:uA K (.ref f)=af
section
variable {P:bE}{mg:aD->aap}{base:aP}
theorem FunD.ok {qual:aD}{f:aC}{fd:jE}{N ps:aal}{np:Nat}{body:SF}(F:FunD K x qual st f fd)(S:FnScope N ps (dX st))(zl:np=ps.length)(hN:ps.length<=N.length)
  (hb:∀ (ca:aB) (A:bM) (s:aF) (H:Hp) (P0:aC->Prop),Room k (A.deeper (envOfC qual (dX st) s.heap.objs.size f ca))->jk (pC P w K mg base N qual (dX st) f ca A s H) H P0 n0 (jT st) body) :
  FnOk P w K mg base (k+1) f fd ps (sr K n0 (bw np N.length body)):=by
 obtain⟨oc,od,kV,ia,pm,an,ca,ct,oy,T,o,n,rfl,lk,ly,_⟩:=F.ex;exact UG (λ{sp} len hb=>RW lk ly S len λA s H vs Q hr su=>hb ca A s H vs Q hr su) zl hN hb
theorem FunD.binds {qual:aD}{f:aC}{fd:jE}{ps:aal}{ds:aak}(F:FunD K x qual st f fd)
  (h:∀ (T:aC) (kV ia pm:aB) (an:Option aC) (ca ct:aB) (us:aak),(us++ds).length=ps.length->∃ k:Option (Array aB)->Sem (List (aD×aB)),bindArgs (qA x qual (rF st) (jT st) (dX st) (.ref T) kV ia pm an ca ct) ⟨us,[]⟩=seqItems? (.ref T)>>=k/\k (aa #[.none])=pure (ps.zip (us++ds))):Binds K fd ps ds:=λs us hk hl=>by
 obtain⟨oc,od,kV,ia,pm,an,ca,ct,oy,T,o,n,rfl,lk,ly,lt,sq⟩:=F.ex;obtain⟨k,h1,h2⟩:=h T kV ia pm an ca ct us hl;exact .of_defaults rfl (hk _ _ lt) sq h1 h2
end
structure DefN (P:bE)(w:aX)(K:aI)(mg:aD->Option aB)(base:aP)(x:aD)(k:Nat)(ps:List aD)(sp:Sp):Prop where
 d:Def P w K mg base x k ps sp
 n:∃ f fd,FnOk P w K mg base k f fd ps sp/\mg x=aa (.ref f)/\uA K (.ref f)=af/\Binds K fd ps [.none]
section
variable {X:Cx}{ps:aal}{es:List aT}{p:bJ}{F:aag->aah}
theorem Xu (D:DefN X.prog X.w X.K X.mg X.base x k ps (sr X.K n0 F))(hr:Room k X.A)(hg:Gl X x)(ha:DA X (e::es) fa)(kr:(x==("__debug__" : aD))=ah)(he:bH (e::es) X.env=(ah,bF e X.env)::bH es X.env)
  (dr:(iF pos (bH es X.env)).any (·.1)=ah):DF n0 X (.Call (.Name x p) (e::es) [] pos) (aK (λds=>F (ds++[.none])) fa):=by
 obtain⟨f,fd,G,hm,hk,hb⟩:=D.n;refine PE.imp (UM G hr hg hm hk hb (dvs:=[.non]) (.cons rfl .nil) ha kr he dr) λZ H Q gh=>?_
 rw[1];obtain⟨ds,e1,ef⟩:=ar ef;exact⟨P,Y,ds,hP,rs,e1,λvs H1 x1 r1=>⟨P,ds++[.none],d,hP.ext x1,r1.append (Aac.2 ⟨_,_,rfl,Abl.2 rfl,Aah.2 rfl⟩),ef,k.mono x1⟩⟩
end
theorem t7:rR (.type "zip") "__len__" = pure ab:=by rw[tV,tY];kernel_rfl
theorem D8:rR (.type "zip") "__length_hint__" = pure ab:=by rw[tV,tY];kernel_rfl
def Lz (H:Hp)(xs ys ts:aai):Prop:=∀ (j:Nat) t,ts[j]?=aa t->∃ T x y,t=.ref T/\H T=aa (.tup [x,y])/\xs[j]?=aa x/\ys[j]?=aa y
section
variable {X:Cx}{Z:St}
variable {TI TO:aC}{vs:Array aB}
theorem Xs (hh:A.handled=ab)(bd:ZApart z TI TO i1 i2 o1 o2)(U:Sub X.prog X.w i1 o1 S1 us)(W:Sub X.prog X.w i2 o2 S2 vs)(D:aC)(nz:D≠z)(nI:D≠TI)(nO:D≠TO)(n1:D∉o1)(n2:D∉o2)(n:Nat)(hn:n<=sizeLine)(res:aB)
  (gm:us[n]?=ab\/vs[n]?=ab) {xs ys:aai} (hx:∀ j<n,∃ x y u v,xs[j]?=aa x/\ys[j]?=aa y/\us[j]?=aa u/\vs[j]?=aa v/\RelV x u/\RelV y v) :
  ∀ (k i:Nat) (s:aF) (H:Hp) (ak:aak) (c:Nat) (ts:aai),n-i=k->i<=n->Bfg D z TI TO i1 i2 S1 S2 i s.heap->s.heap.get? D=aa { cls:=.type "list",data:=.seq ak.toArray c }->H D=aa (.lst ts) ->
   Inv X ad Z H s->(∀ b∈[z,TO,i1,i2],iI X ad H b)->TO<s.heap.objs.size->Vals ts ak->ts.length=i->Lz H xs ys ts ->
   (∀ s' H' Ps,Inv X ad Z H' s'->(∀ b o,b≠D->H b=aa o->H' b=aa o)->H' D=aa (.lst Ps)->Ps.length=n->Lz H' xs ys Ps->R (.ok (.ret res)) s') ->
   jJ (aO X.prog X.w) A (.builtin "list.extend.loop" ⟨[.ref D,.ref z,res],[]⟩) R s:=by
 have e1:D≠i1:=λe=>n1 (e ▸ U.mem)
 have e2:D≠i2:=λe=>n2 (e ▸ W.mem)
 intro k;induction k with
 |zero=>
  intro i s H ak c ts hk hi du hS hD I hf hTO hv hl hz hR;obtain rfl:i=n:=()
  refine iE F.entry_extend_loop ?_;show aJ _ A.in1 (jW (.ref z)>>=_) _ _ s;refine aE (ZD (by simp[hh]) bd U W du gm λh' kp=>aH (hR _ H ts (I.turnM (t':=s.toks) hf λb o nb g=>?_) (λ_ _ _ e=>e) hD hl hz))
  simp only[cI,mF,or_false,not_or] at nb;exact kp b o nb.1 nb.2.1 nb.2.2.1 nb.2.2.2 g
 |succ k ih=>
  intro i s H ak c ts hk hi du hS hD I hf hTO hv hl hz hR;have bu:i<n:=()
  obtain⟨x,y,u,v,hx1,hx2,hu,vg,rx,ry⟩:=hx i bu;have lD:D<s.heap.objs.size:=bN hS;refine iE F.entry_extend_loop (aE (YW bd U W du hu vg lD λh' T gw pr hT1 df=>?_))
  subst hT1;have I0:Inv X ad Z (ax H s.heap.objs.size (.tup [x,y])) { s with heap:=s.heap.push { cls:=.type "tuple",data:=.seq #[u,v] },toks:=s.toks }:=
   I.laid (t':=s.toks) (o:=.tup [x,y]) (λb ob q=>bC _ q) (bA _) ⟨by show 2<=sizeLine;decide,[u,v],.cons rx (.cons ry .nil),A8a.new _ _⟩
  have nT:∀ b,H b≠ab->b≠s.heap.objs.size:=λb h e=>h (e ▸ I.hok.fresh (bA _))
  have jy:∀ b∈[z,TO,i1,i2],b<s.heap.objs.size:=λb m=>by
   have a1:∀ {c:aC},(∃ o,s.heap.get? c=aa o)->c<s.heap.objs.size:=λ⟨_,e⟩=>bN e
   simp only[cI,mF,or_false] at m;rcases du with⟨g1,g2,⟨a,b',g3⟩,g4,g5⟩|⟨⟨T,c',g1,_⟩,g2,g4,g5⟩
   .rcases m with rfl|rfl|rfl|rfl
    .exact a1 ⟨_,g1⟩
    .exact a1 ⟨_,g3⟩
    .exact a1 (U.obj _ _ g4 _ U.mem)
    .exact a1 (W.obj _ _ g5 _ W.mem)
   .rcases m with rfl|rfl|rfl|rfl
    .exact a1 ⟨_,g1⟩
    .exact hTO
    .exact a1 (U.obj _ _ g4 _ U.mem)
    .exact a1 (W.obj _ _ g5 _ W.mem)
  have hf1:∀ b∈[z,TO,i1,i2],iI X ad (ax H s.heap.objs.size (.tup [x,y])) b:=λb m=>⟨by rw[cN (cP (jy b m))];exact(hf b m).1,(hf b m).2⟩
  have gD:h'.get? D=aa { cls:=.type "list",data:=.seq ak.toArray c }:=df D _ nz nO e1 e2 hS;have hD1:ax H s.heap.objs.size (.tup [x,y]) D=aa (.lst ts):=by rw[cN (nT D (by rw[hD];simp))];exact hD
  have IN:Vals (ts++[.ref s.heap.objs.size]) (ak++[.ref s.heap.objs.size]):=hv.append (.cons (show RelV (.ref s.heap.objs.size) (.ref s.heap.objs.size) from rfl) .nil)
  show aJ _ A.in1 (wG D (·.push (.ref s.heap.objs.size))>>=_) _ _ _;refine aE (rO gD rfl (aH ⟨jX PX _,?_⟩) (by simp[<-hv.length,hl];lia) (by simp[<-hv.length,hl];lia))
  refine ih (i+1) _ _ (ak++[.ref s.heap.objs.size]) (if ((ak++[eU s.heap.objs.size]).toArray.size==ak.toArray.size)=af then c else c+1) (ts++[.ref s.heap.objs.size]) () bu (.inr (Bfg.keep U W nz nI n1 n2 gw λb o nb g=>(oY _ _ (fZ nb)).trans g)) ?_ (eF ..) ((I0.turnM (t':=s.toks) hf1 λb o nb g=>by
   simp only[cI,mF,or_false,not_or] at nb;by_cases hb:b=s.heap.objs.size
   .subst hb;rw[show(s.heap.push { cls:=.type "tuple",data:=.seq #[u,v] }).get? s.heap.objs.size=aa { cls:=.type "tuple",data:=.seq #[u,v] } from cH _ rfl] at g
    cases g;exact pr
   .exact df b o nb.1 nb.2.1 nb.2.2.1 nb.2.2.2 ((GA _ _ _ hb).symm.trans g)).lset (t':=s.toks) (its':=ak++[.ref s.heap.objs.size]) (f:=(·.push (.ref s.heap.objs.size))) hD1 gD (by simp) IN (by rw[jN,hl];simp;lia)) ?_ ?_ IN (by simp[hl]) ?_ ?_
  .have q:=PySem.IsL.update (h:=h') gD (·.push (.ref s.heap.objs.size));simp only[List.push_toArray] at q;exact q
  .intro b m;have h1:=hf1 b m;refine⟨?_,h1.2⟩;have nb:b≠D:=λe=>by have h1:=h1.1;rw[e,hD1] at h1;exact absurd h1 (by simp)
   rw[cN nb];exact h1.1
  .exact FQ hTO (by show s.heap.objs.size<(Heap.update _ _ _).objs.size;rw[Heap.size_update];exact bN pr)
  .intro j t e;by_cases hj:j<ts.length
   .rw[FX hj] at e;obtain⟨T,x',y',e1,e2,e3⟩:=hz j t e;exact⟨T,x',y',e1,by rw[cN ((λe z=>by rw[z,hD] at e;cases e) e2),cN (nT T (by rw[e2];simp))];exact e2,e3⟩
   .rw[Jg ()] at e
    obtain⟨h0,e⟩:=cE.1 e;have h0:j-ts.length<1:=h0;obtain rfl:j=i:=()
    refine⟨s.heap.objs.size,x,y,?_,?_,hx1,hx2⟩
    .rw[<-e];simp[hl]
    .rw[cN (jL lD),eF]
  .intro s' H' Ps J k1 k2 k3 k4;refine hR s' H' Ps J (λb o nb e=>k1 b o nb ?_) k2 k3 k4
   rw[cN nb,cN (nT b (by rw[e];simp))]
   exact e
theorem i5 {fs:Array aB}{Q:Bool->aF->Prop}(hx:s.heap.get? z=aa { cls:=.type "zip",dict:=ab,data:=.fields fs,slots:=#[] })(q:Q af s):aJ (aO X.prog X.w) A (Ka (.ref z)) Q E s:=by
 have ty:s.TypeIs (.ref z) "zip":=⟨_,hx,rfl⟩;exact aE (rP ty t7 (aE (rP ty D8 (aH q))))
end
section
variable {X:Cx}{a b:aT}{p:bJ}
def tLz (K:aI)(ta:TA):TE:=λZ H Q=>ta Z H λvs H1=>∃ a1 a2 b1 b2 xs ys,vs=[.ref a1,.ref a2]/\ip b1 K H1 a1 xs/\ip b2 K H1 a2 ys/\xs.length<=sizeLine/\∀ D H2 ts,H1 D=ab->Ext H1 H2->H2 D=aa (.lst ts)->ts.length=min xs.length ys.length->Lz H2 xs ys ts->Q (.ref D) H2
theorem d4(g1:Gl X "list")(m1:X.mg "list" = ab)(g2:Gl X "zip")(m2:X.mg "zip" = ab)(ha:PA X [a,b] ta)
  (io:bH [jF (.Name "zip" p2) [a,b] [] cc] X.env=[(ah,bF (jF (.Name "zip" p2) [a,b] [] cc) X.env)]:=by rfl) (dv:bH [a,b] X.env=[(ah,bF a X.env),(ah,bF b X.env)]:=by rfl) (ut:bH [b] X.env=[(ah,bF b X.env)]:=by rfl) :
  PE X (.Call (.Name "list" p) [.Call (.Name "zip" p2) [a,b] [] cc] [] pos) (tLz X.K ta):=by
 rw[6];refine Call_ (lH I g1 m1 OD (oV ?_ io rfl));refine GE (Call_ (lH I g2 m2 boot_zip (oV (bj (ha cc ad s Z H _ I h) λus s1 ⟨vs,H1,I1,r1,q1⟩=>?_) (by rw[dv,ut]) (by rw[ut];rfl))))
 obtain⟨a1,a2,b1,b2,xs,ys,rfl,k1,k2,hz,q⟩:=q1;cases r1 with
 |cons r rr=>
  cases rr with
  |cons r' rr=>
   cases rr;cases r;cases r';obtain⟨u1,v1,w1⟩:=I1.sqB k1;obtain⟨u2,v2,w2⟩:=I1.sqB k2;have mm:∀ {b:Bool} {l:aC} {us:Array aB},SqB b s1.heap l us->l<s1.heap.objs.size:=λ{b l us} w=>by
    cases b with
    |true=>obtain⟨o,e,_⟩:=w;exact bN e
    |false=>obtain⟨o,e,_⟩:=w;exact bN e
   refine IY w1 w2 λz TI TO i1 i2 h' y0 y1 y2 y3 y4 bd pc all=>QC (NZ (Q₁:=λobj s₁=>obj=.ref h'.objs.size/\s₁={ s1 with heap:=h'.push { cls:=.type "list",data:=.seq #[] } }) F.called_list (F.typeCall_list_1 _) F.entry_list_init (code_list_new _ ⟨rfl,rfl⟩) λobj s₁ h₁=>?_)
   obtain⟨rfl,rfl⟩:=h₁;have gS:(h'.push { cls:=.type "list",data:=.seq #[] }).get? h'.objs.size=aa { cls:=.type "list",data:=.seq #[] }:=cH _ rfl;refine⟨⟨_,gS,rfl⟩,F.args_list_init_2 _ _,?_⟩;have U:Sub X.prog X.w i1 [i1,a1] (StB b1 i1 a1 u1.toArray) u1.toArray:=nZ b1 i1 a1 u1.toArray (λe=>nQ _ (jC (mm w1) (e ▸ y3)))
   have V:Sub X.prog X.w i2 [i2,a2] (StB b2 i2 a2 u2.toArray) u2.toArray:=nZ b2 i2 a2 u2.toArray (λe=>nQ _ (jC (mm w2) (e ▸ y4)))
   have le:s1.heap.objs.size<=h'.objs.size:=cQ y0 (mE (bN pc.1));obtain⟨g1,g2,⟨ga,gb,g3⟩,g4,g5⟩:=id pc;have cz:∀ {c:aC},(∃ o,h'.get? c=aa o)->h'.objs.size≠c:=λ⟨_,e⟩=>jL (bN e)
   refine aE (aE (iC gS rfl (aH (aE (rO gS rfl (aE (FD ?_)))))));have gS2:=nU (eK (λ_=>(#[]:Array aB))) gS rfl
   have df:∀ b o,h'.get? b=aa o->((h'.push { cls:=.type "list",data:=.seq #[] }).update h'.objs.size (eK (λ_=>(#[]:Array aB)))).get? b=aa o:=
    λb o e=>(oY _ _ (jL (bN e))).trans (bC _ e)
   generalize hg:(h'.push { cls:=.type "list",data:=.seq #[] }).update h'.objs.size (eK (λ_=>(#[]:Array aB)))=h2 at gS2 df
   have jt:pj z TI TO i1 i2 (StB b1 i1 a1 u1.toArray) (StB b2 i2 a2 u2.toArray) .none 0 h2:=⟨df _ _ g1,df _ _ g2,⟨ga,gb,df _ _ g3⟩,U.keep _ _ _ g4 λc _ o g=>df _ _ g,V.keep _ _ _ g5 λc _ o g=>df _ _ g⟩
   have z2:=jt.1;unfold QG;refine aE (jV ⟨_,z2,rfl⟩ ?_);have x1:xE (.ref h'.objs.size) (.ref z)=ah:=by simp[xE,cz ⟨_,g1⟩]
   have x2:(iG "zip" == iG "list")=ah:=by decide
   have x3:(iG "zip" == iG "tuple")=ah:=by decide
   simp only[x1,x2,x3,Kc,rY,if_false];refine aE (NJ z2 (aE (eG (i5 z2 ?_))));show aJ _ _ (rule "list.extend.makes-room" >>= λ_=>Builtin.List.listTouch (.ref h'.objs.size)>>=λ_=>again (.builtin "list.extend.loop" ⟨[.ref h'.objs.size,.ref z,_],[]⟩)) _ _ _
   refine aE (mW (aE ?_));show aJ _ _ (wG h'.objs.size (·.push .none)>>=λ_=>wG h'.objs.size (·.pop)) _ _ _
   refine aE (rO gS2 rfl ?_);have gS3:=nU (eK (·.push eP)) gS2 rfl;refine rO gS3 rfl ?_;have gS4:=nU (eK (·.pop)) gS3 rfl;have lg:∀ b o,h'.get? b=aa o->((h2.update h'.objs.size (eK (·.push eP))).update h'.objs.size (eK (·.pop))).get? b=aa o:=
    λb o e=>(oY _ _ (cz ⟨_,e⟩)).trans ((oY _ _ (cz ⟨_,e⟩)).trans (df b o e))
   generalize(h2.update h'.objs.size (eK (·.push eP))).update h'.objs.size (eK (·.pop))=h4 at gS4 lg;have st4:pj z TI TO i1 i2 (StB b1 i1 a1 u1.toArray) (StB b2 i2 a2 u2.toArray) .none 0 h4:=⟨lg _ _ g1,lg _ _ g2,⟨ga,gb,lg _ _ g3⟩,U.keep _ _ _ g4 λc _ o g=>lg _ _ g,V.keep _ _ _ g5 λc _ o g=>lg _ _ g⟩
   have fD:H1 h'.objs.size=ab:=I1.hok.fresh le;obtain⟨ta,tb,g3'⟩:=st4.2.2.1;refine aH ⟨jX PX _,Xs (by simp[I1.ok.hd]) bd U V h'.objs.size (cz ⟨_,g1⟩) (cz ⟨_,g2⟩) (cz ⟨_,g3⟩) (λe=>cz ((U.obj _ _ g4) _ e) rfl) (λe=>cz ((V.obj _ _ g5) _ e) rfl) (min xs.length ys.length) () _ ?_ (xs:=xs) (ys:=ys) ?_ (min xs.length ys.length-0) 0 _ _ [] _ [] rfl (cZ _) (.inl st4) gS4 (eF ..) (I1.laid (t':=s1.toks) (o:=.lst []) (λb ob e=>lg _ _ (all b ob e)) le ⟨cZ _,[],_,.nil,gS4⟩) (λc m=>by
    have ex:s1.heap.objs.size<=c/\h'.objs.size≠c:=by
     simp only[cI,mF,or_false] at m;rcases m with rfl|rfl|rfl|rfl
     .exact⟨y0,cz ⟨_,g1⟩⟩
     .exact⟨y2,cz ⟨_,g3⟩⟩
     .exact⟨y3,cz (U.obj _ _ g4 _ U.mem)⟩
     .exact⟨y4,cz (V.obj _ _ g5 _ V.mem)⟩
    exact I1.fpOk ex.1 (by rw[cN (fZ ex.2)];exact I1.hok.fresh ex.1)) (bN g3') .nil rfl (λj t e=>by simp at e) λs' H' ts J kp hD lt hz=>?_⟩
   .rcases Nat.le_total xs.length ys.length with hle|hle
    .exact .inl (by simp[AI hle,<-v1.length])
    .exact .inr (by simp[Nat.min_eq_right hle,<-v2.length])
   .intro j hj;obtain⟨u,e1,r1⟩:=v1.get (eE (show j<xs.length by lia))
    obtain⟨v,e2,r2⟩:=v2.get (eE (show j<ys.length by lia))
    exact⟨_,_,u,v,eE (),eE (),by simpa using e1,by simpa using e2,r1,r2⟩
   .exact⟨rfl,.ref h'.objs.size,H',J,rfl,q _ H' ts fD (λb o e=>kp b o (λz=>by rw[z,fD] at e;cases e) (by rw[cN (λz=>by rw[z,fD] at e;cases e)];exact e)) hD lt hz⟩
def CA:aag->aah
 |[x,y]=>(lM x).bind λxs=>(lM y).bind λys=>if xs.length<=sizeLine then aa (.list ((xs.zip ys).map λp=>.tuple [p.1,p.2])) else ab
 |_=>ab
theorem Fl{B:Hp}:∀ {ds es:aag} {xs ys ts:aai},Aan K B ds xs->Aan K B es ys->ts.length=min xs.length ys.length->(∀ T x y,H T=aa (.tup [x,y])->B T=aa (.tup [x,y]))->Lz H xs ys ts->Aan K B ((ds.zip es).map λp=>.tuple [p.1,p.2]) ts
 |[],es,xs,ys,ts,r,q,hl,_,_=>by
  rw[Aah.1 r] at hl;obtain rfl:ts=[]:=by simpa using hl
  exact Aah.2 rfl
 |d::ds,[],xs,ys,ts,r,q,hl,_,_=>by
  rw[Aah.1 q] at hl;obtain rfl:ts=[]:=by simpa using hl
  exact Aah.2 rfl
 |d::ds,e::es,xs,ys,ts,r,q,hl,hB,hz=>by
  obtain⟨x,xr,rfl,r1,r2⟩:=Aac.1 r;obtain⟨y,yr,rfl,q1,q2⟩:=Aac.1 q;cases ts with
  |nil=>simp at hl
  |cons t tr=>
   obtain⟨T,x',y',rfl,hT,e1,e2⟩:=hz 0 t rfl;cases e1;cases e2;exact Aac.2 ⟨_,_,rfl,Aal.2 ⟨T,_,rfl,hB _ _ _ hT,Aac.2 ⟨_,_,rfl,r1,Aac.2 ⟨_,_,rfl,q1,Aah.2 rfl⟩⟩⟩,Fl r2 q2 (by simp at hl;lia) hB λj t e=>hz (j+1) t (by simpa using e)⟩
theorem f7(g1:Gl X "list")(m1:X.mg "list" = ab)(g2:Gl X "zip")(m2:X.mg "zip" = ab)(ha:DA X [a,b] fa)
  (io:bH [jF (.Name "zip" p2) [a,b] [] cc] X.env=[(ah,bF (jF (.Name "zip" p2) [a,b] [] cc) X.env)]) (dv:bH [a,b] X.env=[(ah,bF a X.env),(ah,bF b X.env)]) (ut:bH [b] X.env=[(ah,bF b X.env)]) :
  DE X (.Call (.Name "list" p) [.Call (.Name "zip" p2) [a,b] [] cc] [] pos) (aK CA fa):=PE.imp (d4 g1 m1 g2 m2 ha io dv ut) λZ H Q gh=>by
 rw[1];obtain⟨as,e1,cg⟩:=ar ef;unfold CA at cg;split at cg
 .obtain⟨xs,e2,ck⟩:=ar cg;obtain⟨ys,e3,fy⟩:=ar ck;obtain⟨hz,rfl⟩:=cJ fy;refine⟨P,Y,_,hP,rs,e1,λvs H1 x1 r1=>?_⟩
  obtain⟨v,t,rfl,q1,q2⟩:=Aac.1 r1;obtain⟨v',rfl,q3⟩:=fC q2;obtain⟨a1,b1,us,rfl,k1,w1⟩:=tU e2 q1;obtain⟨a2,b2,zn,rfl,k2,w2⟩:=tU e3 q3;refine⟨a1,a2,b1,b2,us,zn,rfl,k1 _ Aam,k2 _ Aam,by rw[w1.length];exact hz,λD H2 ts hD x2 hD2 hl hzz=>(k.mono x1).zero x2 (Aav.2 ⟨D,ts,rfl,SqL.of (hZ ((hP.ext x1).new hD) hD2),Fl (w1.ext (cS x2)) (w2.ext (cS x2)) hl (λT x y e=>((hP.ext x1).ext x2).tup e) hzz⟩)⟩
 .cases cg
end
def mO:aaj->Int
 |[]=>0
 |[i]=>i
 |i::j::r=>max i (mO (j::r))
theorem HZ:∀ {is:aaj} {i:Int},i∈is->i<=mO is
 |[a],i,m=>by rw[cG.1 m];exact Int.le_refl _
 |a::b::r,i,m=>by
  show i<=max a (mO (b::r));rcases cI.1 m with rfl|m
  .omega
  .have:=HZ m;omega
theorem UU:∀ {is:aaj},is≠[]->mO is∈is
 |[a],_=>cG.2 rfl
 |a::b::r,_=>by
  show max a (mO (b::r))∈a::b::r;rcases Int.le_total a (mO (b::r)) with q|q
  .rw[Int.max_eq_right q];exact bI _ (UU (is:=b::r) (by simp))
  .rw[Int.max_eq_left q];exact bD
section
variable {P:bE}
theorem Xh(hh:A.handled=ab)(hl:s.heap.IsList l vs.toArray)(hi:oX vs is)(dw:is≠[])
  (h:∀ t h' tk,(∀ b o,s.heap.get? b=aa o->h'.get? b=aa o)->Q (.int (mO is) t) { s with heap:=h',toks:=tk }) :
  aJ (aO P w) A (call (.builtin "max") [.ref l]) Q E s:=by
 have bu:l<s.heap.objs.size:=by obtain⟨_,e,_⟩:=hl;exact bN e
 have aw:=hi.length;have wz:∀ (i:Nat) v,vs.toArray[i]?=aa v->∃ t,v=.int (is.getD i 0) t:=λi v e=>by
  have e':vs[i]?=aa v:=by simpa using e
  clear h hl dw aw e;induction hi generalizing i with
  |nil=>simp at e'
  |cons n t r ih=>
   cases i with
   |zero=>exact⟨t,by simpa using e'.symm⟩
   |succ i=>
    obtain⟨t',et⟩:=ih i (by simpa using e')
    exact⟨t',by simpa using et⟩
 have hpos:=List.length_pos_iff.2 dw;refine call_max_walk (zV hl (⟨_,_,_,_,_,_,_,rfl,Walks.list (A:=A.in1) hh s.heap.objs.size l (cP bu) vs.toArray,⟨⟨_,cH _ rfl,rfl,rfl⟩,?_⟩,λb hb=>?_,by rw[dA];omega,CmpOf.ints_gt (λi=>is.getD i 0) wz,λv h' tk hP hk=>?_⟩))
 .obtain⟨o,e,r⟩:=hl;exact⟨o,bC _ e,r⟩
 .rw[mK];rcases cI.1 hb with rfl|hb
  .exact FR _
  .rw[cG.1 hb];exact FS bu
 .obtain⟨b1,b2⟩:=argBest_gt (λi=>is.getD i 0) (vs.toArray.size-1)
  obtain⟨t,rfl⟩:=wz _ _ hP;generalize argBest (λi j=>decide (is.getD i 0 > is.getD j 0)) (vs.toArray.size-1)=m at b1 b2 hP
  rw[dA] at b1 b2;have em:is.getD m 0=mO is:=by
   have hm:m<is.length:=by omega
   have g:∀ {j:Nat} (hj:j<is.length),is.getD j 0=is[j]:=λhj=>by rw[mI,eE hj];rfl
   refine Int.le_antisymm (HZ (by rw[g hm];exact nB hm)) ?_
   obtain⟨j,hj,ej⟩:=uF (UU dw);rw[<-ej,<-g hj];exact b2 j (by omega)
  rw[em];refine h t h' tk λb o e=>hk b o (λhm=>?_) (bC _ e)
  rw[cG.1 hm] at e;exact absurd (bN e) (nQ _)
end
section
variable {X:Cx}
theorem W0:Ack X (.builtin "max") (λxs H Q=>∃ p,∃ is:aaj,xs=[.ref p]/\SqL X.K H p (is.map V.int)/\is≠[]/\Q (.int (mO is)) H):=by
 rw[3];obtain⟨p,is,rfl,hp,dw,q⟩:=h;rw[4];obtain⟨its,rv,pl,_⟩:=I.list hp;exact Xh I.ok.hd pl.isList (HK rv) dw λt h' tk hk=>⟨.int (mO is),H,I.kept λb o e=>hk b o e,⟨t,rfl⟩,q⟩
def BM:aag->aah
 |[.list ds]=>(kC ds).bind λis=>if is≠[] then aa (.int (mO is)) else ab
 |_=>ab
theorem q9:CallD K 0 (λxs H Q=>∃ p,∃ is:aaj,xs=[.ref p]/\SqL K H p (is.map V.int)/\is≠[]/\Q (.int (mO is)) H) BM:=λP H xs ds d Q hP r e k=>by
 unfold BM at e;split at e
 .obtain⟨is,e1,e2⟩:=ar e;obtain⟨hl,rfl⟩:=cJ e2;obtain rfl:=CU e1;rw[7];obtain⟨q,ys,rfl,hq,rr⟩:=Aav.1 r';obtain rfl:=ER rr;exact⟨q,is,rfl,Aam.sqL hq,hl,k.zero Ext.refl (Aaj.2 rfl)⟩
 .cases e
end
theorem Ux {P:bE}(hh:A.handled=ab)(hl:s.heap.IsList l vs.toArray)(hi:oX vs is)
  (h:∀ t h' tk,(∀ b o,s.heap.get? b=aa o->h'.get? b=aa o)->Q (.int is.sum t) { s with heap:=h',toks:=tk }):aJ (aO P w) A (call (.builtin "sum") [.ref l]) Q E s:=by
 obtain⟨xs,e⟩:=hi.allInts.items;have e2:is=numsOf (intItems xs).toList:=by
  rw[<-e];exact hi.numsOf.symm
 rw[e] at hl;refine sum_intListG hh hl λh' tk t' hk=>?_
 have:=h t' h' tk hk;rw[e2,nums_intItems] at this;rw[preSum_eq,List.take_of_length_le (by simp)]
 exact this
theorem X1:mX "sum" = aa (.builtin "sum"):=by kernel_rfl
section
variable {X:Cx}
theorem S8:Ack X (.builtin "sum") (λxs H Q=>∃ p,∃ is:aaj,xs=[.ref p]/\SqL X.K H p (is.map V.int)/\Q (.int is.sum) H):=by
 rw[3];obtain⟨p,is,rfl,hp,q⟩:=h;rw[4];obtain⟨its,rv,pl,_⟩:=I.list hp;exact Ux I.ok.hd pl.isList (HK rv) λt h' tk hk=>⟨.int is.sum,H,I.kept λb o e=>hk b o e,⟨t,rfl⟩,q⟩
def zO:aag->aah
 |[.list ds]=>(kC ds).bind λis=>aa (.int is.sum)
 |_=>ab
theorem y6:CallD K 0 (λxs H Q=>∃ p,∃ is:aaj,xs=[.ref p]/\SqL K H p (is.map V.int)/\Q (.int is.sum) H) zO:=λP H xs ds d Q hP r e k=>by
 unfold zO at e;split at e
 .obtain⟨is,e1,e2⟩:=ar e;cases e2;obtain rfl:=CU e1;rw[7];obtain⟨q,ys,rfl,hq,rr⟩:=Aav.1 r';obtain rfl:=ER rr;exact⟨q,is,rfl,Aam.sqL hq,k.zero Ext.refl (Aaj.2 rfl)⟩
 .cases e
end
section
variable {X:Cx}
theorem YC (a b:Int):GF a b (-1)=if a > b then a-b else 0:=by
 unfold GF;rw[if_neg nofun]
 split
 .lia
 .rfl
theorem small_down {a b:Int}(ha : -(2^62)<=a)(Rs:a<2^62)(hb : -(2^62)<=b)(vt:b<2^62):Builtin.Range.small a b (-1)=af:=by
 unfold Builtin.Range.small;rw[YC];simp only[Builtin.Range.rangeFitsLong,AZ,Bool.or_eq_true,decide_eq_true_eq,beq_iff_eq,show ¬ ((-1:Int) > 0) by decide,if_false]
 split<;>lia
def Ny (ta:TA):TI:=λZ H R=>ta Z H λvs H1=>∃ i j:Int,vs=[.int i,.int j,.int (-1)]/\(-(2^62)<=i/\i<2^62 /\ -(2^62)<=j/\j<2^62)/\R (uN i (i-j).toNat (-1)) H1
theorem U9 {a b:aT}{p:bJ}(hg:Gl X "range")(hm:X.mg "range" = ab)(ha:PA X [a,b,c] ta)(hs:bH [a,b,c] X.env=(ah,bF a X.env)::bH [b,c] X.env:=by rfl)(dr:(iF pos (bH [b,c] X.env)).any (·.1)=ah:=by rfl) :
  PI X tg (.Call (.Name "range" p) [a,b,c] [] pos) (Ny ta):=by
 intro ad s Z H R I h;refine Call_ (lH I hg hm boot_range (oV (bj (ha pos ad s Z H _ I h) λus s1 ⟨vs,H1,I1,r1,q1⟩=>?_) hs dr))
 obtain⟨i,j,e,⟨q1,q2,q3,q4⟩,q⟩:=q1;subst e;cases r1 with
 |cons r rr=>
  cases rr with
  |cons r' rr=>
   cases rr with
   |cons r2 rr=>
    cases rr;obtain⟨t,rfl⟩:=r;obtain⟨t',rfl⟩:=r';obtain⟨t2,rfl⟩:=r2;refine call_range_3 nofun (wpAny_pyIter_range (IsRange.new ..) (small_down q1 q2 q3 q4) ?_)
    have I2:Inv X ad Z H1 { s1 with heap:=s1.heap.push { cls:=.type "range",data:=.fields #[.int i t,.int j t',.int (-1) t2] },toks:=s1.toks }:=I1.kept λb o e=>bC _ e
    refine⟨(s1.heap.push { cls:=.type "range",data:=.fields #[.int i t,.int j t',.int (-1) t2] }).objs.size,[(s1.heap.push { cls:=.type "range",data:=.fields #[.int i t,.int j t',.int (-1) t2] }).objs.size],_,_,H1,rfl,
     I2.kept (t':=s1.toks) λb o e=>bC _ e,Bd _ i (i-j).toNat (-1),?_,λb hb=>?_,q⟩
    .have e1:i+((0:Nat):Int)*(-1)=i:=by simp
     have e2:(((i-j).toNat:Nat):Int)-((0:Nat):Int)=GF i j (-1):=by rw[YC];split<;>lia
     rw[e1,e2];exact cH _ rfl
    .have e:b=(s1.heap.push { cls:=.type "range",data:=.fields #[.int i t,.int j t',.int (-1) t2] }).objs.size:=by simpa using hb
     subst e;exact I2.fpOk (bA _) (I2.hok.fresh (bA _))
def iR3 (fa:AF):AF:=λY=>(fa Y).bind λds=>match ds with
 |[.int i,.int j,.int k]=>if (-(2^62)<=i/\i<2^62 /\ -(2^62)<=j/\j<2^62)/\k = -1 then aa ((bZ (i-j).toNat).map λ(k:Nat)=>aU (i-k)) else ab
 |_=>ab
theorem W8 {a b:aT}{p:bJ}(hg:Gl X "range")(hm:X.mg "range" = ab)(ha:DA X [a,b,c] fa)(hs:bH [a,b,c] X.env=(ah,bF a X.env)::bH [b,c] X.env)(dr:(iF pos (bH [b,c] X.env)).any (·.1)=ah):yc X tg (.Call (.Name "range" p) [a,b,c] [] pos) (iR3 fa):=PI.imp (U9 hg hm ha hs dr) λZ H R gh=>by
 obtain⟨P,Y,ds,hP,rs,ef,k⟩:=gh;obtain⟨as,e1,ef⟩:=ar ef;refine⟨P,Y,as,hP,rs,e1,λvs H1 x1 r1=>?_⟩
 split at ef
 .rename_i i j k';obtain⟨⟨hb,rfl⟩,rfl⟩:=cJ ef;obtain⟨v,t,rfl,h1,h2⟩:=Aac.1 r1;obtain⟨v2,t2,rfl,h3,h4⟩:=Aac.1 h2;obtain⟨v3,t3,rfl,h5,h6⟩:=Aac.1 h4;obtain rfl:=Aah.1 h6;obtain rfl:=Aaj.1 h1;obtain rfl:=Aaj.1 h3;obtain rfl:=Aaj.1 h5;exact⟨i,j,rfl,hb,k _ H1 x1 (by simpa [Int.sub_eq_add_neg] using KF (d:=-1))⟩
 .cases ef
end
end L2
namespace Aw
open PySem L2
def dx (i:Nat):eI:=PySem.Challenge.pw_askwithin_k57_what_stays.main.body.getD i (.Pass ⟨0,0,0,0⟩)
structure Blt (p:aD->Prop):Prop where
 «isinstance» : p "isinstance"
 «int» : p "int"
 «bool» : p "bool"
 «abs» : p "abs"
 «range» : p "range"
 «len» : p "len"
 «str» : p "str"
 «all» : p "all"
 «any» : p "any"
 «list» : p "list"
 «tuple» : p "tuple"
 «dict» : p "dict"
 «set» : p "set"
 «sorted» : p "sorted"
 «sum» : p "sum"
 «min» : p "min"
 «max» : p "max"
 «enumerate» : p "enumerate"
 «zip» : p "zip"
 «reversed» : p "reversed"
 «ValueError» : p "ValueError"
abbrev Zs:aaf:=[(.inr "clash",5),(.inr "same",5),(.inr "put",3)]
abbrev ao:EF:=bR 0
abbrev au:EF:=bR 1
abbrev az:EF:=bR 2
abbrev bg:EF:=bR 3
abbrev bz:EF:=bR 4
abbrev gq:EF:=bR 5
abbrev ik:EF:=bR 6
abbrev kj:EF:=bR 7
abbrev va:EF:=bR 8
abbrev vr9:EF:=bR 9
abbrev GX:EF:=bR 10
abbrev xK:EF:=bR 11
abbrev kc (i:Int):EF:=eC (.int i)
abbrev bq:EF:=kc 0
abbrev bf:EF:=kc 1
abbrev aj (f:EF):AF:=aM f dD
abbrev bc (i n:Nat)(f:EF):SF:=fM i n .s f
abbrev bt (n:Nat)(f:EF):SF:=mM n .s f
abbrev gc (t:BF)(F G:SF):SF:=qg .s t F G
abbrev fw (fi:AF)(T:aA->aQ->Option aQ)(F:SF):SF:=iX .s fi T F
abbrev om (i:Nat)(f:EF):SF:=jR i .s f
abbrev bO (g:aA->aA->aah)(f h:EF):BF:=br (ai g f h)
def Ay:SF:=(aN (bc 1 1 (eC (.dict [])))
 (aN (fw (cf ao) (ir 2) (fw (cf (ai aq az bf)) (ir 3) (gc (br (ff (eT "str") bg)) (zQ 1 .s (eC (.bool af)) .s bg) dQ)))
 (eR 1 (bt 1 (aK BW (aj au))))))
def mU:aag->aah:=bw 1 4 Ay
def Cy:SF:=(aN (bc 1 1 (aK lG (aj (ai aq ao bq))))
 (aN (fw (cf (ai aq ao bf)) (ir 2) (qV 1 .s (ai aq az bf)))
 (eR 1 (bt 1 (aK DM (aj (dq [ab] (cf au) (gB 0) (pE (br (ff (eT "str") ao))) ao)))))))
def LW:aag->aah:=bw 1 3 Cy
def VD:SF:=(bt 0 (aK nH (aj (dq [ab,aa 1] (cf ao) (gB 0) dZ (qW au ao ao)))))
def pT:aag->aah:=bw 2 2 VD
def vD:aag->aah:=HF
def TF:SF:=(aN (gc (bO ib (aK dM (aj au)) (aK dM (aj (ai aq ao bf)))) (bt 1 (eC .none)) dQ)
 (aN (bc 3 1 (aK BQ (aj az)))
 (aN (fw (iZ (aM (ai aq ao bf) (aj au))) (kH 4 5) (aN (uc 6 3 .s (br (ff (eT "str") bz)) .s bz .s gq .s bz)
 (gc (bO ib gq ik) (bt 1 (eC .none)) dQ)))
 (lF 3 1))))
def uY:aag->aah:=bw 3 7 TF
def ZH:SF:=(bt 0 (qW ao (ai aq au bq) (dC dD)))
def ZY:aag->aah:=bw 2 2 ZH
abbrev ZN:SF:=(sOr (bt 1 (ai lA (fU ao oN (oS au)) (fU ao (oS (ai cF au bf)) oN))) (bt 1 (xM (ai sR (qK ao oN (oS au)) (qK ao (oS (ai cF au bf)) oN)))))
def vX:aag->aah:=bw 2 2 ZN
def Di:SF:=(aN (bc 2 1 (dq [ab] (cf (fU ao oN (oS au))) (gB 0) dZ (ai cR ao (ai qL (kc 10) (kc 61)))))
 (aN (fM 3 0 .a (ai cF bf (ai cR (aK zO (aj az)) (kc 2147483647))))
 (aN (jc .a (bO tu (aK dM (aj az)) au) (aN (fM 3 0 .a (ai cR (ai cF (ai cF (ai gG bg bg) (ai gG (kc 48271) (aK dM (aj az)))) (kc 11)) (kc 2147483647)))
 (om 2 bg)) 1000)
 (lF 2 1))))
def LX:aag->aah:=bw 2 4 Di
def Dc:SF:=(aN (bc 1 0 (eC (.str "abcdefghijklmnopqrstuvwxyz")))
 (aN (bc 2 0 (ai cF au (eC (.str "0123456789"))))
 (aN (gc (bO cy (ai cR ao (kc 5)) (kc 4)) (bt 1 (dq [ab] (oq (aj (kc 8))) (gB 0) dZ (ai cF (eC (.str "n")) (aK zM (aj (ai cF bf ao)))))) dQ)
 (aN (bc 3 0 (ai cF bf (ai cR (ai cX ao (kc 5)) (kc 12))))
 (aN (bc 4 0 (ai cR (ai cX ao (kc 60)) bg))
 (aN (bc 5 1 (dq [ab,aa 2,aa 0] (oq (aj bg)) (gB 0) dZ (ai aq au (ai cR (ai cX az (ai gG (kc 720) (ai cF ao bf))) (kc 36)))))
 (aN (sT 5 .s (ai aq au (ai cR (ai cX ao (kc 7919)) (kc 26))) .s bq)
 (eR 5 (aN (bc 6 1 (dC dD))
 (aN (fw (oq (aj (kc 8))) (ir 7) (aN (bc 8 0 (ai aq au (ai cR (ai cF (ai cX ao (kc 31)) (ai gG (kc 3) kj)) (kc 26))))
 (om 6 (ai EZ (eC (.str "")) (ai lA (ai lA (fU gq oN (oS bz)) (dC (aj va))) (fU gq (oS (ai cF bz bf)) oN))))))
 (lF 6 1)))))))))))
def LN:aag->aah:=bw 1 9 Dc
def Ee:SF:=(aN (bc 1 0 (ai cR ao (ai qL (kc 10) (kc 60))))
 (bt 1 (dC (aM au (aM (ai lJ bq au) (aM (ai lJ (ai cR (ai cX ao (kc 3)) (kc 7)) (kc 3)) (aj (ai lJ (ai qL (kc 10) (kc 60)) bf))))))))
def LY:aag->aah:=bw 1 2 Ee
def Dk:SF:=(aN (bc 2 1 (dC (aM (ai cF bf (ai cR ao (kc 3))) (aj (ai cF bf (ai cR (ai cX ao (kc 3)) (kc 3)))))))
 (aN (gc (bO cy (ai cR (ai cX ao (kc 9)) (kc 8)) bq) (sT 2 .s (ai cF bf (ai cR (ai cX ao (kc 72)) (kc 6))) .s (ai cR ao (kc 2))) dQ)
 (eR 2 (aN (bc 3 0 (dC (aM (eC (.str "road")) (aj (eC (.str "r"))))))
 (aN (gc (bO cy (ai cR (ai cX ao (kc 432)) (kc 2)) bq) (bc 3 0 (dC (aM (ai aq au bq) (aj (ai aq au (kc 5)))))) dQ)
 (bt 1 (dC (aM (cV (aM (ai aq bg bq) (aj (ai aq az bq)))) (aj (cV (aM (ai aq bg bf) (aj (ai aq az bf)))))))))))))
def LS:aag->aah:=bw 2 4 Dk
def Dw:SF:=(aN (bc 2 1 (dC dD))
 (aN (fw (cf (ai aq ao bf)) (ir 3) (aN (gc (fT (br (ff (eT "str") bg)) (bO (gy ah) bg (fU au (oS bf) (oS (kc 4))))) (bc 3 0 (ai aq au (ai cF (ai vK au bg) (kc 4)))) dQ)
 (om 2 bg)))
 (eR 2 (bt 0 (cV (aM (ai aq ao bq) (aj (aK nH (aj az)))))))))
def LQ:aag->aah:=bw 2 4 Dw
def Ce:SF:=(aN (bc 4 0 (dC dD))
 (aN (fw (cf au) (ir 5) (bc 4 0 (ai lA bz (dq [ab,aa 2,aa 4] (cf (ai aq gq bf)) (gB 0) (fT (bO (gy ah) ao au) (bO (gy af) ao az)) ao))))
 (aN (bc 6 1 (dC dD))
 (aN (fw (cf ao) (ir 7) (gc (tm (bO cy (ai cR kj (kc 4)) bq) (bO cy bz (dC dD))) (om 6 (ai aq bg (ai cR (ai cX kj (kc 4)) (kc 4)))) (om 6 (ai aq bz (ai cR (ai cX kj (kc 4)) (aK dM (aj bz)))))))
 (eR 6 (bt 0 (aK nH (aj ik))))))))
def LL:aag->aah:=bw 4 8 Ce
def Bt:SF:=(aN (bc 2 0 bq)
 (aN (fw (cf au) (ir 3) (gc (fT (bO tu az (aK dM (aj ao))) (bO cy (ai aq ao az) bg)) (bc 2 0 (ai cF az bf)) dQ))
 (bt 0 (ai cy az (aK dM (aj ao))))))
def Cj:aag->aah:=bw 2 4 Bt
def Ea:SF:=(bt 0 (aK nH (aj (dq [ab,aa 1] (cf ao) (gB 0) dZ (cV (aM (ai aq ao bq) (aj (aK pT (aM (ai aq ao bf) (aj au))))))))))
def EW:aag->aah:=bw 2 2 Ea
def XM:SF:=(aN (bc 2 0 (aK mU (aj (ai sR (qK ao oN (oS au)) (qK ao (oS (ai cF au bf)) oN)))))
 (bt 1 (dq [ab,aa 2] (cf (aK mU (aj (cV (aj (ai aq ao au)))))) (gB 0) (bO (gy ah) ao au) ao)))
def VC:aag->aah:=bw 2 3 XM
def Bq:SF:=(aN (bc 3 1 (dC dD))
 (aN (fw (cf ao) (ir 4) (fw (cf az) (ir 5) (aN (bc 6 0 (aK uY (aM au (aM gq (aj bz)))))
 (gc (bO jS ik (eC .none)) (om 3 ik) dQ))))
 (lF 3 1)))
def Aq:aag->aah:=bw 3 7 Bq
def ZV:SF:=(bt 1 (aK xU (aj (dq [ab,aa 1] (cf (aK ZY (aM ao (aj au)))) (gB 0) (bO jS (aK uY (aM au (aM ao (aj (eC (.dict [])))))) (eC .none)) ao))))
def YT:aag->aah:=bw 2 2 ZV
def XO:SF:=(bt 1 (dq [ab,aa 1] (cf (aK mU (aj (cV (aj ao))))) (gB 0) (bO (gy ah) ao (ai aq au bf)) ao))
def XE:aag->aah:=bw 2 2 XO
def WN:SF:=(bt 0 (aK pT (aM az (aj (aK uY (aM ao (aM au (aj (eC (.dict []))))))))))
def vR:aag->aah:=bw 3 3 WN
def Fg:SF:=(bt 1 (aK uY (aM (cV (aM (eC (.str "head")) (aj ao))) (aM au (aj (eC (.dict [])))))))
def Gv:aag->aah:=bw 2 2 Fg
def Ei:SF:=(aN (bc 2 1 (dC (aj bq)))
 (aN (fw (cf (ai lA ao au)) (ir 3) (qV 2 .s (aK LW (aj bg))))
 (eR 2 (bt 0 (aK BM (aj az))))))
def MB:aag->aah:=bw 2 4 Ei
def WH:SF:=(aN (bc 3 0 (aK mU (aj au)))
 (bt 0 (dq [ab,aa 2,aa 3] (cf ao) (gB 0) dZ (xk (bO vz ao au) (ai aq az (ai lJ (ai lJ ao au) bf)) ao))))
def JX:aag->aah:=bw 3 4 WH
def Da:SF:=(aN (bc 5 1 (dC dD))
 (aN (fw (oq (aj au)) (ir 6) (aN (bc 7 0 (fU ao (oS (ai gG (kc 7) ik)) (oS (ai cF (ai gG (kc 7) ik) (kc 7)))))
 (gc (fT (bO vz ik bq) (bO cy (ai cR (ai cX (ai aq kj bq) (kc 2)) (kc 3)) bq)) (jR 5 .a (aK LQ (aM (ai aq gq (ai cR (ai cX (ai aq kj bq) (kc 6)) ik)) (aj az)))) (aN (zI .s (ai aq bz (ai cR (ai aq kj bq) (kc 2))) (kH 8 9))
 (aN (bc 10 1 (dC dD))
 (aN (fw (cf (fU kj (oS bf) (oS (ai cF vr9 bf)))) (ir 11) (gc (bO cy (ai cR xK (kc 5)) bq) (om 10 (ai aq bg (ai cR (ai cX xK (kc 5)) (kc 4)))) (om 10 (ai aq az (ai cR (ai cX xK (kc 5)) (kc 4))))))
 (eR 10 (om 5 (cV (aM va (aj (aK nH (aj GX)))))))))))))
 (eR 5 (bt 0 (aK nH (aj gq))))))
def LV:aag->aah:=bw 5 12 Da
def Dg:SF:=(aN (gc (tm (pE (br (ff (eT "tuple") ao))) (tm (bO ib (aK dM (aj ao)) (kc 2)) (bO ib (ai aq ao bq) (ai aq au bq)))) (bt 0 (eC (.bool ah))) dQ)
 (bt 0 (pB (ff (eT "tuple") (ai aq ao bq)) (pB (ff (eT "tuple") (ai aq ao bf)) (aK Cj (aM (ai aq ao bf) (aj (ai aq au bf))))))))
def LM:aag->aah:=bw 2 2 Dg
def Bv:SF:=(aN (bc 3 0 (aK VC (aM (aK nH (aj (dq [ab,aa 0] (cf au) (gB 0) dZ (ai aq au ao)))) (aj (ai vK au az)))))
 (aN (fw (cf au) (ir 4) (gc (fT (bO ib bz az) (br (aK uQ (aj (dq [ab,aa 0,aa 4] (cf bg) (gB 0) dZ (ai (gy ah) ao (ai aq (ai aq au az) bf))))))) (bt 0 bz) dQ))
 (bt 0 (eC .none))))
def Cn:aag->aah:=bw 3 5 Bv
def VB:SF:=(aN (bc 2 0 (dC (aj (eC (.dict [])))))
 (aN (fw (iZ (aM ao (aj au))) (kH 3 4) (bc 2 0 (aK Aq (aM az (aM bg (aj bz))))))
 (bt 0 az)))
def JP:aag->aah:=bw 2 5 VB
def Du:SF:=(bt 1 (dq [ab,aa 0] (cf au) (gB 0) dZ (aK YT (aM au (aj ao)))))
def Dr:aag->aah:=bw 2 2 Du
def Dx:SF:=(aN (bc 4 0 (aK XE (aM ao (aj az))))
 (aN (bc 5 0 (aK CZ (aj (dq [ab,aa 2,aa 4] (cf bg) (gB 0) dZ (cV (aM (aK vR (aM au (aM ao (aj az)))) (aj (eC (.bool af)))))))))
 (bt 1 (dq [ab,aa 5,aa 0,aa 4] (cf au) (gB 0) (bO (gy ah) (aK vR (aM az (aM ao (aj bg)))) au) ao))))
def MA:aag->aah:=bw 4 6 Dx
def VI:SF:=(aN (bc 2 0 (aK xP (aj (dq [ab,ab,aa 1] (ki (aj (aK mU (aj (ai aq ao bf))))) (vy 0 1) dZ (cV (aM au (aj (ai cF (ai cF az bf) ao))))))))
 (aN (bc 3 2 (eC (.dict [])))
 (aN (fw (cf (aK EG (aj (aK EW (aM (ai aq ao bf) (aj az)))))) (kH 4 5) (xQ 3 .s bz .s gq))
 (eR 3 (bt 0 (cV (aM bg (aj (aK pT (aM (ai aq ao bq) (aj az)))))))))))
def VO:aag->aah:=bw 2 6 VI
def Eh:SF:=(aN (bc 1 0 (aK LX (aM ao (aj (kc 85)))))
 (aN (bc 2 0 (aK LN (aj (ai aq au bq))))
 (aN (bc 3 0 (aK LY (aj (ai aq au bf))))
 (aN (bc 4 0 (aK LS (aM (ai aq au (kc 2)) (aj az))))
 (aN (bc 5 0 (dC (aM (ai cR (ai cX (ai aq au (kc 3)) (kc 4)) (kc 6)) (aM (ai cR (ai cX (ai aq au (kc 3)) (kc 24)) (kc 4)) (aj (ai cR (ai cX (ai aq au (kc 3)) (kc 96)) (kc 4)))))))
 (aN (bc 6 0 (ai aq (dC (aM bq (aM bf (aM bf (aM (kc 2) (aM (kc 2) (aM (kc 3) (aj (kc 4))))))))) (ai cR (ai cX (ai aq au (kc 3)) (kc 384)) (kc 7))))
 (aN (bc 7 1 (dC dD))
 (aN (bc 8 0 (kc 8))
 (aN (fw (oq (aj (ai cR (ai aq au (kc 3)) (kc 4)))) (ir 9) (aN (bc 10 0 (aK LV (aM (fU au (oS va) (oS (ai cF va (kc 35)))) (aM (ai aq gq vr9) (aM az (aM bg (aj bz)))))))
 (aN (bc 8 0 (ai cF va (ai gG (kc 7) (ai aq gq vr9))))
 (aN (bc 11 1 (dq [ab,aa 9] (cf (fU au (oS (kc 4)) (oS (ai cF (kc 4) ik)))) (gB 0) dZ (ai cX ao (ai cF bf (ai gG (kc 96) au)))))
 (eR 11 (om 7 (cV (aM (aK LL (aM xK (aM GX (aM az (aj bg))))) (aj GX)))))))))
 (lF 7 1))))))))))
def MC:aag->aah:=bw 1 12 Eh
def Bx:SF:=(aN (gc (pE (br (ff (eT "list") ao))) (bt 0 (eC (.bool ah))) dQ)
 (aN (bc 2 0 bq)
 (aN (fw (cf au) (ir 3) (gc (fT (bO tu az (aK dM (aj ao))) (br (aK LM (aM (ai aq ao az) (aj bg))))) (bc 2 0 (ai cF az bf)) dQ))
 (bt 0 (ai cy az (aK dM (aj ao)))))))
def Cw:aag->aah:=bw 2 4 Bx
def ZW:SF:=(aN (fw (ki (aj ao)) (kH 2 3) (fw (ki (aj au)) (kH 4 5) (gc (br yi) (bt 0 (cV (aM (eC (.str "put")) (aM bz (aj az))))) dQ)))
 (bt 0 (eC .none)))
def Ac:aag->aah:=bw 2 6 ZW
def Cg:SF:=(aN (fw (cf au) (ir 2) (aN (bc 3 0 (aK Cn (aM ao (aM au (aj az)))))
 (gc (bO jS bg (eC .none)) (bt 0 (cV (aM az (aj bg)))) dQ)))
 (bt 0 (eC .none)))
def rL:aag->aah:=bw 2 4 Cg
def RE:SF:=(aN (fw (ki (aj au)) (kH 2 3) (aN (bc 4 0 (xk (bO cy (ai aq bg bq) (eC (.str "key"))) yi (eC .none)))
 (gc (bO jS bz (eC .none)) (bt 0 bz) dQ)))
 (bt 0 (aK Ac (aM (ai aq ao bf) (aj au)))))
def HB:aag->aah:=bw 2 5 RE
def UH:SF:=(aN (bc 1 1 (dC dD))
 (aN (bc 2 1 (aK MD (aj (aK dM (aj ao)))))
 (aN (fM 3 0 .a (aK rL (aM ao (aj az))))
 (aN (jc .s (bO jS bg (eC .none)) (aN (om 1 bg)
 (aN (oK 2 .s (ai aq bg bq))
 (fM 3 0 .a (aK rL (aM ao (aj az)))))) 100)
 (eR 1 (eR 2 (bt 0 (cV (aM au (aj az))))))))))
def vB:aag->aah:=bw 1 4 UH
def Hl:SF:=(aN (bc 2 0 (cV (aM (ai aq ao bq) (aj (aK vD (aj (ai aq ao bf)))))))
 (aN (bc 3 1 (dC dD))
 (aN (bc 4 0 (aK HB (aM az (aj au))))
 (aN (jc .a (fT (bO jS bz (eC .none)) (fT (bO ib (ai aq bz bq) (eC (.str "clash"))) (pE (br yi)))) (aN (om 3 bz)
 (aN (bc 2 0 yi)
 (bc 4 0 (aK HB (aM az (aj au)))))) 200)
 (eR 3 (aN (gc (bO pF bz (eC .none)) (bt 0 (cV (aM (eC (.str "still")) (aM az (aj bg))))) dQ)
 (aN (gc (bO cy (ai aq bz bq) (eC (.str "put"))) (bt 0 (cV (aM (eC (.str "past")) (aM az (aj bg))))) dQ)
 (bt 0 (cV (aM (eC (.str "clash")) (aM az (aj (ai lA bg (dC (aj bz)))))))))))))))
def Fw:aag->aah:=bw 2 5 Hl
def Ec:SF:=(aN (bc 2 1 (aK lG (aj au)))
 (aN (fw (cf (ai aq (aK vB (aj ao)) bq)) (kH 3 4) (sY 2 .a (aK MA (aM (ai aq ao bz) (aM (ai aq az bz) (aM (ai aq ao bg) (aj (ai aq az bg)))))) .s bz))
 (lF 2 1)))
def Eb:aag->aah:=bw 2 5 Ec
def Bw:SF:=(aN (bc 2 0 (ai aq (aK vB (aj ao)) bf))
 (bt 0 (aK JP (aM (aK nH (aj (dq [ab,aa 0] (cf az) (gB 0) dZ (ai aq au ao)))) (aj (dq [ab,aa 1] (cf az) (gB 0) dZ (ai aq au ao)))))))
def Ct:aag->aah:=bw 2 3 Bw
def Ci:SF:=(aN (bc 2 1 (aK lG (aj au)))
 (aN (fw (iRv (aj (ai aq (aK vB (aj ao)) bq))) (kH 3 4) (sY 2 .a (aK MA (aM (ai aq ao bg) (aM (ai aq az bg) (aM (ai aq ao bz) (aj (ai aq az bz)))))) .s bg))
 (lF 2 1)))
def Cp:aag->aah:=bw 2 5 Ci
def Cu:SF:=(aN (bc 2 1 (aK lG (aj au)))
 (aN (bc 3 0 (aK Ct (aM ao (aj au))))
 (aN (fw (cf (ai aq (aK vB (aj ao)) bf)) (ir 4) (sT 2 .s (aK ED (aj (dq [ab,aa 0,aa 4] (cf bg) (gB 0) dZ (aK pT (aM (ai aq (ai aq au az) bf) (aj ao)))))) .s bz))
 (lF 2 1))))
def Dj:aag->aah:=bw 2 5 Cu
def Bg:SF:=(bt 1 (aK Cp (aM ao (aj (aK Dj (aM ao (aj (aK Eb (aM ao (aj au))))))))))
def Bi:aag->aah:=bw 2 2 Bg
def Bp:SF:=(aN (bc 2 1 (aK Dr (aM ao (aj au))))
 (aN (bc 3 0 (eC (.dict [])))
 (aN (fw (ki (aj au)) (kH 4 5) (eR 2 (aN (bc 2 1 (aK Bi (aM au (aj az))))
 (aN (qg .a (bO cy (aK dM (aj (ai aq az bz))) bq) (bt 0 (eC .none)) dQ)
 (aN (sY 2 .a (fU (ai aq az bz) oN (oS bf)) .s bz)
 (eR 2 (bc 3 0 (aK uY (aM gq (aM (ai aq (ai aq az bz) bq) (aj bg)))))))))))
 (eR 2 (bt 0 (aK pT (aM (aK mU (aj au)) (aj bg))))))))
def EN:aag->aah:=bw 2 6 Bp
def Cz:SF:=(aN (bc 3 1 (aK Gv (aM (ai aq au bq) (aj az))))
 (aN (qg .a (bO pF bg (eC .none)) (bt 0 (eC .none)) dQ)
 (aN (fM 4 0 .a (aK EW (aM (ai aq au bf) (aj bg))))
 (aN (bc 5 0 (aK EN (aM ao (aj bz))))
 (aN (gc (bO pF gq (eC .none)) (bt 0 (eC .none)) dQ)
 (aN (xI 3 .s (aK xR (aM (aK mU (aj bz)) (aj gq))))
 (eR 3 (bt 0 (aK pT (aM (aK mU (aj (ai aq au bf))) (aj bg)))))))))))
def Dd:aag->aah:=bw 3 6 Cz
def Dl:SF:=(aN (fw (ki (aj au)) (kH 3 4) (aN (bc 5 0 (aK Dd (aM ao (aM bz (aj az)))))
 (gc (bO jS gq (eC .none)) (bt 0 (cV (aM bg (aj gq)))) dQ)))
 (bt 0 (eC .none)))
def Df:aag->aah:=bw 3 6 Dl
def Dh:SF:=(aN (bc 4 0 (aK Fw (aM ao (aj az))))
 (aN (gc (bO cy (ai aq bz bq) (eC (.str "clash"))) (bt 0 (cV (aM (eC (.str "clash")) (aj (ai aq bz (kc 2)))))) dQ)
 (aN (bc 5 0 (aK VO (aM (ai aq bz bf) (aj bg))))
 (aN (bc 6 0 (aK Df (aM (ai aq gq bq) (aM au (aj (ai aq gq bf))))))
 (aN (gc (bO jS ik (eC .none)) (aN (bc 7 0 (aK mU (aj (ai aq (ai aq au (ai aq ik bq)) bf))))
 (aN (bc 8 0 (aK CA (aM kj (aj (aK JX (aM (ai aq ik bf) (aM (ai aq (ai aq bz bf) bf) (aj bg))))))))
 (bt 0 (cV (aM (eC (.str "map")) (aM (ai aq ik bq) (aM va (aj (ai aq bz (kc 2)))))))))) dQ)
 (aN (gc (bO cy (ai aq bz bq) (eC (.str "still"))) (bt 0 (cV (aM (eC (.str "not")) (aM (ai aq gq bq) (aj (ai aq gq bf)))))) dQ)
 (bt 0 (cV (aj (eC (.str "open")))))))))))
def yZ:aag->aah:=bw 4 9 Dh
def VX:SF:=(aN (bc 3 0 (aK MB (aM ao (aj au))))
 (aN (bc 4 1 (dq [ab,aa 1,aa 3,aa 2] (cf ao) (gB 0) dZ (aK yZ (aM ao (aM au (aM (xk (bO pF bg (eC .none)) (dC dD) bg) (aj az)))))))
 (eR 4 (aN (fw (ki (aj bz)) (kH 5 6) (gc (bO cy (ai aq ik bq) (eC (.str "not"))) (bt 0 (cV (aM (eC (.str "not")) (aM gq (aM (ai aq ik bf) (aj (ai aq ik (kc 2)))))))) dQ))
 (aN (bc 7 1 (dq [ab,ab] (ki (aj bz)) (vy 0 1) (bO cy (ai aq au bq) (eC (.str "open"))) ao))
 (eR 7 (aN (gc (bO vz (aK dM (aj kj)) bq) (bt 0 (cV (aM (eC (.str "open")) (aj kj)))) dQ)
 (bt 0 (cV (aM (eC (.str "within")) (aj bz)))))))))))
def DK:aag->aah:=bw 3 8 VX
def Dn:SF:=(aN (bc 3 0 (cV (aM (ai aq ao bq) (aj (aK vX (aM (ai aq ao bf) (aj au)))))))
 (aN (bc 4 0 (aK mU (aj (ai aq bg bf))))
 (aN (bc 5 1 (dq [ab,aa 4] (cf (ai aq ao bq)) (gB 0) (fT (br (ff (eT "str") ao)) (bO (gy af) ao au)) ao))
 (eR 5 (aN (gc (bO vz (aK dM (aj gq)) bq) (bt 0 (cV (aM (eC (.str "head")) (aj (ai aq gq bq))))) dQ)
 (bt 0 (aK DK (aM (dC (aj bg)) (aM (dC (aj ao)) (aj az))))))))))
def ET:aag->aah:=bw 3 6 Dn
def Ek:SF:=(bt 0 (aK DK (aM (dC (aj (ai aq ao au))) (aM (aK vX (aM ao (aj au))) (aj az)))))
def EY:aag->aah:=bw 3 3 Ek
def Dv:SF:=(aN (fw (oq (aj (aK dM (aj (ai aq ao bf))))) (ir 2) (gc (bO cy (ai aq (aK ET (aM ao (aM az (aj au)))) bq) (eC (.str "within"))) (bt 0 az) dQ))
 (bt 0 (eC .none)))
def LP:aag->aah:=bw 2 3 Dv
def Ej:SF:=(aN (bc 2 0 ao)
 (aN (bc 3 0 (aK LP (aM az (aj au))))
 (aN (jc .s (bO jS bg (eC .none)) (aN (bc 2 0 (cV (aM (ai aq az bq) (aj (aK vX (aM (ai aq az bf) (aj bg)))))))
 (bc 3 0 (aK LP (aM az (aj au))))) 10)
 (bt 0 az))))
def wC:aag->aah:=bw 2 4 Ej
def Gs:SF:=(aN (bc 2 1 (dq [ab,aa 1] (cf ao) (gB 0) dZ (aK wC (aM ao (aj au)))))
 (aN (fw (iR3 (aM (ai lJ (aK dM (aj ao)) bf) (aM (ff sG bf) (aj (ff sG bf))))) (ir 3) (qg .a (bO cy (ai aq (aK EY (aM az (aM bg (aj au)))) bq) (eC (.str "within"))) (fM 2 1 .a (aK vX (aM az (aj bg)))) dQ))
 (lF 2 1)))
def vG:aag->aah:=bw 2 4 Gs
def Nd:SF:=(aN (bc 1 0 (aK MC (aj ao)))
 (aN (bc 2 1 (aK lG (aj au)))
 (aN (fM 3 1 .a (aK (λds=>vG (ds++[.none])) (aj az)))
 (aN (qg .a (tm (bO ib az au) (pE (br (aK Cw (aM bg (aj au)))))) (bt 0 (eC (.bool ah))) dQ)
 (aN (fM 4 1 .a (aK lG (aj bg)))
 (aN (HA 2)
 (eR 2 (aN (om 3 (cV (aM (cV dD) (aj (cV dD)))))
 (eR 3 (aN (bc 5 0 (dC dD))
 (aN (bc 6 0 (aK vG (aM (aK lG (aj au)) (aj (eC .none)))))
 (aN (bc 7 0 (aK vG (aM (aK lG (aj au)) (aj gq))))
 (mM 0 .a (pB (ai cy bz ik) (pB (ai cy bz kj) (pB (ai cy gq (dC dD)) (ai cy bg (ai lA bz (dC (aj (cV (aM (cV dD) (aj (cV dD))))))))))))))))))))))))
def RJ:aag->aah:=bw 1 8 Nd
end Aw
namespace L2
open PySem PySem.Spec PyProof.Rows
variable {F G body:SF}{T:aA->aQ->Option aQ}{ds:aag}{Y:aQ}{t:BF}{f:EF}{d:aA}{fi:AF}{n:Nat}
theorem Zn(P:Nat->aQ->Prop)(h0:P 0 Y)
  (step:∀ i d Y,ds[i]?=aa d->P i Y->∃ ρ1 ρ2,T d Y=aa ρ1/\(F ρ1=aa (.nx ρ2)\/F ρ1=aa (.ct ρ2))/\P (i+1) ρ2):∃ ρ',iJ F T ds Y=aa (.nx ρ')/\P ds.length ρ':=by
 have go:∀ (av:aag) (i:Nat) (Y:aQ),ds.drop i=av->i+av.length=ds.length->P i Y->∃ ρ',iJ F T av Y=aa (.nx ρ')/\P ds.length ρ':=by
  intro av;induction av with
  |nil=>
   intro i Y _ hl p;subst hl;exact⟨Y,rfl,p⟩
  |cons d r ih=>
   intro i Y hd hl p;have hi:ds[i]?=aa d:=by
    have:=congrArg (·[0]?) hd;simpa using this
   obtain⟨ρ1,ρ2,e1,e2,p2⟩:=step i d Y hi p;have sy:ds.drop (i+1)=r:=by
    have:=congrArg List.tail hd;simpa using this
   obtain⟨ρ',e3,p3⟩:=ih (i+1) ρ2 sy (by simp at hl;lia) p2
   refine⟨ρ',?_,p3⟩;show((T d Y).bind λρ1=>(F ρ1).bind λo=>match o with
    |.nx ρ'=>iJ F T r ρ'
    |.ct ρ'=>iJ F T r ρ'
    |.bk ρ'=>aa (.nx ρ')
    | .rt d=>aa (.rt d))=aa (.nx ρ')
   grind
 exact go ds 0 Y (by simp) (by simp) h0
theorem Hq {T:aA->be->Option be}{Y:be}(R:aA->aA->Prop):∀ (ds:aag),(∀ d∈ds,∃ ρ1 y,T d Y=aa ρ1/\t ρ1=aa af/\f ρ1=aa y/\R d y) ->
  ∃ ys,nr T t f Y ds=aa ys/\bY R ds ys
 |[],_=>⟨[],rfl,.nil⟩
 |d::r,h=>by
  obtain⟨ρ1,y,e1,e2,e3,hr⟩:=h d bD;obtain⟨ys,e4,hp⟩:=Hq R r λd' m=>h d' (bI _ m)
  refine⟨y::ys,?_,.cons hr hp⟩;show((T d Y).bind λρ1=>(t ρ1).bind λc=>if c=af then(f ρ1).bind λy=>(nr T t f Y r).bind λys=>aa (y::ys) else nr T t f Y r)=aa (y::ys)
  simp[e1,e2,e3,e4]
theorem Hc {T:aA->be->Option be}{Y:be}(g:aA->aA):∀ (ds:aag),(∀ d∈ds,∃ ρ1,T d Y=aa ρ1/\t ρ1=aa af/\f ρ1=aa (g d))->nr T t f Y ds=aa (ds.map g)
 |[],_=>rfl
 |d::r,h=>by
  obtain⟨ρ1,e1,e2,e3⟩:=h d bD;show((T d Y).bind λρ1=>(t ρ1).bind λc=>if c=af then(f ρ1).bind λy=>(nr T t f Y r).bind λys=>aa (y::ys) else nr T t f Y r)=aa (g d::r.map g)
  simp[e1,e2,e3,(Hc g r λd' m=>h d' (bI _ m))]
theorem Paired.mem_right {α β:Type}{R:α->β->Prop}:∀ {as:List α} {bs:List β},bY R as bs->∀ b∈bs,∃ a∈as,R a b:=by
 intro as bs h;induction h with
 |nil=>exact λb m=>by simp at m
 |cons h _ ih=>
  grind
theorem Os{ρ':aQ}(h:F Y=aa (.nx ρ')):aN F G Y=G ρ':=by
 unfold aN;rw[h]
 rfl
theorem Qx(h:F Y=aa (.rt d)):aN F G Y=aa (.rt d):=by
 unfold aN;rw[h]
 rfl
theorem CJ {m:Md}{o:Out}(h:aV m fi Y=aa ds)(h2:iJ F T ds Y=aa o):iX m fi T F Y=aa o:=by
 unfold iX;rw[h];exact h2
theorem RK {np:Nat}(hl:ds.length=np)(h:body (ds.map (λd=>aa (0,d))++uB (n-np) ab)=aa (.rt d)):bw np n body ds=aa d:=by
 unfold bw;rw[if_pos hl,h]
 rfl
theorem xW{k:Nat}(h:k<=ds.length):cutD ds ab (aa (k:Int))=ds.take k:=by
 unfold cutD;rw[HT.Av4,HT.Af4];simp[AI h]
theorem gY(h:n<=100000):n<=sizeLine:=cQ h nofun
theorem tJ(h:n<=100000):n<sizeLine:=AK h nofun
def letter (c:Nat):Bool:=decide (97<=c)&&decide (c<=122)
def figure (c:Nat):Bool:=decide (48<=c)&&decide (c<=57)
def Sl (c:Nat):Bool:=letter c||figure c
def Lo (cs:aaq):Prop:=∃ c r,cs=c::r/\letter c=af/\(∀ x∈cs,Sl x=af)/\cs.length<=12
def nameS (z:aD):Prop:=Lo z.cps.toList
def gE (c:Nat):aA:=.str ⟨#[c]⟩
def SIGNS:aD:="abcdefghijklmnopqrstuvwxyz0123456789"
theorem pR (a:Int){b:Int}(h:0<b):0<=a%b/\a%b<b:=⟨Int.emod_nonneg _ (),Int.emod_lt_of_pos _ h⟩
def Goes (F:SF)(Y:aQ)(P:Out->Prop):Prop:=∃ o,F Y=aa o/\P o
variable {P:Out->Prop}{m:Md}
theorem Goes.mono {P':Out->Prop}(h:Goes F Y P)(k:∀ o,P o->P' o):Goes F Y P':=by
 obtain⟨o,e,p⟩:=h;exact⟨o,e,k o p⟩
theorem fI {ρ':aQ}(h:F Y=aa (.nx ρ'))(k:Goes G ρ' P):Goes (aN F G) Y P:=by
 obtain⟨o,e,p⟩:=k;exact⟨o,by rw[Os h];exact e,p⟩
theorem dW (I:aQ->Prop)(h:Goes F Y λo=>∃ ρ',o=.nx ρ'/\I ρ')(k:∀ ρ',I ρ'->Goes G ρ' P):Goes (aN F G) Y P:=by
 obtain⟨o,e,ρ',rfl,i⟩:=h;exact fI e (k ρ' i)
theorem CS(h:F Y=aa (.rt d))(k:P (.rt d)):Goes (aN F G) Y P:=⟨_,Qx h,k⟩
theorem qR{b:Bool}(h:bV m t Y=aa b)(k:Goes (if b=af then F else G) Y P):Goes (qg m t F G) Y P:=by
 obtain⟨o,e,p⟩:=k;refine⟨o,?_,p⟩;show((bV m t Y).bind λb=>if b=af then F Y else G Y)=aa o
 rw[h];cases b
 .exact e
 .exact e
theorem fV(h:bV m t Y=aa af)(k:Goes F Y P):Goes (qg m t F G) Y P:=qR h k
theorem iY(h:bV m t Y=aa ah)(k:Goes G Y P):Goes (qg m t F G) Y P:=qR h k
theorem gW (k:P (.nx Y)):Goes dQ Y P:=⟨_,rfl,k⟩
theorem pI(h:bV m t Y=aa ah):qg m t F dQ Y=aa (.nx Y):=by
 unfold qg;rw[h]
 rfl
theorem oF (h:Goes F Y λo=>∃ d,o=.rt d/\P o):Goes (aN F G) Y P:=by
 obtain⟨o,e,d,rfl,p⟩:=h;exact CS e p
theorem Wr(h:f (vA Y)=aa d)(hf:fJ n d=af)(k:P (.rt d)):Goes (mM n .a f) Y P:=⟨_,by
 unfold mM eV;simp only[h,bQ,hf,Bool.true_or,if_true],k⟩
theorem cB(h:f (vS Y)=aa d)(k:P (.rt d)):Goes (mM n .s f) Y P:=⟨_,by
 unfold mM eV;simp only[h,bQ],k⟩
theorem BV {i:Nat}(h:eV n m f Y=aa d)(hl:i<Y.length)(k:P (.nx (Y.set i (aa (n,d))))):Goes (fM i n m f) Y P:=
 ⟨_,by unfold fM;rw[h];simp only[bQ,if_pos hl],k⟩
theorem rD {i:Nat}(h:f (vS Y)=aa d)(hl:i<Y.length)(k:P (.nx (Y.set i (aa (n,d))))):Goes (fM i n .s f) Y P:=BV h hl k
theorem iA {i:Nat}(h:Goes F (frz i Y) P):Goes (eR i F) Y P:=h
theorem Rv(h:n<=1000000):BK 0 (n:Int)=aa ((bZ n).map λ(k:Nat)=>aU k):=by
 unfold BK;rw[if_pos ()]
 simp
theorem vC {fa:AF}{Y:be}(h:fa Y=aa [.int n])(hn:n<=1000000):oq fa Y=aa ((bZ n).map λ(k:Nat)=>aU k):=by
 rw[<-(Rv hn)];unfold oq;rw[h,bQ]
theorem gp(h:fi (vS Y)=aa ds):aV .s fi Y=aa ds:=h
theorem qX(I:Nat->aQ->Prop)(h:aV m fi Y=aa ds)(h0:I 0 Y)
  (step:∀ i d Y,ds[i]?=aa d->I i Y->∃ ρ1,T d Y=aa ρ1/\Goes F ρ1 λo=>∃ ρ2,(o=.nx ρ2\/o=.ct ρ2)/\I (i+1) ρ2) (k:∀ ρ',I ds.length ρ'->P (.nx ρ')):Goes (iX m fi T F) Y P:=by
 obtain⟨ρ',e,i⟩:=Zn I h0 λi d Y hd p=>by
  obtain⟨ρ1,e1,o,e2,ρ2,e3,p2⟩:=step i d Y hd p;refine⟨ρ1,ρ2,e1,?_,p2⟩;rcases e3 with rfl|rfl
  .exact .inl e2
  .exact .inr e2
 exact⟨_,CJ h e,k ρ' i⟩
theorem HW(I:Nat->aQ->Prop)(h:aV m fi Y=aa ((bZ n).map λ(k:Nat)=>aU k))(h0:I 0 Y)
  (step:∀ (i:Nat) Y,i<n->I i Y->∃ ρ1,T (.int i) Y=aa ρ1/\Goes F ρ1 λo=>∃ ρ2,(o=.nx ρ2\/o=.ct ρ2)/\I (i+1) ρ2) (k:∀ ρ',I n ρ'->P (.nx ρ')):Goes (iX m fi T F) Y P:=by
 refine qX I h h0 (λi d Y hd p=>?_) (by simpa using k)
 have bu:i<n:=by
  have:=(cE.1 hd).1;simpa using this
 rw[eD,AQ bu] at hd;have:aU (i:Int)=d:=by simpa using hd
 subst this;exact step i Y bu p
theorem iM {np:Nat}{Q:aA->Prop}(hl:ds.length=np)(h:Goes body (ds.map (λd=>aa (0,d))++uB (n-np) ab) λo=>∃ d,o=.rt d/\Q d):∃ d,bw np n body ds=aa d/\Q d:=by
 obtain⟨o,e,d,rfl,q⟩:=h;exact⟨d,RK hl e,q⟩
theorem eZ {np:Nat}(hl:ds.length=np)(h:Goes body (ds.map (λd=>aa (0,d))++uB (n-np) ab) λo=>∃ d',o=.rt d'/\d'=d):bw np n body ds=aa d:=by
 obtain⟨_,e,rfl⟩:=iM hl h;exact e
theorem Lm {cap:po}{T:aA->be->Option be}{Y:be}(R:aA->aA->Prop)(h1:fi Y=aa ds)(h2:ds.length<=100000)
  (h:∀ d∈ds,∃ ρ1 y,T d (lB cap Y)=aa ρ1/\t ρ1=aa af/\f ρ1=aa y/\R d y):∃ ys,dq cap fi T t f Y=aa (.list ys)/\bY R ds ys:=by
 obtain⟨ys,e,hp⟩:=Hq R ds h;refine⟨ys,?_,hp⟩;unfold dq;rw[h1,bQ,e,bQ,if_pos (gY h2)]
theorem On {cap:po}{T:aA->be->Option be}{Y:be}(g:aA->aA)(h1:fi Y=aa ds)(h2:ds.length<=100000)
  (h:∀ d∈ds,∃ ρ1,T d (lB cap Y)=aa ρ1/\t ρ1=aa af/\f ρ1=aa (g d)):dq cap fi T t f Y=aa (.list (ds.map g)):=by
 unfold dq;rw[h1,bQ,Hc g ds h,bQ,if_pos (gY h2)]
end L2
namespace L2
open PySem PySem.Spec PyProof.Rows
variable {f:EF}{ds:aag}{d:aA}
variable {F G:SF}{Y:aQ}{P:Out->Prop}{m:Md}
theorem eO{Y:be}(h:f Y=aa (.list ds)):cf f Y=aa ds:=by
 unfold cf;rw[h]
 rfl
theorem lV{Y:be}(h:f Y=aa (.tuple ds)):cf f Y=aa ds:=by
 unfold cf;rw[h]
 rfl
theorem aW {fa:AF}{g:aag->aah}{Y:be}(h:fa Y=aa ds)(h2:g ds=aa d):aK g fa Y=aa d:=by
 unfold aK;rw[h];exact h2
theorem aL {fa fb:EF}{g:aA->aA->aah}{Y:be}{a b:aA}(h:fa Y=aa a)(h2:fb Y=aa b)(h3:g a b=aa d):ai g fa fb Y=aa d:=by
 unfold ai;rw[h,h2];exact h3
theorem Ql(i:Int)(h:0<ds.length):∃ (j:Nat) (d:aA),ds[j]?=aa d/\iw ds (i%(ds.length:Int))=aa d:=by
 have b:=pR i (show(0:Int)<ds.length by lia)
 obtain⟨j,e⟩:=PP b.1;have hj:j<ds.length:=()
 exact⟨j,ds[j],eE hj,by rw[e];exact pS (eE hj)⟩
theorem Ym {i:Nat}(h:f (vA Y)=aa d)(hf:gQ d=af)(hg:getL i Y=aa ds)(hl:ds.length<100000)(k:P (.nx (Y.set i (aa (1,.list (ds++[d])))))):Goes (jR i .a f) Y P:=⟨_,by
 unfold jR eV;simp only[h,bQ,fJ,hf,Bool.true_or,if_true,hg,if_pos (tJ (mE hl))],k⟩
theorem oE {i:Nat}(h:f (vS Y)=aa d)(hg:getL i Y=aa ds)(hl:ds.length<100000)(k:P (.nx (Y.set i (aa (1,.list (ds++[d])))))):Goes (jR i .s f) Y P:=⟨_,by
 unfold jR eV;simp only[h,bQ,hg,if_pos (tJ (mE hl))],k⟩
theorem Wi {i:Nat}{g:EF}{kd:aA}{key:aG}{kds:dL}(h:f (vS Y)=aa d)(hg:qQ i Y=aa kds)(hk:g (vS Y)=aa kd)(ha:cC kd=aa key)(hl:kds.length<100000)(k:P (.nx (Y.set i (aa (1,.dict (putD kds key d)))))):Goes (zQ i .s f .s g) Y P:=⟨_,by
 unfold zQ eV;simp only[h,bQ,hg,hk,ha,if_pos (tJ (mE hl))],k⟩
def Me (d:aA):Prop:=(∃ z,d=.str z/\nameS z)\/∃ i,d=.int i
theorem JW:∀ {ts:aag},(∀ t∈ts,cA t=af)->bS ts=af
 |[],_=>by simp[bS]
 |t::r,h=>by
  simp only[bS,AZ];exact⟨h t bD,JW λx m=>h x (bI _ m)⟩
theorem yT {n:Nat}:∀ {ts:aag},(∀ t∈ts,t.depth<=n)->cU ts<=n
 |[],_=>by simp[cU]
 |t::r,h=>by
  exact Nat.max_le.2 ⟨h t bD,yT λx m=>h x (bI _ m)⟩
theorem yV:∀ {ts:aag},(∀ t∈ts,gQ t=af)->iO ts=af
 |[],_=>by simp[iO]
 |t::r,h=>by
  simp only[iO,AZ];exact⟨h t bD,yV λx m=>h x (bI _ m)⟩
theorem yX:∀ {ts:aag},(∀ t∈ts,noDict t=af)->noDicts ts=af
 |[],_=>by simp[noDicts]
 |t::r,h=>by
  simp only[noDicts,AZ];exact⟨h t bD,yX λx m=>h x (bI _ m)⟩
structure Kn (kds:List (aA×aA)):Prop where
 fit:∀ kd∈kds,(∃ z,kd.1=.str z)/\Me kd.2
 once:(kds.map (·.1)).Nodup
theorem MU {kds:dL}(h:∀ kd∈kds,kd.1 ≠ .none):ic kds=af:=by
 cases kds with
 |nil=>rfl
 |cons p r=>
  obtain⟨k,d⟩:=p;have:=h (k,d) bD;cases k<;>first|rfl|exact absurd rfl this
theorem CT:∀ {kss:bv},(∀ k∈kss,bS k=af/\cU k<=6)->gC (kss.map cD)=aa kss
 |[],_=>rfl
 |k::r,h=>by
  show(if bS k=af/\cU k<=6 then(gC (r.map cD)).bind λkss=>aa (k::kss) else ab)=_
  rw[if_pos (h k bD),CT λx m=>h x (bI _ m)]
  rfl
theorem Yo {kss:bv}(h:∀ k∈kss,bS k=af/\cU k<=6)(hl:kss.length<=100000):HF [.tuple (kss.map cD)]=aa (.tuple ((eA kss).map cD)):=by
 show((gC (kss.map cD)).bind λKK=>if (kss.map cD).length<sizeLine then aa (cD ((eA KK).map cD)) else ab)=_
 rw[CT h,bQ,if_pos (tJ (by simpa using hl))]
end L2
namespace L2
open PySem PySem.Spec PyProof.Rows
variable {fi:AF}{T:aA->be->Option be}{t:BF}{f:EF}{n:Nat}{d:aA}
variable {F G:SF}{Y:aQ}{P:Out->Prop}{m:Md}
theorem mS {α β:Type}{T:aA->aQ->Option aQ}{xs:List α}{q:α->aA}(g:β->α->β)(I:Nat->β->aQ->Prop){b0:β}(h:aV m fi Y=aa (xs.map q))(h0:I 0 b0 Y)
  (step:∀ i x b Y,xs[i]?=aa x->I i b Y->∃ ρ1,T (q x) Y=aa ρ1/\Goes F ρ1 λo=>∃ ρ2,(o=.nx ρ2\/o=.ct ρ2)/\I (i+1) (g b x) ρ2) (k:∀ ρ',I xs.length (xs.foldl g b0) ρ'->P (.nx ρ')):Goes (iX m fi T F) Y P:=by
 refine qX (λi Y=>I i ((xs.take i).foldl g b0) Y) h h0 (λi d Y hd p=>?_) (λρ' p=>k ρ' (by simpa using p))
 rw[eD] at hd;obtain⟨x,hx,rfl⟩:=fG.1 hd;obtain⟨ρ1,e1,g1⟩:=step i x _ Y hx p;refine⟨ρ1,e1,g1.mono λo ⟨ρ2,e,q⟩=>⟨ρ2,e,?_⟩⟩
 have:xs.take (i+1)=xs.take i++[x]:=by rw[qB,hx];rfl
 rw[this,qC];exact q
def aft (F:SF)(T:aA->aQ->Option aQ)(ds:aag):Out->Option Out
 |.nx Y=>iJ F T ds Y
 |.ct Y=>iJ F T ds Y
 |.bk Y=>aa (.nx Y)
 |.rt d=>aa (.rt d)
theorem VM{Y:be}{α:Type}{q:α->aA}(p:α->Bool)(g:α->aA):∀ (xs:List α),
  (∀ x∈xs,∃ ρ1,T (q x) Y=aa ρ1/\t ρ1=aa (p x)/\(p x=af->f ρ1=aa (g x)))->nr T t f Y (xs.map q)=aa ((xs.filter p).map g)
 |[],_=>rfl
 |x::xs,h=>by
  obtain⟨ρ1,e1,e2,e3⟩:=h x bD;have ih:=VM p g xs λy m=>h y (bI _ m)
  show((T (q x) Y).bind λρ1=>(t ρ1).bind λc=>if c=af then(f ρ1).bind λy=>(nr T t f Y (xs.map q)).bind λys=>aa (y::ys) else nr T t f Y (xs.map q))=_
  grind
theorem iB {cap:po}{Y:be}{α:Type}{xs:List α}{q:α->aA}(p:α->Bool)(g:α->aA)(h1:fi Y=aa (xs.map q))(h2:xs.length<=100000)
  (h:∀ x∈xs,∃ ρ1,T (q x) (lB cap Y)=aa ρ1/\t ρ1=aa (p x)/\(p x=af->f ρ1=aa (g x))):dq cap fi T t f Y=aa (.list ((xs.filter p).map g)):=by
 unfold dq;rw[h1,bQ,VM p g xs h,bQ,if_pos (gY (by simpa using h2))]
theorem qY {cap:po}{Y:be}{α:Type}{xs:List α}{q:α->aA}(g:α->aA)(h1:fi Y=aa (xs.map q))(h2:xs.length<=100000)
  (h:∀ x∈xs,∃ ρ1,T (q x) (lB cap Y)=aa ρ1/\t ρ1=aa af/\f ρ1=aa (g x)):dq cap fi T t f Y=aa (.list (xs.map g)):=by
 have:=iB (λ_=>af) g h1 h2 λx m=>let ⟨ρ1,a,b,c⟩:=h x m;⟨ρ1,a,b,λ_=>c⟩
 rwa [uG.2 λ_ _=>rfl] at this
theorem BZ {i:Nat}(h:eV n m f Y=aa d)(hl:i<Y.length):fM i n m f Y=aa (.nx (Y.set i (aa (n,d)))):=by
 obtain⟨o,e,q⟩:=BV (P:=λo=>o=.nx (Y.set i (aa (n,d)))) h hl rfl
 rw[e,q]
theorem bK {i:Nat}(h:f (vS Y)=aa d)(hl:i<Y.length)(k:Goes G (Y.set i (aa (n,d))) P):Goes (aN (fM i n .s f) G) Y P:=fI (BZ h hl) k
theorem CH {i:Nat}(h:f (vA Y)=aa d)(hf:fJ n d=af)(hl:i<Y.length)(k:Goes G (Y.set i (aa (n,d))) P):Goes (aN (fM i n .a f) G) Y P:=
 fI (BZ (by show((f (vA Y)).bind λd=>if fJ n d=af then aa d else ab)=_;rw[h,bQ,if_pos hf]) hl) k
theorem RV {fa:EF}{g:aA->aah}{Y:be}{a:aA}(h:fa Y=aa a)(h3:g a=aa d):ff g fa Y=aa d:=by
 unfold ff;rw[h];exact h3
theorem aR{g:AF}{Y:be}{ds:aag}(h:f Y=aa d)(h2:g Y=aa ds):aM f g Y=aa (d::ds):=by
 unfold aM;rw[h,h2]
 rfl
end L2
namespace L2
def cW {α:Type}[DecidableEq α](ak:List α)(z:α):List α:=if z∈ak then ak else ak++[z]
def dO {α:Type}[DecidableEq α](zs:List α):List α:=zs.foldl cW []
section
variable {α:Type}[DecidableEq α]
theorem Anu {ak:List α}{z x:α}:x∈cW ak z↔x∈ak\/x=z:=by
 unfold cW
 grind
theorem KL {x:α}:∀ (zs ak:List α),x∈zs.foldl cW ak↔x∈ak\/x∈zs
 |[],ak=>by simp
 |z::zs,ak=>by
  rw[hJ,KL zs,Anu]
  grind
theorem Aa7 {x:α}{zs:List α}:x∈dO zs↔x∈zs:=by
 unfold dO;rw[KL];simp
theorem VJ (ak:List α)(z:α):(cW ak z).length<=ak.length+1:=by
 unfold cW;split<;>simp
theorem yU:∀ (zs ak:List α),(zs.foldl cW ak).length<=ak.length+zs.length
 |[],ak=>by simp
 |z::zs,ak=>by
  have h1:=yU zs (cW ak z);have h2:=VJ ak z
  grind
end
open PySem PySem.Spec PyProof.Rows
variable {R:aA->Prop}{kds:dL}
noncomputable def cL (r:aaj):aA:=.tuple (r.map aU)
def cK (rs:ii):aA:=.list (rs.map cL)
theorem HU {Y:aQ}{P:Out->Prop}{i:Nat}{f g:EF}{d:aA}{j:Int}{jn:Nat}{ds:aag}(h:f (vS Y)=aa d)(hg:getL i Y=aa ds)(hk:g (vS Y)=aa (.int j))(hj:jg ds.length j=aa jn)(k:P (.nx (Y.set i (aa (1,.list (ds.set jn d)))))):Goes (sT i .s f .s g) Y P:=by
 refine⟨_,?_,k⟩;have e1:eV 0 .s f Y=aa d:=h;have e2:eV 0 .s g Y=aa (.int j):=hk;unfold sT
 grind
theorem CD {n j:Nat}(h:j<n):jg n (j:Int)=aa j:=by
 unfold jg
 grind
theorem nF {ds:aag}{f:EF}{lo hi:OF}{Y:be}{l u:aar}(e1:f Y=aa (.list ds))(e2:lo Y=aa l)(e3:hi Y=aa u):fU f lo hi Y=aa (.list (cutD ds l u)):=by
 unfold fU
 grind
theorem vJ {fd fk fx:EF}{Y:be}{kds:dL}{kd x:aA}{key:aG}(h1:fd Y=aa (.dict kds))(h2:fk Y=aa kd)(ha:cC kd=aa key)(h3:fx Y=aa x)(hp:ic kds=af:=by first|assumption|rfl|simp):qW fd fk fx Y=aa ((cM kds key).getD x):=by
 unfold qW;rw[h1,bQ,h2,bQ,h3,bQ];show(if ic kds=af then(cC kd).bind λk=>aa ((cM kds k).getD x) else ab)=_
 rw[if_pos hp,ha]
 rfl
end L2
namespace L2
open PySem PySem.Spec PyProof.Rows
variable {F G:SF}{Y:aQ}{P:Out->Prop}{m:Md}
def fP {α β:Type}(g:β->α->Option β):β->List α->Option β
 |b,[]=>aa b
 |b,x::xs=>(g b x).bind λb'=>fP g b' xs
def BI {β:Type}(I:β->aQ->Prop)(r:aA)(t:Option β)(o:Out):Prop:=match t with
 |none=>o=.rt r
 |some b=>∃ ρ2,o=.nx ρ2/\I b ρ2
def zK {β:Type}(I:β->aQ->Prop)(r:aA)(t:Option β)(o:Out):Prop:=match t with
 |none=>o=.rt r
 |some b=>∃ ρ2,(o=.nx ρ2\/o=.ct ρ2)/\I b ρ2
theorem Bf {α β:Type}(g:β->α->Option β)(x:α):∀ (xs:List α) (b:β),fP g b (xs++[x])=(fP g b xs).bind λb'=>g b' x
 |[],b=>by
  show((g b x).bind λb'=>aa b')=g b x
  cases g b x<;>rfl
 |y::ys,b=>by
  show((g b y).bind λb'=>fP g b' (ys++[x]))=((g b y).bind λb'=>fP g b' ys).bind _
  cases g b y with
  |none=>rfl
  |some b'=>exact Bf g x ys b'
theorem TV {T:aA->aQ->Option aQ}{α β:Type}{q:α->aA}(g:β->α->Option β)(I:β->aQ->Prop)(r:aA){all:List α}{b0:β}
  (step:∀ pre x post b Y,all=pre++x::post->fP g b0 pre=aa b->I b Y->∃ ρ1,T (q x) Y=aa ρ1/\Goes F ρ1 (zK I r (g b x))):∀ {xs pre:List α} {b:β} {Y:aQ},all=pre++xs->fP g b0 pre=aa b->I b Y->∃ o,iJ F T (xs.map q) Y=aa o/\BI I r (fP g b xs) o
 |[],pre,b,Y,_,_,h0=>⟨_,rfl,Y,rfl,h0⟩
 |x::xs,pre,b,Y,ha,hb,h0=>by
  obtain⟨ρ1,e1,o,e2,h⟩:=step pre x xs b Y ha hb h0;have e:iJ F T ((x::xs).map q) Y=aft F T (xs.map q) o:=by
   show((T (q x) Y).bind λρ1=>(F ρ1).bind λo=>_)=_
   rw[e1,bQ,e2,bQ];cases o<;>rfl
  rw[e];show ∃ o',aft F T (xs.map q) o=aa o'/\BI I r ((g b x).bind λb'=>fP g b' xs) o'
  cases hg:g b x with
  |none=>
   rw[hg] at h;subst h;exact⟨_,rfl,rfl⟩
  |some b'=>
   rw[hg] at h;obtain⟨ρ2,ho,i2⟩:=h;obtain⟨o',e',h'⟩:=TV g I r step (pre:=pre++[x]) (by simpa using ha) (by rw[Bf,hb];exact hg) i2
   rcases ho with rfl|rfl
   .exact⟨o',e',h'⟩
   .exact⟨o',e',h'⟩
theorem Yk {α β:Type}{fi:AF}{T:aA->aQ->Option aQ}{xs:List α}{q:α->aA}{b0:β}(g:β->α->Option β)(I:β->aQ->Prop)(r:aA)(h:aV m fi Y=aa (xs.map q))(h0:I b0 Y)
  (step:∀ pre x post b Y,xs=pre++x::post->fP g b0 pre=aa b->I b Y->∃ ρ1,T (q x) Y=aa ρ1/\Goes F ρ1 (zK I r (g b x))):Goes (iX m fi T F) Y (BI I r (fP g b0 xs)):=by
 obtain⟨o,e,h'⟩:=TV g I r step (xs:=xs) (pre:=[]) (by simp) rfl h0
 exact⟨o,CJ h e,h'⟩
theorem Uu {β:Type}(I:β->aQ->Prop)(r:aA)(t:Option β)(h:Goes F Y (BI I r t))(k1:t=ab->P (.rt r))(k2:∀ b,t=aa b->∀ ρ',I b ρ'->Goes G ρ' P):Goes (aN F G) Y P:=by
 obtain⟨o,e,h⟩:=h;cases t with
 |none=>
  subst h;exact CS e (k1 rfl)
 |some b=>
  obtain⟨ρ2,rfl,i2⟩:=h;exact fI e (k2 b rfl ρ2 i2)
noncomputable def dN (p:aD×Int):aA×aA:=(.str p.1,.int p.2)
def DN (kn:on):dL:=kn.map dN
noncomputable def bP (kn:on)(z:aD):aar:=(kn.find? λp=>decide (p.1=z)).map (·.2)
theorem yC (kn:on)(z:aD):cM (DN kn) (.inr z)=(bP kn z).map aU:=by
 unfold cM bP DN;induction kn with
 |nil=>rfl
 |cons p r ih=>
  rw[dB,iW,iW];have e:cC (dN p).1=aa (.inr p.1):=rfl;rw[e];by_cases h:p.1=z
  .simp[h,dN]
  .have h':¬ (aa (fR p.1:aG)=aa (fR z)):=λq=>h (by injection q with q;injection q)
   rw[decide_eq_false h',decide_eq_false h];exact ih
theorem VY (kn:on)(i:Int):cM (DN kn) (.inl i)=ab:=by
 unfold cM DN;have:((kn.map dN).find? λkd=>decide (cC kd.1=aa (.inl i)))=ab:=by
  rw[PC];intro kd m;obtain⟨p,_,rfl⟩:=bG.1 m;simp[dN,cC]
 rw[this]
 rfl
theorem II {kn:on}{z:aD}(h:bP kn z=ab)(v:Int):putD (DN kn) (.inr z) (.int v)=DN (kn++[(z,v)]):=by
 unfold putD DN;rw[if_neg (λq=>by
  obtain⟨kd,m,e⟩:=PJ.1 q;obtain⟨p,mp,rfl⟩:=bG.1 m;have e':p.1=z:=by
   have:=of_decide_eq_true e;injection this with this;injection this
  have:=PC.1 (OH.1 h) p mp;exact this (decide_eq_true e')),hG]
 rfl
theorem yR {kn:on}{z:aD}(h:bP kn z=ab)(v:Int)(y:aD):bP (kn++[(z,v)]) y=if y=z then aa v else bP kn y:=by
 unfold bP at *;rw[Jj];by_cases e:y=z
 .subst e;rw[if_pos rfl,OH.1 h];simp
 .rw[if_neg e];have e':¬ z=y:=λq=>e q.symm
  cases q:kn.find? λp=>decide (p.1=y) with
  |none=>simp[e']
  |some p=>rfl
def gX (kn:on)(p:aG×Int):Option on:=match p.1 with
 |.inl i=>if p.2=i then aa kn else ab
 |.inr z=>match bP kn z with
  |some u=>if p.2=u then aa kn else ab
  |none=>aa (kn++[(z,p.2)])
theorem vU:∀ {ps:aaf} {kn bp:on},fP gX kn ps=aa bp ->
  (∀ z u,bP kn z=aa u->bP bp z=aa u)/\(∀ p∈ps,(∀ i,p.1=.inl i->p.2=i)/\∀ z,p.1=.inr z->bP bp z=aa p.2)/\(∀ z u,bP bp z=aa u->bP kn z=aa u\/∃ p∈ps,p.1=.inr z)
 |[],kn,bp,h=>by
  cases h;exact⟨λ_ _ e=>e,λ_ m=>by simp at m,λ_ _ e=>.inl e⟩
 |(.inl i,v)::ps,kn,bp,h=>by
  obtain⟨k1,e1,e2⟩:=ar (show((gX kn (.inl i,v)).bind λb'=>fP gX b' ps)=aa bp from h)
  obtain⟨hv,rfl⟩:=cJ e1;obtain⟨a,b,c⟩:=vU e2;refine⟨a,λp m=>?_,λz u e=>(c z u e).imp id λ⟨p,m,q⟩=>⟨p,bI _ m,q⟩⟩
  rcases cI.1 m with rfl|m
  .exact⟨λi' q=>(by cases q;exact hv),λz q=>(by cases q)⟩
  .exact b p m
 |(.inr z,v)::ps,kn,bp,h=>by
  obtain⟨k1,e1,e2⟩:=ar (show((gX kn (.inr z,v)).bind λb'=>fP gX b' ps)=aa bp from h)
  obtain⟨a,b,c⟩:=vU e2;cases hl:bP kn z with
  |some u=>
   have e1:(match bP kn z with|some u=>if v=u then aa kn else ab|none=>aa (kn++[(z,v)]))=aa k1:=e1
   rw[hl] at e1;obtain⟨hv,rfl⟩:=cJ e1;refine⟨a,λp m=>?_,λz' u' e=>(c z' u' e).imp id λ⟨p,m,q⟩=>⟨p,bI _ m,q⟩⟩
   rcases cI.1 m with rfl|m
   .exact⟨λi' q=>(by cases q),λz' q=>(by cases q;rw[a z u hl,hv])⟩
   .exact b p m
  |none=>
   have e1:(match bP kn z with|some u=>if v=u then aa kn else ab|none=>aa (kn++[(z,v)]))=aa k1:=e1
   rw[hl] at e1;cases e1;refine⟨λy u e=>a y u (by rw[yR hl,if_neg λq=>by rw[q,hl] at e;cases e];exact e),λp m=>?_,λy u e=>?_⟩
   .rcases cI.1 m with rfl|m
    .exact⟨λi' q=>(by cases q),λz' q=>(by cases q;exact a z v (by rw[yR hl,if_pos rfl]))⟩
    .exact b p m
   .rcases c y u e with q|⟨p,m,q⟩
    .rw[yR hl] at q;by_cases hy:y=z
     .exact .inr ⟨_,bD,by rw[hy]⟩
     .rw[if_neg hy] at q;exact .inl q
    .exact .inr ⟨p,bI _ m,q⟩
theorem yK:∀ {ps:aaf} {kn:on},(∀ p∈ps,∀ i,p.1=.inl i->p.2=i)->(∀ p∈ps,∀ z u,p.1=.inr z->bP kn z=aa u->p.2=u)->(∀ p∈ps,∀ p'∈ps,∀ z,p.1=.inr z->p'.1=.inr z->p.2=p'.2)->∃ bp,fP gX kn ps=aa bp
 |[],kn,_,_,_=>⟨kn,rfl⟩
 |(.inl i,v)::ps,kn,h1,h2,h3=>by
  obtain⟨bp,e⟩:=yK (λp m=>h1 p (bI _ m)) (λp m=>h2 p (bI _ m)) (λp m p' m'=>h3 p (bI _ m) p' (bI _ m'))
  refine⟨bp,?_⟩;show((if v=i then aa kn else ab).bind λb'=>fP gX b' ps)=aa bp
  rw[if_pos (h1 _ bD i rfl)];exact e
 |(.inr z,v)::ps,kn,h1,h2,h3=>by
  cases hl:bP kn z with
  |some u=>
   obtain⟨bp,e⟩:=yK (λp m=>h1 p (bI _ m)) (λp m=>h2 p (bI _ m)) (λp m p' m'=>h3 p (bI _ m) p' (bI _ m'))
   refine⟨bp,?_⟩;show((match bP kn z with|some u=>if v=u then aa kn else ab|none=>aa (kn++[(z,v)])).bind λb'=>fP gX b' ps)=aa bp
   rw[hl];show((if v=u then aa kn else ab).bind λb'=>fP gX b' ps)=aa bp
   rw[if_pos (h2 _ bD z u rfl hl)];exact e
  |none=>
   obtain⟨bp,e⟩:=yK (λp m=>h1 p (bI _ m)) (λp m y u q e=>by
    rw[yR hl] at e;by_cases hy:y=z
    .rw[if_pos hy] at e;cases e;exact h3 p (bI _ m) _ bD z (by rw[q,hy]) rfl
    .rw[if_neg hy] at e;exact h2 p (bI _ m) y u q e) (λp m p' m'=>h3 p (bI _ m) p' (bI _ m'))
   refine⟨bp,?_⟩;show((match bP kn z with|some u=>if v=u then aa kn else ab|none=>aa (kn++[(z,v)])).bind λb'=>fP gX b' ps)=aa bp
   rw[hl];exact e
end L2
namespace Aw
open PySem L2
variable {x:Bool}{f:EF}{Y:be}{F:SF}{T:aA->aQ->Option aQ}{fa:AF}{n:Nat}{t:aD}
abbrev s0 (d:aA):L2.Slot:=aa (0,d)
theorem rC (a b:Int):cy (.int a) (.int b)=aa (.bool (decide (a=b))):=by
 congr 2
theorem mT {α:Type}{q:α->aA}{xs:List α}{j:Nat}{x:α}(h:xs[j]?=aa x):aq (.list (xs.map q)) (.int j)=aa (q x):=pS (by rw[eD,h];rfl)
theorem Wu {α:Type}(q:α->aA)(xs:List α)(l u:aar):∃ ys:List α,cutD (xs.map q) l u=ys.map q/\ys.length<=xs.length/\∀ y∈ys,y∈xs:=by
 refine⟨(xs.drop (HT.sIx (xs.map q).length 0 l)).take (HT.sIx (xs.map q).length (xs.map q).length u-HT.sIx (xs.map q).length 0 l),?_,?_,?_⟩
 .unfold cutD;rw[<-wV,<-wU]
 all_goals grind
abbrev tK (ks:aam):aA:=.tuple (ks.map kD)
abbrev tI (row:aaj):aA:=.tuple (row.map aU)
def RA:Option (on)->aA
 |none=>.none
 |some kn=>.dict (DN kn)
def SC (p:aG×Int):aA:=pairD (kD p.1) (.int p.2)
theorem Zg (ks:aam)(row:aaj):AM pairD (ks.map kD) (row.map aU)=(ks.zip row).map SC:=by
 rw[List.zipWith_map,List.zip,List.map_zipWith]
 rfl
theorem Ex (k:aG):eT "str" (kD k)=aa (.bool (match k with|.inr _=>af|.inl _=>ah)):=by
 cases k<;>simp[eT,nC,tw,kD]
theorem ne_int (a b:Int):ib (.int a) (.int b)=aa (.bool (decide (a≠b))):=by
 have:bW (.int a) (.int b)=decide (a=b):=by
  rw[show bW (.int a) (.int b)=(a==b) by simp[bW],nV]
  simp
 simp[ib,dI,noDict,fE,this]
def fA (ks:aam)(row:aaj)(kn:on):Option on:=if row.length=ks.length then fP gX kn (ks.zip row) else ab
theorem IT (ds:aag):dM [.tuple ds]=aa (.int ds.length):=by simp[dM]
theorem Qw {ks:aam}{row:aaj}{g:EF}(h1:f Y=aa (tI row))(h2:g Y=aa (tK ks)) :
  ai ib (aK dM (aM f dD)) (aK dM (aM g dD)) Y=aa (.bool (decide (row.length≠ks.length))):=by
 refine aL (aW (aR h1 rfl) (by rw[IT,bT])) (aW (aR h2 rfl) (by rw[IT,bT])) ?_
 rw[ne_int]
 congr 2
 lia
theorem dJ{b:Bool}(h:f Y=aa (.bool b)):br f Y=aa b:=by
 unfold br;rw[h]
 rfl
theorem A0d (L:L2.Slot)(R K:L2.Slot)(kn:on)(hkn:kn.length<=1000)(p:aG×Int)(x6:L2.Slot) :
  Goes (aN (uc 6 3 .s (br (ff (eT "str") (bR 4))) .s (bR 4) .s (bR 5) .s (bR 4)) (qg .s (br (ai ib (bR 5) (bR 6))) (mM 1 .s (eC .none)) dQ)) [L,R,K,aa (1,.dict (DN kn)),aa (0,kD p.1),aa (0,.int p.2),x6]
   (zK (λbp ρ'=>∃ x4 x5 x6:L2.Slot,ρ'=[L,R,K,aa (1,.dict (DN bp)),x4,x5,x6]) .none (gX kn p)):=by
 have lz:(DN kn).length<sizeLine:=tJ (by simp[DN];lia)
 obtain⟨t,v⟩:=p;cases t with
 |inl i=>
  have e1:uc 6 3 .s (br (ff (eT "str") (bR 4))) .s (bR 4) .s (bR 5) .s (bR 4) [L,R,K,aa (1,.dict (DN kn)),aa (0,.int i),aa (0,.int v),x6]=aa (.nx [L,R,K,aa (1,.dict (DN kn)),aa (0,.int i),aa (0,.int v),aa (0,.int i)]):=by
   have b:bV .s (br (ff (eT "str") (bR 4))) [L,R,K,aa (1,.dict (DN kn)),aa (0,.int i),aa (0,.int v),x6]=aa ah:=dJ (RV (a:=.int i) rfl (Ex (.inl i)));unfold uc
   rfl
  refine fI e1 ?_;have e2:bV .s (br (ai ib (bR 5) (bR 6))) [L,R,K,aa (1,.dict (DN kn)),aa (0,.int i),aa (0,.int v),aa (0,.int i)]=aa (decide (v≠i)):=dJ (aL (a:=.int v) (b:=.int i) rfl rfl (ne_int v i));by_cases h:v=i
  .refine iY (e2.trans (by simp[h])) (gW ?_)
   show zK _ _ (if v=i then aa kn else ab) _
   rw[if_pos h];exact⟨_,.inl rfl,_,_,_,rfl⟩
  .refine fV (e2.trans (by simp[h])) (cB (d:=.none) rfl ?_)
   show zK _ _ (if v=i then aa kn else ab) _
   rw[if_neg h]
   rfl
 |inr z=>
  have b:bV .s (br (ff (eT "str") (bR 4))) [L,R,K,aa (1,.dict (DN kn)),aa (0,.str z),aa (0,.int v),x6]=aa af:=dJ (RV (a:=.str z) rfl (Ex (.inr z)));cases hl:bP kn z with
  |some u=>
   have e1:uc 6 3 .s (br (ff (eT "str") (bR 4))) .s (bR 4) .s (bR 5) .s (bR 4) [L,R,K,aa (1,.dict (DN kn)),aa (0,.str z),aa (0,.int v),x6]=aa (.nx [L,R,K,aa (1,.dict (DN kn)),aa (0,.str z),aa (0,.int v),aa (0,.int u)]):=by
    unfold uc;show(if 6<7/\(DN kn).length<sizeLine then aa (Out.nx (match cM (DN kn) (.inr z) with
     |some u=>[L,R,K,aa (1,.dict (DN kn)),aa (0,.str z),aa (0,.int v),aa (0,u)]
     | none=>[L,R,K,aa (1,.dict (putD (DN kn) (.inr z) (.int v))),aa (0,.str z),aa (0,.int v),aa (0,.int v)])) else ab)=_
    rw[if_pos ⟨(),lz⟩,yC,hl]
    rfl
   refine fI e1 ?_;have e2:bV .s (br (ai ib (bR 5) (bR 6))) [L,R,K,aa (1,.dict (DN kn)),aa (0,.str z),aa (0,.int v),aa (0,.int u)]=aa (decide (v≠u)):=dJ (aL (a:=.int v) (b:=.int u) rfl rfl (ne_int v u));have ef:gX kn (.inr z,v)=if v=u then aa kn else ab:=by
    show(match bP kn z with|some u=>if v=u then aa kn else ab|none=>aa (kn++[(z,v)]))=_
    rw[hl]
   rw[ef];by_cases h:v=u
   .refine iY (e2.trans (by simp[h])) (gW ?_)
    rw[if_pos h];exact⟨_,.inl rfl,_,_,_,rfl⟩
   .refine fV (e2.trans (by simp[h])) (cB (d:=.none) rfl ?_)
    rw[if_neg h]
    rfl
  |none=>
   have e1:uc 6 3 .s (br (ff (eT "str") (bR 4))) .s (bR 4) .s (bR 5) .s (bR 4) [L,R,K,aa (1,.dict (DN kn)),aa (0,.str z),aa (0,.int v),x6]=aa (.nx [L,R,K,aa (1,.dict (DN (kn++[(z,v)]))),aa (0,.str z),aa (0,.int v),aa (0,.int v)]):=by
    unfold uc;show(if 6<7/\(DN kn).length<sizeLine then aa (Out.nx (match cM (DN kn) (.inr z) with
     |some u=>[L,R,K,aa (1,.dict (DN kn)),aa (0,.str z),aa (0,.int v),aa (0,u)]
     | none=>[L,R,K,aa (1,.dict (putD (DN kn) (.inr z) (.int v))),aa (0,.str z),aa (0,.int v),aa (0,.int v)])) else ab)=_
    rw[if_pos ⟨(),lz⟩,yC,hl,II hl]
    rfl
   refine fI e1 ?_;have ef:gX kn (.inr z,v)=aa (kn++[(z,v)]):=by
    show(match bP kn z with|some u=>if v=u then aa kn else ab|none=>aa (kn++[(z,v)]))=_
    rw[hl]
   rw[ef];exact iY ((dJ (aL (a:=.int v) (b:=.int v) rfl rfl (ne_int v v))).trans (by simp)) (gW ⟨_,.inl rfl,_,_,_,rfl⟩)
theorem IW:∀ {ps:aaf} {kn bp:on},fP gX kn ps=aa bp->bp.length<=kn.length+ps.length
 |[],kn,bp,h=>by cases h;simp
 |p::ps,kn,bp,h=>by
  obtain⟨k1,e1,e2⟩:=ar (show((gX kn p).bind λb'=>fP gX b' ps)=aa bp from h)
  have h1:=IW e2;have h2:k1.length<=kn.length+1:=by
   unfold gX at e1
   grind
  rw[eX]
  lia
theorem DB (a b:aG):bW (kD a) (kD b)=decide (a=b):=by
 cases a with
 |inl i=>cases b with
  |inl j=>
   rw[show bW (kD (.inl i)) (kD (.inl j))=(i==j) by simp[kD,bW],nV]
   simp
  |inr y=>simp[kD,bW]
 |inr x=>cases b with
  |inl j=>simp[kD,bW]
  |inr y=>
   rw[show bW (kD (.inr x)) (kD (.inr y))=(x==y) by simp[kD,bW],nV]
   simp
theorem Ur (a b:aG):cy (kD a) (kD b)=aa (.bool (decide (a=b))):=by
 have h1:∀ k:aG,dI (kD k)=af:=λk=>by cases k<;>rfl
 unfold cy;rw[h1 a,h1 b,DB]
 rfl
theorem xq (kn:on):ic (DN kn)=af:=MU λkd m=>by
 obtain⟨p,_,rfl⟩:=bG.1 m;exact λq=>nomatch q
theorem Gm {c:Prop}[Decidable c]{α:Type}{a:Option α}{b:α}(h:(if c then a else ab)=aa b):c/\a=aa b:=by
 grind
def putN (kn:on)(z:aD)(v:Int):on:=if (bP kn z).isSome=af then kn.map λp=>if p.1=z then(p.1,v) else p else kn++[(z,v)]
theorem Qi (kn:on)(z:aD)(v:Int):putD (DN kn) (.inr z) (.int v)=DN (putN kn z v):=by
 unfold putN;cases h:bP kn z with
 |none=>exact II h v
 |some u=>
  rw[if_pos (show(aa u).isSome=af from rfl)]
  unfold putD DN;have hy:((kn.map dN).any λkd=>decide (cC kd.1=aa (.inr z)))=af:=by
   obtain⟨p,e,_⟩:=fG.1 h;refine PJ.2 ⟨dN p,bG.2 ⟨p,OT e,rfl⟩,?_⟩;have:p.1=z:=by simpa using Ji e
   show decide (aa (fR p.1:aG)=aa (fR z))=af;rw[this];simp
  rw[if_pos hy,dF,dF];refine iH λp _=>?_
  show(if aa (fR p.1:aG)=aa (fR z) then((dN p).1,aU v) else dN p)=dN (if p.1=z then(p.1,v) else p)
  by_cases e:p.1=z
  .rw[if_pos (by rw[e]),if_pos e];rfl
  all_goals grind
def GN (I:aQ->Prop)(t:aah)(o:Out):Prop:=match t with
 |some r=>o=.rt r
 |none=>∃ ρ2,o=.nx ρ2/\I ρ2
def RN (I:aQ->Prop)(t:aah)(o:Out):Prop:=match t with
 |some r=>o=.rt r
 |none=>∃ ρ2,(o=.nx ρ2\/o=.ct ρ2)/\I ρ2
theorem TY{α:Type}{q:α->aA}(I:aQ->Prop)(g:α->aah):∀ {xs:List α} {Y:aQ},I Y ->
  (∀ x∈xs,∀ Y,I Y->∃ ρ1,T (q x) Y=aa ρ1/\Goes F ρ1 (RN I (g x)))->∃ o,iJ F T (xs.map q) Y=aa o/\GN I (xs.findSome? g) o
 |[],Y,h0,_=>⟨_,rfl,Y,rfl,h0⟩
 |x::xs,Y,h0,step=>by
  obtain⟨ρ1,e1,o,e2,h⟩:=step x bD Y h0;have e:iJ F T ((x::xs).map q) Y=aft F T (xs.map q) o:=by
   show((T (q x) Y).bind λρ1=>(F ρ1).bind λo=>_)=_
   rw[e1,bQ,e2,bQ];cases o<;>rfl
  rw[e,FY];cases hg:g x with
  |some r=>
   rw[hg] at h;subst h;exact⟨_,rfl,rfl⟩
  |none=>
   rw[hg] at h;obtain⟨ρ2,ho,i2⟩:=h;obtain⟨o',e',h'⟩:=TY I g i2 λy m=>step y (bI _ m)
   rcases ho with rfl|rfl
   .exact⟨o',e',h'⟩
   .exact⟨o',e',h'⟩
theorem CY {m:Md}{Y:aQ}{α:Type}{fi:AF}{xs:List α}{q:α->aA}(I:aQ->Prop)(g:α->aah)(h:aV m fi Y=aa (xs.map q))(h0:I Y)
  (step:∀ x∈xs,∀ Y,I Y->∃ ρ1,T (q x) Y=aa ρ1/\Goes F ρ1 (RN I (g x))):Goes (iX m fi T F) Y (GN I (xs.findSome? g)):=by
 obtain⟨o,e,h'⟩:=TY I g h0 step;exact⟨o,CJ h e,h'⟩
theorem CO {G:SF}{Y:aQ}{P:Out->Prop}(I:aQ->Prop)(t:aah)(h:Goes F Y (GN I t))(k1:∀ r,t=aa r->P (.rt r))(k2:t=ab->∀ ρ',I ρ'->Goes G ρ' P):Goes (aN F G) Y P:=by
 obtain⟨o,e,h⟩:=h;cases t with
 |some r=>
  subst h;exact CS e (k1 r rfl)
 |none=>
  obtain⟨ρ2,rfl,i2⟩:=h;exact fI e (k2 rfl ρ2 i2)
theorem Ef {α β:Type}{f g:α->Option β}:∀ {xs:List α},(∀ x∈xs,f x=g x)->xs.findSome? f=xs.findSome? g
 |[],_=>rfl
 |x::xs,h=>by
  rw[FY,FY,h x bD,Ef λy m=>h y (bI _ m)]
theorem Az {α:Type}(q:α->aA)(d0:α)(xs:List α):(xs.map q).mapIdx pV=(bZ xs.length).map λk=>pV k (q (xs.getD k d0)):=by
 apply AS
 .simp
 .intro i h1 h2;simp[(by simpa using h1)]
theorem Ht {α:Type}(q:α->aA)(d0:α){xs:List α}(h:f Y=aa (.tuple (xs.map q))):ki (aM f dD) Y=aa ((bZ xs.length).map λk=>pV k (q (xs.getD k d0))):=by
 unfold ki;rw[aR h rfl,<-Az]
 rfl
theorem JE {α:Type}(q:α->aA)(d0:α){xs:List α}(h:f Y=aa (.list (xs.map q))):ki (aM f dD) Y=aa ((bZ xs.length).map λk=>pV k (q (xs.getD k d0))):=by
 unfold ki;rw[aR h rfl,<-Az]
 rfl
theorem getD_some {α:Type}{xs:List α}{i:Nat}(d0:α)(h:i<xs.length):xs[i]?=aa (xs.getD i d0):=by
 rw[mI,eE h]
 rfl
theorem getD_mem {α:Type}{xs:List α}{i:Nat}(d0:α)(h:i<xs.length):xs.getD i d0∈xs:=eW (getD_some d0 h)
theorem yF {a b:EF}{y:Bool}(h:a Y=aa (.bool x))(h2:x=af->b Y=aa (.bool y)):pB a b Y=aa (.bool (x&&y)):=by
 unfold pB;cases x with
 |true=>rw[h,bQ,show rp (.bool af)=aa af from rfl,bQ,if_pos rfl,h2 rfl];rfl
 |false=>rw[h,bQ,show rp (.bool ah)=aa ah from rfl,bQ,if_neg (by simp)];rfl
theorem iQ{ds:aag}(h:fa Y=aa ds)(hl:ds.length<=1000:=by simp):cV fa Y=aa (.tuple ds):=by
 unfold cV;rw[h,bQ,if_pos (gY ())]
theorem oC{ds:aag}(h:fa Y=aa ds)(hl:ds.length<=1000:=by simp):dC fa Y=aa (.list ds):=by
 unfold dC;rw[h,bQ,if_pos (gY ())]
abbrev Ln:=aD×aam
abbrev aao:=List Ln
def bB (l:Ln):aA:=.tuple [.str l.1,.tuple (l.2.map kD)]
abbrev cu:Ln:=("",[])
theorem yA (a b:aD):cy (.str a) (.str b)=aa (.bool (decide (a=b))):=(Ur (.inr a) (.inr b)).trans (by simp)
theorem EO:∀ (xs ys:aam),iT (xs.map kD) (ys.map kD)=decide (xs=ys)
 |[],[]=>by simp[iT]
 |[],y::ys=>by simp[iT]
 |x::xs,[]=>by simp[iT]
 |x::xs,y::ys=>by
  rw[dB,dB];simp only[iT,DB,EO xs ys];simp
theorem vZ (xs:aam):noDicts (xs.map kD)=af:=yX λt m=>by
 obtain⟨x,_,rfl⟩:=bG.1 m;cases x<;>rfl
theorem yY (xs:aam):cU (xs.map kD)<=1:=yT λt m=>by
 obtain⟨x,_,rfl⟩:=bG.1 m;cases x<;>simp[kD,fE]
theorem UL (xs:aam):dI (tK xs)=af:=by
 have:=yY xs;simp[dI,noDict,vZ,fE]
 lia
theorem Hn (xs:aam):dI (.list (xs.map kD))=af:=by
 have:=yY xs;simp[dI,noDict,vZ,fE]
 lia
theorem Lr (xs ys:aam):cy (.list (xs.map kD)) (.list (ys.map kD))=aa (.bool (decide (xs=ys))):=by
 unfold cy;rw[Hn,Hn,AY,if_pos rfl];have:bW (.list (xs.map kD)) (.list (ys.map kD))=iT (xs.map kD) (ys.map kD):=by simp only[bW]
 rw[this,EO]
def uw:aA->Int
 |.int i=>i
 |_=>0
theorem yE (r:aaj):(r.map aU).map uw=r:=by
 rw[dF];have:(uw∘aU)=id:=rfl;rw[this,AN]
theorem yH (r:aaj):bS (r.map aU)=af:=JW λt m=>by
 obtain⟨i,_,rfl⟩:=bG.1 m
 rfl
theorem EC (r:aaj):cU (r.map aU)<=1:=yT λt m=>by
 obtain⟨i,_,rfl⟩:=bG.1 m;simp[fE]
def fj (R:ii):ii:=(jH (R.map λr=>r.map aU)).map λk=>k.map uw
theorem JL (R:ii):(fj R).Perm R:=by
 have h:=(tP (R.map λr=>r.map aU)).map λk=>k.map uw
 rw[dF] at h;have e:(R.map ((λk=>k.map uw)∘λr=>r.map aU))=R:=by
  have:((λk=>k.map uw)∘λr=>r.map aU)=(id:aaj->aaj):=by funext r;exact yE r
  rw[this,AN]
 rw[e] at h;exact h
theorem Gr {R:ii}{r:aaj}:r∈fj R↔r∈R:=(JL R).mem_iff
theorem Fe (R:ii):(fj R).length=R.length:=(JL R).length_eq
theorem ZR (R:ii):gC (R.map cL)=aa (R.map λr=>r.map aU):=by
 have:=CT (kss:=R.map λr=>r.map aU) λk m=>by
  obtain⟨r,_,rfl⟩:=bG.1 m;have:=EC r;exact⟨yH r,()⟩
 rw[dF] at this;exact this
theorem ZJ:∀ (a b:aaj),a.length=b.length->eM (a.map aU) (b.map aU)=af
 |[],[],_=>rfl
 |x::a,y::b,h=>ZJ a b (by simpa using h)
 |[],_::_,h=>by simp at h
 |_::_,[],h=>by simp at h
theorem Hw {R:ii}(hn:1<=n)(hw:∀ r∈R,r.length=n)(hl:R.length<64):xU [cK R]=aa (cK (fj R)):=by
 show((gC (R.map cL)).bind λkss=>if jm kss=af/\kss.length<64 then aa (jZ ((jH kss).map cD)) else ab)=_
 rw[ZR,bQ];have ok:jm (R.map λr=>r.map aU)=af:=by
  unfold jm;rw[Bool.or_eq_true_iff];refine .inr (jO.2 ⟨eB.2 λk mk=>eB.2 λk' mk'=>?_,eB.2 λk mk=>?_⟩)
  .obtain⟨a,ma,rfl⟩:=bG.1 mk;obtain⟨b,mb,rfl⟩:=bG.1 mk';exact ZJ a b ((hw a ma).trans (hw b mb).symm)
  .obtain⟨a,ma,rfl⟩:=bG.1 mk;have:=hw a ma;cases a with
   |nil=>simp at this;lia
   |cons x r=>rfl
 rw[if_pos ⟨ok,by rw[bT];exact hl⟩]
 unfold cK fj;rw[dF]
 congr 2
 refine iH λk mk=>?_
 obtain⟨a,_,rfl⟩:=bG.1 ((tP _).mem_iff.1 mk);show _=cD (((a.map aU).map uw).map aU);rw[yE]
structure Bk (kds:List (aA×aA))(B:aD->List (List Int))(wd:aD->Nat):Prop where
 pl:ic kds=af
 at_:∀ t,(cM kds (.inr t)).getD (.list [])=cK (B t)
 few:∀ t,(B t).length<64
 pos:∀ t,1<=wd t
 wid:∀ t,∀ r∈B t,r.length=wd t
theorem Bk.get {kds:dL}{B:aD->ii}{wd:aD->Nat}(b:Bk kds B wd){fd fk:EF}(h1:fd Y=aa (.dict kds))(h2:fk Y=aa (.str t)):qW fd fk (dC dD) Y=aa (cK (B t)):=by
 rw[vJ h1 h2 rfl rfl b.pl,b.at_]
theorem nY (c:Int)(n:Nat)(h:0<n):cR (.int c) (.int n)=aa (.int (c%n)):=by
 show(if 0<(n:Int) then aa (aU (c%(n:Int))) else ab)=_
 rw[if_pos ()]
theorem zL (c:Int)(n:Nat)(h:0<n)(h2:n<1000:=by lia):cX (.int c) (.int n)=aa (.int (c/n)):=by
 show(if 0<(n:Int)/\(n:Int)<1073741824 then aa (aU (c/(n:Int))) else ab)=_
 rw[if_pos ()]
theorem sV {a b:Int}(h:a.natAbs<2^64):gG (.int a) (.int b)=aa (.int (a*b)):=by
 show(if (a.natAbs<2^64\/b.natAbs<2^64)\/(a.natAbs<2^1000/\b.natAbs<2^1000) then aa (aU (a*b)) else ab)=_
 rw[if_pos (.inl (.inl h))]
theorem Em {k:Nat}(h:k<=100):qL (.int 10) (.int k)=aa (.int (10^k)):=by
 show(if 0<=(k:Int)/\(k:Int)<=1000000/\(10:Int).natAbs<2^64 then aa (aU (10^(k:Int).toNat)) else ab)=_
 grind
abbrev cn (r:aaj):aA:=.list (r.map aU)
theorem tL {a b:BF}{y:Bool}(h:a Y=aa x)(h2:x=af->b Y=aa y):fT a b Y=aa (x&&y):=by
 unfold fT
 grind
theorem CG {a b:BF}{y:Bool}(h:a Y=aa x)(h2:x=ah->b Y=aa y):tm a b Y=aa (x||y):=by
 unfold tm
 grind
theorem Yj(h:f Y=aa (.bool x)):pE (br f) Y=aa (!x):=by
 unfold pE;rw[dJ h]
 rfl
theorem Ry {xs ys:aag}(h:xs.length+ys.length<=1000):sR (.tuple xs) (.tuple ys)=aa (.tuple (xs++ys)):=by
 show(if xs.length+ys.length<=sizeLine then aa (cD (xs++ys)) else ab)=_
 rw[if_pos (gY ())]
theorem WK (r:aaj):gQ (cL r)=af:=by
 show iO (r.map aU)=af;rw[Ap,eB];intro d m;obtain⟨i,_,rfl⟩:=bG.1 m
 rfl
theorem Fb {j:Nat}(h:j<n):jg n (j:Int)=aa j:=by
 unfold jg;simp
 lia
theorem Lv{x y:aA}{xs ys:aag}(h:fa Y=aa [x,y])(hx:lM x=aa xs)(hy:lM y=aa ys):iZ fa Y=aa (AM pairD xs ys):=by
 unfold iZ
 grind
abbrev Tb:=aD×ii
abbrev aas:=List Tb
def gf (L:aas):dL:=L.map λp=>(dE p.1,cK p.2)
theorem CI {Y:aQ}{P:Out->Prop}{i:Nat}{d:aA}(h:Y[i]?=aa (aa (n,d)))(k:P (.rt d)):Goes (lF i n) Y P:=⟨_,by
 unfold lF;rw[h];show(if n=n then aa (Out.rt d) else ab)=_
 rw[if_pos rfl],k⟩
def fu (L:aas)(t:aD):ii:=((L.find? λp=>decide (p.1=t)).map (·.2)).getD []
theorem DQ (t:aD):∀ L:aas,cM (gf L) (.inr t)=(L.find? λp=>decide (p.1=t)).map λp=>cK p.2
 |[]=>rfl
 |p::L=>by
  show cM ((.str p.1,cK p.2)::gf L) (.inr t)=_;rw[LA,iW];by_cases h:p.1=t
  .rw[if_pos (by rw[h];rfl),decide_eq_true h];rfl
  .rw[if_neg (λe=>h (by injection e with e;injection e)),decide_eq_false h,DQ t L]
theorem Ow (L:aas)(t:aD):(cM (gf L) (.inr t)).getD (.list [])=cK (fu L t):=by
 rw[DQ];unfold fu;cases L.find? λp=>decide (p.1=t)<;>rfl
theorem Sy (L:aas):ic (gf L)=af:=MU λkd m=>by
 obtain⟨p,_,rfl⟩:=bG.1 m;exact λq=>nomatch q
noncomputable def oI:aas->aD->ii->aas
 |[],_,_=>[]
 |p::L,t,R=>if p.1=t then(p.1,R)::L else p::oI L t R
theorem Ga (t:aD)(R:ii):∀ L:aas,pD (gf L) (.inr t) (cK R)=gf (oI L t R)
 |[]=>rfl
 |p::L=>by
  show(if cC (.str p.1)=aa (.inr t) then(dE p.1,cK R)::gf L else(dE p.1,cK p.2)::pD (gf L) (.inr t) (cK R))=gf (if p.1=t then(p.1,R)::L else p::oI L t R)
  by_cases h:p.1=t
  .rw[if_pos (by rw[h];rfl),if_pos h];rfl
  .rw[if_neg (λe=>h (by injection e with e;injection e)),if_neg h,Ga t R L];rfl
theorem DV (t:aD)(R:ii):∀ L:aas,(oI L t R).map (·.1)=L.map (·.1)
 |[]=>rfl
 |p::L=>by
  show(if p.1=t then(p.1,R)::L else p::oI L t R).map (·.1)=_
  by_cases h:p.1=t
  .rw[if_pos h];rfl
  .rw[if_neg h,dB,DV t R L];rfl
theorem Yp {Y ρ':aQ}{P:Out->Prop}{G:SF}{d:aA}(h:f (vS Y)=aa d)(hT:T d Y=aa ρ')(k:Goes G ρ' P):Goes (aN (zI .s f T) G) Y P:=fI (by
 have e:eV 0 .s f Y=aa d:=h;unfold zI;rw[e,bQ,hT]
 rfl) k
theorem find_key {L:aas}(h:t∈L.map (·.1)):∃ p,(L.find? λp=>decide (p.1=t))=aa p:=by
 cases e:L.find? λp=>decide (p.1=t) with
 |some p=>exact⟨p,rfl⟩
 |none=>
  grind
theorem r6 {L:aas}(h:t∉L.map (·.1)):(L.find? λp=>decide (p.1=t))=ab:=PC.2 λp m=>by
 grind
theorem XY {L:aas}(h:t∈L.map (·.1)):cM (gf L) (.inr t)=aa (cK (fu L t)):=by
 obtain⟨p,e⟩:=find_key h;rw[DQ];unfold fu;rw[e]
 rfl
theorem Xa (t:aD)(R:ii):∀ L:aas,(oI L t R).length=L.length:=λL=>by
 have:=congrArg OY (DV t R L);simpa using this
theorem JZ:∀ is:aaj,kC (is.map aU)=aa is
 |[]=>rfl
 |i::is=>by
  show((kC (is.map aU)).bind λr=>aa (i::r))=_
  rw[JZ is]
  rfl
end Aw
namespace L2
open PySem PySem.Spec PyProof.Rows
variable {k j e p:Nat}{l:aam}{v u:aD->Int}{S R:Nat->Prop}{r:aaj}{zs:aal}
def tv (v:aD->Int):aG->Int
 |.inl i=>i
 |.inr z=>v z
section
variable {ls:Nat->aam}
abbrev fH:=Nat->aaj->Prop
def xF (ls:Nat->aam)(S:Nat->Prop)(T:fH)(v:aD->Int):Prop:=∀ k,S k->T k ((ls k).map (tv v))
def Gd (ls:Nat->aam)(S:Nat->Prop)(T:fH)(k:Nat)(r:aaj):Prop:=∃ v,xF ls S T v/\r=(ls k).map (tv v)
def BA (a b:aam)(U:aaj->Prop)(r:aaj):Prop:=∃ u u',r=a.map (tv u)/\U (b.map (tv u'))/\∀ z,(.inr z:aG)∈a->(.inr z:aG)∈b->u z=u' z
def uT (T:fH)(k:Nat)(U:aaj->Prop):fH:=λj=>if j=k then U else T j
theorem BU (T:fH)(k:Nat)(U:aaj->Prop):uT T k U k=U:=if_pos rfl
theorem vH {T:fH}{U:aaj->Prop}(h:j≠k):uT T k U j=T j:=if_neg h
def xJ (ls:Nat->aam)(S:Nat->Prop)(e p:Nat):Prop:=S e/\S p/\e≠p/\∀ z,(.inr z:aG)∈ls e->∀ k,S k->k≠e->(.inr z:aG)∈ls k->(.inr z:aG)∈ls p
def less (S:Nat->Prop)(e:Nat):Nat->Prop:=λk=>S k/\k≠e
def oo (ls:Nat->aam)(T:fH)(e p:Nat):fH:=uT T p λr=>T p r/\BA (ls p) (ls e) (T e) r
def V' (ls:Nat->aam)(T:fH)(e p:Nat):fH:=uT T e λr=>T e r/\BA (ls e) (ls p) (T p) r
theorem JH(h:l.map (tv v)=l.map (tv u)){z:aD}(m:(.inr z:aG)∈l):v z=u z:=List.map_inj_left.1 h _ m
theorem yB(h:∀ z,(.inr z:aG)∈l->v z=u z):l.map (tv v)=l.map (tv u):=iH λk m=>by
 cases k with
 |inl i=>rfl
 |inr z=>exact h z m
open Classical in
theorem glue(E:xJ ls S e p)(hp:∀ z,(.inr z:aG)∈ls e->(.inr z:aG)∈ls p->v z=u z):∃ v2:aD->Int,(∀ k,less S e k->(ls k).map (tv v2)=(ls k).map (tv v))/\(ls e).map (tv v2)=(ls e).map (tv u):=by
 refine⟨λz=>if (.inr z:aG)∈ls e then u z else v z,λk hk=>yB λz mz=>?_,yB λz mz=>if_pos mz⟩
 by_cases m:(.inr z:aG)∈ls e
 .rw[if_pos m];exact(hp z m (E.2.2.2 z m k hk.1 hk.2 mz)).symm
 .rw[if_neg m]
theorem SZ{T:fH}(E:xJ ls S e p)(h:xF ls S T v):xF ls (less S e) (oo ls T e p) v:=λk hk=>by
 by_cases q:k=p
 .subst q;unfold oo;rw[BU];exact⟨h k E.2.1,v,v,rfl,h e E.1,λ_ _ _=>rfl⟩
 .unfold oo;rw[vH q];exact h k hk.1
theorem SW {T:fH}(h:oo ls T e p k r):T k r:=by
 unfold oo at h;by_cases q:k=p
 .subst q;rw[BU] at h;exact h.1
 .rwa [vH q] at h
theorem Qr{T:fH}(E:xJ ls S e p)(h:xF ls (less S e) (oo ls T e p) v):∃ v2,xF ls S T v2/\∀ k,less S e k->(ls k).map (tv v2)=(ls k).map (tv v):=by
 have hp:=h p ⟨E.2.1,fZ E.2.2.1⟩;unfold oo at hp;rw[BU] at hp;obtain⟨_,u,u',h1,h2,h3⟩:=hp;obtain⟨v2,a,b⟩:=glue E λz m1 m2=>(JH h1 m2).trans (h3 z m2 m1)
 refine⟨v2,λk hk=>?_,a⟩
 by_cases q:k=e
 .rw[q,b];exact h2
 .rw[a k ⟨hk,q⟩];exact SW (h k ⟨hk,q⟩)
theorem Zp{T Tn:fH}(E:xJ ls S e p)(hn:∀ k,less S e k->∀ r,Tn k r↔Gd ls (less S e) (oo ls T e p) k r)(he:∀ r,Tn e r↔T e r):∀ k,S k->∀ r,V' ls Tn e p k r↔Gd ls S T k r:=λk hk r=>by
 have lp:less S e p:=⟨E.2.1,fZ E.2.2.1⟩;by_cases q:k=e
 .subst q;unfold V';rw[BU];constructor
  .rintro⟨h0,u,u',rfl,h2,h3⟩;obtain⟨v,hv,h4⟩:=(hn p lp _).1 h2;obtain⟨v2,a,b⟩:=glue E λz m1 m2=>(JH h4 m2).symm.trans (h3 z m1 m2).symm
   refine⟨v2,λj hj=>?_,b.symm⟩
   by_cases q:j=k
   .rw[q,b];exact(he _).1 h0
   .rw[a j ⟨hj,q⟩];exact SW (hv j ⟨hj,q⟩)
  .rintro⟨v,hv,rfl⟩;exact⟨(he _).2 (hv k hk),v,v,rfl,(hn p lp _).2 ⟨v,SZ E hv,rfl⟩,λ_ _ _=>rfl⟩
 .unfold V';rw[vH q,hn k ⟨hk,q⟩];constructor
  .rintro⟨v,hv,rfl⟩;obtain⟨v2,h2,a⟩:=Qr E hv;exact⟨v2,h2,(a k ⟨hk,q⟩).symm⟩
  .rintro⟨v,hv,rfl⟩;exact⟨v,SZ E hv,rfl⟩
def vE (ls:Nat->aam):(Nat->Prop)->pi->(Nat->Prop)->Prop
 |S,[],R=>∀ k,S k↔R k
 |S,q::es,R=>xJ ls S q.1 q.2/\vE ls (less S q.1) es R
def xm (ls:Nat->aam)(T:fH)(es:pi):fH:=es.foldl (λT q=>oo ls T q.1 q.2) T
def yh (ls:Nat->aam)(T:fH)(es:pi):fH:=es.reverse.foldl (λT q=>V' ls T q.1 q.2) T
theorem tN:∀ {es:pi} {S:Nat->Prop},vE ls S es R->(∀ k,R k->S k)/\∀ q∈es,S q.1/\S q.2
 |[],S,h=>⟨λk r=>(h k).2 r,λq m=>by simp at m⟩
 |q::es,S,h=>by
  obtain⟨a,b⟩:=tN h.2;refine⟨λk r=>(a k r).1,λx m=>?_⟩
  rcases cI.1 m with rfl|m
  .exact⟨h.1.1,h.1.2.1⟩
  .exact⟨(b x m).1.1,(b x m).2.1⟩
theorem Ep:∀ {es:pi} {T:fH},(∀ q∈es,k≠q.2)->xm ls T es k=T k
 |[],T,_=>rfl
 |q::es,T,h=>by
  show xm ls (oo ls T q.1 q.2) es k=T k;rw[Ep λx m=>h x (bI _ m)]
  exact vH (h q bD)
theorem JK (T:fH)(q:Nat×Nat)(es:pi):yh ls T (q::es)=V' ls (yh ls T es) q.1 q.2:=by
 unfold yh;rw[List.reverse_cons,qC]
 rfl
theorem UN:∀ {es:pi} {T:fH},(∀ q∈es,k≠q.1)->yh ls T es k=T k
 |[],T,_=>rfl
 |q::es,T,h=>by
  rw[JK];exact(vH (h q bD)).trans (UN λx m=>h x (bI _ m))
theorem Bo{Tn:fH}:∀ {es:pi} {S:Nat->Prop} {T:fH},vE ls S es R->(∀ k,R k->∀ r,Tn k r↔Gd ls R (xm ls T es) k r)->(∀ k,¬ R k->Tn k=xm ls T es k)->∀ k,S k->∀ r,yh ls Tn es k r↔Gd ls S T k r
 |[],S,T,h,h1,h2,k,hk,r=>by
  have e:S=R:=funext λk=>propext (h k)
  subst e;exact h1 k hk r
 |q::es,S,T,h,h1,h2,k,hk,r=>by
  obtain⟨E,h⟩:=h;obtain⟨s1,s2⟩:=tN h;rw[JK];refine Zp E (Bo h h1 h2) (λr=>?_) k hk r
  rw[UN λx m z=>(s2 x m).1.2 z.symm,h2 _ (λz=>(s1 _ z).2 rfl)]
  show xm ls (oo ls T q.1 q.2) es q.1 r↔_;rw[Ep λx m z=>(s2 x m).2.2 z.symm]
  unfold oo;rw[vH E.2.2.1]
end
open PySem PySem.Spec PyProof.Rows Aw
theorem rN{p:aG×Int}(m:p∈l.zip (l.map (tv v))):p.1∈l/\p.2=tv v p.1:=by
 obtain⟨j,hj,rfl⟩:=uF m
 grind
theorem C2{k:aG}(m:k∈l):(k,tv v k)∈l.zip (l.map (tv v)):=by
 obtain⟨j,hj,rfl⟩:=uF m;have h:j<(l.zip (l.map (tv v))).length:=by rw[FW,bT,Nat.min_self];exact hj
 have:=nB h
 grind
theorem MY (l:aam)(v:aD->Int):∃ kn,fA l (l.map (tv v)) []=aa kn/\∀ z,(.inr z:aG)∈l->bP kn z=aa (v z):=by
 obtain⟨kn,e⟩:=yK (ps:=l.zip (l.map (tv v))) (kn:=[]) (λp m i q=>by rw[(rN m).2,q];rfl) (λp _ z u _ e=>by cases e) (λp m p' m' z q q'=>by rw[(rN m).2,(rN m').2,q,q'])
 refine⟨kn,?_,λz m=>?_⟩
 .unfold fA
  grind
 .exact((vU e).2.1 _ (C2 m)).2 z rfl
theorem Ua:(∃ kn,fA l r []=aa kn) ↔ ∃ v,r=l.map (tv v):=by
 constructor
 .rintro⟨kn,h⟩;unfold fA at h;by_cases hl:r.length=l.length
  .rw[if_pos hl] at h;obtain⟨_,b,_⟩:=vU h;refine⟨λz=>(bP kn z).getD 0,AS (by rw[bT];exact hl) λj h1 h2=>?_⟩
   rw[List.getElem_map];have hz:j<(l.zip r).length:=by rw[FW];lia
   have:=b (l.zip r)[j] (nB hz);rw[List.getElem_zip] at this;cases hk:l[j] with
   |inl i=>exact this.1 i hk
   |inr z=>
    have e:=this.2 z hk;show r[j]=(bP kn z).getD 0;rw[e]
    rfl
  all_goals grind
 .rintro⟨v,rfl⟩;obtain⟨kn,e,_⟩:=MY l v;exact⟨kn,e⟩
def kZ (l:aam)(zs:aal)(r:aaj):aaj:=zs.map λz=>((fA l r []).bind λkn=>bP kn z).getD 0
theorem CW(h:∀ z∈zs,(.inr z:aG)∈l)(v:aD->Int):kZ l zs (l.map (tv v))=zs.map v:=iH λz m=>by
 obtain⟨kn,e,hl⟩:=MY l v
 grind
def zP (a b:aam)(zs:aal)(R U:ii):ii:=R.filter λr=>(U.map (kZ b zs)).contains (kZ a zs r)
theorem R8 {a b:aam}{R U:ii}(hz:∀ z,z∈zs↔(.inr z:aG)∈a/\(.inr z:aG)∈b)(hR:∀ r∈R,∃ v,r=a.map (tv v))(hU:∀ r∈U,∃ v,r=b.map (tv v)) :
  r∈zP a b zs R U↔r∈R/\BA a b (· ∈ U) r:=by
 unfold zP;rw[kX];refine and_congr_right λmr=>?_
 obtain⟨v,rfl⟩:=hR r mr;rw[List.contains_iff_mem,CW λz m=>((hz z).1 m).1]
 constructor
 .intro m;obtain⟨r',m',e⟩:=bG.1 m;obtain⟨v',rfl⟩:=hU r' m';rw[CW λz m=>((hz z).1 m).2] at e
  exact⟨v,v',rfl,m',λz m1 m2=>(List.map_inj_left.1 e z ((hz z).2 ⟨m1,m2⟩)).symm⟩
 .rintro⟨u,u',e,m',h⟩;refine bG.2 ⟨_,m',?_⟩;rw[CW λz m=>((hz z).1 m).2]
  refine iH λz m=>?_
  obtain⟨m1,m2⟩:=(hz z).1 m;rw[<-h z m1 m2];exact(JH e m1).symm
theorem Asm {a b:aam}{R U:ii}:(zP a b zs R U).Sublist R:=PD
abbrev dG:=List ii
def tb (t:dG):fH:=λk r=>r∈t.getD k []
def jQ (ls:Nat->aam)(t:dG):Prop:=∀ k r,r∈t.getD k []->∃ v,r=(ls k).map (tv v)
theorem DR {t:dG}(hp:p<t.length)(R:ii)(j:Nat):(t.set p R).getD j []=if j=p then R else t.getD j []:=by
 grind
section
variable {ls:Nat->aam}{cm:Nat->Nat->aal}
def Cm (ls:Nat->aam)(cm:Nat->Nat->aal):Prop:=∀ a b z,z∈cm a b↔(.inr z:aG)∈ls a/\(.inr z:aG)∈ls b
def lq (ls:Nat->aam)(cm:Nat->Nat->aal)(t:dG)(k j:Nat):dG:=t.set k (zP (ls k) (ls j) (cm k j) (t.getD k []) (t.getD j []))
theorem vI (t:dG)(k j:Nat):(lq ls cm t k j).length=t.length:=wW
theorem TM (hc:Cm ls cm){t:dG}(hf:jQ ls t)(hk:k<t.length):tb (lq ls cm t k j)=uT (tb t) k λr=>tb t k r/\BA (ls k) (ls j) (tb t j) r:=by
 funext i r;unfold tb lq uT;rw[DR hk];by_cases h:i=k
 .subst h;rw[if_pos rfl,if_pos rfl];exact propext (R8 (hc i j) (hf i) (hf j))
 .rw[if_neg h,if_neg h]
theorem CP {t:dG}(hf:jQ ls t)(hk:k<t.length):jQ ls (lq ls cm t k j):=λi r m=>by
 unfold lq at m;rw[DR hk] at m;by_cases h:i=k
 .subst h;rw[if_pos rfl] at m;exact hf i r (Asm.mem m)
 .rw[if_neg h] at m;exact hf i r m
def qd (ls:Nat->aam)(cm:Nat->Nat->aal)(t:dG)(es:pi):dG:=es.foldl (λt q=>lq ls cm t q.2 q.1) t
def pq (ls:Nat->aam)(cm:Nat->Nat->aal)(t:dG)(es:pi):dG:=es.reverse.foldl (λt q=>lq ls cm t q.1 q.2) t
theorem MT (hc:Cm ls cm):∀ {es:pi} {t:dG},jQ ls t->(∀ q∈es,q.2<t.length)->tb (qd ls cm t es)=xm ls (tb t) es/\jQ ls (qd ls cm t es)/\(qd ls cm t es).length=t.length
 |[],t,hf,_=>⟨rfl,hf,rfl⟩
 |q::es,t,hf,h=>by
  have hq:=h q bD;obtain⟨a,b,c⟩:=MT hc (es:=es) (t:=lq ls cm t q.2 q.1) (CP hf hq) λx m=>by rw[vI];exact h x (bI _ m)
  refine⟨?_,b,c.trans (vI _ _ _)⟩;show tb (qd ls cm (lq ls cm t q.2 q.1) es)=xm ls (oo ls (tb t) q.1 q.2) es;rw[a,TM hc hf hq]
  rfl
theorem N3 (t:dG)(q:Nat×Nat)(es:pi):pq ls cm t (q::es)=lq ls cm (pq ls cm t es) q.1 q.2:=by
 unfold pq
 grind
theorem MR (hc:Cm ls cm):∀ {es:pi} {t:dG},jQ ls t->(∀ q∈es,q.1<t.length)->tb (pq ls cm t es)=yh ls (tb t) es/\jQ ls (pq ls cm t es)/\(pq ls cm t es).length=t.length
 |[],t,hf,_=>⟨rfl,hf,rfl⟩
 |q::es,t,hf,h=>by
  obtain⟨a,b,c⟩:=MR hc hf λx m=>h x (bI _ m)
  have hq:q.1<(pq ls cm t es).length:=by rw[c];exact h q bD
  rw[N3,JK];refine⟨?_,CP b hq,(vI _ _ _).trans c⟩;rw[TM hc b hq,a]
  rfl
theorem IL {t:dG}(hk:k<t.length)(i:Nat):((lq ls cm t k j).getD i []).Sublist (t.getD i []):=by
 unfold lq;rw[DR hk];by_cases h:i=k
 .subst h;rw[if_pos rfl];exact Asm
 all_goals grind
theorem E8 (hc:Cm ls cm){t t2:dG}{es:pi}(hf:jQ ls t)(E:vE ls (λk=>k<t.length) es R)(l2:t2.length=t.length)
  (h1:∀ k,R k->∀ r,r∈t2.getD k []↔Gd ls R (tb (qd ls cm t es)) k r) (h2:∀ k,¬ R k->t2.getD k []=(qd ls cm t es).getD k []) :
  ∀ k,k<t.length->∀ r,r∈(pq ls cm t2 es).getD k []↔Gd ls (λk=>k<t.length) (tb t) k r:=by
 obtain⟨s1,s2⟩:=tN E;obtain⟨a,b,c⟩:=MT hc hf λq m=>(s2 q m).2
 obtain⟨a2,_,_⟩:=MR hc (λk r m=>by
  by_cases q:R k
  .obtain⟨v,_,e⟩:=(h1 k q r).1 m;exact⟨v,e⟩
  .rw[h2 k q] at m;exact b k r m) λq m=>by rw[l2];exact(s2 q m).1
 intro k hk r;have:=Bo (Tn:=tb t2) E (λk q r=>by rw[<-a];exact h1 k q r) (λk q=>by
  rw[<-a];funext r;show(r∈t2.getD k [])=(r∈(qd ls cm t es).getD k []);rw[h2 k q]) k hk r
 rw[<-a2] at this;exact this
end
end L2
namespace J2
variable {Z:Type}(N:Nat->Z->Prop)
def Co (S:Nat->Prop)(k j:Nat):Prop:=∀ z,N k z->N j z\/∀ o,S o->o≠k->¬ N o z
def rm (S:Nat->Prop)(k:Nat):Nat->Prop:=λo=>S o/\o≠k
def P:Nat->(Nat->Prop)->Prop
 |0,S=>∀ a b,S a->S b->a=b
 |n+1,S=>(∀ a b,S a->S b->a=b)\/∃ k p,S k/\S p/\p≠k/\Co N S k p/\P n (rm S k)
end J2
namespace Aw
open PySem L2
variable {n k j m:Nat}{f g:EF}{Y:aQ}{d:aA}{ls:aao}{ds:aag}{l a:Ln}{z:aD}{L:aaq}{ks hd:aam}{kds:dL}{wd:aD->Nat}{r ns:aaj}{zs:aal}{R:ii}{t:dG}{v:aD->Int}{T:aA->aQ->Option aQ}{F:SF}
theorem X'(h:f (vA Y)=aa d)(hf:fJ n d=af):eV n .a f Y=aa d:=by
 show((f (vA Y)).bind λd=>if fJ n d=af then aa d else ab)=_
 rw[h,bQ,if_pos hf]
def iP (l:Ln):Prop:=l.2.length<=6/\∀ k∈l.2,bX (kD k)=af
abbrev lN (cs:aaq):aA:=.list (cs.map λ(c:Nat)=>aU c)
abbrev bh (ls:aao):aA:=.tuple (ls.map bB)
abbrev lK (ks:aam):aA:=.list (ks.map kD)
abbrev lZ (zs:aal):aA:=.list (zs.map dE)
theorem eqn (a b:Nat):cy (.int a) (.int b)=aa (.bool (decide (a=b))):=by
 rw[rC]
 congr 2
 lia
noncomputable def RB:aG->Option aD
 |.inr z=>aa z
 |.inl _=>ab
def dR (ks:aam):aal:=ks.filterMap RB
def aY (ls:aac):aal:=dO (ls.flatMap λl=>dR l.2)
def kt (z:aD):aA×aA:=(.str z,.bool af)
theorem Qa (ak:aal)(z:aD):((ak.map kt).any λkd=>decide (cC kd.1=aa (.inr z)))=decide (z∈ak):=by
 induction ak with
 |nil=>rfl
 |cons y r ih=>
  rw[dB,xB,ih];have:cC (kt y).1=aa (.inr y):=rfl;rw[this];by_cases h:z=y
  .subst h;simp
  .have h':¬ y=z:=λe=>h e.symm
   simp[h,h']
theorem Wx (ak:aal)(z:aD):putD (ak.map kt) (.inr z) (.bool af)=(cW ak z).map kt:=by
 unfold putD cW;rw[Qa];by_cases h:z∈ak
 .rw[if_pos (by simpa using h),if_pos h,dF]
  refine iH λy _=>?_
  show(if cC (kt y).1=aa (.inr z) then((kt y).1,jK af) else kt y)=kt y
  split<;>rfl
 .rw[if_neg (by simpa using h),if_neg h,hG]
  rfl
def gN (ak:aal)(k:aG):aal:=match k with
 |.inr z=>cW ak z
 |.inl _=>ak
theorem HS:∀ (ks:aam) (ak:aal),ks.foldl gN ak=(dR ks).foldl cW ak
 |[],_=>rfl
 |.inl i::ks,ak=>HS ks ak
 |.inr z::ks,ak=>HS ks (cW ak z)
theorem Tw (ak:aal)(k:aG):(gN ak k).length<=ak.length+1:=by
 cases k with
 |inl i=>exact rS _
 |inr z=>exact VJ ak z
theorem Rl {ak:aal}{k:aG}(h:∀ z∈ak,bX (.str z)=af)(hk:bX (kD k)=af):∀ z∈gN ak k,bX (.str z)=af:=by
 cases k with
 |inl i=>exact h
 |inr z=>exact λy m=>(Anu.1 m).elim (h y) λe=>e ▸ hk
theorem oG {ls:aac}(h:∀ l∈ls,iP l)(hn:ls.length<=100):mU [.tuple (ls.map bB)]=aa (.list ((aY ls).map dE)):=by
 refine eZ rfl (bK rfl (by simp) (dW (λρ'=>∃ x2 x3:L2.Slot,(∀ z∈aY ls,bX (.str z)=af)/\ρ'=[s0 (.tuple (ls.map bB)),aa (1,.dict ((aY ls).map kt)),x2,x3]) ?_ ?_))
 .refine mS (b0:=[]) (λak l=>l.2.foldl gN ak) (λi ak ρ'=>∃ x2 x3:L2.Slot,ak.length<=6*i/\(∀ z∈ak,bX (.str z)=af)/\ρ'=[s0 (.tuple (ls.map bB)),aa (1,.dict (ak.map kt)),x2,x3]) (gp (lV rfl)) ⟨ab,ab,bA _,λ_ m=>by simp at m,rfl⟩ ?_ ?_
  .rintro i l ak _ hx ⟨x2,x3,ha,hy,rfl⟩;have hl:=h l (eW hx);have hi:=(cE.1 hx).1;refine⟨[s0 (.tuple (ls.map bB)),aa (1,.dict (ak.map kt)),s0 (bB l),x3],rfl,mS (xs:=l.2) (q:=kD) gN (λj dm ρ'=>∃ x3:L2.Slot,dm.length<=6*i+j/\(∀ z∈dm,bX (.str z)=af)/\ρ'=[s0 (.tuple (ls.map bB)),aa (1,.dict (dm.map kt)),s0 (bB l),x3]) (gp (lV (by simp[vS,ai,bR,eC,bB,aq,iw,jg]))) ⟨x3,ha,hy,rfl⟩ ?_ ?_⟩
   .rintro j k dm _ hk ⟨x3,Rs,ve,rfl⟩;have hj:=(cE.1 hk).1;have h6:=hl.1;refine⟨[s0 (.tuple (ls.map bB)),aa (1,.dict (dm.map kt)),s0 (bB l),s0 (kD k)],rfl,?_⟩;have g1:=Tw dm k;have g2:=Rl ve (hl.2 k (eW hk));cases k with
    |inl v=>exact iY (by simp[bV,vS,ff,bR,br,rp,eT,nC,tw,kD]) (gW ⟨_,.inl rfl,_,(),g2,rfl⟩)
    |inr z=>
     refine fV (by simp[bV,vS,ff,bR,br,rp,eT,nC,tw,kD]) (Wi rfl rfl rfl rfl (by simp;lia) ⟨_,.inl rfl,s0 (.str z),(),g2,?_⟩)
     rw[Wx]
     rfl
   .rintro _ ⟨x3,Rs,ve,rfl⟩;have h6:=hl.1;exact⟨_,.inl rfl,_,_,(),ve,rfl⟩
  .rintro _ ⟨x2,x3,ha,hy,rfl⟩;have e:ls.foldl (λak l=>l.2.foldl gN ak) []=aY ls:=by
    unfold aY dO;rw[List.foldl_flatMap]
    congr 1
    funext ak l;exact HS l.2 ak
   rw[e] at hy ⊢;exact⟨_,rfl,x2,x3,hy,rfl⟩
 rintro _ ⟨x2,x3,hy,rfl⟩;refine iA (cB (aW rfl ?_) ⟨_,rfl,rfl⟩);show(if (ic ((aY ls).map kt)&&((aY ls).map kt).all (λkd=>bX kd.1))=af then aa (jZ (((aY ls).map kt).map (·.1))) else ab)=_
 rw[(MU λkd m=>by
  obtain⟨z,_,rfl⟩:=bG.1 m;exact λq=>nomatch q),uK,if_pos (eB.2 λkd m=>by
  obtain⟨z,mz,rfl⟩:=bG.1 m;exact hy z mz),dF]
 rfl
theorem Gi (y z:aD):bW (.str y) (.str z)=decide (y=z):=by
 rw[show bW (.str y) (.str z)=(y==z) by simp[bW],nV]
 simp
theorem Xm (zs:aal)(z:aD):((zs.map dE).any λd=>bW d (.str z))=decide (z∈zs):=by
 rw[List.any_map,nV];simp[Gi]
theorem D3 (zs:aal):noDicts (zs.map dE)=af:=yX λt m=>by
 obtain⟨z,_,rfl⟩:=bG.1 m
 rfl
theorem IC (neg:Bool)(zs:aal)(z:aD):gy neg (.str z) (.list (zs.map dE))=aa (.bool (neg != decide (z∈zs))):=by
 show(if (dI (.str z)&&noDicts (zs.map dE))=af then aa (jK (neg != (zs.map dE).any λd=>bW d (.str z))) else ab)=_
 rw[D3,Xm,show dI (.str z)=af from rfl,AY,if_pos rfl]
theorem any_keys (ks:aam)(z:aD):((ks.map kD).any λd=>bW d (.str z))=decide (z∈dR ks):=by
 induction ks with
 |nil=>rfl
 |cons k r ih=>
  rw[dB,xB,ih];cases k with
  |inl i=>
   have:bW (kD (.inl i)) (.str z)=ah:=by simp[kD,bW]
   rfl
  |inr y=>
   have:bW (kD (.inr y)) (.str z)=decide (y=z):=Gi y z;show(decide (y=z)||decide (z∈dR r))=decide (z∈y::dR r);by_cases e:y=z
   .subst e;simp
   .have e':¬ z=y:=λq=>e q.symm
    simp[e,e']
theorem Fx (z:aD)(ks:aam):gy ah (.str z) (.tuple (ks.map kD))=aa (.bool (decide (z∈dR ks))):=by
 show(if (dI (.str z)&&noDicts (ks.map kD))=af then aa (jK (ah != (ks.map kD).any λd=>bW d (.str z))) else ab)=_
 rw[vZ,any_keys,show dI (.str z)=af from rfl,AY,if_pos rfl]
 simp
def pO (ls:aac)(k:Nat):aac:=ls.take k++ls.drop (k+1)
def Fh (ls:aac)(k:Nat)(l:aD×aam):aal:=(aY [l]).filter λz=>decide (z∈aY (pO ls k))
theorem CX{lo hi:OF}{Y:be}{l u:aar}(e1:f Y=aa (.tuple ds))(e2:lo Y=aa l)(e3:hi Y=aa u):qK f lo hi Y=aa (.tuple (cutD ds l u)):=by
 unfold qK;rw[e1,bQ,e2,bQ,e3,bQ]
theorem DL(k:Nat)(h:k<=ds.length):cutD ds (aa (k:Int)) ab=ds.drop k:=by
 unfold cutD;rw[HT.Af4,HT.Av4,AI h];exact List.take_of_length_le (by simp)
theorem U7 {ls:aac}(h:∀ l∈ls,iP l)(hn:ls.length<=50){l:aD×aam}(hk:ls[k]?=aa l):VC [.tuple (ls.map bB),.int k]=aa (.list ((Fh ls k l).map dE)):=by
 have bu:=(cE.1 hk).1;have hrl:(pO ls k).length<=100:=by
  unfold pO;rw[jN,mH,wY]
  lia
 refine eZ rfl (bK (aW (aR (aL (a:=.tuple ((ls.take k).map bB)) (b:=.tuple ((ls.drop (k+1)).map bB)) ?_ ?_ ?_) rfl) (oG (λx m=>h x (by
  rcases jM.1 m with m|m
  .exact List.mem_of_mem_take m
  .exact List.mem_of_mem_drop m)) hrl)) (by simp) ?_)
 .have:=CX (f:=bR 0) (lo:=oN) (hi:=oS au) (Y:=vS [s0 (.tuple (ls.map bB)),s0 (.int k),ab]) rfl rfl rfl;rw[xW (by simpa using mE bu),<-wU] at this
  exact this
 .have:=CX (f:=bR 0) (lo:=oS (ai cF au bf)) (hi:=oN) (Y:=vS [s0 (.tuple (ls.map bB)),s0 (.int k),ab]) (l:=aa ((k+1:Nat):Int)) rfl rfl rfl;rw[DL _ (by simp;lia),<-wV] at this
  exact this
 .show(if ((ls.take k).map bB).length+((ls.drop (k+1)).map bB).length<=sizeLine then aa (cD ((ls.take k).map bB++(ls.drop (k+1)).map bB)) else ab)=_
  rw[if_pos (gY (by simp;lia)),<-hG]
  rfl
 refine cB ?_ ⟨_,rfl,rfl⟩;refine iB (λz=>decide (z∈aY (pO ls k))) dE (eO (aW ?_ (oG (λx m=>by rw[cG.1 m];exact h l (eW hk)) (by simp)))) ?_ λz _=>?_
 .have:aq (.tuple (ls.map bB)) (.int k)=aa (bB l):=pS (by rw[eD,hk];rfl)
  refine aR ?_ rfl;exact iQ (aR (aL rfl rfl this) rfl)
 .have:(aY [l]).length<=6:=by
   have h1:=yU (dR l.2) [];have h2:(dR l.2).length<=l.2.length:=uE _ _;have h3:=(h l (eW hk)).1;have e:aY [l]=(dR l.2).foldl cW []:=by
    unfold aY dO;simp
   simp at h1
   lia
  lia
 .refine⟨[aa (.str z),aa (.list ((aY (pO ls k)).map dE))],rfl,?_,λ_=>rfl⟩
  have:=IC ah (aY (pO ls k)) z;simp[eV,bV,aV,vS,ai,ff,bR,eC,aK,dC,aM,dD,br,rp,cf,itemsOf,cF,lJ,gG,cR,cX,Y',vx,tu,vz,dM,eT,nC,tw,cy,dI,noDict,noDicts,fE,cU,bW,this]
theorem Acj {ls:aac}:z∈aY ls ↔ ∃ l∈ls,z∈dR l.2:=by
 unfold aY;rw[Aa7,OU]
theorem Axi {ls:aac}{l:aD×aam}:l∈pO ls k ↔ ∃ j,j≠k/\ls[j]?=aa l:=by
 unfold pO;rw[jM,Ja,Ja];constructor
 .rintro(⟨j,hj⟩|⟨j,hj⟩)
  .rw[List.getElem?_take] at hj;by_cases h:j<k
   .rw[if_pos h] at hj;exact⟨j,(),hj⟩
   .rw[if_neg h] at hj;cases hj
  .rw[PB] at hj;exact⟨_,(),hj⟩
 .rintro⟨j,dw,hj⟩;by_cases h:j<k
  .exact .inl ⟨j,by rw[List.getElem?_take,if_pos h];exact hj⟩
  .exact .inr ⟨j-(k+1),by rw[PB,show k+1+(j-(k+1))=j by lia];exact hj⟩
theorem rG{i:Nat}(h:i<ls.length):aq (bh ls) (.int i)=aa (bB (ls.getD i cu)):=pS (by rw[eD,getD_some cu h];rfl)
def we (ls:aao)(i:Nat):aal:=dR (ls.getD i cu).2
def xG (ls:aao)(L:aaq)(k j:Nat):Prop:=∀ z∈we ls k,z∈we ls j\/∀ o∈L,o≠k->z∉we ls o
instance (ls:aao)(L:aaq)(k j:Nat):Decidable (xG ls L k j):=by unfold xG;infer_instance
noncomputable def jG (ls:aao)(L:aaq)(k j:Nat):Bool:=decide (j≠k)&&decide (xG ls L k j)
noncomputable def lI (p:Nat×Nat):aA:=.tuple [.int p.1,.int p.2]
def uS:Option (Nat×Nat)->aA
 |none=>.none
 |some p=>lI p
def kK (ls:aao)(L:aaq):Option (Nat×Nat):=L.findSome? λk=>(L.find? (jG ls L k)).map λj=>(k,j)
theorem nen (a b:Nat):ib (.int a) (.int b)=aa (.bool (decide (a≠b))):=by
 rw[ne_int]
 congr 2
 lia
theorem Om(h:k∈L):∃ i:Nat,L[i]?=aa k/\vK (lN L) (.int k)=aa (.int i):=by
 have e1:∀ xs:aaq,lL (xs.map λ(c:Nat)=>aU c)=aa (xs.map λ(c:Nat)=>(.inl (c:Int):aG)):=λxs=>by
  induction xs with
  |nil=>rfl
  |cons x xs ih=>
   show((cC (.int (x:Int))).bind λk=>(lL (xs.map λ(c:Nat)=>aU c)).bind λks=>aa (k::ks))=_
   rw[ih]
   rfl
 obtain⟨i,hi⟩:∃ i,kf (L.map λ(c:Nat)=>(.inl (c:Int):aG)) (.inl (k:Int))=aa i:=by
  unfold kf;cases e:(L.map λ(c:Nat)=>(.inl (c:Int):aG)).findIdx? λy=>decide (y=.inl (k:Int)) with
  |some i=>exact⟨i,rfl⟩
  |none=>
   have:=Jh.1 e (.inl (k:Int)) (bG.2 ⟨k,h,rfl⟩);simp at this
 refine⟨i,?_,?_⟩
 .have:=(JV hi).1;rw[eD] at this;obtain⟨x,ex,e⟩:=fG.1 this;have:x=k:=by
   lia
  rw[ex,this]
 .show((lL (L.map λ(c:Nat)=>aU c)).bind λks=>(cC (.int (k:Int))).bind λk=>(kf ks k).bind λj=>aa (aU j))=_
  rw[e1,bQ];show((kf _ (.inl (k:Int))).bind λj=>aa (aU j))=_
  rw[hi]
  rfl
theorem X7(nd:L.Nodup){i:Nat}(h1:L[i]?=aa k)(h2:L[j]?=aa k):i=j:=by
 obtain⟨a1,a2⟩:=cE.1 h1;obtain⟨b1,b2⟩:=cE.1 h2;have pw:=Iy.1 nd;rcases AJ i j with h|h|h
 .exact absurd (a2.trans b2.symm) (pw i j a1 b1 h)
 .exact h
 .exact absurd (b2.trans a2.symm) (pw j i b1 a1 h)
theorem Fd {α:Type}(g:α->Bool):∀ xs:List α,sI (xs.map λx=>jK (g x))=aa (xs.map g)
 |[]=>rfl
 |x::xs=>by
  show((sI (xs.map λx=>jK (g x))).bind λbs=>aa (g x::bs))=_
  rw[Fd g xs]
  rfl
theorem A0a(ho:∀ l∈ls,iP l)(hL:∀ o∈L,o<ls.length)(nd:L.Nodup)(hl:L.length<=50)(hk:k∈L):Cn [bh ls,lN L,.int k]=aa (match L.find? (jG ls L k) with|some j=>.int j|none=>.none):=by
 refine eZ rfl ?_
 let sub:aao:=L.map λj=>ls.getD j cu
 obtain⟨i,hi,ei⟩:=Om hk;have hsi:sub[i]?=aa (ls.getD k cu):=by
  rw[eD,hi]
  rfl
 let W:aal:=Fh sub i (ls.getD k cu)
 have lc:dq [ab,aa 0] (cf au) (gB 0) dZ (ai aq au ao) (vS [s0 (bh ls),s0 (lN L),s0 (.int k),ab,ab])=aa (.list (sub.map bB)):=by
  have:=iB (cap:=[ab,aa 0]) (fi:=cf au) (T:=gB 0) (t:=dZ) (f:=ai aq au ao) (Y:=vS [s0 (bh ls),s0 (lN L),s0 (.int k),ab,ab]) (λ_=>af) (λj=>bB (ls.getD j cu)) (eO rfl) () λj mj=>⟨[aa (.int j),aa (bh ls)],rfl,rfl,λ_=>aL rfl rfl (rG (hL j mj))⟩
  rw[this,uG.2 (by simp)]
  rw[dF]
  rfl
 refine bK (aW (aR (aW (aR lc rfl) rfl) (aR (aL rfl rfl ei) rfl)) (U7 (λl m=>by
  obtain⟨j,mj,rfl⟩:=bG.1 m;exact ho _ (getD_mem cu (hL j mj))) (by show(L.map _).length<=50;simpa using hl) hsi)) (by simp) ?_
 have Sc:∀ z,z∈W↔z∈we ls k/\∃ o∈L,o≠k/\z∈we ls o:=λz=>by
  show z∈(aY [ls.getD k cu]).filter (λz=>decide (z∈aY (pO sub i)))↔_
  rw[kX,Acj];constructor
  .rintro⟨⟨l,ml,hz⟩,h2⟩;rw[cG.1 ml] at hz;refine⟨hz,?_⟩;obtain⟨l',ST,hz'⟩:=Acj.1 (of_decide_eq_true h2);obtain⟨j,hj,ej⟩:=Axi.1 ST;rw[eD] at ej;obtain⟨o,eo,rfl⟩:=fG.1 ej;refine⟨o,eW eo,λq=>hj ?_,hz'⟩
   exact X7 nd (by rw[<-q];exact eo) hi
  .rintro⟨hz,o,mo,ne,hz'⟩;refine⟨⟨_,cG.2 rfl,hz⟩,decide_eq_true (Acj.2 ⟨ls.getD o cu,Axi.2 ?_,hz'⟩)⟩;obtain⟨j,hj,ej⟩:=uF mo;refine⟨j,λq=>ne ?_,?_⟩
   .obtain⟨b1,b2⟩:=cE.1 hi;subst q;rw[<-ej,b2]
   .rw[eD,eE hj,ej]
    rfl
 have hWl:W.length<=100:=by
  have h1:W.length<=(aY [ls.getD k cu]).length:=wX _ _;have h2:=yU (dR (ls.getD k cu).2) [];have h3:(dR (ls.getD k cu).2).length<=(ls.getD k cu).2.length:=uE _ _;have h4:=(ho _ (getD_mem cu (hL k hk))).1;have e:aY [ls.getD k cu]=(dR (ls.getD k cu).2).foldl cW []:=by
   unfold aY dO;simp
  simp only[Jd,OK] at h2
  lia
 let A:L2.Slot:=s0 (bh ls)
 let B:L2.Slot:=s0 (lN L)
 let C:L2.Slot:=s0 (.int k)
 let E:L2.Slot:=s0 (lZ W)
 refine CO (λρ'=>∃ x4:L2.Slot,ρ'=[A,B,C,E,x4]) (L.findSome? λj=>if jG ls L k j=af then aa (.int j) else ab) (CY (λρ'=>∃ x4:L2.Slot,ρ'=[A,B,C,E,x4]) _ (gp (eO rfl)) ⟨ab,rfl⟩ ?_) ?_ ?_
 .rintro j mj _ ⟨x4,rfl⟩;refine⟨[A,B,C,E,s0 (.int j)],rfl,?_⟩;have f1:ai ib bz az (vS [A,B,C,E,s0 (.int j)])=aa (.bool (decide (j≠k))):=aL rfl rfl (nen j k);have lc2:=iB (cap:=[ab,aa 0,aa 4]) (fi:=cf bg) (T:=gB 0) (t:=dZ) (f:=ai (gy ah) ao (ai aq (ai aq au az) bf)) (Y:=vS [A,B,C,E,s0 (.int j)]) (λ_=>af) (λz=>.bool (decide (z∈we ls j))) (eO rfl) () λz mz=>⟨[aa (.str z),aa (bh ls),aa (.int j)],rfl,rfl,λ_=>aL rfl (aL (aL rfl rfl (rG (hL j mj))) rfl rfl) (Fx z _)⟩
  rw[uG.2 (by simp)] at lc2
  have f2:aK uQ (aj (dq [ab,aa 0,aa 4] (cf bg) (gB 0) dZ (ai (gy ah) ao (ai aq (ai aq au az) bf)))) (vS [A,B,C,E,s0 (.int j)])=aa (.bool (decide (xG ls L k j))):=by
   refine aW (aR lc2 rfl) ?_;show((sI (W.map λz=>jK (decide (z∈we ls j)))).bind λbs=>aa (jK (bs.all id)))=_
   rw[Fd,bQ,List.all_map]
   congr 2
   rw[nV,eB,decide_eq_true_eq];constructor
   .intro h z mz;by_cases q:∃ o∈L,o≠k/\z∈we ls o
    .exact .inl (of_decide_eq_true (h z ((Sc z).2 ⟨mz,q⟩)))
    .exact .inr λo mo ne hz=>q ⟨o,mo,ne,hz⟩
   .intro h z mz;obtain⟨h1,o,mo,ne,hz⟩:=(Sc z).1 mz;rcases h z h1 with q|q
    .exact decide_eq_true q
    .exact absurd hz (q o mo ne)
  have tb:bV .s (fT (br (ai ib bz az)) (br (aK uQ (aj (dq [ab,aa 0,aa 4] (cf bg) (gB 0) dZ (ai (gy ah) ao (ai aq (ai aq au az) bf))))))) [A,B,C,E,s0 (.int j)]=aa (jG ls L k j):=by
   simp only[bV,fT,br,f1,f2,bQ,rp];unfold jG;cases decide (j≠k)<;>rfl
  cases hb:jG ls L k j with
  |true=>exact fV (tb.trans (by rw[hb])) (cB rfl rfl)
  |false=>exact iY (tb.trans (by rw[hb])) (gW ⟨_,.inl rfl,_,rfl⟩)
 .intro r hr;refine⟨_,rfl,?_⟩;have:∀ xs:aaq,(xs.findSome? λj=>if jG ls L k j=af then aa (aU j) else ab)=(xs.find? (jG ls L k)).map λ(j:Nat)=>aU j:=λxs=>by
   induction xs with
   |nil=>rfl
   |cons x xs ih=>
    rw[iW,FY];cases jG ls L k x with
    |true=>rfl
    |false=>exact ih
  rw[this] at hr;obtain⟨j,e,rfl⟩:=fG.1 hr;rw[e]
 .rintro hz _ ⟨x4,rfl⟩;refine cB rfl ⟨_,rfl,?_⟩;have:∀ xs:aaq,(xs.findSome? λj=>if jG ls L k j=af then aa (aU j) else ab)=(xs.find? (jG ls L k)).map λ(j:Nat)=>aU j:=λxs=>by
   induction xs with
   |nil=>rfl
   |cons x xs ih=>
    rw[iW,FY];cases jG ls L k x with
    |true=>rfl
    |false=>exact ih
  rw[this] at hz;rw[OH.1 hz]
theorem Dm(ho:∀ l∈ls,iP l)(hL:∀ o∈L,o<ls.length)(nd:L.Nodup)(hl:L.length<=50):rL [bh ls,lN L]=aa (uS (kK ls L)):=by
 refine eZ rfl ?_
 let A:L2.Slot:=s0 (bh ls)
 let B:L2.Slot:=s0 (lN L)
 have key:(L.findSome? λk=>((L.find? (jG ls L k)).map λj=>lI (k,j)))=(kK ls L).map lI:=by
  unfold kK;rw[List.map_findSome?];refine Ef λk _=>?_
  show _=Option.map lI ((L.find? (jG ls L k)).map λj=>(k,j))
  rw[Option.map_map]
  rfl
 refine CO (λρ'=>∃ x2 x3:L2.Slot,ρ'=[A,B,x2,x3]) (L.findSome? λk=>((L.find? (jG ls L k)).map λj=>lI (k,j))) (CY (λρ'=>∃ x2 x3:L2.Slot,ρ'=[A,B,x2,x3]) _ (gp (eO rfl)) ⟨ab,ab,rfl⟩ ?_) ?_ ?_
 .rintro k mk _ ⟨x2,x3,rfl⟩;refine⟨[A,B,s0 (.int k),x3],rfl,?_⟩;have ep:=A0a ho hL nd hl mk;cases hf:L.find? (jG ls L k) with
  |none=>
   rw[hf] at ep;exact bK (aW rfl ep) (by simp) (iY rfl (gW ⟨_,.inl rfl,_,_,rfl⟩))
  |some j=>
   rw[hf] at ep;exact bK (aW rfl ep) (by simp) (fV rfl (cB rfl rfl))
 .intro r hr;rw[key] at hr;obtain⟨p,e,rfl⟩:=fG.1 hr;exact⟨_,rfl,by rw[e];rfl⟩
 .rintro hz _ ⟨x2,x3,rfl⟩;rw[key] at hz;exact cB rfl ⟨_,rfl,by rw[OH.1 hz];rfl⟩
def iy (ls:aao):Nat->aaq->List (Nat×Nat)×aaq
 |0,L=>([],L)
 |n+1,L=>match kK ls L with
  |none=>([],L)
  |some p=>(p::(iy ls n (L.erase p.1)).1,(iy ls n (L.erase p.1)).2)
theorem YM{p:Nat×Nat}(h:kK ls L=aa p):p.1∈L/\p.2∈L:=by
 obtain⟨k,mk,h⟩:=PF h;obtain⟨j,hj,rfl⟩:=fG.1 h;exact⟨mk,OT hj⟩
theorem Gq:∀ {n:Nat} {L:aaq},(iy ls n L).1.length<=n/\(iy ls n L).2.length<=L.length
 |0,L=>⟨by simp[iy],bA _⟩
 |n+1,L=>by
  unfold iy;cases hf:kK ls L with
  |none=>exact⟨by simp,bA _⟩
  |some p=>
   obtain⟨h1,h2⟩:=Gq;have:=List.length_erase_le (a:=p.1) (l:=L);exact⟨by simp;omega,by show(iy ls n (L.erase p.1)).2.length<=L.length;lia⟩
theorem U3(h:k∈L):∃ i,kf (L.map λ(c:Nat)=>(.inl (c:Int):aG)) (.inl (k:Int))=aa i/\L.eraseIdx i=L.erase k:=by
 induction L with
 |nil=>simp at h
 |cons x xs ih=>
  by_cases q:x=k
  .subst q;exact⟨0,by simp[kf,List.findIdx?_cons],by simp⟩
  .have hm:k∈xs:=by
    rcases cI.1 h with e|m
    .exact absurd e.symm q
    .exact m
   obtain⟨i,e1,e2⟩:=ih hm;refine⟨i+1,?_,?_⟩
   .unfold kf at e1 ⊢;rw[dB,List.findIdx?_cons];have:decide ((.inl (x:Int):aG)=.inl (k:Int))=ah:=decide_eq_false λe=>q (by
     lia)
    rw[this];rw[e1]
    rfl
   .rw[xA,e2,List.erase_cons_tail (by simpa using q)]
theorem SB:∀ xs:aaq,lL (xs.map λ(c:Nat)=>aU c)=aa (xs.map λ(c:Nat)=>(.inl (c:Int):aG))
 |[]=>rfl
 |x::xs=>by
  show((cC (.int (x:Int))).bind λk=>(lL (xs.map λ(c:Nat)=>aU c)).bind λks=>aa (k::ks))=_
  rw[SB xs]
  rfl
theorem Pg{P:Out->Prop}{i:Nat}(h:f (vS Y)=aa (.int k))(hg:getL i Y=aa (L.map λ(c:Nat)=>aU c))(hk:k∈L)(kk:P (.nx (Y.set i (aa (1,lN (L.erase k)))))):Goes (oK i .s f) Y P:=by
 obtain⟨j,e1,e2⟩:=U3 hk;refine⟨_,?_,kk⟩;have e0:eV 0 .s f Y=aa (.int k):=h;unfold oK;rw[e0,bQ,hg,bQ,SB,bQ];show((kf _ (.inl (k:Int))).bind λj=>aa (Out.nx (Y.set i (aa (1,.list ((L.map λ(c:Nat)=>aU c).eraseIdx j))))))=_
 rw[e1,bQ];have:(L.map λ(c:Nat)=>aU c).eraseIdx j=(L.erase k).map λ(c:Nat)=>aU c:=by
  rw[<-e2];have go:∀ (xs:aaq) (n:Nat),(xs.map λ(c:Nat)=>aU c).eraseIdx n=(xs.eraseIdx n).map λ(c:Nat)=>aU c:=by
   intro xs;induction xs with
   |nil=>intro n;simp
   |cons x xs ih=>
    intro n;cases n with
    |zero=>rfl
    |succ n=>rw[dB,xA,xA,dB,ih]
  exact go L j
 rw[this]
abbrev lP (ps:pi):aA:=.list (ps.map lI)
theorem YK (t:Option (Nat×Nat)):fJ 0 (uS t)=af:=by cases t<;>rfl
theorem UP {ls:aao}(ho:∀ l∈ls,iP l):∀ (n fuel:Nat) {L:aaq} {ps:pi},L.length<=n->n<fuel->(∀ o∈L,o<ls.length)->L.Nodup->L.length<=50->ps.length+n<=100 ->
  ∃ x3,jc .s (br (ai jS bg (eC .none))) (aN (jR 1 .s bg) (aN (oK 2 .s (ai aq bg bq)) (fM 3 0 .a (aK rL (aM ao (aj az)))))) fuel [s0 (bh ls),aa (1,lP ps),aa (1,lN L),s0 (uS (kK ls L))]
   = aa (.nx [s0 (bh ls),aa (1,lP (ps++(iy ls n L).1)),aa (1,lN (iy ls n L).2),x3])
 |n,0,L,ps,_,hf,_,_,_,_=>()
 |0,fuel+1,L,ps,h0,_,_,_,_,_=>by
  have:L=[]:=Je.1 ()
  subst this;refine⟨s0 (uS (kK ls [])),?_⟩;rw[show(iy ls 0 []).1=[] from rfl,oW]
  rfl
 |n+1,fuel+1,L,ps,hn,hf,hL,nd,hl,hp=>by
  unfold iy;cases hfe:kK ls L with
  |none=>
   refine⟨s0 (uS ab),?_⟩;rw[oW]
   rfl
  |some p=>
   obtain⟨m1,m2⟩:=YM hfe;have nd':=nd.erase p.1;have hL':∀ o∈L.erase p.1,o<ls.length:=λo m=>hL o (List.mem_of_mem_erase m)
   have vv:(L.erase p.1).length<=50:=by rw[aAk m1];lia
   obtain⟨x3,ih⟩:=UP ho n fuel (ps:=ps++[p]) (by rw[aAk m1];lia) () hL' nd' vv (by simp;lia)
   have body:Goes (aN (jR 1 .s bg) (aN (oK 2 .s (ai aq bg bq)) (fM 3 0 .a (aK rL (aM ao (aj az)))))) [s0 (bh ls),aa (1,lP ps),aa (1,lN L),s0 (lI p)]
     λo=>o=.nx [s0 (bh ls),aa (1,lP (ps++[p])),aa (1,lN (L.erase p.1)),s0 (uS (kK ls (L.erase p.1)))]:=by
    refine dW (λρ'=>ρ'=[s0 (bh ls),aa (1,lP (ps++[p])),aa (1,lN L),s0 (lI p)]) (oE rfl rfl (by simp;lia) ⟨_,rfl,by simp⟩) ?_
    rintro _ rfl;refine dW (λρ'=>ρ'=[s0 (bh ls),aa (1,lP (ps++[p])),aa (1,lN (L.erase p.1)),s0 (lI p)]) (Pg rfl rfl m1 ⟨_,rfl,rfl⟩) ?_
    rintro _ rfl;refine BV ?_ (by simp) rfl
    exact X' (aW rfl (Dm ho hL' nd' vv)) (YK _)
   obtain⟨o,eo,rfl⟩:=body;refine⟨x3,?_⟩;show((aN (jR 1 .s bg) (aN (oK 2 .s (ai aq bg bq)) (fM 3 0 .a (aK rL (aM ao (aj az))))) [s0 (bh ls),aa (1,lP ps),aa (1,lN L),s0 (lI p)]).bind λo=>match o with
    |.nx ρ'=>jc .s (br (ai jS bg (eC .none))) (aN (jR 1 .s bg) (aN (oK 2 .s (ai aq bg bq)) (fM 3 0 .a (aK rL (aM ao (aj az)))))) fuel ρ'
    |.ct ρ'=>jc .s (br (ai jS bg (eC .none))) (aN (jR 1 .s bg) (aN (oK 2 .s (ai aq bg bq)) (fM 3 0 .a (aK rL (aM ao (aj az)))))) fuel ρ'
    |.bk ρ'=>aa (.nx ρ')
    | .rt d=>aa (.rt d))=_
   rw[eo,bQ];show jc .s _ _ fuel _=_;rw[ih,Jn]
   rfl
def dS (ls:aao):List (Nat×Nat)×aaq:=iy ls ls.length (bZ ls.length)
theorem IJ(ho:∀ l∈ls,iP l)(hn:ls.length<=50):vB [bh ls]=aa (.tuple [lP (dS ls).1,lN (dS ls).2]):=by
 refine eZ rfl (bK rfl (by simp) (bK (d:=lN (bZ ls.length)) (aW (aR (aW rfl (by rw[IT,bT])) rfl) ?_) (by simp) ?_))
 .show(if -4096<=(ls.length:Int)/\(ls.length:Int)<=4096 then aa (jZ (L2.upTo (ls.length:Int).toNat)) else ab)=_
  rw[if_pos ⟨(),()⟩]
  rfl
 have hL:∀ o∈bZ ls.length,o<ls.length:=λo m=>eQ.1 m
 have nd:(bZ ls.length).Nodup:=OR;have hl:(bZ ls.length).length<=50:=by simpa using hn
 refine CH (aW rfl (Dm ho hL nd hl)) (YK _) (by simp) ?_
 obtain⟨x3,e⟩:=UP ho ls.length 100 (ps:=[]) (by simp) () hL nd hl (by simp;lia)
 exact fI e ⟨_,rfl,_,rfl,rfl⟩
theorem S9{p:Nat×Nat}(h:kK ls L=aa p):p.2≠p.1/\xG ls L p.1 p.2:=by
 obtain⟨k,mk,h⟩:=PF h;obtain⟨j,hj,rfl⟩:=fG.1 h;have:=Ji hj;obtain⟨h1,h2⟩:=jO.1 this;exact⟨of_decide_eq_true h1,of_decide_eq_true h2⟩
theorem Acv:z∈dR ks↔(.inr z:aG)∈ks:=by
 unfold dR;rw[uD];constructor
 .rintro⟨k,m,e⟩;cases k with
  |inl i=>cases e
  |inr y=>cases e;exact m
 .exact λm=>⟨_,m,rfl⟩
def de (ls:aao):Nat->aam:=λk=>(ls.getD k cu).2
theorem Ho:∀ {n:Nat} {L:aaq},L.Nodup->vE (de ls) (λk=>k∈L) (iy ls n L).1 (λk=>k∈(iy ls n L).2)
 |0,L,_=>λk=>Iff.rfl
 |n+1,L,nd=>by
  cases h:kK ls L with
  |none=>
   have e:iy ls (n+1) L=([],L):=by
    show(match kK ls L with|none=>([],L)|some p=>(p::(iy ls n (L.erase p.1)).1,(iy ls n (L.erase p.1)).2))=_
    rw[h]
   rw[e];exact λk=>Iff.rfl
  |some p=>
   have e:iy ls (n+1) L=(p::(iy ls n (L.erase p.1)).1,(iy ls n (L.erase p.1)).2):=by
    show(match kK ls L with|none=>([],L)|some p=>(p::(iy ls n (L.erase p.1)).1,(iy ls n (L.erase p.1)).2))=_
    rw[h]
   rw[e];obtain⟨m1,m2⟩:=YM h;obtain⟨ne,cov⟩:=S9 h;refine⟨⟨m1,m2,fZ ne,λz mz k hk dw mzk=>?_⟩,?_⟩
   .rcases cov z (Acv.2 mz) with c|c
    .exact Acv.1 c
    .exact absurd (Acv.2 mzk) (c k hk dw)
   .have e2:less (λk=>k∈L) p.1=λk=>k∈L.erase p.1:=funext λk=>propext (by rw[nd.mem_erase_iff];exact And.comm)
    rw[e2];exact Ho (nd.erase _)
theorem DP (ls:aao):vE (de ls) (λk=>k<ls.length) (dS ls).1 (λk=>k∈(dS ls).2):=by
 have:=Ho (ls:=ls) (n:=ls.length) (L:=bZ ls.length) OR;rw[(funext λk=>propext eQ)] at this
 exact this
theorem xY (T:aA)(ks:aam)(row:aaj)(kn:on)(hk:ks.length<=100)(hn:kn.length<=100):uY [.tuple [T,tK ks],tI row,.dict (DN kn)]=aa (RA (fA ks row kn)):=by
 refine eZ rfl ?_;have e1:bV .s (br (ai ib (aK dM (aj au)) (aK dM (aj (ai aq ao bf))))) [aa (0,.tuple [T,tK ks]),aa (0,tI row),aa (0,.dict (DN kn)),ab,ab,ab,ab]=aa (decide (row.length≠ks.length)):=dJ (Qw rfl rfl);by_cases hl:row.length=ks.length
 .refine fI (pI (e1.trans (by simp[hl]))) (bK (aW rfl (by show(if ic (DN kn)=af then aa (OE (DN kn)) else ab)=_;rw[xq];rfl)) (by simp) ?_)
  have lz:(ks.zip row).length<=100:=by rw[FW];lia
  refine Uu (λbp ρ'=>∃ x4 x5 x6:L2.Slot,ρ'=[aa (0,.tuple [T,tK ks]),aa (0,tI row),aa (0,.dict (DN kn)),aa (1,.dict (DN bp)),x4,x5,x6]) .none (fP gX kn (ks.zip row)) (Yk (q:=SC) gX _ .none (gp ?_) ⟨ab,ab,ab,rfl⟩ ?_) ?_ ?_
  .show iZ (aM (ai aq ao bf) (aj au)) (vS [aa (0,.tuple [T,tK ks]),aa (0,tI row),aa (0,.dict (DN kn)),aa (1,.dict (DN kn)),ab,ab,ab])=_;unfold iZ;rw[show aM (ai aq ao bf) (aj au) (vS [aa (0,.tuple [T,tK ks]),aa (0,tI row),aa (0,.dict (DN kn)),aa (1,.dict (DN kn)),ab,ab,ab])=aa [tK ks,tI row] from rfl,<-Zg]
   rfl
  .rintro pre p post bp _ ny hf ⟨x4,x5,x6,rfl⟩;have hle:bp.length<=1000:=by
    have h1:=IW hf;have h2:pre.length<=(ks.zip row).length:=by rw[ny];simp
    lia
   exact⟨[aa (0,.tuple [T,tK ks]),aa (0,tI row),aa (0,.dict (DN kn)),aa (1,.dict (DN bp)),aa (0,kD p.1),aa (0,.int p.2),x6],rfl,A0d _ _ _ bp hle p x6⟩
  .intro hf;refine⟨_,rfl,?_⟩;unfold fA;rw[if_pos hl,hf]
   rfl
  .rintro bp hf _ ⟨x4,x5,x6,rfl⟩;refine⟨_,rfl,_,rfl,?_⟩;unfold fA;rw[if_pos hl,hf]
   rfl
 .refine oF (fV (e1.trans (by simp[hl])) (cB rfl ⟨_,rfl,_,rfl,?_⟩))
  unfold fA;rw[if_neg hl]
  rfl
theorem Q8{B:aD->ii}(b:Bk kds B wd)(t:aD)(K:aA):ZY [.dict kds,.tuple [.str t,K]]=aa (cK (B t)):=by
 refine eZ rfl (cB (b.get rfl rfl) ⟨_,rfl,rfl⟩)
abbrev Kn:=on
def cq (kn:Kn):aA:=.dict (DN kn)
def qO (dt:List Kn)(ks:aam)(gu:ii):List Kn:=dt.flatMap λkn=>gu.filterMap λr=>fA ks r kn
theorem JB {α β:Type}(f:α->Option β):∀ (xs:List α) (ak:List β),xs.foldl (λa x=>a++(f x).toList) ak=ak++xs.filterMap f
 |[],ak=>by simp
 |x::xs,ak=>by
  rw[hJ,JB f xs,Jl];cases f x<;>simp
theorem YL {α β:Type}(f:α->List β):∀ (xs:List α) (ak:List β),xs.foldl (λa x=>a++f x) ak=ak++xs.flatMap f
 |[],ak=>by simp
 |x::xs,ak=>by
  rw[hJ,YL f xs,wZ,Jn]
theorem B4 (t:aD)(ks:aam)(gu:ii)(dt:List Kn)(hk:ks.length<=100)(hn:∀ kn∈dt,kn.length<=100)(hm:dt.length*gu.length<=90000) :
  Aq [.list (dt.map cq),bB (t,ks),cK gu]=aa (.list ((qO dt ks gu).map cq)):=by
 refine eZ rfl (bK rfl (by simp) ?_)
 let A:List L2.Slot:=[s0 (.list (dt.map cq)),s0 (bB (t,ks)),s0 (cK gu)]
 refine dW (λρ'=>∃ x4 x5 x6:L2.Slot,ρ'=A++[aa (1,.list ((qO dt ks gu).map cq)),x4,x5,x6]) ?_ ?_
 .refine mS (b0:=[]) (λak kn=>ak++gu.filterMap λr=>fA ks r kn) (λi ak ρ'=>∃ x4 x5 x6:L2.Slot,ak.length<=i*gu.length/\ρ'=A++[aa (1,.list (ak.map cq)),x4,x5,x6]) (gp (eO rfl)) ⟨ab,ab,ab,cZ _,rfl⟩ ?_ ?_
  .rintro i kn ak _ hx ⟨x4,x5,x6,ha,rfl⟩;have hle:=cQ (Nat.mul_le_mul_right _ ((cE.1 hx).1)) hm;refine⟨A++[aa (1,.list (ak.map cq)),s0 (cq kn),x5,x6],rfl,mS (λak r=>ak++(fA ks r kn).toList) (λj dm ρ'=>∃ x5 x6:L2.Slot,dm.length<=ak.length+j/\ρ'=A++[aa (1,.list (dm.map cq)),s0 (cq kn),x5,x6]) (gp (eO rfl)) ⟨x5,x6,bA _,rfl⟩ ?_ ?_⟩
   .rintro j r dm _ hr ⟨x5,x6,Rs,rfl⟩;have hj:=(cE.1 hr).1;refine⟨A++[aa (1,.list (dm.map cq)),s0 (cq kn),s0 (cL r),x6],rfl,bK (aW rfl (xY (.str t) ks r kn hk (hn kn (eW hx)))) (by simp[A]) ?_⟩
    cases hfa:fA ks r kn with
    |none=>exact iY (dJ (aL rfl rfl rfl)) (gW ⟨_,.inl rfl,_,_,by simpa using(by lia:dm.length<=ak.length+(j+1)),by rw[Option.toList_none,oW];rfl⟩)
    |some bp=>
     refine fV (dJ (aL rfl rfl rfl)) (oE rfl rfl (by simp;lia) ⟨_,.inl rfl,_,_,by simp;lia,by rw[Option.toList_some,hG];rfl⟩)
   .rintro _ ⟨x5,x6,Rs,rfl⟩;refine⟨_,.inl rfl,_,_,_,?_,by rw[JB]⟩
    rw[JB] at Rs
    lia
  .rintro _ ⟨x4,x5,x6,ha,rfl⟩;rw[YL];exact⟨_,rfl,_,_,_,rfl⟩
 rintro _ ⟨x4,x5,x6,rfl⟩;exact CI rfl ⟨_,rfl,rfl⟩
theorem Na (ds:aag):dM [.list ds]=aa (.int ds.length):=by simp[dM]
theorem Xz (dt:List Kn)(ks:aam)(gu:ii):(qO dt ks gu).length<=dt.length*gu.length:=by
 unfold qO;induction dt with
 |nil=>simp
 |cons kn r ih=>
  rw[wZ,jN,eX,Nat.succ_mul];have:=uE (λr=>fA ks r kn) gu
  lia
theorem IU{kn bp:Kn}(h:fA ks r kn=aa bp):bp.length<=kn.length+ks.length:=by
 obtain⟨h1,h2⟩:=Gm h;have:=IW h2;rw[FW] at this
 lia
def rowOf (zs:aal)(kn:Kn):aaj:=zs.map λz=>(bP kn z).getD 0
theorem KQ{kn:Kn}(hl:zs.length<=1000)(h:∀ z∈zs,∃ v,bP kn z=aa v):pT [.list (zs.map dE),cq kn]=aa (cL (rowOf zs kn)):=by
 refine eZ rfl ?_;have e:=On (cap:=[ab,aa 1]) (fi:=cf ao) (T:=gB 0) (t:=dZ) (f:=qW au ao ao) (Y:=vS [s0 (.list (zs.map dE)),s0 (cq kn)]) (λd=>match d with|.str z=>.int ((bP kn z).getD 0)|d=>d) (eO rfl) (by rw[bT];lia) (λd m=>by
  obtain⟨z,mz,rfl⟩:=bG.1 m;obtain⟨v,hv⟩:=h z mz;refine⟨[aa (.str z),aa (cq kn)],rfl,rfl,?_⟩;have:=vJ (fd:=bR 1) (fk:=bR 0) (fx:=bR 0) (Y:=[aa (.str z),aa (cq kn)]) rfl rfl rfl rfl (xq kn);rw[this,yC];show _=aa (aU ((bP kn z).getD 0));rw[hv]
  rfl)
 rw[dF] at e;have e':zs.map ((λd=>match d with|.str z=>aU ((bP kn z).getD 0)|d=>d)∘dE)=(rowOf zs kn).map aU:=by
  unfold rowOf;rw[dF]
  rfl
 rw[e'] at e;exact cB (aW (aR e rfl) rfl) ⟨_,rfl,rfl⟩
def qb (a b:Ln):aal:=(aY [a]).filter λz=>decide (z∈dR b.2)
theorem A4l {b:Ln}:z∈qb a b↔(.inr z:aG)∈a.2/\(.inr z:aG)∈b.2:=by
 unfold qb;rw[kX,Acj,decide_eq_true_eq,Acv];refine and_congr_left λ_=>?_
 constructor
 .rintro⟨l,m,h⟩;rw[cG.1 m] at h;exact Acv.1 h
 .exact λh=>⟨a,cG.2 rfl,Acv.2 h⟩
theorem As(h:iP l):(aY [l]).length<=6:=by
 have h1:=yU (dR l.2) [];have h2:(dR l.2).length<=l.2.length:=uE _ _;have h3:=h.1;have e:aY [l]=(dR l.2).foldl cW []:=by
  unfold aY dO;simp
 simp at h1
 lia
theorem Qv {b:Ln}(h:iP a):(qb a b).length<=6:=cQ (wX _ _) (As h)
theorem V9 {b:Ln}(ha:iP a):XE [bB a,bB b]=aa (.list ((qb a b).map dE)):=by
 have el:=oG (λx m=>by rw[cG.1 m];exact ha) (by simp)
 refine eZ rfl (cB ?_ ⟨_,rfl,rfl⟩);refine iB (λz=>decide (z∈dR b.2)) dE (eO (aW (aR (iQ rfl) rfl) el)) (cQ (As ha) nofun) λz _=>⟨[aa (.str z),aa (bB b)],rfl,?_,λ_=>rfl⟩
 exact dJ (aL rfl rfl (Fx z b.2))
theorem UA(h6:l.2.length<=6)(hz:∀ z∈zs,(.inr z:aG)∈l.2)(hl:zs.length<=1000)(hr:∃ v,r=l.2.map (tv v)):vR [bB l,tI r,.list (zs.map dE)]=aa (cL (kZ l.2 zs r)):=by
 obtain⟨v,rfl⟩:=hr;obtain⟨kn,ef,hk⟩:=MY l.2 v;have e1:=xY (.str l.1) l.2 (l.2.map (tv v)) [] () (by simp)
 rw[ef] at e1;have e3:rowOf zs kn=kZ l.2 zs (l.2.map (tv v)):=by
  rw[CW hz];exact iH λz m=>by rw[hk z (hz z m)];rfl
 refine eZ rfl (cB (aW (aR rfl (aR (aW rfl e1) rfl)) (by rw[<-e3];exact KQ hl λz m=>⟨_,hk z (hz z m)⟩)) ⟨_,rfl,rfl⟩)
def yk (r:aaj):List aA×aA:=(r.map aU,.bool af)
theorem ZC:∀ (U:ii),sC (U.map λr=>cD [cL r,.bool af])=aa (U.map yk)
 |[]=>rfl
 |r::U=>by
  show(if (bS (r.map aU)&&decide (cU (r.map aU)<=6))=af then(sC (U.map λr=>cD [cL r,.bool af])).bind λps=>aa ((r.map aU,jK af)::ps) else ab)=_
  rw[yH,uK,if_pos (decide_eq_true (cQ (EC r) nofun)),ZC U]
  rfl
theorem VH {a b:aaj}(h:a.map aU=b.map aU):a=b:=by
 have:=congrArg (List.map uw) h
 rwa [yE,yE] at this
theorem Ub (K:ii)(k:aaj):gy ah (cL k) (.dict ((.none,.none)::kM (K.map yk) []))=aa (.bool (K.contains k)):=by
 show(if (bS (k.map aU)&&decide (cU (k.map aU)<=6))=af then aa (jK (ah != (qS (kM (K.map yk) []) (k.map aU)).isSome)) else ab)=_
 rw[yH,uK,if_pos (decide_eq_true (cQ (EC k) nofun)),C5 (λp m=>by
  obtain⟨r,_,rfl⟩:=bG.1 m;exact yH r) (yH k)]
 have e:decide (k.map aU∈(K.map yk).map (·.1))=K.contains k:=by
  rw[nV,decide_eq_true_eq,List.contains_iff_mem,dF,bG];constructor
  .rintro⟨r,m,e⟩;exact VH e ▸ m
  .exact λm=>⟨k,m,rfl⟩
 rw[e];cases K.contains k<;>rfl
theorem Av {b:Ln}(ha:iP a)(hb:iP b){U:ii}(hR:∀ r∈R,∃ v,r=a.2.map (tv v))(hU:∀ r∈U,∃ v,r=b.2.map (tv v))(lR:R.length<=1000)(lU:U.length<=1000) :
  MA [bB a,cK R,bB b,cK U]=aa (cK (zP a.2 b.2 (qb a b) R U)):=by
 have hl:(qb a b).length<=1000:=cQ (Qv ha) nofun
 have ka:∀ r∈R,vR [bB a,tI r,.list ((qb a b).map dE)]=aa (cL (kZ a.2 (qb a b) r)):=λr m=>UA ha.1 (λz mz=>(A4l.1 mz).1) hl (hR r m)
 have kb:∀ r∈U,vR [bB b,tI r,.list ((qb a b).map dE)]=aa (cL (kZ b.2 (qb a b) r)):=λr m=>UA hb.1 (λz mz=>(A4l.1 mz).2) hl (hU r m)
 have ec:=V9 (b:=b) ha;generalize qb a b=zs at ka kb ec;refine eZ rfl (bK (aW rfl ec) (by simp) (bK (d:=.dict ((.none,.none)::kM ((U.map (kZ b.2 zs)).map yk) [])) (aW (ds:=[.list ((U.map (kZ b.2 zs)).map λr=>cD [cL r,.bool af])]) (aR ?_ rfl) ?_) (by simp) ?_))
 .have:=iB (cap:=[ab,aa 2,aa 4]) (fi:=cf bg) (T:=gB 0) (t:=dZ) (f:=cV (aM (aK vR (aM au (aM ao (aj az)))) (aj (eC (.bool af)))))
   (Y:=vS [s0 (bB a),s0 (cK R),s0 (bB b),s0 (cK U),s0 (.list (zs.map dE)),ab]) (λ_=>af) (λr=>cD [cL (kZ b.2 zs r),.bool af]) (eO rfl) () λr m=>⟨[aa (cL r),aa (bB b),aa (.list (zs.map dE))],rfl,rfl,λ_=>iQ (aR (aW rfl (kb r m)) rfl)⟩
  rw[uG.2 λ_ _=>rfl] at this
  rw[dF];exact this
 .show(sC _).bind _=_;rw[ZC]
  rfl
 refine cB ?_ ⟨_,rfl,rfl⟩;refine iB (λr=>(U.map (kZ b.2 zs)).contains (kZ a.2 zs r)) cL (eO rfl) () λr m=>⟨[aa (cL r),aa (.dict ((.none,.none)::kM ((U.map (kZ b.2 zs)).map yk) [])),aa (bB a),aa (.list (zs.map dE))],rfl,?_,λ_=>rfl⟩
 exact dJ (aL (aW rfl (ka r m)) rfl (Ub _ _))
theorem JQ{P:Out->Prop}{i:Nat}{j:Int}{jn:Nat}(h:f (vA Y)=aa d)(hf:fJ 1 d=af)(hg:getL i Y=aa ds)(hk:g (vS Y)=aa (.int j))(hj:jg ds.length j=aa jn)(k:P (.nx (Y.set i (aa (1,.list (ds.set jn d)))))):Goes (sY i .a f .s g) Y P:=⟨_,by
 unfold sY;rw[X' h hf,bQ,hg,bQ];show((g (vS Y)).bind _)=_;rw[hk,bQ];show((jg ds.length j).bind λj=>aa (Out.nx (Y.set i (aa (1,.list (ds.set j d))))))=_
 rw[hj,bQ],k⟩
def dk (t:dG):aA:=.list (t.map cK)
def qa (ls:aao)(a b:Nat):aal:=qb (ls.getD a cu) (ls.getD b cu)
theorem MN (ls:aao):Cm (de ls) (qa ls):=λa b z=>A4l
theorem sU(h:k<t.length):aq (dk t) (.int k)=aa (cK (t.getD k [])):=by
 refine pS ?_;simp[mI,h]
theorem CE(R:ii):(t.map cK).set k (cK R)=(t.set k R).map cK:=by rw[List.map_set]
theorem IV (R:ii):fJ 1 (cK R)=af:=by
 exact eB.2 λd m=>by
  obtain⟨r,_,rfl⟩:=bG.1 m;exact WK r
theorem u6(ho:∀ l∈ls,iP l)(hn:ls.length<=50)(hl:t.length=ls.length)(hf:jQ (de ls) t)(hs:∀ k,(t.getD k []).length<=1000) :
  Eb [bh ls,dk t]=aa (dk (qd (de ls) (qa ls) t (dS ls).1)):=by
 obtain⟨_,s2⟩:=tN (DP ls);have ok:∀ k,k<ls.length->iP (ls.getD k cu):=λk h=>by
  have:ls.getD k cu=ls[k]:=by simp[mI,h]
  rw[this];exact ho _ (nB h)
 refine eZ rfl (bK (aW rfl rfl) (by simp) (dW (λρ'=>∃ x3 x4:L2.Slot,ρ'=[s0 (bh ls),s0 (dk t),aa (1,dk (qd (de ls) (qa ls) t (dS ls).1)),x3,x4]) ?_ ?_))
 .refine mS (xs:=(dS ls).1) (q:=lI) (λt q=>lq (de ls) (qa ls) t q.2 q.1) (λ_ t' ρ'=>(jQ (de ls) t'/\t'.length=ls.length/\∀ k,(t'.getD k []).length<=1000)/\∃ x3 x4:L2.Slot,ρ'=[s0 (bh ls),s0 (dk t),aa (1,dk t'),x3,x4]) (gp (eO ?_)) ⟨⟨hf,hl,hs⟩,ab,ab,rfl⟩ ?_ ?_
  .exact aL (aW rfl (IJ ho hn)) rfl rfl
  .rintro i q t' _ hq ⟨⟨g1,g2,g3⟩,x3,x4,rfl⟩;obtain⟨m1,m2⟩:=s2 q (eW hq);have k2:q.2<t'.length:=by rw[g2];exact m2
   refine⟨[s0 (bh ls),s0 (dk t),aa (1,dk t'),s0 (.int q.1),s0 (.int q.2)],rfl,JQ (aW (aR (aL rfl rfl (rG m2)) (aR (aL rfl rfl (sU k2)) (aR (aL rfl rfl (rG m1)) (aR (aL rfl rfl (sU (by rw[g2];exact m1))) rfl)))) (Av (ok _ m2) (ok _ m1) (g1 q.2) (g1 q.1) (g3 _) (g3 _))) (IV _) rfl rfl (CD (by rw[bT];exact k2)) ⟨_,.inl rfl,⟨CP g1 k2,(vI _ _ _).trans g2,λk=>cQ (IL k2 k).length_le (g3 k)⟩,s0 (.int q.1),s0 (.int q.2),?_⟩⟩
   rw[CE]
   rfl
  .rintro _ ⟨_,x3,x4,rfl⟩;exact⟨_,rfl,x3,x4,rfl⟩
 rintro _ ⟨x3,x4,rfl⟩;exact CI rfl ⟨_,rfl,rfl⟩
theorem F1(ho:∀ l∈ls,iP l)(hn:ls.length<=50)(hl:t.length=ls.length)(hf:jQ (de ls) t)(hs:∀ k,(t.getD k []).length<=1000) :
  Cp [bh ls,dk t]=aa (dk (pq (de ls) (qa ls) t (dS ls).1)):=by
 obtain⟨_,s2⟩:=tN (DP ls);have ok:∀ k,k<ls.length->iP (ls.getD k cu):=λk h=>by
  have:ls.getD k cu=ls[k]:=by simp[mI,h]
  rw[this];exact ho _ (nB h)
 refine eZ rfl (bK (aW rfl rfl) (by simp) (dW (λρ'=>∃ x3 x4:L2.Slot,ρ'=[s0 (bh ls),s0 (dk t),aa (1,dk (pq (de ls) (qa ls) t (dS ls).1)),x3,x4]) ?_ ?_))
 .refine mS (xs:=(dS ls).1.reverse) (q:=lI) (λt q=>lq (de ls) (qa ls) t q.1 q.2) (λ_ t' ρ'=>(jQ (de ls) t'/\t'.length=ls.length/\∀ k,(t'.getD k []).length<=1000)/\∃ x3 x4:L2.Slot,ρ'=[s0 (bh ls),s0 (dk t),aa (1,dk t'),x3,x4]) (gp ?_) ⟨⟨hf,hl,hs⟩,ab,ab,rfl⟩ ?_ ?_
  .show(aM _ dD _).bind _=_;rw[aR (aL (aW rfl (IJ ho hn)) rfl rfl) rfl];show aa ((dS ls).1.map lI).reverse=_;rw[List.map_reverse]
  .rintro i q t' _ hq ⟨⟨g1,g2,g3⟩,x3,x4,rfl⟩;obtain⟨m1,m2⟩:=s2 q (List.mem_reverse.1 (eW hq));have k1:q.1<t'.length:=by rw[g2];exact m1
   refine⟨[s0 (bh ls),s0 (dk t),aa (1,dk t'),s0 (.int q.1),s0 (.int q.2)],rfl,JQ (aW (aR (aL rfl rfl (rG m1)) (aR (aL rfl rfl (sU k1)) (aR (aL rfl rfl (rG m2)) (aR (aL rfl rfl (sU (by rw[g2];exact m2))) rfl)))) (Av (ok _ m1) (ok _ m2) (g1 q.1) (g1 q.2) (g3 _) (g3 _))) (IV _) rfl rfl (CD (by rw[bT];exact k1)) ⟨_,.inl rfl,⟨CP g1 k1,(vI _ _ _).trans g2,λk=>cQ (IL k1 k).length_le (g3 k)⟩,s0 (.int q.1),s0 (.int q.2),?_⟩⟩
   rw[CE]
   rfl
  .rintro _ ⟨_,x3,x4,rfl⟩;exact⟨_,rfl,x3,x4,rfl⟩
 rintro _ ⟨x3,x4,rfl⟩;exact CI rfl ⟨_,rfl,rfl⟩
def qc (B:aD->ii)(l:Ln):ii:=fj ((B l.1).filter λr=>(fA l.2 r []).isSome)
theorem Atd {B:aD->ii}:r∈qc B l↔r∈B l.1/\∃ v,r=l.2.map (tv v):=by
 unfold qc;rw[Gr,kX];refine and_congr_right λ_=>?_
 rw[FN];exact Ua
theorem Vy (B:aD->ii)(l:Ln):(qc B l).length<=(B l.1).length:=by
 unfold qc;rw[Fe];exact wX _ _
section
variable {B:aD->ii}
theorem u9 (b:Bk kds B wd)(h6:l.2.length<=6):YT [.dict kds,bB l]=aa (cK (qc B l)):=by
 refine eZ rfl (cB (aW (aR (iB (λr=>(fA l.2 r []).isSome) cL (eO (aW rfl (Q8 b l.1 _))) (by have:=b.few l.1;lia) (λr m=>by
   refine⟨[aa (cL r),aa (bB l)],rfl,?_,λ_=>rfl⟩
   refine dJ (aL (aW rfl (xY (.str l.1) l.2 r [] () (by simp))) rfl ?_)
   cases fA l.2 r []<;>rfl)) rfl) (Hw (b.pos l.1) (λr m=>b.wid l.1 r (kX.1 m).1) (AK (wX _ _) (b.few l.1)))) ⟨_,rfl,rfl⟩)
theorem L1 (b:Bk kds B wd)(h6:∀ l∈ls,l.2.length<=6)(hn:ls.length<=50):Dr [.dict kds,bh ls]=aa (dk (ls.map (qc B))):=by
 refine eZ rfl (cB ?_ ⟨_,rfl,rfl⟩);unfold dk;rw[dF];exact(qY (λl=>cK (qc B l)) rfl () λl m=>⟨[aa (bB l),aa (.dict kds)],rfl,rfl,aW rfl (u9 b (h6 l m))⟩)
theorem Wl (ls:aao):jQ (de ls) (ls.map (qc B)):=λk r m=>by
 rw[mI,eD] at m;unfold de;rw[mI];cases h:ls[k]? with
 |none=>rw[h] at m;simp at m
 |some l=>
  rw[h] at m;exact(Atd.1 m).2
end
abbrev LR:=Ln×ii
def fN:List LR->Nat
 |[]=>1
 |p::r=>max 1 p.2.length*fN r
theorem VV:∀ ps,1<=fN ps
 |[]=>bA _
 |p::r=>OL (Nat.le_max_left 1 p.2.length) (VV r)
theorem JY:∀ xs ys,fN (xs++ys)=fN xs*fN ys
 |[],ys=>(Nat.one_mul _).symm
 |p::r,ys=>by
  show max 1 p.2.length*fN (r++ys)=max 1 p.2.length*fN r*fN ys;rw[JY r ys,Nat.mul_assoc]
theorem Z4 (ps:List LR)(i:Nat):fN (ps.take i)<=fN ps:=by
 have e:fN ps=fN (ps.take i)*fN (ps.drop i):=by rw[<-JY,OQ]
 rw[e];exact aAi _ (VV _)
def gU (ps:List LR):List Kn:=ps.foldl (λdt p=>qO dt p.1.2 p.2) [[]]
theorem VG (f g:LR->aA):∀ ps:List LR,AM pairD (ps.map f) (ps.map g)=ps.map λp=>pairD (f p) (g p)
 |[]=>rfl
 |p::r=>by
  rw[dB,dB,List.zipWith_cons_cons,VG f g r,dB]
theorem z7 (ps:List LR)(hl:ps.length<=16)(h6:∀ p∈ps,p.1.2.length<=6)(hw:fN ps<=4096) :
  JP [.tuple (ps.map λp=>bB p.1),.list (ps.map λp=>cK p.2)]=aa (.list ((gU ps).map cq))/\(gU ps).length<=fN ps/\∀ kn∈gU ps,kn.length<=96:=by
 have:∃ d,JP [.tuple (ps.map λp=>bB p.1),.list (ps.map λp=>cK p.2)]=aa d/\d=.list ((gU ps).map cq)/\(gU ps).length<=fN ps/\∀ kn∈gU ps,kn.length<=96:=by
  refine iM rfl (bK (oC rfl) (by simp) ?_)
  let A:List L2.Slot:=[s0 (.tuple (ps.map λp=>bB p.1)),s0 (.list (ps.map λp=>cK p.2))]
  refine dW (λρ'=>∃ x3 x4:L2.Slot,(gU ps).length<=fN ps/\(∀ kn∈gU ps,kn.length<=96)/\ρ'=A++[s0 (.list ((gU ps).map cq)),x3,x4]) ?_ ?_
  .refine mS (xs:=ps) (q:=λp=>pairD (bB p.1) (cK p.2)) (b0:=[[]]) (λdt p=>qO dt p.1.2 p.2) (λi dt ρ'=>∃ x3 x4:L2.Slot,dt.length<=fN (ps.take i)/\(∀ kn∈dt,kn.length<=6*i)/\ρ'=A++[s0 (.list (dt.map cq)),x3,x4]) (gp ?_) ⟨ab,ab,bA _,λkn m=>by rw[cG.1 m];simp,rfl⟩ ?_ ?_
   .rw[<-VG];exact Lv rfl rfl rfl
   .rintro i p dt _ hx ⟨x3,x4,hk,hkn,rfl⟩;have hi:=(cE.1 hx).1;have h6':=h6 p (eW hx);have ht:ps.take (i+1)=ps.take i++[p]:=by rw[qB,hx];rfl
    have hway:fN (ps.take (i+1))=fN (ps.take i)*max 1 p.2.length:=by
     rw[ht,JY];show _*(max 1 p.2.length*1)=_;rw[Nat.mul_one]
    have hm:dt.length*p.2.length<=fN (ps.take (i+1)):=by
     rw[hway];exact OL hk (Nat.le_max_right _ _)
    have hle:=Z4 ps (i+1);refine⟨A++[s0 (.list (dt.map cq)),s0 (bB p.1),s0 (cK p.2)],rfl,rD (aW rfl (B4 p.1.1 p.1.2 p.2 dt () (λkn m=>by have:=hkn kn m;lia) ())) (by simp[A]) ⟨_,.inl rfl,_,_,cQ (Xz _ _ _) hm,λbp m=>?_,rfl⟩⟩
    obtain⟨kn,mk,m⟩:=OU.1 m;obtain⟨r,_,e⟩:=uD.1 m;have:=IU e;have:=hkn kn mk
    lia
   .rintro _ ⟨x3,x4,h1,h2,rfl⟩;rw[rT] at h1;exact⟨_,rfl,_,_,h1,λkn m=>by have:=h2 kn m;lia,rfl⟩
  rintro _ ⟨x3,x4,h1,h2,rfl⟩;exact cB rfl ⟨_,rfl,rfl,h1,h2⟩
 obtain⟨d,e,rfl,h1,h2⟩:=this;exact⟨e,h1,h2⟩
def fO (kn:Kn):aD->Int:=λz=>(bP kn z).getD 0
def oZ (kn:Kn)(v:aD->Int)(ks:aam):Prop:=∀ z,(.inr z:aG)∈ks->bP kn z=aa (v z)
theorem LJ{kn bp:Kn}(h:fA ks r kn=aa bp):r.length=ks.length/\(∀ z u,bP kn z=aa u->bP bp z=aa u)/\∀ p∈ks.zip r,(∀ i,p.1=.inl i->p.2=i)/\∀ z,p.1=.inr z->bP bp z=aa p.2:=by
 obtain⟨h1,h2⟩:=Gm h;obtain⟨a,b,_⟩:=vU h2;exact⟨h1,a,b⟩
theorem JD{kn bp:Kn}(h:fA ks r kn=aa bp):r=ks.map (tv (fO bp))/\oZ bp (fO bp) ks:=by
 obtain⟨hl,_,b⟩:=LJ h;have key:∀ j (hj:j<ks.length) (hr:j<r.length),(∀ i,ks[j]=.inl i->r[j]=i)/\∀ z,ks[j]=.inr z->bP bp z=aa r[j]:=λj hj hr=>by
  have hz:j<(ks.zip r).length:=by rw[FW];lia
  have:=b (ks.zip r)[j] (nB hz);rw[List.getElem_zip] at this;exact this
 refine⟨AS (by rw[bT];exact hl) λj h1 h2=>?_,λz mz=>?_⟩
 .rw[List.getElem_map];have hj:j<ks.length:=()
  obtain⟨k1,k2⟩:=key j hj h1;cases hk:ks[j] with
  |inl i=>exact k1 i hk
  |inr z=>
   show r[j]=(bP bp z).getD 0;rw[k2 z hk]
   rfl
 .obtain⟨j,hj,e⟩:=uF mz;have:=(key j hj ()).2 z e
  unfold fO;rw[this]
  rfl
theorem Pe {kn bp:Kn}(h:oZ kn (fO kn) ks)(k:∀ z u,bP kn z=aa u->bP bp z=aa u):oZ bp (fO bp) ks/\ks.map (tv (fO bp))=ks.map (tv (fO kn)):=by
 have e:∀ z,(.inr z:aG)∈ks->bP bp z=aa (fO kn z):=λz m=>k z _ (h z m)
 have e2:∀ z,(.inr z:aG)∈ks->fO bp z=fO kn z:=λz m=>by
  show(bP bp z).getD 0=_;rw[e z m]
  rfl
 exact⟨λz m=>by rw[e2 z m];exact e z m,yB e2⟩
def GM (ps:List LR)(kn:Kn):Prop:=∀ p∈ps,oZ kn (fO kn) p.1.2/\p.1.2.map (tv (fO kn))∈p.2
theorem Ak:∀ (av xh:List LR) (dt:List Kn),(∀ kn∈dt,GM xh kn)->∀ kn∈av.foldl (λdt p=>qO dt p.1.2 p.2) dt,GM (xh++av) kn
 |[],xh,dt,h=>by rw[oW];exact h
 |q::av,xh,dt,h=>by
  have e:xh++q::av=(xh++[q])++av:=by simp
  rw[e,hJ];refine Ak av (xh++[q]) _ λkn m=>?_
  obtain⟨k0,mk,m⟩:=OU.1 m;obtain⟨r,mr,ef⟩:=uD.1 m;intro p mp;rcases jM.1 mp with mp|mp
  .obtain⟨a,b⟩:=h k0 mk p mp;obtain⟨c,d⟩:=Pe a (LJ ef).2.1;exact⟨c,d ▸ b⟩
  .rw[cG.1 mp];obtain⟨a,b⟩:=JD ef;exact⟨b,a ▸ mr⟩
theorem EB (ps:List LR):∀ kn∈gU ps,GM ps kn:=by
 have:=Ak ps [] [[]] λkn _ p m=>by simp at m
 rwa [List.nil_append] at this
def rA (kn:Kn)(v:aD->Int):Prop:=∀ z u,bP kn z=aa u->u=v z
theorem yP{kn:Kn}(h:rA kn v):∃ bp,fA ks (ks.map (tv v)) kn=aa bp/\rA bp v:=by
 obtain⟨bp,e⟩:=yK (ps:=ks.zip (ks.map (tv v))) (λp m i q=>by rw[(rN m).2,q];rfl) (λp m z u q e=>by rw[(rN m).2,q,h z u e];rfl) (λp m p' m' z q q'=>by rw[(rN m).2,(rN m').2,q,q'])
 refine⟨bp,?_,λz u eu=>?_⟩
 .unfold fA;rw[if_pos (by rw[bT])]
  exact e
 .obtain⟨_,b,c⟩:=vU e;rcases c z u eu with c|⟨p,mp,q⟩
  .exact h z u c
  .have e1:=(b p mp).2 z q;rw[eu] at e1;rw[fF e1,(rN mp).2,q]
   rfl
theorem Bl:∀ (av:List LR) (dt:List Kn),(∃ kn∈dt,rA kn v)->(∀ p∈av,p.1.2.map (tv v)∈p.2)->∃ kn∈av.foldl (λdt p=>qO dt p.1.2 p.2) dt,rA kn v
 |[],dt,h,_=>h
 |q::av,dt,⟨k0,m0,h0⟩,h=>by
  refine Bl av _ ?_ λp m=>h p (bI _ m)
  obtain⟨k1,e1,h1⟩:=yP h0;exact⟨k1,OU.2 ⟨k0,m0,uD.2 ⟨_,h q bD,e1⟩⟩,h1⟩
theorem X5 {ps:List LR}{p:LR}(hp:p∈ps):r∈(gU ps).map (λkn=>p.1.2.map (tv (fO kn))) ↔ ∃ v,(∀ q∈ps,q.1.2.map (tv v)∈q.2)/\r=p.1.2.map (tv v):=by
 rw[bG];constructor
 .rintro⟨kn,m,rfl⟩;exact⟨fO kn,λq mq=>(EB ps kn m q mq).2,rfl⟩
 .rintro⟨v,h,rfl⟩;obtain⟨kn,m,ha⟩:=Bl ps [[]] ⟨[],cG.2 rfl,λz u e=>by cases e⟩ h
  refine⟨kn,m,yB λz mz=>ha z _ ((EB ps kn m p hp).1 z mz)⟩
theorem Yb {kn:Kn}(h:oZ kn v ks){k:aG}(mk:k∈ks):qW au ao ao [aa (kD k),aa (cq kn)]=aa (.int (tv v k)):=by
 cases k with
 |inl i=>
  rw[vJ rfl rfl rfl rfl (xq kn),VY]
  rfl
 |inr z=>
  rw[vJ rfl rfl rfl rfl (xq kn),yC,h z mk]
  rfl
theorem KW{kn:Kn}(hl:ks.length<=1000)(h:oZ kn v ks):pT [tK ks,cq kn]=aa (cL (ks.map (tv v))):=by
 refine eZ rfl (cB (aW (aR (qY (λk=>aU (tv v k)) (lV rfl) () λk mk=>⟨[aa (kD k),aa (cq kn)],rfl,rfl,Yb h mk⟩) rfl) ?_) ⟨_,rfl,rfl⟩)
 show aa (cD _)=aa (cD ((ks.map (tv v)).map aU));rw[dF]
 rfl
theorem Ck {α:Type}[DecidableEq α]:∀ (zs ak:List α),ak.Nodup->(zs.foldl cW ak).Nodup
 |[],ak,h=>h
 |z::zs,ak,h=>by
  refine Ck zs _ ?_;unfold cW;split
  .exact h
  .rename_i hz;exact rV.2 ⟨h,by simp,λa ha b hb e=>hz (by rw[cG] at hb;rw[<-hb,<-e];exact ha)⟩
theorem yG {α:Type}[DecidableEq α](zs:List α):(dO zs).Nodup:=Ck zs [] OS
theorem tM {α:Type}[DecidableEq α]{zs ys:List α}(h:∀ z∈zs,z∈ys):(dO zs).length<=ys.length:=Jq (yG zs) λz m=>h z (Aa7.1 m)
theorem A0w (R:ii):eA (R.map λr=>r.map aU)=(dO R).map λr=>r.map aU:=by
 have go:∀ (R ak:ii),(R.map λr=>r.map aU).foldl hX (ak.map λr=>r.map aU)=(R.foldl cW ak).map λr=>r.map aU:=by
  intro R;induction R with
  |nil=>intro ak;rfl
  |cons r R ih=>
   intro ak;rw[dB,hJ,hJ,<-ih]
   congr 1
   unfold hX cW;by_cases h:r∈ak
   .rw[if_pos h,if_pos (bG.2 ⟨r,h,rfl⟩)]
   .rw[if_neg h,if_neg λm=>by
     obtain⟨x,mx,e⟩:=bG.1 m;exact h (VH e ▸ mx),hG]
    rfl
 exact go R []
theorem z9(hn:1<=n)(hw:∀ r∈R,r.length=n)(hl:(dO R).length<64):ED [cK R]=aa (cK (fj (dO R))):=by
 have e:=Hw hn (λr m=>hw r (Aa7.1 m)) hl
 have e:((gC ((dO R).map cL)).bind λkss=>if jm kss=af/\kss.length<64 then aa (jZ ((jH kss).map cD)) else ab)=aa (cK (fj (dO R))):=e
 show((gC (R.map cL)).bind _)=_;rw[ZR,bQ] at e ⊢;rw[A0w];obtain⟨⟨a,b⟩,c⟩:=cJ e;exact(if_pos ⟨b,a⟩).trans (by rw[c])
def iL (ls:aao)(t:dG):List LR:=(dS ls).2.map λk=>(ls.getD k cu,t.getD k [])
theorem xZ(h:k∈(dS ls).2):k<ls.length:=(tN (DP ls)).1 k h
theorem UX (ls:aao):(dS ls).2.length<=ls.length:=by
 have:=(Gq (ls:=ls) (n:=ls.length) (L:=bZ ls.length)).2;rw[AO] at this;exact this
theorem He(ho:∀ l∈ls,iP l)(hn:ls.length<=50){Y:be}(h:Y[0]?.join=aa (bh ls)):ai aq (aK vB (aj ao)) bf Y=aa (lN (dS ls).2):=
 aL (aW (aR h rfl) (IJ ho hn)) rfl rfl
theorem Fc(hm:1<=m):∀ {ps:List LR},(∀ p∈ps,p.2.length<=m)->fN ps<=m^ps.length
 |[],_=>bA _
 |p::ps,h=>by
  rw[eX,FP,Nat.mul_comm];exact OL (Nat.max_le.2 ⟨hm,h p bD⟩) (Fc hm λq mq=>h q (bI _ mq))
structure Lok (m:Nat)(ls:List Ln):Prop where
 ok:∀ l∈ls,iP l
 w1:∀ l∈ls,1<=l.2.length
 n4:ls.length<=5
 m1:1<=m
 m60:m<=5
theorem Lok.pw(L:Lok m ls):m^(dS ls).2.length<=4096:=
 cQ (Nat.pow_le_pow_left L.m60 _) (cQ (Nat.pow_le_pow_right nofun (cQ (UX ls) L.n4)) nofun)
theorem Lok.atR(h:Lok m ls)(hk:k<ls.length):iP (ls.getD k cu)/\1<=(ls.getD k cu).2.length:=by
 have e:ls.getD k cu=ls[k]:=by simp[mI,hk]
 rw[e];exact⟨h.ok _ (nB hk),h.w1 _ (nB hk)⟩
theorem J8(L:Lok m ls)(hl:t.length=ls.length)(hs:∀ k,(t.getD k []).length<=m) :
  Ct [bh ls,dk t]=aa (.list ((gU (iL ls t)).map cq))/\(gU (iL ls t)).length<=4096:=by
 have hr:=UX ls;have n4:=L.n4;have hw:fN (iL ls t)<=4096:=cQ (Fc L.m1 λp m=>by
  obtain⟨k,_,rfl⟩:=bG.1 m;exact hs k) (by unfold iL;rw[bT];exact L.pw)
 obtain⟨e,h1,_⟩:=z7 (iL ls t) (by unfold iL;rw[bT];lia) (λp m=>by
  obtain⟨k,mk,rfl⟩:=bG.1 m;exact(L.atR (xZ mk)).1.1) hw
 refine⟨?_,()⟩
 refine eZ rfl (bK (He L.ok () rfl) (by simp) ?_)
 have e1:=iB (cap:=[ab,aa 0]) (fi:=cf az) (T:=gB 0) (t:=dZ) (f:=ai aq au ao) (Y:=vS [s0 (bh ls),s0 (dk t),s0 (lN (dS ls).2)]) (λ_=>af) (λk=>bB (ls.getD k cu)) (eO rfl) () λk mk=>⟨[aa (.int k),aa (bh ls)],rfl,rfl,λ_=>aL rfl rfl (rG (xZ mk))⟩
 have e2:=iB (cap:=[ab,aa 1]) (fi:=cf az) (T:=gB 0) (t:=dZ) (f:=ai aq au ao) (Y:=vS [s0 (bh ls),s0 (dk t),s0 (lN (dS ls).2)]) (λ_=>af) (λk=>cK (t.getD k [])) (eO rfl) () λk mk=>⟨[aa (.int k),aa (dk t)],rfl,rfl,λ_=>aL rfl rfl (sU (by rw[hl];exact xZ mk))⟩
 rw[uG.2 λ_ _=>rfl] at e1 e2
 have q1:((iL ls t).map λp=>bB p.1)=(dS ls).2.map λk=>bB (ls.getD k cu):=by unfold iL;rw[dF];rfl
 have q2:((iL ls t).map λp=>cK p.2)=(dS ls).2.map λk=>cK (t.getD k []):=by unfold iL;rw[dF];rfl
 rw[q1,q2] at e;exact cB (aW (aR (aW (aR e1 rfl) rfl) (aR e2 rfl)) e) ⟨_,rfl,rfl⟩
def sL (ls:aao)(t:dG)(k:Nat):ii:=fj (dO ((gU (iL ls t)).map λkn=>(de ls k).map (tv (fO kn))))
def mP (ls:aao)(t:dG):dG:=(dS ls).2.foldl (λt' k=>t'.set k (sL ls t k)) t
theorem UQ(h:k∈(dS ls).2)(m:r∈(gU (iL ls t)).map λkn=>(de ls k).map (tv (fO kn))):r∈t.getD k []:=by
 obtain⟨kn,mk,rfl⟩:=bG.1 m;exact(EB _ kn mk (ls.getD k cu,t.getD k []) (bG.2 ⟨k,h,rfl⟩)).2
theorem Fy {f:Nat->ii}:∀ (L:aaq) (t:dG),(L.foldl (λt' k=>t'.set k (f k)) t).length=t.length
 |[],t=>rfl
 |k::L,t=>by rw[hJ,Fy L,wW]
theorem TZ {f:Nat->ii}:∀ (L:aaq) (t:dG),(∀ k∈L,k<t.length)->∀ j,(L.foldl (λt' k=>t'.set k (f k)) t).getD j []=if j∈L then f j else t.getD j []
 |[],t,_,j=>by rw[if_neg (by simp)];rfl
 |k::L,t,h,j=>by
  rw[hJ,TZ L _ (λx m=>by rw[wW];exact h x (bI _ m)) j,DR (h k bD)]
  by_cases q:j∈L
  .rw[if_pos q,if_pos (bI _ q)]
  .rw[if_neg q];by_cases e:j=k
   .subst e;rw[if_pos rfl,if_pos bD]
   .rw[if_neg e,if_neg λm=>(cI.1 m).elim e q]
theorem E7(L:Lok m ls)(hl:t.length=ls.length)(hs:∀ k,(t.getD k []).length<=m):Dj [bh ls,dk t]=aa (dk (mP ls t)):=by
 obtain⟨ew,hwl⟩:=J8 L hl hs;have n4:=L.n4;refine eZ rfl (bK (aW rfl rfl) (by simp) (bK (aW rfl ew) (by simp) (dW (λρ'=>∃ x4:L2.Slot,ρ'=[s0 (bh ls),s0 (dk t),aa (1,dk (mP ls t)),s0 (.list ((gU (iL ls t)).map cq)),x4]) ?_ ?_)))
 .refine mS (λt' k=>t'.set k (sL ls t k)) (λ_ t' ρ'=>t'.length=ls.length/\∃ x4:L2.Slot,ρ'=[s0 (bh ls),s0 (dk t),aa (1,dk t'),s0 (.list ((gU (iL ls t)).map cq)),x4]) (gp (eO (He L.ok () rfl))) ⟨hl,ab,rfl⟩ ?_ ?_
  .rintro i k t' _ hk ⟨g2,x4,rfl⟩;have mk:=eW hk;have k1:=xZ mk;refine⟨[s0 (bh ls),s0 (dk t),aa (1,dk t'),s0 (.list ((gU (iL ls t)).map cq)),s0 (.int k)],rfl,?_⟩;have wk:=(L.atR k1).1.1;have es:=z9 (R:=(gU (iL ls t)).map λkn=>(de ls k).map (tv (fO kn))) (n:=(de ls k).length) (L.atR k1).2 (λr m=>by
    obtain⟨kn,_,rfl⟩:=bG.1 m;rw[bT]) (AK (tM λr m=>UQ mk m) (by have:=hs k;have:=L.m60;lia))
   unfold cK at es;rw[dF] at es;refine HU (d:=cK (sL ls t k)) (aW (aR (qY (λkn=>cL ((de ls k).map (tv (fO kn)))) (eO rfl) () λkn mkn=>
     ⟨[aa (cq kn),aa (bh ls),aa (.int k)],rfl,rfl,aW (ds:=[tK (de ls k),cq kn]) (aR (aL (aL rfl rfl (rG k1)) rfl rfl) rfl) (KW (by unfold de;lia) (EB _ kn mkn (ls.getD k cu,t.getD k []) (bG.2 ⟨k,mk,rfl⟩)).1)⟩) rfl) es) rfl rfl (CD (by rw[bT,g2];exact k1)) ⟨_,.inl rfl,wW.trans g2,s0 (.int k),?_⟩
   rw[CE]
   rfl
  .rintro _ ⟨_,x4,rfl⟩;exact⟨_,rfl,x4,rfl⟩
 rintro _ ⟨x4,rfl⟩;exact CI rfl ⟨_,rfl,rfl⟩
def Up (R:ii):Prop:=R.Nodup/\R.Pairwise λa b=>leT (a.map aU) (b.map aU)=af
theorem SU(hn:R.Nodup):Up (fj R):=by
 refine⟨(JL R).nodup_iff.2 hn,?_⟩;have h:=LK (R.map λr=>r.map aU)
 have e:jH (R.map λr=>r.map aU)=(fj R).map λr=>r.map aU:=by
  unfold fj;rw[dF];refine(List.map_id' _).symm.trans (iH λk mk=>?_)
  obtain⟨a,_,rfl⟩:=bG.1 ((tP _).mem_iff.1 mk);show _=((a.map aU).map uw).map aU;rw[yE]
 rw[e] at h;exact uC.1 h
theorem Up.sub {S:ii}(h:Up S)(s:R.Sublist S):Up R:=⟨List.Nodup.sublist s h.1,h.2.sublist s⟩
theorem IZ {α:Type}{ls:Nat->aam}{cm:Nat->Nat->aal}(a b:α->Nat):∀ (xs:List α) (t:dG),(∀ x∈xs,a x<t.length)->∀ i,((xs.foldl (λt x=>lq ls cm t (a x) (b x)) t).getD i []).Sublist (t.getD i [])
 |[],t,_,i=>PK _
 |x::xs,t,h,i=>by
  exact(IZ a b xs _ (λy m=>by rw[vI];exact h y (bI _ m)) i).trans (IL (h x bD) i)
abbrev mN (ls:aao)(t:dG)(v:aD->Int):Prop:=∀ j,j<ls.length->(de ls j).map (tv v)∈t.getD j []
structure Kpt (m:Nat)(ls:List Ln)(t:dG):Prop where
 len:t.length=ls.length
 few:∀ k,(t.getD k []).length<=m
 up:∀ k,Up (t.getD k [])
 fit:jQ (de ls) t
theorem C4(L:Lok m ls){t0:dG}(T:Kpt m ls t0) :
  ∃ t:dG,Bi [bh ls,dk t0]=aa (dk t)/\Kpt m ls t/\∀ k,k<ls.length->∀ r,r∈t.getD k [] ↔ ∃ v,mN ls t0 v/\r=(de ls k).map (tv v):=by
 have n4:=L.n4;obtain⟨l0,z0,u0,f0⟩:=T;have E:=DP ls;obtain⟨s1,s2⟩:=tN E;have b2:∀ q∈(dS ls).1,q.2<t0.length:=λq m=>by rw[l0];exact(s2 q m).2
 obtain⟨_,f1,l1⟩:=MT (MN ls) f0 b2;have v1:∀ i,((qd (de ls) (qa ls) t0 (dS ls).1).getD i []).Sublist (t0.getD i []):=IZ (λq:Nat×Nat=>q.2) (λq=>q.1) (dS ls).1 t0 b2
 have e1:=u6 L.ok () l0 f0 λk=>cQ (z0 k) (by have:=L.m60;lia)
 have R:=λ(h1:_) (h2:_) (l2:_)=>E8 (t2:=mP ls (qd (de ls) (qa ls) t0 (dS ls).1)) (MN ls) f0 (by rw[l0];exact E) l2 h1 h2
 generalize qd (de ls) (qa ls) t0 (dS ls).1=t1 at f1 l1 v1 e1 R;have Tk:=l1.trans l0;have z1:∀ k,(t1.getD k []).length<=m:=λk=>cQ (v1 k).length_le (z0 k)
 have w2:∀ j,(mP ls t1).getD j []=if j∈(dS ls).2 then sL ls t1 j else t1.getD j []:=TZ (dS ls).2 t1 λk m=>by rw[Tk];exact xZ m
 have l2:(mP ls t1).length=t1.length:=Fy _ _;have x2:∀ k∈(dS ls).2,∀ r,r∈sL ls t1 k↔r∈(gU (iL ls t1)).map λkn=>(de ls k).map (tv (fO kn)):=λk _ r=>by
  unfold sL;rw[Gr,Aa7]
 have f2:jQ (de ls) (mP ls t1):=λk r m=>by
  rw[w2 k] at m;by_cases q:k∈(dS ls).2
  .rw[if_pos q] at m;obtain⟨kn,_,rfl⟩:=bG.1 ((x2 k q r).1 m);exact⟨_,rfl⟩
  .rw[if_neg q] at m;exact f1 k r m
 have z2:∀ k,((mP ls t1).getD k []).length<=m:=λk=>by
  rw[w2 k];split
  .rename_i q;unfold sL;rw[Fe];exact cQ (tM λr m=>UQ q m) (z1 k)
  .exact z1 k
 have u2:∀ k,Up ((mP ls t1).getD k []):=λk=>by
  rw[w2 k];split
  .exact SU (yG _)
  .exact(u0 k).sub (v1 k)
 have R:=R (λk q r=>by
  rw[w2 k,if_pos q,x2 k q r];have:=X5 (ps:=iL ls t1) (bG.2 ⟨k,q,rfl⟩) (r:=r);refine this.trans ⟨?_,?_⟩
  .rintro⟨v,h,e⟩;exact⟨v,λj hj=>h (ls.getD j cu,t1.getD j []) (bG.2 ⟨j,hj,rfl⟩),e⟩
  .rintro⟨v,h,e⟩;refine⟨v,λp mp=>?_,e⟩
   obtain⟨j,hj,rfl⟩:=bG.1 mp;exact h j hj) (λk q=>by
  rw[w2 k,if_neg q]) (l2.trans l1)
 have b3:∀ q∈(dS ls).1,q.1<(mP ls t1).length:=λq m=>by rw[l2,Tk];exact(s2 q m).1
 obtain⟨_,f3,l3⟩:=MR (MN ls) f2 b3;have v3:∀ i,((pq (de ls) (qa ls) (mP ls t1) (dS ls).1).getD i []).Sublist ((mP ls t1).getD i []):=IZ (λq:Nat×Nat=>q.1) (λq=>q.2) (dS ls).1.reverse _ λq m=>b3 q (List.mem_reverse.1 m)
 refine⟨pq (de ls) (qa ls) (mP ls t1) (dS ls).1,?_,⟨l3.trans (l2.trans Tk),λk=>cQ (v3 k).length_le (z2 k),λk=>(u2 k).sub (v3 k),f3⟩,λk hk r=>by rw[R k (by rw[l0];exact hk) r,l0];rfl⟩
 exact eZ rfl (cB (aW (aR rfl (aR (aW (aR rfl (aR (aW rfl e1) rfl)) (E7 L Tk z1)) rfl)) (F1 L.ok () (l2.trans Tk) f2 λk=>cQ (z2 k) (by have:=L.m60;lia))) ⟨_,rfl,rfl⟩)
section
variable {G:SF}{P:Out->Prop}{m:Md}
def zS (I:aQ->Prop)(R:aA->Prop)(o:Out):Prop:=(∃ ρ',o=.nx ρ'/\I ρ')\/∃ d,o=.rt d/\R d
theorem QT(I:Nat->aQ->Prop)(R:aA->Prop):∀ (ds:aag) (Y:aQ) (n:Nat),I n Y->(∀ i d Y,ds[i]?=aa d->I (n+i) Y->∃ ρ1,T d Y=aa ρ1/\Goes F ρ1 (zS (I (n+i+1)) R))->∃ o,iJ F T ds Y=aa o/\zS (I (n+ds.length)) R o
 |[],Y,n,h0,_=>⟨_,rfl,.inl ⟨Y,rfl,h0⟩⟩
 |d::ds,Y,n,h0,step=>by
  obtain⟨ρ1,e1,o,e2,h⟩:=step 0 d Y rfl h0;unfold iJ;rw[e1,bQ,e2,bQ];rcases h with⟨ρ2,rfl,h⟩|⟨r,rfl,h⟩
  .have:=QT I R ds ρ2 (n+1) h λi d Y e hi=>by
    have:=step (i+1) d Y e (by rw[<-FT,Nat.add_right_comm];exact hi)
    rwa [show n+(i+1)+1=n+1+i+1 by lia] at this
   rwa [show n+1+ds.length=n+(d::ds).length by rw[eX];lia] at this
  .exact⟨_,rfl,.inr ⟨r,rfl,h⟩⟩
theorem Eu {fi:AF}(I:Nat->aQ->Prop)(R:aA->Prop)(h:aV m fi Y=aa ds)(hl:ds.length=n)(h0:I 0 Y)(step:∀ i d Y,ds[i]?=aa d->I i Y->∃ ρ1,T d Y=aa ρ1/\Goes F ρ1 (zS (I (i+1)) R)):Goes (iX m fi T F) Y (zS (I n) R):=by
 subst hl;obtain⟨o,e,q⟩:=QT I R ds Y 0 h0 λi d Y e hi=>by simpa using step i d Y e (by simpa using hi)
 exact⟨o,CJ h e,by simpa using q⟩
theorem Ey (I:aQ->Prop)(R:aA->Prop)(h:Goes F Y (zS I R))(k1:∀ d,R d->P (.rt d))(k2:∀ ρ',I ρ'->Goes G ρ' P):Goes (aN F G) Y P:=by
 obtain⟨o,e,⟨ρ',rfl,h⟩|⟨d,rfl,h⟩⟩:=h
 .exact fI e (k2 ρ' h)
 .exact CS e (k1 d h)
end
def iz (a b:aaj):Prop:=bU (a.map aU)<bU (b.map aU)
theorem Adk {i j:Int}{a b:aaj}:iz (i::a) (j::b)↔i<j\/i=j/\iz a b:=vO i j _ _
theorem MX (a:aaj):¬ iz a a:=FV _
theorem IQ:∀ {a b:aaj},a.length=b.length->∀ {c d:aaj},iz (a++c) (b++d)↔iz a b\/a=b/\iz c d
 |[],[],_,c,d=>by simp[MX]
 |i::a,j::b,h,c,d=>by
  rw[AU,AU,Adk,Adk,IQ (by simpa using h),List.cons.injEq]
  grind
theorem Hv:∀ {a b:aaj},a.length=b.length->a=b\/iz a b\/iz b a
 |[],[],_=>.inl rfl
 |i::a,j::b,h=>by
  have:=Hv (by simpa using h)
  rw[Adk,Adk,List.cons.injEq]
  grind
theorem VA {α:Type}[DecidableEq α]:∀ (zs N:List α),∃ M,zs.foldl cW N=N++M
 |[],N=>⟨[],by simp⟩
 |z::zs,N=>by
  obtain⟨M,e⟩:=VA zs (cW N z);rw[hJ,e];unfold cW;split
  .exact⟨M,rfl⟩
  .exact⟨z::M,by simp⟩
theorem Gg {N:aal}{w:aD->Int}(h:iz (N.map v) (N.map w))(zs:aal):iz ((zs.foldl cW N).map v) ((zs.foldl cW N).map w):=by
 obtain⟨M,e⟩:=VA zs N;rw[e,hG,hG,IQ (by simp)]
 exact .inl h
theorem JM:∀ (ks:aam) (N:aal) {v w:aD->Int},(∀ z∈N,v z=w z)->iz (ks.map (tv v)) (ks.map (tv w))->iz (((dR ks).foldl cW N).map v) (((dR ks).foldl cW N).map w)
 |[],N,v,w,_,h=>absurd h (MX _)
 | .inl i::ks,N,v,w,hN,h=>JM ks N hN (by
  rcases Adk.1 h with h|h
  .exact absurd h (Jr i)
  .exact h.2)
 |.inr z::ks,N,v,w,hN,h=>by
  show iz (((dR ks).foldl cW (cW N z)).map v) (((dR ks).foldl cW (cW N z)).map w);rcases Adk.1 h with h|⟨e,h⟩
  .refine Gg ?_ _;have h:v z<w z:=h;unfold cW;rw[if_neg (λm=>by rw[hN z m] at h;exact absurd h (Jr _)),hG,hG,IQ (by simp)]
   exact .inr ⟨iH hN,Adk.2 (.inl h)⟩
  .refine JM ks _ (λx m=>?_) h
   rcases Anu.1 m with m|rfl
   .exact hN x m
   .exact e
def kF (B:aD->ii)(ls:aao)(v:aD->Int):Prop:=∀ l∈ls,l.2.map (tv v)∈B l.1
theorem Be(h:k<ls.length):aY (ls.take (k+1))=(dR (de ls k)).foldl cW (aY (ls.take k)):=by
 have e:ls.getD k cu=ls[k]:=by simp[mI,h]
 unfold aY dO de;rw[List.take_succ_eq_append_getElem h,List.flatMap_append,qC,e,wZ,List.flatMap_nil,oW]
structure Ahd (m:Nat)(B:aD->List (List Int))(ls:List Ln)(k:Nat)(t:dG)(kn:Kn):Prop where
 kp:Kpt m ls t
 kl:kn.length<=6*k
 ex:0<k->∃ v,mN ls t v
 sol:∀ v,mN ls t v->kF B ls v/\rA kn v
 dom:∀ z∈aY (ls.take k),∃ u,bP kn z=aa u
 lst:∀ w,kF B ls w->mN ls t w\/∃ v,mN ls t v/\iz ((aY (ls.take k)).map v) ((aY (ls.take k)).map w)
theorem Ahd.next{B:aD->ii}{t':dG}{kn:Kn}(A:Ahd m B ls k t kn)(L:Lok m ls)(hk:k<ls.length)(K:Kpt m ls t')(hm:∀ k,k<ls.length->∀ r,r∈t'.getD k [] ↔ ∃ v,mN ls t v/\r=(de ls k).map (tv v)) :
  (t'.getD k []=[]/\∀ w,¬ kF B ls w)\/∃ r R bp,t'.getD k []=r::R/\fA (de ls k) r kn=aa bp/\Ahd m B ls (k+1) (t'.set k [r]) bp:=by
 cases e:t'.getD k [] with
 |nil=>
  refine .inl ⟨rfl,λw hw=>?_⟩
  rcases A.lst w hw with h|⟨v,h,_⟩<;>exact(λv hv=>by
   have:=(hm k hk _).2 ⟨v,hv,rfl⟩;rw[e] at this;cases this) _ h
 |cons r R=>
  obtain⟨v0,h0,e0⟩:=(hm k hk r).1 (by rw[e];exact bD)
  obtain⟨bp,ef,ag⟩:=yP (A.sol v0 h0).2;rw[<-e0] at ef;have at_:∀ j,(t'.set k [r]).getD j []=if j=k then [r] else t'.getD j []:=λj=>by
   rw[mI,List.getElem?_set,K.len];by_cases q:k=j
   .subst q;simp[hk]
   .simp[q,fZ q,mI]
  have iff:∀ v,mN ls (t'.set k [r]) v↔mN ls t v/\(de ls k).map (tv v)=r:=λv=>by
   constructor
   .intro h;have wE:(de ls k).map (tv v)=r:=by
     have:=h k hk;rw[at_,if_pos rfl] at this;exact cG.1 this
    refine⟨λj hj=>?_,wE⟩
    have:(de ls j).map (tv v)∈t'.getD j []:=by
     by_cases q:j=k
     .rw[q,wE,e];exact bD
     .have:=h j hj
      rwa [at_,if_neg q] at this
    obtain⟨v',h',e'⟩:=(hm j hj _).1 this;rw[e'];exact h' j hj
   .rintro⟨h,hr⟩ j hj;rw[at_];split
    .rename_i q;rw[q,hr];exact cG.2 rfl
    .exact(hm j hj _).2 ⟨v,h,rfl⟩
  have s0:=(iff v0).2 ⟨h0,e0.symm⟩;have vw:∀ {v w},mN ls t v->mN ls t w->∀ z∈aY (ls.take k),v z=w z:=λ{v w} hv hw z m=>by
   obtain⟨u,eu⟩:=A.dom z m;rw[<-(A.sol v hv).2 z u eu,<-(A.sol w hw).2 z u eu]
  have w6:=(L.atR hk).1.1;refine .inr ⟨r,R,bp,rfl,ef,⟨by rw[wW];exact K.len,λj=>?_,λj=>?_,λj x m=>?_⟩,?_,?_,λv h=>?_,λz m=>?_,λw hw=>?_⟩
  .rw[at_];split
   .exact L.m1
   .exact K.few j
  .rw[at_];split
   .exact⟨by simp,by simp⟩
   .exact K.up j
  .rw[at_] at m;split at m
   .rename_i q;subst q;exact⟨v0,(cG.1 m).trans e0⟩
   .exact K.fit j x m
  .have:=IU ef;have:=A.kl;unfold de at *
   lia
  .exact λ_=>⟨v0,s0⟩
  .obtain⟨h1,h2⟩:=(iff v).1 h;obtain⟨kn2,e2,a2⟩:=yP (A.sol v h1).2;rw[h2,ef] at e2;cases e2;exact⟨(A.sol v h1).1,a2⟩
  .rw[Be hk] at m;rcases(KL _ _).1 m with m|m
   .obtain⟨u,eu⟩:=A.dom z m;exact⟨u,(LJ ef).2.1 z u eu⟩
   .exact⟨_,(JD ef).2 z (Acv.1 m)⟩
  .rw[Be hk];rcases A.lst w hw with h|⟨v,h,lt⟩
   .have mw:=(hm k hk _).2 ⟨w,h,rfl⟩;by_cases q:(de ls k).map (tv w)=r
    .exact .inl ((iff w).2 ⟨h,q⟩)
    .refine .inr ⟨v0,s0,JM _ _ (vw h0 h) ?_⟩;rw[<-e0];rw[e] at mw;have up:=K.up k;rw[e] at up;rcases cI.1 mw with z|mw
     .exact absurd z q
     .have le:=Ag5.1 (List.rel_of_pairwise_cons up.2 mw);rcases Hv (a:=r) (b:=(de ls k).map (tv w)) (by rw[e0];simp) with z|z|z
      .exact absurd z.symm q
      .exact z
      .exact absurd z le
   .refine .inr ⟨v0,s0,Gg ?_ _⟩
    rwa [iH (vw h0 h)]
theorem Qg {a b:aaj}(h:iz a b):¬ iz b a:=yS _ _ h
theorem UV:∀ ls:aao,(∀ l∈ls,l.2.length<=6)->(ls.flatMap λl=>dR l.2).length<=6*ls.length
 |[],_=>bA _
 |l::r,h=>by
  have a:=UV r λx m=>h x (bI _ m)
  have b:=h l bD;have c:(dR l.2).length<=l.2.length:=uE ..;rw[wZ,jN,eX]
  lia
theorem KG (ls:aao)(h:∀ l∈ls,l.2.length<=6):(aY ls).length<=6*ls.length:=by
 have h1:=yU (ls.flatMap λl=>dR l.2) []
 have h2:=UV ls h;unfold aY dO;rw[Jd,OK] at h1
 lia
section
variable {B:aD->ii}
theorem La(h5:∀ t,(B t).length<=m)(nd:∀ t,(B t).Nodup)(ls:aao):Ahd m B ls 0 (ls.map (qc B)) []:=by
 have at_:∀ k,(ls.map (qc B)).getD k []=if k<ls.length then qc B (ls.getD k cu) else []:=λk=>by
  by_cases h:k<ls.length<;>simp[h]
 refine⟨⟨bT _,λk=>?_,λk=>?_,Wl ls⟩,bA _,(λh=>nomatch h),λv h=>⟨λl m=>?_,(λ_ _ h=>nomatch h)⟩,(λ_ h=>nomatch h),λw hw=>.inl λj hj=>?_⟩
 .rw[at_];split
  .exact cQ (Vy _ _) (h5 _)
  .simp
 .rw[at_];split
  .exact SU (List.Nodup.sublist PD (nd _))
  .exact⟨OS,Jp⟩
 .obtain⟨j,hj,rfl⟩:=uF m;have:=h j hj;rw[at_,if_pos hj] at this;have:=(Atd.1 this).1;unfold de at this
  rwa [show ls.getD j cu=ls[j] by simp[mI,hj]] at this
 .rw[at_,if_pos hj];exact Atd.2 ⟨hw _ (getD_mem cu hj),w,rfl⟩
theorem P3 (b:Bk kds B wd)(h5:∀ t,(B t).length<=m)(nd:∀ t,(B t).Nodup)(L:Lok m ls) :
  (EN [.dict kds,bh ls]=aa .none/\∀ w,¬ kF B ls w)\/∃ v,EN [.dict kds,bh ls]=aa (cL ((aY ls).map v))/\kF B ls v/\∀ w,kF B ls w->¬ iz ((aY ls).map w) ((aY ls).map v):=by
 have n4:=L.n4;have h6:∀ l∈ls,l.2.length<=6:=λl m=>(L.ok l m).1
 have:∃ d,EN [.dict kds,bh ls]=aa d/\((d=.none/\∀ w,¬ kF B ls w)\/∃ v,d=cL ((aY ls).map v)/\kF B ls v/\∀ w,kF B ls w->¬ iz ((aY ls).map w) ((aY ls).map v)):=by
  refine iM rfl (bK (aW rfl (L1 b h6 ())) (by simp) (bK rfl (by simp) ?_))
  let I:Nat->aQ->Prop:=λk Y=>∃ c t kn x4 x5,Y=[s0 (.dict kds),s0 (bh ls),aa (c,dk t),s0 (cq kn),x4,x5]/\Ahd m B ls k t kn
  refine Ey (I ls.length) (λd=>d=.none/\∀ w,¬ kF B ls w) ?_ (λd h=>⟨d,rfl,.inl h⟩) ?_
  .refine Eu I _ (gp (Ht (f:=bR 1) (Y:=vS [s0 (.dict kds),s0 (bh ls),aa (1,dk (ls.map (qc B))),s0 (.dict []),ab,ab]) bB cu rfl)) (by simp) ⟨1,_,[],ab,ab,rfl,La h5 nd ls⟩ ?_
   rintro k d _ hd ⟨c,t,kn,x4,x5,rfl,A⟩;have hk:k<ls.length:=by simpa using(cE.1 hd).1
   have ed:d=.tuple [.int k,bB (ls.getD k cu)]:=by
    rw[eD,AQ hk] at hd;exact(fF hd).symm
   subst ed;refine⟨[s0 (.dict kds),s0 (bh ls),aa (c,dk t),s0 (cq kn),s0 (.int k),s0 (bB (ls.getD k cu))],rfl,iA ?_⟩;obtain⟨t',e1,K,hm⟩:=C4 L A.kp;refine bK (aW rfl e1) (by simp[frz]) ?_
   have jl:k<t'.length:=by rw[K.len];exact hk
   have ix:=sU jl;have len:bV .a (br (ai cy (aK dM (aj (ai aq az bz))) bq)) [s0 (.dict kds),s0 (bh ls),aa (1,dk t'),s0 (cq kn),s0 (.int k),s0 (bB (ls.getD k cu))]=aa (decide ((t'.getD k []).length=0)):=dJ (aL (aW (aR (aL rfl rfl ix) rfl) (Na _)) rfl (by rw[bT];exact eqn _ 0))
   rcases A.next L hk K hm with⟨e,no⟩|⟨r,R,bp,e,ef,A'⟩
   .rw[e] at len;exact oF (fV len (cB rfl ⟨_,rfl,.inr ⟨_,rfl,rfl,no⟩⟩))
   .rw[e] at len ix;refine dW (λρ'=>ρ'=[s0 (.dict kds),s0 (bh ls),aa (1,dk t'),s0 (cq kn),s0 (.int k),s0 (bB (ls.getD k cu))]) (iY len (gW ⟨_,rfl,rfl⟩)) ?_
    rintro _ rfl;have es:fU (ai aq az bz) oN (oS bf) (vA [s0 (.dict kds),s0 (bh ls),aa (1,dk t'),s0 (cq kn),s0 (.int k),s0 (bB (ls.getD k cu))])=aa (cK [r]):=by
     rw[nF (aL rfl rfl ix) rfl rfl];exact congrArg (λx=>aa (jZ x)) (xW (by simp))
    refine dW (λρ'=>ρ'=[s0 (.dict kds),s0 (bh ls),aa (1,dk (t'.set k [r])),s0 (cq kn),s0 (.int k),s0 (bB (ls.getD k cu))]) (JQ es (IV _) rfl rfl (CD (by simpa using jl)) ⟨_,rfl,?_⟩) ?_
    .rw[CE]
     rfl
    rintro _ rfl;refine iA ?_;have ix2:aq (dk (t'.set k [r])) (.int k)=aa (cK [r]):=by
     rw[sU (by simpa using jl),mI,nR jl]
     rfl
    have e3:=xY (.str (ls.getD k cu).1) (de ls k) r kn (cQ (L.atR hk).1.1 nofun) (by have:=A.kl;lia)
    rw[ef] at e3;exact rD (aW (aR rfl (aR (aL (aL rfl rfl ix2) rfl (pS rfl)) rfl)) e3) (by simp[frz]) (.inl ⟨_,rfl,0,_,bp,_,_,rfl,A'⟩)
  rintro _ ⟨c,t,kn,x4,x5,rfl,A⟩;obtain⟨kp,kl,ex,sol,dom,lst⟩:=A;rw[rT] at dom lst;obtain⟨v,hv⟩:∃ v,mN ls t v:=by
   cases q:ls.length with
   |zero=>exact⟨λ_=>0,λj hj=>()⟩
   |succ n=>exact ex ()
  have same:∀ w,mN ls t w->(aY ls).map w=(aY ls).map v:=λw hw=>iH λz m=>by
   obtain⟨u,eu⟩:=dom z m;rw[<-(sol w hw).2 z u eu,<-(sol v hv).2 z u eu]
  have ep:=KQ (by
   have:=KG ls h6
   lia) dom
  have er:rowOf (aY ls) kn=(aY ls).map v:=iH λz m=>by
   obtain⟨u,eu⟩:=dom z m;rw[eu,<-(sol v hv).2 z u eu]
   rfl
  rw[er] at ep;refine iA (cB (aW (aR (aW rfl (oG L.ok ())) rfl) ep) ⟨_,rfl,.inr ⟨v,rfl,(sol v hv).1,λw hw lt=>?_⟩⟩)
  rcases lst w hw with h|⟨v',h,l2⟩
  .rw[same w h] at lt;exact MX _ lt
  .rw[same v' h] at l2;exact Qg lt l2
 obtain⟨d,e,⟨rfl,no⟩|⟨v,rfl,h⟩⟩:=this
 .exact .inl ⟨e,no⟩
 .exact .inr ⟨v,e,h⟩
end
abbrev cO:=List aG×aao
abbrev aat:=List cO
def bL (a:cO):aA:=.tuple [tK a.1,bh a.2]
def nE (kn:Kn):aG->aG
 |.inl i=>.inl i
 |.inr z=>match bP kn z with
  |some u=>.inl u
  |none=>.inr z
def mQ (kn:Kn)(l:Ln):Ln:=(l.1,l.2.map (nE kn))
def ov (kn:Kn)(v:aD->Int)(z:aD):Int:=(bP kn z).getD (v z)
theorem Px (kn:Kn)(v:aD->Int)(k:aG):tv v (nE kn k)=tv (ov kn v) k:=by
 cases k with
 |inl i=>rfl
 |inr z=>
  unfold nE ov tv;dsimp only;cases bP kn z<;>rfl
theorem Au3 {B:aD->ii}{kn:Kn}:kF B (ls.map (mQ kn)) v↔kF B ls (ov kn v):=by
 unfold kF;rw[List.forall_mem_map];refine forall_congr' λl=>imp_congr_right λ_=>?_
 unfold mQ;rw[dF,show tv v∘nE kn=tv (ov kn v) from funext (Px kn v)]
def nu (kn:Kn)(z:aD):Bool:=(bP kn z).isNone
theorem JA (kn:Kn):∀ ks:aam,dR (ks.map (nE kn))=(dR ks).filter (nu kn)
 |[]=>rfl
 |.inl i::ks=>JA kn ks
 |.inr z::ks=>by
  have ih:=JA kn ks;unfold dR at ih ⊢;rw[dB,Jl,ih,Jl];unfold nE nu;cases h:bP kn z<;>simp[h,RB,nu]
theorem YS {α:Type}[DecidableEq α](p:α->Bool):∀ zs N:List α,(zs.filter p).foldl cW (N.filter p)=(zs.foldl cW N).filter p
 |[],N=>rfl
 |z::zs,N=>by
  rw[hJ,<-YS p zs,Jk];split
  .rw[hJ]
   congr 1
   unfold cW
   grind
  .congr 1
   unfold cW
   grind
theorem Y8 (kn:Kn)(ls:aao):aY (ls.map (mQ kn))=(aY ls).filter (nu kn):=by
 unfold aY dO;rw[<-YS,List.flatMap_map,List.filter_nil]
 congr 1
 induction ls with
 |nil=>rfl
 |cons l r ih=>rw[wZ,wZ,List.filter_append,ih];exact congrArg (· ++ _) (JA kn l.2)
theorem UO {p:aD->Bool}{w:aD->Int}:∀ {N:aal},(∀ z∈N,p z=ah->v z=w z)->iz (N.map v) (N.map w)->iz ((N.filter p).map v) ((N.filter p).map w)
 |[],_,h=>h
 |z::N,hz,h=>by
  have ih:=UO λy m=>hz y (bI _ m)
  rw[Jk];cases q:p z with
  |true=>
   exact Adk.2 ((Adk.1 h).imp id (And.imp id ih))
  |false=>
   rcases Adk.1 h with h|h
   .rw[hz z bD q] at h;exact absurd h (Jr _)
   .exact ih h.2
theorem Uh(L:Lok m ls)(kn:Kn):Lok m (ls.map (mQ kn)):=by
 refine⟨λl m=>?_,λl m=>?_,by rw[bT];exact L.n4,L.m1,L.m60⟩<;>obtain⟨l,ml,rfl⟩:=bG.1 m
 .refine⟨by unfold mQ;rw[bT];exact(L.ok l ml).1,λk mk=>?_⟩
  obtain⟨k,m2,rfl⟩:=bG.1 mk;have:=(L.ok l ml).2 k m2;cases k with
  |inl i=>exact this
  |inr z=>
   unfold nE;dsimp only;cases bP kn z with
   |none=>exact this
   |some u=>rfl
 .unfold mQ;rw[bT];exact L.w1 l ml
theorem N7 (h:aam)(row:aaj)(hl:h.length<=6):Gv [tK h,tI row]=aa (RA (fA h row [])):=by
 exact eZ rfl (cB (aW rfl (xY (.str "head") h row [] () (by simp))) ⟨_,rfl,rfl⟩)
theorem A5{kn:Kn}(hl:ks.length<=6):pT [tK ks,cq kn]=aa (tK (ks.map (nE kn))):=by
 refine eZ rfl (cB (aW (aR (qY (λk=>kD (nE kn k)) (lV rfl) () λk mk=>⟨[aa (kD k),aa (cq kn)],rfl,rfl,by
  cases k with
  |inl i=>
   rw[vJ rfl rfl rfl rfl (xq kn),VY]
   rfl
  |inr z=>
   rw[vJ rfl rfl rfl rfl (xq kn),yC];unfold nE;dsimp only;cases bP kn z<;>rfl⟩) rfl) ?_) ⟨_,rfl,rfl⟩)
 show aa (cD _)=aa (cD ((ks.map (nE kn)).map kD));rw[dF]
 rfl
theorem G7(L:Lok m ls)(kn:Kn):EW [bh ls,cq kn]=aa (bh (ls.map (mQ kn))):=by
 have n4:=L.n4;refine eZ rfl (cB (aW (aR (qY (λl=>bB (mQ kn l)) (lV rfl) () λl ml=>⟨[aa (bB l),aa (cq kn)],rfl,rfl,iQ (aR (aL rfl rfl rfl) (aR (aW (aR (aL rfl rfl rfl) rfl) (A5 (L.ok l ml).1)) rfl))⟩) rfl) ?_) ⟨_,rfl,rfl⟩)
 show aa (cD _)=aa (cD ((ls.map (mQ kn)).map bB));rw[dF]
 rfl
noncomputable def pN (m:Kn):List (aG×aA):=m.map λp=>(.inr p.1,.int p.2)
def BE (m kn:Kn):Kn:=m.foldl (λa p=>putN a p.1 p.2) kn
theorem MM:∀ m kn:Kn,kI (pN m) (DN kn)=DN (BE m kn)
 |[],_=>rfl
 |p::m,kn=>by
  show kI (pN m) (putD (DN kn) (.inr p.1) (.int p.2))=_;rw[Qi];exact MM m _
theorem MI (v:aD->Int):∀ {zs:aal} {kn:Kn},zs.Nodup->(∀ z∈zs,bP kn z=ab)->BE (zs.map λz=>(z,v z)) kn=kn++zs.map λz=>(z,v z)
 |[],kn,_,_=>(oW kn).symm
 |z::zs,kn,nd,h=>by
  have hz:=h z bD;have e:putN kn z (v z)=kn++[(z,v z)]:=by
   unfold putN;rw[hz]
   rfl
  have nd:=nA.1 nd;show BE (zs.map λz=>(z,v z)) (putN kn z (v z))=_
  rw[e,MI v nd.2 λy m=>by
   rw[yR hz,if_neg λq=>nd.1 (by rw[<-q];exact m)]
   exact h y (bI _ m)]
  simp
theorem b7 (a b:Kn)(z:aD):bP (a++b) z=(bP a z).or (bP b z):=by
 unfold bP;rw[Jj];cases a.find? λp=>decide (p.1=z)<;>rfl
theorem YY (v:aD->Int):∀ {zs:aal} {z:aD},z∈zs->bP (zs.map λz=>(z,v z)) z=aa (v z)
 |y::zs,z,m=>by
  unfold bP;rw[dB,iW];by_cases q:y=z
  .simp[q]
  .simp only[q,decide_false];exact YY v ((cI.1 m).resolve_left (fZ q))
theorem WY:∀ zs:aal,sM (zs.map dE)=aa (zs.map λz=>(.inr z:aG))
 |[]=>rfl
 |z::zs=>by
  show(sM (zs.map dE)).bind _=_;rw[WY zs]
  rfl
theorem Hg:∀ kn:Kn,qP (DN kn)=aa (pN kn)
 |[]=>rfl
 |p::kn=>by
  show(qP (DN kn)).bind _=_;rw[Hg kn]
  rfl
theorem N2(nd:zs.Nodup)(hl:zs.length<=1000)(v:aD->Int):xR [.list (zs.map dE),cL (zs.map v)]=aa (cq (zs.map λz=>(z,v z))):=by
 show(sM (zs.map dE)).bind (λks=>if (zs.map dE).length<=sizeLine then aa (OE (kI (ks.zip ((zs.map v).map aU)) [])) else ab)=_
 rw[WY,bQ,if_pos (gY (by rw[bT];lia))]
 have e:(zs.map λz=>(.inr z:aG)).zip ((zs.map v).map aU)=pN (zs.map λz=>(z,v z)):=by
  unfold pN;rw[dF,dF,List.zip_map']
  rfl
 rw[e];have:=MM (zs.map λz=>(z,v z)) []
 rw[MI v nd λ_ _=>rfl] at this
 exact congrArg (λx=>aa (OE x)) this
theorem Xn{P:Out->Prop}{i:Nat}{m kn:Kn}(h:f (vS Y)=aa (cq m))(hg:qQ i Y=aa (DN kn))(hl:kn.length+m.length<=1000)(k:P (.nx (Y.set i (aa (1,cq (BE m kn)))))):Goes (xI i .s f) Y P:=⟨_,by
 unfold xI;rw[show eV 0 .s f Y=aa (cq m) from h,bQ,hg,bQ]
 show((qP (DN m)).bind λps=>if ic (DN m)=af/\(DN kn).length+(DN m).length<=sizeLine then aa (Out.nx (Y.set i (aa (1,.dict (kI ps (DN kn)))))) else ab)=_
 rw[Hg,bQ,if_pos ⟨xq m,gY (by unfold DN;simp;lia)⟩,MM]
 rfl,k⟩
theorem Uq (ls:aao):fJ 0 (bh ls)=af:=yV λt m=>by
 obtain⟨l,_,rfl⟩:=bG.1 m;show(af&&(iO (l.2.map kD)&&af))=af;rw[yV λt m=>by
  obtain⟨k,_,rfl⟩:=bG.1 m;cases k<;>rfl]
 rfl
def uW (B:aD->ii)(a:cO)(row:aaj)(w:aD->Int):Prop:=kF B a.2 w/\a.1.map (tv w)=row
structure Aok (m:Nat)(a:cO):Prop where
 hl:a.1.length<=6
 L:Lok m a.2
 hd:∀ z,(.inr z:aG)∈a.1->z∈aY a.2
section
variable {B:aD->ii}
theorem Hr (w:aD->Int):rA [] w:=λ_ _ h=>nomatch h
theorem Vn (b:Bk kds B wd)(h5:∀ t,(B t).length<=m)(nd:∀ t,(B t).Nodup){a:cO}(A:Aok m a)(row:aaj) :
  ∃ d,Dd [.dict kds,bL a,tI row]=aa d/\((d=.none/\∀ w,¬ uW B a row w)\/∃ v,d=cL ((aY a.2).map v)/\uW B a row v/\∀ w,uW B a row w->¬ iz ((aY a.2).map w) ((aY a.2).map v)):=by
 refine iM rfl ?_;have eb:=N7 a.1 row A.hl;have n4:=A.L.n4;cases q:fA a.1 row [] with
 |none=>
  rw[q] at eb;refine bK (aW rfl eb) (by simp) (oF (fV rfl (cB rfl ⟨_,rfl,_,rfl,.inl ⟨rfl,λw hw=>?_⟩⟩)))
  obtain⟨kn,e,_⟩:=yP (Hr w);rw[hw.2,q] at e;cases e
 |some kn=>
  rw[q] at eb;have kl:=IU q;have hA:=A.hl;rw[Jd,OK] at kl;have ag:∀ {w},a.1.map (tv w)=row->rA kn w:=λ{w} e=>by
   obtain⟨bp,e',h⟩:=yP (Hr w);rw[e,q] at e';cases e';exact h
  have ovw:∀ {w},rA kn w->ov kn w=w:=λ{w} h=>funext λz=>by
   unfold ov;cases e:bP kn z with
   |none=>rfl
   |some u=>exact h z u e
  have L':=Uh A.L kn;have nl:=KG a.2 λl m=>(A.L.ok l m).1
  refine bK (aW rfl eb) (by simp) (dW (λρ'=>ρ'=[s0 (.dict kds),s0 (bL a),s0 (tI row),aa (1,cq kn),ab,ab]) (iY rfl (gW ⟨_,rfl,rfl⟩)) ?_)
  rintro _ rfl;refine CH (aW rfl (G7 A.L kn)) ?_ (by simp) ?_
  .exact Uq _
  rcases P3 b h5 nd L' with⟨e,no⟩|⟨v,e,sv,lv⟩
  .refine bK (aW rfl e) (by simp) (oF (fV rfl (cB rfl ⟨_,rfl,_,rfl,.inl ⟨rfl,λw hw=>no w (Au3.2 ?_)⟩⟩)))
   rw[ovw (ag hw.2)];exact hw.1
  .refine bK (aW rfl e) (by simp) (dW (λρ'=>ρ'=[s0 (.dict kds),s0 (bL a),s0 (tI row),aa (1,cq kn),s0 (bh (a.2.map (mQ kn))),s0 (cL ((aY (a.2.map (mQ kn))).map v))]) (iY rfl (gW ⟨_,rfl,rfl⟩)) ?_)
   rintro _ rfl;have en:=oG L'.ok (by rw[bT];lia)
   have np:=Y8 kn a.2;rw[np] at lv;have nf:=wX (nu kn) (aY a.2);have nn:((aY a.2).filter (nu kn)).Nodup:=(yG _).sublist PD;have nz:∀ z∈(aY a.2).filter (nu kn),bP kn z=ab:=λz m=>Option.isNone_iff_eq_none.1 (kX.1 m).2
   rw[np] at en ⊢;refine dW (λρ'=>ρ'=[s0 (.dict kds),s0 (bL a),s0 (tI row),aa (1,cq (kn++((aY a.2).filter (nu kn)).map λz=>(z,v z))),s0 (bh (a.2.map (mQ kn))),s0 (cL (((aY a.2).filter (nu kn)).map v))]) (Xn (aW (aR (aW rfl en) rfl) (N2 nn () v)) rfl (by rw[bT];lia) ⟨_,rfl,?_⟩) ?_
   .rw[MI v nn nz]
    rfl
   rintro _ rfl;have lk:∀ z∈aY a.2,bP (kn++((aY a.2).filter (nu kn)).map λz=>(z,v z)) z=aa (ov kn v z):=λz m=>by
    rw[b7];unfold ov;cases e:bP kn z with
    |some u=>rfl
    |none=>exact YY v (kX.2 ⟨m,by unfold nu;rw[e];rfl⟩)
   have ep:=KQ () λz m=>⟨_,lk z m⟩
   rw[show rowOf (aY a.2) (kn++((aY a.2).filter (nu kn)).map λz=>(z,v z))=(aY a.2).map (ov kn v) from iH λz m=>by rw[lk z m];rfl] at ep
   refine iA (cB (aW (aR (aW (aR (aL rfl rfl rfl) rfl) (oG A.L.ok ())) rfl) ep) ⟨_,rfl,.inr ⟨_,rfl,⟨Au3.1 sv,(λv=>by
   obtain⟨e,t⟩:=JD q;rw[e];refine yB λz m=>?_
   unfold ov;rw[t z m]
   rfl) v⟩,λw hw lt=>?_⟩⟩)
   have hw2:=ag hw.2;refine lv w (Au3.2 (by rw[ovw hw2];exact hw.1)) ?_
   have:=UO (p:=nu kn) (λz m hz=>?_) lt
   .rwa [iH λz m=>show ov kn v z=v z by unfold ov;rw[nz z m];rfl] at this
   .unfold ov;cases e:bP kn z with
    |none=>unfold nu at hz;rw[e] at hz;cases hz
    |some u=>exact(hw2 z u e).symm
end
abbrev qD (Q:aat):aA:=.list (Q.map bL)
abbrev a0:cO:=([],[])
def Least (B:aD->ii)(a:cO)(row:aaj)(v:aD->Int):Prop:=uW B a row v/\∀ w,uW B a row w->¬ iz ((aY a.2).map w) ((aY a.2).map v)
def HD (B:aD->ii)(Q:aat)(row:aaj)(n:Nat):Prop:=∀ m,m<n->∀ w,¬ uW B (Q.getD m a0) row w
def RX (B:aD->ii)(Q:aat)(row:aaj)(d:aA):Prop:=
 (d=.none/\HD B Q row Q.length)\/∃ n v,n<Q.length/\d=.tuple [.int n,cL ((aY (Q.getD n a0).2).map v)]/\Least B (Q.getD n a0) row v/\HD B Q row n
section
variable {B:aD->ii}(b:Bk kds B wd)(h5:∀ t,(B t).length<=m)(nd:∀ t,(B t).Nodup){Q:aat}(hQ:∀ a∈Q,Aok m a)(hn:Q.length<=3)(row:aaj)
include b h5 hQ hn
include nd
theorem P4:∃ d,Df [.dict kds,qD Q,tI row]=aa d/\RX B Q row d:=by
 refine iM rfl ?_
 let I:Nat->aQ->Prop:=λn Y=>(∃ x3 x4 x5:L2.Slot,Y=[s0 (.dict kds),s0 (qD Q),s0 (tI row),x3,x4,x5])/\HD B Q row n
 refine Ey (I Q.length) (RX B Q row) ?_ (λd h=>⟨d,rfl,h⟩) ?_
 .refine Eu I _ (gp (JE bL a0 rfl)) (by simp) ⟨⟨ab,ab,ab,rfl⟩,(λ_ h=>nomatch h)⟩ ?_
  rintro n d _ hd ⟨⟨x3,x4,x5,rfl⟩,no⟩;have hk:n<Q.length:=by simpa using(cE.1 hd).1
  have ed:d=.tuple [.int n,bL (Q.getD n a0)]:=by
   rw[eD,AQ hk] at hd;exact(fF hd).symm
  subst ed;refine⟨[s0 (.dict kds),s0 (qD Q),s0 (tI row),s0 (.int n),s0 (bL (Q.getD n a0)),x5],rfl,?_⟩;obtain⟨d,e,⟨rfl,h⟩|⟨v,rfl,h⟩⟩:=Vn b h5 nd (hQ _ (getD_mem a0 hk)) row
  .refine bK (aW rfl e) (by simp) (iY rfl (gW (.inl ⟨_,rfl,⟨_,_,_,rfl⟩,λm hm=>?_⟩)))
   rcases Nat.lt_succ_iff_lt_or_eq.1 hm with hm|rfl
   .exact no m hm
   .exact h
  .exact bK (aW rfl e) (by simp) (fV rfl (cB (iQ (aR rfl (aR rfl rfl))) (.inr ⟨_,rfl,.inr ⟨n,v,hk,rfl,h,no⟩⟩)))
 rintro _ ⟨⟨x3,x4,x5,rfl⟩,no⟩;exact cB rfl ⟨_,rfl,.inl ⟨rfl,no⟩⟩
end
def uy (v:aD->Int)(l:Ln):PR:=(l.1,l.2.map (tv v))
def xt (p:PR):aA:=.tuple (fL p)
theorem J5{kn:Kn}(hn:ls.length<=1000)(hl:∀ l∈ls,l.2.length<=1000)(h:∀ l∈ls,oZ kn v l.2):EW [bh ls,cq kn]=aa (.tuple ((ls.map (uy v)).map xt)):=by
 refine eZ rfl (cB (aW (aR (qY (λl=>xt (uy v l)) (lV rfl) () λl ml=>⟨[aa (bB l),aa (cq kn)],rfl,rfl,iQ (ds:=[.str l.1,cL (l.2.map (tv v))]) (aR (aL rfl rfl rfl) (aR (aW (aR (aL rfl rfl rfl) rfl) (KW (hl l ml) (h l ml))) rfl))⟩) rfl) ?_) ⟨_,rfl,rfl⟩)
 rw[dF]
 rfl
def ou (a:Int)(zs:aal):Kn:=zs.mapIdx λk z=>(z,a+1+k)
theorem JG (a:Int)(zs:aal):(ou a zs).map (·.1)=zs:=by
 refine AS (by simp[ou]) λi h1 h2=>?_
 simp[ou]
theorem Al5 {kn:Kn}:(∃ u,bP kn z=aa u)↔z∈kn.map (·.1):=by
 unfold bP;constructor
 .rintro⟨u,e⟩;obtain⟨p,hp,_⟩:=fG.1 e;have:p.1=z:=by simpa using Ji hp
  exact this ▸ bG.2 ⟨p,OT hp,rfl⟩
 .intro m;obtain⟨p,mp,rfl⟩:=bG.1 m;cases e:kn.find? λq=>decide (q.1=p.1) with
  |none=>exact absurd (PC.1 e p mp) (by simp)
  |some q=>exact⟨q.2,rfl⟩
theorem Wq {kn:Kn}(h:z∉kn.map (·.1)):bP kn z=ab:=by
 cases e:bP kn z with
 |none=>rfl
 |some u=>exact absurd (Al5.1 ⟨u,e⟩) h
theorem Gk:∀ kn:Kn,sJ (kn.map λp=>cD [.str p.1,.int p.2])=aa (kn.map λp=>(fR p.1,aU p.2))
 |[]=>rfl
 |p::kn=>by
  show((sJ (kn.map λp=>cD [.str p.1,.int p.2])).bind λr=>aa ((fR p.1,aU p.2)::r))=_
  rw[Gk kn]
  rfl
theorem WT:∀ (kn A:Kn),((A++kn).map (·.1)).Nodup->kI (kn.map λp=>(fR p.1,aU p.2)) (DN A)=DN (A++kn)
 |[],A,_=>by simp[kI]
 |p::kn,A,h=>by
  show kI (kn.map λp=>(fR p.1,aU p.2)) (putD (DN A) (.inr p.1) (.int p.2))=_
  rw[II (Wq (λm=>by
   rw[hG] at h;exact(rV.1 h).2.2 p.1 m p.1 (by simp) rfl)),WT kn (A++[(p.1,p.2)]) (by simpa using h)]
  simp
theorem Tf {kn:Kn}(nd:(kn.map (·.1)).Nodup):xP [.list (kn.map λp=>cD [.str p.1,.int p.2])]=aa (cq kn):=by
 show((sJ (kn.map λp=>cD [.str p.1,.int p.2])).bind λps=>aa (OE (kI ps [])))=_
 rw[Gk,bQ,show([]:dL)=DN [] from rfl,WT kn [] (by simpa using nd)]
 rfl
theorem Qc {kn:Kn}(h:∀ z,(.inr z:aG)∈ks->z∈kn.map (·.1)):oZ kn (fO kn) ks:=λz m=>by
 obtain⟨u,e⟩:=Al5.2 (h z m);unfold fO;rw[e]
 rfl
def eY (k:aG):Prop:=bX (kD k)=af
section
variable {t:aD}
def jo (L:aas)(t:aD):aas:=if t∈L.map (·.1) then L else L++[(t,[])]
theorem Rj (L:aas)(t:aD):sk (gf L) (.inr t)=gf (jo L t):=by
 unfold sk jo;by_cases h:t∈L.map (·.1)
 .rw[XY h,if_pos h]
 .rw[DQ,r6 h,if_neg h];unfold gf;rw[hG]
  rfl
theorem TJ (L:aas)(t:aD):t∈(jo L t).map (·.1):=by
 unfold jo;by_cases h:t∈L.map (·.1)
 .rw[if_pos h];exact h
 .rw[if_neg h];simp
theorem RG (L:aas)(t t':aD):fu (jo L t) t'=fu L t':=by
 unfold jo;by_cases h:t∈L.map (·.1)
 .rw[if_pos h]
 .rw[if_neg h];unfold fu;rw[Jj];cases e:L.find? λp=>decide (p.1=t') with
  |some p=>rfl
  |none=>
   by_cases q:t=t'
   .simp[q]
   .simp[q]
theorem UF:∀ {L:aas},t∈L.map (·.1)->∀ t',fu (oI L t R) t'=if t'=t then R else fu L t'
 |[],h,t'=>by simp at h
 |p::L,h,t'=>by
  have e:oI (p::L) t R=if p.1=t then(p.1,R)::L else p::oI L t R:=rfl
  rw[e];have ac:∀ (q:Tb) (M:aas),fu (q::M) t'=if q.1=t' then q.2 else fu M t':=λq M=>by
   unfold fu;rw[iW];by_cases z:q.1=t'
   .rw[decide_eq_true z,if_pos z];rfl
   .rw[decide_eq_false z,if_neg z]
  by_cases hp:p.1=t
  .rw[if_pos hp,ac,ac];by_cases q:t'=t
   .rw[if_pos q,if_pos (hp.trans q.symm)]
   .rw[if_neg q,if_neg (λz=>q (z.symm.trans hp)),if_neg (λz=>q (z.symm.trans hp))]
  .rw[if_neg hp,ac,ac];have h':t∈L.map (·.1):=by
    rcases cI.1 h with z|z
    .exact absurd z.symm hp
    .exact z
   rw[UF h'];by_cases q:t'=t
   .rw[if_pos q,if_neg (λz=>hp (z.trans q)),if_pos q]
   .rw[if_neg q,if_neg q]
end
theorem Lp {L:aas}{t:aD}(h:(L.map (·.1)).Nodup):((jo L t).map (·.1)).Nodup:=by
 unfold jo;by_cases q:t∈L.map (·.1)
 .rw[if_pos q];exact h
 .rw[if_neg q,hG];exact rV.2 ⟨h,by simp,λa ha b hb e=>q (by simp at hb;rw[<-hb,<-e];exact ha)⟩
theorem Pm {L:aas}{t t':aD}:t'∈(jo L t).map (·.1)↔t'∈L.map (·.1)\/t'=t:=by
 unfold jo;by_cases q:t∈L.map (·.1)
 .rw[if_pos q];exact⟨.inl,λz=>z.elim id λe=>e ▸ q⟩
 .rw[if_neg q,hG,jM];simp
def pn (L:aas)(p:PR):aas:=oI (jo L p.1) p.1 (fu L p.1++[p.2])
theorem SI (L:aas)(p:PR)(t:aD):fu (pn L p) t=if t=p.1 then fu L t++[p.2] else fu L t:=by
 unfold pn;rw[UF (TJ L p.1),RG];by_cases q:t=p.1
 .rw[if_pos q,if_pos q,q]
 .rw[if_neg q,if_neg q]
theorem WJ:∀ (ps:List PR) (L:aas),(L.map (·.1)).Nodup->((ps.foldl pn L).map (·.1)).Nodup/\(∀ t,fu (ps.foldl pn L) t=fu L t++(ps.filter λp=>decide (p.1=t)).map (·.2))/\∀ t,t∈(ps.foldl pn L).map (·.1)↔t∈L.map (·.1)\/∃ p∈ps,p.1=t
 |[],L,h=>⟨h,λt=>by simp,λt=>by simp⟩
 |p::ps,L,h=>by
  obtain⟨a,b,c⟩:=WJ ps (pn L p) (by unfold pn;rw[DV];exact Lp h)
  rw[hJ];refine⟨a,λt=>?_,λt=>?_⟩
  .rw[b t,SI,Jk];by_cases q:t=p.1
   .rw[if_pos q,decide_eq_true q.symm];simp
   .rw[if_neg q,decide_eq_false (λz=>q z.symm)]
    simp
  .rw[c t];unfold pn;rw[DV,Pm];constructor
   .rintro((z|z)|⟨x,m,e⟩)
    .exact .inl z
    .exact .inr ⟨p,bD,z.symm⟩
    .exact .inr ⟨x,bI _ m,e⟩
   .rintro(z|⟨x,m,e⟩)
    .exact .inl (.inl z)
    .rcases cI.1 m with rfl|m
     .exact .inl (.inr e.symm)
     .exact .inr ⟨x,m,e⟩
theorem Q0{P:Out->Prop}{i:Nat}{L:aas}{p:PR}(hL:L.length<=1000)(hr:(fu L p.1).length<=1000)(hg:uV i Y=aa (gf L))(hk:g (vS Y)=aa (.str p.1))(hf:f (vS (Y.set i (aa (2,.dict (gf (jo L p.1))))))=aa (cL p.2))(k:P (.nx (Y.set i (aa (2,.dict (gf (pn L p))))))):Goes (xQ i .s g .s f) Y P:=⟨_,by
 have e1:eV 0 .s g Y=aa (.str p.1):=hk;have e2:eV 0 .s f (Y.set i (aa (2,.dict (gf (jo L p.1)))))=aa (cL p.2):=hf;have lk:cM (gf (jo L p.1)) (.inr p.1)=aa (cK (fu L p.1)):=by rw[XY (TJ L p.1),RG]
 unfold xQ;rw[hg,bQ,e1,bQ,show cC (.str p.1)=aa (.inr p.1) from rfl,bQ,Rj,lk]
 show((eV 0 .s f (Y.set i (aa (2,.dict (gf (jo L p.1)))))).bind λd=>if gQ d=af/\(gf L).length<sizeLine/\((fu L p.1).map cL).length<sizeLine then aa (Out.nx (Y.set i (aa (2,.dict (pD (gf (jo L p.1)) (.inr p.1) (.list ((fu L p.1).map cL++[d]))))))) else ab)=_
 rw[e2,bQ,if_pos ⟨WK p.2,tJ (by unfold gf;rw[bT];lia),tJ (by rw[bT];lia)⟩]
 have:(fu L p.1).map cL++[cL p.2]=(fu L p.1++[p.2]).map cL:=by rw[hG];rfl
 rw[this];show aa (Out.nx (Y.set i (aa (2,.dict (pD (gf (jo L p.1)) (.inr p.1) (cK (fu L p.1++[p.2])))))))=_;rw[Ga]
 rfl,k⟩
theorem Wb {p:PR}(h:bX (.str p.1)=af):bS (fL p)=af/\cU (fL p)<=6:=by
 have h2:=EC p.2;constructor
 .show(cA (.str p.1)&&(cA (.tuple (p.2.map aU))&&af))=af;have:cA (.str p.1)=af:=by simpa [cA] using h
  have h3:cA (.tuple (p.2.map aU))=af:=by simpa [cA] using((yO p.2).1)
  rw[this,h3]
  rfl
 .show max (fE (.str p.1)) (max (fE (.tuple (p.2.map aU))) 0)<=6;have h4:fE (.tuple (p.2.map aU))<=2:=by show cU _+1<=2;lia
  have h5:fE (.str p.1)<=1:=by simp[fE]
  lia
theorem Zo {p q:PR}(h:fL p=fL q):p=q:=by rw[<-xT p,h,xT]
theorem U0 (ps:List PR):eA (ps.map fL)=(dO ps).map fL:=by
 have go:∀ (ps ak:List PR),(ps.map fL).foldl hX (ak.map fL)=(ps.foldl cW ak).map fL:=by
  intro ps;induction ps with
  |nil=>intro ak;rfl
  |cons p ps ih=>
   intro ak;rw[dB,hJ,hJ,<-ih]
   congr 1
   unfold hX cW;by_cases h:p∈ak
   .rw[if_pos h,if_pos (bG.2 ⟨p,h,rfl⟩)]
   .rw[if_neg h,if_neg λm=>by
     obtain⟨x,mx,e⟩:=bG.1 m;exact h (Zo e ▸ mx),hG]
    rfl
 exact go ps []
theorem Wz (p:PR):ux (fL p)=af:=by
 refine eB.2 λd m=>?_
 obtain⟨i,_,rfl⟩:=bG.1 m
 rfl
theorem E0 {ps:List PR}(hy:∀ p∈ps,bX (.str p.1)=af)(hw:∀ p∈ps,∀ q∈ps,p.1=q.1->p.2.length=q.2.length)(hl:ps.length<=60):EG [.tuple (ps.map xt)]=aa (.list ((qT (dO ps)).map xt)):=by
 have e0:ps.map xt=(ps.map fL).map cD:=by rw[dF];rfl
 have e1:gC (ps.map xt)=aa (ps.map fL):=by
  rw[e0];exact CT λk m=>by
   obtain⟨p,mp,rfl⟩:=bG.1 m;exact Wb (hy p mp)
 show((gC (ps.map xt)).bind λkss=>if (eA kss).length<64/\rq (eA kss)=af then aa (jZ ((oA (eA kss)).map cD)) else ab)=_
 rw[e1,bQ,U0];have ok:rq ((dO ps).map fL)=af:=by
  unfold rq;rw[jO];refine⟨eB.2 λk m=>?_,eB.2 λk m=>eB.2 λk' m'=>decide_eq_true ?_⟩
  .obtain⟨p,_,rfl⟩:=bG.1 m;exact Wz p
  .obtain⟨p,mp,rfl⟩:=bG.1 m;obtain⟨q,mq,rfl⟩:=bG.1 m';rw[xT,xT];exact hw p (Aa7.1 mp) q (Aa7.1 mq)
 have len:((dO ps).map fL).length<64:=by
  rw[bT];have:=tM (zs:=ps) λz m=>m
  lia
 rw[if_pos ⟨len,ok⟩];unfold oA;rw[Xx,dF]
 rfl
def tq (v:aD->Int)(ls:aao):aas:=(qT (dO (ls.map (uy v)))).foldl pn []
def vF (a:Int)(ls:aao):aD->Int:=fO (ou a (aY ls))
theorem N9 (ls:aao):(aY ls).Nodup:=yG _
theorem UW {a:Int}(h:∀ z,(.inr z:aG)∈ks->z∈aY ls):oZ (ou a (aY ls)) (vF a ls) ks:=Qc λz m=>by
 rw[JG];exact h z m
structure AlG (wd:aD->Nat)(hd:List aG)(ls:List Ln):Prop where
 n9:ls.length<=5
 wid:∀ l∈ls,l.2.length=wd l.1
 w1:∀ l∈ls,1<=l.2.length
 w6:∀ l∈ls,l.2.length<=6
 lay:∀ l∈ls,∀ k∈l.2,eY k
 tab:∀ l∈ls,bX (.str l.1)=af
 h4:hd.length<=4
 hin:∀ z,(.inr z:aG)∈hd->z∈aY ls
 hly:∀ k∈hd,eY k
theorem V1(A:AlG wd hd ls):(aY ls).length<=54:=by
 have h1:(aY ls).length<=(ls.flatMap λl=>dR l.2).length:=tM λz m=>m
 have h2:(ls.flatMap λl=>dR l.2).length<=6*ls.length:=by
  have h6:=A.w6;clear A h1;induction ls with
  |nil=>simp
  |cons x r ih=>
   rw[wZ,jN,eX];have:=ih λl m=>h6 l (bI _ m)
   have:=h6 x bD;have:(dR x.2).length<=x.2.length:=uE _ _
   lia
 have:=A.n9
 lia
theorem Y0(A:AlG wd hd ls)(a:Int):VO [bL (hd,ls),.int a]=aa (.tuple [.dict (gf (tq (vF a ls) ls)),cL (hd.map (tv (vF a ls)))]):=by
 have n9:=A.n9;have nf:=V1 A;refine eZ rfl ?_;have elc:=qY (cap:=[ab,ab,aa 1]) (fi:=ki (aj (aK mU (aj (ai aq ao bf))))) (T:=vy 0 1) (t:=dZ) (f:=cV (aM au (aj (ai cF (ai cF az bf) ao)))) (Y:=vS [s0 (bL (hd,ls)),s0 (.int a),ab,ab,ab,ab]) (λ(k:Nat)=>cD [.str ((aY ls).getD k ""),.int (a+1+k)]) (JE dE "" (aW (aR (aL rfl rfl rfl) rfl) (oG (λl m=>⟨A.w6 l m,A.lay l m⟩) ()))) (by rw[AO];lia) λk mk=>⟨[aa (.int k),aa (.str ((aY ls).getD k "")),aa (.int a)],rfl,rfl,iQ (aR rfl (aR (aL (aL rfl rfl rfl) rfl rfl) rfl))⟩
 have eq:(bZ (aY ls).length).map (λ(k:Nat)=>cD [.str ((aY ls).getD k ""),.int (a+1+k)])=(ou a (aY ls)).map λp=>cD [.str p.1,.int p.2]:=by
  refine AS (by simp[ou]) λi h1 h2=>?_
  have hi:i<(aY ls).length:=by simpa using h1
  simp[ou,mI,hi]
 rw[eq] at elc;refine bK (aW (aR elc rfl) (Tf (by rw[JG];exact N9 ls))) (by simp) (bK (d:=.dict (gf [])) rfl (by simp) ?_)
 have sl:(qT (dO (ls.map (uy (vF a ls))))).length<=9:=by
  rw[(rK _).length_eq];have:=tM (zs:=ls.map (uy (vF a ls))) λz m=>m
  rw[bT] at this
  lia
 refine dW (λρ'=>∃ x4 x5:L2.Slot,ρ'=[s0 (bL (hd,ls)),s0 (.int a),s0 (cq (ou a (aY ls))),aa (2,.dict (gf (tq (vF a ls) ls))),x4,x5]) ?_ ?_
 .refine mS pn (λi L ρ'=>(L.length<=i/\∀ t,(fu L t).length<=i)/\∃ x4 x5:L2.Slot,ρ'=[s0 (bL (hd,ls)),s0 (.int a),s0 (cq (ou a (aY ls))),aa (2,.dict (gf L)),x4,x5]) (gp (eO (aW (aR (aW (aR (aL rfl rfl rfl) rfl) (J5 () (λl m=>cQ (A.w6 l m) nofun) (λl m=>UW λz mz=>Acj.2 ⟨l,m,Acv.2 mz⟩))) rfl) (E0 (ps:=ls.map (uy (vF a ls))) (λp m=>by
  obtain⟨l,ml,rfl⟩:=bG.1 m;exact A.tab l ml) (λp m q m' e=>by
  obtain⟨l,ml,rfl⟩:=bG.1 m;obtain⟨l',ST,rfl⟩:=bG.1 m';show(l.2.map _).length=(l'.2.map _).length;rw[bT,bT,A.wid l ml,A.wid l' ST];exact congrArg wd e) (by rw[bT];lia))))) ⟨⟨bA _,λt=>bA _⟩,ab,ab,rfl⟩ ?_ ?_
  .rintro i p L _ hx ⟨⟨h1,h2⟩,x4,x5,rfl⟩;have hi:=(cE.1 hx).1;refine⟨[s0 (bL (hd,ls)),s0 (.int a),s0 (cq (ou a (aY ls))),aa (2,.dict (gf L)),s0 (.str p.1),s0 (cL p.2)],rfl,Q0 () (by have:=h2 p.1;lia) rfl rfl rfl ⟨_,.inl rfl,⟨?_,λt=>?_⟩,s0 (.str p.1),s0 (cL p.2),rfl⟩⟩
   .unfold pn;rw[Xa];unfold jo;split
    .lia
    .rw[jN];simp;lia
   .rw[SI];have:=h2 t;split
    .rw[jN];simp;lia
    .lia
  .rintro _ ⟨_,x4,x5,rfl⟩;exact⟨_,rfl,x4,x5,rfl⟩
 rintro _ ⟨x4,x5,rfl⟩;exact cB (iQ (aR rfl (aR (aW (aR (aL rfl rfl rfl) rfl) (KW (kn:=ou a (aY ls)) (by have:=A.h4;lia) (UW A.hin))) rfl))) ⟨_,rfl,rfl⟩
theorem HJ {m:Md}{t:BF}{P:Out->Prop}(I:Nat->aQ->Prop)(step:∀ n Y,I n Y->(bV m t Y=aa ah/\P (.nx Y))\/(bV m t Y=aa af/\Goes F Y λo=>∃ ρ' n',o=.nx ρ'/\n'<n/\I n' ρ')):∀ (fuel n:Nat) (Y:aQ),n<fuel->I n Y->Goes (jc m t F fuel) Y P
 |0,n,Y,h,_=>()
 |fuel+1,n,Y,h,i=>by
  rcases step n Y i with⟨e,p⟩|⟨e,o,eo,ρ',n',rfl,hn,i'⟩
  .exact⟨_,by
    show((bV m t Y).bind λb=>if b=af then(F Y).bind λo=>match o with
     |.nx ρ'=>jc m t F fuel ρ'
     |.ct ρ'=>jc m t F fuel ρ'
     |.bk ρ'=>aa (.nx ρ')
     |.rt d=>aa (.rt d)
    else aa (.nx Y))=_
    rw[e]
    rfl,p⟩
  .obtain⟨o2,e2,p2⟩:=HJ I step fuel n' ρ' () i'
   refine⟨o2,?_,p2⟩;show((bV m t Y).bind λb=>if b=af then(F Y).bind λo=>match o with
     |.nx ρ'=>jc m t F fuel ρ'
     |.ct ρ'=>jc m t F fuel ρ'
     |.bk ρ'=>aa (.nx ρ')
     |.rt d=>aa (.rt d)
    else aa (.nx Y))=_
   rw[e,bQ,if_pos rfl,eo];exact e2
def qh (l:Ln):aag:=[.str l.1,tK l.2]
theorem Bs:∀ {xs ys:aam},xs.map kD=ys.map kD->xs=ys
 |[],[],_=>rfl
 |[],y::ys,h=>by cases h
 |x::xs,[],h=>by cases h
 |x::xs,y::ys,h=>by
  injection h with h1 h2;rw[Ri h1,Bs h2]
theorem Tg {l':Ln}(h:qh l=qh l'):l=l':=by
 injection h with h1 h2;injection h1 with h1;injection h2 with h2;injection h2 with h2;exact Prod.ext h1 (Bs h2)
theorem XH:∀ (ls ak:aao),(ls.map qh).foldl hX (ak.map qh)=(ls.foldl cW ak).map qh
 |[],ak=>rfl
 |l::ls,ak=>by
  rw[dB,hJ,hJ,<-XH ls]
  congr 1
  unfold hX cW;by_cases h:l∈ak
  .rw[if_pos h,if_pos (bG.2 ⟨l,h,rfl⟩)]
  .rw[if_neg h,if_neg (λm=>by
    obtain⟨x,mx,e⟩:=bG.1 m;exact h (Tg e ▸ mx)),hG]
   rfl
def HH (l:Ln):Prop:=bX (.str l.1)=af/\∀ k∈l.2,eY k
theorem Uz(h:HH l):bS (qh l)=af/\cU (qh l)<=6:=by
 have h1:bS (l.2.map kD)=af:=JW λt m=>by
  obtain⟨k,mk,rfl⟩:=bG.1 m;have:=h.2 k mk;cases k with
  |inl i=>rfl
  |inr z=>simpa [cA,kD,eY] using this
 have h2:=yY l.2;constructor
 .have:=h.1;simp[qh,bS,cA,h1];exact this
 .simp[qh,cU,fE]
  lia
theorem v7(h:∀ l∈ls,HH l)(hl:ls.length<=1000):vD [bh ls]=aa (bh (dO ls)):=by
 have e:=Yo (λk m=>by
  obtain⟨l,ml,rfl⟩:=bG.1 m;exact Uz (h l ml)) (by simp;lia)
 have e1:(ls.map qh).map cD=ls.map bB:=by rw[dF];rfl
 have e2:(eA (ls.map qh)).map cD=(dO ls).map bB:=by
  have:=XH ls [];unfold eA dO;rw[show([]:bv)=([]:aao).map qh from rfl,this,dF]
  rfl
 rw[e1,e2] at e;exact e
theorem kG {np:Nat}{body:SF}(hl:ds.length=np)(h:Goes body (ds.map (λd=>aa (0,d))++uB (n-np) ab) λo=>o=.rt d):bw np n body ds=aa d:=by
 obtain⟨o,e,rfl⟩:=h;exact RK hl e
theorem l7 (ls:aao):Ac [bh ls,.list []]=aa .none:=by
 refine kG rfl (dW (λρ'=>∃ x2 x3 x4 x5:L2.Slot,ρ'=[s0 (bh ls),s0 (.list []),x2,x3,x4,x5]) ?_ ?_)
 .refine qX (λ_ ρ'=>∃ x2 x3 x4 x5:L2.Slot,ρ'=[s0 (bh ls),s0 (.list []),x2,x3,x4,x5]) (gp (Ht bB cu rfl)) ⟨ab,ab,ab,ab,rfl⟩ ?_ λρ' h=>⟨_,rfl,h⟩
  rintro i d _ hd ⟨x2,x3,x4,x5,rfl⟩;have hk:i<ls.length:=by simpa using(cE.1 hd).1
  rw[eD,AQ hk] at hd;obtain rfl:=fF hd;exact⟨[s0 (bh ls),s0 (.list []),s0 (.int i),s0 (bB (ls.getD i cu)),x4,x5],rfl,⟨_,rfl,_,.inl rfl,_,_,_,_,rfl⟩⟩
 rintro _ ⟨x2,x3,x4,x5,rfl⟩;exact cB rfl rfl
theorem Qy (hd:aam)(ls:aao):HB [bL (hd,ls),.list []]=aa .none:=by
 refine kG rfl (dW (λρ'=>ρ'=[s0 (bL (hd,ls)),s0 (.list []),ab,ab,ab]) ⟨_,rfl,_,rfl,rfl⟩ ?_)
 rintro _ rfl;exact cB (aW (aR (aL rfl rfl rfl) rfl) (l7 ls)) rfl
theorem Ml {m:Md}{t:BF}(h:bV m t Y=aa ah):jc m t F (n+1) Y=aa (.nx Y):=by
 unfold jc;rw[h]
 rfl
theorem HY (ks:aam):iO (ks.map kD)=af:=yV λt m=>by
 obtain⟨k,_,rfl⟩:=bG.1 m;cases k<;>rfl
theorem j1 (a:cO):gQ (bL a)=af:=by
 show(iO (a.1.map kD)&&(iO (a.2.map bB)&&af))=af;rw[HY,(yV λt m=>by
  obtain⟨l,_,rfl⟩:=bG.1 m;show(af&&(iO (l.2.map kD)&&af))=af;rw[HY]
  rfl)]
 rfl
theorem AlG.y (A:AlG wd hd ls):∀ l∈ls,HH l:=λl m=>⟨A.tab l m,A.lay l m⟩
theorem Ame:z∈aY (dO ls)↔z∈aY ls:=by
 rw[Acj,Acj];exact⟨λ⟨l,m,h⟩=>⟨l,Aa7.1 m,h⟩,λ⟨l,m,h⟩=>⟨l,Aa7.2 m,h⟩⟩
theorem AlG.once (A:AlG wd hd ls):AlG wd hd (dO ls):=
 ⟨cQ (tM λ_ m=>m) A.n9,λl m=>A.wid l (Aa7.1 m),λl m=>A.w1 l (Aa7.1 m),λl m=>A.w6 l (Aa7.1 m),λl m=>A.lay l (Aa7.1 m),λl m=>A.tab l (Aa7.1 m),A.h4,λz m=>Ame.2 (A.hin z m),A.hly⟩
theorem M0 (A:AlG wd hd ls):Fw [bL (hd,ls),.list []]=aa (.tuple [.str "still",bL (hd,dO ls),.list []]):=by
 exact kG rfl (bK (iQ (aR (aL rfl rfl rfl) (aR (aW (aR (aL rfl rfl rfl) rfl) (v7 A.y (by have:=A.n9;lia))) rfl))) (by simp) (bK rfl (by simp) (bK (aW rfl (Qy hd (dO ls))) (by simp) (fI (Ml rfl) (oF (fV rfl (cB (iQ rfl) ⟨_,rfl,rfl⟩)))))))
theorem NA (v:aD->Int)(ls:aao)(t:aD):fu (tq v ls) t=((qT (dO (ls.map (uy v)))).filter λp=>decide (p.1=t)).map (·.2):=by
 unfold tq;rw[(WJ _ [] .nil).2.1]
 rfl
theorem A3w{ls:aao}{t:aD}:r∈fu (tq v ls) t ↔ ∃ l∈ls,l.1=t/\r=l.2.map (tv v):=by
 rw[NA];constructor
 .intro m;obtain⟨p,mp,rfl⟩:=bG.1 m;obtain⟨mp,hp⟩:=kX.1 mp;obtain⟨l,ml,rfl⟩:=bG.1 (Aa7.1 ((rK _).mem_iff.1 mp));exact⟨l,ml,of_decide_eq_true hp,rfl⟩
 .rintro⟨l,ml,rfl,rfl⟩;exact bG.2 ⟨uy v l,kX.2 ⟨(rK _).mem_iff.2 (Aa7.2 (List.mem_map_of_mem ml)),decide_eq_true rfl⟩,rfl⟩
theorem Gb (v:aD->Int)(ls:aao)(t:aD):(fu (tq v ls) t).length<=ls.length:=by
 rw[NA,bT];refine cQ (wX _ _) ?_;rw[(rK _).length_eq];have:=tM (zs:=ls.map (uy v)) λ_ m=>m
 rwa [bT] at this
theorem Ro (v:aD->Int)(ls:aao)(t:aD):(fu (tq v ls) t).Nodup:=by
 rw[NA];refine uC.2 (FZ (λ{a b} ma mb ne e=>ne ?_) ((((rK _).nodup_iff).2 (yG _)).sublist PD))
 exact Prod.ext ((of_decide_eq_true (kX.1 ma).2).trans (of_decide_eq_true (kX.1 mb).2).symm) e
theorem Xl (A:AlG wd hd ls)(hw:∀ t,1<=wd t)(v:aD->Int):Bk (gf (tq v ls)) (fu (tq v ls)) wd:=
 ⟨Sy _,Ow _,λt=>AK (Gb v ls t) (by have:=A.n9;lia),hw,λt r m=>by
  obtain⟨l,ml,rfl,rfl⟩:=A3w.1 m;rw[bT];exact A.wid l ml⟩
theorem AlG.aok (A:AlG wd hd ls):Aok 5 (hd,ls):=
 ⟨cQ A.h4 nofun,⟨λl m=>⟨A.w6 l m,A.lay l m⟩,A.w1,A.n9,nofun,nofun⟩,A.hin⟩
def isI:aG->Bool
 |.inl _=>af
 |.inr _=>ah
def sO (ks:aam):aaj:=ks.filterMap λk=>match k with
 |.inl i=>aa i
 |.inr _=>ab
theorem Zm{i:Int}(h:(.inl i:aG)∈ks):i∈sO ks:=uD.2 ⟨_,h,rfl⟩
theorem KP:∀ ks:aam,kC ((ks.filter isI).map kD)=aa (sO ks)
 |[]=>rfl
 |.inl i::ks=>by
  have:=KP ks;show(kC ((ks.filter isI).map kD)).bind _=_;rw[this]
  rfl
 |.inr z::ks=>KP ks
theorem A2a{i:Int}:i∈sortI (gP ns)↔i∈ns:=by
 have h:(sortI (gP ns)).Perm (gP ns):=FU _ _;rw[h.mem_iff];exact Aa7
theorem Lk{i:Nat}{xs ys:aam}(h:f (vS Y)=aa (tK ys))(hg:getL i Y=aa (xs.map kD))(hl:xs.length+ys.length<=1000):qV i .s f Y=aa (.nx (Y.set i (aa (1,lK (xs++ys))))):=by
 have h':eV 0 .s f Y=aa (tK ys):=h;unfold qV;rw[h',bQ,hg,bQ];show(if (xs.map kD).length+(ys.map kD).length<=sizeLine then aa (Out.nx (Y.set i (aa (1,.list (xs.map kD++ys.map kD))))) else ab)=_
 rw[if_pos (gY (by simp;lia)),<-hG]
theorem m6 (A:AlG wd hd ls):∃ ns:aaj,LW [bL (hd,ls)]=aa (.list (ns.map aU))/\ns.length<=63/\∀ l∈ls,∀ i:Int,(.inl i:aG)∈l.2->i∈ns:=by
 have h4:=A.h4;have n9:=A.n9
 let J:Nat->aam->aQ->Prop:=λi ks Y=>(ks.length<=4+6*i/\∀ l∈ls.take i,∀ k∈l.2,k∈ks)/\∃ x2:L2.Slot,Y=[s0 (bL (hd,ls)),aa (1,lK ks),x2]
 have:∃ d,LW [bL (hd,ls)]=aa d/\∃ ns:aaj,d=.list (ns.map aU)/\ns.length<=63/\∀ l∈ls,∀ i:Int,(.inl i:aG)∈l.2->i∈ns:=by
  refine iM rfl (bK (aW (aR (aL rfl rfl rfl) rfl) rfl) (by simp) (dW (λρ'=>∃ ks,J ls.length ks ρ') ?_ ?_))
  .refine mS (λks l=>ks++l.2) J (gp (lV (aL rfl rfl rfl))) ⟨⟨(),λl m=>by simp at m⟩,ab,rfl⟩ ?_ ?_
   .rintro i l ks _ hx ⟨⟨h1,h2⟩,x2,rfl⟩;have hi:=(cE.1 hx).1;have w6:=A.w6 l (eW hx);refine⟨[s0 (bL (hd,ls)),aa (1,lK ks),s0 (bB l)],rfl,_,Lk (aL rfl rfl rfl) rfl (),_,.inl rfl,⟨by rw[jN];lia,λl' m k mk=>?_⟩,s0 (bB l),rfl⟩
    rw[qB,hx] at m;rcases jM.1 m with m|m
    .exact OV _ (h2 l' m k mk)
    .obtain rfl:l'=l:=by simpa using m
     exact wR _ mk
   .rintro ρ' h;exact⟨_,rfl,_,h⟩
  rintro _ ⟨ks,⟨h1,h2⟩,x2,rfl⟩;rw[rT] at h2;have il:(sO ks).length<=ks.length:=uE _ _;have so:DM [.list ((ks.filter isI).map kD)]=aa (.list ((sortI (gP (sO ks))).map aU)):=by
   show((kC ((ks.filter isI).map kD)).bind _)=_;rw[KP,bQ,if_pos ()]
  refine iA (cB (aW (aR (iB isI kD (eO rfl) () λk _=>⟨[aa (kD k)],rfl,by cases k<;>rfl,λ_=>rfl⟩) rfl) so) ⟨_,rfl,_,rfl,?_,λl m i mi=>A2a.2 (Zm (h2 l m _ mi))⟩)
  have h:(sortI (gP (sO ks))).Perm (gP (sO ks)):=FU _ _;have:=KJ (sO ks);rw[h.length_eq]
  lia
 obtain⟨d,e,ns,rfl,h⟩:=this;exact⟨ns,e,h⟩
theorem Nq{i:Nat}{ts:aag}(h:f (vS Y)=aa (.list ts))(hg:getL i Y=aa ds)(hl:ds.length+ts.length<=1000):qV i .s f Y=aa (.nx (Y.set i (aa (1,.list (ds++ts))))):=by
 have h':eV 0 .s f Y=aa (.list ts):=h;unfold qV;rw[h',bQ,hg,bQ];show(if ds.length+ts.length<=sizeLine then _ else ab)=_
 rw[if_pos (gY (cQ hl nofun))]
def BG (g:Int)(ls:aao):Prop:=∀ l∈ls,∀ i:Int,(.inl i:aG)∈l.2->i<=g
theorem C3 {P Q:aat}(hP:∀ a∈P,AlG wd a.1 a.2)(hQ:∀ a∈Q,AlG wd a.1 a.2)(p3:P.length<=3)(q3:Q.length<=3) :
  ∃ g:Int,MB [qD P,qD Q]=aa (.int g)/\∀ a∈P,BG g a.2:=by
 let J:Nat->aQ->Prop:=λi Y=>∃ (is:aaj) (x3:L2.Slot),Y=[s0 (qD P),s0 (qD Q),aa (1,.list (is.map aU)),x3]/\is≠[]/\is.length<=1+63*i/\∀ a∈(P++Q).take i,∀ l∈a.2,∀ j:Int,(.inl j:aG)∈l.2->j∈is
 have:∃ d,MB [qD P,qD Q]=aa d/\∃ g:Int,d=.int g/\∀ a∈P,BG g a.2:=by
  refine iM rfl (bK rfl (by simp) (dW (J (P++Q).length) ?_ ?_))
  .refine qX J (gp (eO (aL rfl rfl (by
   show(if (P.map bL).length+(Q.map bL).length<=sizeLine then aa (jZ (P.map bL++Q.map bL)) else ab)=_
   rw[if_pos (gY (by simp;lia)),<-hG])))) ⟨[0],ab,rfl,by simp,by simp,λa m=>by simp at m⟩ ?_ λρ' h=>⟨_,rfl,by simpa using h⟩
   rintro i d _ hd ⟨is,x3,rfl,h1,h2,h3⟩;rw[eD] at hd;obtain⟨a,ha,rfl⟩:=fG.1 hd;have hi:=(cE.1 ha).1;obtain⟨ns,e,n1,n2⟩:=m6 ((jM.1 (eW ha)).elim (hP a) (hQ a));have hl:(P++Q).length<=6:=by simp;lia
   refine⟨[s0 (qD P),s0 (qD Q),aa (1,.list (is.map aU)),s0 (bL a)],rfl,_,Nq (aW rfl e) rfl (by simp;lia),_,.inl rfl,is++ns,s0 (bL a),?_,by simp[h1],by rw[jN];lia,λb m l ml j mj=>?_⟩
   .rw[hG]
    rfl
   .rw[qB,ha] at m;rcases jM.1 m with m|m
    .exact OV _ (h3 b m l ml j mj)
    .obtain rfl:b=a:=by simpa using m
     exact wR _ (n2 l ml j mj)
  rintro _ ⟨is,x3,rfl,h1,h2,h3⟩;rw[rT] at h3;refine iA (cB (aW rfl ?_) ⟨_,rfl,_,rfl,λa m l ml i mi=>HZ (h3 a (OV _ m) l ml i mi)⟩)
  show((kC (is.map aU)).bind _)=_;rw[JZ,bQ,if_pos h1]
 obtain⟨d,e,g,rfl,h⟩:=this;exact⟨g,e,h⟩
theorem Mx (a:Int)(m:z∈aY ls):∃ k:Nat,k<(aY ls).length/\vF a ls z=a+1+k:=by
 obtain⟨u,e⟩:=Al5.2 (show z∈(ou a (aY ls)).map (·.1) by rw[JG];exact m)
 obtain⟨p,hp,rfl⟩:=fG.1 e;obtain⟨k,hk,rfl⟩:=List.mem_mapIdx.1 (OT hp);exact⟨k,hk,by unfold vF fO;rw[e];rfl⟩
def Fz (g:Int)(n:Nat)(x:Int):Prop:=x<=g\/∃ k:Nat,k<n/\x=g+1+k
theorem Rk {g:Int}(u:BG g ls)(ml:l∈ls){x:Int}(m:x∈l.2.map (tv (vF g ls))):Fz g (aY ls).length x:=by
 obtain⟨k,mk,rfl⟩:=bG.1 m;cases k with
 |inl i=>exact .inl (u l ml i mk)
 |inr z=>
  obtain⟨j,hj,e⟩:=Mx g (Acj.2 ⟨l,ml,Acv.2 mk⟩);exact .inr ⟨j,hj,e⟩
theorem U1 {g:Int}{xs:aaj}(h:∀ x∈xs,Fz g (aY ls).length x)(hl:xs.length<=100)(A:AlG wd hd ls):∃ ts:aag,JX [cL xs,bh ls,.int g]=aa (.list ts):=by
 have n9:=A.n9;have:∃ d,JX [cL xs,bh ls,.int g]=aa d/\∃ ts,d=.list ts:=by
  refine iM rfl (bK (aW rfl (oG (λl m=>⟨A.w6 l m,A.lay l m⟩) ())) (by simp) (cB (iB (λ_=>af) (λx=>if x > g then .str ((aY ls).getD (x-g-1).toNat "") else .int x) (lV rfl) () λx mx=>⟨[aa (.int x),aa (.int g),aa (lZ (aY ls))],rfl,rfl,λ_=>?_⟩) ⟨_,rfl,_,rfl⟩))
  rcases h x mx with hx|⟨k,hk,rfl⟩
  .rw[if_neg ()]
   show(Option.bind (aa (decide (x > g))) _)=_;rw[decide_eq_false ()]
   rfl
  .rw[if_pos (),show(g+1+(k:Int)-g-1).toNat=k by lia]
   show(Option.bind (aa (decide (g+1+(k:Int) > g))) _)=_;rw[decide_eq_true ()]
   show ai aq az (ai lJ (ai lJ ao au) bf) [aa (.int (g+1+(k:Int))),aa (.int g),aa (lZ (aY ls))]=_;refine aL (b:=.int (g+1+k-g-1)) rfl rfl ?_;rw[show g+1+(k:Int)-g-1=k by lia]
   exact mT (getD_some ("" : aD) hk)
 obtain⟨d,e,ts,rfl⟩:=this;exact⟨ts,e⟩
def Told (d:aA):Prop:=(∃ n ps,d=.tuple [.str "map",.int n,.list ps,.list []])\/∃ kds r,d=.tuple [.str "not",.dict kds,cL r]
theorem VT (A:AlG wd hd ls)(hw:∀ t,1<=wd t){Q:aat}(hQ:∀ a∈Q,AlG wd a.1 a.2)(q3:Q.length<=3){g:Int}(u:BG g ls) :
  ∃ d,yZ [bL (hd,ls),qD Q,.list [],.int g]=aa d/\Told d:=by
 have O:=A.once
 let en:aA:=.tuple [.str "still",bL (hd,dO ls),.list []]
 let v:=vF g (dO ls)
 let kds:=gf (tq v (dO ls))
 let row:=hd.map (tv v)
 let ice:aA:=.tuple [.dict kds,cL row]
 refine iM rfl (bK (aW rfl (M0 A)) (by simp) (fI (pI rfl) (bK (aW (aR (aL rfl rfl rfl) rfl) (Y0 O g)) (by simp) ?_)))
 obtain⟨d,e,w⟩:=P4 (Xl O hw v) (λt=>cQ (Gb v (dO ls) t) O.n9) (Ro v (dO ls)) (λa m=>(hQ a m).aok) q3 row
 refine bK (aW (aR (aL rfl rfl rfl) (aR rfl (aR (aL rfl rfl rfl) rfl))) e) (by simp) ?_
 rcases w with⟨rfl,_⟩|⟨n,v2,hn,rfl,L,_⟩
 .exact fI (pI rfl) (oF (fV rfl (cB (iQ (aR rfl (aR (aL rfl rfl rfl) (aR (aL rfl rfl rfl) rfl)))) ⟨_,rfl,_,rfl,.inr ⟨_,_,rfl⟩⟩)))
 .have B:=hQ _ (getD_mem a0 hn);generalize hb:Q.getD n a0=b at L B;have nl:=KG b.2 B.w6;have n9:=B.n9;obtain⟨ts,et⟩:=U1 (λx m=>by
   obtain⟨z,mz,rfl⟩:=bG.1 m;obtain⟨l,ml,mz⟩:=Acj.1 mz;obtain⟨l',ST,_,e⟩:=A3w.1 (L.1.1 l ml);exact Rk (λl m=>u l (Aa7.1 m)) ST (e ▸ bG.2 ⟨_,Acv.1 mz,rfl⟩)) (by rw[bT];lia) O
  let fd:aA:=.tuple [.int n,cL ((aY b.2).map v2)]
  have ix:aq (qD Q) (.int n)=aa (bL b):=by
   have:=mT (q:=bL) (getD_some a0 hn)
   rwa [hb] at this
  refine oF (fV rfl (bK (aW (aR (aL (aL rfl (aL rfl rfl rfl) ix) rfl rfl) rfl) (oG (λl m=>⟨B.w6 l m,B.lay l m⟩) ())) (by simp) (bK (d:=.list ((((aY b.2).map dE).zip ts).map λp=>.tuple [p.1,p.2])) (aW (aR rfl (aR (aW (aR (aL rfl rfl rfl) (aR (aL (aL rfl rfl rfl) rfl rfl) (aR rfl rfl))) et) rfl)) ?_) (by simp) ?_)))
  .show(if _ then _ else ab)=_
   rw[if_pos (gY (by rw[bT];lia))]
  .exact cB (iQ (aR rfl (aR (aL rfl rfl rfl) (aR rfl (aR (aL rfl rfl rfl) rfl))))) ⟨_,rfl,_,rfl,.inl ⟨_,_,rfl⟩⟩
def GV (d:aA):Prop:=∃ w ds,d=.tuple (.str w::ds)
theorem Told.word(h:Told d):∃ w ds,d=.tuple (.str w::ds)/\w ≠ "open":=by
 rcases h with⟨n,ps,rfl⟩|⟨kds,r,rfl⟩
 .exact⟨_,_,rfl,by rw[0]⟩
 .exact⟨_,_,rfl,by rw[0]⟩
theorem at0 (d:aA)(ds:aag):aq (.tuple (d::ds)) (.int 0)=aa d:=by
 show iw (d::ds) 0=aa d;unfold iw jg;simp
theorem Le (d:aA)(ds:aag):aq (.list (d::ds)) (.int 0)=aa d:=at0 d ds
def nD (P Q:aat)(g:Int):aag:=P.map λa=>(yZ [bL a,qD Q,.list [],.int g]).getD .none
def yp (ts:aag)(k:Nat):aah:=match ts.getD k .none with
 |.tuple [.str _,.dict kds,r]=>aa (.tuple [.str "not",.int k,.dict kds,r])
 |_=>ab
theorem YJ (hw:∀ t,1<=wd t){P Q:aat}(hP:∀ a∈P,AlG wd a.1 a.2)(hQ:∀ a∈Q,AlG wd a.1 a.2)(p3:P.length<=3)(q3:Q.length<=3) :
  ∃ d,GV d/\∀ rl,(rl=.none\/rl=.list [])->DK [qD P,qD Q,rl]=aa d:=by
 obtain⟨g,eg,ug⟩:=C3 hP hQ p3 q3;have tl:(nD P Q g).length=P.length:=bT ..;have hT:∀ k,k<(nD P Q g).length->Told ((nD P Q g).getD k .none):=λk hk=>by
  obtain⟨a,ma,e⟩:=bG.1 (getD_mem (xs:=nD P Q g) .none hk);obtain⟨d,e',h⟩:=VT (hP a ma) hw hQ q3 (ug a ma);rw[<-e,e'];exact h
 let res:=((bZ (nD P Q g).length).findSome? (yp (nD P Q g))).getD (.tuple [.str "within",.list (nD P Q g)])
 have wres:GV res:=by
  show GV (FO _ _);cases h:(bZ (nD P Q g).length).findSome? (yp (nD P Q g)) with
  |none=>exact⟨_,_,rfl⟩
  |some d=>
   obtain⟨k,mk,e⟩:=PF h;rcases hT k (eQ.1 mk) with⟨n,ps,e'⟩|⟨kds,r,e'⟩
   .unfold yp at e;rw[e'] at e;cases e
   .unfold yp at e;rw[e'] at e;exact⟨_,_,(fF e).symm⟩
 refine⟨res,wres,λrl hr=>kG rfl (bK (aW rfl eg) (by simp) ?_)⟩
 have er:∀ d,xk (br (ai pF bg (eC .none))) (dC dD) bg [aa d,aa (qD Q),aa (.int g),aa rl]=aa (.list []):=λd=>by
  rcases hr with rfl|rfl<;>rfl
 have et:=qY (cap:=[ab,aa 1,aa 3,aa 2]) (fi:=cf ao) (T:=gB 0) (t:=dZ) (f:=aK yZ (aM ao (aM au (aM (xk (br (ai pF bg (eC .none))) (dC dD) bg) (aj az))))) (Y:=vS [s0 (qD P),s0 (qD Q),s0 rl,s0 (.int g),ab,ab,ab,ab]) (λa=>(yZ [bL a,qD Q,.list [],.int g]).getD .none) (eO rfl) () λa ma=>by
  obtain⟨d,e,h⟩:=VT (hP a ma) hw hQ q3 (ug a ma);exact⟨[aa (bL a),aa (qD Q),aa (.int g),aa rl],rfl,rfl,by rw[e];exact aW (aR rfl (aR rfl (aR (er _) (aR rfl rfl)))) e⟩
 change _=aa (jZ (nD P Q g)) at et
 generalize hts:nD P Q g=ts at *;refine bK et (by simp) (iA ?_)
 let W:aQ->Prop:=λY=>∃ x5 x6:L2.Slot,Y=[s0 (qD P),s0 (qD Q),s0 rl,s0 (.int g),s0 (.list ts),x5,x6,ab]
 have ei:∀ (f:EF) (Y:be),f Y=aa (.list ts)->ki (aj f) Y=aa ((bZ ts.length).map λk=>pV k (ts.getD k .none)):=λf Y h=>JE (λd=>d) .none (by rw[List.map_id'];exact h)
 refine CO W _ (CY W (yp ts) (gp (ei bz _ rfl)) ⟨ab,ab,rfl⟩ ?_) (λr h=>by show Out.rt r=.rt (FO _ _);rw[hts,h];rfl) λh=>?_
 .rintro k mk _ ⟨x5,x6,rfl⟩;have ho:=hT k (eQ.1 mk);generalize wg:ts.getD k .none=own at ho;refine⟨[s0 (qD P),s0 (qD Q),s0 rl,s0 (.int g),s0 (.list ts),s0 (.int k),s0 own,ab],rfl,?_⟩;unfold yp;rw[wg];rcases ho with⟨n,ps,rfl⟩|⟨kds,r,rfl⟩
  .exact iY (dJ (aL rfl rfl (yA _ _))) (gW ⟨_,.inl rfl,_,_,rfl⟩)
  .exact fV (dJ (aL rfl rfl (yA _ _))) (cB rfl rfl)
 rintro _ ⟨x5,x6,rfl⟩;have lp:=iB (cap:=[ab,ab]) (T:=vy 0 1) (t:=br (ai cy (ai aq au bq) (eC (.str "open")))) (f:=bR 0) (Y:=vS [s0 (qD P),s0 (qD Q),s0 rl,s0 (.int g),s0 (.list ts),x5,x6,ab]) (λ_=>ah) (λ_=>.none) (ei bz _ rfl) (by simp;lia) λk mk=>by
  have ho:=hT k (eQ.1 mk);generalize ts.getD k .none=own at ho;refine⟨[aa (.int k),aa own],rfl,?_,λh=>by cases h⟩
  obtain⟨w,ds,rfl,nw⟩:=ho.word;exact(dJ (aL (aL rfl rfl (at0 _ _)) rfl (yA _ _))).trans (congrArg aa (decide_eq_false nw))
 rw[List.filter_eq_nil_iff.2 λ_ _=>by simp] at lp
 exact bK lp (by simp) (iA (fI (pI rfl) (cB rfl (by show _=Out.rt (FO _ _);rw[hts,h];rfl))))
def wo {α:Type}(xs:List α)(k:Nat):List α:=xs.take k++xs.drop (k+1)
theorem sW {α:Type}(xs:List α)(k:Nat):(wo xs k).Sublist xs:=by
 conv=>rhs;rw[<-OQ k xs]
 exact List.Sublist.append_left (by rw[<-List.drop_drop];exact List.drop_sublist _ _) _
theorem BS {α:Type}{xs:List α}(h:k<xs.length):(wo xs k).length+1=xs.length:=by
 unfold wo;rw[jN,mH,wY]
 lia
theorem TC {α:Type}(q:α->aA)(xs:List α)(k:Nat):(xs.map q).take k++(xs.map q).drop (k+1)=(wo xs k).map q:=by
 unfold wo;rw[hG,wU,wV]
theorem Ab {α:Type}(q:α->aA){xs:List α}(hk:k<xs.length)(hl:xs.length<=100):vX [.tuple (xs.map q),.int k]=aa (.tuple ((wo xs k).map q)):=by
 have e1:=CX (f:=bR 0) (lo:=oN) (hi:=oS au) (Y:=vS [s0 (.tuple (xs.map q)),s0 (.int k)]) rfl rfl rfl;rw[xW (by simpa using mE hk)] at e1
 have e2:=CX (f:=bR 0) (lo:=oS (ai cF au bf)) (hi:=oN) (Y:=vS [s0 (.tuple (xs.map q)),s0 (.int k)]) (l:=aa ((k+1:Nat):Int)) rfl rfl rfl;rw[DL _ (by simp;lia)] at e2
 have e:=aL e1 e2 (Ry (by simp;lia))
 rw[TC] at e;refine kG rfl ⟨.rt (.tuple ((wo xs k).map q)),?_,rfl⟩;show(ab:Option Out).or (mM 1 .s (xM _) [s0 (.tuple (xs.map q)),s0 (.int k)])=_;unfold mM eV xM;rw[e]
 rfl
theorem Ao {α:Type}(q:α->aA){xs:List α}(hk:k<xs.length)(hl:xs.length<=100):vX [.list (xs.map q),.int k]=aa (.list ((wo xs k).map q)):=by
 have e1:=nF (f:=bR 0) (lo:=oN) (hi:=oS au) (Y:=vS [s0 (.list (xs.map q)),s0 (.int k)]) rfl rfl rfl;rw[xW (by simpa using mE hk)] at e1
 have e2:=nF (f:=bR 0) (lo:=oS (ai cF au bf)) (hi:=oN) (Y:=vS [s0 (.list (xs.map q)),s0 (.int k)]) (l:=aa ((k+1:Nat):Int)) rfl rfl rfl;rw[DL _ (by simp;lia)] at e2
 have e:ai lA (fU ao oN (oS au)) (fU ao (oS (ai cF au bf)) oN) (vS [s0 (.list (xs.map q)),s0 (.int k)])=aa (.list ((wo xs k).map q)):=by
  refine aL e1 e2 ?_;show(if ((xs.map q).take k).length+((xs.map q).drop (k+1)).length<=sizeLine then aa (jZ ((xs.map q).take k++(xs.map q).drop (k+1))) else ab)=_
  rw[if_pos (gY (by simp;lia)),TC]
 refine kG rfl ⟨.rt (.list ((wo xs k).map q)),?_,rfl⟩;show(mM 1 .s _ [s0 (.list (xs.map q)),s0 (.int k)]).or _=_;unfold mM eV;rw[e]
 rfl
theorem AlG.wo (A:AlG wd hd ls)(h:∀ z,(.inr z:aG)∈hd->z∈aY (wo ls k)):AlG wd hd (wo ls k):=by
 have s:∀ {l},l∈Aw.wo ls k->l∈ls:=λm=>(sW ls k).subset m
 exact⟨cQ (sW ls k).length_le A.n9,λl m=>A.wid l (s m),λl m=>A.w1 l (s m),λl m=>A.w6 l (s m),λl m=>A.lay l (s m),λl m=>A.tab l (s m),A.h4,h,A.hly⟩
theorem lf:("head" : aD) ≠ "within":=by rw[0]
def nM (rl:aA):Prop:=rl=.none\/rl=.list []
theorem YU (A:AlG wd hd ls)(hw:∀ t,1<=wd t)(hk:k<ls.length) :
  ∃ w ds,(∀ rl,nM rl->ET [bL (hd,ls),.int k,rl]=aa (.tuple (.str w::ds)))/\(w = "within" -> AlG wd hd (wo ls k)):=by
 have n9:=A.n9;have wl:=BS hk;have s:∀ {l},l∈wo ls k->l∈ls:=λm=>(sW ls k).subset m
 have H:∃ (w:aD) (ds:aag),(w = "within" -> AlG wd hd (wo ls k))/\∀ rl,nM rl->(hd.filter (λx=>match x with|.inl _=>ah|.inr z=>!decide (z∈aY (wo ls k)))=[]->DK [qD [(hd,wo ls k)],qD [(hd,ls)],rl]=aa (.tuple (.str w::ds)))/\∀ x r,hd.filter (λx=>match x with|.inl _=>ah|.inr z=>!decide (z∈aY (wo ls k)))=x::r->w = "head" /\ ds=[kD x]:=by
  cases hf:hd.filter λx=>match x with|.inl _=>ah|.inr z=>!decide (z∈aY (wo ls k)) with
  |nil=>
   have B:=A.wo λz m=>by
    have:=List.filter_eq_nil_iff.1 hf _ m;simpa using this
   obtain⟨d,⟨w,ds,rfl⟩,e⟩:=YJ (P:=[(hd,wo ls k)]) (Q:=[(hd,ls)]) hw (λa m=>by rw[cG.1 m];exact B) (λa m=>by rw[cG.1 m];exact A) (by simp) (by simp)
   exact⟨w,ds,λ_=>B,λrl hr=>⟨λ_=>e rl hr,λx r h=>by cases h⟩⟩
  |cons x r=>exact⟨"head",[kD x],λh=>absurd h lf,λrl hr=>⟨λh=>(by cases h),λy t h=>(by cases h;exact⟨rfl,rfl⟩)⟩⟩
 obtain⟨w,ds,B,H⟩:=H;refine⟨w,ds,λrl hr=>kG rfl ?_,B⟩
 obtain⟨H1,H2⟩:=H rl hr;refine bK (iQ (aR (aL rfl rfl rfl) (aR (aW (aR (aL rfl rfl rfl) (aR rfl rfl)) (Ab bB hk ())) rfl))) (by simp) (bK (aW (aR (aL rfl rfl rfl) rfl) (oG (λl m=>⟨A.w6 l (s m),A.lay l (s m)⟩) ())) (by simp) ?_)
 have lc:=iB (cap:=[ab,aa 4]) (fi:=cf (ai aq ao bq)) (T:=gB 0) (t:=fT (br (ff (eT "str") ao)) (br (ai (gy af) ao au))) (f:=bR 0) (Y:=vS [s0 (bL (hd,ls)),s0 (.int k),s0 rl,s0 (bL (hd,wo ls k)),s0 (lZ (aY (wo ls k))),ab]) (λx=>match x with|.inl _=>ah|.inr z=>!decide (z∈aY (wo ls k))) kD (lV (aL rfl rfl rfl)) (by have:=A.h4;lia) λx _=>⟨[aa (kD x),aa (lZ (aY (wo ls k)))],rfl,?_,λ_=>rfl⟩
 .refine bK lc (by simp) (iA ?_)
  cases hf:hd.filter λx=>match x with|.inl _=>ah|.inr z=>!decide (z∈aY (wo ls k)) with
  |nil=>
   exact fI (pI rfl) (cB (aW rfl (H1 hf)) rfl)
  |cons x r=>
   obtain⟨rfl,rfl⟩:=H2 x r hf;exact oF (fV (by show aa (decide ((((x::r).map kD).length:Int) > 0))=aa af;rw[decide_eq_true (by simp)]) (cB (iQ (aR rfl (aR (aL rfl rfl (Le _ _)) rfl))) ⟨_,rfl,rfl⟩))
 .cases x with
  |inl i=>rfl
  |inr z=>
   have:=IC af (aY (wo ls k)) z;simp[fT,br,ff,eT,nC,tw,rp,ai,bR,kD,this]
def gF (a:cO)(k:Nat):aah:=match ET [bL a,.int k,.none] with
 |some (.tuple (.str w::_))=>if w = "within" then aa (.int k) else ab
 |_=>ab
def yj (a:cO):aA:=((bZ a.2.length).findSome? (gF a)).getD .none
theorem DU (A:AlG wd hd ls)(hw:∀ t,1<=wd t) :
  (∀ rl,nM rl->LP [bL (hd,ls),rl]=aa (yj (hd,ls)))/\(yj (hd,ls)=.none\/∃ k:Nat,k<ls.length/\yj (hd,ls)=.int k/\AlG wd hd (wo ls k)):=by
 have n9:=A.n9;constructor
 .refine λrl hr=>kG rfl ?_
  let W:aQ->Prop:=λY=>∃ x2:L2.Slot,Y=[s0 (bL (hd,ls)),s0 rl,x2]
  refine CO W _ (CY W (gF (hd,ls)) (gp (vC (n:=ls.length) (aR (aW (aR (aL rfl rfl rfl) rfl) ?_) rfl) ())) ⟨ab,rfl⟩ ?_) (λr h=>by show Out.rt r=.rt (FO _ _);rw[h];rfl) λh=>?_
  .show aa (aU ((ls.map bB).length:Nat))=_;rw[bT]
  .rintro k mk _ ⟨x2,rfl⟩;have hk:=eQ.1 mk;refine⟨[s0 (bL (hd,ls)),s0 rl,s0 (.int k)],rfl,?_⟩;obtain⟨w,ds,e,h⟩:=YU A hw hk;have t:bV .s (br (ai cy (ai aq (aK ET (aM ao (aM az (aj au)))) bq) (eC (.str "within")))) [s0 (bL (hd,ls)),s0 rl,s0 (.int k)]=aa (decide (w = "within")):=
    dJ (aL (aL (aW rfl (e rl hr)) rfl (at0 _ _)) rfl (yA _ _))
   unfold gF;rw[e .none (.inl rfl)];dsimp only;by_cases q:w = "within"
   .rw[decide_eq_true q] at t;rw[if_pos q];exact fV t (cB rfl rfl)
   .rw[decide_eq_false q] at t;rw[if_neg q];exact iY t (gW ⟨_,.inl rfl,_,rfl⟩)
  rintro _ ⟨x2,rfl⟩;exact cB rfl (by show _=Out.rt (FO _ _);rw[h];rfl)
 .unfold yj;cases h:(bZ ls.length).findSome? (gF (hd,ls)) with
  |none=>exact .inl rfl
  |some d=>
   obtain⟨k,mk,e⟩:=PF h;have hk:=eQ.1 mk;obtain⟨w,ds,e',h'⟩:=YU A hw hk;unfold gF at e;rw[e' .none (.inl rfl)] at e;dsimp only at e;by_cases q:w = "within"
   .rw[if_pos q] at e;exact .inr ⟨k,hk,(fF e).symm,h' q⟩
   .rw[if_neg q] at e;cases e
def ox (hd:aam):Nat->aao->aao
 |0,ms=>ms
 |n+1,ms=>match yj (hd,ms) with
  |.int k=>ox hd n (wo ms k.toNat)
  |_=>ms
theorem Zz (A:AlG wd hd ls)(hw:∀ t,1<=wd t) :
  ∃ Tl,(∀ rl,nM rl->wC [bL (hd,ls),rl]=aa (bL (hd,Tl)))/\Tl.Sublist ls/\AlG wd hd Tl:=by
 have ft:∀ n ms,AlG wd hd ms->(ox hd n ms).Sublist ms/\AlG wd hd (ox hd n ms):=by
  intro n;induction n with
  |zero=>exact λms B=>⟨PK _,B⟩
  |succ n ih=>
   intro ms B;unfold ox;rcases(DU B hw).2 with h|⟨k,hk,h,C⟩
   .rw[h];exact⟨PK _,B⟩
   .rw[h];obtain⟨s,D⟩:=ih _ C;exact⟨s.trans (sW ms k),D⟩
 refine⟨ox hd 5 ls,λrl hr=>kG rfl ?_,ft 5 ls A⟩
 refine bK rfl (by simp) ?_
 let J:Nat->aQ->Prop:=λn Y=>∃ ms,Y=[s0 (bL (hd,ls)),s0 rl,s0 (bL (hd,ms)),s0 (yj (hd,ms))]/\AlG wd hd ms/\ms.length<=n/\ox hd n ms=ox hd 5 ls
 refine bK (aW rfl ((DU A hw).1 rl hr)) (by simp) (dW (λρ'=>∃ d,ρ'=[s0 (bL (hd,ls)),s0 rl,s0 (bL (hd,ox hd 5 ls)),d]) (HJ J ?_ 10 5 _ () ⟨ls,rfl,A,A.n9,rfl⟩) ?_)
 .rintro n _ ⟨ms,rfl,B,hl,ht⟩;rcases(DU B hw).2 with h|⟨k,hk,h,C⟩
  .have:ox hd n ms=ms:=by
    cases n with
    |zero=>rfl
    |succ n=>unfold ox;rw[h]
   rw[h,<-ht,this];exact .inl ⟨rfl,_,rfl,_,rfl⟩
  .have m9:=B.n9;have wl:=BS hk;obtain⟨n,rfl⟩:∃ n',n=n'+1:=⟨n-1,()⟩
   have zy:ox hd n (wo ms k)=ox hd 5 ls:=by
    rw[<-ht]
    conv=>rhs;unfold ox
    rw[h]
    rfl
   rw[h];exact .inr ⟨rfl,bK (iQ (aR (aL rfl rfl rfl) (aR (aW (aR (aL rfl rfl rfl) (aR rfl rfl)) (Ab bB hk ())) rfl))) (by simp) (rD (aW rfl ((DU C hw).1 rl hr)) (by simp) ⟨_,n,rfl,(),_,rfl,C,(),zy⟩)⟩
 rintro _ ⟨d,rfl⟩;exact cB rfl rfl
def oJ (a b:cO):Prop:=a.1=b.1/\a.2.Sublist b.2
def Emb (R Q:aat):Prop:=∃ Q':aat,Q'.Sublist Q/\bY oJ R Q'
theorem Paired.take {α β:Type}{S:α->β->Prop}:∀ {xs:List α} {ys:List β} (k:Nat),bY S xs ys->bY S (xs.take k) (ys.take k)
 |_,_,0,_=>.nil
 |_,_,k+1,.nil=>.nil
 |_,_,k+1,.cons h t=>.cons h (Paired.take k t)
theorem Paired.drop {α β:Type}{S:α->β->Prop}:∀ {xs:List α} {ys:List β} (k:Nat),bY S xs ys->bY S (xs.drop k) (ys.drop k)
 |_,_,0,h=>h
 |_,_,k+1,.nil=>.nil
 |_,_,k+1,.cons h t=>Paired.drop k t
theorem Paired.app {α β:Type}{S:α->β->Prop}{jd:List α}{oz:List β}(h':bY S jd oz):∀ {xs:List α} {ys:List β},bY S xs ys->bY S (xs++jd) (ys++oz)
 |_,_,.nil=>h'
 |_,_,.cons h t=>.cons h (Paired.app h' t)
theorem Emb.wo {R Q:aat}(h:Emb R Q)(k:Nat):Emb (wo R k) Q:=by
 obtain⟨Q',s,p⟩:=h;exact⟨Aw.wo Q' k,(sW Q' k).trans s,Paired.app (Paired.drop _ p) (Paired.take _ p)⟩
theorem MQ (R:aat):fJ 1 (qD R)=af:=eB.2 λt m=>by
 obtain⟨a,_,rfl⟩:=bG.1 m;exact j1 a
theorem J3 (hw:∀ t,1<=wd t){R:aat}(hR:∀ a∈R,AlG wd a.1 a.2)(r3:R.length<=3)(hk:k<R.length) :
  ∃ w ds,∀ rl,nM rl->EY [qD R,.int k,rl]=aa (.tuple (.str w::ds)):=by
 have wl:=BS hk;obtain⟨d,⟨w,ds,rfl⟩,e⟩:=YJ (P:=[R.getD k a0]) hw (λa m=>by rw[cG.1 m];exact hR _ (getD_mem a0 hk)) (λa m=>hR a ((sW R k).subset m)) (by simp) ()
 exact⟨w,ds,λrl hr=>kG rfl (cB (aW (aR (oC (aR (aL rfl rfl (mT (getD_some a0 hk))) rfl)) (aR (aW rfl (Ao bL hk ())) (aR rfl rfl))) (e rl hr)) rfl)⟩
def leG (n:Nat)(R:aat)(i:Nat):aat:=match EY [qD R,.int ((n:Int)-1-i),.none] with
 |some (.tuple (.str w::_))=>if w = "within" then wo R (n-1-i) else R
 |_=>R
theorem Xq {Q:aat}(hw:∀ t,1<=wd t)(hQ:∀ a∈Q,AlG wd a.1 a.2)(q3:Q.length<=3):∃ R,(∀ rl,nM rl->vG [qD Q,rl]=aa (qD R))/\Emb R Q/\∀ a∈R,AlG wd a.1 a.2:=by
 have H:∀ a∈Q,∃ b:cO,(∀ rl,nM rl->wC [bL a,rl]=aa (bL b))/\oJ b a/\AlG wd b.1 b.2:=λa m=>by
  obtain⟨Tl,e,s,B⟩:=Zz (hQ a m) hw;exact⟨(a.1,Tl),e,⟨rfl,s⟩,B⟩
 classical
 let lw:cO->cO:=λa=>if h:∃ b:cO,(∀ rl,nM rl->wC [bL a,rl]=aa (bL b))/\oJ b a/\AlG wd b.1 b.2 then h.choose else a
 have hl:∀ a∈Q,(∀ rl,nM rl->wC [bL a,rl]=aa (bL (lw a)))/\oJ (lw a) a/\AlG wd (lw a).1 (lw a).2:=λa m=>by
  have e:lw a=(H a m).choose:=dif_pos (H a m);rw[e];exact(H a m).choose_spec
 let fin:=(bZ Q.length).foldl (leG Q.length) (Q.map lw)
 have:∀ rl,nM rl->∃ d,vG [qD Q,rl]=aa d/\∃ R,d=qD R/\R=fin/\Emb R Q/\∀ a∈R,AlG wd a.1 a.2:=by
  intro rl hr;refine iM rfl ?_;have lc:=iB (cap:=[ab,aa 1]) (fi:=cf ao) (T:=gB 0) (t:=dZ) (f:=aK wC (aM ao (aj au))) (Y:=vS [s0 (qD Q),s0 rl,ab,ab]) (λ_=>af) (λa=>bL (lw a)) (eO rfl) () λa m=>⟨[aa (bL a),aa rl],rfl,rfl,λ_=>aW rfl ((hl a m).1 rl hr)⟩
  rw[uG.2 λ_ _=>rfl,show(Q.map λa=>bL (lw a))=(Q.map lw).map bL from by rw[dF];rfl] at lc
  have p0:bY oJ (Q.map lw) Q:=by
   have:∀ L:aat,(∀ a∈L,oJ (lw a) a)->bY oJ (L.map lw) L:=by
    intro L h;induction L with
    |nil=>exact .nil
    |cons a L ih=>exact .cons (h a bD) (ih λb m=>h b (bI _ m))
   exact this Q λa m=>(hl a m).2.1
  let J:Nat->aat->aQ->Prop:=λi R Y=>∃ x3,Y=[s0 (qD Q),s0 rl,aa (1,qD R),x3]/\Emb R Q/\(∀ a∈R,AlG wd a.1 a.2)/\R.length<=3/\Q.length<=R.length+i
  refine bK lc (by simp) (dW (J Q.length fin) ?_ ?_)
  .have ei:iR3 (aM (ai lJ (aK dM (aj ao)) bf) (aM (ff sG bf) (aj (ff sG bf)))) (vS [s0 (qD Q),s0 rl,aa (1,qD (Q.map lw)),ab])=aa ((bZ Q.length).map λ(k:Nat)=>aU ((Q.length:Int)-1-k)):=by
    unfold iR3;rw[(aR (aL (aW rfl (by show aa (aU ((Q.map bL).length:Nat))=_;rw[bT])) rfl rfl) rfl),bQ]
    dsimp only;rw[if_pos ⟨(),rfl⟩,show((Q.length:Int)-1 - -1).toNat=Q.length by lia]
   refine mS (leG Q.length) J (gp ei) ⟨ab,rfl,⟨Q,PK _,p0⟩,λa m=>?_,by simpa using q3,by simp⟩ ?_ λρ' h=>⟨_,rfl,by simpa using h⟩
   .obtain⟨b,mb,rfl⟩:=bG.1 m;exact(hl b mb).2.2
   rintro i x R _ hd ⟨x3,rfl,E,hR,r3,hn⟩;have hi:i<Q.length:=by simpa using(cE.1 hd).1
   rw[AQ hi] at hd;obtain rfl:=fF hd;obtain⟨k,ek⟩:∃ k:Nat,(k:Int)=(Q.length:Int)-1-i:=⟨Q.length-1-i,()⟩
   have hk:k<R.length:=()
   refine⟨[s0 (qD Q),s0 rl,aa (1,qD R),s0 (.int k)],by rw[ek];rfl,?_⟩
   obtain⟨w,ds,e⟩:=J3 hw hR r3 hk;have t:bV .a (br (ai cy (ai aq (aK EY (aM az (aM bg (aj au)))) bq) (eC (.str "within")))) [s0 (qD Q),s0 rl,aa (1,qD R),s0 (.int k)]=aa (decide (w = "within")):=
    dJ (aL (aL (aW rfl (e rl hr)) rfl (at0 _ _)) rfl (yA _ _))
   have wl:=BS hk;have eg:leG Q.length R i=if w = "within" then wo R k else R:=by
    unfold leG;rw[<-ek,e .none (.inl rfl),show Q.length-1-i=k by lia]
   rw[eg];by_cases q:w = "within"
   .rw[decide_eq_true q] at t;rw[if_pos q];refine fV t (BV (X' (aW rfl (Ao bL hk ())) (MQ _)) (by simp) ⟨_,.inl rfl,_,rfl,E.wo k,λa m=>hR a ((sW R k).subset m),(),()⟩)
   .rw[decide_eq_false q] at t;rw[if_neg q];exact iY t (gW ⟨_,.inl rfl,_,rfl,E,hR,r3,()⟩)
  rintro _ ⟨x3,rfl,E,hR,_⟩;exact⟨_,rfl,_,rfl,fin,rfl,rfl,E,hR⟩
 obtain⟨d,e,R,rfl,rfl,h⟩:=this .none (.inl rfl);refine⟨_,λrl hr=>?_,h⟩
 obtain⟨d,e,R,rfl,rfl,_⟩:=this rl hr;exact e
mutual
theorem eqv_refl:∀ d:aA,noDict d=af->bW d d=af
 |.none,_=>by simp[bW]
 |.bool b,_=>by simp[bW]
 |.int i,_=>by simp[bW]
 |.str x,_=>by simp[bW]
 |.list xs,h=>by
  simpa [bW] using KS xs (by simpa [noDict] using h)
 |.tuple xs,h=>by
  simpa [bW] using KS xs (by simpa [noDict] using h)
 |.dict _,h=>by simp[noDict] at h
theorem KS:∀ ds:aag,noDicts ds=af->iT ds ds=af
 |[],_=>by simp[iT]
 |d::ds,h=>by
  have h':noDict d=af/\noDicts ds=af:=by simpa [noDicts] using h
  simp[iT,eqv_refl d h'.1,KS ds h'.2]
end
theorem Y2 (l l':Ln):bW (bB l) (bB l')=decide (l=l'):=by
 have e1:=DB (.inr l.1) (.inr l'.1);have e1:bW (.str l.1) (.str l'.1)=decide (l.1=l'.1):=e1.trans (by simp)
 have:bW (bB l) (bB l')=(bW (.str l.1) (.str l'.1)&&iT (l.2.map kD) (l'.2.map kD)):=by
  simp[bB,bW,iT]
 rw[this,e1,EO l.2 l'.2,nV];simp[Prod.ext_iff]
theorem HX (l:Ln):noDict (bB l)=af/\(bB l).depth<=5:=by
 have h2:=yY l.2;constructor
 .simp[bB,noDict,noDicts,(vZ l.2)]
 .simp[bB,fE,cU]
  lia
theorem j3 (l l':Ln):cy (bB l) (bB l')=aa (.bool (decide (l=l'))):=by
 have h:∀ l:Ln,dI (bB l)=af:=λl=>by
  have:=HX l;unfold dI;rw[this.1,decide_eq_true (by have:=this.2;lia)]
  rfl
 unfold cy;rw[h,h,Y2]
 rfl
theorem Ll (xs ys:aam):ib (tK xs) (tK ys)=aa (.bool (!decide (xs=ys))):=by
 unfold ib;rw[UL,UL,show bW (tK xs) (tK ys)=iT (xs.map kD) (ys.map kD) by simp[tK,bW],EO]
 rfl
section
variable {α β:Type}(p:α->β->Bool)(xs:List α)
def ij (k:Nat)(y:β):Bool:=match xs[k]? with
 |some x=>p x y
 |none=>ah
def gs (k:Nat)(y:β):Nat:=if ij p xs k y=af then k+1 else k
inductive Sb:List α->List β->Prop
 |nil (ys:List β):Sb [] ys
 |skip {xs:List α} {ys:List β} (y:β):Sb xs ys->Sb xs (y::ys)
 |take {x:α} {xs:List α} {y:β} {ys:List β}:p x y=af->Sb xs ys->Sb (x::xs) (y::ys)
variable {p xs}
theorem Sb.tail {x:α}{xs:List α}{ys:List β}(h:Sb p (x::xs) ys):Sb p xs ys:=by
 generalize e:x::xs=zs at h;induction h with
 |nil=>cases e
 |skip y _ ih=>exact .skip y (ih e)
 |take _ h _=>cases e;exact .skip _ h
theorem SJ{ys:List β}(hk:k<=xs.length)(h:Sb p (xs.drop k) ys):ys.foldl (gs p xs) k=xs.length:=by
 induction ys generalizing k with
 |nil=>
  have:xs.drop k=[]:=by
   generalize xs.drop k=zs at h;cases h
   rfl
  have:=congrArg OY this;simp at this;show k=xs.length
  lia
 |cons y ys ih=>
  rw[hJ];unfold gs;by_cases q:ij p xs k y=af
  .rw[if_pos q];have bu:k<xs.length:=by
    unfold ij at q;cases e:xs[k]? with
    |none=>rw[e] at q;cases q
    |some x=>exact(cE.1 e).1
   refine ih bu ?_;rw[PH bu] at h;cases h with
   |skip _ h=>exact h.tail
   |take _ h=>exact h
  .rw[if_neg q];refine ih hk ?_;generalize e:xs.drop k=zs at h;cases h with
   |nil=>exact .nil _
   |skip _ h=>exact h
   |@take x r _ _ hp h=>
    exfalso;refine q ?_;have:xs[k]?=aa x:=by
     have:=congrArg (λl=>l[0]?) e
     simpa using this
    unfold ij;rw[this];exact hp
end
theorem Sb.of_sub {α:Type}{p:α->α->Bool}(hp:∀ x,p x x=af){xs ys:List α}(h:xs.Sublist ys):Sb p xs ys:=by
 induction h with
 |slnil=>exact .nil _
 |cons a _ ih=>exact .skip a ih
 |cons_cons a _ ih=>exact .take (hp a) ih
theorem Sb.of_emb {p:cO->cO->Bool}(hp:∀ a b,oJ a b->p a b=af){R Q' Q:aat}(s:Q'.Sublist Q)(h:bY oJ R Q'):Sb p R Q:=by
 induction s generalizing R with
 |slnil=>cases h;exact .nil _
 |cons a _ ih=>exact .skip a (ih h)
 |cons_cons a _ ih=>cases h with
  |cons h t=>exact .take (hp _ _ h) (ih t)
theorem eq_self(h:dI d=af):cy d d=aa (.bool af):=by
 unfold cy;rw[h,eqv_refl d ((jO.1 h).1)]
 rfl
theorem ne_self(h:dI d=af):ib d d=aa (.bool ah):=by
 unfold ib;rw[h,eqv_refl d ((jO.1 h).1)]
 rfl
theorem Ft (a b:Nat):cy (.int a) (.int b)=aa (.bool (decide (a=b))):=(rC a b).trans (by
 congr 2
 exact decide_eq_decide.2 ⟨λh=>(),λh=>()⟩)
theorem XB {α β:Type}{p:α->β->Bool}{xs:List α}{ys:List β}{q:β->aA}{fi:AF}{m:Md}(R:Nat->L2.Slot->aQ)(h:aV m fi (R 0 ab)=aa (ys.map q))
  (step:∀ k y x,y∈ys->k<=xs.length->∃ ρ1,T (q y) (R k x)=aa ρ1/\Goes F ρ1 λo=>∃ x',o=.nx (R (gs p xs k y) x')) :
  Goes (iX m fi T F) (R 0 ab) λo=>∃ x,o=.nx (R (ys.foldl (gs p xs) 0) x):=by
 refine mS (gs p xs) (λ_ k ρ'=>(∃ x,ρ'=R k x)/\k<=xs.length) h ⟨⟨ab,rfl⟩,cZ _⟩ ?_ λρ' ⟨⟨x,e⟩,_⟩=>⟨x,by rw[e]⟩
 rintro i y k _ hy ⟨⟨x,rfl⟩,hk⟩;obtain⟨ρ1,e,g⟩:=step k y x (eW hy) hk;refine⟨ρ1,e,g.mono λo ⟨x',e⟩=>⟨_,.inl e,⟨x',rfl⟩,?_⟩⟩
 unfold gs;split
 .rename_i hh;unfold ij at hh;cases e:xs[k]? with
  |none=>rw[e] at hh;cases hh
  |some x=>exact(cE.1 e).1
 .exact hk
def pL (a b:Ln):Bool:=decide (a=b)
def BR (xs ys:aao):Bool:=decide (ys.foldl (gs pL xs) 0=xs.length)
theorem KI (xs:aao):dM [bh xs]=aa (.int (xs.length:Nat)):=by
 show aa (aU ((xs.map bB).length:Nat))=_;rw[bT]
theorem HN (xs:aat):dM [qD xs]=aa (.int (xs.length:Nat)):=by
 show aa (aU ((xs.map bL).length:Nat))=_;rw[bT]
theorem We (xs ys:aao):Cj [bh xs,bh ys]=aa (.bool (BR xs ys)):=by
 refine kG rfl (bK rfl (by simp) (dW (λρ'=>∃ x,ρ'=[s0 (bh xs),s0 (bh ys),s0 (.int (ys.foldl (gs pL xs) 0:Nat)),x]) ((XB (λk x=>[s0 (bh xs),s0 (bh ys),s0 (.int (k:Nat)),x]) (gp (lV rfl)) ?_).mono λo ⟨x,e⟩=>⟨_,e,x,rfl⟩) ?_))
 .intro k y x _ hk;refine⟨[s0 (bh xs),s0 (bh ys),s0 (.int (k:Nat)),s0 (bB y)],rfl,?_⟩;have t:bV .s (fT (br (ai tu az (aK dM (aj ao)))) (br (ai cy (ai aq ao az) bg))) [s0 (bh xs),s0 (bh ys),s0 (.int (k:Nat)),s0 (bB y)]=aa (ij pL xs k y):=by
   by_cases q:k<xs.length
   .have e:=eE q;have e2:ij pL xs k y=decide (xs[k]=y):=by unfold ij;rw[e];rfl
    rw[e2];refine(tL (dJ (aL rfl (aW rfl (KI xs)) ?_)) λ_=>dJ (aL (aL rfl rfl (pS (by rw[eD,e];rfl))) rfl (j3 _ _))).trans (by rw[uK])
    show aa (jK (decide ((k:Int)<(xs.length:Int))))=_;rw[decide_eq_true ()]
   .have e2:ij pL xs k y=ah:=by unfold ij;rw[OZ ()]
    rw[e2];refine tL (x:=ah) (y:=ah) (dJ (aL rfl (aW rfl (KI xs)) ?_)) λh=>by cases h
    show aa (jK (decide ((k:Int)<(xs.length:Int))))=_;rw[decide_eq_false ()]
  unfold gs;cases hh:ij pL xs k y with
  |true=>
   rw[hh] at t;exact fV t (rD rfl (by simp) ⟨_,rfl⟩)
  |false=>
   rw[hh] at t;exact iY t (gW ⟨_,rfl⟩)
 rintro _ ⟨x,rfl⟩;exact cB (aL rfl (aW rfl (KI xs)) (Ft _ _)) rfl
def pA (a b:cO):Bool:=decide (a.1=b.1)&&BR a.2 b.2
theorem Oc {a b:cO}(h:oJ a b):pA a b=af:=by
 unfold pA BR;rw[decide_eq_true h.1,decide_eq_true (SJ (cZ _) (Sb.of_sub (p:=pL) (λx=>decide_eq_true rfl) h.2))]
 rfl
theorem h8 (a b:cO):LM [bL a,bL b]=aa (.bool (pA a b)):=by
 refine kG rfl ?_;have t:bV .s (tm (pE (br (ff (eT "tuple") ao))) (tm (br (ai ib (aK dM (aj ao)) (kc 2))) (br (ai ib (ai aq ao bq) (ai aq au bq))))) [s0 (bL a),s0 (bL b)]=aa (!decide (a.1=b.1)):=
  (CG (x:=ah) rfl λ_=>(CG (x:=ah) rfl λ_=>dJ (aL (aL rfl rfl rfl) (aL rfl rfl rfl) (Ll _ _))).trans (by rw[Kd])).trans (by rw[Kd])
 by_cases q:a.1=b.1
 .rw[decide_eq_true q] at t;refine fI (pI t) (cB ?_ rfl);have e:pA a b=BR a.2 b.2:=by unfold pA;rw[decide_eq_true q];rfl
  rw[e];exact(yF (x:=af) rfl λ_=>(yF (x:=af) rfl λ_=>aW (aR (aL rfl rfl rfl) (aR (aL rfl rfl rfl) rfl)) (We _ _)).trans (by rw[uK])).trans (by rw[uK])
 .rw[decide_eq_false q] at t;have e:pA a b=ah:=by unfold pA;rw[decide_eq_false q];rfl
  rw[e];exact oF (fV t (cB rfl ⟨_,rfl,rfl⟩))
theorem Wc {R Q:aat}(h:Emb R Q):Cw [qD R,qD Q]=aa (.bool af):=by
 refine kG rfl (fI (pI rfl) (bK rfl (by simp) (dW (λρ'=>∃ x,ρ'=[s0 (qD R),s0 (qD Q),s0 (.int (Q.foldl (gs pA R) 0:Nat)),x]) ((XB (λk x=>[s0 (qD R),s0 (qD Q),s0 (.int (k:Nat)),x]) (gp (eO rfl)) ?_).mono λo ⟨x,e⟩=>⟨_,e,x,rfl⟩) ?_)))
 .intro k y x _ hk;refine⟨[s0 (qD R),s0 (qD Q),s0 (.int (k:Nat)),s0 (bL y)],rfl,?_⟩;have t:bV .s (fT (br (ai tu az (aK dM (aj ao)))) (br (aK LM (aM (ai aq ao az) (aj bg))))) [s0 (qD R),s0 (qD Q),s0 (.int (k:Nat)),s0 (bL y)]=aa (ij pA R k y):=by
   by_cases q:k<R.length
   .have e:=eE q;have e2:ij pA R k y=pA R[k] y:=by unfold ij;rw[e]
    rw[e2];refine(tL (dJ (aL rfl (aW rfl (HN R)) ?_)) λ_=>dJ (aW (aR (aL rfl rfl (pS (by rw[eD,e];rfl))) (aR rfl rfl)) (h8 _ _))).trans (by rw[uK])
    show aa (jK (decide ((k:Int)<(R.length:Int))))=_;rw[decide_eq_true ()]
   .have e2:ij pA R k y=ah:=by unfold ij;rw[OZ ()]
    rw[e2];refine tL (x:=ah) (y:=ah) (dJ (aL rfl (aW rfl (HN R)) ?_)) λh=>by cases h
    show aa (jK (decide ((k:Int)<(R.length:Int))))=_;rw[decide_eq_false ()]
  unfold gs;cases hh:ij pA R k y with
  |true=>
   rw[hh] at t;exact fV t (rD rfl (by simp) ⟨_,rfl⟩)
  |false=>
   rw[hh] at t;exact iY t (gW ⟨_,rfl⟩)
 rintro _ ⟨x,rfl⟩;obtain⟨Q',s,p⟩:=h;refine cB ((aL rfl (aW rfl (HN R)) (Ft _ _)).trans ?_) rfl;rw[SJ (cZ _) (Sb.of_emb (λa b h=>Oc h) s p),decide_eq_true rfl]
def X (T:aA->Prop)(f:EF)(r:be):Prop:=∃ d,f r=aa d/\T d
def Ku (d:aA):Prop:=∃ i:Int,d=.int i
def RD (lo hi:Nat)(d:aA):Prop:=∃ k:Nat,lo<=k/\k<hi/\d=.int k
abbrev XI:EF->be->Prop:=X Ku
abbrev XN (lo hi:Nat):EF->be->Prop:=X (RD lo hi)
section
variable {r:be}{lo hi:Nat}{T:aA->Prop}
theorem X.imp {S:aA->Prop}(h:X T f r)(k:∀ d,T d->S d):X S f r:=let ⟨d,e,t⟩:=h;⟨d,e,k d t⟩
theorem XN.i (h:XN lo hi f r):XI f r:=h.imp λ_ ⟨k,_,_,e⟩=>⟨k,e⟩
theorem Kr {i:Int}:XI (eC (.int i)) r:=⟨_,rfl,i,rfl⟩
theorem Rb (h:XI f r)(k:XI g r):XI (ai lJ f g) r:=by
 obtain⟨_,e,i,rfl⟩:=h;obtain⟨_,e2,j,rfl⟩:=k;exact⟨_,aL e e2 rfl,_,rfl⟩
theorem xN {i:Int}(k:Nat)(e:i=k:=by rfl):XN k (k+1) (eC (.int i)) r:=⟨_,rfl,k,bA _,FR _,by rw[e]⟩
theorem gH {i:Int}(n:Nat)(h:XI f r)(e:i=n:=by rfl)(q:0<n:=by decide):XN 0 n (ai cR f (eC (.int i))) r:=by
 obtain⟨_,e1,j,rfl⟩:=h;subst e;obtain⟨k,ek⟩:=PP (pR j (show(0:Int)<n by lia)).1
 have:=(pR j (show(0:Int)<n by lia)).2
 exact⟨_,aL e1 rfl (nY j n q),k,cZ _,(),by rw[ek]⟩
theorem kN {i:Int}(h:XI f r)(q:0<i/\i<1073741824:=by decide):XI (ai cX f (eC (.int i))) r:=by
 obtain⟨_,e1,j,rfl⟩:=h;refine⟨.int (j/i),aL e1 rfl ?_,_,rfl⟩;show(if 0<i/\i<1073741824 then aa (aU (j/i)) else ab)=_
 rw[if_pos q]
theorem Vz (h:XI f r)(k:XN lo hi g r)(q:0<lo:=by decide)(q2:hi<=1073741824:=by decide):XI (ai cX f g) r:=by
 obtain⟨_,e1,j,rfl⟩:=h;obtain⟨_,e2,n,h1,h2,rfl⟩:=k;refine⟨.int (j/n),aL e1 e2 ?_,_,rfl⟩;show(if 0<(n:Int)/\(n:Int)<1073741824 then aa (aU (j/n)) else ab)=_
 rw[if_pos ()]
theorem CF {Tm Ty:Nat}(h:XN lo hi f r)(k:XN Tm Ty g r):XN (lo+Tm) (hi+Ty-1) (ai cF f g) r:=by
 obtain⟨_,e,i,a1,a2,rfl⟩:=h;obtain⟨_,e2,j,b1,b2,rfl⟩:=k;exact⟨_,aL e e2 rfl,i+j,(),(),rfl⟩
theorem Se {Tm Ty:Nat}(h:XN lo hi f r)(k:XN Tm Ty g r)(q:hi<=4294967296:=by decide):XN (lo*Tm) (hi*Ty) (ai gG f g) r:=by
 obtain⟨_,e,i,a1,a2,rfl⟩:=h;obtain⟨_,e2,j,b1,b2,rfl⟩:=k;exact⟨_,aL e e2 (sV ()),i*j,OL a1 b1,Nat.mul_lt_mul'' a2 b2,by rw[PN]⟩
end
theorem Gu {T:aA->Prop}{i:Nat}{G:SF}{P:Out->Prop}(h:X T f (vS Y))(hl:i<Y.length)(k:∀ d,T d->Goes G (Y.set i (aa (n,d))) P):Goes (aN (fM i n .s f) G) Y P:=by
 obtain⟨d,e,t⟩:=h;exact bK e hl (k d t)
theorem Mh:((10:Int)^61)=((10^61:Nat):Int):=by rw[0]
theorem g8(hl:ns.length<=63):∃ cs:aaj,LX [cn ns,.int (85:Nat)]=aa (cn cs)/\cs.length=85:=by
 have:∃ d,LX [cn ns,.int (85:Nat)]=aa d/\∃ cs:aaj,d=cn cs/\cs.length=85:=by
  refine iM rfl ?_;obtain⟨ys,ey,hy,_⟩:=Wu aU ns ab (aa ((85:Nat):Int));have e0:=nF (f:=bR 0) (lo:=oN) (hi:=oS au) (Y:=vS [s0 (cn ns),s0 (.int (85:Nat)),ab,ab]) rfl rfl rfl;rw[ey] at e0;have lc:=iB (cap:=[ab]) (T:=gB 0) (t:=dZ) (f:=ai cR ao (ai qL (kc 10) (kc 61))) (λ_=>af) (λy=>.int (y%((10^61:Nat):Int))) (eO e0) () λy _=>⟨[aa (.int y)],rfl,rfl,λ_=>aL rfl (aL rfl rfl (Em nofun)) (by rw[Mh];exact nY y _ nofun)⟩
  rw[uG.2 λ_ _=>rfl,show(ys.map λy=>aU (y%((10^61:Nat):Int)))=(ys.map λy=>y%((10^61:Nat):Int)).map aU by rw[dF];rfl] at lc
  generalize hcs:(ys.map λy=>y%((10^61:Nat):Int))=cs at lc
  have hc:cs.length<=63:=by rw[<-hcs,bT];lia
  refine bK lc (by simp) ?_
  have hs:zO [cn cs]=aa (.int cs.sum):=by
   show((kC (cs.map aU)).bind _)=_;rw[JZ]
   rfl
  refine CH (aL rfl (aL (aW rfl hs) rfl (nY _ 2147483647 nofun)) rfl) rfl (by simp) ?_
  let J:Nat->aQ->Prop:=λn Y=>∃ (cs:aaj) (x:Int),Y=[s0 (cn ns),s0 (.int (85:Nat)),aa (1,cn cs),s0 (.int x)]/\x.natAbs<2^64/\cs.length<=85/\85-cs.length<=n
  refine dW (λρ'=>∃ (cs:aaj) (x:Int),ρ'=[s0 (cn ns),s0 (.int (85:Nat)),aa (1,cn cs),s0 (.int x)]/\cs.length=85) (HJ J ?_ 1000 85 _ () ⟨cs,_,rfl,(),(),()⟩) ?_
  .rintro n _ ⟨cs,x,rfl,hx,h1,h2⟩;have el:dM [cn cs]=aa (.int (cs.length:Nat)):=by
    show aa (aU ((cs.map aU).length:Nat))=_;rw[bT]
   have t:bV .a (br (ai tu (aK dM (aj az)) au)) [s0 (cn ns),s0 (.int (85:Nat)),aa (1,cn cs),s0 (.int x)]=aa (decide ((cs.length:Int)<(85:Nat))):=
    dJ (aL (aW rfl el) rfl rfl)
   by_cases q:cs.length<85
   .rw[decide_eq_true ()] at t
    refine .inr ⟨t,?_⟩;have md:=pR (x*x+48271*(cs.length:Nat)+11) (show(0:Int)<2147483647 by decide)
    refine CH (aL (aL (aL (aL rfl rfl (sV hx)) (aL rfl (aW rfl el) (sV nofun)) rfl) rfl rfl) rfl (nY _ 2147483647 nofun)) rfl (by simp) ?_
    generalize(x*x+48271*(cs.length:Nat)+11)%2147483647=y at md;refine oE rfl rfl (by simp;lia) ⟨_,n-1,rfl,(),cs++[y],y,?_,(),by simp;lia,by simp;lia⟩
    rw[show cn (cs++[y])=.list (cs.map aU++[.int y]) by simp[cn]]
    rfl
   .rw[decide_eq_false ()] at t
    exact .inl ⟨t,_,rfl,cs,x,rfl,()⟩
  rintro _ ⟨cs,x,rfl,h⟩;exact⟨_,rfl,_,rfl,cs,rfl,h⟩
 obtain⟨d,e,cs,rfl,h⟩:=this;exact⟨cs,e,h⟩
def LET:aD:="abcdefghijklmnopqrstuvwxyz"
theorem BY:∀ j<26,LET.cps.toList[j]?=aa (97+j)/\bX (.str ⟨#[97+j]⟩)=af:=by rw[0]
theorem Nh:∀ j<36,∃ c,SIGNS.cps.toList[j]?=aa c/\bX (.str ⟨#[c]⟩)=af:=by rw[0]
theorem HR{c:Nat}(hz:z.length<=1000)(h:z.cps.toList[j]?=aa c):aq (.str z) (.int j)=aa (gE c):=by
 show(if z.length<=sizeLine then(iw z.cps.toList (j:Int)).bind _ else ab)=_
 rw[if_pos (gY ()),pS h]
 rfl
def sg (c:Nat):aD:=⟨#[c]⟩
theorem Hf:∀ cs:aaq,(mC "" (cs.map sg)).cps.toList=cs
 |[]=>rfl
 |[c]=>rfl
 |c::d::cs=>by
  show((sg c).cps++("" : aD).cps++(mC "" ((d::cs).map sg)).cps).toList=_;rw[Array.toList_append,Array.toList_append,(Hf (d::cs))]
  rfl
theorem Fi:∀ cs:aaq,qN (cs.map gE)=aa (cs.map sg)
 |[]=>rfl
 |c::cs=>by
  have:=Fi cs;show(qN (cs.map gE)).bind _=_;rw[this]
  rfl
theorem Xo {cs:aaq}(hl:cs.length<=1000):EZ (.str "") (.list (cs.map gE))=aa (.str (mC "" (cs.map sg))):=by
 show((qN (cs.map gE)).bind _)=_;rw[Fi,bQ,if_pos ?_];have:((cs.map sg).map (·.length)).sum=cs.length:=by
  clear hl;induction cs with
  |nil=>rfl
  |cons c cs ih=>rw[dB,dB,List.sum_cons,ih,eX];show 1+_=_;lia
 rw[this,show(("" : aD).length)=0 from rfl]
 lia
def nmS (cb:aaq)(n s:Nat):aD:=mC "" ((cb.take n++s::cb.drop (n+1)).map sg)
theorem Wf {cb:aaq}{s s':Nat}(h:nmS cb n s=nmS cb n s'):s=s':=by
 have:=congrArg (λz:aD=>z.cps.toList) h
 simp only[nmS,Hf] at this;exact List.head_eq_of_cons_eq (List.append_cancel_left this)
theorem Uw:∀ cs:aaq,(∀ c∈cs,bX (.str (sg c))=af)->bX (.str (mC "" (cs.map sg)))=af:=λcs h=>JU (by rw[0]) λb m=>by
 obtain⟨c,mc,rfl⟩:=bG.1 m;exact h c mc
def ym (k:Nat):aD:="n" ++ (toString (1+(k:Int)):String)
theorem ML:(∀ k:Nat,k<8->((1+(k:Int)).natAbs.log2<1920/\bX (.str (toString (1+(k:Int)):String))=af)/\bX (.str (ym k))=af/\("n" : aD).length+((toString (1+(k:Int)):String):aD).length<=1000)/\ym 0≠ym 5:=by rw[0]
theorem Nj (k:Nat)(h:k<8){Y:be}(e:Y[0]?.join=aa (.int k)):ai cF (eC (.str "n")) (aK zM (aj (ai cF bf ao))) Y=aa (.str (ym k)):=by
 obtain⟨h1,h2,h3⟩:=ML.1 k h;refine aL rfl (aW (aR (aL rfl e rfl) rfl) (if_pos h1)) ?_;show(if _ then _ else ab)=_
 rw[if_pos (gY ())]
 rfl
theorem VS {T:Nat->Prop}:∀ {ys:aag},(∀ y∈ys,∃ c,y=gE c/\T c)->∃ cs:aaq,ys=cs.map gE/\∀ c∈cs,T c
 |[],_=>⟨[],rfl,λc m=>by simp at m⟩
 |y::ys,h=>by
  obtain⟨c,rfl,hc⟩:=h y bD;obtain⟨cs,rfl,hs⟩:=VS λy m=>h y (bI _ m)
  exact⟨c::cs,rfl,λd m=>by
   rcases cI.1 m with rfl|m
   .exact hc
   .exact hs d m⟩
theorem T5 (c:Int):∃ zs:aal,LN [.int c]=aa (lZ zs)/\zs.length=8/\(∀ z∈zs,bX (.str z)=af)/\zs.getD 0 "" ≠ zs.getD 5 "":=by
 have:∃ d,LN [.int c]=aa d/\∃ zs:aal,d=lZ zs/\zs.length=8/\(∀ z∈zs,bX (.str z)=af)/\zs.getD 0 "" ≠ zs.getD 5 "":=by
  refine iM rfl (bK rfl (by simp) (bK (d:=.str SIGNS) (aL rfl rfl (by
   show(if LET.length+("0123456789" : aD).length<=sizeLine then aa (dE (LET++("0123456789" : aD))) else ab)=_
   rfl)) (by simp) ?_))
  have t:bV .s (br (ai cy (ai cR ao (kc 5)) (kc 4))) [s0 (.int c),s0 (.str LET),s0 (.str SIGNS),ab,ab,ab,ab,ab,ab]=aa (decide (c%(5:Nat)=4)):=
   dJ (aL (aL rfl rfl (nY c 5 nofun)) rfl (rC _ _))
  by_cases q:c%(5:Nat)=4
  .rw[decide_eq_true q] at t;refine oF (fV t (cB (iB (cap:=[ab]) (fi:=oq (aj (kc 8))) (T:=gB 0) (t:=dZ) (Y:=vS [s0 (.int c),s0 (.str LET),s0 (.str SIGNS),ab,ab,ab,ab,ab,ab]) (λ_=>af) (λk=>.str (ym k)) (vC rfl nofun) (by simp) λk mk=>⟨[aa (.int k)],rfl,rfl,λ_=>Nj k (eQ.1 mk) rfl⟩) ⟨_,rfl,_,rfl,(bZ 8).map ym,rfl,by simp,λz m=>?_,ML.2⟩))
   obtain⟨k,mk,rfl⟩:=bG.1 m;exact(ML.1 k (eQ.1 mk)).2.1
  .rw[decide_eq_false q] at t;refine fI (pI t) (Gu (CF (xN 1) (gH 12 (kN ⟨_,rfl,_,rfl⟩))) (by simp) ?_)
   rintro _ ⟨n,n1,n13,rfl⟩;have xa:X (RD 0 n) (ai cR (ai cX ao (kc 60)) bg) (vS [s0 (.int c),s0 (.str LET),s0 (.str SIGNS),s0 (.int n),ab,ab,ab,ab,ab]):=by
    obtain⟨k,ek⟩:=PP (pR (c/(60:Nat)) (show(0:Int)<n by lia)).1
    have:=(pR (c/(60:Nat)) (show(0:Int)<n by lia)).2
    exact⟨_,aL (aL rfl rfl (zL c 60 nofun)) rfl (nY _ n ()),k,cZ _,(),by rw[ek]⟩
   refine Gu xa (by simp) ?_
   rintro _ ⟨at_,_,ha,rfl⟩;obtain⟨ys,ey,hy⟩:=Lm (cap:=[ab,aa 2,aa 0]) (fi:=oq (aj bg)) (T:=gB 0) (t:=dZ) (f:=ai aq au (ai cR (ai cX az (ai gG (kc 720) (ai cF ao bf))) (kc 36))) (Y:=vS [s0 (.int c),s0 (.str LET),s0 (.str SIGNS),s0 (.int n),s0 (.int at_),ab,ab,ab,ab]) (λ_ y=>∃ c,y=gE c/\bX (.str (sg c))=af) (vC rfl ()) (by simp;lia) λd m=>by
    obtain⟨k,mk,rfl⟩:=bG.1 m;have hk:=eQ.1 mk;obtain⟨_,e,j,_,hj,rfl⟩:=gH (f:=ai cX az (ai gG (kc 720) (ai cF ao bf))) (r:=[aa (.int k),aa (.str SIGNS),aa (.int c)]) 36 (Vz (lo:=720*1) (hi:=721*15) ⟨_,rfl,_,rfl⟩ (Se (xN 720) ⟨_,aL rfl rfl rfl,k+1,(),(),rfl⟩))
    obtain⟨ch,h1,h2⟩:=Nh j hj;exact⟨[aa (.int k),aa (.str SIGNS),aa (.int c)],_,rfl,rfl,aL rfl e (HR (by rw[0]) h1),ch,rfl,h2⟩
   have yl:ys.length=n:=by rw[<-iU hy,bT,AO]
   obtain⟨cs,rfl,hc⟩:=VS λy m=>by
    obtain⟨_,_,h⟩:=L2.Paired.mem_right hy y m;exact h
   rw[bT] at yl;refine bK ey (by simp) ?_
   have xl:∀ {r:be} {f:EF},XI f r->r[1]?.join=aa (.str LET)->∃ j,j<26/\ai aq au (ai cR f (kc 26)) r=aa (gE (97+j)):=λh e=>by
    obtain⟨_,e2,j,_,hj,rfl⟩:=gH 26 h;exact⟨j,hj,aL e e2 (HR (by rw[0]) (BY j hj).1)⟩
   obtain⟨j0,hj0,e0⟩:=xl (r:=vS [s0 (.int c),s0 (.str LET),s0 (.str SIGNS),s0 (.int n),s0 (.int at_),aa (1,.list (cs.map gE)),ab,ab,ab]) (f:=ai cX ao (kc 7919)) (kN ⟨_,rfl,_,rfl⟩) rfl;refine dW (λρ'=>ρ'=[s0 (.int c),s0 (.str LET),s0 (.str SIGNS),s0 (.int n),s0 (.int at_),aa (1,.list ((cs.set 0 (97+j0)).map gE)),ab,ab,ab]) (HU e0 rfl rfl (Fb (by rw[bT,yl];lia)) ⟨_,rfl,?_⟩) ?_
   .rw[<-List.map_set]
    rfl
   rintro _ rfl;have hcb:∀ x∈cs.set 0 (97+j0),bX (.str (sg x))=af:=λx m=>by
    rcases List.mem_or_eq_of_mem_set m with m|rfl
    .exact hc x m
    .exact(BY j0 hj0).2
   have hl:(cs.set 0 (97+j0)).length=n:=by rw[wW];exact yl
   generalize cs.set 0 (97+j0)=cb at hcb hl;refine iA (bK rfl (show 6<9 by decide) ?_)
   let tj:Nat->Nat:=λk=>((c/(31:Nat)+3*k)%26).toNat
   let nm:Nat->aD:=λk=>nmS cb at_ (97+tj k)
   have es:∀ k:Nat,tj k<26:=λk=>by
    lia
   let B:aaq->Nat->L2.Slot->L2.Slot->aQ:=λzs k x7 x8=>[s0 (.int c),s0 (.str LET),s0 (.str SIGNS),s0 (.int n),s0 (.int at_),s0 (.list (cb.map gE)),aa (1,lZ ((bZ k).map nm)),x7,x8]
   refine dW (λρ'=>∃ x7 x8,ρ'=B [] 8 x7 x8) ?_ ?_
   .refine HW (λk ρ'=>∃ x7 x8,ρ'=B [] k x7 x8) (gp (vC rfl nofun)) ⟨ab,ab,rfl⟩ ?_ λρ' h=>⟨_,rfl,h⟩
    rintro k _ hk ⟨x7,x8,rfl⟩;refine⟨B [] k (s0 (.int k)) x8,rfl,bK (d:=gE (97+tj k)) ?_ (by simp[B]) ?_⟩
    .refine aL rfl (aL (aL (aL rfl rfl (zL c 31 nofun)) (aL rfl rfl (sV nofun)) rfl) rfl ((nY _ 26 nofun).trans ?_)) (HR (by rw[0]) (BY _ (es k)).1)
     have:=pR (c/(31:Nat)+3*k) (show(0:Int)<26 by decide)
     show aa (aU ((c/(31:Nat)+3*k)%26))=aa (aU (((c/(31:Nat)+3*k)%26).toNat:Nat));rw[Int.toNat_of_nonneg this.1]
    .have e1:=nF (f:=bR 5) (lo:=oN) (hi:=oS bz) (Y:=vS (B [] k (s0 (.int k)) (s0 (gE (97+tj k))))) rfl rfl rfl;rw[xW (by simp;lia),<-wU] at e1
     have e2:=nF (f:=bR 5) (lo:=oS (ai cF bz bf)) (hi:=oN) (Y:=vS (B [] k (s0 (.int k)) (s0 (gE (97+tj k))))) (l:=aa ((at_+1:Nat):Int)) rfl rfl rfl;rw[DL _ (by simp;lia),<-wV] at e2
     have e3:ai lA (ai lA (fU gq oN (oS bz)) (dC (aj va))) (fU gq (oS (ai cF bz bf)) oN) (vS (B [] k (s0 (.int k)) (s0 (gE (97+tj k)))))=aa (.list ((cb.take at_++(97+tj k)::cb.drop (at_+1)).map gE)):=by
      refine aL (aL e1 (oC rfl) (if_pos (gY (by simp;lia)))) e2 ((if_pos (gY (by simp;lia))).trans ?_)
      simp
     refine oE (aL rfl e3 (Xo (by simp;lia))) rfl (by simp;lia) ⟨_,.inl rfl,s0 (.int k),s0 (gE (97+tj k)),?_⟩
     rw[show B [] (k+1) (s0 (.int k)) (s0 (gE (97+tj k)))=[s0 (.int c),s0 (.str LET),s0 (.str SIGNS),s0 (.int n),s0 (.int at_),s0 (.list (cb.map gE)),aa (1,.list (((bZ k).map nm).map dE++[.str (nm k)])),s0 (.int k),s0 (gE (97+tj k))] by simp[B,List.range_succ]]
     rfl
   rintro _ ⟨x7,x8,rfl⟩;refine⟨_,rfl,_,rfl,(bZ 8).map nm,rfl,by simp,λz m=>?_,λh=>?_⟩
   .obtain⟨k,_,rfl⟩:=bG.1 m;refine Uw _ λx mx=>?_
    rcases jM.1 mx with mx|mx
    .exact hcb x (List.mem_of_mem_take mx)
    .rcases cI.1 mx with rfl|mx
     .exact(BY _ (es k)).2
     .exact hcb x (List.mem_of_mem_drop mx)
   .have:=Wf (show nm 0=nm 5 from h)
    lia
 obtain⟨d,e,zs,rfl,h⟩:=this;exact⟨zs,e,h⟩
theorem SA:qL (.int 10) (.int 60)=aa (.int ((10^60:Nat):Int)):=(Em nofun).trans (by rw[show((10:Int)^60)=((10^60:Nat):Int) by rw[0]])
theorem Yf (c:Int):∃ is:aaj,LY [.int c]=aa (cn is)/\is.length=4:=by
 have:∃ d,LY [.int c]=aa d/\∃ is:aaj,d=cn is/\is.length=4:=by
  refine iM rfl (bK (aL rfl (aL rfl rfl SA) (nY c _ nofun)) (by simp) ?_)
  obtain⟨_,e2,i2,rfl⟩:=Rb (f:=ai cR (ai cX ao (kc 3)) (kc 7)) (r:=vS [s0 (.int c),s0 (.int (c%((10^60:Nat):Int)))]) (gH 7 (kN ⟨_,rfl,_,rfl⟩)).i Kr;exact cB (d:=cn [c%((10^60:Nat):Int),0-c%((10^60:Nat):Int),i2,((10^60:Nat):Int)-1]) (oC (aR rfl (aR rfl (aR e2 (aR (aL (aL rfl rfl SA) rfl rfl) rfl))))) ⟨_,rfl,_,rfl,rfl⟩
 obtain⟨d,e,is,rfl,h⟩:=this;exact⟨is,e,h⟩
abbrev lr (t:aD)(w:Nat):aA:=.tuple [.str t,.int w]
theorem Vu (c:Int)(hz:zs.length=8)(hl:∀ z∈zs,bX (.str z)=af)(hd:zs.getD 0 "" ≠ zs.getD 5 "") :
  ∃ t0 t1 w0 w1,LS [.int c,lZ zs]=aa (.list [lr t0 w0,lr t1 w1])/\t0≠t1/\bX (.str t0)=af/\bX (.str t1)=af/\(1<=w0/\w0<=6)/\1<=w1/\w1<=6:=by
 have:∃ d,LS [.int c,lZ zs]=aa d/\∃ t0 t1 w0 w1,d=.list [lr t0 w0,lr t1 w1]/\t0≠t1/\bX (.str t0)=af/\bX (.str t1)=af/\(1<=w0/\w0<=6)/\1<=w1/\w1<=6:=by
  refine iM rfl ?_
  let R:L2.Slot->L2.Slot->aQ:=λa b=>[s0 (.int c),s0 (lZ zs),a,b]
  obtain⟨_,e1,w0,a0,b0,rfl⟩:=CF (r:=vS (R ab ab)) (xN 1) (gH (f:=bR 0) 3 ⟨_,rfl,_,rfl⟩);obtain⟨_,e2,w1,a1,b1,rfl⟩:=CF (r:=vS (R ab ab)) (xN 1) (gH (f:=ai cX ao (kc 3)) 3 (kN ⟨_,rfl,_,rfl⟩));refine bK (oC (aR e1 (aR e2 rfl))) (by simp) (dW (λρ'=>∃ w0 w1:Nat,(1<=w0/\w0<=6)/\(1<=w1/\w1<=6)/\ρ'=R (aa (1,.list [.int w0,.int w1])) ab) ?_ ?_)
  .obtain⟨_,e3,k3,_,_,rfl⟩:=gH (f:=ai cX ao (kc 9)) (r:=vS (R (aa (1,.list [.int w0,.int w1])) ab)) 8 (kN ⟨_,rfl,_,rfl⟩);refine qR (dJ (aL e3 rfl (rC _ _))) ?_;split
   .obtain⟨_,e4,w4,a4,b4,rfl⟩:=CF (r:=vS (R (aa (1,.list [.int w0,.int w1])) ab)) (xN 1) (gH (f:=ai cX ao (kc 72)) 6 (kN ⟨_,rfl,_,rfl⟩));obtain⟨_,e5,k5,_,h5,rfl⟩:=gH (f:=bR 0) (r:=vS (R (aa (1,.list [.int w0,.int w1])) ab)) 2 ⟨_,rfl,_,rfl⟩;refine HU e4 rfl e5 (Fb (show k5<2 from h5)) ?_
    rcases(show k5=0\/k5=1 by lia) with rfl|rfl
    .exact⟨_,rfl,w4,w1,(),(),rfl⟩
    .exact⟨_,rfl,w0,w4,(),(),rfl⟩
   .exact gW ⟨_,rfl,w0,w1,(),(),rfl⟩
  rintro _ ⟨w0,w1,h0,h1,rfl⟩;refine iA (bK rfl (show 3<4 by decide) (dW (λρ'=>∃ t0 t1:aD,t0≠t1/\bX (.str t0)=af/\bX (.str t1)=af/\ρ'=R (s0 (.list [.int w0,.int w1])) (s0 (lZ [t0,t1]))) ?_ ?_))
  .obtain⟨_,e3,k3,_,_,rfl⟩:=gH (f:=ai cX ao (kc 432)) (r:=vS (R (s0 (.list [.int w0,.int w1])) (s0 (lZ ["road","r"])))) 2 (kN ⟨_,rfl,_,rfl⟩);refine qR (dJ (aL e3 rfl (rC _ _))) ?_;split
   .have ix:∀ {k:Nat},k<8->aq (lZ zs) (.int k)=aa (.str (zs.getD k "")):=λh=>mT (getD_some ("" : aD) ())
    refine rD (oC (aR (aL rfl rfl (ix nofun)) (aR (aL rfl rfl (ix nofun)) rfl))) (show 3<4 by decide) ⟨_,rfl,_,_,hd,hl _ (getD_mem _ ()),hl _ (getD_mem _ ()),rfl⟩
   .exact gW ⟨_,rfl,_,_,by rw[0],by rw[0],by rw[0],rfl⟩
  rintro _ ⟨t0,t1,h2,h3,h4,rfl⟩;exact cB rfl ⟨_,rfl,t0,t1,w0,w1,rfl,h2,h3,h4,h0,h1⟩
 obtain⟨d,e,t0,t1,w0,w1,rfl,h⟩:=this;exact⟨t0,t1,w0,w1,e,h⟩
theorem Ca:∀ zs:aal,lL (zs.map dE)=aa (zs.map fR)
 |[]=>rfl
 |z::zs=>by
  have:=Ca zs;show((cC (.str z)).bind λk=>(lL (zs.map dE)).bind _)=_
  rw[this]
  rfl
theorem Yt(hj:zs[j]?=aa z):∃ i:Nat,i<=j/\vK (lZ zs) (.str z)=aa (.int i):=by
 cases e:kf (zs.map fR) (.inr z) with
 |none=>
  have:=Jh.1 e (.inr z) (List.mem_map_of_mem (eW hj));simp at this
 |some i=>
  refine⟨i,Nat.le_of_not_lt λh=>(JV e).2 j h (by rw[eD,hj];rfl),?_⟩
  show xH (zs.map dE) (.str z)=_;unfold xH;rw[Ca,bQ];show(Option.bind (kf _ _) _)=_;rw[e]
  rfl
def qI (t0 t1:aD)(w0 w1:Nat)(l:Ln):Prop:=((l.1=t0/\l.2.length=w0)\/(l.1=t1/\l.2.length=w1))/\∀ k∈l.2,eY k
theorem X3 {t0 t1:aD}{w0 w1:Nat}(L:qI t0 t1 w0 w1 l)(h6:l.2.length<=6)(hz:zs.length=8)(hl:∀ z∈zs,bX (.str z)=af) :
  ∃ l',LQ [bB l,lZ zs]=aa (bB l')/\qI t0 t1 w0 w1 l':=by
 have:∃ d,LQ [bB l,lZ zs]=aa d/\∃ l',d=bB l'/\qI t0 t1 w0 w1 l':=by
  refine iM rfl (bK rfl (by simp) ?_)
  let B:aam->L2.Slot->aQ:=λks x=>[s0 (bB l),s0 (lZ zs),aa (1,lK ks),x]
  refine dW (λρ'=>∃ ks x,ρ'=B ks x/\ks.length=l.2.length/\∀ k∈ks,eY k) ?_ ?_
  .refine qX (λi ρ'=>∃ ks x,ρ'=B ks x/\ks.length=i/\∀ k∈ks,eY k) (gp (lV (aL rfl rfl rfl))) ⟨[],ab,rfl,rfl,λk m=>by simp at m⟩ ?_ λρ' h=>⟨_,rfl,by simpa using h⟩
   rintro i d _ hd ⟨ks,x,rfl,hi,hy⟩;rw[eD] at hd;obtain⟨k,hk,rfl⟩:=fG.1 hd;have lk:=L.2 k (eW hk);have hil:=(cE.1 hk).1;refine⟨B ks (s0 (kD k)),rfl,Goes.mono (P:=λo=>∃ k',eY k'/\o=.nx (B (ks++[k']) (s0 (kD k')))) ?_ λo ⟨k',h,e⟩=>⟨_,.inl e,ks++[k'],_,rfl,by simp[hi],λq m=>by
    rcases jM.1 m with m|m
    .exact hy q m
    .rw[cG.1 m];exact h⟩⟩
   have app:∀ k',eY k'->Goes (jR 2 .s bg) (B ks (s0 (kD k'))) λo=>∃ k',eY k'/\o=.nx (B (ks++[k']) (s0 (kD k'))):=λk' h=>
    oE rfl rfl (by simp;lia) ⟨k',h,by
     rw[show B (ks++[k']) (s0 (kD k'))=[s0 (bB l),s0 (lZ zs),aa (1,.list (ks.map kD++[kD k'])),s0 (kD k')] by simp[B]]
     rfl⟩
   refine dW (λρ'=>∃ k',eY k'/\ρ'=B ks (s0 (kD k'))) ?_ λρ' ⟨k',h,e⟩=>e ▸ app k' h
   have sl:=nF (f:=bR 1) (lo:=oS bf) (hi:=oS (kc 4)) (Y:=vS (B ks (s0 (kD k)))) rfl rfl rfl;have ey:cutD (zs.map dE) (aa 1) (aa 4)=((zs.drop 1).take 3).map dE:=by
    unfold cutD;rw[show(aa (1:Int))=aa ((1:Nat):Int) from rfl,show(aa (4:Int))=aa ((4:Nat):Int) from rfl,HT.Af4,HT.Af4,bT,hz,wU,wV]
    rfl
   rw[ey] at sl;generalize hyd:(zs.drop 1).take 3=ys at sl;have hys:∀ z∈ys,∃ j,j<4/\zs[j]?=aa z:=by
    intro z m;rw[<-hyd] at m;obtain⟨j,hj⟩:=Ja.1 m;have h3:=(cE.1 hj).1;rw[mH] at h3;rw[Jf (),PB] at hj
    exact⟨1+j,(),hj⟩
   cases k with
   |inl i'=>exact iY rfl (gW ⟨_,rfl,.inl i',lk,rfl⟩)
   |inr z=>
    have t:bV .s (fT (br (ff (eT "str") bg)) (br (ai (gy ah) bg (fU au (oS bf) (oS (kc 4)))))) (B ks (s0 (.str z)))=aa (decide (z∈ys)):=
     (tL (x:=af) (y:=decide (z∈ys)) rfl λ_=>dJ (aL rfl sl ((IC ah ys z).trans (by simp)))).trans (by rw[uK])
    refine qR t ?_;by_cases q:z∈ys
    .rw[if_pos (decide_eq_true q)];obtain⟨j,hj,ej⟩:=hys z q;obtain⟨i',ui,e⟩:=Yt ej;refine rD (aL rfl (aL (aL rfl rfl e) rfl rfl) (mT (getD_some ("" : aD) ()))) (by simp[B]) ⟨_,rfl,.inr (zs.getD (i'+4) ""),hl _ (getD_mem _ ()),rfl⟩
    .rw[if_neg (by simp[q])]
     exact gW ⟨_,rfl,.inr z,lk,rfl⟩
  rintro _ ⟨ks,x,rfl,h1,h2⟩;refine iA (cB (iQ (aR (aL rfl rfl rfl) (aR (aW rfl rfl) rfl))) ⟨_,rfl,(l.1,ks),rfl,?_,h2⟩);rcases L.1 with⟨a,b⟩|⟨a,b⟩
  .exact .inl ⟨a,h1.trans b⟩
  .exact .inr ⟨a,h1.trans b⟩
 obtain⟨d,e,l',rfl,h⟩:=this;exact⟨l',e,h⟩
theorem IG {α:Type}{q:α->aA}{xs:List α}{a b:Nat}(h:b<=xs.length)(h2:a<=b):cutD (xs.map q) (aa (a:Int)) (aa (b:Int))=((xs.drop a).take (b-a)).map q:=by
 unfold cutD;rw[HT.Af4,HT.Af4,bT,AI h,AI (cQ h2 h),wU,wV]
theorem SD{Y:be}{i:Int}(h:f Y=aa (.int i)):oS f Y=aa (aa i):=by
 unfold oS;rw[h]
 rfl
theorem V6 (l:Ln):gQ (bB l)=af:=by
 show(af&&(iO (l.2.map kD)&&af))=af;rw[HY]
 rfl
theorem N4 {t0 t1:aD}{w0 w1:Nat}(x0:w0<=6)(hw1:w1<=6)(hz:zs.length=8)(hl:∀ z∈zs,bX (.str z)=af){gv:aaj}(hn:gv.length=4){own:aaj}(ho:7*n<=own.length)(h5:n<=5) :
  ∃ ls,LV [cn own,.int n,lZ zs,cn gv,.list [lr t0 w0,lr t1 w1]]=aa (bh ls)/\ls.length=n/\∀ l∈ls,qI t0 t1 w0 w1 l:=by
 have:∃ d,LV [cn own,.int n,lZ zs,cn gv,.list [lr t0 w0,lr t1 w1]]=aa d/\∃ ls,d=bh ls/\ls.length=n/\∀ l∈ls,qI t0 t1 w0 w1 l:=by
  refine iM rfl (bK rfl (by simp) ?_)
  let B:aao->L2.Slot->L2.Slot->L2.Slot->L2.Slot->L2.Slot->L2.Slot->aQ:=λls x6 x7 x8 x9 fz dz=>[s0 (cn own),s0 (.int n),s0 (lZ zs),s0 (cn gv),s0 (.list [lr t0 w0,lr t1 w1]),aa (1,.list (ls.map bB)),x6,x7,x8,x9,fz,dz]
  let J:Nat->aQ->Prop:=λk ρ'=>∃ ls x6 x7 x8 x9 fz dz,ρ'=B ls x6 x7 x8 x9 fz dz/\ls.length=k/\∀ l∈ls,qI t0 t1 w0 w1 l
  refine dW (J n) ?_ ?_
  .refine HW J (gp (vC rfl ())) ⟨[],ab,ab,ab,ab,ab,ab,rfl,rfl,λl m=>by simp at m⟩ ?_ λρ' h=>⟨_,rfl,h⟩
   rintro k _ hk ⟨ls,x6,x7,x8,x9,fz,dz,rfl,aw,hls⟩;refine⟨B ls (s0 (.int k)) x7 x8 x9 fz dz,rfl,?_⟩;have e7:fU ao (oS (ai gG (kc 7) ik)) (oS (ai cF (ai gG (kc 7) ik) (kc 7))) (vS (B ls (s0 (.int k)) x7 x8 x9 fz dz))=aa (cn ((own.drop (7*k)).take 7)):=by
    have m7:gG (.int 7) (.int k)=aa (.int ((7*k:Nat):Int)):=(sV nofun).trans (by rw[PN];rfl)
    have:=nF (f:=bR 0) (lo:=oS (ai gG (kc 7) ik)) (hi:=oS (ai cF (ai gG (kc 7) ik) (kc 7))) (Y:=vS (B ls (s0 (.int k)) x7 x8 x9 fz dz)) (u:=aa ((7*k+7:Nat):Int)) rfl (SD (aL rfl rfl m7)) (SD (aL (aL rfl rfl m7) rfl rfl));rw[IG () (),show 7*k+7-7*k=7 by lia] at this
    exact this
   refine bK e7 (by simp[B]) ?_
   have yl:((own.drop (7*k)).take 7).length=7:=by rw[mH,wY];lia
   generalize(own.drop (7*k)).take 7=ys at yl;have R0:∀ {x8 x9 fz dz:L2.Slot},(B ls (s0 (.int k)) x7 x8 x9 fz dz).set 7 (aa (0,cn ys))=B ls (s0 (.int k)) (s0 (cn ys)) x8 x9 fz dz:=rfl;rw[R0];have o0:∀ {r:be},r[7]?.join=aa (cn ys)->XI (ai aq kj bq) r:=λh=>⟨_,aL h rfl (mT (getD_some (0:Int) ())),_,rfl⟩
   obtain⟨_,e3,k3,_,_,rfl⟩:=gH 3 (kN (i:=2) (o0 (r:=vS (B ls (s0 (.int k)) (s0 (cn ys)) x8 x9 fz dz)) rfl));have t:bV .s (fT (br (ai vz ik bq)) (br (ai cy (ai cR (ai cX (ai aq kj bq) (kc 2)) (kc 3)) bq))) (B ls (s0 (.int k)) (s0 (cn ys)) x8 x9 fz dz)=aa (decide ((k:Int) > 0)&&decide ((k3:Int)=0)):=
    tL (dJ (aL rfl rfl rfl)) λ_=>dJ (aL e3 rfl (rC _ _))
   have fin:∀ {l:Ln} {x6 x7 x8 x9 fz dz:L2.Slot},qI t0 t1 w0 w1 l->∃ ρ2,(Out.nx (B (ls++[l]) x6 x7 x8 x9 fz dz)=.nx ρ2\/Out.nx (B (ls++[l]) x6 x7 x8 x9 fz dz)=.ct ρ2)/\J (k+1) ρ2:=λ{l x6 x7 x8 x9 fz dz} h=>⟨_,.inl rfl,_,_,_,_,_,_,_,rfl,by simp[aw],λq m=>by
    rcases jM.1 m with m|m
    .exact hls q m
    .rw[cG.1 m];exact h⟩
   have BB:∀ {l:Ln} {x6 x7 x8 x9 fz dz:L2.Slot},(B ls x6 x7 x8 x9 fz dz).set 5 (aa (1,.list (ls.map bB++[bB l])))=B (ls++[l]) x6 x7 x8 x9 fz dz:=by
    simp[B]
   refine qR t ?_;split
   .rename_i hc;have zu:0<k:=by
     have:=(jO.1 hc).1
     lia
    obtain⟨q,eq⟩:=PP (pR (ys.getD 0 0/(6:Nat)) (show(0:Int)<k by lia)).1
    have hq:=(pR (ys.getD 0 0/(6:Nat)) (show(0:Int)<k by lia)).2
    have hql:q<ls.length:=()
    have ei:ai aq gq (ai cR (ai cX (ai aq kj bq) (kc 6)) ik) (vA (B ls (s0 (.int k)) (s0 (cn ys)) x8 x9 fz dz))=aa (bB (ls.getD q cu)):=
     aL rfl (aL (aL (aL rfl rfl (mT (getD_some (0:Int) ()))) rfl (zL _ 6 nofun)) rfl ((nY _ k zu).trans (by rw[eq]))) (mT (getD_some cu hql))
    have L:=hls _ (getD_mem cu hql);obtain⟨l',e',L'⟩:=X3 L (by rcases L.1 with⟨_,b⟩|⟨_,b⟩<;>lia) hz hl
    refine Ym (aW (aR ei rfl) e') (V6 _) rfl (by simp;lia) ?_
    rw[BB];exact fin L'
   .obtain⟨_,e2,k2,_,h2,rfl⟩:=gH 2 (o0 (r:=vS (B ls (s0 (.int k)) (s0 (cn ys)) x8 x9 fz dz)) rfl);obtain⟨t,w,et,hw6,hLn⟩:∃ t w,aq (.list [lr t0 w0,lr t1 w1]) (.int k2)=aa (lr t w)/\w<=6/\((t=t0/\w=w0)\/(t=t1/\w=w1)):=by
     rcases(show k2=0\/k2=1 by lia) with rfl|rfl
     .exact⟨t0,w0,rfl,x0,.inl ⟨rfl,rfl⟩⟩
     .exact⟨t1,w1,rfl,hw1,.inr ⟨rfl,rfl⟩⟩
    refine Yp (aL rfl e2 et) rfl (bK rfl (by simp[B]) ?_)
    let C:aam->L2.Slot->aQ:=λks x=>B ls (s0 (.int k)) (s0 (cn ys)) (s0 (.str t)) (s0 (.int w)) (aa (1,lK ks)) x
    refine dW (λρ'=>∃ ks x,ρ'=C ks x/\ks.length=w/\∀ k∈ks,eY k) ?_ ?_
    .have sl:=nF (f:=bR 7) (lo:=oS bf) (hi:=oS (ai cF vr9 bf)) (Y:=vS (C [] dz)) (l:=aa ((1:Nat):Int)) (u:=aa ((w+1:Nat):Int)) rfl rfl rfl;rw[IG () ()] at sl
     have wl:((ys.drop 1).take (w+1-1)).length=w:=by rw[mH,wY];lia
     refine qX (λi ρ'=>∃ ks x,ρ'=C ks x/\ks.length=i/\∀ k∈ks,eY k) (gp (eO sl)) ⟨[],dz,rfl,rfl,λk m=>by simp at m⟩ ?_ λρ' h=>⟨_,rfl,by rw[bT,wl] at h;exact h⟩
     rintro i d _ hd ⟨ks,x,rfl,hi,hy⟩;rw[eD] at hd;obtain⟨c,hc,rfl⟩:=fG.1 hd;have hic:=(cE.1 hc).1;refine⟨C ks (s0 (.int c)),rfl,?_⟩;have app:∀ {f:EF} {k':aG},f (vS (C ks (s0 (.int c))))=aa (kD k')->eY k'->Goes (jR 10 .s f) (C ks (s0 (.int c))) λo=>∃ ρ2,(o=.nx ρ2\/o=.ct ρ2)/\∃ ks x,ρ2=C ks x/\ks.length=i+1/\∀ k∈ks,eY k:=λ{f k'} h jl=>
      oE h rfl (by simp;lia) ⟨_,.inl rfl,ks++[k'],s0 (.int c),by
       rw[show C (ks++[k']) (s0 (.int c))=B ls (s0 (.int k)) (s0 (cn ys)) (s0 (.str t)) (s0 (.int w)) (aa (1,.list (ks.map kD++[kD k']))) (s0 (.int c)) by simp[C,B]]
       rfl,by simp[hi],λq m=>by
       rcases jM.1 m with m|m
       .exact hy q m
       .rw[cG.1 m];exact jl⟩
     obtain⟨_,e5,k5,_,_,rfl⟩:=gH (f:=bR 11) (r:=vS (C ks (s0 (.int c)))) 5 ⟨_,rfl,_,rfl⟩;obtain⟨_,e4,k4,_,h4,rfl⟩:=gH (f:=ai cX xK (kc 5)) (r:=vS (C ks (s0 (.int c)))) 4 (kN ⟨_,rfl,_,rfl⟩);refine qR (dJ (aL e5 rfl (rC _ _))) ?_;split
     .exact app (k':=.inl (gv.getD k4 0)) (aL rfl e4 (mT (getD_some (0:Int) ()))) rfl
     .exact app (k':=.inr (zs.getD k4 "")) (aL rfl e4 (mT (getD_some ("" : aD) ()))) (hl _ (getD_mem _ ()))
    rintro _ ⟨ks,x,rfl,og,hky⟩;refine iA (oE (d:=bB (t,ks)) (iQ (aR rfl (aR (aW rfl rfl) rfl))) rfl (by simp;lia) ?_)
    have FF:frz 10 (C ks x)=B ls (s0 (.int k)) (s0 (cn ys)) (s0 (.str t)) (s0 (.int w)) (s0 (lK ks)) x:=rfl;rw[FF,BB];exact fin ⟨hLn.elim (λ⟨a,b⟩=>.inl ⟨a,og.trans b.symm.symm⟩) λ⟨a,b⟩=>.inr ⟨a,og.trans b⟩,hky⟩
  rintro _ ⟨ls,x6,x7,x8,x9,fz,dz,rfl,h1,h2⟩;exact iA (cB (aW rfl rfl) ⟨_,rfl,ls,rfl,h1,h2⟩)
 obtain⟨d,e,ls,rfl,h⟩:=this;exact⟨ls,e,h⟩
theorem RT (neg:Bool)(ks:aam)(k:aG):gy neg (kD k) (lK ks)=aa (.bool (neg != decide (k∈ks))):=by
 have h1:dI (kD k)=af:=by cases k<;>rfl
 have h2:((ks.map kD).any λd=>bW d (kD k))=decide (k∈ks):=by
  rw[List.any_map,nV];simp[DB]
 show(if (dI (kD k)&&noDicts (ks.map kD))=af then aa (jK (neg != (ks.map kD).any λd=>bW d (kD k))) else ab)=_
 rw[vZ,h1,h2,AY,if_pos rfl]
theorem Mn (zs:aal):lZ zs=lK (zs.map fR):=by
 show jZ _=jZ _;rw[dF]
 rfl
theorem Tj {hs:aaj}(h4:hs.length<=4)(l5:ls.length<=5)(h6:∀ l∈ls,l.2.length<=6)(hy:∀ l∈ls,∀ k∈l.2,eY k){gv:aaj}(hn:gv.length=4) :
  ∃ hd,LL [cn hs,bh ls,lZ zs,cn gv]=aa (tK hd)/\hd.length=hs.length/\(∀ k∈hd,eY k)/\∀ z,(.inr z:aG)∈hd->z∈aY ls:=by
 have:∃ d,LL [cn hs,bh ls,lZ zs,cn gv]=aa d/\∃ hd,d=tK hd/\hd.length=hs.length/\(∀ k∈hd,eY k)/\∀ z,(.inr z:aG)∈hd->z∈aY ls:=by
  refine iM rfl (bK rfl (by simp) ?_)
  let B:aam->L2.Slot->L2.Slot->L2.Slot->aQ:=λks x5 x6 x7=>[s0 (cn hs),s0 (bh ls),s0 (lZ zs),s0 (cn gv),s0 (lK ks),x5,x6,x7]
  let T:aam->Prop:=λks=>∀ k∈ks,eY k/\∃ z,k=.inr z/\z∈aY ls
  refine dW (λρ'=>∃ ks x5,ρ'=B ks x5 ab ab/\T ks) ?_ ?_
  .refine qX (λi ρ'=>∃ ks x5,ρ'=B ks x5 ab ab/\ks.length<=6*i/\T ks) (gp (lV rfl)) ⟨[],ab,rfl,by simp,λk m=>by simp at m⟩ ?_ λρ' ⟨ks,x5,e,_,h⟩=>⟨_,rfl,ks,x5,e,h⟩
   rintro i d _ hd ⟨ks,x5,rfl,hl,ht⟩;rw[eD] at hd;obtain⟨l,hx,rfl⟩:=fG.1 hd;have ml:=eW hx;have hi:=(cE.1 hx).1;have w6:=h6 l ml;refine⟨B ks (s0 (bB l)) ab ab,rfl,?_⟩;have lc:=iB (cap:=[ab,aa 2,aa 4]) (fi:=cf (ai aq gq bf)) (T:=gB 0) (t:=fT (br (ai (gy ah) ao au)) (br (ai (gy af) ao az))) (f:=bR 0) (Y:=vS (B ks (s0 (bB l)) ab ab)) (λk=>decide (k∈zs.map fR)&&!decide (k∈ks)) kD (lV (aL rfl rfl rfl)) () λk _=>⟨[aa (kD k),aa (lZ zs),aa (lK ks)],rfl,tL (dJ (aL rfl rfl (by rw[Mn,RT];simp))) λ_=>dJ (aL rfl rfl ((RT af ks k).trans (by simp))),λ_=>rfl⟩
   have fl:=wX (λk=>decide (k∈zs.map fR)&&!decide (k∈ks)) l.2
   have fm:∀ k∈l.2.filter (λk=>decide (k∈zs.map fR)&&!decide (k∈ks)),eY k/\∃ z,k=.inr z/\z∈aY ls:=λk m=>by
    obtain⟨mk,hp⟩:=kX.1 m;have:=of_decide_eq_true (jO.1 hp).1;obtain⟨z,_,rfl⟩:=bG.1 this;exact⟨hy l ml _ mk,z,rfl,Acj.2 ⟨l,ml,Acv.2 mk⟩⟩
   generalize l.2.filter (λk=>decide (k∈zs.map fR)&&!decide (k∈ks))=fs at lc fl fm
   refine rD (aL rfl lc ?_) (by simp[B]) ⟨_,.inl rfl,ks++fs,_,rfl,by simp;lia,λk m=>?_⟩
   .show(if (ks.map kD).length+(fs.map kD).length<=sizeLine then aa (jZ (ks.map kD++fs.map kD)) else ab)=_
    rw[if_pos (gY (by simp;lia)),<-hG]
   .rcases jM.1 m with m|m
    .exact ht k m
    .exact fm k m
  rintro _ ⟨ks,x5,rfl,ht⟩;refine bK rfl (by simp[B]) (dW (λρ'=>∃ qs x7,ρ'=B ks x5 (aa (1,lK qs)) x7/\qs.length=hs.length/\∀ k∈qs,eY k/\∀ z,k=.inr z->z∈aY ls) ?_ ?_)
  .refine qX (λi ρ'=>∃ qs x7,ρ'=B ks x5 (aa (1,lK qs)) x7/\qs.length=i/\∀ k∈qs,eY k/\∀ z,k=.inr z->z∈aY ls) (gp (eO rfl)) ⟨[],ab,rfl,rfl,λk m=>by simp at m⟩ ?_ λρ' h=>⟨_,rfl,by simpa using h⟩
   rintro i d _ hd ⟨qs,x7,rfl,hi,hq⟩;rw[eD] at hd;obtain⟨c,hc,rfl⟩:=fG.1 hd;have hic:=(cE.1 hc).1;refine⟨B ks x5 (aa (1,lK qs)) (s0 (.int c)),rfl,?_⟩;have app:∀ {f:EF} {k':aG},f (vS (B ks x5 (aa (1,lK qs)) (s0 (.int c))))=aa (kD k')->(eY k'/\∀ z,k'=.inr z->z∈aY ls)->Goes (jR 6 .s f) (B ks x5 (aa (1,lK qs)) (s0 (.int c))) λo=>∃ ρ2,(o=.nx ρ2\/o=.ct ρ2)/\∃ qs x7,ρ2=B ks x5 (aa (1,lK qs)) x7/\qs.length=i+1/\∀ k∈qs,eY k/\∀ z,k=.inr z->z∈aY ls:=λ{f k'} h jl=>
    oE h rfl (by simp;lia) ⟨_,.inl rfl,qs++[k'],s0 (.int c),by
     rw[show B ks x5 (aa (1,lK (qs++[k']))) (s0 (.int c))=B ks x5 (aa (1,.list (qs.map kD++[kD k']))) (s0 (.int c)) by simp[B]]
     rfl,by simp[hi],λq m=>by
     rcases jM.1 m with m|m
     .exact hq q m
     .rw[cG.1 m];exact jl⟩
   obtain⟨_,e5,k5,_,_,rfl⟩:=gH (f:=bR 7) (r:=vS (B ks x5 (aa (1,lK qs)) (s0 (.int c)))) 4 ⟨_,rfl,_,rfl⟩;obtain⟨_,e4,k4,_,h4',rfl⟩:=gH (f:=ai cX kj (kc 4)) (r:=vS (B ks x5 (aa (1,lK qs)) (s0 (.int c)))) 4 (kN ⟨_,rfl,_,rfl⟩);refine qR (CG (dJ (aL e5 rfl (rC _ _))) λ_=>dJ (aL rfl rfl (Lr ks []))) ?_
   split
   .exact app (k':=.inl (gv.getD k4 0)) (aL rfl e4 (mT (getD_some (0:Int) ()))) ⟨rfl,λz h=>by cases h⟩
   .rename_i gr;have ne:ks≠[]:=λe=>gr (by rw[e];simp)
    have hk:=List.length_pos_iff.2 ne;obtain⟨j,d,hj,e⟩:=Ql (ds:=ks.map kD) (c/(4:Nat)) (by simpa using hk)
    rw[eD] at hj;obtain⟨kk,hkk,rfl⟩:=fG.1 hj;have hT:=ht kk (eW hkk);refine app (aL rfl (aL (aL rfl rfl (zL c 4 nofun)) (aW rfl (by show aa (aU ((ks.map kD).length:Nat))=_;rw[bT])) (nY _ ks.length hk)) ?_) ⟨hT.1,λz h=>?_⟩
    .rw[bT] at e;exact e
    .obtain⟨z',rfl,mz⟩:=hT.2;cases h;exact mz
  rintro _ ⟨qs,x7,rfl,h1,h2⟩;exact iA (cB (aW rfl rfl) ⟨_,rfl,qs,rfl,h1,λk m=>(h2 k m).1,λz m=>(h2 _ m).2 z rfl⟩)
 obtain⟨d,e,hd,rfl,h⟩:=this;exact⟨hd,e,h⟩
theorem Wg {α:Type}{q:α->aA}{xs:List α}(a b:Nat):cutD (xs.map q) (aa (a:Int)) (aa (b:Int))=((xs.drop (min a xs.length)).take (min b xs.length-min a xs.length)).map q:=by
 unfold cutD;rw[HT.Af4,HT.Af4,bT,wU,wV]
theorem ix7(h:k<7):∃ w:Nat,w<=4/\aq (.list [.int 0,.int 1,.int 1,.int 2,.int 2,.int 3,.int 4]) (.int k)=aa (.int w):=by
 rcases(show k=0\/k=1\/k=2\/k=3\/k=4\/k=5\/k=6 by lia) with rfl|rfl|rfl|rfl|rfl|rfl|rfl
 .exact⟨0,nofun,rfl⟩
 .exact⟨1,nofun,rfl⟩
 .exact⟨1,nofun,rfl⟩
 .exact⟨2,nofun,rfl⟩
 .exact⟨2,nofun,rfl⟩
 .exact⟨3,nofun,rfl⟩
 .exact⟨4,nofun,rfl⟩
def xv (t0 t1:aD)(w0 w1:Nat)(t:aD):Nat:=if t=t0 then w0 else if t=t1 then w1 else 1
theorem A7(hl:ns.length<=63):∃ (wd:aD->Nat) (Q:aat),MC [cn ns]=aa (qD Q)/\(∀ t,1<=wd t)/\(∀ a∈Q,AlG wd a.1 a.2)/\Q.length<=3:=by
 obtain⟨cs,ec,hc⟩:=g8 hl;obtain⟨zs,ez,hz,hzl,hzd⟩:=T5 (cs.getD 0 0);obtain⟨gv,en,hn⟩:=Yf (cs.getD 1 0);obtain⟨t0,t1,w0,w1,et,ht,hy0,hy1,x0,hw1⟩:=Vu (cs.getD 2 0) hz hzl hzd;have W:∀ t,1<=xv t0 t1 w0 w1 t:=λt=>by
  unfold xv;split
  .exact x0.1
  .split
   .exact hw1.1
   .exact bA _
 have AL:∀ {hd:aam} {ls:aao},(∀ l∈ls,qI t0 t1 w0 w1 l)->ls.length<=5->hd.length<=4->(∀ k∈hd,eY k)->(∀ z,(.inr z:aG)∈hd->z∈aY ls)->AlG (xv t0 t1 w0 w1) hd ls:=λ{hd ls} h l5 h4 hk hz=>by
  have wl:∀ l∈ls,l.2.length=xv t0 t1 w0 w1 l.1:=λl m=>by
   unfold xv;rcases(h l m).1 with⟨a,b⟩|⟨a,b⟩
   .rw[if_pos a,b]
   .rw[if_neg (λe=>ht (e.symm.trans a)),if_pos a,b]
  exact⟨l5,wl,λl m=>by rw[wl l m];exact W _,λl m=>by
   rcases(h l m).1 with⟨a,b⟩|⟨a,b⟩<;>lia,λl m=>(h l m).2,λl m=>by
   rcases(h l m).1 with⟨a,b⟩|⟨a,b⟩<;>rw[a]<;>assumption,h4,hz,hk⟩
 have:∃ d,MC [cn ns]=aa d/\∃ Q,d=qD Q/\(∀ a∈Q,AlG (xv t0 t1 w0 w1) a.1 a.2)/\Q.length<=3:=by
  have ix:∀ {k:Nat},k<85->aq (cn cs) (.int k)=aa (.int (cs.getD k 0)):=λh=>mT (getD_some (0:Int) ())
  let tb:aA:=.list [lr t0 w0,lr t1 w1]
  refine iM rfl (bK (aW (aR rfl (aR rfl rfl)) ec) (by simp) (bK (aW (aR (aL rfl rfl (ix nofun)) rfl) ez) (by simp) (bK (aW (aR (aL rfl rfl (ix nofun)) rfl) en) (by simp) (bK (aW (aR (aL rfl rfl (ix nofun)) (aR rfl rfl)) et) (by simp) ?_))))
  let R:L2.Slot->L2.Slot->L2.Slot->L2.Slot->L2.Slot->L2.Slot->L2.Slot->aQ:=λx5 x6 x7 x8 x9 fz dz=>[s0 (cn ns),s0 (cn cs),s0 (lZ zs),s0 (cn gv),s0 tb,x5,x6,x7,x8,x9,fz,dz]
  have c3:∀ {r:be},r[1]?.join=aa (cn cs)->XI (ai aq au (kc 3)) r:=λh=>⟨_,aL h rfl (ix nofun),_,rfl⟩
  obtain⟨_,e0,a0,_,b0,rfl⟩:=gH (r:=vS (R ab ab ab ab ab ab ab)) 6 (kN (i:=4) (c3 rfl));obtain⟨_,e1,a1,_,b1,rfl⟩:=gH (r:=vS (R ab ab ab ab ab ab ab)) 4 (kN (i:=24) (c3 rfl));obtain⟨_,e2,a2,_,b2,rfl⟩:=gH (r:=vS (R ab ab ab ab ab ab ab)) 4 (kN (i:=96) (c3 rfl))
  let am:aA:=.list [.int a0,.int a1,.int a2]
  refine bK (oC (aR e0 (aR e1 (aR e2 rfl)))) (by simp) ?_
  obtain⟨_,e7,k7,_,h7,rfl⟩:=gH (r:=vS (R (s0 am) ab ab ab ab ab ab)) 7 (kN (i:=384) (c3 rfl));obtain⟨w,hw,ew⟩:=ix7 h7;refine bK (aL (oC rfl) e7 ew) (by simp) (bK rfl (by simp) (bK rfl (by simp) ?_))
  obtain⟨_,e4,n,_,hn4,rfl⟩:=gH (r:=vS (R (s0 am) (s0 (.int w)) (aa (1,qD [])) (s0 (.int (8:Nat))) ab ab ab)) 4 (c3 rfl)
  let J:Nat->aQ->Prop:=λk ρ'=>∃ (Q:aat) (at_:Nat) (x9 fz dz:L2.Slot),ρ'=R (s0 am) (s0 (.int w)) (aa (1,qD Q)) (s0 (.int at_)) x9 fz dz/\Q.length=k/\(∀ a∈Q,AlG (xv t0 t1 w0 w1) a.1 a.2)/\(k=0->at_=8)/\(k=1->at_<=43)/\(k=2->at_<=64)
  refine dW (J n) ?_ ?_
  .refine HW J (gp (vC (aR e4 rfl) ())) ⟨[],8,ab,ab,ab,rfl,rfl,λa m=>by simp at m,λ_=>rfl,λh=>(by cases h),λh=>(by cases h)⟩ ?_ λρ' h=>⟨_,rfl,h⟩
   rintro k _ hk ⟨Q,at_,x9,fz,dz,rfl,hq,hA,p0,p1,p2⟩;refine⟨R (s0 am) (s0 (.int w)) (aa (1,qD Q)) (s0 (.int at_)) (s0 (.int k)) fz dz,rfl,?_⟩;obtain⟨m,em,m5,q1,q2,q3⟩:∃ m:Nat,aq am (.int k)=aa (.int m)/\m<=5/\at_+7*m<=85/\(k=0->at_+7*m<=43)/\(k=1->at_+7*m<=64):=by
    rcases(show k=0\/k=1\/k=2 by lia) with rfl|rfl|rfl
    .exact⟨a0,rfl,(),(),λ_=>(),λh=>by cases h⟩
    .exact⟨a1,rfl,(),(),λh=>(by cases h),λ_=>()⟩
    .exact⟨a2,rfl,(),(),λh=>(by cases h),λh=>by cases h⟩
   have sl:=nF (f:=bR 1) (lo:=oS va) (hi:=oS (ai cF va (kc 35))) (Y:=vS (R (s0 am) (s0 (.int w)) (aa (1,qD Q)) (s0 (.int at_)) (s0 (.int k)) fz dz)) (u:=aa ((at_+35:Nat):Int)) rfl rfl rfl;rw[Wg] at sl;have ol:7*m<=((cs.drop (min at_ cs.length)).take (min (at_+35) cs.length-min at_ cs.length)).length:=by
    rw[mH,wY]
    lia
   obtain⟨ls,el,l1,l2⟩:=N4 x0.2 hw1.2 hz hzl hn ol m5;refine bK (aW (aR sl (aR (aL rfl rfl em) (aR rfl (aR rfl (aR rfl rfl))))) el) (by simp[R]) (bK (aL (b:=.int ((7*m:Nat):Int)) rfl (aL rfl (aL rfl rfl em) ((sV nofun).trans (by rw[PN];rfl))) rfl) (by simp[R]) ?_)
   have sh:=nF (f:=bR 1) (lo:=oS (kc 4)) (hi:=oS (ai cF (kc 4) ik)) (Y:=vS (R (s0 am) (s0 (.int w)) (aa (1,qD Q)) (s0 (.int ((at_+7*m:Nat):Int))) (s0 (.int k)) (s0 (bh ls)) dz)) (l:=aa ((4:Nat):Int)) (u:=aa ((4+w:Nat):Int)) rfl rfl rfl;rw[IG () ()] at sh
   have hh:((cs.drop 4).take (4+w-4)).length<=4:=by rw[mH,wY];lia
   generalize(cs.drop 4).take (4+w-4)=hc4 at sh hh;have lc:=iB (cap:=[ab,aa 9]) (T:=gB 0) (t:=dZ) (f:=ai cX ao (ai cF bf (ai gG (kc 96) au))) (λ_=>af) (λc=>.int (c/((1+96*k:Nat):Int))) (eO sh) () λc _=>⟨[aa (.int c),aa (.int k)],rfl,rfl,λ_=>aL rfl (aL (b:=.int ((96*k:Nat):Int)) rfl (aL rfl rfl ((sV nofun).trans (by rw[PN];rfl))) rfl) (zL c _ ())⟩
   rw[uG.2 λ_ _=>rfl,show(hc4.map λc=>aU (c/((1+96*k:Nat):Int)))=(hc4.map λc=>c/((1+96*k:Nat):Int)).map aU by rw[dF];rfl] at lc
   obtain⟨hd,eh,h1,h2,h3⟩:=Tj (hs:=hc4.map λc=>c/((1+96*k:Nat):Int)) (by rw[bT];exact hh) () (λl ml=>by rcases(l2 l ml).1 with⟨_,b⟩|⟨_,b⟩<;>lia) (λl ml=>(l2 l ml).2) hn
   rw[bT] at h1;refine bK lc (by simp[R]) (iA (oE (iQ (aR (aW rfl eh) (aR rfl rfl))) rfl (by simp;lia) ⟨_,.inl rfl,Q++[(hd,ls)],at_+7*m,s0 (.int k),s0 (bh ls),s0 (cn (hc4.map λc=>c/((1+96*k:Nat):Int))),?_,by simp[hq],λa ma=>?_,λh=>(),λh=>q2 (),λh=>q3 ()⟩))
   .rw[show R (s0 am) (s0 (.int w)) (aa (1,qD (Q++[(hd,ls)]))) (s0 (.int ((at_+7*m:Nat):Int))) (s0 (.int k)) (s0 (bh ls)) (s0 (cn (hc4.map λc=>c/((1+96*k:Nat):Int))))=R (s0 am) (s0 (.int w)) (aa (1,.list (Q.map bL++[bL (hd,ls)]))) (s0 (.int ((at_+7*m:Nat):Int))) (s0 (.int k)) (s0 (bh ls)) (s0 (cn (hc4.map λc=>c/((1+96*k:Nat):Int)))) by simp[R]]
    rfl
   .rcases jM.1 ma with ma|ma
    .exact hA a ma
    .rw[cG.1 ma];exact AL l2 () () h2 h3
  rintro _ ⟨Q,at_,x9,fz,dz,rfl,hq,hA,_⟩;exact⟨_,rfl,_,rfl,Q,rfl,hA,()⟩
 obtain⟨d,e,Q,rfl,h⟩:=this;exact⟨_,Q,e,W,h⟩
theorem Rq (a:cO):noDict (bL a)=af/\(bL a).depth<=8:=by
 have k1:=yY a.1;have k2:=vZ a.1;have l1:noDicts (a.2.map bB)=af:=yX λt m=>by
  obtain⟨x,_,rfl⟩:=bG.1 m;exact(HX x).1
 have l2:cU (a.2.map bB)<=5:=yT λt m=>by
  obtain⟨x,_,rfl⟩:=bG.1 m;exact(HX x).2
 constructor
 .simp[bL,noDict,noDicts,k2,l1]
 .simp[bL,fE,cU]
  lia
theorem GR (ds:aag)(h:∀ d∈ds,noDict d=af/\d.depth<=8):dI (.list ds)=af:=by
 have h1:=yX λt m=>(h t m).1
 have h2:=yT λt m=>(h t m).2
 simp[dI,noDict,h1,fE]
 lia
theorem IF (R:aat):∀ d∈R.map bL,noDict d=af/\d.depth<=8:=λd m=>by
 obtain⟨a,_,rfl⟩:=bG.1 m;exact Rq a
theorem Pi:noDict (.tuple [.tuple [],.tuple []])=af/\(cD [.tuple [],.tuple []]).depth<=8:=by rw[0]
theorem Ou (ns:aaj)(hl:ns.length<=63)(hb:xO ns):RJ [.list (ns.map aU)]=aa (.bool af):=by
 obtain⟨wd,Q,eq,hw,hQ,q3⟩:=A7 hl;obtain⟨R,er,E,hR⟩:=Xq hw hQ q3;have e0:=er .none (.inl rfl);have e1:=er (.list []) (.inr rfl);have r3:R.length<=3:=by
  obtain⟨Q',s,p⟩:=E;rw[iU p];exact cQ s.length_le q3
 have kQ:=GR _ (IF Q);have kR:=GR _ (IF R);have eL:∀ X:aat,lG [qD X]=aa (qD X):=λX=>rfl
 let em:aA:=.tuple [.tuple [],.tuple []]
 have kE:=GR _ λd m=>by
  rcases jM.1 m with m|m
  .exact IF R d m
  .rw[cG.1 m];exact Pi
 refine kG rfl ?_;refine bK (aW rfl eq) (by simp) ?_
 refine bK (aW rfl (eL Q)) (by simp) ?_
 refine fI (BZ (X' (aW rfl e0) (MQ R)) (by simp)) ?_
 refine fI (pI (CG (dJ (aL rfl rfl (ne_self kQ))) λ_=>Yj (aW rfl (Wc E)))) ?_
 refine fI (BZ (X' (aW rfl (eL R)) (MQ R)) (by simp)) ?_
 have e6:∀ {Y:be} {f:EF} {d:aA},Y[1]?=aa (aa (qD Q))->f Y=aa d->nM d->aK vG (aM (aK lG (aj au)) (aj f)) Y=aa (qD R):=λh hf hd=>aW (aR (aW (aR (show(_:Option aah).join=_ by rw[h];rfl) rfl) (eL Q)) (aR hf rfl)) (er _ hd)
 refine fI rfl (iA ?_);refine dW (λρ'=>ρ'=[s0 (cn ns),s0 (qD Q),s0 (.list []),aa (1,.list (R.map bL++[em])),aa (1,qD R),ab,ab,ab]) (oE rfl rfl (by simp;lia) ⟨_,rfl,rfl⟩) ?_
 rintro _ rfl;refine iA ?_;show Goes _ [s0 (cn ns),s0 (qD Q),s0 (.list []),s0 (.list (R.map bL++[em])),aa (1,qD R),ab,ab,ab] _;refine bK rfl (by simp) ?_
 refine bK (e6 rfl rfl (.inl rfl)) (by simp) ?_
 refine bK (e6 rfl rfl (.inr rfl)) (by simp) ?_
 refine Wr ?_ rfl rfl;have q0:cy (.list []) (.list [])=aa (.bool af):=eq_self (by rw[0])
 exact yF (aL rfl rfl (eq_self kR)) λ_=>
  yF (aL rfl rfl (eq_self kR)) λ_=>
  yF (aL rfl (oC rfl) q0) λ_=>
  aL rfl (aL rfl (oC (aR rfl rfl)) (by
   show(if (R.map bL).length+1<=sizeLine then aa (jZ (R.map bL++[em])) else ab)=_
   rw[if_pos (gY (by simp;lia))])) (eq_self kE)
end Aw
set_option hygiene false in
local macro_rules
 | `(tactic| sleep 0)=>do
 let v:=("? _ ! 5 4 ~ ^ $ & % #".splitOn " ").zip (←`(x ?_ _ (by first|assumption|exact .inl rfl|exact .inr rfl|decide +kernel|with_unfolding_all rfl) ⟨rfl,rfl,rfl,rfl,rfl⟩ ⟨rfl,rfl,rfl,rfl⟩ (λ_=>rfl) (λ_ _=>rfl) (λ_ _ _ _ _=>?_) (by first|exact BO|exact SS) (by intro _ _ _ _ _ nd;first|exact VU nd rfl (.inl rfl)|exact XQ nd rfl rfl (.inl rfl) (.inl rfl)) (Zx (n:=1)))).raw[1].getArgs.toList
 let q s:=(v.lookup s).getD (Lean.mkIdent s.toName)
 let p (q:String→Lean.Syntax) (c s:String):Lean.Syntax:=let a:=(s.splitOn c).map q;Lean.Syntax.mkApp ⟨a.head!⟩ ⟨a.tail.map λx=>⟨x⟩⟩
 let f s:Lean.Term:=⟨p (p (p (p q "+") ";") ",") " " s⟩
 let m s:=(s.splitOn "|").toArray.mapM λs=>match s.splitOn ":" with
  |[c,s]=>`(tactic|((with_reducible show $(f c));refine $(f s)))
  |_=>`(tactic|refine $(f s))
 let t←("Pa _ jI|TU|Uj ? ? rfl/PE _ _ _>DF _ _ _ yi:Oh/DF _ _ _ eC,_>Rh|Tr !|Sf|Ng|Uv|M1|Q6/DF _ _ _ ai,_,_,_>DF _ _ _ ai,aq,eC;_,_:Qu g_PARTS rfl uv ? ^ !|DF _ _ _ ai,aq,_,_:Oe hv ? ? ^|DF _ _ _ ai,cR,_,_:Rm ? ?|DF _ _ _ ai,sR,_,_:Wm ? ?|DF _ _ _ ai,qL,_,_:Oy ? ?|DF _ _ _ ai,vK,_,_:j8 ? ? 5|DF _ _ _ ai,cy,_,_:UE SN,hu SQ ? ? sX,_|DF _ _ _ ai,EZ,_,_:Vw ? ? 5|DF _ _ _ ai,gy;_,_,_:UE US,hu MO ? ? !|DF _ _ _ ai,cX,_,_:Wj ? ?|DF _ _ _ ai,cF,_,_:Sz ? ?|DF _ _ _ ai,gG,_,_:Sa ? ?|DF _ _ _ ai,lJ,_,_:Ss ? ?|DF _ _ _ ai,RH,_,_:Wy ? ?|DF _ _ _ ai,lA,_,_:Oq ? ?/DF _ _ _ aK,_,_>DF _ _ _ aK,dM,_:yM D4 V0 rfl Q.B.len PySem.boot_len ? ! ! rfl rfl|DF _ _ _ aK,lG,_:tR G5 y9 rfl Q.B.list OD ? ! ! rfl rfl|DF _ _ _ aK,BW,_:tR t5 F0 rfl Q.B.list OD ? ! ! rfl rfl|DF _ _ _ aK,BQ,_:tR m3 u7 rfl Q.B.dict Iu ? ! ! rfl rfl|DF _ _ _ aK,zM,_:tR F8 v9 rfl Q.B.str PyProof.Rows.boot_str ? ! ! rfl rfl|DF _ _ _ aK,CZ,_:tR G0,hu J0 rfl Q.B.dict Iu ? ! ! rfl rfl|DF _ _ _ aK,xP,_:tR E3 B6 rfl Q.B.dict Iu ? ! ! rfl rfl|DF _ _ _ aK,zO,_:yM S8 y6 rfl Q.B.sum X1 ? ! ! rfl rfl|DF _ _ _ aK,BM,_:yM W0 q9 rfl Q.B.max PyProof.Rows.boot_max ? ! ! rfl rfl|DF _ _ _ aK,uQ,_:yM k6 U8 rfl Q.B.all boot_all ? ! ! rfl rfl|DF _ _ _ aK,xU,_:yM G6 D6 rfl Q.B.sorted Ir ? ! ! rfl rfl|DF _ _ _ aK,DM,_:w9 rfl Q.B.sorted rfl Q.B.set ? rfl rfl|DF _ _ _ aK,ED,_:A8 hv rfl Q.B.sorted rfl Q.B.set ? rfl rfl|DF _ _ _ aK,EG,_:E9 hu rfl Q.B.sorted rfl Q.B.set ? rfl rfl|DF _ _ _ aK,xR,_:O6 rfl Q.B.dict rfl Q.B.zip ? rfl rfl rfl|DF _ _ _ aK,MD,_:Yw rfl Q.B.list rfl Q.B.range ? rfl rfl|DF _ _ _ aK,CA,_:f7 rfl Q.B.list rfl Q.B.zip ? rfl rfl rfl|DF _ _ _ aK,nH,_:tR K2 B5 rfl Q.B.tuple Iq ? ! ! rfl rfl|Py ! hr.mono,! rfl ? ! rfl rfl/PE _ _ _>DF _ _ _ dq,_,_,_,_,_:Mq lcS,hS,?,$,$,rfl,rfl,!,rfl,&,!,% ~/DF _ _ _ ff,eT;_,_>MJ rfl Q.B.isinstance rfl Q.B.str PyProof.Rows.boot_str ! ? ! ! rfl rfl rfl|MJ rfl Q.B.isinstance rfl Q.B.tuple Iq ! ? ! ! rfl rfl rfl|MJ rfl Q.B.isinstance rfl Q.B.list OD ! ? ! ! rfl rfl rfl/PE _ _ _>TH ?|Qz ?|Ww hv ? ? ? 4|DF _ _ _ ff,sG,_:Ra ?|DF _ _ _ xk,_,_,_:Q5 ? ? ?|DF _ _ _ pB,_,_:Ov ? ?|DF _ _ _ xM,_:Pt ?|DF _ _ _ qK,_,_,_:Qq ? ? ?|DF _ _ _ fU,_,_,_:Sh ? ? ?|Rw ?|# ?/PSs _ _ _>jk _ _ _ _ _ eR,_,_:Wh _ ?|jk _ _ _ _ _ aN,_,_:WZ ? ?|Va ?|WZ ? ?|Xy/PS _ _ _>Qn _ _ nd rfl ! ? rfl !|i6 _ nd rfl ! lcS,hS,?,$,$,rfl,rfl,!,rfl,&,!,% rfl ~ !|DS _ _ _ _ _ iX,_,oq;_,_,_:IH _ ? ? ? ~|DS _ _ _ _ _ iX,_,iR2;_,_,_:IH _ ? ? ? ~|DS _ _ _ _ _ iX,_,iR3;_,_,_:IH _ ? ? ? ~|DS _ _ _ _ _ iX,_,_,_,_:Qp ? ? ? ~|DS _ _ _ _ _ jc,_,_,_,_:Ze _ _ ? ?|DS _ _ _ _ _ sY,_,_,_,_,_:d7 _ _ _ ? ? jI ~ rfl rfl rfl|DS _ _ _ _ _ sT,_,_,_,_,_:Ud _ _ _ ? ? jI ~ rfl rfl rfl|DS _ _ _ _ _ zQ,_,_,_,_,_:Vo _ _ _ hv ? ? jI rfl|DS _ _ _ _ _ qV,_,_,_:u3 _ _ ? jI 5 rfl|DS _ _ _ _ _ uc,_,_,_,_,_,_,_,_,_,_:Nx _ _ _ _ _ _ nd ? ? ? ? rfl ! jI 5 rfl rfl !|DS _ _ _ _ _ xQ,_,_,_,_,_:M7 _ _ _ ? ? jI 5 rfl rfl rfl rfl rfl rfl rfl|DS _ _ _ _ _ sOr,_,_:Of ? ?|DS _ _ _ _ _ zI,_,_,_:Wv _ ? ? rfl rfl rfl|DS _ _ _ _ _ oK,_,_,_:X6 _ _ ? jI 5 rfl|DS _ _ _ _ _ xI,_,_,_:R3 _ _ ? jI 5 rfl|DS _ _ _ _ _ HA,_:i7 _ jI rfl rfl rfl|Nl _ ? ? ?|W1 _ _ ? jI 5 rfl|Pf _ ?|Um _ jI|Vk _ ? rfl|Np/PT _ _ _>DT _ _ br,ai;cy;_;_:qZ SN,hu SQ ? ? sX,_|DT _ _ br,ai;ib;_;_:qZ Pn,hu Qb ? ? sX,_|DT _ _ br,ai;vz;_;_:qZ Nk Qk ? ? sX,_|DT _ _ br,ai;tu;_;_:qZ Bn3.or,Y4 Pk ? ? sX,_|DT _ _ br,ai;jS;_;_:qZ Xg Zr ? ? sX,_|DT _ _ br,ai;pF;_;_:qZ Rz Xp ? ? sX,_/DT _ _ br,ai;gy+_;_;_>n8 g_PARTS rfl uv ? rfl !|qZ US,hu MO ? ? !|qZ D0,hu MO ? ? !/PT _ _ _>Sm ?|DT _ _ fT,_,_:QZ ?|DT _ _ tm,_,_:QZ ?|Qd ? ~/PW _ _ _>Pd ? ?|Mv ? ?|Vg ?|Re ?/Ut|Wt ?|DI _ _ _ ki,_:Xb rfl Q.B.enumerate ? rfl|DI _ _ _ iZ,_:Sv rfl Q.B.zip ? rfl rfl|DI _ _ _ iRv,_:Qh rfl Q.B.reversed ? rfl|DI _ _ _ oq,_:Ru ?|Vt|Wk ?|Tv ?|X8 rfl Q.B.range ? rfl|o8 rfl Q.B.range ? rfl rfl|W8 rfl Q.B.range ? rfl rfl|Xe nd rfl ! !|Ve nd rfl rfl ! ! ! ! rfl rfl rfl rfl".splitOn "/").toArray.mapM λs=>match s.splitOn ">" with
  |[c,s]=>do `(tactic|((with_reducible show $(f c));first $[|$(←m s):tactic]*))
  |_=>do `(tactic|first $[|$(←m s):tactic]*)
 `(tactic|repeat' first $[|$t:tactic]*)
 | `(tactic| sleep 1)=>`(tactic| (intro _ _ _ _ _ _ hr hS nd hu hv;sleep 0))
namespace Aw
open PySem L2
variable {K:aI}{n:aD}{f:aC}{w:aX}
def BL (K:aI):Sp:=λvs H Q=>∃ (a:aC) (ns:aaj),vs=[.ref a]/\SqL K H a (ns.map V.int)/\ns.length<=63/\xO ns/\∀ H',Q (.bl af) H'
theorem Qj:∀ vs H Q,BL K vs H Q->sr K 0 RJ vs H Q:=λvs H Q gh=>by
 obtain⟨a,ns,ev,hS,hl,hb,k⟩:=gh;subst ev;have e0:hid H (λ_=>False)=H:=by
  funext b;unfold hid;rw[if_neg (λz=>z)]
 refine⟨λ_=>False,[.list (ns.map aU)],.bool af,λ_ z=>z.elim,?_,Ou ns hl hb,dY λv H' _ r=>?_⟩
 .rw[e0];exact Aac.2 ⟨_,_,rfl,Aav.2 ⟨a,_,rfl,hS,KH ns⟩,Aah.2 rfl⟩
 .rw[Aas.1 r];exact k H'
def Hs (K:aI)(n:aD)(i:Nat):Prop:=∃ f fd,Fun K n n (dx i) f fd/\nP K fX n=aa (aa (.ref f))
theorem Boj{i:Nat}{od an:Option aC}{sl:aab}{oc kV dc pm cd ct:aB}(a:nP K fX n=aa (aa (.ref f)))(l:K.lookup f=aa ⟨oc,od,.func (qA n n (rF (dx i)) (jT (dx i)) (dX (dx i)) .none kV dc pm an cd ct),sl⟩)(c:AD K cd n=af)(k:uA K (.ref f)=af):Hs K n i:=⟨_,_,Su (st:=dx i) l c k,a⟩
theorem Bng{i:Int}{t:Tok}(h:nP K fX n=aa (aa (.int i t))):∃ t,nP K fX n=aa (aa (.int i t)):=⟨t,h⟩
def HsD (K:aI)(n:aD)(i:Nat):Prop:=∃ f fd,FunD K n n (dx i) f fd/\nP K fX n=aa (aa (.ref f))
theorem Bme{i m:Nat}{T:aC}{o:aZ}{od an:Option aC}{sl:aab}{oc kV dc pm cd ct:aB}(a:nP K fX n=aa (aa (.ref f)))(l:K.lookup f=aa ⟨oc,od,.func (qA n n (rF (dx i)) (jT (dx i)) (dX (dx i)) (.ref T) kV dc pm an cd ct),sl⟩)(c:AD K cd n=af)(k:uA K (.ref f)=af)(lt:K.lookup T=aa o)(sq:o.data=.seq #[.none] m):HsD K n i:=⟨_,_,⟨⟨_,_,_,_,_,_,_,_,_,_,_,_,rfl,l,c,lt,sq⟩,k⟩,a⟩
theorem Bo7 {P:bE}{a:aC}{o:aZ}{kvs:li}(q:nP K fX n=aa (aa (.ref a)))(s:(a==fW)=ah)(l:K.lookup a=aa o)(v:GO P w o kvs):∃ a,nP K fX n=aa (aa (.ref a))/\GD P w K a kvs:=⟨a,q,GD.of s l v⟩
structure Al (P:bE)(w:aX)(K:aI)(mg:aD->Option aB)(base h:aP):Prop where
 X:K.In h
 G:h.Ns fX mg
 a1:Hs K "names_of" 2
 a2:Hs K "numbers_of" 3
 a3:Hs K "put_in" 4
 a4:Hs K "once" 6
 a5:Hs K "fits" 37
 a6:Hs K "rows_of" 38
 a7:Hs K "without" 64
 a8:Hs K "_law_cells" 71
 a9:Hs K "_law_names" 72
 a10:Hs K "_law_numbers" 73
 a11:Hs K "_law_tables" 74
 a12:Hs K "_law_copied" 75
 a13:Hs K "_law_head" 77
 a14:Hs K "_law_part" 79
 a15:Hs K "put_in_lines" 5
 a16:Hs K "shared" 32
 a17:Hs K "extended" 39
 a18:Hs K "fitting" 42
 a19:Hs K "common" 44
 a20:Hs K "key_of" 45
 a21:Hs K "bound" 54
 a22:Hs K "greatest_number" 59
 a23:Hs K "thawed" 60
 a24:Hs K "_law_lines" 76
 a25:Hs K "_law_alike" 80
 a26:Hs K "parent_of" 33
 a27:Hs K "walked" 40
 a28:Hs K "all_fitting" 43
 a29:Hs K "with_partner" 46
 a30:Hs K "frozen" 58
 a31:Hs K "_law_question" 78
 a32:Hs K "_law_good" 81
 a33:Hs K "due_put" 20
 a34:Hs K "first_ear" 34
 a35:Hs K "due" 21
 a36:Hs K "ears" 35
 a37:Hs K "chase" 30
 a38:Hs K "thin_parents" 47
 a39:Hs K "walk_rest" 48
 a40:Hs K "thin_ears" 50
 a41:Hs K "thin_rest" 49
 a42:Hs K "thin_all" 51
 a43:Hs K "least_of" 52
 a44:Hs K "least_with" 55
 a45:Hs K "first_with" 56
 a46:Hs K "told_alone" 61
 a47:HsD K "within" 62
 a48:Hs K "line_needed" 65
 a49:Hs K "alternative_needed" 66
 a50:Hs K "first_to_go" 67
 a51:Hs K "with_least_lines" 68
 a52:HsD K "least" 69
 a53:Hs K "law" 82
 c1:∃ t,nP K fX "MOST_LINES_THERE" = aa (aa (.int 5 t))
 c2:∃ t,nP K fX "MOST_PUTS" = aa (aa (.int 16 t))
 g1:∃ a,nP K fX "PARTS" = aa (aa (.ref a))/\GD P w K a (xo Zs)
 z:Blt λx=>nP K fX x=aa ab
section
variable {P:bE}{mg:aD->aap}{base h:aP}(Q:Al P w K mg base h)
include Q
theorem Al.B:Blt λx=>mg x=ab:=
 have M:=λx=>PySem.W.mg_none_of (n:=x) Q.X Q.G
 ⟨M _ Q.z.1,M _ Q.z.2,M _ Q.z.3,M _ Q.z.4,M _ Q.z.5,M _ Q.z.6,M _ Q.z.7,M _ Q.z.8,M _ Q.z.9,M _ Q.z.10,M _ Q.z.11,M _ Q.z.12,M _ Q.z.13,M _ Q.z.14,M _ Q.z.15,M _ Q.z.16,M _ Q.z.17,M _ Q.z.18,M _ Q.z.19,M _ Q.z.20,M _ Q.z.21⟩
theorem Hs.dd{i:Nat}(Hh:Hs K n i)(k n0 np:Nat)(N:aal)(b:SF)
  (hb:∀ {f:aC} {ca:aB} {A:bM} {s:aF} {H:Hp} {P0:aC->Prop} (hr:Room k (A.deeper (AG n (dX (dx i)) s.heap.objs.size f ca))),Sx (dX (dx i)).names N->N.Nodup->(A.deeper (AG n (dX (dx i)) s.heap.objs.size f ca)).units+100<cLine->(A.deeper (AG n (dX (dx i)) s.heap.objs.size f ca)).units+40<cLine->jk (pC P w K mg base N n (dX (dx i)) f ca A s H) H P0 n0 (jT (dx i)) b)
  (S:FnScope N (N.take np) (dX (dx i)):=by constructor<;>first|rfl|decide +kernel) (h1:np=(N.take np).length:=by rfl) (h2:(N.take np).length<=N.length:=by decide)
  (bn:∀ f fd,Fun K n n (dx i) f fd->Binds K fd (N.take np) []:=by exact λ_ _ F=>F.binds λ_ _ _ _ _ _ us h=>by rcases us with _|⟨_,_|⟨_,_|⟨_,_|⟨_,_|⟨_,_|⟨_,_|⟨_,_⟩⟩⟩⟩⟩⟩⟩<;>first|(simp at h;done)|rfl):Def P w K mg base n (k+1) (N.take np) (sr K n0 (bw np N.length b)):=
 let ⟨_,_,F,a⟩:=Hh
 ⟨_,_,RM F S h1 h2 λca A s H P0 hr=>hb hr ⟨⟩ S.nd (HM hr) (FA hr),FL Q.X Q.G a,F.kp,bn _ _ F⟩
theorem HsD.dd{i:Nat}(Hh:HsD K n i)(k n0 np:Nat)(N:aal)(b:SF)
  (hb:∀ {f:aC} {ca:aB} {A:bM} {s:aF} {H:Hp} {P0:aC->Prop} (hr:Room k (A.deeper (AG n (dX (dx i)) s.heap.objs.size f ca))),Sx (dX (dx i)).names N->N.Nodup->(A.deeper (AG n (dX (dx i)) s.heap.objs.size f ca)).units+100<cLine->(A.deeper (AG n (dX (dx i)) s.heap.objs.size f ca)).units+40<cLine->jk (pC P w K mg base N n (dX (dx i)) f ca A s H) H P0 n0 (jT (dx i)) b)
  (S:FnScope N (N.take np) (dX (dx i)):=by constructor<;>first|rfl|decide +kernel) (h1:np=(N.take np).length:=by rfl) (h2:(N.take np).length<=N.length:=by decide)
  (bn:∀ f fd,FunD K n n (dx i) f fd->Binds K fd (N.take np) []/\Binds K fd (N.take np) [.none]:=by exact λ_ _ F=>⟨F.binds λ_ _ _ _ _ _ _ us h=>by rcases us with _|⟨_,_|⟨_,_|⟨_,_|⟨_,_|⟨_,_|⟨_,_|⟨_,_⟩⟩⟩⟩⟩⟩⟩<;>first|(simp at h;done)|exact⟨_,rfl,rfl⟩,F.binds λ_ _ _ _ _ _ _ us h=>by rcases us with _|⟨_,_|⟨_,_|⟨_,_|⟨_,_|⟨_,_|⟨_,_|⟨_,_⟩⟩⟩⟩⟩⟩⟩<;>first|(simp at h;done)|exact⟨_,rfl,rfl⟩⟩):DefN P w K mg base n (k+1) (N.take np) (sr K n0 (bw np N.length b)):=
 let ⟨_,_,F,a⟩:=Hh
 have G:=F.ok S h1 h2 λca A s H P0 hr=>hb hr ⟨⟩ S.nd (HM hr) (FA hr)
 ⟨⟨_,_,G,FL Q.X Q.G a,F.kp,(bn _ _ F).1⟩,_,_,G,FL Q.X Q.G a,F.kp,(bn _ _ F).2⟩
def rJ:=Hs.dd Q Q.a1 0 1 1 ["lines","names","line","term"] Ay (by sleep 1)
def F4:=Hs.dd Q Q.a2 0 1 1 ["alternative","terms","line"] Cy (by sleep 1)
def vT:=Hs.dd Q Q.a3 0 0 2 ["terms","known"] VD (by sleep 1)
theorem Uc{fd:jE}(F:Fun K "once" "once" (dx 6) f fd):FnOk P w K mg base 1 f fd ["lines"] (sr K 0 vD):=by
 have S:FnScope ["lines","kept","line"] ["lines"] (dX (dx 6)):=by constructor<;>first|rfl|decide +kernel
 have nd:=S.nd;have hB:=Q.B.tuple;have key:∀ (ds:aag) (d:aA),vD ds=aa d->∃ xs kss,ds=[.tuple xs]/\gC xs=aa kss/\xs.length<sizeLine/\d=.tuple ((eA kss).map cD):=by
  intro ds d e;unfold vD HF at e;split at e
  .obtain⟨kss,e1,e2⟩:=ar e;obtain⟨hl,rfl⟩:=cJ e2;exact⟨_,kss,rfl,e1,hl,rfl⟩
  .cases e
 refine F.ok S (λvs H Q h=>?_) (λca A s H vs Q hr h=>?_)
 .obtain⟨P0,ds,d,_,r,ef,_⟩:=h;obtain⟨xs,kss,rfl,_⟩:=key ds d ef;rw[r.length]
  rfl
 .obtain⟨P0,ds,d,hP,r,ef,k⟩:=h;obtain⟨xs,kss,rfl,ek,hl,rfl⟩:=key ds d ef;obtain⟨v,rfl,r1⟩:=fC r;obtain⟨a,us,rfl,ha,ru⟩:=Aal.1 r1;obtain⟨exs,hks⟩:=JC ek;have hu:=FA hr;refine⟨_,JF (MF (i:=1) nd rfl (by first|exact Or.inl rfl|exact Or.inr rfl) Zw)
   (JF (TQ (SV (pv 0 jI)) (tD (i:=2) nd rfl (by first|exact Or.inl rfl|exact Or.inr rfl)) (IK (Gc hu (pv 1 jI) (pv 2 jI) RU rfl)))
   (IK (MW (vW F6 rfl hB Iq (gJ (pv 1 jI) iN))))),?_⟩
  intro p hp;have hap:a≠p:=lY (Aam _ _ ha) hp;have aw:us.length=kss.length:=by rw[ru.length,exs,bT]
  refine⟨_,rfl,a,rfl,⟨us,SqT.of (Ext.new hp _ _ (Aam _ _ ha))⟩,Vi (K:=K) (a:=a) (xs:=us)
   (λi Z H2=>∃ n,H2=ax H p (.dT n (pJ (kss.take i)))/\∃ v,Z=[aa (.ref a),aa (.ref p),v]) ⟨_,rfl,ab,rfl⟩ (λi Z H2 _ gh=>by
    obtain⟨_,e,_⟩:=gh;rw[e];exact SqT.of (by rw[cN hap];exact Aam _ _ ha)) ?_ ?_⟩
  .rintro i x Z H2 hx ⟨n0,rfl,v,rfl⟩;have hi:i<us.length:=(cE.1 hx).1;have hki:kss[i]?=aa kss[i]:=eE ()
   have hxi:xs[i]?=aa (.tuple kss[i]):=by rw[exs,eD,hki];rfl
   obtain⟨v',h1,h2⟩:=ru.get hxi;have:v'=x:=fF (h1.symm.trans hx);subst this;obtain⟨c1,c2⟩:=hks kss[i] (eW hki);obtain⟨b,rfl,tk⟩:=(h2.ext Aam).tupK c1 c2;have tk2:Ajz (ax H p (.dT n0 (pJ (kss.take i)))) kss[i] b:=tk.keep λc ys ec=>by
    rw[cN (lY ec hp)];exact ec
   refine⟨_,rfl,_,rfl,p,_,rfl,.inr ⟨_,_,_,⟨_,eF⟩,rfl,tk2,?_,rfl⟩,?_⟩
   .have:=A0j (kss.take i);have h3:(kss.take i).length<=kss.length:=List.length_take_le' _ _;have h4:xs.length=kss.length:=by rw[exs,bT]
    lia
   .refine λn1=>⟨n1,?_,_,rfl⟩
    rw[Yr,<-m4,qB,hki]
    rfl
  .rintro Z H2 ⟨n0,rfl,v,rfl⟩;refine⟨_,rfl,p,_,_,rfl,eF,λl as lu jz=>?_⟩
   rw[show kss.take us.length=kss by rw[aw];exact rT] at jz lu ⊢
   have x2:Ext H (ax (ax H p (.dT n0 (pJ kss))) l (.tup (as.map V.ref))):=λc o ec=>Ext.new lu _ _ (Ext.new hp _ _ ec)
   refine k.zero x2 (Aal.2 ⟨l,_,rfl,(hP.ext x2).tup eF,?_⟩);rw[<-m8];exact Cr (λc ys ec=>(hP.ext x2).tup (Ext.new lu _ _ ec)) jz
theorem Rt:Def P w K mg base "once" 1 ["lines"] (sr K 0 vD):=
 let ⟨_,_,F,a⟩:=Q.a4
 ⟨_,_,Uc Q F,FL Q.X Q.G a,F.kp,F.binds λ_ _ _ _ _ _ us h=>by rcases us with _|⟨_,_|⟨_,_⟩⟩<;>first|(simp at h;done)|rfl⟩
def xX:=Hs.dd Q Q.a5 0 1 3 ["line","row","known","found","term","number","wanted"] TF (by sleep 1)
def o6:=Hs.dd Q Q.a6 0 0 2 ["book","line"] ZH (by sleep 1)
def EJ:=Hs.dd Q Q.a7 0 1 2 ["things","k"] ZN (by sleep 1)
def J6:=Hs.dd Q Q.a8 0 1 2 ["_law_script","_law_amount","_law_cells_here","_law_number"] Di (by sleep 1)
def F9:=Hs.dd Q Q.a9 0 1 1 ["_law_cell","_law_letters","_law_signs","_law_size","_law_at","_law_base","_law_names_here","_law_k","_law_sign"] Dc (by sleep 1)
def L0:=Hs.dd Q Q.a10 0 1 1 ["_law_cell","_law_big"] Ee (by sleep 1)
def K6:=Hs.dd Q Q.a11 0 1 2 ["_law_cell","_law_names_here","_law_wide","_law_called"] Dk (by sleep 1)
def K4:=Hs.dd Q Q.a12 0 0 2 ["_law_line","_law_names_here","_law_terms","_law_term"] Dw (by sleep 1)
def A4:=Hs.dd Q Q.a13 0 0 4 ["_law_cells_here","_law_lines_here","_law_names_here","_law_numbers_here","_law_there","_law_line","_law_head_here","_law_cell"] Ce (by sleep 1)
def A2:=Hs.dd Q Q.a14 0 0 2 ["_law_lines_here","_law_whole","_law_k","_law_line"] Bt (by sleep 1)
def Eg:=Hs.dd Q Q.a15 1 0 2 ["lines","known"] Ea (by have:=vT Q;sleep 1)
def Q1:=Hs.dd Q Q.a16 1 1 2 ["lines","k","elsewhere"] XM (by have:=rJ Q;sleep 1)
def n5:=Hs.dd Q Q.a17 1 1 3 ["found","line","rows","told","known","row","more"] Bq (by have:=xX Q;sleep 1)
def X0:=Hs.dd Q Q.a18 1 1 2 ["book","line"] ZV (by have:=xX Q;have:=o6 Q;sleep 1)
def O1:=Hs.dd Q Q.a19 1 1 2 ["line","other"] XO (by have:=rJ Q;sleep 1)
def Yy:=Hs.dd Q Q.a20 1 0 3 ["line","row","names"] WN (by have:=vT Q;have:=xX Q;sleep 1)
def Vx:=Hs.dd Q Q.a21 1 1 2 ["head","row"] Fg (by have:=xX Q;sleep 1)
def L6:=Hs.dd Q Q.a22 1 0 2 ["one","other","numbers","alternative"] Ei (by have:=F4 Q;sleep 1)
def Q3:=Hs.dd Q Q.a23 1 0 3 ["numbers","lines","above","names"] WH (by have:=rJ Q;sleep 1)
def E5:=Hs.dd Q Q.a24 1 0 5 ["_law_cells_here","_law_amount","_law_names_here","_law_numbers_here","_law_tables_here","_law_lines_here","_law_k","_law_own","_law_table","_law_wide","_law_terms","_law_cell"] Da (by have:=K4 Q;sleep 1)
def J7:=Hs.dd Q Q.a25 1 0 2 ["_law_one","_law_whole"] Dg (by have:=A2 Q;sleep 1)
def D5:=Hs.dd Q Q.a26 2 0 3 ["lines","left","k","wanted","j"] Bv (by have:=Q1 Q;sleep 1)
def Zb:=Hs.dd Q Q.a27 2 0 2 ["lines","rows","found","line","own"] VB (by have:=n5 Q;sleep 1)
def K3:=Hs.dd Q Q.a28 2 1 2 ["book","lines"] Du (by have:=X0 Q;sleep 1)
def Ed:=Hs.dd Q Q.a29 2 1 4 ["line","rows","other","others","names","met"] Dx (by have:=O1 Q;have:=Yy Q;sleep 1)
def O9:=Hs.dd Q Q.a30 2 0 2 ["alternative","above","known","book","table","row"] VI (by have:=rJ Q;have:=vT Q;have:=Eg Q;sleep 1)
def L5:=Hs.dd Q Q.a31 2 1 1 ["_law_script","_law_cells_here","_law_names_here","_law_numbers_here","_law_tables_here","_law_amount","_law_wide","_law_question_here","_law_at","_law_k","_law_lines_here","_law_heads"] Eh (by have:=J6 Q;have:=F9 Q;have:=L0 Q;have:=K6 Q;have:=A4 Q;have:=E5 Q;sleep 1)
def D9:=Hs.dd Q Q.a32 2 0 2 ["_law_found","_law_question_here","_law_k","_law_one"] Bx (by have:=J7 Q;sleep 1)
def Y5:=Hs.dd Q Q.a33 3 0 2 ["lines","rules","i","line","number","rule"] ZW (by sleep 1)
def D7:=Hs.dd Q Q.a34 3 0 2 ["lines","left","k","parent"] Cg (by have:=D5 Q;sleep 1)
def Mj:=Hs.dd Q Q.a35 4 0 2 ["alternative","rules","number","rule","step"] RE (by have:=Y5 Q;sleep 1)
def BX:=Hs.dd Q Q.a36 4 0 1 ["lines","taken","left","ear"] UH (by have:=D7 Q;sleep 1)
def Vd:=Hs.dd Q Q.a37 5 0 2 ["alternative","rules","stands","steps","step"] Hl (by have:=Rt Q;have:=Mj Q;sleep 1)
def K9:=Hs.dd Q Q.a38 5 1 2 ["lines","kept","told","ear","parent"] Ec (by have:=Ed Q;have:=BX Q;sleep 1)
def B2:=Hs.dd Q Q.a39 5 0 2 ["lines","kept","rest"] Bw (by have:=Zb Q;have:=BX Q;sleep 1)
def B9:=Hs.dd Q Q.a40 5 1 2 ["lines","kept","told","ear","parent"] Ci (by have:=Ed Q;have:=BX Q;sleep 1)
def B7:=Hs.dd Q Q.a41 6 1 2 ["lines","kept","told","found","k"] Cu (by have:=vT Q;have:=BX Q;have:=B2 Q;sleep 1)
def v5:=Hs.dd Q Q.a42 7 1 2 ["lines","kept"] Bg (by have:=K9 Q;have:=B9 Q;have:=B7 Q;sleep 1)
def t4:=Hs.dd Q Q.a43 8 0 2 ["book","lines","kept","known","k","line"] Bp (by have:=rJ Q;have:=vT Q;have:=xX Q;have:=K3 Q;have:=v5 Q;sleep 1)
def E6:=Hs.dd Q Q.a44 9 0 3 ["book","alternative","row","known","lines","numbers"] Cz (by have:=rJ Q;have:=vT Q;have:=Eg Q;have:=Vx Q;have:=t4 Q;sleep 1)
def G8:=Hs.dd Q Q.a45 10 0 3 ["book","question","row","number","alternative","numbers"] Dl (by have:=E6 Q;sleep 1)
def F5:=Hs.dd Q Q.a46 11 0 4 ["alternative","other","rules","above","ended","ice","found","names","pairs"] Dh (by have:=rJ Q;have:=Q3 Q;have:=O9 Q;have:=Vd Q;have:=G8 Q;sleep 1)
def DJ:=HsD.dd Q Q.a47 12 0 3 ["one","other","rules","above","told","number","own","past"] VX (by have:=L6 Q;have:=F5 Q;sleep 1)
def K8:=Hs.dd Q Q.a48 13 0 3 ["alternative","k","rules","shorter","names","alone"] Dn (by have:=rJ Q;have:=EJ Q;have:=DJ Q;have:=(DJ Q).d;sleep 1)
def L8:=Hs.dd Q Q.a49 13 0 3 ["question","k","rules"] Ek (by have:=EJ Q;have:=DJ Q;have:=(DJ Q).d;sleep 1)
def K0:=Hs.dd Q Q.a50 14 0 2 ["alternative","rules","k"] Dv (by have:=K8 Q;sleep 1)
def L7:=Hs.dd Q Q.a51 15 0 2 ["alternative","rules","stands","k"] Ej (by have:=EJ Q;have:=K0 Q;sleep 1)
def Er:=HsD.dd Q Q.a52 16 1 2 ["question","rules","stands","k"] Gs (by have:=EJ Q;have:=L8 Q;have:=L7 Q;sleep 1)
end
theorem all_mk {P:bE}{h:aP}{mg:aD->aap}{fa:aC}(hfa:mg "law" = aa (.ref fa))(Q:∀ base,Al P w K mg base h) :
  ∃ fd:jE,(∀ (s:aF) (v:aB),BindsTo s fd ⟨[v],[]⟩ [("_law_script",v)])/\∀ base:aP,K.In base->base.Ns fX mg->FnOk P w K mg base 18 fa fd ["_law_script"] (BL K):=by
 obtain⟨f,fd,F,a⟩:=(Q h).a53;cases hfa.symm.trans (FL (Q h).X (Q h).G a);refine⟨fd,λs v=>?_,λbase _ _=>?_⟩
 .obtain⟨_,_,_,_,_,_,_,_,_,rfl,_⟩:=F.ex;exact .of_eq rfl
 have Q:=Q base;refine(RM F (N:=["_law_script","_law_question_here","_law_handed","_law_found","_law_kept","_law_none","_law_other","_law_third"]) (ps:=["_law_script"]) (by constructor<;>first|rfl|decide +kernel) rfl nofun λca A s H P0 hr=>?_).imp Qj
 have hS:Sx (dX (dx 82)).names ["_law_script","_law_question_here","_law_handed","_law_found","_law_kept","_law_none","_law_other","_law_third"]:=⟨⟩;have nd:(["_law_script","_law_question_here","_law_handed","_law_found","_law_kept","_law_none","_law_other","_law_third"]:aal).Nodup:=by rw[0]
 have hu:=HM hr;have hv:=FA hr;have:=L5 Q;have:=D9 Q;have:=Er Q;have:=(Er Q).d;sleep 0;refine Xu (by assumption) (hr.mono (by decide)) rfl ?_ (by decide) rfl rfl;sleep 0
theorem walk {l:PySem.W.OpenLaw}{q:bE}{jf:aal}{XP:(aD->aap)->aP->Prop}{YP:aX->aP->Prop}{d:DefRec}{K:Params->aI}(hn:l.most=aa 63)(LT:d.params.defaults=[])
  (hY:∀ (w:aX) (h:aP),YP w h->(K w.params).In h)
  (F:∀ (w:aX) (mg:aD->aap) (fa:aC) (h:aP),(K w.params).In h->h.Ns fX mg->mg d.name=aa (.ref fa) ->
   ∃ fd:jE,(∀ (s:aF) (u:aB),BindsTo s fd ⟨[u],[]⟩ [("_law_script",u)])/\∀ base:aP,(K w.params).In base->base.Ns fX mg->FnOk l.prog w (K w.params) mg base 18 fa fd ["_law_script"] (BL (K w.params))) :
  PySem.W.WalkO q jf XP YP l.row.toRowW d [] (λf vs=>PySem.call f vs):=
 L2.A8x (n:=63) (k:=18) (x:="_law_script") (sp:=λw=>BL (K w.params)) hn nofun LT ⟨rfl,nofun,nofun⟩ hY F (λ_ _ a ns hb hl _ hS=>⟨a,ns,rfl,hS,hl,hb,λ_=>rfl⟩)
end Aw
namespace PySem.W.Fast
def tw3000258317055472864:=0
def tw8160913548562726482:=0
def tw14230751498421521957:=0
def tw4684389440133820037:=0
def tw13954015669524312035:=0
def tw2742919144645753407:=0
def tw12672606904503318183:=0
def tw1640231415331513151:=0
def tw2810585279732274655:=0
def tw466824974711642549:=0
def tw2449576460055996290:=0
def tw4602356179342662601:=0
def tw14041120750665647761:=0
def tw15080700608597719410:=0
def tw16382187067388305387:=0
def tw13840531836680837839:=0
def tw2607710091731175928:=0
def tw13052309093070642876:=0
def tw16564341935513930000:=0
def tw1762484235368745562:=0
def tw4110934463555845746:=0
def tw1051354941431368360:=0
def tw31374862556697146:=0
def tw12800768511065134104:=0
def tw464693788786602245:=0
def tw10181364416174072617:=0
def tw4447349790270365739:=0
def tw16054384453800156920:=0
def tw3091273358147375134:=0
def tw9335067637544316075:=0
def tw12531066782971176932:=0
def tw14544864141365562323:=0
def tw7008352212470191126:=0
def tw7600907967431043840:=0
def tw8100679294829414623:=0
def tw8050572138975600961:=0
def tw10940939264589269404:=0
def tw7131407481438650747:=0
def tw9564110267690563658:=0
def tw2688237382886030064:=0
def tw17182962208373807462:=0
def tw1400078485700157245:=0
def tw10081258878419513214:=0
def tw6068213047721610708:=0
def tw15551300770480136521:=0
def tw2596449376659996863:=0
def tw11489345398146260188:=0
def tw10670528876898785417:=0
def tw18112876572822720366:=0
def tw12715113407611796382:=0
def tw15243032992178831830:=0
def tw4294506988887716989:=0
def tw783007977556759495:=0
def tw134857002723693685:=0
def tw3364052560317961307:=0
def tw4938532079436867432:=0
def tw7972498191801309675:=0
def tw4409967477343833309:=0
def tw8067102595746855528:=0
def tw6295909288392209085:=0
def tw12925263373432011509:=0
def tw18322916248028308189:=0
def tw17038541488247804172:=0
def tw3276854790355246556:=0
def tw1939582162374223662:=0
def tw7446508307877975226:=0
def tw12816544963684273668:=0
def tw14817837938229128019:=0
def tw2638602548972051318:=0
def tw17959485396569113395:=0
def tw106554695162956022:=0
def tw103290648392959791:=0
def tw17097886671128834391:=0
def tw14485779224775695894:=0
def tw5534274887829500929:=0
def tw1514438692085195840:=0
def tw15831078731586752606:=0
def tw15421231520594276870:=0
def tw5513503621747009748:=0
def tw11552265021014651037:=0
def tw5600720965708248708:=0
def tw8302340831818216702:=0
def tw7138437269402577886:=0
def tw9113441502416677926:=0
def tw3553439248116713392:=0
def tw5629165014210419232:=0
def tw12739186007934740678:=0
def tw7088564156618607408:=0
def tw119516946222319726:=0
def tw16663908979402347258:=0
def tw3850220908850458606:=0
def tw16871078976579084637:=0
def tw10240689930076097324:=0
def tw16932428472546602788:=0
def tw4030302231329691433:=0
def tw7193683873984050881:=0
def tw18276456169279166761:=0
def tw16914552775940727526:=0
def tw13435683370206744780:=0
def tw3900744333107664539:=0
def tw12106170853300145133:=0
def tw7076112662243655561:=0
def tw16904757428784785610:=0
def tw11449856205227940584:=0
def tw13708962534444822741:=0
def tw6917593874035176917:=0
def tw5551052398843163354:=0
def tw8463587412310157699:=0
def tw15562121172678513004:=0
def tw7274201214191398148:=0
def tw15426589419073286417:=0
def tw11788196185223809037:=0
def tw2386702866369897858:=0
def tw6970512244729898082:=0
def tw12919766503953972211:=0
def tw16819891230937061914:=0
def tw13618159645012531536:=0
def tw16770588412731984907:=0
def tw12324724345851543053:=0
def tw5011119650221133315:=0
def tw12276296372466585901:=0
def tw11854949344142614455:=0
def tw9251877538429238482:=0
def tw1336500760203165628:=0
def tw9075883677831935784:=0
def tw4667352923263239151:=0
def tw6448041016202939766:=0
def tw3091204871167249405:=0
def tw6352177741232639885:=0
def tw7275268701159650382:=0
def tw7507435463607410416:=0
def tw7401806101498252464:=0
def tw6996821211895775516:=0
def tw1896166573346634029:=0
def tw4652500532563605566:=0
def tw13982186206994501404:=0
def tw1827275633218945271:=0
def tw4508172025954987479:=0
def tw16833505071556435687:=0
def tw6373972999945206994:=0
def tw9577190014602730083:=0
def tw15024319917177095619:=0
def tw7000915070726065455:=0
def tw15929269711170236544:=0
def tw12195519495205928756:=0
def tw1582925114559619223:=0
def tw12994489893189735996:=0
def tw5536508471907505780:=0
def tw17677680165548892099:=0
def tw7205328223644325322:=0
def tw11654974689189224002:=0
def tw15866878244133851565:=0
def tw11896108668596715011:=0
def tw3348801613349553479:=0
def tw14251272127707007432:=0
def tw4483519413494480032:=0
def tw3381252591064777910:=0
def tw17027177341423572408:=0
def tw13575734198566829896:=0
def tw16890797295953744529:=0
def tw11059042025541831324:=0
def tw4551698767577016756:=0
def tw12558027039513813735:=0
def tw9740991522547262837:=0
def tw12649078137174634462:=0
def tw1812549106857332373:=0
def tw9908763736104010142:=0
def tw1241352455296261560:=0
def tw10325578803777082455:=0
def tw14552504519907129228:=0
def tw13070147429743956407:=0
def tw9573203787472058466:=0
def tw10712498959687260818:=0
def tw12262788351977385019:=0
def tw2501384404771828325:=0
def tw8108504046761986597:=0
def tw3766693258775183029:=0
def tw16600470914228072438:=0
def tw12940475501176761847:=0
def tw12443414945521423972:=0
def tw4716985136393852882:=0
def tw10658949163227361973:=0
def tw6382205775631058594:=0
def tw8136040718747884169:=0
def tw15426942566129769426:=0
def tw8235771033302873219:=0
def tw1766830681935295555:=0
def tw1456184629113265463:=0
def tw9057944829481182523:=0
def tw18177046502320247640:=0
def tw7967894319784905734:=0
def tw17910500330569531928:=0
def tw14541270604186950400:=0
def tw12216538381071589309:=0
def tw3826151412979483579:=0
def tw17473542240959860366:=0
def tw8294080506681516375:=0
def tw12997740612189911147:=0
def tw359906373457279328:=0
def tw3894279395988012132:=0
def tw11349676688442240887:=0
def tw11565925074312426480:=0
def tw5110539223884403866:=0
def tw14685689842749979107:=0
def tw1241378197005183467:=0
def tw2609105226934123132:=0
def tw11849576963678076681:=0
def tw5243649583200851413:=0
def tw5635077865367167994:=0
def tw13284575600766039276:=0
def tw1913556984118512259:=0
def tw15052010091581525176:=0
def tw7532721241945096582:=0
def tw10521619110643497375:=0
def tw10010470159638535861:=0
def tw15897407094090924626:=0
def tw15281635583379870658:=0
def tw10245231848754684103:=0
def tw3126112304642555992:=0
def tw7784640920421671881:=0
def tw11664657841708655338:=0
def tw1085472715771666150:=0
def tw6319059425354758990:=0
def tw3840450068193124922:=0
def tw18099356915147851637:=0
def tw12575761125567700603:=0
def tw3338078939306274956:=0
def tw6856675922364000875:=0
def tw13376544407650001099:=0
def tw15664332807823696670:=0
def tw11165368627354481441:=0
def tw9841938663084058176:=0
def tw10813046364861630623:=0
def tw6728769563668689945:=0
def tw5902552412832129239:=0
def tw7013874161896143956:=0
def tw4688217513017864847:=0
def tw2785327630512588359:=0
def tw9947259517739318797:=0
def tw13635465430866269658:=0
def tw2295451095985806199:=0
def tw17207563059841851720:=0
def tw11801087422838477245:=0
def tw4365340913733027954:=0
def tw17887702379721606600:=0
def tw1832193052067224412:=0
def tw16398841629479889355:=0
def tw15781341982387621980:=0
def tw14429908141315808341:=0
def tw12003503276479500914:=0
def tw6813990842473153354:=0
def tw18097834559404390379:=0
def tw16392971079265855085:=0
def tw15146499473590163950:=0
def tw8975141923062016016:=0
def tw16083184413672206144:=0
def tw13956395097892989650:=0
def tw12403345694808367275:=0
def tw8979962675355260414:=0
def tw444083192053963699:=0
def tw9420829442933387618:=0
def tw2592687760861203460:=0
def tw8980064398418365418:=0
def tw13485483319990471576:=0
def tw2337820184722551017:=0
def tw1949198202721675556:=0
def tw13758108283974894163:=0
def tw16261322093101868318:=0
def tw3631564709437817155:=0
def tw14938848898539763268:=0
def tw6313840827095248272:=0
def tw1027313567660130609:=0
def tw8816685158873414676:=0
def tw18413961716720767756:=0
def tw16774856767132189052:=0
def tw8761008324574349217:=0
def tw14123703905912585898:=0
def tw17393934022723191390:=0
def tw3179856849769097952:=0
def tw5446872646270391201:=0
def tw3338594416232060596:=0
def tw9120286785908768102:=0
def tw5669193973311031724:=0
def tw12820447117301904640:=0
def tw7525627709671682405:=0
def tw11415917359731867523:=0
def tw9687419532199551872:=0
def tw16016609870621483269:=0
def tw15020801708025194481:=0
def tw6917555035991481709:=0
def tw2930567017158015188:=0
def tw12164344669140736213:=0
def tw9131254682056543842:=0
def tw8059172998147770679:=0
def tw755112398788447859:=0
def tw7587582689704052885:=0
def tw5228473498032826656:=0
def tw8008197649033248958:=0
def tw3152282415040673269:=0
def tw2699733531452313012:=0
def tw1145174636476823889:=0
def tw11388587905171859782:=0
def tw13540807115800357197:=0
def tw13350763079463667170:=0
def tw10485736718983756568:=0
def tw1820953735119902511:=0
def tw18423717886575794947:=0
def tw14041974578166571362:=0
def tw1842673910258817860:=0
def tw5433436155218900655:=0
def tw10577663282586073737:=0
def tw5869115233484483761:=0
def tw1751693682498164056:=0
def tw737835744118953236:=0
def tw434729379897618301:=0
def tw11778182183964850436:=0
def tw6529767272579877280:=0
def tw12667671283427518992:=0
def tw4484677034788890904:=0
def tw13699582949442522249:=0
def tw9791267262876492908:=0
def tw2620681022279191333:=0
def tw12300890130925460826:=0
def tw2984027000246572805:=0
def tw1562133609156767971:=0
def tw10047095171692715981:=0
def tw1606587699436395797:=0
def tw15979639650064723332:=0
def tw18115216971648474958:=0
def tw14966807093729085121:=0
def tw2266654361005370167:=0
def tw11206874292056371492:=0
def tw5644876749153258298:=0
def tw14449882396694820496:=0
def tw11292913219051284712:=0
def tw7392712327943062750:=0
def tw634510033214688797:=0
def tw13996467463376891343:=0
def tw13327535171857451011:=0
def tw10264932777089573602:=0
def tw2150362663191613274:=0
def tw13413476911855287047:=0
def tw1462592720082666836:=0
def tw8892015524440243388:=0
def tw3407100480353034357:=0
def tw5753542263220947106:=0
def tw14513757088771714576:=0
def tw4266239422196473681:=0
def tw15935916769043662530:=0
def tw6713633516900719783:=0
def tw7854224429604670465:=0
def tw7581080019075541631:=0
def tw255088727097639168:=0
def tw9291340237643649891:=0
def tw15609525976291470590:=0
def tw4004357794640144451:=0
def tw5889146841851073029:=0
def tw18012021748398953312:=0
def tw4276275909673613726:=0
def tw578621877504250131:=0
def tw7421769518947954081:=0
def tw17041632442775587048:=0
def tw5235600847242484517:=0
def tw1697088058173240907:=0
def tw4961217584155222468:=0
def tw13136217618746451026:=0
def tw11482374251696510220:=0
def tw944619498631932681:=0
def tw13420057066204993196:=0
def tw5036827949862702275:=0
def tw12868766359610330059:=0
def tw10983449726181040668:=0
def tw13698168217831588892:=0
def tw3432921541869121781:=0
def tw13065394679358401036:=0
def tw6011580026015881083:=0
def tw18152743546943707062:=0
def tw2273943407860165396:=0
def tw12589412600951697513:=0
def tw14396846705421582445:=0
def tw12990519033678907853:=0
def tw18304665443987459097:=0
def tw1212429496636890229:=0
def tw18046777877762790320:=0
def tw2250432356152782421:=0
def tw406865553494744213:=0
def tw13656261103041838829:=0
def tw2880370307853304135:=0
def tw5620167376971333769:=0
def tw7305900402190991119:=0
def tw3580000427027988565:=0
def tw16533100527098742394:=0
def tw9743582522249942664:=0
def tw2120524043788136693:=0
def tw18283946413005488802:=0
def tw10752510205258968672:=0
def tw17300744603243358963:=0
end PySem.W.Fast
open PySem PySem.W PyProof.Rows
set_option maxRecDepth 100000 in
set_option maxHeartbeats 0 in
theorem PySem.Challenge.cw_askwithin_k57_what_stays_holds : PySem.Challenge.rw_askwithin_k57_what_stays.Holds := by
 w_on;o_law;k_head;(case hw=>w_witness2)
 k_fill
 refine Aw.walk (l:=PySem.Challenge.rw_askwithin_k57_what_stays) rfl rfl (λw h al=>PySem.W.kIn_of al) ?F
 case F=>
  intro w mg fa h KX G M';refine Aw.all_mk (h:=h) M' λ_=>?_;refine' ⟨KX,G,?_,?_,?_,?_,?_,?_,?_,?_,?_,?_,?_,?_,?_,?_,?_,?_,?_,?_,?_,?_,?_,?_,?_,?_,?_,?_,?_,?_,?_,?_,?_,?_,?_,?_,?_,?_,?_,?_,?_,?_,?_,?_,?_,?_,?_,?_,?_,?_,?_,?_,?_,?_,?_,?_,?_,Aw.Bo7 ?q1 ?s1 ?l1 ?v1,⟨?_,?_,?_,?_,?_,?_,?_,?_,?_,?_,?_,?_,?_,?_,?_,?_,?_,?_,?_,?_,?_⟩⟩;any_goals refine' Aw.Boj ?_ ?_ ?_ ?_
  any_goals refine' Aw.Bng ?_
  any_goals refine' Aw.Bme ?_ ?_ ?_ ?_ ?_ ?_
  (case q1=>k_is);(case l1=>k_is);(case s1=>rfl);(case v1=>exact L2.Bon [("clash",5,_,_),("same",5,_,_),("put",3,_,_)] _ (by rw[0]))
  any_goals k_is
  any_goals rfl
