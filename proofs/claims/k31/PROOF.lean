import PyProof.Rows.All
import Wide.All
import OpenK.AllK
import Wide.FinOn
import Lean
import PyProof.EqAt
import PyProof.EqKinds
import PyProof.TupleCall
import PyProof.TupleOfStr
import PyProof.ListStr
import PyProof.ZipIter
import PyProof.TupleIter
import PyProof.EnumMake
import PyProof.ListRange
import PyProof.AttrMissHeap
import KE.KSortTup
import PyProof.Rows.SortShellK
import PyProof.SetKind
import PyProof.Rows.SetFrom
import PyProof.AutoListH
import PyProof.ListNew
import PyProof.FactsAll.list_2
import PyProof.CollectWalk
import PyProof.MeetsSeq2
import PyProof.FactsAll.list_4
import PyProof.AutoSeq1
import PyProof.ConsumeWalk
import PyProof.IsRules
import PyProof.DictItemsLoops
import PySem.Builtin.SmallTypes.W2All
import PyProof.ListMulRoad
import PyProof.Rows.SeqMore
import PyProof.FactsAll.tuple_2
import PyProof.StrOps2
import PyProof.WalksMore
import KE.KMinKey
import PyProof.Rows.CallKwBuiltin
import PyProof.FactsAll.zip_1
import PyProof.Rows.SortStr
import PyProof.MeetsDictList
import PySem.Challenge.RW_askwithin_k31_least_match
open PySem renaming PyData->aA,Addr->aC,Value->aD,Str->aE,wpAny_bind->aG,Shared->aH,wpAny->aL,wpAny_pure->aM,model->aP,Expr->aQ,Heap->aU,World->bA,Obj->bD,Pos->bH,Program->bJ,Around->bP,starEach->bX,eval->bY,rawInt->dF,Paired->dG,Env->dW,Stmt->eK,SetTable->eM,wpAny_holding->eY,assignEach->eZ,wpAny_call_entry->fU,Scope->fW,wpAny_field->gC,pyNext->gJ,compareOp->gK,backTo->gL,cellsFrom->iG,sysModules->iY,NameKind->jB,wpAny_seqItems->jM,wpAny_newObj_type->jN,mainGlobals->jO,codeAny_builtin->jP,codeAny->jQ,assign->jR,binaryOp->kC,wpAny_setField_rec->kO,wpAny_mono->kP,swapsWith->kQ,plainId_quiet->kR,Reads->kS,wpAny_rule->lJ,wpAny_callSpecial?_slot->lL,ReadsAll->lM,Spec->lO,FuncData->mB,sizeLine_eq->mL,bootBuiltins->mM,pyIter->nE,holding->nF,argBest->nG,wpAny_typeOf->oJ,merged->oK,foldedSetIterable->oM,atKey->oO,Result->oP,IsPair->oV,wpAny_ite_split->pY,wpAny_isInstance->pZ,wpAny_attempt->qA,storedH->qB,getItem->qC,field->qE,argsOk->qF,IsPart->qL,IsEnum->qM,DictEntry->qP,wpAny_letGo->rS,wpAny_updateSeq->tX,wpAny_specialOf->tY,wpAny_setState_of->tZ,stored->uA,isSubtype_type->uB,entryFor->uC,GenState->uM,wpAny_pyIter_list->wD,wpAny_passesOwn->wF,wpAny_of_eq->wG,wpAny_newList->wH,valueAt->wI,typeLookup_type->wJ,sliceBounds->wK,relabel->wL,codeAny_mono->wM,callerA->wN,builtinLookup_eq_fast->wO,behindInMarks->wQ,mem_of_lookup->wR,PassesOwn->wV,wpAny_forIn_list->AA,updateSeq->AB,wpAny_tryCatch->FN,wpAny_truthy_bool->FO,wpAny_pyIter_slot->FP,wpAny_askSetting->FQ,typeLookup->FR,ofAClassStatement->FS,isSubtype_stop->FT,call_meets->FU,wpAny_typeNameOf_keyiter->OL,wpAny_typeNameOfWhole_keyiter->OM,wpAny_throw->ON,wpAny_standAt->OO,wpAny_setField->OP,wpAny_onRaise->OQ,wpAny_newTuple->OR,wpAny_handled->OS,wpAny_fieldsOf->OT,wpAny_execs_nil->OU,wpAny_Call_Name_kw->OV,unsupported->OW,swapsWithSole->OX,swappedStores->OY,subscripted->OZ,signature?_of->PD,richCompare->PF,letOwnedTupleGo->PH,firstArgMember->PJ,entryFor_of_tree->PM,entryFor_alias->PN,concat_meets->PP,attributeBase->PQ,Slot->PY,Fin->PZ,wpAny_updateSeq_pair->Ij,wpAny_tupleItemsOf->Ik,wpAny_setEntries_of->Il,wpAny_dictEntries->Im,noFill_tuple_add->Io,codeAny_call_builtin->Ip,boot_len->Iu,SetTable->Jc
open PySem.W renaming Frag->aK,kia_one->mN,fnOf->wU,nsIn->AC,keepIn->FW,mg_of->PV,codeIn->PX,methodObj->Iv,lookIn->Iw,kitx_list->Iy,kitx_dict->Iz,kitOne->Ja,instObj->Jb
open PySem.PyData renaming int->aT,eqv->bZ,str->cE,canLay0->cH,depthAll->cU,tuple->dM,depth->kF,bool->kT,list->qG,eqvAll->AG,canLayAll0->AH,dict->QD
open Nat renaming le_refl->bB,ne_of_lt->cO,le_trans->dI,zero_le->eG,lt_of_lt_of_le->kU,ne_of_gt->lT,lt_irrefl->nJ,le_of_lt->qI,pow_succ->wW,lt_trichotomy->wX,mod_lt->AJ,lt_succ_of_lt->AK,le_succ->AL,lt_of_le_of_lt->FZ,add_assoc->GA,pow_le_pow_right->QG,mul_le_mul->QH,lt_succ_self->QI,le_of_eq->QJ,le_add_right->QK,le_of_succ_le->Jm
open List renaming mem_cons_self->bE,mem_map->bK,mem_cons_of_mem->bL,range->bW,mem_singleton->cF,length_map->cJ,getElem?_eq_some_iff->cK,mem_cons->cV,map_cons->cW,all_eq_true->cY,map_map->dC,size_toArray->dU,mem_range->eR,mem_of_getElem?->eT,getElem?_map->eU,length_cons->fA,getElem?_eq_getElem->fY,find?_cons->gD,toArray->iB,map_append->iH,nodup_cons->jC,map_congr_left->jD,getD_eq_getElem?_getD->jE,mem_flatten->jT,getElem?_set_ne->kG,append_nil->kW,foldl_cons->lW,filter_eq_self->lY,getElem?_set_self->nK,replicate->oQ,mem_filter->oR,mem_append_right->oT,mem_append->oU,getElem_of_mem->qJ,getElem_mem->qK,length_append->rT,flatten_cons->rU,take_add_one->uH,not_mem_nil->uI,mem_filterMap->uJ,foldl_append->uK,any_cons->uL,take_length->wY,pairwise_map->wZ,length_zip->xA,length_set->xB,length_range->xC,length_filterMap_le->xD,eraseIdx_cons_succ->xE,cons_append->xF,zipWith->AM,nodup_nil->AN,nodup_append->AO,flatMap_cons->AQ,cons_lt_cons_iff->AR,pairwise_iff_getElem->GB,mem_flatMap->GC,length_filter_le->GD,getElem?_append_left->GE,findSome?_cons->GF,filterMap_cons->GG,ext_getElem->GH,drop_eq_getElem_cons->GI,any_eq_true->GJ,zip_cons_cons->QO,take_append_drop->QP,of_mem_zip->QQ,map_take->QR,lookup_cons->QS,length_take->QT,getElem?_range->QU,getElem?_cons_succ->QV,find?_eq_none->QW,append_assoc->QX,nodup_range->Jn,mem_of_find?_eq_some->Jo,mem_iff_getElem?->Jp,mem_iff_getElem->Jq,map_drop->Jr,lt_irrefl->Js,length_singleton->Jt,length_pos_iff->Ju,length_eq_zero_iff->Jv,getElem?_append_right->Jw,forIn_cons->Jx,ext_getElem?->Jy,eraseIdx_eq_take_drop_succ->Jz,drop_length->Ka,take_succ_eq_append_getElem->M9,length_erase_of_mem->N0,exists_of_findSome?_eq_some->N3
open PySem.Heap renaming get?_push_of_some->bF,lt_size->bM,get?_push_size->cI,size_push->mO,SameBut->mP,get?_update_other->qN,get?_update_self->rV,ExtBut->AS,get?_push_ne->GK
open Option renaming bind_some->bQ,map_eq_some_iff->gM,isSome_iff_exists->uG,map_eq_none_iff->FY,isSome->QE,isSome_map->Jl
open Option.some renaming inj->dY
open PySem.Value renaming none->eE,ref->eJ,type->kE,str->uD,int->uE
open PySem.Obj renaming mapSeq->fM,putSet->AI,data_mapFields->QF
open PyProof.Rows renaming seqObj->fV,AllBare->rW,envOfC->AD,boot_list->AE,callWith_type1->FX,slot_tuple_getitem->PB,slot_list_sort->PC,entry_list_sort->PK,args_list_sort->PR,boot_sorted->QB,boot_dict->QC,slot_tuple_getitem->Jj,mulOk_of_bits->M7,boot_tuple->M8
open Ne renaming symm->fX
open Or renaming inl->gU,inr->jS
open Bool renaming false_eq_true->gV,and_eq_true_iff->iI,false_ne_true->kX,eq_iff_iff->nL,true_and->xH,not_true->AZ,and_self->GN,and_eq_true->RM,or_eq_true_iff->Ko
open Sum renaming inr->jA,inl->uF
open Array renaming length_toList->jU,getElem?_eq_getElem->mR,getElem?_toList->oY,getElem?_eq_some_iff->uO,toList_inj->RN,toList_filterMap->RO,getD_eq_getD_getElem?->RP,forIn_toList->RQ,getElem?_eq_none->Kp,perm_iff_toList_perm->N8
open PySem.Around renaming under_plainId->kY
open PySem.Paired renaming length->lQ
open PySem.NameKind renaming free->lV,cell->QL
open PySem.Builtin.Int renaming intBits->mQ
open True renaming intro->nH
open Int renaming toNat_natCast->oW,ofNat->oX,natCast_mul->Ke,eq_ofNat_of_zero_le->Kf
open PySem.PassesOwn renaming never->qH
open False renaming elim->qO
open PySem.F renaming called_set->uN,plain_min_loop->AV,slot_tuple_hash->GL,slot_dict_keyiterator_next->GM,plainAttrs_list->QA,slot_zip_next->RA,slot_tuple_iterator_next->RB,slot_list_reversed->RC,slot_enumerate_next->RD,plain_list_iadd->RE,slot_tuple_add->Jd,slot_dict_setdefault->Je,slot_dict_get->Jf,plainAttrs_dict->Jg,entry_tuple_add->Jh,args_tuple_add_2->Ji,slot_list_getattribute->Kg,type_dict_setdefault->M4,slot_list_index->M5,args_dict_get_3->M6,slot_dict_itemiterator_iter->N5,entry_dict_keyiterator_next->N6,args_dict_keyiterator_next_1->N7
open PySem.Heap.SameBut renaming update->xG
open ForInStep renaming yield->AU
open PySem.Builtin.Tuple renaming tupleHashOf->AW,tupleExact->RH,tupleItemsOf->Kj
open PySem.Builtin.SmallTypes renaming nextOf->AX,ownedTupleIsFree->RJ,ownedTupleHandOut->Kk
open PySem.Builtin.List renaming listExtendWith->AY,listSameRef->RL,listLengthHint->Km
open PySem.SetTable renaming fresh->FV,fill->PU
open Array.Perm renaming refl->GO
open PySem.MeetsSeq renaming plain_index_loop->QM,EqGives->QN
open List.Perm renaming refl->QY,eq_of_pairwise->N4
open List.Nodup renaming length_le_of_subset->QZ
open Classical renaming byContradiction->RF
open PySem.Calls renaming call_function_entry->RG,spliced_cons->Ki
open PySem.Builtin.Str renaming occurrences->RI
open PySem.Builtin.Slice renaming slicePlaces->RK,sliceAdjust->Kl
open String renaming splitOnAux->Iq,splitOn->Ir
open PySem.PyData.tuple renaming inj->Jk
open List.cons renaming injEq->Kb
open List.Pairwise renaming nil->Kc,imp_of_mem->Kd
open PyProof.Rows.F renaming plain_set_update_loop->Kh
abbrev aau:=List aQ
abbrev aas:=Option Int
abbrev aar:=List Nat
abbrev aap:=Option aD
abbrev aan:=List aC
abbrev aam:=List aD
abbrev aal:=List Int
abbrev aak:=List aE
abbrev aaj:=Option aA
abbrev aah:=List aA
abbrev aae:=Array (Int×aD)
abbrev aad:=List aan
abbrev aac:=List (aE×jB)
abbrev xL:=Array (Option Nat)
abbrev wT:=List (aE×aC)
abbrev tz:=List (Option Nat)
abbrev sn:=List (Nat×Nat)
abbrev lw:=List (aE×Int)
abbrev lv:=List (aC×bD)
abbrev lm:=List aah
abbrev jp:=List aaj
abbrev ga:=List aal
abbrev be:=List (aA×aA)
theorem ao {α β:Type}{x:Option α}{f:α->Option β}{b:β}(h:x.bind f=some b) : ∃ a,x=some a/\f a=some b:=Option.bind_eq_some_iff.1 h
set_option Elab.async false
set_option compiler.extract_closed false
set_option bootstrap.genMatcherCode false
set_option genSizeOfSpec false
set_option linter.all false
set_option maxRecDepth 100000
set_option exponentiation.threshold 2000
noncomputable section
local macro_rules|`(())=>`(by lia)
local macro_rules|`(nofun)=>`(by decide)
set_option hygiene false in
local macro_rules|`(tactic|rw[0])=>`(tactic|decide +kernel)
set_option hygiene false in
local macro_rules
|`(tactic|rw[1])=>`(tactic|(
 intro X hP hw hK hc i ac s Z H E I hf st hg;subst hP hw hK))
|`(tactic|rw[2])=>`(tactic|intro ac s Z H x y v u Q I rx ry h)
|`(tactic|rw[3])=>`(tactic|(
 obtain⟨d,e,rfl⟩:=this;exact e))
|`(tactic|rw[4])=>`(tactic|intro ac s Z H xs us Q I r h)
|`(tactic|rw[5])=>`(tactic|obtain⟨P,Y,d,hP,rs,ef,k⟩:=gh)
|`(tactic|rw[6])=>`(tactic|(
 obtain⟨v,rfl,r'⟩:=fK r;replace r:=r'))
|`(tactic|rw[7])=>`(tactic|obtain⟨B0,Y,fp,o,S,ef,k⟩:=gh)
|`(tactic|rw[8])=>`(tactic|refine dJ rfl ?_)
|`(tactic|rw[9])=>`(tactic|intro ac s Z H Q I h)
|`(tactic|rw[10])=>`(tactic|rcases cV.1 m with rfl|m)
|`(tactic|rw[11])=>`(tactic|refine aG ?_)
|`(tactic|rw[12])=>`(tactic|subst this)
set_option hygiene false in
local macro_rules
|`(tactic|rw[13])=>`(tactic|dsimp only)
|`(tactic|rw[14])=>`(tactic|sleep 0)
open Option renaming some->aa,none->ab
open Bool renaming true->af,false->ah
namespace L2
open PySem PySem.Spec PyProof.Rows
variable {h h' base:aU}{ks:aah}{s s':aH}{a b C dx:aC}{xs:List (List aA×aC×aD)}{us:aam}{x:aE}{u:aD}{o:bD}{t' i k ep:Nat}{ch fp:aan}{e c tg:aQ}{M:Model}{A:bP}{E Q:aD->aH->Prop}{pos p:bH}{ac:lv}{K:aK}{f:aD->aD->Sem aD}{es:aau}{body:List eK}{op:CmpOp}{mg:aE->aap}{fd:mB}{ps:aak}{prog:bJ}
instance decEqData:DecidableEq aA:=λa b=>Classical.propDecidable (a=b)
mutual
def bN:aA->Bool
 |.int _=>af
 |.str x=>cH (.str x)
 |.tuple ds=>bR ds
 |_=>ah
def bR:aah->Bool
 |[]=>af
 |d::r=>bN d&&bR r
end
mutual
theorem KU:∀ d:aA,bN d=af->d.canLay0=af
 |.int _,_=>by simp[cH]
 |.str x,h=>by simpa [bN] using h
 |.tuple ds,h=>by
  simp only[cH];exact Bj ds (by simpa [bN] using h)
 |.none,h=>by simp[bN] at h
 |.bool _,h=>by simp[bN] at h
 |.list _,h=>by simp[bN] at h
 |.dict _,h=>by simp[bN] at h
theorem Bj:∀ ds:aah,bR ds=af->AH ds=af
 |[],_=>by simp[AH]
 |d::r,h=>by
  have h':bN d=af/\bR r=af:=by simpa [bR] using h
  simp only[AH,KU d h'.1,Bj r h'.2,GN]
end
mutual
theorem JZ:∀ x y:aA,bN x=af->bN y=af->bZ x y=decide (x=y)
 |.int i,.int j,_,_=>by
  by_cases e:i=j
  .subst e;simp[bZ]
  .have:¬ aT i=.int j:=λq=>e (PyData.int.inj q)
   simp[bZ,e]
 |.str i,.str j,_,_=>by
  by_cases e:i=j
  .subst e;simp[bZ]
  .simp[bZ,e]
 |.tuple xs,.tuple ys,h1,h2=>by
  have e:=zG xs ys (by simpa [bN] using h1) (by simpa [bN] using h2)
  simp only[bZ,e]
  grind
 |.int _,.str _,_,_=>by simp[bZ]
 |.int _,.tuple _,_,_=>by simp[bZ]
 |.str _,.int _,_,_=>by simp[bZ]
 |.str _,.tuple _,_,_=>by simp[bZ]
 |.tuple _,.int _,_,_=>by simp[bZ]
 |.tuple _,.str _,_,_=>by simp[bZ]
 |.none,_,h,_=>by simp[bN] at h
 |.bool _,_,h,_=>by simp[bN] at h
 |.list _,_,h,_=>by simp[bN] at h
 |.dict _,_,h,_=>by simp[bN] at h
 |.int _,.none,_,h=>by simp[bN] at h
 |.int _,.bool _,_,h=>by simp[bN] at h
 |.int _,.list _,_,h=>by simp[bN] at h
 |.int _,.dict _,_,h=>by simp[bN] at h
 |.str _,.none,_,h=>by simp[bN] at h
 |.str _,.bool _,_,h=>by simp[bN] at h
 |.str _,.list _,_,h=>by simp[bN] at h
 |.str _,.dict _,_,h=>by simp[bN] at h
 |.tuple _,.none,_,h=>by simp[bN] at h
 |.tuple _,.bool _,_,h=>by simp[bN] at h
 |.tuple _,.list _,_,h=>by simp[bN] at h
 |.tuple _,.dict _,_,h=>by simp[bN] at h
theorem zG:∀ xs ys:aah,bR xs=af->bR ys=af->AG xs ys=decide (xs=ys)
 |[],[],_,_=>by simp[AG]
 |[],_::_,_,_=>by simp[AG]
 |_::_,[],_,_=>by simp[AG]
 |x::xs,y::ys,h1,h2=>by
  have X':bN x=af/\bR xs=af:=by simpa [bR] using h1
  have xl:bN y=af/\bR ys=af:=by simpa [bR] using h2
  simp only[AG,JZ x y X'.1 xl.1,zG xs ys X'.2 xl.2]
  grind
end
mutual
def dE (w:bA):aA->Int
 |.int i=>hashInt i
 |.str x=>hashStr w x
 |.tuple ds=>reduceHash (AW (lE w ds))
 |_=>0
def lE (w:bA):aah->aal
 |[]=>[]
 |d::r=>dE w d::lE w r
end
mutual
def rA:aA->Nat
 |.tuple ds=>nU ds+1
 |_=>1
def nU:aah->Nat
 |[]=>0
 |d::r=>rA d+nU r
end
theorem Ek (a b:aah):nU (a++b)=nU a+nU b:=by
 induction a with
 |nil=>simp[nU]
 |cons x r ih=>simp only[xF,nU,ih];lia
theorem Ej (w:bA)(a b:aah):lE w (a++b)=lE w a++lE w b:=by
 induction a with
 |nil=>rfl
 |cons x r ih=>simp only[xF,lE,ih]
section
variable {w:bA}
theorem lH{v:aD}{as:aan}(r:kS h v (.tuple ks) as):∃ a o vs n,v=.ref a/\h.get? a=aa o/\o.cls=.type "tuple" /\ o.data=.seq vs n/\lM h vs.toList ks as:=by
 cases r with
 |tuple h1 h2 h3 h4=>exact⟨_,_,_,_,rfl,h1,h2,h3,h4⟩
theorem NO{as:aan}(r:kS s.heap (.ref a) (.tuple ks) as):s.TypeIs (.ref a) "tuple":=by
 obtain⟨a',o,vs,n,e,h1,h2,_⟩:=lH r;cases e;exact⟨o,h1,h2⟩
mutual
theorem Cj:∀ (d:aA) {A:bP} {E:aD->aH->Prop} {s:aH} {v:aD} {as:aan} {Q:Int->aH->Prop},A.units+d.depth<cLine->bN d=af->kS s.heap v d as ->
  Q (dE w d) { s with toks:=s.toks+rA d }->aL (aP prog w) A (pyHash v) Q E s
 |.int i,A,E,s,v,as,Q,hu,hk,r,h=>by
  cases r with
  |int _ t=>exact wpAny_pyHash_int (by simpa [dE,rA] using h)
 |.str x,A,E,s,v,as,Q,hu,hk,r,h=>by
  cases r with
  |str _ t=>exact wpAny_pyHash_str (by simpa [dE,rA] using h)
 |.tuple ks,A,E,s,v,as,Q,hu,hk,r,h=>by
  obtain⟨a,o,aj,n,rfl,ho,hc,hd,hi⟩:=lH r;have hT:s.TypeIs (.ref a) "tuple":=⟨o,ho,hc⟩;have oy:A.units+(cU ks+1)<cLine:=by simpa [kF] using hu
  unfold pyHash
  first|unfold pyHashByItsType|skip
  first|refine aG (wpAny_cRoomFor_or (.inr ()) ?_)|skip
  refine aG (tY hT GL.lookup ?_);rw[if_neg (by rw[beq_builtin_none];exact kX)]
  refine aG (tY hT GL.lookup ?_);refine aG (wpAny_callSpecialIfBoundUnlessNone?_slot hT GL (fU GL hT F.entry_tuple_hash ?_ (F.args_tuple_hash_1 _)));show aL _ _ (Kj (.ref a)>>=_) _ _ s;refine aG (Ik ho hd ?_);rw[11];rw[<-RQ];refine AA _
   (λrest (b:Array Int) s'=>∃ done left bs,ks=done++left/\lM s.heap rest left bs/\b.toList=lE w done/\s'={ s with toks:=s.toks+nU done })
   _ ?_ ?_ _ _ ⟨[],ks,as,rfl,hi,rfl,rfl⟩
  .rintro x rest b s' ⟨done,left,bs,e,hl,hb,rfl⟩;cases hl with
   |@cons _ _ d ds R7 ug h1 qw=>
    have hm:d∈ks:=by rw[e];exact oT _ bE
    have ce:bR ks=af:=by simpa [bN] using hk
    refine aG (Do ks hm (by
     have:A.in1.units=A.units+1:=rfl
     lia) ce h1 ?_)
    first
     |exact aM ⟨done++[d],ds,ug,by simp[e],qw,by simp[hb,Ej,lE],by simp[Ek,nU,GA]⟩
     |exact aG (aM (aM ⟨done++[d],ds,ug,by simp[e],qw,by simp[hb,Ej,lE],by simp[Ek,nU,GA]⟩))
  .rintro b s' ⟨done,left,bs,e,hl,hb,rfl⟩;cases hl;rw[kW] at e;subst e;show aL _ _ (retInt (AW b.toList)) _ _ _;rw[hb];refine wpAny_ret_mkInt ?_;show aL _ _ (if (decide (-(2:Int)^63<=AW (lE w ks))&&decide (AW (lE w ks)<2^63))=af then _ else _) Q E _
   simp only[dE,rA] at h;unfold reduceHash at h;by_cases hr:(decide (-(2:Int)^63<=AW (lE w ks))&&decide (AW (lE w ks)<2^63))=af
   .rw[if_pos hr];rw[if_pos hr] at h;exact aM (by simpa [GA] using h)
   .rw[if_neg hr];rw[if_neg hr] at h;exact aG (lJ (aM (by simpa [GA] using h)))
 |.none,A,E,s,v,as,Q,hu,hk,r,h=>by simp[bN] at hk
 |.bool _,A,E,s,v,as,Q,hu,hk,r,h=>by simp[bN] at hk
 |.list _,A,E,s,v,as,Q,hu,hk,r,h=>by simp[bN] at hk
 |.dict _,A,E,s,v,as,Q,hu,hk,r,h=>by simp[bN] at hk
theorem Do:∀ (ks:aah) {d:aA},d∈ks->∀ {A:bP} {E:aD->aH->Prop} {s:aH} {v:aD} {as:aan} {Q:Int->aH->Prop},A.units+cU ks<cLine->bR ks=af->kS s.heap v d as ->
  Q (dE w d) { s with toks:=s.toks+rA d }->aL (aP prog w) A (pyHash v) Q E s
 |[],_,hm,_,_,_,_,_,_,_,_,_,_=>by simp at hm
 |k::ks,d,hm,A,E,s,v,as,Q,hu,hk,r,h=>by
  have ce:bN k=af/\bR ks=af:=by simpa [bR] using hk
  have oy:A.units+max k.depth (cU ks)<cLine:=by simpa [cU] using hu
  by_cases e:d=k
  .exact Cj k () ce.1 (e ▸ r) (by rw[<-e];exact h)
  .have sv:d∈ks:=by
    grind
   exact Do ks sv () ce.2 r h
end
end
section
variable {w:bA}
mutual
theorem ET:∀ (d:aA) (n:Nat) {A:bP} {E:aD->aH->Prop} {s:aH} {v:aD} {as:aan} {Q:Bool->aH->Prop},d.depth<=n->bN d=af->kS s.heap v d as ->
  Q af s->aL (aP prog w) A (eqIsQuiet n v) Q E s
 |.int i,n,A,E,s,v,as,Q,hu,hk,r,h=>by
  cases r with
  |int _ t=>
   rw[eqIsQuiet_byValue n (by rfl)]
   exact aM h
 |.str x,n,A,E,s,v,as,Q,hu,hk,r,h=>by
  cases r with
  |str _ t=>
   rw[eqIsQuiet_byValue n (by rfl)]
   exact aM h
 |.tuple ks,n,A,E,s,v,as,Q,hu,hk,r,h=>by
  obtain⟨a,o,aj,m,rfl,ho,hc,hd,hi⟩:=lH r;have hT:s.TypeIs (.ref a) "tuple":=⟨o,ho,hc⟩;have oy:cU ks+1<=n:=by simpa [kF] using hu
  obtain⟨n,rfl⟩:∃ m,n=m+1:=⟨n-1,by omega⟩
  have ce:bR ks=af:=by simpa [bN] using hk
  unfold eqIsQuiet;refine aG (tY hT F.slot_tuple_eq.lookup ?_);refine aG (pZ hT isSubtype_tuple_tuple ?_);simp only[AZ,gV,if_false];refine aG (jM ho hd ?_);rw[11];rw[<-RQ];refine AA _ (λrest r s'=>r.1=ab/\s'=s/\∃ ds bs,lM s.heap rest ds bs/\∀ d∈ds,d∈ks) _ ?_ ?_ _ _ ⟨rfl,rfl,ks,as,hi,λ_ h=>h⟩
  .rintro v rest r s' ⟨hr,rfl,ds,bs,hl,cf⟩;cases hl with
   |@cons _ _ d ds R7 ug h1 qw=>
    refine aG (Bo ks (cf d bE) n (by omega) ce h1 ?_)
    simp only[AZ,gV,if_false];exact aM ⟨rfl,rfl,ds,ug,qw,λu yi=>cf u (bL _ yi)⟩
  .rintro⟨r1,r2⟩ s' ⟨hr,rfl,_⟩;simp only at hr;subst hr;exact aM h
 |.none,n,A,E,s,v,as,Q,hu,hk,r,h=>by simp[bN] at hk
 |.bool _,n,A,E,s,v,as,Q,hu,hk,r,h=>by simp[bN] at hk
 |.list _,n,A,E,s,v,as,Q,hu,hk,r,h=>by simp[bN] at hk
 |.dict _,n,A,E,s,v,as,Q,hu,hk,r,h=>by simp[bN] at hk
theorem Bo:∀ (ks:aah) {d:aA},d∈ks->∀ (n:Nat) {A:bP} {E:aD->aH->Prop} {s:aH} {v:aD} {as:aan} {Q:Bool->aH->Prop},cU ks<=n->bR ks=af->kS s.heap v d as ->
  Q af s->aL (aP prog w) A (eqIsQuiet n v) Q E s
 |[],_,hm,_,_,_,_,_,_,_,_,_,_,_=>by simp at hm
 |k::ks,d,hm,n,A,E,s,v,as,Q,hu,hk,r,h=>by
  have ce:bN k=af/\bR ks=af:=by simpa [bR] using hk
  have oy:max k.depth (cU ks)<=n:=by simpa [cU] using hu
  by_cases e:d=k
  .exact ET k n (by omega) ce.1 (e ▸ r) h
  .have sv:d∈ks:=by
    grind
   exact Bo ks sv n (by omega) ce.2 r h
end
mutual
theorem Ci(kp:∀ b o vs n,h.get? b=aa o->o.cls=.type "tuple" -> o.data=.seq vs n->h'.get? b=aa o):∀ (d:aA) {v:aD} {as:aan},bN d=af->kS h v d as->kS h' v d as
 |.int i,v,as,hk,r=>by
  cases r with
  |int _ t=>exact .int i t
 |.str x,v,as,hk,r=>by
  cases r with
  |str _ t=>exact .str x t
 |.tuple ks,v,as,hk,r=>by
  obtain⟨a,o,aj,m,rfl,ho,hc,hd,hi⟩:=lH r;exact .tuple (kp _ _ _ _ ho hc hd) hc hd (En kp ks (by simpa [bN] using hk) hi)
 |.none,v,as,hk,r=>by simp[bN] at hk
 |.bool _,v,as,hk,r=>by simp[bN] at hk
 |.list _,v,as,hk,r=>by simp[bN] at hk
 |.dict _,v,as,hk,r=>by simp[bN] at hk
theorem En(kp:∀ b o vs n,h.get? b=aa o->o.cls=.type "tuple" -> o.data=.seq vs n->h'.get? b=aa o):∀ (ds:aah) {vs:aam} {as:aan},bR ds=af->lM h vs ds as->lM h' vs ds as
 |[],vs,as,hk,r=>by
  cases r with
  |nil=>exact .nil
 |d::ds,vs,as,hk,r=>by
  have ce:bN d=af/\bR ds=af:=by simpa [bR] using hk
  cases r with
  |cons r1 r2=>exact .cons (Ci kp d ce.1 r1) (En kp ds ce.2 r2)
end
def Abn (h:aU)(ks:aah)(a:aC):Prop:=bR ks=af/\cU ks<=6/\∃ as,kS h (.ref a) (.tuple ks) as
theorem Abn.keep(kp:∀ b o vs n,h.get? b=aa o->o.cls=.type "tuple" -> o.data=.seq vs n->h'.get? b=aa o)(k:Abn h ks a):Abn h' ks a:=
 ⟨k.1,k.2.1,k.2.2.choose,Ci kp (.tuple ks) (by simpa [bN] using k.1) k.2.2.choose_spec⟩
def kB (prog:bJ)(w:bA):HeapKind prog w aah where
 is:=Abn
 hash:=λks=>dE w (.tuple ks)
 draws:=λks=>rA (.tuple ks)
 room:=λA=>A.units+20<cLine
 inj:=λ{h a x y} hx hy=>by
  obtain⟨k1,_,as,r1⟩:=hx;obtain⟨k2,_,bs,r2⟩:=hy;exact Jk (reads_det (λ_ _ e _=>e) r2 r1).1
 keeps:=λ{h h' k a d o es ep} x ho hd hs=>x.keep λb ob vs n hb _ jw=>by
  have df:b≠d:=by
   rintro rfl;rw[ho] at hb;cases hb;rw[hd] at jw;cases jw
  exact(hs.2 b df).trans hb
 pyHash:=λ{A E s k a Q} hu hk h=>by
  obtain⟨k1,k2,as,r⟩:=hk;exact Cj (.tuple k) (by simp only[kF];omega) (by simpa [bN] using k1) r h
 eqBool:=λ{A E s x y a b Q} hu hx hy h=>by
  obtain⟨k1,d1,as,r1⟩:=hx;obtain⟨k2,d2,bs,r2⟩:=hy;have e:=JZ (.tuple x) (.tuple y) (by simpa [bN] using k1) (by simpa [bN] using k2)
  have e2:decide ((dM x)=.tuple y)=decide (x=y):=by
   by_cases q:x=y
   .subst q;simp
   .rw[decide_eq_false q,decide_eq_false (λz=>q (Jk z))]
  have:=SeqAt.eqAt_reads (.tuple x) (.tuple y) A s (.ref a) (.ref b) as bs r1 r2 (KU _ (by simpa [bN] using k1)) (KU _ (by simpa [bN] using k2)) (by simp only[kF];omega)
  rw[e,e2] at this;exact this prog w E Q h
 quiet:=λ{A E s k a Q} hk h=>by
  obtain⟨k1,k2,as,r⟩:=hk;exact ET (.tuple k) 8 (by simp only[kF];omega) (by simpa [bN] using k1) r h
end
abbrev aI:=Sum Int aE
abbrev aao:=List aI
abbrev aag:=List (aI×Int)
abbrev aaf:=List (aE×aao)
abbrev aab:=List (aI×aD)
def uY:aI->aD->Bool
 |.inl k,v=>Value.isInt k v
 |.inr x,v=>Value.isStrOf x v
def Lv (w:bA):aI->Int
 |.inl k=>hashInt k
 |.inr x=>hashStr w x
theorem mZ:∀ {k:aI} {v:aD},uY k v=af->(∃ i t,k=uF i/\v=uE i t)\/(∃ x t,k=jA x/\v=uD x t)
 |.inl i,v,h=>by
  obtain⟨t,e⟩:=Value.isInt_shape (k:=i) (v:=v) h
  grind
 |.inr x,v,h=>by
  obtain⟨t,e⟩:=Value.isStrOf_shape (x:=x) (v:=v) h
  grind
theorem F3 (i:Int)(t:Tok):uY (.inl i) (.int i t)=af:=by simp[uY,Value.isInt]
theorem K1 (x:aE)(t:Tok):uY (.inr x) (.str x t)=af:=by simp[uY,Value.isStrOf]
theorem Qd (a b:Int):decide ((uF a:aI)=uF b)=(a==b):=by
 grind
theorem Oh (a b:aE):decide ((jA a:aI)=jA b)=decide (a=b):=by
 grind
theorem Qq (a:Int)(b:aE):decide ((uF a:aI)=jA b)=ah:=decide_eq_false (λq=>nomatch q)
theorem Oz (a:aE)(b:Int):decide ((jA a:aI)=uF b)=ah:=decide_eq_false (λq=>nomatch q)
def fF (prog:bJ)(w:bA):PySem.KeyKind prog w aI where
 is:=uY
 hash:=Lv w
 inj:=λv a b ha hb=>by
  rcases mZ ha with⟨i,t,rfl,rfl⟩|⟨x,t,rfl,rfl⟩
  .rcases mZ hb with⟨j,u,rfl,e⟩|⟨y,u,rfl,e⟩
   .injection e with e1 _;rw[e1]
   .exact nomatch e
  .rcases mZ hb with⟨j,u,rfl,e⟩|⟨y,u,rfl,e⟩
   .exact nomatch e
   .injection e with e1 _;rw[e1]
 byValue:=λk v h=>by
  rcases mZ h with⟨i,t,rfl,rfl⟩|⟨x,t,rfl,rfl⟩<;>rfl
 pyHash:=λhv h=>by
  rcases mZ hv with⟨i,t,rfl,rfl⟩|⟨x,t,rfl,rfl⟩
  .exact wpAny_pyHash_int h
  .exact wpAny_pyHash_str h
 eqBool:=λhu hv h=>by
  rcases mZ hu with⟨i,t,rfl,rfl⟩|⟨x,t,rfl,rfl⟩
  .rcases mZ hv with⟨j,u,rfl,rfl⟩|⟨y,u,rfl,rfl⟩
   .rw[Qd] at h;exact wpAny_eqBool_int h
   .rw[Qq] at h;exact SeqAt.EqAt.int_str i t y u _ _ _ _ h
  .rcases mZ hv with⟨j,u,rfl,rfl⟩|⟨y,u,rfl,rfl⟩
   .rw[Oz] at h;exact SeqAt.EqAt.str_int x t j u _ _ _ _ h
   .rw[Oh] at h;exact wpAny_eqBool_str h
 «strs»:=λk x t v h=>by
  rcases mZ h with⟨i,u,rfl,e⟩|⟨y,u,rfl,e⟩
  .exact nomatch e
  .injection e with e1 _;subst e1;cases v<;>rfl
theorem zM (prog:bJ)(w:bA)(i:Int)(t:Tok):(fF prog w).is (.inl i) (.int i t)=af:=F3 i t
theorem zR (prog:bJ)(w:bA)(x:aE)(t:Tok):(fF prog w).is (.inr x) (.str x t)=af:=K1 x t
inductive V where
 |non|bl (b:Bool)|int (i:Int)|str (x:aE)|byt (b:Array UInt8)|flt (b:UInt64)|ref (a:aC)|ty (n:String)
 deriving DecidableEq
abbrev aai:=List V
abbrev aaa:=List (V×V)
abbrev li:=List (List aA×V)
abbrev ld:=List (aI×V)
def RelV:V->aD->Prop
 |.non,u=>u=eE
 |.bl b,u=>u=Value.bool b
 |.int i,u=>∃ t,u=uE i t
 |.str x,u=>∃ t,u=uD x t
 |.byt b,u=>∃ t,u=Value.bytes b t
 |.flt b,u=>∃ t,u=Value.float b t
 |.ref a,u=>u=eJ a
 |.ty n,u=>u=kE n
abbrev Vals:aai->aam->Prop:=dG RelV
theorem Vals.length {xs:aai}(r:Vals xs us):xs.length=us.length:=lQ r
theorem Vals.get:∀ {xs:aai} {us:aam} {i:Nat} {x:V},Vals xs us->xs[i]?=aa x->∃ u,us[i]?=aa u/\RelV x u
 |_,_,_,_,.nil,e=>by simp at e
 |_,_,0,_,.cons r _,e=>by simp at e;subst e;exact⟨_,rfl,r⟩
 |_,_,i+1,x,.cons _ t,e=>by
  obtain⟨u,h1,h2⟩:=Vals.get (i:=i) (x:=x) t (by simpa using e)
  grind
theorem Vals.set {x:V}(r:RelV x u):∀ {xs:aai} {us:aam} (i:Nat),Vals xs us->Vals (xs.set i x) (us.set i u)
 |_,_,_,.nil=>.nil
 |_,_,0,.cons _ t=>.cons r t
 |_,_,i+1,.cons q t=>.cons q (Vals.set r i t)
theorem Vals.append:∀ {xs ys:aai} {us ws:aam},Vals xs us->Vals ys ws->Vals (xs++ys) (us++ws)
 |_,_,_,_,.nil,s=>s
 |_,_,_,_,.cons r t,s=>.cons r (Vals.append t s)
theorem Vals.take:∀ {xs:aai} {us:aam} (n:Nat),Vals xs us->Vals (xs.take n) (us.take n)
 |_,_,0,_=>.nil
 |_,_,_+1,.nil=>.nil
 |_,_,n+1,.cons r t=>.cons r (Vals.take n t)
theorem Vals.drop:∀ {xs:aai} {us:aam} (n:Nat),Vals xs us->Vals (xs.drop n) (us.drop n)
 |_,_,0,r=>r
 |_,_,_+1,.nil=>.nil
 |_,_,n+1,.cons _ t=>Vals.drop n t
def Avi:Option V->aap->Prop
 |some v,aa u=>RelV v u
 |none,ab=>True
 |_,_=>False
def KV {κ:Type}:List (κ×V)->List (κ×aD)->Prop:=dG λ(p:κ×V) (q:κ×aD)=>p.1=q.1/\RelV p.2 q.2
def kV:aI->V
 |.inl i=>.int i
 |.inr x=>.str x
inductive HO where
 |lst (xs:List V)
 |tup (xs:List V)
 |dK (ep:Nat) (kvs:List (aI×V))|dT (ep:Nat) (kvs:List (List aA×V))
 |set (S:Int->Bool) (n:Nat)
 |ins (C dx:aC) (fs:List (aE×V))
 |own (x:aC)
 |xd (fs:List (aE×V))
 |met (f x:aC)
 |rng (lo hi:Int)
 |frz (o:bD) (u:HO)
 |tbl (ps:Array aD)
 |ext (φ:aU->Prop)
abbrev Hp:=aC->Option HO
def upd (H:Hp)(a:aC)(o:HO):Hp:=λb=>if b=a then aa o else H b
theorem dQ {H:Hp}{o:HO}:upd H a o a=aa o:=by unfold upd;rw[if_pos rfl]
theorem cM {H:Hp}{o:HO}(h:b≠a):upd H a o b=H b:=by unfold upd;rw[if_neg h]
theorem Nn {H:Hp}{o u:HO}(h:H a=aa o)(h':H b=aa u)(d:o≠u):a≠b:=by
 grind
theorem iP {H:Hp}{o:HO}(h:H a=aa o)(h':H b=ab):a≠b:=by
 intro e;subst e;rw[h] at h';cases h'
mutual
def Ajx (H:Hp):aA->V->Prop
 |.int i,v=>v=.int i
 |.str x,v=>v=.str x
 |.tuple ds,v=>∃ a xs,v=.ref a/\H a=aa (.tup xs)/\Agx H ds xs
 |_,_=>False
def Agx (H:Hp):aah->aai->Prop
 |[],vs=>vs=[]
 |d::r,vs=>∃ x rr,vs=x::rr/\Ajx H d x/\Agx H r rr
end
mutual
theorem Ajx.keep {H H':Hp}(ht:∀ b xs,H b=aa (.tup xs)->H' b=aa (.tup xs)):∀ {d:aA} {v:V},Ajx H d v->Ajx H' d v
 |.int _,_,k=>by simpa [Ajx] using k
 |.str _,_,k=>by simpa [Ajx] using k
 |.tuple ds,_,k=>by
  simp only[Ajx] at k ⊢;obtain⟨a,xs,e,h,ks⟩:=k;exact⟨a,xs,e,ht _ _ h,Agx.keep ht ks⟩
 |.none,_,k=>by simp[Ajx] at k
 |.bool _,_,k=>by simp[Ajx] at k
 |.list _,_,k=>by simp[Ajx] at k
 |.dict _,_,k=>by simp[Ajx] at k
theorem Agx.keep {H H':Hp}(ht:∀ b xs,H b=aa (.tup xs)->H' b=aa (.tup xs)):∀ {ds:aah} {vs:aai},Agx H ds vs->Agx H' ds vs
 |[],_,k=>by simpa [Agx] using k
 |d::ds,_,k=>by
  simp only[Agx] at k ⊢;obtain⟨x,r,e,k1,k2⟩:=k;exact⟨x,r,e,Ajx.keep ht k1,Agx.keep ht k2⟩
end
def Aqk (H:Hp)(ks:aah)(a:aC):Prop:=bR ks=af/\cU ks<=6/\∃ xs,H a=aa (.tup xs)/\Agx H ks xs
theorem Aqk.keep {H H':Hp}(k:Aqk H ks a)(ht:∀ b xs,H b=aa (.tup xs)->H' b=aa (.tup xs)):Aqk H' ks a:=
 ⟨k.1,k.2.1,k.2.2.choose,ht _ _ k.2.2.choose_spec.1,k.2.2.choose_spec.2.keep ht⟩
def A9u (h:aU)(a:aC)(its:Array aD):Prop:=IsTup h a its/\∃ o,h.get? a=aa o/\o.dict=ab
theorem A9u.new (h:aU)(its:Array aD):A9u (h.push { cls:=.type "tuple",data:=.seq its }) h.objs.size its:=⟨IsTup.new _ _,_,cI _ rfl,rfl⟩
section
variable (P:bJ)(w:bA)
def Acj (H:Hp)(h:aU)(a:aC):HO->Prop
 |.lst xs=>xs.length<=sizeLine/\∃ (its:aam) (n:Nat),Vals xs its/\h.get? a=aa { cls:=.type "list",data:=.seq its.toArray n }
 |.tup xs=>xs.length<=sizeLine/\∃ its:aam,Vals xs its/\A9u h a its.toArray
 |.dK ep kvs=>kvs.length<=sizeLine/\(a==iY)=ah/\∃ vs,KV kvs vs/\h.DictAt (fF P w) a vs ep
 |.dT ep kvs=>kvs.length<=sizeLine/\(a==iY)=ah/\∃ xs:List (List aA×aC×aD),
   dG (λ(p:List aA×V) (q:List aA×aC×aD)=>p.1=q.1/\Aqk H p.1 q.2.1/\RelV p.2 q.2.2) kvs xs /\
   ∃ o es,h.get? a=aa o/\o.ExactDict/\o.data=.dict es ep/\es.toList=xs.map (entryOfKey (kB P w))/\(xs.map (·.1)).Nodup
 |.set S n=>h.SetOf (intKind P w) a S n
 |.ins C dx fs=>H dx=aa (.own a)/\fs.length<=1000/\dx≠a/\h.get? a=aa (Jb C dx) /\
   ∃ mA,h.Ns1 dx mA/\(∀ f,Avi (fs.lookup f) (mA f))/\PySem.Within mA (fs.map (·.1))
 |.own _=>∃ o,h.get? a=aa o
 |.xd fs=>∃ mA,h.Ns1 a mA/\∀ f,Avi (fs.lookup f) (mA f)
 |.rng lo hi=>∃ t u v,h.get? a=aa { cls:=.type "range",data:=.fields #[.int lo t,.int hi u,.int 1 v] }
 |.frz o u=>h.get? a=aa o/\Acj H h a u
 |.tbl ps=>h.get? a=aa { cls:=.none,data:=.fields ps }
 |.met f x=>h.get? a=aa (Iv (.ref f) (.ref x))
 |.ext φ=>φ h/\(∃ o,h.get? a=aa o)/\∀ h1 h2:aU,φ h1->(∀ o,h1.get? a=aa o->h2.get? a=aa o)->φ h2
def HOk (H:Hp)(h:aU):Prop:=∀ a o,H a=aa o->Acj P w H h a o
end
section
variable {P:bJ}{w:bA}{H H':Hp}{o:HO}
theorem Acj.lt (x:Acj P w H h a o):a<h.objs.size:=by
 cases o with
 |lst xs=>obtain⟨_,_,_,_,e⟩:=x;exact bM e
 |tup xs=>obtain⟨_,_,_,p⟩:=x;exact p.1.lt
 |dK ep kvs=>obtain⟨_,_,_,_,o,_,e,_⟩:=x;exact bM e
 |dT ep kvs=>obtain⟨_,_,_,_,o,_,e,_⟩:=x;exact bM e
 |set S n=>obtain⟨o,_,_,_,e,_⟩:=x;exact bM e
 |ins C dx fs=>obtain⟨_,_,_,e,_⟩:=x;exact bM e
 |own y=>obtain⟨_,e⟩:=x;exact bM e
 |xd fs=>obtain⟨_,⟨_,_,_,e,_⟩,_⟩:=x;exact bM e
 |rng lo hi=>obtain⟨_,_,_,e⟩:=x;exact bM e
 |frz ob u=>obtain⟨e,_⟩:=x;exact bM e
 |tbl ps=>exact bM (show h.get? a=aa _ from x)
 |met f y=>exact bM (show h.get? a=aa _ from x)
 |ext φ=>obtain⟨_,⟨_,e⟩,_⟩:=x;exact bM e
theorem Paired.mapP {α β:Type}{F G:α->β->Prop}:∀ {l₁:List α} {l₂:List β},dG F l₁ l₂->(∀ a b,F a b->G a b)->dG G l₁ l₂:=by
 intro l₁ l₂ h;induction h with
 |nil=>exact λ_=>.nil
 |cons r _ ih=>exact λf=>.cons (f _ _ r) (ih f)
theorem Acj.stay (x:Acj P w H h a o)(k:∀ b u,(b=a\/H b=aa (.own a))->h.get? b=aa u->h'.get? b=aa u)
  (ho:∀ b,H b=aa (.own a)->H' b=aa (.own a)) (ht:∀ b xs,H b=aa (.tup xs)->H' b=aa (.tup xs)):Acj P w H' h' a o:=by
 induction o with
 |lst xs=>obtain⟨z,its,n,r,e⟩:=x;exact⟨z,its,n,r,k _ _ (.inl rfl) e⟩
 |tup xs=>obtain⟨z,its,r,⟨ob,e,c⟩,ob2,e2,c2⟩:=x;exact⟨z,its,r,⟨ob,k _ _ (.inl rfl) e,c⟩,ob2,k _ _ (.inl rfl) e2,c2⟩
 |dK ep kvs=>obtain⟨z,y,vs,r,ob,es,e,c⟩:=x;exact⟨z,y,vs,r,ob,es,k _ _ (.inl rfl) e,c⟩
 |dT ep kvs=>
  obtain⟨z,y,xs,r,ob,es,e,c⟩:=x;exact⟨z,y,xs,Paired.mapP r λp q z=>⟨z.1,z.2.1.keep ht,z.2.2⟩,ob,es,k _ _ (.inl rfl) e,c⟩
 |set S n=>obtain⟨ob,es,ep,t,e,c⟩:=x;exact⟨ob,es,ep,t,k _ _ (.inl rfl) e,c⟩
 |ins C dx fs=>
  obtain⟨d,z,ne,e,mA,⟨od,es,ep,e2,c⟩,r⟩:=x;exact⟨ho _ d,z,ne,k _ _ (.inl rfl) e,mA,⟨od,es,ep,k _ _ (.inr d) e2,c⟩,r⟩
 |own y=>obtain⟨ob,e⟩:=x;exact⟨ob,k _ _ (.inl rfl) e⟩
 |xd fs=>obtain⟨mA,⟨od,es,ep,e,c⟩,r⟩:=x;exact⟨mA,⟨od,es,ep,k _ _ (.inl rfl) e,c⟩,r⟩
 |rng lo hi=>obtain⟨t,u,v,e⟩:=x;exact⟨t,u,v,k _ _ (.inl rfl) e⟩
 |frz ob u ih=>obtain⟨e,q⟩:=x;exact⟨k _ _ (.inl rfl) e,ih q⟩
 |tbl ps=>
  have e:h.get? a=aa { cls:=.none,data:=.fields ps }:=x;show h'.get? a=aa { cls:=.none,data:=.fields ps };exact k a _ (.inl rfl) e
 |met f y=>
  have e:h.get? a=aa (Iv (.ref f) (.ref y)):=x;show h'.get? a=aa (Iv (.ref f) (.ref y));exact k a _ (.inl rfl) e
 |ext φ=>obtain⟨p,⟨o,e⟩,st⟩:=x;exact⟨st _ _ p λo q=>k _ _ (.inl rfl) q,⟨o,k _ _ (.inl rfl) e⟩,st⟩
theorem HOk.lt (x:HOk P w H h)(e:H a=aa o):a<h.objs.size:=(x a o e).lt
theorem HOk.fresh (x:HOk P w H h)(e:h.objs.size<=a):H a=ab:=by
 cases q:H a with
 |none=>rfl
 |some u=>exact absurd (kU (x.lt q) e) (nJ _)
theorem HOk.kept (x:HOk P w H h)(k:∀ b u,h.get? b=aa u->h'.get? b=aa u):HOk P w H h':=λa o e=>
 (x a o e).stay (λb u _ q=>k b u q) (λ_ q=>q) λ_ _ q=>q
theorem HOk.laid (x:HOk P w H h)(k:∀ b u,h.get? b=aa u->h'.get? b=aa u)(hp:h.objs.size<=a)(new:Acj P w (upd H a o) h' a o):HOk P w (upd H a o) h':=λb u e=>by
 have hn:=x.fresh hp;by_cases hb:b=a
 .subst hb;rw[dQ] at e;cases e;exact new
 .rw[cM hb] at e;exact(x b u e).stay (λc v _ q=>k c v q) (λc q=>by rw[cM (iP q hn)];exact q) λc xs q=>by rw[cM (iP q hn)];exact q
end
def Rd (H:Hp)(a:aC)(u:HO):Prop:=H a=aa u\/∃ o,H a=aa (.frz o u)
theorem Rd.ok {P:bJ}{w:bA}{H:Hp}{u:HO}(r:Rd H a u)(x:HOk P w H h):Acj P w H h a u:=by
 rcases r with r|⟨o,r⟩
 .exact x a u r
 .obtain⟨_,q⟩:=x a _ r;exact q
def xJ:Option HO->Prop
 |some (.lst _)=>True
 |some (.dK _ _)=>True
 |some (.dT _ _)=>True
 |some (.set _ _)=>True
 |some (.ins _ _ _)=>True
 |some (.ext _)=>True
 |_=>False
section
variable {P:bJ}{w:bA}{H:Hp}{x e:aC}{o':HO}
theorem HOk.write (ok:HOk P w H h)(mu:xJ (H x))(he:e=x\/H e=aa (.own x))(k:∀ b u,b≠e->h.get? b=aa u->h'.get? b=aa u)(yj:∃ u,h'.get? e=aa u)
  (new:Acj P w (upd H x o') h' x o'):HOk P w (upd H x o') h':=λb u q=>by
 have R8:∀ c y,H c=aa (.own y)->c≠x:=λc y r z=>by subst z;rw[r] at mu;exact mu
 have R9:∀ c xs,H c=aa (.tup xs)->c≠x:=λc xs r z=>by subst z;rw[r] at mu;exact mu
 by_cases hb:b=x
 .subst hb;rw[dQ] at q;cases q;exact new
 .rw[cM hb] at q;by_cases Sc:b=e
  .have q':H b=aa (.own x):=by
    grind
   rw[q] at q';cases q';obtain⟨v,hv⟩:=yj;exact⟨v,by rw[Sc];exact hv⟩
  .refine(ok b u q).stay (λc v hc r=>k c v ?_ r) (λc r=>by rw[cM (R8 c b r)];exact r) λc xs r=>by rw[cM (R9 c xs r)];exact r
   grind
end
structure Un (fs ex:List aC)(H H':Hp)(h h':aU):Prop where
 keep:∀ b o,h.get? b=aa o->H b=ab->b∉fs->b∉ex->h'.get? b=aa o
 slot:∀ b o,h.get? b=aa o->H b=ab->b∈fs->b∉ex->∃ sl,h'.get? b=aa { o with slots:=sl }
 free:∀ b o,h.get? b=aa o->H b=ab->b∉ex->H' b=ab
 there:∀ b o,h.get? b=aa o->b∉ex->∃ o',h'.get? b=aa o'
 tups:∀ b xs,H b=aa (.tup xs)->H' b=aa (.tup xs)
 frzs:∀ b o u,H b=aa (.frz o u)->H' b=aa (.frz o u)
 tbls:∀ b ps,H b=aa (.tbl ps)->∃ more,H' b=aa (.tbl (ps++more))
section
variable {fs fs' ex ex':aan}{H H1 H2:Hp}{h1 h2:aU}{x e:aC}{o:HO}
theorem Un.any (u:Un fs ex H H1 h h1){ob:bD}(q:h.get? b=aa ob)(n:H b=ab)(hx:b∉ex):∃ sl,h1.get? b=aa { ob with slots:=sl }:=by
 by_cases hb:b∈fs
 .exact u.slot b ob q n hb hx
 .exact⟨ob.slots,u.keep b ob q n hb hx⟩
theorem Un.kept (k:∀ b u,h.get? b=aa u->h'.get? b=aa u):Un fs ex H H h h':=
 ⟨λb ob q _ _ _=>k b ob q,λb ob q _ _ _=>⟨ob.slots,k b ob q⟩,λ_ _ _ n _=>n,λb ob q _=>⟨ob,k b ob q⟩,λ_ _ q=>q,λ_ _ _ q=>q,λ_ ps q=>⟨#[],by rw[q];simp⟩⟩
theorem Un.refl:Un fs ex H H h h:=Un.kept λ_ _ q=>q
theorem Un.laid (k:∀ b u,h.get? b=aa u->h'.get? b=aa u)(hp:h.objs.size<=a)(hn:H a=ab):Un fs ex H (upd H a o) h h' where
 keep:=λb u q _ _ _=>k b u q
 slot:=λb u q _ _ _=>⟨u.slots,k b u q⟩
 free:=λb u q n _=>by rw[cM (cO (kU (bM q) hp))];exact n
 there:=λb u q _=>⟨u,k b u q⟩
 tups:=λb xs q=>by rw[cM (iP q hn)];exact q
 frzs:=λb u xs q=>by rw[cM (iP q hn)];exact q
 tbls:=λb ps q=>⟨#[],by rw[cM (iP q hn),q];simp⟩
theorem Un.write (mu:xJ (H x))(he:e=x\/H e=aa (.own x))(k:∀ b u,b≠e->h.get? b=aa u->h'.get? b=aa u)(yj:∃ u,h'.get? e=aa u):Un fs ex H (upd H x o) h h':=by
 have hx:∀ b,H b=ab->b≠x:=λb n z=>by subst z;rw[n] at mu;exact mu
 have hb:∀ b,H b=ab->b≠e:=λb n z=>by
  grind
 have hm:∀ b u,H b=aa u->¬ xJ (aa u)->b≠x:=λb u q nm z=>by subst z;rw[q] at mu;exact nm mu
 refine⟨λb u q n _ _=>k b u (hb b n) q,λb u q n _ _=>⟨u.slots,k b u (hb b n) q⟩,λb u q n _=>by rw[cM (hx b n)];exact n,λb u q _=>?_,
  λb xs q=>by rw[cM (hm b _ q λz=>z)];exact q,λb u xs q=>by rw[cM (hm b _ q λz=>z)];exact q,λb ps q=>⟨#[],by rw[cM (hm b _ q λz=>z),q];simp⟩⟩
 grind
end
def R6 (h:aU)(H:Hp):aan:=(bW h.objs.size).filter λa=>(H a).isSome
def pD (h:aU)(H:Hp):aU:=PySem.W.hideAll h (R6 h H)
theorem C8 (h:aU)(H:Hp):(pD h H).objs.size=h.objs.size:=PySem.W.hideAll_size _ _
theorem Wr{H:Hp}(e:h.get? b=aa o)(n:H b=ab):(pD h H).get? b=aa o:=
 PySem.W.hideAll_get _ e λhm=>by
  have q:(H b).isSome=af:=(oR.1 hm).2;rw[n] at q;simp at q
theorem Vg{H:Hp}(e:(pD h H).get? b=aa o):h.get? b=aa o/\H b=ab:=by
 have e':h.get? b=aa o:=PySem.W.of_hideAll (R6 h H) e;refine⟨e',?_⟩;cases q:H b with
 |none=>rfl
 |some x=>
  have hm:b∈R6 h H:=oR.2 ⟨eR.2 (bM e'),by simp[q]⟩
  have z:(pD h H).get? b=ab:=PySem.W.hideAll_none (R6 h H) hm;rw[z] at e;cases e
noncomputable def Qy (g h:aU)(L:aC):lv:=(bW h.objs.size).filterMap λa=>if a=L\/(g.get? a).isSome=af then ab else(h.get? a).map λo=>(a,o)
def rest (g h:aU)(L d:aC):lv:=(Qy g h L).filter λp=>decide (p.1≠d)
structure Mod (K:aK)(mg:aE->Option aD)(base:aU):Prop where
 kin:K.In base
 glob:base.Ns jO mg
 blt:∃ mb,base.Ns builtinsNs mb/\∀ x:aE,x ≠ "__name__" -> mb x=mM x
 nolimit:base.NoLimit
structure Cx where
 prog:bJ
 w:bA
 K:aK
 mg:aE->Option aD
 base:aU
 A:bP
 N:List aE
 s₀:aH
 H₀:Hp
 env:dW
 outer:List dW
 stack:List dW
 ex:List aC
 fn:aE->Bool
 calm:Bool
 pn:List (aC×bD)
 xe:aD->aH->Prop
def ou (l:List dW):aan:=l.filterMap (·.frame)
abbrev Cx.fs (X:Cx):aan:=ou X.outer
def BA (sc:fW)(x:aE):Prop:=sc.names.lookup x=aa .local\/sc.names.lookup x=aa .cell\/sc.names.lookup x=aa .free
def jF (sc:fW)(x:aE):Prop:=sc.names.lookup x=aa .local\/sc.names.lookup x=aa .cell
def Look (env:dW)(h:aU)(m:aE->aap)(x:aE)(u:aD):Prop:=
 (env.kindOf x=aa .local/\m x=aa u)\/((env.kindOf x=aa .cell\/env.kindOf x=aa .free)/\∃ c,env.cells.lookup x=aa c/\h.IsCell c (aa u))
abbrev Fn (X:Cx)(x:aE):Prop:=X.fn x=af\/X.env.scope.names.lookup x=aa .local
theorem jI {X:Cx}(h:X.fn x=af\/X.env.scope.names.lookup x=aa .local:=by first|exact .inl rfl|exact .inr rfl|assumption):Fn X x:=h
structure Cx.Ok (X:Cx):Prop where
 mod:Mod X.K X.mg X.base
 kind:X.env.scope.kind=.function
 glob:X.env.globals=jO
 blt:X.env.builtins=builtinsNs
 above:X.s₀.heap.objs.size<=X.env.locals
 inj:∀ x y c,X.env.cells.lookup x=aa c->X.env.cells.lookup y=aa c->x=y
 has:∀ x,(X.env.kindOf x=aa .cell\/X.env.kindOf x=aa .free)->∃ c,X.env.cells.lookup x=aa c
 cab:∀ x c,X.fn x=af->X.env.cells.lookup x=aa c->X.s₀.heap.objs.size<=c
 hd:X.calm=af->X.A.handled=ab
 frames:X.A.frames=aa X.stack
 stk:X.stack=X.outer\/(X.stack=X.env::X.outer/\X.env.frame=aa X.env.locals)
 exf:∀ b∈X.ex,b≠X.env.locals/\∀ x c,X.env.cells.lookup x=aa c->c≠b
 bs:∀ b o,X.base.get? b=aa o->X.s₀.heap.get? b=aa o/\X.H₀ b=ab
 bsz:X.base.objs.size<=X.s₀.heap.objs.size
 noex:∀ b o,X.base.get? b=aa o->b∉X.ex
 exfs:∀ b∈X.ex,b∉X.fs
 funs:X.s₀.heap.FunFrames X.base X.outer
 frf:∀ b∈X.fs,X.H₀ b=ab
structure Inv (X:Cx)(ac:List (aC×bD))(Z:List (Option V))(H:Hp)(s:aH):Prop where
 ok:X.Ok
 os:s.os=X.s₀.os
 bare:rW s.gens
 base:Un X.fs X.ex X.H₀ H X.s₀.heap s.heap
 loc:∃ m,s.heap.Ns X.env.locals m/\∀ (i:Nat) (x:aE) (v:V),X.N[i]?=aa x->Z[i]?=aa (aa v)->BA X.env.scope x->∃ u,RelV v u/\Look X.env s.heap m x u
 cell:∀ x c,X.env.cells.lookup x=aa c->∃ v,s.heap.IsCell c v
 free:H X.env.locals=ab
 freeC:∀ x c,X.env.cells.lookup x=aa c->H c=ab
 pin:∀ p∈X.pn++ac,s.heap.get? p.1=aa p.2/\H p.1=ab/\p.1≠X.env.locals/\p.1∉X.fs/\∀ v,p.2.data ≠ .cell v
 hok:HOk X.prog X.w H s.heap
 len:Z.length=X.N.length
section
variable {X:Cx}{Z:List (Option V)}{H H':Hp}
theorem Cx.Ok.nofr (ok:X.Ok)(e:X.base.get? b=aa o):b∉X.fs:=λhb=>by
 have:=(ok.funs.mem hb).1;rw[e] at this;cases this
theorem Inv.bs (I:Inv X ac Z H s):∀ b o,X.base.get? b=aa o->s.heap.get? b=aa o/\H b=ab:=λb o e=>
 ⟨I.base.keep b o (I.ok.bs b o e).1 (I.ok.bs b o e).2 (I.ok.nofr e) (I.ok.noex b o e),I.base.free b o (I.ok.bs b o e).1 (I.ok.bs b o e).2 (I.ok.noex b o e)⟩
theorem Inv.bk (I:Inv X ac Z H s):∀ b o,X.base.get? b=aa o->s.heap.get? b=aa o:=λb o e=>(I.bs b o e).1
theorem Inv.mod (I:Inv X ac Z H s):Mod X.K X.mg X.base:=I.ok.mod
theorem Inv.kIn (I:Inv X ac Z H s):X.K.In s.heap:=I.ok.mod.kin.keeps I.bk
theorem Inv.lt (I:Inv X ac Z H s):X.env.locals<s.heap.objs.size:=let ⟨_,hn,_⟩:=I.loc;hn.lt
theorem Inv.sz (I:Inv X ac Z H s):X.s₀.heap.objs.size<=s.heap.objs.size:=dI I.ok.above (qI I.lt)
theorem Inv.nofs (I:Inv X ac Z H s)(h:s.heap.objs.size<=a):a∉X.fs:=λhb=>by
 obtain⟨_,o,ho,_⟩:=I.ok.funs.mem hb;exact absurd (kU (bM ho) (dI I.sz h)) (nJ _)
theorem Inv.cne (I:Inv X ac Z H s):∀ x c,X.env.cells.lookup x=aa c->c≠X.env.locals:=λx c e z=>by
 obtain⟨v,o,ho,hd⟩:=I.cell x c e;obtain⟨m,⟨o',es,ep,mn,jw,_⟩,_⟩:=I.loc
 grind
theorem Inv.funs (I:Inv X ac Z H s):s.heap.FunFrames X.base X.outer:=by
 have all:∀ (l:List dW),(∀ b∈ou l,b∈X.fs)->X.s₀.heap.FunFrames X.base l->s.heap.FunFrames X.base l:=by
  intro l;induction l with
  |nil=>intro _ _;trivial
  |cons env r ih=>
   intro hs hl;obtain⟨hk,⟨L,o,hf,hn,ho,hd⟩,hr⟩:=hl;have hL:L∈X.fs:=hs L (by unfold ou;rw[GG,hf];exact bE)
   obtain⟨sl,e⟩:=I.base.slot L o ho (I.ok.frf L hL) hL λz=>I.ok.exfs L z hL
   exact⟨hk,⟨L,_,hf,hn,e,hd⟩,ih (λb hb=>hs b (by unfold ou;rw[GG,hf];exact bL _ hb)) hr⟩
 exact all X.outer (λ_ hb=>hb) I.ok.funs
theorem Inv.stack (I:Inv X ac Z H s):s.heap.FunFrames X.base X.stack:=by
 rcases I.ok.stk with e|⟨e,hf⟩
 .rw[e];exact I.funs
 .rw[e];obtain⟨m,hn,_⟩:=I.loc;refine .cons (by rw[I.ok.kind];decide) hf hn ?_ I.funs
  exact Heap.get?_none_of_le (dI I.ok.bsz I.ok.above)
theorem Inv.stkSub (I:Inv X ac Z H s):∀ b∈ou X.stack,b∈X.env.locals::X.fs:=λb hb=>by
 rcases I.ok.stk with e|⟨e,hf⟩
 .rw[e] at hb;exact bL _ hb
 .rw[e] at hb;unfold ou at hb;rw[GG,hf] at hb;exact hb
theorem Inv.stkFree (I:Inv X ac Z H s):∀ b∈ou X.stack,H b=ab:=λb hb=>by
 rcases cV.1 (I.stkSub b hb) with e|hb
 .rw[e];exact I.free
 .obtain⟨_,o,ho,_⟩:=I.ok.funs.mem hb;exact I.base.free b o ho (I.ok.frf b hb) λz=>I.ok.exfs b z hb
theorem Inv.step {g':Array uM}{d':Drawn}(I:Inv X ac Z H s)
  (sw:∀ b∈ch,(b∈X.ex\/X.s₀.heap.objs.size<=b)/\b≠X.env.locals/\(∀ x c,X.env.cells.lookup x=aa c->c≠b)/\∀ p∈X.pn++ac,p.1≠b)
  (keep:∀ b o,b≠X.env.locals->b∉X.fs->b∉ch->s.heap.get? b=aa o->H b=ab->h'.get? b=aa o)
  (slot:∀ b o,b≠X.env.locals->b∈X.fs->b∉ch->s.heap.get? b=aa o->H b=ab->∃ sl,h'.get? b=aa { o with slots:=sl }) (free:∀ b o,b∉ch->s.heap.get? b=aa o->H b=ab->H' b=ab)
  (there:∀ b o,b∉ch->s.heap.get? b=aa o->∃ o',h'.get? b=aa o')
  (tups:∀ b xs,H b=aa (.tup xs)->H' b=aa (.tup xs)) (frzs:∀ b o u,H b=aa (.frz o u)->H' b=aa (.frz o u)) (tbls:∀ b ps,H b=aa (.tbl ps)->∃ more,H' b=aa (.tbl (ps++more)))
  (ns:∀ m,s.heap.Ns X.env.locals m->h'.Ns X.env.locals m) (hok:HOk X.prog X.w H' h') (hg:rW g') :
  Inv X ac Z H' { s with heap:=h',gens:=g',drawn:=d',toks:=t' }:=by
 have Y0:∀ b o,X.s₀.heap.get? b=aa o->b≠X.env.locals:=λb o e=>cO (kU (bM e) I.ok.above)
 have O5:∀ b o,X.s₀.heap.get? b=aa o->b∉X.ex->b∉ch:=λb o e hx hb=>by
  rcases(sw b hb).1 with z|z
  .exact hx z
  .exact absurd (kU (bM e) z) (nJ _)
 have uh:∀ x c,X.env.cells.lookup x=aa c->∀ v,s.heap.IsCell c v->h'.IsCell c v:=λx c e v gh=>by
  obtain⟨o,ho,hd⟩:=gh;have Y1:c∉ch:=λz=>(sw c z).2.2.1 x c e rfl
  by_cases hc:c∈X.fs
  .obtain⟨sl,q⟩:=slot c o (I.cne x c e) hc Y1 ho (I.freeC x c e);exact⟨_,q,hd⟩
  .exact⟨o,keep c o (I.cne x c e) hc Y1 ho (I.freeC x c e),hd⟩
 refine⟨I.ok,I.os,hg,⟨λb o e n hb hx=>?_,λb o e n hb hx=>?_,λb o e n hx=>?_,λb o e hx=>?_,λb xs e=>tups b xs (I.base.tups b xs e),λb o xs e=>frzs b o xs (I.base.frzs b o xs e),λb ps e=>?_⟩,?_,λx c e=>?_,?_,λx c e=>?_,λp hp=>?_,hok,I.len⟩
 .exact keep b o (Y0 b o e) hb (O5 b o e hx) (I.base.keep b o e n hb hx) (I.base.free b o e n hx)
 .obtain⟨sl,e1⟩:=I.base.slot b o e n hb hx;obtain⟨sl',e2⟩:=slot b _ (Y0 b o e) hb (O5 b o e hx) e1 (I.base.free b o e n hx);exact⟨sl',e2⟩
 .obtain⟨o',e1⟩:=I.base.there b o e hx;exact free b o' (O5 b o e hx) e1 (I.base.free b o e n hx)
 .obtain⟨o',e1⟩:=I.base.there b o e hx;exact there b o' (O5 b o e hx) e1
 .obtain⟨m1,e1⟩:=I.base.tbls b ps e
  grind
 .obtain⟨m,hn,hl⟩:=I.loc;refine⟨m,ns m hn,λi x v e1 e2 e3=>?_⟩
  obtain⟨u,r,l⟩:=hl i x v e1 e2 e3;refine⟨u,r,?_⟩;rcases l with l|⟨k,c,e,z⟩
  .exact .inl l
  .exact .inr ⟨k,c,e,uh x c e _ z⟩
 .obtain⟨v,z⟩:=I.cell x c e;exact⟨v,uh x c e v z⟩
 .obtain⟨m,⟨o,_,_,ho,_⟩,_⟩:=I.loc;exact free _ o (λz=>(sw _ z).2.1 rfl) ho I.free
 .obtain⟨v,o,ho,hd⟩:=I.cell x c e;exact free c o (λz=>(sw c z).2.2.1 x c e rfl) ho (I.freeC x c e)
 .obtain⟨e,n,ne,nf,d⟩:=I.pin p hp
  grind
theorem Inv.un(I:Inv X ac Z H s)(u:Un X.fs [] H H' s.heap h')(hok:HOk X.prog X.w H' h'):Inv X ac Z H' { s with heap:=h',toks:=t' }:=by
 obtain⟨m,⟨o,es,ep,ho,r⟩,_⟩:=id I.loc;obtain⟨sl,hL⟩:=u.any ho I.free (by simp)
 exact I.step (g':=s.gens) (d':=s.drawn) (ch:=[]) (λ_ z=>nomatch z) (λb o _ hb _ e n=>u.keep b o e n hb (by simp)) (λb o _ hb _ e n=>u.slot b o e n hb (by simp)) (λb o _ e n=>u.free b o e n (by simp)) (λb o _ e=>u.there b o e (by simp)) u.tups u.frzs u.tbls (λm' hm=>by
  obtain⟨o',gc,oz,mn,r'⟩:=hm;rw[ho] at mn;cases mn;exact⟨_,gc,oz,hL,r'⟩) hok I.bare
theorem Inv.call {g':Array uM}{d':Drawn}(I:Inv X ac Z H s)(u:Un (ou X.stack) ch H H' s.heap h')(hok:HOk X.prog X.w H' h')(hg:rW g')
  (sw:∀ b∈ch,(b∈X.ex\/X.s₀.heap.objs.size<=b)/\b≠X.env.locals/\(∀ x c,X.env.cells.lookup x=aa c->c≠b)/\∀ p∈X.pn++ac,p.1≠b) :
  Inv X ac Z H' { s with heap:=h',gens:=g',drawn:=d',toks:=t' }:=by
 obtain⟨m,⟨o,es,ep,ho,r⟩,_⟩:=id I.loc;obtain⟨sl,hL⟩:=u.any ho I.free λz=>(sw _ z).2.1 rfl
 exact I.step (ch:=ch) sw (λb o hL hb hc e n=>u.keep b o e n (λz=>(cV.1 (I.stkSub b z)).elim hL hb) hc) (λb o _ _ hc e n=>u.any e n hc) (λb o hc e n=>u.free b o e n hc) (λb o hc e=>u.there b o e hc) u.tups u.frzs u.tbls (λm' hm=>by
  obtain⟨o',gc,oz,mn,r'⟩:=hm;rw[ho] at mn;cases mn;exact⟨_,gc,oz,hL,r'⟩) hok hg
theorem Inv.turned{it:aC}(I:Inv X ac Z H s)(k:∀ b o,b≠it->s.heap.get? b=aa o->h'.get? b=aa o)(hn:H it=ab)(hL:it≠X.env.locals)
  (h1:it∈X.ex\/X.s₀.heap.objs.size<=it) (h2:∀ x c,X.env.cells.lookup x=aa c->c≠it) (h3:∀ p∈X.pn++ac,p.1≠it):Inv X ac Z H { s with heap:=h',toks:=t' }:=by
 have nit:∀ b u,H b=aa u->b≠it:=λb u e z=>by rw[z,hn] at e;cases e
 refine I.step (g':=s.gens) (d':=s.drawn) (ch:=[it]) (λb hb=>?_) (λb o _ _ hc e _=>k b o (λz=>hc (by simp[z])) e) (λb o _ _ hc e _=>⟨o.slots,k b o (λz=>hc (by simp[z])) e⟩) (λ_ _ _ _ n=>n)
  (λb o hc e=>⟨o,k b o (λz=>hc (by simp[z])) e⟩) (λ_ _ e=>e) (λ_ _ _ e=>e) (λb ps e=>⟨#[],by rw[e];simp⟩) (λm hm=>?_) (λb u e=>?_) I.bare
 .grind
 .obtain⟨o,es,ep,ho,r⟩:=hm;exact⟨o,es,ep,k _ o (fX hL) ho,r⟩
 .refine(I.hok b u e).stay (λc v hc q=>k c v ?_ q) (λ_ q=>q) λ_ _ q=>q
  grind
theorem Inv.tok (I:Inv X ac Z H s)(t:Nat):Inv X ac Z H { s with toks:=t }:=I.un (h':=s.heap) (t':=t) Un.refl I.hok
theorem Inv.kept(I:Inv X ac Z H s)(k:∀ b u,s.heap.get? b=aa u->h'.get? b=aa u):Inv X ac Z H { s with heap:=h',toks:=t' }:=I.un (Un.kept k) (I.hok.kept k)
theorem Inv.laid{o:HO}(I:Inv X ac Z H s)(k:∀ b u,s.heap.get? b=aa u->h'.get? b=aa u)(hp:s.heap.objs.size<=a)(new:Acj X.prog X.w (upd H a o) h' a o) :
  Inv X ac Z (upd H a o) { s with heap:=h',toks:=t' }:=I.un (Un.laid k hp (I.hok.fresh hp)) (I.hok.laid k hp new)
theorem Inv.write {x e:aC}{o:HO}(I:Inv X ac Z H s)(mu:xJ (H x))(he:e=x\/H e=aa (.own x))(k:∀ b u,b≠e->s.heap.get? b=aa u->h'.get? b=aa u)(yj:∃ u,h'.get? e=aa u)
  (new:Acj X.prog X.w (upd H x o) h' x o):Inv X ac Z (upd H x o) { s with heap:=h',toks:=t' }:=I.un (Un.write mu he k yj) (I.hok.write mu he k yj new)
theorem Inv.pins_of {ui:lv}(I:Inv X ac Z H s)(h:∀ p∈ui,s.heap.get? p.1=aa p.2/\H p.1=ab/\p.1≠X.env.locals/\p.1∉X.fs/\∀ v,p.2.data ≠ .cell v):Inv X ui Z H s:=
 ⟨I.ok,I.os,I.bare,I.base,I.loc,I.cell,I.free,I.freeC,λp hp=>(oU.1 hp).elim (λz=>I.pin p (List.mem_append_left _ z)) (h p),I.hok,I.len⟩
theorem XZ {N:aak}(hN:N.Nodup){j:Nat}(a:N[i]?=aa x)(b:N[j]?=aa x):i=j:=by
 obtain⟨h1,e1⟩:=cK.1 a;obtain⟨h2,e2⟩:=cK.1 b;exact(List.getElem_inj hN).1 (e1.trans e2.symm)
theorem ZN{v:V}{Q:Unit->aH->Prop}(I:Inv X ac Z H s)(hN:X.N.Nodup)(hi:X.N[i]?=aa x)(hx:jF X.env.scope x)(r:RelV v u)
  (h:∀ s',Inv X ac (Z.set i (aa v)) H s'->(∃ a,mP a s.heap s'.heap/\(a=X.env.locals\/X.env.cells.lookup x=aa a))->Q Unit.unit s') (hf:Fn X x:=by exact jI):aL M A (storeName X.env x u) Q E s:=by
 obtain⟨m,hn,hl⟩:=id I.loc;have ST:(X.env.scope.kind==.class||(X.env.scope.kind==.module&&X.env.locals != X.env.globals))=ah:=by rw[I.ok.kind];rfl
 have yk:i<Z.length:=by rw[I.len];exact(cK.1 hi).1
 have cne:=I.cne;have jx:∀ {a:aC} {h':aU},(∃ o,s.heap.get? a=aa o/\H a=ab)->mP a s.heap h'->HOk X.prog X.w H h':=λ{a h'} ha hs b ob e=>by
  obtain⟨_,_,uj⟩:=ha;refine(I.hok b ob e).stay (λc w' hc q=>(hs.2 c ?_).trans q) (λ_ q=>q) λ_ _ q=>q
  rintro rfl;rcases hc with rfl|hc
  .rw[uj] at e;cases e
  .rw[uj] at hc;cases hc
 rcases hx with hk|hk
 .refine wpAny_storeName_local hk hn (λh' hn' hs=>?_) ST
  obtain⟨oL,_,_,je,_⟩:=id hn;refine h _ ⟨I.ok,I.os,I.bare,⟨λb o e n hb hx=>?_,λb o e n hb hx=>?_,I.base.free,λb o e hx=>?_,I.base.tups,I.base.frzs,I.base.tbls⟩,⟨_,hn',λj y v' e1 e2 e3=>?_⟩,λy c e=>?_,I.free,I.freeC,λp hp=>?_,jx ⟨oL,je,I.free⟩ hs,by simpa using I.len⟩ ⟨_,hs,.inl rfl⟩
  .exact(hs.2 b (cO (kU (bM e) I.ok.above))).trans (I.base.keep b o e n hb hx)
  .obtain⟨sl,e1⟩:=I.base.slot b o e n hb hx;exact⟨sl,(hs.2 b (cO (kU (bM e) I.ok.above))).trans e1⟩
  .obtain⟨o',e1⟩:=I.base.there b o e hx;exact⟨o',(hs.2 b (cO (kU (bM e) I.ok.above))).trans e1⟩
  .by_cases hj:j=i
   .subst hj;rw[hi] at e1;cases e1;rw[nK yk] at e2;cases e2;exact⟨u,r,.inl ⟨hk,by simp⟩⟩
   .rw[kG (fX hj)] at e2;obtain⟨u',r',q⟩:=hl j y v' e1 e2 e3;refine⟨u',r',?_⟩;rcases q with⟨k,e⟩|⟨k,c,e,z⟩
    .refine .inl ⟨k,?_⟩;have:y≠x:=λe=>hj (XZ hN e1 (e ▸ hi))
     simp[this,e]
    .exact .inr ⟨k,c,e,z.sameBut hs (cne y c e)⟩
  .obtain⟨w',z⟩:=I.cell y c e;exact⟨w',z.sameBut hs (cne y c e)⟩
  .obtain⟨e,n,ne,nf,d⟩:=I.pin p hp;exact⟨(hs.2 p.1 ne).trans e,n,ne,nf,d⟩
 .have S7:X.fn x=af:=by
   rcases hf with z|z
   .exact z
   .rw[z] at hk;cases hk
  obtain⟨c,hc⟩:=I.ok.has x (.inl hk);obtain⟨w',z⟩:=I.cell x c hc;refine wpAny_storeName_cell I.ok.kind hk hc z (λh' cy hs=>?_)
  obtain⟨oc,Y2,S8⟩:=id z;refine h { s with heap:=h' } ⟨I.ok,I.os,I.bare,⟨λb o e n hb hx=>?_,λb o e n hb hx=>?_,I.base.free,λb o e hx=>?_,I.base.tups,I.base.frzs,I.base.tbls⟩,⟨m,hn.sameBut hs (fX (cne x c hc)),λj y v' e1 e2 e3=>?_⟩,λy c' e=>?_,I.free,I.freeC,λp hp=>?_,jx ⟨oc,Y2,I.freeC x c hc⟩ hs,by simpa using I.len⟩ ⟨c,hs,.inr hc⟩
  .exact(hs.2 b (cO (kU (bM e) (I.ok.cab x c S7 hc)))).trans (I.base.keep b o e n hb hx)
  .obtain⟨sl,e1⟩:=I.base.slot b o e n hb hx;exact⟨sl,(hs.2 b (cO (kU (bM e) (I.ok.cab x c S7 hc)))).trans e1⟩
  .obtain⟨o',e1⟩:=I.base.there b o e hx;exact⟨o',(hs.2 b (cO (kU (bM e) (I.ok.cab x c S7 hc)))).trans e1⟩
  .by_cases hj:j=i
   .subst hj;rw[hi] at e1;cases e1;rw[nK yk] at e2;cases e2;exact⟨u,r,.inr ⟨.inl hk,c,hc,cy⟩⟩
   .rw[kG (fX hj)] at e2;obtain⟨u',r',q⟩:=hl j y v' e1 e2 e3;refine⟨u',r',?_⟩;rcases q with q|⟨k,c',e,z'⟩
    .exact .inl q
    .refine .inr ⟨k,c',e,z'.sameBut hs ?_⟩;rintro rfl;exact hj (XZ hN e1 (I.ok.inj _ _ _ e hc ▸ hi))
  .by_cases Y3:c'=c
   .subst Y3;exact⟨_,cy⟩
   .obtain⟨w2,z2⟩:=I.cell y c' e;exact⟨w2,z2.sameBut hs Y3⟩
  .obtain⟨e,n,ne,nf,d⟩:=I.pin p hp;refine⟨(hs.2 p.1 ?_).trans e,n,ne,nf,d⟩;intro q;rw[q,Y2] at e;have q':oc=p.2:=dY e;exact d w' (by rw[<-q'];exact S8)
theorem XF{v:V}{Q:Unit->aH->Prop}(I:Inv X ac Z H s)(hN:X.N.Nodup)(hi:X.N[i]?=aa x)(hx:jF X.env.scope x)(r:RelV v u)
  (h:∀ s',Inv X ac (Z.set i (aa v)) H s'->Q Unit.unit s') (hf:Fn X x:=by exact jI):aL M A (storeName X.env x u) Q E s:=
 ZN I hN hi hx r (λs' I' _=>h s' I') hf
theorem Inv.call'(I:Inv X ac Z H s)(ho:s'.os=s.os)(u:Un (ou X.stack) ch H H' s.heap s'.heap)(hok:HOk X.prog X.w H' s'.heap)(hg:rW s'.gens)
  (sw:∀ b∈ch,(b∈X.ex\/X.s₀.heap.objs.size<=b)/\b≠X.env.locals/\(∀ x c,X.env.cells.lookup x=aa c->c≠b)/\∀ p∈X.pn++ac,p.1≠b):Inv X ac Z H' s':=by
 obtain⟨h',g',d',t',o'⟩:=s';have e:o'=s.os:=ho;subst e;exact I.call (g':=g') (t':=t') (d':=d') u hok hg sw
end
abbrev XK:=aD->Option aC->Hp->Prop
abbrev St:=List (Option V)
abbrev VK:=V->Hp->Prop
abbrev TE:=St->Hp->VK->Prop
abbrev TT:=St->Hp->(Bool->Hp->Prop)->Prop
abbrev TA:=St->Hp->(aai->Hp->Prop)->Prop
structure Ends where
 nx:St->Hp->Prop
 rt:VK
 bk:St->Hp->Prop:=λ_ _=>False
 ct:St->Hp->Prop:=λ_ _=>False
abbrev TS:=Ends->St->Hp->Prop
def EP (X:Cx)(ac:lv)(Z:St)(Q:VK)(u:aD)(s':aH):Prop:=∃ v H',Inv X ac Z H' s'/\RelV v u/\Q v H'
def TP (X:Cx)(ac:lv)(Z:St)(Q:Bool->Hp->Prop)(b:Bool)(s':aH):Prop:=∃ H',Inv X ac Z H' s'/\Q b H'
def AP (X:Cx)(ac:lv)(Z:St)(Q:aai->Hp->Prop)(us:aam)(s':aH):Prop:=∃ vs H',Inv X ac Z H' s'/\Vals vs us/\Q vs H'
def SP (X:Cx)(ac:lv)(D:Ends)(f:Flow)(s':aH):Prop:=
 match f with
 |.next=>∃ σ' H',Inv X ac σ' H' s'/\D.nx σ' H'
 |.brk=>∃ σ' H',Inv X ac σ' H' s'/\D.bk σ' H'
 |.cont=>∃ σ' H',Inv X ac σ' H' s'/\D.ct σ' H'
 |.ret u=>∃ v σ' H',Inv X ac σ' H' s'/\RelV v u/\D.rt v H'
def PE (X:Cx)(e:aQ)(t:TE):Prop:=
 ∀ (ac:lv) (s:aH) (Z:St) (H:Hp) (Q:VK),Inv X ac Z H s->t Z H Q->aL (aP X.prog X.w) X.A (bY e X.env) (EP X ac Z Q) X.xe s
def PT (X:Cx)(e:aQ)(t:TT):Prop:=
 ∀ (ac:lv) (s:aH) (Z:St) (H:Hp) (Q:Bool->Hp->Prop),Inv X ac Z H s->t Z H Q->aL (aP X.prog X.w) X.A (isTrue e X.env (bY e X.env)) (TP X ac Z Q) X.xe s
def PW (X:Cx)(e:aQ)(t:TT):Prop:=
 ∀ (dr:Sem aD) (ac:lv) (s:aH) (Z:St) (H:Hp) (Q:Bool->Hp->Prop),Inv X ac Z H s->t Z H Q->aL (aP X.prog X.w) X.A (isTrue e X.env dr) (TP X ac Z Q) X.xe s
theorem PW.pt {X:Cx}{t:TT}(h:PW X e t):PT X e t:=h _
def PA (X:Cx)(es:aau)(t:TA):Prop:=
 ∀ (pos:bH) (ac:lv) (s:aH) (Z:St) (H:Hp) (Q:aai->Hp->Prop),Inv X ac Z H s->t Z H Q->aL (aP X.prog X.w) X.A (spliced (gL pos (bX es X.env))) (AP X ac Z Q) X.xe s
def PS (X:Cx)(st:eK)(t:TS):Prop:=
 ∀ (ac:lv) (s:aH) (Z:St) (H:Hp) (D:Ends),Inv X ac Z H s->t D Z H->aL (aP X.prog X.w) X.A (exec st X.env) (SP X ac D) X.xe s
def PSs (X:Cx)(st:List eK)(t:TS):Prop:=
 ∀ (ac:lv) (s:aH) (Z:St) (H:Hp) (D:Ends),Inv X ac Z H s->t D Z H->aL (aP X.prog X.w) X.A (execs st X.env) (SP X ac D) X.xe s
theorem bb {α:Type}{t:Sem α}{Q Q':α->aH->Prop}(h:aL M A t Q E s)(hQ:∀ a s,Q a s->Q' a s):aL M A t Q' E s:=kP h hQ λ_ _ x=>x
section
variable {X:Cx}
abbrev sG (i:Nat):TE:=λZ H Q=>∃ v,Z[i]?=aa (aa v)/\Q v H
abbrev tC (v:V):TE:=λ_ H Q=>Q v H
theorem Pp(hN:X.N[i]?=aa x)(hv:BA X.env.scope x)(hd:(x==("__debug__" : aE))=ah:=by decide)(o0:(x==("__classdict__" : aE))=ah:=by decide):PE X (.Name x pos) (sG i):=by
 rw[9];obtain⟨v,e,h⟩:=h;obtain⟨m,hn,hl⟩:=I.loc;obtain⟨u,r,l⟩:=hl i x v hN e hv;have fin:EP X ac Z Q u s:=⟨v,H,I,r,h⟩;rcases l with⟨hk,hm⟩|⟨hk,c,hc,jy⟩
 .exact wpAny_Name (wpAny_loadName_local I.ok.kind hk hn hm fin) hd
 .rcases hk with hk|hk
  .exact wpAny_Name (wpAny_loadName_cell I.ok.kind hk hc jy fin) hd
  .exact wpAny_Name (wpAny_loadName_free I.ok.kind hk hc jy fin o0) hd
structure Nm (X:Cx)(i:Nat)(x:aE):Prop where
 a:X.N[i]?=aa x
 v:BA X.env.scope x
 d:(x==("__debug__" : aE))=ah
 c:(x==("__classdict__" : aE))=ah
theorem hE(hN:X.N[i]?=aa x:=by rfl)(hv:BA X.env.scope x:=by first|exact gU rfl|exact jS (gU rfl)|exact jS (jS rfl))(hd:(x==("__debug__" : aE))=ah:=by decide)(o0:(x==("__classdict__" : aE))=ah:=by decide):Nm X i x:=⟨hN,hv,hd,o0⟩
theorem Nm.pe(h:Nm X i x):PE X (.Name x pos) (sG i):=Pp h.a h.v h.d h.c
theorem IB {i j pos}:PE X (.Constant (.int i) j pos) (tC (.int i)):=λ_ _ _ H _ I h=>wpAny_Constant_int ⟨.int i,H,I.tok _,⟨_,rfl⟩,h⟩
theorem Mm {b j pos}:PE X (.Constant (.bool b) j pos) (tC (.bl b)):=λ_ _ _ H _ I h=>Constant_bool ⟨.bl b,H,I,rfl,h⟩
theorem WE {j pos}:PE X (.Constant .none j pos) (tC .non):=λ_ _ _ H _ I h=>Constant_none ⟨.non,H,I,rfl,h⟩
theorem Qc {x j pos}:PE X (.Constant (.str x) j pos) (tC (.str x)):=λ_ _ _ H _ I h=>Calls.Constant_str ⟨.str x,H,I.tok _,⟨_,rfl⟩,h⟩
def Gl (X:Cx)(x:aE):Prop:=X.env.kindOf x=aa .globalImplicit
theorem Gn{Z:St}{H:Hp}(I:Inv X ac Z H s)(hg:Gl X x)(hm:X.mg x=aa u)(h:Q u s)
  (hd:(x==("__debug__" : aE))=ah:=by decide):aL (aP X.prog X.w) X.A (bY (.Name x pos) X.env) Q E s:=
 Calls.Name_function_global I.ok.kind hg (Calls.loadGlobal_global (by rw[I.ok.glob];exact I.mod.glob.keeps I.bk) hm h) hd
theorem rJ{Z:St}{H:Hp}(I:Inv X ac Z H s)(hg:Gl X x)(hm:X.mg x=ab)(hv:mM x=aa u)(h:Q u s)
  (hn:x ≠ "__name__":=by decide) (hd:(x==("__debug__" : aE))=ah:=by decide):aL (aP X.prog X.w) X.A (bY (.Name x pos) X.env) Q E s:=by
 obtain⟨mb,h1,h2⟩:=I.mod.blt;exact Calls.Name_function_global I.ok.kind hg (Calls.loadGlobal_builtin (by rw[I.ok.glob];exact I.mod.glob.keeps I.bk) hm (by rw[I.ok.blt];exact h1.keeps I.bk) ((h2 x hn).trans hv) h) hd
theorem Sj{v:V}(hg:Gl X x)(hm:X.mg x=aa u)(r:RelV v u)(hd:(x==("__debug__" : aE))=ah:=by decide):PE X (.Name x pos) (tC v):=
 λ_ _ _ H _ I h=>Gn I hg hm ⟨v,H,I,r,h⟩ hd
theorem Tf{v:V}(hg:Gl X x)(hm:X.mg x=ab)(hv:mM x=aa u)(r:RelV v u)(hn:x ≠ "__name__":=by decide)(hd:(x==("__debug__" : aE))=ah:=by decide):PE X (.Name x pos) (tC v):=
 λ_ _ _ H _ I h=>rJ I hg hm hv ⟨v,H,I,r,h⟩ hn hd
variable {a b:aQ}{ta tb:TE}
def tB (t:TE):TT:=λZ H Q=>t Z H λx H1=>∃ c,x=.bl c/\Q c H1
theorem Pw{t:TE}(h:PE X e t)(he:∀ dr,isTrue e X.env dr=(do let v <-dr;standAt e.pos;nF [v] (truthy v)):=by intro _;rfl):PT X e (tB t):=by
 intro ac s Z H Q I hw;refine isTrue_plain (bb (h ac s Z H _ I hw) λv s1 ⟨x,H1,I1,r1,q1⟩=>?_) (he _)
 obtain⟨d,rfl,q⟩:=q1;cases r1;exact FO ⟨H1,I1,q⟩
variable {tA tB':TT}{rest:aau}
def La (t u:TT):TT:=λZ H Q=>t Z H λc H1=>if c=af then u Z H1 Q else Q ah H1
def tOr (t u:TT):TT:=λZ H Q=>t Z H λc H1=>if c=af then Q af H1 else u Z H1 Q
def Lk (t:TT):TT:=λZ H Q=>t Z H λc H1=>Q (!c) H1
theorem Rc (ha:PT X a tA):PW X (.BoolOp .And [a] pos) tA:=by
 intro wh ac s Z H Q I h;refine isTrue_and (bb (ha ac s Z H Q I h) λc s1 e=>?_)
 cases c with
 |true=>exact isTrue_and_nil e
 |false=>exact e
theorem Ov (ha:PT X a tA):PW X (.BoolOp .Or [a] pos) tA:=by
 intro wh ac s Z H Q I h;refine isTrue_or (bb (ha ac s Z H Q I h) λc s1 e=>?_)
 cases c with
 |false=>exact isTrue_or_nil e
 |true=>exact e
theorem Qb (ha:PT X a tA)(hb:PW X (.BoolOp .And (b::rest) pos) tB'):PW X (.BoolOp .And (a::b::rest) pos) (La tA tB'):=by
 intro wh ac s Z H Q I h;refine isTrue_and (bb (ha ac s Z H _ I h) λc s1 gh=>?_)
 obtain⟨H1,I1,q1⟩:=gh;cases c with
 |true=>exact hb wh ac s1 Z H1 Q I1 q1
 |false=>exact⟨H1,I1,q1⟩
theorem Mk (ha:PT X a tA)(hb:PW X (.BoolOp .Or (b::rest) pos) tB'):PW X (.BoolOp .Or (a::b::rest) pos) (tOr tA tB'):=by
 intro wh ac s Z H Q I h;refine isTrue_or (bb (ha ac s Z H _ I h) λc s1 gh=>?_)
 obtain⟨H1,I1,q1⟩:=gh;cases c with
 |true=>exact⟨H1,I1,q1⟩
 |false=>exact hb wh ac s1 Z H1 Q I1 q1
theorem Nt (ha:PT X a tA):PT X (.UnaryOp .Not a pos) (Lk tA):=by
 rw[9];exact isTrue_not (ha ac s Z H (λc H1=>Q (!c) H1) I h)
def Mn (ta tb:TE):TE:=λZ H Q=>ta Z H λx H1=>∃ c,x=.bl c/\if c=af then tb Z H1 Q else Q (.bl ah) H1
theorem Og {op}{t:TE}(h:PE X a t):PE X (.BoolOp op [a] pos) t:=λac s Z H Q I hw=>BoolOp_one (h ac s Z H Q I hw)
theorem Ob (ha:PE X a ta)(hb:PE X (.BoolOp .And (b::rest) pos) tb):PE X (.BoolOp .And (a::b::rest) pos) (Mn ta tb):=by
 rw[9];refine BoolOp_and (bb (ha ac s Z H _ I h) λv s1 gh=>?_)
 obtain⟨x,H1,I1,r1,q1⟩:=gh;obtain⟨c,rfl,q1⟩:=q1;cases r1;refine FO ?_;cases c with
 |true=>exact hb ac s1 Z H1 Q I1 q1
 |false=>exact⟨.bl ah,H1,I1,rfl,q1⟩
def tIf (t:TT)(ta tb:TE):TE:=λZ H Q=>t Z H λc H1=>if c=af then ta Z H1 Q else tb Z H1 Q
theorem YQ(hc:PT X c tA)(ha:PE X a ta)(hb:PE X b tb):PE X (.IfExp c a b pos) (tIf tA ta tb):=by
 rw[9];refine wpAny_IfExp (bb (hc ac s Z H _ I h) λd s1 gh=>?_)
 obtain⟨H1,I1,q1⟩:=gh;cases d with
 |true=>exact ha ac s1 Z H1 Q I1 q1
 |false=>exact hb ac s1 Z H1 Q I1 q1
end
def SqL (K:aK)(H:Hp)(a:aC)(xs:aai):Prop:=
 Rd H a (.lst xs) \/
  ∃ (o:bD) (its:Array aD) (n:Nat),K.lookup a=aa o/\o.cls=.type "list" /\ o.dict=ab/\o.data=.seq its n/\its.size<=sizeLine/\Vals xs its.toList
def SqT (K:aK)(H:Hp)(a:aC)(xs:aai):Prop:=
 Rd H a (.tup xs) \/
  ∃ (o:bD) (its:Array aD) (n:Nat),K.lookup a=aa o/\o.cls=.type "tuple" /\ o.data=.seq its n/\its.size<=sizeLine/\Vals xs its.toList
noncomputable def Kx:aD->Option V
 |.none=>aa .non
 |.bool b=>aa (.bl b)
 |.int i _=>aa (.int i)
 |.str x _=>aa (.str x)
 |.bytes b _=>aa (.byt b)
 |.float b _=>aa (.flt b)
 |.ref a=>aa (.ref a)
 |.type n=>aa (.ty n)
 |_=>ab
theorem RelV.abs {x:V}(r:RelV x u):Kx u=aa x:=by
 cases x with
 |non=>cases r;rfl
 |bl _=>cases r;rfl
 |int _=>obtain⟨t,rfl⟩:=r;rfl
 |str _=>obtain⟨t,rfl⟩:=r;rfl
 |byt _=>obtain⟨t,rfl⟩:=r;rfl
 |flt _=>obtain⟨t,rfl⟩:=r;rfl
 |ref _=>cases r;rfl
 |ty _=>cases r;rfl
theorem RelV.inj {x y:V}(r:RelV x u)(q:RelV y u):x=y:=dY (r.abs.symm.trans q.abs)
theorem Vals.inj:∀ {xs ys:aai} {us:aam},Vals xs us->Vals ys us->xs=ys:=by
 intro xs ys us h;induction h generalizing ys with
 |nil=>intro h;cases h;rfl
 |cons r _ ih=>
  intro h;cases h with
  |cons r' t'=>rw[r.inj r',ih t']
section
variable {X:Cx}{Z:St}{H:Hp}{xs ys:aai}
theorem SqL.of(h:H a=aa (.lst xs)):SqL K H a xs:=.inl (.inl h)
theorem SqT.of(h:H a=aa (.tup xs)):SqT K H a xs:=.inl (.inl h)
theorem Inv.list (I:Inv X ac Z H s)(h:SqL X.K H a xs):∃ its:aam,Vals xs its/\PlainL s.heap a its.toArray/\xs.length<=sizeLine:=by
 rcases h with h|⟨o,its,n,hk,hc,hd,hs,hz,r⟩
 .obtain⟨z,its,n,r,e⟩:=h.ok I.hok;exact⟨its,r,⟨_,n,e,rfl,rfl,rfl⟩,z⟩
 .refine⟨its.toList,r,⟨o,n,I.kIn a o hk,hc,hd,by simpa using hs⟩,?_⟩
  have e:=r.length
  grind
theorem Inv.tuple (I:Inv X ac Z H s)(h:SqT X.K H a xs):∃ its:aam,Vals xs its/\IsTup s.heap a its.toArray/\xs.length<=sizeLine:=by
 rcases h with h|⟨o,its,n,hk,hc,hs,hz,r⟩
 .obtain⟨z,its,r,p⟩:=h.ok I.hok;exact⟨its,r,p.1,z⟩
 .refine⟨its.toList,r,⟨o,I.kIn a o hk,hc,n,by simpa using hs⟩,?_⟩
  have e:=r.length
  grind
theorem Inv.list_inj (I:Inv X ac Z H s)(h:SqL X.K H a xs)(h':SqL X.K H a ys):xs=ys:=by
 obtain⟨its,r,⟨o,n,e,_,_,d⟩,_⟩:=I.list h;obtain⟨its',r',⟨o',n',e',_,_,d'⟩,_⟩:=I.list h';rw[e] at e';cases e';rw[d] at d';injection d' with d1 _;have:its=its':=by simpa using congrArg Array.toList d1
 rw[12];exact r.inj r'
theorem Inv.tuple_inj (I:Inv X ac Z H s)(h:SqT X.K H a xs)(h':SqT X.K H a ys):xs=ys:=by
 obtain⟨its,r,⟨o,e,_,n,d⟩,_⟩:=I.tuple h;obtain⟨its',r',⟨o',e',_,n',d'⟩,_⟩:=I.tuple h';rw[e] at e';cases e';rw[d] at d';injection d' with d1 _;have:its=its':=by simpa using congrArg Array.toList d1
 rw[12];exact r.inj r'
end
abbrev Cx.wish (X:Cx)(E:aD->aH->Prop):Cx:={ X with xe:=E }
abbrev Cx.nox (X:Cx):Cx:=X.wish λ_ _=>False
theorem Cx.Ok.wish {X:Cx}(ok:X.Ok)(E:aD->aH->Prop):(X.wish E).Ok:=
 ⟨ok.mod,ok.kind,ok.glob,ok.blt,ok.above,ok.inj,ok.has,ok.cab,ok.hd,ok.frames,ok.stk,ok.exf,ok.bs,ok.bsz,ok.noex,ok.exfs,ok.funs,ok.frf⟩
theorem Cx.Ok.unwish {X:Cx}(ok:(X.wish E).Ok):X.Ok:=
 ⟨ok.mod,ok.kind,ok.glob,ok.blt,ok.above,ok.inj,ok.has,ok.cab,ok.hd,ok.frames,ok.stk,ok.exf,ok.bs,ok.bsz,ok.noex,ok.exfs,ok.funs,ok.frf⟩
section
variable {X:Cx}{Z:St}{H:Hp}
theorem Inv.wish (I:Inv X ac Z H s)(E:aD->aH->Prop):Inv (X.wish E) ac Z H s:=⟨I.ok.wish E,I.os,I.bare,I.base,I.loc,I.cell,I.free,I.freeC,I.pin,I.hok,I.len⟩
theorem Inv.unwish (I:Inv (X.wish E) ac Z H s):Inv X ac Z H s:=⟨I.ok.unwish,I.os,I.bare,I.base,I.loc,I.cell,I.free,I.freeC,I.pin,I.hok,I.len⟩
theorem SP.unwish {D:Ends}{f:Flow}(h:SP (X.wish E) ac D f s'):SP X ac D f s':=by
 cases f with
 |next=>obtain⟨σ',H',I,q⟩:=h;exact⟨σ',H',I.unwish,q⟩
 |brk=>obtain⟨σ',H',I,q⟩:=h;exact⟨σ',H',I.unwish,q⟩
 |cont=>obtain⟨σ',H',I,q⟩:=h;exact⟨σ',H',I.unwish,q⟩
 |ret u=>obtain⟨v,σ',H',I,r,q⟩:=h;exact⟨v,σ',H',I.unwish,r,q⟩
theorem PSs.nox {st:List eK}{t:TS}(h:PSs X.nox st t):PSs X st t:=λac s Z H D I hw=>
 kP (h ac s Z H D (I.wish _) hw) (λ_ _ q=>q.unwish) λ_ _ z=>qO z
end
section
variable {X:Cx}{st:eK}{rest:List eK}{t u:TS}{te:TE}
def TN:TS:=λD Z H=>D.nx Z H
def HJ (t u:TS):TS:=λD Z H=>t { D with nx:=u D } Z H
theorem IF:PSs X [] TN:=λ_ _ Z H _ I h=>OU ⟨Z,H,I,h⟩
theorem JN (h1:PS X st t)(h2:PSs X rest u):PSs X (st::rest) (HJ t u):=by
 intro ac s Z H D I h;refine wpAny_execs_cons (bb (h1 ac s Z H { D with nx:=u D } I h) λf s1 q=>?_)
 cases f with
 |next=>
  obtain⟨σ',H',I',q⟩:=q;exact h2 ac s1 σ' H' D I' q
 |ret v=>exact q
 |brk=>exact q
 |cont=>exact q
theorem IK (h1:PS X st t):PSs X [st] t:=by
 intro ac s Z H D I h;refine wpAny_execs_cons (bb (h1 ac s Z H D I h) λf s1 q=>?_)
 cases f with
 |next=>exact OU q
 |ret v=>exact q
 |brk=>exact q
 |cont=>exact q
theorem Inv.quiet{Z:St}{H:Hp}(I:Inv X ac Z H s):interactive X.env=ah:=by simp[interactive,I.ok.kind]
def Lw (te:TE):TS:=λD Z H=>te Z H λ_ H1=>D.nx Z H1
theorem yE (he:PE X e te)(hs:kQ e ab pos.line X.env=pure ah:=by rfl):PS X (.Expr e pos) (Lw te):=by
 intro ac s Z H D I h;exact wpAny_Expr_any (bb (he ac s Z H _ I h) λv s1 ⟨x,H1,I1,r1,q1⟩=>⟨Z,H1,I1,q1⟩) I.quiet hs
def Lj (te:TE):TS:=λD Z H=>te Z H D.rt
theorem BJ (he:PE X e te):PS X (.Return (aa e) pos) (Lj te):=by
 intro ac s Z H D I h;exact wpAny_Return_some (bb (he ac s Z H _ I h) λv s1 ⟨x,H1,I1,r1,q1⟩=>⟨x,Z,H1,I1,r1,q1⟩)
def RT (c:TT)(t u:TS):TS:=λD Z H=>c Z H λb H1=>if b=af then t D Z H1 else u D Z H1
theorem HK{a b:List eK}{tc:TT}(hc:PT X c tc)(ha:PSs X a t)(hb:PSs X b u):PS X (.If c a b pos) (RT tc t u):=by
 intro ac s Z H D I h;refine wpAny_If (bb (hc ac s Z H _ I h) λd s1 gh=>?_)
 obtain⟨H1,I1,q1⟩:=gh;cases d with
 |true=>exact ha ac s1 Z H1 D I1 q1
 |false=>exact hb ac s1 Z H1 D I1 q1
end
abbrev TG:=V->St->Hp->(St->Hp->Prop)->Prop
abbrev uc:=aai->St->Hp->(St->Hp->Prop)->Prop
def PG (X:Cx)(gf:aQ)(t:TG):Prop:=
 ∀ (ac:lv) (s:aH) (Z:St) (H:Hp) (v:V) (u:aD) (Q:St->Hp->Prop),Inv X ac Z H s->RelV v u->t v Z H Q ->
  aL (aP X.prog X.w) X.A (jR gf X.env u) (λ_ s'=>∃ σ' H',Inv X ac σ' H' s'/\Q σ' H') X.xe s
def M' (X:Cx)(ts:aau)(t:uc):Prop:=
 ∀ (ac:lv) (s:aH) (Z:St) (H:Hp) (vs:aai) (us:aam) (Q:St->Hp->Prop),Inv X ac Z H s->Vals vs us->t vs Z H Q ->
  aL (aP X.prog X.w) X.A (assignInOrder ((eZ ts X.env).map (·.2)) us) (λ_ s'=>∃ σ' H',Inv X ac σ' H' s'/\Q σ' H') X.xe s
abbrev HB:=V->V->V->Hp->(Hp->Prop)->Prop
def SB (X:Cx)(t:HB):Prop:=
 ∀ (ac:lv) (s:aH) (Z:St) (H:Hp) (o i v:V) (ov iv u:aD) (Q:Hp->Prop),Inv X ac Z H s->RelV o ov->RelV i iv->RelV v u->t o i v H Q ->
  aL (aP X.prog X.w) X.A (setItem ov iv u) (λ_ s'=>∃ H',Inv X ac Z H' s'/\Q H') X.xe s
section
variable {X:Cx}
def sU (i:Nat):TG:=λv Z H Q=>Q (Z.set i (aa v)) H
theorem nZ(hN:X.N.Nodup)(hi:X.N[i]?=aa x)(hx:jF X.env.scope x)(hf:Fn X x:=by exact jI):PG X (.Name x pos) (sU i):=by
 intro ac s Z H v u Q I r h;exact wpAny_assign_Name (XF I hN hi hx r (λs' I'=>⟨_,H,I',h⟩) hf)
def SL:uc:=λvs Z H Q=>vs=[]/\Q Z H
def HS (t:TG)(u:uc):uc:=λvs Z H Q=>∃ v r,vs=v::r/\t v Z H λσ' H'=>u r σ' H' Q
theorem CQ:M' X [] SL:=by
 intro ac s Z H vs us Q I r h;obtain⟨e,h⟩:=h;subst e;cases r;exact assignInOrder_nil ⟨Z,H,I,h⟩
theorem rN{t:TG}{u:uc}(h1:PG X e t)(h2:M' X es u)
  (hs:(eZ (e::es) X.env).map (·.2)=jR e X.env::(eZ es X.env).map (·.2):=by rfl):M' X (e::es) (HS t u):=by
 intro ac s Z H vs us Q I r h;obtain⟨v,vr,e1,h⟩:=h;subst e1;cases r with
 |cons r rr=>
  rw[hs];refine assignInOrder_cons (bb (h1 ac s Z H _ _ _ I r h) λ_ s1 gh=>?_)
  obtain⟨σ1,H1,I1,q1⟩:=gh;exact h2 ac s1 σ1 H1 _ _ Q I1 rr q1
def SI (K:aK)(n:Nat)(t:uc):TG:=λv Z H Q=>∃ a xs,v=.ref a/\SqT K H a xs/\xs.length=n/\t xs Z H Q
theorem IC{t:uc}{n:Nat}(hc:X.calm=af)(h:M' X es t)
  (hn:(eZ es X.env).length=n:=by rfl) (dm:(eZ es X.env).findIdx? (·.1)=ab:=by rfl):PG X (.Tuple es k pos) (SI X.K n t):=by
 intro ac s Z H v u Q I r hw;obtain⟨a,xs,e1,hq,hl,hw⟩:=hw;subst e1;cases r;obtain⟨its,rv,ht,hz⟩:=I.tuple hq;refine assign_Tuple_tuple (I.ok.hd hc) ht (by simp[hn,<-hl,rv.length]) dm λh' hx=>?_
 have I1:Inv X ac Z H { s with heap:=h' }:=I.kept (t':=s.toks) λb o e=>hx b o (cO (bM e)) e
 exact h ac _ Z H xs _ Q I1 (by simpa using rv) hw
def Lb (to ti:TE)(t:HB):TG:=λv Z H Q=>to Z H λo H1=>ti Z H1 λi H2=>t o i v H2 λH3=>Q Z H3
theorem VR {o i:aQ}{to ti:TE}{t:HB}(ho:PE X o to)(hi:PE X i ti)(hs:SB X t)
  (ha:∀ v,jR (.Subscript o i pos) X.env v=(do
   let ov <-nF [v] (bY o X.env)
   let iv <-nF [v,ov] (bY i X.env)
   standAt pos
   nF [v,ov,iv] (setItem ov iv v)
   release [v,ov,iv] []):=by intro _;rfl):PG X (.Subscript o i pos) (Lb to ti t):=by
 intro ac s Z H v u Q I r h;rw[ha];refine aG (eY (bb (ho ac s Z H _ I h) λov s1 gh=>?_))
 obtain⟨x,H1,I1,r1,q1⟩:=gh;refine aG (eY (bb (hi ac s1 Z H1 _ I1 q1) λiv s2 gh=>?_))
 obtain⟨y,H2,I2,r2,q2⟩:=gh;refine aG (OO (aG (eY (bb (hs ac s2 Z H2 x y v ov iv u _ I2 r1 r2 r q2) λ_ s3 gh=>?_))))
 obtain⟨H3,I3,q3⟩:=gh;exact wpAny_release ⟨Z,H3,I3,q3⟩
def xT (te:TE)(g:TG):TS:=λD Z H=>te Z H λx H1=>g x Z H1 D.nx
theorem OK{te:TE}{g:TG}(he:PE X e te)(hg:PG X tg g)(hs:OX [tg] e pos.line X.env=pure ah:=by rfl)(hw:OY [tg] e X.env=pure ab:=by rfl)
  (h1:(eZ [tg] X.env).map (·.2)=[jR tg X.env]:=by rfl):PS X (.Assign [tg] e pos) (xT te g):=by
 intro ac s Z H D I h;refine wpAny_Assign_stores (bb (he ac s Z H _ I h) λv s1 ⟨x,H1,I1,r1,q1⟩=>?_) hs hw
 rw[h1];exact bb (hg ac s1 Z H1 x v _ I1 r1 q1) λ_ s2 q=>q
theorem BW{te:TE}{ic:bH}(hN:X.N.Nodup)(hi:X.N[i]?=aa x)(hx:jF X.env.scope x)(he:PE X e te)(hs:kQ e (aa (.Name x ic)) pos.line X.env=pure ah:=by rfl)(hf:Fn X x:=by exact jI) :
  PS X (.Assign [.Name x ic] e pos) (xT te (sU i)):=by
 intro ac s Z H D I h;refine wpAny_Assign_Name (bb (he ac s Z H _ I h) λv s1 ⟨y,H1,I1,r1,q1⟩=>?_) hs
 exact XF I1 hN hi hx r1 (λs2 I2=>⟨_,H1,I2,q1⟩) hf
end
section
variable {X:Cx}
def Ow (c:TT)(tb:TS):TS:=λD Z H=>∃ W:Nat->St->Hp->Prop,(∃ m,W m Z H)/\∀ m Z H,W m Z H ->
 c Z H λb H1=>if b=af then ∃ N:St->Hp->Prop,(∀ σ' H',N σ' H'->∃ m',m'<m/\W m' σ' H')/\tb { D with nx:=N,ct:=N,bk:=D.nx } Z H1 else D.nx Z H1
theorem Wz{tc:TT}{tb:TS}(hp:wV (aP X.prog X.w) X.A X.env X.xe)(hc:PT X c tc)(hb:PSs X body tb):PS X (.While c body [] pos) (Ow tc tb):=by
 intro ac s Z H D I h;obtain⟨W,⟨m0,w0⟩,jf⟩:=h;refine wpAny_While (codeAny_whileLoop (λn s'=>∃ σ' H',Inv X ac σ' H' s'/\W n σ' H') ?_ m0 ⟨Z,H,I,w0⟩)
 rintro n s1 ⟨σ1,H1,I1,w1⟩;refine wF hp (bb (hc ac s1 σ1 H1 _ I1 (jf n σ1 H1 w1)) λb s2 gh=>?_)
 obtain⟨H2,I2,q2⟩:=gh;cases b with
 |true=>
  obtain⟨N,hN,q2⟩:=q2;rw[if_pos rfl];refine wF hp (bb (hb ac s2 σ1 H2 _ I2 q2) λf s3 q3=>?_)
  cases f with
  |next=>
   obtain⟨σ3,H3,I3,n3⟩:=q3
   grind
  |cont=>
   obtain⟨σ3,H3,I3,n3⟩:=q3
   grind
  |brk=>exact q3
  |ret v=>exact q3
 |false=>
  rw[if_neg kX];exact OU ⟨σ1,H2,I2,q2⟩
end
structure It where
 go:Nat->Hp->Prop
 yld:Nat->Hp->V->Hp->Prop
 stop:Nat->Hp->Prop
def iR (X:Cx)(ac:lv)(H:Hp)(b:aC):Prop:=
 H b=ab/\b≠X.env.locals/\b∉X.fs/\(b∈X.ex\/X.s₀.heap.objs.size<=b)/\(∀ x c,X.env.cells.lookup x=aa c->c≠b)/\∀ p∈X.pn++ac,p.1≠b
theorem Inv.fpOk {X:Cx}{Z:St}{H H':Hp}(I:Inv X ac Z H s)(hb:s.heap.objs.size<=b)(hn:H' b=ab):iR X ac H' b:=by
 refine⟨hn,lT (kU I.lt hb),I.nofs hb,.inr (dI I.sz hb),λx c e z=>?_,λp hp z=>?_⟩
 .obtain⟨v,q⟩:=I.cell x c e;exact absurd (kU q.lt (by rw[z];exact hb)) (nJ _)
 .exact absurd (kU (bM (I.pin p hp).1) (by rw[z];exact hb)) (nJ _)
structure Turn (P:bJ)(w:bA)(K:aK)(tg:aQ)(J:It)(fp:List aC)(it:aC)(tn:Nat->aU->Prop):Prop where
 mem:it∈fp
 obj:∀ i h,tn i h->∀ b∈fp,∃ o,h.get? b=aa o/\∀ v,o.data ≠ .cell v
 keep:∀ i h h',tn i h->(∀ b∈fp,∀ o,h.get? b=aa o->h'.get? b=aa o)->tn i h'
 item:∀ (X:Cx),X.prog=P->X.w=w->X.K=K->X.calm=af->∀ (i:Nat) (ac:List (aC×bD)) (s:aH) (Z:St) (H:Hp) (E:aD->aH->Prop),Inv X ac Z H s->(∀ b∈fp,iR X ac H b)->tn i s.heap->J.go i H ->
  aL (aP P w) X.A (gJ (.ref it)) (λr s1=>∃ u,r=aa u /\
   aL (aP P w) X.A (PH tg (.ref it) u) (λ_ s2=>∃ x H',Inv X ac Z H' s2/\RelV x u/\J.yld i H x H'/\tn (i+1) s2.heap/\∀ b∈fp,H' b=ab) E s1) E s
 done:∀ (X:Cx),X.prog=P->X.w=w->X.K=K->X.calm=af->∀ (i:Nat) (ac:List (aC×bD)) (s:aH) (Z:St) (H:Hp) (E:aD->aH->Prop),Inv X ac Z H s->(∀ b∈fp,iR X ac H b)->tn i s.heap->J.stop i H ->
  aL (aP P w) X.A (gJ (.ref it)) (λr s1=>r=ab/\Inv X ac Z H s1) E s
 self:∀ (A:bP) (i:Nat) (s:aH) (Q:aD->aH->Prop) (E:aD->aH->Prop),tn i s.heap->Q (.ref it) s->aL (aP P w) A (nE (.ref it)) Q E s
abbrev TI:=St->Hp->(It->Hp->Prop)->Prop
def X2 (X:Cx)(ac:lv)(Z:St)(tg:aQ)(R:It->Hp->Prop)(O6:aD)(s2:aH):Prop:=
 ∃ (it:aC) (fp:aan) (tn:Nat->aU->Prop) (J:It) (H':Hp),O6=.ref it/\Inv X ac Z H' s2/\Turn X.prog X.w X.K tg J fp it tn/\tn 0 s2.heap/\(∀ b∈fp,iR X ac H' b)/\R J H'
def PI (X:Cx)(tg az:aQ)(wi:TI):Prop:=
 ∀ (ac:lv) (s:aH) (Z:St) (H:Hp) (R:It->Hp->Prop),Inv X ac Z H s->wi Z H R ->
  aL (aP X.prog X.w) X.A (bY az X.env) (λv s1=>aL (aP X.prog X.w) X.A (nE v) (X2 X ac Z tg R) X.xe s1) X.xe s
theorem uU{it:aC}{n:String}{vs:Array aD}{Q:Unit->aH->Prop}(ho:s.heap.get? it=aa o)(hc:o.cls=.type n)(hd:o.data=.fields vs)
    (hn:["enumerate","zip","dict_itemiterator","dict_reverseitemiterator","odict_iterator","itertools.zip_longest","itertools.pairwise"].contains n=ah) (hQ:Q Unit.unit s):aL M A (PH tg (.ref it) u) Q E s:=by
  unfold PH;cases tg<;>first
    |exact aM hQ
    | (cases u<;>first
        |exact aM hQ
        | (refine aG (wpAny_load ho ?_)
           rw[hc,hd];show aL M A (if (["enumerate","zip","dict_itemiterator","dict_reverseitemiterator","odict_iterator","itertools.zip_longest","itertools.pairwise"].contains n&&vs[0]?==aa (dF _))=af then _ else _) Q E s
           rw[if_neg (by intro h;rw[hn,Bool.false_and] at h;cases h)]
           exact aM hQ))
def GT (K:aK)(a:aC):It:=
 ⟨λi H=>∃ xs x,SqL K H a xs/\xs[i]?=aa x,λi H x H'=>H'=H/\∀ xs,SqL K H a xs->xs[i]?=aa x,λi H=>∃ xs,SqL K H a xs/\xs.length<=i⟩
def GR (K:aK)(a:aC):It:=
 ⟨λi H=>∃ xs x,SqT K H a xs/\xs[i]?=aa x,λi H x H'=>H'=H/\∀ xs,SqT K H a xs->xs[i]?=aa x,λi H=>∃ xs,SqT K H a xs/\xs.length<=i⟩
def BD (lo:Int)(n:Nat):It:=⟨λi _=>i<n,λi H x H'=>H'=H/\x=.int (lo+i),λi _=>n<=i⟩
theorem B9 {P:bJ}{w:bA}(a it:aC):Turn P w K tg (GT K a) [it] it (λi h=>h.IsListIter it a i) where
 mem:=by simp
 obj:=λi h st b hb=>by
  have e:b=it:=by simpa using hb
  subst e;obtain⟨o,e,c,d⟩:=st
  grind
 keep:=λi h h' st k=>st.at λo e=>k it (by simp) o e
 item:=by
  rw[1];obtain⟨xs,x,hq,hx⟩:=hg;obtain⟨its,rv,p,hz⟩:=I.list hq;obtain⟨u,hu,ru⟩:=rv.get hx;obtain⟨f0,f1,f2,f3,f4,f5⟩:=hf it (by simp)
  refine wpAny_pyNext_list_item st p.isList (x:=u) (by simpa using hu) λh' fu sb=>?_
  have I1:Inv X ac Z H { s with heap:=h' }:=I.turned (t':=s.toks) (λb o hb e=>(sb.2 b hb).trans e) f0 f1 f3 f4 f5
  obtain⟨o,e,c,d⟩:=id fu;exact⟨u,rfl,uU (s:={ s with heap:=h' }) e c d nofun ⟨x,H,I1,ru,⟨rfl,λys hy=>by rw[I.list_inj hy hq];exact hx⟩,fu,λb hb=>(hf b hb).1⟩⟩
 done:=by
  rw[1];obtain⟨xs,hq,hx⟩:=hg;obtain⟨its,rv,p,hz⟩:=I.list hq;obtain⟨f0,f1,f2,f3,f4,f5⟩:=hf it (by simp)
  have hl:=rv.length;exact wpAny_pyNext_list_end (I.ok.hd hc) st p.isList (by simp;lia) λh' eb=>⟨rfl,I.turned (t':=s.toks) (λb o hb e=>eb b o hb e) f0 f1 f3 f4 f5⟩
 self:=λ_ _ _ _ _ st h=>wpAny_pyIter_listiter st h
theorem Xx {P:bJ}{w:bA}(a it:aC):Turn P w K tg (GR K a) [it] it (λi h=>h.IsTupleIter it a i) where
 mem:=by simp
 obj:=λi h st b hb=>by
  have e:b=it:=by simpa using hb
  subst e;obtain⟨o,e,c,d⟩:=st
  grind
 keep:=λi h h' st k=>st.at λo e=>k it (by simp) o e
 item:=by
  rw[1];obtain⟨xs,x,hq,hx⟩:=hg;obtain⟨its,rv,p,hz⟩:=I.tuple hq;obtain⟨u,hu,ru⟩:=rv.get hx;obtain⟨f0,f1,f2,f3,f4,f5⟩:=hf it (by simp)
  refine wpAny_pyNext_tuple_item st (show s.heap.IsTuple a its.toArray from p) (x:=u) (by simpa using hu) λh' fu sb=>?_
  have I1:Inv X ac Z H { s with heap:=h' }:=I.turned (t':=s.toks) (λb o hb e=>(sb.2 b hb).trans e) f0 f1 f3 f4 f5
  obtain⟨o,e,c,d⟩:=id fu;exact⟨u,rfl,uU (s:={ s with heap:=h' }) e c d nofun ⟨x,H,I1,ru,⟨rfl,λys hy=>by rw[I.tuple_inj hy hq];exact hx⟩,fu,λb hb=>(hf b hb).1⟩⟩
 done:=by
  rw[1];obtain⟨xs,hq,hx⟩:=hg;obtain⟨its,rv,p,hz⟩:=I.tuple hq;obtain⟨f0,f1,f2,f3,f4,f5⟩:=hf it (by simp)
  have hl:=rv.length;exact wpAny_pyNext_tuple_end (I.ok.hd hc) st (show s.heap.IsTuple a its.toArray from p) (by simp;lia) λh' eb=>⟨rfl,I.turned (t':=s.toks) (λb o hb e=>eb b o hb e) f0 f1 f3 f4 f5⟩
 self:=λ_ _ _ _ _ st h=>wpAny_pyIter_tupleiter st h
theorem Yf {P:bJ}{w:bA}(it:aC)(lo:Int)(n:Nat):Turn P w K tg (BD lo n) [it] it (λi h=>IsRangeIter h it (lo+(i:Nat)*1) ((n:Int)-(i:Nat)) 1) where
 mem:=by simp
 obj:=λi h st b hb=>by
  grind
 keep:=λi h h' st k=>k it (by simp) _ st
 item:=by
  rw[1];obtain⟨f0,f1,f2,f3,f4,f5⟩:=hf it (by simp)
  have W:=Walks.range (prog:=X.prog) (w:=X.w) (I.ok.hd hc) it lo 1 n;refine W.item i s _ _ hg st λv h' tk hv fu kk=>?_
  obtain⟨t,rfl⟩:=hv;have I1:Inv X ac Z H { s with heap:=h',toks:=tk }:=I.turned (λb o hb e=>kk b o (by simpa using hb) e) f0 f1 f3 f4 f5
  refine⟨_,rfl,uU (s:={ s with heap:=h',toks:=tk }) (n:="range_iterator") fu rfl rfl nofun ⟨.int (lo+i),H,I1,⟨t,?_⟩,⟨rfl,rfl⟩,fu,λb hb=>(hf b hb).1⟩⟩
  rw[Int.mul_one]
 done:=by
  rw[1];obtain⟨f0,f1,f2,f3,f4,f5⟩:=hf it (by simp)
  exact wpAny_pyNext_range_end (I.ok.hd hc) st (by have:n<=i:=hg;lia) λh' eb=>⟨rfl,I.turned (t':=s.toks) (λb o hb e=>eb b o hb e) f0 f1 f3 f4 f5⟩
 self:=λ_ _ _ _ _ st h=>wpAny_pyIter_rangeiter st h
section
variable {X:Cx}
def Mw (K:aK)(tl:TE):TI:=λZ H R=>tl Z H λx H1=>∃ a,x=.ref a/\(∃ xs,SqL K H1 a xs)/\R (GT K a) H1
def Kt (K:aK)(tl:TE):TI:=λZ H R=>tl Z H λx H1=>∃ a,x=.ref a/\(∃ xs,SqT K H1 a xs)/\R (GR K a) H1
theorem Hl {l:aQ}{tl:TE}(hl:PE X l tl):PI X tg l (Mw X.K tl):=by
 intro ac s Z H R I h;refine bb (hl ac s Z H _ I h) λv s1 gh=>?_
 obtain⟨x,H1,I1,r1,q1⟩:=gh;obtain⟨a,e,⟨xs,hq⟩,q⟩:=q1;subst e;cases r1;obtain⟨its,rv,p,hz⟩:=I1.list hq;refine wD p.isList ?_;refine⟨s1.heap.objs.size,[s1.heap.objs.size],_,_,H1,rfl,I1.kept (t':=s1.toks) λb o e=>bF _ e,B9 a _,⟨_,cI _ rfl,rfl,rfl⟩,λb hb=>?_,q⟩
 have e:b=s1.heap.objs.size:=by simpa using hb
 subst e;exact I1.fpOk (bB _) (I1.hok.fresh (bB _))
theorem Os {l:aQ}{tl:TE}(hl:PE X l tl):PI X tg l (Kt X.K tl):=by
 intro ac s Z H R I h;refine bb (hl ac s Z H _ I h) λv s1 gh=>?_
 obtain⟨x,H1,I1,r1,q1⟩:=gh;obtain⟨a,e,⟨xs,hq⟩,q⟩:=q1;subst e;cases r1;obtain⟨its,rv,p,hz⟩:=I1.tuple hq;refine wpAny_pyIter_tuple (show s1.heap.IsTuple a its.toArray from p) ?_
 refine⟨s1.heap.objs.size,[s1.heap.objs.size],_,_,H1,rfl,I1.kept (t':=s1.toks) λb o e=>bF _ e,Xx a _,⟨_,cI _ rfl,rfl,rfl⟩,λb hb=>?_,q⟩
 have e:b=s1.heap.objs.size:=by simpa using hb
 subst e;exact I1.fpOk (bB _) (I1.hok.fresh (bB _))
theorem Wk{Z:St}{H:Hp}{R:It->Hp->Prop}{lo hi:Int}{t u v:Tok}{tk:Nat}(I:Inv X ac Z H s)(h1 : -(2^62)<=lo)(h2:lo<2^62)(h3 : -(2^62)<=hi)(h4:hi<2^62)
  (q:R (BD lo (hi-lo).toNat) H):aL (aP X.prog X.w) X.A (nE (.ref s.heap.objs.size)) (X2 X ac Z tg R) E { s with heap:=s.heap.push { cls:=.type "range",data:=.fields #[.int lo t,.int hi u,.int 1 v] },toks:=tk }:=by
 refine wpAny_pyIter_range (IsRange.new ..) (small_one h1 h2 h3 h4) ?_;have I1:Inv X ac Z H { s with heap:=s.heap.push { cls:=.type "range",data:=.fields #[.int lo t,.int hi u,.int 1 v] },toks:=tk }:=I.kept λb o e=>bF _ e
 refine⟨(s.heap.push { cls:=.type "range",data:=.fields #[.int lo t,.int hi u,.int 1 v] }).objs.size,[(s.heap.push { cls:=.type "range",data:=.fields #[.int lo t,.int hi u,.int 1 v] }).objs.size],_,_,H,rfl,
  I1.kept (t':=tk) λb o e=>bF _ e,Yf _ lo (hi-lo).toNat,?_,λb hb=>?_,q⟩
 .have e1:lo+((0:Nat):Int)*1=lo:=by simp
  have e2:(((hi-lo).toNat:Nat):Int)-((0:Nat):Int)=Builtin.Range.rangeSize lo hi 1:=by rw[rangeSize_one];split<;>lia
  show IsRangeIter _ _ (lo+((0:Nat):Int)*1) ((((hi-lo).toNat:Nat):Int)-((0:Nat):Int)) 1;rw[e1,e2];exact cI _ rfl
 .have e:b=(s.heap.push { cls:=.type "range",data:=.fields #[.int lo t,.int hi u,.int 1 v] }).objs.size:=by simpa using hb
  subst e;exact I1.fpOk (bB _) (I1.hok.fresh (bB _))
def Mc (ta:TA):TI:=λZ H R=>ta Z H λvs H1=>∃ j:Int,vs=[.int j] /\ -(2^62)<=j/\j<2^62/\R (BD 0 j.toNat) H1
theorem Xq {a:aQ}{ta:TA}(hg:Gl X "range")(hm:X.mg "range" = ab)(ha:PA X [a] ta)(hs:bX [a] X.env=[(ah,bY a X.env)]:=by rfl):PI X tg (.Call (.Name "range" p) [a] [] pos) (Mc ta):=by
 intro ac s Z H R I h;refine Call_ (rJ I hg hm boot_range (FX (bb (ha pos ac s Z H _ I h) λus s1 ⟨vs,H1,I1,r1,q1⟩=>?_) hs rfl))
 obtain⟨j,e,q1,q2,q⟩:=q1;subst e;cases r1 with
 |cons r rr=>
  cases rr;obtain⟨t,rfl⟩:=r;exact call_range_1 (Wk I1 () () q1 q2 (by simpa using q))
def Lm (wi:TI)(g:TG)(tb:TS):TS:=λD Z H=>wi Z H λJ H1=>∃ W:Nat->Nat->St->Hp->Prop,(∃ m,W 0 m Z H1)/\∀ i m Z H,W i m Z H ->
 (J.stop i H/\D.nx Z H)\/(J.go i H/\∃ N:St->Hp->Prop,(∀ σ' H',N σ' H'->∃ m',m'<m/\W (i+1) m' σ' H')/\∀ x H',J.yld i H x H'->g x Z H' λσ2 H2=>tb { D with nx:=N,ct:=N,bk:=D.nx } σ2 H2)
def xU (fp:aan)(h:aU):lv:=fp.filterMap λb=>(h.get? b).map λo=>(b,o)
theorem EU(hb:b∈fp)(e:h.get? b=aa o):(b,o)∈xU fp h:=uJ.2 ⟨b,hb,by rw[e];rfl⟩
theorem Xc{p:aC×bD}(hp:p∈xU fp h):p.1∈fp/\h.get? p.1=aa p.2:=by
 obtain⟨b,hb,e⟩:=uJ.1 hp;cases q:h.get? b with
 |none=>rw[q] at e;cases e
 |some o=>
  grind
theorem Inv.pinned{Z:St}{H:Hp}(I:Inv X ac Z H s)(hf:∀ b∈fp,iR X ac H b)(ho:∀ b∈fp,∃ o,s.heap.get? b=aa o/\∀ v,o.data ≠ .cell v):Inv X (ac++xU fp s.heap) Z H s:=
 I.pins_of λp hp=>(oU.1 hp).elim (λz=>I.pin p (oT _ z)) λz=>by
  obtain⟨hb,e⟩:=Xc z;obtain⟨f0,f1,f2,_⟩:=hf p.1 hb
  grind
theorem Inv.unpinned {pl:lv}{Z:St}{H:Hp}(I:Inv X (ac++pl) Z H s):Inv X ac Z H s:=I.pins_of λp hp=>I.pin p (oT _ (List.mem_append_left _ hp))
theorem Rq {az:aQ}{wi:TI}{g:TG}{tb:TS}(hp:wV (aP X.prog X.w) X.A X.env X.xe)(hc:X.calm=af)(hi:PI X tg az wi)(hg:PG X tg g)(hb:PSs X body tb)
  (hs:∀ x,oM az X.env x=pure x:=by intro _;rfl):PS X (.For tg az body [] pos) (Lm wi g tb):=by
 intro ac s Z H D I h;refine wpAny_For (bb (hi ac s Z H _ I h) λv s1 h1=>bb h1 λO6 s2 h2=>?_) hs
 obtain⟨it,fp,tn,J,H2,e,I2,T,og,f2,W,⟨m0,w0⟩,jf⟩:=h2;subst e;have jg:∀ {H':Hp},(∀ b∈fp,H' b=ab)->∀ b∈fp,iR X ac H' b:=λhn b hb=>⟨hn b hb,(f2 b hb).2⟩
 refine codeAny_forLoop_any (λn s'=>∃ i σ' H',Inv X ac σ' H' s'/\tn i s'.heap/\(∀ b∈fp,H' b=ab)/\W i n σ' H') ?_ m0 ⟨0,Z,H2,I2,og,λb hb=>(f2 b hb).1,w0⟩
 rintro n s3 ⟨i,σ3,H3,I3,ym,yn,w3⟩;rcases jf i n σ3 H3 w3 with⟨stop,qn⟩|⟨go,N,hN,step⟩
 .refine wF hp (bb (T.done X rfl rfl rfl hc i ac s3 σ3 H3 X.xe I3 (jg yn) ym stop) λr s4 gh=>?_)
  obtain⟨hr,I4⟩:=gh;subst hr;exact OU ⟨σ3,H3,I4,qn⟩
 .refine wF hp (bb (T.item X rfl rfl rfl hc i ac s3 σ3 H3 X.xe I3 (jg yn) ym go) λr s4 gh=>?_)
  obtain⟨u,hr,h4⟩:=gh;subst hr;refine wF hp (bb h4 λ_ s5 gh=>?_)
  obtain⟨x,H5,I5,r5,y5,vy,S9⟩:=gh;have Tk:=I5.pinned (jg S9) (T.obj _ _ vy);refine wF hp (bb (hg _ s5 σ3 H5 x u _ Tk r5 (step x H5 y5)) λ_ s6 gh=>?_)
  obtain⟨σ6,H6,I6,q6⟩:=gh;refine wF hp (bb (hb _ s6 σ6 H6 _ I6 q6) λf s7 q7=>?_)
  have again:∀ {σ7:St} {H7:Hp},Inv X (ac++xU fp s5.heap) σ7 H7 s7->N σ7 H7->∃ m,m<n/\∃ i σ' H',Inv X ac σ' H' s7/\tn i s7.heap/\(∀ b∈fp,H' b=ab)/\W i m σ' H':=λ{σ7 H7} I7 n7=>by
   obtain⟨m',hm,w7⟩:=hN σ7 H7 n7;refine⟨m',hm,i+1,σ7,H7,I7.unpinned,T.keep _ _ _ vy λb hb o e=>(I7.pin (b,o) (oT _ (oT _ (EU hb e)))).1,λb hb=>?_,w7⟩
   obtain⟨o,e,d⟩:=T.obj _ _ vy b hb;exact(I7.pin (b,o) (oT _ (oT _ (EU hb e)))).2.1
  cases f with
  |next=>obtain⟨σ7,H7,I7,n7⟩:=q7;exact again I7 n7
  |cont=>obtain⟨σ7,H7,I7,n7⟩:=q7;exact again I7 n7
  |brk=>obtain⟨σ7,H7,I7,q7⟩:=q7;exact⟨σ7,H7,I7.unpinned,q7⟩
  |ret v=>obtain⟨x7,σ7,H7,I7,r7,q7⟩:=q7;exact⟨x7,σ7,H7,I7.unpinned,r7,q7⟩
end
abbrev R2:=V->V->Hp->VK->Prop
def OpR (X:Cx)(f:aD->aD->Sem aD)(r:R2):Prop:=
 ∀ (ac:lv) (s:aH) (Z:St) (H:Hp) (x y:V) (v u:aD) (Q:VK),Inv X ac Z H s->RelV x v->RelV y u->r x y H Q ->
  aL (aP X.prog X.w) X.A (f v u) (EP X ac Z Q) X.xe s
def Acm (X:Cx)(f:aD)(r:aai->Hp->VK->Prop):Prop:=
 ∀ (ac:lv) (s:aH) (Z:St) (H:Hp) (xs:aai) (us:aam) (Q:VK),Inv X ac Z H s->Vals xs us->r xs H Q ->
  aL (aP X.prog X.w) X.A (call f us) (EP X ac Z Q) X.xe s
def xk (r:R2)(ta tb:TE):TE:=λZ H Q=>ta Z H λx H1=>tb Z H1 λy H2=>r x y H2 Q
def rI (C:Int->Int->Prop)(g:Int->Int->V):R2:=λx y H Q=>∃ i j,x=.int i/\y=.int j/\C i j/\Q (g i j) H
def so (g:Int->Int->V):R2:=λx y H Q=>∃ i j,x=.int i/\y=.int j/\Q (g i j) H
section
variable {X:Cx}{a b:aQ}{ta tb tc:TE}
theorem GY (ha:PE X a ta)(hb:PE X b tb){Z:St}{H:Hp}{R:V->V->Hp->Prop}(I:Inv X ac Z H s)
  (h:ta Z H λx H1=>tb Z H1 λy H2=>R x y H2) {Q:aD->aH->Prop} {f:aD->aD->Sem aD}
  (hf:∀ v u s2 x y H2,Inv X ac Z H2 s2->RelV x v->RelV y u->R x y H2->aL (aP X.prog X.w) X.A (f v u) Q X.xe s2) :
  aL (aP X.prog X.w) X.A (bY a X.env) (λv s₁=>aL (aP X.prog X.w) X.A (bY b X.env) (λu s₂=>aL (aP X.prog X.w) X.A (f v u) Q X.xe s₂) X.xe s₁) X.xe s:=by
 refine bb (ha ac s Z H _ I h) λv s1 gh=>?_
 obtain⟨x,H1,I1,r1,q1⟩:=gh;refine bb (hb ac s1 Z H1 _ I1 q1) λu s2 gh=>?_
 obtain⟨y,H2,I2,r2,q2⟩:=gh;exact hf v u s2 x y H2 I2 r1 r2 q2
theorem Mu {op:Operator}{r:R2}(ho:OpR X (kC op) r)(ha:PE X a ta)(hb:PE X b tb):PE X (.BinOp a op b pos) (xk r ta tb):=by
 rw[9];exact wpAny_BinOp (GY ha hb I h λv u s2 x y H2 I2 rx ry q=>ho ac s2 Z H2 x y v u Q I2 rx ry q)
theorem yh{C:Int->Int->Prop}{g:Int->Int->Int}
  (rule:∀ (i j:Int) (t u:Tok) (s:aH) (Q:aD->aH->Prop) (E:aD->aH->Prop),C i j->Q (.int (g i j) s.toks) { s with toks:=s.toks+1 }->aL (aP X.prog X.w) X.A (f (.int i t) (.int j u)) Q E s) :
  OpR X f (rI C λi j=>.int (g i j)):=by
 rw[2];obtain⟨i,j,rfl,rfl,hc,q⟩:=h;obtain⟨t,rfl⟩:=rx;obtain⟨t',rfl⟩:=ry;exact rule i j t t' s _ _ hc ⟨.int (g i j),H,I.tok _,⟨_,rfl⟩,q⟩
theorem SC{g:Int->Int->Int}
  (rule:∀ (i j:Int) (t u:Tok) (s:aH) (Q:aD->aH->Prop) (E:aD->aH->Prop),Q (.int (g i j) s.toks) { s with toks:=s.toks+1 }->aL (aP X.prog X.w) X.A (f (.int i t) (.int j u)) Q E s) :
  OpR X f (so λi j=>.int (g i j)):=by
 rw[2];obtain⟨i,j,rfl,rfl,q⟩:=h;obtain⟨t,rfl⟩:=rx;obtain⟨t',rfl⟩:=ry;exact rule i j t t' s _ _ ⟨.int (g i j),H,I.tok _,⟨_,rfl⟩,q⟩
theorem SD{g:Int->Int->Bool}
  (rule:∀ (i j:Int) (t u:Tok) (s:aH) (Q:aD->aH->Prop) (E:aD->aH->Prop),Q (.bool (g i j)) s->aL (aP X.prog X.w) X.A (f (.int i t) (.int j u)) Q E s) :
  OpR X f (so λi j=>.bl (g i j)):=by
 rw[2];obtain⟨i,j,rfl,rfl,q⟩:=h;obtain⟨t,rfl⟩:=rx;obtain⟨t',rfl⟩:=ry;exact rule i j t t' s _ _ ⟨.bl (g i j),H,I,rfl,q⟩
def Lf (i j:Int):Prop:=0<j/\j<1073741824
def Lq (i j:Int):Prop:=0<=j/\j<=1000000/\i.natAbs<2^64
def Ble (i j:Int):Prop:=(-(2^64)<i/\i<2^64)\/(-(2^64)<j/\j<2^64)
theorem Ble.ok {i j:Int}(h:Ble i j):IntMulOk i j:=by
 rcases h with⟨h1,h2⟩|⟨h1,h2⟩
 .exact .of_left (intBits_le_64 h1 h2)
 .exact .of_right (intBits_le_64 h1 h2)
theorem Bj8:OpR X (kC .Add) (so λi j=>.int (i+j)):=SC λ_ _ _ _ _ _ _ q=>add_int q
theorem Pm:OpR X (kC .Sub) (so λi j=>.int (i-j)):=SC λ_ _ _ _ _ _ _ q=>sub_int q
theorem Pj:OpR X (kC .Mult) (rI Ble λi j=>.int (i*j)):=yh λ_ _ _ _ _ _ _ hc q=>mul_int q hc.ok
theorem Sf:OpR X (kC .FloorDiv) (rI Lf λi j=>.int (i/j)):=yh λi j _ _ _ _ _ hc q=>by
 have h1:(0:Int)<j:=hc.1;have h2:j<1073741824:=hc.2;exact floordiv_int () (by rw[Int.fdiv_eq_ediv_of_nonneg i ()];exact q) (.inl (PyProof.noPylong_small ()))
theorem Ph:OpR X (kC .Mod) (rI (λ_ j=>0<j) λi j=>.int (i%j)):=yh λi j _ _ _ _ _ hc q=>by
 have h1:(0:Int)<j:=hc;exact mod_int' () (by rw[Int.fmod_eq_emod_of_nonneg i ()];exact q)
theorem Pz:OpR X (kC .Pow) (rI Lq λi j=>.int (i^j.toNat)):=yh λ_ _ _ _ _ _ _ hc q=>pow_int_small hc.1 hc.2.1 hc.2.2 q
end
section
variable {X:Cx}{a b:aQ}{ta tb tc:TE}
theorem BY{Z:St}{H:Hp}{Q:VK}{k k':Bool}(I:Inv X ac Z H s)(q:Q (.bl k) H)(e:k=k'):EP X ac Z Q (.bool k') s:=by
 subst e;exact⟨.bl k,H,I,rfl,q⟩
theorem Bj6:OpR X (gK .Lt) (so λi j=>.bl (decide (i<j))):=SD λ_ _ _ _ _ _ _ q=>lt_int q
theorem Mp:OpR X (gK .Gt) (so λi j=>.bl (decide (j<i))):=SD λ_ _ _ _ _ _ _ q=>gt_int q
theorem ZL:OpR X (gK .Lt) (λx y H Q=>∃ i j,x=.str i/\y=.str j/\Q (.bl (decide (i.cps.toList<j.cps.toList))) H):=by
 rw[2];obtain⟨i,j,rfl,rfl,q⟩:=h;obtain⟨t,rfl⟩:=rx;obtain⟨t',rfl⟩:=ry;exact lt_str (BY I q rfl)
theorem F1:OpR X (gK .In) (λx y H Q=>∃ i j,x=.str i/\y=.str j/\Q (.bl (!(RI j i 0 j.length 1).isEmpty)) H):=by
 rw[2];obtain⟨i,j,rfl,rfl,q⟩:=h;obtain⟨t,rfl⟩:=rx;obtain⟨t',rfl⟩:=ry;exact in_str (BY I q rfl)
theorem VW:OpR X (gK .Is) (λx y H Q=>y=.non/\Q (.bl (decide (x=.non))) H):=by
 rw[2];obtain⟨rfl,q⟩:=h;cases ry;refine is_none_gen (BY I q ?_);cases x<;>first
  |(cases rx;rfl)
  |(obtain⟨t,rfl⟩:=rx;rfl)
theorem Tv:OpR X (gK .IsNot) (λx y H Q=>y=.non/\Q (.bl (!decide (x=.non))) H):=by
 rw[2];obtain⟨rfl,q⟩:=h;cases ry;refine isnot_none_gen (BY I q ?_);cases x<;>first
  |(cases rx;rfl)
  |(obtain⟨t,rfl⟩:=rx;rfl)
theorem OpR.or{r r':R2}(h:OpR X f r)(h':OpR X f r'):OpR X f (λx y H Q=>r x y H Q\/r' x y H Q):=by
 intro ac s Z H x y v u Q I rx ry q;rcases q with q|q
 .exact h ac s Z H x y v u Q I rx ry q
 .exact h' ac s Z H x y v u Q I rx ry q
theorem kL (b:aQ)(h:op ≠ .In:=by decide)(h2:op ≠ .NotIn:=by decide):wQ op b=ah:=by
 have e1:(op==CmpOp.In)=ah:=by cases op<;>first|rfl|exact absurd rfl h
 have e2:(op==CmpOp.NotIn)=ah:=by cases op<;>first|rfl|exact absurd rfl h2
 cases b<;>simp[wQ,e1,e2]
theorem Gv{r:R2}(ho:OpR X (gK op) r)(ha:PE X a ta)(hb:PE X b tb)(hm:wQ op b=ah):PE X (.Compare a [op] [b] pos) (xk r ta tb):=by
 rw[9];exact wpAny_Compare1 (GY ha hb I h λv u s2 x y H2 I2 rx ry q=>ho ac s2 Z H2 x y v u Q I2 rx ry q) hm
def Nb (t:TE):TT:=λZ H Q=>t Z H λx H'=>∃ k,x=.bl k/\Q k H'
theorem Hf{r:R2}(ho:OpR X (gK op) r)(ha:PE X a ta)(hb:PE X b tb)(hm:wQ op b=ah):PT X (.Compare a [op] [b] pos) (Nb (xk r ta tb)):=by
 rw[9];refine wpAny_isTrue_Compare1 (bb (ha ac s Z H _ I h) λv s1 ⟨x,H1,I1,r1,q1⟩=>bb (hb ac s1 Z H1 _ I1 q1) λu s2 ⟨y,H2,I2,r2,q2⟩=>
  bb (ho ac s2 Z H2 x y v u _ I2 r1 r2 q2) λc s3 ⟨z,H3,I3,r3,k,e,q3⟩=>?_) hm
 subst e;cases r3;exact FO ⟨H3,I3,q3⟩
theorem rK:(sizeLine:Nat)<2^63:=by rw[mL];decide
theorem Ayp:OpR X (kC .Add) (λx y H Q=>∃ i j,x=.str i/\y=.str j/\i.length+j.length<=sizeLine/\Q (.str (i++j)) H):=by
 rw[2];obtain⟨i,j,rfl,rfl,hz,q⟩:=h;obtain⟨t,rfl⟩:=rx;obtain⟨t',rfl⟩:=ry;exact add_str (λt' tk=>⟨.str (i++j),H,I.tok _,⟨_,rfl⟩,q⟩) hz
theorem vals1 {x:V}(r:Vals [x] us):∃ u,us=[u]/\RelV x u:=by
 cases r with
 |cons r1 r2=>cases r2;exact⟨_,rfl,r1⟩
theorem vals2 {x y:V}(r:Vals [x,y] us):∃ u w',us=[u,w']/\RelV x u/\RelV y w':=by
 cases r with
 |cons r1 r2=>
  cases r2 with
  |cons r3 r4=>cases r4;exact⟨_,_,rfl,r1,r3⟩
theorem Bf (hc:X.calm=af):Acm X (.builtin "max") (λxs H Q=>∃ i j,xs=[.int i,.int j]/\Q (.int (if j > i then j else i)) H):=by
 rw[4];obtain⟨i,j,rfl,q⟩:=h;obtain⟨u,w',rfl,⟨t,rfl⟩,⟨t',rfl⟩⟩:=vals2 r;refine max_two_ints (I.ok.hd hc) λh' tk k=>⟨_,H,I.kept k,?_,q⟩
 by_cases hj:j > i
 .rw[if_pos hj,if_pos hj];exact⟨_,rfl⟩
 .rw[if_neg hj,if_neg hj];exact⟨_,rfl⟩
theorem Bl:Acm X (.type "int") (λxs H Q=>(∃ i,xs=[.int i]/\Q (.int i) H)\/∃ k,xs=[.bl k]/\Q (.int (if k then 1 else 0)) H):=by
 rw[4];rcases h with⟨i,rfl,q⟩|⟨k,rfl,q⟩
 .obtain⟨u,rfl,t,rfl⟩:=vals1 r;exact call_int_int ⟨.int i,H,I,⟨_,rfl⟩,q⟩
 .obtain⟨u,rfl,r1⟩:=vals1 r;cases r1;exact call_int_bool ⟨.int (if k then 1 else 0),H,I.tok _,⟨_,rfl⟩,q⟩
end
structure ObjM (h:aU)(x dx C:aC)(mA:aE->Option aD):Prop where
 obj:h.get? x=aa (Jb C dx)
 ns:h.Ns1 dx mA
 ne:dx≠x
theorem L4{mA:aE->aap}(n:h.Ns1 dx mA):∃ od,h.get? dx=aa od/\∀ name,Iw name od=aa (mA name):=by
 obtain⟨o,es,ep,ho,hd,hk,_,hm⟩:=n;refine⟨o,ho,λname=>?_⟩
 have e:=hm name;unfold nsFind findBy at e;rw[<-Array.find?_toList] at e;unfold Iw;rw[hd];rw[13];split
 .rename_i y q;rw[q] at e;exact congrArg aa e
 .rename_i q;rw[q] at e;have a:es.toList.any (·.refKey)=ah:=by
   rw[List.any_eq_false];intro y hy;obtain⟨z,t,jh⟩:=hk y (Array.mem_toList_iff.1 hy);simp[DictEntry.refKey,jh]
  grind
theorem ObjM.look{x:aC}{mA:aE->aap}(I:ObjM h x dx C mA):∃ od,PySem.W.InstAt h x (Jb C dx) C (aa od)/\∀ name,Iw name od=aa (mA name):=
 let ⟨od,ho,hl⟩:=L4 I.ns
 ⟨od,⟨I.obj,rfl,rfl,ho⟩,hl⟩
theorem Avi.some_of {v:V}{o:aap}(r:Avi (aa v) o):∃ u,o=aa u/\RelV v u:=by
 cases o with
 |none=>exact(show False from r).elim
 |some u=>exact⟨u,rfl,r⟩
theorem Avi.none_of {o:aap}(r:Avi ab o):o=ab:=by
 cases o with
 |none=>rfl
 |some u=>exact(show False from r).elim
section
variable {P:bJ}{w:bA}{H H':Hp}{fs fs':List (aE×V)}
theorem Uo (hok:HOk P w H h)(e:H a=aa (.ins C dx fs)):∃ mA,ObjM h a dx C mA/\(∀ f,Avi (fs.lookup f) (mA f))/\PySem.Within mA (fs.map (·.1))/\fs.length<=1000/\H dx=aa (.own a):=by
 obtain⟨d,z,ne,ob,mA,n,r,q⟩:=(show Acj P w H h a (.ins C dx fs) from hok a _ e)
 exact⟨mA,⟨ob,n,ne⟩,r,q,z,d⟩
end
structure Cls (K:aK)(C:aC):Prop where
 pg:PySem.W.plainGet K C Str.empty=af
 hd:PySem.W.hasDictIn K C=af
 po:PySem.W.plainOver K C=af
 sa:PySem.W.findIn K (.ref C) "__setattr__" = aa (aa (.builtin "object.__setattr__"))
theorem Cls.get(c:Cls K C)(f:aE):PySem.W.plainGet K C f=af:=c.pg
section
variable {X:Cx}{Z:St}{H:Hp}{c:aD}{b:Bool}
inductive TyOf (K:aK)(H:Hp):V->aD->Prop where
 |non:TyOf K H .non (.type "NoneType")
 |bl (x:Bool):TyOf K H (.bl x) (.type "bool")
 |int (i:Int):TyOf K H (.int i) (.type "int")
 |str (x:aE):TyOf K H (.str x) (.type "str")
 |flt (x:UInt64):TyOf K H (.flt x) (.type "float")
 |lst {a:aC} {xs:List V} (e:H a=aa (.lst xs)):TyOf K H (.ref a) (.type "list")
 |frz {a:aC} {o:bD} {xs:List V} (e:H a=aa (.frz o (.lst xs))):TyOf K H (.ref a) (.type "list")
 |tup {a:aC} {xs:List V} (e:H a=aa (.tup xs)):TyOf K H (.ref a) (.type "tuple")
 |dK {a:aC} {ep:Nat} {kvs:List (aI×V)} (e:H a=aa (.dK ep kvs)):TyOf K H (.ref a) (.type "dict")
 |dT {a:aC} {ep:Nat} {kvs:List (List aA×V)} (e:H a=aa (.dT ep kvs)):TyOf K H (.ref a) (.type "dict")
 |ins {a C dx:aC} {fs:List (aE×V)} (e:H a=aa (.ins C dx fs)) (cl:Cls K C) (ha:PySem.W.findIn K (.ref C) "__class__" = aa (aa (.builtin "object.__class__")))
   (hn:PySem.W.specialIn K (.builtin "object.__class__") "__get__" = aa (aa (.builtin "getset_descriptor.__get__"))) (yo:PySem.W.takesIn K (.builtin "object.__class__")=aa af)
   (hm:PySem.W.mroIn K C (.type "object")=aa af):TyOf K H (.ref a) (.ref C)
theorem E3 {x:V}{t:aD}(I:Inv X ac Z H s)(rx:RelV x u)(ty:TyOf X.K H x t)(e:Ja X.K t c=aa b)(h:∀ tk,Q (.bool b) { s with toks:=tk }) :
  aL (aP X.prog X.w) A (call (.builtin "isinstance") [u,c]) Q E s:=by
 cases ty with
 |non=>cases(show u=eE from rx);exact mN PySem.W.kitx_none I.kIn nH e (λz=>nomatch z) h
 |bl y=>cases(show u=Value.bool y from rx);exact mN PySem.W.kitx_bool I.kIn nH e (λz=>nomatch z) h
 |int i=>obtain⟨t,q⟩:=(show ∃ t,u=uE i t from rx);cases q;exact mN PySem.W.kitx_int I.kIn nH e (λz=>nomatch z) h
 |str y=>obtain⟨t,q⟩:=(show ∃ t,u=uD y t from rx);cases q;exact mN PySem.W.kitx_str I.kIn nH e (λz=>nomatch z) h
 |flt y=>obtain⟨t,q⟩:=(show ∃ t,u=Value.float y t from rx);cases q;exact mN PySem.W.kitx_float I.kIn nH e (λz=>nomatch z) h
 |@lst a xs ea=>
  cases(show u=eJ a from rx)
  obtain⟨_,_,n,_,h1⟩:=(show Acj X.prog X.w H s.heap a (.lst xs) from I.hok a _ ea)
  exact mN Iy I.kIn ⟨_,h1,rfl⟩ e (λz=>nomatch z) h
 |@frz a ob xs ea=>
  cases(show u=eJ a from rx)
  obtain⟨_,_,_,n,_,h1⟩:=(show Acj X.prog X.w H s.heap a (.frz ob (.lst xs)) from I.hok a _ ea)
  exact mN Iy I.kIn ⟨_,h1,rfl⟩ e (λz=>nomatch z) h
 |@tup a xs ea=>
  cases(show u=eJ a from rx)
  obtain⟨_,_,_,p⟩:=(show Acj X.prog X.w H s.heap a (.tup xs) from I.hok a _ ea)
  obtain⟨o,h1,h2,_⟩:=p.1;exact mN PySem.W.kitx_tuple I.kIn ⟨o,h1,h2⟩ e (λz=>nomatch z) h
 |@dK a ep kvs ea=>
  cases(show u=eJ a from rx)
  obtain⟨_,_,vs,_,p⟩:=(show Acj X.prog X.w H s.heap a (.dK ep kvs) from I.hok a _ ea)
  obtain⟨o,es,h1,h2,_⟩:=p;exact mN Iz I.kIn ⟨o,h1,h2.1⟩ e (λz=>nomatch z) h
 |@dT a ep kvs ea=>
  cases(show u=eJ a from rx)
  obtain⟨_,_,xs,_,o,es,h1,h2,_⟩:=(show Acj X.prog X.w H s.heap a (.dT ep kvs) from I.hok a _ ea)
  exact mN Iz I.kIn ⟨o,h1,h2.1⟩ e (λz=>nomatch z) h
 |@ins a C dx fs ea cl ha hn yo hm=>
  cases(show u=eJ a from rx)
  obtain⟨mA,O,_⟩:=Uo I.hok ea;obtain⟨od,J,_⟩:=O.look;exact mN (PySem.W.kitx_own (cl.get _) cl.hd ha hn yo hm) I.kIn J e (λz=>nomatch z) h
end
structure Room (k:Nat)(A:bP):Prop where
 hd:A.handled=ab
 dp:A.depth+3*k+5<recursionLimit
 un:A.units+16*k+200<cLine
theorem Room.mono {j:Nat}(r:Room k A)(h:j<=k):Room j A:=⟨r.hd,by have:=r.dp;lia,by have:=r.un;lia⟩
theorem Room.deeper(r:Room (k+1) A)(env:dW):Room k (A.deeper env):=
 ⟨r.hd,by have:=r.dp;show A.depth+1+3*k+5<_;lia,by have:=r.un;show A.units+3+16*k+200<_;lia⟩
theorem Room.depth(r:Room k A):A.depth<recursionLimit:=by have:=r.dp;lia
theorem Room.units(r:Room k A):A.units+64<cLine:=by have:=r.un;lia
abbrev HE:TA:=λ_ H Q=>Q [] H
abbrev FK (ta:TE)(tr:TA):TA:=λZ H Q=>ta Z H λx H1=>tr Z H1 λxs H2=>Q (x::xs) H2
section
variable {X:Cx}{te:TE}{t:TA}
theorem jX:PA X [] HE:=λ_ _ _ _ H Q I h=>Calls.spliced_nil ⟨[],H,I,.nil,h⟩
theorem hX (ha:PE X e te)(hr:PA X es t)(hs:bX (e::es) X.env=(ah,bY e X.env)::bX es X.env:=by rfl):PA X (e::es) (FK te t):=by
 intro pos ac s Z H Q I h;rw[hs];show aL _ _ (spliced ((ah,bY e X.env)::gL pos (bX es X.env))) _ _ s;refine Ki (bb (ha ac s Z H _ I h) λu s1 gh=>?_)
 obtain⟨x,H1,I1,r1,q1⟩:=gh;exact bb (hr pos ac s1 Z H1 _ I1 q1) λus s2 ⟨xs,H2,I2,r2,q2⟩=>⟨x::xs,H2,I2,.cons r1 r2,q2⟩
def Ll (t:TA):TE:=λZ H Q=>t Z H λxs H1=>xs.length<=sizeLine/\∀ p,H1 p=ab->Q (.ref p) (upd H1 p (.tup xs))
def Kz (t:TA):TE:=λZ H Q=>t Z H λxs H1=>xs.length<=sizeLine/\∀ p,H1 p=ab->Q (.ref p) (upd H1 p (.lst xs))
theorem VN {x1}(h:PA X es t):PE X (.Tuple es x1 pos) (Ll t):=by
 intro ac s Z H Q I hq;refine wpAny_Tuple_spliced (bb (h pos ac s Z H _ I hq) λus s1 ⟨xs,H1,I1,r,z,q⟩=>⟨by rw[<-r.length];exact z,?_⟩)
 have hf:H1 s1.heap.objs.size=ab:=I1.hok.fresh (bB _);refine⟨.ref s1.heap.objs.size,upd H1 s1.heap.objs.size (.tup xs),I1.laid (t':=s1.toks) (λb u e=>bF _ e) (bB _) ?_,rfl,q _ hf⟩
 exact⟨z,us,r,⟨_,cI _ rfl,rfl,_,rfl⟩,_,cI _ rfl,rfl⟩
theorem Qj (h:PA X es t):PE X (.List es pos) (Kz t):=by
 intro ac s Z H Q I hq;refine wpAny_List_spliced (bb (h pos ac s Z H _ I hq) λus s1 ⟨xs,H1,I1,r,z,q⟩=>⟨by rw[<-r.length];exact z,?_⟩)
 have hf:H1 s1.heap.objs.size=ab:=I1.hok.fresh (bB _);refine⟨.ref s1.heap.objs.size,upd H1 s1.heap.objs.size (.lst xs),I1.laid (t':=s1.toks) (λb u e=>bF _ e) (bB _) ?_,rfl,q _ hf⟩
 exact⟨z,us,0,r,cI _ rfl⟩
end
abbrev Sp:=aai->Hp->VK->XK->Prop
abbrev qr:=List dW->Hp->aH->XK->aD->aH->Prop
structure Env0 (P:bJ)(w:bA)(K:aK)(mg:aE->Option aD)(base:aU)(A:bP)(outer:List dW)(s:aH)(H:Hp):Prop where
 frames:A.frames=aa outer
 mod:Mod K mg base
 bs:∀ b o,base.get? b=aa o->s.heap.get? b=aa o/\H b=ab
 bsz:base.objs.size<=s.heap.objs.size
 funs:s.heap.FunFrames base outer
 frf:∀ b∈ou outer,H b=ab
 hok:HOk P w H s.heap
 bare:rW s.gens
def CE (outer:List dW)(P:bJ)(w:bA)(H:Hp)(s:aH)(Q:VK)(u:aD)(s':aH):Prop:=
 ∃ v H',s'.os=s.os/\rW s'.gens/\Un (ou outer) [] H H' s.heap s'.heap/\HOk P w H' s'.heap/\RelV v u/\Q v H'
def CR (CX:qr)(outer:List dW)(P:bJ)(w:bA)(H:Hp)(s:aH)(Q:VK)(E:XK)(r:oP)(s':aH):Prop:=
 match r with
 |.ok (.ret u)=>CE outer P w H s Q u s'
 |.ok _=>False
 |.error e=>CX outer H s E e s'
structure FnOk (P:bJ)(w:bA)(K:aK)(mg:aE->Option aD)(base:aU)(CX:qr)(k:Nat)(f:aC)(fd:mB)(ps:List aE)(sp:Sp):Prop where
 len:∀ vs H Q E,sp vs H Q E->vs.length=ps.length
 run:∀ (A:bP) (outer:List dW) (s:aH) (H:Hp) (args:Args) (us:List aD) (vs:List V) (Q:VK) (E:XK),Room k A->Env0 P w K mg base A outer s H->BindsTo s fd args (ps.zip us)->Vals vs us->sp vs H Q E ->
  jQ (aP P w) A (.call (.ref f) args) (CR CX outer P w H s Q E) s
theorem FnOk.imp {P:bJ}{w:bA}{CX:qr}{f:aC}{sp Y4:Sp}(F:FnOk P w K mg base CX k f fd ps sp)
  (h:∀ vs H Q E,Y4 vs H Q E->sp vs H Q E):FnOk P w K mg base CX k f fd ps Y4:=
 ⟨λvs H Q E q=>F.len vs H Q E (h _ _ _ _ q),λA outer s H args us vs Q E hr he hb hv hs=>F.run A outer s H args us vs Q E hr he hb hv (h _ _ _ _ hs)⟩
section
variable {X:Cx}{Z:St}{H:Hp}
theorem Inv.env0 (I:Inv X ac Z H s):Env0 X.prog X.w X.K X.mg X.base X.A X.stack s H:=
 ⟨I.ok.frames,I.ok.mod,I.bs,dI I.ok.bsz I.sz,I.stack,I.stkFree,I.hok,I.bare⟩
theorem Inv.after {Q:VK}(I:Inv X ac Z H s)(h:CE X.stack X.prog X.w H s Q u s'):EP X ac Z Q u s':=by
 obtain⟨v,H',os,bare,un,hok,r,q⟩:=h;obtain⟨hh,g,d,t,ul⟩:=s';obtain rfl:ul=s.os:=os;exact⟨v,H',I.call (h':=hh) (g':=g) (d':=d) (t':=t) (ch:=[]) un hok bare (λb z=>absurd z (by simp)),r,q⟩
end
def SV (sp:Sp)(um:aai)(E:XK)(t:TA):TE:=λZ H Q=>t Z H λvs H1=>sp (vs++um) H1 Q E
def Binds (K:aK)(fd:mB)(ps:aak)(ds:aam):Prop:=
 ∀ (s:aH) (us:aam),K.In s.heap->(us++ds).length=ps.length->BindsTo s fd ⟨us,[]⟩ (ps.zip (us++ds))
theorem Binds.all(h:∀ us:aam,us.length=ps.length->bindArgs fd ⟨us,[]⟩=pure (ps.zip us)):Binds K fd ps []:=λs us _ hl=>by
 rw[kW] at hl ⊢;exact .of_eq (h us hl)
def Passes (CX:qr)(X:Cx)(E:XK):Prop:=∀ (ac:lv) (Z:St) (H:Hp) (s:aH) (e:aD) (s':aH),Inv X ac Z H s->CX X.stack H s E e s'->X.xe e s'
section
variable {X:Cx}{CX:qr}{f:aC}{sp:Sp}{um:aai}{ds:aam}{E:XK}{m:aE}{av:bH}{o:aQ}{ta:TE}{t:TA}
theorem Pr{Z:St}{H:Hp}{Q:VK}{vs:aai}(F:FnOk X.prog X.w X.K X.mg X.base CX k f fd ps sp)(hr:Room k X.A)(hb:Binds X.K fd ps ds)(hd:Vals um ds)(hx:Passes CX X E)
  (I:Inv X ac Z H s) (r:Vals vs us) (h:sp (vs++um) H Q E):aL (aP X.prog X.w) X.A (call (.ref f) us) (EP X ac Z Q) X.xe s:=by
 have r2:Vals (vs++um) (us++ds):=r.append hd;have hl:(us++ds).length=ps.length:=by rw[<-r2.length];exact F.len _ _ _ _ h
 refine wpAny_call (wM (F.run X.A X.stack s H ⟨us,[]⟩ (us++ds) (vs++um) Q E hr I.env0 (hb s us I.kIn hl) r2 h) λr s' hq=>?_)
 cases r with
 |error e=>exact hx ac Z H s e s' I hq
 |ok fl=>
  cases fl with
  |ret u=>exact I.after hq
  |next=>exact qO hq
  |brk=>exact qO hq
  |cont=>exact qO hq
theorem Vo (F:FnOk X.prog X.w X.K X.mg X.base CX k f fd ps sp)(hr:Room k X.A)(hg:Gl X x)(hm:X.mg x=aa (.ref f))(hk:FW X.K (.ref f)=af)(hb:Binds X.K fd ps ds)(hd:Vals um ds)(hx:Passes CX X E)
  (ha:PA X (e::es) t) (ie:(x==("__debug__" : aE))=ah:=by decide) (he:bX (e::es) X.env=(ah,bY e X.env)::bX es X.env:=by rfl) (cz:(gL pos (bX es X.env)).any (·.1)=ah:=by rfl) :
  PE X (.Call (.Name x p) (e::es) [] pos) (SV sp um E t):=by
 rw[9];refine OV (Gn I hg hm ?_ ie);refine PySem.W.callWith_K (h₀:=X.base) I.ok.mod.kin hk (bb (ha pos ac s Z H _ I h) λus s1 ⟨vs,H1,I1,r,q⟩=>⟨I1.kIn,?_⟩) he cz
 exact Pr F hr hb hd hx I1 r q
end
structure FnScope (N P:List aE)(sc:fW):Prop where
 kind:sc.kind=.function
 co:sc.isCoroutine=ah
 gen:sc.isGenerator=ah
 nd:N.Nodup
 pre:N.take P.length=P
 par:∀ x∈P,sc.names.lookup x=aa .local\/sc.names.lookup x=aa .cell
 nofree:∀ y∈sc.names,y.2 ≠ .free
theorem ZM {kindOf:aE->Option jB}:∀ {binds:List (aE×aD)} {m:aE->aap},(∀ v,(x,v)∉binds)->bindL kindOf binds m x=m x
 |[],_,_=>rfl
 |(n,v)::r,m,h=>by
  unfold bindL;rw[ZM λw hw=>h w (bL _ hw)]
  split
  all_goals grind
theorem ZP {kindOf:aE->Option jB}:∀ {binds:List (aE×aD)} {m:aE->aap},(∀ v,(x,v)∉binds)->bindC kindOf binds m x=m x
 |[],_,_=>rfl
 |(n,v)::r,m,h=>by
  unfold bindC;rw[ZP λw hw=>h w (bL _ hw)]
  split
  all_goals grind
theorem ZD {kindOf:aE->Option jB}{x:aE}{v:aD}:∀ {P:aak} {vs:aam} {i:Nat} {m:aE->aap},P.Nodup->P[i]?=aa x->vs[i]?=aa v->kindOf x=aa .local ->
  bindL kindOf (P.zip vs) m x=aa v
 |[],_,_,_,_,h,_,_=>by simp at h
 |_::_,[],_,_,_,_,h,_=>by simp at h
 |p::P,w::vs,0,m,nd,h1,h2,hk=>by
  simp at h1 h2;subst h1;subst h2;show bindL kindOf ((p,w)::P.zip vs) m p=_;unfold bindL;rw[ZM λv hv=>(jC.1 nd).1 (QQ hv).1,if_pos hk]
  simp
 |p::P,w::vs,i+1,m,nd,h1,h2,hk=>by
  show bindL kindOf ((p,w)::P.zip vs) m x=_;unfold bindL;exact ZD (i:=i) (jC.1 nd).2 (by simpa using h1) (by simpa using h2) hk
theorem ZV {kindOf:aE->Option jB}{x:aE}{v:aD}:∀ {P:aak} {vs:aam} {i:Nat} {m:aE->aap},P.Nodup->P[i]?=aa x->vs[i]?=aa v->kindOf x≠aa .local ->
  bindC kindOf (P.zip vs) m x=aa v
 |[],_,_,_,_,h,_,_=>by simp at h
 |_::_,[],_,_,_,_,h,_=>by simp at h
 |p::P,w::vs,0,m,nd,h1,h2,hk=>by
  simp at h1 h2;subst h1;subst h2;show bindC kindOf ((p,w)::P.zip vs) m p=_;unfold bindC;rw[ZP λv hv=>(jC.1 nd).1 (QQ hv).1,if_neg hk]
  simp
 |p::P,w::vs,i+1,m,nd,h1,h2,hk=>by
  show bindC kindOf ((p,w)::P.zip vs) m x=_;unfold bindC;exact ZV (i:=i) (jC.1 nd).2 (by simpa using h1) (by simpa using h2) hk
def start (N:aak)(vs:aai):St:=vs.map aa++oQ (N.length-vs.length) ab
def oG (CX:qr)(P:bJ)(w:bA)(K:aK)(mg:aE->aap)(base:aU)(N:aak)(qual:aE)(scope:fW)(f:aC)(cd:aD)(A:bP)(outer:List dW)(s:aH)(H:Hp)(E:XK):Cx where
 prog:=P
 w:=w
 K:=K
 mg:=mg
 base:=base
 A:=A.deeper (envOfC qual scope s.heap.objs.size f cd)
 N:=N
 s₀:=s
 H₀:=H
 env:=envOfC qual scope s.heap.objs.size f cd
 outer:=outer
 stack:=envOfC qual scope s.heap.objs.size f cd::outer
 ex:=[]
 calm:=af
 fn:=λ_=>af
 pn:=[]
 xe:=λe s'=>aL (aP P w) (A.deeper (envOfC qual scope s.heap.objs.size f cd)) (leaving (envOfC qual scope s.heap.objs.size f cd) e) (λ_ sx=>CX outer H s E e sx) (λe' sx=>CX outer H s E e' sx) s'
theorem XY {sc:fW}{n:Nat}(h:sc.names.lookup x=aa .cell):∃ c,(iG n sc.names []).lookup x=aa c:=by
 have q:=PySem.W.cellsFrom_some sc.names n [] (.inl h);exact uG.1 q
theorem D4 {CX:qr}{P:bJ}{w:bA}{N:aak}{qual:aE}{scope:fW}{f:aC}{cd:aD}{outer:List dW}{s1:aH}{H:Hp}{E:XK}{vs:aai}
  (S:FnScope N ps scope) (hd:A.handled=ab) (e0:Env0 P w K mg base A outer s H) (hl:vs.length=ps.length) (r:Vals vs us)
  (x:InCallC s s.heap.objs.size (bindL (envOfC qual scope s.heap.objs.size f cd).kindOf (ps.zip us) λ_=>ab) (iG (s.heap.objs.size+1) scope.names []) (bindC (envOfC qual scope s.heap.objs.size f cd).kindOf (ps.zip us) λ_=>ab) s1) :
  Inv (oG CX P w K mg base N qual scope f cd A outer s H E) [] (start N vs) H s1:=by
 have cz:ps.length<=N.length:=by have:=congrArg List.length S.pre;rw[QT] at this;lia
 obtain⟨h1,tk,rfl,hk⟩:=x.done;have yp:∀ b:aC,b∉(oG CX P w K mg base N qual scope f cd A outer s H E).ex:=λb z=>absurd (show b∈([]:aan) from z) (by simp)
 refine⟨⟨e0.mod,S.kind,rfl,rfl,bB _,λy z c h1 h2=>?_,λy hy=>?_,λy c _ h=>?_,λ_=>hd,Around.frames_deeper e0.frames,.inr ⟨rfl,rfl⟩,λb z=>absurd z (yp b),e0.bs,e0.bsz,λb _ _=>yp b,λb z=>absurd z (yp b),e0.funs,e0.frf⟩,
  rfl,e0.bare,Un.kept hk,⟨_,x.toInCall.ns,λi y v h1 h2 h3=>?_⟩,λy c h=>⟨_,x.cell y c h⟩,e0.hok.fresh (bB _),λy c h=>?_,λp hp=>absurd (show p∈([]:lv) from hp) (by simp),e0.hok.kept hk,?_⟩
 .exact name_of_addr x.apart (wR h1) (wR h2)
 .have hy:scope.names.lookup y=aa .cell\/scope.names.lookup y=aa .free:=hy;rcases hy with hy|hy
  .exact XY hy
  .exact absurd rfl (S.nofree _ (wR hy))
 .exact qI (x.above y c (wR h))
 .have hi:i<vs.length:=by
   unfold start at h2;by_cases hi:i<vs.length
   all_goals grind
  have ha:vs[i]?=aa v:=by
   unfold start at h2
   grind
  obtain⟨u,hu,rv⟩:=r.get ha;have hp:ps[i]?=aa y:=by
   rw[<-S.pre,List.getElem?_take_of_lt ()];exact h1
  have Y5:ps.Nodup:=by rw[<-S.pre];exact S.nd.sublist (List.take_sublist _ _)
  refine⟨u,rv,?_⟩;rcases S.par y (eT hp) with k|k
  .exact .inl ⟨k,ZD Y5 hp hu k⟩
  .obtain⟨c,e⟩:=XY (n:=s.heap.objs.size+1) k;refine .inr ⟨.inl k,c,e,?_⟩;have q:=x.cell y c e;rw[ZV Y5 hp hu (by show scope.names.lookup y≠_;rw[k];decide)] at q
   exact q
 .exact e0.hok.fresh (qI (x.above y c (wR h)))
 .unfold start;show _=N.length;rw[rT,cJ,List.length_replicate]
  lia
theorem Ml {CX:qr}{P:bJ}{w:bA}{f:aC}{name qual:aE}{params:Arguments}{scope:fW}{dV kV ib pm bz ct oc:aD}{an od:Option aC}
  {uo:Array aap} {N ps:aak} {sp:Sp} (lk:K.lookup f=aa ⟨oc,od,.func (wU name qual params body scope dV kV ib pm an bz ct),uo⟩) (o0:PX K bz qual=af) (S:FnScope N ps scope)
  (len:∀ vs H Q E,sp vs H Q E->vs.length=ps.length)
  (pc:∀ (A:bP) (outer:List dW) (s:aH) (H:Hp) (vs:aai) (Q:VK) (E:XK),Room k (A.deeper (envOfC qual scope s.heap.objs.size f bz))->sp vs H Q E ->
   ∃ t,PSs (oG CX P w K mg base N qual scope f bz A outer s H E) body t/\t { nx:=λ_ H'=>Q .non H',rt:=Q } (start N vs) H) :
  FnOk P w K mg base CX (k+1) f (wU name qual params body scope dV kV ib pm an bz ct) ps sp:=by
 refine⟨len,λA outer s H args us vs Q E hr e0 hb r uq=>?_⟩
 have hl:=len _ _ _ _ uq;have KX:K.In s.heap:=e0.mod.kin.keeps λb o e=>(e0.bs b o e).1
 have lim:s.heap.NoLimit:=e0.mod.nolimit.keeps λb o e=>(e0.bs b o e).1
 have pd:∀ y∈ps.zip us,scope.names.lookup y.1=aa .local\/(scope.names.lookup y.1=aa .cell/\((iG (s.heap.objs.size+1) scope.names []).lookup y.1).isSome=af):=λ⟨n,v⟩ hy=>by
  rcases S.par n (QQ hy).1 with q|q
  .exact .inl q
  .exact .inr ⟨q,PySem.W.cellsFrom_some _ _ _ (.inl q)⟩
 refine codeAny_call_function hr.depth (KX _ _ lk) rfl S.co S.gen rfl (PySem.W.codeRec_of KX o0) (hb _ _ _ _ ?_);refine wpAny_newFunctionEnv_cells S.kind pd λenv he s1 x=>?_
 subst he;refine⟨lim.keeps x.toInCall.keep,codeAny_func ?_⟩;obtain⟨t,ht,hq⟩:=pc A outer s H vs Q E (hr.deeper _) uq;have I:Inv (oG CX P w K mg base N qual scope f bz A outer s H E) [] (start N vs) H s1:=D4 S hr.hd e0 hl r x;refine kP (ht [] s1 (start N vs) H _ I hq) (λfl s' hs=>?_) λe s' hs=>hs
 have fin:∀ {σ':St} {H':Hp} {v:V} {u:aD},Inv (oG CX P w K mg base N qual scope f bz A outer s H E) [] σ' H' s'->RelV v u->Q v H'->CE outer P w H s Q u s':=
  λ{σ' H' v u} J rv q=>⟨v,H',J.os,J.bare,J.base,J.hok,rv,q⟩
 cases fl with
 |ret u=>
  obtain⟨v,σ',H',J,rv,q⟩:=hs;exact fin J rv q
 |next=>
  obtain⟨σ',H',J,q⟩:=hs;exact fin (v:=V.non) (u:=eE) J rfl q
 |brk=>
  obtain⟨_,_,_,q⟩:=hs;exact qO q
 |cont=>
  obtain⟨_,_,_,q⟩:=hs;exact qO q
section
variable {X:Cx}{t:TA}{id T:String}{r:aai->Hp->VK->Prop}
def R4 (r:aai->Hp->VK->Prop)(t:TA):TE:=λZ H Q=>t Z H λvs H1=>r vs H1 Q
theorem EH (hc:Acm X (.builtin id) r)(hg:Gl X x)(hm:X.mg x=ab)(hv:mM x=aa (.builtin id))(ha:PA X (e::es) t)(hn:x ≠ "__name__":=by decide)(ie:(x==("__debug__" : aE))=ah:=by decide)
  (he:bX (e::es) X.env=(ah,bY e X.env)::bX es X.env:=by rfl) (cz:(gL pos (bX es X.env)).any (·.1)=ah:=by rfl):PE X (.Call (.Name x p) (e::es) [] pos) (R4 r t):=by
 rw[9];refine OV (rJ I hg hm hv ?_ hn ie);exact PyProof.Rows.callWith_builtin1 (bb (ha pos ac s Z H _ I h) λus s1 ⟨vs,H1,I1,r1,q1⟩=>hc ac s1 Z H1 vs us Q I1 r1 q1) he cz
theorem zF (hc:Acm X (.type T) r)(hg:Gl X x)(hm:X.mg x=ab)(hv:mM x=aa (.type T))(ha:PA X (e::es) t)(hn:x ≠ "__name__":=by decide)(ie:(x==("__debug__" : aE))=ah:=by decide)
  (he:bX (e::es) X.env=(ah,bY e X.env)::bX es X.env:=by rfl) (cz:(gL pos (bX es X.env)).any (·.1)=ah:=by rfl):PE X (.Call (.Name x p) (e::es) [] pos) (R4 r t):=by
 rw[9];refine OV (rJ I hg hm hv ?_ hn ie);exact FX (bb (ha pos ac s Z H _ I h) λus s1 ⟨vs,H1,I1,r1,q1⟩=>hc ac s1 Z H1 vs us Q I1 r1 q1) he cz
end
section
variable {κ:Type}[DecidableEq κ]
def gE (kvs:List (κ×V))(k:κ):Option V:=(kvs.find? λkv=>decide (kv.1=k)).map (·.2)
noncomputable def putK (kvs:List (κ×V))(k:κ)(v:V):List (κ×V):=
 if (kvs.any λkv=>decide (kv.1=k))=af then kvs.map (λkv=>if kv.1=k then(kv.1,v) else kv) else kvs++[(k,v)]
theorem vU {p:κ×V}{r:List (κ×V)}{k:κ}(e:p.1=k):gE (p::r) k=aa p.2:=by simp[gE,gD,e]
theorem tO {p:κ×V}{r:List (κ×V)}{k:κ}(e:¬ p.1=k):gE (p::r) k=gE r k:=by simp[gE,gD,e]
theorem yN (k:κ):∀ kvs:List (κ×V),(kvs.any λkv=>decide (kv.1=k))=(gE kvs k).isSome
 |[]=>rfl
 |p::r=>by
  rw[uL];by_cases e:p.1=k
  .simp only[vU e,decide_eq_true e,Bool.true_or,Option.isSome_some]
  .rw[tO e,decide_eq_false e,Bool.false_or];exact yN k r
theorem zL (kvs:List (κ×V))(k:κ)(v:V):(putK kvs k v).length<=kvs.length+1:=by
 unfold putK
 grind
theorem Avi.isSome_eq {o:Option V}{u:aap}(r:Avi o u):o.isSome=u.isSome:=by
 cases o with
 |none=>cases u with
  |none=>rfl
  |some _=>exact(show False from r).elim
 |some _=>cases u with
  |none=>exact(show False from r).elim
  |some _=>rfl
theorem Avi.getD {o:Option V}{u:aap}{d:V}{d':aD}(r:Avi o u)(rd:RelV d d'):RelV (o.getD d) (u.getD d'):=by
 cases o with
 |none=>cases u with
  |none=>exact rd
  |some _=>exact(show False from r).elim
 |some _=>cases u with
  |none=>exact(show False from r).elim
  |some _=>exact r
theorem KV.val {kvs:List (κ×V)}{vs:List (κ×aD)}(r:KV kvs vs)(k:κ):Avi (gE kvs k) (wI vs k):=by
 unfold KV at r;induction r with
 |nil=>exact nH
 |@cons p q ps qs h t ih=>
  obtain⟨h1,h2⟩:=h;by_cases e:p.1=k
  .have e':q.1=k:=h1.symm.trans e;have b:wI (q::qs) k=aa q.2:=by simp[wI,gD,e']
   rw[vU e,b];exact h2
  .have e':¬ q.1=k:=λz=>e (h1.trans z)
   have b:wI (q::qs) k=wI qs k:=by simp[wI,gD,e']
   rw[tO e,b];exact ih
theorem KV.any {kvs:List (κ×V)}{vs:List (κ×aD)}(r:KV kvs vs)(k:κ):(kvs.any λkv=>decide (kv.1=k))=vs.any λkv=>decide (kv.1=k):=by
 unfold KV at r;induction r with
 |nil=>rfl
 |cons h t ih=>rw[uL,uL,ih,h.1]
theorem KV.repl {kvs:List (κ×V)}{vs:List (κ×aD)}(r:KV kvs vs)(k:κ){y:V}(ry:RelV y u) :
  KV (kvs.map λkv=>if kv.1=k then(kv.1,y) else kv) (vs.map λkv=>if kv.1=k then(kv.1,u) else kv):=by
 unfold KV at r ⊢;induction r with
 |nil=>exact .nil
 |@cons p q ps qs h t ih=>
  rw[cW,cW];refine .cons ?_ ih
  grind
theorem KV.put {kvs:List (κ×V)}{vs:List (κ×aD)}(r:KV kvs vs)(k:κ){y:V}(ry:RelV y u):KV (putK kvs k y) (uA vs k u):=by
 unfold putK uA;rw[r.any k];by_cases e:(vs.any λkv=>decide (kv.1=k))=af
 .rw[if_pos e,if_pos e];exact r.repl k ry
 .rw[if_neg e,if_neg e];exact Paired.snoc r ⟨rfl,ry⟩
theorem KV.length {kvs:List (κ×V)}{vs:List (κ×aD)}(r:KV kvs vs):kvs.length=vs.length:=lQ r
end
theorem qZ {P:bJ}{w:bA}{k:aI}(r:RelV (kV k) u):(fF P w).is k u=af:=by
 cases k with
 |inl i=>obtain⟨t,e⟩:=(show ∃ t,u=uE i t from r);subst e;exact zM P w i t
 |inr x=>obtain⟨t,e⟩:=(show ∃ t,u=uD x t from r);subst e;exact zR P w x t
abbrev KT (H:Hp):li->List (List aA×aC×aD)->Prop:=dG λp q=>p.1=q.1/\Aqk H p.1 q.2.1/\RelV p.2 q.2.2
theorem KT.val {H:Hp}{kvs:li}(r:KT H kvs xs)(k:aah):Avi (gE kvs k) ((oO xs k).map (·.2)):=by
 induction r with
 |nil=>exact nH
 |@cons p q ps qs h t ih=>
  obtain⟨h1,_,h2⟩:=h;by_cases e:p.1=k
  .have e':q.1=k:=h1.symm.trans e;have b:oO (q::qs) k=aa q.2:=by simp[oO,gD,e']
   rw[vU e,b];exact h2
  .have e':¬ q.1=k:=λz=>e (h1.trans z)
   have b:oO (q::qs) k=oO qs k:=by simp[oO,gD,e']
   rw[tO e,b];exact ih
theorem KT.repl {H:Hp}{kvs:li}(r:KT H kvs xs)(k:aah){y:V}(ry:RelV y u) :
  KT H (kvs.map λkv=>if kv.1=k then(kv.1,y) else kv) (xs.map (putAt k u)):=by
 induction r with
 |nil=>exact .nil
 |@cons p q ps qs h t ih=>
  rw[cW,cW];refine .cons ?_ ih;obtain⟨h1,h2,h3⟩:=h;unfold putAt
  grind
theorem KT.put {H:Hp}{kvs:li}(r:KT H kvs xs)(k:aah){y:V}(hb:Aqk H k b)(ry:RelV y u) :
  KT H (putK kvs k y) (qB xs k b u):=by
 have e:(kvs.any λkv=>decide (kv.1=k))=(oO xs k).isSome:=by
  rw[yN,(r.val k).isSome_eq,Jl]
 unfold putK qB;rw[e];by_cases q:(oO xs k).isSome=af
 .rw[if_pos q,if_pos q];exact r.repl k ry
 .rw[if_neg q,if_neg q];exact Paired.snoc r ⟨rfl,hb,ry⟩
theorem KT.keeps {H H':Hp}{kvs:li}(r:KT H kvs xs)(ht:∀ b ys,H b=aa (.tup ys)->H' b=aa (.tup ys)):KT H' kvs xs:=
 Paired.mapP r λ_ _ z=>⟨z.1,z.2.1.keep ht,z.2.2⟩
section
variable {P:bJ}{w:bA}{H:Hp}
theorem TU {u:HO}(ok:HOk P w H h)(e:Rd H a u):Acj P w H h a u:=e.ok ok
theorem sM{kvs:ld}(ok:HOk P w H h)(e:Rd H a (.dK ep kvs)):kvs.length<=sizeLine/\(a==iY)=ah/\∃ vs,KV kvs vs/\h.DictAt (fF P w) a vs ep:=
 show Acj P w H h a (.dK ep kvs) from TU ok e
theorem pG{kvs:ld}(ok:HOk P w H h)(e:Rd H a (.dK ep kvs)):kvs.length<=sizeLine/\(a==iY)=ah/\∃ vs,KV kvs vs/\h.DictOf (fF P w) a vs:=
 let ⟨z,y,vs,r,d⟩:=sM ok e;⟨z,y,vs,r,d.dictOf⟩
theorem sO{kvs:ld}(ok:HOk P w H h)(e:H a=aa (.dK ep kvs)):kvs.length<=sizeLine/\(a==iY)=ah/\∃ vs,KV kvs vs/\h.DictOf (fF P w) a vs:=pG ok (.inl e)
theorem zT {P:bJ}{w:bA}(hu:A.units+40<cLine):(kB P w).room A.in1:=by
 show A.in1.units+20<cLine
 grind
mutual
theorem Ad (ok:HOk P w H h):∀ (d:aA) {v:V} {u:aD},Ajx H d v->RelV v u->∃ as,kS h u d as
 |.int i,v,u,k,r=>by
  have e:v=.int i:=by simpa [Ajx] using k
  subst e;obtain⟨t,rfl⟩:=r;exact⟨_,.int i t⟩
 |.str x,v,u,k,r=>by
  have e:v=.str x:=by simpa [Ajx] using k
  subst e;obtain⟨t,rfl⟩:=r;exact⟨_,.str x t⟩
 |.tuple ds,v,u,k,r=>by
  simp only[Ajx] at k;obtain⟨a,xs,rfl,e,ks⟩:=k;cases r;obtain⟨_,its,rv,⟨o,h1,h2,n,h3⟩,_⟩:=(show Acj P w H h a (.tup xs) from ok a _ e)
  obtain⟨as,ra⟩:=Av ok ds ks rv;exact⟨as,.tuple h1 h2 h3 (by simpa using ra)⟩
 |.none,v,u,k,r=>by simp[Ajx] at k
 |.bool _,v,u,k,r=>by simp[Ajx] at k
 |.list _,v,u,k,r=>by simp[Ajx] at k
 |.dict _,v,u,k,r=>by simp[Ajx] at k
theorem Av (ok:HOk P w H h):∀ (ds:aah) {vs:aai} {us:aam},Agx H ds vs->Vals vs us->∃ as,lM h us ds as
 |[],vs,us,k,r=>by
  have e:vs=[]:=by simpa [Agx] using k
  subst e;cases r;exact⟨_,.nil⟩
 |d::ds,vs,us,k,r=>by
  simp only[Agx] at k;obtain⟨x,rr,rfl,k1,k2⟩:=k;cases r with
  |cons r1 r2=>
   obtain⟨as,ra⟩:=Ad ok d k1 r1;obtain⟨bs,rb⟩:=Av ok ds k2 r2;exact⟨_,.cons ra rb⟩
end
theorem key_of(ok:HOk P w H h)(e:Aqk H ks a):(kB P w).is h ks a:=by
 obtain⟨k1,k2,xs,e,fy⟩:=e;refine⟨k1,k2,?_⟩;exact Ad ok (.tuple ks) (v:=.ref a) (u:=.ref a) (by simp only[Ajx];exact⟨a,xs,rfl,e,fy⟩) rfl
theorem sW {kvs:li}(ok:HOk P w H h)(e:∃ ep,Rd H a (.dT ep kvs)):kvs.length<=sizeLine/\(a==iY)=ah /\
  ∃ xs,KT H kvs xs/\h.DictOfH (kB P w) a xs:=by
 obtain⟨ep,e⟩:=e;obtain⟨z,y,xs,r,o,es,h1,h2,h3,h4,h5⟩:=(show Acj P w H h a (.dT ep kvs) from TU ok e)
 refine⟨z,y,xs,r,o,es,ep,h1,h2,h3,h4,λx hx=>?_,h5⟩
 have all:∀ {l:li} {m:List (List aA×aC×aD)},KT H l m->∀ x∈m,(kB P w).is h x.1 x.2.1:=by
  intro l m q;induction q with
  |nil=>intro x hx;exact nomatch hx
  |@cons p q ps qs hq t ih=>
   intro x hx;rcases cV.1 hx with e|hx
   .subst e;exact key_of ok (by rw[<-hq.1];exact hq.2.1)
   .exact ih x hx
 exact all r x hx
theorem Na{kvs:li}(ok:HOk P w H h)(e:H a=aa (.dT ep kvs)):kvs.length<=sizeLine/\(a==iY)=ah /\
  ∃ xs,KT H kvs xs/\h.DictOfH (kB P w) a xs:=sW ok ⟨ep,.inl e⟩
end
def qS (H:Hp)(a:aC)(y:V)(r:Option V):Prop:=
 (∃ ep kvs k,Rd H a (.dK ep kvs)/\y=kV k/\r=gE kvs k)\/∃ kvs k b,(∃ ep,Rd H a (.dT ep kvs))/\y=.ref b/\Aqk H k b/\r=gE kvs k
def SN (H:Hp)(a:aC)(y v:V)(H':Nat->Hp):Prop:=
 (∃ ep kvs k,H a=aa (.dK ep kvs)/\y=kV k/\kvs.length<sizeLine/\H'=λn=>upd H a (.dK n (putK kvs k v))) \/
 ∃ kvs k b,(∃ ep,H a=aa (.dT ep kvs))/\y=.ref b/\Aqk H k b/\kvs.length<sizeLine/\H'=λn=>upd H a (.dT n (putK kvs k v))
section
variable {X:Cx}{Z:St}{H:Hp}{y v:V}{r:aD}{o:Option V}
theorem Inv.big (I:Inv X ac Z H s):iY<s.heap.objs.size:=by
 have h:jO<s.heap.objs.size:=(I.mod.glob.keeps I.bk).lt;exact Nat.lt_trans nofun h
theorem G5(hu:A.units+40<cLine)(I:Inv X ac Z H s)(g:qS H a y (aa v))(ry:RelV y u)(h:∀ w' s',Inv X ac Z H s'->RelV v w'->Q w' s') :
  aL (aP X.prog X.w) A (qC (.ref a) u) Q E s:=by
 rcases g with⟨ep,kvs,k,e,ey,l⟩|⟨kvs,k,b,e,ey,eb,l⟩
 .subst ey;obtain⟨z,hd,vs,cq,dd⟩:=pG I.hok e;obtain⟨w',hw,gv⟩:=Avi.some_of (v:=v) (o:=wI vs k) (by rw[l];exact cq.val k)
  exact wpAny_getItem_of (qZ ry) dd.mapOf hw (h w' _ (I.tok _) gv)
 .subst ey;cases(show u=eJ b from ry)
  obtain⟨z,hd,xs,cq,dd⟩:=sW I.hok e;obtain⟨w',hw,gv⟩:=Avi.some_of (v:=v) (o:=(oO xs k).map (·.2)) (by rw[l];exact cq.val k)
  obtain⟨p,hp,hp2⟩:=gM.1 hw;refine wpAny_getItem_heap (zT hu) (key_of I.hok eb) dd hp ?_;rw[hp2];exact h w' _ (I.tok _) gv
theorem Lg(hu:A.units+40<cLine)(I:Inv X ac Z H s)(g:qS H a y o)(ry:RelV y u)(h:∀ s',Inv X ac Z H s'->Q (.bool o.isSome) s') :
  aL (aP X.prog X.w) A (gK .In u (.ref a)) Q E s:=by
 rcases g with⟨ep,kvs,k,e,ey,l⟩|⟨kvs,k,b,e,ey,eb,l⟩
 .subst ey;obtain⟨z,hd,vs,cq,dd⟩:=pG I.hok e;refine wpAny_in_of (qZ ry) hd dd.mapOf ?_;rw[<-(cq.val k).isSome_eq,<-l];exact h _ (I.tok _)
 .subst ey;cases(show u=eJ b from ry)
  obtain⟨z,hd,xs,cq,dd⟩:=sW I.hok e;refine wpAny_in_heap (zT hu) (key_of I.hok eb) hd dd ?_;have q:=(cq.val k).isSome_eq;rw[Jl] at q;rw[<-q,<-l];exact h _ (I.tok _)
theorem Ts(hu:A.units+40<cLine)(I:Inv X ac Z H s)(g:qS H a y o)(ry:RelV y u)(h:∀ s',Inv X ac Z H s'->Q (.bool (!o.isSome)) s') :
  aL (aP X.prog X.w) A (gK .NotIn u (.ref a)) Q E s:=by
 rcases g with⟨ep,kvs,k,e,ey,l⟩|⟨kvs,k,b,e,ey,eb,l⟩
 .subst ey;obtain⟨z,hd,vs,cq,dd⟩:=pG I.hok e;refine wpAny_notIn_of (qZ ry) hd dd.mapOf ?_;rw[<-(cq.val k).isSome_eq,<-l];exact h _ (I.tok _)
 .subst ey;cases(show u=eJ b from ry)
  obtain⟨z,hd,xs,cq,dd⟩:=sW I.hok e;refine wpAny_notIn_heap (zT hu) (key_of I.hok eb) hd dd ?_;have q:=(cq.val k).isSome_eq;rw[Jl] at q;rw[<-q,<-l];exact h _ (I.tok _)
theorem DH{ob:HO}(I:Inv X ac Z H s)(mu:xJ (H a))(hs:mP a s.heap h')(he:∃ q,h'.get? a=aa q)(new:Acj X.prog X.w (upd H a ob) h' a ob) :
  Inv X ac Z (upd H a ob) { s with heap:=h',toks:=t' }:=
 I.write (x:=a) (e:=a) mu (.inl rfl) (λb q hb z=>(hs.2 b hb).trans z) he new
theorem xV {P:bJ}{w:bA}{H':Hp}{kvs:ld}{vs:aab}(z:kvs.length<=sizeLine)(hd:(a==iY)=ah)(cq:KV kvs vs)(dd:h'.DictAt (fF P w) a vs ep) :
  Acj P w H' h' a (.dK ep kvs):=⟨z,hd,vs,cq,dd⟩
theorem B6 {H':Nat->Hp}{Q:Unit->aH->Prop}(hu:A.units+40<cLine)(I:Inv X ac Z H s)(g:SN H a y v H')(ry:RelV y u)(rv:RelV v r)(h:∀ n s',Inv X ac Z (H' n) s'->Q Unit.unit s') :
  aL (aP X.prog X.w) A (setItem (.ref a) u r) Q E s:=by
 rcases g with⟨ep,kvs,k,e,ey,l,eH⟩|⟨kvs,k,b,e,ey,eb,l,eH⟩
 .subst ey eH;obtain⟨z,hd,vs,cq,dd⟩:=sO I.hok e;have hz:vs.length<=sizeLine:=by rw[<-cq.length];exact z
  have hl:(putK kvs k v).length<=sizeLine:=by have:=zL kvs k v;lia
  refine wpAny_setItem_pairs (hsz:=hz) (qZ ry) dd λh' sy hs=>?_
  have he:∃ q,h'.get? a=aa q:=let ⟨q,_,_,hq,_⟩:=sy;⟨q,hq⟩;obtain⟨n,da⟩:=sy.dictAt;exact h n _ (DH I (by rw[e];exact nH) hs he (xV hl hd (cq.put k rv) da))
 .subst ey eH;cases(show u=eJ b from ry)
  obtain⟨Y6,e⟩:=e;obtain⟨z,hd,xs,cq,dd⟩:=Na I.hok e;have hz:xs.length<=sizeLine:=by rw[<-lQ cq];exact z
  have hl:(putK kvs k v).length<=sizeLine:=by have:=zL kvs k v;lia
  refine wpAny_setItem_heap (hsz:=hz) (zT hu) (key_of I.hok eb) dd λh' sy hs=>?_
  obtain⟨q,es,ep,hq,h2,h3,h4,_,h5⟩:=sy;refine h ep _ ?_;refine DH I (by rw[e];exact nH) hs ⟨q,hq⟩ ⟨hl,hd,_,(cq.put k eb rv).keeps λc ys ec=>?_,q,es,hq,h2,h3,h4,h5⟩
  rw[cM (Nn ec e (λz=>nomatch z))]
  exact ec
end
section
variable {X:Cx}{Z:St}{H:Hp}{kvs:ld}{k:aI}
theorem Ly(I:Inv X ac Z H s)(e:Rd H a (.dK ep kvs))(h:∀ t s',Inv X ac Z H s'->Q (.int kvs.length t) s'):aL (aP X.prog X.w) A (call (.builtin "len") [.ref a]) Q E s:=by
 obtain⟨z,hd,vs,cq,dd⟩:=pG I.hok e;refine call_len_dict hd dd (by rw[<-cq.length];rw[mL] at z;lia) ?_
 rw[<-cq.length];exact h _ _ (I.tok _)
end
def GZ (i:aQ):Prop:=∀ ov iv,OZ i ah ov iv=operate [ov,iv] (qC ov iv)
theorem Ur{w:bA}{env:dW}{value cr:aQ}{T id:String}
  (hl:FR (.type T) "__getitem__" = pure (aa (.builtin id))) (hs:GZ cr)
  (h:aL (aP prog w) A (bY value env) (λo s₁=>aL (aP prog w) A (bY cr env) (λi s₂=>s₂.TypeIs o T/\aL (aP prog w) A (qC o i) Q E s₂) E s₁) E s) :
  aL (aP prog w) A (bY (.Subscript value cr pos) env) Q E s:=by
 refine Subscript_ (kP h (λo s₁ h₁=>kP h₁ (λi s₂ h₂=>?_) λ_ _ x=>x) λ_ _ x=>x)
 obtain⟨hT,h₂⟩:=h₂;unfold subscriptTail;rw[11];rw[getitemInPython_of_ne hT.not_modules];refine aG (tY hT hl ?_);have fin:aL (aP prog w) A (OZ cr ah o i) (λr s₃=>aL (aP prog w) A (letTemporaryGo value o r>>=λ_=>pure r) Q E s₃) E s₂:=by
  rw[hs o i];exact wpAny_operating (kP h₂ (λr s₃ h₃=>aG (wpAny_letTemporaryGo (aM h₃))) λ_ _ x=>x)
 first
  |exact aM (aG fin)
  |exact aG (aM (aG fin))
  |exact aG fin
theorem Zh {X:Cx}{Z:St}{H:Hp}{y:V}{o:Option V}(I:Inv X ac Z H s)(g:qS H a y o):s.TypeIs (.ref a) "dict":=by
 rcases g with⟨ep,kvs,k,e,_,_⟩|⟨kvs,k,b,e,_,_,_⟩
 .obtain⟨_,_,vs,_,dd⟩:=pG I.hok e;exact dd.typeIs
 .obtain⟨_,_,xs,_,dd⟩:=sW I.hok e;exact dd.typeIs
def Lz (td ty:TE):TE:=λZ H Q=>td Z H λx H1=>ty Z H1 λy H2=>∃ a v,x=.ref a/\qS H2 a y (aa v)/\Q v H2
def TL (td ty tv:TE):TS:=λD Z H=>tv Z H λv H1=>td Z H1 λx H2=>ty Z H2 λy H3=>∃ a H4,x=.ref a/\SN H3 a y v H4/\∀ n,D.nx Z (H4 n)
section
variable {X:Cx}{o i value:aQ}{ic ig:bH}{td ty tv:TE}
theorem Fz (hu:X.A.units+40<cLine)(ho:PE X o td)(hi:PE X i ty)(hs:GZ i):PE X (.Subscript o i pos) (Lz td ty):=by
 rw[9];refine Ur PySem.F.slot_dict_getitem.lookup hs (bb (ho ac s Z H _ I h) λu s1 ⟨x,H1,I1,rx,q1⟩=>bb (hi ac s1 Z H1 _ I1 q1) λiv s2 gh=>?_)
 obtain⟨y,H2,I2,ry,a,v,ex,g,q2⟩:=gh;subst ex;obtain rfl:u=eJ a:=rx;exact⟨Zh I2 g,G5 hu I2 g ry λw' s3 I3 gv=>⟨v,H2,I3,gv,q2⟩⟩
theorem DR (hu:X.A.units+40<cLine)(ho:PE X o td)(hi:PE X i ty)(hv:PE X value tv)(hs:kQ value (aa (.Subscript o i ic)) pos.line X.env=pure ah) :
  PS X (.Assign [.Subscript o i ic] value pos) (TL td ty tv):=by
 intro ac s Z H D I h;refine wpAny_Assign_Subscript (bb (hv ac s Z H _ I h) λr s1 ⟨v,H1,I1,rv,q1⟩=>bb (ho ac s1 Z H1 _ I1 q1) λu s2 ⟨x,H2,I2,rx,q2⟩=>bb (hi ac s2 Z H2 _ I2 q2) λiv s3 ⟨y,H3,I3,ry,a,H4,ex,g,q3⟩=>?_) hs
 subst ex;obtain rfl:u=eJ a:=rx;exact B6 hu I3 g ry rv λn s4 I4=>⟨Z,H4 n,I4,q3 n⟩
end
theorem YY {P:bJ}{w:bA}{H:Hp}(h:aU)(hb:iY<h.objs.size):Acj P w H (h.push { cls:=.type "dict",data:=.dict #[] }) h.objs.size (.dK 0 []):=
 ⟨eG _,beq_eq_false_iff_ne.2 (fX (cO hb)),[],.nil,_,#[],cI _ rfl,⟨rfl,rfl,rfl⟩,rfl,λ_ he=>by simp at he,Pairs.nil,AN⟩
def Pt:TE:=λ_ H Q=>∀ p,H p=ab->Q (.ref p) (upd H p (.dK 0 []))
section
variable {X:Cx}
theorem XQ:PE X (.Dict [] [] pos) Pt:=λac s Z H Q I h=>
 wpAny_Dict_empty ⟨.ref s.heap.objs.size,_,I.laid (a:=s.heap.objs.size) (o:=.dK 0 []) (t':=s.toks) (λ_ _ q=>bF _ q) (bB _) (YY s.heap I.big),rfl,h _ (I.hok.fresh (bB _))⟩
end
def CC:List (TE×TE)->St->Hp->(aaa->Hp->Prop)->Prop
 |[],_,H,Q=>Q [] H
 |(tk,tv)::r,Z,H,Q=>tk Z H λx H1=>tv Z H1 λy H2=>CC r Z H2 λps H3=>Q ((x,y)::ps) H3
abbrev VV:aaa->List (aD×aD)->Prop:=dG λp q=>RelV p.1 q.1/\RelV p.2 q.2
def vp (X:Cx)(pos:bH)(keys:List (Option aQ))(vz:aau)(sB:List (TE×TE)):Prop:=
 ∀ (ac:lv) (s:aH) (Z:St) (H:Hp) (Q:aaa->Hp->Prop),Inv X ac Z H s->CC sB Z H Q ->
  aL (aP X.prog X.w) X.A (evalPairs (pairTrees keys vz X.env pos)) (λvs s'=>∃ ps H',Inv X ac Z H' s'/\VV ps vs/\Q ps H') X.xe s
theorem Vi {X:Cx}:vp X pos [] [] []:=λac s Z H Q I h=>pairTrees_nil_walk ⟨[],H,I,.nil,h⟩
theorem p9 {X:Cx}{k v:aQ}{ks:List (Option aQ)}{vs:aau}{tk tv:TE}{sB:List (TE×TE)}(hk:PE X k tk)(hv:PE X v tv)(hr:vp X pos ks vs sB) :
  vp X pos (aa k::ks) (v::vs) ((tk,tv)::sB):=λac s Z H Q I h=>
 pairTrees_cons_walk (bb (hk ac s Z H _ I h) λu s1 ⟨x,H1,I1,rx,q1⟩=>bb (hv ac s1 Z H1 _ I1 q1) λw2 s2 ⟨y,H2,I2,ry,q2⟩=>
  bb (hr ac s2 Z H2 _ I2 q2) λws s3 ⟨ps,H3,I3,cq,q3⟩=>⟨(x,y)::ps,H3,I3,.cons ⟨rx,ry⟩ cq,q3⟩)
def mU (kvs more:ld):ld:=more.foldl (λaq kv=>putK aq kv.1 kv.2) kvs
theorem KV.merge:∀ {more:ld} {rs:aab} {kvs:ld} {vs:aab},KV more rs->KV kvs vs->KV (mU kvs more) (oK vs rs):=by
 intro more rs kvs vs r;unfold KV at r;induction r generalizing kvs vs with
 |nil=>intro q;exact q
 |@cons p q ps qs h t ih=>
  intro r0;have e:KV (putK kvs p.1 p.2) (uA vs q.1 q.2):=by
   have:=r0.put p.1 h.2;rw[<-h.1];exact this
  exact ih e
theorem NJ:∀ (more kvs:ld),(mU kvs more).length<=kvs.length+more.length
 |[],kvs=>by show kvs.length<=kvs.length+0;lia
 |p::r,kvs=>by
  have h1:=NJ r (putK kvs p.1 p.2);have h2:=zL kvs p.1 p.2;show(mU (putK kvs p.1 p.2) r).length<=_;rw[fA];lia
theorem Cg {P:bJ}{w:bA}:∀ {kvs:ld} {ws:List (aD×aD)},VV (kvs.map λkv=>(kV kv.1,kv.2)) ws->∃ rs,Carries (fF P w) ws rs/\KV kvs rs
 |[],_,r=>by rw[List.map_nil] at r;cases r;exact⟨[],nH,.nil⟩
 |p::kvs,_,r=>by
  rw[cW] at r;cases r with
  |@cons a b as bs h t=>
   obtain⟨rs,c,q⟩:=Cg (P:=P) (w:=w) t;obtain⟨b1,b2⟩:=b;exact⟨(p.1,b2)::rs,⟨qZ h.1,rfl,c⟩,.cons ⟨rfl,h.2⟩ q⟩
structure M2 (X:Cx)(o:aQ)(m:aE)(av:bH)(e f:aQ)(bc:bH):Prop where
 base:PQ o m X.env (bY o X.env)=bY o X.env
 few:((gL bc (bX [e,f] X.env)).all (λx=>!x.1)&&(backToKw bc (keywordEach [] X.env)).all (λx=>x.1.isSome)
  && decide (([e,f]:List aQ).length+([]:List Keyword).length+(if ([]:List Keyword).isEmpty then 0 else 1)<30))=af
 line:(av.endLine==bc.line)=af
 trees:gL bc (bX [e,f] X.env)=[(ah,bY e X.env),(ah,bY f X.env)]
def IsD (H:Hp)(a:aC):Prop:=(∃ ep kvs,Rd H a (.dK ep kvs))\/∃ kvs,∃ ep,Rd H a (.dT ep kvs)
theorem Ox {X:Cx}{Z:St}{H:Hp}(I:Inv X ac Z H s)(d:IsD H a) :
  s.TypeIs (.ref a) "dict" /\ (∀ b,eJ a=.ref b->∃ ob,s.heap.get? b=aa ob/\ob.dict=ab)/\(a==iY)=ah:=by
 rcases d with⟨ep,kvs,e⟩|⟨kvs,e⟩
 .obtain⟨_,hd,vs,_,dd⟩:=pG I.hok e;refine⟨dd.typeIs,λb q=>?_,hd⟩
  cases q;obtain⟨ob,_,_,h1,h2,_⟩:=dd;exact⟨ob,h1,h2.2.1⟩
 .obtain⟨_,hd,xs,_,dd⟩:=sW I.hok e;refine⟨dd.typeIs,λb q=>?_,hd⟩
  cases q;obtain⟨ob,_,_,h1,h2,_⟩:=dd;exact⟨ob,h1,h2.2.1⟩
section
variable {X:Cx}{Z:St}{H:Hp}{y d:V}{r:aD}{o:Option V}
theorem Oi(hu:A.units+40<cLine)(I:Inv X ac Z H s)(g:qS H a y o)(ry:RelV y u)(rd:RelV d r)(h:∀ w' s',Inv X ac Z H s'->RelV (o.getD d) w'->Q w' s') :
  aL (aP X.prog X.w) A (call (.builtin "dict.get") [.ref a,u,r]) Q E s:=by
 rcases g with⟨ep,kvs,k,e,ey,l⟩|⟨kvs,k,b,e,ey,eb,l⟩
 .subst ey;obtain⟨z,hd,vs,cq,dd⟩:=pG I.hok e;refine call_meetsIn Jf dd.typeIs PySem.F.entry_dict_get (M6 _ _ _) (meets_dict_get_default (fF X.prog X.w) a (qZ ry) hd r) ⟨_,dd.mapOf,h _ _ (I.tok _) ?_⟩;rw[l];exact(cq.val k).getD rd
 .subst ey;cases(show u=eJ b from ry)
  obtain⟨z,hd,xs,cq,dd⟩:=sW I.hok e;refine call_meetsIn Jf dd.typeIs PySem.F.entry_dict_get (M6 _ _ _) (meetsH_dict_get_default (kB X.prog X.w) a b hd r) ⟨zT hu,k,xs,key_of I.hok eb,dd,h _ _ (I.tok _) ?_⟩;rw[l];exact(cq.val k).getD rd
end
def Pc (td ty tx:TE):TE:=λZ H Q=>td Z H λx H1=>∃ a,x=.ref a/\IsD H1 a/\ty Z H1 λy H2=>tx Z H2 λz H3=>∃ o,qS H3 a y o/\Q (o.getD z) H3
section
variable {X:Cx}{o f:aQ}{av bc:bH}{td ty tx:TE}
theorem A7 (hu:X.A.units+40<cLine)(ho:PE X o td)(he:PE X e ty)(hf:PE X f tx)(m:M2 X o "get" av e f bc):PE X (.Call (.Attribute o "get" av) [e,f] [] bc) (Pc td ty tx):=by
 rw[9];refine wpAny_Call_method m.base m.few m.line Jg Jf PySem.F.type_dict_get (bb (ho ac s Z H _ I h) λu s1 gh=>?_)
 obtain⟨x,H1,I1,rx,a,ex,d,q1⟩:=gh;subst ex;obtain rfl:u=eJ a:=rx;obtain⟨t1,t2,_⟩:=Ox I1 d;refine⟨t1,t2,?_⟩;rw[m.trees];refine Calls.callWith_builtin rfl (Calls.evalArgs_plain (Ki (bb (he ac s1 Z H1 _ I1 q1) λiv s2 ⟨y,H2,I2,ry,q2⟩=>
  Ki (bb (hf ac s2 Z H2 _ I2 q2) λfv s3 ⟨z,H3,I3,rz,ov,g,q3⟩=>Calls.spliced_nil ?_))))
 exact Oi hu I3 g ry rz λw' s4 I4 gv=>⟨_,H3,I4,gv,q3⟩
end
section
variable {X:Cx}{Z:St}{H:Hp}{kvs:ld}
theorem v8(I:Inv X ac Z H s)(e:Rd H a (.dK ep kvs))(h:∀ p n s',H p=ab->Inv X ac Z (upd H p (.dK n kvs)) s'->Q (.ref p) s'):aL (aP X.prog X.w) A (call (.type "dict") [.ref a]) Q E s:=by
 obtain⟨z,hd,vs,cq,dd⟩:=pG I.hok e;refine kt_call_dict hd dd (by rw[<-cq.length];exact z) λh' sy hs=>?_
 obtain⟨n,da⟩:=sy.dictAt;refine h _ n _ (I.hok.fresh (bB _)) (I.laid (a:=s.heap.objs.size) (o:=.dK n kvs) (t':=s.toks) (λb q hq=>?_) (bB _) (xV z (beq_eq_false_iff_ne.2 (fX (cO I.big))) cq da))
 exact(hs.2 b (cO (bM hq))).trans (bF _ hq)
end
end L2
namespace HT
open PySem PyProof.Rows
section
variable {prog:bJ}{w:bA}{A:bP}{E:aD->aH->Prop}{s:aH}
theorem Bgu {t b:aC}{vs ws:aam}{Q:aD->aH->Prop}(ht:IsTup s.heap t vs.toArray)(hb:IsTup s.heap b ws.toArray)(hv:vs≠[])
  (h1:ws=[]->Q (.ref t) s) (h2:ws≠[]->Q (.ref s.heap.objs.size) { s with heap:=s.heap.push { cls:=.type "tuple",data:=.seq (vs++ws).toArray } })
  (hsz:vs.length+ws.length<=sizeLine):aL (aP prog w) A (kC .Add (.ref t) (.ref b)) Q E s:=by
 obtain⟨⟨cls,dd,data,sl⟩,ho,hc,n,hd⟩:=id ht;obtain⟨⟨yq,xm,data2,xn⟩,qy,ii,n2,qz⟩:=id hb;simp only at hc hd ii qz;subst hc hd ii qz;have e:vs.toArray++ws.toArray=(vs++ws).toArray:=by simp
 by_cases hw:ws=[]
 .exact PP ⟨_,ho,rfl⟩ ⟨_,qy,rfl⟩ Io seq_tuple_add Jd Jh (Ji _ _)
   (tuple_addW1 t b vs.toArray ws.toArray n n2 dd xm sl xn (by simpa using hv) (by simp[hw])) ⟨ho,qy,h1 hw⟩
 .refine PP ⟨_,ho,rfl⟩ ⟨_,qy,rfl⟩ Io seq_tuple_add Jd Jh (Ji _ _)
   (tuple_addW2 t b vs.toArray ws.toArray n n2 dd xm sl xn (by simpa using hv) (by simpa using hw) (by rw[dU,dU];exact hsz)) ⟨ho,qy,?_⟩
  rw[e];exact h2 hw
noncomputable def sIx (n d:Nat):aas->Nat
 |none=>d
 |some v=>if v<0 then(v+(n:Int)).toNat else min v.toNat n
theorem Axq (n d:Nat):sIx n d ab=d:=rfl
theorem A1k (n d k:Nat):sIx n d (aa (k:Int))=min k n:=by
 show(if (k:Int)<0 then((k:Int)+(n:Int)).toNat else min (k:Int).toNat n)=min k n
 grind
theorem Oc (n d:Nat)(hd:d<=n)(o:aas):sIx n d o<=n:=by
 cases o with
 |none=>exact hd
 |some v=>
  show(if v<0 then(v+(n:Int)).toNat else min v.toNat n)<=n
  grind
theorem WG (v:Int)(n d:Nat):(if v<0 then max (v+(n:Int)) 0 else min v (n:Int))=((sIx n d (aa v):Nat):Int):=by
 show(if v<0 then max (v+(n:Int)) 0 else min v (n:Int))=(((if v<0 then(v+(n:Int)).toNat else min v.toNat n):Nat):Int)
 grind
theorem Yn (lo hi:aas)(n:Nat):Kl lo hi 1 (n:Int)=(((sIx n 0 lo:Nat):Int),((sIx n n hi:Nat):Int)):=by
 have h1:¬ ((1:Int)<0):=()
 unfold Kl;simp only[h1,if_false];refine Prod.ext ?_ ?_
 .cases lo with
  |none=>rfl
  |some v=>exact WG v n 0
 .cases hi with
  |none=>rfl
  |some v=>exact WG v n n
theorem Xf (i j:Nat):RK (i:Int) (j:Int) 1=j-i:=by
 unfold RK
 grind
theorem Cr {v:aD}{o:aas}{Q:aas->aH->Prop}(p:qL v o)(h:Q o s):aL (aP prog w) A (Builtin.Slice.slicePartIndex v) Q E s:=by
 cases p with
 |none=>exact slicePart_none h
 |int i t=>exact slicePart_int h
theorem Af5 {sl:aC}{vl vu:aD}{lo hi:aas}{n:Nat}{Q:Int×Int×Nat->aH->Prop}(hs:s.heap.IsSliceOf sl vl vu .none)(pl:qL vl lo)(pu:qL vu hi)
  (h:Q (((sIx n 0 lo:Nat):Int),1,sIx n n hi-sIx n 0 lo) s):aL (aP prog w) A (Builtin.Slice.sliceApplied (.ref sl) (pure (n:Int))) Q E s:=by
 obtain⟨os,wc,Y7,jz⟩:=id hs;unfold Builtin.Slice.sliceApplied Builtin.Slice.sliceFields;refine aG (aG (gC wc jz (x:=vl) rfl (aG (gC wc jz (x:=vu) rfl (aG (gC wc jz (x:=.none) rfl (aM ?_)))))));refine aG (slicePart_none ?_);show aL _ _ (if ((1:Int)==0)=af then _ else _) _ _ s
 rw[if_neg nofun]
 refine aG (Cr pl (aG (Cr pu (aG (aM ?_)))));show aL _ _ (match Kl lo hi 1 (n:Int) with|(lo,hi)=>pure (lo,(1:Int),RK lo hi 1)) _ _ s
 rw[Yn lo hi n];show aL _ _ (pure (((sIx n 0 lo:Nat):Int),(1:Int),RK ((sIx n 0 lo:Nat):Int) ((sIx n n hi:Nat):Int) 1)) _ _ s;rw[Xf];exact aM h
theorem Vz (xs:Array aD)(i k:Nat):((bW k).filterMap λ(m:Nat)=>xs[((i:Int)+(m:Int)*1).toNat]?).toArray=((xs.toList.drop i).take k).toArray:=by
 have e:(λ(m:Nat)=>xs[((i:Int)+(m:Int)*1).toNat]?)=λm=>xs[i+m]?:=by
  grind
 rw[e];have:=pick_run xs i k;rw[List.filterMap_map] at this;have e2:((λx=>xs[x]?)∘λx=>i+x)=λm=>xs[i+m]?:=rfl
 rw[e2] at this;rw[this]
theorem Aiw {t sl:aC}{aj:Array aD}{vl vu:aD}{lo hi:aas}{Q:aD->aH->Prop}(ht:IsTup s.heap t aj)(hs:s.heap.IsSliceOf sl vl vu .none)(pl:qL vl lo)(pu:qL vu hi)
  (hw:¬ (sIx aj.size 0 lo=0/\sIx aj.size aj.size hi=aj.size))
  (h:Q (.ref s.heap.objs.size) { s with heap:=s.heap.push { cls:=.type "tuple",data:=.seq ((aj.toList.drop (sIx aj.size 0 lo)).take (sIx aj.size aj.size hi-sIx aj.size 0 lo)).toArray } })
  (hsz:aj.size<=sizeLine):aL (aP prog w) A (qC (.ref t) (.ref sl)) Q E s:=by
 have kc:sizeOk (.seq ((aj.toList.drop (sIx aj.size 0 lo)).take (sIx aj.size aj.size hi-sIx aj.size 0 lo)).toArray):=by
  show((aj.toList.drop (sIx aj.size 0 lo)).take (sIx aj.size aj.size hi-sIx aj.size 0 lo)).toArray.size<=sizeLine
  grind
 have hj:sIx aj.size aj.size hi<=aj.size:=Oc _ _ (bB _) hi;obtain⟨os,wc,Y7,jz⟩:=id hs;have hTs:s.TypeIs (.ref sl) "slice":=⟨os,wc,Y7⟩;unfold qC
 try with_reducible refine eY ?_
 first|refine aG (aM ?_)|skip
 refine aG (wpAny_sequenceKey ht.typeIs nofun ?_)
 refine aG (lL (name:=Str.ofString "__getitem__") ht.typeIs Jj
  (fU Jj ht.typeIs entry_tuple_getitem ?_ (args_tuple_getitem _ _)))
 show aL _ _ (Kj (.ref t)>>=_) _ _ s;refine aG (tupleItemsOf_ ht ?_);refine aG (oJ hTs ?_);rw[if_pos nofun]
 refine aG (Af5 hs pl pu ?_);have ji:¬ ((((sIx aj.size 0 lo:Nat):Int)==0&&(1:Int)==1&&(sIx aj.size aj.size hi-sIx aj.size 0 lo)==aj.size)=af):=by
  grind
 show aL _ _ (if (((sIx aj.size 0 lo:Nat):Int)==0&&(1:Int)==1&&(sIx aj.size aj.size hi-sIx aj.size 0 lo)==aj.size)=af then _ else _) _ _ s
 rw[if_neg ji,Vz]
 first
  |exact aG (m:=RH _) (jN (aM ⟨_,rfl,aM h⟩) kc)
  |exact aG (m:=RH _) (jN (aG (aM (aM ⟨_,rfl,aM h⟩))) kc)
  |exact aG (aG (m:=RH _) (jN (aM (aM ⟨_,rfl,aM h⟩)) kc))
  |exact aG (aG (m:=RH _) (jN (aM ⟨_,rfl,aM h⟩) kc))
end
end HT
namespace L2
open PySem PySem.Spec PyProof.Rows
variable {xs:aai}{n:Nat}{ac:lv}{Z:St}{H:Hp}{s:aH}{its:aam}{X:Cx}
abbrev TO:=St->Hp->(aas->Hp->Prop)->Prop
def PO (X:Cx)(e:Option aQ)(t:TO):Prop:=
 ∀ (ac:lv) (s:aH) (Z:St) (H:Hp) (Q:aas->Hp->Prop),Inv X ac Z H s->t Z H Q ->
  aL (aP X.prog X.w) X.A (evalPart e X.env) (λu s'=>∃ o H',Inv X ac Z H' s'/\qL u o/\Q o H') X.xe s
def Vc:TO:=λ_ H Q=>Q ab H
def Mq (t:TE):TO:=λZ H Q=>t Z H λx H1=>∃ i,x=.int i/\Q (aa i) H1
section
variable {e:aQ}{te:TE}{lo hi:Option aQ}{tl th:TO}{pos p2:bH}
theorem Um:PO X ab Vc:=by
 rw[9];rw[evalPart_none];exact aM ⟨ab,H,I,.none,h⟩
theorem Ss (h:PE X e te):PO X (aa e) (Mq te):=by
 intro ac s Z H Q I hw;rw[evalPart_some];refine bb (h ac s Z H _ I hw) λu s1 gh=>?_
 obtain⟨x,H1,I1,r1,q1⟩:=gh;obtain⟨i,rfl,q⟩:=q1;obtain⟨t,rfl⟩:=r1;exact⟨aa i,H1,I1,.int i t,q⟩
def SlR (X:Cx)(r:V->aas->aas->Hp->VK->Prop):Prop:=
 ∀ (ac:lv) (s:aH) (Z:St) (H:Hp) (x:V) (v vl vu:aD) (lo hi:aas) (sl:aC) (Q:VK),Inv X ac Z H s->RelV x v->s.heap.IsSliceOf sl vl vu .none->qL vl lo->qL vu hi->r x lo hi H Q ->
  ∃ T id,FR (.type T) "__getitem__" = pure (aa (.builtin id))/\s.TypeIs v T/\aL (aP X.prog X.w) X.A (qC v (.ref sl)) (EP X ac Z Q) X.xe s
theorem SlR.or {r r':V->aas->aas->Hp->VK->Prop}(h:SlR X r)(h':SlR X r'):SlR X (λx lo hi H Q=>r x lo hi H Q\/r' x lo hi H Q):=by
 intro ac s Z H x v vl vu lo hi sl Q I rx hs pl pu q;rcases q with q|q
 .exact h ac s Z H x v vl vu lo hi sl Q I rx hs pl pu q
 .exact h' ac s Z H x v vl vu lo hi sl Q I rx hs pl pu q
def tSl (r:V->aas->aas->Hp->VK->Prop)(te:TE)(tl th:TO):TE:=λZ H Q=>te Z H λx H1=>tl Z H1 λl H2=>th Z H2 λu H3=>r x l u H3 Q
theorem XX {r:V->aas->aas->Hp->VK->Prop}(hr:SlR X r)(he:PE X e te)(hl:PO X lo tl)(hu:PO X hi th):PE X (.Subscript e (.Slice lo hi ab p2) pos) (tSl r te tl th):=by
 rw[9];refine Subscript_ (bb (he ac s Z H _ I h) λv s1 gh=>?_)
 obtain⟨x,H1,I1,r1,q1⟩:=gh;refine wpAny_Slice (bb (hl ac s1 Z H1 _ I1 q1) λvl s2 ⟨l,H2,I2,pl,q2⟩=>bb (hu ac s2 Z H2 _ I2 q2) λvu s3 gh=>?_)
 obtain⟨u,H3,I3,pu,q3⟩:=gh;rw[evalPart_none];refine aM ?_;have I4:Inv X ac Z H3 { s3 with heap:=s3.heap.push { cls:=.type "slice",data:=.fields #[vl,vu,.none] } }:=I3.kept (t':=s3.toks) λb ob q=>bF _ q
 obtain⟨T,id,hT,ht,hg⟩:=hr ac { s3 with heap:=s3.heap.push { cls:=.type "slice",data:=.fields #[vl,vu,.none] } } Z H3 x v vl vu l u s3.heap.objs.size Q I4 r1 (Heap.IsSliceOf.new ..) pl pu q3;show aL (aP X.prog X.w) X.A (subscriptTail e (.Slice lo hi ab p2) v (.ref s3.heap.objs.size)) (EP X ac Z Q) X.xe { s3 with heap:=s3.heap.push { cls:=.type "slice",data:=.fields #[vl,vu,.none] } };exact tail_any (ops:=[.ref s3.heap.objs.size,v]) ht hT hg (by with_unfolding_all rfl)
def qT (xs:aai)(lo hi:aas):aai:=(xs.drop (HT.sIx xs.length 0 lo)).take (HT.sIx xs.length xs.length hi-HT.sIx xs.length 0 lo)
theorem De (xs:aai)(lo hi:aas):(qT xs lo hi).length<=xs.length:=by
 unfold qT;rw[QT,List.length_drop]
 lia
def Lo (K:aK):V->aas->aas->Hp->VK->Prop:=λx lo hi H Q=>∃ a xs,x=.ref a/\SqT K H a xs /\
 ¬ (HT.sIx xs.length 0 lo=0/\HT.sIx xs.length xs.length hi=xs.length)/\∀ p,H p=ab->Q (.ref p) (upd H p (.tup (qT xs lo hi)))
theorem Of:SlR X (Lo X.K):=by
 intro ac s Z H x v vl vu lo hi sl Q I rx hs pl pu h;obtain⟨a,xs,rfl,hx,hw,q⟩:=h;cases rx;obtain⟨its,r,ht,hz⟩:=I.tuple hx;have ax:its.toArray.size=xs.length:=by rw[dU];exact r.length.symm
 refine⟨"tuple",_,Jj.lookup,ht.typeIs,?_⟩;refine HT.Aiw ht hs pl pu (by rw[ax];exact hw) ?_ (by rw[ax];exact hz)
 rw[ax];refine⟨.ref s.heap.objs.size,_,I.laid (t':=s.toks) (o:=.tup (qT xs lo hi)) (λb ob q=>bF _ q) (bB _) ?_,rfl,q _ (I.hok.fresh (bB _))⟩
 exact⟨dI (De xs lo hi) hz,_,(r.drop (HT.sIx xs.length 0 lo)).take (HT.sIx xs.length xs.length hi-HT.sIx xs.length 0 lo),A9u.new _ _⟩
def HU (K:aK):R2:=λx y H Q=>∃ a b xs ys,x=.ref a/\y=.ref b/\SqT K H a xs/\SqT K H b ys/\xs≠[]/\xs.length+ys.length<=sizeLine /\
 (ys=[]->Q (.ref a) H)/\(ys≠[]->∀ p,H p=ab->Q (.ref p) (upd H p (.tup (xs++ys))))
theorem Vals.nil_iff{us:aam}(r:Vals xs us):us=[]↔xs=[]:=by
 cases r with
 |nil=>simp
 |cons _ _=>simp
theorem A3o:OpR X (kC .Add) (HU X.K):=by
 rw[2];obtain⟨a,b,xs,ys,rfl,rfl,ha,hb,hx,hz,q1,q2⟩:=h;cases rx;cases ry;obtain⟨its,r1,p1,_⟩:=I.tuple ha;obtain⟨ph,r2,p2,_⟩:=I.tuple hb;refine HT.Bgu p1 p2 (λz=>hx (r1.nil_iff.1 z)) (λz=>⟨.ref a,H,I,rfl,q1 (r2.nil_iff.1 z)⟩) (λz=>?_) (by rw[<-r1.length,<-r2.length];exact hz)
 refine⟨.ref s.heap.objs.size,_,I.laid (t':=s.toks) (o:=.tup (xs++ys)) (λb ob q=>bF _ q) (bB _) ?_,rfl,q2 (λw=>z (r2.nil_iff.2 w)) _ (I.hok.fresh (bB _))⟩
 exact⟨by rw[rT];exact hz,_,r1.append r2,A9u.new _ _⟩
end
noncomputable def gb (n:Nat)(i:Int):Option Nat:=if 0<=i then(if i<n then aa i.toNat else ab) else if -(n:Int)<=i then aa (i+n).toNat else ab
def ia {α:Type}(xs:List α)(i:Int):Option α:=(gb xs.length i).bind λj=>xs[j]?
theorem ID{i:Int}{j:Nat}(h:gb n i=aa j):seqIndex? i n=aa j/\j<n /\ -(n:Int)<=i/\i<n:=by
 unfold gb at h;by_cases h0:0<=i
 .rw[if_pos h0] at h;by_cases h1:i<n
  .rw[if_pos h1] at h;have e:i.toNat=j:=dY h;exact⟨by rw[seqIndex_of h0 h1,e],(),(),h1⟩
  all_goals grind
 .rw[if_neg h0] at h;by_cases h1 : -(n:Int)<=i
  .rw[if_pos h1] at h;have e:(i+n).toNat=j:=dY h;exact⟨by rw[seqIndex_neg () h1,e],(),h1,()⟩
  all_goals grind
theorem JA {α:Type}{xs:List α}{i:Int}{v:α}(h:ia xs i=aa v):∃ j,seqIndex? i xs.length=aa j/\xs[j]?=aa v/\j<xs.length /\ -(xs.length:Int)<=i/\i<xs.length:=by
 unfold ia at h;cases e:gb xs.length i with
 |none=>rw[e] at h;cases h
 |some j=>
  rw[e] at h;obtain⟨h1,h2,h3,h4⟩:=ID e
  grind
theorem yJ {α:Type}{xs:List α}{j:Nat}{v:α}(h:xs[j]?=aa v):ia xs (j:Int)=aa v:=by
 have hj:j<xs.length:=(cK.1 h).1;have e:gb xs.length (j:Int)=aa j:=by
  unfold gb;rw[if_pos (),if_pos ()];simp
 unfold ia;rw[e];exact h
def JB (b:aQ):Prop:=∀ o i,OZ b ah o i=operate [o,i] (qC o i)
def IxR (X:Cx)(r:R2):Prop:=
 ∀ (value cr:aQ) (ac:lv) (s:aH) (Z:St) (H:Hp) (x y:V) (v u:aD) (Q:VK),Inv X ac Z H s->RelV x v->RelV y u->r x y H Q ->
  OZ cr ah v u=operate [v,u] (qC v u)->aL (aP X.prog X.w) X.A (subscriptTail value cr v u) (EP X ac Z Q) X.xe s
def MtR (X:Cx)(id:String)(r:V->aai->Hp->VK->Prop):Prop:=
 ∀ (ac:lv) (s:aH) (Z:St) (H:Hp) (x:V) (xs:aai) (v:aD) (us:aam) (Q:VK),Inv X ac Z H s->RelV x v->Vals xs us->r x xs H Q ->
  aL (aP X.prog X.w) X.A (call (.builtin id) (v::us)) (EP X ac Z Q) X.xe s
section
variable {a b:aQ}{ta tb:TE}{pos:bH}
theorem IxR.or {r r':R2}(h:IxR X r)(h':IxR X r'):IxR X (λx y H Q=>r x y H Q\/r' x y H Q):=by
 intro value cr ac s Z H x y v u Q I rx ry q hs;rcases q with q|q
 .exact h value cr ac s Z H x y v u Q I rx ry q hs
 .exact h' value cr ac s Z H x y v u Q I rx ry q hs
theorem SS {r:R2}(hr:IxR X r)(ha:PE X a ta)(hb:PE X b tb)(hs:JB b):PE X (.Subscript a b pos) (xk r ta tb):=by
 rw[9];exact Subscript_ (GY ha hb I h λv u s2 x y H2 I2 rx ry q=>hr a b ac s2 Z H2 x y v u Q I2 rx ry q (hs _ _))
def SE (K:aK):R2:=λx y H Q=>∃ p xs i v,x=.ref p/\y=.int i/\SqL K H p xs/\ia xs i=aa v/\Q v H
def RX (K:aK):R2:=λx y H Q=>∃ p xs i v,x=.ref p/\y=.int i/\SqT K H p xs/\ia xs i=aa v/\Q v H
def SQ:R2:=λx y H Q=>∃ z i c,x=.str z/\y=.int i/\z.length<=sizeLine/\ia z.cps.toList i=aa c/\Q (.str ⟨#[c]⟩) H
theorem Bfg:IxR X (SE X.K):=by
 intro value cr ac s Z H x y v u Q I rx ry h hs;obtain⟨p,xs,i,z,rfl,rfl,hq,he,q⟩:=h;cases rx;obtain⟨t,rfl⟩:=ry;obtain⟨its,r,pl,hz⟩:=I.list hq;obtain⟨j,h1,h2,h3,h4,h5⟩:=JA he;obtain⟨w,ew,gv⟩:=r.get h2;have hl:=r.length;have hn:=rK;have fin:EP X ac Z Q w s:=⟨z,H,I,gv,q⟩;by_cases h0:0<=i
 .have hj:i.toNat=j:=by
   rw[seqIndex_of h0 h5] at h1;exact dY h1
  exact item_listR pl.isList h0 () (by rw[hj];simpa using ew) fin hs
 .have hj:(i+(its.toArray.size:Int)).toNat=j:=by
   rw[seqIndex_neg () h4] at h1
   grind
  exact subscriptTail_builtinR (x:=w) pl.isList.typeIs slot_list_getitem.lookup
   (wpAny_getItem_list_neg (Q:=λr s'=>r=w/\EP X ac Z Q r s') pl.isList () (by rw[dU]<;>lia) () (by rw[hj];simpa using ew) ⟨rfl,fin⟩) hs
theorem Bha:IxR X (RX X.K):=by
 intro value cr ac s Z H x y v u Q I rx ry h hs;obtain⟨p,xs,i,z,rfl,rfl,hq,he,q⟩:=h;cases rx;obtain⟨t,rfl⟩:=ry;obtain⟨its,r,pl,hz⟩:=I.tuple hq;obtain⟨j,h1,h2,h3,h4,h5⟩:=JA he;obtain⟨w,ew,gv⟩:=r.get h2;have hl:=r.length;have hn:=rK;have fin:EP X ac Z Q w s:=⟨z,H,I,gv,q⟩;exact subscriptTail_builtinR (x:=w) pl.typeIs PB.lookup
  (getItem_tuple (j:=j) (Q:=λr s'=>r=w/\EP X ac Z Q r s') pl () () (by rw[dU,<-hl];exact h1) (by simpa using ew) ⟨rfl,fin⟩) hs
theorem Qh:IxR X SQ:=by
 intro value cr ac s Z H x y v u Q I rx ry h hs;obtain⟨z,i,c,rfl,rfl,hz,he,q⟩:=h;obtain⟨t,rfl⟩:=rx;obtain⟨t',rfl⟩:=ry;obtain⟨j,h1,h2,h3,h4,h5⟩:=JA he;have hl:z.cps.toList.length=z.length:=by simp[Str.length]
 rw[hl] at h1 h4 h5;have hn:=rK;exact tail_any (typeIs_str s z t) slot_str_getitem.lookup (getItem_str (c:=c) (by
  have e1:decide (i < -(2^63:Int))=ah:=decide_eq_false ()
  have e2:decide (i ≥ 2^63)=ah:=decide_eq_false ()
  rw[e1,e2,Bool.or_false]) (by rw[h1];simpa using h2) ⟨.str ⟨#[c]⟩,H,I.tok _,⟨_,rfl⟩,q⟩) hs
def X6 (K:aK):R2:=λx y H Q=>SE K x y H Q\/RX K x y H Q\/SQ x y H Q
theorem VH:IxR X (X6 X.K):=Bfg.or (Bha.or Qh)
theorem Yr (its:aam)(n j:Nat)(u:aD):fM (·.setIfInBounds j u) { cls:=.type "list",data:=.seq its.toArray n }={ cls:=.type "list",data:=.seq (its.set j u).toArray n }:=by
 simp[fM]
theorem Inv.lst{p:aC}(I:Inv X ac Z H s)(h:H p=aa (.lst xs)) :
  ∃ (its:aam) (n:Nat),Vals xs its/\s.heap.get? p=aa { cls:=.type "list",data:=.seq its.toArray n }/\xs.length<=sizeLine:=by
 obtain⟨z,its,n,r,e⟩:=I.hok p _ h;exact⟨its,n,r,e,z⟩
theorem Inv.lstUpd{p:aC}{ys:aai}{its':aam}{n':Nat}{f:bD->bD}(I:Inv X ac Z H s)(h:H p=aa (.lst xs))
  (ho:s.heap.get? p=aa { cls:=.type "list",data:=.seq its.toArray n }) (hf:f { cls:=.type "list",data:=.seq its.toArray n }={ cls:=.type "list",data:=.seq its'.toArray n' }) (r:Vals ys its') (hz:ys.length<=sizeLine) (t:Nat) :
  Inv X ac Z (upd H p (.lst ys)) { s with heap:=s.heap.update p f,toks:=t }:=by
 have e:(s.heap.update p f).get? p=aa { cls:=.type "list",data:=.seq its'.toArray n' }:=by
  rw[rV f ho (by rw[hf]<;>rfl),hf]
 refine I.write (x:=p) (e:=p) (by rw[h];trivial) (.inl rfl) (λb u hb q=>(qN _ _ (fX hb)).trans q) ⟨_,e⟩ ?_
 exact⟨hz,its',n',r,e⟩
def Lx:V->V->V->Hp->(Hp->Prop)->Prop:=λo i v H Q=>∃ p xs k j,o=.ref p/\i=.int k/\H p=aa (.lst xs)/\gb xs.length k=aa j/\Q (upd H p (.lst (xs.set j v)))
theorem set_list:SB X Lx:=by
 intro ac s Z H o i v ov iv u Q I ro ri rv h;obtain⟨p,xs,k,j,rfl,rfl,hp,hj,q⟩:=h;cases ro;obtain⟨t,rfl⟩:=ri;obtain⟨its,n,r,ho,hz⟩:=I.lst hp;obtain⟨h1,h2,h3,h4⟩:=ID hj;have hl:=r.length;have hn:=rK;have I':Inv X ac Z (upd H p (.lst (xs.set j v))) { s with heap:=s.heap.update p (fM (·.setIfInBounds j u)) }:=
  I.lstUpd hp ho (Yr its n j u) (r.set rv j) (by rw[xB];exact hz) s.toks
 by_cases h0:0<=k
 .have hk:k.toNat=j:=by
   rw[seqIndex_of h0 h4] at h1;exact dY h1
  exact PySem.W.ki_setAt ho h0 () (by rw[dU,<-hl];exact h4) (by rw[hk];exact⟨_,I',q⟩)
 .have hk:(k+(its.toArray.size:Int)).toNat=j:=by
   rw[seqIndex_neg () h3] at h1
   grind
  exact PySem.W.ki_setBack ho () (by rw[dU,<-hl];exact h3) () (by rw[hk];exact⟨_,I',q⟩)
theorem g0 (lo hi:aas)(n:Nat):(wK lo hi ab n).1=((HT.sIx n 0 lo:Nat):Int)/\(wK lo hi ab n).2.1=((HT.sIx n n hi:Nat):Int)/\(wK lo hi ab n).2.2=1:=by
 refine⟨?_,?_,rfl⟩
 .cases lo with
  |none=>simp[wK,HT.sIx]
  |some i=>
   simp only[wK,HT.sIx,Option.getD_none,show(1:Int) > 0 by decide,if_true]
   grind
 .cases hi with
  |none=>simp[wK,HT.sIx]
  |some i=>
   simp only[wK,HT.sIx,Option.getD_none,show(1:Int) > 0 by decide,if_true]
   grind
theorem i5 (its:aam)(lo hi:aas):slicePick its.toArray lo hi ab=((its.drop (HT.sIx its.length 0 lo)).take (HT.sIx its.length its.length hi-HT.sIx its.length 0 lo)).toArray:=by
 obtain⟨h1,h2,h3⟩:=g0 lo hi its.toArray.size;unfold slicePick;rw[h1,h2,h3];simp only[sliceRange_one,pick_run,dU]<;>rfl
def Ky (K:aK):V->aas->aas->Hp->VK->Prop:=λx lo hi H Q=>∃ a xs,x=.ref a/\SqL K H a xs/\∀ p,H p=ab->Q (.ref p) (upd H p (.lst (qT xs lo hi)))
theorem Uv:SlR X (Ky X.K):=by
 intro ac s Z H x v vl vu lo hi sl Q I rx hs pl pu h;obtain⟨a,xs,rfl,hx,q⟩:=h;cases rx;obtain⟨its,r,ht,hz⟩:=I.list hx;have ax:=r.length;refine⟨"list",_,slot_list_getitem.lookup,ht.isList.typeIs,?_⟩;refine wpAny_getItem_list_slice ht.isList hs pl pu .none (by simp) ?_ (by rw[dU]<;>lia)
 rw[i5,<-ax];refine⟨.ref s.heap.objs.size,_,I.laid (t':=s.toks) (o:=.lst (qT xs lo hi)) (λb ob q=>bF _ q) (bB _) ?_,rfl,q _ (I.hok.fresh (bB _))⟩
 exact⟨dI (De xs lo hi) hz,_,0,(r.drop (HT.sIx xs.length 0 lo)).take (HT.sIx xs.length xs.length hi-HT.sIx xs.length 0 lo),cI _ rfl⟩
theorem c6:OpR X (gK .NotIn) (λx y H Q=>∃ i j,x=.str i/\y=.str j/\Q (.bl (!(!(RI j i 0 j.length 1).isEmpty))) H):=by
 rw[2];obtain⟨i,j,rfl,rfl,q⟩:=h;obtain⟨t,rfl⟩:=rx;obtain⟨t',rfl⟩:=ry;exact notIn_str ⟨.bl _,H,I,rfl,q⟩
theorem Atf:Acm X (.builtin "len") (λxs H Q=>∃ p ys,xs=[.ref p]/\(SqL X.K H p ys\/SqT X.K H p ys)/\Q (.int ys.length) H):=by
 rw[4];obtain⟨p,ys,rfl,hq,q⟩:=h;obtain⟨u,rfl,rx⟩:=vals1 r;cases rx;have hn:=rK;rcases hq with hq|hq
 .obtain⟨its,r',pl,hz⟩:=I.list hq;have ax:=r'.length;exact Calls.call_len_list pl.isList (by simp only[dU]<;>lia) ⟨.int ys.length,H,I.tok _,⟨s.toks+1,by rw[dU,ax]⟩,q⟩
 .obtain⟨its,r',pl,hz⟩:=I.tuple hq;have ax:=r'.length;exact len_tuple pl (by simp only[dU]<;>lia) ⟨.int ys.length,H,I.tok _,⟨s.toks+1,by rw[dU,ax]⟩,q⟩
theorem Ar3:Acm X (.builtin "len") (λxs H Q=>∃ z,xs=[.str z]/\z.length<=sizeLine/\Q (.int z.length) H):=by
 rw[4];obtain⟨z,rfl,hz,q⟩:=h;obtain⟨u,rfl,t,rfl⟩:=vals1 r;have hn:=rK;exact len_str () ⟨.int z.length,H,I.tok _,⟨_,rfl⟩,q⟩
theorem Acm.or {f:aD}{r r':aai->Hp->VK->Prop}(h:Acm X f r)(h':Acm X f r'):Acm X f (λxs H Q=>r xs H Q\/r' xs H Q):=by
 intro ac s Z H xs us Q I rs q;rcases q with q|q
 .exact h ac s Z H xs us Q I rs q
 .exact h' ac s Z H xs us Q I rs q
theorem Arn:Acm X (.type "list") (λxs H Q=>∃ p ys,xs=[.ref p]/\(SqL X.K H p ys\/SqT X.K H p ys)/\∀ l,H l=ab->Q (.ref l) (upd H l (.lst ys))):=by
 rw[4];obtain⟨p,ys,rfl,hq,q⟩:=h;obtain⟨u,rfl,rx⟩:=vals1 r;cases rx;have fin:∀ (its:aam),Vals ys its->ys.length<=sizeLine->∀ (h':aU) (c':Nat),(∀ b o',s.heap.get? b=aa o'->h'.get? b=aa o') ->
   h'.get? s.heap.objs.size=aa { cls:=.type "list",dict:=ab,data:=.seq its.toArray c',slots:=#[] }->EP X ac Z Q (.ref s.heap.objs.size) { s with heap:=h' }:=λits r' hz h' c' kp e=>
  ⟨.ref s.heap.objs.size,_,I.laid (t':=s.toks) kp (bB _) (show Acj X.prog X.w _ h' _ (.lst ys) from⟨hz,its,c',r',e⟩),rfl,q _ (I.hok.fresh (bB _))⟩
 rcases hq with hq|hq
 .obtain⟨its,r',pl,hz⟩:=I.list hq;have ax:=r'.length;obtain⟨o,ho,hc,n,hd⟩:=pl.isList;exact call_list_seq p (.inl rfl) ho hc hd (λh' c' kp e=>fin its r' hz h' c' kp e) (by simp only[dU]<;>lia)
 .obtain⟨its,r',pl,hz⟩:=I.tuple hq;have ax:=r'.length;obtain⟨o,ho,hc,n,hd⟩:=pl;exact call_list_seq p (.inr rfl) ho hc hd (λh' c' kp e=>fin its r' hz h' c' kp e) (by simp only[dU]<;>lia)
theorem j2:Acm X (.type "tuple") (λxs H Q=>∃ p ys,xs=[.ref p]/\((SqL X.K H p ys/\∀ l,H l=ab->Q (.ref l) (upd H l (.tup ys)))\/(SqT X.K H p ys/\Q (.ref p) H))):=by
 rw[4];obtain⟨p,ys,rfl,h⟩:=h;obtain⟨u,rfl,rx⟩:=vals1 r;cases rx;rcases h with⟨hq,q⟩|⟨hq,q⟩
 .obtain⟨its,r',pl,hz⟩:=I.list hq;have ax:=r'.length;refine call_tuple_list pl.isList (λh' kp=>?_) (by simp only[dU]<;>lia)
  have I1:Inv X ac Z H { s with heap:=h' }:=I.kept (t':=s.toks) kp;have I2:Inv X ac Z (upd H h'.objs.size (.tup ys)) { s with heap:=h'.push { cls:=.type "tuple",data:=.seq its.toArray } }:=
   I1.laid (t':=s.toks) (λb o e=>bF _ e) (bB _) (show Acj X.prog X.w _ _ _ (.tup ys) from⟨hz,its,r',A9u.new _ _⟩)
  exact⟨.ref h'.objs.size,_,I2,rfl,q _ (I1.hok.fresh (bB _))⟩
 .obtain⟨its,r',pl,hz⟩:=I.tuple hq;exact call_tuple_same pl ⟨.ref p,H,I,rfl,q⟩
def tyV (K:aK)(T:String)(x:V)(H:Hp):Prop:=match x with
 |.str _=>T = "str"
 |.int _=>T = "int"
 |.ref p=>(T = "list" /\ ∃ xs,SqL K H p xs)\/(T = "tuple" /\ ((∃ o,K.lookup p=aa o/\o.cls=.type "tuple" /\ o.dict=ab)\/∃ xs,H p=aa (.tup xs))) \/
   (T = "dict" /\ ((∃ ep kvs,H p=aa (.dK ep kvs))\/∃ kvs,∃ ep,H p=aa (.dT ep kvs)))\/(T = "set" /\ ∃ S n,H p=aa (.set S n))
 |_=>False
theorem Pd{T:String}{x:V}{v:aD}(I:Inv X ac Z H s)(r:RelV x v)(ty:tyV X.K T x H) :
  s.TypeIs v T/\∀ a,v=.ref a->∃ ob,s.heap.get? a=aa ob/\ob.dict=ab:=by
 cases x with
 |str z=>
  obtain⟨t,rfl⟩:=r;cases(show T = "str" from ty)
  exact⟨typeIs_str s z t,λ_ e=>nomatch e⟩
 |int i=>
  obtain⟨t,rfl⟩:=r;cases(show T = "int" from ty)
  exact⟨typeIs_int s i t,λ_ e=>nomatch e⟩
 |ref p=>
  cases r;rcases ty with⟨rfl,xs,hq⟩|⟨rfl,⟨o,hk,hc,hd⟩|⟨xs,hx⟩⟩|⟨rfl,hk⟩|⟨rfl,S,n,hk⟩
  .obtain⟨its,_,pl,_⟩:=I.list hq;refine⟨pl.isList.typeIs,λa e=>?_⟩
   cases e;obtain⟨o,n,e,c,hd,_⟩:=pl;exact⟨o,e,hd⟩
  .refine⟨⟨o,I.kIn p o hk,hc⟩,λa e=>?_⟩
   cases e;exact⟨o,I.kIn _ o hk,hd⟩
  .obtain⟨_,_,_,⟨o,e,c,_⟩,n⟩:=(show Acj X.prog X.w H s.heap p (.tup xs) from I.hok p _ hx)
   refine⟨⟨o,e,c⟩,λa e=>?_⟩
   cases e;exact n
  .have z:∃ o,s.heap.get? p=aa o/\o.ExactDict:=by
    rcases hk with⟨ep,kvs,hk⟩|⟨kvs,ep,hk⟩
    .obtain⟨_,_,_,_,o,_,e,ex,_⟩:=I.hok p _ hk;exact⟨o,e,ex⟩
    .obtain⟨_,_,_,_,o,_,e,ex,_⟩:=I.hok p _ hk;exact⟨o,e,ex⟩
   obtain⟨o,e,ex⟩:=z;refine⟨⟨o,e,ex.1⟩,λa e2=>?_⟩
   cases e2;exact⟨o,e,ex.2.1⟩
  .obtain⟨o,_,_,_,e,ex,_⟩:=I.hok p _ hk;refine⟨⟨o,e,ex.1⟩,λa e2=>?_⟩
   cases e2;exact⟨o,e,ex.2.1⟩
 |_=>exact qO ty
def tBM (K:aK)(T:String)(r:V->aai->Hp->VK->Prop)(to:TE)(t:TA):TE:=λZ H Q=>to Z H λx H1=>tyV K T x H1/\t Z H1 λxs H2=>r x xs H2 Q
variable {o e:aQ}{es:aau}{to:TE}{t:TA}{name:aE}{av bc:bH}{T id:String}{r:V->aai->Hp->VK->Prop}
structure Bm (X:Cx)(o e:aQ)(es:List aQ)(name:aE)(av bc:bH):Prop where
 b:PQ o name X.env (bY o X.env)=bY o X.env
 f:((gL bc (bX (e::es) X.env)).all (λx=>!x.1)&&(backToKw bc (keywordEach [] X.env)).all (λx=>x.1.isSome)&&decide ((e::es).length+([]:List Keyword).length+(if ([]:List Keyword).isEmpty then 0 else 1)<30))=af
 l:(av.endLine==bc.line)=af
 s:bX (e::es) X.env=(ah,bY e X.env)::bX es X.env
 p:(gL bc (bX es X.env)).any (·.1)=ah
theorem vE (pa:PlainAttrs T)(slot:Slot T name id)(hty:typeOf (.builtin id)=pure (.type "method_descriptor"))(hm:MtR X id r)(ho:PE X o to)(ha:PA X (e::es) t)
  (q5:Bm X o e es name av bc:=by exact⟨rfl,rfl,rfl,rfl,rfl⟩) :
  PE X (.Call (.Attribute o name av) (e::es) [] bc) (tBM X.K T r to t):=by
 rw[9];refine wpAny_Call_method_late q5.b q5.f q5.l rfl (bb (ho ac s Z H _ I h) λv s1 gh=>?_)
 obtain⟨x,H1,I1,r1,ty,q1⟩:=gh;obtain⟨h1,h2⟩:=Pd I1 r1 ty;refine⟨T,id,pa,slot,hty,h1,h2,?_⟩;have hA:=ha bc ac s1 Z H1 _ I1 q1;rw[q5.s] at hA ⊢;refine Calls.callWith_builtin (by show(ah||(gL bc (bX es X.env)).any (·.1))=ah;rw[q5.p]<;>rfl) (Calls.evalArgs_plain ?_)
 exact bb hA λus s2 ⟨vs,H2,I2,r2,q2⟩=>hm ac s2 Z H2 x vs v us Q I2 r1 r2 q2
end
def Q6 (X:Cx)(id:String)(r:V->aai->Hp->VK->Prop):Prop:=
 ∀ (ac:lv) (s:aH) (Z:St) (H:Hp) (x:V) (xs:aai) (v:aD) (us:aam) (Q:VK),Inv X ac Z H s->RelV x v->Vals xs us->r x xs H Q ->
  aL (aP X.prog X.w) X.A (call (.builtin id) (v::us)) (EP X ac Z Q) X.xe s
theorem Vals.one:∀ {x:V} {us:aam},Vals [x] us->∃ u,us=[u]/\RelV x u:=by
 intro x us h;cases h with
 |cons r t=>cases t;exact⟨_,rfl,r⟩
theorem Vals.eraseIdx:∀ {xs:aai} {us:aam} (i:Nat),Vals xs us->Vals (xs.eraseIdx i) (us.eraseIdx i)
 |_,_,_,.nil=>.nil
 |_,_,0,.cons _ t=>t
 |_,_,i+1,.cons r t=>.cons r (Vals.eraseIdx i t)
theorem Bg {α:Type}:∀ (l:List α) (i:Nat),(l.eraseIdx i).length<=l.length
 |[],_=>bB _
 |_::_,0=>AL _
 |_::r,i+1=>Nat.succ_le_succ (Bg r i)
section
variable {l b:aC}{ys zs:aai}
theorem Inv.lset {its':aam}{f:Array aD->Array aD}{t':Nat}(I:Inv X ac Z H s)(hH:H l=aa (.lst xs))
  (e:s.heap.get? l=aa { cls:=.type "list",data:=.seq its.toArray n }) (hf:f its.toArray=its'.toArray) (hv:Vals ys its') (hz:ys.length<=sizeLine) :
  Inv X ac Z (upd H l (.lst ys)) { s with heap:=s.heap.update l (fM f),toks:=t' }:=by
 have q:=PySem.IsL.update e f;rw[hf] at q;refine I.write (x:=l) (e:=l) (by rw[hH];exact trivial) (.inl rfl) (λb' u hb hu=>(qN s.heap (fM f) (fX hb)).trans hu) ⟨_,q⟩ ?_
 exact⟨hz,its',_,hv,q⟩
theorem Inv.lnew{t':Nat}(I:Inv X ac Z H s)(hv:Vals ys its)(hz:ys.length<=sizeLine) :
  Inv X ac Z (upd H s.heap.objs.size (.lst ys)) { s with heap:=s.heap.push { cls:=.type "list",data:=.seq its.toArray },toks:=t' }:=
 I.laid (λ_ _ q=>bF _ q) (bB _) ⟨hz,its,0,hv,cI _ rfl⟩
theorem Inv.fresh (I:Inv X ac Z H s):H s.heap.objs.size=ab:=I.hok.fresh (bB _)
theorem Inv.lstM (I:Inv X ac Z H s)(hH:H l=aa (.lst xs)):xs.length<=sizeLine/\∃ (its:aam) (n:Nat),Vals xs its/\xs.length=its.length/\s.heap.get? l=aa { cls:=.type "list",data:=.seq its.toArray n }:=by
 obtain⟨z,its,n,r,e⟩:=I.hok l _ hH;exact⟨z,its,n,r,r.length,e⟩
end
def Ue:V->aai->Hp->VK->Prop:=λx vs H Q=>∃ l xs y,x=.ref l/\vs=[y]/\H l=aa (.lst xs)/\xs.length<sizeLine/\Q .non (upd H l (.lst (xs++[y])))
theorem Ak:Q6 X "list.append" Ue:=by
 intro ac s Z H x vs v us Q I rx rv h;obtain⟨l,xs,y,rfl,rfl,hH,hz,q⟩:=h;cases rx;obtain⟨u,rfl,ru⟩:=rv.one;obtain⟨z,its,n,r,hl,e⟩:=I.lstM hH;refine FU F.slot_list_append ⟨_,e,rfl⟩ F.entry_list_append (F.args_list_append_2 _ _) (PySem.list_append l its.toArray n u (by rw[dU];lia)) ⟨e,?_⟩
 refine⟨.non,_,I.lset (its':=its++[u]) hH e (by simp) (r.append (.cons ru .nil)) ?_,rfl,q⟩
 grind
def Ou:V->aai->Hp->VK->Prop:=λx vs H Q=>∃ l xs i k y,x=.ref l/\vs=[.int i]/\H l=aa (.lst xs) /\ -(2^63)<=i/\i<2^63/\seqIndex? i xs.length=aa k/\xs[k]?=aa y/\Q y (upd H l (.lst (xs.eraseIdx k)))
theorem m4:Q6 X "list.pop" Ou:=by
 intro ac s Z H x vs v us Q I rx rv h;obtain⟨l,xs,i,k,y,rfl,rfl,hH,h1,h2,hk,hy,q⟩:=h;cases rx;obtain⟨u,rfl,ru⟩:=rv.one;obtain⟨t,rfl⟩:=ru;obtain⟨z,its,n,r,hl,e⟩:=I.lstM hH;obtain⟨w,hw,gv⟩:=r.get hy;refine FU F.slot_list_pop ⟨_,e,rfl⟩ F.entry_list_pop (F.args_list_pop_2 _ _)
  (MeetsSeq.list_pop_at l its.toArray n i t k w (fitsIndex_both h1 h2) (by rw[dU,<-hl];exact hk) (by rw[<-oY];exact hw) (by rw[dU];lia)) ⟨e,?_⟩
 refine⟨y,_,I.lset (its':=its.eraseIdx k) hH e ?_ (r.eraseIdx k) ?_,gv,q⟩
 all_goals grind
end L2
namespace Att
open PySem PySem.W PySem.Calls PyProof.Rows
theorem k5 {P:Params}{h:aU}:∀ (ns:aal) (vs:aam),WellAll P h vs (ns.map WData.int)->IntsAre vs ns:=by
 intro ns;induction ns with
 |nil=>
  intro vs w;rw[List.map_nil] at w;cases w;exact .nil
 |cons n ns ih=>
  intro vs w;rw[cW] at w;cases w with
  |cons a b=>
   cases a;exact .cons _ _ (ih _ b)
theorem E2 {l:OpenLaw}{n:Nat}(hn:l.most=aa n){P:Params}{h:aU}{args:List WData}{we:aam}
  (ng:l.row.toRowW.claim.pre args=af) (ur:WellAll P h we args) :
  ∃ a vs ns,we=[eJ a]/\args=[WData.list (ns.map WData.int)]/\h.get? a=aa { cls:=.type "list",data:=.seq vs.toArray }/\IntsAre vs ns/\ns.length<=n:=by
 have hsh:WShape.hasAll [] args [.list .int]=af:=(pre_splitW ng).1;have hc:l.pre.holds [] { args:=args }=af:=(pre_splitW ng).2;obtain⟨d,r,rfl,h1,h2⟩:=hasAllW_cons hsh;obtain rfl:=hasAllW_nil h2;obtain⟨xs,rfl,h3⟩:=hasW_list h1;obtain⟨ns,rfl⟩:=items_int h3;have ax:ns.length<=n:=by
  unfold OpenLaw.pre at hc;have h4:(WTm.not (.lt (.lit (.int (n:Int))) (.len (.arg 0)))).holds [] { args:=[.list (ns.map .int)] }=af:=by
   have h4:=(holds_andW hc).1;rw[hn] at h4;exact h4
  have h5:=condW_of h4 (w_not (w_lt w_lit (w_len_list (w_arg rfl))))
  grind
 cases ur with
 |cons w1 w2=>
  cases w2;cases w1 with
  |list ho cf=>exact⟨_,_,ns,rfl,rfl,ho,k5 ns _ cf,ax⟩
theorem F5 (l:OpenLaw)(args:List WData):l.row.toRowW.claim.post args (.bool af) args=af:=
 postW_of (r:=l.row.toRowW) (X:=(af==af))
  (show WShape.has [] (.bool af) .bool=af by first|rfl|decide|simp[WShape.has,WShape.arms,WShape.armsAll])
  (show(WTm.eq .res (.lit (.bool af))).value [] { args:=args,res:=aa (.bool af),after:=args }=aa (.bool (af==af)) from w_eq_bool (w_res rfl) w_lit) rfl
end Att
namespace L2
open PySem PySem.Spec PyProof.Rows
variable {w:bA}{K:aK}{mg:aE->aap}{k:aI}{a f:aC}{fd:mB}{x qual y:aE}{sp:Sp}{X:Cx}{st:eK}{N ps:aak}{A:bP}{dz az c b tg e:aQ}{fz es:aau}{pos px ij p p2:bH}{env:dW}{n i j n0:Nat}{sc:fW}{v:V}{t:TT}{fp:Nat->aan}{H' H H1 B' B0 H0:Hp}{s:aH}{Q:VK}{ac:lv}{Z:St}{cap:tz}{o:HO}{xs:aai}{ds:aah}{m d:aA}{Y:jp}{g:aA->aA->aaj}{r:R2}{T:String}{P0:aC->Prop}{kds:be}
theorem ZE:∀ {vs:aam} {ns:aal},IntsAre vs ns->Vals (ns.map V.int) vs
 |_,_,.nil=>.nil
 |_,_,.cons n t h=>.cons ⟨t,rfl⟩ (ZE h)
def Only (H:Hp):Prop:=∀ b,H b=ab\/∃ o xs,H b=aa (.frz o (.lst xs))
theorem t7 {P:bJ}{mb:aE->aap}{CX:qr}{k:Nat}{fa:aC}{s₁:aH}{vs:aam}{ns:aal}
  (KX:K.In s₁.heap) (O7:s₁.heap.Ns jO mg) (hb:s₁.heap.Ns builtinsNs mb) (hbb:∀ x:aE,x ≠ "__name__" -> mb x=mM x) (Tl:s₁.heap.NoLimit) (hg:s₁.gens = #[])
  (ha:s₁.heap.get? a=aa { cls:=.type "list",data:=.seq vs.toArray }) (hi:IntsAre vs ns) (hl:ns.length<=sizeLine) (hr:Room k wN)
  (F:∀ base:aU,K.In base->base.Ns jO mg->FnOk P w K mg base CX k fa fd [x] sp) (yr:∀ (s:aH) (u:aD),BindsTo s fd ⟨[u],[]⟩ [(x,u)])
  (uq:∀ H:Hp,Only H->SqL K H a (ns.map V.int)->sp [.ref a] H (λv _=>v=.bl af) λ_ _ _=>False)
  (Ty:∀ H e s',CX [] H s₁ (λ_ _ _=>False) e s'->False) :
  jQ (aP P w) wN (.call (.ref fa) ⟨[.ref a],[]⟩) (λr s'=>r=.ok (.ret (.bool af))/\OldK s₁.heap s'.heap/\s'.os=s₁.os/\rW s'.gens) s₁:=by
 have rv:=ZE hi;have TD:=hi.length;have yt:∀ H:Hp,Only H->SqL K H a (ns.map V.int)->HOk P w H s₁.heap->(∀ b,H b≠ab->b=a)->(H a≠ab->K.lookup a=ab) ->
   jQ (aP P w) wN (.call (.ref fa) ⟨[.ref a],[]⟩) (λr s'=>r=.ok (.ret (.bool af))/\OldK s₁.heap s'.heap/\s'.os=s₁.os/\rW s'.gens) s₁:=by
  intro H hO hS hok hA hK;have base_of:∀ {b:aC} {o:bD},s₁.heap.get? b=aa o->H b=ab->(pD s₁.heap H).get? b=aa o:=λe n=>Wr e n
  have yp:∀ {b:aC} {o:bD} {es:Array qP} {ep:Nat},s₁.heap.get? b=aa o->o.data=.dict es ep->H b=ab:=λ{b o es ep} e d=>by
   cases q:H b with
   |none=>rfl
   |some u=>
    have e':b=a:=hA b (by rw[q];simp)
    subst e';rw[ha] at e;cases e;have d':Data.seq vs.toArray _=Data.dict es ep:=d;cases d'
  have O8:∀ {b:aC} {m:aE->aap},s₁.heap.Ns b m->(pD s₁.heap H).Ns b m:=λ{b m} ⟨o,es,ep,e,d,r⟩=>⟨o,es,ep,base_of e (yp e d),d,r⟩
  have Y8:K.In (pD s₁.heap H):=λb o e=>base_of (KX b o e) (by
   cases q:H b with
   |none=>rfl
   |some u=>
    have e':b=a:=hA b (by rw[q];simp)
    subst e';rw[hK (by rw[q];simp)] at e;cases e)
  have hM:Mod K mg (pD s₁.heap H):=⟨Y8,O8 O7,⟨mb,O8 hb,hbb⟩,let ⟨mc,h1,h2⟩:=Tl;⟨mc,O8 h1,h2⟩⟩;have e0:Env0 P w K mg (pD s₁.heap H) wN [] s₁ H:=⟨rfl,hM,λb o e=>Vg e,QJ (C8 _ _),trivial,λb hb=>absurd (show b∈([]:aan) from hb) (by simp),hok,.of_eq hg⟩
  refine wM ((F _ Y8 (O8 O7)).run wN [] s₁ H ⟨[.ref a],[]⟩ [.ref a] [.ref a] _ _ hr e0 (yr s₁ (.ref a)) (.cons rfl .nil) (uq H hO hS)) λr s' h=>?_
  cases r with
  |error e=>exact(Ty H e s' h).elim
  |ok fl=>
   cases fl with
   |next=>exact qO h
   |brk=>exact qO h
   |cont=>exact qO h
   |ret u=>
    obtain⟨v,H',os,bare,un,TW,r',q⟩:=h;have q':v=.bl af:=q;subst q';obtain rfl:u=Value.bool af:=r';refine⟨rfl,OldK.of_keep λb o e=>?_,os,bare⟩
    cases q:H b with
    |none=>exact un.keep b o e q (by intro z;exact absurd (show b∈([]:aan) from z) (by simp)) (by simp)
    |some u=>
     rcases hO b with z|⟨ob,xs,z⟩
     .rw[q] at z;cases z
     .have z2:=un.frzs b ob _ z;obtain⟨e1,_⟩:=hok b _ z;obtain⟨e2,_⟩:=TW b _ z2;rw[e] at e1;cases e1;exact e2
 cases hk:K.lookup a with
 |some o=>
  have e:=KX a o hk;rw[ha] at e;cases e;refine yt (λ_=>ab) (λ_=>.inl rfl) (.inr ⟨_,vs.toArray,_,hk,rfl,rfl,rfl,by rw[dU,TD];exact hl,by simpa using rv⟩) (λb u z=>by have z':(ab:Option HO)=aa u:=z;cases z') (λb z=>absurd rfl z) λz=>absurd rfl z
 |none=>
  refine yt (λb=>if b=a then aa (.frz { cls:=.type "list",data:=.seq vs.toArray } (.lst (ns.map V.int))) else ab) (λb=>?_) (.inl (.inr ⟨{ cls:=.type "list",data:=.seq vs.toArray },if_pos rfl⟩)) (λb u z=>?_) (λb z=>?_) λ_=>hk
  .by_cases hb:b=a
   .exact .inr ⟨_,_,if_pos hb⟩
   .exact .inl (if_neg hb)
  .by_cases hb:b=a
   .have z':=(if_pos hb).symm.trans z;cases z';subst hb;exact⟨ha,by rw[cJ];exact hl,vs,_,rv,ha⟩
   all_goals grind
  all_goals grind
def yF (s:eK):Arguments:=match s with
 |.FunctionDef _ a _ _ _ _ _ _ _ _=>a
 |_=>{ posonlyargs:=[],args:=[],vararg:=ab,kwonlyargs:=[],kw_defaults:=[],kwarg:=ab,defaults:=[] }
def nX (s:eK):List eK:=match s with
 |.FunctionDef _ _ b _ _ _ _ _ _ _=>b
 |_=>[]
def dX (s:eK):fW:=match s with
 |.FunctionDef _ _ _ _ _ _ sc _ _ _=>sc
 |_=>{ kind:=.function,names:=[],isGenerator:=ah,isCoroutine:=ah }
abbrev nu:qr:=λ_ _ _ _ _ _=>False
abbrev E0:XK:=λ_ _ _=>False
theorem Mj:Passes nu X E0:=λ_ _ _ _ _ _ _ h=>h.elim
structure Fun (K:aK)(x qual:aE)(st:eK)(f:aC)(fd:mB):Prop where
 ex:∃ (oc:aD) (od:Option aC) (kV ib pm:aD) (an:Option aC) (bz ct:aD) (uo:Array (Option aD)),
  fd=wU x qual (yF st) (nX st) (dX st) .none kV ib pm an bz ct/\K.lookup f=aa ⟨oc,od,.func fd,uo⟩/\PX K bz qual=af
 kp:FW K (.ref f)=af
section
variable {P:bJ}{base:aU}
theorem Fun.ok{k:Nat}(F:Fun K x qual st f fd)(S:FnScope N ps (dX st))(len:∀ vs H Q E,sp vs H Q E->vs.length=ps.length)
  (pc:∀ (bz:aD) (A:bP) (outer:List dW) (s:aH) (H:Hp) (vs:aai) (Q:VK) (E:XK),Room k (A.deeper (envOfC qual (dX st) s.heap.objs.size f bz))->sp vs H Q E ->
   ∃ t,PSs (oG nu P w K mg base N qual (dX st) f bz A outer s H E).nox (nX st) t/\t { nx:=λ_ H'=>Q .non H',rt:=Q } (start N vs) H):FnOk P w K mg base nu (k+1) f fd ps sp:=by
 obtain⟨oc,od,kV,ib,pm,an,bz,ct,uo,rfl,lk,o0⟩:=F.ex;refine Ml lk o0 S len λA outer s H vs Q E hr uq=>?_
 obtain⟨t,h,q⟩:=pc bz A outer s H vs Q E hr uq;exact⟨t,h.nox,q⟩
theorem Fun.binds(F:Fun K x qual st f fd)
  (h:∀ (kV ib pm:aD) (an:Option aC) (bz ct:aD) (us:aam),us.length=ps.length->bindArgs (wU x qual (yF st) (nX st) (dX st) .none kV ib pm an bz ct) ⟨us,[]⟩=pure (ps.zip us)):Binds K fd ps []:=by
 obtain⟨oc,od,kV,ib,pm,an,bz,ct,uo,rfl,lk,o0⟩:=F.ex;exact .all (h kV ib pm an bz ct)
theorem Nz{oc:aD}{od an:Option aC}{uo:Array aap}{kV ib pm bz ct:aD}(l:K.lookup f=aa ⟨oc,od,.func (wU x qual (yF st) (nX st) (dX st) .none kV ib pm an bz ct),uo⟩)
  (c:PX K bz qual=af) (k:FW K (.ref f)=af):Fun K x qual st f (wU x qual (yF st) (nX st) (dX st) .none kV ib pm an bz ct):=⟨⟨oc,od,kV,ib,pm,an,bz,ct,uo,rfl,l,c⟩,k⟩
end
theorem HQ{k:Nat}(hr:Room k A):A.units+40<cLine:=FZ (Nat.add_le_add_left (by decide:40<=64) _) hr.units
theorem G1:Acm X (.builtin "len") (λxs H Q=>∃ a ep kvs,xs=[V.ref a]/\H a=aa (.dK ep kvs)/\Q (.int kvs.length) H):=by
 rw[4];obtain⟨a,ep,kvs,rfl,ha,q⟩:=h;obtain⟨u,rfl,ru⟩:=vals1 r;cases ru;exact Ly I (.inl ha) λt s' I'=>⟨.int kvs.length,H,I',⟨t,rfl⟩,q⟩
theorem qX {A B:Prop}(h:B):if ah=af then A else B:=by
 rw[if_neg kX];exact h
theorem qR {A B:Prop}(h:A):if af=af then A else B:=by
 rw[if_pos rfl];exact h
section
variable {prog:bJ}{R:oP->aH->Prop}
theorem Zp {gf:aQ}{scope:fW}{it aq:aD}(I:Nat->aH->Prop)
  (jf:∀ n s,I n s->aL (aP prog w) A (gJ it) (λr s₁=>match r with
   |none=>R (.ok .next) s₁
   | some v=>aL (aP prog w) A (PH gf it v) (λ_ s₂=>aL (aP prog w) A (jR gf env v) (λ_ s₃=>
     aL (aP prog w) A (forIn fz af λc r=>if r=af then do let ok <-isTrue c env (bY c env);pure (AU ok) else pure (AU r)) (λok s₄=>
      if ok=af then aL (aP prog w) A (bY dz env) (λx s₅=>
       aL (aP prog w) A (call (.builtin "list.append") [aq,x]) (λ_ s₆=>∃ m,m<n/\I m s₆) (λ_ _=>False) s₅) (λ_ _=>False) s₄
      else ∃ m,m<n/\I m s₄) (λ_ _=>False) s₃) (λ_ _=>False) s₂) (λ_ _=>False) s₁) (λ_ _=>False) s)
  (n:Nat) (h:I n s):jQ (aP prog w) A (.compLoop (.ListComp dz [⟨gf,az,fz,0⟩] scope pos) 0 it aq env) R s:=by
 refine codeAny_loop rfl I (λn s hI=>?_) n h
 refine wpAny_noted ?_;rw[compTurn_list];refine aG (OO (aG (kP (jf n s hI) (λr s₁ h₁=>?_) λ_ _ h'=>h'.elim)))
 cases r with
 |none=>exact aM h₁
 |some v=>
  refine aG (kP h₁ (λ_ s₂ h₂=>?_) λ_ _ h'=>h'.elim)
  refine aG (kP h₂ (λ_ s₃ h₃=>aG (kP h₃ (λok s₄ h₄=>?_) λ_ _ h'=>h'.elim)) λ_ _ h'=>h'.elim)
  cases ok with
  |false=>exact aM ⟨rfl,h₄⟩
  |true=>
   exact aG (aG (kP h₄ (λx s₅ h₅=>aG (kP h₅ (λ_ s₆ h₆=>aM (aM ⟨rfl,h₆⟩)) λ_ _ h'=>h'.elim)) λ_ _ h'=>h'.elim))
end
theorem cellOf_eq{n:aE}{c:aC}(h:env.cells.lookup n=aa c):cellOf env n=pure c:=by
 unfold cellOf;rw[h]
noncomputable def hV (env:dW):aac->wT->wT
 |[],cs=>cs
 |(n,k)::r,cs=>hV env r (if (k==lV)=af then(match env.cells.lookup n with|some c=>(n,c)::cs|none=>cs) else cs)
theorem Ef(h:∀ n,(n,lV)∈sc.names->∃ c,env.cells.lookup n=aa c):closureFor sc env=pure (hV env sc.names []):=by
 unfold closureFor;generalize sc.names=l at h;have go:∀ (l:aac) (cs:wT),(∀ n,(n,lV)∈l->∃ c,env.cells.lookup n=aa c) ->
   (forIn l cs (λ(x:aE×jB) (r:wT)=>if (x.2==lV)=af then(do let c <-cellOf env x.1;pure (AU ((x.1,c)::r))) else pure (AU r)):Sem wT)=pure (hV env l cs):=by
  intro l;induction l with
  |nil=>intro cs _;rfl
  |cons p r ih=>
   intro cs hl;obtain⟨n,k⟩:=p;rw[Jx];have hr:∀ n,(n,lV)∈r->∃ c,env.cells.lookup n=aa c:=λn hn=>hl n (bL _ hn)
   cases hk:(k==lV) with
   |true=>
    have ek:k=lV:=by simpa using hk
    subst ek;obtain⟨c,hc⟩:=hl n bE;have e1:hV env ((n,lV)::r) cs=hV env r ((n,c)::cs):=by
     show hV env r (if (lV==lV)=af then(match env.cells.lookup n with|some c=>(n,c)::cs|none=>cs) else cs)=_
     rw[hc];rfl
    rw[e1];simp only[cellOf_eq hc,hk,if_true];exact ih ((n,c)::cs) hr
   |false=>
    have e1:hV env ((n,k)::r) cs=hV env r cs:=by
     show hV env r (if (k==lV)=af then(match env.cells.lookup n with|some c=>(n,c)::cs|none=>cs) else cs)=_
     rw[hk];rfl
    grind
 grind
theorem ME:∀ (l:aac) (cs:wT),(∀ x c,cs.lookup x=aa c->env.cells.lookup x=aa c)->∀ x c,(hV env l cs).lookup x=aa c->env.cells.lookup x=aa c
 |[],cs,h,x,c,e=>h x c e
 |(n,k)::r,cs,h,x,c,e=>by
  refine ME r _ ?_ x c e
  grind
theorem Cv{c:aC}(hx:env.cells.lookup x=aa c):∀ (l:aac) (cs:wT),cs.lookup x=aa c->(hV env l cs).lookup x=aa c
 |[],cs,h=>h
 |(n,k)::r,cs,h=>by
  refine Cv hx r _ ?_
  grind
theorem MO{c:aC}(hx:env.cells.lookup x=aa c):∀ (l:aac) (cs:wT),(x,lV)∈l->(hV env l cs).lookup x=aa c
 |[],cs,h=>by simp at h
 |(n,k)::r,cs,h=>by
  rcases cV.1 h with e|h
  .cases e;refine Cv hx r _ ?_
   grind
  .exact MO hx r _ h
theorem Ea(x:aE):(wL sc env).names.lookup x=(sc.names.lookup x).map λk=>if (k==lV&&env.scope.kind==.function&&env.kindOf x==aa .cell)=af then QL else k:=by
 unfold wL;induction sc.names with
 |nil=>rfl
 |cons p r ih=>
  grind
theorem lookup_mem {α:Type}{v:α}:∀ {l:List (aE×α)},l.lookup x=aa v->(x,v)∈l
 |[],h=>by simp at h
 |(n,k)::r,h=>by
  by_cases hy:(x==n)=af
  .grind
  .have ut:(x==n)=ah:=by simpa using hy
   simp only[QS,ut] at h;exact bL _ (lookup_mem h)
theorem MH {α:Type}(x:aE):∀ (l m:List (aE×α)),(l++m).lookup x=(l.lookup x).or (m.lookup x)
 |[],m=>rfl
 |(n,k)::r,m=>by
  rw[xF,QS,QS];cases x==n with
  |true=>rfl
  |false=>exact MH x r m
theorem NK:∀ (names:aac) (n:Nat) (a b:wT),iG n names (a++b)=iG n names a++b
 |[],_,_,_=>rfl
 |(x,k)::r,n,a,b=>by
  unfold iG;split
  .exact NK r (n+1) ((x,n)::a) b
  .exact NK r n a b
theorem NI:∀ (names:aac) (n:Nat) (a:wT) {x:aE} {c:aC},(x,c)∈iG n names a->(x,QL)∈names\/(x,c)∈a
 |[],_,_,_,_,h=>.inr h
 |(y,k)::r,n,a,x,c,h=>by
  unfold iG at h;split at h
  .rename_i hk;have hk:k=.cell:=by simpa using hk
   rcases NI r _ _ h with q|q
   .exact .inl (bL _ q)
   .rcases cV.1 q with e|q
    .cases e;rw[hk];exact .inl bE
    .exact .inr q
  .exact(NI r _ _ h).imp (bL _) id
theorem zS:∀ (names:aac) (n:Nat) (a:wT) {x:aE},((x,QL)∈names\/∃ c,a.lookup x=aa c)->∃ c,(iG n names a).lookup x=aa c
 |[],_,_,_,h=>h.elim (λh=>nomatch h) id
 |(y,k)::r,n,a,x,h=>by
  unfold iG;split
  .refine zS r _ _ ?_;by_cases e:x=y
   .subst e;exact .inr ⟨n,by simp⟩
   .rcases h with h|⟨c,h⟩
    .rcases cV.1 h with q|q
     .cases q;exact absurd rfl e
     .exact .inl q
    .exact .inr ⟨c,by rw[QS,show(x==y)=ah by simpa using e];exact h⟩
  .rename_i hk;refine zS r _ _ (h.imp (λh=>?_) id)
   rcases cV.1 h with q|q
   .cases q;exact absurd rfl hk
   .exact q
def jK (sc:fW)(env:dW)(n:Nat):wT:=iG (n+1) sc.names (hV env sc.names [])
theorem ZT (sc:fW)(env:dW)(n:Nat):jK sc env n=iG (n+1) sc.names []++hV env sc.names []:=by
 unfold jK;rw[<-NK]
 rfl
noncomputable def gH (X:Cx)(N:aak)(sc:fW)(cl:wT)(C:aC)(s₀:aH)(H₀:Hp)(ex:aan):Cx:=
 { X with N:=N,s₀:=s₀,H₀:=H₀,env:=compEnvC sc cl C X.env,outer:=X.stack,ex:=ex,fn:=λx=>sc.names.lookup x==aa .cell,pn:=[],xe:=λ_ _=>False }
structure CompScope (X:Cx)(N:List aE)(cap:List (Option Nat))(sc:fW):Prop where
 kind:sc.kind=.function
 own:∀ y∈sc.names,y.2=.cell->sc.names.lookup y.1=aa .cell
 nm:∀ y∈sc.names,y.2=.local->sc.names.lookup y.1=aa .local
 fre:∀ y∈sc.names,y.2=.free->X.env.scope.names.lookup y.1=aa .cell\/X.env.scope.names.lookup y.1=aa .free
 len:cap.length=N.length
 cap:∀ (i j:Nat),cap[i]?=aa (aa j)->∃ x,N[i]?=aa x/\X.N[j]?=aa x/\sc.names.lookup x=aa .free
def qQ (cap:tz)(Z:St):St:=cap.map λo=>o.bind λj=>(Z[j]?).join
def sJ (X:Cx)(fz:aau)(t:TT):Prop:=
 ∀ (ac:lv) (s:aH) (Z:St) (H:Hp) (Q:Bool->Hp->Prop),Inv X ac Z H s->t Z H Q ->
  aL (aP X.prog X.w) X.A (forIn fz af λc r=>if r=af then do let ok <-isTrue c X.env (bY c X.env);pure (AU ok) else pure (AU r)) (TP X ac Z Q) X.xe s
def HN:TT:=λ_ H Q=>Q af H
theorem Ft:sJ X [] HN:=λ_ _ _ H _ I h=>wpAny_tests_nil ⟨H,I,h⟩
theorem Ut(h:PT X c t):sJ X [c] t:=λac s Z H Q I hw=>wpAny_tests_one (h ac s Z H Q I hw)
def GX (cap:tz)(J:It)(g:TG)(tc:TT)(te:TE)(Z:St)(H1:Hp)(Q:VK):Prop:=∀ D,H1 D=ab ->
 ∃ W:Nat->Nat->aai->St->Hp->Prop,(∃ m,W 0 m [] (qQ cap Z) (upd H1 D (.lst []))) /\
  ∀ i m ys σ' H',W i m ys σ' H'->H' D=aa (.lst ys)/\((J.stop i H'/\Q (.ref D) H') \/
   (J.go i H'/\ys.length<sizeLine/\∃ M:aai->St->Hp->Prop,(∀ zs σ2 H2,M zs σ2 H2->∃ m',m'<m/\W (i+1) m' zs σ2 H2)/\∀ x H2,J.yld i H' x H2->g x σ' H2 λσ3 H3=>tc σ3 H3 λb H4=>
    if b=af then te σ3 H4 λy H5=>H5 D=aa (.lst ys)/\M (ys++[y]) σ3 (upd H5 D (.lst (ys++[y]))) else M ys σ3 H4))
def X9 (cap:tz)(wi:TI)(g:TG)(tc:TT)(te:TE):TE:=λZ H Q=>wi Z H λJ H1=>GX cap J g tc te Z H1 Q
theorem CompScope.cells (S:CompScope X N cap sc)(ok:X.Ok):∀ n,(n,lV)∈sc.names->∃ c,X.env.cells.lookup n=aa c:=λn hn=>ok.has n (S.fre _ hn rfl)
theorem YM (sc:fW)(h:aU):CellsOk (pushCells (h.push { cls:=.type "dict",data:=.dict #[] }) sc.names) (h.objs.size+1) (iG (h.objs.size+1) sc.names []):=by
 have ok:=cellsFrom_ok sc.names (h.push { cls:=.type "dict",data:=.dict #[] }) (h.objs.size+1) [] ⟨λ_ _ hm=>(nomatch hm),Kc⟩ (by rw[mO];exact bB _)
 rwa [mO] at ok
theorem wA{c:aC}(h:(jK sc env n).lookup x=aa c):(x,c)∈iG (n+1) sc.names []\/((iG (n+1) sc.names []).lookup x=ab/\(hV env sc.names []).lookup x=aa c):=by
 rw[ZT,MH] at h;cases e:(iG (n+1) sc.names []).lookup x with
 |none=>rw[e] at h;exact .inr ⟨rfl,h⟩
 |some c'=>rw[e] at h;cases h;exact .inl (wR e)
theorem CompScope.free (S:CompScope X N cap sc){c:aC}(f:sc.names.lookup x=aa .free)(h:(hV env sc.names []).lookup x=aa c):(jK sc env n).lookup x=aa c:=by
 rw[ZT,MH];cases e:(iG (n+1) sc.names []).lookup x with
 |none=>exact h
 |some c'=>
  rcases NI _ _ _ (wR e) with q|q
  .have:=S.own _ q rfl;rw[f] at this;cases this
  .exact nomatch q
theorem B5 (S:CompScope X N cap sc){fp:aan}(I:Inv X ac Z H s)(hf:∀ b∈fp,iR X ac H b)(hl:∀ b∈fp,b<s.heap.objs.size) :
  (gH X N sc (jK sc X.env s.heap.objs.size) s.heap.objs.size s H fp).Ok:=by
 have sub:∀ x c,(hV X.env sc.names []).lookup x=aa c->X.env.cells.lookup x=aa c:=ME sc.names [] (λx c e=>by simp at e)
 have nw:=YM sc s.heap;have ff:∀ {x c},(hV X.env sc.names []).lookup x=aa c->c<s.heap.objs.size:=λ{x c} e=>by
  obtain⟨v,h⟩:=I.cell x c (sub x c e);exact h.lt
 refine⟨I.ok.mod,?_,I.ok.glob,I.ok.blt,bB _,?_,?_,?_,I.ok.hd,I.ok.frames,.inl rfl,?_,I.bs,dI I.ok.bsz I.sz,?_,?_,I.stack,I.stkFree⟩
 .exact S.kind
 .intro x y c h1 h2;rcases wA h1 with a|⟨_,a⟩<;>rcases wA h2 with b|⟨_,b⟩
  .exact name_of_addr nw.apart a b
  .have:=(nw.empty _ _ a).2;have:=ff b;lia
  .have:=(nw.empty _ _ b).2;have:=ff a;lia
  .exact I.ok.inj x y c (sub x c a) (sub y c b)
 .intro x hx;have hk:(wL sc X.env).names.lookup x=aa .cell\/(wL sc X.env).names.lookup x=aa .free:=hx;rw[Ea] at hk;cases e:sc.names.lookup x with
  |none=>rw[e] at hk;simp at hk
  |some k=>
   rw[e] at hk;have hm:=lookup_mem e;have kk:k=.cell\/k=.free:=by grind
   rcases kk with rfl|rfl
   .exact zS _ _ _ (.inl hm)
   .obtain⟨c,hc⟩:=S.cells I.ok x hm;exact zS _ _ _ (.inr ⟨c,MO hc _ _ hm⟩)
 .intro x c h1 h2;have e:sc.names.lookup x=aa .cell:=by simpa using(show(sc.names.lookup x==aa .cell)=af from h1)
  rcases wA h2 with a|⟨a,_⟩
  .exact Jm (nw.empty _ _ a).2
  .obtain⟨c',h⟩:=zS sc.names (s.heap.objs.size+1) [] (.inl (lookup_mem e));rw[a] at h;cases h
 .intro b hb;refine⟨cO (hl b hb),λx c e=>?_⟩
  rcases wA e with a|⟨_,a⟩
  .have:=(nw.empty _ _ a).2;have:=hl b hb;lia
  .exact(hf b hb).2.2.2.2.1 x c (sub x c a)
 .intro b o e hb;rcases(hf b hb).2.2.2.1 with z|z
  .exact I.ok.noex b o e z
  .exact absurd (kU (bM e) (dI I.ok.bsz z)) (nJ _)
 .intro b hb hz;obtain⟨_,h1,h2,_⟩:=hf b hb;rcases cV.1 (I.stkSub b hz) with e|e
  .exact h1 e
  .exact h2 e
theorem Wn (S:CompScope X N cap sc){fp:aan}{h':aU}{tk:Nat}(I:Inv X ac Z H s)(hf:∀ b∈fp,iR X ac H b)(hl:∀ b∈fp,b<s.heap.objs.size)
  (hn:h'.Ns s.heap.objs.size λ_=>ab) (hk:∀ b o,s.heap.get? b=aa o->h'.get? b=aa o) (hw:CellsOk h' (s.heap.objs.size+1) (iG (s.heap.objs.size+1) sc.names [])) :
  Inv (gH X N sc (jK sc X.env s.heap.objs.size) s.heap.objs.size s H fp) [] (qQ cap Z) H { s with heap:=h',toks:=tk }:=by
 have sub:∀ x c,(hV X.env sc.names []).lookup x=aa c->X.env.cells.lookup x=aa c:=ME sc.names [] (λx c e=>by simp at e)
 have fr:=I.hok.fresh (bB _);refine⟨B5 S I hf hl,rfl,I.bare,Un.kept hk,⟨_,hn,λi x v e1 e2 e3=>?_⟩,λx c e=>?_,fr,λx c e=>(wA e).elim (λa=>I.hok.fresh (Jm (hw.empty _ _ a).2)) λa=>I.freeC x c (sub x c a.2),λp hp=>by simp[gH] at hp,I.hok.kept hk,?_⟩
 .have pi:(cap.map λo=>o.bind λj=>(Z[j]?).join)[i]?=aa (aa v):=e2
  rw[eU] at pi;cases hc:cap[i]? with
  |none=>rw[hc] at pi;simp at pi
  |some o=>
   rw[hc] at pi;simp only[Option.map_some,Option.some.injEq] at pi;cases o with
   |none=>simp at pi
   |some j=>
    have pi:(Z[j]?).join=aa v:=pi;have ej:Z[j]?=aa (aa v):=by
     grind
    obtain⟨y,n1,n2,T0⟩:=S.cap i j hc;have exy:=dY (e1.symm.trans n1);subst exy;have hmem:=lookup_mem T0;have pd:=S.fre _ hmem rfl;obtain⟨m,_,xo⟩:=I.loc;obtain⟨u,r,l⟩:=xo j x v n2 ej (.inr pd);refine⟨u,r,.inr ⟨?_,?_⟩⟩
    .show(wL sc X.env).names.lookup x=aa .cell\/(wL sc X.env).names.lookup x=aa .free;rw[Ea,T0]
     grind
    .rcases l with⟨k1,_⟩|⟨_,c,oh,jy⟩
     .exfalso;have k1':X.env.scope.names.lookup x=aa .local:=k1
      grind
     .obtain⟨oc,h1,h2⟩:=jy;exact⟨c,S.free T0 (MO oh _ _ hmem),oc,hk _ _ h1,h2⟩
 .rcases wA e with a|⟨_,a⟩
  .exact⟨_,(hw.empty _ _ a).1⟩
  .obtain⟨v,oc,h1,h2⟩:=I.cell x c (sub x c a);exact⟨v,oc,hk _ _ h1,h2⟩
 .show(cap.map _).length=N.length;rw[cJ,S.len]
theorem comp_back {fp:aan}{cl:wT}{σ':St}{s':aH}{pl:lv}(I:Inv X ac Z H s)(hf:∀ b∈fp,iR X ac H b)
  (I':Inv (gH X N sc cl s.heap.objs.size s H fp) pl σ' H' s'):Inv X ac Z H' s':=
 I.call' I'.os (show Un (ou X.stack) fp H H' s.heap s'.heap from I'.base) I'.hok I'.bare λb hb=>⟨(hf b hb).2.2.2.1,(hf b hb).2.1,(hf b hb).2.2.2.2.1,(hf b hb).2.2.2.2.2⟩
section
variable {wi:TI}{g:TG}{tc:TT}{te:TE}
def Block (X:Cx)(N:aak)(sc:fW)(tg dz:aQ)(fz:aau)(g:TG)(tc:TT)(te:TE):Prop:=
 ∀ (cl:wT) (C:aC) (s₀:aH) (H₀:Hp) (ex:aan),PG (gH X N sc cl C s₀ H₀ ex) tg g/\sJ (gH X N sc cl C s₀ H₀ ex) fz tc/\PE (gH X N sc cl C s₀ H₀ ex) dz te
theorem j3 {M:Model}{E:aD->aH->Prop}{scope:fW}{globals:aC}{cl:wT}{func:Option aC}{code:aD}{ae:dW}{bi:aC}{Q:dW->aH->Prop}
  (hQ:Q (newEnv scope s.heap.objs.size globals (iG (s.heap.objs.size+1) scope.names cl) qual func code (aa ae) bi) { s with heap:=pushCells (s.heap.push { cls:=.type "dict",data:=.dict #[] }) scope.names }) :
  aL M A (newFunctionEnv scope globals cl [] qual func code (aa ae) bi) Q E s:=by
 simp only[newFunctionEnv,Option.isSome_some,if_true];refine aG (wpAny_alloc ?_);refine aG (wpAny_layCells _ (λname kind cells=>by cases hkc:kind==QL<;>simp[hkc]) _ _ _ _ ?_)
 rw[show({ s with heap:=s.heap.push { cls:=.type "dict",data:=.dict #[] } }:aH).heap.objs.size=s.heap.objs.size+1 from mO ..]
 exact aG (aM (aM hQ))
theorem Gx{RR:aD->aC->oP->aH->Prop}{E:aD->aH->Prop}(hc:X.calm=af)(S:CompScope X N cap sc)(hb:Block X N sc tg dz fz g tc te)
  {it:aC} {fp:aan} {tn:Nat->aU->Prop} {J:It} {Q:VK} (I:Inv X ac Z H s) (T:Turn X.prog X.w X.K tg J fp it tn) (st:tn 0 s.heap) (hf:∀ b∈fp,iR X ac H b)
  (q:GX cap J g tc te Z H Q)
  (hRR:∀ (D:aC) (s₀:aH) (H₀:Hp) (σ':St) (H':Hp) (s':aH),Inv X ac Z H₀ s₀->(∀ b∈fp,iR X ac H₀ b)->Inv (gH X N sc (jK sc X.env s₀.heap.objs.size) s₀.heap.objs.size s₀ H₀ fp) [] σ' H' s'->Q (.ref D) H' ->
   RR (.ref D) s₀.heap.objs.size (.ok .next) s') :
  aL (aP X.prog X.w) X.A (newList []) (λaq s₃=>aL (aP X.prog X.w) X.A (newFunctionEnv sc X.env.globals (hV X.env sc.names []) [] X.env.qual ab .none (aa X.env)) (λyu s₄=>
   jQ (aP X.prog X.w) X.A (.compStart (.ListComp dz [⟨tg,az,fz,0⟩] sc pos) 0 (.ref it) aq { yu with scope:=wL sc X.env }) (RR aq yu.locals) s₄) E s₃) E s:=by
 have hl:∀ b∈fp,b<s.heap.objs.size:=λb hb=>by
  obtain⟨o,e,_⟩:=T.obj 0 _ st b hb;exact bM e
 refine jN (j3 ?_);rw[13];have I0:Inv X ac Z (upd H s.heap.objs.size (.lst [])) { s with heap:=s.heap.push { cls:=.type "list",data:=.seq ([]:aam).toArray },toks:=s.toks }:=I.lnew .nil (by simp)
 obtain⟨W,⟨m0,w0⟩,jf⟩:=q s.heap.objs.size I.fresh;generalize O9:({ s with heap:=s.heap.push { cls:=.type "list",data:=.seq ([]:aam).toArray },toks:=s.toks }:aH)=s0 at I0;have hh:s.heap.push { cls:=.type "list",dict:=ab,data:=.seq ([]:aam).toArray }=s0.heap:=by rw[<-O9]
 have ht0:s0.toks=s.toks:=by rw[<-O9]
 have hg0:s0.gens=s.gens/\s0.drawn=s.drawn/\s0.os=s.os:=by rw[<-O9];exact⟨rfl,rfl,rfl⟩
 rw[hh];generalize wf:pushCells (s0.heap.push { cls:=.type "dict",data:=.dict #[] }) sc.names=h₁;have nw:CellsOk h₁ (s0.heap.objs.size+1) (iG (s0.heap.objs.size+1) sc.names []):=by rw[<-wf];exact YM sc s0.heap
 have wg:h₁.Ns s0.heap.objs.size λ_=>ab:=by rw[<-wf];exact(Heap.Ns.new s0.heap (.type "dict")).keeps (pushCells_keeps _ _)
 have yv:∀ b o,s.heap.get? b=aa o->s0.heap.get? b=aa o:=λb o e=>by rw[<-hh];exact bF _ e
 have yw:∀ b o,s0.heap.get? b=aa o->h₁.get? b=aa o:=λb o e=>by rw[<-wf];exact pushCells_keeps _ _ b o (bF _ e)
 have hl0:∀ b∈fp,b<s0.heap.objs.size:=λb hb=>by
  obtain⟨o,e,_⟩:=T.obj 0 _ st b hb;exact bM (yv b o e)
 have T1:∀ b∈fp,iR X ac (upd H s.heap.objs.size (.lst [])) b:=λb hb=>by
  refine⟨?_,(hf b hb).2⟩;rw[cM (cO (hl b hb))];exact(hf b hb).1
 have I1:Inv (gH X N sc (jK sc X.env s0.heap.objs.size) s0.heap.objs.size s0 (upd H s.heap.objs.size (.lst [])) fp) [] (qQ cap Z) (upd H s.heap.objs.size (.lst [])) { s0 with heap:=h₁,toks:=s.toks }:=
  Wn S I0 T1 hl0 wg yw nw
 obtain⟨pg,pf,pe⟩:=hb (jK sc X.env s0.heap.objs.size) s0.heap.objs.size s0 (upd H s.heap.objs.size (.lst [])) fp;have wj:=T.keep _ _ _ st λb hb o e=>yw b o (yv b o e)
 have jg:∀ {H':Hp},(∀ b∈fp,H' b=ab)->∀ b∈fp,iR (gH X N sc (jK sc X.env s0.heap.objs.size) s0.heap.objs.size s0 (upd H s.heap.objs.size (.lst [])) fp) [] H' b:=λhn b hb=>
  ⟨hn b hb,(I1.ok.exf b hb).1,I1.ok.exfs b hb,.inl hb,(I1.ok.exf b hb).2,λp hp=>by simp[gH] at hp⟩
 have yx:∀ s3:aH,s3={ s0 with heap:=h₁,toks:=s.toks } ->
   jQ (aP X.prog X.w) X.A (.compLoop (.ListComp dz [⟨tg,az,fz,0⟩] sc pos) 0 (.ref it) (.ref s.heap.objs.size) (compEnvC sc (jK sc X.env s0.heap.objs.size) s0.heap.objs.size X.env)) (RR (.ref s.heap.objs.size) s0.heap.objs.size) s3:=by
  rintro s3 rfl;refine Zp (λn s'=>∃ i ys σ' H',Inv (gH X N sc (jK sc X.env s0.heap.objs.size) s0.heap.objs.size s0 (upd H s.heap.objs.size (.lst [])) fp) [] σ' H' s'/\tn i s'.heap/\(∀ b∈fp,H' b=ab)/\W i n ys σ' H') ?_ m0
   ⟨0,[],qQ cap Z,_,I1,wj,λb hb=>(T1 b hb).1,w0⟩
  rintro n s3 ⟨i,ys,σ3,H3,I3,ym,yn,w3⟩;obtain⟨hD,h3⟩:=jf i n ys σ3 H3 w3;rcases h3 with⟨stop,qn⟩|⟨go,ax,M,hM,step⟩
  .refine bb (T.done (gH X N sc (jK sc X.env s0.heap.objs.size) s0.heap.objs.size s0 (upd H s.heap.objs.size (.lst [])) fp) rfl rfl rfl hc i [] s3 σ3 H3 (λ_ _=>False) I3 (jg yn) ym stop) λr s4 gh=>?_
   obtain⟨hr,I4⟩:=gh;subst hr;exact hRR _ s0 _ σ3 H3 s4 I0 T1 I4 qn
  .refine bb (T.item (gH X N sc (jK sc X.env s0.heap.objs.size) s0.heap.objs.size s0 (upd H s.heap.objs.size (.lst [])) fp) rfl rfl rfl hc i [] s3 σ3 H3 (λ_ _=>False) I3 (jg yn) ym go) λr s4 gh=>?_
   obtain⟨u,hr,h4⟩:=gh;subst hr;refine bb h4 λ_ s5 gh=>?_
   obtain⟨x,H5,I5,r5,y5,vy,S9⟩:=gh;have Tk:=I5.pinned (jg S9) (T.obj _ _ vy);refine bb (pg _ s5 σ3 H5 x u _ Tk r5 (step x H5 y5)) λ_ s6 gh=>?_
   obtain⟨σ6,H6,I6,q6⟩:=gh;refine bb (pf _ s6 σ6 H6 _ I6 q6) λb s7 gh=>?_
   obtain⟨H7,I7,q7⟩:=gh;have again:∀ {s8:aH} {H8:Hp} {zs:aai},Inv (gH X N sc (jK sc X.env s0.heap.objs.size) s0.heap.objs.size s0 (upd H s.heap.objs.size (.lst [])) fp) ([]++xU fp s5.heap) σ6 H8 s8->M zs σ6 H8 ->
     ∃ m,m<n/\∃ i ys σ' H',Inv (gH X N sc (jK sc X.env s0.heap.objs.size) s0.heap.objs.size s0 (upd H s.heap.objs.size (.lst [])) fp) [] σ' H' s8/\tn i s8.heap/\(∀ b∈fp,H' b=ab)/\W i m ys σ' H':=λ{s8 H8 zs} I8 w8=>by
    obtain⟨m',hm,w8⟩:=hM _ _ _ w8;refine⟨m',hm,i+1,zs,σ6,H8,I8.unpinned,T.keep _ _ _ vy λb hb o e=>(I8.pin (b,o) (oT _ (oT _ (EU hb e)))).1,λb hb=>?_,w8⟩
    obtain⟨o,e,d⟩:=T.obj _ _ vy b hb;exact(I8.pin (b,o) (oT _ (oT _ (EU hb e)))).2.1
   cases b with
   |false=>
    rw[if_neg kX] at q7 ⊢;exact again I7 q7
   |true=>
    rw[if_pos rfl] at q7 ⊢;refine bb (pe _ s7 σ6 H7 _ I7 q7) λv s8 gh=>?_
    obtain⟨y,H8,I8,r8,hD8,w8⟩:=gh;refine bb (Ak _ s8 σ6 H8 (.ref s.heap.objs.size) [y] (.ref s.heap.objs.size) [v] (λ_ H9=>H9=upd H8 s.heap.objs.size (.lst (ys++[y]))) I8 rfl (.cons r8 .nil) ⟨_,ys,y,rfl,rfl,hD8,ax,rfl⟩) λ_ s9 gh=>?_
    obtain⟨_,H9,I9,_,e9⟩:=gh;subst e9;exact again I9 w8
 have fin:=codeAny_compStart_list (yx _ rfl) (T.self X.A 0 _ _ _ wj (yx _ rfl));have e3:({ s with heap:=h₁ }:aH)={ s0 with heap:=h₁,toks:=s.toks }:=by
  rw[<-O9]
 rw[<-e3] at fin;exact fin
theorem TJ (hc:X.calm=af)(S:CompScope X N cap sc)(hi:PI X tg az wi)(hb:Block X N sc tg dz fz g tc te)(hs:∀ x,oM az X.env x=pure x:=by intro _;rfl) :
  PE X (.ListComp dz [⟨tg,az,fz,0⟩] sc pos) (X9 cap wi g tc te):=by
 rw[9];rw[eval_ListComp];refine wpAny_comprehension_free rfl hs (Ef (S.cells I.ok)) S.kind S.nm (bb (hi ac s Z H _ I h) λv s1 h1=>bb h1 λO6 s2 h2=>?_)
 obtain⟨it,fp,tn,J,H2,e,I2,T,og,f2,q2⟩:=h2;subst e;refine Gx hc S hb I2 T og f2 q2 ?_;intro D s₀ H₀ σ' H' s' I0 f0 I' qD;obtain⟨m,hn,_⟩:=id I'.loc;have IX:=comp_back I0 f0 I';refine⟨m,hn,λh' yy=>⟨.ref D,H',?_,rfl,qD⟩⟩
 exact IX.turned (λb o hb e=>(yy.2 b hb).trans e) I'.free (lT I0.lt) (.inr I0.sz) (λx c e z=>by
  obtain⟨v,oc,h1,_⟩:=I0.cell x c e;exact absurd (bM h1) (by rw[z];exact nJ _)) λp hp z=>by
   have h1:=(I0.pin p hp).1;exact absurd (bM h1) (by rw[z];exact nJ _)
theorem Wp(hc:X.calm=af)(hN:X.N.Nodup)(uu:X.N[i]?=aa x)(hx:jF X.env.scope x)(S:CompScope X N cap sc)(hi:PI X tg az wi)(hb:Block X N sc tg dz fz g tc te)
  (ni:kQ (.ListComp dz [⟨tg,az,fz,0⟩] sc pos) (aa (.Name x px)) ij.line X.env=pure af:=by rfl)
  (hs:∀ x,oM az X.env x=pure x:=by intro _;rfl) (hf:Fn X x:=by exact jI) :
  PS X (.Assign [.Name x px] (.ListComp dz [⟨tg,az,fz,0⟩] sc pos) ij) (xT (X9 cap wi g tc te) (sU i)):=by
 intro ac s Z H D I h;rw[exec_Assign_Name_used _ _ _ _ ni];refine aG (OO (aG ?_));refine aG (kP (wpAny_comprehension_free rfl hs (Ef (S.cells I.ok)) S.kind S.nm
  (bb (hi ac s Z H _ I h) λv s1 h1=>bb h1 λO6 s2 h2=>?_)) (λ_ s' hq=>aM (aM hq)) λ_ _ e=>e)
 obtain⟨it,fp,tn,J,H2,e,I2,T,og,f2,q2⟩:=h2;subst e;refine Gx hc S hb I2 T og f2 q2 ?_;intro D' s₀ H₀ σ' H' s' I0 f0 I' qD;obtain⟨m,hn,_⟩:=id I'.loc;have IX:=comp_back I0 f0 I';have pj:∀ x c,X.env.cells.lookup x=aa c->c≠s₀.heap.objs.size:=λx c e z=>by
  obtain⟨v,oc,h1,_⟩:=I0.cell x c e;exact absurd (bM h1) (by rw[z];exact nJ _)
 refine wpAny_assign_Name (ZN IX hN uu hx (show RelV (.ref D') (.ref D') from rfl) (λs3 I3 ch=>?_) hf)
 obtain⟨a,sb,ha⟩:=ch;have df:s₀.heap.objs.size≠a:=by
  rcases ha with z|z
  .rw[z];exact lT I0.lt
  .exact λq=>pj x a z q.symm
 refine⟨m,Heap.Ns.sameBut hn sb df,λh' yy=>⟨_,H',?_,qD⟩⟩
 exact I3.turned (λb o hb e=>(yy.2 b hb).trans e) I'.free (lT I0.lt) (.inr I0.sz) pj λp hp z=>by
  have h1:=(I0.pin p hp).1;exact absurd (bM h1) (by rw[z];exact nJ _)
end
noncomputable def JG (out:aac)(XN N:aak)(cap:tz)(ns:aac):Bool:=
 ns.all (λy=>y.2 != .cell||ns.lookup y.1==aa .cell)&&ns.all (λy=>y.2 != .local||ns.lookup y.1==aa .local)&&ns.all (λy=>y.2 != .free||out.lookup y.1==aa .cell||out.lookup y.1==aa .free) &&
 cap.length==N.length&&(cap.zip N).all (λp=>match p.1 with|none=>af|some j=>XN[j]?==aa p.2&&ns.lookup p.2==aa .free)
theorem tV{out:aac}{XN:aak}(h1:X.env.scope.names=out)(h2:X.N=XN)(yz:JG out XN N cap sc.names=af)(hk:sc.kind=.function):CompScope X N cap sc:=by
 unfold JG at yz;simp only[RM,cY,bne_iff_ne,ne_eq,Bool.or_eq_true,beq_iff_eq] at yz;obtain⟨⟨⟨⟨c1,c2⟩,c3⟩,c4⟩,c5⟩:=yz;refine⟨hk,λy hy e=>(c1 y hy).elim (λq=>absurd e q) id,λy hy e=>?_,λy hy e=>?_,c4,λi j e=>?_⟩
 .rcases c2 y hy with q|q
  .exact absurd e q
  .exact q
 .rw[h1];rcases c3 y hy with(q|q)|q
  .exact absurd e q
  .exact .inl q
  .exact .inr q
 .have hi:=(cK.1 e).1;have uu:i<N.length:=()
  have hm:(cap[i],N[i])∈cap.zip N:=by
   have:(cap.zip N)[i]?=aa (cap[i],N[i]):=by
    rw[List.getElem?_zip_eq_some];exact⟨fY hi,fY uu⟩
   exact eT this
  have q:=c5 _ hm;have ec:cap[i]=aa j:=by
   rw[fY hi] at e;exact dY e
  rw[ec] at q;simp only[RM,beq_iff_eq] at q;exact⟨N[i],fY uu,by rw[h2];exact q.1,q.2⟩
section
variable {g:TG}{tc:TT}{te:TE}
theorem Mf {J:It}(Pv:aC->Nat->aai->St->Hp->Prop)(h0:∀ D,H D=ab->Pv D 0 [] (qQ cap Z) (upd H D (.lst [])))
  (hD:∀ D i ys σ' H',i<=n->Pv D i ys σ' H'->H' D=aa (.lst ys)/\ys.length<=i)
  (hgo:∀ D i ys σ' H',i<n->Pv D i ys σ' H'->J.go i H') (dm:∀ D ys σ' H',Pv D n ys σ' H'->J.stop n H') (hn:n<=sizeLine)
  (hs:∀ D i ys σ' H' x H2,H D=ab->i<n->Pv D i ys σ' H'->J.yld i H' x H2->g x σ' H2 λσ3 H3=>tc σ3 H3 λb H4=>
   if b=af then te σ3 H4 λy H5=>H5 D=aa (.lst ys)/\Pv D (i+1) (ys++[y]) σ3 (upd H5 D (.lst (ys++[y]))) else Pv D (i+1) ys σ3 H4)
  (hd:∀ D ys σ' H',H D=ab->Pv D n ys σ' H'->Q (.ref D) H'):GX cap J g tc te Z H Q:=by
 intro D nD;refine⟨λi m ys σ' H'=>m=n-i/\i<=n/\Pv D i ys σ' H',⟨n,by simp,eG _,h0 D nD⟩,?_⟩
 rintro i m ys σ' H' ⟨rfl,hi,p⟩;obtain⟨d1,d2⟩:=hD D i ys σ' H' hi p;refine⟨d1,?_⟩;by_cases bm:i<n
 .exact .inr ⟨hgo D i ys σ' H' bm p,(),Pv D (i+1),λzs σ2 H2 q=>⟨n-(i+1),(),rfl,bm,q⟩,λx H2 y=>hs D i ys σ' H' x H2 nD bm p y⟩
 .have e:i=n:=()
  subst e;exact .inl ⟨dm D ys σ' H' p,hd D ys σ' H' nD p⟩
end
abbrev Ext (H H':Hp):Prop:=∀ b o,H b=aa o->H' b=aa o
theorem Ext.refl:Ext H H:=λ_ _ e=>e
theorem Ext.trans {H2:Hp}(a:Ext H H1)(b:Ext H1 H2):Ext H H2:=λx o e=>b x o (a x o e)
theorem Ext.new{p:aC}(n:H p=ab):Ext H (upd H p o):=λb u e=>by
 rw[cM (iP e n)];exact e
theorem Ext.rd(x:Ext H H'){u:HO}(r:Rd H a u):Rd H' a u:=by
 rcases r with r|⟨o,r⟩
 .exact .inl (x _ _ r)
 .exact .inr ⟨o,x _ _ r⟩
theorem Ext.sqL(x:Ext H H')(h:SqL K H a xs):SqL K H' a xs:=h.imp x.rd id
theorem Ext.none(x:Ext H H')(h:H' a=Option.none):H a=Option.none:=by
 cases e:H a with
 |none=>rfl
 |some o=>rw[x a o e] at h;cases h
open Classical in
def hid (H:Hp)(P:aC->Prop):Hp:=λa=>if P a then ab else H a
theorem Abr{P:aC->Prop}:hid H P a=aa o ↔ ¬ P a/\H a=aa o:=by
 unfold hid;by_cases h:P a<;>simp[h]
theorem eO{P:aC->Prop}(n:¬ P a)(e:H a=aa o):hid H P a=aa o:=Abr.2 ⟨n,e⟩
theorem Aal{P:aC->Prop}:Ext (hid H P) H:=λ_ _ e=>(Abr.1 e).2
theorem cN{P:aC->Prop}(x:Ext H H'):Ext (hid H P) (hid H' P):=λb o e=>by
 obtain⟨n,e⟩:=Abr.1 e;exact eO n (x b o e)
theorem gR{P P':aC->Prop}(s:∀ a,P' a->P a):Ext (hid H P) (hid H P'):=λb o e=>by
 obtain⟨n,e⟩:=Abr.1 e;exact eO (λq=>n (s b q)) e
abbrev DQ:=(Nat×ld) ⊕ (Nat×li)
noncomputable def dO:DQ->HO
 |.inl kvs=>.dK kvs.1 kvs.2
 |.inr ts=>.dT ts.1 ts.2
def Hid (P:aC->Prop)(H:Hp):Prop:=∀ a,P a->(∃ xs,H a=aa (.lst xs))\/∃ q:DQ,H a=aa (dO q)
theorem Hid.ext {P:aC->Prop}(h:Hid P H)(x:Ext H H'):Hid P H':=λa p=>(h a p).imp (λ⟨xs,e⟩=>⟨xs,x _ _ e⟩) λ⟨xs,e⟩=>⟨xs,x _ _ e⟩
theorem Hid.new {P:aC->Prop}(h:Hid P H)(n:H a=ab):¬ P a:=λp=>by
 rcases h a p with⟨xs,e⟩|⟨xs,e⟩<;>rw[n] at e<;>cases e
abbrev cn (P:aC->Prop)(F:aan):aC->Prop:=λa=>P a\/a∈F
theorem Ib {P:aC->Prop}:cn P []=P:=by
 funext a;simp[cn]
noncomputable def kD:aI->aA
 |.inl i=>.int i
 |.inr x=>.str x
def RU (a:aC)(kvs:Nat×aaa):HO:=.ext λh=>kvs.2.length<=sizeLine/\(a==iY)=ah/\∃ o es,h.get? a=aa o/\o.ExactDict/\o.data=.dict es kvs.1/\dG (λ(p:V×V) (e:qP)=>RelV p.1 e.key/\RelV p.2 e.val) kvs.2 es.toList
mutual
def Abj (K:aK)(H:Hp):aA->V->Prop
 |.none,v=>v=.non
 |.bool b,v=>v=.bl b
 |.int i,v=>v=.int i
 |.str x,v=>v=.str x/\cH (.str x)=af
 |.list ds,v=>∃ a xs,v=.ref a/\SqL K H a xs/\Aak K H ds xs
 |.tuple ds,v=>∃ a xs,v=.ref a/\H a=aa (.tup xs)/\Aak K H ds xs
 |.dict kds,v=>∃ a,v=.ref a/\((∃ kvs:Nat×ld,H a=aa (.dK kvs.1 kvs.2)/\Abm K H kds kvs.2)\/(∃ ts:Nat×li,H a=aa (.dT ts.1 ts.2)/\Azr K H kds ts.2)\/∃ xs,H a=aa (RU a xs)/\A4q K H kds xs.2)
def Aak (K:aK)(H:Hp):aah->aai->Prop
 |[],xs=>xs=[]
 |d::ds,xs=>∃ x r,xs=x::r/\Abj K H d x/\Aak K H ds r
def Abm (K:aK)(H:Hp):be->ld->Prop
 |[],xs=>xs=[]
 |(k,d)::ds,xs=>∃ k' x r,xs=(k',x)::r/\k=kD k'/\Abj K H d x/\Abm K H ds r
def Acg (K:aK)(H:Hp):be->li->Prop
 |[],xs=>xs=[]
 |(k,d)::ds,xs=>∃ k' x r,xs=(k',x)::r/\(k=.tuple k'/\bR k'=af)/\Abj K H d x/\Acg K H ds r
def Azr (K:aK)(H:Hp):be->li->Prop
 |[],_=>False
 |(k,_)::ds,xs=>k=.none/\Acg K H ds xs
def A4q (K:aK)(H:Hp):be->aaa->Prop
 |[],_=>False
 |(k,m)::ds,xs=>k=.none/\ds=[(.none,.none)]/\Atj K H m xs
def Atj (K:aK)(H:Hp):aA->aaa->Prop
 |.list es,xs=>Ah3 K H es xs
 |_,_=>False
def Ah3 (K:aK)(H:Hp):aah->aaa->Prop
 |[],xs=>xs=[]
 |d::ds,xs=>∃ x r,xs=x::r/\Ayh K H d x/\Ah3 K H ds r
def Ayh (K:aK)(H:Hp):aA->V×V->Prop
 |.tuple ds,x=>Aak K H ds [x.1,x.2]
 |_,_=>False
end
noncomputable def dg:be->Bool
 |(.none,_)::_=>ah
 |_=>af
theorem Abq:Abj K H .none v↔v=.non:=by simp[Abj]
theorem Aaw {b:Bool}:Abj K H (.bool b) v↔v=.bl b:=by simp[Abj]
theorem Aah {b:Int}:Abj K H (.int b) v↔v=.int b:=by simp[Abj]
theorem Aa0 {b:aE}:Abj K H (.str b) v↔v=.str b/\cH (.str b)=af:=by simp only[Abj]
theorem Aa8:Abj K H (.list ds) v ↔ ∃ a xs,v=.ref a/\SqL K H a xs/\Aak K H ds xs:=by simp only[Abj]
theorem Aap:Abj K H (.tuple ds) v ↔ ∃ a xs,v=.ref a/\H a=aa (.tup xs)/\Aak K H ds xs:=by simp only[Abj]
theorem Aco {ds:be}:Abj K H (.dict ds) v ↔ ∃ a,v=.ref a/\((∃ kvs:Nat×ld,H a=aa (.dK kvs.1 kvs.2)/\Abm K H ds kvs.2)\/(∃ ts:Nat×li,H a=aa (.dT ts.1 ts.2)/\Azr K H ds ts.2)\/∃ xs,H a=aa (RU a xs)/\A4q K H ds xs.2):=by simp only[Abj]
theorem Agk {k:aA}{ds:be}{xs:aaa}:A4q K H ((k,m)::ds) xs↔k=.none/\ds=[(.none,.none)]/\Atj K H m xs:=by simp only[A4q]
theorem Xd{xs:aaa}(h:Atj K H m xs):∃ es,m=.list es/\Ah3 K H es xs:=by
 cases m with
 |list es=>exact⟨es,rfl,by simpa only[Atj] using h⟩
 |_=>simp[Atj] at h
theorem Av5 {xs:aaa}:Ah3 K H [] xs↔xs=[]:=by simp[Ah3]
theorem Asd{xs:aaa}:Ah3 K H (d::ds) xs ↔ ∃ x r,xs=x::r/\Ayh K H d x/\Ah3 K H ds r:=by simp only[Ah3]
theorem LL {ds:be}{xs:aaa}(h:A4q K H ds xs):∃ es,ds=[(.none,.list es),(.none,.none)]/\Ah3 K H es xs:=by
 cases ds with
 |nil=>simp[A4q] at h
 |cons p r=>
  obtain⟨k,m⟩:=p;obtain⟨rfl,rfl,h1⟩:=Agk.1 h;obtain⟨es,rfl,h2⟩:=Xd h1;exact⟨es,rfl,h2⟩
theorem Ade {xs:li}:Acg K H [] xs↔xs=[]:=by simp[Acg]
theorem Ab7 {k:aA}{ds:be}{xs:li}:Acg K H ((k,d)::ds) xs ↔ ∃ k' x r,xs=(k',x)::r/\(k=.tuple k'/\bR k'=af)/\Abj K H d x/\Acg K H ds r:=by simp only[Acg]
theorem Ad5 {k:aA}{ds:be}{xs:li}:Azr K H ((k,m)::ds) xs↔k=.none/\Acg K H ds xs:=by simp only[Azr]
theorem Wy {ds:be}{xs:li}(hk:dg ds=af):¬ Azr K H ds xs:=by
 cases ds with
 |nil=>simp[Azr]
 |cons p r=>
  obtain⟨k,d⟩:=p;intro h;rw[(Ad5.1 h).1] at hk;simp[dg] at hk
theorem oB {ds:be}(hk:dg ds=af):Abj K H (.dict ds) v ↔ ∃ a,∃ kvs:Nat×ld,v=.ref a/\H a=aa (.dK kvs.1 kvs.2)/\Abm K H ds kvs.2:=by
 rw[Aco];constructor
 .rintro⟨a,e,⟨kvs,h,r⟩|⟨ts,h,r⟩|⟨xs,h,r⟩⟩
  .exact⟨a,kvs,e,h,r⟩
  .exact absurd r (Wy hk)
  .obtain⟨es,rfl,_⟩:=LL r;simp[dg] at hk
 .rintro⟨a,kvs,e,h,r⟩;exact⟨a,e,.inl ⟨kvs,h,r⟩⟩
theorem Ba {ds:be}{kvs:Nat×ld}(e:v=.ref a)(h:H a=aa (.dK kvs.1 kvs.2))(r:Abm K H ds kvs.2):Abj K H (.dict ds) v:=Aco.2 ⟨a,e,.inl ⟨kvs,h,r⟩⟩
theorem Aai:Aak K H [] xs↔xs=[]:=by simp[Aak]
theorem Aae:Aak K H (d::ds) xs ↔ ∃ x r,xs=x::r/\Abj K H d x/\Aak K H ds r:=by simp only[Aak]
theorem Abi {xs:ld}:Abm K H [] xs↔xs=[]:=by simp[Abm]
theorem Aa7 {k:aA}{ds:be}{xs:ld}:Abm K H ((k,d)::ds) xs ↔ ∃ k' x r,xs=(k',x)::r/\k=kD k'/\Abj K H d x/\Abm K H ds r:=by simp only[Abm]
theorem LB{ds:be}(hm:∀ es,m ≠ .list es:=by intro _ z;cases z):Abj K H (.dict ((.none,m)::ds)) v ↔ ∃ a,∃ ts:Nat×li,v=.ref a/\H a=aa (.dT ts.1 ts.2)/\Acg K H ds ts.2:=by
 rw[Aco];constructor
 .rintro⟨a,e,⟨kvs,h,r⟩|⟨ts,h,r⟩|⟨xs,h,r⟩⟩
  .obtain⟨k',_,_,_,ek,_⟩:=Aa7.1 r;cases k'<;>simp[kD] at ek
  .exact⟨a,ts,e,h,(Ad5.1 r).2⟩
  .obtain⟨es,z,_⟩:=LL r;cases z;exact absurd rfl (hm es)
 .rintro⟨a,ts,e,h,r⟩;exact⟨a,e,.inr (.inl ⟨ts,h,Ad5.2 ⟨rfl,r⟩⟩)⟩
mutual
theorem Abj.ext(x:Ext H H'):∀ {d:aA} {v:V},Abj K H d v->Abj K H' d v
 |.none,_,h=>Abq.2 (Abq.1 h)
 |.bool _,_,h=>Aaw.2 (Aaw.1 h)
 |.int _,_,h=>Aah.2 (Aah.1 h)
 |.str _,_,h=>Aa0.2 (Aa0.1 h)
 |.list ds,_,h=>by
  obtain⟨a,xs,e,s,r⟩:=Aa8.1 h;exact Aa8.2 ⟨a,xs,e,x.sqL s,Aak.ext x r⟩
 |.tuple ds,_,h=>by
  obtain⟨a,xs,e,s,r⟩:=Aap.1 h;exact Aap.2 ⟨a,xs,e,x _ _ s,Aak.ext x r⟩
 |.dict ds,_,h=>by
  obtain⟨a,e,⟨kvs,r,q⟩|⟨ts,r,q⟩|⟨xs,r,q⟩⟩:=Aco.1 h
  .exact Aco.2 ⟨a,e,.inl ⟨kvs,x _ _ r,Abm.ext x q⟩⟩
  .exact Aco.2 ⟨a,e,.inr (.inl ⟨ts,x _ _ r,Azr.ext x q⟩)⟩
  .exact Aco.2 ⟨a,e,.inr (.inr ⟨xs,x _ _ r,A4q.ext x q⟩)⟩
theorem Aak.ext(x:Ext H H'):∀ {ds:aah} {vs:aai},Aak K H ds vs->Aak K H' ds vs
 |[],_,h=>Aai.2 (Aai.1 h)
 |d::ds,_,h=>by
  obtain⟨y,r,e,h1,h2⟩:=Aae.1 h;exact Aae.2 ⟨y,r,e,Abj.ext x h1,Aak.ext x h2⟩
theorem Abm.ext(x:Ext H H'):∀ {ds:be} {vs:ld},Abm K H ds vs->Abm K H' ds vs
 |[],_,h=>Abi.2 (Abi.1 h)
 |(k,d)::ds,_,h=>by
  obtain⟨k',y,r,e,ek,h1,h2⟩:=Aa7.1 h;exact Aa7.2 ⟨k',y,r,e,ek,Abj.ext x h1,Abm.ext x h2⟩
theorem Acg.ext(x:Ext H H'):∀ {ds:be} {vs:li},Acg K H ds vs->Acg K H' ds vs
 |[],_,h=>Ade.2 (Ade.1 h)
 |(k,d)::ds,_,h=>by
  obtain⟨k',y,r,e,ek,h1,h2⟩:=Ab7.1 h;exact Ab7.2 ⟨k',y,r,e,ek,Abj.ext x h1,Acg.ext x h2⟩
theorem Azr.ext(x:Ext H H'):∀ {ds:be} {vs:li},Azr K H ds vs->Azr K H' ds vs
 |[],_,h=>absurd h (by simp[Azr])
 |(k,d)::ds,_,h=>Ad5.2 ⟨(Ad5.1 h).1,Acg.ext x (Ad5.1 h).2⟩
theorem A4q.ext(x:Ext H H'):∀ {ds:be} {vs:aaa},A4q K H ds vs->A4q K H' ds vs
 |[],_,h=>absurd h (by simp[A4q])
 |(k,d)::ds,_,h=>Agk.2 ⟨(Agk.1 h).1,(Agk.1 h).2.1,Atj.ext x (Agk.1 h).2.2⟩
theorem Atj.ext(x:Ext H H'):∀ {d:aA} {vs:aaa},Atj K H d vs->Atj K H' d vs
 |.list es,_,h=>by
  rw[Atj] at h ⊢;exact Ah3.ext x h
 |.none,_,h=>absurd h (by simp[Atj])
 |.bool _,_,h=>absurd h (by simp[Atj])
 |.int _,_,h=>absurd h (by simp[Atj])
 |.str _,_,h=>absurd h (by simp[Atj])
 |.tuple _,_,h=>absurd h (by simp[Atj])
 |.dict _,_,h=>absurd h (by simp[Atj])
theorem Ah3.ext(x:Ext H H'):∀ {ds:aah} {vs:aaa},Ah3 K H ds vs->Ah3 K H' ds vs
 |[],_,h=>Av5.2 (Av5.1 h)
 |d::ds,_,h=>by
  obtain⟨y,r,e,h1,h2⟩:=Asd.1 h;exact Asd.2 ⟨y,r,e,Ayh.ext x h1,Ah3.ext x h2⟩
theorem Ayh.ext(x:Ext H H'):∀ {d:aA} {y:V×V},Ayh K H d y->Ayh K H' d y
 |.tuple ds,_,h=>by
  rw[Ayh] at h ⊢;exact Aak.ext x h
 |.none,_,h=>absurd h (by simp[Ayh])
 |.bool _,_,h=>absurd h (by simp[Ayh])
 |.int _,_,h=>absurd h (by simp[Ayh])
 |.str _,_,h=>absurd h (by simp[Ayh])
 |.list _,_,h=>absurd h (by simp[Ayh])
 |.dict _,_,h=>absurd h (by simp[Ayh])
end
theorem Aak.length:∀ {ds:aah} {vs:aai},Aak K H ds vs->vs.length=ds.length
 |[],_,h=>by rw[Aai.1 h];rfl
 |d::ds,_,h=>by
  obtain⟨y,r,e,h1,h2⟩:=Aae.1 h;rw[e,fA,fA,Aak.length h2]
theorem Aak.get:∀ {ds:aah} {vs:aai} {i:Nat} {d:aA},Aak K H ds vs->ds[i]?=aa d->∃ v,vs[i]?=aa v/\Abj K H d v
 |[],_,_,_,h,e=>by simp at e
 |d::ds,_,0,d',h,e=>by
  obtain⟨y,r,rfl,h1,h2⟩:=Aae.1 h;have:d=d':=by simpa using e
  rw[12];exact⟨y,rfl,h1⟩
 |d::ds,_,i+1,d',h,e=>by
  obtain⟨y,r,rfl,h1,h2⟩:=Aae.1 h;obtain⟨v,h3,h4⟩:=Aak.get h2 (by simpa using e)
  exact⟨v,by simpa using h3,h4⟩
theorem Aak.append:∀ {ds es:aah} {vs ws:aai},Aak K H ds vs->Aak K H es ws->Aak K H (ds++es) (vs++ws)
 |[],es,_,_,h,g=>by rw[Aai.1 h];exact g
 |d::ds,es,_,_,h,g=>by
  obtain⟨y,r,rfl,h1,h2⟩:=Aae.1 h;exact Aae.2 ⟨y,_,rfl,h1,Aak.append h2 g⟩
theorem Aak.snoc{vs:aai}(h:Aak K H ds vs)(g:Abj K H d v):Aak K H (ds++[d]) (vs++[v]):=
 h.append (Aae.2 ⟨v,[],rfl,g,Aai.2 rfl⟩)
theorem Aak.drop:∀ {ds:aah} {vs:aai} (n:Nat),Aak K H ds vs->Aak K H (ds.drop n) (vs.drop n)
 |_,_,0,h=>h
 |[],_,n+1,h=>by rw[Aai.1 h];exact Aai.2 rfl
 |d::ds,_,n+1,h=>by
  obtain⟨y,r,rfl,h1,h2⟩:=Aae.1 h;exact Aak.drop n h2
theorem Aak.take:∀ {ds:aah} {vs:aai} (n:Nat),Aak K H ds vs->Aak K H (ds.take n) (vs.take n)
 |_,_,0,h=>Aai.2 rfl
 |[],_,n+1,h=>by rw[Aai.1 h];exact Aai.2 rfl
 |d::ds,_,n+1,h=>by
  obtain⟨y,r,rfl,h1,h2⟩:=Aae.1 h;exact Aae.2 ⟨y,_,rfl,h1,Aak.take n h2⟩
theorem Aak.set(g:Abj K H d v):∀ {ds:aah} {vs:aai} (n:Nat),Aak K H ds vs->Aak K H (ds.set n d) (vs.set n v)
 |[],_,n,h=>by rw[Aai.1 h];exact Aai.2 rfl
 |e::ds,_,0,h=>by
  obtain⟨y,r,rfl,h1,h2⟩:=Aae.1 h;exact Aae.2 ⟨v,r,rfl,g,h2⟩
 |e::ds,_,n+1,h=>by
  obtain⟨y,r,rfl,h1,h2⟩:=Aae.1 h;exact Aae.2 ⟨y,_,rfl,h1,Aak.set g n h2⟩
theorem LU:∀ ns:aal,Aak K H (ns.map aT) (ns.map V.int)
 |[]=>Aai.2 rfl
 |n::r=>Aae.2 ⟨_,_,rfl,Aah.2 rfl,LU r⟩
theorem Yv(h:Abj K H (kD k) v):v=kV k:=by
 cases k with
 |inl i=>exact Aah.1 h
 |inr x=>exact(Aa0.1 h).1
mutual
theorem Abj.key {K:aK}{H:Hp}:∀ (d:aA) {v:V},bN d=af->Abj K H d v->Ajx H d v
 |.int i,v,_,h=>by simpa [Ajx] using Aah.1 h
 |.str i,v,_,h=>by simpa [Ajx] using(Aa0.1 h).1
 |.tuple ds,v,k,h=>by
  obtain⟨a,xs,e,s,r⟩:=Aap.1 h;simp only[Ajx];exact⟨a,xs,e,s,Aak.keys ds (by simpa [bN] using k) r⟩
 |.none,v,k,_=>by simp[bN] at k
 |.bool _,v,k,_=>by simp[bN] at k
 |.list _,v,k,_=>by simp[bN] at k
 |.dict _,v,k,_=>by simp[bN] at k
theorem Aak.keys {K:aK}{H:Hp}:∀ (ds:aah) {vs:aai},bR ds=af->Aak K H ds vs->Agx H ds vs
 |[],vs,_,h=>by simpa [Agx] using Aai.1 h
 |d::ds,vs,k,h=>by
  have k':bN d=af/\bR ds=af:=by simpa [bR] using k
  obtain⟨y,r,e,h1,h2⟩:=Aae.1 h;simp only[Agx];exact⟨y,r,e,Abj.key d k'.1 h1,Aak.keys ds k'.2 h2⟩
end
mutual
def fC:aA->Bool
 |.list _=>ah
 |.dict _=>ah
 |.tuple ds=>nW ds
 |_=>af
def nW:aah->Bool
 |[]=>af
 |d::r=>fC d&&nW r
end
theorem Bx:∀ ds:aah,nW ds=ds.all fC
 |[]=>by simp[nW]
 |d::r=>by simp[nW,Bx r]
mutual
theorem Abj.flat(x:∀ a xs,H a=aa (.tup xs)->H' a=aa (.tup xs)):∀ (d:aA) {v:V},fC d=af->Abj K H d v->Abj K H' d v
 |.none,_,_,h=>Abq.2 (Abq.1 h)
 |.bool _,_,_,h=>Aaw.2 (Aaw.1 h)
 |.int _,_,_,h=>Aah.2 (Aah.1 h)
 |.str _,_,_,h=>Aa0.2 (Aa0.1 h)
 |.tuple ds,_,f,h=>by
  obtain⟨a,xs,e,s,r⟩:=Aap.1 h;exact Aap.2 ⟨a,xs,e,x _ _ s,Aak.flat x ds (by simpa [fC] using f) r⟩
 |.list _,_,f,_=>by simp[fC] at f
 |.dict _,_,f,_=>by simp[fC] at f
theorem Aak.flat(x:∀ a xs,H a=aa (.tup xs)->H' a=aa (.tup xs)):∀ (ds:aah) {vs:aai},nW ds=af->Aak K H ds vs->Aak K H' ds vs
 |[],_,_,h=>Aai.2 (Aai.1 h)
 |d::ds,_,f,h=>by
  have f':fC d=af/\nW ds=af:=by simpa [nW] using f
  obtain⟨y,r,e,h1,h2⟩:=Aae.1 h;exact Aae.2 ⟨y,r,e,Abj.flat x d f'.1 h1,Aak.flat x ds f'.2 h2⟩
end
inductive All3 {α β γ:Type}(R:α->β->γ->Prop):List α->List β->List γ->Prop
 |nil:All3 R [] [] []
 |cons {a b c as bs cs}:R a b c->All3 R as bs cs->All3 R (a::as) (b::bs) (c::cs)
theorem All3.imp {α β γ:Type}{R S:α->β->γ->Prop}:∀ {as:List α} {bs:List β} {cs:List γ},All3 R as bs cs->(∀ a b c,c∈cs->R a b c->S a b c)->All3 S as bs cs:=by
 intro as bs cs h;induction h with
 |nil=>exact λ_=>.nil
 |cons h _ ih=>exact λf=>.cons (f _ _ _ bE h) (ih λa b c m=>f a b c (bL _ m))
def Afh (K:aK)(B H:Hp):Nat->aA->V->aan->Prop
 |0,d,v,F=>F=[]/\Abj K B d v
 |n+1,d,v,F=>match d with
  |.list ds=>∃ p xs Fs,v=.ref p/\H p=aa (.lst xs)/\F=p::Fs.flatten/\All3 (Afh K B H n) ds xs Fs
  |.dict kds=>∃ p,∃ kvs:Nat×ld,∃ Fs,v=.ref p/\H p=aa (.dK kvs.1 kvs.2)/\F=p::Fs.flatten/\All3 (λ(kd:aA×aA) (kv:aI×V) f=>kd.1=kD kv.1/\Afh K B H n kd.2 kv.2 f) kds kvs.2 Fs
  |.tuple ds=>(n=0/\F=[]/\Abj K B (.tuple ds) v)\/(n≠0/\∃ p xs Fs,v=.ref p/\B p=aa (.tup xs)/\F=Fs.flatten/\All3 (Afh K B H n) ds xs Fs)
  |d=>F=[]/\Abj K B d v
theorem Afh.keep{B:Hp}(xb:Ext B B'):∀ {n:Nat} {d:aA} {v:V} {F:aan},(∀ a∈F,H' a=H a)->Afh K B H n d v F->Afh K B' H' n d v F
 |0,d,v,F,_,h=>⟨h.1,h.2.ext xb⟩
 |n+1,.list ds,v,F,kp,h=>by
  obtain⟨p,xs,Fs,e,hp,rfl,q⟩:=h;refine⟨p,xs,Fs,e,(kp p bE).trans hp,rfl,q.imp λa b c m r=>Afh.keep xb (λz hz=>kp z (bL _ (jT.2 ⟨c,m,hz⟩))) r⟩
 |n+1,.dict kds,v,F,kp,h=>by
  obtain⟨p,xs,Fs,e,hp,rfl,q⟩:=h;refine⟨p,xs,Fs,e,(kp p bE).trans hp,rfl,q.imp λa b c m r=>⟨r.1,Afh.keep xb (λz hz=>kp z (bL _ (jT.2 ⟨c,m,hz⟩))) r.2⟩⟩
 |n+1,.none,v,F,_,h=>⟨h.1,h.2.ext xb⟩
 |n+1,.bool _,v,F,_,h=>⟨h.1,h.2.ext xb⟩
 |n+1,.int _,v,F,_,h=>⟨h.1,h.2.ext xb⟩
 |n+1,.str _,v,F,_,h=>⟨h.1,h.2.ext xb⟩
 |n+1,.tuple ds,v,F,kp,h=>by
  rcases h with⟨h0,h1,h2⟩|⟨h0,p,xs,Fs,e,hp,rfl,q⟩
  .exact .inl ⟨h0,h1,h2.ext xb⟩
  .exact .inr ⟨h0,p,xs,Fs,e,xb _ _ hp,rfl,q.imp λa b c m r=>Afh.keep xb (λz hz=>kp z (jT.2 ⟨c,m,hz⟩)) r⟩
theorem ZA{B:Hp}{R:aA->V->aan->Prop}(f:∀ d v F,R d v F->Abj K B d v):∀ {ds:aah} {xs:aai} {Fs:aad},All3 R ds xs Fs->Aak K B ds xs:=by
 intro ds xs Fs h;induction h with
 |nil=>exact Aai.2 rfl
 |cons h _ ih=>exact Aae.2 ⟨_,_,rfl,f _ _ _ h,ih⟩
theorem K4{B:Hp}{R:aA×aA->aI×V->aan->Prop}(f:∀ d v F,R d v F->d.1=kD v.1/\Abj K B d.2 v.2):∀ {ds:be} {xs:ld} {Fs:aad},All3 R ds xs Fs->Abm K B ds xs:=by
 intro ds xs Fs h;induction h with
 |nil=>exact Abi.2 rfl
 |@cons p q F ds xs Fs h _ ih=>
  obtain⟨k,d⟩:=p;obtain⟨k',v⟩:=q;exact Aa7.2 ⟨_,_,_,rfl,(f _ _ _ h).1,(f _ _ _ h).2,ih⟩
theorem Afh.share{B:Hp}(xb:Ext B B'):∀ {n:Nat} {d:aA} {v:V} {F:aan},(∀ a∈F,∀ o,H a=aa o->B' a=aa o)->Afh K B H n d v F->Abj K B' d v
 |0,d,v,F,_,h=>h.2.ext xb
 |n+1,.list ds,v,F,kp,h=>by
  obtain⟨p,xs,Fs,e,hp,rfl,q⟩:=h;refine Aa8.2 ⟨p,xs,e,SqL.of (kp p bE _ hp),?_⟩;exact ZA (λd v F r=>r) (q.imp λa b c m r=>Afh.share xb (λz hz=>kp z (bL _ (jT.2 ⟨c,m,hz⟩))) r)
 |n+1,.dict kds,v,F,kp,h=>by
  obtain⟨p,xs,Fs,e,hp,rfl,q⟩:=h;refine Ba e (kp p bE _ hp) ?_;exact K4 (λd v F r=>r) (q.imp λa b c m r=>⟨r.1,Afh.share xb (λz hz=>kp z (bL _ (jT.2 ⟨c,m,hz⟩))) r.2⟩)
 |n+1,.none,v,F,_,h=>h.2.ext xb
 |n+1,.bool _,v,F,_,h=>h.2.ext xb
 |n+1,.int _,v,F,_,h=>h.2.ext xb
 |n+1,.str _,v,F,_,h=>h.2.ext xb
 |n+1,.tuple ds,v,F,kp,h=>by
  rcases h with⟨h0,h1,h2⟩|⟨h0,p,xs,Fs,e,hp,rfl,q⟩
  .exact h2.ext xb
  .refine Aap.2 ⟨p,xs,e,xb _ _ hp,?_⟩;exact ZA (λd v F r=>r) (q.imp λa b c m r=>Afh.share xb (λz hz=>kp z (jT.2 ⟨c,m,hz⟩)) r)
noncomputable def fJ:Nat->aA->Bool
 |0,d=>fC d
 |n+1,.list ds=>ds.all (fJ n)
 |n+1,.dict kds=>kds.all λkd=>fJ n kd.2
 |n+2,.tuple ds=>ds.all (fJ (n+1))
 |n+1,d=>fC d
theorem Afh.flat{B:Hp}(xb:∀ a xs,B a=aa (.tup xs)->B' a=aa (.tup xs)):∀ {n:Nat} {d:aA} {v:V} {F:aan},fJ n d=af->Afh K B H n d v F->Afh K B' H n d v F
 |0,d,v,F,f,h=>⟨h.1,h.2.flat xb d f⟩
 |n+1,.list ds,v,F,f,h=>by
  obtain⟨p,xs,Fs,e,hp,rfl,q⟩:=h;refine⟨p,xs,Fs,e,hp,rfl,?_⟩;have f':∀ d∈ds,fJ n d=af:=by simpa [fJ] using f
  clear hp f e;induction q with
  |nil=>exact .nil
  |cons h t ih=>exact .cons (Afh.flat xb (f' _ bE) h) (ih λd m=>f' d (bL _ m))
 |n+1,.dict kds,v,F,f,h=>by
  obtain⟨p,xs,Fs,e,hp,rfl,q⟩:=h;refine⟨p,xs,Fs,e,hp,rfl,?_⟩;have f':∀ d∈kds,fJ n d.2=af:=λd m=>by
   have:kds.all (λkd=>fJ n kd.2)=af:=by simpa [fJ] using f
   exact cY.1 this d m
  clear hp f e;obtain⟨xe,xs⟩:=xs;replace q:All3 _ kds xs Fs:=q;induction q with
  |nil=>exact .nil
  |cons h t ih=>exact .cons ⟨h.1,Afh.flat xb (f' _ bE) h.2⟩ (ih λd m=>f' d (bL _ m))
 |n+1,.none,v,F,f,h=>⟨h.1,h.2.flat xb _ f⟩
 |n+1,.bool _,v,F,f,h=>⟨h.1,h.2.flat xb _ f⟩
 |n+1,.int _,v,F,f,h=>⟨h.1,h.2.flat xb _ f⟩
 |n+1,.str _,v,F,f,h=>⟨h.1,h.2.flat xb _ f⟩
 |1,.tuple ds,v,F,f,h=>by
  rcases h with⟨h0,h1,h2⟩|⟨h0,_⟩
  .exact .inl ⟨h0,h1,h2.flat xb _ f⟩
  .exact absurd rfl h0
 |n+2,.tuple ds,v,F,f,h=>by
  rcases h with⟨h0,_⟩|⟨h0,p,xs,Fs,e,hp,rfl,q⟩
  .exact absurd h0 ()
  .refine .inr ⟨h0,p,xs,Fs,e,xb _ _ hp,rfl,?_⟩;have f':∀ d∈ds,fJ (n+1) d=af:=by simpa [fJ] using f
   clear hp f e;induction q with
   |nil=>exact .nil
   |cons h t ih=>exact .cons (Afh.flat xb (f' _ bE) h) (ih λd m=>f' d (bL _ m))
theorem All3.of {α β γ:Type}{R:α->β->γ->Prop}:∀ {as:List α} {bs:List β} {cs:List γ},All3 R as bs cs->∀ c∈cs,∃ a b,R a b c:=by
 intro as bs cs h;induction h with
 |nil=>exact λc m=>by simp at m
 |cons h _ ih=>
  intro c m;rw[10]
  .exact⟨_,_,h⟩
  .exact ih c m
theorem Afh.mut1{B:Hp}:∀ {n:Nat} {d:aA} {v:V} {F:aan},Afh K B H n d v F->∀ a∈F,(∃ xs,H a=aa (.lst xs))\/∃ q,H a=aa (dO (.inl q))
 |0,d,v,F,h,a,m=>by rw[h.1] at m;simp at m
 |n+1,.list ds,v,F,h,a,m=>by
  obtain⟨p,xs,Fs,e,hp,rfl,q⟩:=h;rcases cV.1 m with e1|m2
  .rw[e1];exact .inl ⟨xs,hp⟩
  .obtain⟨f,hf,ha⟩:=jT.1 m2;obtain⟨_,_,r⟩:=q.of f hf;exact Afh.mut1 r a ha
 |n+1,.dict kds,v,F,h,a,m=>by
  obtain⟨p,xs,Fs,e,hp,rfl,q⟩:=h;rcases cV.1 m with e1|m2
  .rw[e1];exact .inr ⟨xs,hp⟩
  .obtain⟨f,hf,ha⟩:=jT.1 m2;obtain⟨_,_,r⟩:=q.of f hf;exact Afh.mut1 r.2 a ha
 |n+1,.none,v,F,h,a,m=>by rw[h.1] at m;simp at m
 |n+1,.bool _,v,F,h,a,m=>by rw[h.1] at m;simp at m
 |n+1,.int _,v,F,h,a,m=>by rw[h.1] at m;simp at m
 |n+1,.str _,v,F,h,a,m=>by rw[h.1] at m;simp at m
 |n+1,.tuple ds,v,F,h,a,m=>by
  rcases h with⟨_,h1,_⟩|⟨h0,p,xs,Fs,e,hp,rfl,q⟩
  .rw[h1] at m;simp at m
  .obtain⟨f,hf,ha⟩:=jT.1 m;obtain⟨_,_,r⟩:=q.of f hf;exact Afh.mut1 r a ha
theorem Afh.mut{B:Hp}{F:aan}(h:Afh K B H n d v F):∀ a∈F,(∃ xs,H a=aa (.lst xs))\/∃ q:DQ,H a=aa (dO q):=λa m=>(h.mut1 a m).imp id λ⟨q,e⟩=>⟨.inl q,e⟩
def My (K:aK)(B H:Hp)(d:aA)(v:V)(F:aan):Prop:=∃ kds p,∃ ts:Nat×li,d=.dict ((.none,.none)::kds)/\v=.ref p/\H p=aa (.dT ts.1 ts.2)/\F=[p]/\(∀ kd∈kds,fC kd.2=af)/\Acg K B kds ts.2
def Azs (K:aK)(B H:Hp)(d:aA)(v:V)(F:aan):Prop:=(d=.none/\v=.non/\F=[])\/My K B H d v F
def Bki (K:aK)(B H:Hp)(d:aA)(v:V)(F:aan):Prop:=∃ jz q Fs,∃ pq:Nat×ld,d=.dict jz/\v=.ref q/\H q=aa (.dK pq.1 pq.2)/\F=q::Fs.flatten/\All3 (λkd kv f=>kd.1=kD kv.1/\Azs K B H kd.2 kv.2 f) jz pq.2 Fs
def Aej (K:aK)(B H:Hp)(n:Nat)(d:aA)(v:V)(F:aan):Prop:=if n=9 then Azs K B H d v F else if n=10 then(d=.none/\v=.non/\F=[])\/Bki K B H d v F else Afh K B H n d v F
theorem Acg.flat{B:Hp}(xb:∀ a xs,B a=aa (.tup xs)->B' a=aa (.tup xs)):∀ {kds:be} {ts:li},(∀ kd∈kds,fC kd.2=af)->Acg K B kds ts->Acg K B' kds ts
 |[],ts,_,h=>Ade.2 (Ade.1 h)
 |(k,d)::r,ts,f,h=>by
  obtain⟨k',x,rr,e,ek,h1,h2⟩:=Ab7.1 h;exact Ab7.2 ⟨k',x,rr,e,ek,h1.flat xb _ (f (k,d) bE),Acg.flat xb (λkd m=>f kd (bL _ m)) h2⟩
section
variable {B:Hp}{F:aan}
theorem Azs.keep (xb:Ext B B')(kp:∀ a∈F,H' a=H a)(h:Azs K B H d v F):Azs K B' H' d v F:=h.imp id λh=>by
 obtain⟨kds,p,ts,e1,e2,hp,rfl,f,r⟩:=h;exact⟨kds,p,ts,e1,e2,(kp p bE).trans hp,rfl,f,r.ext xb⟩
theorem Azs.flat (xb:∀ a xs,B a=aa (.tup xs)->B' a=aa (.tup xs))(h:Azs K B H d v F):Azs K B' H d v F:=h.imp id λh=>by
 obtain⟨kds,p,ts,e1,e2,hp,rfl,f,r⟩:=h;exact⟨kds,p,ts,e1,e2,hp,rfl,f,r.flat xb f⟩
theorem Azs.share (xb:Ext B B')(kp:∀ a∈F,∀ o,H a=aa o->B' a=aa o)(h:Azs K B H d v F):Abj K B' d v:=by
 rcases h with⟨rfl,rfl,_⟩|⟨kds,p,ts,rfl,e2,hp,rfl,f,r⟩
 .exact Abq.2 rfl
 exact(LB).2 ⟨p,ts,e2,kp p bE _ hp,r.ext xb⟩
theorem Azs.mut (h:Azs K B H d v F):∀ a∈F,(∃ xs,H a=aa (.lst xs))\/∃ q:DQ,H a=aa (dO q):=by
 rcases h with⟨_,_,rfl⟩|⟨kds,p,ts,e1,e2,hp,rfl,f,r⟩
 .exact λa m=>by simp at m
 intro a m;rw[cF.1 m];exact .inr ⟨.inr ts,hp⟩
theorem Bki.share (xb:Ext B B')(kp:∀ a∈F,∀ o,H a=aa o->B' a=aa o)(h:Bki K B H d v F):Abj K B' d v:=by
 obtain⟨jz,q,Fs,⟨xe,pq⟩,rfl,rfl,hq,rfl,h3⟩:=h;refine Ba (kvs:=(xe,pq)) rfl (kp q (by simp) _ hq) ?_
 have Y9:∀ f∈Fs,∀ p∈f,∀ o,H p=aa o->B' p=aa o:=λf mf p m=>kp p (bL _ (jT.2 ⟨f,mf,m⟩))
 clear hq kp;replace h3:All3 _ jz pq Fs:=h3;induction h3 with
 |nil=>exact Abi.2 rfl
 |cons h t ih=>exact Aa7.2 ⟨_,_,_,rfl,h.1,h.2.share xb (Y9 _ bE),ih λf m=>Y9 f (bL _ m)⟩
theorem Aej.keep (xb:Ext B B')(kp:∀ a∈F,H' a=H a)(h:Aej K B H n d v F):Aej K B' H' n d v F:=by
 unfold Aej at h ⊢;split at h
 .rw[if_pos ‹_›];exact h.keep xb kp
 .rw[if_neg ‹_›];split at h
  .rw[if_pos ‹_›];refine h.imp id λh=>?_
   obtain⟨jz,q,Fs,pq,e1,e2,hq,rfl,h3⟩:=h;exact⟨jz,q,Fs,pq,e1,e2,(kp q bE).trans hq,rfl,h3.imp λkd kv f m r=>⟨r.1,r.2.keep xb λb hb=>kp b (bL _ (jT.2 ⟨f,m,hb⟩))⟩⟩
  .rw[if_neg ‹_›];exact Afh.keep xb kp h
theorem Aej.share (xb:Ext B B')(kp:∀ a∈F,∀ o,H a=aa o->B' a=aa o)(h:Aej K B H n d v F):Abj K B' d v:=by
 unfold Aej at h;split at h
 .exact h.share xb kp
 .split at h
  .rcases h with⟨rfl,rfl,_⟩|h
   .exact Abq.2 rfl
   .exact h.share xb kp
  .exact Afh.share xb kp h
theorem Aej.flat (xb:∀ a xs,B a=aa (.tup xs)->B' a=aa (.tup xs))(f:fJ n d=af)(h:Aej K B H n d v F):Aej K B' H n d v F:=by
 unfold Aej at h ⊢;split at h
 .rw[if_pos ‹_›];exact h.flat xb
 .rw[if_neg ‹_›];split at h
  .rw[if_pos ‹_›];refine h.imp id λh=>?_
   obtain⟨jz,q,Fs,pq,e1,e2,hq,eF,h3⟩:=h;exact⟨jz,q,Fs,pq,e1,e2,hq,eF,h3.imp λkd kv p m r=>⟨r.1,r.2.flat xb⟩⟩
  .rw[if_neg ‹_›];exact Afh.flat xb f h
theorem Aej.mut (h:Aej K B H n d v F):∀ a∈F,(∃ xs,H a=aa (.lst xs))\/∃ q:DQ,H a=aa (dO q):=by
 unfold Aej at h;split at h
 .exact h.mut
 .split at h
  .rcases h with⟨_,_,rfl⟩|⟨jz,q,Fs,pq,_,_,hq,rfl,h3⟩
   .exact λa m=>by simp at m
   intro b m;rw[10]
   .exact .inr ⟨.inl _,hq⟩
   .obtain⟨f,mf,m⟩:=jT.1 m;obtain⟨_,_,r⟩:=h3.of f mf;exact r.2.mut b m
  .exact Afh.mut h
end
abbrev EF:=jp->aaj
abbrev BF:=jp->Option Bool
abbrev AF:=jp->Option aah
def Al7 (K:aK)(B:Hp)(Y:jp)(Z:St):Prop:=∀ (i:Nat) d,Y[i]?=aa (aa d)->∃ v,Z[i]?=aa (aa v)/\Abj K B d v
theorem Al7.ext{B:Hp}(h:Al7 K B Y Z)(x:Ext B B'):Al7 K B' Y Z:=λi d e=>let ⟨v,h1,h2⟩:=h i d e;⟨v,h1,h2.ext x⟩
def Res (K:aK)(P:aC->Prop)(n:Nat)(d:aA)(H:Hp)(Q:VK):Prop:=
 ∀ v H' Fr,Ext H H'->Fr.Nodup->(∀ a∈Fr,H a=ab/\∃ o,H' a=aa o)->Aej K (hid H' (cn P Fr)) H' n d v Fr->Q v H'
section
variable {P:aC->Prop}
theorem Res.zero (h:Res K P 0 d H Q)(x:Ext H H')(r:Abj K (hid H' P) d v):Q v H':=
 h v H' [] x .nil (λa m=>by simp at m) ⟨rfl,by rw[Ib];exact r⟩
theorem dR (h:∀ v H',Ext H H'->Abj K (hid H' P) d v->Q v H'):Res K P 0 d H Q:=λv H' Fr x _ _ r=>by
 obtain⟨rfl,r⟩:=r;rw[Ib] at r;exact h v H' x r
theorem Res.mono (h:Res K P n d H Q)(x:Ext H H'):Res K P n d H' Q:=λv H2 Fr x2 nd fr r=>
 h v H2 Fr (x.trans x2) nd (λa m=>⟨x.none (fr a m).1,(fr a m).2⟩) r
theorem Res.of (hP:Hid P H)(h:Res K P 0 d H Q):Res K P n d H Q:=λv H2 Fr x2 nd fr r=>
 h.zero x2 (r.share (gR λa p=>.inl p) λa m o e=>eO (hP.new (fr a m).1) e)
theorem Res.lst{p:aC}(hP:Hid P H)(h:Res K P 1 (.list ds) H Q)(n:H p=ab)(r:Aak K (hid H P) ds xs):Q (.ref p) (upd H p (.lst xs)):=by
 refine h (.ref p) _ [p] (Ext.new n) (jC.2 ⟨by simp,.nil⟩) (λa m=>?_) ⟨p,xs,xs.map λ_=>[],rfl,dQ,?_,?_⟩
 .have:a=p:=by simpa using m
  rw[12];exact⟨n,_,dQ⟩
 .have:∀ l:aai,(l.map λ_=>([]:aan)).flatten=[]:=λl=>by
   induction l with
   |nil=>rfl
   |cons a l ih=>rw[cW,rU,ih];rfl
  rw[this]
 .have xe:Ext (hid H P) (hid (upd H p (.lst xs)) (cn P [p])):=λb o e=>by
   obtain⟨nb,e⟩:=Abr.1 e;have hb:=iP e n;exact eO (λq=>q.elim nb λm=>hb (by simpa using m)) (by rw[cM hb];exact e)
  generalize hid (upd H p (.lst xs)) (cn P [p])=B at xe;generalize upd H p (.lst xs)=H1;clear h;have go:∀ (ds:aah) (xs:aai),Aak K (hid H P) ds xs->All3 (Afh K B H1 0) ds xs (xs.map λ_=>[]):=by
   intro ds;induction ds with
   |nil=>intro xs r;rw[Aai.1 r];exact .nil
   |cons d ds ih=>
    intro xs r;obtain⟨y,t,rfl,h1,h2⟩:=Aae.1 r;exact .cons ⟨rfl,h1.ext xe⟩ (ih t h2)
  exact go ds xs r
theorem Res.tup{p:aC}(hP:Hid P H)(h:Res K P 0 (.tuple ds) H Q)(n:H p=ab)(r:Aak K (hid H P) ds xs):Q (.ref p) (upd H p (.tup xs)):=by
 refine h.zero (Ext.new n) (Aap.2 ⟨p,xs,rfl,eO (hP.new n) dQ,r.ext λb o e=>?_⟩)
 obtain⟨nb,e⟩:=Abr.1 e;exact eO nb (Ext.new n _ _ e)
end
def tF (K:aK)(n:Nat)(f:EF):TE:=λZ H Q=>∃ P Y d,Hid P H/\Al7 K (hid H P) Y Z/\f Y=aa d/\Res K P n d H Q
def sq (K:aK)(f:BF):TT:=λZ H Q=>∃ P Y b,Hid P H/\Al7 K (hid H P) Y Z/\f Y=aa b/\∀ H',Ext H H'->Q b H'
def tAF (K:aK)(f:AF):TA:=λZ H Q=>∃ P Y ds,Hid P H/\Al7 K (hid H P) Y Z/\f Y=aa ds/\∀ vs H',Ext H H'->Aak K (hid H' P) ds vs->Q vs H'
abbrev DF (n:Nat)(X:Cx)(e:aQ)(f:EF):Prop:=PE X e (tF X.K n f)
abbrev DE (X:Cx)(e:aQ)(f:EF):Prop:=PE X e (tF X.K 0 f)
abbrev DT (X:Cx)(e:aQ)(f:BF):Prop:=PT X e (sq X.K f)
abbrev DW (X:Cx)(e:aQ)(f:BF):Prop:=PW X e (sq X.K f)
abbrev DA (X:Cx)(es:aau)(f:AF):Prop:=PA X es (tAF X.K f)
section
variable {a:aQ}
theorem PE.imp {t t':TE}(h:PE X e t)(w:∀ Z H Q,t' Z H Q->t Z H Q):PE X e t':=λac s Z H Q I q=>h ac s Z H Q I (w _ _ _ q)
theorem PT.imp {t':TT}(h:PT X e t)(w:∀ Z H Q,t' Z H Q->t Z H Q):PT X e t':=λac s Z H Q I q=>h ac s Z H Q I (w _ _ _ q)
theorem PW.imp {t':TT}(h:PW X e t)(w:∀ Z H Q,t' Z H Q->t Z H Q):PW X e t':=λdr ac s Z H Q I q=>h dr ac s Z H Q I (w _ _ _ q)
theorem PA.imp {t t':TA}(h:PA X es t)(w:∀ Z H Q,t' Z H Q->t Z H Q):PA X es t':=λpos ac s Z H Q I q=>h pos ac s Z H Q I (w _ _ _ q)
theorem hZ {f:EF}(h:DF n X e f):DE X e f:=PE.imp h λZ H Q ⟨P,Y,d,hP,rs,ef,k⟩=>⟨P,Y,d,hP,rs,ef,Res.of hP k⟩
noncomputable def aB (i:Nat):EF:=λY=>(Y[i]?).join
theorem ZF(h:aB i Y=aa d):Y[i]?=aa (aa d):=by
 unfold aB at h
 grind
theorem fE (i:Nat)(hN:Nm X i x:=by exact hE):DE X (.Name x pos) (aB i):=PE.imp (hN.pe) λZ H Q gh=>by
 rw[5];obtain⟨v,h1,h2⟩:=rs i d (ZF ef);exact⟨v,h1,k.zero Ext.refl h2⟩
def eC (d:aA):EF:=λ_=>aa d
theorem xQ(h:PE X e (tC v))(hr:∀ H,Abj X.K H d v):DE X e (eC d):=PE.imp h λZ H Q gh=>by
 obtain⟨P,Y,d',hP,rs,ef,k⟩:=gh;cases ef;exact k.zero Ext.refl (hr _)
theorem jJ {i j}:DE X (.Constant (.int i) j pos) (eC (.int i)):=xQ IB λ_=>Aah.2 rfl
theorem TY {i j}:DE X (.Constant (.bool i) j pos) (eC (.bool i)):=xQ Mm λ_=>Aaw.2 rfl
theorem UC {j}:DE X (.Constant .none j pos) (eC .none):=xQ WE λ_=>Abq.2 rfl
theorem yB {i j}(h:cH (.str i)=af:=by rw[0]):DE X (.Constant (.str i) j pos) (eC (.str i)):=xQ Qc λ_=>Aa0.2 ⟨rfl,h⟩
theorem o7{i:Int}{u:aD}(hg:Gl X x)(hm:X.mg x=aa u)(r:RelV (.int i) u)(hd:(x==("__debug__" : aE))=ah:=by decide):DE X (.Name x pos) (eC (.int i)):=xQ (Sj hg hm r hd) λ_=>Aah.2 rfl
def aJ:AF:=λ_=>aa []
def aF (f:EF)(g:AF):AF:=λY=>(f Y).bind λd=>(g Y).bind λds=>aa (d::ds)
theorem pL:DA X [] aJ:=PA.imp jX λZ H Q gh=>by
 rw[5];cases ef;exact k [] H Ext.refl (Aai.2 rfl)
theorem pQ {f:EF}{g:AF}(h1:DE X e f)(h2:DA X es g)(hs:bX (e::es) X.env=(ah,bY e X.env)::bX es X.env:=by rfl):DA X (e::es) (aF f g):=
 PA.imp (hX h1 h2 hs) λZ H Q gh=>by
  obtain⟨P,Y,ds,hP,rs,ef,k⟩:=gh;obtain⟨d,e1,ef⟩:=ao ef;obtain⟨r,e2,ef⟩:=ao ef;cases ef;exact⟨P,Y,d,hP,rs,e1,dR λv H1 x1 r1=>⟨P,Y,r,hP.ext x1,rs.ext (cN x1),e2,λvs H2 x2 r2=>
   k _ _ (x1.trans x2) (Aae.2 ⟨v,vs,rfl,r1.ext (cN x2),r2⟩)⟩⟩
def iJ (g:AF):EF:=λY=>(g Y).bind λds=>if ds.length<=sizeLine then aa (.tuple ds) else ab
def cS (g:AF):EF:=λY=>(g Y).bind λds=>if ds.length<=sizeLine then aa (.list ds) else ab
theorem cL {α:Type}{c:Prop}[Decidable c]{x y:α}(h:(if c then aa x else ab)=aa y):c/\x=y:=by
 grind
theorem WD {g:AF}{x1}(h:DA X es g):DE X (.Tuple es x1 pos) (iJ g):=PE.imp (VN h) λZ H Q gh=>by
 rw[5];obtain⟨ds,e1,ef⟩:=ao ef;obtain⟨hl,rfl⟩:=cL ef;exact⟨P,Y,ds,hP,rs,e1,λvs H1 x1 r1=>⟨by rw[r1.length];exact hl,λp hp=>(k.mono x1).tup (hP.ext x1) hp r1⟩⟩
theorem BK {g:AF}(h:DA X es g):DF 1 X (.List es pos) (cS g):=PE.imp (Qj h) λZ H Q gh=>by
 rw[5];obtain⟨ds,e1,ef⟩:=ao ef;obtain⟨hl,rfl⟩:=cL ef;exact⟨P,Y,ds,hP,rs,e1,λvs H1 x1 r1=>⟨by rw[r1.length];exact hl,λp hp=>(k.mono x1).lst (hP.ext x1) hp r1⟩⟩
def jc (K:aK)(n:Nat)(r:R2)(g:aA->aA->aaj):Prop:=
 ∀ (P:aC->Prop) (H:Hp) (x y:V) (a b d:aA) (Q:VK),Hid P H->Abj K (hid H P) a x->Abj K (hid H P) b y->g a b=aa d->Res K P n d H Q->r x y H Q
def ai (g:aA->aA->aaj)(fa fb:EF):EF:=λY=>(fa Y).bind λa=>(fb Y).bind λb=>g a b
theorem HW{fa fb:EF}(hg:jc K n r g):∀ Z H Q,tF K n (ai g fa fb) Z H Q->xk r (tF K 0 fa) (tF K 0 fb) Z H Q:=λZ H Q gh=>by
 rw[5];obtain⟨d1,e1,ef⟩:=ao ef;obtain⟨d2,e2,ef⟩:=ao ef;exact⟨P,Y,d1,hP,rs,e1,dR λv H1 x1 r1=>⟨P,Y,d2,hP.ext x1,rs.ext (cN x1),e2,dR λu H2 x2 r2=>
  hg P H2 v u d1 d2 d Q (hP.ext (x1.trans x2)) (r1.ext (cN x2)) r2 ef (k.mono (x1.trans x2))⟩⟩
theorem pF {op:Operator}{fa fb:EF}(ho:OpR X (kC op) r)(hg:jc X.K n r g)(ha:DE X a fa)(hb:DE X b fb):DF n X (.BinOp a op b pos) (ai g fa fb):=PE.imp (Mu ho ha hb) (HW hg)
theorem BN {op:CmpOp}{fa fb:EF}(ho:OpR X (gK op) r)(hg:jc X.K 0 r g)(ha:DE X a fa)(hb:DE X b fb)(hm:wQ op b=ah):DE X (.Compare a [op] [b] pos) (ai g fa fb):=PE.imp (Gv ho ha hb hm) (HW hg)
def gm (g:aA->aaj)(fa:EF):EF:=λY=>(fa Y).bind g
def CallD (K:aK)(n:Nat)(r:aai->Hp->VK->Prop)(g:aah->aaj):Prop:=
 ∀ (P:aC->Prop) (H:Hp) (xs:aai) (ds:aah) (d:aA) (Q:VK),Hid P H->Aak K (hid H P) ds xs->g ds=aa d->Res K P n d H Q->r xs H Q
def aN (g:aah->aaj)(fa:AF):EF:=λY=>(fa Y).bind g
variable {r:aai->Hp->VK->Prop}{g:aah->aaj}{fa:AF}{id:String}
theorem pU (hc:Acm X (.builtin id) r)(hg:CallD X.K n r g)(wm:Gl X x)(hm:X.mg x=ab)(hv:mM x=aa (.builtin id))(ha:DA X (e::es) fa)(hn:x ≠ "__name__":=by decide)(ie:(x==("__debug__" : aE))=ah:=by decide)
  (he:bX (e::es) X.env=(ah,bY e X.env)::bX es X.env:=by rfl) (cz:(gL pos (bX es X.env)).any (·.1)=ah:=by rfl):DF n X (.Call (.Name x p) (e::es) [] pos) (aN g fa):=
 PE.imp (EH hc wm hm hv ha hn ie he cz) λZ H Q gh=>by
  rw[5];obtain⟨d1,e1,ef⟩:=ao ef;exact⟨P,Y,d1,hP,rs,e1,λvs H1 x1 r1=>hg P H1 vs d1 d Q (hP.ext x1) r1 ef (k.mono x1)⟩
theorem mK (hc:Acm X (.type T) r)(hg:CallD X.K n r g)(wm:Gl X x)(hm:X.mg x=ab)(hv:mM x=aa (.type T))(ha:DA X (e::es) fa)(hn:x ≠ "__name__":=by decide)(ie:(x==("__debug__" : aE))=ah:=by decide)
  (he:bX (e::es) X.env=(ah,bY e X.env)::bX es X.env:=by rfl) (cz:(gL pos (bX es X.env)).any (·.1)=ah:=by rfl):DF n X (.Call (.Name x p) (e::es) [] pos) (aN g fa):=
 PE.imp (zF hc wm hm hv ha hn ie he cz) λZ H Q gh=>by
  rw[5];obtain⟨d1,e1,ef⟩:=ao ef;exact⟨P,Y,d1,hP,rs,e1,λvs H1 x1 r1=>hg P H1 vs d1 d Q (hP.ext x1) r1 ef (k.mono x1)⟩
noncomputable def kz:aA->Option Bool
 |.bool b=>aa b
 |_=>ab
theorem KA{b:Bool}(h:kz d=aa b):d=.bool b:=by
 cases d<;>simp[kz] at h;rw[h]
def aw (f:EF):BF:=λY=>(f Y).bind kz
theorem Ny {f:EF}(h:DE X e f)(he:∀ dr,isTrue e X.env dr=(do let v <-dr;standAt e.pos;nF [v] (truthy v)):=by intro _;rfl):DT X e (aw f):=PT.imp (Pw h he) λZ H Q gh=>by
 obtain⟨P,Y,b,hP,rs,ef,k⟩:=gh;obtain⟨d,e1,ef⟩:=ao ef;cases KA ef;exact⟨P,Y,_,hP,rs,e1,dR λv H1 x1 r1=>⟨b,Aaw.1 r1,k H1 x1⟩⟩
theorem mI {op:CmpOp}{r:R2}{g:aA->aA->aaj}{fa fb:EF}(ho:OpR X (gK op) r)(hg:jc X.K 0 r g)(ha:DE X a fa)(hb:DE X b fb)(hm:wQ op b=ah):DT X (.Compare a [op] [b] pos) (aw (ai g fa fb)):=
 PT.imp (Hf ho ha hb hm) λZ H Q gh=>by
  obtain⟨P,Y,c,hP,rs,ef,k⟩:=gh;obtain⟨d,e1,ef⟩:=ao ef;cases KA ef;exact HW hg Z H _ ⟨P,Y,_,hP,rs,e1,dR λv H1 x1 r1=>⟨c,Aaw.1 r1,k H1 x1⟩⟩
def pA (f:BF):BF:=λY=>(f Y).bind λb=>aa (!b)
def mE (f g:BF):BF:=λY=>(f Y).bind λb=>if b=af then g Y else aa ah
def Q7 (f g:BF):BF:=λY=>(f Y).bind λb=>if b=af then aa af else g Y
variable {fB gB:BF}{rest:aau}
theorem Qs (h:DT X a fB):DT X (.UnaryOp .Not a pos) (pA fB):=PT.imp (Nt h) λZ H Q gh=>by
 obtain⟨P,Y,c,hP,rs,ef,k⟩:=gh;obtain⟨b,e1,ef⟩:=ao ef;cases ef;exact⟨P,Y,b,hP,rs,e1,λH1 x1=>k H1 x1⟩
theorem Hy (h:DT X a fB):DW X (.BoolOp .And [a] pos) fB:=Rc h
theorem Nu (h:DT X a fB):DW X (.BoolOp .Or [a] pos) fB:=Ov h
theorem UX (h:DT X a fB)(h2:DW X (.BoolOp .And (b::rest) pos) gB):DW X (.BoolOp .And (a::b::rest) pos) (mE fB gB):=PW.imp (Qb h h2) λZ H Q gh=>by
 obtain⟨P,Y,c,hP,rs,ef,k⟩:=gh;obtain⟨b,e1,ef⟩:=ao ef;refine⟨P,Y,b,hP,rs,e1,λH1 x1=>?_⟩
 cases b with
 |true=>exact qR ⟨P,Y,c,hP.ext x1,rs.ext (cN x1),by simpa using ef,λH2 x2=>k H2 (x1.trans x2)⟩
 |false=>
  grind
theorem Mh (h:DT X a fB)(h2:DW X (.BoolOp .Or (b::rest) pos) gB):DW X (.BoolOp .Or (a::b::rest) pos) (Q7 fB gB):=PW.imp (Mk h h2) λZ H Q gh=>by
 obtain⟨P,Y,c,hP,rs,ef,k⟩:=gh;obtain⟨b,e1,ef⟩:=ao ef;refine⟨P,Y,b,hP,rs,e1,λH1 x1=>?_⟩
 cases b with
 |true=>
  grind
 |false=>exact qX ⟨P,Y,c,hP.ext x1,rs.ext (cN x1),by simpa using ef,λH2 x2=>k H2 (x1.trans x2)⟩
theorem HG (h:DW X a fB):DT X a fB:=h.pt
def SO (f:EF):EF:=λY=>(f Y).bind λd=>(kz d).bind λb=>aa (.bool (!b))
def uQ (f g:EF):EF:=λY=>(f Y).bind λd=>(kz d).bind λb=>if b=af then g Y else aa (.bool ah)
def eOr (f g:EF):EF:=λY=>(f Y).bind λd=>(kz d).bind λb=>if b=af then aa (.bool af) else g Y
variable {f1 f2:EF}
theorem Qo {op}(h:DE X a f1):DE X (.BoolOp op [a] pos) f1:=Og h
theorem Rp (h:DE X a f1)(h2:DE X (.BoolOp .And (b::rest) pos) f2):DE X (.BoolOp .And (a::b::rest) pos) (uQ f1 f2):=PE.imp (Ob h h2) λZ H Q gh=>by
 obtain⟨P,Y,c,hP,rs,ef,k⟩:=gh;obtain⟨d,e1,ef⟩:=ao ef;obtain⟨b,e2,br⟩:=ao ef;clear ef;have ef:=br;clear br;cases KA e2;refine⟨P,Y,_,hP,rs,e1,dR λv H1 x1 r1=>⟨b,Aaw.1 r1,?_⟩⟩
 cases b with
 |true=>exact qR ⟨P,Y,c,hP.ext x1,rs.ext (cN x1),by simpa using ef,k.mono x1⟩
 |false=>
  have:kT ah=c:=by simpa using ef
  rw[12];exact qX (k.zero x1 (Aaw.2 rfl))
def eIf (t:BF)(f g:EF):EF:=λY=>(t Y).bind λb=>if b=af then f Y else g Y
end
abbrev Slot:=Option (Nat×aA)
abbrev aR:=List Slot
noncomputable def vS (Y:aR):jp:=Y.map λs=>match s with|some (0,d)=>aa d|_=>ab
def vA (Y:aR):jp:=Y.map λs=>s.map (·.2)
theorem Ql {Y:aR}(h:(vS Y)[i]?=aa (aa d)):Y[i]?=aa (aa (0,d)):=by
 unfold vS at h
 grind
theorem Ng {Y:aR}(h:(vA Y)[i]?=aa (aa d)):∃ n,Y[i]?=aa (aa (n,d)):=by
 unfold vA at h;rw[eU] at h;cases e:Y[i]? with
 |none=>rw[e] at h;simp at h
 |some s=>
  rw[e] at h;cases s with
  |none=>simp at h
  |some q=>
   grind
abbrev Hd (P0:aC->Prop)(fp:Nat->aan):aC->Prop:=λa=>P0 a\/∃ i,a∈fp i
structure Sta (K:aK)(H0:Hp)(P0:aC->Prop)(B0:Hp)(Y:aR)(Z:St)(H:Hp)(fp:Nat->List aC):Prop where
 len:Z.length=Y.length
 nd:∀ i,(fp i).Nodup
 dj:∀ i j a,a∈fp i->a∈fp j->i=j
 own:∀ i a,a∈fp i->H0 a=ab/\((∃ xs,H a=aa (.lst xs))\/∃ q:DQ,H a=aa (dO q))
 ext:Ext H0 H
 hd:Hid P0 H0
 base:Ext B0 (hid H (Hd P0 fp))
 slot:∀ (i:Nat) n d,Y[i]?=aa (aa (n,d))->∃ v,Z[i]?=aa (aa v)/\Aej K (hid H (Hd P0 fp)) H n d v (fp i)
section
variable {Y:aR}
theorem Sta.hid (S:Sta K H0 P0 B0 Y Z H fp):Hid (Hd P0 fp) H:=λa h=>by
 rcases h with h|⟨i,h⟩
 .exact S.hd.ext S.ext a h
 .exact(S.own i a h).2
theorem Sta.np (S:Sta K H0 P0 B0 Y Z H fp)(m:a∈fp i):¬ P0 a:=S.hd.new (S.own i a m).1
theorem Sta.grow (S:Sta K H0 P0 B0 Y Z H fp)(x:Ext H H'):Sta K H0 P0 B0 Y Z H' fp:=by
 refine⟨S.len,S.nd,S.dj,λi a m=>⟨(S.own i a m).1,(S.own i a m).2.imp (λ⟨xs,e⟩=>⟨xs,x _ _ e⟩) λ⟨xs,e⟩=>⟨xs,x _ _ e⟩⟩,S.ext.trans x,S.hd,S.base.trans (cN x),λi n d e=>?_⟩
 obtain⟨v,h1,h2⟩:=S.slot i n d e;refine⟨v,h1,h2.keep (cN x) λa m=>?_⟩
 rcases(S.own i a m).2 with⟨xs,e⟩|⟨xs,e⟩
 all_goals grind
theorem Sta.viewS (S:Sta K H0 P0 B0 Y Z H fp):Al7 K (L2.hid H (Hd P0 fp)) (vS Y) Z:=λi d e=>by
 obtain⟨v,h1,h2⟩:=S.slot i 0 d (Ql e);exact⟨v,h1,h2.2⟩
theorem Sta.viewA (S:Sta K H0 P0 B0 Y Z H fp):Al7 K (L2.hid H P0) (vA Y) Z:=λi d e=>by
 obtain⟨n,e⟩:=Ng e;obtain⟨v,h1,h2⟩:=S.slot i n d e;exact⟨v,h1,h2.share (gR λa p=>.inl p) λa m o e=>eO (S.np m) e⟩
def Tmp (K:aK)(H0:Hp)(P0:aC->Prop)(B0:Hp)(Y:aR)(Z:St)(n:Nat)(d:aA)(v:V)(H:Hp):Prop:=
 ∃ fp,Sta K H0 P0 B0 Y Z H fp/\Aej K (L2.hid H (Hd P0 fp)) H n d v (fp Y.length)
inductive Md|s|a
noncomputable def eV (n:Nat)(m:Md)(f:EF)(Y:aR):aaj:=match m with
 |.s=>f (vS Y)
 |.a=>(f (vA Y)).bind λd=>if fJ n d=af then aa d else ab
noncomputable def bV (m:Md)(f:BF)(Y:aR):Option Bool:=match m with
 |.s=>f (vS Y)
 |.a=>f (vA Y)
noncomputable def aV (m:Md)(f:AF)(Y:aR):Option aah:=match m with
 |.s=>f (vS Y)
 |.a=>f (vA Y)
def tE (K:aK)(H0:Hp)(P0:aC->Prop)(n:Nat)(m:Md)(f:EF):TE:=λZ H Q=>∃ B0 Y fp d,Sta K H0 P0 B0 Y Z H fp/\eV n m f Y=aa d/\∀ v H',Tmp K H0 P0 B0 Y Z n d v H'->Q v H'
end
theorem Sta.tmpA{Y:aR}{Fr:aan}(S:Sta K H0 P0 B0 Y Z H fp)(fl:fJ n d=af)(x:Ext H H')(nd:Fr.Nodup)(fr:∀ a∈Fr,H a=ab/\∃ o,H' a=aa o)(r:Aej K (L2.hid H' (cn P0 Fr)) H' n d v Fr):Tmp K H0 P0 B0 Y Z n d v H':=by
 have S':=S.grow x;have nfr:∀ i a,a∈fp i->a∉Fr:=λi a h1 h2=>by
  have:=(fr a h2).1;rcases(S.own i a h1).2 with⟨xs,e⟩|⟨xs,e⟩<;>rw[this] at e<;>first|cases e|(cases xs<;>simp[dO] at e)
 have xb:Ext (L2.hid H (Hd P0 fp)) (L2.hid H' (Hd P0 λi=>if i=Y.length then Fr else fp i)):=λb o e=>by
  obtain⟨nb,e⟩:=Abr.1 e;refine eO (λq=>?_) (x _ _ e)
  grind
 refine⟨λi=>if i=Y.length then Fr else fp i,⟨S.len,λi=>?_,λi j a hi hj=>?_,λi a hi=>?_,S'.ext,S.hd,S.base.trans xb,λi n' d' e'=>?_⟩,?_⟩
 .by_cases hi:i=Y.length
  .simp only[hi,if_true];exact nd
  .simp only[hi,if_false];exact S.nd i
 .by_cases h1:i=Y.length<;>by_cases h2:j=Y.length
  .rw[h1,h2]
  .grind
  .grind
  .simp only[h1,if_false] at hi;simp only[h2,if_false] at hj;exact S.dj i j a hi hj
 .by_cases h1:i=Y.length
  .simp only[h1,if_true] at hi;exact⟨S.ext.none (fr a hi).1,r.mut a hi⟩
  .simp only[h1,if_false] at hi;exact S'.own i a hi
 .have bm:=(cK.1 e').1;have h1:i≠Y.length:=()
  obtain⟨v2,p1,p2⟩:=S.slot i n' d' e';refine⟨v2,p1,?_⟩;simp only[h1,if_false];refine p2.keep xb λa m=>?_
  rcases(S.own i a m).2 with⟨xs,e⟩|⟨xs,e⟩
  all_goals grind
 .simp only[if_true];refine r.flat (λa xs e=>?_) fl
  obtain⟨na,e⟩:=Abr.1 e;refine eO (λq=>?_) e
  rcases q with q|⟨j,q⟩
  .exact na (.inl q)
  .by_cases hj:j=Y.length
   .grind
   .simp only[hj,if_false] at q;rcases(S'.own j a q).2 with⟨ys,e2⟩|⟨ys,e2⟩<;>rw[e] at e2<;>first|cases e2|(cases ys<;>simp[dO] at e2)
theorem SJ{f:EF}(m:Md):∀ Z H Q,tE K H0 P0 n m f Z H Q->tF K n f Z H Q:=λZ H Q gh=>by
 obtain⟨B0,Y,fp,d,S,ef,k⟩:=gh;cases m with
 |s=>
  refine⟨Hd P0 fp,vS Y,d,S.hid,S.viewS,ef,λv H' Fr x nd fr r=>k v H' ?_⟩
  have S':=S.grow x;have cg:∀ a,Hd P0 (λi=>if i=Y.length then Fr else fp i) a->cn (Hd P0 fp) Fr a:=λa h=>by
   grind
  have nfr:∀ i a,a∈fp i->a∉Fr:=λi a h1 h2=>by
   have:=(fr a h2).1;rcases(S.own i a h1).2 with⟨xs,e⟩|⟨xs,e⟩<;>rw[this] at e<;>first|cases e|(cases xs<;>simp[dO] at e)
  have xb:Ext (L2.hid H (Hd P0 fp)) (L2.hid H' (Hd P0 λi=>if i=Y.length then Fr else fp i)):=λb o e=>by
   obtain⟨nb,e⟩:=Abr.1 e;refine eO (λq=>?_) (x _ _ e)
   grind
  refine⟨λi=>if i=Y.length then Fr else fp i,⟨S.len,λi=>?_,λi j a hi hj=>?_,λi a hi=>?_,S'.ext,S.hd,S.base.trans xb,λi n' d' e'=>?_⟩,?_⟩
  .by_cases hi:i=Y.length
   .simp only[hi,if_true];exact nd
   .simp only[hi,if_false];exact S.nd i
  .by_cases h1:i=Y.length<;>by_cases h2:j=Y.length
   .rw[h1,h2]
   .grind
   .grind
   .simp only[h1,if_false] at hi;simp only[h2,if_false] at hj;exact S.dj i j a hi hj
  .by_cases h1:i=Y.length
   .simp only[h1,if_true] at hi;exact⟨S.ext.none (fr a hi).1,r.mut a hi⟩
   .simp only[h1,if_false] at hi;exact S'.own i a hi
  .have bm:=(cK.1 e').1;have h1:i≠Y.length:=()
   obtain⟨v',q1,q2⟩:=S'.slot i n' d' e';refine⟨v',q1,?_⟩;simp only[h1,if_false];obtain⟨v2,p1,p2⟩:=S.slot i n' d' e';have ev:=dY (dY (p1.symm.trans q1));subst ev;refine p2.keep xb λa m=>?_
   rcases(S.own i a m).2 with⟨xs,e⟩|⟨xs,e⟩
   all_goals grind
  .simp only[if_true];exact r.keep (gR cg) λa m=>rfl
 |a=>
  obtain⟨d',ed,ef⟩:=ao ef;obtain⟨fl,rfl⟩:=cL ef;exact⟨P0,vA Y,d',S.hd.ext S.ext,S.viewA,ed,λv H' Fr x nd fr r=>k v H' (S.tmpA fl x nd fr r)⟩
theorem ev {f:EF}(m:Md)(h:DF n X e f):PE X e (tE X.K H0 P0 n m f):=PE.imp h (SJ m)
def tB' (K:aK)(H0:Hp)(P0:aC->Prop)(m:Md)(f:BF):TT:=λZ H Q=>∃ B0 Y fp b,Sta K H0 P0 B0 Y Z H fp/\bV m f Y=aa b/\∀ H',Sta K H0 P0 B0 Y Z H' fp->Q b H'
theorem R0 {f:BF}(m:Md)(h:DT X e f):PT X e (tB' X.K H0 P0 m f):=PT.imp h λZ H Q gh=>by
 obtain⟨B0,Y,fp,b,S,ef,k⟩:=gh;cases m with
 |s=>exact⟨Hd P0 fp,vS Y,b,S.hid,S.viewS,ef,λH' x=>k H' (S.grow x)⟩
 |a=>exact⟨P0,vA Y,b,S.hd.ext S.ext,S.viewA,ef,λH' x=>k H' (S.grow x)⟩
inductive Out where
 |nx (Y:aR)|rt (d:aA)|bk (Y:aR)|ct (Y:aR)
abbrev SF:=aR->Option Out
def RS (K:aK)(H0:Hp)(P0:aC->Prop)(n0:Nat)(d:aA)(v:V)(H':Hp):Prop:=
 ∃ Fr,Ext H0 H'/\Fr.Nodup/\(∀ a∈Fr,H0 a=ab/\∃ o,H' a=aa o)/\Aej K (hid H' (cn P0 Fr)) H' n0 d v Fr
def Nj (K:aK)(H0:Hp)(P0:aC->Prop)(B0:Hp)(n0:Nat)(D:Ends):Out->Prop
 |.nx Y=>∀ Z H fp,Sta K H0 P0 B0 Y Z H fp->D.nx Z H
 |.bk Y=>∀ Z H fp,Sta K H0 P0 B0 Y Z H fp->D.bk Z H
 |.ct Y=>∀ Z H fp,Sta K H0 P0 B0 Y Z H fp->D.ct Z H
 |.rt d=>∀ v H',RS K H0 P0 n0 d v H'->D.rt v H'
def tS (K:aK)(H0:Hp)(P0:aC->Prop)(n0:Nat)(F:SF):TS:=λD Z H=>∃ B0 Y fp o,Sta K H0 P0 B0 Y Z H fp/\F Y=aa o/\Nj K H0 P0 B0 n0 D o
abbrev DS (X:Cx)(H0:Hp)(P0:aC->Prop)(n0:Nat)(s:eK)(F:SF):Prop:=PS X s (tS X.K H0 P0 n0 F)
abbrev iw (X:Cx)(H0:Hp)(P0:aC->Prop)(n0:Nat)(s:List eK)(F:SF):Prop:=PSs X s (tS X.K H0 P0 n0 F)
section
variable {s:eK}{ss:List eK}{F G:SF}{f:EF}
theorem PS.imp {t t':TS}(h:PS X s t)(w:∀ D Z H,t' D Z H->t D Z H):PS X s t':=λac st Z H D I q=>h ac st Z H D I (w _ _ _ q)
theorem PSs.imp {t t':TS}(h:PSs X ss t)(w:∀ D Z H,t' D Z H->t D Z H):PSs X ss t':=λac st Z H D I q=>h ac st Z H D I (w _ _ _ q)
def dS:SF:=λY=>aa (.nx Y)
noncomputable def aW (F G:SF):SF:=λY=>(F Y).bind λo=>match o with
 |.nx ρ'=>G ρ'
 |o=>aa o
theorem Rm:iw X H0 P0 n0 [] dS:=PSs.imp IF λD Z H gh=>by
 rw[7];cases ef;exact k Z H fp S
theorem Sr (h:DS X H0 P0 n0 s F):iw X H0 P0 n0 [s] F:=IK h
theorem WY (h:DS X H0 P0 n0 s F)(h2:iw X H0 P0 n0 ss G):iw X H0 P0 n0 (s::ss) (aW F G):=PSs.imp (JN h h2) λD Z H gh=>by
 rw[7];obtain⟨o1,e1,ef⟩:=ao ef;refine⟨B0,Y,fp,o1,S,e1,?_⟩;cases o1 with
 |nx ρ1=>exact λσ1 H1 wn S1=>⟨B0,ρ1,wn,o,S1,ef,k⟩
 |rt d=>cases ef;exact k
 |bk ρ1=>cases ef;exact k
 |ct ρ1=>cases ef;exact k
def cw (m:Md)(t:BF)(F G:SF):SF:=λY=>(bV m t Y).bind λb=>if b=af then F Y else G Y
theorem Mt{a b:List eK}{t:BF}(m:Md)(hc:DT X c t)(ha:iw X H0 P0 n0 a F)(hb:iw X H0 P0 n0 b G):DS X H0 P0 n0 (.If c a b pos) (cw m t F G):=
 PS.imp (HK (R0 m hc) ha hb) λD Z H gh=>by
  rw[7];obtain⟨b,e1,ef⟩:=ao ef;refine⟨B0,Y,fp,b,S,e1,λH1 S1=>?_⟩
  cases b with
  |true=>exact qR ⟨B0,Y,fp,o,S1,by simpa using ef,k⟩
  |false=>exact qX ⟨B0,Y,fp,o,S1,by simpa using ef,k⟩
noncomputable def frz (i:Nat)(Y:aR):aR:=match Y[i]? with
 |some (aa (_,d))=>Y.set i (aa (0,d))
 |_=>Y
theorem Sta.frz{Y:aR}(S:Sta K H0 P0 B0 Y Z H fp)(i:Nat):∃ bh,Sta K H0 P0 B0 (L2.frz i Y) Z H bh:=by
 unfold L2.frz;cases e:Y[i]? with
 |none=>exact⟨fp,S⟩
 |some s=>
  cases s with
  |none=>exact⟨fp,S⟩
  |some q=>
   obtain⟨n,d⟩:=q;have hi:=(cK.1 e).1;have cg:∀ a,Hd P0 (λj=>if j=i then [] else fp j) a->Hd P0 fp a:=λa h=>by
    grind
   refine⟨λj=>if j=i then [] else fp j,⟨by simp[S.len],λj=>?_,λj k a h1 h2=>?_,λj a h1=>?_,S.ext,S.hd,S.base.trans (gR cg),λj n' d' e'=>?_⟩⟩
   .by_cases hj:j=i
    .simp only[hj,if_true];exact .nil
    .simp only[hj,if_false];exact S.nd j
   .by_cases hj:j=i
    .simp only[hj,if_true] at h1;simp at h1
    .by_cases hk:k=i
     .simp only[hk,if_true] at h2;simp at h2
     .simp only[hj,if_false] at h1;simp only[hk,if_false] at h2;exact S.dj j k a h1 h2
   .by_cases hj:j=i
    .simp only[hj,if_true] at h1;simp at h1
    .simp only[hj,if_false] at h1;exact S.own j a h1
   .by_cases hj:j=i
    .subst hj;rw[nK hi] at e';cases e';obtain⟨v,h1,h2⟩:=S.slot j n d e;refine⟨v,h1,?_⟩;simp only[if_true];refine⟨rfl,h2.share (gR cg) λa m o q=>eO (λz=>?_) q⟩
     rcases z with z|⟨k,z⟩
     .exact S.np m z
     .by_cases hk:k=j
      .simp only[hk,if_true] at z;simp at z
      .simp only[hk,if_false] at z;exact hk (S.dj k j a z m)
    .rw[kG (λz=>hj z.symm)] at e'
     obtain⟨v,h1,h2⟩:=S.slot j n' d' e';refine⟨v,h1,?_⟩;simp only[hj,if_false];exact h2.keep (gR cg) λa m=>rfl
def gQ (i:Nat)(F:SF):SF:=λY=>F (frz i Y)
theorem Ve (i:Nat)(h:iw X H0 P0 n0 ss F):iw X H0 P0 n0 ss (gQ i F):=PSs.imp h λD Z H ⟨B0,Y,fp,o,S,ef,k⟩=>let ⟨bh,S'⟩:=S.frz i;⟨B0,_,bh,o,S',ef,k⟩
theorem Tmp.set{Y:aR}(t:Tmp K H0 P0 B0 Y Z n d v H)(hi:i<Y.length):∃ fp,Sta K H0 P0 B0 (Y.set i (aa (n,d))) (Z.set i (aa v)) H fp:=by
 obtain⟨fp,S,r⟩:=t;have df:Y.length≠i:=()
 have cg:∀ a,Hd P0 (λj=>if j=i then fp Y.length else if j=Y.length then [] else fp j) a->Hd P0 fp a:=λa h=>by
  grind
 have T2:∀ j a,a∈(if j=i then fp Y.length else if j=Y.length then [] else fp j)->(j=i/\a∈fp Y.length)\/(j≠i/\j≠Y.length/\a∈fp j):=λj a h=>by
  grind
 refine⟨λj=>if j=i then fp Y.length else if j=Y.length then [] else fp j,⟨by simp[S.len],λj=>?_,λj k a h1 h2=>?_,λj a h1=>?_,S.ext,S.hd,S.base.trans (gR cg),λj n' d' e'=>?_⟩⟩
 .by_cases hj:j=i
  .rw[if_pos hj];exact S.nd _
  .by_cases hk:j=Y.length
   .rw[if_neg hj,if_pos hk];exact .nil
   .rw[if_neg hj,if_neg hk];exact S.nd _
 .rcases T2 j a h1 with⟨e1,m1⟩|⟨e1,l1,m1⟩<;>rcases T2 k a h2 with⟨e2,m2⟩|⟨e2,l2,m2⟩
  .rw[e1,e2]
  .exact absurd (S.dj _ _ a m2 m1) l2
  .exact absurd (S.dj _ _ a m1 m2) l1
  .exact S.dj j k a m1 m2
 .rcases T2 j a h1 with⟨e1,m1⟩|⟨e1,l1,m1⟩
  .exact S.own _ a m1
  .exact S.own _ a m1
 .by_cases hj:j=i
  .subst hj;rw[nK hi] at e';cases e';refine⟨v,?_,?_⟩
   .rw[nK (by rw[S.len];exact hi)]
   .rw[if_pos rfl];exact r.keep (gR cg) λa m=>rfl
  .rw[kG (λz=>hj z.symm)] at e'
   have bm:=(cK.1 e').1;have hk:j≠Y.length:=()
   obtain⟨v',h1,h2⟩:=S.slot j n' d' e';refine⟨v',?_,?_⟩
   .grind
   .rw[if_neg hj,if_neg hk];exact h2.keep (gR cg) λa m=>rfl
def bO (i n:Nat)(m:Md)(f:EF):SF:=λY=>(eV n m f Y).bind λd=>if i<Y.length then aa (.nx (Y.set i (aa (n,d)))) else ab
theorem Py{ic:bH}(n:Nat)(m:Md)(hN:X.N.Nodup)(hi:X.N[i]?=aa x)(hx:jF X.env.scope x)(he:DF n X e f)(hs:kQ e (aa (.Name x ic)) pos.line X.env=pure ah:=by rfl)(hf:Fn X x:=by exact jI) :
  DS X H0 P0 n0 (.Assign [.Name x ic] e pos) (bO i n m f):=PS.imp (BW hN hi hx (ev m he) hs hf) λD Z H gh=>by
 rw[7];obtain⟨d,e1,ef⟩:=ao ef;obtain⟨hl,rfl⟩:=cL ef;refine⟨B0,Y,fp,d,S,e1,λv H' t=>?_⟩
 obtain⟨bh,S'⟩:=t.set hl;exact k _ _ bh S'
theorem Tmp.ret{Y:aR}(t:Tmp K H0 P0 B0 Y Z n d v H):RS K H0 P0 n d v H:=by
 obtain⟨fp,S,r⟩:=t;refine⟨fp Y.length,S.ext,S.nd _,λa m=>⟨(S.own _ a m).1,?_⟩,r.keep (gR λa h=>?_) λa m=>rfl⟩
 .rcases(S.own _ a m).2 with⟨xs,e⟩|⟨xs,e⟩
  all_goals grind
 all_goals grind
def cC (n:Nat)(m:Md)(f:EF):SF:=λY=>(eV n m f Y).bind λd=>aa (.rt d)
theorem Oo (m:Md)(he:DF n0 X e f):DS X H0 P0 n0 (.Return (aa e) pos) (cC n0 m f):=PS.imp (BJ (ev m he)) λD Z H gh=>by
 rw[7];obtain⟨d,e1,ef⟩:=ao ef;cases ef;exact⟨B0,Y,fp,d,S,e1,λv H' t=>k v H' t.ret⟩
noncomputable def jV (i n0:Nat):SF:=λY=>match Y[i]? with
 |some (aa (n,d))=>if n=n0 then aa (.rt d) else ab
 |_=>ab
theorem To (i:Nat)(hN:Nm X i x:=by exact hE):DS X H0 P0 n0 (.Return (aa (.Name x p)) pos) (jV i n0):=PS.imp (BJ (hN.pe)) λD Z H gh=>by
 rw[7];unfold jV at ef;cases e:Y[i]? with
 |none=>rw[e] at ef;simp at ef
 |some q=>
  cases q with
  |none=>rw[e] at ef;simp at ef
  |some q=>
   obtain⟨n,d⟩:=q;rw[e] at ef;obtain⟨rfl,rfl⟩:=cL ef;obtain⟨v,h1,h2⟩:=S.slot i n d e;refine⟨v,h1,k v H ⟨fp i,S.ext,S.nd i,λa m=>⟨(S.own i a m).1,?_⟩,h2.keep (gR λa h=>?_) λa m=>rfl⟩⟩
   .rcases(S.own i a m).2 with⟨xs,e⟩|⟨xs,e⟩
    all_goals grind
   all_goals grind
def qY (m:Md)(f:EF):SF:=λY=>(eV 0 m f Y).bind λ_=>aa (.nx Y)
theorem Vp (m:Md)(he:DE X e f)(hs:kQ e ab pos.line X.env=pure ah:=by rfl):DS X H0 P0 n0 (.Expr e pos) (qY m f):=PS.imp (yE (ev m he) hs) λD Z H gh=>by
 rw[7];obtain⟨d,e1,ef⟩:=ao ef;cases ef;refine⟨B0,Y,fp,d,S,e1,λv H' ⟨bh,S',r⟩=>k _ _ bh S'⟩
end
theorem b5:Acm X (.builtin "isinstance") (λxs H Q=>∃ x T t b,xs=[x,.ty T]/\TyOf X.K H x t/\Ja X.K t (.type T)=aa b/\Q (.bl b) H):=by
 rw[4];obtain⟨x,T,t,b,rfl,ty,e,q⟩:=h;obtain⟨u,w',rfl,ru,gv⟩:=vals2 r;cases gv;exact E3 I ru ty e λtk=>⟨.bl b,H,I.tok tk,rfl,q⟩
def BC (x:aE):It:=⟨λi _=>i<x.cps.size,λi H v H'=>H'=H/\∃ c,x.cps[i]?=aa c/\v=.str ⟨#[c]⟩,λi _=>x.cps.size<=i⟩
theorem ZW {P:bJ}{it:aC}{T3:Tok}{ty:String}
  (W:∀ A':bP,A'.handled=ab->Walks P w A' it [it] [it] x.cps.size (SignAt x) (λi h=>h.IsStrIter it ty x T3 i))
  (sf:∀ (A:bP) (i:Nat) (s:aH) (Q:aD->aH->Prop) (E:aD->aH->Prop),s.heap.IsStrIter it ty x T3 i->Q (.ref it) s->aL (aP P w) A (nE (.ref it)) Q E s)
  (ji:["enumerate","zip","dict_itemiterator","dict_reverseitemiterator","odict_iterator","itertools.zip_longest","itertools.pairwise"].contains ty=ah) :
  Turn P w K tg (BC x) [it] it (λi h=>h.IsStrIter it ty x T3 i/\i<=x.cps.size) where
 mem:=by simp
 obj:=λi h st b hb=>by
  have e:b=it:=by simpa using hb
  subst e;obtain⟨o,e,_,d⟩:=st.1
  grind
 keep:=λi h h' st k=>⟨let ⟨o,e,r⟩:=st.1;⟨o,k it (by simp) o e,r⟩,st.2⟩
 item:=by
  rw[1];obtain⟨f0,f1,f2,f3,f4,f5⟩:=hf it (by simp)
  refine(W X.A (I.ok.hd hc)).item i s _ _ hg st.1 λv h' tk hv fu kk=>?_
  obtain⟨c,u,hcx,rfl⟩:=hv;have I1:Inv X ac Z H { s with heap:=h',toks:=tk }:=I.turned (λb o hb e=>kk b o (by simpa using hb) e) f0 f1 f3 f4 f5
  obtain⟨o,e,hcl,d⟩:=id fu;exact⟨_,rfl,uU e hcl d ji ⟨.str ⟨#[c]⟩,H,I1,⟨u,rfl⟩,⟨rfl,c,hcx,rfl⟩,⟨fu,hg⟩,λb hb=>(hf b hb).1⟩⟩
 done:=by
  rw[1];obtain⟨f0,f1,f2,f3,f4,f5⟩:=hf it (by simp)
  have hi:=Nat.le_antisymm st.2 hg;subst hi;exact(W X.A (I.ok.hd hc)).done s _ _ st.1 λh' tk kk=>⟨rfl,I.turned (λb o hb e=>kk b o (by simpa using hb) e) f0 f1 f3 f4 f5⟩
 self:=λA i s Q E st h=>sf A i s Q E st.1 h
def Li (tl:TE):TI:=λZ H R=>tl Z H λv H1=>∃ x,v=.str x/\R (BC x) H1
theorem Qn {X:Cx}{l:aQ}{tl:TE}(hl:PE X l tl):PI X tg l (Li tl):=by
 intro ac s Z H R I h;refine bb (hl ac s Z H _ I h) λv s1 gh=>?_
 obtain⟨y,H1,I1,r1,q1⟩:=gh;obtain⟨x,rfl,q⟩:=q1;obtain⟨t,rfl⟩:=r1;have fin:∀ (o:bD) (ty:String),Turn X.prog X.w X.K tg (BC x) [s1.heap.objs.size] s1.heap.objs.size (λi h=>h.IsStrIter s1.heap.objs.size ty x t i/\i<=x.cps.size)->(s1.heap.push o).IsStrIter s1.heap.objs.size ty x t 0 ->
   X2 X ac Z tg R (.ref s1.heap.objs.size) { s1 with heap:=s1.heap.push o }:=λo ty T st=>by
  refine⟨s1.heap.objs.size,[s1.heap.objs.size],_,_,H1,rfl,I1.kept λb o e=>bF _ e,T,⟨st,eG _⟩,λb hb=>?_,q⟩
  have e:b=s1.heap.objs.size:=by simpa using hb
  subst e;exact I1.fpOk (bB _) (I1.hok.fresh (bB _))
 cases ha:x.cps.all (· < 128)
 .exact wpAny_pyIter_wide ha (fin _ "str_iterator" (ZW (λA' hA=>Walks.strWide hA _ x t) (λA i s Q E st h=>wpAny_pyIter_striter_wide st h) nofun) ⟨_,cI _ rfl,rfl,rfl⟩)
 .exact wpAny_pyIter_ascii ha (fin _ "str_ascii_iterator" (ZW (λA' hA=>Walks.strAscii hA _ x t) (λA i s Q E st h=>wpAny_pyIter_striter_ascii st h) nofun) ⟨_,cI _ rfl,rfl,rfl⟩)
def allB (xs:aai):Bool:=xs.all λv=>decide (v=.bl af)
theorem E4 (hc:X.calm=af):Acm X (.builtin "all") (λxs H Q=>∃ p ys,xs=[.ref p]/\SqL X.K H p ys/\(∀ y∈ys,∃ b,y=.bl b)/\Q (.bl (allB ys)) H):=by
 rw[4];obtain⟨p,ys,rfl,hs,hb,q⟩:=h;obtain⟨u,rfl,ru⟩:=vals1 r;cases ru;obtain⟨its,rv,pl,hz⟩:=I.list hs;have hl:=pl.isList;have bm:p<s.heap.objs.size:=by obtain⟨o,n,e,_⟩:=pl;exact bM e
 have hh:=I.ok.hd hc;have len:=rv.length;refine call_all_walk (wD hl ⟨s.heap.objs.size,_,_,_,_,_,λi=>decide (ys[i]?=aa (.bl af)),rfl,Walks.list (A:=X.A.in1) hh s.heap.objs.size p (cO bm) its.toArray,
  ⟨⟨_,cI _ rfl,rfl,rfl⟩,hl.at λo e=>bF _ e⟩,?_,?_⟩)
 .intro i v s' Q' E' hv hq;have xp:its[i]?=aa v:=by simpa using hv
  have hi:i<ys.length:=by rw[len];exact(cK.1 xp).1
  obtain⟨b,hy⟩:=hb ys[i] (qK hi);have ut:ys[i]?=aa (.bl b):=by rw[fY hi,hy]
  obtain⟨u',h1,h2⟩:=rv.get ut;rw[xp] at h1;cases h1;cases h2;refine FO ?_;have:decide (ys[i]?=aa (V.bl af))=b:=by rw[ut];cases b<;>simp
  grind
 .intro h' tk hk;have e:((bW its.toArray.size).all λi=>decide (ys[i]?=aa (V.bl af)))=allB ys:=by
   have hn:its.toArray.size=ys.length:=by simp[len]
   rw[hn];unfold allB;rw[nL];simp only[cY,eR,decide_eq_true_eq];constructor
   .intro h v hv;obtain⟨i,hi,rfl⟩:=qJ hv
    grind
   .intro h i hi;rw[fY hi,h _ (qK hi)]
  rw[e];refine⟨.bl (allB ys),H,?_,rfl,q⟩;exact I.kept λb o eb=>hk b o (by simp;exact cO (bM eb)) (bF _ eb)
structure Def (P:bJ)(w:bA)(K:aK)(mg:aE->Option aD)(base:aU)(x:aE)(k:Nat)(ps:List aE)(sp:Sp):Prop where
 ex:∃ f fd,FnOk P w K mg base nu k f fd ps sp/\mg x=aa (.ref f)/\FW K (.ref f)=af/\Binds K fd ps []
section
variable {k:Nat}{t:TA}
theorem VJ (D:Def X.prog X.w X.K X.mg X.base x k ps sp)(hr:Room k X.A)(hg:Gl X x)(ha:PA X (e::es) t)(ie:(x==("__debug__" : aE))=ah:=by decide)(he:bX (e::es) X.env=(ah,bY e X.env)::bX es X.env:=by rfl)
  (cz:(gL pos (bX es X.env)).any (·.1)=ah:=by rfl):PE X (.Call (.Name x p) (e::es) [] pos) (SV sp [] E0 t):=by
 obtain⟨f,fd,F,hm,hk,hb⟩:=D.ex;exact Vo F hr hg hm hk hb .nil Mj ha ie he cz
end
def HH (a b:String):Option Bool:=if (kE a==kE b)=af then aa af else if PySem.W.kitMeta b=af then(fastBuiltinMro a).map (·.contains (.type b)) else ab
theorem Akk{a b:String}:Ja K (.type a) (.type b)=HH a b:=rfl
def kinds:List String:=["NoneType","bool","int","str","list","tuple","dict"]
def qu (t T:String):Bool:=t==T||(t == "bool" && T == "int")
theorem Wg:(kinds.all λt=>["int","bool","str","list","tuple","dict"].all λT=>decide (HH t T=aa (qu t T)))=af:=by rw[0]
theorem Rk {t:String}(ht:t∈kinds)(hT:T∈["int","bool","str","list","tuple","dict"]):HH t T=aa (qu t T):=by
 have h:=cY.1 Wg t ht
 grind
theorem Mi(hg:Gl X x)(hm:X.mg x=ab)(hv:mM x=aa (.type T))(hn:x ≠ "__name__":=by decide)(hd:(x==("__debug__" : aE))=ah:=by decide):PE X (.Name x pos) (tC (.ty T)):=
 Tf hg hm hv rfl hn hd
theorem boot_isinstance:mM "isinstance" = aa (.builtin "isinstance"):=by rw[0]
theorem boot_all:mM "all" = aa (.builtin "all"):=by rw[0]
theorem bits_le {i:Int}(h:i.natAbs<2^n):mQ i<=n:=by
 unfold mQ;split
 .exact eG _
 .rename_i df;have h0:i.natAbs≠0:=by
   grind
  have:=(Nat.log2_lt h0).2 h
  lia
theorem Sm:OpR X (kC .Mult) (rI (λi j=>i.natAbs<2^1000/\j.natAbs<2^1000) λi j=>.int (i*j)):=yh λi j _ _ _ _ _ hc q=>
 mul_int q (M7 (bits_le hc.1) (bits_le hc.2) nofun)
theorem HM{k:Nat}(hr:Room k A):A.units+100<cLine:=by
 have:=hr.un
 lia
theorem MX:∀ {xs:aai} {us:aam},xs.length=us.length->(∀ (j:Nat) x u,xs[j]?=aa x->us[j]?=aa u->RelV x u)->Vals xs us
 |[],[],_,_=>.nil
 |[],_::_,h,_=>by simp at h
 |_::_,[],h,_=>by simp at h
 |x::xs,u::us,h,r=>.cons (r 0 x u rfl rfl) (MX (by simpa using h) λj y w h1 h2=>r (j+1) y w (by simpa using h1) (by simpa using h2))
def sS (c:Nat):V:=.str ⟨#[c]⟩
theorem Xv (hc:X.calm=af):Acm X (.type "list") (λxs H Q=>∃ z:aE,xs=[.str z]/\z.length<=sizeLine/\∀ l,H l=ab->Q (.ref l) (upd H l (.lst (z.cps.toList.map sS)))):=by
 rw[4];obtain⟨z,rfl,hz,q⟩:=h;obtain⟨u,rfl,t,rfl⟩:=vals1 r;refine call_list_str (I.ok.hd hc) z t (λh' tk bp c' hk hS ca=>?_) hz
 have hv:Vals (z.cps.toList.map sS) bp.toList:=by
  refine MX (by simp[ca.1]) λj x u h1 h2=>?_
  obtain⟨c,t',oh,rfl⟩:=ca.2 j u (by simpa using h2)
  have:(z.cps.toList.map sS)[j]?=aa (sS c):=by simp[oh]
  rw[this] at h1;cases h1;exact⟨t',rfl⟩
 exact⟨.ref s.heap.objs.size,_,I.laid hk (bB _) (show Acj X.prog X.w _ h' _ (.lst (z.cps.toList.map sS)) from⟨by rw[cJ,jU];exact hz,bp.toList,c',hv,by simpa using hS⟩),rfl,q _ I.fresh⟩
def ky (K:aK)(B:Hp)(J:It)(ds:aah):Prop:=∀ (i:Nat) (H2:Hp),Ext B H2 ->
 (∀ d,ds[i]?=aa d->J.go i H2/\∀ x H3,J.yld i H2 x H3->Ext H2 H3/\∀ P2,Hid P2 H2->Ext B (hid H2 P2)->Abj K (hid H3 P2) d x)/\(ds.length=i->J.stop i H2)
def tI (K:aK)(f:AF):TI:=λZ H R=>∃ P Y ds,Hid P H/\Al7 K (hid H P) Y Z/\f Y=aa ds/\∀ J H',Ext H H'->ky K (hid H' P) J ds->R J H'
def tI0 (K:aK)(f:AF):TI:=λZ H R=>∃ P Y ds,Hid P H/\Al7 K (hid H P) Y Z/\f Y=aa ds/\∀ J H',Ext H H'->ky K (λ_=>ab) J ds->R J H'
abbrev DI (X:Cx)(tg e:aQ)(f:AF):Prop:=PI X tg e (tI X.K f)
abbrev Q5 (X:Cx)(tg e:aQ)(f:AF):Prop:=PI X tg e (tI0 X.K f)
noncomputable def itemsOf:aA->Option aah
 |.list ds=>aa ds
 |.tuple ds=>aa ds
 |.str x=>aa (x.cps.toList.map λc=>.str ⟨#[c]⟩)
 |_=>ab
def bg (f:EF):AF:=λY=>(f Y).bind itemsOf
section
variable {a:aQ}
theorem PI.imp {t t':TI}(h:PI X tg e t)(w:∀ Z H R,t' Z H R->t Z H R):PI X tg e t':=λac s Z H R I q=>h ac s Z H R I (w _ _ _ q)
theorem PI.or {t t':TI}(h:PI X tg e t)(h':PI X tg e t'):PI X tg e (λZ H R=>t Z H R\/t' Z H R):=λac s Z H R I q=>q.elim (h ac s Z H R I) (h' ac s Z H R I)
theorem XE{B:Hp}{a:aC}(h:SqL K B a xs)(r:Aak K B ds xs):ky K B (GT K a) ds:=λi H2 x2=>by
 have h2:=x2.sqL h;refine⟨λd hd=>?_,λe=>⟨xs,h2,by rw[r.length];lia⟩⟩
 obtain⟨v,h3,h4⟩:=r.get hd;refine⟨⟨xs,v,h2,h3⟩,?_⟩;rintro x H3 ⟨rfl,hx⟩;have:=h3.symm.trans (hx xs h2);cases this;exact⟨Ext.refl,λP2 _ xb=>h4.ext xb⟩
theorem Uy{B:Hp}{a:aC}(h:B a=aa (.tup xs))(r:Aak K B ds xs):ky K B (GR K a) ds:=λi H2 x2=>by
 have h2:SqT K H2 a xs:=SqT.of (x2 _ _ h);refine⟨λd hd=>?_,λe=>⟨xs,h2,by rw[r.length];lia⟩⟩
 obtain⟨v,h3,h4⟩:=r.get hd;refine⟨⟨xs,v,h2,h3⟩,?_⟩;rintro x H3 ⟨rfl,hx⟩;have:aa v=aa x:=h3.symm.trans (hx xs h2);cases this;exact⟨Ext.refl,λP2 _ xb=>h4.ext xb⟩
theorem KZ {z:aE}{c:Nat}(h:cH (.str z)=af)(hc:z.cps.toList[i]?=aa c):cH (.str ⟨#[c]⟩)=af:=by
 have hz:∀ d∈z.cps,d<0x110000:=by
  have h':z.cps.all (· < 0x110000)=af:=by simpa only[cH,PyData.strOk] using h
  intro d hd;exact of_decide_eq_true (Array.all_eq_true'.1 h' d hd)
 have:=hz c (by simpa using eT hc)
 simp[cH,PyData.strOk,this]
theorem Su{B:Hp}{z:aE}(hl:cH (.str z)=af):ky K B (BC z) (z.cps.toList.map λc=>.str ⟨#[c]⟩):=λi H2 x2=>by
 refine⟨λd hd=>?_,λe=>?_⟩
 .rw[eU] at hd;cases hc:z.cps.toList[i]? with
  |none=>rw[hc] at hd;simp at hd
  |some c=>
   rw[hc] at hd;have hd:cE ⟨#[c]⟩=d:=by simpa using hd
   subst hd;have bm:i<z.cps.size:=by simpa using(cK.1 hc).1
   refine⟨bm,?_⟩;rintro x H3 ⟨rfl,c',cy,rfl⟩;have:z.cps.toList[i]?=aa c':=by simpa using cy
   rw[hc] at this;cases this;exact⟨Ext.refl,λP2 _ _=>Aa0.2 ⟨rfl,KZ hl hc⟩⟩
 .have:z.cps.size=i:=by simpa using e
  exact QJ this
theorem E8{lo:Int}{B:Hp}:ky K B (BD lo n) ((bW n).map λ(k:Nat)=>aT (lo+k)):=λi H2 x2=>by
 refine⟨λd hd=>?_,λe=>?_⟩
 .have bm:i<n:=by
   have:=(cK.1 hd).1;simpa using this
  have jw:aT (lo+i)=d:=by
   rw[eU,QU bm] at hd;simpa using hd
  subst jw;refine⟨bm,?_⟩;rintro x H3 ⟨rfl,rfl⟩;exact⟨Ext.refl,λP2 _ _=>Aah.2 rfl⟩
 .have:n=i:=by simpa using e
  exact QJ this
theorem CD {f:EF}(h:DE X e f):DI X tg e (bg f):=PI.imp (PI.or (Hl h) (PI.or (Os h) (Qn h))) λZ H R gh=>by
 obtain⟨P,Y,ds,hP,rs,ef,k⟩:=gh;obtain⟨d,e1,ef⟩:=ao ef;cases d with
 |list ke=>
  have:ke=ds:=by simpa [itemsOf] using ef
  rw[12];refine .inl ⟨P,Y,_,hP,rs,e1,dR λv H1 x1 r1=>?_⟩
  obtain⟨a,xs,rfl,hr,rr⟩:=Aa8.1 r1;exact⟨a,rfl,⟨xs,Aal.sqL hr⟩,k _ H1 x1 (XE hr rr)⟩
 |tuple ke=>
  have:ke=ds:=by simpa [itemsOf] using ef
  rw[12];refine .inr (.inl ⟨P,Y,_,hP,rs,e1,dR λv H1 x1 r1=>?_⟩)
  obtain⟨a,xs,rfl,hr,rr⟩:=Aap.1 r1;exact⟨a,rfl,⟨xs,SqT.of (Aal _ _ hr)⟩,k _ H1 x1 (Uy hr rr)⟩
 |str z=>
  have:z.cps.toList.map (λc=>cE ⟨#[c]⟩)=ds:=by simpa [itemsOf] using ef
  rw[12];refine .inr (.inr ⟨P,Y,_,hP,rs,e1,dR λv H1 x1 r1=>?_⟩)
  exact⟨z,(Aa0.1 r1).1,k _ H1 x1 (Su (Aa0.1 r1).2)⟩
 |_=>simp[itemsOf] at ef
noncomputable def HA (lo hi:Int):Option aah:=if -(2^62)<=lo/\lo<2^62 /\ -(2^62)<=hi/\hi<2^62 then aa ((bW (hi-lo).toNat).map λ(k:Nat)=>aT (lo+k)) else ab
def jd (fa:AF):AF:=λY=>(fa Y).bind λds=>match ds with
 |[.int j]=>HA 0 j
 |_=>ab
theorem D2 {fa:AF}(hg:Gl X "range")(hm:X.mg "range" = ab)(ha:DA X [a] fa)(hs:bX [a] X.env=[(ah,bY a X.env)]:=by rfl):Q5 X tg (.Call (.Name "range" p) [a] [] pos) (jd fa):=PI.imp (Xq hg hm ha hs) λZ H R gh=>by
 obtain⟨P,Y,ds,hP,rs,ef,k⟩:=gh;obtain⟨as,e1,ef⟩:=ao ef;refine⟨P,Y,as,hP,rs,e1,λvs H1 x1 r1=>?_⟩
 split at ef
 .rename_i j;obtain⟨hb,rfl⟩:=cL ef;obtain⟨v,t,rfl,h1,h2⟩:=Aae.1 r1;obtain rfl:=Aai.1 h2;obtain rfl:=Aah.1 h1;have e0:(j-0).toNat=j.toNat:=by simp
  refine⟨j,rfl,hb.2.2.1,hb.2.2.2,k _ H1 x1 ?_⟩;rw[e0];exact E8
 .cases ef
theorem VG {f:AF}(h:Q5 X tg e f):DI X tg e f:=PI.imp h λZ H R ⟨P,Y,ds,hP,rs,ef,k⟩=>⟨P,Y,ds,hP,rs,ef,λJ H' x it=>k J H' x λi H2 x2=>by
 obtain⟨h1,h2⟩:=it i H2 (λ_ _ e=>by cases e)
 exact⟨λd hd=>⟨(h1 d hd).1,λv H3 y=>⟨((h1 d hd).2 v H3 y).1,λP2 hp _=>((h1 d hd).2 v H3 y).2 P2 hp λ_ _ e=>by cases e⟩⟩,h2⟩⟩
def tI' (K:aK)(H0:Hp)(P0:aC->Prop)(m:Md)(f:AF):TI:=λZ H R=>∃ B0 Y fp ds,Sta K H0 P0 B0 Y Z H fp/\aV m f Y=aa ds/\∀ J B1 H',Sta K H0 P0 B1 Y Z H' fp->Ext B0 B1->ky K B1 J ds->R J H'
theorem Sta.rebase{B1:Hp}{Y:aR}(S:Sta K H0 P0 B0 Y Z H fp)(b:Ext B1 (L2.hid H (Hd P0 fp))):Sta K H0 P0 B1 Y Z H fp:=⟨S.len,S.nd,S.dj,S.own,S.ext,S.hd,b,S.slot⟩
theorem evI {f:AF}(h:DI X tg e f):PI X tg e (tI' X.K H0 P0 .s f):=PI.imp h λZ H R ⟨B0,Y,fp,ds,S,ef,k⟩=>
 ⟨Hd P0 fp,vS Y,ds,S.hid,S.viewS,ef,λJ H' x it=>k J _ H' ((S.grow x).rebase Ext.refl) (S.grow x).base it⟩
theorem Lp {f:AF}(m:Md)(h:Q5 X tg e f):PI X tg e (tI' X.K H0 P0 m f):=PI.imp h λZ H R gh=>by
 obtain⟨B0,Y,fp,ds,S,ef,k⟩:=gh;have up:∀ {J:It} {B:Hp},ky X.K (λ_=>ab) J ds->ky X.K B J ds:=λ{J B} it i H2 x2=>by
  obtain⟨h1,h2⟩:=it i H2 (λ_ _ e=>by cases e)
  exact⟨λd hd=>⟨(h1 d hd).1,λv H3 y=>⟨((h1 d hd).2 v H3 y).1,λP2 hp _=>((h1 d hd).2 v H3 y).2 P2 hp λ_ _ e=>by cases e⟩⟩,h2⟩
 cases m with
 |s=>exact⟨Hd P0 fp,vS Y,ds,S.hid,S.viewS,ef,λJ H' x it=>k J _ H' (S.grow x) Ext.refl (up it)⟩
 |a=>exact⟨P0,vA Y,ds,S.hd.ext S.ext,S.viewA,ef,λJ H' x it=>k J _ H' (S.grow x) Ext.refl (up it)⟩
end
def tG (K:aK)(H0:Hp)(P0:aC->Prop)(T:aA->aR->Option aR):TG:=λv Z H Q=>∃ B0 Y fp d ρ',Sta K H0 P0 B0 Y Z H fp/\Abj K (hid H (Hd P0 fp)) d v/\T d Y=aa ρ'/\∀ σ' bh,Sta K H0 P0 B0 ρ' σ' H bh->Q σ' H
abbrev DG (X:Cx)(H0:Hp)(P0:aC->Prop)(tg:aQ)(T:aA->aR->Option aR):Prop:=PG X tg (tG X.K H0 P0 T)
theorem PG.imp{t t':TG}(h:PG X tg t)(w:∀ v Z H Q,t' v Z H Q->t v Z H Q):PG X tg t':=λac s Z H v u Q I r q=>h ac s Z H v u Q I r (w _ _ _ _ q)
theorem Sta.Akw{Y:aR}(S:Sta K H0 P0 B0 Y Z H fp)(r:Abj K (L2.hid H (Hd P0 fp)) d v)(hi:i<Y.length):∃ bh,Sta K H0 P0 B0 (Y.set i (aa (0,d))) (Z.set i (aa v)) H bh:=by
 have cg:∀ a,Hd P0 (λj=>if j=Y.length then [] else fp j) a->Hd P0 fp a:=λa h=>by
  rcases h with h|⟨j,h⟩
  .exact .inl h
  .by_cases hj:j=Y.length
   .simp only[hj,if_true] at h;simp at h
   .simp only[hj,if_false] at h;exact .inr ⟨j,h⟩
 have S2:Sta K H0 P0 B0 Y Z H (λj=>if j=Y.length then [] else fp j):=by
  refine⟨S.len,λj=>?_,λj k a h1 h2=>?_,λj a h1=>?_,S.ext,S.hd,S.base.trans (gR cg),λj n d e=>?_⟩
  .by_cases hj:j=Y.length
   .simp only[hj,if_true];exact .nil
   .simp only[hj,if_false];exact S.nd j
  .by_cases hj:j=Y.length
   .simp only[hj,if_true] at h1;simp at h1
   .by_cases hk:k=Y.length
    .simp only[hk,if_true] at h2;simp at h2
    .simp only[hj,if_false] at h1;simp only[hk,if_false] at h2;exact S.dj j k a h1 h2
  .by_cases hj:j=Y.length
   .simp only[hj,if_true] at h1;simp at h1
   .simp only[hj,if_false] at h1;exact S.own j a h1
  .have bm:=(cK.1 e).1;have hj:j≠Y.length:=()
   obtain⟨v',h1,h2⟩:=S.slot j n d e;refine⟨v',h1,?_⟩;simp only[hj,if_false];exact h2.keep (gR cg) λa m=>rfl
 refine Tmp.set ⟨_,S2,?_⟩ hi;simp only[if_true];exact⟨rfl,r.ext (gR cg)⟩
noncomputable def dw (i:Nat):aA->aR->Option aR:=λd Y=>if i<Y.length then aa (Y.set i (aa (0,d))) else ab
theorem Si(hN:X.N.Nodup)(hi:X.N[i]?=aa x)(hx:jF X.env.scope x)(hf:Fn X x:=by exact jI):DG X H0 P0 (.Name x pos) (dw i):=
 PG.imp (nZ hN hi hx hf) λv Z H Q gh=>by
  obtain⟨B0,Y,fp,d,ρ',S,r,ef,k⟩:=gh;obtain⟨hl,rfl⟩:=cL ef;obtain⟨bh,S'⟩:=S.Akw r hl;exact k _ bh S'
def nN (i j:Nat):aA->aR->Option aR:=λd Y=>match d with
 |.tuple [a,b]=>(dw i a Y).bind λρ'=>dw j b ρ'
 |_=>ab
theorem Rl{p1:bH}{k}(hc:X.calm=af)(hN:X.N.Nodup)(hi:X.N[i]?=aa x)(hj:X.N[j]?=aa y)(hx:jF X.env.scope x)(hy:jF X.env.scope y)
  (hf:Fn X x:=by exact jI) (ze:Fn X y:=by exact jI)
  (hn:(eZ [.Name x p1,.Name y p2] X.env).length=2:=by rfl) (dm:(eZ [.Name x p1,.Name y p2] X.env).findIdx? (·.1)=ab:=by rfl)
  (h1:(eZ [.Name x p1,.Name y p2] X.env).map (·.2)=jR (.Name x p1) X.env::(eZ [.Name y p2] X.env).map (·.2):=by rfl) (h2:(eZ [.Name y p2] X.env).map (·.2)=jR (.Name y p2) X.env::(eZ [] X.env).map (·.2):=by rfl):DG X H0 P0 (.Tuple [.Name x p1,.Name y p2] k pos) (nN i j):=
 PG.imp (IC hc (rN (nZ hN hi hx hf) (rN (nZ hN hj hy ze) CQ h2) h1) hn dm) λv Z H Q gh=>by
  obtain⟨B0,Y,fp,d,ρ',S,r,ef,k⟩:=gh;unfold nN at ef;split at ef
  .rename_i a b;obtain⟨ρ1,e1,e2⟩:=ao ef;obtain⟨l1,rfl⟩:=cL e1;obtain⟨l2,rfl⟩:=cL e2;obtain⟨p,xs,rfl,hp,rr⟩:=Aap.1 r;obtain⟨v1,t1,rfl,r1,rr⟩:=Aae.1 rr;obtain⟨v2,t2,rfl,r2,rr⟩:=Aae.1 rr;obtain rfl:=Aai.1 rr;refine⟨p,_,rfl,SqT.of (Aal _ _ hp),rfl,v1,_,rfl,v2,_,rfl,rfl,?_⟩;have Sb:=S.rebase Ext.refl;obtain⟨wn,S1⟩:=Sb.Akw r1 l1;obtain⟨fj,S2⟩:=S1.Akw (r2.ext S1.base) l2;exact k _ fj (S2.rebase (S.base.trans S2.base))
  .cases ef
noncomputable def iL (F:SF)(T:aA->aR->Option aR):aah->SF
 |[],Y=>aa (.nx Y)
 |d::r,Y=>(T d Y).bind λρ1=>(F ρ1).bind λo=>match o with
  |.nx ρ'=>iL F T r ρ'
  |.ct ρ'=>iL F T r ρ'
  |.bk ρ'=>aa (.nx ρ')
  |.rt d=>aa (.rt d)
def cT (m:Md)(fi:AF)(T:aA->aR->Option aR)(F:SF):SF:=λY=>(aV m fi Y).bind λds=>iL F T ds Y
section
variable {body:List eK}{F:SF}{T:aA->aR->Option aR}{fi:AF}{m:Md}
theorem KN (hp:wV (aP X.prog X.w) X.A X.env X.xe)(hc:X.calm=af)(hi:PI X tg az (tI' X.K H0 P0 m fi))(hg:DG X H0 P0 tg T)(hb:iw X H0 P0 n0 body F)
  (hs:∀ x,oM az X.env x=pure x:=by intro _;rfl):DS X H0 P0 n0 (.For tg az body [] pos) (cT m fi T F):=PS.imp (Rq hp hc hi hg hb hs) λD Z H gh=>by
 rw[7];obtain⟨ds,e1,ef⟩:=ao ef;refine⟨B0,Y,fp,ds,S,e1,λJ B1 H' S1 xb it=>?_⟩
 refine⟨λi m Z H=>m=ds.length-i/\i<=ds.length/\∃ Y fp,Sta X.K H0 P0 B1 Y Z H fp/\iL F T (ds.drop i) Y=aa o,⟨ds.length,by simp,eG _,Y,fp,S1,by simpa using ef⟩,?_⟩
 rintro i m σ2 H2 ⟨rfl,hi,ρ2,fj,S2,e2⟩;have x2:=S2.base.trans Aal;obtain⟨go,st⟩:=it i H2 x2;by_cases bm:i<ds.length
 .have hd:=fY bm;rw[GI bm] at e2;obtain⟨ρ3,e3,e2⟩:=ao e2;obtain⟨o3,e4,e2⟩:=ao e2;obtain⟨g1,g2⟩:=go _ hd;refine .inr ⟨g1,λσ' H'=>i+1<=ds.length/\∃ Y fp,Sta X.K H0 P0 B1 Y σ' H' fp/\iL F T (ds.drop (i+1)) Y=aa o,λσ' H' ⟨h1,h2⟩=>⟨ds.length-(i+1),(),rfl,h1,h2⟩,λx H3 y=>?_⟩
  obtain⟨x3,r3⟩:=g2 x H3 y;refine⟨B1,ρ2,fj,_,ρ3,S2.grow x3,r3 _ S2.hid S2.base,e3,λσ4 Ps S4=>⟨B1,ρ3,Ps,o3,S4,e4,?_⟩⟩
  cases o3 with
  |nx ρ5=>exact λσ5 H5 sK S5=>⟨bm,ρ5,sK,S5,e2⟩
  |ct ρ5=>exact λσ5 H5 sK S5=>⟨bm,ρ5,sK,S5,e2⟩
  |bk ρ5=>
   cases e2;exact λσ5 H5 sK S5=>k σ5 H5 sK (S5.rebase (xb.trans S5.base))
  |rt d=>
   cases e2;exact k
 .have e:i=ds.length:=()
  subst e;rw[Ka] at e2;cases e2;exact .inl ⟨st rfl,k σ2 H2 fj (S2.rebase (xb.trans S2.base))⟩
theorem sX (hp:wV (aP X.prog X.w) X.A X.env X.xe)(hc:X.calm=af)(hi:DI X tg az fi)(hg:DG X H0 P0 tg T)(hb:iw X H0 P0 n0 body F)
  (hs:∀ x,oM az X.env x=pure x:=by intro _;rfl):DS X H0 P0 n0 (.For tg az body [] pos) (cT .s fi T F):=KN hp hc (evI hi) hg hb hs
theorem Sz (m:Md)(hp:wV (aP X.prog X.w) X.A X.env X.xe)(hc:X.calm=af)(hi:Q5 X tg az fi)(hg:DG X H0 P0 tg T)(hb:iw X H0 P0 n0 body F)
  (hs:∀ x,oM az X.env x=pure x:=by intro _;rfl):DS X H0 P0 n0 (.For tg az body [] pos) (cT m fi T F):=KN hp hc (Lp m hi) hg hb hs
end
def su (m:Md)(t:BF)(F:SF):Nat->SF
 |0,_=>ab
 |n+1,Y=>(bV m t Y).bind λb=>if b=af then(F Y).bind λo=>match o with
   |.nx ρ'=>su m t F n ρ'
   |.ct ρ'=>su m t F n ρ'
   |.bk ρ'=>aa (.nx ρ')
   |.rt d=>aa (.rt d)
  else aa (.nx Y)
section
variable {body:List eK}{F:SF}{t:BF}
theorem z8 (m:Md)(fuel:Nat)(hp:wV (aP X.prog X.w) X.A X.env X.xe)(hc:DT X c t)(hb:iw X H0 P0 n0 body F):DS X H0 P0 n0 (.While c body [] pos) (su m t F fuel):=
 PS.imp (Wz hp (R0 m hc) hb) λD Z H gh=>by
  rw[7];refine⟨λn Z H=>∃ Y fp,Sta X.K H0 P0 B0 Y Z H fp/\su m t F n Y=aa o,⟨fuel,Y,fp,S,ef⟩,?_⟩
  rintro n σ1 H1 ⟨ρ1,wn,S1,e1⟩;cases n with
  |zero=>cases e1
  |succ n=>
   obtain⟨b,e2,e1⟩:=ao e1;refine⟨B0,ρ1,wn,b,S1,e2,λH2 S2=>?_⟩
   cases b with
   |false=>
    have:aa (Out.nx ρ1)=aa o:=by simpa using e1
    cases this;exact qX (k σ1 H2 wn S2)
   |true=>
    rw[if_pos rfl] at e1;obtain⟨o3,e4,e1⟩:=ao e1;refine qR ⟨λσ' H'=>∃ Y fp,Sta X.K H0 P0 B0 Y σ' H' fp/\su m t F n Y=aa o,λσ' H' h=>⟨n,QI n,h⟩,B0,ρ1,wn,o3,S2,e4,?_⟩
    cases o3 with
    |nx ρ5=>exact λσ5 H5 sK S5=>⟨ρ5,sK,S5,e1⟩
    |ct ρ5=>exact λσ5 H5 sK S5=>⟨ρ5,sK,S5,e1⟩
    |bk ρ5=>cases e1;exact k
    |rt d=>cases e1;exact k
end
noncomputable def qv (T:aA->jp->Option jp)(t:BF)(f:EF)(Y:jp):aah->Option aah
 |[]=>aa []
 |d::r=>(T d Y).bind λρ1=>(t ρ1).bind λc=>if c=af then(f ρ1).bind λy=>(qv T t f Y r).bind λys=>aa (y::ys) else qv T t f Y r
def kZ (cap:tz)(Y:jp):jp:=cap.map λo=>o.bind λj=>(Y[j]?).join
def cu (cap:tz)(fi:AF)(T:aA->jp->Option jp)(t:BF)(f:EF):EF:=λY=>(fi Y).bind λds=>(qv T t f (kZ cap Y) ds).bind λys=>if ds.length<=sizeLine then aa (.list ys) else ab
def R5 (K:aK)(T:aA->jp->Option jp):TG:=λv Z H Q=>∃ P Y d ρ',Hid P H/\Al7 K (hid H P) Y Z/\Abj K (hid H P) d v/\T d Y=aa ρ'/\∀ σ',Al7 K (hid H P) ρ' σ'->Q σ' H
def N9 (T:aA->jp->Option jp):Prop:=∀ d Y ρ',T d Y=aa ρ'->∀ (i:Nat) d',Y[i]?=aa (aa d')->ρ'[i]?=aa (aa d')
def cX:BF:=λ_=>aa af
noncomputable def gB (j:Nat):aA->jp->Option jp:=λd Y=>match Y[j]? with
 |some ab=>aa (Y.set j (aa d))
 |_=>ab
theorem CV{ρ':jp}(h:gB j d Y=aa ρ'):Y[j]?=aa ab/\Y.set j (aa d)=ρ':=by
 unfold gB at h;split at h
 .rename_i e;exact⟨e,dY h⟩
 .cases h
def ye (i j:Nat):aA->jp->Option jp:=λd Y=>match d with
 |.tuple [a,b]=>(gB i a Y).bind λρ'=>gB j b ρ'
 |_=>ab
theorem sP:N9 (gB j):=λd Y ρ' e i d' h=>by
 obtain⟨hj,rfl⟩:=CV e;by_cases q:j=i
 .subst q;rw[hj] at h;cases h
 .rw[kG q];exact h
theorem Nx:N9 (ye i j):=λd Y ρ' e k d' h=>by
 unfold ye at e;split at e
 .obtain⟨ρ1,e1,e2⟩:=ao e;exact sP _ _ _ e2 k d' (sP _ _ _ e1 k d' h)
 .cases e
section
variable {fi:AF}{T:aA->jp->Option jp}{t:BF}{f:EF}
theorem CT:sJ X [] (sq X.K cX):=λac s Z H Q I gh=>by
 obtain⟨P,Y,b,hP,rs,ef,k⟩:=gh;cases ef;exact Ft ac s Z H Q I (k H Ext.refl)
theorem IG (h:DT X c t):sJ X [c] (sq X.K t):=Ut h
theorem Al7.set{B:Hp}(h:Al7 K B Y Z)(r:Abj K B d v)(hl:j<Z.length):Al7 K B (Y.set j (aa d)) (Z.set j (aa v)):=λi d' e=>by
 by_cases q:j=i
 .subst q;have hj:j<Y.length:=by
   have:=(cK.1 e).1;simpa using this
  rw[nK hj] at e;cases e;exact⟨v,nK hl,r⟩
 .rw[kG q] at e;obtain⟨w,h1,h2⟩:=h i d' e;exact⟨w,by rw[kG q];exact h1,h2⟩
def X1 (X:Cx)(tg:aQ)(T:aA->jp->Option jp):Prop:=
 ∀ (ac:lv) (s:aH) (Z:St) (H:Hp) (v:V) (u:aD) (Q:St->Hp->Prop),Inv X ac Z H s->RelV v u->R5 X.K T v Z H Q ->
  aL (aP X.prog X.w) X.A (jR tg X.env u) (λ_ s'=>∃ σ' H',Inv X ac σ' H' s'/\Q σ' H') X.xe s
theorem yV(hN:X.N.Nodup)(hi:X.N[j]?=aa x)(hx:jF X.env.scope x)(hf:Fn X x:=by exact jI):X1 X (.Name x pos) (gB j):=λac s Z H v u Q I r gh=>by
 obtain⟨P,Y,d,ρ',hP,rs,rd,ef,k⟩:=gh;obtain⟨hj,rfl⟩:=CV ef;have hl:j<Z.length:=by rw[I.len];exact(cK.1 hi).1
 exact nZ hN hi hx hf ac s Z H v u Q I r (k _ (rs.set rd hl))
theorem y9{p1:bH}{kk}(hc:X.calm=af)(hN:X.N.Nodup)(hi:X.N[i]?=aa x)(hj:X.N[j]?=aa y)(hx:jF X.env.scope x)(hy:jF X.env.scope y)
  (hf:Fn X x:=by exact jI) (ze:Fn X y:=by exact jI)
  (hn:(eZ [.Name x p1,.Name y p2] X.env).length=2:=by rfl) (dm:(eZ [.Name x p1,.Name y p2] X.env).findIdx? (·.1)=ab:=by rfl)
  (h1:(eZ [.Name x p1,.Name y p2] X.env).map (·.2)=jR (.Name x p1) X.env::(eZ [.Name y p2] X.env).map (·.2):=by rfl) (h2:(eZ [.Name y p2] X.env).map (·.2)=jR (.Name y p2) X.env::(eZ [] X.env).map (·.2):=by rfl):X1 X (.Tuple [.Name x p1,.Name y p2] kk pos) (ye i j):=λac s Z H v u Q I r gh=>by
 obtain⟨P,Y,d,ρ',hP,rs,rd,ef,k⟩:=gh;unfold ye at ef;split at ef
 .rename_i a b;obtain⟨ρ1,e1,e2⟩:=ao ef;obtain⟨l1,rfl⟩:=CV e1;obtain⟨l2,rfl⟩:=CV e2;obtain⟨p,xs,rfl,hp,rr⟩:=Aap.1 rd;obtain⟨v1,t1,rfl,r1,rr⟩:=Aae.1 rr;obtain⟨v2,t2,rfl,r2,rr⟩:=Aae.1 rr;obtain rfl:=Aai.1 rr;have hl:i<Z.length:=by rw[I.len];exact(cK.1 hi).1
  have T4:j<Z.length:=by rw[I.len];exact(cK.1 hj).1
  exact IC hc (rN (nZ hN hi hx hf) (rN (nZ hN hj hy ze) CQ h2) h1) hn dm ac s Z H _ u Q I r ⟨p,_,rfl,SqT.of (Aal _ _ hp),rfl,v1,_,rfl,v2,_,rfl,rfl,k _ ((rs.set r1 hl).set r2 (by simpa using T4))⟩
 .cases ef
theorem Vy{B:Hp}(h:Al7 K B Y Z):Al7 K B (kZ cap Y) (qQ cap Z):=λi d e=>by
 unfold kZ at e;unfold qQ;rw[eU] at e ⊢;cases hc:cap[i]? with
 |none=>rw[hc] at e;simp at e
 |some o=>
  rw[hc] at e;cases o with
  |none=>simp at e
  |some j=>
   simp only[Option.map_some,bQ,Option.some.injEq] at e ⊢;obtain⟨v,h1,h2⟩:=h j d (ZF e);exact⟨v,by rw[h1];rfl,h2⟩
theorem TR(hT:N9 T):∀ Z H Q,tF K 1 (cu cap fi T t f) Z H Q->X9 cap (tI K fi) (R5 K T) (sq K t) (tF K 0 f) Z H Q:=λZ H Q gh=>by
 rw[5];obtain⟨ds,e1,ef⟩:=ao ef;obtain⟨all,e2,ef⟩:=ao ef;obtain⟨hz,rfl⟩:=cL ef;refine⟨P,Y,ds,hP,rs,e1,λJ H1 x1 it A hA=>?_⟩
 have hPA:=(hP.ext x1).new hA;have wo:∀ {H':Hp} {ys:aai},hid (upd H' A (.lst ys)) (cn P [A])=hid H' (cn P [A]):=λ{H' ys}=>by
  funext b;unfold hid;by_cases hb:cn P [A] b
  .rw[if_pos hb,if_pos hb]
  .rw[if_neg hb,if_neg hb];exact cM (λz=>hb (.inr (by simp[z])))
 refine⟨λi m ys σ' H'=>m=ds.length-i/\i<=ds.length/\H' A=aa (.lst ys)/\Ext H1 H'/\Ext (hid H1 P) (hid H' (cn P [A]))/\Al7 K (hid H' (cn P [A])) (kZ cap Y) σ'/\ys.length<=i /\
  ∃ done rest,Aak K (hid H' (cn P [A])) done ys/\qv T t f (kZ cap Y) (ds.drop i)=aa rest/\all=done++rest,⟨ds.length,?_⟩,?_⟩
 .have xa:Ext (hid H1 P) (hid (upd H1 A (.lst [])) (cn P [A])):=λb o e=>by
   obtain⟨nb,e⟩:=Abr.1 e;have hb:=iP e hA;exact eO (λz=>z.elim nb λm=>hb (by simpa using m)) (by rw[cM hb];exact e)
  exact⟨by simp,eG _,dQ,Ext.new hA,xa,(Vy (rs.ext (cN x1))).ext xa,eG _,[],all,Aai.2 rfl,by simpa using e2,rfl⟩
 .rintro i m ys σ' H' ⟨rfl,hi,hD,x2,xb,rs2,hl,done,rest,rd,e3,rfl⟩;refine⟨hD,?_⟩;obtain⟨go,st⟩:=it i H' (Aal.trans x2);have tf:Hid (cn P [A]) H':=λa h=>by
   rcases h with h|h
   .exact(hP.ext (x1.trans x2)) a h
   .have:a=A:=by simpa using h
    rw[12];exact .inl ⟨_,hD⟩
  by_cases bm:i<ds.length
  .have hd:=fY bm;rw[GI bm] at e3;obtain⟨ρ1,e4,e3⟩:=ao e3;obtain⟨c,e5,e3⟩:=ao e3;obtain⟨g1,g2⟩:=go _ hd;refine .inr ⟨g1,(),λys σ' H'=>i+1<=ds.length/\H' A=aa (.lst ys)/\Ext H1 H'/\Ext (hid H1 P) (hid H' (cn P [A]))/\Al7 K (hid H' (cn P [A])) (kZ cap Y) σ'/\ys.length<=i+1 /\
    ∃ d2 r2,Aak K (hid H' (cn P [A])) d2 ys/\qv T t f (kZ cap Y) (ds.drop (i+1))=aa r2/\done++rest=d2++r2,λzs σ2 H2 h=>⟨ds.length-(i+1),(),rfl,h⟩,λx H2 y=>?_⟩
   obtain⟨x3,r3⟩:=g2 x H2 y;refine⟨cn P [A],kZ cap Y,_,ρ1,tf.ext x3,rs2.ext (cN x3),r3 _ tf xb,e4,λσ3 T5=>?_⟩
   refine⟨cn P [A],ρ1,c,tf.ext x3,T5,e5,λH4 x4=>?_⟩
   have Y':Al7 K (hid H2 (cn P [A])) (kZ cap Y) σ3:=λj d' e=>T5 j d' (hT _ _ _ e4 j d' e)
   cases c with
   |false=>
    rw[if_neg kX] at e3;refine qX ⟨bm,x4 _ _ (x3 _ _ hD),x2.trans (x3.trans x4),xb.trans (cN (x3.trans x4)),Y'.ext (cN x4),(),done,rest,rd.ext (cN (x3.trans x4)),e3,rfl⟩
   |true=>
    rw[if_pos rfl] at e3;obtain⟨yd,e6,e3⟩:=ao e3;obtain⟨r2,e7,e3⟩:=ao e3;cases e3;refine qR ⟨cn P [A],ρ1,yd,tf.ext (x3.trans x4),T5.ext (cN x4),e6,dR λv H5 x5 r5=>⟨x5 _ _ (x4 _ _ (x3 _ _ hD)),bm,dQ,?_,?_,?_,by simp;lia,done++[yd],r2,?_,e7,by simp⟩⟩
    .intro b o e;rw[cM (iP e hA)];exact x5 _ _ (x4 _ _ (x3 _ _ (x2 _ _ e)))
    .rw[wo];exact xb.trans (cN (x3.trans (x4.trans x5)))
    .rw[wo];exact Y'.ext (cN (x4.trans x5))
    .rw[wo];exact(rd.ext (cN (x3.trans (x4.trans x5)))).snoc r5
  .have e:i=ds.length:=()
   subst e;rw[Ka] at e3;cases e3;rw[kW] at k;refine .inl ⟨st rfl,?_⟩;refine k (.ref A) H' [A] (x1.trans x2) (jC.2 ⟨by simp,.nil⟩) (λa m=>?_) ⟨A,ys,ys.map λ_=>[],rfl,hD,?_,?_⟩
   .have:a=A:=by simpa using m
    rw[12];exact⟨x1.none hA,_,hD⟩
   .have:∀ l:aai,(l.map λ_=>([]:aan)).flatten=[]:=λl=>by
     induction l with
     |nil=>rfl
     |cons a l ih=>rw[cW,rU,ih];rfl
    rw[this]
   .have go:∀ (ds:aah) (xs:aai),Aak K (hid H' (cn P [A])) ds xs->All3 (Afh K (hid H' (cn P [A])) H' 0) ds xs (xs.map λ_=>[]):=by
     intro ds;induction ds with
     |nil=>intro xs r;rw[Aai.1 r];exact .nil
     |cons d ds ih=>
      intro xs r;obtain⟨y,t,rfl,h1,h2⟩:=Aae.1 r;exact .cons ⟨rfl,h1⟩ (ih t h2)
    exact go _ _ rd
def UY (X:Cx)(N:aak)(sc:fW)(tg dz:aQ)(fz:aau)(T:aA->jp->Option jp)(t:BF)(f:EF):Prop:=
 ∀ (cl:wT) (C:aC) (s₀:aH) (H₀:Hp) (ex:aan),X1 (gH X N sc cl C s₀ H₀ ex) tg T/\sJ (gH X N sc cl C s₀ H₀ ex) fz (sq X.K t)/\DE (gH X N sc cl C s₀ H₀ ex) dz f
theorem HY (hc:X.calm=af)(S:CompScope X N cap sc)(hT:N9 T)(hi:DI X tg az fi)(hb:UY X N sc tg dz fz T t f)(hs:∀ x,oM az X.env x=pure x:=by intro _;rfl) :
  DF 1 X (.ListComp dz [⟨tg,az,fz,0⟩] sc pos) (cu cap fi T t f):=PE.imp (TJ hc S hi (g:=R5 X.K T) (tc:=sq X.K t) (te:=tF X.K 0 f) hb hs) (TR hT)
theorem JL(m:Md)(hc:X.calm=af)(hN:X.N.Nodup)(uu:X.N[i]?=aa x)(hx:jF X.env.scope x)(S:CompScope X N cap sc)(hT:N9 T)(hi:DI X tg az fi)(hb:UY X N sc tg dz fz T t f)
  (ni:kQ (.ListComp dz [⟨tg,az,fz,0⟩] sc pos) (aa (.Name x px)) ij.line X.env=pure af:=by rfl)
  (hs:∀ x,oM az X.env x=pure x:=by intro _;rfl) (hf:Fn X x:=by exact jI) :
  DS X H0 P0 n0 (.Assign [.Name x px] (.ListComp dz [⟨tg,az,fz,0⟩] sc pos) ij) (bO i 1 m (cu cap fi T t f)):=PS.imp (Wp hc hN uu hx S hi (g:=R5 X.K T) (tc:=sq X.K t) (te:=tF X.K 0 f) hb ni hs hf) λD Z H gh=>by
 rw[7];obtain⟨d,e1,ef⟩:=ao ef;obtain⟨hl,rfl⟩:=cL ef;refine TR hT Z H _ (SJ m Z H _ ⟨B0,Y,fp,d,S,e1,λv H' t=>?_⟩)
 obtain⟨bh,S'⟩:=t.set hl;exact k _ _ bh S'
end
noncomputable def outD:Option Out->aaj
 |some (.rt d)=>aa d
 |some (.nx _)=>aa .none
 |_=>ab
def bw (np n:Nat)(body:SF):aah->aaj:=λds=>if ds.length=np then outD (body (ds.map (λd=>aa (0,d))++oQ (n-np) ab)) else ab
def O3 (K:aK)(n0:Nat)(F:aah->aaj):Sp:=λvs H Q _=>∃ P ds d,Hid P H/\Aak K (hid H P) ds vs/\F ds=aa d/\Res K P n0 d H Q
section
variable {P:bJ}{base:aU}
theorem TF{k np:Nat}{body:SF}(F:Fun K x qual st f fd)(S:FnScope N ps (dX st))(T6:np=ps.length)(hN:ps.length<=N.length)
  (hb:∀ (bz:aD) (A:bP) (outer:List dW) (s:aH) (H:Hp) (E:XK) (P0:aC->Prop),Room k (A.deeper (envOfC qual (dX st) s.heap.objs.size f bz))->iw (oG nu P w K mg base N qual (dX st) f bz A outer s H E).nox H P0 n0 (nX st) body) :
  FnOk P w K mg base nu (k+1) f fd ps (O3 K n0 (bw np N.length body)):=by
 refine F.ok S (λvs H Q E h=>?_) (λbz A outer s H vs Q E hr h=>?_)
 .obtain⟨P,ds,d,_,r,ef,_⟩:=h;unfold bw at ef;by_cases hl:ds.length=np
  .rw[r.length,hl,T6]
  .rw[if_neg hl] at ef;cases ef
 .obtain⟨P0,ds,d,hP,r,ef,k⟩:=h;refine⟨_,hb bz A outer s H E P0 hr,?_⟩;unfold bw at ef;by_cases hl:ds.length=np
  case neg=>rw[if_neg hl] at ef;cases ef
  rw[if_pos hl] at ef;rw[<-hl] at ef;have ax:=r.length;have S0:Sta K H P0 (hid H P0) (ds.map (λd=>aa (0,d))++oQ (N.length-ds.length) ab) (start N vs) H (λ_=>[]):=by
   have eH:Hd P0 (λ_=>[])=P0:=by
    funext a;simp[Hd]
   refine⟨by simp[start,ax],λ_=>.nil,λi j a h=>by simp at h,λi a h=>by simp at h,Ext.refl,hP,by rw[eH];exact Ext.refl,λi n' d' e=>?_⟩
   rw[eH];by_cases hi:i<ds.length
   .rw[GE (by simpa using hi),eU] at e
    cases q:ds[i]? with
    |none=>rw[q] at e;simp at e
    |some d2=>
     rw[q] at e;have e':0=n'/\d2=d':=by simpa using e
     obtain⟨rfl,rfl⟩:=e';obtain⟨v,h1,h2⟩:=r.get q;refine⟨v,?_,rfl,h2⟩;unfold start;rw[GE (by rw[cJ,ax];exact hi),eU,h1]
     rfl
   .rw[Jw (by simpa using hi)] at e
    have:=eT e;simp at this
  cases eb:body (ds.map (λd=>aa (0,d))++oQ (N.length-ds.length) ab) with
  |none=>rw[eb] at ef;cases ef
  |some o=>
   rw[eb] at ef;refine⟨_,_,_,o,S0,eb,?_⟩;cases o with
   |rt d'=>
    cases ef;exact λv H' ⟨Fr,h1,h2,h3,h4⟩=>k v H' Fr h1 h2 h3 h4
   |nx ρ'=>
    cases ef;intro σ' H' bh S';refine k .non H' [] S'.ext .nil (λa m=>by simp at m) ?_
    cases n0 with
    |zero=>exact⟨rfl,Abq.2 rfl⟩
    |succ n=>
     unfold Aej;split
     .exact .inl ⟨rfl,rfl,rfl⟩
     .split
      .exact .inl ⟨rfl,rfl,rfl⟩
      .exact⟨rfl,Abq.2 rfl⟩
   |bk _=>cases ef
   |ct _=>cases ef
variable {k np:Nat}{F:aah->aaj}{fa:AF}
theorem UR (D:Def X.prog X.w X.K X.mg X.base x k ps (O3 X.K n0 F))(hr:Room k X.A)(hg:Gl X x)(ha:DA X (e::es) fa)(ie:(x==("__debug__" : aE))=ah:=by decide)(he:bX (e::es) X.env=(ah,bY e X.env)::bX es X.env:=by rfl)
  (cz:(gL pos (bX es X.env)).any (·.1)=ah:=by rfl):DF n0 X (.Call (.Name x p) (e::es) [] pos) (aN F fa):=
 PE.imp (VJ D hr hg ha ie he cz) λZ H Q gh=>by
  rw[5];obtain⟨ds,e1,ef⟩:=ao ef;refine⟨P,Y,ds,hP,rs,e1,λvs H1 x1 r1=>?_⟩
  show O3 X.K n0 F (vs++[]) H1 Q E0;rw[kW];exact⟨P,ds,d,hP.ext x1,r1,ef,k.mono x1⟩
end
noncomputable def vt (g:Int->Int->aA):aA->aA->aaj
 |.int i,.int j=>aa (g i j)
 |_,_=>ab
def sh (C:Int->Int->Prop)[∀ i j,Decidable (C i j)](g:Int->Int->aA):aA->aA->aaj
 |.int i,.int j=>if C i j then aa (g i j) else ab
 |_,_=>ab
theorem UA {g:Int->Int->V}{gd:Int->Int->aA}(h:∀ i j H,Abj K H (gd i j) (g i j)):jc K 0 (so g) (vt gd):=λP H x y a b d Q hP ra rb e k=>by
 unfold vt at e;split at e
 .rename_i i j;cases e;exact⟨i,j,Aah.1 ra,Aah.1 rb,k.zero Ext.refl (h i j _)⟩
 .cases e
theorem zZ {C C':Int->Int->Prop}[∀ i j,Decidable (C' i j)]{g:Int->Int->V}{gd:Int->Int->aA}(hC:∀ i j,C' i j->C i j)(h:∀ i j H,Abj K H (gd i j) (g i j)):jc K 0 (rI C g) (sh C' gd):=λP H x y a b d Q hP ra rb e k=>by
 unfold sh at e;split at e
 .rename_i i j;obtain⟨hc,rfl⟩:=cL e;exact⟨i,j,Aah.1 ra,Aah.1 rb,hC i j hc,k.zero Ext.refl (h i j _)⟩
 .cases e
section
variable {a:aQ}{fa fb fc:EF}
def kM:aA->aA->aaj:=vt λi j=>.int (i-j)
theorem VT (ha:DE X a fa)(hb:DE X b fb):DE X (.BinOp a .Sub b pos) (ai kM fa fb):=pF Pm (UA λ_ _ _=>Aah.2 rfl) ha hb
noncomputable def fR:aA->aA->aaj:=sh (λi j=>(i.natAbs<2^64\/j.natAbs<2^64)\/(i.natAbs<2^1000/\j.natAbs<2^1000)) λi j=>.int (i*j)
theorem Ac:OpR X (kC .Mult) (rI (λi j=>(i.natAbs<2^64\/j.natAbs<2^64)\/(i.natAbs<2^1000/\j.natAbs<2^1000)) λi j=>.int (i*j)):=by
 rw[2];obtain⟨i,j,ex,ey,hc,q⟩:=h;rcases hc with hc|hc
 .refine Pj ac s Z H x y v u Q I rx ry ⟨i,j,ex,ey,?_,q⟩;rcases hc with hc|hc
  .exact .inl ⟨(),()⟩
  .exact .inr ⟨(),()⟩
 .exact Sm ac s Z H x y v u Q I rx ry ⟨i,j,ex,ey,hc,q⟩
theorem Oy (ha:DE X a fa)(hb:DE X b fb):DE X (.BinOp a .Mult b pos) (ai fR fa fb):=pF Ac (zZ (λ_ _ h=>h) λ_ _ _=>Aah.2 rfl) ha hb
noncomputable def fL:aA->aA->aaj:=sh (λ_ j=>0<j/\j<1073741824) λi j=>.int (i/j)
theorem Sa (ha:DE X a fa)(hb:DE X b fb):DE X (.BinOp a .FloorDiv b pos) (ai fL fa fb):=pF Sf (zZ (λ_ _ h=>h) λ_ _ _=>Aah.2 rfl) ha hb
noncomputable def cZ:aA->aA->aaj:=sh (λ_ j=>0<j) λi j=>.int (i%j)
theorem VP (ha:DE X a fa)(hb:DE X b fb):DE X (.BinOp a .Mod b pos) (ai cZ fa fb):=pF Ph (zZ (λ_ _ h=>h) λ_ _ _=>Aah.2 rfl) ha hb
noncomputable def pW:aA->aA->aaj:=sh (λi j=>0<=j/\j<=1000000/\i.natAbs<2^64) λi j=>.int (i^j.toNat)
theorem CA (ha:DE X a fa)(hb:DE X b fb):DE X (.BinOp a .Pow b pos) (ai pW fa fb):=pF Pz (zZ (λ_ _ h=>h) λ_ _ _=>Aah.2 rfl) ha hb
theorem Yi(hx:cH (.str x)=af)(hy:cH (.str y)=af):cH (.str (x++y))=af:=by
 have e:(x++y).cps=x.cps++y.cps:=rfl;simp only[cH,PyData.strOk] at hx hy ⊢;rw[e,Array.all_append,hx,hy]
 rfl
noncomputable def dA:aA->aA->aaj
 |.int i,.int j=>aa (.int (i+j))
 |.str x,.str y=>if x.length+y.length<=sizeLine then aa (.str (x++y)) else ab
 |.tuple (x::xs),.tuple ys=>if (x::xs).length+ys.length<=sizeLine then aa (.tuple ((x::xs)++ys)) else ab
 |_,_=>ab
theorem Ri:jc K 0 (λx y H Q=>so (λi j=>.int (i+j)) x y H Q\/(∃ i j,x=.str i/\y=.str j/\i.length+j.length<=sizeLine/\Q (.str (i++j)) H)\/HU K x y H Q) dA:=λP H x y a b d Q hP ra rb e k=>by
 unfold dA at e;split at e
 .rename_i i j;cases e;exact .inl ⟨i,j,Aah.1 ra,Aah.1 rb,k.zero Ext.refl (Aah.2 rfl)⟩
 .rename_i i j;obtain⟨hc,rfl⟩:=cL e;exact .inr (.inl ⟨i,j,(Aa0.1 ra).1,(Aa0.1 rb).1,hc,k.zero Ext.refl (Aa0.2 ⟨rfl,Yi (Aa0.1 ra).2 (Aa0.1 rb).2⟩)⟩)
 .rename_i z zs ys;obtain⟨hc,rfl⟩:=cL e;obtain⟨p,us,rfl,hp,r1⟩:=Aap.1 ra;obtain⟨q,ws,rfl,hq,r2⟩:=Aap.1 rb;have l1:=r1.length;have l2:=r2.length;refine .inr (.inr ⟨p,q,us,ws,rfl,rfl,SqT.of (Aal _ _ hp),SqT.of (Aal _ _ hq),λz=>by rw[z] at l1;simp at l1,by rw[l1,l2];exact hc,λz=>?_,λz r hr=>?_⟩)
  .subst z;have:ys=[]:=by simpa using l2.symm
   rw[12];refine k.zero Ext.refl ?_;rw[kW];exact ra
  .exact k.tup hP hr (r1.append r2)
 .cases e
theorem UW (ha:DE X a fa)(hb:DE X b fb):DE X (.BinOp a .Add b pos) (ai dA fa fb):=pF (Bj8.or (Ayp.or A3o)) Ri ha hb
mutual
def noDict:aA->Bool
 |.dict _=>ah
 |.list ds=>noDicts ds
 |.tuple ds=>noDicts ds
 |_=>af
def noDicts:aah->Bool
 |[]=>af
 |d::r=>noDict d&&noDicts r
end
mutual
theorem lG {X:Cx}(I:Inv X ac Z H s):∀ {d:aA} {v:V} {u:aD},noDict d=af->Abj X.K H d v->RelV v u->d.canLay0=af/\∃ as,kS s.heap u d as
 |.none,v,u,_,h,r=>by
  obtain rfl:=Abq.1 h;cases r;exact⟨by simp[cH],_,.none⟩
 |.bool b,v,u,_,h,r=>by
  obtain rfl:=Aaw.1 h;cases r;exact⟨by simp[cH],_,.bool b⟩
 |.int i,v,u,_,h,r=>by
  obtain rfl:=Aah.1 h;obtain⟨t,rfl⟩:=r;exact⟨by simp[cH],_,.int i t⟩
 |.str x,v,u,_,h,r=>by
  obtain⟨rfl,hl⟩:=Aa0.1 h;obtain⟨t,rfl⟩:=r;exact⟨hl,_,.str x t⟩
 |.list ds,v,u,n,h,r=>by
  obtain⟨a,xs,rfl,hs,hr⟩:=Aa8.1 h;cases r;obtain⟨its,rv,⟨o,m,e,hc,_,hd⟩,_⟩:=I.list hs;obtain⟨hl,as,ha⟩:=NA I (by simpa [noDict] using n) hr rv
  exact⟨by simpa [cH] using hl,_,.list e hc hd (by simpa using ha)⟩
 |.tuple ds,v,u,n,h,r=>by
  obtain⟨a,xs,rfl,hs,hr⟩:=Aap.1 h;cases r;obtain⟨its,rv,⟨o,e,hc,m,hd⟩,_⟩:=I.tuple (SqT.of hs);obtain⟨hl,as,ha⟩:=NA I (by simpa [noDict] using n) hr rv
  exact⟨by simpa [cH] using hl,_,.tuple e hc hd (by simpa using ha)⟩
 |.dict _,_,_,n,h,_=>by simp[noDict] at n
theorem NA {X:Cx}(I:Inv X ac Z H s):∀ {ds:aah} {vs:aai} {us:aam},noDicts ds=af->Aak X.K H ds vs->Vals vs us->AH ds=af/\∃ as,lM s.heap us ds as
 |[],vs,us,_,h,r=>by
  obtain rfl:=Aai.1 h;cases r;exact⟨by simp[AH],_,.nil⟩
 |d::ds,vs,us,n,h,r=>by
  have n':noDict d=af/\noDicts ds=af:=by simpa [noDicts] using n
  obtain⟨x,rr,rfl,h1,h2⟩:=Aae.1 h;cases r with
  |cons r1 r2=>
   obtain⟨l1,as,ha⟩:=lG I n'.1 h1 r1;obtain⟨l2,bs,hb⟩:=NA I n'.2 h2 r2;exact⟨by simp[AH,l1,l2],_,.cons ha hb⟩
end
noncomputable def dB (d:aA):Bool:=noDict d&&decide (d.depth<=60)
def de:aA->aA->aaj:=λa b=>if (dB a&&dB b)=af then aa (.bool (bZ a b)) else ab
def gs:aA->aA->aaj:=λa b=>if (dB a&&dB b)=af then aa (.bool (!bZ a b)) else ab
def xP (K:aK)(neg:Bool):R2:=λx y H Q=>∃ da db,Abj K H da x/\Abj K H db y/\dB da=af/\dB db=af/\Q (.bl (neg != bZ da db)) H
theorem vJ (hu:X.A.units+100<cLine):OpR X (gK .Eq) (xP X.K ah):=by
 rw[2];obtain⟨da,db,ra,rb,fa,fb,q⟩:=h;have re:noDict da=af/\da.depth<=60:=by simpa [dB] using fa
 have T7:noDict db=af/\db.depth<=60:=by simpa [dB] using fb
 obtain⟨la,as,ra⟩:=lG I re.1 ra rx;obtain⟨lb,bs,rb⟩:=lG I T7.1 rb ry;exact SeqAt.compareEq_reads ra rb la lb () ⟨.bl _,H,I,rfl,by simpa using q⟩
theorem Ot (hu:X.A.units+100<cLine):OpR X (gK .NotEq) (xP X.K af):=by
 rw[2];obtain⟨da,db,ra,rb,fa,fb,q⟩:=h;have re:noDict da=af/\da.depth<=60:=by simpa [dB] using fa
 have T7:noDict db=af/\db.depth<=60:=by simpa [dB] using fb
 obtain⟨la,as,ra⟩:=lG I re.1 ra rx;obtain⟨lb,bs,rb⟩:=lG I T7.1 rb ry;exact SeqAt.compareNe_reads ra rb la lb () ⟨.bl _,H,I,rfl,by simpa using q⟩
theorem BO:jc K 0 (xP K ah) de:=λP H x y a b d Q hP ra rb e k=>by
 obtain⟨hc,rfl⟩:=cL e;have cy:dB a=af/\dB b=af:=by simpa using hc
 exact⟨a,b,ra.ext Aal,rb.ext Aal,cy.1,cy.2,k.zero Ext.refl (Aaw.2 (by simp))⟩
theorem Pu:jc K 0 (xP K af) gs:=λP H x y a b d Q hP ra rb e k=>by
 obtain⟨hc,rfl⟩:=cL e;have cy:dB a=af/\dB b=af:=by simpa using hc
 exact⟨a,b,ra.ext Aal,rb.ext Aal,cy.1,cy.2,k.zero Ext.refl (Aaw.2 (by simp))⟩
def HF (K:aK)(neg:Bool):R2:=λx y H Q=>∃ d ds,Abj K H d x/\(Abj K H (.list ds) y\/Abj K H (.tuple ds) y)/\dB d=af/\noDicts ds=af/\Q (.bl (neg != ds.any λz=>bZ z d)) H
theorem Qe (hu:X.A.units+100<cLine):OpR X (gK .In) (HF X.K ah):=by
 rw[2];obtain⟨d,ds,ra,rb,fa,fb,q⟩:=h;have re:noDict d=af/\d.depth<=60:=by simpa [dB] using fa
 obtain⟨la,as,ra⟩:=lG I re.1 ra rx;rcases rb with rb|rb
 .obtain⟨lb,bs,rb⟩:=lG I (by simpa [noDict] using fb) rb ry
  exact SeqAt.in_list_reads rb ra (by simpa [cH] using lb) la () ⟨.bl _,H,I,rfl,by simpa using q⟩
 .obtain⟨lb,bs,rb⟩:=lG I (by simpa [noDict] using fb) rb ry
  exact SeqAt.in_tuple_reads rb ra (by simpa [cH] using lb) la () ⟨.bl _,H,I,rfl,by simpa using q⟩
theorem L8 (hu:X.A.units+100<cLine):OpR X (gK .NotIn) (HF X.K af):=by
 rw[2];obtain⟨d,ds,ra,rb,fa,fb,q⟩:=h;have re:noDict d=af/\d.depth<=60:=by simpa [dB] using fa
 obtain⟨la,as,ra⟩:=lG I re.1 ra rx;rcases rb with rb|rb
 .obtain⟨lb,bs,rb⟩:=lG I (by simpa [noDict] using fb) rb ry
  exact SeqAt.notIn_list_reads rb ra (by simpa [cH] using lb) la () ⟨.bl _,H,I,rfl,by simpa using q⟩
 .obtain⟨lb,bs,rb⟩:=lG I (by simpa [noDict] using fb) rb ry
  exact SeqAt.notIn_tuple_reads rb ra (by simpa [cH] using lb) la () ⟨.bl _,H,I,rfl,by simpa using q⟩
end
theorem PE.or{t t':TE}(h:PE X e t)(h':PE X e t'):PE X e (λZ H Q=>t Z H Q\/t' Z H Q):=λac s Z H Q I q=>q.elim (h ac s Z H Q I) (h' ac s Z H Q I)
noncomputable def vv:aA->aA->aaj
 |.int i,.int j=>aa (.bool (decide (i<j)))
 |.str i,.str j=>aa (.bool (decide (i.cps.toList<j.cps.toList)))
 |_,_=>ab
noncomputable def gLe:aA->aA->aaj
 |.int i,.int j=>aa (.bool (decide (i<=j)))
 |.str i,.str j=>aa (.bool (!(decide (j.cps.toList<i.cps.toList))))
 |_,_=>ab
def qt:aA->aA->aaj:=vt λi j=>.bool (decide (j<i))
def gGe:aA->aA->aaj:=vt λi j=>.bool (decide (j<=i))
theorem UI:jc K 0 (λx y H Q=>so (λi j=>.bl (decide (i<j))) x y H Q\/∃ i j,x=.str i/\y=.str j/\Q (.bl (decide (i.cps.toList<j.cps.toList))) H) vv:=λP H x y a b d Q hP ra rb e k=>by
 unfold vv at e;split at e
 .cases e;exact .inl ⟨_,_,Aah.1 ra,Aah.1 rb,k.zero Ext.refl (Aaw.2 rfl)⟩
 .cases e;exact .inr ⟨_,_,(Aa0.1 ra).1,(Aa0.1 rb).1,k.zero Ext.refl (Aaw.2 rfl)⟩
 .cases e
theorem Rr:jc K 0 (so λi j=>.bl (decide (j<i))) qt:=UA λ_ _ _=>Aaw.2 rfl
def xN:aA->aA->aaj
 |.none,.none=>aa (.bool af)
 |_,.none=>aa (.bool ah)
 |_,_=>ab
def mS:aA->aA->aaj
 |.none,.none=>aa (.bool ah)
 |_,.none=>aa (.bool af)
 |_,_=>ab
theorem Bb{a:aA}{x:V}(r:Abj K H a x):decide (x=.non)=(match a with|.none=>af|_=>ah):=by
 cases a with
 |none=>obtain rfl:=Abq.1 r;rfl
 |bool b=>obtain rfl:=Aaw.1 r;rfl
 |int b=>obtain rfl:=Aah.1 r;rfl
 |str b=>obtain⟨rfl,_⟩:=Aa0.1 r;rfl
 |list b=>obtain⟨_,_,rfl,_⟩:=Aa8.1 r;rfl
 |tuple b=>obtain⟨_,_,rfl,_⟩:=Aap.1 r;rfl
 |dict b=>obtain⟨_,rfl,_⟩:=Aco.1 r;rfl
theorem Ho:jc K 0 (λx y H Q=>y=.non/\Q (.bl (decide (x=.non))) H) xN:=λP H x y a b d Q hP ra rb e k=>by
 have q:=Bb ra;unfold xN at e;split at e
 .cases e;exact⟨Abq.1 rb,k.zero Ext.refl (Aaw.2 (by rw[q]))⟩
 .rename_i h;cases e;refine⟨Abq.1 rb,k.zero Ext.refl (Aaw.2 ?_)⟩;rw[q];cases a<;>first|rfl|exact(h rfl).elim
 .cases e
theorem A4:jc K 0 (λx y H Q=>y=.non/\Q (.bl (!decide (x=.non))) H) mS:=λP H x y a b d Q hP ra rb e k=>by
 have q:=Bb ra;unfold mS at e;split at e
 .cases e;exact⟨Abq.1 rb,k.zero Ext.refl (Aaw.2 (by rw[q];rfl))⟩
 .rename_i h;cases e;refine⟨Abq.1 rb,k.zero Ext.refl (Aaw.2 ?_)⟩;rw[q];cases a<;>first|rfl|exact(h rfl).elim
 .cases e
noncomputable def bS:aA->Option aI
 |.int i=>aa (.inl i)
 |.str x=>aa (.inr x)
 |_=>ab
theorem tW(h:bS d=aa k):d=kD k:=by
 cases d<;>simp[bS] at h<;>subst h<;>rfl
noncomputable def bU (kds:be)(k:aI):aaj:=(kds.find? λkd=>decide (bS kd.1=aa k)).map (·.2)
theorem iX (k:aI):bS (kD k)=aa k:=by cases k<;>rfl
theorem tT:∀ {kds:be} {kvs:ld},Abm K H kds kvs->(bU kds k=ab/\gE kvs k=ab)\/∃ d v,bU kds k=aa d/\gE kvs k=aa v/\Abj K H d v
 |[],kvs,h=>by rw[Abi.1 h];exact .inl ⟨rfl,rfl⟩
 |(k0,d)::r,kvs,h=>by
  obtain⟨k',x,rr,rfl,rfl,h1,h2⟩:=Aa7.1 h;by_cases e:k'=k
  .refine .inr ⟨d,x,?_,vU e,h1⟩;simp[bU,gD,iX,e]
  .have e1:bU ((kD k',d)::r) k=bU r k:=by simp[bU,gD,iX,e]
   rw[e1,tO e];exact tT h2
theorem Dk:∀ {kds:be} {kvs:li},Acg K H kds kvs->bU kds k=ab
 |[],kvs,h=>rfl
 |(k0,d)::r,kvs,h=>by
  obtain⟨k',x,rr,rfl,⟨rfl,_⟩,h1,h2⟩:=Ab7.1 h;have e1:bU ((.tuple k',d)::r) k=bU r k:=by simp[bU,gD,bS]
  rw[e1];exact Dk h2
theorem l8(h:Abj K H (.dict kds) v)(e:bU kds k=aa d):∃ a,∃ kvs:Nat×ld,v=.ref a/\H a=aa (.dK kvs.1 kvs.2)/\Abm K H kds kvs.2:=by
 obtain⟨a,ev,⟨kvs,h1,r⟩|⟨ts,h1,r⟩|⟨xs,h1,r⟩⟩:=Aco.1 h
 case inr.inr=>
  obtain⟨es,rfl,_⟩:=LL r;cases e
 .exact⟨a,kvs,ev,h1,r⟩
 .cases kds with
  |nil=>simp[Azr] at r
  |cons p q=>
   obtain⟨k0,m⟩:=p;obtain⟨rfl,r2⟩:=Ad5.1 r;have e1:bU ((.none,m)::q) k=bU q k:=by simp[bU,gD,bS]
   rw[e1,Dk r2] at e;cases e
noncomputable def lB (kds:be)(k:aah):aaj:=(kds.find? λkd=>bZ kd.1 (.tuple k)).map (·.2)
theorem Ic (a b:aah):bZ (.tuple a) (.tuple b)=AG a b:=by simp[bZ]
theorem Cp {a k:aah}{r:be}(ha:bR a=af)(hk:bR k=af):lB ((.tuple a,d)::r) k=if a=k then aa d else lB r k:=by
 have e:bZ (.tuple a) (.tuple k)=decide (a=k):=by rw[Ic,zG _ _ ha hk]
 unfold lB;rw[gD,e];by_cases h:a=k
 .rw[if_pos h,decide_eq_true h];rfl
 .rw[if_neg h,decide_eq_false h]
theorem MA{k:aah}(hk:bR k=af):∀ {kds:be} {kvs:li},Acg K H kds kvs->(lB kds k=ab/\gE kvs k=ab)\/∃ d v,lB kds k=aa d/\gE kvs k=aa v/\Abj K H d v
 |[],kvs,h=>by rw[Ade.1 h];exact .inl ⟨rfl,rfl⟩
 |(k0,d)::r,kvs,h=>by
  obtain⟨k',x,rr,rfl,⟨rfl,ce⟩,h1,h2⟩:=Ab7.1 h;rw[Cp ce hk];by_cases e:k'=k
  .rw[if_pos e];exact .inr ⟨d,x,rfl,vU e,h1⟩
  .rw[if_neg e,tO e];exact MA hk h2
noncomputable def putD (kds:be)(k:aI)(d:aA):be:=
 if (kds.any λkd=>decide (bS kd.1=aa k))=af then kds.map λkd=>if bS kd.1=aa k then(kd.1,d) else kd else kds++[(kD k,d)]
theorem Gf:∀ {kds:be} {kvs:ld},Abm K H kds kvs->(kds.any λkd=>decide (bS kd.1=aa k))=kvs.any λkv=>decide (kv.1=k)
 |[],kvs,h=>by rw[Abi.1 h];rfl
 |(k0,d)::r,kvs,h=>by
  obtain⟨k',x,rr,rfl,rfl,h1,h2⟩:=Aa7.1 h;rw[uL,uL,Gf h2,iX];simp
theorem KQ(rv:Abj K H d v):∀ {kds:be} {kvs:ld},Abm K H kds kvs ->
  Abm K H (kds.map λkd=>if bS kd.1=aa k then(kd.1,d) else kd) (kvs.map λkv=>if kv.1=k then(kv.1,v) else kv)
 |[],kvs,h=>by rw[Abi.1 h];exact Abi.2 rfl
 |(k0,d0)::r,kvs,h=>by
  obtain⟨k',x,rr,rfl,rfl,h1,h2⟩:=Aa7.1 h;rw[cW,cW];by_cases e:k'=k
  .rw[if_pos (show bS (kD k',d0).1=aa k by rw[iX,e]),if_pos (show(k',x).1=k from e)]
   exact Aa7.2 ⟨k',v,_,rfl,rfl,rv,KQ rv h2⟩
  .rw[if_neg (show ¬ bS (kD k',d0).1=aa k by rw[iX];simpa using e),if_neg (show ¬ (k',x).1=k from e)]
   exact Aa7.2 ⟨k',x,_,rfl,rfl,h1,KQ rv h2⟩
theorem Abm.snoc(rv:Abj K H d v):∀ {kds:be} {kvs:ld},Abm K H kds kvs->Abm K H (kds++[(kD k,d)]) (kvs++[(k,v)])
 |[],kvs,h=>by rw[Abi.1 h];exact Aa7.2 ⟨k,v,[],rfl,rfl,rv,Abi.2 rfl⟩
 |(k0,d0)::r,kvs,h=>by
  obtain⟨k',x,rr,rfl,rfl,h1,h2⟩:=Aa7.1 h;exact Aa7.2 ⟨k',x,_,rfl,rfl,h1,Abm.snoc rv h2⟩
theorem DB{kvs:ld}(h:Abm K H kds kvs)(rv:Abj K H d v):Abm K H (putD kds k d) (putK kvs k v):=by
 unfold putD putK;rw[Gf h];by_cases q:(kvs.any λkv=>decide (kv.1=k))=af
 .rw[if_pos q,if_pos q];exact KQ rv h
 .rw[if_neg q,if_neg q];exact Abm.snoc rv h
theorem Abm.length:∀ {kds:be} {kvs:ld},Abm K H kds kvs->kvs.length=kds.length
 |[],kvs,h=>by rw[Abi.1 h];rfl
 |(k0,d0)::r,kvs,h=>by
  obtain⟨k',x,rr,rfl,rfl,h1,h2⟩:=Aa7.1 h;rw[fA,fA,Abm.length h2]
theorem jL{x:V}(h:bS d=aa k)(r:Abj K H d x):x=kV k:=by
 rw[tW h] at r;exact Yv r
def au:aA->aA->aaj
 |.list ds,.int i=>ia ds i
 |.tuple ds,.int i=>ia ds i
 |.str z,.int i=>if z.length<=sizeLine then(ia z.cps.toList i).bind λc=>aa (.str ⟨#[c]⟩) else ab
 |.dict kds,d=>(bS d).bind λk=>bU kds k
 |_,_=>ab
theorem Fm{i:Int}(r:Aak K H ds xs)(h:ia ds i=aa d):∃ v,ia xs i=aa v/\Abj K H d v:=by
 unfold ia at h ⊢;rw[r.length];obtain⟨j,h1,h2⟩:=ao h;obtain⟨v,h3,h4⟩:=r.get h2;exact⟨v,by rw[h1];exact h3,h4⟩
theorem Uj {α:Type}{xs:List α}{i:Int}{x:α}(h:ia xs i=aa x):∃ j:Nat,xs[j]?=aa x:=by
 unfold ia at h;obtain⟨j,h1,h2⟩:=ao h;exact⟨j,h2⟩
section
variable {a:aQ}{fa fb f:EF}
theorem zY (hu:X.A.units+40<cLine)(ha:DE X a fa)(hb:DE X b fb)(hs:JB b):DE X (.Subscript a b pos) (ai au fa fb):=PE.imp (PE.or (SS VH ha hb hs) (Fz hu ha hb hs)) λZ H Q h=>by
 obtain⟨P,Y,d,hP,rs,ef,k⟩:=h;obtain⟨d1,e1,br⟩:=ao ef;obtain⟨d2,e2,bq⟩:=ao br;clear ef br;have seq:(∀ (H2:Hp) (v u:V),Ext H H2->Abj X.K (hid H2 P) d1 v->Abj X.K (hid H2 P) d2 u->X6 X.K v u H2 Q)->xk (X6 X.K) (tF X.K 0 fa) (tF X.K 0 fb) Z H Q:=λz=>
  ⟨P,Y,d1,hP,rs,e1,dR λv H1 x1 r1=>⟨P,Y,d2,hP.ext x1,rs.ext (cN x1),e2,dR λu H2 x2 r2=>z H2 v u (x1.trans x2) (r1.ext (cN x2)) r2⟩⟩
 cases d1 with
 |list ds=>
  cases d2 with
  |int i=>
   refine .inl (seq λH2 v u x r1 r2=>.inl ?_)
   obtain⟨q,xs,rfl,hq,rr⟩:=Aa8.1 r1;obtain⟨w,h1,h2⟩:=Fm rr (show ia ds i=aa d from bq)
   exact⟨q,xs,i,w,rfl,Aah.1 r2,Aal.sqL hq,h1,k.zero x h2⟩
  |_=>cases bq
 |tuple ds=>
  cases d2 with
  |int i=>
   refine .inl (seq λH2 v u x r1 r2=>.inr (.inl ?_))
   obtain⟨q,xs,rfl,hq,rr⟩:=Aap.1 r1;obtain⟨w,h1,h2⟩:=Fm rr (show ia ds i=aa d from bq)
   exact⟨q,xs,i,w,rfl,Aah.1 r2,SqT.of (Aal _ _ hq),h1,k.zero x h2⟩
  |_=>cases bq
 |str z=>
  cases d2 with
  |int i=>
   have bq:(if z.length<=sizeLine then(ia z.cps.toList i).bind λc=>aa (.str ⟨#[c]⟩) else ab)=aa d:=bq
   by_cases hz:z.length<=sizeLine
   .rw[if_pos hz] at bq;obtain⟨c,h1,h2⟩:=ao bq;cases h2;obtain⟨j,hj⟩:=Uj h1;refine .inl (seq λH2 v u x r1 r2=>.inr (.inr ⟨z,i,c,(Aa0.1 r1).1,Aah.1 r2,hz,h1,k.zero x (Aa0.2 ⟨rfl,KZ (Aa0.1 r1).2 hj⟩)⟩))
   .rw[if_neg hz] at bq;cases bq
  |_=>cases bq
 |dict kds=>
  obtain⟨kk,h1,h2⟩:=ao (show((bS d2).bind λk=>bU kds k)=aa d by cases d2<;>exact bq)
  refine .inr ⟨P,Y,_,hP,rs,e1,dR λv H1 x1 r1=>⟨P,Y,d2,hP.ext x1,rs.ext (cN x1),e2,dR λu H2 x2 r2=>?_⟩⟩
  obtain⟨q,kvs,rfl,hq,rr⟩:=l8 (r1.ext (cN x2)) h2;rcases tT rr with⟨n1,_⟩|⟨d',v',s1,s2,rd⟩
  .rw[h2] at n1;cases n1
  .rw[h2] at s1;cases s1;refine⟨q,v',rfl,.inl ⟨kvs.1,kvs.2,kk,.inl (Aal _ _ hq),jL h1 r2,s2.symm⟩,k.zero (x1.trans x2) rd⟩
 |_=>cases d2<;>cases bq
def SA (neg:Bool):aA->be->aaj
 |.tuple _,(_,.list _)::_=>ab
 |.tuple k,(_,_)::kds=>if (bR k&&decide (cU k<=6))=af then aa (.bool (neg != (lB kds k).isSome)) else ab
 |_,_=>ab
def gn (neg:Bool):aA->aA->aaj
 |d,.list ds=>if (dB d&&noDicts ds)=af then aa (.bool (neg != ds.any λz=>bZ z d)) else ab
 |d,.tuple ds=>if (dB d&&noDicts ds)=af then aa (.bool (neg != ds.any λz=>bZ z d)) else ab
 |.str i,.str j=>aa (.bool (neg != !(RI j i 0 j.length 1).isEmpty))
 |d,.dict kds=>if dg kds=af then(bS d).bind λk=>aa (.bool (neg != (bU kds k).isSome)) else SA neg d kds
 |_,_=>ab
def OE (K:aK)(neg:Bool):R2:=λx y H Q=>HF K neg x y H Q\/(∃ i j,x=.str i/\y=.str j/\Q (.bl (neg != !(RI j i 0 j.length 1).isEmpty)) H)\/∃ a o,y=.ref a/\qS H a x o/\Q (.bl (neg != o.isSome)) H
theorem WW (hu:X.A.units+100<cLine):OpR X (gK .In) (OE X.K ah):=by
 rw[2];rcases h with h|⟨i,j,ex,ey,q⟩|⟨a,o,rfl,g,q⟩
 .exact Qe hu ac s Z H x y v u Q I rx ry h
 .exact F1 ac s Z H x y v u Q I rx ry ⟨i,j,ex,ey,by simpa using q⟩
 .cases ry;exact Lg () I g rx λs' I'=>⟨.bl _,H,I',rfl,by simpa using q⟩
theorem Df (hu:X.A.units+100<cLine):OpR X (gK .NotIn) (OE X.K af):=by
 rw[2];rcases h with h|⟨i,j,ex,ey,q⟩|⟨a,o,rfl,g,q⟩
 .exact L8 hu ac s Z H x y v u Q I rx ry h
 .exact c6 ac s Z H x y v u Q I rx ry ⟨i,j,ex,ey,by simpa using q⟩
 .cases ry;exact Ts () I g rx λs' I'=>⟨.bl _,H,I',rfl,by simpa using q⟩
theorem CB{neg:Bool}:jc K 0 (OE K neg) (gn neg):=λP H x y a b d Q hP ra rb e k=>by
 unfold gn at e;split at e
 .obtain⟨hc,rfl⟩:=cL e;have cy:=iI.1 hc;exact .inl ⟨a,_,ra.ext Aal,.inl (rb.ext Aal),cy.1,cy.2,k.zero Ext.refl (Aaw.2 rfl)⟩
 .obtain⟨hc,rfl⟩:=cL e;have cy:=iI.1 hc;exact .inl ⟨a,_,ra.ext Aal,.inr (rb.ext Aal),cy.1,cy.2,k.zero Ext.refl (Aaw.2 rfl)⟩
 .cases e;exact .inr (.inl ⟨_,_,(Aa0.1 ra).1,(Aa0.1 rb).1,k.zero Ext.refl (Aaw.2 rfl)⟩)
 .rename_i kds;by_cases pk:dg kds=af
  case neg=>
   rw[if_neg pk] at e;have ek:∃ m r,kds=(.none,m)::r:=by
    cases kds with
    |nil=>simp[dg] at pk
    |cons p r=>
     obtain⟨k0,m⟩:=p;cases k0<;>simp[dg] at pk;exact⟨m,r,rfl⟩
   obtain⟨m,r,rfl⟩:=ek;cases a with
   |tuple kk=>
    have hm:∀ es,m ≠ .list es:=by
     rintro es rfl;cases e
    replace e:(if (bR kk&&decide (cU kk<=6))=af then aa (kT (neg != (lB r kk).isSome)) else ab)=aa d:=by
     cases m with
     |list es=>exact absurd rfl (hm es)
     |_=>exact e
    obtain⟨hc,rfl⟩:=cL e;have cy:bR kk=af/\cU kk<=6:=by simpa using hc
    obtain⟨q,ts,rfl,hq,rr⟩:=(LB hm).1 rb;obtain⟨b,xs,rfl,hb,rx⟩:=Aap.1 (ra.ext Aal);refine .inr (.inr ⟨q,gE ts.2 kk,rfl,.inr ⟨ts.2,kk,b,⟨_,.inl (Aal _ _ hq)⟩,rfl,⟨cy.1,cy.2,xs,hb,Aak.keys kk cy.1 rx⟩,rfl⟩,k.zero Ext.refl (Aaw.2 ?_)⟩);rcases MA cy.1 rr with⟨n1,n2⟩|⟨d',v',s1,s2,rd⟩
    .rw[n1,n2];rfl
    .rw[s1,s2];rfl
   |_=>simp[SA] at e
  rw[if_pos pk] at e;obtain⟨kk,h1,h2⟩:=ao e;cases h2;obtain⟨q,kvs,rfl,hq,rr⟩:=(oB pk).1 rb;refine .inr (.inr ⟨q,gE kvs.2 kk,rfl,.inl ⟨kvs.1,kvs.2,kk,.inl (Aal _ _ hq),jL h1 ra,rfl⟩,k.zero Ext.refl (Aaw.2 ?_)⟩);rcases tT rr with⟨n1,n2⟩|⟨d',v',s1,s2,rd⟩
  .rw[n1,n2];rfl
  .rw[s1,s2];rfl
 .cases e
end
def cR:aah->aaj
 |[.list ds]=>aa (.int ds.length)
 |[.tuple ds]=>aa (.int ds.length)
 |[.dict kds]=>if dg kds=af then aa (.int kds.length) else ab
 |[.str z]=>if z.length<=sizeLine then aa (.int z.length) else ab
 |_=>ab
theorem fK(r:Aak K H [d] xs):∃ v,xs=[v]/\Abj K H d v:=by
 obtain⟨v,t,rfl,h1,h2⟩:=Aae.1 r;obtain rfl:=Aai.1 h2;exact⟨v,rfl,h1⟩
section
def RW (K:aK):aai->Hp->VK->Prop:=λxs H Q=>(∃ p ys,xs=[.ref p]/\(SqL K H p ys\/SqT K H p ys)/\Q (.int ys.length) H)\/(∃ z,xs=[.str z]/\z.length<=sizeLine/\Q (.int z.length) H)\/∃ a ep kvs,xs=[V.ref a]/\H a=aa (.dK ep kvs)/\Q (.int kvs.length) H
theorem MZ:Acm X (.builtin "len") (RW X.K):=Atf.or (Ar3.or G1)
theorem LY:CallD K 0 (RW K) cR:=λP H xs ds d Q hP r e k=>by
 unfold cR at e;split at e
 .cases e;rw[6];obtain⟨q,ys,rfl,hq,rr⟩:=Aa8.1 r;exact .inl ⟨q,ys,rfl,.inl (Aal.sqL hq),k.zero Ext.refl (Aah.2 (by rw[rr.length]))⟩
 .cases e;rw[6];obtain⟨q,ys,rfl,hq,rr⟩:=Aap.1 r;exact .inl ⟨q,ys,rfl,.inr (SqT.of (Aal _ _ hq)),k.zero Ext.refl (Aah.2 (by rw[rr.length]))⟩
 .obtain⟨pk,rfl⟩:=cL e;rw[6];obtain⟨q,ys,rfl,hq,rr⟩:=(oB pk).1 r;exact .inr (.inr ⟨q,ys.1,ys.2,rfl,Aal _ _ hq,k.zero Ext.refl (Aah.2 (by rw[rr.length]))⟩)
 .obtain⟨hz,rfl⟩:=cL e;rw[6];exact .inr (.inl ⟨_,by rw[(Aa0.1 r).1],hz,k.zero Ext.refl (Aah.2 rfl)⟩)
 .cases e
noncomputable def mF:aA->String
 |.none=>"NoneType"
 |.bool _=>"bool"
 |.int _=>"int"
 |.str _=>"str"
 |.list _=>"list"
 |.tuple _=>"tuple"
 |.dict _=>"dict"
def XO:List String:=["int","bool","str","list","tuple","dict"]
theorem J9 (d:aA):mF d∈kinds:=by cases d<;>simp[mF,kinds]
theorem G3:Acm X (.builtin "isinstance") (λxs H Q=>∃ x T d,xs=[x,.ty T]/\Abj X.K H d x/\T∈XO/\Q (.bl (qu (mF d) T)) H):=by
 rw[4];obtain⟨x,T,d,rfl,rd,hT,q⟩:=h;have ek:=Rk (J9 d) hT;have by_ty:TyOf X.K H x (.type (mF d))->aL (aP X.prog X.w) X.A (call (.builtin "isinstance") us) (EP X ac Z Q) X.xe s:=λty=>
  b5 ac s Z H _ us Q I r ⟨x,T,_,qu (mF d) T,rfl,ty,Akk.trans ek,q⟩
 cases d with
 |none=>obtain rfl:=Abq.1 rd;exact by_ty .non
 |bool b=>obtain rfl:=Aaw.1 rd;exact by_ty (.bl _)
 |int b=>obtain rfl:=Aah.1 rd;exact by_ty (.int _)
 |str b=>obtain⟨rfl,_⟩:=Aa0.1 rd;exact by_ty (.str _)
 |list b=>
  obtain⟨a,ys,rfl,h,_⟩:=Aa8.1 rd;obtain⟨u,w',rfl,ru,gv⟩:=vals2 r;cases gv;cases ru;obtain⟨its,_,⟨o,n,e1,hc,_,_⟩,_⟩:=I.list h;exact mN Iy I.kIn ⟨o,e1,hc⟩ (Akk.trans ek) (λz=>nomatch z) λtk=>⟨.bl _,H,I.tok tk,rfl,q⟩
 |tuple b=>obtain⟨_,_,rfl,h,_⟩:=Aap.1 rd;exact by_ty (.tup h)
 |dict b=>
  obtain⟨_,rfl,⟨_,h,_⟩|⟨_,h,_⟩|⟨_,h,_⟩⟩:=Aco.1 rd
  .exact by_ty (.dK h)
  .exact by_ty (.dT h)
  .obtain⟨u,w',rfl,ru,gv⟩:=vals2 r;cases gv;cases ru;obtain⟨⟨_,_,o,_,e1,hc,_⟩,_⟩:=I.hok _ _ h;exact mN Iz I.kIn ⟨o,e1,hc.1⟩ (Akk.trans ek) (λz=>nomatch z) λtk=>⟨.bl _,H,I.tok tk,rfl,q⟩
noncomputable def gF (T:String):aA->aaj:=λd=>aa (.bool (qu (mF d) T))
variable {a:aQ}{f:EF}{fa:AF}{av bc:bH}
theorem WA(wm:Gl X "isinstance")(hm:X.mg "isinstance" = ab)(hg:Gl X x)(hmx:X.mg x=ab)(hv:mM x=aa (.type T))(hT:T∈XO)(he:DE X e f)
  (hn:x ≠ "__name__":=by decide) (hd:(x==("__debug__" : aE))=ah:=by decide) (pv:bX (e::[.Name x p2]) X.env=(ah,bY e X.env)::bX [.Name x p2] X.env:=by rfl)
  (kg:bX (.Name x p2::[]) X.env=(ah,bY (.Name x p2) X.env)::bX [] X.env:=by rfl) (cz:(gL pos (bX [.Name x p2] X.env)).any (·.1)=ah:=by rfl):DE X (.Call (.Name "isinstance" p) [e,.Name x p2] [] pos) (gm (gF T) f):=
 PE.imp (EH G3 wm hm boot_isinstance (hX he (hX (Mi hg hmx hv hn hd) jX kg) pv) nofun nofun pv cz) λZ H Q gh=>by
  rw[5];obtain⟨d1,e1,ef⟩:=ao ef;cases ef;exact⟨P,Y,d1,hP,rs,e1,dR λv H1 x1 r1=>⟨v,T,d1,rfl,r1.ext Aal,hT,k.zero x1 (Aaw.2 rfl)⟩⟩
def iO:aah->aaj
 |[.list ds]=>aa (.tuple ds)
 |[.tuple ds]=>aa (.tuple ds)
 |_=>ab
theorem Yy:CallD K 0 (λxs H Q=>∃ p ys,xs=[.ref p]/\((SqL K H p ys/\∀ l,H l=ab->Q (.ref l) (upd H l (.tup ys)))\/(SqT K H p ys/\Q (.ref p) H))) iO:=λP H xs ds d Q hP r e k=>by
 unfold iO at e;split at e
 .cases e;rw[6];obtain⟨q,ys,rfl,hq,rr⟩:=Aa8.1 r;exact⟨q,ys,rfl,.inl ⟨Aal.sqL hq,λl hl=>k.tup hP hl rr⟩⟩
 .cases e;rw[6];obtain⟨q,ys,rfl,hq,rr⟩:=Aap.1 r;exact⟨q,ys,rfl,.inr ⟨SqT.of (Aal _ _ hq),k.zero Ext.refl r⟩⟩
 .cases e
noncomputable def nP:aah->aaj
 |[.list ds]=>aa (.list ds)
 |[.tuple ds]=>aa (.list ds)
 |[.str z]=>if z.length<=sizeLine then aa (.list (z.cps.toList.map λc=>.str ⟨#[c]⟩)) else ab
 |_=>ab
def TB (K:aK):aai->Hp->VK->Prop:=λxs H Q=>(∃ p ys,xs=[.ref p]/\(SqL K H p ys\/SqT K H p ys)/\∀ l,H l=ab->Q (.ref l) (upd H l (.lst ys)))\/∃ z:aE,xs=[.str z]/\z.length<=sizeLine/\∀ l,H l=ab->Q (.ref l) (upd H l (.lst (z.cps.toList.map sS)))
theorem zP (hc:X.calm=af):Acm X (.type "list") (TB X.K):=Arn.or (Xv hc)
theorem Cf:∀ {cs:aar},(∀ c∈cs,cH (.str ⟨#[c]⟩)=af)->Aak K H (cs.map λc=>.str ⟨#[c]⟩) (cs.map sS)
 |[],_=>Aai.2 rfl
 |c::r,h=>Aae.2 ⟨_,_,rfl,Aa0.2 ⟨rfl,h c bE⟩,Cf λc' m=>h c' (bL _ m)⟩
theorem zI:CallD K 1 (TB K) nP:=λP H xs ds d Q hP r e k=>by
 unfold nP at e;split at e
 .cases e;rw[6];obtain⟨q,ys,rfl,hq,rr⟩:=Aa8.1 r;exact .inl ⟨q,ys,rfl,.inl (Aal.sqL hq),λl hl=>k.lst hP hl rr⟩
 .cases e;rw[6];obtain⟨q,ys,rfl,hq,rr⟩:=Aap.1 r;exact .inl ⟨q,ys,rfl,.inr (SqT.of (Aal _ _ hq)),λl hl=>k.lst hP hl rr⟩
 .obtain⟨hz,rfl⟩:=cL e;rw[6];refine .inr ⟨_,by rw[(Aa0.1 r).1],hz,λl hl=>k.lst hP hl (Cf λc m=>?_)⟩
  obtain⟨j,hj⟩:=Jp.1 m;exact KZ (Aa0.1 r).2 hj
 .cases e
def uP:aah->aaj
 |[.int i]=>aa (.int i)
 |[.bool b]=>aa (.int (if b then 1 else 0))
 |_=>ab
theorem E9:CallD K 0 (λxs H Q=>(∃ i,xs=[.int i]/\Q (.int i) H)\/∃ k,xs=[.bl k]/\Q (.int (if k then 1 else 0)) H) uP:=λP H xs ds d Q hP r e k=>by
 unfold uP at e;split at e
 .cases e;rw[6];exact .inl ⟨_,by rw[Aah.1 r],k.zero Ext.refl (Aah.2 rfl)⟩
 .cases e;rw[6];exact .inr ⟨_,by rw[Aaw.1 r],k.zero Ext.refl (Aah.2 rfl)⟩
 .cases e
noncomputable def sH:aah->Option (List Bool)
 |[]=>aa []
 |.bool b::r=>(sH r).bind λbs=>aa (b::bs)
 |_::_=>ab
def xR:aah->aaj
 |[.list ds]=>(sH ds).bind λbs=>aa (.bool (bs.all id))
 |_=>ab
theorem XI:∀ {ds:aah} {xs:aai} {bs:List Bool},sH ds=aa bs->Aak K H ds xs->xs=bs.map V.bl
 |[],xs,bs,e,r=>by
  cases e;rw[Aai.1 r];rfl
 |.bool b::ds,xs,bs,e,r=>by
  obtain⟨uw,e1,e2⟩:=ao (show((sH ds).bind λbs=>aa (b::bs))=aa bs from e)
  cases e2;obtain⟨v,t,rfl,h1,h2⟩:=Aae.1 r;rw[Aaw.1 h1,XI e1 h2];rfl
 |.none::_,_,_,e,_=>by cases e
 |.int _::_,_,_,e,_=>by cases e
 |.str _::_,_,_,e,_=>by cases e
 |.list _::_,_,_,e,_=>by cases e
 |.tuple _::_,_,_,e,_=>by cases e
 |.dict _::_,_,_,e,_=>by cases e
theorem D6:CallD K 0 (λxs H Q=>∃ p ys,xs=[.ref p]/\SqL K H p ys/\(∀ y∈ys,∃ b,y=.bl b)/\Q (.bl (allB ys)) H) xR:=λP H xs ds d Q hP r e k=>by
 unfold xR at e;split at e
 .obtain⟨bs,e1,e2⟩:=ao e;cases e2;rw[6];obtain⟨q,ys,rfl,hq,rr⟩:=Aa8.1 r;obtain rfl:=XI e1 rr;refine⟨q,_,rfl,Aal.sqL hq,λy m=>?_,k.zero Ext.refl (Aaw.2 ?_)⟩
  .grind
  .unfold allB;rw[List.all_map]
   grind
 .cases e
def cutD (ds:aah)(lo hi:aas):aah:=(ds.drop (HT.sIx ds.length 0 lo)).take (HT.sIx ds.length ds.length hi-HT.sIx ds.length 0 lo)
abbrev OF:=jp->Option aas
def tOF (K:aK)(f:OF):TO:=λZ H Q=>∃ P Y o,Hid P H/\Al7 K (hid H P) Y Z/\f Y=aa o/\∀ H',Ext H H'->Q o H'
abbrev DO (X:Cx)(e:Option aQ)(f:OF):Prop:=PO X e (tOF X.K f)
def oN:OF:=λ_=>aa ab
def oS (f:EF):OF:=λY=>(f Y).bind λd=>match d with
 |.int i=>aa (aa i)
 |_=>ab
theorem PO.imp {o:Option aQ}{t t':TO}(h:PO X o t)(w:∀ Z H Q,t' Z H Q->t Z H Q):PO X o t':=λac s Z H Q I q=>h ac s Z H Q I (w _ _ _ q)
theorem tD:DO X ab oN:=PO.imp Um λZ H Q gh=>by
 obtain⟨P,Y,o,hP,rs,ef,k⟩:=gh;cases ef;exact k H Ext.refl
theorem tH (h:DE X e f):DO X (aa e) (oS f):=PO.imp (Ss h) λZ H Q gh=>by
 obtain⟨P,Y,o,hP,rs,ef,k⟩:=gh;obtain⟨d,e1,ef⟩:=ao ef;refine⟨P,Y,d,hP,rs,e1,dR λv H1 x1 r1=>?_⟩
 cases d with
 |int i=>cases ef;exact⟨i,Aah.1 r1,k H1 x1⟩
 |_=>cases ef
def oH (f:EF)(lo hi:OF):EF:=λY=>(f Y).bind λd=>(lo Y).bind λl=>(hi Y).bind λh=>match d with
 |.list ds=>aa (.list (cutD ds l h))
 |_=>ab
theorem xZ {lo hi:Option aQ}{fl fh:OF}{pp:bH}(he:DE X e f)(hl:DO X lo fl)(hh:DO X hi fh):DF 1 X (.Subscript e (.Slice lo hi ab pp) pos) (oH f fl fh):=PE.imp (XX Uv he hl hh) λZ H Q gh=>by
 rw[5];obtain⟨d1,e1,br⟩:=ao ef;obtain⟨l,e2,bq⟩:=ao br;obtain⟨h,e3,dq⟩:=ao bq;clear ef br bq;cases d1 with
 |list ds=>
  cases dq;refine⟨P,Y,_,hP,rs,e1,dR λv H1 x1 r1=>⟨P,Y,l,hP.ext x1,rs.ext (cN x1),e2,λH2 x2=>⟨P,Y,h,hP.ext (x1.trans x2),rs.ext (cN (x1.trans x2)),e3,λH3 x3=>?_⟩⟩⟩
  obtain⟨q,ys,rfl,hq,rr⟩:=Aa8.1 (r1.ext (cN (x2.trans x3)));refine⟨q,ys,rfl,Aal.sqL hq,λp hp=>(k.mono ((x1.trans x2).trans x3)).lst (hP.ext ((x1.trans x2).trans x3)) hp ?_⟩
  unfold qT cutD;rw[rr.length];exact(rr.drop _).take _
 |_=>cases dq
theorem DD {α:Type}{c:Prop}[Decidable c]{x:Option α}{y:α}(h:(if c then x else ab)=aa y):c/\x=aa y:=by
 grind
def HL:aA->aA->aA->aaj
 |.dict kds,k,x=>if dg kds=af then(bS k).bind λk=>aa ((bU kds k).getD x) else ab
 |_,_,_=>ab
def lC (fd fk fx:EF):EF:=λY=>(fd Y).bind λd=>(fk Y).bind λk=>(fx Y).bind λx=>HL d k x
theorem Fj {o k z:aQ}{fd fk fx:EF}(hu:X.A.units+40<cLine)(ho:DE X o fd)(hk:DE X k fk)(hz:DE X z fx)(m:M2 X o "get" av k z bc:=by exact⟨rfl,rfl,rfl,rfl⟩):DE X (.Call (.Attribute o "get" av) [k,z] [] bc) (lC fd fk fx):=
 PE.imp (A7 hu ho hk hz m) λZ H Q gh=>by
  obtain⟨P,Y,d,hP,rs,ef,kk⟩:=gh;obtain⟨d1,e1,br⟩:=ao ef;obtain⟨d2,e2,bq⟩:=ao br;obtain⟨d3,e3,dq⟩:=ao bq;clear ef br bq;cases d1 with
  |dict kds=>
   obtain⟨pk,gw⟩:=DD (show(if dg kds=af then(bS d2).bind λk=>aa ((bU kds k).getD d3) else ab)=aa d from dq)
   obtain⟨key,h1,h2⟩:=ao gw;cases h2;refine⟨P,Y,_,hP,rs,e1,dR λv H1 x1 r1=>?_⟩
   obtain⟨q,kvs,rfl,hq,rr⟩:=(oB pk).1 r1;refine⟨q,rfl,.inl ⟨kvs.1,kvs.2,.inl (Aal _ _ hq)⟩,P,Y,d2,hP.ext x1,rs.ext (cN x1),e2,dR λu H2 x2 r2=>⟨P,Y,d3,hP.ext (x1.trans x2),rs.ext (cN (x1.trans x2)),e3,dR λw H3 x3 r3=>?_⟩⟩
   refine⟨gE kvs.2 key,.inl ⟨kvs.1,kvs.2,key,.inl (x3 _ _ (x2 _ _ (Aal _ _ hq))),jL h1 r2,rfl⟩,kk.zero ((x1.trans x2).trans x3) ?_⟩;rcases tT (rr.ext (cN (x2.trans x3))) with⟨n1,n2⟩|⟨d',v',s1,s2,rd⟩
   .rw[n1,n2];exact r3
   .rw[s1,s2];exact rd
  |_=>cases dq
theorem Res.dic{P:aC->Prop}{ep:Nat}{kvs:ld}{q:aC}(hP:Hid P H)(h:Res K P 1 (.dict kds) H Q)(n:H q=ab)(r:Abm K (hid H P) kds kvs):Q (.ref q) (upd H q (.dK ep kvs)):=by
 refine h (.ref q) _ [q] (Ext.new n) (jC.2 ⟨by simp,.nil⟩) (λa m=>?_) ⟨q,(ep,kvs),kvs.map λ_=>[],rfl,dQ,?_,?_⟩
 .have:a=q:=by simpa using m
  rw[12];exact⟨n,_,dQ⟩
 .have:∀ l:ld,(l.map λ_=>([]:aan)).flatten=[]:=λl=>by
   induction l with
   |nil=>rfl
   |cons a l ih=>rw[cW,rU,ih];rfl
  rw[this]
 .have xe:Ext (hid H P) (hid (upd H q (.dK ep kvs)) (cn P [q])):=λb o e=>by
   obtain⟨nb,e⟩:=Abr.1 e;have hb:=iP e n;exact eO (λz=>z.elim nb λm=>hb (by simpa using m)) (by rw[cM hb];exact e)
  generalize hid (upd H q (.dK ep kvs)) (cn P [q])=B at xe;generalize upd H q (.dK ep kvs)=H1;clear h;have go:∀ (ds:be) (xs:ld),Abm K (hid H P) ds xs->All3 (λ(kd:aA×aA) (kv:aI×V) f=>kd.1=kD kv.1/\Aej K B H1 0 kd.2 kv.2 f) ds xs (xs.map λ_=>[]):=by
   intro ds;induction ds with
   |nil=>intro xs r;rw[Abi.1 r];exact .nil
   |cons d ds ih=>
    intro xs r;obtain⟨k',y,t,rfl,ek,h1,h2⟩:=Aa7.1 (show Abm K (hid H P) ((d.1,d.2)::ds) xs from r)
    exact .cons ⟨ek,rfl,h1.ext xe⟩ (ih t h2)
  exact go kds kvs r
theorem Gp:DF 1 X (.Dict [] [] pos) (eC (.dict [])):=PE.imp XQ λZ H Q gh=>by
 rw[5];cases ef;exact λq hq=>k.dic hP hq (Abi.2 rfl)
def FL:aah->aaj
 |[.dict kds]=>if dg kds=af then aa (.dict kds) else ab
 |_=>ab
theorem Bn:Acm X (.type "dict") (λxs H Q=>∃ a ep kvs,xs=[.ref a]/\H a=aa (.dK ep kvs)/\∀ p n,H p=ab->Q (.ref p) (upd H p (.dK n kvs))):=by
 rw[4];obtain⟨a,ep,kvs,rfl,ha,q⟩:=h;obtain⟨u,rfl,ru⟩:=vals1 r;cases ru;exact v8 I (.inl ha) λp n s' hp I'=>⟨.ref p,_,I',rfl,q p n hp⟩
theorem Ck:CallD K 1 (λxs H Q=>∃ a ep kvs,xs=[.ref a]/\H a=aa (.dK ep kvs)/\∀ p n,H p=ab->Q (.ref p) (upd H p (.dK n kvs))) FL:=λP H xs ds d Q hP r e k=>by
 unfold FL at e;split at e
 .obtain⟨pk,rfl⟩:=cL e;rw[6];obtain⟨q,ys,rfl,hq,rr⟩:=(oB pk).1 r;exact⟨q,ys.1,ys.2,rfl,Aal _ _ hq,λl n hl=>k.dic hP hl rr⟩
 .cases e
end
section
variable {Y:aR}
theorem LH {B:Hp}:∀ {ds:aah} {xs:aai} {Fs:aad},All3 (Afh K B H 0) ds xs Fs->Aak K B ds xs/\Fs.flatten=[]:=by
 intro ds xs Fs h;induction h with
 |nil=>exact⟨Aai.2 rfl,rfl⟩
 |cons h t ih=>
  obtain⟨rfl,r⟩:=h;exact⟨Aae.2 ⟨_,_,rfl,r,ih.1⟩,by rw[rU,ih.2];rfl⟩
theorem Xe {B:Hp}:∀ {ds:be} {xs:ld} {Fs:aad},All3 (λ(kd:aA×aA) (kv:aI×V) f=>kd.1=kD kv.1/\Afh K B H 0 kd.2 kv.2 f) ds xs Fs->Abm K B ds xs/\Fs.flatten=[]:=by
 intro ds xs Fs h;induction h with
 |nil=>exact⟨Abi.2 rfl,rfl⟩
 |@cons p q F ds xs Fs h t ih=>
  obtain⟨k,d⟩:=p;obtain⟨k',v⟩:=q;obtain⟨ek,rfl,r⟩:=h;exact⟨Aa7.2 ⟨_,_,_,rfl,ek,r,ih.1⟩,by rw[rU,ih.2];rfl⟩
theorem EL {B:Hp}:∀ {ds:aah} {xs:aai},Aak K B ds xs->All3 (Afh K B H1 0) ds xs (xs.map λ_=>[])/\(xs.map λ_=>([]:aan)).flatten=[]
 |[],xs,r=>by rw[Aai.1 r];exact⟨.nil,rfl⟩
 |d::ds,xs,r=>by
  obtain⟨y,t,rfl,h1,h2⟩:=Aae.1 r;obtain⟨q1,q2⟩:=EL h2;exact⟨.cons ⟨rfl,h1⟩ q1,by rw[cW,rU,q2];rfl⟩
theorem MP {B:Hp}:∀ {ds:be} {xs:ld},Abm K B ds xs->All3 (λ(kd:aA×aA) (kv:aI×V) f=>kd.1=kD kv.1/\Afh K B H1 0 kd.2 kv.2 f) ds xs (xs.map λ_=>[])/\(xs.map λ_=>([]:aan)).flatten=[]
 |[],xs,r=>by rw[Abi.1 r];exact⟨.nil,rfl⟩
 |(k,d)::ds,xs,r=>by
  obtain⟨k',y,t,rfl,ek,h1,h2⟩:=Aa7.1 r;obtain⟨q1,q2⟩:=MP h2;exact⟨.cons ⟨ek,rfl,h1⟩ q1,by rw[cW,rU,q2];rfl⟩
theorem Sta.write {p:aC}{d':aA}(S:Sta K H0 P0 B0 Y Z H fp)(hi:i<Y.length)(hv:Z[i]?=aa (aa (.ref p)))(hp:p∈fp i)(ho:(∃ xs,o=.lst xs)\/∃ q:DQ,o=dO q)
  (new:Aej K (L2.hid H (Hd P0 fp)) (upd H p o) 1 d' (.ref p) (fp i)):Sta K H0 P0 B0 (Y.set i (aa (1,d'))) Z (upd H p o) fp:=by
 have hb:L2.hid (upd H p o) (Hd P0 fp)=L2.hid H (Hd P0 fp):=by
  funext b;unfold L2.hid;by_cases q:Hd P0 fp b
  .rw[if_pos q,if_pos q]
  .rw[if_neg q,if_neg q];exact cM λz=>q (.inr ⟨i,by rw[z];exact hp⟩)
 refine⟨by simp[S.len],S.nd,S.dj,λj a m=>⟨(S.own j a m).1,?_⟩,λb u e=>?_,S.hd,by rw[hb];exact S.base,λj n d e=>?_⟩
 .by_cases q:a=p
  .subst q;rcases ho with⟨xs,rfl⟩|⟨xs,rfl⟩
   .exact .inl ⟨xs,dQ⟩
   .exact .inr ⟨xs,dQ⟩
  .rw[cM q];exact(S.own j a m).2
 .rw[cM (iP e (S.own i p hp).1)];exact S.ext b u e
 .by_cases q:j=i
  .subst q;rw[nK hi] at e;cases e;exact⟨_,hv,by rw[hb];exact new⟩
  .rw[kG (λz=>q z.symm)] at e
   obtain⟨v,h1,h2⟩:=S.slot j n d e;refine⟨v,h1,?_⟩;rw[hb];exact h2.keep Ext.refl λa m=>cM λz=>q (S.dj j i a m (by rw[z];exact hp))
theorem Sta.lst1(S:Sta K H0 P0 B0 Y Z H fp)(e:Y[i]?=aa (aa (1,.list ds))):∃ p xs,Z[i]?=aa (aa (.ref p))/\H p=aa (.lst xs)/\Aak K (L2.hid H (Hd P0 fp)) ds xs /\
  ∀ ke gg,Aak K (L2.hid H (Hd P0 fp)) ke gg->Sta K H0 P0 B0 (Y.set i (aa (1,.list ke))) Z (upd H p (.lst gg)) fp:=by
 obtain⟨v,h1,h2⟩:=S.slot i 1 _ e;obtain⟨p,xs,Fs,rfl,hp,hF,h3⟩:=h2;obtain⟨r,hn⟩:=LH h3;rw[hn] at hF;refine⟨p,xs,h1,hp,r,λke gg r'=>S.write (cK.1 e).1 h1 (by rw[hF];exact bE) (.inl ⟨_,rfl⟩) ?_⟩
 obtain⟨q1,q2⟩:=EL r';exact⟨p,gg,_,rfl,dQ,by rw[hF,q2],q1⟩
theorem Sta.dic1 {ds:be}(S:Sta K H0 P0 B0 Y Z H fp)(e:Y[i]?=aa (aa (1,.dict ds))):∃ p ep xs,Z[i]?=aa (aa (.ref p))/\H p=aa (.dK ep xs)/\Abm K (L2.hid H (Hd P0 fp)) ds xs /\
  ∀ n ke gg,Abm K (L2.hid H (Hd P0 fp)) ke gg->Sta K H0 P0 B0 (Y.set i (aa (1,.dict ke))) Z (upd H p (.dK n gg)) fp:=by
 obtain⟨v,h1,h2⟩:=S.slot i 1 _ e;obtain⟨p,xs,Fs,rfl,hp,hF,h3⟩:=h2;obtain⟨r,hn⟩:=Xe h3;rw[hn] at hF;refine⟨p,xs.1,xs.2,h1,hp,r,λn ke gg r'=>S.write (cK.1 e).1 h1 (by rw[hF];exact bE) (.inr ⟨.inl (n,gg),rfl⟩) ?_⟩
 obtain⟨q1,q2⟩:=MP r';exact⟨p,(n,gg),_,rfl,dQ,by rw[hF,q2],q1⟩
end
noncomputable def getL (i:Nat)(Y:aR):Option aah:=match Y[i]? with
 |some (aa (1,.list ds))=>aa ds
 |_=>ab
def oI (i:Nat)(Y:aR):Option be:=match Y[i]? with
 |some (aa (1,.dict ds))=>aa ds
 |_=>ab
theorem oC{Y:aR}(h:getL i Y=aa ds):Y[i]?=aa (aa (1,.list ds)):=by
 unfold getL at h;split at h
 .rename_i e;cases h;exact e
 .cases h
theorem yX{Y:aR}{ds:be}(h:oI i Y=aa ds):Y[i]?=aa (aa (1,.dict ds)):=by
 unfold oI at h;split at h
 .rename_i e;cases h;exact e
 .cases h
section
variable {k o:aQ}{f g:EF}{av bc:bH}
def gY (i:Nat)(m:Md)(f:EF):SF:=λY=>(eV 0 m f Y).bind λd=>(getL i Y).bind λds=>if ds.length<sizeLine then aa (.nx (Y.set i (aa (1,.list (ds++[d]))))) else ab
theorem C7 (i:Nat)(m:Md)(he:DE X e f)(hN:Nm X i x:=by exact hE)(q5:Bm X (.Name x px) e [] "append" av bc:=by exact⟨rfl,rfl,rfl,rfl,rfl⟩)
  (ni:kQ (.Call (.Attribute (.Name x px) "append" av) [e] [] bc) ab pos.line X.env=pure ah:=by rfl):DS X H0 P0 n0 (.Expr (.Call (.Attribute (.Name x px) "append" av) [e] [] bc) pos) (gY i m f):=
 PS.imp (yE (vE QA PySem.F.slot_list_append PySem.F.type_list_append Ak (hN.pe) (hX (ev m he) jX q5.s) q5) ni) λD Z H gh=>by
  rw[7];obtain⟨d,e1,br⟩:=ao ef;obtain⟨ds,e2,bq⟩:=ao br;obtain⟨hl,rfl⟩:=cL bq;obtain⟨p,xs,h1,h2,_,_⟩:=S.lst1 (oC e2);refine⟨.ref p,h1,.inl ⟨rfl,xs,SqL.of h2⟩,B0,Y,fp,d,S,e1,λv H2 gh=>?_⟩
  obtain⟨fj,S2,r2⟩:=gh;obtain⟨p2,ZB,q1,q2,q3,q4⟩:=S2.lst1 (oC e2);have:p2=p:=by rw[h1] at q1;cases q1;rfl
  rw[12];exact⟨p2,ZB,v,rfl,rfl,q2,by rw[q3.length];exact hl,k _ _ fj (q4 _ _ (q3.snoc r2.2))⟩
def SK (i:Nat):SF:=λY=>(getL i Y).bind λds=>aa (.nx (Y.set i (aa (1,.list []))))
def pJ (i:Nat)(m:Md)(f:EF)(mk:Md)(g:EF):SF:=λY=>(eV 0 m f Y).bind λd=>(getL i Y).bind λds=>(eV 0 mk g Y).bind λk=>match k with
 |.int j=>(gb ds.length j).bind λj=>aa (.nx (Y.set i (aa (1,.list (ds.set j d)))))
 |_=>ab
theorem rE{m:Md}{Y:aR}(S:Sta K H0 P0 B0 Y Z H fp)(e:eV 0 m g Y=aa d)(hd:fC d=af)(k:∀ v H',Ext H H'->Abj K (hid H' (Hd P0 fp)) d v->Q v H'):tF K 0 g Z H Q:=by
 cases m with
 |s=>exact⟨Hd P0 fp,vS Y,d,S.hid,S.viewS,e,dR k⟩
 |a=>
  obtain⟨d',ed,ef⟩:=ao e;obtain⟨fl,rfl⟩:=cL ef;refine⟨P0,vA Y,d',S.hd.ext S.ext,S.viewA,ed,dR λv H' x r=>k v H' x (r.flat (λa xs e=>?_) _ hd)⟩
  obtain⟨na,e⟩:=Abr.1 e;refine eO (λq=>?_) e
  rcases q with q|⟨j,q⟩
  .exact na q
  .rcases((S.grow x).own j a q).2 with⟨ys,e2⟩|⟨ys,e2⟩<;>rw[e] at e2<;>first|cases e2|(cases ys<;>simp[dO] at e2)
theorem He (i:Nat)(m mk:Md)(he:DE X e f)(hk:DE X k g)(hN:Nm X i x:=by exact hE)
  (ha:∀ v,jR (.Subscript (.Name x px) k av) X.env v=(do
   let ov <-nF [v] (bY (.Name x px) X.env)
   let iv <-nF [v,ov] (bY k X.env)
   standAt av
   nF [v,ov,iv] (setItem ov iv v)
   release [v,ov,iv] []):=by intro _;rfl)
  (hs:OX [.Subscript (.Name x px) k av] e pos.line X.env=pure ah:=by rfl) (hw:OY [.Subscript (.Name x px) k av] e X.env=pure ab:=by rfl)
  (h1:(eZ [.Subscript (.Name x px) k av] X.env).map (·.2)=[jR (.Subscript (.Name x px) k av) X.env]:=by rfl):DS X H0 P0 n0 (.Assign [.Subscript (.Name x px) k av] e pos) (pJ i m f mk g):=
 PS.imp (OK (ev m he) (VR (hN.pe) hk set_list ha) hs hw h1) λD Z H gh=>by
  obtain⟨B0,Y,fp,o,S,ef,kk⟩:=gh;obtain⟨d,e1,br⟩:=ao ef;obtain⟨ds,e2,bq⟩:=ao br;obtain⟨kd,e3,dq⟩:=ao bq;clear ef br bq;cases kd with
  |int j=>
   obtain⟨jn,e5,gw⟩:=ao (show((gb ds.length j).bind λj=>aa (Out.nx (Y.set i (aa (1,.list (ds.set j d))))))=aa o from dq)
   cases gw;refine⟨B0,Y,fp,d,S,e1,λv H2 gh=>?_⟩
   obtain⟨fj,S2,r2⟩:=gh;obtain⟨p,xs,h1,h2,_,_⟩:=S2.lst1 (oC e2);refine⟨.ref p,h1,rE S2 e3 (by simp[fC]) λu H3 x3 r3=>?_⟩
   have S3:=S2.grow x3;obtain⟨p3,iz,q1,q2,q3,q4⟩:=S3.lst1 (oC e2);have:p3=p:=by rw[h1] at q1;cases q1;rfl
   rw[12];exact⟨p3,iz,j,jn,rfl,Aah.1 r3,q2,by rw[q3.length];exact e5,kk _ _ fj (q4 _ _ (q3.set (r2.2.ext (cN x3)) jn))⟩
  |_=>cases dq
def sR (i:Nat)(m:Md)(f:EF)(mk:Md)(g:EF):SF:=λY=>(eV 0 m f Y).bind λd=>(oI i Y).bind λkds=>(eV 0 mk g Y).bind λk=>(bS k).bind λk=>if kds.length<sizeLine then aa (.nx (Y.set i (aa (1,.dict (putD kds k d))))) else ab
theorem WJ (i:Nat)(m mk:Md)(hu:X.A.units+40<cLine)(he:DE X e f)(hk:DE X k g)(hN:Nm X i x:=by exact hE)(hs:kQ e (aa (.Subscript (.Name x px) k av)) pos.line X.env=pure ah:=by rfl):DS X H0 P0 n0 (.Assign [.Subscript (.Name x px) k av] e pos) (sR i m f mk g):=
 PS.imp (DR hu (hN.pe) hk (ev m he) hs) λD Z H gh=>by
  obtain⟨B0,Y,fp,o,S,ef,kk⟩:=gh;obtain⟨d,e1,br⟩:=ao ef;obtain⟨kds,e2,bq⟩:=ao br;obtain⟨kd,e3,dq⟩:=ao bq;obtain⟨key,e4,gw⟩:=ao dq;obtain⟨hl,rfl⟩:=cL gw;clear ef br bq dq;refine⟨B0,Y,fp,d,S,e1,λv H2 gh=>?_⟩
  obtain⟨fj,S2,r2⟩:=gh;obtain⟨p,ep,xs,h1,h2,_,_⟩:=S2.dic1 (yX e2);have hf:fC kd=af:=by rw[tW e4];cases key<;>simp[kD,fC]
  refine⟨.ref p,h1,rE S2 e3 hf λu H3 x3 r3=>?_⟩
  have S3:=S2.grow x3;obtain⟨p3,om,iz,q1,q2,q3,q4⟩:=S3.dic1 (yX e2);have:p3=p:=by rw[h1] at q1;cases q1;rfl
  rw[12];refine⟨p3,_,rfl,.inl ⟨om,iz,key,q2,jL e4 r3,by rw[q3.length];exact hl,rfl⟩,λn=>kk _ _ fj (q4 n _ _ (DB q3 (r2.2.ext (cN x3))))⟩
end
section
variable {a:aQ}{fa fb fc:EF}
noncomputable def pX:aA->aA->aaj
 |.list xs,.list ys=>if xs.length+ys.length<=sizeLine then aa (.list (xs++ys)) else ab
 |_,_=>ab
theorem Uq:OpR X (kC .Add) (λx y H Q=>∃ l b xs zs,x=.ref l/\y=.ref b/\SqL X.K H l xs/\SqL X.K H b zs/\xs.length+zs.length<=sizeLine/\∀ p,H p=ab->Q (.ref p) (upd H p (.lst (xs++zs)))):=by
 rw[2];obtain⟨l,b,xs,zs,rfl,rfl,hH,hB,hz,q⟩:=h;cases rx;cases ry;obtain⟨its,r,p1,z1⟩:=I.list hH;obtain⟨ph,r2,p2,z2⟩:=I.list hB;have l1:=r.length;have l2:=r2.length;obtain⟨⟨cls,dd,data,sl⟩,ho,hc,n,hd⟩:=p1.isList;obtain⟨⟨yq,xm,data2,xn⟩,qy,ii,n2,qz⟩:=p2.isList;simp only at hc hd ii qz;subst hc hd ii qz;refine PP ⟨_,ho,rfl⟩ ⟨_,qy,rfl⟩ noFill_list_add seq_list_add PySem.F.slot_list_add PySem.F.entry_list_add (PySem.F.args_list_add_2 _ _) (list_addW l b its.toArray ph.toArray n n2 dd xm sl xn (by simp only[dU];lia)) ⟨ho,qy,?_⟩
 have ea:its.toArray++ph.toArray=(its++ph).toArray:=by simp
 rw[ea];exact⟨.ref _,_,I.lnew (r.append r2) (by rw[rT];lia),rfl,q _ I.fresh⟩
theorem BL (ha:DE X a fa)(hb:DE X b fb):DF 1 X (.BinOp a .Add b pos) (ai pX fa fb):=pF Uq (λP H x y a b d Q hP ra rb e k=>by
 unfold pX at e;split at e
 .obtain⟨hz,rfl⟩:=cL e;obtain⟨p,xs,rfl,hp,r1⟩:=Aa8.1 ra;obtain⟨q,ys,rfl,hq,r2⟩:=Aa8.1 rb;exact⟨p,q,xs,ys,rfl,rfl,Aal.sqL hp,Aal.sqL hq,by rw[r1.length,r2.length];exact hz,λl hl=>k.lst hP hl (r1.append r2)⟩
 .cases e) ha hb
end
variable {a:aQ}{f fa fb:EF}
def TK (K:aK):R2:=λx y H Q=>∃ a b ys,x=.ref a/\y=.ref b/\SqT K H a []/\SqT K H b ys/\Q (.ref b) H
theorem So:OpR X (kC .Add) (TK X.K):=by
 rw[2];obtain⟨a,b,ys,rfl,rfl,ha,hb,q⟩:=h;cases rx;cases ry;obtain⟨its,r1,p1,_⟩:=I.tuple ha;obtain⟨ph,r2,p2,_⟩:=I.tuple hb;cases r1;obtain⟨⟨cls,dd,data,sl⟩,ho,hc,n,hd⟩:=p1;obtain⟨⟨yq,xm,data2,xn⟩,qy,ii,n2,qz⟩:=p2;simp only at hc hd ii qz;subst hc hd ii qz;exact PP ⟨_,ho,rfl⟩ ⟨_,qy,rfl⟩ Io seq_tuple_add Jd Jh (Ji _ _)
  (tuple_addW0 a b _ _ n n2 dd xm sl xn rfl) ⟨ho,qy,⟨.ref b,H,I,rfl,q⟩⟩
noncomputable def zX:aA->aA->aaj
 |.tuple xs,.tuple ys=>if xs.length+ys.length<=sizeLine then aa (.tuple (xs++ys)) else ab
 |_,_=>ab
theorem o6:jc K 0 (λx y H Q=>HU K x y H Q\/TK K x y H Q) zX:=λP H x y a b d Q hP ra rb e k=>by
 unfold zX at e;split at e
 .rename_i zs ys;obtain⟨hc,rfl⟩:=cL e;obtain⟨p,us,rfl,hp,r1⟩:=Aap.1 ra;obtain⟨q,ws,rfl,hq,r2⟩:=Aap.1 rb;have l1:=r1.length;have l2:=r2.length;cases zs with
  |nil=>
   have eu:us=[]:=by simpa using l1
   subst eu;exact .inr ⟨p,q,ws,rfl,rfl,SqT.of (Aal _ _ hp),SqT.of (Aal _ _ hq),k.zero Ext.refl rb⟩
  |cons z zs=>
   refine .inl ⟨p,q,us,ws,rfl,rfl,SqT.of (Aal _ _ hp),SqT.of (Aal _ _ hq),λz=>by rw[z] at l1;simp at l1,by rw[l1,l2];exact hc,λz=>?_,λz r hr=>?_⟩
   .subst z;have:ys=[]:=by simpa using l2.symm
    rw[12];refine k.zero Ext.refl ?_
    grind
   .exact k.tup hP hr (r1.append r2)
 .cases e
theorem Fw (ha:DE X a fa)(hb:DE X b fb):DE X (.BinOp a .Add b pos) (ai zX fa fb):=pF (A3o.or So) o6 ha hb
def uS:aah->aaj
 |[.int i,.int j]=>aa (.int (if j > i then j else i))
 |_=>ab
theorem Ar:CallD K 0 (λxs H Q=>∃ i j,xs=[.int i,.int j]/\Q (.int (if j > i then j else i)) H) uS:=λP H xs ds d Q hP r e k=>by
 unfold uS at e;split at e
 .cases e;obtain⟨v,t,rfl,h1,h2⟩:=Aae.1 r;obtain⟨v',rfl,h3⟩:=fK h2;rw[Aah.1 h1,Aah.1 h3];exact⟨_,_,rfl,k.zero Ext.refl (Aah.2 rfl)⟩
 .cases e
end L2
namespace L2
open PySem PySem.Spec PyProof.Rows
variable {t:eM}{sl:Array aap}{us aj:Array aD}{Q E:aD->aH->Prop}{ds:aah}{l a it a1 I r z i1 i2:aC}{h h':aU}{d:aA}{es:aae}{ep k j c n nl N i m n0 mask bo cx:Nat}{s:aH}{e tg:aQ}{R:oP->aH->Prop}{w:bA}{kvs:ld}{K:aK}{b b1:Bool}{u:aD}{x y:aE}{xs ys:aai}{fp:Nat->aan}{ta:TA}{v:V}{fa:AF}{H H' H0 B0:Hp}{p1 p2 pos kp cp px ig av bc py ij:bH}{kds:be}{f fk g:EF}{wr F o1 o2:aan}{G:Array uM->Array uM->Prop}{ac:lv}{ps:aak}{T:String}{p:Array Nat}{vs:aam}{ks kss qs:lm}{X:Cx}{P0:aC->Prop}{prog:bJ}{A:bP}{o:bD}{Y:aR}{S1 S2:Nat->aU->Prop}
section
variable {P:bJ}
theorem i9 {t sl:aC}{vl vu:aD}{lo hi:aas}(ht:IsTup s.heap t us)(hs:s.heap.IsSliceOf sl vl vu .none)(pl:qL vl lo)(pu:qL vu hi)
  (hw:HT.sIx us.size 0 lo=0/\HT.sIx us.size us.size hi=us.size) (h:Q (.ref t) s):aL (aP P w) A (qC (.ref t) (.ref sl)) Q E s:=by
 obtain⟨os,e1,e2,e3⟩:=id hs;have ty:s.TypeIs (.ref sl) "slice":=⟨os,e1,e2⟩;unfold qC
 try with_reducible refine eY ?_
 first|refine aG (aM ?_)|skip
 refine aG (wpAny_sequenceKey ht.typeIs nofun (aG (lL ht.typeIs PB (fU PB ht.typeIs entry_tuple_getitem ?_ (args_tuple_getitem _ _)))))
 show aL _ _ (Kj (.ref t)>>=_) _ _ s;refine aG (tupleItemsOf_ ht (aG (oJ ty ?_)));rw[if_pos nofun]
 refine aG (HT.Af5 hs pl pu ?_);have wp:(((HT.sIx us.size 0 lo:Nat):Int)==0&&(1:Int)==1&&(HT.sIx us.size us.size hi-HT.sIx us.size 0 lo)==us.size)=af:=by
  rw[hw.1,hw.2];simp
 show aL _ _ (if (((HT.sIx us.size 0 lo:Nat):Int)==0&&(1:Int)==1&&(HT.sIx us.size us.size hi-HT.sIx us.size 0 lo)==us.size)=af then _ else _) _ _ s
 rw[if_pos wp];unfold Builtin.Tuple.tupleIsExact;refine aG (aG (oJ ht.typeIs (aM ?_)));rw[if_pos nofun]
 exact aG (lJ (aM ⟨_,rfl,aM h⟩))
end
def Kw (K:aK):V->aas->aas->Hp->VK->Prop:=λx lo hi H Q=>∃ a xs,x=.ref a/\SqT K H a xs/\(HT.sIx xs.length 0 lo=0/\HT.sIx xs.length xs.length hi=xs.length)/\Q (.ref a) H
theorem A8l:SlR X (Kw X.K):=by
 intro ac s Z H x v vl vu lo hi sl Q I rx hs pl pu h;obtain⟨a,xs,rfl,hx,hw,q⟩:=h;cases rx;obtain⟨its,r,ht,hz⟩:=I.tuple hx;have ax:its.toArray.size=xs.length:=by rw[dU];exact r.length.symm
 exact⟨"tuple",_,PB.lookup,ht.typeIs,i9 ht hs pl pu (by rw[ax];exact hw) ⟨.ref a,H,I,rfl,q⟩⟩
def xS (f:EF)(lo hi:OF):EF:=λY=>(f Y).bind λd=>(lo Y).bind λl=>(hi Y).bind λh=>match d with
 |.tuple ds=>aa (.tuple (cutD ds l h))
 |_=>ab
theorem Xu{l h:aas}(hw:HT.sIx ds.length 0 l=0/\HT.sIx ds.length ds.length h=ds.length):cutD ds l h=ds:=by
 unfold cutD;rw[hw.1,hw.2];simp
theorem UQ {lo hi:Option aQ}{fl fh:OF}{pp:bH}(he:DE X e f)(hl:DO X lo fl)(hh:DO X hi fh):DE X (.Subscript e (.Slice lo hi ab pp) pos) (xS f fl fh):=PE.imp (XX (A8l.or Of) he hl hh) λZ H Q gh=>by
 rw[5];obtain⟨d1,e1,br⟩:=ao ef;obtain⟨l,e2,bq⟩:=ao br;obtain⟨h,e3,dq⟩:=ao bq;clear ef br bq;cases d1 with
 |tuple ds=>
  cases dq;refine⟨P,Y,_,hP,rs,e1,dR λv H1 x1 r1=>⟨P,Y,l,hP.ext x1,rs.ext (cN x1),e2,λH2 x2=>⟨P,Y,h,hP.ext (x1.trans x2),rs.ext (cN (x1.trans x2)),e3,λH3 x3=>?_⟩⟩⟩
  have r3:=r1.ext (cN (x2.trans x3));obtain⟨q,ys,rfl,hq,rr⟩:=Aap.1 r3;by_cases hw:HT.sIx ds.length 0 l=0/\HT.sIx ds.length ds.length h=ds.length
  .rw[Xu hw] at k;exact .inl ⟨q,ys,rfl,SqT.of (Aal _ _ hq),by rw[rr.length];exact hw,(k.mono ((x1.trans x2).trans x3)).zero Ext.refl r3⟩
  .refine .inr ⟨q,ys,rfl,SqT.of (Aal _ _ hq),by rw[rr.length];exact hw,λp hp=>(k.mono ((x1.trans x2).trans x3)).tup (hP.ext ((x1.trans x2).trans x3)) hp ?_⟩
   unfold qT cutD;rw[rr.length];exact(rr.drop _).take _
 |_=>cases dq
def Awu (h:aU)(d:aC)(es:Array qP)(ep:Nat):Prop:=∃ o,h.get? d=aa o/\o.ExactDict/\o.data=.dict es ep
theorem Awu.keep{d:aC}{es:Array qP}(x:Awu h d es ep)(k:∀ o,h.get? d=aa o->h'.get? d=aa o):Awu h' d es ep:=
 let ⟨o,e,r⟩:=x;⟨o,k o e,r⟩
theorem Awu.ty{d:aC}{es:Array qP}(x:Awu s.heap d es ep):s.TypeIs (.ref d) "dict":=let ⟨o,e,c,_⟩:=x;⟨o,e,c.1⟩
section
variable {d:aC}{es:Array qP}
theorem Wv(nm:(d==iY)=ah)(R:Awu s.heap d es ep)
  (q:Q (.ref s.heap.objs.size) { s with heap:=s.heap.push { cls:=.type "dict_keyiterator",data:=.fields #[.ref d,.int 0 0,.int es.size 0,.int ep 0] } }):aL (aP prog w) A (nE (.ref d)) Q E s:=by
 have ty:=R.ty;obtain⟨o,eo,_,ed⟩:=R;refine FP ty F.slot_dict_iter (fU F.slot_dict_iter ty F.entry_dict_iter
  ?_ (F.args_dict_iter_1 _))
 unfold Builtin.«dict.__iter__»;rw[11];unfold Builtin.Dict.dictSlotNone;refine aG (wpAny_notOrdered_dict ty ?_);refine aM ?_;show aL _ _ (Builtin.Dict.showsAll d>>=_) _ _ s;unfold Builtin.Dict.showsAll;rw[if_neg (show ¬ (d==iY)=af by rw[nm];exact kX)]
 refine aG (aM ?_);refine aG (Im eo ed ?_);refine aG (wpAny_dictEpoch eo ed ?_);refine aG (jN (aM ⟨_,rfl,"dict_keyiterator",_,
  ⟨_,cI _ rfl,rfl⟩,GM.lookup,?_⟩))
 simpa [dF] using q
theorem Vt {e:qP}{Q:aap->aH->Prop}(K:s.heap.IsKeyIter it d i es.size ep)(R:Awu s.heap d es ep)(x:es[i]?=aa e)
  (q:∀ h',h'.IsKeyIter it d (i+1) es.size ep->mP it s.heap h'->Q (aa e.key) { s with heap:=h' }):aL (aP prog w) A (gJ (.ref it)) Q E s:=by
 obtain⟨oi,ei,ci,di⟩:=id K;obtain⟨o,eo,_,ed⟩:=R;unfold gJ;refine aG (qA (lL K.typeIs
  GM (fU GM K.typeIs
   N6 ?_ (N7 _))))
 refine aG (aM ?_);rw[11];rw[11]
 first
  |refine aG (OM K.typeIs (aM ?_))
  |refine aG (OL K.typeIs (aM ?_))
 refine aG (OT ei di ?_);have own:Builtin.Dict_items.ownsTuple "dict_keyiterator" = ah:=by decide
 simp only[own,gV,if_false];show aL _ _ (if (eJ d==eE)=af then _ else _) _ _ s
 rw[if_neg (show ¬ (eJ d==eE)=af from kX)]
 refine aG (aM ?_);refine aG (Im eo ed ?_);rw[if_neg (by simp)]
 refine aG (aM ?_);refine aG (wpAny_dictEpoch eo ed ?_);rw[if_neg (by simp)]
 refine aM ?_;simp only[show ¬ ((i:Int)<0) from by lia,if_false,oW,x]
 rw[11]
 first
  |refine aG (OM K.typeIs (aM ?_))
  |refine aG (OL K.typeIs (aM ?_))
 refine aG (wpAny_isOneOf_keyiter K.typeIs ?_);show aL _ _ (setField (.ref it) 1 (dF ((i:Int)+1))>>=_) _ _ s;refine aG (OP ei di (by simp) ?_)
 have K':(s.heap.update it (Obj.mapFields (·.setIfInBounds 1 (dF ((i:Int)+1))))).IsKeyIter it d (i+1) es.size ep:=
  ⟨_,rV _ ei (Obj.isFreed_of_fields (QF di _)),(Obj.cls_mapFields ..).trans ci,by
   rw[QF di];simp[dF]⟩
 refine aG (eY ?_);refine aG (wpAny_isOneOf_keyiter
  K'.typeIs ?_)
 exact aM (aM ⟨_,rfl,aM (q _ K' (xG ..))⟩)
theorem Uh {Q:aap->aH->Prop}(hh:A.handled=ab)(K:s.heap.IsKeyIter it d i es.size ep)(R:Awu s.heap d es ep)(x:es.size<=i)
  (q:∀ h',AS it s.heap h'->Q ab { s with heap:=h' }):aL (aP prog w) A (gJ (.ref it)) Q E s:=by
 obtain⟨oi,ei,ci,di⟩:=id K;obtain⟨o,eo,_,ed⟩:=R;unfold gJ;refine aG (qA (lL K.typeIs
  GM (fU GM K.typeIs
   N6 ?_ (N7 _))))
 refine aG (aM ?_);rw[11];rw[11]
 first
  |refine aG (OM K.typeIs (aM ?_))
  |refine aG (OL K.typeIs (aM ?_))
 refine aG (OT ei di ?_);have own:Builtin.Dict_items.ownsTuple "dict_keyiterator" = ah:=by decide
 simp only[own,gV,if_false];show aL _ _ (if (eJ d==eE)=af then _ else _) _ _ s
 rw[if_neg (show ¬ (eJ d==eE)=af from kX)]
 refine aG (aM ?_);refine aG (Im eo ed ?_);rw[if_neg (by simp)]
 refine aG (aM ?_);refine aG (wpAny_dictEpoch eo ed ?_);rw[if_neg (by simp)]
 refine aM ?_;simp only[show ¬ ((i:Int)<0) from by lia,if_false,oW,Kp x]
 rw[11]
 first
  |refine aG (OM K.typeIs (aM ?_))
  |refine aG (OL K.typeIs (aM ?_))
 show aL _ _ (setField (.ref it) 0 .none>>=_) _ _ s;refine aG (OP ei di (by simp) ?_)
 rw[11];simp only[newExc,newTuple];refine aG (jN ?_ (by size_fits))
 refine aG (wG
  (by first|rfl|(simp only[PJ];rfl)) ?_)
 refine jN ?_ (by size_fits)
 simp only[raiseNew];refine aG (OS ?_);rw[show A.in1.handled=ab from hh]
 refine aG (aM (ON ?_));refine aG (pZ
  ⟨_,cI _ rfl,rfl⟩ FT ?_)
 exact aM (q _ (((xG ..).extBut.push _).push _))
theorem E1 (hh:A.handled=ab)(I d:aC)(ne:d≠I)(es:Array qP)(ep:Nat) :
  Walks prog w A I [I,d] [I] es.size (λi v=>∃ e,es[i]?=aa e/\v=e.key) (λi h=>h.IsKeyIter I d i es.size ep/\Awu h d es ep) where
 sub:=λb hb=>by simp at hb;simp[hb]
 frame:=λ_ _ _ st hk=>⟨st.1.at λo e=>hk I (by simp) o e,st.2.keep λo e=>hk d (by simp) o e⟩
 item:=λi s Q E hi st hQ=>by
  have hx:=mR hi;refine Vt st.1 st.2 hx λh' K' hs=>?_
  exact hQ _ h' s.toks ⟨_,hx,rfl⟩ ⟨K',st.2.keep λo e=>hs.extBut d o ne e⟩ λb o hb e=>hs.extBut b o (λh=>hb (by simp[h])) e
 done:=λs Q E st hQ=>Uh hh st.1 st.2 (bB _) λh' he=>hQ h' s.toks λb o hb e=>he b o (λh=>hb (by simp[h])) e
 self:=λ_ _ _ _ st hQ=>wpAny_pyIter_keyiter st.1 hQ
theorem i7:FR (.type "dict") "__len__" = pure (aa (.builtin "dict.__len__")):=by rw[wJ,wO];kernel_rfl
theorem Cd(hh:A.handled=ab)(nm:(d==iY)=ah)(D:Awu s.heap d es ep)(S:aC)(res:aD)(c₀:Nat)(T8:S≠d)
  (hS:s.heap.get? S=aa { cls:=.type "list",data:=.seq #[] c₀ }) (hn:es.size<=sizeLine)
  (q:∀ h' tk aq c',(∀ b o,b≠S->s.heap.get? b=aa o->h'.get? b=aa o)->h'.get? S=aa { cls:=.type "list",dict:=ab,data:=.seq aq c',slots:=#[] } ->
   ItemsOf (λi v=>∃ e,es[i]?=aa e/\v=e.key) aq es.size->R (.ok (.ret res)) { s with heap:=h',toks:=tk }) :
  aL (aP prog w) A.in1 (AY (.ref S) (.ref d) res)
   (λfin s'=>match fin with|.done f=>R (.ok f) s'|.again c'=>c'.quiet=af/\jQ (aP prog w) A c' R s') (λe s'=>R (.error e) s') s:=by
 have ty:=D.ty;unfold AY;refine aG (oJ ty ?_);have h1:RL (.ref S) (.ref d)=ah:=by
  simp[RL,T8]
 have h2:(kE "dict" == kE "list")=ah:=by decide
 have h3:(kE "dict" == kE "tuple")=ah:=by decide
 simp only[h1,h2,h3,Bool.or_false,gV,if_false];refine aG (Wv nm D ?_);refine aG (eY ?_);have xq:d<s.heap.objs.size:=by obtain⟨o,e,_⟩:=D;exact bM e
 have P1:S<s.heap.objs.size:=bM hS;have kh:∀ b o,s.heap.get? b=aa o->(s.heap.push { cls:=.type "dict_keyiterator",data:=.fields #[.ref d,.int 0 0,.int es.size 0,.int ep 0] }).get? b=aa o:=λb o e=>bF _ e
 have D':Awu (s.heap.push { cls:=.type "dict_keyiterator",data:=.fields #[.ref d,.int 0 0,.int es.size 0,.int ep 0] }) d es ep:=D.keep λo e=>kh d o e
 have Z0:(s.heap.push { cls:=.type "dict_keyiterator",data:=.fields #[.ref d,.int 0 0,.int es.size 0,.int ep 0] }).IsKeyIter s.heap.objs.size d 0 es.size ep:=⟨_,cI _ rfl,rfl,rfl⟩;unfold Km;refine aG (tY (T:="dict") (v:=.ref d) (by obtain⟨o,e,c,_⟩:=D';exact⟨o,e,c.1⟩) i7 ?_)
 wp_delta
 refine aG (pZ (T:="dict") (v:=.ref d) (b:=af) (by obtain⟨o,e,c,_⟩:=D';exact⟨o,e,c.1⟩) (by rw[uB];kernel_rfl) ?_)
 show aL _ _ (typeOf (eJ d)>>=_) _ _ _;refine aG (oJ (T:="dict") (v:=.ref d) (by obtain⟨o,e,c,_⟩:=D';exact⟨o,e,c.1⟩) ?_)
 refine aM ?_;rw[if_pos nofun]
 refine aG (lJ ?_);rw[11];have S1:=kh _ _ hS;generalize(s.heap.push { cls:=.type "dict_keyiterator",data:=.fields #[.ref d,.int 0 0,.int es.size 0,.int ep 0] })=G at kh D' S1 Z0 ⊢;show aL _ _ (AB S (·.push .none)>>=λ_=>AB S (·.pop)) _ _ _
 refine aG (tX S1 rfl ?_);have S2:=rV (fM (·.push eE)) S1 rfl;refine tX (hz:=by seq_fits) S2 rfl ?_
 have S3:=rV (fM (·.pop)) S2 rfl;have dt:∀ b o,b≠S->G.get? b=aa o->((G.update S (fM (·.push eE))).update S (fM (·.pop))).get? b=aa o:=λb o hb e=>
  (qN _ _ (fX hb)).trans ((qN _ _ (fX hb)).trans e)
 have df:d≠s.heap.objs.size:=cO xq;have wq:S∉[s.heap.objs.size,d]:=λhm=>by
  rcases cV.1 hm with z|z
  .exact absurd P1 (by rw[z];exact nJ _)
  .exact T8 (cF.1 z)
 refine aM ⟨kR F.plain_extend_loop _,codeAny_extend_loopS (E1 (A:=A.in1) hh s.heap.objs.size d df es ep).toS hn _ wq _ es.size 0 _ _ _ rfl (eG _)
  ⟨Z0.at λo e=>dt _ o (lT P1) e,D'.keep λo e=>dt _ o (fX T8) e⟩ S3 (ItemsOf.nil _) λs' aq c' hm gj ca=>?_⟩
 rw[Moved.eq_with hm];refine q s'.heap s'.toks aq c' (λb ob hb e=>hm.heap b ob (λhmem=>?_) (dt b ob hb (kh _ _ e))) gj ca
 rcases cV.1 hmem with z|hmem
 .exact hb z
 .exact absurd (bM e) (by rw[cF.1 hmem];exact nJ _)
theorem o4(hh:A.handled=ab)(nm:(d==iY)=ah)(D:Awu s.heap d es ep)(hn:es.size<=sizeLine)
  (q:∀ h' tk aq c',(∀ b o,s.heap.get? b=aa o->h'.get? b=aa o)->h'.get? s.heap.objs.size=aa { cls:=.type "list",dict:=ab,data:=.seq aq c',slots:=#[] } ->
   ItemsOf (λi v=>∃ e,es[i]?=aa e/\v=e.key) aq es.size->Q (.ref s.heap.objs.size) { s with heap:=h',toks:=tk }):aL (aP prog w) A (call (.type "list") [.ref d]) Q E s:=by
 refine callType_codes (Q₁:=λobj s₁=>obj=.ref s.heap.objs.size/\s₁={ s with heap:=s.heap.push { cls:=.type "list",data:=.seq #[] } })
  F.called_list (F.typeCall_list_1 _) F.entry_list_init (code_list_new _ ⟨rfl,rfl⟩) λobj s₁ h₁=>?_
 obtain⟨rfl,rfl⟩:=h₁;have xq:d<s.heap.objs.size:=by obtain⟨o,e,_⟩:=D;exact bM e
 have N1:(s.heap.push { cls:=.type "list",data:=.seq #[] }).get? s.heap.objs.size=aa { cls:=.type "list",data:=.seq #[] }:=cI _ rfl;refine⟨⟨_,N1,rfl⟩,F.args_list_init_2 _ _,?_⟩;show aL _ _ (do
  let ff <-Builtin.List.listItems (.ref s.heap.objs.size)
  Builtin.List.listUpdate (.ref s.heap.objs.size) (λ_=>#[])
  letGo ff.toList.reverse
  AY (.ref s.heap.objs.size) (.ref d) .none) _ _ _
 rw[11];unfold Builtin.List.listItems;refine aG (jM N1 rfl (aM ?_));show aL _ _ (AB s.heap.objs.size (λ_=>#[])>>=λ_=>letGo (#[]:Array aD).toList.reverse>>=λ_=>
  AY (.ref s.heap.objs.size) (.ref d) .none) _ _ _
 refine aG (tX N1 rfl ?_);have N2:=rV (fM (λ_=>(#[]:Array aD))) N1 rfl
 have dt:∀ b o,b≠s.heap.objs.size->(s.heap.push { cls:=.type "list",data:=.seq #[] }).get? b=aa o ->
   ((s.heap.push { cls:=.type "list",data:=.seq #[] }).update s.heap.objs.size (fM (λ_=>(#[]:Array aD)))).get? b=aa o:=λb o hb e=>(qN _ _ (fX hb)).trans e
 refine aG (rS ?_);refine Cd (A:=A.in1) hh nm (D.keep λo e=>dt d o (cO xq) (bF _ e)) s.heap.objs.size .none _ (lT xq) N2 hn λh' tk aq c' hk gj ca=>?_
 exact⟨rfl,q h' tk aq c' (λb o e=>hk b o (cO (bM e)) (dt b o (cO (bM e)) (bF _ e))) gj ca⟩
theorem Zo {Q:aam->aH->Prop}(hh:A.handled=ab)(nm:(d==iY)=ah)(D:Awu s.heap d es ep)(hn:es.size<=sizeLine)
  (q:∀ s' aq,(∀ b o,s.heap.get? b=aa o->s'.heap.get? b=aa o)->s'.gens=s.gens->s'.drawn=s.drawn->s'.os=s.os->ItemsOf (λi v=>∃ e,es[i]?=aa e/\v=e.key) aq es.size->Q aq.toList s') :
  aL (aP prog w) A (collect (.ref d)) Q E s:=by
 have xq:d<s.heap.objs.size:=by obtain⟨o,e,_⟩:=D;exact bM e
 unfold collect;refine aG (wpAny_runValue (jP F.entry_proto_collect ?_));rw[kY F.plain_proto_collect _];refine aG (jN ?_);refine aM ⟨kR RE _,jP F.entry_list_iadd ?_⟩;rw[kY RE _];have fin:∀ (r:oP) (s':aH),(r=.ok (.ret (.ref s.heap.objs.size))/\∃ h' tk aq c',s'={ s with heap:=h',toks:=tk }/\(∀ b o,b≠s.heap.objs.size->(s.heap.push { cls:=.type "list",data:=.seq ([]:aam).toArray }).get? b=aa o->h'.get? b=aa o) /\
   h'.get? s.heap.objs.size=aa { cls:=.type "list",dict:=ab,data:=.seq aq c',slots:=#[] }/\ItemsOf (λi v=>∃ e,es[i]?=aa e/\v=e.key) aq es.size) ->
   (match r with
    | .ok (.ret v)=>aL (aP prog w) A (match v with
      |.ref a=>do
       let o <-load a
       match o.data with
        |.seq xs _=>pure xs.toList
        |_=>OW "internal:collect"
      | _=>OW "internal:collect") Q E s'
    |.ok _=>False
    | .error e=>E e s'):=by
  rintro r s' ⟨rfl,h',tk,aq,c',rfl,hk,gj,ca⟩;refine aG (wpAny_load gj ?_);exact aM (q { s with heap:=h',toks:=tk } aq (λb o e=>hk b o (cO (bM e)) (bF _ e)) rfl rfl rfl ca)
 refine kP (Cd
  (R:=λr s'=>r=.ok (.ret (.ref s.heap.objs.size))/\∃ h' tk aq c',s'={ s with heap:=h',toks:=tk }/\(∀ b o,b≠s.heap.objs.size->(s.heap.push { cls:=.type "list",data:=.seq ([]:aam).toArray }).get? b=aa o->h'.get? b=aa o) /\
   h'.get? s.heap.objs.size=aa { cls:=.type "list",dict:=ab,data:=.seq aq c',slots:=#[] }/\ItemsOf (λi v=>∃ e,es[i]?=aa e/\v=e.key) aq es.size)
  hh nm (D.keep λo e=>bF _ e) s.heap.objs.size _ 0 (lT xq) (cI _ rfl) hn λh' tk aq c' hk gj ca=>⟨rfl,h',tk,aq,c',rfl,hk,gj,ca⟩) (λf s' hf=>?_) λe s' hf=>absurd hf.1 (by intro z;cases z)
 cases f with
 |done f=>exact fin _ s' hf
 |again c=>exact⟨hf.1,wM hf.2 λr s2 h2=>fin r s2 h2⟩
end
section
variable {Z:St}
theorem MN {P:bJ}:∀ {es:List qP} {kvs:ld} {vs:aab},KV kvs vs->PySem.Pairs (fF P w) es vs->Vals (kvs.map λkv=>kV kv.1) (es.map (·.key))
 |[],kvs,vs,r,p=>by
  cases p;cases r;exact .nil
 |e::es,kvs,vs,r,p=>by
  cases p with
  |cons h hv t=>
   cases r with
   |cons h' t'=>
    refine .cons ?_ (MN t' t);show RelV (kV _) e.key;rw[h'.1];rcases mZ h with⟨i,tk,e1,e2⟩|⟨x,tk,e1,e2⟩
    .rw[e1,e2];exact⟨tk,rfl⟩
    .rw[e1,e2];exact⟨tk,rfl⟩
theorem Am {es:Array qP}{aq:Array aD}(h:ItemsOf (λi v=>∃ e,es[i]?=aa e/\v=e.key) aq es.size):aq.toList=es.toList.map (·.key):=by
 obtain⟨h1,h2⟩:=h;apply Jy
 grind
theorem VI {Y6:Nat}(I:Inv X ac Z H s)(ha:H a=aa (.dK Y6 kvs)):kvs.length<=sizeLine/\(a==iY)=ah/\∃ es ep,Awu s.heap a es ep/\Vals (kvs.map λkv=>kV kv.1) (es.toList.map (·.key))/\es.size=kvs.length:=by
 obtain⟨z,nm,vs,r,o,es,ep,e1,e2,e3,_,e5,_⟩:=sO I.hok ha;refine⟨z,nm,es,ep,⟨o,e1,e2,e3⟩,MN r e5,?_⟩;have l1:=(MN r e5).length;simp at l1;exact l1.symm
theorem Yt (hc:X.calm=af):Acm X (.type "list") (λxs H Q=>∃ a ep kvs,xs=[.ref a]/\H a=aa (.dK ep kvs)/\∀ l,H l=ab->Q (.ref l) (upd H l (.lst (kvs.map λkv=>kV kv.1)))):=by
 rw[4];obtain⟨a,ep1,kvs,rfl,ha,q⟩:=h;obtain⟨u,rfl,ru⟩:=vals1 r;cases ru;obtain⟨z,nm,es,ep,D,rv,el⟩:=VI I ha;refine o4 (I.ok.hd hc) nm D () λh' tk aq c' hk hS ca=>?_
 have ea:=Am ca;rw[<-ea] at rv;exact⟨.ref s.heap.objs.size,_,I.laid hk (bB _) (show Acj X.prog X.w _ h' _ (.lst _) from⟨by rw[cJ];exact z,aq.toList,c',rv,by simpa using hS⟩),rfl,q _ I.fresh⟩
theorem LX:∀ {kds:be} {kvs:ld},Abm K H kds kvs->(∀ kd∈kds,cH kd.1=af)->Aak K H (kds.map (·.1)) (kvs.map λkv=>kV kv.1)
 |[],kvs,r,_=>by rw[Abi.1 r];exact Aai.2 rfl
 |(k,d)::kds,kvs,r,h=>by
  obtain⟨k',x,rr,rfl,rfl,h1,h2⟩:=Aa7.1 r;refine Aae.2 ⟨_,_,rfl,?_,LX h2 λkd m=>h kd (bL _ m)⟩
  have hl:=h (kD k',d) bE;cases k' with
  |inl i=>exact Aah.2 rfl
  |inr z=>exact Aa0.2 ⟨rfl,hl⟩
def NV:aah->aaj
 |[.dict kds]=>if (dg kds&&kds.all λkd=>cH kd.1)=af then aa (.list (kds.map (·.1))) else ab
 |_=>ab
theorem b7:CallD K 1 (λxs H Q=>∃ a ep kvs,xs=[.ref a]/\H a=aa (.dK ep kvs)/\∀ l,H l=ab->Q (.ref l) (upd H l (.lst (kvs.map λkv=>kV kv.1)))) NV:=λP H xs ds d Q hP r e k=>by
 unfold NV at e;split at e
 .obtain⟨hl,rfl⟩:=cL e;obtain⟨v,rfl,r'⟩:=fK r;obtain⟨pk,hl⟩:=iI.1 hl;obtain⟨q,ys,rfl,hq,rr⟩:=(oB pk).1 r';exact⟨q,ys.1,ys.2,rfl,Aal _ _ hq,λl qw=>k.lst hP qw (LX rr (cY.1 hl))⟩
 .cases e
noncomputable def qU (b:be):be->Bool
 |[]=>af
 |(k,d)::r=>match (bS k).bind (bU b) with
  |none=>ah
  |some e=>bZ d e&&qU b r
def BV (a b:be):Bool:=a.length==b.length&&qU b a
def valsOk (a:be):Bool:=a.all λkd=>dB kd.2
theorem A3 {b:be}{k:aI}(h:valsOk b=af)(e:bU b k=aa d):dB d=af:=by
 unfold bU at e;cases q:b.find? λkd=>decide (bS kd.1=aa k) with
 |none=>rw[q] at e;cases e
 |some kd=>
  rw[q] at e;have:kd.2=d:=by simpa using e
  rw[12];exact cY.1 h kd (Jo q)
theorem Fi (hu:X.A.units+100<cLine)(I:Inv X ac Z H s){kb:be}{vb:ld}{ub:aab}(rb:Abm X.K H kb vb)(qb:KV vb ub)(fb:valsOk kb=af) :
  ∀ {ka:be} {va:ld} {ua:aab},valsOk ka=af->Abm X.K H ka va->KV va ua->PySem.W.KeqHits X.A.in1 s ub ua (qU kb ka)
 |[],va,ua,_,ra,qa=>by
  obtain rfl:=Abi.1 ra;cases qa;exact .nil
 |(k,d)::ka,va,ua,fa,ra,qa=>by
  obtain⟨k',x,rr,rfl,rfl,h1,h2⟩:=Aa7.1 ra;have re:dB d=af/\valsOk ka=af:=by simpa [valsOk] using fa
  cases qa with
  |@cons _ u _ us h' t'=>
  obtain⟨g1,g2⟩:=h';obtain⟨uk,uv⟩:=u;have e2:=g1;subst e2;have cq:=qb.val k';have eh:qU kb ((kD k',d)::ka)=(match bU kb k' with|none=>ah|some e=>bZ d e&&qU kb ka):=by
   show(match (bS (kD k')).bind (bU kb) with|none=>ah|some e=>bZ d e&&qU kb ka)=_
   rw[iX]
   rfl
  rcases tT rb with⟨n1,n2⟩|⟨d',v',s1,s2,rd⟩
  .rw[n2] at cq;rw[eh,n1];exact .miss cq.none_of
  .rw[s2] at cq;obtain⟨y,hy,ry⟩:=cq.some_of;have f1:noDict d=af/\d.depth<=60:=by simpa [dB] using re.1
   have f2:noDict d'=af/\d'.depth<=60:=by simpa [dB] using A3 fb s1
   obtain⟨l1,as,ra'⟩:=lG I f1.1 h1 g2;obtain⟨l2,bs,rb'⟩:=lG I f2.1 rd ry;have eq:=SeqAt.eqAt_reads d d' X.A.in1 s uv y as bs ra' rb' l1 l2 (by
    have:X.A.in1.units=X.A.units+1:=rfl
    lia)
   rw[eh,s1];exact .hit hy eq (Fi hu I rb qb fb re.2 h2 t')
def RV (K:aK)(neg:Bool):R2:=λx y H Q=>∃ ka kb,Abj K H (.dict ka) x/\Abj K H (.dict kb) y/\(dg ka=af/\dg kb=af)/\valsOk ka=af/\valsOk kb=af/\Q (.bl (neg != BV ka kb)) H
theorem Ol (hu:X.A.units+100<cLine):OpR X (gK .NotEq) (RV X.K af):=by
 rw[2];obtain⟨ka,kb,ra,rb,pk,fa,fb,q⟩:=h;obtain⟨a,va,rfl,ha,ra⟩:=(oB pk.1).1 ra;obtain⟨b,vb,rfl,hb,rb⟩:=(oB pk.2).1 rb;cases rx;cases ry;obtain⟨_,na,ua,qa,da⟩:=sO I.hok ha;obtain⟨_,nb,ub,qb,db⟩:=sO I.hok hb;have l1:=(ra.length).symm.trans qa.length;have l2:=(rb.length).symm.trans qb.length;refine PySem.W.keq_ne na nb da db () (λ_=>Fi hu I rb qb fb fa ra qa) ?_
 rw[<-l1,<-l2];exact⟨.bl _,H,I,rfl,by simpa [BV] using q⟩
def uR (neg:Bool):aA->aA->aaj
 |.dict a,.dict b=>if (valsOk a&&valsOk b&&(dg a&&dg b))=af then aa (.bool (neg != BV a b)) else ab
 |_,_=>ab
theorem Uw{neg:Bool}:jc K 0 (RV K neg) (uR neg):=λP H x y a b d Q hP ra rb e k=>by
 unfold uR at e;split at e
 .obtain⟨hc,rfl⟩:=cL e;have cy:=iI.1 hc;have hv:=iI.1 cy.1;exact⟨_,_,ra.ext Aal,rb.ext Aal,iI.1 cy.2,hv.1,hv.2,k.zero Ext.refl (Aaw.2 rfl)⟩
 .cases e
end
open PySem
structure Sub (P:bJ)(w:bA)(it:aC)(own:List aC)(St:Nat->aU->Prop)(xs:Array aD):Prop where
 mem:it∈own
 obj:∀ k h,St k h->∀ c∈own,∃ o,h.get? c=aa o
 keep:∀ k h h',St k h->(∀ c∈own,∀ o,h.get? c=aa o->h'.get? c=aa o)->St k h'
 item:∀ (A:bP) (E:aD->aH->Prop) (s:aH) (Q:aD->aH->Prop) (k:Nat) (x:aD),St k s.heap->xs[k]?=aa x ->
  (∀ h',St (k+1) h'->mP it s.heap h'->Q x { s with heap:=h' })->aL (aP P w) A (AX (.ref it)) Q E s
 done:∀ (A:bP) (E:aD->aH->Prop) (s:aH) (Q:aD->aH->Prop) (k:Nat),A.handled=ab->St k s.heap->xs[k]?=ab ->
  (∀ h' e,AS it s.heap h'->(∃ o,h'.get? e=aa o/\o.cls=.type "StopIteration")->E (.ref e) { s with heap:=h' })->aL (aP P w) A (AX (.ref it)) Q E s
section
variable {P:bJ}
theorem t4 {j t:aC}(hj:s.heap.IsTupleIter j t k)(ht:s.heap.IsTuple t us)(hu:us[k]?=aa u)
  (q:∀ h',h'.IsTupleIter j t (k+1)->mP j s.heap h'->Q u { s with heap:=h' }):aL (aP P w) A (AX (.ref j)) Q E s:=by
 obtain⟨oj,g1,g2,g3⟩:=id hj;obtain⟨ot,t1,_,nt,t2⟩:=ht;unfold AX;refine aG (lL hj.typeIs RB (fU RB hj.typeIs F.entry_tuple_iterator_next ?_ (F.args_tuple_iterator_next_1 _)));show aL _ _ (qE (.ref j) 0>>=_) _ _ s;refine aG (gC g1 g3 (x:=.ref t) rfl ?_);have ne:¬ (eJ t==eE)=af:=kX;rw[if_neg ne];refine aG (gC g1 g3 rfl ?_);refine aG (jM t1 t2 ?_);simp only[oW,hu];refine aG (OP g1 g3 (by simp) (aM ⟨u,rfl,aM (q _ ⟨_,rV _ g1 (Obj.isFreed_of_fields (QF g3 _)),(Obj.cls_mapFields ..).trans g2,?_⟩ (xG ..))⟩))
 rw[QF g3];simp[dF]
theorem z9 {j t:aC}(hh:A.handled=ab)(hj:s.heap.IsTupleIter j t k)(ht:s.heap.IsTuple t us)(hu:us[k]?=ab)
  (q:∀ h' e,AS j s.heap h'->(∃ o,h'.get? e=aa o/\o.cls=.type "StopIteration")->E (.ref e) { s with heap:=h' }):aL (aP P w) A (AX (.ref j)) Q E s:=by
 obtain⟨oj,g1,g2,g3⟩:=id hj;obtain⟨ot,t1,_,nt,t2⟩:=ht;unfold AX;refine aG (lL hj.typeIs RB (fU RB hj.typeIs F.entry_tuple_iterator_next ?_ (F.args_tuple_iterator_next_1 _)));show aL _ _ (qE (.ref j) 0>>=_) _ _ s;refine aG (gC g1 g3 (x:=.ref t) rfl ?_);have ne:¬ (eJ t==eE)=af:=kX;rw[if_neg ne];refine aG (gC g1 g3 rfl ?_);refine aG (jM t1 t2 ?_);simp only[oW,hu];refine aG (lJ (aG (OP g1 g3 (by simp) ?_)))
 rw[11];simp only[newExc,newTuple];refine aG (jN ?_ (by size_fits))
 refine aG (wG (by first|rfl|(simp only[PJ];rfl)) ?_)
 refine jN ?_ (by size_fits)
 simp only[raiseNew];refine aG (OS ?_)
 first|rw[show A.in1.handled=ab from hh]|rw[hh]
 refine aG (aM (ON (q _ _ (((xG ..).extBut.push _).push _) ⟨_,cI _ rfl,rfl⟩)))
theorem Ti (j t:aC)(us:Array aD)(ne:t≠j):Sub P w j [j,t] (λk h=>h.IsTupleIter j t k/\h.IsTuple t us) us where
 mem:=bE
 obj:=λk h ⟨⟨o,e,_⟩,⟨o',e',_⟩⟩ c hc=>by
  grind
 keep:=λk h h' ⟨⟨o,e,r⟩,⟨o',e',r'⟩⟩ kp=>⟨⟨o,kp j bE o e,r⟩,⟨o',kp t (by simp) o' e',r'⟩⟩
 item:=λA E s Q k x ⟨a,b⟩ hx q=>t4 a b hx λh' a' sb=>q h' ⟨a',b.extBut sb.extBut ne⟩ sb
 done:=λA E s Q k hh ⟨a,b⟩ hx q=>z9 hh a b hx q
theorem Wq (j t:aC)(us:Array aD)(ne:t≠j):Sub P w j [j,t] (λk h=>h.IsListIter j t k/\h.IsList t us) us where
 mem:=bE
 obj:=λk h ⟨⟨o,e,_⟩,⟨o',e',_⟩⟩ c hc=>by
  grind
 keep:=λk h h' ⟨⟨o,e,r⟩,⟨o',e',r'⟩⟩ kp=>⟨⟨o,kp j bE o e,r⟩,⟨o',kp t (by simp) o' e',r'⟩⟩
 item:=λA E s Q k x ⟨a,b⟩ hx q=>wpAny_nextOf_list_item a b hx λh' a' sb=>q h' ⟨a',b.extBut sb.extBut ne⟩ sb
 done:=λA E s Q k hh ⟨a,b⟩ hx q=>wpAny_nextOf_list_end hh a b hx q
structure ZApart (z TI TO i1 i2:aC)(o1 o2:List aC):Prop where
 TIz:TI≠z
 TOz:TO≠z
 TITO:TI≠TO
 TI1:TI≠i1
 TI2:TI≠i2
 i12:i1≠i2
 z1:z∉o1
 z2:z∉o2
 TO1:TO∉o1
 TO2:TO∉o2
 x12:i1∉o2
 x21:i2∉o1
variable {TI TO:aC}{xs ys:Array aD}
def ud (z TI TO i1 i2:aC)(S1 S2:Nat->aU->Prop)(f0:aD)(k:Nat)(h:aU):Prop:=
 IsZip h z TI TO f0/\oV h TI (.ref i1) (.ref i2)/\(∃ a b,oV h TO a b)/\S1 k h/\S2 k h
theorem Sub.but {c:aC}{own:aan}{St:Nat->aU->Prop}(U:Sub P w it own St us)(st:St k h)(hc:c∉own)(e:AS c h h'):St k h':=
 U.keep k h h' st λb hb o g=>e b o (λq=>hc (q ▸ hb)) g
theorem z5 {x y:aD}(D:ZApart z TI TO i1 i2 o1 o2)(U:Sub P w i1 o1 S1 xs)(V:Sub P w i2 o2 S2 ys)(st:ud z TI TO i1 i2 S1 S2 .none k s.heap)(hx:xs[k]?=aa x)(hy:ys[k]?=aa y)
  (q:∀ h',ud z TI TO i1 i2 S1 S2 (dF s.heap.objs.size) (k+1) h'->oV h' s.heap.objs.size x y->h'.objs.size=s.heap.objs.size+1 ->
   (∀ c o,c≠z->c≠TO->c≠i1->c≠i2->s.heap.get? c=aa o->h'.get? c=aa o)->Q (.ref s.heap.objs.size) { s with heap:=h' }) :
  aL (aP P w) A (Builtin.«zip.__next__» ⟨[.ref z],[]⟩) (λfin s'=>∃ v,fin=.done (.ret v)/\Q v s') E s:=by
 obtain⟨gz,gI,⟨a,b,gO⟩,wj,og⟩:=st;have z1:i1≠z:=λe=>D.z1 (e ▸ U.mem)
 have z2:i2≠z:=λe=>D.z2 (e ▸ V.mem)
 have t1:TO≠i1:=λe=>D.TO1 (e ▸ U.mem)
 have t2:TO≠i2:=λe=>D.TO2 (e ▸ V.mem)
 show aL _ _ (qE (.ref z) 2>>=_) _ E s;refine aG (gC gz rfl rfl ?_);refine aG (gC gz rfl rfl (aG (jM gI rfl ?_)));rw[11];unfold RJ;refine aG (gC gz rfl rfl (aM ?_));simp only[if_true];refine aG (lJ (aG (gC gz rfl rfl ?_)));refine aG (kO gz (by simp) λha ux sa=>?_)
 replace ux:IsZip ha z TI TO .ellipsis:=ux;rw[11];simp only[List.zipIdx_cons,List.zipIdx_nil,Jx,List.forIn_nil];refine aG (aG (OQ ?_));refine aG (U.item _ _ _ _ k x (U.but wj D.z1 sa.extBut) hx λhb zf sb=>aM ?_)
 have zg:=sb.extBut _ _ t1 (sa.extBut _ _ D.TOz gO);refine aG (jM zg rfl (aG (Ij zg λhc P3 sc=>?_)))
 replace P3:oV hc TO x b:=P3;refine aG (rS (aM (aG (aG (OQ ?_)))));refine aG (V.item _ _ _ _ k y (V.but (V.but (V.but og D.z2 sa.extBut) D.x12 sb.extBut) D.TO2 sc.extBut) hy λhd T9 sd=>aM ?_)
 have Z1:=sd.extBut _ _ t2 P3;refine aG (jM Z1 rfl (aG (Ij Z1 λhe P4 se=>?_)))
 replace P4:oV he TO x y:=P4;refine aG (rS (aM (aM ?_)));refine aG (jM P4 rfl (aG (OR ?_)));have size:he.objs.size=s.heap.objs.size:=by rw[se.1,sd.1,sc.1,sb.1,sa.1]
 have Z2:=se.extBut _ _ D.TOz.symm (sd.extBut _ _ z2.symm (sc.extBut _ _ D.TOz.symm (sb.extBut _ _ z1.symm ux)));have ff:∀ c o,c≠z->c≠TO->c≠i1->c≠i2->s.heap.get? c=aa o->he.get? c=aa o:=λc o n1 n2 n3 n4 g=>se.extBut _ _ n2 (sd.extBut _ _ n4 (sc.extBut _ _ n2 (sb.extBut _ _ n3 (sa.extBut _ _ n1 g))))
 have T':=U.but (U.but (U.but zf D.TO1 sc.extBut) D.x21 sd.extBut) D.TO1 se.extBut;have Uf:=V.but T9 D.TO2 se.extBut;have Z3:=bM Z2;rw[11];unfold Kk;have gzf:IsZip (he.push { cls:=.type "tuple",data:=.seq #[x,y] }) z TI TO .ellipsis:=bF _ Z2;refine aG (kO gzf (by simp) λhg U0 sg=>?_)
 replace U0:IsZip hg z TI TO (dF he.objs.size):=U0;refine kO U0 (by simp) λhi P5 si=>?_
 replace P5:IsZip hi z TI TO (dF he.objs.size):=P5;have up:∀ c o,c≠z->he.get? c=aa o->hi.get? c=aa o:=λc o n1 g=>si.extBut _ _ n1 (sg.extBut _ _ n1 (bF _ g))
 have gT:=si.extBut _ _ (lT Z3) (sg.extBut _ _ (lT Z3) (cI _ rfl));have sz:hi.objs.size=he.objs.size+1:=by rw[si.1,sg.1,mO]
 have U1:=U.keep _ _ _ T' λc hc o g=>up c o (λe=>D.z1 (e ▸ hc)) g
 have U2:=V.keep _ _ _ Uf λc hc o g=>up c o (λe=>D.z2 (e ▸ hc)) g
 rw[size] at P5 gT sz;refine aM ⟨_,rfl,?_⟩;rw[size];exact q hi ⟨P5,up _ _ D.TIz (ff _ _ D.TIz D.TITO D.TI1 D.TI2 gI),⟨x,y,up _ _ D.TOz P4⟩,U1,U2⟩ gT sz λc o n1 n2 n3 n4 g=>up c o n1 (ff c o n1 n2 n3 n4 g)
theorem Wb {Q:Fin->aH->Prop}(hh:A.handled=ab)(D:ZApart z TI TO i1 i2 o1 o2)(U:Sub P w i1 o1 S1 xs)(V:Sub P w i2 o2 S2 ys)(st:ud z TI TO i1 i2 S1 S2 .none k s.heap)(wt:xs[k]?=ab\/ys[k]?=ab)
  (q:∀ h' e,(∀ c o,c≠z->c≠TO->c≠i1->c≠i2->s.heap.get? c=aa o->h'.get? c=aa o)->(∃ o,h'.get? e=aa o/\o.cls=.type "StopIteration")->E (.ref e) { s with heap:=h' }) :
  aL (aP P w) A (Builtin.«zip.__next__» ⟨[.ref z],[]⟩) Q E s:=by
 obtain⟨gz,gI,⟨a,b,gO⟩,wj,og⟩:=st;have z1:i1≠z:=λe=>D.z1 (e ▸ U.mem)
 have z2:i2≠z:=λe=>D.z2 (e ▸ V.mem)
 have t1:TO≠i1:=λe=>D.TO1 (e ▸ U.mem)
 show aL _ _ (qE (.ref z) 2>>=_) _ E s;refine aG (gC gz rfl rfl ?_);refine aG (gC gz rfl rfl (aG (jM gI rfl ?_)));rw[11];unfold RJ;refine aG (gC gz rfl rfl (aM ?_));simp only[if_true];refine aG (lJ (aG (gC gz rfl rfl ?_)));refine aG (kO gz (by simp) λha ux sa=>?_)
 replace ux:IsZip ha z TI TO .ellipsis:=ux;rw[11];simp only[List.zipIdx_cons,List.zipIdx_nil,Jx,List.forIn_nil];refine aG (aG (OQ ?_));have Z4:∀ {h':aU} {e:aC},IsZip h' z TI TO .ellipsis->(∃ o,h'.get? e=aa o/\o.cls=.type "StopIteration")->e≠z:=λg ⟨o,g1,g2⟩ n=>by
  subst n;rw[g] at g1;cases g1;simp at g2
 cases hx:xs[k]? with
 |none=>
  refine aG (U.done _ _ _ _ k hh (U.but wj D.z1 sa.extBut) hx λhb e sb he=>?_)
  have Z5:=sb _ _ z1.symm ux;have ne:=Z4 Z5 he;obtain⟨o,g1,g2⟩:=he;exact kO Z5 (by simp) λhc _ sc=>q hc e (λc o n1 _ n3 _ g=>sc.extBut _ _ n1 (sb _ _ n3 (sa.extBut _ _ n1 g))) ⟨o,sc.extBut _ _ ne g1,g2⟩
 |some x=>
  have hy:=wt.resolve_left λh=>by rw[hx] at h;cases h
  refine aG (U.item _ _ _ _ k x (U.but wj D.z1 sa.extBut) hx λhb zf sb=>aM ?_)
  have zg:=sb.extBut _ _ t1 (sa.extBut _ _ D.TOz gO);refine aG (jM zg rfl (aG (Ij zg λhc P3 sc=>?_)))
  refine aG (rS (aM (aG (aG (OQ ?_)))));refine aG (V.done _ _ _ _ k hh (V.but (V.but (V.but og D.z2 sa.extBut) D.x12 sb.extBut) D.TO2 sc.extBut) hy λhd e sd he=>?_)
  have Z6:=sd _ _ z2.symm (sc.extBut _ _ D.TOz.symm (sb.extBut _ _ z1.symm ux));have ne:=Z4 Z6 he;obtain⟨o,g1,g2⟩:=he;exact kO Z6 (by simp) λhf _ sf=>q hf e (λc o n1 n2 n3 n4 g=>sf.extBut _ _ n1 (sd _ _ n4 (sc.extBut _ _ n2 (sb.extBut _ _ n3 (sa.extBut _ _ n1 g))))) ⟨o,sf.extBut _ _ ne g1,g2⟩
theorem n8 {x y:aD}{Q:aap->aH->Prop}(D:ZApart z TI TO i1 i2 o1 o2)(U:Sub P w i1 o1 S1 xs)(V:Sub P w i2 o2 S2 ys)(st:ud z TI TO i1 i2 S1 S2 .none k s.heap)(hx:xs[k]?=aa x)(hy:ys[k]?=aa y)
  (q:∀ h',ud z TI TO i1 i2 S1 S2 (dF s.heap.objs.size) (k+1) h'->oV h' s.heap.objs.size x y->h'.objs.size=s.heap.objs.size+1 ->
   (∀ c o,c≠z->c≠TO->c≠i1->c≠i2->s.heap.get? c=aa o->h'.get? c=aa o)->Q (aa (.ref s.heap.objs.size)) { s with heap:=h' }):aL (aP P w) A (gJ (.ref z)) Q E s:=by
 have ty:s.TypeIs (.ref z) "zip":=⟨_,st.1,rfl⟩;unfold gJ;exact aG (qA (lL ty RA (fU RA ty F.entry_zip_next (z5 D U V st hx hy λh' a1 a2 a3 a4=>aM (q h' a1 a2 a3 a4)) (F.args_zip_next_1 _))))
theorem Vv {Q:aap->aH->Prop}(hh:A.handled=ab)(D:ZApart z TI TO i1 i2 o1 o2)(U:Sub P w i1 o1 S1 xs)(V:Sub P w i2 o2 S2 ys)(st:ud z TI TO i1 i2 S1 S2 .none k s.heap)(wt:xs[k]?=ab\/ys[k]?=ab)
  (q:∀ h',(∀ c o,c≠z->c≠TO->c≠i1->c≠i2->s.heap.get? c=aa o->h'.get? c=aa o)->Q ab { s with heap:=h' }):aL (aP P w) A (gJ (.ref z)) Q E s:=by
 have ty:s.TypeIs (.ref z) "zip":=⟨_,st.1,rfl⟩;unfold gJ;refine aG (qA (lL ty RA (fU RA ty F.entry_zip_next (Wb hh D U V st wt λh' e kp ⟨o,g1,g2⟩=>?_) (F.args_zip_next_1 _))))
 exact aG (pZ ⟨o,g1,g2⟩ FT (aM (q _ kp)))
end
def SqB (b:Bool)(h:aU)(l:aC)(us:Array aD):Prop:=match b with
 |true=>h.IsList l us
 |false=>h.IsTuple l us
def jt (b:Bool)(l:aC):bD:={ cls:=.type (match b with|true=>"list_iterator" | false=>"tuple_iterator"),data:=.fields #[.ref l,.int 0 0] }
def StB (b:Bool)(j l:aC)(us:Array aD)(k:Nat)(h:aU):Prop:=match b with
 |true=>h.IsListIter j l k/\h.IsList l us
 |false=>h.IsTupleIter j l k/\h.IsTuple l us
theorem uV {P:bJ}(b:Bool)(j l:aC)(us:Array aD)(ne:l≠j):Sub P w j [j,l] (StB b j l us) us:=by
 cases b with
 |true=>exact Wq j l us ne
 |false=>exact Ti j l us ne
theorem SqB.keep(q:SqB b h l us)(k:∀ o,h.get? l=aa o->h'.get? l=aa o):SqB b h' l us:=by
 cases b with
 |true=>
  obtain⟨o,e,r⟩:=q;exact⟨o,k o e,r⟩
 |false=>
  obtain⟨o,e,r⟩:=q;exact⟨o,k o e,r⟩
theorem StB.new{j:aC}(q:SqB b h l us)(e:h.get? j=aa (jt b l)):StB b j l us 0 h:=by
 cases b with
 |true=>exact⟨⟨_,e,rfl,rfl⟩,q⟩
 |false=>exact⟨⟨_,e,rfl,rfl⟩,q⟩
section
variable {P:bJ}{b2:Bool}{l1 l2:aC}{xs ys:Array aD}
theorem xX(h:SqB b s.heap l us)(q:Q (.ref s.heap.objs.size) { s with heap:=s.heap.push (jt b l) }):aL (aP P w) A (nE (.ref l)) Q E s:=by
 cases b with
 |true=>exact wD h q
 |false=>exact wpAny_pyIter_tuple h q
abbrev zA (b1:Bool)(h:aU)(l1:aC):aU:=h.push (jt b1 l1)
abbrev zB (b1 b2:Bool)(h:aU)(l1 l2:aC):aU:=(zA b1 h l1).push (jt b2 l2)
abbrev zC (b1 b2:Bool)(h:aU)(l1 l2:aC):aU:=(zB b1 b2 h l1 l2).push { cls:=.type "tuple",data:=.seq #[.ref h.objs.size,.ref (zA b1 h l1).objs.size] }
abbrev zD (b1 b2:Bool)(h:aU)(l1 l2:aC):aU:=(zC b1 b2 h l1 l2).push { cls:=.type "tuple",data:=.seq #[.none,.none] }
abbrev zE (b1 b2:Bool)(h:aU)(l1 l2:aC):aU:=(zD b1 b2 h l1 l2).push { cls:=.type "zip",data:=.fields #[.none,.bool ah,.bool ah,.ref (zB b1 b2 h l1 l2).objs.size,.ref (zC b1 b2 h l1 l2).objs.size] }
theorem Vx (b1 b2:Bool)(l1 l2:aC)(xs ys:Array aD) :
  Meets (Builtin.«zip.__new__» ⟨[.type "zip",.ref l1,.ref l2],[]⟩) (λ_ R s=>SqB b1 s.heap l1 xs/\SqB b2 s.heap l2 ys /\
   R (.ok (.ret (.ref (zD b1 b2 s.heap l1 l2).objs.size))) { s with heap:=zE b1 b2 s.heap l1 l2 }):=
 .of_wp λprog w A R s h=>by
  obtain⟨hp,g,d,tk,os⟩:=s;obtain⟨q1,q2,q⟩:=h;have sz:=sub_zip;have u1:SqB b1 (Shared.heap ⟨hp,g,d,tk,os⟩) l1 xs:=q1;have u2:SqB b2 (Shared.heap ⟨hp.push (jt b1 l1),g,d,tk,os⟩) l2 ys:=q2.keep λo e=>bF _ e
  wp_walk using xX u1,xX u2
  exact⟨_,rfl,q⟩
theorem D8 {l1 l2:Nat}(h1:l1<n)(h2:l2<n):ZApart (n+4) (n+2) (n+3) n (n+1) [n,l1] [n+1,l2]:=by
 have xr:∀ {a b c:Nat},a≠b->a≠c->a∉[b,c]:=λh h' m=>by
  grind
 have ne:∀ {a b:Nat},a<b->a≠b:=cO;have en:∀ {a b:Nat},b<a->a≠b:=lT;exact⟨ne (),ne (),ne (),en (),en (),ne (),xr (en ()) (en ()),xr (en ()) (en ()),xr (en ()) (en ()),xr (en ()) (en ()),xr (ne ()) (en h2),xr (en ()) (en ())⟩
theorem Wd(h1:SqB b1 s.heap l1 xs)(h2:SqB b2 s.heap l2 ys)
  (q:∀ (z TI TO i1 i2:aC) (h':aU),s.heap.objs.size<=z->s.heap.objs.size<=TI->s.heap.objs.size<=TO->s.heap.objs.size<=i1->s.heap.objs.size<=i2->ZApart z TI TO i1 i2 [i1,l1] [i2,l2]->ud z TI TO i1 i2 (StB b1 i1 l1 xs) (StB b2 i2 l2 ys) .none 0 h' ->
   (∀ c o,s.heap.get? c=aa o->h'.get? c=aa o)->Q (.ref z) { s with heap:=h' }):aL (aP P w) A (call (.type "zip") [.ref l1,.ref l2]) Q E s:=by
 refine callType_new F.called_zip nofun (F.typeCall_zip_2 _ _) (F.newCall_zip_2 _ _) (λobj=>F.args_object_init_3 obj _ _) F.entry_zip_new (Vx b1 b2 l1 l2 xs ys) ⟨h1,h2,?_⟩
 have za:(zA b1 s.heap l1).objs.size=s.heap.objs.size+1:=mO ..;have zb:(zB b1 b2 s.heap l1 l2).objs.size=s.heap.objs.size+2:=by rw[mO,za]
 have zc:(zC b1 b2 s.heap l1 l2).objs.size=s.heap.objs.size+3:=by rw[mO,zb]
 have zd:(zD b1 b2 s.heap l1 l2).objs.size=s.heap.objs.size+4:=by rw[mO,zc]
 have g5:(zE b1 b2 s.heap l1 l2).get? (zD b1 b2 s.heap l1 l2).objs.size=aa _:=cI _ rfl;have g4:(zE b1 b2 s.heap l1 l2).get? (zC b1 b2 s.heap l1 l2).objs.size=aa _:=bF _ (cI _ rfl);have g3:(zE b1 b2 s.heap l1 l2).get? (zB b1 b2 s.heap l1 l2).objs.size=aa _:=bF _ (bF _ (cI _ rfl));have g2:(zE b1 b2 s.heap l1 l2).get? (zA b1 s.heap l1).objs.size=aa (jt b2 l2):=bF _ (bF _ (bF _ (cI _ (by cases b2<;>rfl))))
 have g1:(zE b1 b2 s.heap l1 l2).get? s.heap.objs.size=aa (jt b1 l1):=bF _ (bF _ (bF _ (bF _ (cI _ (by cases b1<;>rfl)))))
 have all:∀ c o,s.heap.get? c=aa o->(zE b1 b2 s.heap l1 l2).get? c=aa o:=λc o x=>bF _ (bF _ (bF _ (bF _ (bF _ x))))
 have lt1:l1<s.heap.objs.size:=by
  cases b1 with
  |true=>obtain⟨o,e,_⟩:=h1;exact bM e
  |false=>obtain⟨o,e,_⟩:=h1;exact bM e
 have lt2:l2<s.heap.objs.size:=by
  cases b2 with
  |true=>obtain⟨o,e,_⟩:=h2;exact bM e
  |false=>obtain⟨o,e,_⟩:=h2;exact bM e
 refine⟨⟨_,g5,rfl⟩,q _ (zB b1 b2 s.heap l1 l2).objs.size (zC b1 b2 s.heap l1 l2).objs.size s.heap.objs.size (zA b1 s.heap l1).objs.size _ () () () () () ?_ ⟨g5,g3,⟨_,_,g4⟩,StB.new (h1.keep (all l1)) g1,StB.new (h2.keep (all l2)) g2⟩ all⟩
 have ap:=D8 lt1 lt2;rw[<-za,<-zb,<-zc,<-zd] at ap;exact ap
end
def ItB (b:Bool)(j l:aC)(k:Nat)(h:aU):Prop:=match b with
 |true=>h.IsListIter j l k
 |false=>h.IsTupleIter j l k
theorem Adn{j:aC}:StB b j l us k h↔ItB b j l k h/\SqB b h l us:=by cases b<;>exact Iff.rfl
theorem ItB.get{j:aC}(q:ItB b j l k h):∃ o,h.get? j=aa o/\∀ v,o.data ≠ .cell v:=by
 cases b with
 |true=>
  obtain⟨o,e,_,d⟩:=q
  grind
 |false=>
  obtain⟨o,e,_,d⟩:=q
  grind
theorem ItB.keep{j:aC}(q:ItB b j l k h)(kp:∀ o,h.get? j=aa o->h'.get? j=aa o):ItB b j l k h':=by
 cases b with
 |true=>
  obtain⟨o,e,r⟩:=q;exact⟨o,kp o e,r⟩
 |false=>
  obtain⟨o,e,r⟩:=q;exact⟨o,kp o e,r⟩
def gy (b:Bool)(K:aK)(H:Hp)(a:aC)(xs:aai):Prop:=match b with
 |true=>SqL K H a xs
 |false=>SqT K H a xs
section
variable {Z:St}
theorem Inv.sqB(I:Inv X ac Z H s)(h:gy b X.K H a xs):∃ its:aam,Vals xs its/\SqB b s.heap a its.toArray:=by
 cases b with
 |true=>
  obtain⟨its,rv,p,_⟩:=I.list h;exact⟨its,rv,p.isList⟩
 |false=>
  obtain⟨its,rv,p,_⟩:=I.tuple h;exact⟨its,rv,p⟩
theorem Inv.sqV_inj(I:Inv X ac Z H s)(h:gy b X.K H a xs)(h':gy b X.K H a ys):xs=ys:=by
 cases b with
 |true=>exact I.list_inj h h'
 |false=>exact I.tuple_inj h h'
theorem Inv.turnM {t':Nat}{fp:aan}(I:Inv X ac Z H s)(hf:∀ b∈fp,iR X ac H b)(k:∀ b o,b∉fp->s.heap.get? b=aa o->h'.get? b=aa o):Inv X ac Z H { s with heap:=h',toks:=t' }:=by
 have out:∀ b u,H b=aa u->b∉fp:=λb u e m=>by
  rw[(hf b m).1] at e;cases e
 have loc:X.env.locals∉fp:=λm=>(hf _ m).2.1 rfl
 refine I.step (λb m=>⟨(hf b m).2.2.2.1,(hf b m).2.1,(hf b m).2.2.2.2.1,(hf b m).2.2.2.2.2⟩) (λb o _ _ n e _=>k b o n e) (λb o _ _ n e _=>⟨o.slots,k b o n e⟩) (λ_ _ _ _ n=>n)
  (λb o n e=>⟨o,k b o n e⟩) (λ_ _ e=>e) (λ_ _ _ e=>e) (λb ps e=>⟨#[],by rw[e];simp⟩) (λm hm=>?_) (λb u e=>?_) I.bare
 .obtain⟨o,es,ep,ho,r⟩:=hm;exact⟨o,es,ep,k _ o loc ho,r⟩
 .refine(I.hok b u e).stay (λc v hc q=>k c v ?_ q) (λ_ q=>q) λ_ _ q=>q
  grind
end
def GP (K:aK)(b1 b2:Bool)(a1 a2:aC):It:=
  ⟨λi H=>∃ xs ys x y,gy b1 K H a1 xs/\gy b2 K H a2 ys/\xs[i]?=aa x/\ys[i]?=aa y,
   λi H v H'=>∃ T x y,H T=ab/\v=.ref T/\(∀ xs,gy b1 K H a1 xs->xs[i]?=aa x)/\(∀ ys,gy b2 K H a2 ys->ys[i]?=aa y)/\H'=upd H T (.tup [x,y]),
   λi H=>∃ xs ys,gy b1 K H a1 xs/\gy b2 K H a2 ys/\(xs.length<=i\/ys.length<=i)⟩
def tnZ (b1 b2:Bool)(a1 a2 z TI TO i1 i2:aC)(i:Nat)(h:aU):Prop:=IsZip h z TI TO .none/\oV h TI (.ref i1) (.ref i2)/\(∃ a b,oV h TO a b)/\ItB b1 i1 a1 i h/\ItB b2 i2 a2 i h
theorem t6 {P:bJ}{es:aau}{cx}{pos:bH}{b1 b2:Bool}{a1 a2 z TI TO i1 i2:aC}(D:ZApart z TI TO i1 i2 [i1,a1] [i2,a2])(n1:a1≠i1)(n2:a2≠i2) :
  Turn P w K (.Tuple es cx pos) (GP K b1 b2 a1 a2) [z,TI,TO,i1,i2] z (tnZ b1 b2 a1 a2 z TI TO i1 i2) where
 mem:=by simp
 obj:=λi h ⟨g1,g2,⟨a,b,g3⟩,g4,g5⟩ c hc=>by
  simp only[cV,uI,or_false] at hc;rcases hc with rfl|rfl|rfl|rfl|rfl
  .exact⟨_,g1,λv q=>by cases q⟩
  .exact⟨_,g2,λv q=>by cases q⟩
  .exact⟨_,g3,λv q=>by cases q⟩
  .exact g4.get
  .exact g5.get
 keep:=λi h h' ⟨g1,g2,⟨a,b,g3⟩,g4,g5⟩ k=>⟨k z (by simp) _ g1,k TI (by simp) _ g2,⟨a,b,k TO (by simp) _ g3⟩,g4.keep (k i1 (by simp)),g5.keep (k i2 (by simp))⟩
 item:=by
  rw[1];obtain⟨xs,ys,x,y,q1,q2,hx,hy⟩:=hg;obtain⟨us,r1,s1⟩:=I.sqB q1;obtain⟨vs,r2,s2⟩:=I.sqB q2;obtain⟨u,hu,ru⟩:=r1.get hx;obtain⟨v,hv,rv⟩:=r2.get hy;obtain⟨g1,g2,⟨pa,pb,g3⟩,g4,g5⟩:=st;have rg:ud z TI TO i1 i2 (StB b1 i1 a1 us.toArray) (StB b2 i2 a2 vs.toArray) .none i s.heap:=⟨g1,g2,⟨pa,pb,g3⟩,Adn.2 ⟨g4,s1⟩,Adn.2 ⟨g5,s2⟩⟩;have ik:∀ b∈[z,TI,TO,i1,i2],b<s.heap.objs.size:=λb m=>by
   simp only[cV,uI,or_false] at m;rcases m with rfl|rfl|rfl|rfl|rfl
   .exact bM g1
   .exact bM g2
   .exact bM g3
   .obtain⟨o,e,_⟩:=g4.get;exact bM e
   .obtain⟨o,e,_⟩:=g5.get;exact bM e
  refine n8 D (uV b1 i1 a1 us.toArray n1) (uV b2 i2 a2 vs.toArray n2) rg (by simpa using hu) (by simpa using hv) λh' zt pr sz ff=>?_
  have fr:=I.hok.fresh (bB _);have I0:Inv X ac Z (upd H s.heap.objs.size (.tup [x,y])) { s with heap:=s.heap.push { cls:=.type "tuple",data:=.seq #[u,v] } }:=
   I.laid (λb ob q=>bF _ q) (bB _) ⟨by show 2<=sizeLine;decide,[u,v],.cons ru (.cons rv .nil),A9u.new _ _⟩
  have qc:∀ b∈[z,TI,TO,i1,i2],iR X ac (upd H s.heap.objs.size (.tup [x,y])) b:=λb m=>⟨by rw[cM (cO (ik b m))];exact(hf b m).1,(hf b m).2⟩
  have I1:Inv X ac Z (upd H s.heap.objs.size (.tup [x,y])) { s with heap:=h' }:=I0.turnM qc λb o n e=>by
   simp only[cV,uI,or_false,not_or] at n;by_cases hb:b=s.heap.objs.size
   .subst hb;have e':(s.heap.push { cls:=.type "tuple",data:=.seq #[u,v] }).get? s.heap.objs.size=aa { cls:=.type "tuple",data:=.seq #[u,v] }:=cI _ rfl
    grind
   .exact ff b o n.1 n.2.2.1 n.2.2.2.1 n.2.2.2.2 ((GK _ _ _ hb).symm.trans e)
  obtain⟨w1,w2,⟨wa,wb,w3⟩,w4,w5⟩:=zt;have z1:i1≠z:=λe=>D.z1 (e ▸ bE)
  have z2:i2≠z:=λe=>D.z2 (e ▸ bE)
  refine⟨_,rfl,wpAny_letOwnedTupleGo_zip w1 λh2 gz sb=>?_⟩
  have I2:Inv X ac Z (upd H s.heap.objs.size (.tup [x,y])) { s with heap:=h2 }:=I1.turnM qc λb o n e=>sb.extBut b o (λq=>n (by simp[q])) e
  exact⟨.ref s.heap.objs.size,_,I2,rfl,⟨_,x,y,fr,rfl,λgg h=>by rw[I.sqV_inj h q1];exact hx,λqd h=>by rw[I.sqV_inj h q2];exact hy,rfl⟩,
   ⟨gz,sb.extBut _ _ D.TIz w2,⟨wa,wb,sb.extBut _ _ D.TOz w3⟩,(Adn.1 w4).1.keep λo e=>sb.extBut _ _ z1 e,(Adn.1 w5).1.keep λo e=>sb.extBut _ _ z2 e⟩,λb m=>(qc b m).1⟩
 done:=by
  rw[1];obtain⟨xs,ys,q1,q2,hl⟩:=hg;obtain⟨us,r1,s1⟩:=I.sqB q1;obtain⟨vs,r2,s2⟩:=I.sqB q2;obtain⟨g1,g2,g3,g4,g5⟩:=st;have rg:ud z TI TO i1 i2 (StB b1 i1 a1 us.toArray) (StB b2 i2 a2 vs.toArray) .none i s.heap:=⟨g1,g2,g3,Adn.2 ⟨g4,s1⟩,Adn.2 ⟨g5,s2⟩⟩;have l1:=r1.length;have l2:=r2.length;refine Vv (I.ok.hd hc) D (uV b1 i1 a1 us.toArray n1) (uV b2 i2 a2 vs.toArray n2) rg ?_ λh' ff=>⟨rfl,I.turnM hf λb o n e=>?_⟩
  all_goals grind
 self:=λ_ _ _ _ _ st h=>wpAny_pyIter_zip st.1 h
section
variable {a b:aQ}{p:bH}{es:aau}
def Kr (K:aK)(ta:TA):TI:=λZ H R=>ta Z H λvs H1=>∃ a1 a2 b1 b2 xs ys,vs=[.ref a1,.ref a2]/\gy b1 K H1 a1 xs/\gy b2 K H1 a2 ys/\R (GP K b1 b2 a1 a2) H1
theorem Od(hg:Gl X "zip")(hm:X.mg "zip" = ab)(ha:PA X [a,b] ta)(hs:bX [a,b] X.env=[(ah,bY a X.env),(ah,bY b X.env)]:=by rfl)(kg:bX [b] X.env=[(ah,bY b X.env)]:=by rfl) :
  PI X (.Tuple es cx ig) (.Call (.Name "zip" p) [a,b] [] pos) (Kr X.K ta):=by
 intro ac s Z H R I h;refine Call_ (rJ I hg hm boot_zip (FX (bb (ha pos ac s Z H _ I h) λus s1 ⟨vs,H1,I1,r1,q1⟩=>?_) (by rw[hs,kg]) (by rw[kg];rfl)))
 obtain⟨a1,a2,b1,b2,xs,ys,rfl,k1,k2,q⟩:=q1;cases r1 with
 |cons r rr=>
  cases rr with
  |cons r' rr=>
   cases rr;cases r;cases r';obtain⟨u1,_,w1⟩:=I1.sqB k1;obtain⟨u2,_,w2⟩:=I1.sqB k2;have m1:a1<s1.heap.objs.size:=by
    cases b1 with
    |true=>obtain⟨o,e,_⟩:=w1;exact bM e
    |false=>obtain⟨o,e,_⟩:=w1;exact bM e
   have m2:a2<s1.heap.objs.size:=by
    cases b2 with
    |true=>obtain⟨o,e,_⟩:=w2;exact bM e
    |false=>obtain⟨o,e,_⟩:=w2;exact bM e
   refine Wd w1 w2 λz TI TO i1 i2 h' y0 y1 y2 y3 y4 D rg all=>wpAny_pyIter_zip rg.1 ?_
   refine⟨z,[z,TI,TO,i1,i2],_,_,H1,rfl,I1.kept all,t6 D (λe=>?_) (λe=>?_),⟨rg.1,rg.2.1,rg.2.2.1,(Adn.1 rg.2.2.2.1).1,(Adn.1 rg.2.2.2.2).1⟩,λb m=>?_,q⟩
   .grind
   .grind
   .have le:s1.heap.objs.size<=b:=by
     grind
    exact I1.fpOk le (I1.hok.fresh le)
noncomputable def pM:aA->Option aah
 |.list ds=>aa ds
 |.tuple ds=>aa ds
 |_=>ab
def pairD (x y:aA):aA:=.tuple [x,y]
def iZ (fa:AF):AF:=λY=>(fa Y).bind λds=>match ds with
 |[x,y]=>(pM x).bind λxs=>(pM y).bind λys=>aa (AM pairD xs ys)
 |_=>ab
theorem MI{B:Hp}(e:pM d=aa ds)(r:Abj K B d v):∃ a b xs,v=.ref a/\(∀ H2,Ext B H2->gy b K H2 a xs)/\Aak K B ds xs:=by
 cases d with
 |list es=>
  cases e;obtain⟨a,xs,rfl,h,rr⟩:=Aa8.1 r;exact⟨a,af,xs,rfl,λH2 x2=>x2.sqL h,rr⟩
 |tuple es=>
  cases e;obtain⟨a,xs,rfl,h,rr⟩:=Aap.1 r;exact⟨a,ah,xs,rfl,λH2 x2=>SqT.of (x2 _ _ h),rr⟩
 |_=>cases e
theorem Vj{B:Hp}{b2:Bool}{a2:aC}{es:aah}(h1:∀ H2,Ext B H2->gy b1 K H2 a1 xs)(h2:∀ H2,Ext B H2->gy b2 K H2 a2 ys)(r1:Aak K B ds xs)(r2:Aak K B es ys) :
  ky K B (GP K b1 b2 a1 a2) (AM pairD ds es):=λi H2 x2=>by
 refine⟨λd hd=>?_,λe=>⟨xs,ys,h1 H2 x2,h2 H2 x2,?_⟩⟩
 .rw[List.getElem?_zipWith] at hd;cases c1:ds[i]? with
  |none=>rw[c1] at hd;simp at hd
  |some d1=>
   cases c2:es[i]? with
   |none=>rw[c1,c2] at hd;simp at hd
   |some d2=>
    rw[c1,c2] at hd;have hd:pairD d1 d2=d:=by simpa using hd
    subst hd;obtain⟨v1,g1,g2⟩:=r1.get c1;obtain⟨v2,g3,g4⟩:=r2.get c2;refine⟨⟨xs,ys,v1,v2,h1 H2 x2,h2 H2 x2,g1,g3⟩,?_⟩;rintro x H3 ⟨T,x',y',fr,rfl,k1,k2,rfl⟩;obtain rfl:v1=x':=dY (g1.symm.trans (k1 xs (h1 H2 x2)));obtain rfl:v2=y':=dY (g3.symm.trans (k2 ys (h2 H2 x2)));have ext:Ext H2 (upd H2 T (.tup [v1,v2])):=λb u e=>by rw[cM (iP e fr)];exact e
    refine⟨ext,λP2 zh xb=>?_⟩
    have nT:¬ P2 T:=λq=>by
     rcases zh T q with⟨o,e⟩|⟨o,e⟩<;>rw[fr] at e<;>cases e
    have gT:hid (upd H2 T (.tup [v1,v2])) P2 T=aa (.tup [v1,v2]):=eO nT dQ;have xx:=xb.trans (cN ext);exact Aap.2 ⟨T,_,rfl,gT,Aae.2 ⟨_,_,rfl,g2.ext xx,Aae.2 ⟨_,_,rfl,g4.ext xx,Aai.2 rfl⟩⟩⟩
 .rw[List.length_zipWith] at e;rw[r1.length,r2.length]
  lia
theorem NS(hg:Gl X "zip")(hm:X.mg "zip" = ab)(ha:DA X [a,b] fa)(hs:bX [a,b] X.env=[(ah,bY a X.env),(ah,bY b X.env)]:=by rfl)(kg:bX [b] X.env=[(ah,bY b X.env)]:=by rfl) :
  DI X (.Tuple es cx ig) (.Call (.Name "zip" p) [a,b] [] pos) (iZ fa):=PI.imp (Od hg hm ha hs kg) λZ H R gh=>by
 obtain⟨P,Y,ds,hP,rs,ef,k⟩:=gh;obtain⟨as,e1,br⟩:=ao ef;clear ef
 match as,e1,br with
 |[x,y],e1,br=>
  obtain⟨xs,e2,bq⟩:=ao (show((pM x).bind λxs=>(pM y).bind λys=>aa (AM pairD xs ys))=aa ds from br)
  obtain⟨ys,e3,dq⟩:=ao bq;cases dq;refine⟨P,Y,_,hP,rs,e1,λvs H1 x1 r1=>?_⟩
  obtain⟨v,t,rfl,q1,q2⟩:=Aae.1 r1;obtain⟨v',rfl,q3⟩:=fK q2;obtain⟨a1,b1,us,rfl,k1,w1⟩:=MI e2 q1;obtain⟨a2,b2,us',rfl,k2,w2⟩:=MI e3 q3;exact⟨a1,a2,b1,b2,us,us',rfl,k1 _ Aal,k2 _ Aal,k _ H1 x1 (Vj k1 k2 w1 w2)⟩
 |[],_,h=>cases h
 |[_],_,h=>cases h
 |_::_::_::_,_,h=>cases h
end
section
variable {P:bJ}{e j:aC}{own:aan}{S:Nat->aU->Prop}{xs:Array aD}{x ff:aD}
theorem D3(U:Sub P w j own S xs)(ne:e∉own)(ge:qM s.heap e j (k:Int) ff)(st:S k s.heap)(hx:xs[k]?=aa x)
  (q:∀ h',IsEnumOut h' e j ((k+1:Nat):Int) x s.heap.objs.size->S (k+1) h'->oV h' s.heap.objs.size (.int k s.toks) x->h'.objs.size=s.heap.objs.size+1 ->
   (∀ c o,c≠e->c≠j->s.heap.get? c=aa o->h'.get? c=aa o)->Q (.ref s.heap.objs.size) { s with heap:=h',toks:=s.toks+1 }) :
  aL (aP P w) A (Builtin.«enumerate.__next__» ⟨[.ref e],[]⟩) (λfin s'=>∃ v,fin=.done (.ret v)/\Q v s') E s:=by
 have nj:e≠j:=λh=>ne (h ▸ U.mem)
 show aL _ _ (qE (.ref e) 2>>=_) _ E s;refine aG (gC ge rfl (x:=.ref j) rfl (aG (U.item _ _ _ _ k x st hx λha sta sa=>?_)))
 have U3:qM ha e j (k:Int) ff:=sa.extBut _ _ nj ge;show aL _ _ (qE (.ref e) 3>>=_) _ E _;refine aG (gC U3 rfl (x:=dF k) rfl ?_);show aL _ _ (qE (.ref e) 4>>=_) _ E _;refine aG (gC U3 rfl (x:=.none) rfl ?_);show aL _ _ (mkInt k>>=_) _ E _;refine aG (wpAny_mkInt ?_);show aL _ _ (setField (.ref e) 3 (dF ((k:Int)+1))>>=_) _ E _;refine aG (kO U3 (by simp) λhb U4 sb=>?_)
 replace U4:qM hb e j ((k+1:Nat):Int) ff:=U4;show aL _ _ (setField (.ref e) 4 .none>>=_) _ E _;refine aG (kO U4 (by simp) λhc P6 sc=>?_)
 replace P6:qM hc e j ((k+1:Nat):Int) ff:=P6;show aL _ _ (newTuple [.int k s.toks,x]>>=_) _ E _;refine aG (OR ?_);have size:hc.objs.size=s.heap.objs.size:=by rw[sc.1,sb.1,sa.1]
 have lt:e<hc.objs.size:=bM P6;have U5:∀ c o,c≠e->c≠j->s.heap.get? c=aa o->hc.get? c=aa o:=λc o n1 n2 g=>sc.extBut _ _ n1 (sb.extBut _ _ n1 (sa.extBut _ _ n2 g))
 have stc:S (k+1) hc:=U.but (U.but sta ne sb.extBut) ne sc.extBut;have U6:qM (hc.push { cls:=.type "tuple",data:=.seq #[.int k s.toks,x] }) e j ((k+1:Nat):Int) ff:=bF _ P6;show aL _ _ (RJ (.ref e)>>=_) _ E _;rw[11];unfold RJ;refine aG (gC U6 rfl (x:=.none) rfl (aM ?_));simp only[if_true];refine aG (lJ (aG (gC U6 rfl (x:=ff) rfl (aG (kO U6 (by simp) λhe U7 se=>?_)))))
 replace U7:qM he e j ((k+1:Nat):Int) x:=U7;show aL _ _ (Kk (.ref e) (.ref hc.objs.size)>>=_) _ E _;rw[11];unfold Kk;refine aG (kO U7 (by simp) λhf U8 sf=>?_)
 replace U8:IsEnumOut hf e j ((k+1:Nat):Int) x hc.objs.size:=U8;refine kO U8 (by simp) λhg P7 sg=>?_
 replace P7:IsEnumOut hg e j ((k+1:Nat):Int) x hc.objs.size:=P7;have up:∀ c o,c≠e->(hc.push { cls:=.type "tuple",data:=.seq #[.int k s.toks,x] }).get? c=aa o->hg.get? c=aa o:=λc o n g=>sg.extBut _ _ n (sf.extBut _ _ n (se.extBut _ _ n g))
 have sz:hg.objs.size=hc.objs.size+1:=by rw[sg.1,sf.1,se.1,mO]
 have pr:oV hg hc.objs.size (.int k s.toks) x:=up _ _ (lT lt) (cI _ rfl);have stg:S (k+1) hg:=U.keep _ _ _ stc λc m o g=>up c o (λh=>ne (h ▸ m)) (bF _ g)
 refine aG (rS (aM ⟨_,rfl,?_⟩));rw[size] at P7 pr sz ⊢;exact q hg P7 stg pr sz λc o n1 n2 g=>up c o n1 (bF _ (U5 c o n1 n2 g))
theorem F9 {Q:aap->aH->Prop}(U:Sub P w j own S xs)(ne:e∉own)(ge:qM s.heap e j (k:Int) ff)(st:S k s.heap)(hx:xs[k]?=aa x)
  (q:∀ h',IsEnumOut h' e j ((k+1:Nat):Int) x s.heap.objs.size->S (k+1) h'->oV h' s.heap.objs.size (.int k s.toks) x->h'.objs.size=s.heap.objs.size+1 ->
   (∀ c o,c≠e->c≠j->s.heap.get? c=aa o->h'.get? c=aa o)->Q (aa (.ref s.heap.objs.size)) { s with heap:=h',toks:=s.toks+1 }):aL (aP P w) A (gJ (.ref e)) Q E s:=by
 have ty:s.TypeIs (.ref e) "enumerate":=⟨_,ge,rfl⟩;unfold gJ;exact aG (qA (lL ty RD (fU RD ty F.entry_enumerate_next (D3 U ne ge st hx λh' a1 a2 a3 a4 a5=>aM (q h' a1 a2 a3 a4 a5)) (F.args_enumerate_next_1 _))))
theorem Xr {Q:aap->aH->Prop}(hh:A.handled=ab)(U:Sub P w j own S xs)(ge:qM s.heap e j (k:Int) ff)(st:S k s.heap)(hx:xs[k]?=ab)
  (q:∀ h',AS j s.heap h'->Q ab { s with heap:=h' }):aL (aP P w) A (gJ (.ref e)) Q E s:=by
 have ty:s.TypeIs (.ref e) "enumerate":=⟨_,ge,rfl⟩;unfold gJ;refine aG (qA (lL ty RD (fU RD ty F.entry_enumerate_next ?_ (F.args_enumerate_next_1 _))));show aL _ _ (qE (.ref e) 2>>=_) _ _ _;refine aG (gC ge rfl (x:=.ref j) rfl (aG (U.done _ _ _ _ k hh st hx λh' a kp gh=>?_)))
 obtain⟨o,g1,g2⟩:=gh;exact aG (pZ ⟨o,g1,g2⟩ FT (aM (q _ kp)))
theorem D1 (b:Bool)(l:aC)(us:Array aD) :
  Meets (Builtin.«enumerate.__new__» ⟨[.type "enumerate",.ref l],[]⟩) (λ_ R s=>SqB b s.heap l us /\
   R (.ok (.ret (.ref (s.heap.push (jt b l)).objs.size))) { s with heap:=(s.heap.push (jt b l)).push { cls:=.type "enumerate",data:=.fields #[.none,.bool ah,.ref s.heap.objs.size,dF 0,.none,.none] } }):=
 .of_wp λprog w A R s h=>by
  obtain⟨hp,g,d,tk,os⟩:=s;obtain⟨q1,q⟩:=h;have sz:=sub_enumerate;have u1:=q1
  wp_walk
  refine wpAny_stack_any λst=>aM ?_
  split
  .rename_i c _ _ _ _ _;cases(c==kE "enumerate")
   .wp_walk using xX u1
    exact⟨_,rfl,q⟩
   .wp_walk using xX u1
    exact⟨_,rfl,q⟩
  .wp_walk using xX u1
   exact⟨_,rfl,q⟩
theorem F8(h1:SqB b s.heap l us)
  (q:∀ (e j:aC) (h':aU),s.heap.objs.size<=e->s.heap.objs.size<=j->e∉[j,l]->l≠j->qM h' e j ((0:Nat):Int) .none->StB b j l us 0 h'->(∀ c o,s.heap.get? c=aa o->h'.get? c=aa o)->Q (.ref e) { s with heap:=h' }) :
  aL (aP P w) A (call (.type "enumerate") [.ref l]) Q E s:=by
 refine callType_new F.called_enumerate nofun (F.typeCall_enumerate_1 _) (F.newCall_enumerate_1 _) (λobj=>F.args_object_init_2 obj _) F.entry_enumerate_new (D1 b l us) ⟨h1,?_⟩
 have z1:(s.heap.push (jt b l)).objs.size=s.heap.objs.size+1:=mO ..;have lt:l<s.heap.objs.size:=by
  cases b with
  |true=>obtain⟨o,e,_⟩:=h1;exact bM e
  |false=>obtain⟨o,e,_⟩:=h1;exact bM e
 have all:∀ c o,s.heap.get? c=aa o->((s.heap.push (jt b l)).push { cls:=.type "enumerate",data:=.fields #[.none,.bool ah,.ref s.heap.objs.size,dF 0,.none,.none] }).get? c=aa o:=λc o x=>bF _ (bF _ x)
 have g2:((s.heap.push (jt b l)).push { cls:=.type "enumerate",data:=.fields #[.none,.bool ah,.ref s.heap.objs.size,dF 0,.none,.none] }).get? (s.heap.push (jt b l)).objs.size=aa _:=cI _ rfl;have g1:((s.heap.push (jt b l)).push { cls:=.type "enumerate",data:=.fields #[.none,.bool ah,.ref s.heap.objs.size,dF 0,.none,.none] }).get? s.heap.objs.size=aa (jt b l):=bF _ (cI _ (by cases b<;>rfl))
 refine⟨⟨_,g2,rfl⟩,q _ s.heap.objs.size _ () (bB _) (λm=>?_) (cO lt) g2 (StB.new (h1.keep (all l)) g1) all⟩
 rw[z1] at m;rcases cV.1 m with m|m
 .exact Nat.succ_ne_self _ m
 .grind
end
def GU (K:aK)(b:Bool)(a:aC):It:=
  ⟨λi H=>∃ xs x,gy b K H a xs/\xs[i]?=aa x,
   λi H v H'=>∃ T x,H T=ab/\v=.ref T/\(∀ xs,gy b K H a xs->xs[i]?=aa x)/\H'=upd H T (.tup [.int i,x]),
   λi H=>∃ xs,gy b K H a xs/\xs.length<=i⟩
def tnE (b:Bool)(a e j:aC)(i:Nat)(h:aU):Prop:=(∃ ff,qM h e j (i:Int) ff)/\ItB b j a i h
theorem F7 {P:bJ}{es:aau}{cx}{pos:bH}{b:Bool}{a e j:aC}(D:e∉[j,a])(n1:a≠j) :
  Turn P w K (.Tuple es cx pos) (GU K b a) [e,j] e (tnE b a e j) where
 mem:=by simp
 obj:=λi h ⟨⟨ff,g1⟩,g2⟩ c hc=>by
  simp only[cV,uI,or_false] at hc;rcases hc with rfl|rfl
  .exact⟨_,g1,λv q=>by cases q⟩
  .exact g2.get
 keep:=λi h h' ⟨⟨ff,g1⟩,g2⟩ k=>⟨⟨ff,k e (by simp) _ g1⟩,g2.keep (k j (by simp))⟩
 item:=by
  rw[1];obtain⟨xs,x,q1,hx⟩:=hg;obtain⟨us,r1,s1⟩:=I.sqB q1;obtain⟨u,hu,ru⟩:=r1.get hx;obtain⟨⟨ff,g1⟩,g2⟩:=st;have ik:∀ b∈[e,j],b<s.heap.objs.size:=λb m=>by
   simp only[cV,uI,or_false] at m;rcases m with rfl|rfl
   .exact bM g1
   .obtain⟨o,e,_⟩:=g2.get;exact bM e
  refine F9 (uV b j a us.toArray n1) D g1 (Adn.2 ⟨g2,s1⟩) (x:=u) (by simpa using hu) λh' eo sj pr sz keep=>?_
  have fr:H s.heap.objs.size=ab:=I.hok.fresh (bB _);have I0:Inv X ac Z (upd H s.heap.objs.size (.tup [.int i,x])) { s with heap:=s.heap.push { cls:=.type "tuple",data:=.seq #[.int i s.toks,u] },toks:=s.toks+1 }:=
   I.laid (t':=s.toks+1) (o:=.tup [.int i,x]) (λb ob q=>bF _ q) (bB _) ⟨by show 2<=sizeLine;decide,[.int i s.toks,u],.cons ⟨_,rfl⟩ (.cons ru .nil),A9u.new _ _⟩
  have qc:∀ b∈[e,j],iR X ac (upd H s.heap.objs.size (.tup [.int i,x])) b:=λb m=>⟨by rw[cM (cO (ik b m))];exact(hf b m).1,(hf b m).2⟩
  have I1:Inv X ac Z (upd H s.heap.objs.size (.tup [.int i,x])) { s with heap:=h',toks:=s.toks+1 }:=I0.turnM (t':=s.toks+1) qc λb o n g=>by
   simp only[cV,uI,or_false,not_or] at n;by_cases hb:b=s.heap.objs.size
   .subst hb;have e':(s.heap.push { cls:=.type "tuple",data:=.seq #[.int i s.toks,u] }).get? s.heap.objs.size=aa { cls:=.type "tuple",data:=.seq #[.int i s.toks,u] }:=cI _ rfl
    grind
   .exact keep b o n.1 n.2 ((GK _ _ _ hb).symm.trans g)
  have nj:j≠e:=λh=>D (h ▸ bE)
  refine⟨_,rfl,wpAny_letOwnedTupleGo_enum eo λh2 ge sb=>?_⟩
  have I2:Inv X ac Z (upd H s.heap.objs.size (.tup [.int i,x])) { s with heap:=h2,toks:=s.toks+1 }:=I1.turnM (t':=s.toks+1) qc λb o n g=>sb.extBut b o (λq=>n (by simp[q])) g
  exact⟨.ref s.heap.objs.size,_,I2,rfl,⟨_,x,fr,rfl,λgg h=>by rw[I.sqV_inj h q1];exact hx,rfl⟩,⟨⟨_,ge⟩,(Adn.1 sj).1.keep λo g=>sb.extBut _ _ nj g⟩,λb m=>(qc b m).1⟩
 done:=by
  rw[1];obtain⟨xs,q1,hl⟩:=hg;obtain⟨us,r1,s1⟩:=I.sqB q1;obtain⟨⟨ff,g1⟩,g2⟩:=st;have l1:=r1.length;refine Xr (I.ok.hd hc) (uV b j a us.toArray n1) g1 (Adn.2 ⟨g2,s1⟩) (by simp;lia) λh' kp=>⟨rfl,I.turnM (t':=s.toks) hf λb o n g=>?_⟩
  simp only[cV,uI,or_false,not_or] at n;exact kp b o n.2 g
 self:=λ_ _ _ _ _ st h=>by
  obtain⟨⟨ff,g1⟩,_⟩:=st;exact wpAny_pyIter_enum g1 h
section
variable {a:aQ}{p:bH}{es:aau}
def Nk (K:aK)(ta:TA):TI:=λZ H R=>ta Z H λvs H1=>∃ a1 b1 xs,vs=[.ref a1]/\gy b1 K H1 a1 xs/\R (GU K b1 a1) H1
theorem Vl(hg:Gl X "enumerate")(hm:X.mg "enumerate" = ab)(ha:PA X [a] ta)(hs:bX [a] X.env=[(ah,bY a X.env)]:=by rfl) :
  PI X (.Tuple es cx ig) (.Call (.Name "enumerate" p) [a] [] pos) (Nk X.K ta):=by
 intro ac s Z H R I h;refine Call_ (rJ I hg hm boot_enumerate (FX (bb (ha pos ac s Z H _ I h) λus s1 ⟨vs,H1,I1,r1,q1⟩=>?_) hs (by rfl)))
 obtain⟨a1,b1,xs,rfl,k1,q⟩:=q1;obtain⟨u,rfl,ru⟩:=vals1 r1;cases ru;obtain⟨u1,_,w1⟩:=I1.sqB k1;refine F8 w1 λe j h' y0 y1 D n1 ge sj all=>wpAny_pyIter_enum ge ?_
 refine⟨e,[e,j],_,_,H1,rfl,I1.kept all,F7 D n1,⟨⟨_,ge⟩,(Adn.1 sj).1⟩,λb m=>?_,q⟩
 have le:s1.heap.objs.size<=b:=by
  grind
 exact I1.fpOk le (I1.hok.fresh le)
def pB (i:Nat)(x:aA):aA:=.tuple [.int i,x]
def xh (fa:AF):AF:=λY=>(fa Y).bind λds=>match ds with
 |[x]=>(pM x).bind λxs=>aa (xs.mapIdx pB)
 |_=>ab
theorem u5{B:Hp}(h1:∀ H2,Ext B H2->gy b1 K H2 a1 xs)(r1:Aak K B ds xs):ky K B (GU K b1 a1) (ds.mapIdx pB):=λi H2 x2=>by
 refine⟨λd hd=>?_,λe=>⟨xs,h1 H2 x2,?_⟩⟩
 .rw[List.getElem?_mapIdx] at hd;cases c1:ds[i]? with
  |none=>rw[c1] at hd;simp at hd
  |some d1=>
   rw[c1] at hd;have hd:pB i d1=d:=by simpa using hd
   subst hd;obtain⟨v1,g1,g2⟩:=r1.get c1;refine⟨⟨xs,v1,h1 H2 x2,g1⟩,?_⟩;rintro x H3 ⟨T,x',fr,rfl,k1,rfl⟩;obtain rfl:v1=x':=dY (g1.symm.trans (k1 xs (h1 H2 x2)));have ext:Ext H2 (upd H2 T (.tup [.int i,v1])):=λb u e=>by rw[cM (iP e fr)];exact e
   refine⟨ext,λP2 zh xb=>?_⟩
   have nT:¬ P2 T:=λq=>by
    rcases zh T q with⟨o,e⟩|⟨o,e⟩<;>rw[fr] at e<;>cases e
   have gT:hid (upd H2 T (.tup [.int i,v1])) P2 T=aa (.tup [.int i,v1]):=eO nT dQ;have xx:=xb.trans (cN ext);exact Aap.2 ⟨T,_,rfl,gT,Aae.2 ⟨_,_,rfl,Aah.2 rfl,Aae.2 ⟨_,_,rfl,g2.ext xx,Aai.2 rfl⟩⟩⟩
 .rw[List.length_mapIdx] at e;rw[r1.length];exact QJ e
theorem Hj(hg:Gl X "enumerate")(hm:X.mg "enumerate" = ab)(ha:DA X [a] fa)(hs:bX [a] X.env=[(ah,bY a X.env)]:=by rfl) :
  DI X (.Tuple es cx ig) (.Call (.Name "enumerate" p) [a] [] pos) (xh fa):=PI.imp (Vl hg hm ha hs) λZ H R gh=>by
 obtain⟨P,Y,ds,hP,rs,ef,k⟩:=gh;obtain⟨as,e1,br⟩:=ao ef;clear ef
 match as,e1,br with
 |[x],e1,br=>
  obtain⟨xs,e2,bq⟩:=ao (show((pM x).bind λxs=>aa (xs.mapIdx pB))=aa ds from br)
  cases bq;refine⟨P,Y,_,hP,rs,e1,λvs H1 x1 r1=>?_⟩
  obtain⟨v,rfl,q1⟩:=fK r1;obtain⟨a1,b1,us,rfl,k1,w1⟩:=MI e2 q1;exact⟨a1,b1,us,rfl,k1 _ Aal,k _ H1 x1 (u5 k1 w1)⟩
 |[],_,h=>cases h
 |_::_::_,_,h=>cases h
end
theorem F4:Acm X (.type "range") (λxs H Q=>∃ j:Int,xs=[.int j]/\∀ a,H a=ab->Q (.ref a) (upd H a (.rng 0 j))):=by
 rw[4];obtain⟨j,rfl,q⟩:=h;obtain⟨u,rfl,t,rfl⟩:=vals1 r;refine call_range_1 ?_;exact⟨.ref s.heap.objs.size,_,I.laid (o:=.rng 0 j) (λb ob g=>bF _ g) (bB _) ⟨_,_,_,cI _ rfl⟩,rfl,q _ I.fresh⟩
noncomputable def upTo (n:Nat):aah:=(bW n).map λ(k:Nat)=>aT k
noncomputable def sr (n:Nat):aai:=(bW n).map λ(k:Nat)=>V.int k
theorem Yl (hc:X.calm=af):Acm X (.type "list") (λxs H Q=>∃ a,∃ j:Int,xs=[.ref a]/\H a=aa (.rng 0 j) /\ -4096<=j/\j<=4096/\∀ l,H l=ab->Q (.ref l) (upd H l (.lst (sr j.toNat)))):=by
 rw[4];obtain⟨a,j,rfl,ha,h1,h2,q⟩:=h;obtain⟨u,rfl,ru⟩:=vals1 r;cases ru;obtain⟨t,u,v,g⟩:=(show Acj X.prog X.w H s.heap a (.rng 0 j) from I.hok a _ ha)
 have hn:Builtin.Range.rangeSize 0 j 1=(j.toNat:Int):=by rw[rangeSize_one];split<;>lia
 refine call_list_range (I.ok.hd hc) g (small_one () () () ()) hn () λh' tk bp c' hk hS ca=>?_
 have hv:Vals (sr j.toNat) bp.toList:=by
  refine MX (by simp[sr,ca.1]) λi x u h1 h2=>?_
  obtain⟨t',rfl⟩:=ca.2 i u (by simpa using h2)
  have hi:i<j.toNat:=by
   have:=(cK.1 h1).1;simpa [sr] using this
  have:(sr j.toNat)[i]?=aa (V.int i):=by simp[sr,hi]
  rw[this] at h1;cases h1;exact⟨t',by simp⟩
 exact⟨.ref s.heap.objs.size,_,I.laid hk (bB _) (show Acj X.prog X.w _ h' _ (.lst (sr j.toNat)) from⟨by simp[sr,mL];lia,bp.toList,c',hv,by simpa using hS⟩),rfl,q _ I.fresh⟩
theorem K7(n:Nat):Aak K H (upTo n) (sr n):=by
 unfold upTo sr;generalize bW n=l;induction l with
 |nil=>exact Aai.2 rfl
 |cons a l ih=>exact Aae.2 ⟨_,_,rfl,Aah.2 rfl,ih⟩
def BQ:aah->aaj
 |[.int j]=>if -4096<=j/\j<=4096 then aa (.list (upTo j.toNat)) else ab
 |_=>ab
theorem YD{fe:EF}{qf gi:bH}(hc:X.calm=af)(g1:Gl X "list")(m1:X.mg "list" = ab)(g2:Gl X "range")(m2:X.mg "range" = ab)(he:DE X e fe)
  (pv:bX [Expr.Call (.Name "range" p2) [e] [] gi] X.env=[(ah,bY (Expr.Call (.Name "range" p2) [e] [] gi) X.env)]:=by rfl) (kg:bX [e] X.env=[(ah,bY e X.env)]:=by rfl) :
  DF 1 X (.Call (.Name "list" p1) [.Call (.Name "range" p2) [e] [] gi] [] qf) (aN BQ (aF fe aJ)):=by
 have h1:PE X (.Call (.Name "range" p2) [e] [] gi) _:=zF F4 g2 m2 rfl (hX he jX kg) nofun nofun kg rfl
 have h2:PE X (.Call (.Name "list" p1) [.Call (.Name "range" p2) [e] [] gi] [] qf) _:=zF (Yl hc) g1 m1 rfl (hX h1 jX pv) nofun nofun pv rfl
 refine PE.imp h2 λZ H Q gh=>?_
 rw[5];obtain⟨U9,e0,ef⟩:=ao ef;obtain⟨d1,e1,e0⟩:=ao e0;have e0:[d1]=U9:=by simpa [aJ] using e0
 subst e0;cases d1 with
 |int j=>
  obtain⟨hl,rfl⟩:=cL (show(if -4096<=j/\j<=4096 then aa (qG (upTo j.toNat)) else ab)=aa d from ef)
  refine⟨P,Y,.int j,hP,rs,e1,dR λv H1 x1 r1=>?_⟩
  obtain rfl:=Aah.1 r1;refine⟨j,rfl,λa hn=>⟨a,j,rfl,dQ,hl.1,hl.2,λl T4=>?_⟩⟩
  have x2:Ext H (upd H1 a (.rng 0 j)):=x1.trans (Ext.new hn);exact(k.mono x2).lst (hP.ext x2) T4 (K7 _)
 |_=>cases ef
theorem Ga {P:bJ}{k:aI}(h:(fF P w).is k u=af):RelV (kV k) u:=by
 rcases mZ h with⟨i,tk,e1,e2⟩|⟨x,tk,e1,e2⟩
 .rw[e1,e2];exact⟨tk,rfl⟩
 .rw[e1,e2];exact⟨tk,rfl⟩
theorem NQ:∀ {kvs:ld} {vs:aab} {i:Nat} {kv:aI×V},KV kvs vs->kvs[i]?=aa kv->∃ u,vs[i]?=aa u/\kv.1=u.1/\RelV kv.2 u.2
 |_,_,0,_,.cons h _,e=>by
  cases e;exact⟨_,rfl,h.1,h.2⟩
 |_,_,i+1,_,.cons _ t,e=>by
  obtain⟨u,g⟩:=NQ t (by simpa using e)
  exact⟨u,by simpa using g⟩
def GV (a:aC)(ep n:Nat):It:=
 ⟨λi H=>∃ kvs kv,H a=aa (.dK ep kvs)/\kvs.length=n/\kvs[i]?=aa kv,λi H x H'=>H'=H/\∀ kvs,H a=aa (.dK ep kvs)->∃ kv,kvs[i]?=aa kv/\x=kV kv.1,λi H=>∃ kvs,H a=aa (.dK ep kvs)/\kvs.length=n/\n<=i⟩
theorem G4 {P:bJ}(a it:aC)(ep n:Nat):Turn P w K tg (GV a ep n) [it] it (λi h=>h.IsKeyIter it a i n ep) where
 mem:=cF.2 rfl
 obj:=λi h ⟨o,e,_,d⟩ b hb=>by
  rw[cF.1 hb];exact⟨o,e,λv z=>by rw[d] at z;cases z⟩
 keep:=λi h h' st k=>st.at λo e=>k it (cF.2 rfl) o e
 item:=by
  rw[1];obtain⟨kvs,kv,ha,hn,hk⟩:=hg;subst hn;obtain⟨z,nm,vs,r,d⟩:=sM I.hok (.inl ha);have hl:kvs.length=vs.length:=r.length;obtain⟨u,hu,r1,r2⟩:=NQ r hk;obtain⟨uk,uv⟩:=u;rw[hl] at st;refine wpAny_pyNext_dict_item st d hu λkey h' jh fu sb=>?_
  have I1:Inv X ac Z H { s with heap:=h' }:=I.turnM (t':=s.toks) hf λb o nb e=>sb.extBut b o (λq=>nb (cF.2 q)) e
  obtain⟨o,e,c,dd⟩:=id fu;have rh:kv.1=uk:=r1;refine⟨key,rfl,uU (s:={ s with heap:=h' }) e c dd nofun ⟨kV kv.1,H,I1,by rw[rh];exact Ga jh,⟨rfl,λU' h2=>?_⟩,by rw[hl];exact fu,λb hb=>(hf b hb).1⟩⟩
  rw[ha] at h2;cases h2;exact⟨kv,hk,rfl⟩
 done:=by
  rw[1];obtain⟨kvs,ha,hn,hi⟩:=hg;subst hn;obtain⟨z,nm,vs,r,d⟩:=sM I.hok (.inl ha);have hl:kvs.length=vs.length:=r.length;rw[hl] at st;exact wpAny_pyNext_dict_end (I.ok.hd hc) st d (by simp;lia) λh' eb=>⟨rfl,I.turnM (t':=s.toks) hf λb o nb e=>eb b o (λq=>nb (cF.2 q)) e⟩
 self:=λ_ _ _ _ _ st h=>wpAny_pyIter_keyiter st h
section
variable {l:aQ}
def Kv (tl:TE):TI:=λZ H R=>tl Z H λx H1=>∃ a ep kvs,x=.ref a/\H1 a=aa (.dK ep kvs)/\R (GV a ep kvs.length) H1
theorem Rb {tl:TE}(hl:PE X l tl):PI X tg l (Kv tl):=by
 intro ac s Z H R I h;refine bb (hl ac s Z H _ I h) λv s1 gh=>?_
 obtain⟨x,H1,I1,r1,q1⟩:=gh;obtain⟨a,ep,kvs,rfl,ha,q⟩:=q1;cases r1;obtain⟨z,nm,vs,r,d⟩:=sM I1.hok (.inl ha);have hn:=r.length;refine wpAny_pyIter_dict nm d ?_;refine⟨s1.heap.objs.size,[s1.heap.objs.size],_,_,H1,rfl,I1.kept λb o e=>bF _ e,G4 a _ ep kvs.length,⟨_,cI _ rfl,rfl,by rw[hn];rfl⟩,λb hb=>?_,q⟩
 rw[cF.1 hb];exact I1.fpOk (bB _) (I1.hok.fresh (bB _))
def X4 (f:EF):AF:=λY=>(f Y).bind λd=>match d with
 |.dict kds=>if (dg kds&&kds.all λkd=>cH kd.1)=af then aa (kds.map (·.1)) else ab
 |_=>ab
theorem KF:∀ {kds:be} {kvs:ld} {i:Nat} {kd:aA×aA},Abm K H kds kvs->kds[i]?=aa kd->∃ kv,kvs[i]?=aa kv/\kd.1=kD kv.1/\Abj K H kd.2 kv.2
 |(k,d)::ds,kvs,0,kd,r,e=>by
  obtain⟨k',y,t,rfl,ek,h1,h2⟩:=Aa7.1 r;cases e;exact⟨(k',y),rfl,ek,h1⟩
 |(k,d)::ds,kvs,i+1,kd,r,e=>by
  obtain⟨k',y,t,rfl,ek,h1,h2⟩:=Aa7.1 r;obtain⟨kv,g1,g2⟩:=KF h2 (by simpa using e)
  exact⟨kv,by simpa using g1,g2⟩
theorem Hv{k:aI}(h:cH (kD k)=af):Abj K H (kD k) (kV k):=by
 cases k with
 |inl i=>exact Aah.2 rfl
 |inr x=>exact Aa0.2 ⟨rfl,h⟩
theorem Wh{B:Hp}(h:B a=aa (.dK ep kvs))(r:Abm K B kds kvs)(hl:(kds.all λkd=>cH kd.1)=af):ky K B (GV a ep kvs.length) (kds.map (·.1)):=λi H2 x2=>by
 have h2:=x2 _ _ h;refine⟨λd hd=>?_,λe=>⟨kvs,h2,rfl,by rw[<-e,cJ,r.length];exact bB _⟩⟩
 rw[eU] at hd;obtain⟨kd,hk,rfl⟩:=gM.1 hd;obtain⟨kv,g1,g2,g3⟩:=KF r hk;refine⟨⟨kvs,kv,h2,rfl,g1⟩,?_⟩;rintro x H3 ⟨rfl,hx⟩;obtain⟨rj,q1,rfl⟩:=hx kvs h2;have:=dY (q1.symm.trans g1);rw[12];refine⟨Ext.refl,λP2 _ xb=>?_⟩
 rw[g2];have:=cY.1 hl kd (eT hk);exact Hv (by rw[<-g2];exact this)
theorem Sl(h:DE X e f):DI X tg e (X4 f):=PI.imp (Rb h) λZ H R gh=>by
 obtain⟨P,Y,ds,hP,rs,ef,k⟩:=gh;obtain⟨d,e1,ef⟩:=ao ef;cases d with
 |dict kds=>
  obtain⟨hl,rfl⟩:=cL ef;refine⟨P,Y,_,hP,rs,e1,dR λv H1 x1 r1=>?_⟩
  obtain⟨pk,hl⟩:=iI.1 hl;obtain⟨a,kvs,rfl,hq,rr⟩:=(oB pk).1 r1;exact⟨a,kvs.1,kvs.2,rfl,Aal _ _ hq,k _ H1 x1 (Wh hq rr hl)⟩
 |_=>cases ef
end
theorem FA:uC table "dict.update.loop" = aa Builtin.«dict.update.loop»:=PM (by kernel_rfl)
theorem tU:plainId "dict.update.loop" = af:=by rw[0]
theorem f7:FR (.type "list") "keys" = pure ab:=by rw[wJ,wO];kernel_rfl
set_option maxHeartbeats 4000000 in
theorem Us{xs:Array aD}{Q:aap->aH->Prop}(hx:s.heap.get? a=aa { cls:=.type "list",dict:=ab,data:=.seq xs k,slots:=sl })(hA:A.handled=ab)
  (h:∀ h' tk,(∀ b o,s.heap.get? b=aa o->h'.get? b=aa o)->Q ab { s with heap:=h',toks:=tk }):aL (aP prog w) A (getAttr? (.ref a) "keys") Q E s:=by
 obtain⟨hp,g,d,tk,os⟩:=s;have hT:∀ rn,(⟨hp,g,d,rn,os⟩:aH).TypeIs (.ref a) "list":=λ_=>⟨_,hx,rfl⟩
 have f1:=sub_AttributeError;have f3:=Kg.lookup;have f4:=Kg.bind (.ref a);have f5:=am_list_getattr_none;unfold getAttr? getAttrBy? getAttrBy
 repeat (any_goals (first|assumption|exact hT _|((with_reducible show aL _ _ (call (Value.builtin "list.__getattribute__") _ _) _ _ _);refine FU Kg (hT _) am_entry_list_getattribute (F.args_list_getattribute_2 _ _) (meets_getattribute_miss_list a xs k sl _ _ f7 (by rw[0])) ⟨hx,hA,λh' rn e Z7=>?_⟩)|wp_step))
 obtain⟨t',u',he⟩:=Z7.there;unfold getattributeRaised
 repeat (any_goals (first|assumption|wp_step))
 exact h _ _ Z7.keeps
def Aol (h:aU)(D:aC)(wr:aan)(aj:Array aD)(kvs:aab):Prop:=
 ∀ (j:Nat) v,aj[j]?=aa v->∃ b kv p,v=.ref b/\kvs[j]?=aa p/\h.IsTuple b #[kv,p.2]/\(fF prog w).is p.1 kv=af/\b≠D/\b∉wr
theorem Aol.keep{D:aC}{kvs:aab}(q:Aol (prog:=prog) (w:=w) h D wr aj kvs)(k:∀ b o,b≠D->b∉wr->h.get? b=aa o->h'.get? b=aa o):Aol (prog:=prog) (w:=w) h' D wr aj kvs:=λj v e=>by
 obtain⟨b,kv,p,rfl,e1,⟨o,e2,e3⟩,e4,e5,e6⟩:=q j v e;exact⟨b,kv,p,rfl,e1,⟨o,k b o e5 e6 e2,e3⟩,e4,e5,e6⟩
theorem Bp:∀ (more kvs:aab),(oK kvs more).length<=kvs.length+more.length
 |[],kvs=>bB _
 |p::r,kvs=>by
  have h1:=Bp r (uA kvs p.1 p.2);have h2:(uA kvs p.1 p.2).length<=kvs.length+1:=by
   unfold uA;split<;>simp
  show(oK (uA kvs p.1 p.2) r).length<=_;rw[fA]
  lia
theorem M1{fp:aan}{St:Nat->aH->Prop}
  (W:WalksS prog w A.in1 I fp wr G n (λi v=>aj[i]?=aa v) St) (D:aC) (zi:D∉fp) (kvs:aab) (hn:n<=sizeLine) (gp:kvs.length=n) :
  ∀ (k i:Nat) (s:aH),n-i=k->i<=n->St i s->s.heap.DictOf (fF prog w) D (oK [] (kvs.take i))->Aol (prog:=prog) (w:=w) s.heap D wr aj kvs ->
   (∀ s',Moved (D::wr) G s s'->s'.heap.DictOf (fF prog w) D (oK [] kvs)->R (.ok (.ret .none)) s') ->
   jQ (aP prog w) A (.builtin "dict.update.loop" ⟨[.ref D,.ref I,dF (i:Int),.none],[]⟩) R s:=by
 have zj:D∉wr:=λz=>zi (W.sub _ z)
 have more:∀ b∈wr,b∈D::wr:=λb z=>bL _ z
 intro k;induction k with
 |zero=>
  intro i s hk hi dm hS hT hR;obtain rfl:i=n:=()
  refine jP FA ?_;rw[kY tU _];refine aG (W.done s _ _ dm λs' hm=>?_)
  refine aG (aM (aM (hR s' (hm.mono more) ?_)));obtain⟨o,es,ep,ho,r⟩:=hS;rw[<-gp,wY] at r;exact⟨o,es,ep,hm.heap D o zj ho,r⟩
 |succ k ih=>
  intro i s hk hi dm hS hT hR;have bm:i<n:=()
  refine jP FA ?_;rw[kY tU _];refine aG (W.item i s _ _ bm dm λv s' zk il hm=>?_)
  have wu:=hT.keep λb o _ h2 e=>hm.heap b o h2 e
  obtain⟨b,kv,p,rfl,e1,tb,e4,e5,e6⟩:=wu i v zk;have gj:s'.heap.DictOf (fF prog w) D (oK [] (kvs.take i)):=by
   obtain⟨o,es,ep,ho,r⟩:=hS;exact⟨o,es,ep,hm.heap D o zj ho,r⟩
  have im:oK [] (kvs.take (i+1))=uA (oK [] (kvs.take i)) p.1 p.2:=by
   rw[uH,e1];simp[oK,uK]
  have ax:(oK [] (kvs.take i)).length<=sizeLine:=by
   have:=Bp (kvs.take i) []
   grind
  refine aG (eY (aG (FN ?_)));unfold Builtin.Dict.pairItems;refine aG (oJ tb.typeIs ?_);obtain⟨ob,g1,g2,nb,g3⟩:=tb;refine aG (jM g1 g3 (aM ?_));refine eY (wpAny_dictSet_pairs e4 gj (λh' d' sb=>?_) ax)
  refine aM ⟨kR tU _,?_⟩;refine ih (i+1) _ () bm (W.frame _ s' _ _ il (AL _) λc hc o e=>?_) (by rw[im];exact d') (wu.keep λb o h1 _ e=>(sb.2 b h1).trans e) λsx qg S4=>?_
  .exact(sb.2 c (λz=>zi (z ▸ hc))).trans e
  .exact hR sx (Moved.trans W.gtrans ((hm.mono more).then_heap (AL _) λc o hc e=>(sb.2 c (λz=>hc (z ▸ bE))).trans e) qg) S4
theorem Cs{N:aU->Prop}(hh:A.handled=ab)(hl:s.heap.get? l=aa { cls:=.type "list",dict:=ab,data:=.seq aj nl,slots:=sl })
  (hp:∀ (A':bP) (R:oP->aH->Prop) (I:aC) (s1:aH),A'.units<=A.units+50->WalksS prog w A'.in1 I [I,l] [I] (λa b=>b=a) aj.size (λi v=>aj[i]?=aa v) (λi s=>s.heap.IsListIter I l i/\s.heap.IsList l aj)->s.heap.objs.size∉[I,l]->s.heap.objs.size<I->s1.heap.IsListIter I l 0/\s1.heap.IsList l aj ->
   (∀ b o,(s.heap.push { cls:=.type "dict",data:=.dict #[] }).get? b=aa o->s1.heap.get? b=aa o)->(∀ s',Moved [s.heap.objs.size,I] (λa b=>b=a) s1 s'->N s'.heap->R (.ok (.ret .none)) s')->jQ (aP prog w) A' (.builtin "dict.update.loop" ⟨[.ref s.heap.objs.size,.ref I,dF ((0:Nat):Int),.none],[]⟩) R s1)
  (h:∀ h' tk,N h'->(∀ b o,s.heap.get? b=aa o->h'.get? b=aa o)->Q (.ref s.heap.objs.size) { s with heap:=h',toks:=tk }) :
  aL (aP prog w) A (call (.type "dict") [.ref l]) Q E s:=by
 refine callType_codes (Q₁:=λobj s₁=>obj=.ref s.heap.objs.size/\s₁={ s with heap:=s.heap.push { cls:=.type "dict",data:=.dict #[] } }) F.kt_called_dict (F.kt_typeCall_dict_1 _) F.entry_dict_init (kt_code_dict_new _ ⟨rfl,rfl⟩) ?_
 rintro obj s₁ ⟨rfl,rfl⟩;have ds:(s.heap.push { cls:=.type "dict",data:=.dict #[] }).get? s.heap.objs.size=aa { cls:=.type "dict",data:=.dict #[] }:=cI _ rfl;have dn:Shared.TypeIs { s with heap:=(s.heap.push { cls:=.type "dict",data:=.dict #[] }) } (.ref s.heap.objs.size) "dict":=⟨_,ds,rfl⟩;have l1:(s.heap.push { cls:=.type "dict",data:=.dict #[] }).get? l=aa { cls:=.type "list",dict:=ab,data:=.seq aj nl,slots:=sl }:=bF _ hl;refine⟨dn,F.args_dict_init_2 _ _,?_⟩;unfold Builtin.«dict.__init__»;rw[11];unfold Builtin.Dict.selfAndRest;refine aG (wpAny_notOrdered_dict dn (aM ?_));show aL _ _ (Builtin.Dict.updateFrom "dict.__init__" s.heap.objs.size (.ref l) [] .none) _ _ _;unfold Builtin.Dict.updateFrom;refine aG (oJ (T:="list") ⟨_,l1,rfl⟩ ?_);rw[if_pos nofun]
 refine aG (Us l1 (by simp[hh]) λh1 tk k1=>?_)
 show aL _ _ (rule _>>=λ_=>nE (.ref l)>>=_) _ _ _
 have l2:h1.get? l=aa { cls:=.type "list",dict:=ab,data:=.seq aj nl,slots:=sl }:=k1 _ _ l1;have L2:h1.IsList l aj:=⟨_,l2,rfl,nl,rfl⟩;refine aG (lJ (aG (wD L2 (aM ⟨kR tU _,?_⟩))));have lS:l<s.heap.objs.size:=bM hl;have sD:s.heap.objs.size<h1.objs.size:=bM (k1 _ _ ds);have nI:l≠h1.objs.size:=cO (Nat.lt_trans lS sD);have nS:s.heap.objs.size∉[h1.objs.size,l]:=λz=>by
  grind
 refine hp _ _ _ _ (by simp<;>lia) ((Walks.list (by simp[hh]) _ l nI aj).toS) nS sD ⟨⟨_,cI _ rfl,rfl,rfl⟩,L2.push _⟩ (λb o e=>bF _ (k1 _ _ e)) λs' hm S'=>?_
 obtain⟨h',g',d',rn,ul⟩:=s';obtain rfl:g'=s.gens:=hm.gens;obtain rfl:d'=s.drawn:=hm.drawn;obtain rfl:ul=s.os:=hm.os;refine⟨rfl,h h' rn S' λb o e=>?_⟩
 have lb:b<s.heap.objs.size:=bM e;refine hm.heap b o (λz=>?_) (bF _ (k1 _ _ (bF _ e)))
 rcases cV.1 z with z|z
 .exact absurd z (cO lb)
 .grind
theorem Xt{kvs:aab}(hh:A.handled=ab)(hl:s.heap.get? l=aa { cls:=.type "list",dict:=ab,data:=.seq aj nl,slots:=sl })
  (gp:kvs.length=aj.size) (hz:aj.size<=sizeLine) (hp:∀ (j:Nat) v,aj[j]?=aa v->∃ b kv p,v=.ref b/\kvs[j]?=aa p/\s.heap.IsTuple b #[kv,p.2]/\(fF prog w).is p.1 kv=af)
  (h:∀ h' tk,h'.DictOf (fF prog w) s.heap.objs.size (oK [] kvs)->(∀ b o,s.heap.get? b=aa o->h'.get? b=aa o)->Q (.ref s.heap.objs.size) { s with heap:=h',toks:=tk }) :
  aL (aP prog w) A (call (.type "dict") [.ref l]) Q E s:=by
 refine Cs hh hl (λA' R I s1 _ W nS sD st kp q=>M1 W s.heap.objs.size nS kvs hz gp (aj.size-0) 0 _ rfl (eG _) st ?_ (λj v e=>?_) q) h
 .obtain⟨o,es,ep,ho,r⟩:=(Heap.DictOf.new s.heap:(s.heap.push { cls:=.type "dict",data:=.dict #[] }).DictOf (fF prog w) s.heap.objs.size []);exact⟨o,es,ep,kp _ _ ho,r⟩
 .obtain⟨b,kv,p,rfl,e1,⟨o,e2,e3⟩,e4⟩:=hp j v e;have lb:=bM e2;exact⟨b,kv,p,rfl,e1,⟨o,kp b o (bF _ e2),e3⟩,e4,cO lb,λz=>absurd (cF.1 z) (cO (Nat.lt_trans lb sD))⟩
theorem VL {α β:Type}{R R':α->β->Prop}(f:∀ a b,R a b->R' a b):∀ {as:List α} {bs:List β},dG R as bs->dG R' as bs:=by
 intro as bs h;induction h with
 |nil=>exact .nil
 |cons h _ ih=>exact .cons (f _ _ h) ih
abbrev HZ (K:aK)(H:Hp)(ys:aai)(ps:ld):Prop:=dG (λy (p:aI×V)=>∃ b,y=V.ref b/\SqT K H b [kV p.1,p.2]) ys ps
theorem m8{Z:St}(I:Inv X ac Z H s):∀ {ys:aai} {ps:ld} {its:aam},HZ X.K H ys ps->Vals ys its ->
  ∃ kvs:aab,KV ps kvs/\kvs.length=its.length/\∀ (j:Nat) v,its[j]?=aa v->∃ b kv p,v=.ref b/\kvs[j]?=aa p/\s.heap.IsTuple b #[kv,p.2]/\(fF X.prog X.w).is p.1 kv=af:=by
 intro ys ps its hp;induction hp generalizing its with
 |nil=>
  intro r;cases r;exact⟨[],.nil,rfl,λj v e=>by simp at e⟩
 |@cons y p ys ps hq t ih=>
  intro r;obtain⟨b,e,q⟩:=hq;subst e;cases r with
  |cons r rr=>
   cases r;obtain⟨kvs,h1,h2,h3⟩:=ih rr;obtain⟨us,rv,tb,_⟩:=I.tuple q;cases rv with
   |cons ra rb=>
    cases rb with
    |cons rb rc=>
     cases rc;refine⟨(p.1,_)::kvs,.cons ⟨rfl,rb⟩ h1,by simp[h2],λj v e=>?_⟩
     cases j with
     |zero=>
      cases e;exact⟨b,_,(p.1,_),rfl,rfl,tb,qZ ra⟩
     |succ j=>exact h3 j v (by simpa using e)
theorem Za (hc:X.calm=af):Acm X (.type "dict") (λxs H Q=>∃ p ys ps,xs=[.ref p]/\SqL X.K H p ys/\HZ X.K H ys ps/\∀ q n,H q=ab->Q (.ref q) (upd H q (.dK n (mU [] ps)))):=by
 rw[4];obtain⟨p,ys,ps,rfl,hp,hv,q⟩:=h;obtain⟨u,rfl,ru⟩:=vals1 r;cases ru;obtain⟨its,rv,⟨o,n,ho,oh,ii,uy⟩,hz⟩:=I.list hp;obtain⟨kvs,h1,h2,h3⟩:=m8 I hv rv;have e1:=rv.length;obtain⟨c,Z8,Z9,sl⟩:=o;simp only at oh ii uy;subst oh ii uy;refine Xt (I.ok.hd hc) ho (by rw[dU];exact h2) (by rw[dU];lia) (λj v e=>h3 j v (by simpa using e)) λh' tk dd hk=>?_
 obtain⟨m,da⟩:=dd.dictAt;have lz:(mU [] ps).length<=sizeLine:=by
  have l1:=NJ ps [];have l2:=lQ h1;simp at l1
  lia
 exact⟨.ref s.heap.objs.size,_,I.laid hk (bB _) (xV lz (beq_eq_false_iff_ne.2 (fX (cO I.big))) (h1.merge .nil) da),rfl,q _ m I.fresh⟩
def sF:aah->Option (List (aI×aA))
 |[]=>aa []
 |.tuple [k,d]::r=>(bS k).bind λk=>(sF r).bind λps=>aa ((k,d)::ps)
 |_::_=>ab
def pO (ps:List (aI×aA))(kds:be):be:=ps.foldl (λaq p=>putD aq p.1 p.2) kds
def BX:aah->aaj
 |[.list ds]=>(sF ds).bind λps=>aa (.dict (pO ps []))
 |_=>ab
theorem Bi:∀ {ps:List (aI×aA)} {qs:ld},dG (λ(p:aI×aA) (q:aI×V)=>p.1=q.1/\Abj K H p.2 q.2) ps qs->∀ {kds:be} {kvs:ld},Abm K H kds kvs->Abm K H (pO ps kds) (mU kvs qs):=by
 intro ps qs hp;induction hp with
 |nil=>exact λr=>r
 |@cons p q ps qs hq t ih=>
  intro kds kvs r;have:=ih (DB (k:=p.1) r hq.2);show Abm K H (pO _ (putD kds p.1 p.2)) (mU (putK kvs q.1 q.2) _);rw[<-hq.1];exact this
theorem A1:∀ {ds:aah} {ps:List (aI×aA)} {ys:aai},sF ds=aa ps->Aak K H ds ys->∃ qs:ld,dG (λ(y:V) (q:aI×V)=>∃ b,y=V.ref b/\H b=aa (.tup [kV q.1,q.2])) ys qs/\dG (λ(p:aI×aA) (q:aI×V)=>p.1=q.1/\Abj K H p.2 q.2) ps qs:=by
 intro ds;induction ds with
 |nil=>
  intro ps ys e r;cases e;rw[Aai.1 r];exact⟨[],.nil,.nil⟩
 |cons z ds ih=>
  intro ps ys e r;cases z with
  |tuple zs=>
   cases zs with
   |nil=>cases e
   |cons k zs=>
    cases zs with
    |nil=>cases e
    |cons d zs=>
     cases zs with
     |cons _ _=>cases e
     |nil=>
      obtain⟨key,e1,e⟩:=ao (show((bS k).bind λk=>(sF ds).bind λps=>aa ((k,d)::ps))=aa ps from e)
      obtain⟨ps',e2,e⟩:=ao e;cases e;obtain⟨v,t,rfl,r1,r2⟩:=Aae.1 r;obtain⟨qs,h1,h2⟩:=ih e2 r2;obtain⟨b,xs,rfl,hb,rx⟩:=Aap.1 r1;obtain⟨u1,t1,rfl,a1,a2⟩:=Aae.1 rx;obtain⟨u2,rfl,a3⟩:=fK a2;rw[jL e1 a1] at hb;exact⟨(key,u2)::qs,.cons ⟨b,rfl,hb⟩ h1,.cons ⟨rfl,a3⟩ h2⟩
  |_=>cases e
theorem Yw:CallD K 1 (λxs H Q=>∃ p ys ps,xs=[.ref p]/\SqL K H p ys/\HZ K H ys ps/\∀ q n,H q=ab->Q (.ref q) (upd H q (.dK n (mU [] ps)))) BX:=λP H xs ds d Q hP r e k=>by
 unfold BX at e;split at e
 .obtain⟨ps,e1,e2⟩:=ao e;cases e2;obtain⟨v,rfl,r'⟩:=fK r;obtain⟨q,ys,rfl,hq,rr⟩:=Aa8.1 r';obtain⟨qs,h1,h2⟩:=A1 e1 rr;refine⟨q,ys,qs,rfl,Aal.sqL hq,?_,λl n hn=>k.dic hP hn (Bi h2 (Abi.2 rfl))⟩
  exact VL (λy p ⟨b,e,hb⟩=>⟨b,e,SqT.of (Aal _ _ hb)⟩) h1
 .cases e
abbrev jl:=List aA×aC×aD
def kN (xs more:List jl):List jl:=more.foldl (λaq p=>qB aq p.1 p.2.1 p.2.2) xs
theorem Zf {xs:List jl}{k:aah}{v:aD}{x:jl}(m:x∈qB xs k a v):(x.1=k/\x.2.1=a)\/∃ y∈xs,x.1=y.1/\x.2.1=y.2.1:=by
 cases e:oO xs k with
 |none=>
  rw[storedH_new e] at m
  grind
 |some p=>
  rw[storedH_old e] at m;obtain⟨y,my,rfl⟩:=bK.1 m;refine .inr ⟨y,my,?_⟩;unfold putAt
  grind
theorem Zu (xs:List jl)(k:aah)(a:aC)(v:aD):(qB xs k a v).length<=xs.length+1:=by
 cases e:oO xs k with
 |none=>rw[storedH_new e];simp
 |some p=>rw[storedH_old e];simp
theorem Dn:∀ (more:List jl) {xs:List jl} {x:jl},x∈kN xs more->(∃ p∈more,x.1=p.1/\x.2.1=p.2.1)\/∃ y∈xs,x.1=y.1/\x.2.1=y.2.1
 |[],xs,x,m=>.inr ⟨x,m,rfl,rfl⟩
 |p::r,xs,x,m=>by
  rcases Dn r (show x∈kN (qB xs p.1 p.2.1 p.2.2) r from m) with⟨q,mq,e⟩|⟨y,my,e1,e2⟩
  .grind
  .rcases Zf my with⟨a1,a2⟩|⟨z,mz,a1,a2⟩
   all_goals grind
theorem Dj:∀ (more xs:List jl),(kN xs more).length<=xs.length+more.length
 |[],xs=>bB _
 |p::r,xs=>by
  have h1:=Dj r (qB xs p.1 p.2.1 p.2.2);have h2:=Zu xs p.1 p.2.1 p.2.2;show(kN (qB xs p.1 p.2.1 p.2.2) r).length<=_;rw[fA]
  lia
theorem Ab {h0:aU}{D:aC}{xs:List jl}(e:∀ o,h.get? D=aa o->h'.get? D=aa o)(hs:∀ x∈xs,Abn h0 x.1 x.2.1)(hk:∀ b o,h0.get? b=aa o->h'.get? b=aa o)(d:h.DictOfH (kB prog w) D xs):h'.DictOfH (kB prog w) D xs:=by
 obtain⟨o,es,ep,ho,h1,h2,h3,_,h5⟩:=d;exact⟨o,es,ep,e o ho,h1,h2,h3,λx hx=>(hs x hx).keep λb o _ _ e _ _=>hk b o e,h5⟩
theorem Ye{fp:aan}{St:Nat->aH->Prop}
  (W:WalksS prog w A.in1 I fp wr G n (λi v=>aj[i]?=aa v) St) (D:aC) (zi:D∉fp) (kvs:List jl) (hn:n<=sizeLine) (gp:kvs.length=n) (hu:A.units+40<cLine) {h0:aU} (hD0:h0.get? D=ab) (hw0:∀ b∈wr,h0.get? b=ab)
  (hp:∀ (j:Nat) v,aj[j]?=aa v->∃ b p,v=.ref b/\kvs[j]?=aa p/\h0.IsTuple b #[.ref p.2.1,p.2.2]) (V0:∀ p∈kvs,Abn h0 p.1 p.2.1) :
  ∀ (k i:Nat) (s:aH),n-i=k->i<=n->St i s->s.heap.DictOfH (kB prog w) D (kN [] (kvs.take i))->(∀ b o,h0.get? b=aa o->s.heap.get? b=aa o) ->
   (∀ s',Moved (D::wr) G s s'->s'.heap.DictOfH (kB prog w) D (kN [] kvs)->R (.ok (.ret .none)) s') ->
   jQ (aP prog w) A (.builtin "dict.update.loop" ⟨[.ref D,.ref I,dF (i:Int),.none],[]⟩) R s:=by
 have zj:D∉wr:=λz=>zi (W.sub _ z)
 have more:∀ b∈wr,b∈D::wr:=λb z=>bL _ z
 have nw:∀ b o,h0.get? b=aa o->b∉wr:=λb o e z=>by rw[hw0 b z] at e;cases e
 have nD:∀ b o,h0.get? b=aa o->b≠D:=λb o e z=>by rw[z,hD0] at e;cases e
 have kin:∀ i,∀ x∈kN [] (kvs.take i),Abn h0 x.1 x.2.1:=λi x m=>by
  rcases Dn _ m with⟨p,mp,e1,e2⟩|⟨y,my,_⟩
  all_goals grind
 intro k;induction k with
 |zero=>
  intro i s hk hi dm hS hT hR;obtain rfl:i=n:=()
  refine jP FA ?_;rw[kY tU _];refine aG (W.done s _ _ dm λs' hm=>?_)
  refine aG (aM (aM (hR s' (hm.mono more) ?_)));have:=Ab (λo e=>hm.heap D o zj e) (kin i) (λb o e=>hm.heap b o (nw b o e) (hT b o e)) hS
  grind
 |succ k ih=>
  intro i s hk hi dm hS hT hR;have bm:i<n:=()
  refine jP FA ?_;rw[kY tU _];refine aG (W.item i s _ _ bm dm λv s' zk il hm=>?_)
  have wu:∀ b o,h0.get? b=aa o->s'.heap.get? b=aa o:=λb o e=>hm.heap b o (nw b o e) (hT b o e)
  obtain⟨b,p,rfl,e1,tb0⟩:=hp i v zk;have tb:s'.heap.IsTuple b #[.ref p.2.1,p.2.2]:=by
   obtain⟨o,a1,a2⟩:=tb0;exact⟨o,wu b o a1,a2⟩
  have mp:=eT e1;have gj:=Ab (λo e=>hm.heap D o zj e) (kin i) wu hS
  have im:kN [] (kvs.take (i+1))=qB (kN [] (kvs.take i)) p.1 p.2.1 p.2.2:=by
   rw[uH,e1];simp[kN,uK]
  have ax:(kN [] (kvs.take i)).length<=sizeLine:=by
   have:=Dj (kvs.take i) []
   grind
  have jh:=(V0 p mp).keep λb o _ _ e _ _=>wu b o e
  refine aG (eY (aG (FN ?_)));unfold Builtin.Dict.pairItems;refine aG (oJ tb.typeIs ?_);obtain⟨ob,g1,g2,nb,g3⟩:=tb;refine aG (jM g1 g3 (aM ?_));refine eY (wpAny_dictSet_heap ?_ jh gj (λh' d' sb=>?_) ax)
  .show _+20<cLine
   grind
  refine aM ⟨kR tU _,?_⟩;refine ih (i+1) _ () bm (W.frame _ s' _ _ il (QK _ _) λc hc o e=>?_) (by rw[im];exact d') (λb o e=>(sb.2 b (nD b o e)).trans (wu b o e)) λsx qg S4=>?_
  .exact(sb.2 c (λz=>zi (z ▸ hc))).trans e
  .exact hR sx (Moved.trans W.gtrans ((hm.mono more).then_heap (QK _ _) λc o hc e=>(sb.2 c (λz=>hc (z ▸ bE))).trans e) qg) S4
theorem Zk{kvs:List jl}(hu:A.units+90<cLine)(hh:A.handled=ab)(hl:s.heap.get? l=aa { cls:=.type "list",dict:=ab,data:=.seq aj nl,slots:=sl })
  (gp:kvs.length=aj.size) (hz:aj.size<=sizeLine) (hp:∀ (j:Nat) v,aj[j]?=aa v->∃ b p,v=.ref b/\kvs[j]?=aa p/\s.heap.IsTuple b #[.ref p.2.1,p.2.2]) (V0:∀ p∈kvs,Abn s.heap p.1 p.2.1)
  (h:∀ h' tk,h'.DictOfH (kB prog w) s.heap.objs.size (kN [] kvs)->(∀ b o,s.heap.get? b=aa o->h'.get? b=aa o)->Q (.ref s.heap.objs.size) { s with heap:=h',toks:=tk }) :
  aL (aP prog w) A (call (.type "dict") [.ref l]) Q E s:=by
 have out:∀ b,s.heap.objs.size<=b->s.heap.get? b=ab:=λb hb=>by
  cases e:s.heap.get? b with
  |none=>rfl
  |some o=>exact absurd (bM e) (Nat.not_lt.2 hb)
 refine Cs hh hl (λA' R I s1 ha W nS sD st kp q=>Ye W s.heap.objs.size nS kvs hz gp () (h0:=s.heap) (out _ (bB _)) (λb z=>out b (by
  rw[cF.1 z];exact qI sD)) hp V0 (aj.size-0) 0 _ rfl (eG _) st ?_ (λb o e=>kp b o (bF _ e)) q) h
 obtain⟨o,es,ep,ho,a1,a2,a3,_,a5⟩:=(Heap.DictOfH.new s.heap:(s.heap.push { cls:=.type "dict",data:=.dict #[] }).DictOfH (kB prog w) s.heap.objs.size []);exact⟨o,es,ep,kp _ _ ho,a1,a2,a3,λx hx=>absurd hx uI,a5⟩
abbrev HR (K:aK)(H:Hp)(ys:aai)(ps:li):Prop:=dG (λy (p:List aA×V)=>∃ b c,y=V.ref b/\SqT K H b [.ref c,p.2]/\Aqk H p.1 c) ys ps
def oA (kvs more:li):li:=more.foldl (λaq kv=>putK aq kv.1 kv.2) kvs
theorem Ey:∀ (more kvs:li),(oA kvs more).length<=kvs.length+more.length
 |[],kvs=>by show kvs.length<=kvs.length+0;lia
 |p::r,kvs=>by
  have h1:=Ey r (putK kvs p.1 p.2);have h2:=zL kvs p.1 p.2;show(oA (putK kvs p.1 p.2) r).length<=_;rw[fA];lia
theorem KT.merge:∀ {more:li} {rs:List jl} {kvs:li} {vs:List jl},KT H more rs->KT H kvs vs->KT H (oA kvs more) (kN vs rs):=by
 intro more rs kvs vs r;induction r generalizing kvs vs with
 |nil=>intro q;exact q
 |@cons p q ps qs h t ih=>
  intro z;obtain⟨h1,h2,h3⟩:=h;have:=z.put p.1 h2 h3;show KT H (oA (putK kvs p.1 p.2) ps) (kN (qB vs q.1 q.2.1 q.2.2) qs);rw[<-h1];exact ih this
theorem Aa{Z:St}(I:Inv X ac Z H s):∀ {ys:aai} {ps:li} {its:aam},HR X.K H ys ps->Vals ys its ->
  ∃ kvs:List jl,KT H ps kvs/\kvs.length=its.length/\(∀ (j:Nat) v,its[j]?=aa v->∃ b p,v=.ref b/\kvs[j]?=aa p/\s.heap.IsTuple b #[.ref p.2.1,p.2.2])/\∀ p∈kvs,Abn s.heap p.1 p.2.1
 |_,_,_,.nil,.nil=>⟨[],.nil,rfl,λj v e=>by simp at e,λp m=>by simp at m⟩
 |_,_,_,.cons (b:=p) ⟨b,c,e,q,tk⟩ t,.cons r rr=>by
  subst e;cases r;obtain⟨kvs,h1,h2,h3,h4⟩:=Aa I t rr;obtain⟨us,rv,tb,_⟩:=I.tuple q;cases rv with
  |cons ra rb=>
   cases ra;cases rb with
   |cons rb rc=>
    cases rc;refine⟨(p.1,c,_)::kvs,.cons ⟨rfl,tk,rb⟩ h1,by simp[h2],λj v e=>?_,λz m=>?_⟩
    .cases j with
     |zero=>
      cases e;exact⟨b,(p.1,c,_),rfl,rfl,tb⟩
     |succ j=>exact h3 j v (by simpa using e)
    .rw[10]
     .exact key_of I.hok tk
     .exact h4 z m
theorem d7 (hu:X.A.units+100<cLine)(hc:X.calm=af):Acm X (.type "dict") (λxs H Q=>∃ p ys ps,xs=[.ref p]/\SqL X.K H p ys/\HR X.K H ys ps/\∀ q n,H q=ab->Q (.ref q) (upd H q (.dT n (oA [] ps)))):=by
 rw[4];obtain⟨p,ys,ps,rfl,hp,hv,q⟩:=h;obtain⟨u,rfl,ru⟩:=vals1 r;cases ru;obtain⟨its,rv,⟨o,n,ho,oh,ii,uy⟩,hz⟩:=I.list hp;obtain⟨kvs,h1,h2,h3,h4⟩:=Aa I hv rv;have e1:=rv.length;obtain⟨c,Z8,Z9,sl⟩:=o;simp only at oh ii uy;subst oh ii uy;refine Zk () (I.ok.hd hc) ho (by rw[dU];exact h2) (by rw[dU];lia) (λj v e=>h3 j v (by simpa using e)) h4 λh' tk dd hk=>?_
 have lz:(oA [] ps).length<=sizeLine:=by
  have l1:=Ey ps [];have l2:=lQ h1;simp at l1
  lia
 obtain⟨qo,es,ep,a1,a2,a3,a4,_,a5⟩:=dd;have fr:=I.hok.fresh (bB _);exact⟨.ref s.heap.objs.size,_,I.laid (o:=.dT ep (oA [] ps)) hk (bB _) ⟨lz,beq_eq_false_iff_ne.2 (fX (cO I.big)),_,(h1.merge .nil).keeps λb zs e=>by rw[cM (iP e fr)];exact e,qo,es,a1,a2,a3,a4,a5⟩,rfl,q _ ep I.fresh⟩
noncomputable def sI:aah->Option (List (List aA×aA))
 |[]=>aa []
 |.tuple [.tuple k,d]::r=>if (bR k&&decide (cU k<=6))=af then(sI r).bind λps=>aa ((k,d)::ps) else ab
 |_::_=>ab
def qW (kds:be)(k:aah)(d:aA):be:=if (lB kds k).isSome=af then kds.map λkd=>if bZ kd.1 (.tuple k)=af then(kd.1,d) else kd else kds++[(.tuple k,d)]
def mH (ps:List (List aA×aA))(kds:be):be:=ps.foldl (λaq p=>qW aq p.1 p.2) kds
def IR:aah->aaj
 |[.list ds]=>(sI ds).bind λps=>aa (.dict ((.none,.none)::mH ps []))
 |_=>ab
theorem LC{k:aah}(hk:bR k=af)(rv:Abj K H d v):∀ {kds:be} {kvs:li},Acg K H kds kvs ->
  Acg K H (kds.map λkd=>if bZ kd.1 (.tuple k)=af then(kd.1,d) else kd) (kvs.map λkv=>if kv.1=k then(kv.1,v) else kv)
 |[],kvs,h=>by rw[Ade.1 h];exact Ade.2 rfl
 |(k0,d0)::r,kvs,h=>by
  obtain⟨k',x,rr,rfl,⟨rfl,ce⟩,h1,h2⟩:=Ab7.1 h;have e:bZ (.tuple k') (.tuple k)=decide (k'=k):=by rw[Ic,zG _ _ ce hk]
  rw[cW,cW];by_cases q:k'=k
  .rw[if_pos q,if_pos (by rw[e];exact decide_eq_true q)]
   exact Ab7.2 ⟨k',v,_,rfl,⟨rfl,ce⟩,rv,LC hk rv h2⟩
  .rw[if_neg q,if_neg (by rw[e,decide_eq_false q];simp)]
   exact Ab7.2 ⟨k',x,_,rfl,⟨rfl,ce⟩,h1,LC hk rv h2⟩
theorem Acg.snoc{k:aah}(hk:bR k=af)(rv:Abj K H d v):∀ {kds:be} {kvs:li},Acg K H kds kvs->Acg K H (kds++[(.tuple k,d)]) (kvs++[(k,v)])
 |[],kvs,h=>by rw[Ade.1 h];exact Ab7.2 ⟨k,v,[],rfl,⟨rfl,hk⟩,rv,Ade.2 rfl⟩
 |(k0,d0)::r,kvs,h=>by
  obtain⟨k',x,rr,rfl,e,h1,h2⟩:=Ab7.1 h;exact Ab7.2 ⟨k',x,_,rfl,e,h1,Acg.snoc hk rv h2⟩
theorem Wt{k:aah}{kvs:li}(hk:bR k=af)(h:Acg K H kds kvs)(rv:Abj K H d v):Acg K H (qW kds k d) (putK kvs k v):=by
 unfold qW putK;rw[yN];rcases MA hk h with⟨n1,n2⟩|⟨d',v',s1,s2,_⟩
 .rw[n1,n2,if_neg (by simp),if_neg (by simp)]
  exact Acg.snoc hk rv h
 .rw[s1,s2,if_pos (show(aa d').isSome=af from rfl),if_pos (show(aa v').isSome=af from rfl)]
  exact LC hk rv h
theorem Bv:∀ {ps:List (List aA×aA)} {qs:li},dG (λ(p:List aA×aA) (q:List aA×V)=>p.1=q.1/\bR p.1=af/\Abj K H p.2 q.2) ps qs->∀ {kds:be} {kvs:li},Acg K H kds kvs->Acg K H (mH ps kds) (oA kvs qs)
 |_,_,.nil,_,_,r=>r
 |_,_,.cons (a:=p) (b:=q) ⟨e,hk,h⟩ t,kds,kvs,r=>by
  have:=Wt hk r h;have:=Bv t this;show Acg K H (mH _ (qW kds p.1 p.2)) (oA (putK kvs q.1 q.2) _);rw[<-e];exact this
theorem XM:∀ {ds:aah} {ps:List (List aA×aA)} {ys:aai},sI ds=aa ps->Aak K H ds ys->∃ qs:li,dG (λ(y:V) (q:List aA×V)=>∃ b c,y=V.ref b/\H b=aa (.tup [.ref c,q.2])/\Aqk H q.1 c) ys qs/\dG (λ(p:List aA×aA) (q:List aA×V)=>p.1=q.1/\bR p.1=af/\Abj K H p.2 q.2) ps qs
 |[],ps,ys,e,r=>by
  cases e;rw[Aai.1 r];exact⟨[],.nil,.nil⟩
 |d0::ds,ps,ys,e,r=>by
  unfold sI at e;split at e
  .rename_i e0;cases e0
  .rename_i k d r0 e0;cases e0;obtain⟨hc,e⟩:=DD e;have cy:bR k=af/\cU k<=6:=by simpa using hc
   obtain⟨ps',e2,e⟩:=ao e;cases e;obtain⟨v,t,rfl,r1,r2⟩:=Aae.1 r;obtain⟨qs,h1,h2⟩:=XM e2 r2;obtain⟨b,xs,rfl,hb,rx⟩:=Aap.1 r1;obtain⟨u1,t1,rfl,a1,a2⟩:=Aae.1 rx;obtain⟨u2,rfl,a3⟩:=fK a2;obtain⟨c,zs,rfl,hz,rz⟩:=Aap.1 a1;exact⟨(k,u2)::qs,.cons ⟨b,c,rfl,hb,cy.1,cy.2,zs,hz,Aak.keys k cy.1 rz⟩ h1,.cons ⟨rfl,cy.1,a3⟩ h2⟩
  .cases e
theorem Aqk.ext(x:Ext H H'){k:aah}{c:aC}(t:Aqk H k c):Aqk H' k c:=t.keep λb xs e=>x _ _ e
theorem d8:CallD K 0 (λxs H Q=>∃ p ys ps,xs=[.ref p]/\SqL K H p ys/\HR K H ys ps/\∀ q n,H q=ab->Q (.ref q) (upd H q (.dT n (oA [] ps)))) IR:=λP H xs ds d Q hP r e k=>by
 unfold IR at e;split at e
 .obtain⟨ps,e1,e2⟩:=ao e;cases e2;obtain⟨v,rfl,r'⟩:=fK r;obtain⟨q,ys,rfl,hq,rr⟩:=Aa8.1 r';obtain⟨qs,h1,h2⟩:=XM e1 rr;refine⟨q,ys,qs,rfl,Aal.sqL hq,?_,λl n hn=>?_⟩
  .exact VL (λy p ⟨b,c,e,hb,tk⟩=>⟨b,c,e,SqT.of (Aal _ _ hb),tk.ext Aal⟩) h1
  .refine k.zero (Ext.new hn) ((LB).2 ⟨l,(n,_),rfl,eO (hP.new hn) dQ,?_⟩);refine Acg.ext (λb o e=>?_) (Bv h2 (Ade.2 rfl))
   obtain⟨nb,e⟩:=Abr.1 e;exact eO nb (Ext.new hn _ _ e)
 .cases e
def keyed (kds:be):Prop:=∀ kd∈kds,∃ k,kd.1=.tuple k/\bR k=af
theorem MD {k:aah}(hk:bR k=af):∀ {kds:be},keyed kds->((lB kds k).isSome=af↔dM k∈kds.map (·.1))
 |[],_=>by simp[lB]
 |(k0,d)::r,h=>by
  obtain⟨k',e,ce⟩:=h (k0,d) bE;have e:=e;subst e;rw[Cp ce hk];by_cases q:k'=k
  .rw[if_pos q,q];simp
  .rw[if_neg q,MD hk λkd m=>h kd (bL _ m)]
   grind
theorem Yh(h:keyed kds){k:aah}(hk:bR k=af)(d:aA):keyed (qW kds k d)/\∀ x,x∈(qW kds k d).map (·.1)↔x∈kds.map (·.1)\/x=.tuple k:=by
 unfold qW;by_cases q:(lB kds k).isSome=af
 .rw[if_pos q];have e:(kds.map λkd=>if bZ kd.1 (.tuple k)=af then(kd.1,d) else kd).map (·.1)=kds.map (·.1):=by
   rw[dC];refine jD λkd _=>?_
   grind
  refine⟨λkd m=>?_,λx=>?_⟩
  .obtain⟨y,my,e2⟩:=bK.1 (show kd.1∈kds.map (·.1) from e ▸ bK.2 ⟨kd,m,rfl⟩)
   rw[<-e2];exact h y my
  .rw[e];exact⟨.inl,λz=>z.elim id λz=>z ▸ (MD hk h).1 q⟩
 .rw[if_neg q];refine⟨λkd m=>?_,λx=>by simp⟩
  rcases oU.1 m with m|m
  .exact h kd m
  all_goals grind
theorem Dd:∀ {ps:List (List aA×aA)} {kds:be},keyed kds->(∀ p∈ps,bR p.1=af)->keyed (mH ps kds)/\∀ x,x∈(mH ps kds).map (·.1)↔x∈kds.map (·.1)\/∃ p∈ps,x=.tuple p.1
 |[],kds,h,_=>⟨h,λx=>by simp[mH]⟩
 |p::r,kds,h,hp=>by
  obtain⟨h1,h2⟩:=Yh h (hp p bE) p.2;obtain⟨h3,h4⟩:=Dd h1 λq m=>hp q (bL _ m)
  refine⟨h3,λx=>?_⟩
  show x∈(mH r (qW kds p.1 p.2)).map (·.1)↔_;rw[h4,h2];simp[or_assoc]
theorem b6 {ps:List (List aA×aA)}{k:aah}(hp:∀ p∈ps,bR p.1=af)(hk:bR k=af):(lB (mH ps []) k).isSome=decide (k∈ps.map (·.1)):=by
 obtain⟨h1,h2⟩:=Dd (kds:=[]) (λkd m=>by simp at m) hp
 have:=MD hk h1
 grind
section
variable {P:bJ}
theorem VQ {j:aC}(ne:l≠j):∀ (n i:Nat) (s:aH) (Q:aam->aH->Prop),s.heap.IsListIter j l i->s.heap.IsList l us->i+n<=us.size ->
  (∀ h',h'.IsListIter j l (i+n)->mP j s.heap h'->Q ((us.toList.drop i).take n) { s with heap:=h' })->aL (aP P w) A (draw (.ref j) n) Q E s
 |0,i,s,Q,a,_,_,q=>by
  show aL _ _ (pure []) Q E s;refine aM ?_;have:=q s.heap a (Heap.SameBut.refl ..)
  rwa [List.take_zero] at this
 |n+1,i,s,Q,a,b,le,q=>by
  have lt:i<us.size:=()
  refine aG (wpAny_pyNext_list_item a b (x:=us[i]) (by simp[lt]) λh1 a1 sb=>?_)
  refine aG (eY (VQ ne n (i+1) _ _ a1 (b.extBut sb.extBut ne) () λh2 a2 xt=>aM ?_))
  have e:us.toList.drop i=us[i]::us.toList.drop (i+1):=by simp[GI,lt]
  have:=q h2 (by rw[show i+(n+1)=i+1+n by lia];exact a2) (sb.trans xt)
  rwa [e,List.take_succ_cons] at this
theorem w9{f8:List (Bool×(aD->Sem Unit))}{Q:Unit->aH->Prop}(hh:A.handled=ab)(hl:s.heap.IsList l us)(hn:f8.length=us.size)(hs:f8.findIdx? (·.1)=ab)
  (h:∀ h',AS s.heap.objs.size s.heap h'->aL (aP P w) A (assignInOrder (f8.map (·.2)) us.toList) Q E { s with heap:=h' }):aL (aP P w) A (unpack (.ref l) f8) Q E s:=by
 have ne:l≠s.heap.objs.size:=by
  obtain⟨o,ho,_⟩:=hl;exact cO (bM ho)
 unfold unpack;rw[hn,hs];refine aG (eY ?_);unfold unpackItems;rw[11];unfold notIterableAtAll;refine aG (tY hl.typeIs slot_list_iter.lookup (aM ?_));simp only[gV,if_false];refine aG (eY (wD hl (aG (eY (VQ ne us.size 0 _ _ ⟨_,cI _ rfl,rfl,rfl⟩ (hl.push _) () λh1 a1 sb=>?_)))))
 have all:List.take us.size (List.drop 0 us.toList)=us.toList:=by
  rw[List.drop_zero];exact List.take_of_length_le (by simp)
 rw[all,if_neg (by simp)]
 refine aG (eY (wpAny_pyNext_list_end hh a1 ((hl.push _).extBut sb.extBut ne) (by simp) λh2 x2=>?_))
 simp only[Option.isSome_none,gV,if_false];exact aM (h h2 λb o hb e=>x2 b o hb (sb.extBut b o hb (bF _ e)))
end
def gLs (K:aK)(n:Nat)(t:uc):TG:=λv Z H Q=>∃ a xs,v=.ref a/\SqL K H a xs/\xs.length=n/\t xs Z H Q
theorem Om {es:aau}{t:uc}(hc:X.calm=af)(h:M' X es t)
  (hn:(eZ es X.env).length=n:=by rfl) (dm:(eZ es X.env).findIdx? (·.1)=ab:=by rfl):PG X (.Tuple es k pos) (gLs X.K n t):=by
 intro ac s Z H v u Q I r hw;obtain⟨a,xs,e1,hq,hl,hw⟩:=hw;subst e1;cases r;obtain⟨its,rv,pl,hz⟩:=I.list hq;rw[assign_Tuple];refine aG (OO (w9 (I.ok.hd hc) pl.isList (by simp[hn,<-hl,rv.length]) dm λh' hx=>?_))
 have I1:Inv X ac Z H { s with heap:=h' }:=I.kept (t':=s.toks) λb o e=>hx b o (cO (bM e)) e
 exact h ac _ Z H xs _ Q I1 (by simpa using rv) hw
def NY (i j:Nat):aA->aR->Option aR:=λd Y=>match d with
 |.list [a,b]=>(dw i a Y).bind λρ'=>dw j b ρ'
 |_=>ab
theorem Wj{k}(hc:X.calm=af)(hN:X.N.Nodup)(hi:X.N[i]?=aa x)(hj:X.N[j]?=aa y)(hx:jF X.env.scope x)(hy:jF X.env.scope y)
  (hf:Fn X x:=by exact jI) (ze:Fn X y:=by exact jI)
  (hn:(eZ [.Name x p1,.Name y p2] X.env).length=2:=by rfl) (dm:(eZ [.Name x p1,.Name y p2] X.env).findIdx? (·.1)=ab:=by rfl)
  (h1:(eZ [.Name x p1,.Name y p2] X.env).map (·.2)=jR (.Name x p1) X.env::(eZ [.Name y p2] X.env).map (·.2):=by rfl) (h2:(eZ [.Name y p2] X.env).map (·.2)=jR (.Name y p2) X.env::(eZ [] X.env).map (·.2):=by rfl):DG X H0 P0 (.Tuple [.Name x p1,.Name y p2] k pos) (NY i j):=
 PG.imp (Om hc (rN (nZ hN hi hx hf) (rN (nZ hN hj hy ze) CQ h2) h1) hn dm) λv Z H Q gh=>by
  obtain⟨B0,Y,fp,d,ρ',S,r,ef,k⟩:=gh;unfold NY at ef;split at ef
  .rename_i a b;obtain⟨ρ1,e1,e2⟩:=ao ef;obtain⟨l1,rfl⟩:=cL e1;obtain⟨l2,rfl⟩:=cL e2;obtain⟨p,xs,rfl,hp,rr⟩:=Aa8.1 r;obtain⟨v1,t1,rfl,r1,rr⟩:=Aae.1 rr;obtain⟨v2,rfl,r2⟩:=fK rr;refine⟨p,_,rfl,Aal.sqL hp,rfl,v1,_,rfl,v2,_,rfl,rfl,?_⟩;have Sb:=S.rebase Ext.refl;obtain⟨wn,S1⟩:=Sb.Akw r1 l1;obtain⟨fj,S2⟩:=S1.Akw (r2.ext S1.base) l2;exact k _ fj (S2.rebase (S.base.trans S2.base))
  .cases ef
def BG (m:Md)(f:EF)(T:aA->aR->Option aR):SF:=λY=>(eV 0 m f Y).bind λd=>(T d Y).bind λρ'=>aa (.nx ρ')
theorem Tt{T:aA->aR->Option aR}(m:Md)(he:DE X e f)(hg:DG X H0 P0 tg T)(hs:OX [tg] e pos.line X.env=pure ah:=by rfl)(hw:OY [tg] e X.env=pure ab:=by rfl)
  (h1:(eZ [tg] X.env).map (·.2)=[jR tg X.env]:=by rfl):DS X H0 P0 n0 (.Assign [tg] e pos) (BG m f T):=PS.imp (OK (ev m he) hg hs hw h1) λD Z H gh=>by
 rw[7];obtain⟨d,e1,ef⟩:=ao ef;obtain⟨ρ',e2,ef⟩:=ao ef;cases ef;refine⟨B0,Y,fp,d,S,e1,λv H' gh=>?_⟩
 obtain⟨bh,S',r⟩:=gh;exact⟨B0,Y,bh,d,ρ',S',r.2,e2,λσ' fj S2=>k _ _ fj S2⟩
open PySem PySem.W PyProof.Rows
def bf {α:Type}(lt:Nat->Nat->Bool):KasT α->α
 |.ret a=>a
 |.ask i j k=>bf lt (k (lt i j))
theorem vM {α β:Type}(lt:Nat->Nat->Bool)(f:α->KasT β):∀ t:KasT α,bf lt (t.bind f)=bf lt (f (bf lt t))
 |.ret _=>rfl
 |.ask i j k=>vM lt f (k (lt i j))
structure Ord (lt:Nat->Nat->Bool):Prop where
 asym:∀ a b,lt a b=af->lt b a=ah
 tr:∀ a b c,lt b a=ah->lt c b=ah->lt c a=ah
section
variable {lt:Nat->Nat->Bool}(O:Ord lt)
abbrev at' (p:Array Nat)(i:Nat):Nat:=p.getD i 0
def gP (lt:Nat->Nat->Bool)(p:Array Nat)(m:Nat):Prop:=∀ i j,i<=j->j<m->lt (at' p j) (at' p i)=ah
def rZ (lt:Nat->Nat->Bool)(p:Array Nat)(m:Nat):Prop:=∀ i j,i<=j->j<m->lt (at' p i) (at' p j)=ah
include O
theorem Ord.refl (a:Nat):lt a a=ah:=by
 cases h:lt a a with
 |false=>rfl
 |true=>exact absurd (O.asym a a h) (by rw[h];decide)
theorem Vd(h1:1<=n)(h:gP lt p n)(hl:lt (at' p n) (at' p (n-1))=ah):gP lt p (n+1):=λi j gx hj=>by
 by_cases c:j<n
 .exact h i j gx c
 .obtain rfl:j=n:=()
  by_cases d:i=j
  .subst d;exact O.refl _
  .exact O.tr _ _ _ (h i (j-1) () ()) hl
theorem yG(h1:1<=n)(h:rZ lt p n)(hl:lt (at' p (n-1)) (at' p n)=ah):rZ lt p (n+1):=λi j gx hj=>by
 by_cases c:j<n
 .exact h i j gx c
 .obtain rfl:j=n:=()
  by_cases d:i=j
  .subst d;exact O.refl _
  .exact O.tr _ _ _ hl (h i (j-1) () ())
theorem Ua (p:Array Nat):gP lt p 1:=λi j gx hj=>by
 obtain rfl:j=0:=()
 obtain rfl:i=0:=()
 exact O.refl _
theorem IH:∀ (f n:Nat),1<=n->gP lt p n->n<=bf lt (kas_asc p f n)/\bf lt (kas_asc p f n)<=n+f/\gP lt p (bf lt (kas_asc p f n))/\(bf lt (kas_asc p f n)<n+f->lt (at' p (bf lt (kas_asc p f n))) (at' p (bf lt (kas_asc p f n)-1))=af)
 |0,n,h1,h=>⟨bB _,bB _,h,λz=>absurd z (by show ¬ n<n+0;lia)⟩
 |f+1,n,h1,h=>by
  have e:bf lt (kas_asc p (f+1) n)=bf lt (if lt (at' p n) (at' p (n-1))=af then KasT.ret n else kas_asc p f (n+1)):=rfl
  rw[e];by_cases c:lt (at' p n) (at' p (n-1))=af
  .rw[if_pos c];exact⟨bB _,by show n<=n+(f+1);lia,h,λ_=>c⟩
  .rw[if_neg c];obtain⟨a1,a2,a3,a4⟩:=IH f (n+1) () (Vd O h1 h (by simpa using c))
   exact⟨(),(),a3,λz=>a4 ()⟩
theorem LI(h:gP lt p k):∀ (f l r:Nat),l<=r->r<=k->r-l<=f->(∀ i<l,lt (at' p k) (at' p i)=ah)->(∀ i,r<=i->i<k->lt (at' p i) (at' p k)=ah) ->
  bf lt (kas_place p k f l r)<=k/\(∀ i<bf lt (kas_place p k f l r),lt (at' p k) (at' p i)=ah)/\∀ i,bf lt (kas_place p k f l r)<=i->i<k->lt (at' p i) (at' p k)=ah
 |0,l,r,h1,h2,h3,hl,hr=>by
  have e:bf lt (kas_place p k 0 l r)=l:=rfl;obtain rfl:l=r:=()
  rw[e];exact⟨h2,hl,hr⟩
 |f+1,l,r,h1,h2,h3,hl,hr=>by
  unfold kas_place;by_cases c:l ≥ r
  .rw[if_pos c];obtain rfl:l=r:=()
   exact⟨h2,hl,hr⟩
  .rw[if_neg c];show bf lt (if lt (at' p k) (at' p ((l+r)/2))=af then kas_place p k f l ((l+r)/2) else kas_place p k f ((l+r)/2+1) r)<=k/\_
   by_cases d:lt (at' p k) (at' p ((l+r)/2))=af
   .have e:bf lt (KasT.ask (p.getD k 0) (p.getD ((l+r)/2) 0) λc=>if c=af then kas_place p k f l ((l+r)/2) else kas_place p k f ((l+r)/2+1) r)=bf lt (kas_place p k f l ((l+r)/2)):=by
     show bf lt (if lt (at' p k) (at' p ((l+r)/2))=af then _ else _)=_
     rw[if_pos d]
    rw[e,if_pos d];exact LI h f l ((l+r)/2) () () () hl λi a b=>O.tr _ _ _ (O.asym _ _ d) (h _ i a b)
   .have d':lt (at' p k) (at' p ((l+r)/2))=ah:=by simpa using d
    have e:bf lt (KasT.ask (p.getD k 0) (p.getD ((l+r)/2) 0) λc=>if c=af then kas_place p k f l ((l+r)/2) else kas_place p k f ((l+r)/2+1) r)=bf lt (kas_place p k f ((l+r)/2+1) r):=by
     show bf lt (if lt (at' p k) (at' p ((l+r)/2))=af then _ else _)=_
     rw[if_neg d]
    rw[e,if_neg d];refine LI h f ((l+r)/2+1) r () h2 () (λi hi=>?_) hr
    exact O.tr _ _ _ (h i ((l+r)/2) () ()) d'
end
theorem at_of(i:Nat):at' p i=(p[i]?).getD 0:=RP
theorem VB{l:Nat}(hk:k<p.size)(hl:l<=k)(i:Nat):at' (bubble p k (k-l)) i=if i=l then at' p k else if l<i/\i<=k then at' p (i-1) else at' p i:=by
 have e:k-(k-l)=l:=()
 have q:=getElem?_bubble hk (k-l) () i
 rw[e] at q;simp only[at_of,q];split
 .rfl
 .split<;>rfl
theorem mG(hj:j<=p.size)(k:Nat):at' (kas_rev p i j) k=if i<=k/\k<j then at' p (i+j-1-k) else at' p k:=by
 have q:=getElem?_mirror_all (i:=i) hj k;simp only[at_of];unfold kas_rev;rw[q];split<;>rfl
theorem JT (p:Array Nat)(i j:Nat):(kas_rev p i j).size=p.size:=mirror_size _ _ _ _
theorem rO (p:Array Nat)(i j:Nat):(kas_rev p i j).Perm p:=mirror_perm _ _ _ _
section
variable {lt:Nat->Nat->Bool}(O:Ord lt)
include O
theorem Gr:∀ (f:Nat) (p:Array Nat) (k:Nat),gP lt p k->k+f<=p.size->(bf lt (kas_bin f p k)).Perm p/\gP lt (bf lt (kas_bin f p k)) (k+f)
 |0,p,k,h,_=>⟨GO _,h⟩
 |f+1,p,k,h,hz=>by
  have e:bf lt (kas_bin (f+1) p k)=bf lt (kas_bin f (bubble p k (k-bf lt (kas_place p k k 0 k))) (k+1)):=by
   show bf lt ((kas_place p k k 0 k).bind λl=>kas_bin f (bubble p k (k-l)) (k+1))=_
   rw[vM]
  obtain⟨h1,h2,h3⟩:=LI O h k 0 k (eG _) (bB _) () (λi hi=>absurd hi ()) (λi a b=>absurd b ())
  rw[e];generalize bf lt (kas_place p k k 0 k)=l at h1 h2 h3;have hk:k<p.size:=()
  have A':gP lt (bubble p k (k-l)) (k+1):=λi j gx hj=>by
   rw[VB hk h1,VB hk h1];by_cases ci:i=l
   .rw[if_pos ci];by_cases cj:j=l
    .rw[if_pos cj];exact O.refl _
    .rw[if_neg cj,if_pos ⟨(),()⟩]
     exact h3 (j-1) () ()
   .rw[if_neg ci];by_cases cj:j=l
    .rw[if_pos cj,if_neg ()]
     exact h2 i ()
    .rw[if_neg cj];by_cases di:l<i/\i<=k
     .rw[if_pos di,if_pos ⟨(),()⟩]
      exact h (i-1) (j-1) () ()
     .rw[if_neg di];by_cases dj:l<j/\j<=k
      .rw[if_pos dj];exact h i (j-1) () ()
      .rw[if_neg dj];exact h i j gx ()
  obtain⟨a1,a2⟩:=Gr f (bubble p k (k-l)) (k+1) A' (by rw[bubble_size];lia)
  exact⟨a1.trans (bubble_perm _ _ _),by rw[show k+(f+1)=k+1+f by lia];exact a2⟩
structure Fall (lt:Nat->Nat->Bool)(p:Array Nat)(n q:Nat):Prop where
 pos:q+1<=n
 dsc:rZ lt p n
 eq:∀ i j,n-(q+1)<=i->i<n->n-(q+1)<=j->j<n->lt (at' p i) (at' p j)=ah
theorem Fall.rev{q:Nat}(F:Fall lt p n q)(hz:n<=p.size):Fall lt (kas_rev p (n-(q+1)) n) n q:=by
 have hp:=F.pos;refine⟨hp,λi j gx hj=>?_,λi j a b c d=>?_⟩
 .rw[mG hz,mG hz];by_cases ci:n-(q+1)<=i/\i<n
  .rw[if_pos ci,if_pos ⟨(),hj⟩]
   exact F.eq _ _ () () () ()
  .rw[if_neg ci];by_cases cj:n-(q+1)<=j/\j<n
   .rw[if_pos cj];exact F.dsc _ _ () ()
   .rw[if_neg cj];exact F.dsc i j gx hj
 .rw[mG hz,mG hz,if_pos ⟨a,b⟩,if_pos ⟨c,d⟩];exact F.eq _ _ () () () ()
theorem EE:∀ (f:Nat) (p:Array Nat) (n q:Nat),Fall lt p n q->n+f<=p.size->(bf lt (kas_desc f p n q)).1.Perm p/\n<=(bf lt (kas_desc f p n q)).2.1/\(bf lt (kas_desc f p n q)).2.1<=n+f/\Fall lt (bf lt (kas_desc f p n q)).1 (bf lt (kas_desc f p n q)).2.1 (bf lt (kas_desc f p n q)).2.2
 |0,p,n,q,F,_=>⟨GO _,bB _,bB _,F⟩
 |f+1,p,n,q,F,hz=>by
  have hp:=F.pos;have e:bf lt (kas_desc (f+1) p n q)=bf lt (if lt (at' p n) (at' p (n-1))=af then(if q > 0 then kas_desc f (kas_rev p (n-(q+1)) n) (n+1) 0 else kas_desc f p (n+1) 0) else KasT.ask (p.getD (n-1) 0) (p.getD n 0) λd=>if d=af then .ret (p,n,q) else kas_desc f p (n+1) (q+1)):=rfl
  rw[e];by_cases c:lt (at' p n) (at' p (n-1))=af
  .rw[if_pos c];by_cases hq:q > 0
   .rw[if_pos hq];have F':=F.rev O ()
    have hn:at' (kas_rev p (n-(q+1)) n) n=at' p n:=by rw[mG (),if_neg ()]
    have F2:Fall lt (kas_rev p (n-(q+1)) n) (n+1) 0:=by
     refine⟨(),yG O () F'.dsc ?_,λi j a b c' d=>?_⟩
     .rw[hn,mG (),if_pos ⟨(),()⟩]
      exact O.tr _ _ _ (O.asym _ _ c) (F.eq _ _ () () () ())
     .obtain rfl:i=n:=()
      obtain rfl:j=i:=()
      exact O.refl _
    obtain⟨a1,a2,a3,a4⟩:=EE f _ (n+1) 0 F2 (by rw[JT];lia)
    exact⟨a1.trans (rO _ _ _),(),(),a4⟩
   .rw[if_neg hq];have F2:Fall lt p (n+1) 0:=by
     refine⟨(),yG O () F.dsc (O.asym _ _ c),λi j a b c' d=>?_⟩
     obtain rfl:i=n:=()
     obtain rfl:j=i:=()
     exact O.refl _
    obtain⟨a1,a2,a3,a4⟩:=EE f _ (n+1) 0 F2 ()
    exact⟨a1,(),(),a4⟩
  .rw[if_neg c];have c':lt (at' p n) (at' p (n-1))=ah:=by simpa using c
   have e2:bf lt (KasT.ask (p.getD (n-1) 0) (p.getD n 0) λd=>if d=af then .ret (p,n,q) else kas_desc f p (n+1) (q+1))=bf lt (if lt (at' p (n-1)) (at' p n)=af then .ret (p,n,q) else kas_desc f p (n+1) (q+1)):=rfl
   rw[e2];by_cases d:lt (at' p (n-1)) (at' p n)=af
   .rw[if_pos d];exact⟨GO _,bB _,by show n<=n+(f+1);lia,F⟩
   .rw[if_neg d];have d':lt (at' p (n-1)) (at' p n)=ah:=by simpa using d
    have F2:Fall lt p (n+1) (q+1):=by
     refine⟨(),yG O () F.dsc d',λi j a b a' b'=>?_⟩
     by_cases ci:i=n
     .by_cases cj:j=n
      .rw[ci,cj];exact O.refl _
      .rw[ci];exact O.tr _ _ _ (F.eq (n-1) j () () () ()) c'
     .by_cases cj:j=n
      .rw[cj];exact O.tr _ _ _ d' (F.eq i (n-1) () () () ())
      .exact F.eq i j () () () ()
    obtain⟨a1,a2,a3,a4⟩:=EE f _ (n+1) (q+1) F2 ()
    exact⟨a1,(),(),a4⟩
end
section
variable {lt:Nat->Nat->Bool}(O:Ord lt)
include O
theorem Ra(h:rZ lt p n)(hz:n<=p.size):gP lt (kas_rev p 0 n) n:=λi j gx hj=>by
 rw[mG hz,mG hz,if_pos ⟨eG _,hj⟩,if_pos ⟨eG _,()⟩]
 exact h _ _ () ()
theorem YX(h1:1<=n)(hn:n<=m)(hz:m<=p.size)(h:rZ lt p n):(bf lt (kas_tail3 n m p)).2.Perm p/\(bf lt (kas_tail3 n m p)).1<=m/\1<=(bf lt (kas_tail3 n m p)).1/\gP lt (bf lt (kas_tail3 n m p)).2 (bf lt (kas_tail3 n m p)).1:=by
 unfold kas_tail3;rw[vM];obtain⟨a1,a2,a3,_⟩:=IH O (m-n) n h1 (Ra O h ())
 exact⟨rO _ _ _,by show bf lt (kas_asc (kas_rev p 0 n) (m-n) n)<=m;lia,by show 1<=bf lt (kas_asc (kas_rev p 0 n) (m-n) n);lia,a3⟩
theorem XJ(h1:1<=n)(hn:n+1<=m)(hz:m<=p.size)(h:rZ lt p (n+1)):(bf lt (kas_descPart n m p)).2.Perm p/\(bf lt (kas_descPart n m p)).1<=m/\1<=(bf lt (kas_descPart n m p)).1/\gP lt (bf lt (kas_descPart n m p)).2 (bf lt (kas_descPart n m p)).1:=by
 have F0:Fall lt p (n+1) 0:=⟨(),h,λi j a b c d=>by
  obtain rfl:i=n:=()
  obtain rfl:j=i:=()
  exact O.refl _⟩
 obtain⟨a1,a2,a3,a4⟩:=EE O (m-(n+1)) p (n+1) 0 F0 ()
 unfold kas_descPart;rw[vM];generalize bf lt (kas_desc (m-(n+1)) p (n+1) 0)=r at a1 a2 a3 a4;have hs:=a1.size_eq;split
 .have F':=a4.rev O ()
  obtain⟨b1,b2,b3,b4⟩:=YX O () () (by rw[JT];lia) F'.dsc (m:=m)
  exact⟨b1.trans ((rO _ _ _).trans a1),b2,b3,b4⟩
 .obtain⟨b1,b2,b3,b4⟩:=YX O () () () a4.dsc (m:=m)
  exact⟨b1.trans a1,b2,b3,b4⟩
theorem Ag(h1:1<=m)(hz:m<=p.size):(bf lt (kas_count m p)).2.Perm p/\(bf lt (kas_count m p)).1<=m/\1<=(bf lt (kas_count m p)).1/\gP lt (bf lt (kas_count m p)).2 (bf lt (kas_count m p)).1:=by
 obtain⟨a1,a2,a3,a4⟩:=IH O (m-1) 1 (bB _) (Ua O p);unfold kas_count;rw[vM];generalize bf lt (kas_asc p (m-1) 1)=n at a1 a2 a3 a4;by_cases c:(n==m)=af
 .rw[if_pos c];exact⟨GO _,by show n<=m;lia,a1,a3⟩
 .rw[if_neg c];have hnm:n≠m:=by simpa using c
  have hl:=a4 ()
  by_cases d:n > 1
  .rw[if_pos d];show(bf lt (if lt (at' p 0) (at' p (n-1))=af then KasT.ret (n,p) else kas_descPart n m (kas_rev p 0 n))).2.Perm p/\(bf lt (if lt (at' p 0) (at' p (n-1))=af then KasT.ret (n,p) else kas_descPart n m (kas_rev p 0 n))).1<=m/\1<=(bf lt (if lt (at' p 0) (at' p (n-1))=af then KasT.ret (n,p) else kas_descPart n m (kas_rev p 0 n))).1/\gP lt (bf lt (if lt (at' p 0) (at' p (n-1))=af then KasT.ret (n,p) else kas_descPart n m (kas_rev p 0 n))).2 (bf lt (if lt (at' p 0) (at' p (n-1))=af then KasT.ret (n,p) else kas_descPart n m (kas_rev p 0 n))).1
   by_cases e:lt (at' p 0) (at' p (n-1))=af
   .rw[if_pos e];exact⟨GO _,by show n<=m;lia,a1,a3⟩
   .rw[if_neg e];have e':lt (at' p 0) (at' p (n-1))=ah:=by simpa using e
    have same:∀ i j,i<n->j<n->lt (at' p i) (at' p j)=ah:=λi j hi hj=>
     O.tr _ (at' p 0) _ (O.tr _ _ _ (a3 j (n-1) () ()) e') (a3 0 i (eG _) hi)
    have D:rZ lt (kas_rev p 0 n) (n+1):=by
     refine yG O a1 (λi j gx hj=>?_) ?_
     .rw[mG (),mG (),if_pos ⟨eG _,()⟩,if_pos ⟨eG _,hj⟩]
      exact same _ _ () ()
     .rw[mG (),mG (),if_pos ⟨eG _,()⟩,if_neg ()]
      exact O.tr _ _ _ (O.asym _ _ hl) (same _ _ () ())
    obtain⟨b1,b2,b3,b4⟩:=XJ O a1 () (by rw[JT];exact hz) D (m:=m)
    exact⟨b1.trans (rO _ _ _),b2,b3,b4⟩
  .rw[if_neg d];obtain rfl:n=1:=()
   exact XJ O (bB _) () hz (yG O (bB _) (λi j gx hj=>by
    obtain rfl:j=0:=()
    obtain rfl:i=0:=()
    exact O.refl _) (O.asym _ _ hl))
theorem WR(h1:1<=n):(bf lt (kas_sort n)).Perm (iB (bW n))/\gP lt (bf lt (kas_sort n)) n:=by
 have hs:(iB (bW n)).size=n:=by simp
 obtain⟨a1,a2,a3,a4⟩:=Ag O h1 (by rw[hs];exact bB _)
 unfold kas_sort;rw[vM];generalize bf lt (kas_count n (iB (bW n)))=r at a1 a2 a3 a4;have hz:=a1.size_eq.trans hs;split
 .have em:max r.1 1=r.1:=()
  rw[em];obtain⟨b1,b2⟩:=Gr O (n-r.1) r.2 r.1 a4 ()
  exact⟨b1.trans a1,by rw[show r.1+(n-r.1)=n by lia] at b2;exact b2⟩
 .have:r.1=n:=()
  exact⟨a1,by rw[this] at a4;exact a4⟩
end
def gX {α:Type}(lt:Nat->Nat->Bool)(N:Nat):KasT α->Prop
 |.ret _=>True
 |.ask i j k=>(i<N/\j<N)/\gX lt N (k (lt i j))
theorem vT {α β:Type}{lt:Nat->Nat->Bool}{f:α->KasT β}:∀ {t:KasT α},gX lt N t->gX lt N (f (bf lt t))->gX lt N (t.bind f)
 |.ret _,_,h=>h
 |.ask i j k,h,h2=>⟨h.1,vT h.2 h2⟩
theorem TM {α:Type}{lt:Nat->Nat->Bool}{zm:Nat->Nat->(Bool->aH->Prop)->aH->Prop}(hc:∀ i j (C:Bool->aH->Prop),i<N->j<N->C (lt i j) s->zm i j C s){Q:α->aH->Prop}:∀ {t:KasT α},gX lt N t->Q (bf lt t) s->t.kasWp zm Q s
 |.ret _,_,h=>h
 |.ask i j k,h,q=>hc i j _ h.1.1 h.1.2 (TM hc h.2 q)
abbrev El (N:Nat)(p:Array Nat):Prop:=∀ x∈p,x<N
theorem El.at(h:El N p)(h0:0<N)(i:Nat):at' p i<N:=by
 rw[at_of];cases e:p[i]? with
 |none=>exact h0
 |some v=>exact h v (Array.mem_of_getElem? e)
theorem El.perm{q:Array Nat}(h:El N p)(x:q.Perm p):El N q:=λv m=>h v (x.mem_iff.1 m)
section
variable {lt:Nat->Nat->Bool}(h0:0<N)
include h0
theorem IA(h:El N p):∀ f n,gX lt N (kas_asc p f n)
 |0,_=>trivial
 |f+1,n=>by
  refine⟨⟨h.at h0 _,h.at h0 _⟩,?_⟩;show gX lt N (if lt (at' p n) (at' p (n-1))=af then KasT.ret n else kas_asc p f (n+1))
  by_cases c:lt (at' p n) (at' p (n-1))=af
  .rw[if_pos c];trivial
  .rw[if_neg c];exact IA h f (n+1)
theorem JU(h:El N p):∀ f l r,gX lt N (kas_place p k f l r)
 |0,_,_=>trivial
 |f+1,l,r=>by
  unfold kas_place;by_cases c:l ≥ r
  .rw[if_pos c];trivial
  .rw[if_neg c];refine⟨⟨h.at h0 _,h.at h0 _⟩,?_⟩;show gX lt N (if lt (at' p k) (at' p ((l+r)/2))=af then kas_place p k f l ((l+r)/2) else kas_place p k f ((l+r)/2+1) r)
   by_cases d:lt (at' p k) (at' p ((l+r)/2))=af
   .rw[if_pos d];exact JU h f _ _
   .rw[if_neg d];exact JU h f _ _
theorem VZ:∀ (f:Nat) (p:Array Nat) (k:Nat),El N p->gX lt N (kas_bin f p k)
 |0,_,_,_=>trivial
 |f+1,p,k,h=>vT (JU h0 h k 0 k) (VZ f _ _ (h.perm (bubble_perm _ _ _)))
theorem CN:∀ (f:Nat) (p:Array Nat) (n q:Nat),El N p->gX lt N (kas_desc f p n q)/\El N (bf lt (kas_desc f p n q)).1
 |0,_,_,_,h=>⟨trivial,h⟩
 |f+1,p,n,q,h=>by
  have e:bf lt (kas_desc (f+1) p n q)=bf lt (if lt (at' p n) (at' p (n-1))=af then(if q > 0 then kas_desc f (kas_rev p (n-(q+1)) n) (n+1) 0 else kas_desc f p (n+1) 0) else KasT.ask (p.getD (n-1) 0) (p.getD n 0) λd=>if d=af then .ret (p,n,q) else kas_desc f p (n+1) (q+1)):=rfl
  have g:gX lt N (kas_desc (f+1) p n q)↔(at' p n<N/\at' p (n-1)<N)/\gX lt N (if lt (at' p n) (at' p (n-1))=af then(if q > 0 then kas_desc f (kas_rev p (n-(q+1)) n) (n+1) 0 else kas_desc f p (n+1) 0) else KasT.ask (p.getD (n-1) 0) (p.getD n 0) λd=>if d=af then .ret (p,n,q) else kas_desc f p (n+1) (q+1)):=Iff.rfl
  rw[g,e];by_cases c:lt (at' p n) (at' p (n-1))=af
  .rw[if_pos c];by_cases hq:q > 0
   .rw[if_pos hq];obtain⟨a,b⟩:=CN f _ (n+1) 0 (h.perm (rO p (n-(q+1)) n));exact⟨⟨⟨h.at h0 _,h.at h0 _⟩,a⟩,b⟩
   .rw[if_neg hq];obtain⟨a,b⟩:=CN f _ (n+1) 0 h;exact⟨⟨⟨h.at h0 _,h.at h0 _⟩,a⟩,b⟩
  .rw[if_neg c];have e2:bf lt (KasT.ask (p.getD (n-1) 0) (p.getD n 0) λd=>if d=af then .ret (p,n,q) else kas_desc f p (n+1) (q+1))=bf lt (if lt (at' p (n-1)) (at' p n)=af then .ret (p,n,q) else kas_desc f p (n+1) (q+1)):=rfl
   have g2:gX lt N (KasT.ask (p.getD (n-1) 0) (p.getD n 0) λd=>if d=af then .ret (p,n,q) else kas_desc f p (n+1) (q+1))↔(at' p (n-1)<N/\at' p n<N)/\gX lt N (if lt (at' p (n-1)) (at' p n)=af then .ret (p,n,q) else kas_desc f p (n+1) (q+1)):=Iff.rfl
   rw[g2,e2];by_cases d:lt (at' p (n-1)) (at' p n)=af
   .rw[if_pos d];exact⟨⟨⟨h.at h0 _,h.at h0 _⟩,⟨h.at h0 _,h.at h0 _⟩,trivial⟩,h⟩
   .rw[if_neg d];obtain⟨a,b⟩:=CN f _ (n+1) (q+1) h;exact⟨⟨⟨h.at h0 _,h.at h0 _⟩,⟨h.at h0 _,h.at h0 _⟩,a⟩,b⟩
theorem Ht(n m:Nat)(h:El N p):gX lt N (kas_tail3 n m p):=vT (IA h0 (h.perm (rO _ _ _)) _ _) trivial
theorem Ff(n m:Nat)(h:El N p):gX lt N (kas_descPart n m p):=by
 obtain⟨a,b⟩:=CN h0 (m-(n+1)) p (n+1) 0 h;refine vT a ?_;split
 .exact Ht h0 _ _ (b.perm (rO _ _ _))
 .exact Ht h0 _ _ b
theorem A6(m:Nat)(h:El N p):gX lt N (kas_count m p):=by
 refine vT (IA h0 h _ _) ?_;generalize bf lt (kas_asc p (m-1) 1)=n;by_cases c:(n==m)=af
 .rw[if_pos c];trivial
 .rw[if_neg c];by_cases d:n > 1
  .rw[if_pos d];refine⟨⟨h.at h0 _,h.at h0 _⟩,?_⟩;show gX lt N (if lt (at' p 0) (at' p (n-1))=af then KasT.ret (n,p) else kas_descPart n m (kas_rev p 0 n))
   by_cases e:lt (at' p 0) (at' p (n-1))=af
   .rw[if_pos e];trivial
   .rw[if_neg e];exact Ff h0 _ _ (h.perm (rO _ _ _))
  .rw[if_neg d];exact Ff h0 _ _ h
end
theorem Uu {lt:Nat->Nat->Bool}(O:Ord lt)(h1:1<=n):gX lt n (kas_sort n):=by
 have hs:(iB (bW n)).size=n:=by simp
 have h:El n (iB (bW n)):=λx m=>by simpa using m
 refine vT (A6 () n h) ?_
 obtain⟨a1,_⟩:=Ag O h1 (by rw[hs];exact bB _)
 generalize bf lt (kas_count n (iB (bW n)))=r at a1;split
 .exact VZ () _ _ _ (h.perm a1)
 .trivial
theorem Ug {lt:Nat->Nat->Bool}(O:Ord lt)(h1:1<=n){zm:Nat->Nat->(Bool->aH->Prop)->aH->Prop}(hc:∀ i j (C:Bool->aH->Prop),i<n->j<n->C (lt i j) s->zm i j C s){G:Array Nat->aH->Prop}
  (h:∀ p:Array Nat,p.Perm (iB (bW n))->gP lt p n->G p s):(kas_sort n).kasWp zm G s:=
 TM hc (Uu O h1) (h _ (WR O h1).1 (WR O h1).2)
abbrev Kq (a:aC)(h h':aU):Prop:=∀ b o,b≠a->h.get? b=aa o->h'.get? b=aa o
abbrev mX (h:aU)(a:aC)(vs:aam):aU:=((h.update a (fM λ_=>#[])).push (fV "tuple" vs.toArray 0)).push (fV "list" #[] 0)
theorem Ge:Kq a h (mX h a vs):=λb o hb e=>
 bF _ (bF _ (((xG h a (fM λ_=>(#[]:Array aD))).2 b hb).trans e))
theorem Fk{κ:SortKind}{lt:Nat->Nat->Bool}{P:PZ->aH->Prop}(O:Ord lt)(ho:s.heap.get? a=aa (fV "list" vs.toArray n))(h2:2<=vs.length)(kj:vs.length<64)
  (hk:∀ (Q:SortKind->aH->Prop),Q κ { s with heap:=mX s.heap a vs }->aL (aP prog w) A (keyKind' vs.toArray) Q E { s with heap:=mX s.heap a vs })
  (hc:∀ i j (C:Bool->aH->Prop),i<vs.length->j<vs.length->C (lt i j) { s with heap:=mX s.heap a vs }->aL (aP prog w) A (keyLt' κ (vs.getD i eE) (vs.getD j eE)) C (λ_ _=>False) { s with heap:=mX s.heap a vs })
  (h:∀ p:Array Nat,p.Perm (iB (bW vs.length))->gP lt p vs.length->P (.done (.ret .none)) { s with heap:=sortedHeap s.heap a vs (iB (p.toList.map λi=>vs.getD i eE)) }) :
  aL (aP prog w) A (Builtin.«list.sort» ⟨[.ref a],[]⟩) P E s:=by
 have lz:vs.length<=sizeLine:=by rw[mL];lia
 have ha:=bM ho;obtain⟨e1,zn⟩:∃ e,(s.heap.update a (fM λ_=>(#[]:Array aD))).get? a=aa (fV "list" #[] e):=⟨_,get?_update_seq ho λ_=>#[]⟩
 have zo:(mX s.heap a vs).get? a=aa (fV "list" #[] e1):=bF _ (bF _ zn);rw[list_sort_plain];refine aG (listItems_at ho rfl (aG (listUpdate_at ho rfl (aG (seqEpoch_at zn rfl (aG (OR (aG (wH (eY ?_) (eG _))) (by simpa using lz))))) (by rw[dU];exact lz) (eG _))))
 rw[13];have big:¬ vs.toArray.size<2:=by rw[dU];lia
 rw[if_neg big,if_neg big];refine aG (hk _ ?_);have eS:SortSt.mk' κ (vs.toArray.zip vs.toArray) #[] 7 ab=kas_st κ (pairsOf vs) (iB (bW vs.length)):=by
  have e:=kas_range (pairsOf vs);rw[pairsOf_size] at e;unfold kas_st;rw[e]
  rfl
 have run:=kas_runs (E:=E) (Q:=λ_ fu s'=>s'={ s with heap:=mX s.heap a vs }/\∃ p:Array Nat,p.Perm (iB (bW vs.length))/\gP lt p vs.length/\arrOf fu=p.map (kas_item (pairsOf vs))/\failedOf fu=ab)
  (G:=λp s'=>s'={ s with heap:=mX s.heap a vs }/\p.Perm (iB (bW vs.length))/\gP lt p vs.length) h2 kj (λp' fu s' a1 a2 a3 ⟨b1,b2,b3⟩=>⟨b1,p',b2,b3,a2,a3⟩)
  (Ug O () (λi j C hi hj q=>by
   unfold kas_cmp;rw[kas_item_eq,kas_item_eq];exact hc i j C hi hj q) λp b1 b2=>⟨rfl,b1,b2⟩)
 rw[<-eS] at run;refine aG (kP run ?_ λ_ _ e=>e)
 rintro⟨⟨⟩,fu⟩ s' ⟨rfl,p,b1,b2,har,hf⟩;rw[13];have wv:(arrOf fu).map (·.2)=iB (p.toList.map λi=>vs.getD i eE):=by
  apply RN.1;rw[har,Array.map_map,Array.toList_map];exact jD λi _=>congrArg Prod.snd (kas_item_eq vs i)
 have hps:p.size=vs.length:=by
  have:=b1.size_eq;simpa using this
 have hsz:(iB (p.toList.map λi=>vs.getD i eE)).size<=sizeLine:=by
  grind
 rw[wv];refine aG (seqEpoch_at zo rfl (aG (listUpdate_at zo rfl ?_ (eG _) (Nat.le_succ_of_le hsz))));rw[hf];simp only[bne_self_eq_false,gV,if_false];exact aM (h p b1 b2)
theorem G8{κ:SortKind}{lt:Nat->Nat->Bool}(O:Ord lt)(hl:s.heap.IsList l vs.toArray)(h2:2<=vs.length)(kj:vs.length<64)
  (hk:∀ h',(∀ b o,s.heap.get? b=aa o->h'.get? b=aa o)->∀ (A':bP) (E':aD->aH->Prop) (R:SortKind->aH->Prop),R κ { s with heap:=h' }->aL (aP prog w) A' (keyKind' vs.toArray) R E' { s with heap:=h' })
  (hc:∀ h',(∀ b o,s.heap.get? b=aa o->h'.get? b=aa o)->∀ (A':bP),A'.units<=A.units+4->∀ i j (C:Bool->aH->Prop),i<vs.length->j<vs.length->C (lt i j) { s with heap:=h' }->aL (aP prog w) A' (keyLt' κ (vs.getD i eE) (vs.getD j eE)) C (λ_ _=>False) { s with heap:=h' })
  (h:∀ p:Array Nat,p.Perm (iB (bW vs.length))->gP lt p vs.length->Q (.ref (s.heap.objs.size+1)) { s with heap:=sortedAll s.heap vs (iB (p.toList.map λi=>vs.getD i eE)) }) :
  aL (aP prog w) A (call (.builtin "sorted") [.ref l]) Q E s:=by
 refine RG kind_sorted plain_sorted entry_sorted (args_sorted1 _) ?_;unfold Builtin.«sorted»;refine aG (aM (aG (collect_list hl (aG (wH ?_)))));have z:((s.heap.push (fV "list" #[] 0)).update s.heap.objs.size (fM (· ++ vs.toArray))).objs.size=s.heap.objs.size+1:=by rw[Heap.size_update,size_push']
 have je:(((s.heap.push (fV "list" #[] 0)).update s.heap.objs.size (fM (· ++ vs.toArray))).push (fV "list" vs.toArray 0)).get? (s.heap.objs.size+1)=aa (fV "list" vs.toArray 0):=z ▸ cI _ rfl;have kept:∀ b o,s.heap.get? b=aa o->(mX (((s.heap.push (fV "list" #[] 0)).update s.heap.objs.size (fM (· ++ vs.toArray))).push (fV "list" vs.toArray 0)) (s.heap.objs.size+1) vs).get? b=aa o:=λb o e=>by
  have hb:=bM e;refine Ge b o (λq=>?_) (bF _ (((xG _ s.heap.objs.size _).2 b (λq=>?_)).trans (bF _ e)))
  all_goals grind
 rw[z];refine aG (eY (fU PC ⟨_,je,rfl⟩ PK (Fk O je h2 kj (λR q=>hk _ kept _ _ R q) (λi j C hi hj q=>hc _ kept _ ?_ i j C hi hj q) λp b1 b2=>⟨_,rfl,?_⟩) (PR _)))
 .grind
 .exact aM ⟨_,rfl,h p b1 b2⟩
noncomputable def gW:aA->aal
 |.int i=>[0,i]
 |.str x=>1::x.cps.toList.map oX
 |_=>[2]
def cA (ks:aah):ga:=ks.map gW
theorem LG (a b:ga)(h:a<b):¬ b<a:=List.lt_asymm h
theorem Bc (a b c:ga)(h1:¬ b<a)(h2:¬ c<b):¬ c<a:=by
 have h1:=h1;have h2:=h2;exact List.le_trans h1 h2
theorem JP {e:aA}(h1:(∃ i,d=.int i)\/∃ x,d=.str x)(h2:(∃ i,e=.int i)\/∃ x,e=.str x)(h:gW d=gW e):d=e:=by
 rcases h1 with⟨i,rfl⟩|⟨x,rfl⟩<;>rcases h2 with⟨j,rfl⟩|⟨y,rfl⟩
 .simp[gW] at h;rw[h]
 .simp[gW] at h
 .simp[gW] at h
 .have h':x.cps.toList.map oX=y.cps.toList.map oX:=by simpa [gW] using h
  have:=(List.map_inj_right (λa b q=>Int.ofNat.inj q)).1 h'
  have:x=y:=by
   cases x;cases y;simp only at this;rw[RN.1 this]
  rw[this]
def SG (kss:lm)(i j:Nat):Bool:=decide (cA (kss.getD i [])<cA (kss.getD j []))
theorem WC (kss:lm):Ord (SG kss):=by
 refine⟨λa b h=>?_,λa b c h1 h2=>?_⟩
 .have:=LG _ _ (of_decide_eq_true h);exact decide_eq_false this
 .exact decide_eq_false (Bc _ _ _ (of_decide_eq_false h1) (of_decide_eq_false h2))
theorem Abj.tupK{ks:aah}(r:Abj K H (.tuple ks) v)(h1:bR ks=af)(h2:cU ks<=6):∃ a,v=.ref a/\Aqk H ks a:=by
 obtain⟨a,xs,e,s,r⟩:=Aap.1 r;exact⟨a,e,h1,h2,xs,s,Aak.keys ks h1 r⟩
noncomputable def iM:aah->Option lm
 |[]=>aa []
 |.tuple ks::r=>if bR ks=af/\cU ks<=6 then(iM r).bind λkss=>aa (ks::kss) else ab
 |_::_=>ab
def mD (aq:lm)(k:aah):lm:=if k∈aq then aq else aq++[k]
def hJ (kss:lm):lm:=kss.foldl mD []
theorem KB:∀ {ds:aah} {kss:lm},iM ds=aa kss->ds=kss.map dM/\∀ ks∈kss,bR ks=af/\cU ks<=6
 |[],kss,h=>by cases h;exact⟨rfl,λ_ m=>by simp at m⟩
 |.tuple ks::r,kss,h=>by
  by_cases c:bR ks=af/\cU ks<=6
  .have h':((iM r).bind λkss=>aa (ks::kss))=aa kss:=by
    have:(if bR ks=af/\cU ks<=6 then(iM r).bind λkss=>aa (ks::kss) else ab)=aa kss:=h
    grind
   obtain⟨k2,e1,e2⟩:=ao h';cases e2;obtain⟨q1,q2⟩:=KB e1
   grind
  .have:(if bR ks=af/\cU ks<=6 then(iM r).bind λkss=>aa (ks::kss) else ab)=aa kss:=h
   grind
 |.none::_,_,h=>by cases h
 |.bool _::_,_,h=>by cases h
 |.int _::_,_,h=>by cases h
 |.str _::_,_,h=>by cases h
 |.list _::_,_,h=>by cases h
 |.dict _::_,_,h=>by cases h
open PySem PySem.Spec PySem.W PyProof.Rows
noncomputable def eI:aah->aah->Bool
 |[],[]=>af
 |.int _::r,.int _::r'=>eI r r'
 |.str _::r,.str _::r'=>eI r r'
 |_,_=>ah
theorem yH (i j:Int)(r r':aah):(cA (.int i::r)<cA (.int j::r'))↔i<j\/i=j/\cA r<cA r':=by
 show(gW (.int i)::cA r<gW (.int j)::cA r')↔_;rw[AR];simp[gW,AR]
theorem map_lt (xs ys:aar):(xs.map oX<ys.map oX)↔xs<ys:=by
 induction xs generalizing ys with
 |nil=>cases ys<;>simp
 |cons x r ih=>
  cases ys with
  |nil=>simp
  |cons y r'=>
   rw[cW,cW,AR,AR,ih];have h1:(oX x<oX y)↔x<y:=Int.ofNat_lt;have h2:(oX x=oX y)↔x=y:=⟨λe=>Int.ofNat.inj e,λe=>by rw[e]⟩
   rw[h1,h2]
theorem CI (x y:aE)(r r':aah):(cA (.str x::r)<cA (.str y::r'))↔x.cps.toList<y.cps.toList\/x=y/\cA r<cA r':=by
 show(gW (.str x)::cA r<gW (.str y)::cA r')↔_;rw[AR];have h1:(gW (.str x)<gW (.str y))↔x.cps.toList<y.cps.toList:=by
  show((1:Int)::x.cps.toList.map oX<(1:Int)::y.cps.toList.map oX)↔_;rw[AR,map_lt];simp
 have h2:(gW (.str x)=gW (.str y))↔x=y:=⟨λe=>by
  have:=JP (.inr ⟨x,rfl⟩) (.inr ⟨y,rfl⟩) e;injection this,λe=>by rw[e]⟩
 rw[h1,h2]
section
variable {Q:Bool->aH->Prop}
theorem BU:∀ (ks fy:aah) {vs zp:aam} {as on:aan} (i:Nat),eI ks fy=af->lM s.heap vs ks as->lM s.heap zp fy on->Q (decide (cA ks<cA fy)) s->KatLex prog w A b ah Q (vs.zip zp) i s
 |[],[],vs,zp,as,on,i,_,r,r',h=>by
  cases r;cases r';exact kat_nil h
 |.int x::ks,.int y::fy,vs,zp,as,on,i,hs,r,r',h=>by
  cases r with
  |cons r1 r2=>
   cases r' with
   |cons rh xu=>
    cases r1 with
    |int _ t=>
     cases rh with
     |int _ u=>
      rw[QO];refine kat_cons ((fF prog w).eqBool (zM _ _ x t) (zM _ _ y u) ?_);refine kat_go (λe=>kat_yes ?_) λe=>kat_no ?_
      .have e':x=y:=by simpa using e
       subst e';refine BU ks fy (i+1) (by simpa [eI] using hs) r2 xu ?_
       have:decide (cA (.int x::ks)<cA (.int x::fy))=decide (cA ks<cA fy):=decide_eq_decide.2 (by rw[yH];simp)
       rw[<-this];exact h
      .have e':x≠y:=by simpa using e
       have:decide (cA (.int x::ks)<cA (.int y::fy))=decide (x<y):=decide_eq_decide.2 (by rw[yH];simp[e'])
       rw[this] at h;cases(b&&i==0) with
       |true=>exact oneLt_int h
       |false=>exact kat_one _ _ (lt_int h)
 |.str x::ks,.str y::fy,vs,zp,as,on,i,hs,r,r',h=>by
  cases r with
  |cons r1 r2=>
   cases r' with
   |cons rh xu=>
    cases r1 with
    |str _ t=>
     cases rh with
     |str _ u=>
      rw[QO];refine kat_cons ((fF prog w).eqBool (zR _ _ x t) (zR _ _ y u) ?_);refine kat_go (λe=>kat_yes ?_) λe=>kat_no ?_
      .have e':x=y:=by simpa using e
       subst e';refine BU ks fy (i+1) (by simpa [eI] using hs) r2 xu ?_
       have:decide (cA (.str x::ks)<cA (.str x::fy))=decide (cA ks<cA fy):=decide_eq_decide.2 (by rw[CI];simp[Js])
       rw[<-this];exact h
      .have e':x≠y:=by simpa using e
       have:decide (cA (.str x::ks)<cA (.str y::fy))=decide (x.cps.toList<y.cps.toList):=decide_eq_decide.2 (by rw[CI];simp[e'])
       rw[this] at h;cases(b&&i==0) with
       |true=>exact oneLt_str h
       |false=>exact kat_one _ _ (lt_str h)
end
def kK:aah->Option String
 |.int _::_=>aa "int"
 |.str _::_=>aa "str"
 |_=>ab
theorem q9 {M:Model}{k:aah}{b:aC}(hd:Abn h k b)(hk:kK k=aa T) :
  ∃ o xs n f,h.get? b=aa o/\o.cls=.type "tuple" /\ o.data=.seq xs n/\xs[0]?=aa f/\Looks M h (typeOf f) (.type T):=by
 obtain⟨_,_,as,r⟩:=hd;obtain⟨a,o,xs,n,e,ho,hc,hd,hi⟩:=lH r;cases e
 match k,hk,hi with
 |.int i::r,hk,hi=>
  cases hk;generalize hx:xs.toList=l at hi;cases hi with
  |cons h1 _=>
   cases h1 with
   |int _ t=>exact⟨o,xs,n,.int i t,ho,hc,hd,by rw[<-oY,hx];rfl,Looks.of_pure rfl⟩
 |.str x::r,hk,hi=>
  cases hk;generalize hx:xs.toList=l at hi;cases hi with
  |cons h1 _=>
   cases h1 with
   |str _ t=>exact⟨o,xs,n,.str x t,ho,hc,hd,by rw[<-oY,hx];rfl,Looks.of_pure rfl⟩
abbrev Ae7 (h:aU)(vs:aam)(kss:lm):Prop:=dG (λv k=>∃ b,v=eJ b/\Abn h k b) vs kss
theorem LF {M:Model}{h:aU}{T:String}:∀ {vs:aam} {kss:lm},Ae7 h vs kss->(∀ k∈kss,kK k=aa T)->∃ fs,KatTups h vs fs/\fs.length=vs.length/\∀ f∈fs,Looks M h (typeOf f) (.type T)
 |_,_,.nil,_=>⟨[],KatTups.nil,rfl,λ_ m=>by simp at m⟩
 |_,_,.cons ⟨b,e,hd⟩ t,hk=>by
  obtain⟨fs,h1,h2,h3⟩:=LF (M:=M) t λk m=>hk k (bL _ m)
  obtain⟨o,xs,n,f,q1,q2,q3,q4,q5⟩:=q9 (M:=M) hd (hk _ bE);subst e;refine⟨f::fs,KatTups.cons q1 q2 q3 q4 h1,by rw[fA,fA,h2],λg m=>?_⟩
  rw[10]
  .exact q5
  .exact h3 g m
theorem Ae7.get:∀ {vs:aam} {kss:lm},Ae7 h vs kss->∀ i,i<vs.length->∃ b,vs.getD i eE=.ref b/\Abn h (kss.getD i []) b/\kss.getD i []∈kss
 |_,_,.nil,i,hi=>absurd hi (by simp)
 |_,_,.cons ⟨b,e,hd⟩ t,0,_=>⟨b,e,hd,bE⟩
 |_,_,.cons _ t,i+1,hi=>by
  obtain⟨b,q1,q2,q3⟩:=Ae7.get t i (by simpa using hi)
  exact⟨b,by simpa using q1,by simpa using q2,by simpa using bL _ q3⟩
theorem Ae7.keep(k:∀ b o,h.get? b=aa o->h'.get? b=aa o):∀ {vs:aam} {kss:lm},Ae7 h vs kss->Ae7 h' vs kss
 |_,_,.nil=>.nil
 |_,_,.cons ⟨b,e,hd⟩ t=>.cons ⟨b,e,hd.keep λb o _ _ q _ _=>k b o q⟩ (Ae7.keep k t)
theorem yZ:∀ {k k':aah},eI k k'=af->k.length=k'.length
 |[],[],_=>rfl
 |.int _::r,.int _::r',h=>by rw[fA,fA,yZ (by simpa [eI] using h)]
 |.str _::r,.str _::r',h=>by rw[fA,fA,yZ (by simpa [eI] using h)]
theorem tR:∀ {vs:aam} {ks:aah} {as:aan},lM h vs ks as->vs.length=ks.length
 |_,_,_,.nil=>rfl
 |_,_,_,.cons _ t=>by rw[fA,fA,tR t]
theorem Zc(hl:s.heap.IsList l vs.toArray)(ht:Ae7 s.heap vs kss)(hT:T = "int" \/ T = "str")(hk:∀ k∈kss,kK k=aa T)(hs:∀ k∈kss,∀ k'∈kss,eI k k'=af)(h2:2<=vs.length)(kj:vs.length<64)
  (h:∀ p:Array Nat,p.Perm (iB (bW vs.length))->gP (SG kss) p vs.length->Q (.ref (s.heap.objs.size+1)) { s with heap:=sortedAll s.heap vs (iB (p.toList.map λi=>vs.getD i eE)) }) :
  aL (aP prog w) A (call (.builtin "sorted") [.ref l]) Q E s:=by
 refine G8 (κ:=tuples' (kE T != kE "tuple")) (WC kss) hl h2 kj (λh' kp A' E' R q=>?_) (λh' kp A' _ i j C hi hj q=>?_) h
 .obtain⟨fs,f1,f2,f3⟩:=LF (M:=aP prog w) (ht.keep kp) hk;exact kat_kind (s:={ s with heap:=h' }) f1 () f3 (by rcases hT with rfl|rfl<;>decide) q
 .have xv:=ht.keep kp;obtain⟨b,e1,⟨_,_,as,r1⟩,m1⟩:=xv.get i hi;obtain⟨b',e2,⟨_,_,on,r2⟩,m2⟩:=xv.get j hj;rw[e1,e2];obtain⟨_,o,xs,n,z,ho,_,hd,hr⟩:=lH r1;cases z;obtain⟨_,o',gg,n',z,mn,_,jw,uz⟩:=lH r2;cases z;have ww:=hs _ m1 _ m2;have l1:=tR hr;have l2:=tR uz;have ll:=yZ ww;have:decide (xs.size<gg.size)=ah:=decide_eq_false (by simp only[jU] at l1 l2;lia)
  refine kat_lt (s:={ s with heap:=h' }) ho hd mn jw ?_;rw[this];exact BU _ _ 0 ww hr uz q
theorem WV{P:PZ->aH->Prop}(ho:s.heap.get? a=aa (fV "list" vs.toArray n))(h2:vs.length<2)(h:P (.done (.ret .none)) { s with heap:=sortedHeap s.heap a vs vs.toArray }) :
  aL (aP prog w) A (Builtin.«list.sort» ⟨[.ref a],[]⟩) P E s:=by
 have lz:vs.length<=sizeLine:=by rw[mL];lia
 obtain⟨e1,zn⟩:∃ e,(s.heap.update a (fM λ_=>(#[]:Array aD))).get? a=aa (fV "list" #[] e):=⟨_,get?_update_seq ho λ_=>#[]⟩
 have zo:(mX s.heap a vs).get? a=aa (fV "list" #[] e1):=bF _ (bF _ zn);rw[list_sort_plain];refine aG (listItems_at ho rfl (aG (listUpdate_at ho rfl (aG (seqEpoch_at zn rfl (aG (OR (aG (wH (eY ?_) (eG _))) (by simpa using lz))))) (by rw[dU];exact lz) (eG _))))
 rw[13];have few:vs.toArray.size<2:=by rw[dU];exact h2
 rw[if_pos few,if_pos few];refine aG (aM ?_);rw[StateT.run_pure];refine aG (aM ?_);rw[13];have wv:(arrOf (SortSt.mk' general' (vs.toArray.zip vs.toArray) #[] 7 ab)).map (·.2)=vs.toArray:=by
  apply RN.1;have:∀ l:aam,List.map (λx=>x.snd) (l.zip l)=l:=λl=>by
   induction l with
   |nil=>rfl
   |cons a l ih=>rw[QO,cW,ih]
  simpa using this vs
 rw[wv];refine aG (seqEpoch_at zo rfl (aG (listUpdate_at zo rfl ?_ (eG _) (Nat.le_succ_of_le (by rw[dU];exact lz)))))
 simp only[bne_self_eq_false,gV,if_false];exact aM h
theorem Yj(hl:s.heap.IsList l vs.toArray)(h2:vs.length<2)(h:Q (.ref (s.heap.objs.size+1)) { s with heap:=sortedAll s.heap vs vs.toArray }) :
  aL (aP prog w) A (call (.builtin "sorted") [.ref l]) Q E s:=by
 refine RG kind_sorted plain_sorted entry_sorted (args_sorted1 _) ?_;unfold Builtin.«sorted»;refine aG (aM (aG (collect_list hl (aG (wH ?_)))));have z:((s.heap.push (fV "list" #[] 0)).update s.heap.objs.size (fM (· ++ vs.toArray))).objs.size=s.heap.objs.size+1:=by rw[Heap.size_update,size_push']
 have je:(((s.heap.push (fV "list" #[] 0)).update s.heap.objs.size (fM (· ++ vs.toArray))).push (fV "list" vs.toArray 0)).get? (s.heap.objs.size+1)=aa (fV "list" vs.toArray 0):=z ▸ cI _ rfl;rw[z];refine aG (eY (fU PC ⟨_,je,rfl⟩ PK (WV je h2 ⟨_,rfl,?_⟩) (PR _)));exact aM ⟨_,rfl,h⟩
theorem IP:∀ {a b:aah},eI a b=af->cA a=cA b->a=b
 |[],[],_,_=>rfl
 |.int i::r,.int j::r',h,e=>by
  have h':eI r r'=af:=by simpa [eI] using h
  have e':gW (.int i)=gW (.int j)/\cA r=cA r':=by simpa [cA] using e
  rw[JP (.inl ⟨i,rfl⟩) (.inl ⟨j,rfl⟩) e'.1,IP h' e'.2]
 |.str x::r,.str y::r',h,e=>by
  have h':eI r r'=af:=by simpa [eI] using h
  have e':gW (.str x)=gW (.str y)/\cA r=cA r':=by simpa [cA] using e
  rw[JP (.inr ⟨x,rfl⟩) (.inr ⟨y,rfl⟩) e'.1,IP h' e'.2]
def leT (a b:aah):Bool:=!decide (cA b<cA a)
theorem Afw {a b:aah}:leT a b=af ↔ ¬ cA b<cA a:=by simp[leT]
theorem K0 (a b c:aah)(h1:leT a b=af)(h2:leT b c=af):leT a c=af:=Afw.2 (Bc _ _ _ (Afw.1 h1) (Afw.1 h2))
theorem K2 (a b:aah):(leT a b||leT b a)=af:=by
 by_cases h:cA b<cA a
 .have:=LG _ _ h;simp[leT,h,this]
 .simp[leT,h]
theorem Wi {a b:aah}(hs:eI a b=af)(h1:leT a b=af)(h2:leT b a=af):a=b:=by
 have h1:=Afw.1 h1;have h2:=Afw.1 h2;exact IP hs (List.le_antisymm h1 h2)
def iD (kss:lm):lm:=kss.mergeSort leT
def sameAll (kss:lm):Bool:=kss.all λk=>kss.all λk'=>eI k k'
def gu (kss:lm):Bool:=decide (kss.length<2)||(sameAll kss&&kss.all λk=>(kK k).isSome)
theorem tQ (kss:lm):(iD kss).Perm kss:=List.mergeSort_perm kss leT
theorem MY (kss:lm):(iD kss).Pairwise λa b=>leT a b=af:=List.pairwise_mergeSort K0 K2 kss
theorem yW(hs:gu kss=af)(hp:qs.Perm kss)(hr:qs.Pairwise λa b=>leT a b=af):qs=iD kss:=by
 have fm:=hp.trans (tQ kss).symm;by_cases h2:kss.length<2
 .have l1:qs.length<2:=by rw[hp.length_eq];exact h2
  match qs,l1,fm with
  |[],_,fm=>exact(List.nil_perm.1 fm).symm
  |[q],_,fm=>exact List.singleton_perm.1 fm
 .have yy:sameAll kss=af:=by
   have:(sameAll kss&&kss.all λk=>(kK k).isSome)=af:=by simpa [gu,h2] using hs
   exact(iI.1 this).1
  refine N4 (λa b ma mb h1 h2=>Wi ?_ h1 h2) hr (MY kss) fm
  have ma':=hp.mem_iff.1 ma;have mb':=(tQ kss).mem_iff.1 mb;exact cY.1 (cY.1 yy a ma') b mb'
theorem same_kind:∀ {k k':aah},eI k k'=af->kK k=kK k'
 |[],[],_=>rfl
 |.int _::_,.int _::_,_=>rfl
 |.str _::_,.str _::_,_=>rfl
theorem Fo {k:aah}(h:kK k=aa T):T = "int" \/ T = "str":=by
 unfold kK at h;split at h
 .cases h;exact .inl rfl
 .cases h;exact .inr rfl
 .cases h
theorem Xz(hl:s.heap.IsList l vs.toArray)(ht:Ae7 s.heap vs kss)(ok:gu kss=af)(kj:vs.length<64)
  (h:∀ p:aar,p.Perm (bW vs.length)->p.map (λi=>kss.getD i [])=iD kss->Q (.ref (s.heap.objs.size+1)) { s with heap:=sortedAll s.heap vs (iB (p.map λi=>vs.getD i eE)) }) :
  aL (aP prog w) A (call (.builtin "sorted") [.ref l]) Q E s:=by
 have ln:=lQ ht;have V2:∀ {α:Type} (xs:List α) (d:α),(bW xs.length).map (λi=>xs.getD i d)=xs:=λxs d=>by
  apply GH
  .simp
  .intro i h1 h2;simp at h1;simp[h1]
 by_cases h2:vs.length<2
 .refine Yj hl h2 ?_;have:=h (bW vs.length) (QY _) (by
   rw[ln,V2 kss];refine yW ok (QY _) ?_
   match kss,ln with
   |[],_=>exact .nil
   |[k],_=>simp
   | _::_::_,ln=>simp at ln;lia)
  rw[V2 vs] at this;exact this
 .have hs:sameAll kss=af/\(kss.all λk=>(kK k).isSome)=af:=by
   have xl:¬ kss.length<2:=()
   have:(sameAll kss&&kss.all λk=>(kK k).isSome)=af:=by simpa [gu,xl] using ok
   exact iI.1 this
  obtain⟨k0,m0⟩:∃ k0,k0∈kss:=by
   cases hk:kss with
   |nil=>rw[hk] at ln;exact absurd ln (by simp;intro e;rw[e] at h2;simp at h2)
   |cons k r=>exact⟨k,bE⟩
  obtain⟨T,hT⟩:=uG.1 (cY.1 hs.2 k0 m0);have sm:∀ k∈kss,∀ k'∈kss,eI k k'=af:=λk m k' m'=>cY.1 (cY.1 hs.1 k m) k' m'
  refine Zc hl ht (Fo hT) (λk m=>(same_kind (sm k m k0 m0)).trans hT) sm () kj λp hp ha=>?_
  have fm:p.toList.Perm (bW vs.length):=by simpa using N8.1 hp
  have pl:p.toList.length=vs.length:=by rw[fm.length_eq,xC]
  refine h p.toList fm (yW ok ?_ ?_)
  .have:=fm.map (λi=>kss.getD i [])
   rw[ln,V2 kss] at this;exact this
  .rw[wZ,GB];intro i j hi hj gx;refine Afw.2 ?_;have:=ha i j (qI gx) ()
   have e1:at' p i=p.toList[i]:=by simp at hi;simp[at',hi]
   have e2:at' p j=p.toList[j]:=by simp at hj;simp[at',hj]
   rw[e1,e2] at this;exact of_decide_eq_false this
abbrev vC (H:Hp)(ys:aai)(kss:lm):Prop:=dG (λy k=>∃ b,y=V.ref b/\Aqk H k b) ys kss
theorem KD:∀ {kss:lm} {ys:aai},(∀ ks∈kss,bR ks=af/\cU ks<=6)->Aak K H (kss.map dM) ys->vC H ys kss
 |[],ys,_,r=>by rw[Aai.1 r];exact .nil
 |k::kss,ys,hk,r=>by
  obtain⟨v,t,rfl,r1,r2⟩:=Aae.1 r;obtain⟨b,rfl,tk⟩:=r1.tupK (hk k bE).1 (hk k bE).2;exact .cons ⟨b,rfl,tk⟩ (KD (λx m=>hk x (bL _ m)) r2)
theorem YH(x:∀ c zs,H c=aa (.tup zs)->H' c=aa (.tup zs)):∀ {ys:aai} {kss:lm},vC H ys kss->vC H' ys kss
 |_,_,.nil=>.nil
 |_,_,.cons ⟨b,e,tk⟩ t=>.cons ⟨b,e,tk.keep x⟩ (YH x t)
theorem IS {P:bJ}(ok:HOk P w H h):∀ {ys:aai} {kss:lm} {vs:aam},vC H ys kss->Vals ys vs->Ae7 h vs kss
 |_,_,_,.nil,.nil=>.nil
 |_,_,_,.cons ⟨b,e,tk⟩ t,.cons r rr=>by
  subst e;cases r;exact .cons ⟨b,rfl,key_of ok tk⟩ (IS ok t rr)
def sQ (p:aar)(ys:aai):aai:=p.map λi=>ys.getD i .non
theorem LO:∀ {ys:aai} {vs:aam} (i:Nat),Vals ys vs->i<ys.length->RelV (ys.getD i .non) (vs.getD i eE)
 |_,_,0,.cons r _,_=>r
 |_,_,i+1,.cons _ t,h=>LO i t (by simpa using h)
theorem Az(r:Vals ys vs):∀ p:aar,(∀ i∈p,i<ys.length)->Vals (sQ p ys) (p.map λi=>vs.getD i eE)
 |[],_=>.nil
 |i::p,h=>.cons (LO i r (h i bE)) (Az r p λj m=>h j (bL _ m))
theorem Dz:Acm X (.builtin "sorted") (λxs H Q=>∃ p ys kss,xs=[.ref p]/\SqL X.K H p ys/\vC H ys kss/\gu kss=af/\kss.length<64 /\
  ∀ l q,H l=ab->q.Perm (bW ys.length)->q.map (λi=>kss.getD i [])=iD kss->Q (.ref l) (upd H l (.lst (sQ q ys)))):=by
 rw[4];obtain⟨p,ys,kss,rfl,hp,rf,ok,hl,q⟩:=h;obtain⟨u,rfl,ru⟩:=vals1 r;cases ru;obtain⟨its,rv,pl,hz⟩:=I.list hp;have e1:=rv.length;have e2:=lQ rf;refine Xz pl.isList (IS I.hok rf rv) ok () λq' fm hs=>?_
 have hq:∀ i∈q',i<ys.length:=λi m=>by
  have:=eR.1 (fm.mem_iff.1 m)
  lia
 obtain⟨e,he⟩:=sortedAll_at s.heap its (iB (q'.map λi=>its.getD i eE))
 have hn:=I.hok.fresh (AL _);have lz:(sQ q' ys).length<=sizeLine:=by
  unfold sQ;rw[cJ,fm.length_eq,xC]
  lia
 exact⟨.ref (s.heap.objs.size+1),_,I.laid (t':=s.toks) (o:=.lst (sQ q' ys)) (λb ob g=>sortedAll_old g) (AL _) ⟨lz,_,e,Az rv q' hq,he⟩,rfl,q _ q' hn (by rw[e1];exact fm) hs⟩
def vK:aah->aaj
 |[.list ds]=>(iM ds).bind λkss=>if gu kss=af/\kss.length<64 then aa (.list ((iD kss).map dM)) else ab
 |_=>ab
theorem Ao:∀ {kss:lm} {ys:aai} (i:Nat),Aak K H (kss.map dM) ys->i<ys.length->Abj K H (.tuple (kss.getD i [])) (ys.getD i .non)
 |[],ys,i,r,h=>by rw[Aai.1 r] at h;simp at h
 |k::kss,ys,0,r,h=>by
  obtain⟨v,t,rfl,r1,r2⟩:=Aae.1 r;exact r1
 |k::kss,ys,i+1,r,h=>by
  obtain⟨v,t,rfl,r1,r2⟩:=Aae.1 r;exact Ao i r2 (by simpa using h)
theorem ZJ(r:Aak K H (kss.map dM) ys):∀ p:aar,(∀ i∈p,i<ys.length)->Aak K H ((p.map λi=>kss.getD i []).map dM) (sQ p ys)
 |[],_=>Aai.2 rfl
 |i::p,h=>Aae.2 ⟨_,_,rfl,Ao i r (h i bE),ZJ r p λj m=>h j (bL _ m)⟩
theorem Cz:CallD K 1 (λxs H Q=>∃ p ys kss,xs=[.ref p]/\SqL K H p ys/\vC H ys kss/\gu kss=af/\kss.length<64 /\
  ∀ l q,H l=ab->q.Perm (bW ys.length)->q.map (λi=>kss.getD i [])=iD kss->Q (.ref l) (upd H l (.lst (sQ q ys)))) vK:=λP H xs ds d Q hP r e k=>by
 unfold vK at e;split at e
 .obtain⟨kss,e1,e2⟩:=ao e;obtain⟨⟨ok,hl⟩,rfl⟩:=cL e2;obtain⟨rfl,hk⟩:=KB e1;obtain⟨v,rfl,r'⟩:=fK r;obtain⟨q,ys,rfl,hq,rr⟩:=Aa8.1 r';refine⟨q,ys,kss,rfl,Aal.sqL hq,?_,ok,hl,λl p hn hp hs=>?_⟩
  .exact YH (λc zs g=>Aal _ _ g) (KD hk rr)
  .have hi:∀ i∈p,i<ys.length:=λi m=>eR.1 (hp.mem_iff.1 m)
   have:=ZJ rr p hi;rw[hs] at this;exact k.lst hP hn this
 .cases e
theorem SW:∀ {ns:aal} {vs:aam},Vals (ns.map V.int) vs->IntsAre vs ns
 |[],_,.nil=>.nil
 |n::ns,_,.cons ⟨t,e⟩ r=>by
  subst e;exact .cons n t (SW r)
def pC:aah->Option aal
 |[]=>aa []
 |.int i::r=>(pC r).bind λis=>aa (i::is)
 |_::_=>ab
theorem Hc:∀ {ds:aah} {is:aal},pC ds=aa is->ds=is.map aT
 |[],is,e=>by cases e;rfl
 |.int i::ds,is,e=>by
  obtain⟨is',e1,e2⟩:=ao (show((pC ds).bind λis=>aa (i::is))=aa is from e)
  cases e2;rw[Hc e1]
  rfl
 |.none::_,_,e=>by cases e
 |.bool _::_,_,e=>by cases e
 |.str _::_,_,e=>by cases e
 |.list _::_,_,e=>by cases e
 |.tuple _::_,_,e=>by cases e
 |.dict _::_,_,e=>by cases e
theorem Dt:∀ {is:aal} {ys:aai},Aak K H (is.map aT) ys->ys=is.map V.int
 |[],ys,r=>Aai.1 r
 |i::is,ys,r=>by
  obtain⟨v,t,rfl,r1,r2⟩:=Aae.1 r;rw[Aah.1 r1,Dt r2]
  rfl
def sNo:SF:=λ_=>ab
theorem Nq{s:eK}:DS X H0 P0 n0 s sNo:=λac st Z H D I q=>by
 obtain⟨B0,Y,fp,o,S,ef,k⟩:=q;cases ef
open PySem PySem.SetTable
def mC (xs:Array Nat):Prop:=∀ a b u v:Nat,a<b->xs[a]?=aa u->xs[b]?=aa v->u<v
theorem KM {xs:Array Nat}(hr:mC xs):∀ fuel lo hi,hi<=xs.size->lo<=hi->hi-lo<=fuel->(∀ k<lo,∀ v,xs[k]?=aa v->v<j)->(∀ k,hi<=k->∀ v,xs[k]?=aa v->j<=v) ->
  below.go xs j fuel lo hi<=xs.size/\(∀ k<below.go xs j fuel lo hi,∀ v,xs[k]?=aa v->v<j)/\∀ k,below.go xs j fuel lo hi<=k->∀ v,xs[k]?=aa v->j<=v
 |0,lo,hi,h1,h2,h3,hl,hh=>by
  have:lo=hi:=()
  rw[12];unfold below.go;exact⟨h1,hl,hh⟩
 |fuel+1,lo,hi,h1,h2,h3,hl,hh=>by
  unfold below.go;by_cases c:lo<hi
  .rw[if_pos c];have hm:(lo+hi)/2<xs.size:=()
   have em:=mR hm;have eg:xs.getD ((lo+hi)/2) j=xs[(lo+hi)/2]:=by simp[Array.getD,hm]
   simp only[eg];by_cases d:xs[(lo+hi)/2]<j
   .rw[if_pos d];refine KM hr fuel _ _ h1 () () (λk hk v ev=>?_) hh
    by_cases q:k=(lo+hi)/2
    .subst q;rw[em] at ev;cases ev;exact d
    .have:=hr k ((lo+hi)/2) v _ () ev em
     lia
   .rw[if_neg d];refine KM hr fuel _ _ () () () hl (λk hk v ev=>?_)
    by_cases q:k=(lo+hi)/2
    .subst q;rw[em] at ev;cases ev;lia
    .have:=hr ((lo+hi)/2) k _ v () em ev
     lia
  all_goals grind
theorem EV {xs:Array Nat}(hr:mC xs)(j:Nat):below xs j<=xs.size/\(∀ k<below xs j,∀ v,xs[k]?=aa v->v<j)/\∀ k,below xs j<=k->∀ v,xs[k]?=aa v->j<=v:=
 KM hr xs.size 0 xs.size (bB _) (eG _) () (λk hk=>absurd hk ()) (λk hk v ev=>by
  have:=(uO.1 ev).1
  lia)
theorem below_at {xs:Array Nat}(hr:mC xs)(h:xs[i]?=aa j):below xs j=i:=by
 obtain⟨h1,h2,h3⟩:=EV hr j;rcases wX (below xs j) i with q|q|q
 .have hi:=(uO.1 h).1;have e:xs[below xs j]?=aa (xs[below xs j]'()):=mR ()
  have a:=h3 _ (bB _) _ e;have b:=hr _ _ _ _ q e h
  lia
 all_goals grind
theorem IE (j:Nat):has #[] j=ah:=by simp[has]
theorem EM(hd:t.dummies = #[])(hr:mC t.place):t.slot j=.live i↔t.place[i]?=aa j:=by
 unfold slot;rw[hd,IE];rw[13];constructor
 .grind
 .intro h;rw[below_at hr h,h];simp
theorem Yk(hd:t.dummies = #[])(hr:mC t.place)(h:∀ i:Nat,t.place[i]?≠aa j):t.slot j=.empty:=by
 unfold slot;rw[hd,IE]
 grind
noncomputable def jm (mask:Nat)(p:Probe):Probe:=if p.more > 0 then { p with j:=p.j+1,more:=p.more-1 } else
 { p with j:=(leap mask p.i p.perturb).1,more:=runEnd mask (leap mask p.i p.perturb).1-(leap mask p.i p.perturb).1,i:=(leap mask p.i p.perturb).1,perturb:=(leap mask p.i p.perturb).2 }
theorem MM (t:eM)(p:Probe):t.advance p=jm t.mask p:=by
 unfold advance jm
 rfl
def pN (mask:Nat)(p:Probe):Nat->Probe
 |0=>p
 |n+1=>jm mask (pN mask p n)
theorem NP (mask:Nat)(p:Probe)(a:Nat):∀ b,pN mask (pN mask p a) b=pN mask p (a+b)
 |0=>rfl
 |b+1=>by
  show jm mask (pN mask (pN mask p a) b)=jm mask (pN mask p (a+b));rw[NP mask p a b]
def lg (mask i bo:Nat):Probe:={ j:=i,more:=runEnd mask i-i,i,perturb:=bo,dummy:=ab }
theorem Nf (mask i:Nat):runEnd mask i-i<=9:=by
 unfold runEnd;split<;>lia
theorem JI (mask i bo:Nat):∀ k,k<=runEnd mask i-i->pN mask (lg mask i bo) k={ j:=i+k,more:=runEnd mask i-i-k,i,perturb:=bo,dummy:=ab }
 |0,_=>rfl
 |k+1,h=>by
  show jm mask (pN mask (lg mask i bo) k)=_;rw[JI mask i bo k ()]
  unfold jm
  grind
theorem YV (mask i bo:Nat):pN mask (lg mask i bo) (runEnd mask i-i+1)=lg mask (leap mask i bo).1 (leap mask i bo).2:=by
 show jm mask (pN mask (lg mask i bo) (runEnd mask i-i))=_;rw[JI mask i bo _ (bB _)];unfold jm;rw[if_neg (by show ¬ (runEnd mask i-i-(runEnd mask i-i) > 0);lia)]
 rfl
def lp (mask:Nat)(s:Nat×Nat):Nat->Nat×Nat
 |0=>s
 |m+1=>leap mask (lp mask s m).1 (lp mask s m).2
theorem YB (mask i bo:Nat):∀ m,∃ n,n<=10*m/\pN mask (lg mask i bo) n=lg mask (lp mask (i,bo) m).1 (lp mask (i,bo) m).2
 |0=>⟨0,(),rfl⟩
 |m+1=>by
  obtain⟨n,hn,e⟩:=YB mask i bo m;have b:=Nf mask (lp mask (i,bo) m).1;refine⟨n+(runEnd mask (lp mask (i,bo) m).1-(lp mask (i,bo) m).1+1),(),?_⟩
  rw[<-NP,e,YV]
  rfl
theorem UO (mask i bo:Nat):∀ m,(lp mask (i,bo) m).2=bo/32^m
 |0=>by simp[lp]
 |m+1=>by
  show(lp mask (i,bo) m).2/32=_;rw[UO mask i bo m,Nat.div_div_eq_div_mul,wW]
def xj (mask:Nat)(i:Nat):Nat->Nat
 |0=>i
 |m+1=>(xj mask i m*5+1)%(mask+1)
def oE (mask:Nat):Prop:=mask=7\/mask=31\/mask=127\/mask=511\/mask=2047\/mask=8191
def gN (x:Nat):Nat->Nat
 |0=>x
 |m+1=>gN x m*5+1
theorem VC (x a:Nat):∀ b,gN (gN x a) b=gN x (a+b)
 |0=>rfl
 |b+1=>by
  show gN (gN x a) b*5+1=gN x (a+b)*5+1;rw[VC x a b]
theorem UJ (x:Nat):∀ m,4*gN x m+1=5^m*(4*x+1)
 |0=>by simp[gN]
 |m+1=>by
  show 4*(gN x m*5+1)+1=5^(m+1)*(4*x+1);have:=UJ x m
  grind
theorem YI:∀ k,∃ q,5^2^k=1+2^k*(4*(2*q+1))
 |0=>⟨0,rfl⟩
 |k+1=>by
  obtain⟨q,e⟩:=YI k;refine⟨q+2^k*((2*q+1)*(2*q+1)),?_⟩;rw[wW 2 k,Nat.mul_comm (2^k) 2,Nat.two_mul,Nat.pow_add,e]
  grind
theorem Rx (x k:Nat):∃ q,gN x (2^k)=x+2^k*(2*q+1):=by
 obtain⟨q,e⟩:=YI k;have h:=UJ x (2^k);rw[e] at h;refine⟨q*(4*x+1)+2*x,?_⟩
 grind
theorem UF:∀ (k x e:Nat),∃ m,m<2^k/\gN x m%2^k=e%2^k
 |0,x,e=>⟨0,by simp,by simp[Nat.mod_one]⟩
 |k+1,x,e=>by
  obtain⟨m,hm,h⟩:=UF k x e;have hM:=Nat.two_pow_pos k;have sp:∀ y:Nat,y%2^(k+1)=y%2^k+2^k*(y/2^k%2):=λy=>by rw[wW,Nat.mod_mul]
  have hp:2^(k+1)=2^k+2^k:=by rw[wW];lia
  by_cases c:gN x m/2^k%2=e/2^k%2
  .grind
  .obtain⟨q,hq⟩:=Rx (gN x m) k;refine⟨m+2^k,(),?_⟩
   rw[<-VC,hq,sp,sp,Nat.add_mul_mod_self_left,Nat.add_mul_div_left _ _ hM,h]
   congr 2
   lia
theorem WB (mask i:Nat)(hi:i<=mask):∀ m,xj mask i m=gN i m%(mask+1)
 |0=>by
  show i=i%(mask+1);exact(Nat.mod_eq_of_lt ()).symm
 |m+1=>by
  show(xj mask i m*5+1)%(mask+1)=(gN i m*5+1)%(mask+1);rw[WB mask i hi m];simp[Nat.add_mod,Nat.mul_mod]
theorem vP(hk:mask+1=2^k){e:Nat}(hi:i<=mask)(he:e<=mask):∃ m,m<=mask/\xj mask i m=e:=by
 obtain⟨m,h1,h2⟩:=UF k i e;refine⟨m,(),?_⟩
 rw[WB mask i hi,hk,h2,<-hk];exact Nat.mod_eq_of_lt ()
theorem Sd(hm:oE mask){e:Nat}(hi:i<=mask)(he:e<=mask):∃ m,m<=mask/\xj mask i m=e:=by
 rcases hm with rfl|rfl|rfl|rfl|rfl|rfl
 .exact vP (k:=3) rfl hi he
 .exact vP (k:=5) rfl hi he
 .exact vP (k:=7) rfl hi he
 .exact vP (k:=9) rfl hi he
 .exact vP (k:=11) rfl hi he
 .exact vP (k:=13) rfl hi he
theorem Gu (h:Int):bits h<2^64:=by
 unfold bits
 grind
theorem UT(hp:bo<2^64):∀ m,(lp mask (i,bo) (13+m)).1=xj mask (lp mask (i,bo) 13).1 m
 |0=>rfl
 |m+1=>by
  show((lp mask (i,bo) (13+m)).1*5+1+(lp mask (i,bo) (13+m)).2/32)%(mask+1)=(xj mask (lp mask (i,bo) 13).1 m*5+1)%(mask+1);rw[UT hp m,UO];have:bo/32^(13+m)=0:=by
   apply Nat.div_eq_of_lt
   grind
  rw[this]
theorem Nl:∀ m,0<m->(lp mask (i,bo) m).1<=mask
 |0,h=>absurd h ()
 |m+1,_=>by
  show((lp mask (i,bo) m).1*5+1+(lp mask (i,bo) m).2/32)%(mask+1)<=mask;have:=AJ ((lp mask (i,bo) m).1*5+1+(lp mask (i,bo) m).2/32) (show 0<mask+1 by lia)
  lia
theorem XA(hm:oE mask){e:Nat}(hp:bo<2^64)(he:e<=mask):∃ m,m<=13+mask/\(lp mask (i,bo) m).1=e:=by
 obtain⟨m,h1,h2⟩:=Sd hm (Nl 13 ()) he
 exact⟨13+m,(),by rw[UT hp];exact h2⟩
def rd (mask:Nat)(h:Int)(n:Nat):Probe:=pN mask (lg mask (bits h%(mask+1)) (bits h)) n
theorem XS(hm:oE mask)(h:Int){e:Nat}(he:e<=mask):∃ n,n<10*turns mask/\(rd mask h n).j=e:=by
 obtain⟨m,h1,h2⟩:=XA hm (Gu h) he;obtain⟨n,h3,h4⟩:=YB mask (bits h%(mask+1)) (bits h) m;refine⟨n,by unfold turns;lia,?_⟩
 unfold rd;rw[h4];exact h2
theorem K5 (mask:Nat)(p:Probe):(jm mask p).dummy=p.dummy:=by
 unfold jm;split<;>rfl
theorem XH (mask:Nat)(h:Int):∀ n,(rd mask h n).dummy=ab
 |0=>rfl
 |n+1=>by
  show(jm mask (rd mask h n)).dummy=ab;rw[K5];exact XH mask h n
def iS (t:eM)(j:Nat):Prop:=∃ i:Nat,t.place[i]?=aa j
structure Good (t:eM)(es:Array (Int×aD)):Prop where
 small:oE t.mask
 nod:t.dummies = #[]
 ris:mC t.place
 len:t.place.size=es.size
 inb:∀ i j:Nat,t.place[i]?=aa j->j<=t.mask
 room:es.size<=t.mask
 reach:∀ (i j:Nat) (e:Int×aD),t.place[i]?=aa j->es[i]?=aa e->∃ n,(rd t.mask e.1 n).j=j/\∀ m<n,iS t (rd t.mask e.1 m).j
theorem rank {xs:Array Nat}(hr:mC xs):∀ e,(∀ v≤e,∃ i:Nat,xs[i]?=aa v)->∃ i:Nat,xs[i]?=aa e/\e<=i
 |0,h=>by
  grind
 |e+1,h=>by
  obtain⟨i,q,hi⟩:=rank hr e λv hv=>h v ()
  obtain⟨k,qk⟩:=h (e+1) (bB _);refine⟨k,qk,?_⟩;rcases wX i k with c|c|c
  .lia
  .subst c;rw[q] at qk;simp at qk
  .have:=hr k i _ _ c qk q
   lia
theorem Good.empty(G:Good t es):∃ e,e<=t.mask/\¬ iS t e:=by
 apply RF;intro hn;have cf:∀ v≤t.mask,∃ i:Nat,t.place[i]?=aa v:=λv hv=>RF λq=>hn ⟨v,hv,q⟩
 obtain⟨i,q,hi⟩:=rank G.ris t.mask cf;have h1:=(uO.1 q).1;have h2:=G.len;have h3:=G.room
 lia
theorem YK(h:¬ iS t j):∀ i:Nat,t.place[i]?≠aa j:=λi e=>h ⟨i,e⟩
section
variable {hashAt:Nat->Int}{h:Int}
theorem YE (hd:t.dummies = #[])(hr:mC t.place):∀ k n fuel,k<fuel->(∀ m,n<=m->m<n+k->∃ i:Nat,t.place[i]?=aa (rd t.mask h m).j/\hashAt i≠h)->¬ iS t (rd t.mask h (n+k)).j ->
  probe.go t hashAt h fuel (rd t.mask h n)=aa (.empty (rd t.mask h (n+k)).j ab)
 |_,_,0,hf,_,_=>absurd hf ()
 |0,n,fuel+1,_,_,he=>by
  rw[Nat.add_zero] at he ⊢;unfold probe.go;rw[Yk hd hr (YK he),XH]
  rfl
 |k+1,n,fuel+1,hf,hm,he=>by
  obtain⟨i,e,df⟩:=hm n (bB _) ()
  unfold probe.go;rw[(EM hd hr).2 e];rw[13];rw[if_neg (by simpa using df),MM]
  have:=YE hd hr k (n+1) fuel () (λm a b=>hm m () ()) (by rw[show n+1+k=n+(k+1) by lia];exact he)
  rw[show n+1+k=n+(k+1) by lia] at this
  exact this
theorem Gb (hd:t.dummies = #[])(hr:mC t.place){i0:Nat}(h0:hashAt i0=h):∀ k n fuel,k<fuel->(∀ m,n<=m->m<n+k->∃ i:Nat,t.place[i]?=aa (rd t.mask h m).j/\hashAt i≠h)->t.place[i0]?=aa (rd t.mask h (n+k)).j ->
  probe.go t hashAt h fuel (rd t.mask h n)=aa (.candidate (rd t.mask h (n+k)).j i0 (rd t.mask h (n+k+1)))
 |_,_,0,hf,_,_=>absurd hf ()
 |0,n,fuel+1,_,_,he=>by
  rw[Nat.add_zero] at he ⊢;unfold probe.go;rw[(EM hd hr).2 he];rw[13];rw[if_pos (by simpa using h0),MM]
  rfl
 |k+1,n,fuel+1,hf,hm,he=>by
  obtain⟨i,e,df⟩:=hm n (bB _) ()
  unfold probe.go;rw[(EM hd hr).2 e];rw[13];rw[if_neg (by simpa using df),MM]
  have:=Gb hd hr h0 k (n+1) fuel () (λm a b=>hm m () ()) (by rw[show n+1+k=n+(k+1) by lia];exact he)
  rw[show n+1+k=n+(k+1) by lia] at this
  exact this
theorem Bs (S:Nat->Prop):∀ d n,S (n+d)->∃ k,k<=d/\(∀ m,n<=m->m<n+k->¬ S m)/\S (n+k)
 |0,n,h=>⟨0,bB _,λm a b=>absurd b (),h⟩
 |d+1,n,h=>by
  by_cases c:S n
  .exact⟨0,eG _,λm a b=>absurd b (),c⟩
  .obtain⟨k,h1,h2,h3⟩:=Bs S d (n+1) (by rw[show n+1+d=n+(d+1) by lia];exact h)
   refine⟨k+1,(),λm a b=>?_,by rw[show n+(k+1)=n+1+k by lia];exact h3⟩
   grind
theorem Good.next(G:Good t es)(h:Int)(hv:∀ m<n,iS t (rd t.mask h m).j):∃ k,n+k<10*turns t.mask/\(∀ m,n<=m->m<n+k->∃ i:Nat,t.place[i]?=aa (rd t.mask h m).j/\hashAt i≠h) /\
  ((¬ iS t (rd t.mask h (n+k)).j/\t.probe hashAt h (rd t.mask h n)=aa (.empty (rd t.mask h (n+k)).j ab)) \/
   ∃ i:Nat,t.place[i]?=aa (rd t.mask h (n+k)).j/\hashAt i=h/\t.probe hashAt h (rd t.mask h n)=aa (.candidate (rd t.mask h (n+k)).j i (rd t.mask h (n+k+1)))):=by
 obtain⟨e,he,df⟩:=G.empty;obtain⟨N,hN,eN⟩:=XS G.small h he;have hnN:n<=N:=by
  grind
 obtain⟨d,rfl⟩:=Nat.exists_eq_add_of_le hnN;obtain⟨k,hk,h1,h2⟩:=Bs (λm=>¬ iS t (rd t.mask h m).j\/∃ i:Nat,t.place[i]?=aa (rd t.mask h m).j/\hashAt i=h) d n (.inl (by rw[eN];exact df))
 have hm:∀ m,n<=m->m<n+k->∃ i:Nat,t.place[i]?=aa (rd t.mask h m).j/\hashAt i≠h:=λm a b=>by
  have q:=h1 m a b;obtain⟨i,ei⟩:=RF λz=>q (.inl z)
  grind
 refine⟨k,(),hm,?_⟩
 rcases h2 with h2|⟨i,ei,hi⟩
 .exact .inl ⟨h2,YE G.nod G.ris k n _ () hm h2⟩
 .exact .inr ⟨i,ei,hi,Gb G.nod G.ris hi k n _ () hm ei⟩
end
theorem SZ (mask:Nat)(h:Int):∀ n,(rd mask h n).j+(rd mask h n).more<=mask
 |0=>by
  show bits h%(mask+1)+(runEnd mask (bits h%(mask+1))-bits h%(mask+1))<=mask;have:=AJ (bits h) (show 0<mask+1 by lia)
  unfold runEnd;split<;>lia
 |n+1=>by
  have ih:=SZ mask h n;show(jm mask (rd mask h n)).j+(jm mask (rd mask h n)).more<=mask;unfold jm;split
  .grind
  .show(leap mask (rd mask h n).i (rd mask h n).perturb).1+(runEnd mask (leap mask (rd mask h n).i (rd mask h n).perturb).1-(leap mask (rd mask h n).i (rd mask h n).perturb).1)<=mask;have:(leap mask (rd mask h n).i (rd mask h n).perturb).1<mask+1:=AJ _ ()
   unfold runEnd;split<;>lia
theorem Mo (mask:Nat)(h:Int)(n:Nat):(rd mask h n).j<=mask:=by
 have:=SZ mask h n
 lia
theorem vV {α:Type}(xs:Array α){p:Nat}(hp:p<=xs.size)(x:α)(k:Nat):(insertAt xs p x)[k]?=if k<p then xs[k]? else if k=p then aa x else xs[k-1]?:=by
 rw[<-oY,toList_insertAt]
 grind
theorem Ud {xs:Array Nat}(hr:mC xs)(hj:∀ i:Nat,xs[i]?≠aa j):mC (insertAt xs (below xs j) j):=by
 obtain⟨h1,h2,h3⟩:=EV hr j;intro a b u v ja ea eb;rw[vV xs h1] at ea eb;have lt_of:∀ k w,below xs j<=k->xs[k]?=aa w->j<w:=λk w hk e=>by
  grind
 split at ea
 .split at eb
  .exact hr a b u v ja ea eb
  all_goals grind
 .split at ea
  .grind
  .rw[if_neg (),if_neg ()] at eb
   exact hr (a-1) (b-1) u v () ea eb
theorem DZ {α:Type}(xs:Array α)(p:Nat)(x:α):(insertAt xs p x).size=xs.size+1:=by
 rw[<-jU,(insertAt_perm xs p x).length_eq,jU,Array.size_push]
theorem Nc(hd:t.dummies = #[])(j:Nat):t.put j=({ t with place:=insertAt t.place (below t.place j) j },below t.place j):=by
 unfold put;rw[hd,IE]
 grind
theorem Good.put(G:Good t es){h:Int}{x:aD}(hv:∀ m<n,iS t (rd t.mask h m).j)(hn:¬ iS t (rd t.mask h n).j)  (ko:es.size<t.mask)(pl:Bool) :
  Good { t with place:=insertAt t.place (below t.place (rd t.mask h n).j) (rd t.mask h n).j,plain:=pl } (insertAt es (below t.place (rd t.mask h n).j) (h,x)):=by
 have hb:=(EV G.ris (rd t.mask h n).j).1;have Sc:below t.place (rd t.mask h n).j<=es.size:=by rw[<-G.len];exact hb
 have mono:∀ j,iS t j->∃ i:Nat,(insertAt t.place (below t.place (rd t.mask h n).j) (rd t.mask h n).j)[i]?=aa j:=λj gh=>by
  obtain⟨i,e⟩:=gh;by_cases c:i<below t.place (rd t.mask h n).j
  .exact⟨i,by rw[vV _ hb,if_pos c];exact e⟩
  .exact⟨i+1,by rw[vV _ hb,if_neg (),if_neg ()];exact e⟩
 refine⟨G.small,G.nod,Ud G.ris (YK hn),?_,λi j e=>?_,?_,λi j e ei ee=>?_⟩
 .rw[DZ,DZ,G.len]
 .have e':=e;rw[vV _ hb] at e';split at e'
  .exact G.inb i j e'
  .split at e'
   .cases e';exact Mo _ _ _
   .exact G.inb _ j e'
 .rw[DZ];exact ko
 .have jk:=ei;rw[vV _ hb] at jk;rw[vV _ Sc] at ee;by_cases c:i<below t.place (rd t.mask h n).j
  .rw[if_pos c] at jk ee;obtain⟨m,h1,h2⟩:=G.reach i j e jk ee;exact⟨m,h1,λq hq=>mono _ (h2 q hq)⟩
  .rw[if_neg c] at jk ee;by_cases d:i=below t.place (rd t.mask h n).j
   .rw[if_pos d] at jk ee;cases jk;cases ee;exact⟨n,rfl,λq hq=>mono _ (hv q hq)⟩
   .rw[if_neg d] at jk ee;obtain⟨m,h1,h2⟩:=G.reach _ j e jk ee;exact⟨m,h1,λq hq=>mono _ (h2 q hq)⟩
structure Own (mask:Nat)(hs:List Int)(ow:Array (Option Nat)):Prop where
 size:ow.size=mask+1
 lt:∀ j i:Nat,ow[j]?=aa (aa i)->i<hs.length
 inj:∀ j j' i:Nat,ow[j]?=aa (aa i)->ow[j']?=aa (aa i)->j=j'
 all:∀ i<hs.length,∃ j:Nat,ow[j]?=aa (aa i)
 reach:∀ (j i:Nat) (h:Int),ow[j]?=aa (aa i)->hs[i]?=aa h->∃ n,(rd mask h n).j=j/\∀ m<n,∃ i':Nat,ow[(rd mask h m).j]?=aa (aa i')
theorem yS {ow:xL}(hj:j<ow.size):ow[j]?=aa ab\/∃ i,ow[j]?=aa (aa i):=by
 rw[mR hj];cases ow[j] with
 |none=>exact .inl rfl
 |some i=>exact .inr ⟨i,rfl⟩
theorem Own.free{hs:aal}{ow:xL}(O:Own mask hs ow)(hl:hs.length<=mask):∃ e,e<=mask/\ow[e]?=aa ab:=by
 apply RF;intro hn;have cf:∀ j≤mask,∃ i:Nat,ow[j]?=aa (aa i):=λj hj=>by
  rcases yS (j:=j) (by rw[O.size];lia) with c|c
  .exact absurd ⟨j,hj,c⟩ hn
  .exact c
 have dy:((bW (mask+1)).map λj=>((ow[j]?).join).getD 0).Nodup:=by
  unfold List.Nodup;rw[wZ];refine Kd ?_ List.pairwise_lt_range;intro a b ha hb ja e;obtain⟨i,ei⟩:=cf a (by have:=eR.1 ha;lia)
  obtain⟨i',jk⟩:=cf b (by have:=eR.1 hb;lia)
  rw[ei,jk] at e;have:i=i':=by simpa using e
  rw[12];have:=O.inj a b i ei jk
  lia
 have:=QZ dy (λv m=>by
  obtain⟨j,hj,rfl⟩:=bK.1 m;obtain⟨i,ei⟩:=cf j (by have:=eR.1 hj;lia)
  rw[ei];exact eR.2 (O.lt j i ei))
 simp at this
 lia
theorem YF (mask i bo:Nat):∀ m,lp mask (i,bo) (m+1)=lp mask (leap mask i bo) m
 |0=>rfl
 |m+1=>by
  show leap mask (lp mask (i,bo) (m+1)).1 (lp mask (i,bo) (m+1)).2=_;rw[YF mask i bo m]
  rfl
theorem Bh{ow:xL}(hz:ow.size=mask+1):∀ (fuel i bo m:Nat),i<=mask->m<fuel->ow[(lp mask (i,bo) m).1]?=aa ab ->
  ∃ n,layClean.free mask ow fuel i bo=aa (pN mask (lg mask i bo) n).j/\ow[(pN mask (lg mask i bo) n).j]?=aa ab/\∀ q<n,∃ i':Nat,ow[(pN mask (lg mask i bo) q).j]?=aa (aa i')
 |0,_,_,_,_,h,_=>absurd h ()
 |fuel+1,i,bo,m,hi,hm,he=>by
  have hrun:runEnd mask i<=mask/\i<=runEnd mask i:=by unfold runEnd;split<;>lia
  have P8:∀ k,k<=runEnd mask i-i->(pN mask (lg mask i bo) k).j=i+k:=λk hk=>by rw[JI mask i bo k hk]
  have hg:∀ k,k<=runEnd mask i-i->((ow.getD (i+k) (aa 0)).isNone=af↔ow[i+k]?=aa ab):=λk hk=>by
   rw[RP];rcases yS (ow:=ow) (j:=i+k) () with c|⟨x,c⟩<;>rw[c]<;>simp
  unfold layClean.free;cases ef:(bW (runEnd mask i+1-i)).find? λk=>(ow.getD (i+k) (aa 0)).isNone with
  |some k=>
   obtain⟨h1,h2,h3⟩:=List.find?_range_eq_some.1 ef;have hk:k<=runEnd mask i-i:=by have:=eR.1 h2;lia
   refine⟨k,by rw[P8 k hk],by rw[P8 k hk];exact(hg k hk).1 h1,λq hq=>?_⟩
   rw[P8 q ()]
   rcases yS (ow:=ow) (j:=i+q) () with c|c
   .have:=h3 q hq;rw[(hg q ()).2 c] at this
    exact absurd this nofun
   .exact c
  |none=>
   have h3:=List.find?_range_eq_none.1 ef;have cf:∀ k,k<=runEnd mask i-i->∃ i':Nat,ow[i+k]?=aa (aa i'):=λk hk=>by
    rcases yS (ow:=ow) (j:=i+k) () with c|c
    .have:=h3 k ()
     rw[(hg k hk).2 c] at this;exact absurd this nofun
    .exact c
   cases m with
   |zero=>
    obtain⟨i',e'⟩:=cf 0 ()
    have he':ow[i]?=aa ab:=he;rw[Nat.add_zero,he'] at e';cases e'
   |succ m=>
    rw[YF] at he;have u8:(leap mask i bo).1<=mask:=by
     have:(leap mask i bo).1<mask+1:=AJ _ ()
     lia
    obtain⟨n,e1,e2,e3⟩:=Bh hz fuel (leap mask i bo).1 (leap mask i bo).2 m u8 () he
    have hp:∀ q,pN mask (lg mask i bo) (runEnd mask i-i+1+q)=pN mask (lg mask (leap mask i bo).1 (leap mask i bo).2) q:=λq=>by
     rw[<-NP,YV]
    refine⟨runEnd mask i-i+1+n,?_,by rw[hp];exact e2,λq hq=>?_⟩
    .rw[hp];exact e1
    .by_cases c:q<=runEnd mask i-i
     .rw[P8 q c];exact cf q c
     .obtain⟨r,rfl⟩:∃ r,q=runEnd mask i-i+1+r:=⟨q-(runEnd mask i-i+1),()⟩
      rw[hp];exact e3 r ()
theorem Own.add(hm:oE mask){hs:aal}{ow:xL}(O:Own mask hs ow)(hl:hs.length<=mask)(h:Int) :
  ∃ j,layClean.free mask ow (turns mask) (bits h%(mask+1)) (bits h)=aa j/\Own mask (hs++[h]) (ow.setIfInBounds j (aa hs.length)):=by
 obtain⟨e,he,df⟩:=O.free hl;obtain⟨m,h1,h2⟩:=XA hm (Gu h) he;have hi:bits h%(mask+1)<=mask:=by
  have:=AJ (bits h) (show 0<mask+1 by lia)
  lia
 obtain⟨n,e1,e2,e3⟩:=Bh O.size (turns mask) (bits h%(mask+1)) (bits h) m hi (by unfold turns;lia) (by rw[h2];exact df)
 have pi:ow[(rd mask h n).j]?=aa ab:=e2;have hjs:=(uO.1 pi).1;have get:∀ k:Nat,(ow.setIfInBounds (rd mask h n).j (aa hs.length))[k]?=if (rd mask h n).j=k then aa (aa hs.length) else ow[k]?:=λk=>by
  rw[Array.getElem?_setIfInBounds];by_cases c:(rd mask h n).j=k
  .subst c;simp[hjs]
  .rw[if_neg c,if_neg c]
 have mono:∀ k i:Nat,ow[k]?=aa (aa i)->(ow.setIfInBounds (rd mask h n).j (aa hs.length))[k]?=aa (aa i):=λk i q=>by
  rw[get,if_neg (by rintro rfl;rw[pi] at q;cases q)]
  exact q
 refine⟨_,e1,by simpa using O.size,λj i q=>?_,λj j' i q q'=>?_,λi hi=>?_,λj i x q qx=>?_⟩
 .have q:(ow.setIfInBounds (rd mask h n).j (aa hs.length))[j]?=aa (aa i):=q;rw[get] at q;rw[rT,Jt];split at q
  .cases q;lia
  .have:=O.lt j i q;lia
 .have q:(ow.setIfInBounds (rd mask h n).j (aa hs.length))[j]?=aa (aa i):=q;have q':(ow.setIfInBounds (rd mask h n).j (aa hs.length))[j']?=aa (aa i):=q';rw[get] at q q';split at q
  .split at q'
   .lia
   .cases q;have:=O.lt j' _ q'
    lia
  .split at q'
   .cases q';have:=O.lt j _ q
    lia
   .exact O.inj j j' i q q'
 .rw[rT,Jt] at hi;by_cases c:i=hs.length
  .exact⟨(rd mask h n).j,by show(ow.setIfInBounds (rd mask h n).j (aa hs.length))[(rd mask h n).j]?=_;rw[get,if_pos rfl,c]⟩
  .obtain⟨j,q⟩:=O.all i ()
   exact⟨j,mono j i q⟩
 .have q:(ow.setIfInBounds (rd mask h n).j (aa hs.length))[j]?=aa (aa i):=q;rw[get] at q;split at q
  .rename_i hj;cases q;rw[Jw (bB _)] at qx;have:h=x:=by simpa using qx
   rw[12];refine⟨n,hj,λq hq=>?_⟩
   obtain⟨i',w⟩:=e3 q hq;exact⟨i',mono _ i' w⟩
  .have bm:=O.lt j i q;rw[GE bm] at qx;obtain⟨n',a,b⟩:=O.reach j i x q qx;refine⟨n',a,λr hr=>?_⟩
   obtain⟨i',w⟩:=b r hr;exact⟨i',mono _ i' w⟩
theorem UZ(hm:oE mask):∀ (rest hs:aal) (ow:xL),Own mask hs ow->hs.length+rest.length<=mask+1 ->
  ∃ P9,rest.foldl (λaq h=>do
   let (owner,k) <-aq
   let j <-layClean.free mask owner (turns mask) (bits h%(mask+1)) (bits h)
   pure (owner.setIfInBounds j (aa k),k+1)) (aa (ow,hs.length))=aa (P9,(hs++rest).length)/\Own mask (hs++rest) P9
 |[],hs,ow,O,_=>⟨ow,by simp,by simpa using O⟩
 |h::r,hs,ow,O,hl=>by
  rw[fA] at hl;obtain⟨j,e,O'⟩:=O.add hm () h
  obtain⟨P9,e2,O2⟩:=UZ hm r (hs++[h]) _ O' (by rw[rT,Jt];lia)
  refine⟨P9,?_,by simpa using O2⟩
  rw[lW];have:(do
   let (owner,k) <-aa (ow,hs.length)
   let j <-layClean.free mask owner (turns mask) (bits h%(mask+1)) (bits h)
   pure (owner.setIfInBounds j (aa k),k+1))=aa (ow.setIfInBounds j (aa hs.length),(hs++[h]).length):=by
   show((layClean.free mask ow (turns mask) (bits h%(mask+1)) (bits h)).bind λj=>aa (ow.setIfInBounds j (aa hs.length),hs.length+1))=_
   rw[e];simp
  rw[this,e2];simp
theorem Ta (mask:Nat):Own mask [] (Array.replicate (mask+1) ab):=by
 have hn:∀ j i:Nat,(Array.replicate (mask+1) (ab:Option Nat))[j]?≠aa (aa i):=λj i q=>by
  rw[Array.getElem?_replicate] at q;split at q<;>cases q
 exact⟨by simp,λj i q=>absurd q (hn j i),λj _ i q=>absurd q (hn j i),λi hi=>absurd hi (by simp),λj i _ q=>absurd q (hn j i)⟩
theorem K8(hm:oE mask)(hs:Array Int)(hl:hs.size<=mask+1):∃ ow,layClean mask hs=aa ow/\Own mask hs.toList ow:=by
 obtain⟨ow,e,O⟩:=UZ hm hs.toList [] _ (Ta mask) (by simpa using hl)
 refine⟨ow,?_,by simpa using O⟩
 unfold layClean;rw[<-Array.foldl_toList];have e':=congrArg (Option.map (·.1)) e;exact e'
theorem UG {α β:Type}{f:α->Option β}:∀ (l:List α),(∀ k∈l,(f k).isSome=af)->∀ i:Nat,(l.filterMap f)[i]?=(l[i]?).bind f
 |[],_,i=>by simp
 |a::r,h,i=>by
  obtain⟨b,e⟩:=uG.1 (h a bE);rw[List.filterMap_cons_some e];cases i with
  |zero=>simp[e]
  |succ i=>
   rw[QV,QV];exact UG r (λk m=>h k (bL _ m)) i
def iE (mask:Nat)(ow:xL):sn:=(bW (mask+1)).filterMap λj=>(ow.getD j ab).map (j,·)
theorem mY{ow:xL}(hz:ow.size=mask+1):(j,i)∈iE mask ow↔ow[j]?=aa (aa i):=by
 unfold iE;rw[uJ];constructor
 .rintro⟨j',hj,e⟩;obtain⟨i',e1,e2⟩:=gM.1 e;have e3:=congrArg Prod.fst e2;have e4:=congrArg Prod.snd e2;subst e3;subst e4;have bm:j'<ow.size:=by have:=eR.1 hj;lia
  rw[RP] at e1;rcases yS bm with c|⟨x,c⟩
  .rw[c] at e1;cases e1
  .rw[c] at e1;cases e1;exact c
 .intro e;have bm:=(uO.1 e).1;exact⟨j,eR.2 (),by rw[RP,e];rfl⟩
theorem LZ (mask:Nat)(ow:xL):(iE mask ow).Pairwise (λa b=>a.1<b.1):=by
 unfold iE;rw[List.pairwise_filterMap];refine List.Pairwise.imp ?_ List.pairwise_lt_range;intro a b ja x hx y hy;obtain⟨_,_,rfl⟩:=gM.1 hx;obtain⟨_,_,rfl⟩:=gM.1 hy;exact ja
theorem A8(hm:oE mask)(es:aae)(hl:es.size<=mask)(fg mv:Nat)(led pl:Bool) :
  ∃ t' fq,laid mask fg mv led pl (es.map (·.1))=aa (t',fq)/\Good t' (fq.filterMap (es[·]?))/\(fq.filterMap (es[·]?)).toList.Perm es.toList/\t'.mask=mask/\t'.led=led/\t'.plain=pl/\t'.dummies = #[]:=by
 obtain⟨ow,e,O⟩:=K8 hm (es.map (·.1)) (by rw[Array.size_map];lia)
 have hz:=O.size;have ax:(es.map (·.1)).toList.length=es.size:=by simp
 refine⟨{ mask,place:=((iE mask ow).map (·.1)).toArray,dummies:=#[],finger:=fg,led,moves:=mv,plain:=pl },((iE mask ow).map (·.2)).toArray,?_,?_,?_,rfl,rfl,rfl,rfl⟩
 .unfold laid;rw[e]
  rfl
 .have vc:∀ k∈(iE mask ow).map (·.2),(es[k]?).isSome=af:=λk m=>by
   obtain⟨⟨j,i⟩,mm,rfl⟩:=bK.1 m;have:=O.lt j i ((mY hz).1 mm);rw[ax] at this;rw[mR this]
   rfl
  have V4:∀ i:Nat,((((iE mask ow).map (·.2)).toArray).filterMap (es[·]?))[i]?=(((iE mask ow)[i]?).bind λp=>es[p.2]?):=λi=>by
   rw[<-oY,RO,UG _ vc,eU];cases(iE mask ow)[i]?<;>rfl
  have cz:∀ i:Nat,(((iE mask ow).map (·.1)).toArray)[i]?=((iE mask ow)[i]?).map (·.1):=λi=>by simp
  refine⟨hm,rfl,?_,?_,?_,?_,?_⟩
  .intro a b u v ja ea eb;have ea:=ea;have eb:=eb;rw[cz] at ea eb;obtain⟨x,hx,rfl⟩:=gM.1 ea;obtain⟨y,hy,rfl⟩:=gM.1 eb;obtain⟨ha,rfl⟩:=cK.1 hx;obtain⟨hb,rfl⟩:=cK.1 hy;exact GB.1 (LZ mask ow) a b ha hb ja
  .have:(List.filterMap (es[·]?) ((iE mask ow).map (·.2))).length=((iE mask ow).map (·.2)).length:=by
    rw[List.length_filterMap_eq_countP,List.countP_eq_length];exact vc
   rw[<-jU (xs:=Array.filterMap _ _),RO,this];simp
  .intro i j q;have q:=q;rw[cz] at q;obtain⟨⟨j',i'⟩,hx,rfl⟩:=gM.1 q;have:=(mY hz).1 (eT hx);have:=(uO.1 this).1;show j'<=mask
   lia
  .have dy:((iE mask ow).map (·.2)).Nodup:=by
    unfold List.Nodup;rw[wZ];refine Kd ?_ (LZ mask ow);rintro⟨a,i⟩ ⟨b,i'⟩ ma mb ja e';have e':=e';subst e';have:=O.inj a b i ((mY hz).1 ma) ((mY hz).1 mb);have ja:=ja
    lia
   have:=QZ dy (λv m=>by
    obtain⟨⟨j,i⟩,mm,rfl⟩:=bK.1 m;have:=O.lt j i ((mY hz).1 mm);rw[ax] at this;exact eR.2 this)
   have h2:((((iE mask ow).map (·.2)).toArray).filterMap (es[·]?)).size<=((iE mask ow).map (·.2)).length:=by
    rw[<-jU,RO];exact xD _ _
   rw[xC] at this;show _<=mask
   lia
  .intro i j x q qx;have q:=q;rw[cz] at q;obtain⟨⟨j',k⟩,hx,rfl⟩:=gM.1 q;rw[V4,hx,bQ] at qx;have hw:=(mY hz).1 (eT hx);have hk:(es.map (·.1)).toList[k]?=aa x.1:=by
    have qx:=qx;rw[oY,Array.getElem?_map,qx]
    rfl
   obtain⟨n,a,b⟩:=O.reach j' k x.1 hw hk;refine⟨n,a,λm sv=>?_⟩
   obtain⟨i',w⟩:=b m sv;obtain⟨r,hr,er⟩:=Jq.1 ((mY hz).2 w);refine⟨r,?_⟩;rw[cz,fY hr,er]
   rfl
 .rw[RO];have dy:((iE mask ow).map (·.2)).Nodup:=by
   unfold List.Nodup;rw[wZ];refine Kd ?_ (LZ mask ow);rintro⟨a,i⟩ ⟨b,i'⟩ ma mb ja e';have e':=e';subst e';have:=O.inj a b i ((mY hz).1 ma) ((mY hz).1 mb);have ja:=ja
   lia
  have hp:((iE mask ow).map (·.2)).Perm (bW es.size):=by
   rw[List.perm_ext_iff_of_nodup dy Jn];intro v;constructor
   .intro m;obtain⟨⟨j,i⟩,mm,rfl⟩:=bK.1 m;have:=O.lt j i ((mY hz).1 mm);rw[ax] at this;exact eR.2 this
   .intro m;obtain⟨j,q⟩:=O.all v (by rw[ax];exact eR.1 m)
    exact bK.2 ⟨(j,v),(mY hz).2 q,rfl⟩
  exact(hp.filterMap _).trans (by rw[filterMap_getElem?_range])
structure Fine (t:eM)(es:Array (Int×aD)):Prop where
 good:Good t es
 few:es.size*5<t.mask*3/\es.size<=4914
theorem Fine.fits(F:Fine t es):t.fits es.size=af:=by
 have h1:=F.good.len;have h2:=F.good.nod;have h3:=F.good.room;simp[SetTable.fits,PU,h1,h2,h3]
theorem Fine.odd(F:Fine t es):t.gaveWay=ah:=by
 rcases F.good.small with e|e|e|e|e|e<;>simp[SetTable.gaveWay,e]
theorem Xk (led:Bool):Fine (FV 0 0 led) #[]:=
 ⟨⟨.inl rfl,rfl,λa b u v _ h=>by simp[FV] at h,rfl,λi j h=>by simp[FV] at h,by simp,λi j e h=>by simp[FV] at h⟩,by simp[FV]⟩
theorem C3(hs:oE t.mask)(h1:(n-1)*5<t.mask*3)(h0:0<n)(hf:t.mask*3<=n*5)(hn:n<=4914):∃ M,oE M/\n*5<M*3/\SetTable.sizeAbove (SetTable.grown n)=M+1:=by
 rcases hs with e|e|e|e|e|e<;>rw[e] at h1 hf
 .have h5:n=5:=()
  exact⟨31,.inr (.inl rfl),(),by rw[h5];decide⟩
 .have h5:n=19:=()
  exact⟨127,.inr (.inr (.inl rfl)),(),by rw[h5];decide⟩
 .have h5:n=77:=()
  exact⟨511,.inr (.inr (.inr (.inl rfl))),(),by rw[h5];decide⟩
 .have h5:n=307:=()
  exact⟨2047,.inr (.inr (.inr (.inr (.inl rfl)))),(),by rw[h5];decide⟩
 .have h5:n=1229:=()
  exact⟨8191,.inr (.inr (.inr (.inr (.inr rfl)))),(),by rw[h5];decide⟩
 .lia
open PySem PySem.Spec PyProof.Rows PySem.SetTable
def fQ (w:bA):Bool:=w.params.followText "set-order"
abbrev Akw (led:Bool):bD:={ cls:=.type "set",dict:=ab,data:=.set #[] 0 (.fresh 0 0 led) }
theorem d4(v:aD){Q₁:aD->aH->Prop}(h:Q₁ (.ref s.heap.objs.size) { s with heap:=s.heap.push (Akw (!fQ w)) }) :
  jQ (aP prog w) A (.call (.builtin "set.__new__") ⟨[.type "set",v],[]⟩) (wants Q₁ E) s:=by
 refine codeAny_of_tree (show aL _ A.in1 (do checkBuiltinCall "set.__new__" ⟨[.type "set",v],[]⟩;again (.builtin "set.__new__" ⟨[.type "set",v],[]⟩)) _ _ s from ?_)
 refine aG (wG (F.newCall_set_1 v) (aM ⟨kR F.plain_set_new _,jP F.entry_set_new ?_⟩));rw[kY F.plain_set_new _];unfold Builtin.«set.__new__» Builtin.Frozenset.newClass;have sub1:=sub_set_self;obtain⟨hp,g,d,tk,os⟩:=s;rw[13]
 wp_walk
 refine FQ (aM ?_);rw[13];simp only[newObj];exact aG (wpAny_alloc (aM (aM h)))
structure WSet (w:bA)(h:aU)(a:aC)(o:bD)(es:Array (Int×aD))(ep:Nat)(t:eM):Prop where
 get:h.get? a=aa o
 exact:o.ExactSet
 data:o.data=.set es ep t
 fine:Fine t es
 led:t.led=!fQ w
mutual
theorem LD:∀ (d:aA) (n:Nat) {A:bP} {E:aD->aH->Prop} {s:aH} {v:aD} {as:aan} {Q:Bool->aH->Prop},d.depth<=n->bN d=af->kS s.heap v d as ->
  Q ah s->aL (aP prog w) A (FS n v) Q E s
 |.int i,n,A,E,s,v,as,Q,hu,hk,r,h=>by
  cases r with
  |int _ t=>
   unfold FS;exact aM h
 |.str x,n,A,E,s,v,as,Q,hu,hk,r,h=>by
  cases r with
  |str _ t=>
   unfold FS;exact aM h
 |.tuple ks,n,A,E,s,v,as,Q,hu,hk,r,h=>by
  obtain⟨a,o,aj,m,rfl,ho,hc,hd,hi⟩:=lH r;have hT:s.TypeIs (.ref a) "tuple":=⟨o,ho,hc⟩;have oy:cU ks+1<=n:=by simpa [kF] using hu
  obtain⟨n,rfl⟩:∃ m,n=m+1:=⟨n-1,()⟩
  have ce:bR ks=af:=by simpa [bN] using hk
  unfold FS;refine aG (oJ hT ?_);rw[13];rw[if_pos nofun]
  refine aG (aM ?_);simp only[AZ,gV,if_false];refine aG (jM ho hd ?_);rw[13];rw[11];rw[<-RQ];refine AA _ (λrest r s'=>r.1=ab/\s'=s/\∃ ds bs,lM s.heap rest ds bs/\∀ d∈ds,d∈ks) _ ?_ ?_ _ _ ⟨rfl,rfl,ks,as,hi,λ_ h=>h⟩
  .rintro v rest r s' ⟨hr,rfl,ds,bs,hl,cf⟩;cases hl with
   |@cons _ _ d ds R7 ug h1 qw=>
    refine aG (Cn ks (cf d bE) n () ce h1 ?_)
    simp only[gV,if_false];exact aM ⟨rfl,rfl,ds,ug,qw,λu yi=>cf u (bL _ yi)⟩
  .rintro⟨r1,r2⟩ s' ⟨hr,rfl,_⟩;simp only at hr;subst hr;exact aM h
 |.none,n,A,E,s,v,as,Q,hu,hk,r,h=>by simp[bN] at hk
 |.bool _,n,A,E,s,v,as,Q,hu,hk,r,h=>by simp[bN] at hk
 |.list _,n,A,E,s,v,as,Q,hu,hk,r,h=>by simp[bN] at hk
 |.dict _,n,A,E,s,v,as,Q,hu,hk,r,h=>by simp[bN] at hk
theorem Cn:∀ (ks:aah) {d:aA},d∈ks->∀ (n:Nat) {A:bP} {E:aD->aH->Prop} {s:aH} {v:aD} {as:aan} {Q:Bool->aH->Prop},cU ks<=n->bR ks=af->kS s.heap v d as ->
  Q ah s->aL (aP prog w) A (FS n v) Q E s
 |[],_,hm,_,_,_,_,_,_,_,_,_,_,_=>by simp at hm
 |k::ks,d,hm,n,A,E,s,v,as,Q,hu,hk,r,h=>by
  have ce:bN k=af/\bR ks=af:=by simpa [bR] using hk
  have oy:max k.depth (cU ks)<=n:=by simpa [cU] using hu
  by_cases e:d=k
  .exact LD k n () ce.1 (e ▸ r) h
  .have sv:d∈ks:=by
    grind
   exact Cn ks sv n () ce.2 r h
end
def qV (k:aah):Prop:=∀ d∈k,∃ i,d=.int i
theorem K3{k:aah}{b:aC}{Q:Bool->aH->Prop}(hk:Abn s.heap k b)(hi:qV k)(h:Q af s):aL (aP prog w) A (hashByValue 8 (.ref b)) Q E s:=by
 obtain⟨_,_,as,r⟩:=hk;obtain⟨a,o,aj,m,e,ho,hc,hd,hr⟩:=lH r;cases e;unfold hashByValue;refine aG (tY ⟨o,ho,hc⟩ GL.lookup ?_);refine aG (jM ho hd ?_);rw[11];rw[<-RQ];refine AA _ (λrest r s'=>r=(ab,Unit.unit)/\s'=s/\∃ ds bs,lM s.heap rest ds bs/\∀ d∈ds,d∈k) _ ?_ ?_ _ _ ⟨rfl,rfl,k,as,hr,λ_ h=>h⟩
 .rintro v rest r s' ⟨rfl,rfl,ds,bs,hl,cf⟩;cases hl with
  |@cons _ _ d ds R7 ug h1 qw=>
   obtain⟨i,rfl⟩:=hi d (cf d bE);cases h1;exact aG (aM (aM ⟨rfl,rfl,ds,ug,qw,λu yi=>cf u (bL _ yi)⟩))
 .rintro r s' ⟨rfl,rfl,_⟩;exact aM h
theorem Vk{k:aah}{b:aC}{ys:aam}{Q:Bool->aH->Prop}(hk:Abn s.heap k b)(hy:∀ y∈ys,∃ k' b',y=.ref b'/\Abn s.heap k' b')(h:Q ah s) :
  aL (aP prog w) A (searchCouldBeSeen (.ref b) ys) Q E s:=by
 unfold searchCouldBeSeen;rw[11];refine AA _ (λrest r s'=>r.1=ab/\s'=s/\∀ y∈rest,∃ k' b',y=.ref b'/\Abn s.heap k' b') _ ?_ ?_ _ _ ⟨rfl,rfl,hy⟩
 .rintro v rest r s' ⟨hr,rfl,cf⟩;obtain⟨k',b',rfl,ce⟩:=cf v bE;have vd:∀ y∈rest,∃ k' b',y=.ref b'/\Abn s'.heap k' b':=λy m=>cf y (bL _ m)
  rw[13];split
  .exact aM ⟨rfl,rfl,vd⟩
  .obtain⟨a1,a2,as,ra⟩:=hk;obtain⟨b1,b2,bs,rb⟩:=ce;have ka:bN (.tuple k)=af:=by simpa [bN] using a1
   have kb:bN (.tuple k')=af:=by simpa [bN] using b1
   have da:(dM k).depth<=8:=by simp only[kF];lia
   have db:(dM k').depth<=8:=by simp only[kF];lia
   refine aG (ET (.tuple k) 8 da ka ra ?_);simp only[AZ,gV,if_false];refine aG (ET (.tuple k') 8 db kb rb ?_);simp only[AZ,gV,if_false];refine aG (LD (.tuple k) 8 da ka ra ?_);simp only[gV,if_false];refine aG (LD (.tuple k') 8 db kb rb ?_);simp only[gV,if_false];exact aM ⟨rfl,rfl,vd⟩
 .rintro⟨r1,r2⟩ s' ⟨hr,rfl,_⟩;simp only at hr;subst hr;exact aM h
theorem vG {α β:Type}{R:α->β->Prop}:∀ {as:List α} {bs:List β},dG R as bs->∀ {i:Nat} {a:α},as[i]?=aa a->∃ b,bs[i]?=aa b/\R a b
 |_,_,.nil,i,a,h=>by simp at h
 |_,_,.cons h t,0,a,e=>⟨_,rfl,by simp at e;exact e ▸ h⟩
 |_,_,.cons h t,i+1,a,e=>vG t (by simpa using e)
theorem IW {α β:Type}{R:α->β->Prop}:∀ {as:List α} {bs:List β},dG R as bs->∀ {i:Nat} {b:β},bs[i]?=aa b->∃ a,as[i]?=aa a/\R a b
 |_,_,.nil,i,a,h=>by simp at h
 |_,_,.cons h t,0,a,e=>⟨_,rfl,by simp at e;exact e ▸ h⟩
 |_,_,.cons h t,i+1,a,e=>IW t (by simpa using e)
theorem Good.met{f:Nat->Int}{h:Int}{r:Option Met}(G:Good t es)(hv:∀ m<n,iS t (rd t.mask h m).j)(Q0:t.probe f h (rd t.mask h n)=r)(hf:∀ (i:Nat) e,es[i]?=aa e->f i=e.1) :
  ∃ N,n<=N/\N<10*turns t.mask/\(∀ m,n<=m->m<N->∃ (i:Nat) (e:Int×aD),t.place[i]?=aa (rd t.mask h m).j/\es[i]?=aa e/\e.1≠h) /\
   ((¬ iS t (rd t.mask h N).j/\r=aa (.empty (rd t.mask h N).j ab))\/∃ (i:Nat) (e:Int×aD),t.place[i]?=aa (rd t.mask h N).j/\es[i]?=aa e/\e.1=h/\r=aa (.candidate (rd t.mask h N).j i (rd t.mask h (N+1)))):=by
 obtain⟨k,h1,h2,h3⟩:=G.next h hv;have el:∀ i j:Nat,t.place[i]?=aa j->∃ e,es[i]?=aa e:=λi j q=>by
  have:=(uO.1 q).1;rw[G.len] at this;exact⟨es[i],mR this⟩
 refine⟨n+k,(),h1,λm a b=>?_,?_⟩
 .obtain⟨i,e1,e2⟩:=h2 m a b;obtain⟨e,ee⟩:=el i _ e1;exact⟨i,e,e1,ee,by rw[<-hf i e ee];exact e2⟩
 .grind
theorem Good.nope{f:Nat->Int}{h:Int}(G:Good t es)(hv:∀ m<n,iS t (rd t.mask h m).j)(hn:∀ met,t.probe f h (rd t.mask h n)=aa met->False):False:=by
 obtain⟨k,_,_,h3⟩:=G.next h hv;rcases h3 with⟨_,q⟩|⟨_,_,_,q⟩
 .exact hn _ q
 .exact hn _ q
section
variable {B:aah->aC->Prop}
def xc (w:bA)(B:aah->aC->Prop)(h:aU)(e:Int×aD)(k:aah):Prop:=∃ b,e.2=.ref b/\e.1=dE w (.tuple k)/\Abn h k b/\B k b
structure SetAt (w:bA)(B:List aA->aC->Prop)(h:aU)(a:aC)(o:bD)(es:Array (Int×aD))(ep:Nat)(t:eM)(ks:List (List aA)):Prop where
 get:h.get? a=aa o
 exact:o.ExactSet
 data:o.data=.set es ep t
 fine:Fine t es
 led:t.led=!fQ w
 plain:t.plain=af
 els:dG (xc w B h) es.toList ks
 nod:ks.Nodup
theorem Ax{b:aC}{k:aah}{ad:Bool}{Q:SetFound->aH->Prop}
  (S:SetAt w B s.heap a o es ep t ks) (hk:Abn s.heap k b) (hu:A.units+20<cLine) (h1:k∈ks->∀ i,(ad=ah->i≠ab)->Q (.there i) s)
  (h2:k∉ks->∀ N,(∀ m<N,iS t (rd t.mask (dE w (.tuple k)) m).j)->¬ iS t (rd t.mask (dE w (.tuple k)) N).j->Q (.free (rd t.mask (dE w (.tuple k)) N).j ah) s) :
  ∀ fuel n kr,kr.getD (t.probeStart (dE w (.tuple k)))=rd t.mask (dE w (.tuple k)) n->(∀ m<n,∃ i:Nat,t.place[i]?=aa (rd t.mask (dE w (.tuple k)) m).j/\∀ k',ks[i]?=aa k'->k'≠k)->10*turns t.mask<fuel+n ->
   aL (aP prog w) A (setSearchFrom a (.ref b) (dE w (.tuple k)) ad fuel kr) Q E s
 |0,n,kr,_,hv,hf=>by
  obtain⟨e,he,df⟩:=S.fine.good.empty;obtain⟨N,hN,eN⟩:=XS S.fine.good.small (dE w (.tuple k)) he;obtain⟨i,q,_⟩:=hv N ()
  exact absurd ⟨i,eN ▸ q⟩ df
 |fuel+1,n,kr,dm,hv,hf=>by
  have G:=S.fine.good;have xp:∀ m<n,iS t (rd t.mask (dE w (.tuple k)) m).j:=λm hm=>by
   obtain⟨i,q,_⟩:=hv m hm;exact⟨i,q⟩
  have ve:∀ (i:Nat) (e:Int×aD),es[i]?=aa e->∃ k',ks[i]?=aa k'/\xc w B s.heap e k':=λi e q=>vG S.els (by rw[oY];exact q)
  unfold setSearchFrom;refine aG (tZ S.get S.data S.fine.fits ?_);rw[13];rw[S.fine.odd];simp only[gV,if_false];rw[dm];split
  .rename_i met Q0;obtain⟨N,hnN,hN,hm,hc⟩:=G.met xp Q0 (λi e he=>by
    show(es[i]?.map (·.1)).getD 0=e.1;rw[he]
    rfl)
   have zq:∀ m<N,iS t (rd t.mask (dE w (.tuple k)) m).j:=λm hmN=>by
    rcases Nat.lt_or_ge m n with c|c
    .exact xp m c
    .obtain⟨i,e,q,_⟩:=hm m c hmN;exact⟨i,q⟩
   rcases hc with⟨df,hr⟩|⟨i,e,hp,zr,hh,hr⟩
   .cases hr;rw[13];have hnk:k∉ks:=λmem=>by
     obtain⟨i,hi,ei⟩:=Jq.1 mem;have jk:ks[i]?=aa k:=by rw[fY hi,ei]
     obtain⟨e,q,b',_,hh,_⟩:=IW S.els jk;rw[oY] at q;have hi2:=(uO.1 q).1;have hi3:i<t.place.size:=by rw[G.len];exact hi2
     have cz:=mR hi3;obtain⟨M,hM,hMl⟩:=G.reach i _ e cz q;rw[hh] at hM hMl;rcases wX N M with c|c|c
     .exact df (hMl N c)
     .subst c;exact df ⟨i,by rw[cz,hM]⟩
     .have uniq:∀ i':Nat,t.place[i']?=aa (rd t.mask (dE w (.tuple k)) M).j->i'=i:=λi' q'=>by
       rw[hM] at q';rcases wX i' i with z|z|z
       .have:=G.ris _ _ _ _ z q' cz;lia
       .exact z
       .have:=G.ris _ _ _ _ z cz q';lia
      grind
    exact aM (h2 hnk N zq df)
   .cases hr;rw[13];obtain⟨k',ce,b',eb,eh,jw,_⟩:=ve i e zr;have zu:∀ y∈((es.filter (·.1==dE w (.tuple k))).toList.map (·.2)),∃ k' b',y=.ref b'/\Abn s.heap k' b':=λy my=>by
     obtain⟨e',me,rfl⟩:=bK.1 my;rw[Array.toList_filter] at me;obtain⟨q1,_⟩:=oR.1 me;obtain⟨i',uu,jk⟩:=Jq.1 q1;obtain⟨k2,_,b2,z1,_,z2,_⟩:=vG S.els (by rw[fY uu,jk])
     exact⟨k2,b2,z1,z2⟩
    obtain⟨eh0,ey⟩:=e;have eb:=eb;have hh:=hh;subst eb;have hnext:k'≠k->aL (aP prog w) A (setSearchFrom a (.ref b) (dE w (.tuple k)) ad fuel (aa (rd t.mask (dE w (.tuple k)) (N+1)))) Q E s:=λdf=>by
     refine Ax S hk hu h1 h2 fuel (N+1) _ rfl (λm hmN=>?_) ()
     rcases Nat.lt_or_ge m n with c|c
     .exact hv m c
     .rcases Nat.lt_or_ge m N with c2|c2
      .obtain⟨i',e',q',qe,hne'⟩:=hm m c c2;refine⟨i',q',λk2 hk2 e2=>?_⟩
       obtain⟨k3,hk3,_,_,z,_⟩:=ve i' e' qe
       grind
      all_goals grind
    have ww:t.sameMemory t.moves t.mask=aa af:=by simp[sameMemory]
    split
    case' isTrue=>refine aG (Vk hk zu ?_);simp only[gV,if_false]
    all_goals
     rw[zr];rw[13];refine aG (eY ((kB prog w).eqBool hu jw hk ?_));refine aG (tZ S.get S.data S.fine.fits ?_);rw[13];have mem:=λe:k'=k=>h1 (by rw[<-e];exact eT ce)
     by_cases ea:(ad&&decide (k'=k))=af
     .rw[if_pos ea];obtain⟨rfl,e⟩:=iI.1 ea;exact aM (mem (of_decide_eq_true e) ab λz=>nomatch z)
     .rw[if_neg ea,ww];rw[13];simp only[if_true];rw[(EM G.nod G.ris).2 hp];rw[13];rw[zr];rw[13];refine aG (wpAny_isSame_ref_self (aG (aM ?_)));simp only[if_true];by_cases ek:k'=k
      .rw[decide_eq_true ek,if_pos rfl];exact aM (mem ek (aa i) λ_=>by simp)
      all_goals grind
  .rename_i Q0;exact(G.nope xp Q0).elim
end
section
variable {B:aah->aC->Prop}
theorem YG(ho:h.get? a=aa o)(hd:o.data=.set es ep t)(hs:mP a h h'){k:aah}{b:aC}(hk:Abn h k b):Abn h' k b:=
 hk.keep λc oc vs n hc _ jw=>by
  have df:c≠a:=by
   grind
  exact(hs.2 c df).trans hc
theorem pK {α β:Type}{R R':α->β->Prop}(f:∀ a b,R a b->R' a b):∀ {as:List α} {bs:List β},dG R as bs->dG R' as bs
 |_,_,.nil=>.nil
 |_,_,.cons h t=>.cons (f _ _ h) (pK f t)
theorem JK {α β:Type}{R:α->β->Prop}{as on:List α}(p:on.Perm as):∀ {bs:List β},dG R as bs->∃ uw,dG R on uw/\uw.Perm bs:=by
 induction p with
 |nil=>intro bs h;exact⟨bs,h,.refl _⟩
 |cons x p ih=>
  intro bs h;cases h with
  |cons h t=>
   obtain⟨uw,h1,h2⟩:=ih t;exact⟨_,.cons h h1,h2.cons _⟩
 |swap x y l=>
  intro bs h;cases h with
  |cons h t=>
   cases t with
   |cons h' t'=>exact⟨_,.cons h' (.cons h t'),.swap _ _ _⟩
 |trans p q ih1 ih2=>
  intro bs h;obtain⟨b1,h1,h2⟩:=ih2 h;obtain⟨b2,h3,h4⟩:=ih1 h1;exact⟨b2,h3,h4.trans h2⟩
theorem VO {α β:Type}{R:α->β->Prop}{a:α}{b:β}(h:R a b):∀ {as:List α} {bs:List β},dG R as bs->dG R (as++[a]) (bs++[b])
 |_,_,.nil=>.cons h .nil
 |_,_,.cons h' t=>.cons h' (VO h t)
def SetT (w:bA)(B:aah->aC->Prop)(h:aU)(a:aC)(ks:lm):Prop:=∃ o es ep t fy,SetAt w B h a o es ep t fy/\fy.Perm ks
theorem Au(ho:h.get? a=aa o)(hex:o.ExactSet)(hd:o.data=.set es ep t)(gc:aae)(t':eM) :
  ∃ o',(h.update a (AI gc t')).get? a=aa o'/\o'.ExactSet/\o'.data=.set gc (ep+1) t'/\mP a h (h.update a (AI gc t')):=by
 have hg:=rV (AI gc t') ho (by rw[putSet_of gc t' hd];rfl)
 rw[putSet_of gc t' hd] at hg;exact⟨_,hg,hex,rfl,xG h a _⟩
theorem Oe{b:aC}{k:aah}{Q:Bool->aH->Prop}{fuel:Nat}
  (S:SetAt w B s.heap a o es ep t ks) (hk:Abn s.heap k b) (hB:B k b) (hi:qV k) (hu:A.units+20<cLine) (ko:es.size+1<=4914)
  (h:∀ h',mP a s.heap h'->SetT w B h' a (if k∈ks then ks else ks++[k])->Q (decide (k∉ks)) { s with heap:=h' }) :
  aL (aP prog w) A (setAddHashedIn a (.ref b) (dE w (.tuple k)) (fuel+1)) Q E s:=by
 have G:=S.fine.good;have e0:s={ s with heap:=s.heap }:=by cases s;rfl
 unfold setAddHashedIn;refine aG (tZ S.get S.data S.fine.fits ?_);rw[13];have hbs:byScan (.ref b) es=ah:=by simp[byScan,Value.scannable]
 rw[hbs];simp only[gV,if_false];unfold setSearch;refine aG (Ax S hk hu (λmem _ _=>?_) (λhn N hl df=>?_) 100000 0 ab rfl (λm hm=>absurd hm ()) (by
  rcases G.small with e|e|e|e|e|e<;>rw[e]<;>decide))
 .rw[13];refine aM ?_;have:=h s.heap (Heap.SameBut.refl a s.heap) (by rw[if_pos mem];exact⟨o,es,ep,t,ks,S,.refl _⟩)
  rw[e0,show ah=decide (k∉ks) from(decide_eq_false (λz=>z mem)).symm]
  exact this
 .rw[13];refine aG (tZ S.get S.data S.fine.fits ?_);rw[13];rw[Nc G.nod];rw[13];have wx:es.size<t.mask:=by
   have:=S.fine.few
   grind
  have tail:∀ pl:Bool,pl=af->aL (aP prog w) A (do
    storeSet a (insertAt es (below t.place (rd t.mask (dE w (.tuple k)) N).j) (dE w (.tuple k),.ref b)) { t with place:=insertAt t.place (below t.place (rd t.mask (dE w (.tuple k)) N).j) (rd t.mask (dE w (.tuple k)) N).j,plain:=pl }
    if (!ah&&({ t with place:=insertAt t.place (below t.place (rd t.mask (dE w (.tuple k)) N).j) (rd t.mask (dE w (.tuple k)) N).j,plain:=pl }:eM).tooFull)=af then do
      setRelay a (SetTable.grown (es.size+1))
      pure af
     else pure af) Q E s:=λpl cz=>by
   have G':=G.put (x:=.ref b) hl df wx pl;have vf:=insertAt_perm es (below t.place (rd t.mask (dE w (.tuple k)) N).j) (dE w (.tuple k),eJ b);rw[Array.toList_push] at vf;have hsz:=DZ es (below t.place (rd t.mask (dE w (.tuple k)) N).j) (dE w (.tuple k),eJ b);generalize insertAt es (below t.place (rd t.mask (dE w (.tuple k)) N).j) (dE w (.tuple k),eJ b)=jb at *;generalize V5:({ t with place:=insertAt t.place (below t.place (rd t.mask (dE w (.tuple k)) N).j) (rd t.mask (dE w (.tuple k)) N).j,plain:=pl }:eM)=t1 at *;have hm1:t1.mask=t.mask:=by rw[<-V5]
   have le1:t1.led=!fQ w:=by rw[<-V5];exact S.led
   have pn1:t1.plain=af:=by rw[<-V5];exact cz
   obtain⟨o1,g1,x1,d1,wy⟩:=Au S.get S.exact S.data jb t1;have V6:dG (xc w B s.heap) (es.toList++[(dE w (.tuple k),eJ b)]) (ks++[k]):=VO ⟨b,rfl,rfl,hk,hB⟩ S.els;obtain⟨ks1,zv,p1⟩:=JK vf V6;have zw:ks1.Nodup:=p1.nodup_iff.2 (AO.2 ⟨S.nod,by simp,λx hx y hy e=>hn (by rw[<-cF.1 hy,<-e];exact hx)⟩)
   have vg:∀ e k',xc w B s.heap e k'->xc w B (s.heap.update a (AI jb t1)) e k':=λe k' ⟨b',q1,q2,q3,q4⟩=>⟨b',q1,q2,YG S.get S.data wy q3,q4⟩
   refine aG (wpAny_storeSet_of S.get S.data ?_ (by have:sizeLine=sizeLine:=rfl;rw[mL];lia))
   have zx:t1.fits jb.size=af:=by
    have a1:=G'.len;have a2:=G'.nod;have a3:=G'.room;simp[SetTable.fits,PU,a1,a2,a3]
   by_cases hf:t1.tooFull=af
   .rw[if_pos (by simpa using hf)]
    have a1:=G'.len;have a2:=G'.nod;have V7:=S.fine.few;have vh:t1.mask*3<=jb.size*5:=by
     simp[SetTable.tooFull,PU,a1,a2] at hf;exact hf
    obtain⟨M,hM,hM2,zy⟩:=C3 (t:=t) (n:=es.size+1) G.small (by simpa using V7.1) () (by rw[hm1,hsz] at vh;exact vh) ko
    have hM3:jb.size<=M:=by
     grind
    obtain⟨t2,fq,el,G2,p2,m2,le2,pl2,_⟩:=A8 (mask:=M) hM jb hM3 t1.finger (t1.movedTo M) t1.led t1.plain;have hre:t1.relaid (jb.map (·.1)) (SetTable.grown (es.size+1))=aa (t2,fq):=by
     unfold SetTable.relaid;rw[zy];exact el
    have zz:(fq.filterMap (jb[·]?)).size=jb.size:=by
     rw[<-jU,p2.length_eq,jU]
    rw[11];unfold setRelay;refine aG (tZ g1 d1 zx ?_);rw[13];rw[if_neg (by rw[mL,zy];rcases hM with e|e|e|e|e|e<;>rw[e]<;>decide),hre]
    refine aG (show aL (aP prog w) A (do
     let gc:=fq.filterMap (jb[·]?)
     if gc.size != jb.size then OW "internal:set-table-lost-an-element"
     pure (gc,t2)) _ E _ from ?_)
    rw[13];rw[if_neg (by rw[zz];simp)]
    refine aM ?_;generalize fq.filterMap (jb[·]?)=Q1 at *;obtain⟨o2,g2,x2,d2,xt⟩:=Au g1 x1 d1 Q1 t2;rw[13];refine wpAny_storeSet_of g1 d1 ?_ (by rw[mL];lia)
    refine aM ?_;obtain⟨At,V8,q2⟩:=JK p2 zv;have AT:∀ e k',xc w B s.heap e k'->xc w B ((s.heap.update a (AI jb t1)).update a (AI Q1 t2)) e k':=λe k' z=>by
     obtain⟨b',z1,z2,z3,z4⟩:=vg e k' z;exact⟨b',z1,z2,YG g1 d1 xt z3,z4⟩
    rw[show af=decide (k∉ks) from(decide_eq_true hn).symm]
    exact h _ (wy.trans xt) (by rw[if_neg hn];exact⟨o2,Q1,ep+1+1,t2,At,⟨g2,x2,d2,⟨G2,by rw[zz,m2,hsz];exact hM2,()⟩,le2.trans le1,pl2.trans pn1,pK (λe k'=>AT e k') V8,q2.nodup_iff.2 zw⟩,q2.trans p1⟩)
   .rw[if_neg (by simpa using hf)]
    have few:jb.size*5<t1.mask*3/\jb.size<=4914:=by
     have a1:=G'.len;have a2:=G'.nod;refine⟨?_,()⟩
     simp[SetTable.tooFull,PU,a1,a2] at hf
     lia
    refine aM ?_;rw[show af=decide (k∉ks) from(decide_eq_true hn).symm]
    exact h _ wy (by rw[if_neg hn];exact⟨o1,jb,ep+1,t1,ks1,⟨g1,x1,d1,⟨G',few⟩,le1,pn1,pK (λe k'=>vg e k') zv,zw⟩,p1⟩)
  rw[if_pos S.plain];refine aG (K3 hk hi ?_);simp only[if_true];exact tail t.plain S.plain
end
section
variable {B:aah->aC->Prop}
theorem SetT.len(S:SetT w B h a ks):∃ o es ep t,h.get? a=aa o/\o.ExactSet/\o.data=.set es ep t/\t.fits es.size=af/\es.size=ks.length:=by
 obtain⟨o,es,ep,t,fy,am,p⟩:=S;refine⟨o,es,ep,t,am.get,am.exact,am.data,am.fine.fits,?_⟩;have:=lQ am.els;rw[jU] at this;rw[this,p.length_eq]
theorem SetT.keep(S:SetT w B h a ks)(k1:∀ o,h.get? a=aa o->h'.get? a=aa o)(k2:∀ b o vs n,h.get? b=aa o->o.cls=.type "tuple" -> o.data=.seq vs n->h'.get? b=aa o):SetT w B h' a ks:=by
 obtain⟨o,es,ep,t,fy,am,p⟩:=S;exact⟨o,es,ep,t,fy,⟨k1 o am.get,am.exact,am.data,am.fine,am.led,am.plain,pK (λe k ⟨b,q1,q2,q3,q4⟩=>⟨b,q1,q2,q3.keep k2,q4⟩) am.els,am.nod⟩,p⟩
theorem Vw {ls:lm}(p:ks.Perm ls)(k:aah):(if k∈ks then ks else ks++[k]).Perm (mD ls k):=by
 unfold mD
 grind
theorem Vb{b:aC}{k:aah}{Q:Bool->aH->Prop}
  (S:SetT w B s.heap a ks) (hk:Abn s.heap k b) (hB:B k b) (bi:∀ k b,B k b->qV k) (hu:A.units+20<cLine) (ko:ks.length+1<=4914)
  (h:∀ h' c,mP a s.heap h'->SetT w B h' a (mD ks k)->Q c { s with heap:=h',toks:=s.toks+rA (.tuple k) }) :
  aL (aP prog w) A (setAdd a (.ref b)) Q E s:=by
 obtain⟨o,es,ep,t,fy,am,p⟩:=S;unfold setAdd;refine eY (aG ((kB prog w).pyHash hu hk ?_));unfold setAddHashed;have zr:es.size=ks.length:=by
  have:=lQ am.els;rw[jU] at this;rw[this,p.length_eq]
 refine eY (Oe am hk hB (bi _ _ hB) hu () λh' sb S'=>h h' _ sb ?_)
 obtain⟨o',gc,oz,t',At,Z',p'⟩:=S';exact⟨o',gc,oz,t',At,Z',p'.trans (Vw p k)⟩
theorem D5 (aq:lm)(k:aah):aq.length<=(mD aq k).length:=by
 unfold mD
 grind
theorem Br:∀ (kss aq:lm),aq.length<=(kss.foldl mD aq).length
 |[],aq=>bB _
 |k::r,aq=>dI (D5 aq k) (Br r (mD aq k))
theorem Ym (kss:lm)(i:Nat):(hJ (kss.take i)).length<=(hJ kss).length:=by
 have e:hJ kss=(kss.drop i).foldl mD (hJ (kss.take i)):=by
  unfold hJ;rw[<-uK,QP]
 rw[e];exact Br _ _
theorem Vu{fp:aan}{P:Nat->aD->Prop}{St:Nat->aH->Prop}
  (W:WalksS prog w A.in1 I fp wr G n P St) (bi:∀ k b,B k b->qV k) (hu:A.units+30<cLine) (S:aC) (wq:S∉fp) (kss:lm) (hn:(hJ kss).length<=4900)
  (hT:∀ i s,St i s->∀ c∈wr,∀ o,s.heap.get? c=aa o->o.cls ≠ .type "tuple") :
  ∀ (k i:Nat) (s:aH),n-i=k->i<=n->St i s->SetT w B s.heap S (hJ (kss.take i))->(∀ j v,P j v->∃ b q,v=.ref b/\kss[j]?=aa q/\Abn s.heap q b/\B q b) ->
   (∀ s',Moved (S::wr) G s s'->SetT w B s'.heap S (hJ (kss.take n))->R (.ok (.ret .none)) s') ->
   jQ (aP prog w) A (.builtin "set.update.loop" ⟨[.ref S,.ref I],[]⟩) R s:=by
 have BT:S∉wr:=λz=>wq (W.sub _ z)
 have more:∀ b∈wr,b∈S::wr:=λb z=>bL _ z
 have ku:∀ {i s s'},St i s->Moved wr G s s'->∀ b o vs m,s.heap.get? b=aa o->o.cls=.type "tuple" -> o.data=.seq vs m->s'.heap.get? b=aa o:=λ{i s s'} st hm b o vs m q c _=>
  hm.heap b o (λz=>hT i s st b z o q c) q
 intro k;induction k with
 |zero=>
  intro i s hk hi dm hS hP hR;obtain rfl:i=n:=()
  refine jP F.entry_set_update_loop ?_;rw[kY Kh _];refine aG (W.done s _ _ dm λs' hm=>?_)
  exact aM (hR s' (hm.mono more) (hS.keep (λo q=>hm.heap S o BT q) (ku dm hm)))
 |succ k ih=>
  intro i s hk hi dm hS hP hR;have bm:i<n:=()
  refine jP F.entry_set_update_loop ?_;rw[kY Kh _];refine aG (W.item i s _ _ bm dm λv s' zk il hm=>?_)
  obtain⟨b,q,rfl,hq,hd,hB⟩:=hP i v zk;have gj:=hS.keep (λo z=>hm.heap S o BT z) (ku dm hm)
  have im:hJ (kss.take (i+1))=mD (hJ (kss.take i)) q:=by
   rw[uH,hq];simp[hJ,uK]
  have ax:=dI (Ym kss i) hn;refine aG (eY (Vb gj (hd.keep (ku dm hm)) hB bi (by show A.units+1+20<cLine;lia) () λh' c sb S2=>?_))
  obtain⟨o2,Q1,ep2,t2,g2,_,d2,_⟩:=gj.len;have kt:∀ b o vs m,s'.heap.get? b=aa o->o.cls=.type "tuple" -> o.data=.seq vs m->h'.get? b=aa o:=λb o vs m z _ z'=>by
   have df:b≠S:=by
    grind
   exact(sb.2 b df).trans z
  refine aM ⟨kR Kh _,ih (i+1) _ () bm (W.frame _ s' _ _ il (QK _ _) λc hc o e=>?_) (by rw[im];exact S2) (λj v z=>?_) λsx qg S3=>?_⟩
  .exact(sb.2 c (λz=>wq (z ▸ hc))).trans e
  .obtain⟨b',q',e1,e2,e3,e4⟩:=hP j v z;exact⟨b',q',e1,e2,(e3.keep (ku dm hm)).keep kt,e4⟩
  .exact hR sx (Moved.trans W.gtrans ((hm.mono more).then_heap (QK _ _) λc o hc e=>(sb.2 c (λz=>hc (z ▸ bE))).trans e) qg) S3
end
section
variable {B:aah->aC->Prop}
theorem Ww(e:h.get? a=aa (Akw (!fQ w))):SetT w B h a []:=
 ⟨Akw (!fQ w),#[],0,.fresh 0 0 (!fQ w),[],⟨e,⟨rfl,rfl,rfl⟩,rfl,Xk _,rfl,rfl,.nil,.nil⟩,.refl _⟩
set_option maxHeartbeats 4000000 in
theorem D7{N:aU->Prop}(hh:A.handled=ab)(hl:s.heap.IsList l aj)
  (hp:∀ (A':bP) (R:oP->aH->Prop) (I:aC) (s1:aH),A'.units=A.units+2->WalksS prog w A'.in1 I [I,l] [I] (λa b=>b=a) aj.size (λi v=>aj[i]?=aa v) (λi s=>s.heap.IsListIter I l i/\s.heap.IsList l aj) ->
   s.heap.objs.size∉[I,l]->s1.heap.IsListIter I l 0/\s1.heap.IsList l aj->(∀ b o,s.heap.get? b=aa o->s1.heap.get? b=aa o)->s1.heap.get? s.heap.objs.size=aa (Akw (!fQ w)) ->
   (∀ s',Moved [s.heap.objs.size,I] (λa b=>b=a) s1 s'->N s'.heap->R (.ok (.ret .none)) s')->jQ (aP prog w) A' (.builtin "set.update.loop" ⟨[.ref s.heap.objs.size,.ref I],[]⟩) R s1)
  (h:∀ (h':aU) (tk:Nat),s.toks<=tk->N h'->(∀ b o,b<s.heap.objs.size->s.heap.get? b=aa o->h'.get? b=aa o)->Q (.ref s.heap.objs.size) { s with heap:=h',toks:=tk }) :
  aL (aP prog w) A (call (.type "set") [.ref l]) Q E s:=by
 obtain⟨c,tl,hmro⟩:=uN.mro;have Ch:=uN.made;have cg:=uN.sub;refine wpAny_call (codeAny_of_tree (show aL _ _ (callAny (.type "set") _) _ _ _ from ?_))
 refine aM ⟨Code.quiet_builtin _ (by rw[0]),jP F.entry_type_call ?_⟩
 rw[Around.under_plain (weight_type_call_type "set" [.ref l] []) rfl];have z1:=uN.notType;have z2:=uN.canCreate;have z3:=F.typeCall_set_1 (.ref l)
 repeat (any_goals (first|assumption|wp_step))
 refine wM (d4 (.ref l) (E:=E) (Q₁:=λu s₁=>u=.ref s.heap.objs.size/\s₁={ s with heap:=s.heap.push (Akw (!fQ w)) }) ⟨rfl,rfl⟩) λr s₁ hr=>?_
 match r,hr with
 |.error e,hr=>exact hr
 |.ok (.ret u),hr=>
  obtain⟨rfl,rfl⟩:=hr;generalize V9:(!fQ w)=led;have gS:(s.heap.push (Akw led)).get? s.heap.objs.size=aa (Akw led):=cI _ rfl;have hT:Shared.TypeIs { s with heap:=s.heap.push (Akw led) } (.ref s.heap.objs.size) "set":=⟨_,gS,rfl⟩;have y1:=uN.init.lookup;have y2:=uN.init.bind (.ref s.heap.objs.size)
  repeat (any_goals (first|assumption|wp_step))
  refine wM (Ip (R:=wants (λr s₂=>r=.none/\∃ h' tk,s.toks<=tk/\s₂={ s with heap:=h',toks:=tk }/\N h'/\(∀ b o,b<s.heap.objs.size->s.heap.get? b=aa o->h'.get? b=aa o)) E) uN.init.plain F.entry_set_init (check_set_init_1 hT ?_)) λr₂ s₂ io=>?_
  .obtain⟨ol,gl,cl,nl,dl⟩:=hl;obtain⟨ocls,Db,odata,wz⟩:=ol;simp only at cl dl;subst cl;subst dl;have gl':(s.heap.push (Akw led)).get? l=aa { cls:=.type "list",dict:=Db,data:=.seq aj nl,slots:=wz }:=bF _ gl;have x1:=F.sub_list_set;have x2:=F.sub_list_frozenset;have x3:(kE "list" == kE "dict")=ah:=by decide
   have L1:(s.heap.push (Akw led)).IsList l aj:=⟨_,gl',rfl,nl,rfl⟩;unfold Builtin.«set.__init__» noKeywords Builtin.Frozenset.updateFrom;generalize hPI:nE=PI
   wp_walk
   subst hPI;refine wD L1 (aG (wpAny_runValue ?_));have lS:l<s.heap.objs.size:=bM gl;have hI:(s.heap.push (Akw led)).objs.size=s.heap.objs.size+1:=mO _ _;have nI:l≠(s.heap.push (Akw led)).objs.size:=by rw[hI];exact cO (AK lS)
   have nS:s.heap.objs.size∉[(s.heap.push (Akw led)).objs.size,l]:=by
    intro z;rw[hI] at z;rcases cV.1 z with z|z
    .exact absurd z (cO (QI _))
    .exact absurd (cF.1 z) (lT lS)
   have gI:((s.heap.push (Akw led)).push { cls:=.type "list_iterator",data:=.fields #[.ref l,.int 0 0] }).get? s.heap.objs.size=aa (Akw led):=bF _ gS;refine hp _ _ _ _ rfl ((Walks.list (by simp[hh]) _ l nI aj).toS) nS ⟨⟨_,cI _ rfl,rfl,rfl⟩,L1.push _⟩ (λb o e=>bF _ (bF _ e)) (by rw[V9];exact gI) λs' hm S'=>?_
   obtain⟨h',g',d',rn,ul⟩:=s';obtain rfl:g'=s.gens:=hm.gens;obtain rfl:d'=s.drawn:=hm.drawn;obtain rfl:ul=s.os:=hm.os;show aL _ _ _ _ _ _;refine aM ?_;show aL _ _ (ret eE) _ _ _;refine aM ⟨rfl,h',rn,hm.toks,rfl,S',λb o hb e=>?_⟩
   refine hm.heap b o (λz=>?_) (bF _ (bF _ e))
   rw[hI] at z;rcases cV.1 z with z|z
   .exact absurd z (cO hb)
   .exact absurd (cF.1 z) (cO (AK hb))
  .match r₂,io with
   |.error e,io=>exact io
   |.ok (.ret v),io=>
    obtain⟨rfl,h',tk,ht,rfl,S',ce⟩:=io
    repeat (any_goals (first|assumption|wp_step))
    exact h _ _ ht S' ce
theorem C5(hh:A.handled=ab)(bi:∀ k b,B k b->qV k)(hu:A.units+40<cLine)(hl:s.heap.IsList l aj)
  (hd:∀ (j:Nat) v,aj[j]?=aa v->∃ b q,v=.ref b/\kss[j]?=aa q/\Abn s.heap q b/\B q b) (ax:(hJ kss).length<=4900) (gp:kss.length=aj.size)
  (h:∀ (h':aU) (tk:Nat),s.toks<=tk->SetT w B h' s.heap.objs.size (hJ kss)->(∀ b o,b<s.heap.objs.size->s.heap.get? b=aa o->h'.get? b=aa o)->Q (.ref s.heap.objs.size) { s with heap:=h',toks:=tk }) :
  aL (aP prog w) A (call (.type "set") [.ref l]) Q E s:=by
 refine D7 hh hl (λA' R I s1 ha W nS st kp gI q=>?_) h
 refine Vu W bi () s.heap.objs.size nS kss ax (λi s1 st c hc o e z=>?_) (aj.size-0) 0 _ rfl (eG _) st (Ww gI) (λj v e=>?_) λs' hm S'=>q s' hm (by rw[<-wY (l:=kss),gp];exact S')
 .obtain⟨⟨o',g',c',_⟩,_⟩:=st
  grind
 .obtain⟨b,q,q1,q2,q3,q4⟩:=hd j v e;exact⟨b,q,q1,q2,q3.keep λb o vs m z _ _=>kp b o z,q4⟩
end
abbrev isO (a:aC)(o:bD):HO:=.ext λh=>h.get? a=aa o
abbrev Refs (H:Hp)(ys:aai)(kss:lm):Prop:=dG (λy k=>∃ b,y=V.ref b/\Aqk H k b) ys kss
theorem Hm:∀ {kss:lm} {ys:aai},(∀ ks∈kss,bR ks=af/\cU ks<=6)->Aak K H (kss.map dM) ys->Refs H ys kss
 |[],ys,_,r=>by rw[Aai.1 r];exact .nil
 |k::kss,ys,hk,r=>by
  obtain⟨v,t,rfl,r1,r2⟩:=Aae.1 r;obtain⟨b,rfl,tk⟩:=r1.tupK (hk k bE).1 (hk k bE).2;exact .cons ⟨b,rfl,tk⟩ (Hm (λx m=>hk x (bL _ m)) r2)
theorem Refs.le(x:∀ c zs,H c=aa (.tup zs)->H' c=aa (.tup zs))(r:Refs H ys kss):Refs H' ys kss:=pK (λy k ⟨b,e,t⟩=>⟨b,e,t.keep x⟩) r
abbrev sL (h:aU)(r l:aC)(i:Int):Prop:=h.get? r=aa { cls:=.type "list_reverseiterator",dict:=ab,data:=.fields #[.ref l,dF i],slots:=#[] }
theorem Ac3:PY "list_reverseiterator" "__next__" "list_reverseiterator.__next__":=
 .of (owner:="list_reverseiterator") (n:="__next__") (by rw[wJ,wO];kernel_rfl) (by rw[0]) (by rw[0]) (by rw[0])
  (by first|exact .inl (by rw[0])|exact .inr (by rw[0])) (by rw[uB];kernel_rfl)
theorem Eu:uC table "list_reverseiterator.__next__" = aa Builtin.«list_reverseiterator.__next__»:=PM (by kernel_rfl)
theorem Aq:Manifest.owners.lookup (String.ofList "list_reverseiterator".toList.reverse.reverse)=aa Manifest.sig_list_reverseiterator:=by kernel_rfl
theorem Ee (a:aD):qF "list_reverseiterator.__next__" ⟨[a],[]⟩:=by
 unfold qF;rw[PD (id:="list_reverseiterator.__next__") (n:="__next__".toList.reverse) (o:="list_reverseiterator".toList.reverse) (by kernel_rfl) Aq]
 kernel_rfl
theorem Ei:PY "list_reverseiterator" "__iter__" "list_reverseiterator.__iter__":=
 .of (owner:="list_reverseiterator") (n:="__iter__") (by rw[wJ,wO];kernel_rfl) (by rw[0]) (by rw[0]) (by rw[0])
  (by first|exact .inl (by rw[0])|exact .inr (by rw[0])) (by rw[uB];kernel_rfl)
theorem j7:uC table "list_reverseiterator.__iter__" = aa Builtin.«dict_keyiterator.__iter__»:=
 PN (id':="dict_keyiterator.__iter__") (by kernel_rfl) (by first|rfl|decide +kernel|(unfold Ir;simp +decide [Iq])) (by rw[0]) (by kernel_rfl)
theorem h7 (a:aD):qF "list_reverseiterator.__iter__" ⟨[a],[]⟩:=by
 unfold qF;rw[PD (id:="list_reverseiterator.__iter__") (n:="__iter__".toList.reverse) (o:="list_reverseiterator".toList.reverse) (by kernel_rfl) Aq]
 kernel_rfl
section
variable {P:bJ}
theorem z6{Q:aap->aH->Prop}(hr:sL s.heap r l (k:Int))(hl:s.heap.IsList l us)(hu:us[k]?=aa u)
  (q:∀ h',sL h' r l ((k:Int)-1)->mP r s.heap h'->Q (aa u) { s with heap:=h' }):aL (aP P w) A (gJ (.ref r)) Q E s:=by
 have ty:s.TypeIs (.ref r) "list_reverseiterator":=⟨_,hr,rfl⟩;obtain⟨ol,l1,_,nl,l2⟩:=hl;unfold gJ;refine aG (qA (lL ty Ac3 (fU Ac3 ty Eu ?_ (Ee _))));show aL _ _ (qE (.ref r) 1>>=_) _ _ s;refine aG (gC hr rfl (x:=dF k) rfl ?_);have h0:¬ ((k:Int)<0):=()
 show aL _ _ (if (k:Int)<0 then _ else _) _ _ s
 rw[if_neg h0];refine aG (gC hr rfl rfl (aG (jM l1 l2 ?_)));simp only[oW,hu];refine aG (kO hr (by simp) λh' g sb=>aM ⟨u,rfl,aM (q h' g sb)⟩)
theorem m3{i:Int}{Q:aap->aH->Prop}(hh:A.handled=ab)(hr:sL s.heap r l i)(h0:i<0)(q:∀ h',(∀ b o,s.heap.get? b=aa o->h'.get? b=aa o)->Q ab { s with heap:=h' }):aL (aP P w) A (gJ (.ref r)) Q E s:=by
 have ty:s.TypeIs (.ref r) "list_reverseiterator":=⟨_,hr,rfl⟩;unfold gJ;refine aG (qA (lL ty Ac3 (fU Ac3 ty Eu ?_ (Ee _))));show aL _ _ (qE (.ref r) 1>>=_) _ _ s;refine aG (gC hr rfl (x:=dF i) rfl ?_);show aL _ _ (if i<0 then _ else _) _ _ s
 rw[if_pos h0];refine aG (lJ (aG ?_));rw[11];simp only[newExc,newTuple];refine aG (jN ?_ (by size_fits))
 refine aG (wG (by first|rfl|(simp only[PJ];rfl)) ?_)
 refine jN ?_ (by size_fits)
 simp only[raiseNew];refine aG (OS ?_)
 first|rw[show A.in1.handled=ab from hh]|rw[hh]
 refine aG (aM (ON ?_));refine aG (pZ ⟨_,cI _ rfl,rfl⟩ FT ?_);exact aM (q _ λb o e=>bF _ (bF _ e))
theorem WZ{i:Int}(hr:sL s.heap r l i)(q:Q (.ref r) s):aL (aP P w) A (nE (.ref r)) Q E s:=by
 have ty:s.TypeIs (.ref r) "list_reverseiterator":=⟨_,hr,rfl⟩;refine FP ty Ei (fU Ei ty j7 ?_ (h7 _));exact aM ⟨_,rfl,"list_reverseiterator",_,ty,Ac3.lookup,q⟩
theorem d9{Q₁:aD->aH->Prop}(hl:s.heap.get? l=aa { cls:=.type "list",dict:=ab,data:=.seq us n,slots:=sl })
  (q:Q₁ (.ref s.heap.objs.size) { s with heap:=s.heap.push { cls:=.type "list_reverseiterator",data:=.fields #[.ref l,dF ((us.size:Int)-1)] } }) :
  jQ (aP P w) A (.call (.builtin "reversed.__new__") ⟨[.type "reversed",.ref l],[]⟩) (wants Q₁ E) s:=by
 have cg:isSubtype (.type "reversed") (.type "reversed")=pure af:=by rw[uB];kernel_rfl
 refine Ip (by rw[0]) (PM (by kernel_rfl):uC table "reversed.__new__" = aa Builtin.«reversed.__new__») (wG (show checkBuiltinCall "reversed.__new__" ⟨[.type "reversed",.ref l],[]⟩=pure Unit.unit by kernel_rfl) ?_)
 obtain⟨hp,g,d,tk,os⟩:=s;have ty:(⟨hp,g,d,tk,os⟩:aH).TypeIs (.ref l) "list":=⟨_,hl,rfl⟩;have f1:=RC.lookup;have f2:=RC.bind (.ref l);unfold Builtin.«reversed.__new__»
 wp_walk
 refine Ip RC.plain F.entry_list_reversed (RC.check _ _ _ _ _ _ _ _ ty (F.args_list_reversed_1 _) ?_)
 wp_walk
 exact q
theorem m6(hl:s.heap.get? l=aa { cls:=.type "list",dict:=ab,data:=.seq us n,slots:=sl })
  (q:Q (.ref s.heap.objs.size) { s with heap:=s.heap.push { cls:=.type "list_reverseiterator",data:=.fields #[.ref l,dF ((us.size:Int)-1)] } }):aL (aP P w) A (call (.type "reversed") [.ref l]) Q E s:=by
 have mro:mroOf (.type "reversed")=pure [.type "reversed",.type "object"]:=by rw[mroOf_type];kernel_rfl
 have lk:FR (.type "reversed") "__new__" = pure (aa (.builtin "reversed.__new__")):=by rw[wJ,wO];kernel_rfl
 have Ch:Bind.madeBy (.type "reversed")=pure (aa "reversed.__new__"):=madeBy_type mro lk (by rw[0])
 have cg:isSubtype (.type "reversed") (.type "reversed")=pure af:=by rw[uB];kernel_rfl
 have ji:isSubtype (.type "list_reverseiterator") (.type "reversed")=pure ah:=by rw[uB];kernel_rfl
 refine wpAny_call (codeAny_of_tree (show aL _ _ (callAny (.type "reversed") _) _ _ _ from ?_))
 refine aM ⟨Code.quiet_builtin _ (by rw[0]),jP F.entry_type_call ?_⟩
 rw[Around.under_plain (weight_type_call_type "reversed" [.ref l] []) rfl];have z1:(kE "reversed" == kE "type")=ah:=by rw[0]
 have z2:((Manifest.find? "reversed").bind (·.mro.findSome? λt=>(Manifest.find? t).bind λb=>if b.noNew then aa af else if b.attrs.any (·.1 == "__new__") then aa ah else ab)).getD ah=ah:=by rw[0]
 have z3:checkTypeCall "reversed" ⟨[.ref l],[]⟩=pure Unit.unit:=by kernel_rfl
 repeat (any_goals (first|assumption|wp_step))
 refine wM (d9 (E:=E) (Q₁:=λu s1=>u=.ref s.heap.objs.size/\s1={ s with heap:=s.heap.push { cls:=.type "list_reverseiterator",data:=.fields #[.ref l,dF ((us.size:Int)-1)] } }) hl ⟨rfl,rfl⟩) λr s1 hr=>?_
 match r,hr with
 |.error e,hr=>exact hr
 |.ok (.ret u),hr=>
  obtain⟨rfl,rfl⟩:=hr;refine aG (pZ (T:="list_reverseiterator") (b:=ah) ⟨_,cI _ rfl,rfl⟩ ji ?_);exact aG (lJ (aM q))
end
theorem Ui {α:Type}{l:List α}(h:i<l.length):(l[i]::l.eraseIdx i).Perm l:=by
 rw[Jz];refine List.perm_middle.symm.trans ?_;have:l.take i++l[i]::l.drop (i+1)=l:=by
  rw[<-GI h,QP]
 rw[this]
theorem Gw {α:Type}(f:Nat->Nat):∀ (n k:Nat) (l:List α) (out:Array α),l.length=n->(pickOrder.go f n k l out).toList.Perm (out.toList++l)
 |0,k,l,out,h=>by
  have:l=[]:=Jv.1 h;rw[12];show out.toList.Perm _;simp
 |n+1,k,l,out,h=>by
  have hi:f k%l.length<l.length:=AJ _ ()
  unfold pickOrder.go;rw[fY hi];rw[13];refine(Gw f n (k+1) _ _ (by rw[List.length_eraseIdx_of_lt hi];lia)).trans ?_
  rw[Array.toList_push,QX];exact(Ui hi).append_left _
theorem J3 {α:Type}(f:Nat->Nat)(xs:Array α):(pickOrder f xs).toList.Perm xs.toList:=by
 have:=Gw f xs.size 0 xs.toList #[] (by simp)
 simpa [pickOrder] using this
def jv (w:bA)(a:aC)(ep:Nat)(es:aae):List (Int×aD):=if fQ w=af then(pickOrder (w.params.setOrder a ep) es).toList else es.toList
theorem YW (w:bA)(a:aC)(ep:Nat)(es:aae):(jv w a ep es).Perm es.toList:=by
 unfold jv;split
 .exact J3 _ _
 .exact .refl _
theorem yI (w:bA)(a:aC)(ep:Nat)(es:aae):(jv w a ep es).length=es.size:=by
 rw[(YW w a ep es).length_eq,jU]
def slotAt (w:bA)(t:eM):Nat->Nat
 |0=>0
 |i+1=>if fQ w=af then 0 else t.place.getD i 0+1
theorem MB (w:bA)(t:eM)(i:Nat):slotAt w t (i+1)=if fQ w=af then 0 else t.place.getD i 0+1:=rfl
theorem Yq(hr:mC t.place)(hb:fQ w=ah)(hi:i<=t.place.size):below t.place (slotAt w t i)=i:=by
 obtain⟨b1,b2,b3⟩:=EV hr (slotAt w t i);cases i with
 |zero=>
  rcases Nat.eq_zero_or_pos (below t.place (slotAt w t 0)) with e|e
  .exact e
  .have:=b2 0 e (t.place[0]'()) (mR _)
   exact absurd this (by simp[slotAt])
 |succ i=>
  have hv:t.place[i]?=aa (t.place[i]'()):=mR _
  have es:slotAt w t (i+1)=t.place[i]'()+1:=by
   rw[MB,if_neg (by rw[hb];simp)]
   simp[Array.getD,show i<t.place.size by lia]
  rw[es] at b1 b2 b3 ⊢;rcases wX (below t.place (t.place[i]'()+1)) (i+1) with c|c|c
  .have:=b3 i () _ hv
   lia
  .exact c
  .have hv2:t.place[i+1]?=aa (t.place[i+1]'()):=mR _
   have h1:=b2 (i+1) c _ hv2;have h2:=hr i (i+1) _ _ () hv hv2
   lia
theorem YL (S:WSet w s.heap a o es ep t)(dy:fQ w=ah->(!t.plain&&decide (es.size > 1))=ah)(hi:i<=es.size){Q:Option (aD×Nat)->aH->Prop}
  (q:Q (((jv w a ep es)[i]?).map λe=>(e.2,slotAt w t (i+1))) s):aL (aP prog w) A (setNext a (slotAt w t i) i ep) Q E s:=by
 unfold setNext;refine aG (tZ S.get S.data S.fine.fits ?_);rw[13];unfold setsByText;refine aG (aG (FQ (aM ?_)));by_cases hb:fQ w=af
 .refine pY (λ_=>?_) (λz=>absurd hb z)
  rw[if_neg (by simp)]
  rw[11];unfold setWalk;refine aG (tZ S.get S.data S.fine.fits ?_);rw[13];unfold setsByText;refine aG (aG (FQ (aM ?_)));refine pY (λ_=>?_) (λz=>absurd hb z)
  refine aG (FQ (aM (aM ?_)));have e1:jv w a ep es=(pickOrder (w.params.setOrder a ep) es).toList:=by unfold jv;rw[if_pos hb]
  have e2:∀ j,slotAt w t j=0:=λj=>by
   cases j with
   |zero=>rfl
   |succ j=>rw[MB,if_pos hb]
  rw[e1,e2 (i+1),oY] at q;rw[e2 i];exact q
 .refine pY (λz=>absurd z hb) (λ_=>?_)
  have Ev:fQ w=ah:=by simpa using hb
  refine pY (λz=>?_) (λ_=>?_)
  .have z':(!t.plain&&decide (es.size > 1))=af:=z;rw[dy Ev] at z';cases z'
  .refine aG (show aL _ _ (if (!t.led&&!es.isEmpty)=af then OW "set:maker-not-led" else pure Unit.unit) _ _ _ from ?_)
   rw[if_neg (by rw[S.led,Ev];simp)]
   refine aM (aM ?_);have e1:jv w a ep es=es.toList:=by unfold jv;rw[if_neg hb]
   have hz:=S.fine.good.len;have e3:below t.place (slotAt w t i)=i:=Yq S.fine.good.ris Ev ()
   rw[e1,oY] at q;rw[e3];by_cases c:i<es.size
   .have p1:es[i]?=aa (es[i]'c):=mR _;have p2:t.place[i]?=aa (t.place[i]'()):=mR _
    have p3:slotAt w t (i+1)=t.place[i]'()+1:=by
     rw[MB,if_neg hb];simp[Array.getD,show i<t.place.size by lia]
    rw[p1,p3] at q;rw[p1,p2];exact q
   .have p1:es[i]?=ab:=Kp ()
    rw[p1] at q;rw[p1];exact q
abbrev uW (h:aU)(r a:aC)(k i n ep:Nat):Prop:=h.get? r=aa { cls:=.type "set_iterator",dict:=ab,data:=.fields #[dF k,dF i,.ref a,dF n,dF ep],slots:=#[] }
theorem Ack:PY "set_iterator" "__next__" "set_iterator.__next__":=
 .of (owner:="set_iterator") (n:="__next__") (by rw[wJ,wO];kernel_rfl) (by rw[0]) (by rw[0]) (by rw[0])
  (by first|exact .inl (by rw[0])|exact .inr (by rw[0])) (by rw[uB];kernel_rfl)
theorem Et:uC table "set_iterator.__next__" = aa Builtin.«set_iterator.__next__»:=PM (by kernel_rfl)
theorem ZI:Manifest.owners.lookup (String.ofList "set_iterator".toList.reverse.reverse)=aa Manifest.sig_set_iterator:=by kernel_rfl
theorem Eo (a:aD):qF "set_iterator.__next__" ⟨[a],[]⟩:=by
 unfold qF;rw[PD (id:="set_iterator.__next__") (n:="__next__".toList.reverse) (o:="set_iterator".toList.reverse) (by kernel_rfl) ZI]
 kernel_rfl
theorem Eh:PY "set_iterator" "__iter__" "set_iterator.__iter__":=
 .of (owner:="set_iterator") (n:="__iter__") (by rw[wJ,wO];kernel_rfl) (by rw[0]) (by rw[0]) (by rw[0])
  (by first|exact .inl (by rw[0])|exact .inr (by rw[0])) (by rw[uB];kernel_rfl)
theorem k4:uC table "set_iterator.__iter__" = aa Builtin.«dict_keyiterator.__iter__»:=
 PN (id':="dict_keyiterator.__iter__") (by kernel_rfl) (by first|rfl|decide +kernel|(unfold Ir;simp +decide [Iq])) (by rw[0]) (by kernel_rfl)
theorem h9 (a:aD):qF "set_iterator.__iter__" ⟨[a],[]⟩:=by
 unfold qF;rw[PD (id:="set_iterator.__iter__") (n:="__iter__".toList.reverse) (o:="set_iterator".toList.reverse) (by kernel_rfl) ZI]
 kernel_rfl
theorem g9:uC table "set.__iter__" = aa Builtin.«frozenset.__iter__»:=
 PN (id':="frozenset.__iter__") (by kernel_rfl) (by first|rfl|decide +kernel|(unfold Ir;simp +decide [Iq])) (by rw[0]) (by kernel_rfl)
theorem k9 (S:WSet w s.heap a o es ep t)(dy:fQ w=ah->(!t.plain&&decide (es.size > 1))=ah)(hr:uW s.heap r a (slotAt w t i) i es.size ep){e:Int×aD}(he:(jv w a ep es)[i]?=aa e){Q:aap->aH->Prop}
  (q:∀ h',uW h' r a (slotAt w t (i+1)) (i+1) es.size ep->mP r s.heap h'->Q (aa e.2) { s with heap:=h' }):aL (aP prog w) A (gJ (.ref r)) Q E s:=by
 have ty:s.TypeIs (.ref r) "set_iterator":=⟨_,hr,rfl⟩;have hi:i<es.size:=by
  rw[<-yI w a ep es];exact(cK.1 he).1
 unfold gJ;refine aG (qA (lL ty Ack (fU Ack ty Et ?_ (Eo _))));show aL _ _ (fieldsOf (.ref r)>>=_) _ _ s;refine aG (OT hr rfl ?_);refine aG (Il S.get S.data S.fine.fits ?_);rw[if_neg (by simp)]
 show aL _ _ (setNext a ((slotAt w t i:Int)).toNat ((i:Int)).toNat ((ep:Int)).toNat>>=_) _ _ s;rw[oW,oW,oW];refine aG (YL S dy () ?_)
 rw[he];refine aG (kO hr (by simp) λh1 g1 wy=>?_)
 refine aG (kO g1 (by simp) λh2 g2 xt=>aM ⟨e.2,rfl,aM (q h2 ?_ (wy.trans xt))⟩)
 exact g2
theorem Xa (hh:A.handled=ab)(S:WSet w s.heap a o es ep t)(dy:fQ w=ah->(!t.plain&&decide (es.size > 1))=ah)(hr:uW s.heap r a (slotAt w t es.size) es.size es.size ep){Q:aap->aH->Prop}
  (q:∀ h',(∀ b ob,b≠r->s.heap.get? b=aa ob->h'.get? b=aa ob)->Q ab { s with heap:=h' }):aL (aP prog w) A (gJ (.ref r)) Q E s:=by
 have ty:s.TypeIs (.ref r) "set_iterator":=⟨_,hr,rfl⟩;unfold gJ;refine aG (qA (lL ty Ack (fU Ack ty Et ?_ (Eo _))));show aL _ _ (fieldsOf (.ref r)>>=_) _ _ s;refine aG (OT hr rfl ?_);refine aG (Il S.get S.data S.fine.fits ?_);rw[if_neg (by simp)]
 show aL _ _ (setNext a ((slotAt w t es.size:Int)).toNat ((es.size:Int)).toNat ((ep:Int)).toNat>>=_) _ _ s;rw[oW,oW,oW];refine aG (YL S dy (bB _) ?_);rw[List.getElem?_eq_none (by rw[yI];exact bB _)]
 refine aG (kO hr (by simp) λh1 g1 wy=>?_)
 rw[11];simp only[newExc,newTuple];refine aG (jN ?_ (by size_fits))
 refine aG (wG (by first|rfl|(simp only[PJ];rfl)) ?_)
 refine jN ?_ (by size_fits)
 simp only[raiseNew];refine aG (OS ?_)
 first|rw[show A.in1.handled=ab from hh]|rw[hh]
 refine aG (aM (ON ?_));refine aG (pZ ⟨_,cI _ rfl,rfl⟩ FT ?_);exact aM (q _ λb ob ne e=>bF _ (bF _ ((wy.2 b ne).trans e)))
theorem t9(hr:uW s.heap r a k i n ep)(q:Q (.ref r) s):aL (aP prog w) A (nE (.ref r)) Q E s:=by
 have ty:s.TypeIs (.ref r) "set_iterator":=⟨_,hr,rfl⟩;refine FP ty Eh (fU Eh ty k4 ?_ (h9 _));exact aM ⟨_,rfl,"set_iterator",_,ty,Ack.lookup,q⟩
theorem y8 (S:WSet w s.heap a o es ep t)(dy:fQ w=ah->(!t.plain&&decide (es.size > 1))=ah)
  (q:Q (.ref s.heap.objs.size) { s with heap:=s.heap.push { cls:=.type "set_iterator",data:=.fields #[dF (0:Nat),dF (0:Nat),.ref a,dF (es.size:Nat),dF (ep:Nat)] } }):aL (aP prog w) A (nE (.ref a)) Q E s:=by
 have ty:s.TypeIs (.ref a) "set":=⟨_,S.get,S.exact.1⟩;refine FP ty F.slot_set_iter (fU F.slot_set_iter ty g9 ?_ (F.args_set_iter_1 _));show aL _ _ (Builtin.Frozenset.sizeOf a>>=_) _ _ s;unfold Builtin.Frozenset.sizeOf;refine aG (aG (Il S.get S.data S.fine.fits (aM ?_)));rw[11];unfold setDrawn;refine aG (tZ S.get S.data S.fine.fits ?_);rw[13];unfold setsByText;refine aG (aG (FQ (aM ?_)));refine aM ?_;refine pY (λz=>?_) (λ_=>aG (aM ?_))
 .have z':(!(w.params.followText "set-order")&&(!t.plain&&decide (es.size > 1)))=af:=z;cases hb:fQ w with
  |true=>
   have Ev:w.params.followText "set-order" = af:=hb;rw[Ev] at z';cases z'
  |false=>
   rw[dy hb] at z';simp at z'
 .refine aG (wpAny_setEpoch_of S.get S.data S.fine.fits ?_);exact aG (jN (aM ⟨_,rfl,"set_iterator",_,⟨_,cI _ rfl,rfl⟩,Ack.lookup,q⟩) (by size_fits))
theorem C9 (hh:A.handled=ab)(r a:aC)(ne:a≠r){h0:aU}(S:WSet w h0 a o es ep t)(dy:fQ w=ah->(!t.plain&&decide (es.size > 1))=ah) :
  Walks prog w A r [r,a] [r] es.size (λi v=>∃ e,(jv w a ep es)[i]?=aa e/\v=e.2) (λi h=>uW h r a (slotAt w t i) i es.size ep/\h.get? a=aa o) where
 sub:=λb hb=>by rw[cF.1 hb];exact bE
 frame:=λ_ _ _ st hk=>⟨hk r bE _ st.1,hk a (bL _ bE) _ st.2⟩
 item:=λi s Q E hi st hQ=>by
  have S':WSet w s.heap a o es ep t:=⟨st.2,S.exact,S.data,S.fine,S.led⟩;have hx:(jv w a ep es)[i]?=aa ((jv w a ep es)[i]'(by rw[yI];exact hi)):=fY _
  exact k9 S' dy st.1 hx λh' fu sb=>hQ _ h' s.toks ⟨_,hx,rfl⟩ ⟨fu,(sb.2 a ne).trans st.2⟩ λb o hb e=>(sb.2 b (λz=>hb (cF.2 z))).trans e
 done:=λs Q E st hQ=>by
  have S':WSet w s.heap a o es ep t:=⟨st.2,S.exact,S.data,S.fine,S.led⟩;exact Xa hh S' dy st.1 λh' he=>hQ h' s.toks λb ob hb e=>he b ob (λz=>hb (cF.2 z)) e
 self:=λ_ _ _ _ st hQ=>t9 st.1 hQ
def GQ (K:aK)(a:aC)(n:Nat):It:=
 ⟨λi H=>∃ xs,SqL K H a xs/\xs.length=n/\i<n,λi H x H'=>H'=H/\∀ xs,SqL K H a xs->xs[n-1-i]?=aa x,λi H=>n<=i⟩
theorem Vs {P:bJ}(a r:aC)(n:Nat):Turn P w K tg (GQ K a n) [r] r (λi h=>sL h r a ((n:Int)-1-i)) where
 mem:=cF.2 rfl
 obj:=λi h st b hb=>by
  rw[cF.1 hb];exact⟨_,st,λv z=>by
   have z':=z;cases z'⟩
 keep:=λi h h' st k=>k r (cF.2 rfl) _ st
 item:=by
  rw[1];obtain⟨xs,hq,hn,hi⟩:=hg;obtain⟨its,rv,p,hz⟩:=I.list hq;have hl:=rv.length;obtain⟨x,hx⟩:∃ x,xs[n-1-i]?=aa x:=⟨_,fY ()⟩
  obtain⟨u,hu,ru⟩:=rv.get hx;have ei:((n:Int)-1-i)=((n-1-i:Nat):Int):=()
  rw[ei] at st;refine z6 st p.isList (by simpa using hu) λh' fu sb=>?_
  have I1:Inv X ac Z H { s with heap:=h' }:=I.turnM hf λb o nb e=>sb.extBut b o (λq=>nb (cF.2 q)) e
  have og:sL h' r a ((n:Int)-1-((i+1:Nat):Int)):=by
   have e2:((n:Int)-1-((i+1:Nat):Int))=((n-1-i:Nat):Int)-1:=()
   rw[e2];exact fu
  exact⟨u,rfl,uU og rfl rfl nofun ⟨x,H,I1,ru,⟨rfl,λgg h=>by rw[I.list_inj h hq];exact hx⟩,og,λb hb=>(hf b hb).1⟩⟩
 done:=by
  rw[1];have hg':n<=i:=hg;exact m3 (I.ok.hd hc) st () λh' eb=>⟨rfl,I.turnM hf λb o nb e=>eb b o e⟩
 self:=λ_ _ _ _ _ st h=>WZ st h
section
variable {a:aQ}{p:bH}
def Le (K:aK)(ta:TA):TI:=λZ H R=>ta Z H λvs H1=>∃ a1 xs,vs=[.ref a1]/\SqL K H1 a1 xs/\R (GQ K a1 xs.length) H1
theorem Nh(hg:Gl X "reversed")(hm:X.mg "reversed" = ab)(ha:PA X [a] ta)(hs:bX [a] X.env=[(ah,bY a X.env)]:=by rfl):PI X tg (.Call (.Name "reversed" p) [a] [] pos) (Le X.K ta):=by
 intro ac s Z H R I h;refine Call_ (rJ I hg hm boot_reversed (FX (bb (ha pos ac s Z H _ I h) λus s1 ⟨vs,H1,I1,r1,q1⟩=>?_) hs (by rfl)))
 obtain⟨a1,xs,rfl,k1,q⟩:=q1;obtain⟨u,rfl,ru⟩:=vals1 r1;cases ru;obtain⟨its,rv,⟨o,n,ho,oh,ii,uy⟩,hz⟩:=I1.list k1;have hl:=rv.length;obtain⟨c,Z8,Z9,sl⟩:=o;simp only at oh ii uy;subst oh ii uy;have g:sL (s1.heap.push { cls:=.type "list_reverseiterator",data:=.fields #[.ref a1,dF ((its.toArray.size:Int)-1)] }) s1.heap.objs.size a1 ((its.toArray.size:Int)-1):=cI _ rfl;refine m6 ho (WZ g ?_);refine⟨s1.heap.objs.size,[s1.heap.objs.size],_,_,H1,rfl,I1.kept λb o e=>bF _ e,Vs a1 _ xs.length,?_,λb hb=>?_,q⟩
 .have e:((xs.length:Int)-1-((0:Nat):Int))=((its.toArray.size:Int)-1):=by
   rw[dU,hl];simp
  rw[e];exact g
 .rw[cF.1 hb];exact I1.fpOk (bB _) (I1.hok.fresh (bB _))
def iRv (fa:AF):AF:=λY=>(fa Y).bind λds=>match ds with
 |[.list xs]=>aa xs.reverse
 |_=>ab
theorem Uz{B:Hp}(h1:∀ H2,Ext B H2->SqL K H2 a1 xs)(r1:Aak K B ds xs):ky K B (GQ K a1 xs.length) ds.reverse:=λi H2 x2=>by
 have hl:=r1.length;refine⟨λd hd=>?_,λe=>?_⟩
 .have hi:i<ds.length:=by
   have:=(cK.1 hd).1;simpa using this
  rw[List.getElem?_reverse hi] at hd;obtain⟨v1,g1,g2⟩:=r1.get hd;refine⟨⟨xs,h1 H2 x2,rfl,()⟩,?_⟩
  rintro x H3 ⟨rfl,hx⟩;have:=hx xs (h1 _ x2);rw[hl] at this;obtain rfl:v1=x:=dY (g1.symm.trans this);exact⟨Ext.refl,λP2 _ xb=>g2.ext xb⟩
 .have e':ds.length=i:=by simpa using e
  show xs.length<=i
  lia
theorem Qi(hg:Gl X "reversed")(hm:X.mg "reversed" = ab)(ha:DA X [a] fa)(hs:bX [a] X.env=[(ah,bY a X.env)]:=by rfl) :
  DI X tg (.Call (.Name "reversed" p) [a] [] pos) (iRv fa):=PI.imp (Nh hg hm ha hs) λZ H R gh=>by
 obtain⟨P,Y,ds,hP,rs,ef,k⟩:=gh;obtain⟨as,e1,br⟩:=ao ef;clear ef;split at br
 .cases br;refine⟨P,Y,_,hP,rs,e1,λvs H1 x1 r1=>?_⟩
  obtain⟨v,rfl,q1⟩:=fK r1;obtain⟨a1,xs,rfl,hr,rr⟩:=Aa8.1 q1;exact⟨a1,xs,rfl,Aal.sqL hr,k _ H1 x1 (Uz (λH2 x2=>x2.sqL hr) rr)⟩
 .cases br
end
theorem v7{Q:Bool->aH->Prop}(ty:s.TypeIs (.ref a) "set")(q:Q ah s):aL (aP prog w) A (Km (.ref a)) Q E s:=by
 unfold Km;refine aG (tY ty F.slot_set_len.lookup ?_);generalize hid:("set.__len__" : String)=id0
 wp_delta
 rw[show splitId id0=aa ("set","__len__") from by subst hid;decide +kernel]
 subst hid;refine aG (pZ ty sub_set_self ?_);refine pY (λja=>absurd ja nofun) (λ_=>?_)
 refine pY (λ_=>?_) (λja=>absurd (by rw[0]) ja)
 refine aG (oJ ty ?_);exact aM q
set_option maxHeartbeats 4000000 in
theorem Zj(hh:A.handled=ab)(S:WSet w s.heap a o es ep t)(dy:fQ w=ah->(!t.plain&&decide (es.size > 1))=ah){Q:aam->aH->Prop}
  (q:∀ h' tk,s.toks<=tk->s.heap.objs.size<h'.objs.size->(∀ b ob,s.heap.get? b=aa ob->h'.get? b=aa ob)->Q ((jv w a ep es).map (·.2)) { s with heap:=h',toks:=tk }):aL (aP prog w) A (collect (.ref a)) Q E s:=by
 have aS:=bM S.get;unfold collect;refine aG (wpAny_runValue (jP F.entry_proto_collect ?_));rw[kY F.plain_proto_collect _];refine aG (show aL _ A.in1 (newList []) _ _ s from jN ?_)
 refine aM ⟨kR RE _,jP F.entry_list_iadd ?_⟩;rw[kY RE _];generalize wf:s.heap.push { cls:=.type "list",data:=.seq ([]:aam).toArray }=h1;have k1:∀ b ob,s.heap.get? b=aa ob->h1.get? b=aa ob:=λb ob e=>by rw[<-wf];exact bF _ e
 have z1:h1.objs.size=s.heap.objs.size+1:=by rw[<-wf];exact mO _ _
 have g1:h1.get? s.heap.objs.size=aa { cls:=.type "list",data:=.seq ([]:aam).toArray }:=by rw[<-wf];exact cI _ rfl
 have S1:WSet w h1 a o es ep t:=⟨k1 _ _ S.get,S.exact,S.data,S.fine,S.led⟩;show aL _ A.in1 (AY (.ref s.heap.objs.size) (.ref a) (.ref s.heap.objs.size)) _ _ _;unfold AY;refine aG (oJ ⟨_,S1.get,S1.exact.1⟩ ?_);have n1:RL (.ref s.heap.objs.size) (.ref a)=ah:=by simp[RL,lT aS]
 rw[if_neg (by rw[n1];decide)]
 refine aG (y8 S1 dy ?_);generalize hh2:h1.push { cls:=.type "set_iterator",data:=.fields #[dF (0:Nat),dF (0:Nat),.ref a,dF (es.size:Nat),dF (ep:Nat)] }=h2;have k2:∀ b ob,h1.get? b=aa ob->h2.get? b=aa ob:=λb ob e=>by rw[<-hh2];exact bF _ e
 have gr:uW h2 h1.objs.size a (slotAt w t 0) 0 es.size ep:=by rw[<-hh2];exact cI _ rfl
 have S2:WSet w h2 a o es ep t:=⟨k2 _ _ S1.get,S.exact,S.data,S.fine,S.led⟩;have ne:a≠h1.objs.size:=by rw[z1];exact cO (AK aS)
 refine aG (eY (v7 ⟨_,S2.get,S2.exact.1⟩ ?_));refine pY (λ_=>?_) (λz=>absurd (by rw[0]) z)
 refine aG (lJ ?_);refine aG (show aL _ A.in1 (AB s.heap.objs.size (·.push .none)>>=λ_=>AB s.heap.objs.size (·.pop)) _ _ _ from ?_)
 refine aG (tX (k2 _ _ g1) rfl ?_);have hS2:=rV (fM (·.push eE)) (k2 _ _ g1) rfl;refine tX hS2 rfl ?_;have hS3:=rV (fM (·.pop)) hS2 rfl;have xw:∀ b ob,b≠s.heap.objs.size->h2.get? b=aa ob->((h2.update s.heap.objs.size (fM (·.push eE))).update s.heap.objs.size (fM (·.pop))).get? b=aa ob:=
  λb ob hb e=>(qN _ _ (fX hb)).trans ((qN _ _ (fX hb)).trans e)
 have nS:s.heap.objs.size∉[h1.objs.size,a]:=by
  intro z;rcases cV.1 z with z|z
  .rw[z1] at z;exact absurd z (cO (QI _))
  .exact absurd (cF.1 z) (lT aS)
 have few:=S.fine.few;refine aM ⟨kR F.plain_extend_loop _,codeAny_extend_loopS ((C9 (by simp[hh]) h1.objs.size a ne S2 dy).toS) (by rw[mL];lia) _ nS _ es.size 0 _ _ _ rfl (eG _) ⟨xw _ _ (by rw[z1];exact Nat.succ_ne_self _) gr,xw _ _ (cO aS) S2.get⟩ hS3 (ItemsOf.nil _) λs' bp c' hm gj ca=>?_⟩
 refine aG (wpAny_load gj (aM ?_));obtain⟨h',g',d',rn,ul⟩:=s';obtain rfl:g'=s.gens:=hm.gens;obtain rfl:d'=s.drawn:=hm.drawn;obtain rfl:ul=s.os:=hm.os;have V':bp.toList=(jv w a ep es).map (·.2):=by
  apply Jy;intro j;rw[eU,oY];by_cases hj:j<es.size
  .have e1:bp[j]?=aa (bp[j]'(by rw[ca.1];exact hj)):=mR _
   obtain⟨e,he,ev⟩:=ca.2 j _ e1;rw[e1,he,ev]
   rfl
  .rw[Kp (by rw[ca.1];lia),List.getElem?_eq_none (by rw[yI];lia)]
   rfl
 rw[V'];refine q h' rn hm.toks (bM gj) λb ob e=>?_
 have hb:=bM e;refine hm.heap b ob (λz=>?_) (xw b ob (cO hb) (k2 _ _ (k1 _ _ e)))
 rcases cV.1 z with z|z
 .exact absurd z (cO hb)
 .have z2:=cF.1 z;rw[z1] at z2;exact absurd z2 (cO (AK hb))
theorem Sn {k k':aI}{v:aD}(r:RelV (kV k) u)(r':RelV (kV k') v):QN u v (decide (k=k')):=by
 intro prog w A E s Q q;cases k with
 |inl i=>
  obtain⟨t,rfl⟩:=(show ∃ t,u=uE i t from r)
  cases k' with
  |inl j=>
   obtain⟨t',rfl⟩:=(show ∃ t,v=uE j t from r')
   refine SeqAt.EqAt.int_int i t j t' prog w E Q ?_;have:(i==j)=decide ((uF i:aI)=uF j):=by
    rw[nL];simp
   rw[this];exact q
  |inr y=>
   obtain⟨t',rfl⟩:=(show ∃ t,v=uD y t from r')
   exact SeqAt.EqAt.int_str i t y t' prog w E Q (by simpa using q)
 |inr x=>
  obtain⟨t,rfl⟩:=(show ∃ t,u=uD x t from r)
  cases k' with
  |inl j=>
   obtain⟨t',rfl⟩:=(show ∃ t,v=uE j t from r')
   exact SeqAt.EqAt.str_int x t j t' prog w E Q (by simpa using q)
  |inr y=>
   obtain⟨t',rfl⟩:=(show ∃ t,v=uD y t from r')
   refine SeqAt.EqAt.str_str x t y t' prog w E Q ?_;have:(x==y)=decide ((jA x:aI)=jA y):=by
    rw[nL];simp
   rw[this];exact q
theorem Vq (l:aC)(us:Array aD)(n:Nat)(dd:Option aC)(sl:Array aap)(x:aD)(e:aD->Bool)(he:∀ y,y∈us->QN y x (e y))(dh:Int)(j:Nat)(hj:j<us.size)(ht:(j:Int)<dh)(hit:e us[j]=af) :
  ∀ (k i:Nat),j-i=k->i<=j->(∀ m (hm:m<us.size),i<=m->m<j->e us[m]=ah)->Meets (Builtin.«list.index.loop» ⟨[.ref l,x,dF i,dF dh],[]⟩)
   (λ_ R s=>s.heap.get? l=aa { cls:=.type "list",dict:=dd,data:=.seq us n,slots:=sl }/\R (.ok (.ret (.int j s.toks))) { s with toks:=s.toks+1 }):=by
 intro k;induction k with
 |zero=>
  intro i hk gx ji prog w A R s h;obtain⟨hp,g,d,tk,os⟩:=s;obtain⟨hl,h⟩:=h;obtain rfl:i=j:=()
  wp_walk using wpAny_loadPart' hl
  rw[show(if (i:Int)<dh then us[((i:Nat):Int).toNat]? else ab)=aa us[i] by simp[ht,hj]]
  refine aG (he _ (Array.getElem_mem hj) prog w _ _ _ _ ?_);rw[hit]
  wp_walk
  exact h
 |succ k ih=>
  intro i hk gx ji prog w A R s h;obtain⟨hp,g,d,tk,os⟩:=s;obtain⟨hl,h⟩:=h;have lt:i<us.size:=()
  have lo:(i:Int)<dh:=()
  wp_walk using wpAny_loadPart' hl
  rw[show(if (i:Int)<dh then us[((i:Nat):Int).toNat]? else ab)=aa us[i] by simp[lo,lt]]
  refine aG (he _ (Array.getElem_mem lt) prog w _ _ _ _ ?_);rw[ji i lt (bB _) ()]
  wp_walk
  rw[show((i:Int)+1)=((i+1:Nat):Int) by push_cast;rfl]
  refine⟨kR QM _,jP MeetsSeq.entry_index_loop ?_⟩;rw[kY QM _];exact ih (i+1) () () (λm hm h1 h2=>ji m hm () h2) prog w A R _ ⟨hl,h⟩
theorem E5 (l:aC)(us:Array aD)(n:Nat)(dd:Option aC)(sl:Array aap)(x:aD)(e:aD->Bool)(he:∀ y,y∈us->QN y x (e y))(j:Nat)(hj:j<us.size)(small:(j:Int)<2^63-1)(hit:e us[j]=af)(ji:∀ m (hm:m<us.size),m<j->e us[m]=ah) :
  Meets (Builtin.«list.index» ⟨[.ref l,x],[]⟩) (λ_ R s=>s.heap.get? l=aa { cls:=.type "list",dict:=dd,data:=.seq us n,slots:=sl }/\R (.ok (.ret (.int j s.toks))) { s with toks:=s.toks+1 }):=by
 intro prog w A R s h;obtain⟨hp,g,d,tk,os⟩:=s;obtain⟨hl,h⟩:=h
 wp_walk using wpAny_loadPart' hl
 rw[show((λi:Int=>if i<0 then max 0 (i+(us.size:Int)) else i) ((ab:aas).getD 0))=((0:Nat):Int) by simp,show((λi:Int=>if i<0 then max 0 (i+(us.size:Int)) else i) ((ab:aas).getD (2^63-1)))=2^63-1 by simp]
 refine⟨kR QM _,jP MeetsSeq.entry_index_loop ?_⟩;rw[kY QM _];exact Vq l us n dd sl x e he (2^63-1) j hj small hit _ 0 rfl (eG _) (λm hm _ h2=>ji m hm h2) prog w A R _ ⟨hl,h⟩
def jo (ks:aao)(k:aI):Option Nat:=ks.findIdx? λy=>decide (y=k)
theorem WQ {ks:aao}{k:aI}(h:jo ks k=aa j):ks[j]?=aa k/\∀ m,m<j->ks[m]?≠aa k:=by
 obtain⟨hj,h1,h2⟩:=List.findIdx?_eq_some_iff_getElem.1 h;refine⟨by rw[fY hj,of_decide_eq_true h1],λm hm e=>?_⟩
 have:=h2 m hm;have hl:m<ks.length:=()
 rw[fY hl] at e;exact this (decide_eq_true (dY e))
theorem EN:∀ {ks:aao} {us:aam},Vals (ks.map kV) us->∀ (m:Nat) (hm:m<us.length),∃ k,ks[m]?=aa k/\RelV (kV k) us[m]
 |[],_,.nil,m,hm=>by simp at hm
 |k::ks,_::us,.cons h t,0,hm=>⟨k,rfl,h⟩
 |k::ks,_::us,.cons h t,m+1,hm=>by
  obtain⟨k',e,r⟩:=EN t m (by simpa using hm)
  exact⟨k',by simpa using e,by simpa using r⟩
def ox (k:aI)(u:aD):Bool:=match k,u with
 |.inl i,.int j _=>decide (j=i)
 |.inr x,.str y _=>decide (y=x)
 |_,_=>ah
theorem JJ {k k':aI}(r:RelV (kV k) u):ox k' u=decide (k=k'):=by
 cases k with
 |inl i=>
  obtain⟨t,rfl⟩:=(show ∃ t,u=uE i t from r)
  cases k' with
  |inl j=>simp[ox]
  |inr y=>simp[ox]
 |inr x=>
  obtain⟨t,rfl⟩:=(show ∃ t,u=uD x t from r)
  cases k' with
  |inl j=>simp[ox]
  |inr y=>simp[ox]
def Rj (K:aK):V->aai->Hp->VK->Prop:=λx vs H Q=>∃ p ks k j,x=.ref p/\vs=[kV k]/\SqL K H p (ks.map kV)/\jo ks k=aa j/\Q (.int j) H
theorem YZ {ks:aao}{k:aI}{us:aam}{v:aD}(r:Vals (ks.map kV) us)(rk:RelV (kV k) v)(h:jo ks k=aa j) :
  (∀ y,y∈us.toArray->QN y v (ox k y))/\∃ hj:j<us.toArray.size,ox k us.toArray[j]=af/\∀ m (hm:m<us.toArray.size),m<j->ox k us.toArray[m]=ah:=by
 obtain⟨h1,h2⟩:=WQ h;have hl:ks.length=us.length:=by simpa using r.length
 have hj:j<us.length:=by rw[<-hl];exact(cK.1 h1).1
 refine⟨λy m=>?_,by simpa using hj,?_,λm hm bm=>?_⟩
 .obtain⟨i,hi,rfl⟩:=qJ (show y∈us by simpa using m)
  obtain⟨k',e,rr⟩:=EN r i hi;rw[JJ rr];exact Sn rr rk
 .obtain⟨k',e,rr⟩:=EN r j hj;rw[h1] at e;cases e;show ox k us[j]=af;rw[JJ rr];simp
 .have sv:m<us.length:=by simpa using hm
  obtain⟨k',e,rr⟩:=EN r m sv;show ox k us[m]=ah;rw[JJ rr];exact decide_eq_false λq=>h2 m bm (q ▸ e)
theorem K6:MtR X "list.index" (Rj X.K):=by
 intro ac s Z H x vs v us Q I rx rv h;obtain⟨p,ks,k,j,rfl,rfl,hp,hj,q⟩:=h;cases rx;obtain⟨u,rfl,ru⟩:=rv.one;obtain⟨its,r,pl,hz⟩:=I.list hp;obtain⟨he,bm,hit,ji⟩:=YZ r ru hj;obtain⟨⟨cls,dd,data,sl⟩,n,e,hc,_,hd⟩:=pl;simp only at hc hd;subst hc hd;have hn:=rK;have lz:its.toArray.size<=sizeLine:=by rw[dU,<-r.length];exact hz
 refine FU M5 ⟨_,e,rfl⟩ PySem.F.entry_list_index (PySem.F.args_list_index_2 _ _) (E5 p its.toArray n dd sl u (ox k) he j bm () hit ji) ⟨e,⟨.int j,H,I.tok _,⟨_,rfl⟩,q⟩⟩
def mV:aah->Option aao
 |[]=>aa []
 |d::r=>(bS d).bind λk=>(mV r).bind λks=>aa (k::ks)
theorem MQ:∀ {ds:aah} {xs:aai} {ks:aao},mV ds=aa ks->Aak K H ds xs->xs=ks.map kV
 |[],xs,ks,e,r=>by
  cases e;exact Aai.1 r
 |d::ds,xs,ks,e,r=>by
  obtain⟨k,e1,e2⟩:=ao (show((bS d).bind λk=>(mV ds).bind λks=>aa (k::ks))=aa ks from e)
  obtain⟨fy,e3,e4⟩:=ao e2;cases e4;obtain⟨v,t,rfl,h1,h2⟩:=Aae.1 r;rw[jL e1 h1,MQ e3 h2]
  rfl
def HC (ds:aah)(d:aA):aaj:=(mV ds).bind λks=>(bS d).bind λk=>(jo ks k).bind λj=>aa (.int j)
section
variable {o k:aQ}{fo:EF}
theorem J7{r:aA}(h:HC ds d=aa r):∃ ks kk j,mV ds=aa ks/\bS d=aa kk/\jo ks kk=aa j/\r=.int j:=by
 obtain⟨ks,e1,h⟩:=ao h;obtain⟨kk,e2,h⟩:=ao h;obtain⟨j,e3,h⟩:=ao h;cases h;exact⟨ks,kk,j,e1,e2,e3,rfl⟩
def IZ:aA->aA->aaj
 |.list ds,d=>HC ds d
 |_,_=>ab
theorem J1 (ho:DE X o fo)(hk:DE X k fk)(q5:Bm X o k [] "index" av bc:=by exact⟨rfl,rfl,rfl,rfl,rfl⟩) :
  DE X (.Call (.Attribute o "index" av) [k] [] bc) (ai IZ fo fk):=
 PE.imp (vE QA M5 PySem.F.type_list_index K6 ho (hX hk jX q5.s) q5) λZ H Q gh=>by
  obtain⟨P,Y,d,hP,rs,ef,kk⟩:=gh;obtain⟨d1,e1,br⟩:=ao ef;obtain⟨d2,e2,bq⟩:=ao br;cases d1 with
  |list ds=>
   obtain⟨ks,key,j,g1,g2,g3,rfl⟩:=J7 (show HC ds d2=aa d from bq)
   refine⟨P,Y,_,hP,rs,e1,dR λv H1 x1 r1=>?_⟩
   obtain⟨q,ys,rfl,hq,rr⟩:=Aa8.1 r1;obtain rfl:=MQ g1 rr;refine⟨.inl ⟨rfl,_,Aal.sqL hq⟩,P,Y,d2,hP.ext x1,rs.ext (cN x1),e2,dR λu H2 x2 r2=>?_⟩
   exact⟨q,ks,key,j,rfl,by rw[jL g2 r2],x2.sqL (Aal.sqL hq),g3,kk.zero (x1.trans x2) (Aah.2 rfl)⟩
  |_=>cases bq
theorem MR:∀ {ds:aah} {xs:aai} (n:Nat),Aak K H ds xs->Aak K H (ds.eraseIdx n) (xs.eraseIdx n)
 |[],xs,n,r=>by
  rw[Aai.1 r];exact Aai.2 rfl
 |d::ds,xs,0,r=>by
  obtain⟨v,t,rfl,h1,h2⟩:=Aae.1 r;exact h2
 |d::ds,xs,n+1,r=>by
  obtain⟨v,t,rfl,h1,h2⟩:=Aae.1 r;exact Aae.2 ⟨v,_,rfl,h1,MR n h2⟩
theorem XG {j pos}:DF 1 X (.Constant .none j pos) (eC .none):=PE.imp WE λZ H Q gh=>by
 rw[5];cases ef;exact k .non H [] Ext.refl .nil (λa m=>by simp at m) ⟨rfl,Abq.2 rfl⟩
end
open PySem PySem.Spec PySem.W PyProof.Rows PySem.SetTable
theorem KC {α:Type}(xs:List α)(d:α):(bW xs.length).map (λi=>xs.getD i d)=xs:=by
 apply GH
 .simp
 .intro i h1 h2;simp at h1;simp[h1]
theorem Wc {h0:aU}{P:PZ->aH->Prop}(ho:s.heap.get? a=aa (fV "list" vs.toArray n))(ht:Ae7 h0 vs kss)(kp:∀ b o,h0.get? b=aa o->(mX s.heap a vs).get? b=aa o)(ok:gu kss=af)(kj:vs.length<64)
  (h:∀ p:aar,p.Perm (bW vs.length)->p.map (λi=>kss.getD i [])=iD kss->P (.done (.ret .none)) { s with heap:=sortedHeap s.heap a vs (iB (p.map λi=>vs.getD i eE)) }) :
  aL (aP prog w) A (Builtin.«list.sort» ⟨[.ref a],[]⟩) P E s:=by
 have ln:=lQ ht;by_cases h2:vs.length<2
 .refine WV ho h2 ?_;have:=h (bW vs.length) (QY _) (by
   rw[ln,KC kss];refine yW ok (QY _) ?_
   match kss,ln with
   |[],_=>exact .nil
   |[k],_=>simp
   | _::_::_,ln=>simp at ln;lia)
  rw[KC vs] at this;exact this
 .have hs:sameAll kss=af/\(kss.all λk=>(kK k).isSome)=af:=by
   have xl:¬ kss.length<2:=()
   have:(sameAll kss&&kss.all λk=>(kK k).isSome)=af:=by simpa [gu,xl] using ok
   exact iI.1 this
  obtain⟨k0,m0⟩:∃ k0,k0∈kss:=by
   cases hk:kss with
   |nil=>rw[hk] at ln;exact absurd ln (by simp;intro e;rw[e] at h2;simp at h2)
   |cons k r=>exact⟨k,bE⟩
  obtain⟨T,hT⟩:=uG.1 (cY.1 hs.2 k0 m0);have sm:∀ k∈kss,∀ k'∈kss,eI k k'=af:=λk m k' m'=>cY.1 (cY.1 hs.1 k m) k' m'
  have xv:=ht.keep kp;refine Fk (κ:=tuples' (kE T != kE "tuple")) (WC kss) ho () kj (λR q=>?_) (λi j C hi hj q=>?_) λp hp ha=>?_
  .obtain⟨fs,f1,f2,f3⟩:=LF (M:=aP prog w) xv λk m=>(same_kind (sm k m k0 m0)).trans hT
   exact kat_kind f1 () f3 (by rcases Fo hT with rfl|rfl<;>decide) q
  .obtain⟨b,e1,⟨_,_,as,r1⟩,m1⟩:=xv.get i hi;obtain⟨b',e2,⟨_,_,on,r2⟩,m2⟩:=xv.get j hj;rw[e1,e2];obtain⟨_,o,xs,n,z,ho,_,hd,hr⟩:=lH r1;cases z;obtain⟨_,o',gg,n',z,mn,_,jw,uz⟩:=lH r2;cases z;have ww:=sm _ m1 _ m2;have l1:=tR hr;have l2:=tR uz;have ll:=yZ ww;have:decide (xs.size<gg.size)=ah:=decide_eq_false (by simp only[jU] at l1 l2;lia)
   refine kat_lt ho hd mn jw ?_;rw[this];exact BU _ _ 0 ww hr uz q
  .have fm:p.toList.Perm (bW vs.length):=by simpa using N8.1 hp
   have pl:p.toList.length=vs.length:=by rw[fm.length_eq,xC]
   refine h p.toList fm (yW ok ?_ ?_)
   .have:=fm.map (λi=>kss.getD i [])
    rw[ln,KC kss] at this;exact this
   .rw[wZ,GB];intro i j hi hj gx;refine Afw.2 ?_;have:=ha i j (qI gx) ()
    have e1:at' p i=p.toList[i]:=by simp at hi;simp[at',hi]
    have e2:at' p j=p.toList[j]:=by simp at hj;simp[at',hj]
    rw[e1,e2] at this;exact of_decide_eq_false this
theorem l6(p:qs.Perm kss)(h:gu kss=af):gu qs=af:=by
 unfold gu at h ⊢;rw[p.length_eq];by_cases h2:kss.length<2
 .simp[h2]
 .have h':(sameAll kss&&kss.all λk=>(kK k).isSome)=af:=by simpa [h2] using h
  obtain⟨h3,h4⟩:=iI.1 h';have h5:sameAll qs=af:=cY.2 λk m=>cY.2 λk' m'=>cY.1 (cY.1 h3 k (p.mem_iff.1 m)) k' (p.mem_iff.1 m')
  have h6:=cY.2 λk m=>cY.1 h4 k (p.mem_iff.1 m)
  rw[h5,h6];simp
theorem Xl(p:qs.Perm kss)(h:gu kss=af):iD qs=iD kss:=yW h ((tQ qs).trans p) (MY qs)
theorem Hi {α β:Type}{R:α->β->Prop}{as:List α}{bs:List β}(h:dG R as bs)(x:α)(y:β):∀ p:aar,(∀ i∈p,i<as.length)->dG R (p.map λi=>as.getD i x) (p.map λi=>bs.getD i y)
 |[],_=>.nil
 |i::p,hi=>by
  refine .cons ?_ (Hi h x y p λj m=>hi j (bL _ m))
  have bm:=hi i bE;obtain⟨b,hb,r⟩:=vG h (fY bm);have e1:as.getD i x=as[i]:=by simp[bm]
  have e2:bs.getD i y=b:=by simp[hb]
  show R (as.getD i x) (bs.getD i y);rw[e1,e2];exact r
set_option maxHeartbeats 4000000 in
theorem Ze {B:aah->aC->Prop}(hh:A.handled=ab)(S:SetT w B s.heap a kss)(ok:gu kss=af)(kj:kss.length<64)
  (q:∀ h' tk l e (out:aam),s.toks<=tk->(∀ b ob,s.heap.get? b=aa ob->h'.get? b=aa ob)->s.heap.objs.size<=l->dG (λv k=>∃ b,v=eJ b/\B k b) out (iD kss)->h'.get? l=aa (fV "list" out.toArray e)->Q (.ref l) { s with heap:=h',toks:=tk }) :
  aL (aP prog w) A (call (.builtin "sorted") [.ref a]) Q E s:=by
 obtain⟨o,es,ep,t,ks,S,pm⟩:=S;have W:WSet w s.heap a o es ep t:=⟨S.get,S.exact,S.data,S.fine,S.led⟩;refine RG kind_sorted plain_sorted entry_sorted (args_sorted1 _) ?_;unfold Builtin.«sorted»;have zr:es.size=kss.length:=by
  have:=lQ S.els;rw[jU] at this;rw[this,pm.length_eq]
 refine aG (aM (aG (Zj (by simp[hh]) W (λ_=>by rw[S.plain];rfl) λh1 tk yo hsz k1=>aG (wH ?_ (by rw[mL,cJ,yI];lia)))))
 have pe:=YW w a ep es;generalize jv w a ep es=gc at pe;obtain⟨At,p2,pm2⟩:=JK pe S.els;have pk:=pm2.trans pm;have tv:dG (λv k=>∃ b,v=eJ b/\Abn s.heap k b/\B k b) (gc.map (·.2)) At:=by
  clear pe pm2 pk;induction p2 with
  |nil=>exact .nil
  |cons h t ih=>
   obtain⟨b,e1,_,e3,e4⟩:=h;exact .cons ⟨b,e1,e3,e4⟩ ih
 have ax:(gc.map (·.2)).length<64:=by rw[cJ,pe.length_eq,jU];lia
 generalize gc.map (·.2)=vs at tv ax;have je:(h1.push (fV "list" vs.toArray 0)).get? h1.objs.size=aa (fV "list" vs.toArray 0):=cI _ rfl;refine aG (eY (fU PC ⟨_,je,rfl⟩ PK (Wc je (pK (λv k ⟨b,e1,e2,_⟩=>⟨b,e1,e2⟩) tv) (λb ob eb=>?_) (l6 pk ok) ax λp hp hs=>⟨_,rfl,?_⟩) (PR _)))
 .have hb:=bM (k1 b ob eb);exact Ge b ob (cO hb) (bF _ (k1 b ob eb))
 refine aM ⟨_,rfl,?_⟩;obtain⟨e,he⟩:=sortedHeap_at je;refine q _ tk h1.objs.size e (p.map λi=>vs.getD i eE) yo (λb ob eb=>?_) (qI hsz) ?_ he
 .have hb:=bM (k1 b ob eb);rw[sortedHeap_old (cO hb) (by rw[size_push'];exact AK hb),GK _ _ _ (cO hb)]
  exact k1 b ob eb
 .have:=Hi tv eE [] p λi m=>eR.1 (hp.mem_iff.1 m)
  rw[hs,Xl pk ok] at this;exact pK (λv k ⟨b,e1,_,e3⟩=>⟨b,e1,e3⟩) this
def ya (kss:lm)(ys:aai)(k:aah)(b:aC):Prop:=∃ i:Nat,kss[i]?=aa k/\ys[i]?=aa (V.ref b)
def SX (w:bA)(kss:lm)(ys:aai)(o:bD)(ls:lm):Prop:=∃ es ep t ks,o.ExactSet/\o.data=.set es ep t/\Fine t es/\t.led=(!fQ w)/\t.plain=af/\dG (λ(e:Int×aD) k=>∃ b,e.2=.ref b/\e.1=dE w (.tuple k)/\ya kss ys k b) es.toList ks/\ks.Nodup/\ks.Perm ls
section
theorem Xo (hc:X.calm=af)(hu:X.A.units+40<cLine):Acm X (.type "set") (λxs H Q=>∃ p ys kss,xs=[.ref p]/\SqL X.K H p ys/\Refs H ys kss/\(∀ k∈kss,qV k)/\(hJ kss).length<=4900/\∀ a o,H a=ab->SX X.w kss ys o (hJ kss)->Q (.ref a) (upd H a (isO a o))):=by
 rw[4];obtain⟨p,ys,kss,rfl,hp,rf,WF,hl,q⟩:=h;obtain⟨u,rfl,ru⟩:=vals1 r;cases ru;obtain⟨its,rv,pl,_⟩:=I.list hp;have e1:=rv.length;have e2:=lQ rf;refine C5 (B:=ya kss ys) (I.ok.hd hc) (λk b ⟨i,h,_⟩=>WF k (eT h)) hu pl.isList (λj v ev=>?_) hl (by rw[dU];lia) λh' tk ht S' hk=>?_
 .have ev':its[j]?=aa v:=by simpa using ev
  obtain⟨y,hy,ry⟩:=IW rv ev';obtain⟨k,hk,b,rfl,tk⟩:=vG rf hy;cases ry;exact⟨b,k,rfl,hk,key_of I.hok tk,j,hk,hy⟩
 .obtain⟨o,es,ep,t,fy,am,pm⟩:=S';have I':=I.laid (t':=tk) (λb u e=>hk b u (bM e) e) (bB _) (show Acj X.prog X.w _ _ _ (.ext _) from⟨am.get,⟨o,am.get⟩,λ_ _ e k=>k _ e⟩)
  exact⟨.ref s.heap.objs.size,_,I',rfl,q _ o I.fresh ⟨es,ep,t,fy,am.exact,am.data,am.fine,am.led,am.plain,pK (λe k ⟨b,q1,q2,_,q4⟩=>⟨b,q1,q2,q4⟩) am.els,am.nod,pm⟩⟩
theorem Zi (hc:X.calm=af):Acm X (.builtin "sorted") (λxs H Q=>∃ a o ys kss ls,xs=[.ref a]/\H a=aa (isO a o)/\SX X.w kss ys o ls/\Refs H ys kss/\gu ls=af/\ls.length<64 /\
  ∀ l zs,H l=ab->dG (λz k=>∃ b,z=V.ref b/\ya kss ys k b) zs (iD ls)->Q (.ref l) (upd H l (.lst zs))):=by
 rw[4];obtain⟨a,o,ys,kss,ls,rfl,ha,⟨es,ep,t,ks,hx,hd,hf,hl,hpn,he,hn,pm⟩,rf,ok,kj,q⟩:=h;obtain⟨u,rfl,ru⟩:=vals1 r;cases ru;obtain⟨g,_,_⟩:=(show Acj X.prog X.w H s.heap a (.ext _) from I.hok a _ ha)
 have WP:∀ k b,ya kss ys k b->Abn s.heap k b:=λk b gh=>by
  obtain⟨i,h1,h2⟩:=gh;obtain⟨k',ce,b',eb,tk⟩:=vG rf h2;rw[h1] at ce;cases ce;cases eb;exact key_of I.hok tk
 refine Ze (I.ok.hd hc) ⟨o,es,ep,t,ks,⟨g,hx,hd,hf,hl,hpn,pK (λe k ⟨b,q1,q2,q3⟩=>⟨b,q1,q2,WP k b q3,q3⟩) he,hn⟩,pm⟩ ok kj λh' tk l e out yo kept u8 pr EQ=>?_
 have W0:=I.hok.fresh u8
 let zs:aai:=out.map λv=>match v with|.ref b=>V.ref b|_=>V.non
 have pz:dG (λz k=>∃ b,z=V.ref b/\ya kss ys k b) zs (iD ls)/\Vals zs out:=by
  generalize iD ls=qs at pr;clear EQ;induction pr with
  |nil=>exact⟨.nil,.nil⟩
  |cons h t ih=>
   obtain⟨b,rfl,hb⟩:=h;exact⟨.cons ⟨b,rfl,hb⟩ ih.1,.cons rfl ih.2⟩
 have lz:zs.length<=sizeLine:=by
  have h1:=lQ pz.1;rw[h1,(tQ ls).length_eq,mL]
  lia
 exact⟨.ref l,_,I.laid (o:=.lst zs) (λb ob g=>kept b ob g) u8 ⟨lz,out,e,pz.2,EQ⟩,rfl,q _ zs W0 pz.1⟩
def MF:aah->aaj:=open Classical in λds=>match ds with
 |[.list ds]=>(iM ds).bind λkss=>if ((hJ kss).length<64/\gu (hJ kss)=af)/\∀ k∈kss,qV k then aa (.list ((iD (hJ kss)).map dM)) else ab
 |_=>ab
theorem Hn:∀ {ds:aah} {kss:lm},iM ds=aa kss->ds=kss.map dM/\∀ k∈kss,bR k=af/\cU k<=6
 |[],kss,e=>by cases e;exact⟨rfl,by simp⟩
 |d::ds,kss,e=>by
  cases d with
  |tuple ks=>
   have e:(if bR ks=af/\cU ks<=6 then(iM ds).bind λkss=>aa (ks::kss) else ab)=aa kss:=e
   by_cases hk:bR ks=af/\cU ks<=6
   case neg=>rw[if_neg hk] at e;cases e
   rw[if_pos hk] at e;obtain⟨kss',e1,e2⟩:=ao e;cases e2;obtain⟨h1,h2⟩:=Hn e1
   grind
  |_=>cases e
theorem Gy(r:Aak K H (kss.map dM) ys):∀ {zs:aai} {qs:lm},dG (λz k=>∃ b,z=V.ref b/\ya kss ys k b) zs qs->Aak K H (qs.map dM) zs
 |_,_,.nil=>Aai.2 rfl
 |_,k::_,.cons ⟨b,e,i,h1,h2⟩ t=>by
  refine Aae.2 ⟨_,_,rfl,?_,Gy r t⟩;have h3:(kss.map dM)[i]?=aa (.tuple k):=by rw[eU,h1];rfl
  obtain⟨v,hv,rv⟩:=r.get h3
  grind
open Classical in
theorem Zy{fe:EF}{qf gi:bH}(hc:X.calm=af)(hu:X.A.units+40<cLine)(g1:Gl X "sorted")(m1:X.mg "sorted" = ab)(g2:Gl X "set")(m2:X.mg "set" = ab)(he:DE X e fe)
  (pv:bX [Expr.Call (.Name "set" p2) [e] [] gi] X.env=[(ah,bY (Expr.Call (.Name "set" p2) [e] [] gi) X.env)]:=by rfl) (kg:bX [e] X.env=[(ah,bY e X.env)]:=by rfl) :
  DF 1 X (.Call (.Name "sorted" p1) [.Call (.Name "set" p2) [e] [] gi] [] qf) (aN MF (aF fe aJ)):=by
 have h1:PE X (.Call (.Name "set" p2) [e] [] gi) _:=zF (Xo hc hu) g2 m2 rfl (hX he jX kg) nofun nofun kg rfl
 have h2:PE X (.Call (.Name "sorted" p1) [.Call (.Name "set" p2) [e] [] gi] [] qf) _:=EH (Zi hc) g1 m1 QB (hX h1 jX pv) nofun nofun pv rfl
 refine PE.imp h2 λZ H Q gh=>?_
 rw[5];obtain⟨U9,e0,ef⟩:=ao ef;obtain⟨d1,e1,e0⟩:=ao e0;have e0:[d1]=U9:=by simpa [aJ] using e0
 subst e0;cases d1 with
 |list ds=>
  obtain⟨kss,e2,ef⟩:=ao (show((iM ds).bind _)=aa d from ef)
  obtain⟨⟨⟨hl,ok⟩,WF⟩,rfl⟩:=cL ef;obtain⟨rfl,hk⟩:=Hn e2;refine⟨P,Y,.list (kss.map dM),hP,rs,e1,dR λv H1 x1 r1=>?_⟩
  obtain⟨q,ys,rfl,hq,rr⟩:=Aa8.1 r1;have rf:=Refs.le (λc zs e=>Aal _ _ e) (Hm hk rr)
  refine⟨q,ys,kss,rfl,Aal.sqL hq,rf,WF,(),λa o hn S=>⟨a,o,ys,kss,hJ kss,rfl,dQ,S,Refs.le (λc zs e=>(Ext.new hn) _ _ e) rf,ok,hl,λl zs W0 pz=>?_⟩⟩
  exact(k.mono (x1.trans (Ext.new hn))).lst (hP.ext (x1.trans (Ext.new hn))) W0 (Gy (rr.ext (cN (Ext.new hn))) pz)
 |_=>cases ef
end
def Se:V->aai->Hp->VK->Prop:=λx vs H Q=>∃ p ks k j,x=.ref p/\vs=[kV k]/\H p=aa (.lst (ks.map kV))/\jo ks k=aa j/\Q .non (upd H p (.lst ((ks.eraseIdx j).map kV)))
theorem E6:Q6 X "list.remove" Se:=by
 intro ac s Z H x vs v us Q I rx rv h;obtain⟨p,ks,k,j,rfl,rfl,hp,hj,q⟩:=h;cases rx;obtain⟨u,rfl,ru⟩:=rv.one;obtain⟨z,its,n,r,hl,e⟩:=I.lstM hp;obtain⟨he,bm,hit,ji⟩:=YZ r ru hj;refine FU F.slot_list_remove ⟨_,e,rfl⟩ F.entry_list_remove (F.args_list_remove_2 _ _) (MeetsSeq.list_remove p its.toArray n u (ox k) he j bm hit ji (by rw[dU];lia)) ⟨e,?_⟩
 have ee:(ks.eraseIdx j).map kV=(ks.map kV).eraseIdx j:=by
  have go:∀ (xs:aao) (n:Nat),(xs.eraseIdx n).map kV=(xs.map kV).eraseIdx n:=by
   intro xs;induction xs with
   |nil=>intro n;simp
   |cons x xs ih=>
    intro n;cases n with
    |zero=>rfl
    |succ n=>rw[xE,cW,cW,xE,ih]
  exact go ks j
 refine⟨.non,_,I.lset hp e ?_ (by rw[ee];exact r.eraseIdx j) ?_,rfl,q⟩
 .rw[List.eraseIdxIfInBounds_toArray]
 .have:=Bg (ks.map kV) j;rw[ee]
  lia
def oZ (i:Nat)(m:Md)(f:EF):SF:=λY=>(eV 0 m f Y).bind λd=>(getL i Y).bind λds=>(mV ds).bind λks=>(bS d).bind λk=>(jo ks k).bind λj=>aa (.nx (Y.set i (aa (1,.list (ds.eraseIdx j)))))
theorem B4 (i:Nat)(m:Md)(he:DE X e f)(hN:Nm X i x:=by exact hE)(q5:Bm X (.Name x px) e [] "remove" av bc:=by exact⟨rfl,rfl,rfl,rfl,rfl⟩)
  (ni:kQ (.Call (.Attribute (.Name x px) "remove" av) [e] [] bc) ab pos.line X.env=pure ah:=by rfl):DS X H0 P0 n0 (.Expr (.Call (.Attribute (.Name x px) "remove" av) [e] [] bc) pos) (oZ i m f):=
 PS.imp (yE (vE QA PySem.F.slot_list_remove PySem.F.type_list_remove E6 (hN.pe) (hX (ev m he) jX q5.s) q5) ni) λD Z H gh=>by
  rw[7];obtain⟨d,e1,br⟩:=ao ef;obtain⟨ds,e2,bq⟩:=ao br;obtain⟨ks,e3,dq⟩:=ao bq;obtain⟨key,e4,gw⟩:=ao dq;obtain⟨j,e5,wE⟩:=ao gw;cases wE;obtain⟨p,xs,h1,h2,_,_⟩:=S.lst1 (oC e2);refine⟨.ref p,h1,.inl ⟨rfl,xs,SqL.of h2⟩,B0,Y,fp,d,S,e1,λv H2 gh=>?_⟩
  obtain⟨fj,S2,r2⟩:=gh;obtain⟨p2,ZB,q1,q2,q3,q4⟩:=S2.lst1 (oC e2);have:p2=p:=by rw[h1] at q1;cases q1;rfl
  rw[12];obtain rfl:=MQ e3 q3;have ee:(ks.eraseIdx j).map kV=(ks.map kV).eraseIdx j:=by
   have go:∀ (xs:aao) (n:Nat),(xs.eraseIdx n).map kV=(xs.map kV).eraseIdx n:=by
    intro xs;induction xs with
    |nil=>intro n;simp
    |cons x xs ih=>
     intro n;cases n with
     |zero=>rfl
     |succ n=>rw[xE,cW,cW,xE,ih]
   exact go ks j
  refine⟨p2,ks,key,j,rfl,by rw[jL e4 r2.2],q2,e5,?_⟩
  rw[ee];exact k _ _ fj (q4 _ _ (MR j q3))
section
variable {Z:St}
theorem own1 {B:Hp}(h:Aej K B H 1 (.list ds) v F):∃ p xs,v=.ref p/\H p=aa (.lst xs)/\F=[p]/\Aak K B ds xs:=by
 obtain⟨p,xs,Fs,rfl,hp,hF,h3⟩:=h;obtain⟨r,hn⟩:=LH h3;exact⟨p,xs,rfl,hp,by rw[hF,hn],r⟩
theorem CY {B:Hp}{p:aC}(hp:H p=aa (.lst xs))(r:Aak K B ds xs):Aej K B H 1 (.list ds) (.ref p) [p]:=by
 obtain⟨q1,q2⟩:=EL r;exact⟨p,xs,_,rfl,hp,by rw[q2],q1⟩
theorem Ld {B:Hp}{a b:aah}(h:Aej K B H 2 (.tuple [.list a,.list b]) v F) :
  ∃ q p p' xs ys,v=.ref q/\B q=aa (.tup [.ref p,.ref p'])/\F=[p,p']/\H p=aa (.lst xs)/\H p'=aa (.lst ys)/\Aak K B a xs/\Aak K B b ys:=by
 rcases h with⟨h0,_⟩|⟨_,q,us,Fs,rfl,hq,rfl,h3⟩
 .cases h0
 .cases h3 with
  |cons h1 t=>
   cases t with
   |cons h2 t=>
    cases t with
    |nil=>
     obtain⟨p,xs,rfl,hp,rfl,r⟩:=own1 h1;obtain⟨p',ys,rfl,fm,rfl,r'⟩:=own1 h2;exact⟨q,p,p',xs,ys,rfl,hq,rfl,hp,fm,r,r'⟩
theorem Vm {B:Hp}{a b:aah}{q p p':aC}(hq:B q=aa (.tup [.ref p,.ref p']))(h1:H p=aa (.lst xs))(h2:H p'=aa (.lst ys))(r1:Aak K B a xs)(r2:Aak K B b ys) :
  Aej K B H 2 (.tuple [.list a,.list b]) (.ref q) [p,p']:=
 .inr ⟨nofun,q,_,[[p],[p']],rfl,hq,rfl,.cons (CY h1 r1) (.cons (CY h2 r2) .nil)⟩
end
section
variable {tq:bH}
def UN (i j:Nat):SF:=λY=>(getL i Y).bind λa=>(getL j Y).bind λb=>aa (.rt (.tuple [.list a,.list b]))
theorem n9 (i j:Nat){x1}(gx:i≠j)(hN:Nm X i x:=by exact hE)(hN2:Nm X j y:=by exact hE):DS X H0 P0 2 (.Return (aa (.Tuple [.Name x px,.Name y py] x1 ig)) pos) (UN i j):=
 PS.imp (BJ (VN (hX (hN.pe) (hX (hN2.pe) jX)))) λD Z H gh=>by
  rw[7];obtain⟨a,e1,ef⟩:=ao ef;obtain⟨b,e2,ef⟩:=ao ef;cases ef;obtain⟨v,h1,r1⟩:=S.slot i 1 _ (oC e1);obtain⟨v',h2,r2⟩:=S.slot j 1 _ (oC e2);obtain⟨p,xs,rfl,hp,hF,q1⟩:=own1 r1;obtain⟨p',ys,rfl,fm,hF',q2⟩:=own1 r2;have mp:p∈fp i:=by rw[hF];exact bE
  have W1:p'∈fp j:=by rw[hF'];exact bE
  have hpp:p≠p':=λz=>gx (S.dj i j p mp (by rw[z];exact W1))
  refine⟨_,h1,_,h2,by show 2<=sizeLine;rw[mL];lia,λq hq=>k _ _ ⟨[p,p'],S.ext.trans (Ext.new hq),?_,?_,?_⟩⟩
  .simp[hpp]
  .intro c m;rw[10]
   .exact⟨(S.own i _ mp).1,_,Ext.new hq _ _ hp⟩
   .rw[cF.1 m];exact⟨(S.own j _ W1).1,_,Ext.new hq _ _ fm⟩
  .have nq:∀ {c:aC} {oo:HO},H c=aa oo->c≠q:=λec z=>by rw[z,hq] at ec;cases ec
   have xb:Ext (L2.hid H (Hd P0 fp)) (L2.hid (upd H q (.tup [.ref p,.ref p'])) (cn P0 [p,p'])):=λc oo ec=>by
    obtain⟨nc,ec⟩:=Abr.1 ec;refine Abr.2 ⟨λz=>?_,Ext.new hq _ _ ec⟩
    rcases z with z|z
    .exact nc (.inl z)
    .rcases cV.1 z with rfl|z
     .exact nc (.inr ⟨i,mp⟩)
     .rw[cF.1 z] at nc;exact nc (.inr ⟨j,W1⟩)
   refine Vm (Abr.2 ⟨λz=>?_,dQ⟩) (Ext.new hq _ _ hp) (Ext.new hq _ _ fm) (q1.ext xb) (q2.ext xb)
   rcases z with z|z
   .exact(S.hd.ext S.ext).new hq z
   .rcases cV.1 z with z|z
    .exact nq hp z.symm
    .exact nq fm (cF.1 z).symm
end
section
variable {a b:aQ}{tq:bH}
noncomputable def yf (c:Int):aA->aaj
 |.tuple [.list a,.list b]=>if c=0 then aa (.list a) else if c=1 then aa (.list b) else ab
 |_=>ab
def nC (c:Int)(f:EF):EF:=λY=>(f Y).bind (yf c)
theorem Sq {c:Int}{jj}(h:DF 2 X e f)(hs:JB (.Constant (.int c) jj tq):=by exact λ_ _=>rfl):DF 1 X (.Subscript e (.Constant (.int c) jj tq) pos) (nC c f):=
 PE.imp (SS VH h IB hs) λZ H Q gh=>by
  rw[5];obtain⟨d2,e1,ef⟩:=ao ef;unfold yf at ef;split at ef
  .rename_i la lb;refine⟨P,Y,_,hP,rs,e1,λv H' Fr xx nd fr r=>?_⟩
   obtain⟨q,p,p',xs,ys,rfl,hq,rfl,hp,fm,r1,r2⟩:=Ld r;have hq':=(Abr.1 hq).2;by_cases c0:c=0
   .rw[if_pos c0] at ef;cases ef;subst c0;refine .inr (.inl ⟨q,_,0,.ref p,rfl,rfl,SqT.of hq',rfl,k _ _ [p] xx (by simp) (λz m=>fr z (by rw[cF.1 m];simp)) (CY hp (r1.ext (gR λz hz=>?_)))⟩)
    grind
   .rw[if_neg c0] at ef;obtain⟨c1,rfl⟩:=cL ef;subst c1;refine .inr (.inl ⟨q,_,1,.ref p',rfl,rfl,SqT.of hq',rfl,k _ _ [p'] xx (by simp) (λz m=>fr z (by rw[cF.1 m];simp)) (CY fm (r2.ext (gR λz hz=>?_)))⟩)
    grind
  .cases ef
def UU (m:Md)(t:BF)(i:Nat)(f:EF):SF:=λY=>(bV m t Y).bind λb=>if b=af then jV i 1 Y else cC 1 .s f Y
theorem o9 {c:aQ}{t:BF}(m:Md)(i:Nat)(hc:DT X c t)(he:DF 1 X e f)(hN:Nm X i x:=by exact hE):DS X H0 P0 1 (.Return (aa (.IfExp c (.Name x px) e tq)) pos) (UU m t i f):=
 PS.imp (BJ (YQ (R0 m hc) (hN.pe) (ev .s he))) λD Z H gh=>by
  rw[7];obtain⟨b,e1,ef⟩:=ao ef;refine⟨B0,Y,fp,b,S,e1,λH1 S1=>?_⟩
  cases b with
  |true=>
   replace ef:jV i 1 Y=aa o:=by simpa using ef
   unfold jV at ef;cases q:Y[i]? with
   |none=>rw[q] at ef;simp at ef
   |some z=>
    cases z with
    |none=>rw[q] at ef;simp at ef
    |some z=>
     obtain⟨n,d⟩:=z;rw[q] at ef;obtain⟨rfl,rfl⟩:=cL ef;obtain⟨v,h1,h2⟩:=S1.slot i _ d q;refine qR ⟨v,h1,k v H1 ⟨fp i,S1.ext,S1.nd i,λa m=>⟨(S1.own i a m).1,?_⟩,h2.keep (gR λa h=>?_) λa m=>rfl⟩⟩
     .rcases(S1.own i a m).2 with⟨xs,e⟩|⟨xs,e⟩
      all_goals grind
     all_goals grind
  |false=>
   replace ef:cC 1 .s f Y=aa o:=by simpa using ef
   obtain⟨d,e2,ef⟩:=ao ef;cases ef;exact qX ⟨B0,Y,fp,d,S1,e2,λv H' t=>k v H' t.ret⟩
end
def tDN (sB:List (TE×TE)):TE:=λZ H Q=>∀ p,H p=ab->CC sB Z (upd H p (.dK 0 [])) λps H2=>H2 p=aa (.dK 0 [])/\∃ kvs:ld,ps=(kvs.map λkv=>(kV kv.1,kv.2))/\kvs.length<=sizeLine/\∀ n,Q (.ref p) (upd H2 p (.dK n (mU [] kvs)))
theorem Wm {ks:List (Option aQ)}{vs:aau}{sB:List (TE×TE)}(hp:vp X pos ks vs sB)(h1:ks.length=vs.length:=by rfl)(h2:ks.length<=15:=by decide)(h3:ks.all (·.isSome)=af:=by rfl)(h0:ks≠[]:=by simp):PE X (.Dict ks vs pos) (tDN sB):=λac s Z H Q I h=>by
 have I':Inv X ac Z (upd H s.heap.objs.size (.dK 0 [])) { s with heap:=s.heap.push { cls:=.type "dict",data:=.dict #[] } }:=I.laid (λ_ _ q=>bF _ q) (bB _) (YY s.heap I.big)
 have h':=h s.heap.objs.size (I.hok.fresh (bB _));refine wpAny_Dict_walk (knd:=fF X.prog X.w) h3 h1 h0 h2 ?_;refine bb (hp ac _ Z _ _ I' h') λvs s1 gh=>?_
 obtain⟨ps,H2,I2,cq,e2,kvs,eps,hl,q⟩:=gh;subst eps;obtain⟨rs,c,kv⟩:=Cg (P:=X.prog) cq;obtain⟨_,hd,ws,r0,dd⟩:=sO I2.hok e2;have ew:ws=[]:=by cases r0;rfl
 subst ew;refine⟨rs,c,dd,λh2 d2 sb=>?_⟩
 have he:∃ o,h2.get? s.heap.objs.size=aa o:=let ⟨o,_,_,ho,_⟩:=d2;⟨o,ho⟩;obtain⟨n,da⟩:=d2.dictAt;have km:=KV.merge kv .nil;have lz:(mU [] kvs).length<=sizeLine:=by
  have:=NJ kvs [];simp at this
  lia
 exact⟨.ref s.heap.objs.size,_,DH I2 (by rw[e2];exact nH) sb he (xV lz hd km da),rfl,q n⟩
def yc:List (EF×EF)->jp->Option (List (aI×aA))
 |[],_=>aa []
 |(fk,fv)::r,Y=>(fk Y).bind λdk=>(bS dk).bind λkey=>(fv Y).bind λd=>(yc r Y).bind λps=>aa ((key,d)::ps)
def eDN (fs:List (EF×EF)):EF:=λY=>(yc fs Y).bind λps=>aa (.dict (pO ps []))
def O4 (K:aK)(fs:List (EF×EF)):List (TE×TE):=fs.map λf=>(tF K 0 f.1,tF K 0 f.2)
theorem Uk:vp X pos [] [] (O4 X.K []):=Vi
theorem l7 {k v:aQ}{ks:List (Option aQ)}{vs:aau}{fv:EF}{fs:List (EF×EF)}(hk:DE X k fk)(hv:DE X v fv)(hr:vp X pos ks vs (O4 X.K fs)):vp X pos (aa k::ks) (v::vs) (O4 X.K ((fk,fv)::fs)):=p9 hk hv hr
theorem Cu{P:aC->Prop}{Y:jp}{Z:St}:∀ {fs:List (EF×EF)} {H:Hp} {ps:List (aI×aA)} {Q:aaa->Hp->Prop},Hid P H->Al7 K (hid H P) Y Z->yc fs Y=aa ps ->
  (∀ (qs:ld) H2,Ext H H2->dG (λ(p:aI×aA) (q:aI×V)=>p.1=q.1/\Abj K (hid H2 P) p.2 q.2) ps qs->Q (qs.map λkv=>(kV kv.1,kv.2)) H2)->CC (O4 K fs) Z H Q
 |[],H,ps,Q,hP,rs,e,k=>by
  cases e;exact k [] H Ext.refl .nil
 |(fk,fv)::r,H,ps,Q,hP,rs,e,k=>by
  obtain⟨dk,e1,e⟩:=ao (show((fk Y).bind λdk=>(bS dk).bind λkey=>(fv Y).bind λd=>(yc r Y).bind λps=>aa ((key,d)::ps))=aa ps from e)
  obtain⟨key,e2,e⟩:=ao e;obtain⟨d,e3,e⟩:=ao e;obtain⟨ps',e4,e⟩:=ao e;cases e;refine⟨P,Y,dk,hP,rs,e1,dR λx H1 x1 r1=>⟨P,Y,d,hP.ext x1,rs.ext (cN x1),e3,dR λy H2 x2 r2=>?_⟩⟩
  refine Cu ((hP.ext x1).ext x2) ((rs.ext (cN x1)).ext (cN x2)) e4 λqs H3 x3 pr=>?_
  have:=k ((key,y)::qs) H3 ((x1.trans x2).trans x3) (.cons ⟨rfl,r2.ext (cN x3)⟩ pr);rw[cW] at this;rw[jL e2 r1];exact this
theorem A2 {ks:List (Option aQ)}{vs:aau}{fs:List (EF×EF)}(hp:vp X pos ks vs (O4 X.K fs))(hf:fs.length<17:=by decide)(h1:ks.length=vs.length:=by rfl)(h2:ks.length<=15:=by decide)(h3:ks.all (·.isSome)=af:=by rfl)(h0:ks≠[]:=by simp):DF 1 X (.Dict ks vs pos) (eDN fs):=PE.imp (Wm hp h1 h2 h3 h0) λZ H Q ⟨P,Y,d,hP,rs,ef,kk⟩ p hn=>by
 obtain⟨ps,e1,ef⟩:=ao ef;cases ef;have x0:Ext H (upd H p (.dK 0 [])):=Ext.new hn;have hP':Hid (cn P [p]) (upd H p (.dK 0 [])):=λa pa=>by
  rcases pa with pa|pa
  .exact hP.ext x0 a pa
  .rw[cF.1 pa];exact .inr ⟨.inl (0,[]),dQ⟩
 have xb:Ext (hid H P) (hid (upd H p (.dK 0 [])) (cn P [p])):=λb o e=>by
  obtain⟨nb,e⟩:=Abr.1 e;have hb:=iP e hn;exact eO (λz=>z.elim nb λm=>hb (by simpa using m)) (by rw[cM hb];exact e)
 refine Cu hP' (rs.ext xb) e1 λqs H2 x2 pr=>?_
 have ep:=x2 _ _ dQ;have lq:qs.length<=sizeLine:=by
  have h4:=lQ pr;have h5:∀ (fs:List (EF×EF)) {ps:List (aI×aA)},yc fs Y=aa ps->ps.length=fs.length:=by
   intro fs;induction fs with
   |nil=>intro ps e;cases e;rfl
   |cons f r ih=>
    obtain⟨fk,fv⟩:=f;intro ps e;obtain⟨_,_,e⟩:=ao (show((fk Y).bind λdk=>(bS dk).bind λkey=>(fv Y).bind λd=>(yc r Y).bind λps=>aa ((key,d)::ps))=aa ps from e)
    obtain⟨_,_,e⟩:=ao e;obtain⟨_,_,e⟩:=ao e;obtain⟨_,e4,e⟩:=ao e;cases e;rw[fA,fA,ih e4]
  have:=h5 fs e1;rw[mL]
  lia
 refine⟨ep,qs,rfl,lq,λn=>?_⟩
 have rk:=Bi pr (Abi.2 rfl);generalize pO ps []=kds at rk kk;generalize mU [] qs=kvs at rk;have rk2:Abm X.K (hid (upd H2 p (.dK n kvs)) (cn P [p])) kds kvs:=rk.ext λb o e=>by
  obtain⟨nb,e⟩:=Abr.1 e;have hb:b≠p:=λz=>nb (.inr (by simp[z]))
  exact eO nb (by rw[cM hb];exact e)
 obtain⟨a3,fl⟩:=MP rk2;refine kk (.ref p) _ [p] (λb o e=>?_) (jC.2 ⟨by simp,.nil⟩) (λa m=>?_) ⟨p,(n,kvs),kvs.map λ_=>[],rfl,dQ,?_,a3⟩
 .rw[cM (iP e hn)];exact x2 _ _ (x0 _ _ e)
 .have:a=p:=by simpa using m
  rw[12];exact⟨hn,_,dQ⟩
 .rw[fl]
section
variable {k:aQ}
theorem Tmp.free{Z:St}(t:Tmp K H0 P0 B0 Y Z n d v H):∃ fp,Sta K H0 P0 B0 Y Z H fp/\Abj K (L2.hid H (Hd P0 fp)) d v:=by
 obtain⟨fp,S,r⟩:=t;have cg:∀ a,Hd P0 (λj=>if j=Y.length then [] else fp j) a->Hd P0 fp a:=λa h=>by
  grind
 refine⟨λj=>if j=Y.length then [] else fp j,⟨S.len,λj=>?_,λj k a h1 h2=>?_,λj a h1=>?_,S.ext,S.hd,S.base.trans (gR cg),λj n' d' e'=>?_⟩,r.share (gR cg) λa m o q=>eO (λz=>?_) q⟩
 .by_cases hj:j=Y.length
  .simp only[hj,if_true];exact .nil
  .simp only[hj,if_false];exact S.nd j
 .by_cases hj:j=Y.length
  .simp only[hj,if_true] at h1;simp at h1
  .by_cases hk:k=Y.length
   .simp only[hk,if_true] at h2;simp at h2
   .simp only[hj,if_false] at h1;simp only[hk,if_false] at h2;exact S.dj j k a h1 h2
 .by_cases hj:j=Y.length
  .simp only[hj,if_true] at h1;simp at h1
  .simp only[hj,if_false] at h1;exact S.own j a h1
 .have bm:=(cK.1 e').1;have hj:j≠Y.length:=()
  obtain⟨v',h1,h2⟩:=S.slot j n' d' e';refine⟨v',h1,?_⟩;simp only[hj,if_false];exact h2.keep (gR cg) λa m=>rfl
 .rcases z with z|⟨k,z⟩
  .exact S.np m z
  .by_cases hk:k=Y.length
   .simp only[hk,if_true] at z;simp at z
   .simp only[hk,if_false] at z;exact hk (S.dj k _ a z m)
def vL (i:Nat)(m:Md)(f:EF)(mk:Md)(g:EF):SF:=λY=>(eV 1 m f Y).bind λd=>(getL i Y).bind λds=>(eV 0 mk g Y).bind λk=>match k with
 |.int j=>(gb ds.length j).bind λj=>aa (.nx (Y.set i (aa (1,.list (ds.set j d)))))
 |_=>ab
theorem KL (i:Nat)(m mk:Md)(he:DF 1 X e f)(hk:DE X k g)(hN:Nm X i x:=by exact hE)
  (ha:∀ v,jR (.Subscript (.Name x px) k av) X.env v=(do
   let ov <-nF [v] (bY (.Name x px) X.env)
   let iv <-nF [v,ov] (bY k X.env)
   standAt av
   nF [v,ov,iv] (setItem ov iv v)
   release [v,ov,iv] []):=by intro _;rfl)
  (hs:OX [.Subscript (.Name x px) k av] e pos.line X.env=pure ah:=by rfl) (hw:OY [.Subscript (.Name x px) k av] e X.env=pure ab:=by rfl)
  (h1:(eZ [.Subscript (.Name x px) k av] X.env).map (·.2)=[jR (.Subscript (.Name x px) k av) X.env]:=by rfl):DS X H0 P0 n0 (.Assign [.Subscript (.Name x px) k av] e pos) (vL i m f mk g):=
 PS.imp (OK (ev m he) (VR (hN.pe) hk set_list ha) hs hw h1) λD Z H gh=>by
  obtain⟨B0,Y,fp,o,S,ef,kk⟩:=gh;obtain⟨d,e1,br⟩:=ao ef;obtain⟨ds,e2,bq⟩:=ao br;obtain⟨kd,e3,dq⟩:=ao bq;clear ef br bq;cases kd with
  |int j=>
   obtain⟨jn,e5,gw⟩:=ao (show((gb ds.length j).bind λj=>aa (Out.nx (Y.set i (aa (1,.list (ds.set j d))))))=aa o from dq)
   cases gw;refine⟨B0,Y,fp,d,S,e1,λv H2 t=>?_⟩
   obtain⟨fj,S2,r2⟩:=t.free;obtain⟨p,xs,h1,h2,_,_⟩:=S2.lst1 (oC e2);refine⟨.ref p,h1,rE S2 e3 (by simp[fC]) λu H3 x3 r3=>?_⟩
   have S3:=S2.grow x3;obtain⟨p3,iz,q1,q2,q3,q4⟩:=S3.lst1 (oC e2);have:p3=p:=by rw[h1] at q1;cases q1;rfl
   rw[12];exact⟨p3,iz,j,jn,rfl,Aah.1 r3,q2,by rw[q3.length];exact e5,kk _ _ fj (q4 _ _ (q3.set (r2.ext (cN x3)) jn))⟩
  |_=>cases dq
end
section
variable {Z:St}
theorem Sta.change{bh:Nat->aan}{d':aA}(S:Sta K H0 P0 B0 Y Z H fp)(hi:i<Y.length)(hv:Z[i]?=aa (aa v))
  (hf:∀ j,j≠i->j<Y.length->bh j=fp j) (hz:∀ j,Y.length<=j->bh j=[]\/bh j=fp j) (nd:(bh i).Nodup) (sub:∀ a∈bh i,∃ j,a∈fp j/\(j=i\/bh j=[]))
  (kp:∀ a,a∉fp i->H' a=H a) (ow:∀ a∈bh i,(∃ xs,H' a=aa (.lst xs))\/∃ q:DQ,H' a=aa (dO q))
  (new:Ext (L2.hid H (Hd P0 fp)) (L2.hid H' (Hd P0 bh))->Aej K (L2.hid H' (Hd P0 bh)) H' n d' v (bh i)):Sta K H0 P0 B0 (Y.set i (aa (n,d'))) Z H' bh:=by
 have same:∀ j,j≠i->∀ a∈bh j,a∈fp j:=λj hj a m=>by
  grind
 have from_:∀ j,∀ a∈bh j,∃ l,a∈fp l:=λj a m=>by
  grind
 have xb:Ext (L2.hid H (Hd P0 fp)) (L2.hid H' (Hd P0 bh)):=λb o e=>by
  obtain⟨nb,e⟩:=Abr.1 e;refine eO (λq=>nb ?_) ?_
  all_goals grind
 have dt:∀ j,j≠i->∀ a∈bh j,H' a=H a:=λj hj a m=>kp a λq=>hj (S.dj j i a (same j hj a m) q)
 refine⟨by simp[S.len],λj=>?_,λj l a h1 h2=>?_,λj a m=>?_,λb u e=>?_,S.hd,S.base.trans xb,λj n' d2 e=>?_⟩
 .by_cases h:j=i
  .rw[h];exact nd
  .by_cases h2:j<Y.length
   .rw[hf j h h2];exact S.nd j
   .rcases hz j () with e|e
    .rw[e];exact .nil
    .rw[e];exact S.nd j
 .by_cases e1:j=i<;>by_cases e2:l=i
  .rw[e1,e2]
  .subst e1;obtain⟨m,hm,hm2⟩:=sub a h1;have:=S.dj m l a hm (same l e2 a h2)
   grind
  .subst e2;obtain⟨m,hm,hm2⟩:=sub a h2;have:=S.dj m j a hm (same j e1 a h1)
   grind
  .exact S.dj j l a (same j e1 a h1) (same l e2 a h2)
 .obtain⟨l,ml⟩:=from_ j a m;refine⟨(S.own l a ml).1,?_⟩;by_cases h:j=i
  .subst h;exact ow a m
  .rw[dt j h a m];exact(S.own j a (same j h a m)).2
 .rw[kp b λq=>by rw[(S.own i b q).1] at e;cases e]
  exact S.ext b u e
 .by_cases q:j=i
  .grind
  .rw[kG (λz=>q z.symm)] at e
   obtain⟨v2,h1,h2⟩:=S.slot j n' d2 e;have hj:=(cK.1 e).1;refine⟨v2,h1,?_⟩;have:=dt j q;rw[hf j q hj] at this ⊢;exact h2.keep xb this
abbrev R1 (K:aK)(B H:Hp)(m:Nat:=1):aA×aA->aI×V->aan->Prop:=λkd kv f=>kd.1=kD kv.1/\Aej K B H m kd.2 kv.2 f
def CM (c m:Nat):Prop:=(c=2/\m=1)\/(c=10/\m=9)
theorem Ms {B:Hp}(hc:CM c m){ds:be}(h:∃ p,∃ xs:Nat×ld,∃ Fs,v=.ref p/\H p=aa (.dK xs.1 xs.2)/\F=p::Fs.flatten/\All3 (R1 K B H m) ds xs.2 Fs):Aej K B H c (.dict ds) v F:=by
 obtain⟨p,xs,Fs,e,hp,hF,h3⟩:=h;rcases hc with⟨rfl,rfl⟩|⟨rfl,rfl⟩
 .exact⟨p,xs,Fs,e,hp,hF,h3⟩
 .exact jS ⟨ds,p,Fs,xs,rfl,e,hp,hF,h3⟩
theorem Sta.dicC(hc:CM c m){ds:be}(S:Sta K H0 P0 B0 Y Z H fp)(e:Y[i]?=aa (aa (c,.dict ds))):∃ p ep xs Fs,Z[i]?=aa (aa (.ref p))/\H p=aa (.dK ep xs)/\fp i=p::Fs.flatten/\All3 (R1 K (L2.hid H (Hd P0 fp)) H m) ds xs Fs:=by
 obtain⟨v,h1,h2⟩:=S.slot i c _ e;rcases hc with⟨rfl,rfl⟩|⟨rfl,rfl⟩
 .obtain⟨p,xs,Fs,rfl,hp,hF,h3⟩:=h2;exact⟨p,xs.1,xs.2,Fs,h1,hp,hF,h3⟩
 .rcases(show _\/Bki _ _ _ _ _ _ from h2) with⟨z,_⟩|⟨ke,p,Fs,xs,z,rfl,hp,hF,h3⟩<;>cases z
  exact⟨p,xs.1,xs.2,Fs,h1,hp,hF,h3⟩
theorem Sta.dic2 {ds:be}(S:Sta K H0 P0 B0 Y Z H fp)(e:Y[i]?=aa (aa (2,.dict ds))):∃ p ep xs Fs,Z[i]?=aa (aa (.ref p))/\H p=aa (.dK ep xs)/\fp i=p::Fs.flatten/\All3 (R1 K (L2.hid H (Hd P0 fp)) H) ds xs Fs:=S.dicC (.inl ⟨rfl,rfl⟩) e
def iQ:be->aI->aA->be
 |[],_,_=>[]
 |(k0,d0)::r,k,d=>if bS k0=aa k then(k0,d)::r else(k0,d0)::iQ r k d
theorem EW (k0 d0:aA)(r:be)(k:aI):bU ((k0,d0)::r) k=if bS k0=aa k then aa d0 else bU r k:=by
 unfold bU
 grind
theorem LW {B:Hp}{k:aI}:∀ {ds:be} {xs:ld} {Fs:aad},All3 (R1 K B H m) ds xs Fs->Fs.flatten.Nodup->∀ d,bU ds k=aa d ->
  ∃ v f,f∈Fs/\gE xs k=aa v/\Aej K B H m d v f/\∀ (B' H':Hp) (d':aA),Ext B B'->Aej K B' H' m d' v f->(∀ a,a∉f->H' a=H a)->All3 (R1 K B' H' m) (iQ ds k d') xs Fs
 |_,_,_,.nil,_,d,e=>by simp[bU] at e
 |(k0,d0)::ds,(k',v0)::xs,f0::Fs,.cons h t,nd,d,e=>by
  obtain⟨ek,h⟩:=h;have ek:=ek;subst ek;rw[EW,iX] at e;rw[rU,AO] at nd;by_cases q:k'=k
  .rw[if_pos (by rw[q])] at e
   cases e;refine⟨v0,f0,bE,vU q,h,λB' H' d' xb r kp=>?_⟩
   show All3 _ (if bS (kD k')=aa k then(kD k',d')::ds else _) _ _
   rw[if_pos (by rw[iX,q])]
   refine .cons ⟨rfl,r⟩ (t.imp λa b c mm rr=>⟨rr.1,rr.2.keep xb λz hz=>kp z λz2=>?_⟩)
   exact nd.2.2 z z2 z (jT.2 ⟨c,mm,hz⟩) rfl
  .rw[if_neg (λz=>q (dY z))] at e
   obtain⟨v,f,mm,h1,h2,h3⟩:=LW t nd.2.1 d e;refine⟨v,f,bL _ mm,(tO q).trans h1,h2,λB' H' d' xb r kp=>?_⟩
   show All3 _ (if bS (kD k')=aa k then(kD k',d')::ds else(kD k',d0)::iQ ds k d') _ _
   rw[if_neg (by rw[iX];exact λz=>q (dY z))]
   refine .cons ⟨rfl,h.keep xb λz hz=>kp z λz2=>?_⟩ (h3 B' H' d' xb r kp)
   exact nd.2.2 z hz z (jT.2 ⟨f,mm,z2⟩) rfl
theorem Sta.inner {ds:be}{k:aI}{es:aah}(S:Sta K H0 P0 B0 Y Z H fp)(e:Y[i]?=aa (aa (2,.dict ds)))(hk:bU ds k=aa (.list es)):∃ p ep xs q ys,Z[i]?=aa (aa (.ref p))/\H p=aa (.dK ep xs)/\gE xs k=aa (.ref q)/\H q=aa (.lst ys)/\Aak K (L2.hid H (Hd P0 fp)) es ys /\
  ∀ gc qd,Aak K (L2.hid H (Hd P0 fp)) gc qd->Sta K H0 P0 B0 (Y.set i (aa (2,.dict (iQ ds k (.list gc))))) Z (upd H q (.lst qd)) fp:=by
 obtain⟨p,ep,xs,Fs,h1,h2,h3,h4⟩:=S.dic2 e;have nd:=S.nd i;rw[h3,jC] at nd;obtain⟨v,f,mf,hv,hr,up⟩:=LW h4 nd.2 _ hk;obtain⟨q,ys,Gs,rfl,hq,hF,g3⟩:=hr;obtain⟨r,hn⟩:=LH g3;rw[hn] at hF;refine⟨p,ep,xs,q,ys,h1,h2,hv,hq,r,λgc qd r'=>?_⟩
 have mq:q∈fp i:=by
  rw[h3];exact bL _ (jT.2 ⟨f,mf,by rw[hF];exact bE⟩)
 have npq:p≠q:=λz=>nd.1 (jT.2 ⟨f,mf,by rw[hF,z];exact bE⟩)
 refine S.change (cK.1 e).1 h1 (λ_ _ _=>rfl) (λ_ _=>.inr rfl) (S.nd i) (λa m=>⟨i,m,.inl rfl⟩) (λa na=>cM λz=>na (z ▸ mq)) (λa m=>?_) λxb=>?_
 .by_cases z:a=q
  .subst z;exact .inl ⟨qd,dQ⟩
  .rw[cM z];exact(S.own i a m).2
 .refine⟨p,(ep,xs),Fs,rfl,by rw[cM npq];exact h2,h3,up _ _ _ xb ?_ λa na=>cM λz=>na (by rw[hF,z];exact bE)⟩
  obtain⟨q1,q2⟩:=EL (r'.ext xb);exact⟨q,qd,_,rfl,dQ,by rw[hF,q2],q1⟩
theorem ZO {B:Hp}{kd:aA×aA}{kv:aI×V}{f:aan}(h:R1 K B H m kd kv f):∀ {ds:be} {xs:ld} {Fs:aad},All3 (R1 K B H m) ds xs Fs->All3 (R1 K B H m) (ds++[kd]) (xs++[kv]) (Fs++[f])
 |_,_,_,.nil=>.cons h .nil
 |_,_,_,.cons h' t=>.cons h' (ZO h t)
theorem An {B:Hp}{k:aI}:∀ {ds:be} {xs:ld} {Fs:aad},All3 (R1 K B H m) ds xs Fs->bU ds k=ab->gE xs k=ab
 |_,_,_,.nil,_=>rfl
 |(k0,d0)::ds,(k',v0)::xs,f0::Fs,.cons h t,e=>by
  obtain⟨ek,h⟩:=h;have ek:=ek;subst ek;rw[EW,iX] at e;by_cases q:k'=k
  .rw[if_pos (by rw[q])] at e;cases e
  .rw[if_neg (λz=>q (dY z))] at e
   exact(tO q).trans (An t e)
theorem KO {B:Hp}:∀ {ds:be} {xs:ld} {Fs:aad},All3 (R1 K B H m) ds xs Fs->xs.length=ds.length
 |_,_,_,.nil=>rfl
 |_,_,_,.cons _ t=>by rw[fA,fA,KO t]
theorem Sta.putG{ds:be}{xs:ld}{p:aC}{A C Fs:aad}(S:Sta K H0 P0 B0 Y Z H fp)(hi:i<Y.length)(h1:Z[i]?=aa (aa (.ref p)))(h3:fp i=p::Fs.flatten)(sub:∀ a,a∈(A++C).flatten->a∈Fs.flatten)(nf:(A++C).flatten.Nodup)(r:Aej K (L2.hid H (Hd P0 fp)) H m d v (fp Y.length))(hc:CM c m)
  (up:∀ B',Ext (L2.hid H (Hd P0 fp)) B'->Aej K B' (upd H p (.dK n xs)) m d v (fp Y.length)->(∀ g∈A++C,∀ a∈g,upd H p (.dK n xs) a=H a)->All3 (R1 K B' (upd H p (.dK n xs)) m) ds xs (A++fp Y.length::C)) :
  ∃ bh,Sta K H0 P0 B0 (Y.set i (aa (c,.dict ds))) Z (upd H p (.dK n xs)) bh:=by
 have nd:=S.nd i;rw[h3,jC] at nd;have mp:p∈fp i:=by rw[h3];exact bE
 have nl:∀ a∈fp Y.length,a∉fp i:=λa m m2=>by
  have:=S.dj _ _ a m m2
  lia
 have mem:∀ a,a∈p::(A++fp Y.length::C).flatten↔a=p\/a∈(A++C).flatten\/a∈fp Y.length:=λa=>by
  grind
 refine⟨λj=>if j=i then p::(A++fp Y.length::C).flatten else if j=Y.length then [] else fp j,S.change hi h1 (λj a b=>?_) (λj a=>?_) ?_ (λa m=>?_) (λa na=>cM λz=>na (by rw[show a=p from z];exact mp)) (λa m=>?_) λxb=>?_⟩
 .grind
 .grind
 .simp only[if_true];rw[List.flatten_append] at nf;simp only[List.flatten_append,rU];have n1:=AO.1 nf;have pn:∀ a,a∈A.flatten\/a∈C.flatten->a≠p:=λa m z=>nd.1 (by
   rw[<-z];exact sub a (by simpa using m))
  refine jC.2 ⟨λm=>?_,AO.2 ⟨n1.1,AO.2 ⟨S.nd _,n1.2.1,λa ha b hb z=>?_⟩,λa ha b hb z=>?_⟩⟩
  all_goals grind
 .grind
 .simp only[if_true] at m;by_cases z:a=p
  .subst z;exact .inr ⟨.inl (n,_),dQ⟩
  .rw[cM z];rcases(mem a).1 m with m|m|m
   .exact absurd m z
   .exact(S.own i a (by rw[h3];exact bL _ (sub a m))).2
   .exact(S.own _ a m).2
 .simp only[if_true];refine Ms hc ⟨p,(n,xs),A++fp Y.length::C,rfl,dQ,rfl,up _ xb (Aej.keep xb (λa m=>cM λz=>nl a m (by rw[show a=p from z];exact mp)) r) λg mg a ma=>cM λz=>nd.1 ?_⟩
  have z:=z;rw[<-z];exact sub a (jT.2 ⟨g,mg,ma⟩)
theorem Sta.newKey{ds:be}{k:aI}(S:Sta K H0 P0 B0 Y Z H fp)(e:Y[i]?=aa (aa (c,.dict ds)))(hk:bU ds k=ab)(r:Aej K (L2.hid H (Hd P0 fp)) H m d v (fp Y.length))(hc:CM c m:=by exact .inl ⟨rfl,rfl⟩):∃ p ep xs,Z[i]?=aa (aa (.ref p))/\H p=aa (.dK ep xs)/\xs.length=ds.length /\
  ∀ n,∃ bh,Sta K H0 P0 B0 (Y.set i (aa (c,.dict (ds++[(kD k,d)])))) Z (upd H p (.dK n (putK xs k v))) bh:=by
 obtain⟨p,ep,xs,Fs,h1,h2,h3,h4⟩:=S.dicC hc e;have hi:=(cK.1 e).1;refine⟨p,ep,xs,h1,h2,KO h4,λn=>?_⟩
 have oz:putK xs k v=xs++[(k,v)]:=by
  unfold putK;rw[yN,An h4 hk]
  rfl
 have nd:=S.nd i;rw[h3,jC] at nd;rw[oz];exact S.putG (C:=[]) hi h1 h3 (λa m=>by simpa using m) (by simpa using nd.2) r hc λB' xb rk kp=>ZO ⟨rfl,rk⟩ (h4.imp λa b c' mm rr=>⟨rr.1,Aej.keep xb (kp c' (by simpa using mm)) rr.2⟩)
end
def rD (i:Nat)(Y:aR)(c:Nat:=2):Option be:=match Y[i]? with
 |some (aa (n,.dict ds))=>if n=c then aa ds else ab
 |_=>ab
theorem tP{ds:be}(h:rD i Y c=aa ds):Y[i]?=aa (aa (c,.dict ds)):=by
 unfold rD at h
 grind
section
variable {k o:aQ}
theorem A5:DF 2 X (.Dict [] [] pos) (eC (.dict [])):=PE.imp XQ λZ H Q gh=>by
 rw[5];cases ef;refine λq hq=>k (.ref q) _ [q] (Ext.new hq) (jC.2 ⟨by simp,.nil⟩) (λa m=>?_) ⟨q,(0,[]),[],rfl,dQ,rfl,.nil⟩
 have:a=q:=by simpa using m
 rw[12];exact⟨hq,_,dQ⟩
def NZ (i:Nat)(m:Md)(f:EF)(mk:Md)(g:EF)(c:Nat:=2)(n:Nat:=1):SF:=λY=>(eV n m f Y).bind λd=>(rD i Y c).bind λkds=>(eV 0 mk g Y).bind λk=>(bS k).bind λk=>if bU kds k=ab/\kds.length<sizeLine then aa (.nx (Y.set i (aa (c,.dict (kds++[(kD k,d)]))))) else ab
theorem o8(i:Nat)(m mk:Md)(hu:X.A.units+40<cLine)(he:DF n X e f)(hk:DE X k g)(hN:Nm X i x:=by exact hE)(hs:kQ e (aa (.Subscript (.Name x px) k av)) pos.line X.env=pure ah:=by rfl)(hc:CM c n:=by first|exact .inl ⟨rfl,rfl⟩|exact .inr ⟨rfl,rfl⟩):DS X H0 P0 n0 (.Assign [.Subscript (.Name x px) k av] e pos) (NZ i m f mk g c n):=
 PS.imp (DR hu (hN.pe) hk (ev (H0:=H0) (P0:=P0) m he) hs) λD Z H gh=>by
  obtain⟨B0,Y,fp,o,S,ef,kk⟩:=gh;obtain⟨d,e1,br⟩:=ao ef;obtain⟨kds,e2,bq⟩:=ao br;obtain⟨kd,e3,dq⟩:=ao bq;obtain⟨key,e4,gw⟩:=ao dq;obtain⟨⟨hn,hl⟩,rfl⟩:=cL gw;clear ef br bq dq;refine⟨B0,Y,fp,d,S,e1,λv H2 gh=>?_⟩
  obtain⟨fj,S2,r2⟩:=gh;obtain⟨p,ep,xs,h1,h2,_,_⟩:=S2.newKey (tP e2) hn r2 hc;have hf:fC kd=af:=by rw[tW e4];cases key<;>simp[kD,fC]
  refine⟨.ref p,h1,rE S2 e3 hf λu H3 x3 r3=>?_⟩
  have S3:=S2.grow x3;have r4:Aej X.K (hid H3 (Hd P0 fj)) H3 n d v (fj Y.length):=r2.keep (cN x3) λa m=>by
   rcases(S2.own _ a m).2 with⟨xs,e⟩|⟨xs,e⟩
   all_goals grind
  obtain⟨p3,om,iz,q1,q2,q3,q4⟩:=S3.newKey (tP e2) hn r4 hc;have:p3=p:=by rw[h1] at q1;cases q1;rfl
  rw[12];refine⟨p3,_,rfl,.inl ⟨om,iz,key,q2,jL e4 r3,by rw[q3];exact hl,rfl⟩,λn'=>?_⟩
  obtain⟨bh,S4⟩:=q4 n';exact kk _ _ bh S4
def FM (i:Nat)(mk:Md)(g:EF)(m:Md)(f:EF):SF:=λY=>(rD i Y).bind λkds=>(eV 0 mk g Y).bind λk=>(bS k).bind λk=>(bU kds k).bind λl=>match l with
 |.list es=>(eV 0 m f Y).bind λd=>match d with
  |.int j=>(gb es.length j).bind λn=>if es.length<=sizeLine then aa (.nx (Y.set i (aa (2,.dict (iQ kds k (.list (es.eraseIdx n))))))) else ab
  |_=>ab
 |_=>ab
theorem Rw (i:Nat)(mk m:Md)(hu:X.A.units+40<cLine)(hk:DE X k g)(he:DE X e f)(hN:Nm X i x:=by exact hE)(O7:GZ k:=by exact λ_ _=>rfl)(q5:Bm X (.Subscript (.Name x px) k ij) e [] "pop" av bc:=by exact⟨rfl,rfl,rfl,rfl,rfl⟩)
  (ni:kQ (.Call (.Attribute (.Subscript (.Name x px) k ij) "pop" av) [e] [] bc) ab pos.line X.env=pure ah:=by rfl):DS X H0 P0 n0 (.Expr (.Call (.Attribute (.Subscript (.Name x px) k ij) "pop" av) [e] [] bc) pos) (FM i mk g m f):=
 PS.imp (yE (vE QA PySem.F.slot_list_pop PySem.F.type_list_pop m4 (Fz hu (hN.pe) hk O7) (hX he jX q5.s) q5) ni) λD Z H gh=>by
  obtain⟨B0,Y,fp,o,S,ef,kk⟩:=gh;obtain⟨kds,e2,bq⟩:=ao ef;obtain⟨kd,e3,dq⟩:=ao bq;obtain⟨key,e4,gw⟩:=ao dq;obtain⟨l,e5,wE⟩:=ao gw;clear ef bq dq gw;cases l with
  |list es=>
   obtain⟨d,e1,ef7⟩:=ao wE;cases d with
   |int j=>
    obtain⟨n,e7,ef8⟩:=ao (show((gb es.length j).bind λn=>if es.length<=sizeLine then aa (Out.nx (Y.set i (aa (2,.dict (iQ kds key (.list (es.eraseIdx n))))))) else ab)=aa o from ef7)
    obtain⟨lz,rfl⟩:=cL ef8;have hf:fC kd=af:=by rw[tW e4];cases key<;>simp[kD,fC]
    obtain⟨p,ep,xs,q,ys,h1,h2,h3,h4,_,_⟩:=S.inner (tP e2) e5;refine⟨.ref p,h1,rE S e3 hf λu H2 x2 r2=>⟨p,.ref q,rfl,.inl ⟨ep,xs,key,.inl (x2 _ _ h2),jL e4 r2,h3.symm⟩,.inl ⟨rfl,ys,SqL.of (x2 _ _ h4)⟩,rE (S.grow x2) e1 (by simp[fC]) λv H3 x3 r3=>?_⟩⟩
    have S3:=S.grow (x2.trans x3);obtain⟨p3,om,iz,q3,Fa,g1,g2,g3,g4,g5,g6⟩:=S3.inner (tP e2) e5;have oz:p3=p:=by rw[h1] at g1;cases g1;rfl
    subst oz;have ex:=g2.symm.trans (x3 _ _ (x2 _ _ h2));injection ex with ex;injection ex with ex1 ex2;subst ex2;have eq':q3=q:=by
     grind
    subst eq';obtain⟨s1,s2,s3,s4⟩:=ID e7;have hl:=g5.length;have hz:Fa.length<=sizeLine:=by rw[hl];exact lz
    have hn:=rK;have hy:Fa[n]?=aa Fa[n]:=fY ()
    exact⟨q3,Fa,j,n,Fa[n],rfl,by rw[Aah.1 r3],g4,(),(),by rw[hl];exact s1,hy,kk _ _ fp (g6 _ _ (MR n g5))⟩
   |_=>cases ef7
  |_=>cases wE
end
def Hg:V->aai->Hp->VK->Prop:=λx vs H Q=>∃ d ep kvs k y,x=.ref d/\vs=[kV k,y]/\H d=aa (.dK ep kvs)/\kvs.length<sizeLine /\
 ((∃ u,gE kvs k=aa u/\Q u H)\/(gE kvs k=ab/\∀ n,Q y (upd H d (.dK n (putK kvs k y)))))
theorem Bd:Q6 X "dict.setdefault" Hg:=by
 intro ac s Z H x vs v us Q I rx rv h;obtain⟨d,ep,kvs,k,y,rfl,rfl,e,l,q⟩:=h;cases rx;cases rv with
 |cons rk rr=>
  cases rr with
  |cons ry rr=>
   cases rr;obtain⟨z,hd,ws,cq,dd⟩:=sO I.hok e;refine call_meetsIn Je dd.typeIs PySem.F.entry_dict_setdefault (PySem.F.args_dict_setdefault_3 _ _ _) (kt_meets_setdefault (fF X.prog X.w) d (qZ rk) hd _) ⟨ws,dd,by rw[<-cq.length];exact z,λw hw=>?_,λhn h' sy sb=>?_⟩
   .have rl:=cq.val k;rcases q with⟨u,hu,q⟩|⟨hu,q⟩
    .rw[hu] at rl;obtain⟨w',e1,e2⟩:=rl.some_of;have e3:w'=w:=by rw[e1] at hw;exact dY hw
     subst e3;exact⟨u,H,I.tok _,e2,q⟩
    .rw[hu] at rl;have:=rl.none_of;rw[this] at hw;cases hw
   .have rl:=cq.val k;rcases q with⟨u,hu,q⟩|⟨hu,q⟩
    .rw[hu] at rl;obtain⟨w',e1,e2⟩:=rl.some_of;rw[e1] at hn;cases hn
    .have hl:(putK kvs k y).length<=sizeLine:=by have:=zL kvs k y;lia
     have he:∃ q,h'.get? d=aa q:=let ⟨q,_,_,hq,_⟩:=sy;⟨q,hq⟩;obtain⟨n,da⟩:=sy.dictAt;exact⟨y,_,DH I (by rw[e];exact nH) sb he (xV hl hd (cq.put k ry) da),ry,q n⟩
section
variable {c k v e2:aQ}{fc:BF}{fv f2:EF}{p3 ap:bH}
def uf (i j:Nat)(mc:Md)(fc:BF)(mk:Md)(fk:EF)(mv:Md)(fv:EF)(m2:Md)(f2:EF):SF:=λY=>(bV mc fc Y).bind λb=>if b=af then
  (eV 0 mk fk Y).bind λkd=>(eV 0 mv fv Y).bind λd=>(bS kd).bind λkey=>(oI j Y).bind λkds=>match d with
   | .int n=>if i<Y.length/\kds.length<sizeLine then aa (.nx (match bU kds key with
    |some u=>Y.set i (aa (0,u))
    | none=>(Y.set j (aa (1,.dict (putD kds key (.int n))))).set i (aa (0,.int n)))) else ab
   |_=>ab
 else(eV 0 m2 f2 Y).bind λd=>if i<Y.length then aa (.nx (Y.set i (aa (0,d)))) else ab
theorem Mr (i j:Nat)(mc mk mv m2:Md)(hN:X.N.Nodup)(hc:DT X c fc)(hk:DE X k fk)(hv:DE X v fv)(he:DE X e2 f2)(hi:X.N[i]?=aa x:=by rfl)(hx:jF X.env.scope x:=by first|exact gU rfl|exact jS rfl)
  (hj:Nm X j y:=by exact hE) (q5:Bm X (.Name y p2) k [v] "setdefault" ap cp:=by exact⟨rfl,rfl,rfl,rfl,rfl⟩) (kg:bX (v::[]) X.env=(ah,bY v X.env)::bX [] X.env:=by rfl)
  (ni:kQ (.IfExp c (.Call (.Attribute (.Name y p2) "setdefault" ap) [k,v] [] cp) e2 p3) (aa (.Name x p1)) pos.line X.env=pure ah:=by rfl) (hf:Fn X x:=by exact jI) :
  DS X H0 P0 n0 (.Assign [.Name x p1] (.IfExp c (.Call (.Attribute (.Name y p2) "setdefault" ap) [k,v] [] cp) e2 p3) pos) (uf i j mc fc mk fk mv fv m2 f2):=
 PS.imp (BW hN hi hx (YQ (R0 mc hc) (vE Jg Je M4 Bd (hj.pe) (hX (ev mk hk) (hX (ev mv hv) jX kg) q5.s) q5) (ev m2 he)) ni hf) λD Z H gh=>by
  obtain⟨B0,Y,fp,o,S,ef,kk⟩:=gh;obtain⟨b,e1,br⟩:=ao ef;refine⟨B0,Y,fp,b,S,e1,λH1 S1=>?_⟩
  cases b with
  |false=>
   refine qX ?_;obtain⟨d,g1,g2⟩:=ao (show((eV 0 m2 f2 Y).bind λd=>if i<Y.length then aa (Out.nx (Y.set i (aa (0,d)))) else ab)=aa o from br)
   obtain⟨hl,rfl⟩:=cL g2;refine⟨B0,Y,fp,d,S1,g1,λu H2 t=>?_⟩
   obtain⟨bh,S'⟩:=t.set hl;exact kk _ _ bh S'
  |true=>
   refine qR ?_;obtain⟨kd,g1,bq⟩:=ao (show((eV 0 mk fk Y).bind λkd=>(eV 0 mv fv Y).bind λd=>(bS kd).bind λkey=>(oI j Y).bind λkds=>match d with
    | .int n=>if i<Y.length/\kds.length<sizeLine then aa (Out.nx (match bU kds key with
     |some u=>Y.set i (aa (0,u))
     | none=>(Y.set j (aa (1,.dict (putD kds key (.int n))))).set i (aa (0,.int n)))) else ab
    | _=>ab)=aa o from br)
   obtain⟨d,g2,dq⟩:=ao bq;obtain⟨key,g3,gw⟩:=ao dq;obtain⟨kds,g4,wE⟩:=ao gw;clear ef br bq dq gw;cases d with
   |int n=>
    obtain⟨⟨hl,hz⟩,rfl⟩:=cL wE;obtain⟨p,ep,xs,h1,h2,_,_⟩:=S1.dic1 (yX g4);refine⟨.ref p,h1,.inr (.inr (.inl ⟨rfl,.inl ⟨ep,xs,h2⟩⟩)),B0,Y,fp,kd,S1,g1,λv1 H2 gh=>?_⟩
    obtain⟨fj,S2,r2⟩:=gh;have W2:=jL g3 r2.2;refine⟨B0,Y,fj,.int n,S2,g2,λv2 H3 gh=>?_⟩
    obtain⟨fp3,S3,r3⟩:=gh;have W3:=Aah.1 r3.2;subst W2 W3;obtain⟨p3,om,iz,q1,q2,q3,q4⟩:=S3.dic1 (yX g4);have:p3=p:=by rw[h1] at q1;cases q1;rfl
    rw[12];refine⟨p3,om,iz,key,.int n,rfl,rfl,q2,by rw[q3.length];exact hz,?_⟩
    rcases tT q3 with⟨n1,n2⟩|⟨d',v',s1,s2,rd⟩
    .refine .inr ⟨n2,λm=>?_⟩
     rw[n1] at kk;have S4:=q4 m _ _ (DB (k:=key) (d:=.int n) (v:=.int n) q3 (Aah.2 rfl));obtain⟨bh,S'⟩:=S4.Akw (Aah.2 rfl) (by simpa using hl)
     exact kk _ _ bh S'
    .refine .inl ⟨v',s2,?_⟩;rw[s1] at kk;obtain⟨bh,S'⟩:=S3.Akw rd hl;exact kk _ _ bh S'
   |_=>cases wE
end
section
variable {Z:St}
theorem set_same {Y:aR}{i:Nat}{x:Slot}(h:Y[i]?=aa x):Y.set i x=Y:=by
 apply Jy
 grind
end
section
variable {Z:St}
def pE (kds:be):List (Option aI):=kds.map λkd=>bS kd.1
theorem ZG {B:Hp}:∀ {ds:be} {xs:ld} {Fs:aad},All3 (R1 K B H m) ds xs Fs->pE ds=xs.map λkv=>aa kv.1
 |_,_,_,.nil=>rfl
 |(k0,d0)::ds,(k',v0)::xs,_,.cons h t=>by
  obtain⟨ek,_⟩:=h;have ek:=ek;subst ek;show bS (kD k')::pE ds=aa k'::xs.map λkv=>aa kv.1
  rw[iX,ZG t]
theorem ZQ {k:aI}:∀ {xs:ld},k∉xs.map (·.1)->(xs.map λkv=>if kv.1=k then(kv.1,v) else kv)=xs
 |[],_=>rfl
 |x::xs,h=>by
  rw[cW,cV] at h;rw[cW,if_neg (λe=>h (.inl e.symm)),ZQ λm=>h (.inr m)]
theorem Be {B:Hp}{k:aI}:∀ {ds:be} {xs:ld} {Fs:aad},All3 (R1 K B H m) ds xs Fs->(xs.map (·.1)).Nodup->∀ d,bU ds k=aa d ->
  ∃ A f C,Fs=A++f::C/\∀ (B' H':Hp) (d':aA) (v':V) (f':aan),Ext B B'->Aej K B' H' m d' v' f'->(∀ g∈A++C,∀ a∈g,H' a=H a)->All3 (R1 K B' H' m) (iQ ds k d') (xs.map λkv=>if kv.1=k then(kv.1,v') else kv) (A++f'::C)
 |_,_,_,.nil,_,d,e=>by simp[bU] at e
 |(k0,d0)::ds,(k',v0)::xs,f0::Fs,.cons h t,nd,d,e=>by
  obtain⟨ek,h⟩:=h;have ek:=ek;subst ek;rw[cW,jC] at nd;rw[EW,iX] at e;by_cases q:k'=k
  .refine⟨[],f0,Fs,rfl,λB' H' d' v' f' xb r kp=>?_⟩
   show All3 _ (if bS (kD k')=aa k then(kD k',d')::ds else _) ((if k'=k then(k',v') else(k',v0))::xs.map λkv=>if kv.1=k then(kv.1,v') else kv) _
   rw[if_pos (by rw[iX,q]),if_pos q,ZQ (by rw[<-q];exact nd.1)]
   exact .cons ⟨rfl,r⟩ (t.imp λa b c mm rr=>⟨rr.1,rr.2.keep xb (kp c (by simpa using mm))⟩)
  .rw[if_neg (λz=>q (dY z))] at e
   obtain⟨A,f,C,rfl,up⟩:=Be t nd.2 d e;refine⟨f0::A,f,C,rfl,λB' H' d' v' f' xb r kp=>?_⟩
   show All3 _ (if bS (kD k')=aa k then(kD k',d')::ds else(kD k',d0)::iQ ds k d') ((if k'=k then(k',v') else(k',v0))::xs.map λkv=>if kv.1=k then(kv.1,v') else kv) _
   rw[if_neg (by rw[iX];exact λz=>q (dY z)),if_neg q]
   exact .cons ⟨rfl,h.keep xb (kp f0 (by simp))⟩ (up B' H' d' v' f' xb r λg mm=>kp g (by rw[xF];exact bL _ mm))
theorem Sta.oldKey{ds:be}{k:aI}{d0:aA}(S:Sta K H0 P0 B0 Y Z H fp)(e:Y[i]?=aa (aa (c,.dict ds)))(dy:(pE ds).Nodup)(hk:bU ds k=aa d0)(r:Aej K (L2.hid H (Hd P0 fp)) H m d v (fp Y.length))(hc:CM c m:=by exact .inl ⟨rfl,rfl⟩):∃ p ep xs,Z[i]?=aa (aa (.ref p))/\H p=aa (.dK ep xs)/\xs.length=ds.length /\
  ∀ n,∃ bh,Sta K H0 P0 B0 (Y.set i (aa (c,.dict (iQ ds k d)))) Z (upd H p (.dK n (putK xs k v))) bh:=by
 obtain⟨p,ep,xs,Fs,h1,h2,h3,h4⟩:=S.dicC hc e;have hi:=(cK.1 e).1;refine⟨p,ep,xs,h1,h2,KO h4,λn=>?_⟩
 have ndx:(xs.map (·.1)).Nodup:=by
  rw[ZG h4,show(xs.map λkv=>aa kv.1)=(xs.map (·.1)).map aa by rw[dC];rfl] at dy
  grind
 have nd:=S.nd i;rw[h3,jC] at nd;obtain⟨v0,f0,_,hv0,_⟩:=LW h4 nd.2 _ hk;have oz:putK xs k v=xs.map λkv=>if kv.1=k then(kv.1,v) else kv:=by
  unfold putK;rw[yN,hv0]
  rfl
 obtain⟨A,f,C,eF,up⟩:=Be h4 ndx _ hk;have sub:∀ a,a∈(A++C).flatten->a∈Fs.flatten:=λa m=>by
  grind
 have nf:(A++C).flatten.Nodup:=by
  grind
 rw[oz];exact S.putG hi h1 h3 sub nf r hc λB' xb rk kp=>up B' _ d v _ xb rk kp
end
section
variable {k o:aQ}
def JE (i:Nat)(m:Md)(f:EF)(mk:Md)(g:EF)(c:Nat:=2)(n:Nat:=1):SF:=λY=>(eV n m f Y).bind λd=>(rD i Y c).bind λkds=>(eV 0 mk g Y).bind λk=>(bS k).bind λk=>if ((bU kds k).isSome=af/\(pE kds).Nodup)/\kds.length<sizeLine then aa (.nx (Y.set i (aa (c,.dict (iQ kds k d))))) else ab
theorem B7(i:Nat)(m mk:Md)(hu:X.A.units+40<cLine)(he:DF n X e f)(hk:DE X k g)(hN:Nm X i x:=by exact hE)(hs:kQ e (aa (.Subscript (.Name x px) k av)) pos.line X.env=pure ah:=by rfl)(hc:CM c n:=by first|exact .inl ⟨rfl,rfl⟩|exact .inr ⟨rfl,rfl⟩):DS X H0 P0 n0 (.Assign [.Subscript (.Name x px) k av] e pos) (JE i m f mk g c n):=
 PS.imp (DR hu (hN.pe) hk (ev (H0:=H0) (P0:=P0) m he) hs) λD Z H gh=>by
  obtain⟨B0,Y,fp,o,S,ef,kk⟩:=gh;obtain⟨d,e1,br⟩:=ao ef;obtain⟨kds,e2,bq⟩:=ao br;obtain⟨kd,e3,dq⟩:=ao bq;obtain⟨key,e4,gw⟩:=ao dq;obtain⟨⟨⟨hn,dy⟩,hl⟩,rfl⟩:=cL gw;obtain⟨d0,hn⟩:=uG.1 hn;clear ef br bq dq;refine⟨B0,Y,fp,d,S,e1,λv H2 gh=>?_⟩
  obtain⟨fj,S2,r2⟩:=gh;obtain⟨p,ep,xs,h1,h2,_,_⟩:=S2.oldKey (tP e2) dy hn r2 hc;have hf:fC kd=af:=by rw[tW e4];cases key<;>simp[kD,fC]
  refine⟨.ref p,h1,rE S2 e3 hf λu H3 x3 r3=>?_⟩
  have S3:=S2.grow x3;have r4:Aej X.K (hid H3 (Hd P0 fj)) H3 n d v (fj Y.length):=r2.keep (cN x3) λa m=>by
   rcases(S2.own _ a m).2 with⟨xs,e⟩|⟨xs,e⟩
   all_goals grind
  obtain⟨p3,om,iz,q1,q2,q3,q4⟩:=S3.oldKey (tP e2) dy hn r4 hc;have:p3=p:=by rw[h1] at q1;cases q1;rfl
  rw[12];refine⟨p3,_,rfl,.inl ⟨om,iz,key,q2,jL e4 r3,by rw[q3];exact hl,rfl⟩,λn'=>?_⟩
  obtain⟨bh,S4⟩:=q4 n';exact kk _ _ bh S4
end
def GS (a:aC)(ep n:Nat):It:=
  ⟨λi H=>∃ kvs kv,H a=aa (.dK ep kvs)/\kvs.length=n/\kvs[i]?=aa kv,
   λi H v H'=>∃ T kv,H T=ab/\v=.ref T/\(∀ kvs,H a=aa (.dK ep kvs)->kvs[i]?=aa kv)/\H'=upd H T (.tup [kV kv.1,kv.2]),
   λi H=>∃ kvs,H a=aa (.dK ep kvs)/\kvs.length=n/\n<=i⟩
theorem j8:uC table "dict_itemiterator.__iter__" = aa Builtin.«dict_keyiterator.__iter__»:=PN (id':="dict_keyiterator.__iter__") (by kernel_rfl) rfl (by rw[0]) (by kernel_rfl)
theorem k6(hT:s.TypeIs (.ref it) "dict_itemiterator")(h:Q (.ref it) s):aL (aP prog w) A (nE (.ref it)) Q E s:=by
 refine FP hT N5 (fU N5 hT j8 ?_ (F.args_dict_itemiterator_iter_1 _));exact aM ⟨_,rfl,"dict_itemiterator",_,hT,F.slot_dict_itemiterator_next.lookup,h⟩
theorem Yp {P:bJ}{es:aau}{cx}{pos:bH}(a it:aC)(ep n:Nat) :
  Turn P w K (.Tuple es cx pos) (GS a ep n) [it] it (λi h=>∃ ok ov,IsItemIter h it a i n ep ok ov) where
 mem:=cF.2 rfl
 obj:=λi h ⟨ok,ov,g⟩ b hb=>by
  grind
 keep:=λi h h' ⟨ok,ov,g⟩ k=>⟨ok,ov,k it (cF.2 rfl) _ g⟩
 item:=by
  rw[1];obtain⟨kvs,kv,ha,hn,hk⟩:=hg;subst hn;obtain⟨z,nm,vs,r,d⟩:=sM I.hok (.inl ha);have hl:kvs.length=vs.length:=r.length;obtain⟨u,hu,r1,r2⟩:=NQ r hk;obtain⟨uk,uv⟩:=u;obtain⟨ok,ov,st⟩:=st;rw[hl] at st;have ik:it<s.heap.objs.size:=bM st;refine wpAny_pyNext_items_item st d hu λkey h' jh eo pr sz keep=>?_
  have rh:kv.1=uk:=r1;have rk:RelV (kV kv.1) key:=by rw[rh];exact Ga jh
  have fr:H s.heap.objs.size=ab:=I.hok.fresh (bB _);have I0:Inv X ac Z (upd H s.heap.objs.size (.tup [kV kv.1,kv.2])) { s with heap:=s.heap.push { cls:=.type "tuple",data:=.seq #[key,uv] },toks:=s.toks }:=
   I.laid (t':=s.toks) (o:=.tup [kV kv.1,kv.2]) (λb ob q=>bF _ q) (bB _) ⟨by show 2<=sizeLine;decide,[key,uv],.cons rk (.cons r2 .nil),A9u.new _ _⟩
  have qc:∀ b∈[it],iR X ac (upd H s.heap.objs.size (.tup [kV kv.1,kv.2])) b:=λb m=>⟨by rw[cM (cO (by rw[cF.1 m];exact ik))];exact(hf b m).1,(hf b m).2⟩
  have I1:Inv X ac Z (upd H s.heap.objs.size (.tup [kV kv.1,kv.2])) { s with heap:=h',toks:=s.toks }:=I0.turnM (t':=s.toks) qc λb o n g=>by
   have n:b≠it:=λq=>n (cF.2 q)
   by_cases hb:b=s.heap.objs.size
   .subst hb;have e':(s.heap.push { cls:=.type "tuple",data:=.seq #[key,uv] }).get? s.heap.objs.size=aa { cls:=.type "tuple",data:=.seq #[key,uv] }:=cI _ rfl
    grind
   .exact keep b o n ((GK _ _ _ hb).symm.trans g)
  refine⟨_,rfl,wpAny_letOwnedTupleGo_items eo λh2 ge sb=>?_⟩
  have I2:Inv X ac Z (upd H s.heap.objs.size (.tup [kV kv.1,kv.2])) { s with heap:=h2,toks:=s.toks }:=I1.turnM (t':=s.toks) qc λb o n g=>sb.extBut b o (λq=>n (cF.2 q)) g
  exact⟨.ref s.heap.objs.size,_,I2,rfl,⟨_,kv,fr,rfl,λU' h=>by rw[ha] at h;cases h;exact hk,rfl⟩,⟨_,_,by rw[hl];exact ge⟩,λb m=>(qc b m).1⟩
 done:=by
  rw[1];obtain⟨kvs,ha,hn,hi⟩:=hg;subst hn;obtain⟨z,nm,vs,r,d⟩:=sM I.hok (.inl ha);have hl:kvs.length=vs.length:=r.length;obtain⟨ok,ov,st⟩:=st;rw[hl] at st;exact wpAny_pyNext_items_end (I.ok.hd hc) st d (by simp;lia) λh' eb=>⟨rfl,I.turnM (t':=s.toks) hf λb o nb e=>eb b o (λq=>nb (cF.2 q)) e⟩
 self:=λ_ _ _ _ _ st h=>by
  obtain⟨ok,ov,st⟩:=st;exact k6 ⟨_,st,rfl⟩ h
section
variable {l:aQ}{es:aau}
def Lc (tl:TE):TI:=λZ H R=>tl Z H λx H1=>∃ a ep kvs,x=.ref a/\H1 a=aa (.dK ep kvs)/\R (GS a ep kvs.length) H1
theorem Vr {tl:TE}(hl:PE X l tl)(qh:PQ l "items" X.env (bY l X.env)=bY l X.env:=by rfl)(qi:(av.endLine==pos.line)=af:=by rfl):PI X (.Tuple es cx ig) (.Call (.Attribute l "items" av) [] [] pos) (Lc tl):=by
 intro ac s Z H R I h;refine wpAny_Call_method qh rfl qi F.plainAttrs_dict F.slot_dict_items F.type_dict_items (bb (hl ac s Z H _ I h) λv s1 gh=>?_)
 obtain⟨x,H1,I1,r1,q1⟩:=gh;obtain⟨a,ep,kvs,rfl,ha,q⟩:=q1;cases r1;obtain⟨z,nm,vs,r,d⟩:=sM I1.hok (.inl ha);obtain⟨_,_,vs2,_,dd⟩:=sO I1.hok ha;have hn:=r.length;refine⟨dd.typeIs,dd.mapOf.noDict,?_⟩;refine method_meetsIn F.slot_dict_items F.entry_dict_items rfl (PySem.evalArgs_none ⟨rfl,dd.typeIs,F.args_dict_items_1 _,_,meets_dict_items _ a nm,⟨vs2,dd⟩,?_⟩);have d2:(s1.heap.push { cls:=.type "dict_items",data:=.fields #[.ref a] }).DictAt (fF X.prog X.w) a vs ep:=by
  obtain⟨o,es,ho,rr⟩:=d;exact⟨o,es,bF _ ho,rr⟩
 refine wpAny_pyIter_items ⟨_,cI _ rfl,rfl,rfl⟩ d2 ?_;have all:∀ b o,s1.heap.get? b=aa o->((s1.heap.push { cls:=.type "dict_items",data:=.fields #[.ref a] }).push { cls:=.type "dict_itemiterator",data:=.fields #[.none,.bool ah,.ref a,.int 0 0,.int vs.length 0,.int ep 0,.none,.none] }).get? b=aa o:=λb o e=>bF _ (bF _ e)
 refine⟨_,[_],_,_,H1,rfl,I1.kept all,Yp a _ ep kvs.length,⟨.none,.none,?_⟩,λb hb=>?_,q⟩
 .rw[hn];exact cI _ rfl
 .rw[cF.1 hb];have le:s1.heap.objs.size<=(s1.heap.push { cls:=.type "dict_items",data:=.fields #[.ref a] }).objs.size:=by
   rw[mO]
   lia
  exact I1.fpOk le (I1.hok.fresh le)
def O1 (f:EF):AF:=λY=>(f Y).bind λd=>match d with
 |.dict kds=>if (dg kds&&kds.all λkd=>cH kd.1)=af then aa (kds.map λkd=>.tuple [kd.1,kd.2]) else ab
 |_=>ab
theorem J0{B:Hp}(h:B a=aa (.dK ep kvs))(r:Abm K B kds kvs)(hl:(kds.all λkd=>cH kd.1)=af):ky K B (GS a ep kvs.length) (kds.map λkd=>.tuple [kd.1,kd.2]):=λi H2 x2=>by
 have h2:=x2 _ _ h;refine⟨λd hd=>?_,λe=>⟨kvs,h2,rfl,by rw[<-e,cJ,r.length];exact bB _⟩⟩
 rw[eU] at hd;obtain⟨kd,hk,rfl⟩:=gM.1 hd;obtain⟨kv,g1,g2,g3⟩:=KF r hk;refine⟨⟨kvs,kv,h2,rfl,g1⟩,?_⟩;rintro x H3 ⟨T,rj,fr,rfl,hx,rfl⟩;have:rj=kv:=dY ((hx kvs h2).symm.trans g1);rw[12];have ext:Ext H2 (upd H2 T (.tup [kV rj.1,rj.2])):=λb u e=>by rw[cM (iP e fr)];exact e
 refine⟨ext,λP2 zh xb=>?_⟩
 have nT:¬ P2 T:=λq=>by
  rcases zh T q with⟨o,e⟩|⟨o,e⟩<;>rw[fr] at e<;>cases e
 have gT:hid (upd H2 T (.tup [kV rj.1,rj.2])) P2 T=aa (.tup [kV rj.1,rj.2]):=eO nT dQ;have xx:Ext B (hid (upd H2 T (.tup [kV rj.1,rj.2])) P2):=xb.trans (cN ext);have lay:=cY.1 hl kd (eT hk);refine Aap.2 ⟨T,_,rfl,gT,Aae.2 ⟨_,_,rfl,?_,Aae.2 ⟨_,_,rfl,g3.ext xx,Aai.2 rfl⟩⟩⟩;rw[g2];exact Hv (by rw[<-g2];exact lay)
theorem Wo(h:DE X l f)(qh:PQ l "items" X.env (bY l X.env)=bY l X.env:=by rfl)(qi:(av.endLine==pos.line)=af:=by rfl):DI X (.Tuple es cx ig) (.Call (.Attribute l "items" av) [] [] pos) (O1 f):=PI.imp (Vr h qh qi) λZ H R gh=>by
 obtain⟨P,Y,ds,hP,rs,ef,k⟩:=gh;obtain⟨d,e1,ef⟩:=ao ef;cases d with
 |dict kds=>
  obtain⟨hl,rfl⟩:=cL ef;refine⟨P,Y,_,hP,rs,e1,dR λv H1 x1 r1=>?_⟩
  obtain⟨pk,hl⟩:=iI.1 hl;obtain⟨a,kvs,rfl,hq,rr⟩:=(oB pk).1 r1;exact⟨a,kvs.1,kvs.2,rfl,Aal _ _ hq,k _ H1 x1 (J0 hq rr hl)⟩
 |_=>cases ef
end
open PySem PySem.W PySem.Calls PyProof.Rows Att
def xY (ns:aal):Prop:=∀ x∈ns,mQ x<=1048576
theorem weigh:∀ {ns:aal} {x:Int},x∈ns->mQ x<=WData.weightAll (ns.map WData.int)
 |n::ns,x,m=>by
  rw[cW,WData.weightAll];have e:WData.weight (.int n)=mQ n:=by
   rw[WData.weight]
   rfl
  rw[10]
  .rw[e];lia
  .have:=weigh m
   lia
theorem Wf {ns:aal}(h:WData.layableAll [WData.list (ns.map WData.int)]=af):xY ns:=λx m=>by
 have h1:WData.layable (.list (ns.map .int))=af:=by simpa [WData.layableAll] using h
 have h2:=of_decide_eq_true (iI.1 h1).2;rw[WData.weight] at h2;have:=weigh m
 lia
theorem c7 {l:OpenLaw}{q:bJ}{gq:aak}{XP:(aE->aap)->aU->Prop}{YP:bA->aU->Prop}{d:DefRec}
  (hn:l.most=aa n) (Go:d.params.defaults=[])
  (call:∀ (w:bA) (s₀ s₁:aH) (mg mb:aE->aap) (fa:aC) (o:bD) (pm cd ib:aD) (a:aC) (vs:aam) (ns:aal),
   xY ns->Ground q gq [] XP w s₀ mg mb s₁.heap->YP w s₁.heap ->
   s₁.heap.get? fa=aa o->o.data=.func (docDef d.name d.params d.body d.scope pm cd ib)->s₁.heap.CodeRec cd d.name->mg d.name=aa (.ref fa) ->
   s₁.heap.get? a=aa { cls:=.type "list",data:=.seq vs.toArray }->IntsAre vs ns->ns.length<=n->s₁.gens = #[] ->
   jQ (aP l.prog w) wN (.call (.ref fa) ⟨[.ref a],[]⟩) (λr s'=>r=.ok (.ret (.bool af))/\OldK s₁.heap s'.heap/\s'.os=s₁.os/\rW s'.gens) s₁) :
  WalkO q gq XP YP l.row.toRowW d [] (λf vs=>PySem.call f vs):=by
 intro w s₀ s₁ mg mb G al fa o pm cd ib dV kV ho hd o0 hD Id hg args we as ng W4 hrd ur hlo;obtain rfl:dV=.none:=Dflts.none hD Go;obtain rfl:kV=.none:=Dflts.noKw hD;obtain⟨a,vs,ns,rfl,rfl,wP,qj,ax⟩:=E2 hn ng ur;refine enter_call (wM (call w s₀ s₁ mg mb fa o pm cd ib a vs ns (Wf W4) G al ho (fd_plain hd) o0 Id wP qj ax hg) λr s' hq=>?_)
 obtain⟨rfl,h2,h3,h4⟩:=hq;exact⟨.inl ⟨.bool af,.bool af,[],rfl,λ_=>rfl,.bool af,F5 l _,λ_=>⟨Kc,λ_ hm=>(nomatch hm)⟩⟩,h2,h3,h4⟩
theorem A8s {l:PySem.W.OpenLaw}{q:bJ}{gq:aak}{XP:(aE->aap)->aU->Prop}{YP:bA->aU->Prop}{d:DefRec}{K:Params->aK}{CX:bA->qr}{sp:bA->Sp}
  (hn:l.most=aa n) (hn2:n<=sizeLine) (Go:d.params.defaults=[]) (hr:Room k wN)
  (hY:∀ (w:bA) (h:aU),YP w h->(K w.params).In h)
  (F:∀ (w:bA) (mg:aE->aap) (fa:aC) (h:aU),(K w.params).In h->h.Ns jO mg->mg d.name=aa (.ref fa) ->
   ∃ fd:mB,(∀ (s:aH) (u:aD),BindsTo s fd ⟨[u],[]⟩ [(x,u)]) /\
    ∀ base:aU,(K w.params).In base->base.Ns jO mg->FnOk l.prog w (K w.params) mg base (CX w) k fa fd [x] (sp w))
  (uq:∀ (w:bA) (H:Hp) (a:aC) (ns:aal),xY ns->ns.length<=n->Only H->SqL (K w.params) H a (ns.map V.int)->sp w [.ref a] H (λv _=>v=.bl af) λ_ _ _=>False)
  (Ty:∀ (w:bA) (H:Hp) (s:aH) (e:aD) (s':aH),CX w [] H s (λ_ _ _=>False) e s'->False) :
  PySem.W.WalkO q gq XP YP l.row.toRowW d [] (λf vs=>PySem.call f vs):=by
 refine c7 hn Go λw s₀ s₁ mg mb fa o pm cd ib a vs ns hB G al ho hd o0 Id wP qj ax hg=>?_
 have KX:=hY w _ al;obtain⟨fd,hb,hF⟩:=F w mg fa _ KX G.T.g Id;exact t7 KX G.T.g G.T.b G.T.builtins G.T.nolimit hg wP qj (dI ax hn2) hr hF hb (λH hO hS=>uq w H a ns hB ax hO hS) λH e s'=>Ty w H s₁ e s'
noncomputable def nQ:aA->aA->aaj:=sh (λi j=>(i.natAbs<2^64\/j.natAbs<2^64)\/mQ i+mQ j<=134217728) λi j=>.int (i*j)
section
variable {a b:aQ}{fa fb:EF}
theorem Rn:OpR X (kC .Mult) (rI (λi j=>(i.natAbs<2^64\/j.natAbs<2^64)\/mQ i+mQ j<=134217728) λi j=>.int (i*j)):=by
 intro ac s Z H x y v u Q I rx ry ⟨i,j,ex,ey,hc,q⟩;rcases hc with hc|hc
 .exact Ac ac s Z H x y v u Q I rx ry ⟨i,j,ex,ey,.inl hc,q⟩
 .exact yh (λi j _ _ _ _ _ hc q=>mul_int q (M7 (bB _) (bB _) hc)) ac s Z H x y v u Q I rx ry ⟨i,j,ex,ey,hc,q⟩
theorem Va (ha:DE X a fa)(hb:DE X b fb):DE X (.BinOp a .Mult b pos) (ai nQ fa fb):=pF Rn (zZ (λ_ _ h=>h) λ_ _ _=>Aah.2 rfl) ha hb
end
theorem Zd {k k':aah}{b:aC}{as on:aan}{P:PZ->aH->Prop}(ra:kS s.heap (.ref a) (.tuple k) as)(rb:kS s.heap (.ref b) (.tuple k') on)(hs:eI k k'=af)(h:P (.done (.ret (.bool (decide (cA k<cA k'))))) s) :
  aL (aP prog w) A (Builtin.«tuple.__lt__» ⟨[.ref a,.ref b],[]⟩) P E s:=by
 obtain⟨_,o,xs,n,z,ho,hc,hd,hr⟩:=lH ra;cases z;obtain⟨_,o',ys,n',z,mn,cy,jw,uz⟩:=lH rb;cases z;have hsz:xs.size=ys.size:=by
  have l1:=tR hr;have l2:=tR uz;have ll:=yZ hs;simp only[jU] at l1 l2
  lia
 have ty:s.TypeIs (.ref b) "tuple":=⟨_,mn,cy⟩;show aL _ _ (isInstance (.ref b) (.type "tuple")>>=_) _ _ s;refine aG (pZ ty isSubtype_tuple_tuple ?_);simp only[AZ,gV,if_false];refine aG (Ik ho hd ?_);refine aG (Ik mn jw ?_);rw[11];refine AA _
  (λrest r s'=>r.1=ab/\s'=s/\∃ q q' gg qd bs uw,rest=List.zip gg qd/\lM s.heap gg q bs/\lM s.heap qd q' uw/\eI q q'=af/\decide (cA q<cA q')=decide (cA k<cA k'))
  _ ?_ ?_ _ _ ⟨rfl,rfl,k,k',xs.toList,ys.toList,_,_,rfl,hr,uz,hs,rfl⟩
 .rintro⟨u,v⟩ rest r s' ⟨W5,rfl,q,q',gg,qd,bs,uw,hz,h1,h2,hq,nr⟩;cases h1 with
  |nil=>simp at hz
  |cons r1 r2=>
   cases h2 with
   |nil=>simp at hz
   |cons rh xu=>
    simp only[QO,Kb,Prod.mk.injEq] at hz;obtain⟨⟨rfl,rfl⟩,rfl⟩:=hz;cases r1 with
    |int x t=>
     cases rh with
     |int y t'=>
      refine aG ((fF prog w).eqBool (zM _ _ x t) (zM _ _ y t') ?_);refine pY (λz=>?_) λz=>?_
      .have e:x≠y:=λq=>by simp[q] at z
       refine aG (lJ (aG (show aL _ _ (gK .Lt (.int x t) (.int y t')) _ _ _ from lt_int ?_)))
       have:decide (cA k<cA k')=decide (x<y):=by
        rw[<-nr,decide_eq_decide,yH];simp[e]
       rw[this] at h;exact aG (aM (aM (aM h)))
      .have e:x=y:=by simpa using z
       subst e;refine aM ⟨rfl,rfl,_,_,_,_,_,_,rfl,r2,xu,by simpa [eI] using hq,?_⟩
       rw[<-nr,decide_eq_decide,yH];simp
     |_=>simp[eI] at hq
    |str x t=>
     cases rh with
     |str y t'=>
      refine aG ((fF prog w).eqBool (zR _ _ x t) (zR _ _ y t') ?_);refine pY (λz=>?_) λz=>?_
      .have e:x≠y:=λq=>by simp[q] at z
       refine aG (lJ (aG (show aL _ _ (gK .Lt (.str x t) (.str y t')) _ _ _ from lt_str ?_)))
       have:decide (cA k<cA k')=decide (x.cps.toList<y.cps.toList):=by
        rw[<-nr,decide_eq_decide,CI];simp[e]
       rw[this] at h;exact aG (aM (aM (aM h)))
      .have e:x=y:=by simpa using z
       subst e;refine aM ⟨rfl,rfl,_,_,_,_,_,_,rfl,r2,xu,by simpa [eI] using hq,?_⟩
       rw[<-nr,decide_eq_decide,CI];have:¬ x.cps.toList<x.cps.toList:=Js _;simp[this]
     |_=>simp[eI] at hq
    |_=>simp[eI] at hq
 .rintro⟨r1,r2⟩ s' ⟨W5,rfl,q,q',gg,qd,bs,uw,hz,h1,h2,hq,nr⟩;simp only at W5;subst W5;refine aM ?_;have hf:decide (cA k<cA k')=ah:=by
   rw[<-nr];cases h1 with
   |nil=>
    cases h2 with
    |nil=>rfl
    |cons _ _=>simp[eI] at hq
   |cons _ _=>
    cases h2 with
    |nil=>simp[eI] at hq
    |cons _ _=>simp at hz
  rw[hf] at h;show P (.done (.ret (.bool (decide (xs.size<ys.size))))) s';rw[decide_eq_false ()]
  exact h
theorem Pn {k k':aah}{b:aC}(hu:A.units<cLine)(ha:Abn s.heap k a)(hb:Abn s.heap k' b)(hs:eI k k'=af)(h:Q (.bool (decide (cA k<cA k'))) s) :
  aL (aP prog w) A (gK .Lt (.ref a) (.ref b)) Q E s:=by
 obtain⟨_,_,as,ra⟩:=ha;obtain⟨_,_,on,rb⟩:=hb;show aL _ _ (PF .Lt (.ref a) (.ref b)) Q E s;exact wpAny_richCompare_same_room (NO ra) (NO rb) PySem.F.slot_tuple_lt (fU PySem.F.slot_tuple_lt (NO ra) PySem.F.entry_tuple_lt (Zd ra rb hs ⟨_,rfl,(λe=>nomatch e),h⟩) (PySem.F.args_tuple_lt_2 _ _)) hu
section
variable {S:aC}{fp:aan}{P:Nat->aD->Prop}{St:Nat->aU->Prop}{h₀:aU}{kw:List (aE×aD)}{bt:Nat->Nat->Bool}
theorem l9 (W:Walks prog w A.in1 I fp [I] n P St)(hI:h₀.get? I=ab)(P1:h₀.get? S=ab)(wq:S∉fp)
  (hc:∀ i j vi vj (s:aH) (Q E:aD->aH->Prop),P i vi->P j vj->(∀ b o,h₀.get? b=aa o->s.heap.get? b=aa o)->Q (.bool (bt i j)) s->aL (aP prog w) A.in1 (PF .Lt vi vj) Q E s) :
  ∀ (k j:Nat) (s:aH) (o:Array aD) (c:Nat),n-j=k->j<=n->St j s.heap->((j=0/\o = #[])\/∃ vb i,o = #[vb,vb]/\j=i+1/\P (nG bt i) vb)->s.heap.get? S=aa { cls:=.type "list",dict:=ab,data:=.seq o c,slots:=#[] } ->
  (∀ b u,h₀.get? b=aa u->s.heap.get? b=aa u)->(n=0->∃ x d r,kw=(x,d)::r/\∀ h' tk,(∀ b u,h₀.get? b=aa u->h'.get? b=aa u)->R (.ok (.ret d)) { s with heap:=h',toks:=tk }) ->
  (∀ v h' tk i,n=i+1->P (nG bt i) v->(∀ b u,h₀.get? b=aa u->h'.get? b=aa u)->R (.ok (.ret v)) { s with heap:=h',toks:=tk }) ->
  jQ (aP prog w) A (.builtin "min.loop" ⟨[.ref I,.none,.ref S],kw⟩) R s:=by
 have iq:(toString "min" ++ toString ".loop" : String) = "min.loop":=by decide
 have BT:S∉[I]:=λh=>wq (W.sub _ h)
 have out:∀ {b:aC} {u:bD},h₀.get? b=aa u->b∉[I]/\b≠S:=λ{b u} e=>⟨λm=>(by rw[cF.1 m,hI] at e;cases e),λz=>(by rw[z,P1] at e;cases e)⟩
 intro k;induction k with
 |zero=>
  intro j s o c hk hj dm ho hS kp h0 hR;have e:j=n:=()
  subst e;refine jP F.entry_min_loop ?_;rw[kY AV _];refine aG (jM hS rfl ?_);refine aG (FN (W.done s _ _ dm λh' tk ce=>?_))
  have xy:∀ b u,h₀.get? b=aa u->h'.get? b=aa u:=λb u e=>ce b u (out e).1 (kp b u e)
  rcases ho with⟨e,rfl⟩|⟨vb,i,rfl,e,hP⟩
  .obtain⟨x,d,r,rfl,q⟩:=h0 e;exact aG (lJ (aM (q h' tk xy)))
  .refine aG (tX (ce S _ BT hS) rfl (aG (rS (aM ?_))));exact hR vb _ tk i e hP λb u e=>(qN _ _ (fX (out e).2)).trans (xy b u e)
 |succ k ih=>
  intro j s o c hk hj dm ho hS kp h0 hR;have bm:j<n:=()
  refine jP F.entry_min_loop ?_;rw[kY AV _];refine aG (jM hS rfl ?_);refine aG (FN (W.item j s _ _ bm dm λv h' tk hP il ce=>?_))
  have gj:=ce S _ BT hS;have xy:∀ b u,h₀.get? b=aa u->h'.get? b=aa u:=λb u e=>ce b u (out e).1 (kp b u e)
  have put:P (nG bt j) v->∀ g:Array aD->Array aD,g o = #[v,v]->jQ (aP prog w) A (.builtin "min.loop" ⟨[.ref I,.none,.ref S],kw⟩) R { s with heap:=h'.update S (fM g),toks:=tk }:=λhb g hg=>by
   obtain⟨c',cy⟩:∃ c',(h'.update S (fM g)).get? S=aa (fV "list" (g o) c'):=⟨_,get?_update_seq gj g⟩;rw[hg] at cy;exact ih (j+1) _ #[v,v] c' () bm (W.frame _ _ _ il λb hbf u e=>(qN _ _ (λh:S=b=>wq (by rw[h];exact hbf))).trans e) (.inr ⟨v,j,rfl,rfl,hb⟩) cy (λb u e=>(qN _ _ (fX (out e).2)).trans (xy b u e)) (λz=>()) hR
  rcases ho with⟨e,rfl⟩|⟨vb,i,rfl,e,hb⟩
  .subst e;show aL _ A.in1 (AB S (λ_=>#[v,v])>>=_) _ _ _
   refine aG (tX gj rfl ?_);rw[iq];exact aM ⟨kR AV _,put hP _ rfl⟩
  .subst e;show aL _ A.in1 (tryCatch (nF [v,v] (PF .Lt v vb>>=_)) _>>=_) _ _ _;refine aG (FN (eY (aG (hc _ _ v vb _ _ _ hP hb xy ?_))));refine aG (eY (FO (aG (rS (aM ?_)))));cases q:bt (i+1) (nG bt i) with
   |true=>
    simp only[if_true];refine aG (tX gj rfl (aG (rS ?_)));rw[iq];exact aM ⟨kR AV _,put (by simp only[nG,q,if_true];exact hP) _ rfl⟩
   |false=>
    simp only[gV,if_false];refine aG (rS ?_);rw[iq];exact aM ⟨kR AV _,ih _ _ _ c () bm il (.inr ⟨vb,i+1,rfl,rfl,by simp only[nG,q,gV,if_false];exact hb⟩) gj xy (λz=>()) hR⟩
theorem Pl(hh:A.handled=ab)(hl:s.heap.IsList l vs.toArray)(W6:kw=[]\/kw=[(("default" : aE),eE)])
  (hc:∀ i j vi vj (s':aH) (Q E:aD->aH->Prop),vs[i]?=aa vi->vs[j]?=aa vj->(∀ b o,s.heap.get? b=aa o->s'.heap.get? b=aa o)->Q (.bool (bt i j)) s'->aL (aP prog w) A.in1 (PF .Lt vi vj) Q E s')
  (h0:vs=[]->kw≠[]/\∀ h' tk,(∀ b o,s.heap.get? b=aa o->h'.get? b=aa o)->Q .none { s with heap:=h',toks:=tk })
  (h:∀ v h' tk i,vs.length=i+1->vs[nG bt i]?=aa v->(∀ b o,s.heap.get? b=aa o->h'.get? b=aa o)->Q v { s with heap:=h',toks:=tk }):aL (aP prog w) A (call (.builtin "min") [.ref l] kw) Q E s:=by
 have iq:(toString "min" ++ toString ".loop" : String) = "min.loop":=by decide
 have bm:l<s.heap.objs.size:=by obtain⟨_,e,_⟩:=hl;exact bM e
 have ha:qF "min" ⟨[.ref l],kw⟩:=by rcases W6 with rfl|rfl<;>(unfold qF;kernel_rfl)
 refine kmk_tree F.kind_min F.plain_min F.entry_min ha ?_;obtain⟨dv,edv,ek⟩:∃ dv:aap,Builtin.Builtins.bindParams "min" ["key","default"] 0 ⟨[],kw⟩=pure [ab,dv]/\dv.toList.map (λd=>(("default" : aE),d))=kw:=by
  rcases W6 with rfl|rfl
  .exact⟨ab,rfl,rfl⟩
  .exact⟨aa .none,rfl,rfl⟩
 refine aG (wG edv (aG (aM (aG (wD hl (aG (wH ?_ (eG _))))))));rw[iq];have fr:∀ b,s.heap.objs.size<=b->s.heap.get? b=ab:=λb hb=>Heap.get?_none_of_le hb
 have sz:∀ o,(s.heap.push o).objs.size=s.heap.objs.size+1:=λo=>size_push' ..
 refine aM ⟨kR AV _,?_⟩;rw[13];rw[ek];refine l9 (P:=λi v=>vs.toArray[i]?=aa v) (Walks.list (A:=A.in1) hh s.heap.objs.size l (cO bm) vs.toArray) (fr _ (bB _)) (fr _ (by rw[sz];lia)) (λm=>?_) (λi j vi vj s' Q' E' hi hj kp q=>hc i j vi vj s' Q' E' (by simpa using hi) (by simpa using hj) kp q) _ 0 _ #[] _ rfl (eG _) ⟨⟨_,bF _ (cI _ rfl),rfl,rfl⟩,?_⟩ (.inl ⟨rfl,rfl⟩) (cI _ rfl) (λb u e=>bF _ (bF _ e)) (λz=>?_) λv h' tk i e hP kp=>h v h' tk i (by simpa using e) (by simpa using hP) kp
 .rw[sz] at m;simp at m
  lia
 .obtain⟨o,e,r⟩:=hl;exact⟨o,bF _ (bF _ e),r⟩
 .have e:vs=[]:=by simpa using z
  obtain⟨k1,k2⟩:=h0 e;rcases W6 with rfl|rfl
  .exact absurd rfl k1
  .exact⟨_,_,_,rfl,k2⟩
end
def lr:aA->aA->Bool
 |.int i,.int j=>decide (i<j)
 |.tuple k,.tuple k'=>decide (cA k<cA k')
 |_,_=>ah
def fP (ds:aah):Nat->Nat:=nG λi j=>lr (ds.getD i .none) (ds.getD j .none)
def ue (ds:aah):Bool:=(pC ds).isSome||((iM ds).any λkss=>sameAll kss)
def pI (nn:Bool):aah->aaj
 |[.list ds]=>if ue ds=af/\(ds=[]->nn=af) then aa (match ds with|[]=>.none|_::r=>ds.getD (fP ds r.length) .none) else ab
 |_=>ab
theorem Td{is:aal}(h:IntsAre vs is):∀ {i:Nat} {v:aD},vs[i]?=aa v->∃ t,v=.int (is.getD i 0) t:=by
 induction h with
 |nil=>intro i v e;simp at e
 |cons n t r ih=>
  intro i v e;cases i with
  |zero=>exact⟨t,by simpa using e.symm⟩
  |succ i=>simpa using ih (by simpa using e)
theorem Fe(ta:Ae7 h vs kss):∀ {i:Nat} {v:aD},vs[i]?=aa v->∃ b k,v=.ref b/\k∈kss/\(kss.map dM).getD i .none=.tuple k/\Abn h k b:=by
 induction ta with
 |nil=>intro i v e;simp at e
 |cons h t ih=>
  intro i v e;cases i with
  |zero=>
   obtain⟨b,rfl,hd⟩:=h;exact⟨b,_,by simpa using e.symm,bE,rfl,hd⟩
  |succ i=>
   obtain⟨b,k,h1,h2,h3,h4⟩:=ih (by simpa using e)
   exact⟨b,k,h1,bL _ h2,h3,h4⟩
theorem zO (bt:Nat->Nat->Bool):∀ n,nG bt n<=n
 |0=>bB _
 |n+1=>by
  have:=zO bt n;simp only[nG];split<;>lia
def X5:Bool->List (aE×aD)
 |true=>[("default",.none)]
 |false=>[]
def HD (K:aK)(nn:Bool):aai->Hp->VK->Prop:=λxs H Q=>∃ p ys ds,xs=[.ref p]/\SqL K H p ys/\Aak K H ds ys/\ue ds=af/\(ds=[]->nn=af/\Q .non H)/\∀ i,ds.length=i+1->Q (ys.getD (fP ds i) .non) H
theorem Ay (nn:Bool)(hc:X.calm=af)(hu:X.A.units+40<cLine){Z:St}{us:aam}{Q:VK}(I:Inv X ac Z H s)(r:Vals xs us)(h:HD X.K nn xs H Q) :
  aL (aP X.prog X.w) X.A (call (.builtin "min") us (X5 nn)) (λu s'=>∃ v H',Inv X ac Z H' s'/\RelV v u/\Q v H') X.xe s:=by
 obtain⟨p,ys,ds,rfl,hp,rd,ok,q0,q⟩:=h;obtain⟨u,rfl,ru⟩:=vals1 r;cases ru;obtain⟨its,rv,pl,hz⟩:=I.list hp;have l1:=rv.length;have l2:=rd.length;have inv:∀ {h':aU} {tk:Nat},(∀ b o,s.heap.get? b=aa o->h'.get? b=aa o)->Inv X ac Z H { s with heap:=h',toks:=tk }:=λk=>I.kept k
 refine Pl (bt:=λi j=>lr (ds.getD i .none) (ds.getD j .none)) (I.ok.hd hc) pl.isList (by cases nn<;>simp[X5]) ?_ (λe=>?_) λv h' tk i e ev kp=>?_
 .rcases Ko.1 ok with ok|ok
  .obtain⟨is,e⟩:=uG.1 ok;obtain rfl:=Hc e;obtain rfl:=Dt rd;have hi:=SW rv;intro i j vi vj s' Q' E' ei ej kp qq;have gd:∀ i v,its[i]?=aa v->(is.map aT).getD i .none=.int (is.getD i 0):=λi v e=>by
    have:=(cK.1 e).1;have hl:i<is.length:=by simpa using(by lia:i<(is.map V.int).length)
    simp[hl]
   rw[gd i vi ei,gd j vj ej] at qq;exact CmpOf.ints_lt (λi=>is.getD i 0) (λi v e=>Td hi e) i j vi vj s' Q' E' ei ej qq
  .cases e:iM ds with
   |none=>rw[e] at ok;cases ok
   |some kss=>
    have ok2:sameAll kss=af:=by rw[e] at ok;exact ok
    obtain⟨rfl,hk⟩:=KB e;have ta:=IS I.hok (KD hk rd) rv;intro i j vi vj s' Q' E' ei ej kp qq;obtain⟨a,k,rfl,m1,e1,d1⟩:=Fe ta ei;obtain⟨b,k',rfl,m2,e2,d2⟩:=Fe ta ej;rw[e1,e2] at qq;exact Pn (show X.A.units+1<cLine by lia) (d1.keep λb o _ _ e _ _=>kp b o e) (d2.keep λb o _ _ e _ _=>kp b o e) (cY.1 (cY.1 ok2 k m1) k' m2) qq
 .obtain⟨a1,a2⟩:=q0 (by rw[<-Jv,<-l2,l1,e];rfl)
  subst a1;exact⟨by simp[X5],λh' tk kp=>⟨.non,H,inv kp,rfl,a2⟩⟩
 .have hb:fP ds i<its.length:=(cK.1 ev).1;refine⟨_,H,inv kp,?_,q i ()⟩
  have:=LO (fP ds i) rv ()
  rwa [jE (l:=its),show its[fP ds i]?=aa v from ev] at this
theorem J4 (hc:X.calm=af)(hu:X.A.units+40<cLine):Acm X (.builtin "min") (HD X.K ah):=λac s Z H xs us Q I r h=>Ay ah hc hu I r h
theorem Yu{nn:Bool}:CallD K 0 (HD K nn) (pI nn):=λP H xs ds d Q hP r e k=>by
 unfold pI at e;split at e
 .rename_i ds;obtain⟨⟨ok,hn⟩,rfl⟩:=cL e;obtain⟨v,rfl,r'⟩:=fK r;obtain⟨p,ys,rfl,hp,rr⟩:=Aa8.1 r';refine⟨p,ys,ds,rfl,Aal.sqL hp,rr.ext Aal,ok,λe=>?_,λi e=>?_⟩
  .subst e;exact⟨hn rfl,k.zero Ext.refl (Abq.2 rfl)⟩
  .cases ds with
   |nil=>cases e
   |cons d0 r0=>
    have ei:r0.length=i:=by simpa using e
    subst ei;have ll:=rr.length;have hb:fP (d0::r0) r0.length<ys.length:=by
     have:=zO (λi j=>lr ((d0::r0).getD i .none) ((d0::r0).getD j .none)) r0.length
     rw[ll];exact Nat.lt_succ_of_le this
    obtain⟨v,h1,h2⟩:=rr.get (show(d0::r0)[fP (d0::r0) r0.length]?=aa ((d0::r0).getD (fP (d0::r0) r0.length) .none) by
     rw[jE,fY (by rw[<-ll];exact hb)];rfl)
    refine k.zero Ext.refl ?_;rw[jE,h1];exact h2
 .cases e
theorem B8{p:bH}{t:TA}{id:String}{r:aai->Hp->VK->Prop}{kn:aE}(hc:∀ ac s Z H xs us Q,Inv X ac Z H s->Vals xs us->r xs H Q->aL (aP X.prog X.w) X.A (call (.builtin id) us [(kn,.none)]) (λu s'=>∃ v H',Inv X ac Z H' s'/\RelV v u/\Q v H') X.xe s)(hg:Gl X x)(hm:X.mg x=ab)(hv:mM x=aa (.builtin id))(ha:PA X [e] t)
  (hn:x ≠ "__name__":=by decide) (ie:(x==("__debug__" : aE))=ah:=by decide) (he:gL pos (bX [e] X.env)=(ah,bY e X.env)::gL pos (bX [] X.env):=by rfl) (cz:(gL pos (bX [e] X.env)).any (·.1)=ah:=by rfl):PE X (.Call (.Name x p) [e] [⟨aa kn,.Constant .none j cp,kp⟩] pos) (R4 r t):=by
 rw[9];refine OV (rJ I hg hm hv ?_ hn ie);refine callWith_kw (bb (ha pos ac s Z H _ I h) λus s1 ⟨vs,H1,I1,r1,q1⟩=>kws_cons (Constant_none (kws_nil ?_))) he cz
 exact hc ac s1 Z H1 vs us Q I1 r1 q1
section
variable {P:bJ}
variable {C TI TO:aC}{xs ys:Array aD}{T:Nat}{c:Bool}
end
section
variable {TI TO:aC}{xs ys:Array aD}
end
def yg (x:aE)(XN:aak)(cap:tz):aak:=cap.map fun
 |none=>x
 |some j=>XN.getD j x
structure Sx (out:List (aE×jB))(XN:List aE):Prop
theorem NT{dz az:aQ}{fi:AF}{t:BF}{fz:aau}{sc:fW}{cap:tz}{out:aac}{XN:aak}(_:Sx out XN)(hi:DI X (.Name x px) az fi)(ht:∀ cl C s₀ H₀ ex,sJ (gH X (yg x XN cap) sc cl C s₀ H₀ ex) fz (sq X.K t))(hb:∀ cl C s₀ H₀ ex,DE (gH X (yg x XN cap) sc cl C s₀ H₀ ex) dz f)(h1:X.env.scope.names=out:=by rfl)(h2:X.N=XN:=by rfl)(hc:X.calm=af:=by rfl)
  (yz:JG out XN (yg x XN cap) cap sc.names=af:=by rw[0]) (hk:sc.kind=.function:=by rfl) (nd:(yg x XN cap).Nodup:=by rw[0]) (h0:(yg x XN cap)[0]?=aa x:=by rfl) (hx:∀ cl C s₀ H₀ ex,(gH X (yg x XN cap) sc cl C s₀ H₀ ex).env.scope.names.lookup x=aa .local:=by intros;rfl) (hs:∀ x,oM az X.env x=pure x:=by intro _;rfl) :
  DF 1 X (.ListComp dz [⟨.Name x px,az,fz,0⟩] sc pos) (cu cap fi (gB 0) t f):=
 HY hc (tV h1 h2 yz hk) sP hi (λcl C s₀ H₀ ex=>⟨yV nd h0 (.inl (hx cl C s₀ H₀ ex)) (.inr (hx cl C s₀ H₀ ex)),ht cl C s₀ H₀ ex,hb cl C s₀ H₀ ex⟩) hs
def X7 (F G:SF):SF:=λY=>(F Y).or (G Y)
theorem Mg{st:eK}{F G:SF}(h1:DS X H0 P0 n0 st F)(h2:DS X H0 P0 n0 st G):DS X H0 P0 n0 st (X7 F G):=λac s Z H D I gh=>by
 rw[7];have ef:(F Y).or (G Y)=aa o:=ef;cases e:F Y with
 |some o'=>rw[e] at ef;cases ef;exact h1 ac s Z H D I ⟨B0,Y,fp,_,S,e,k⟩
 |none=>rw[e] at ef;exact h2 ac s Z H D I ⟨B0,Y,fp,o,S,by simpa using ef,k⟩
section
variable {Z:St}
theorem Sta.spoil {p:aC}(S:Sta K H0 P0 B0 Y Z H fp)(hp:p∈fp i):Sta K H0 P0 B0 (Y.set i ab) Z (upd H p (.lst ys)) fp:=by
 have same:L2.hid (upd H p (.lst ys)) (Hd P0 fp)=L2.hid H (Hd P0 fp):=by
  funext b;unfold L2.hid;by_cases q:Hd P0 fp b
  .rw[if_pos q,if_pos q]
  .rw[if_neg q,if_neg q];exact cM λz=>q (.inr ⟨i,by rw[z];exact hp⟩)
 refine⟨by simp[S.len],S.nd,S.dj,λj a m=>⟨(S.own j a m).1,?_⟩,λb u e=>?_,S.hd,by rw[same];exact S.base,λj n' d e=>?_⟩
 .by_cases q:a=p
  .subst q;exact .inl ⟨_,dQ⟩
  .rw[cM q];exact(S.own j a m).2
 .rw[cM (iP e (S.own i p hp).1)];exact S.ext b u e
 .by_cases q:j=i
  .subst q;by_cases hl:j<Y.length
   .rw[nK hl] at e;cases e
   .have:=(cK.1 e).1;simp at this;lia
  .rw[kG (λz=>q z.symm)] at e
   obtain⟨u,h1,h2⟩:=S.slot j n' d e;refine⟨u,h1,?_⟩;rw[same];exact h2.keep Ext.refl λa m=>cM λz=>q (S.dj j i a m (by rw[z];exact hp))
end
def OA (K:aK)(G:aah->aaj):Sp:=λvs H Q _=>∃ P F0 a us d ds d',vs=.ref a::us/\Hid P H/\(∀ b∈F0,¬ P b)/\F0.Nodup/\Afh K (hid H (cn P F0)) H 2 d (.ref a) F0/\Aak K (hid H (cn P F0)) ds us/\G (d::ds)=aa d' /\
 ∀ H' F',Ext (hid H (· ∈ F0)) H'->F'.Nodup->(∀ b∈F',(b∈F0\/H b=ab)/\¬ P b)->Aej K (hid H' (cn P F')) H' 2 d' (.ref a) F'->Q .non H'
def putL (kds:be)(k:aI)(r:aA):aaj:=if fJ 1 r=af/\(pE kds).Nodup/\kds.length<sizeLine then aa (.dict (match bU kds k with|none=>kds++[(kD k,r)]|some _=>iQ kds k r)) else ab
def O0 (fg:EF)(tb:BF)(f3 f4:EF):aah->aaj
 |[.dict kds,t,row,at_]=>(bS t).bind λkey=>(fg [aa (.dict kds),aa t,aa row,aa at_,ab]).bind λl=>(tb [aa (.dict kds),aa t,aa row,aa at_,aa l]).bind λb=>if b=af then(f3 [aa (.dict kds),aa t,aa row,aa at_,aa l]).bind λn=>(f4 [aa (.dict kds),aa t,aa row,aa n,aa l]).bind λr=>putL kds key r else aa (.dict kds)
 |_=>ab
def RY (K:aK)(fg:EF)(tb:BF)(f3 f4:EF):TS:=HJ (xT (tF K 0 fg) (sU 4)) (RT (sq K tb) (HJ (xT (tF K 0 f3) (sU 3)) (TL (sG 0) (tF K 0 (aB 1)) (tF K 1 f4))) TN)
section
variable {P:bJ}{mg:aE->aap}{base:aU}
theorem Sta.drop'{Z σ':St}(S:Sta K H0 P0 B0 Y Z H fp)(j:Nat)(hl:σ'.length=Z.length)(hs:∀ q,q≠j->σ'[q]?=Z[q]?):Sta K H0 P0 B0 (Y.set j ab) σ' H fp:=by
 refine⟨by simp[S.len,hl],S.nd,S.dj,S.own,S.ext,S.hd,S.base,λi n d e=>?_⟩
 by_cases h:i=j
 .subst h;rw[List.getElem?_set] at e
  grind
 .rw[kG (λz=>h z.symm)] at e
  rw[hs i h];exact S.slot i n d e
theorem Lh{F0:aan}{us:aai}(hP:Hid P0 H)(W7:∀ b∈F0,¬ P0 b)(dy:F0.Nodup)(r0:Afh K (hid H (cn P0 F0)) H 2 d v F0)(rr:Aak K (hid H (cn P0 F0)) ds us)(n:Nat) :
  Sta K (hid H (· ∈ F0)) P0 (hid H (cn P0 F0)) (aa (2,d)::(ds.map (λd=>aa (0,d))++oQ n ab)) ((v::us).map aa++oQ n ab) H (λi=>if i=0 then F0 else []):=by
 have hHd:Hd P0 (λi=>if i=0 then F0 else [])=cn P0 F0:=by
  funext a;simp only[Hd,cn,eq_iff_iff];constructor
  .rintro(h|⟨i,h⟩)
   .exact .inl h
   .by_cases hi:i=0
    .rw[if_pos hi] at h;exact .inr h
    .rw[if_neg hi] at h;simp at h
  .rintro(h|h)
   .exact .inl h
   .exact .inr ⟨0,by rw[if_pos rfl];exact h⟩
 refine⟨by simp[rr.length],λi=>?_,λi j a h1 h2=>?_,λi a h=>?_,Aal,λa h=>?_,by rw[hHd];exact Ext.refl,λi n' d' e=>?_⟩
 .by_cases hi:i=0
  .simp only[hi,if_true];exact dy
  .simp only[hi,if_false];exact .nil
 .by_cases hi:i=0
  .by_cases hj:j=0
   .rw[hi,hj]
   .simp only[hj,if_false] at h2;simp at h2
  .simp only[hi,if_false] at h1;simp at h1
 .by_cases hi:i=0
  .simp only[hi,if_true] at h;exact⟨by unfold hid;rw[if_pos h],r0.mut a h⟩
  .simp only[hi,if_false] at h;simp at h
 .have na:a∉F0:=λz=>W7 a z h
  rcases hP a h with⟨xs,e⟩|⟨q,e⟩
  .exact .inl ⟨xs,eO na e⟩
  .exact .inr ⟨q,eO na e⟩
 .rw[hHd];cases i with
  |zero=>cases e;exact⟨_,rfl,r0⟩
  |succ i=>
   rw[QV] at e;by_cases hi:i<ds.length
   .rw[GE (by rw[cJ];exact hi),eU] at e
    obtain⟨d2,e1,e2⟩:=gM.1 e;cases e2;obtain⟨v,e3,rv⟩:=rr.get e1;refine⟨v,?_,rfl,rv⟩;rw[cW,xF,QV,GE (by rw[cJ,rr.length];exact hi),eU,e3]
    rfl
   .rw[Jw (by rw[cJ];lia)] at e
    have:=eT e;simp at this
theorem Oj {qual:aE}{st:eK}{f:aC}{fd:mB}{N:aak}{fg f3 f4:EF}{tb:BF}(F:Fun K x qual st f fd)(S:FnScope N ps (dX st))(T6:ps.length=4)(hN:N.length=5)
  (hb:∀ (bz:aD) (A:bP) (outer:List dW) (s:aH) (H:Hp) (E:XK),Room k (A.deeper (envOfC qual (dX st) s.heap.objs.size f bz))->PSs (oG nu P w K mg base N qual (dX st) f bz A outer s H E).nox (nX st) (RY K fg tb f3 f4)) :
  FnOk P w K mg base nu (k+1) f fd ps (OA K (O0 fg tb f3 f4)):=by
 have ql:∀ {d:aA} {ds:aah} {d':aA},O0 fg tb f3 f4 (d::ds)=aa d'->∃ kds t row at_,d=.dict kds/\ds=[t,row,at_]:=λ{d ds d'} h=>by
  unfold O0 at h;split at h
  .rename_i e;cases e;exact⟨_,_,_,_,rfl,rfl⟩
  .cases h
 refine F.ok S (λvs H Q E h=>?_) (λbz A outer s H vs Q E hr h=>?_)
 .obtain⟨P,F0,a,us,d,ds,d',rfl,_,_,_,_,r,ef,_⟩:=h;obtain⟨_,_,_,_,_,rfl⟩:=ql ef;rw[T6,fA,r.length]
  rfl
 .obtain⟨P0,F0,a,us,d,ds,d',rfl,hP,W7,dy,r0,rr,ef,kq⟩:=h;obtain⟨kds,t,row,at_,rfl,rfl⟩:=ql ef;refine⟨_,hb bz A outer s H E hr,?_⟩;have S0:=Lh hP W7 dy r0 rr 1;have ln:=S0.len;have h0:((V.ref a::us).map aa++oQ 1 ab)[0]?=aa (aa (.ref a)):=rfl;rw[show start N (.ref a::us)=(V.ref a::us).map aa++oQ 1 ab by
   unfold start;rw[hN,fA,rr.length]
   rfl]
  generalize(V.ref a::us).map aa++oQ 1 ab=σ0 at S0 ln h0 ⊢;have l4:4<σ0.length:=by rw[ln];exact QI 4
  have fin:∀ {ρ':aR} {σ':St} {H':Hp} {fp:Nat->aan} {B0:Hp},Sta K (hid H (· ∈ F0)) P0 B0 ρ' σ' H' fp->σ'[0]?=aa (aa (.ref a))->ρ'[0]?=aa (aa (2,d'))->Q .non H':=λ{ρ' σ' H' fp B0} S h0 e=>by
   obtain⟨v,ev,rv⟩:=S.slot 0 2 _ e;rw[h0] at ev;cases ev;refine kq H' (fp 0) S.ext (S.nd 0) (λb m=>⟨?_,S.np m⟩) (Aej.keep (gR λb h=>?_) (λ_ _=>rfl) rv)
   .have:=(S.own 0 b m).1;unfold hid at this;by_cases q:b∈F0
    .exact .inl q
    .rw[if_neg q] at this;exact .inr this
   .exact h.imp id λh=>⟨0,h⟩
  obtain⟨key,ek,ef⟩:=ao ef;obtain⟨l,el,ef⟩:=ao ef;obtain⟨b,eb,ef⟩:=ao ef;refine⟨P0,_,l,S0.hd.ext S0.ext,S0.viewA,el,dR λv4 H1 x1 r4=>?_⟩
  have S1:=(S0.grow x1).drop' (σ':=σ0.set 4 (aa v4)) 4 (by simp) λq hq=>kG (fX hq)
  have V1:=(S0.viewA.ext (cN x1)).set r4 l4;have h1:(σ0.set 4 (aa v4))[0]?=aa (aa (.ref a)):=(kG nofun).trans h0
  have l3:3<(σ0.set 4 (aa v4)).length:=by rw[xB];lia
  refine⟨P0,_,b,S1.hd.ext S1.ext,V1,eb,λH2 x2=>?_⟩
  cases b with
  |false=>
   rw[if_neg kX] at ef ⊢;exact fin (S1.grow x2) h1 (by rw[<-dY ef];rfl)
  |true=>
   rw[if_pos rfl] at ef ⊢;obtain⟨n,e3,ef⟩:=ao ef;obtain⟨r,e4,ef⟩:=ao ef;obtain⟨⟨fl,nk,hl⟩,ef⟩:=DD ef;have S2:=S1.grow x2;refine⟨P0,_,n,S2.hd.ext S2.ext,V1.ext (cN x2),e3,dR λv5 H3 x3 r5=>?_⟩
   have S3:=(S2.grow x3).drop' (σ':=(σ0.set 4 (aa v4)).set 3 (aa v5)) 3 (by simp) λq hq=>kG (fX hq)
   have V3:=(V1.ext (cN (x2.trans x3))).set r5 l3;have h3:((σ0.set 4 (aa v4)).set 3 (aa v5))[0]?=aa (aa (.ref a)):=(kG nofun).trans h1
   refine⟨P0,_,r,S3.hd.ext S3.ext,V3,e4,λv6 H4 Fr x4 nd fr r6=>?_⟩
   obtain⟨Ps,S4,r7⟩:=S3.tmpA fl x4 nd fr r6;refine⟨.ref a,h3,rE S4 (m:=.s) (g:=aB 1) (d:=t) rfl (by rw[tW ek];cases key<;>simp[kD,fC]) λu H5 x5 r8=>?_⟩
   have S5:=S4.grow x5;have r9:Aej K (hid H5 (Hd P0 Ps)) H5 1 r v6 (Ps 5):=r7.keep (cN x5) λa m=>by
    rcases(S4.own _ a m).2 with⟨xs,e⟩|⟨xs,e⟩
    all_goals grind
   cases xo:bU kds key with
   |none=>
    rw[xo] at ef;obtain⟨p3,om,iz,q1,q2,q3,q4⟩:=S5.newKey (i:=0) rfl xo r9;cases h3.symm.trans q1;refine⟨a,_,rfl,.inl ⟨om,iz,key,q2,jL ek r8,by rw[q3];exact hl,rfl⟩,λn'=>?_⟩
    obtain⟨bh,S6⟩:=q4 n';exact fin S6 h3 (by rw[<-dY ef];rfl)
   |some d0=>
    rw[xo] at ef;obtain⟨p3,om,iz,q1,q2,q3,q4⟩:=S5.oldKey (i:=0) rfl nk xo r9;cases h3.symm.trans q1;refine⟨a,_,rfl,.inl ⟨om,iz,key,q2,jL ek r8,by rw[q3];exact hl,rfl⟩,λn'=>?_⟩
    obtain⟨bh,S6⟩:=q4 n';exact fin S6 h3 (by rw[<-dY ef];rfl)
end
section
theorem Sta.lent{Z:St}{F':aan}{d':aA}(S:Sta K H0 P0 B0 Y Z H fp)(hi:i<Y.length)(hv:Z[i]?=aa (aa v))(x:Ext (L2.hid H (· ∈ fp i)) H')(nd:F'.Nodup)(fr:∀ b∈F',(b∈fp i\/H b=ab)/\¬ (P0 b\/∃ l,l≠i/\b∈fp l))
  (r:Aej K (L2.hid H' (cn (λb=>P0 b\/∃ l,l≠i/\b∈fp l) F')) H' n d' v F'):Sta K H0 P0 B0 (Y.set i (aa (n,d'))) Z H' (λl=>if l=i then F' else fp l):=by
 have xw:∀ l,l≠i->∀ a∈fp l,H' a=H a:=λl h a m=>by
  have na:a∉fp i:=λz=>h (S.dj l i a m z)
  rcases(S.own l a m).2 with⟨xs,e⟩|⟨xs,e⟩<;>rw[e,x _ _ (eO na e)]
 have eH:Hd P0 (λl=>if l=i then F' else fp l)=cn (λb=>P0 b\/∃ l,l≠i/\b∈fp l) F':=by
  funext b;simp only[Hd,cn,eq_iff_iff]
  grind
 have xb:Ext (L2.hid H (Hd P0 fp)) (L2.hid H' (Hd P0 λl=>if l=i then F' else fp l)):=λb o e=>by
  obtain⟨nb,e⟩:=Abr.1 e;rw[eH];refine eO (λq=>?_) (x _ _ (eO (λm=>nb (.inr ⟨i,m⟩)) e))
  rcases q with(q|⟨l,_,q⟩)|q
  .exact nb (.inl q)
  .exact nb (.inr ⟨l,q⟩)
  .rcases(fr b q).1 with m|m
   .exact nb (.inr ⟨i,m⟩)
   .rw[m] at e;cases e
 refine⟨by simp[S.len],λl=>?_,λl k a h1 h2=>?_,λl a m=>?_,λb u e=>x _ _ (eO (λm=>?_) (S.ext _ _ e)),S.hd,S.base.trans xb,λl n' d2 e=>?_⟩
 .by_cases h:l=i
  .simp only[h,if_true];exact nd
  .simp only[h,if_false];exact S.nd l
 .by_cases e1:l=i<;>by_cases e2:k=i
  .rw[e1,e2]
  .simp only[e1,if_true] at h1;simp only[e2,if_false] at h2;exact absurd (.inr ⟨k,e2,h2⟩) (fr a h1).2
  .simp only[e1,if_false] at h1;simp only[e2,if_true] at h2;exact absurd (.inr ⟨l,e1,h1⟩) (fr a h2).2
  .simp only[e1,if_false] at h1;simp only[e2,if_false] at h2;exact S.dj l k a h1 h2
 .by_cases h:l=i
  .simp only[h,if_true] at m;refine⟨?_,r.mut a m⟩;rcases(fr a m).1 with q|q
   .exact(S.own i a q).1
   .exact S.ext.none q
  .simp only[h,if_false] at m;rw[xw l h a m];exact S.own l a m
 .rw[(S.own i b m).1] at e;cases e
 .by_cases h:l=i
  .subst h;rw[nK hi] at e;cases e;refine⟨v,hv,?_⟩;rw[eH];simp only[if_true];exact r
  .rw[kG (λz=>h z.symm)] at e
   obtain⟨v2,h1,h2⟩:=S.slot l n' d2 e;refine⟨v2,h1,?_⟩;simp only[h,if_false];exact h2.keep xb (xw l h)
def zU (i:Nat)(G:aah->aaj)(fa:AF):SF:=λY=>(rD i Y).bind λkds=>(fa (vS Y)).bind λds=>(G (.dict kds::ds)).bind λd'=>aa (.nx (Y.set i (aa (2,d'))))
variable {es:aau}{G:aah->aaj}
theorem Fp (i:Nat)(D:Def X.prog X.w X.K X.mg X.base x k ps (OA X.K G))(hr:Room k X.A)(hg:Gl X x)(ha:DA X (e::es) fa)(hN:Nm X i y:=by exact hE)(ie:(x==("__debug__" : aE))=ah:=by decide)(pv:bX (.Name y py::e::es) X.env=(ah,bY (.Name y py) X.env)::bX (e::es) X.env:=by rfl)
  (cz:(gL bc (bX (e::es) X.env)).any (·.1)=ah:=by rfl) (ni:kQ (.Call (.Name x px) (.Name y py::e::es) [] bc) ab pos.line X.env=pure ah:=by rfl) :
  DS X H0 P0 n0 (.Expr (.Call (.Name x px) (.Name y py::e::es) [] bc) pos) (zU i G fa):=
 PS.imp (yE (VJ D hr hg (hX hN.pe ha pv) ie pv cz) ni) λD Z H gh=>by
  obtain⟨B0,Y,fp,o,S,ef,kk⟩:=gh;obtain⟨kds,e1,ef⟩:=ao ef;obtain⟨ds,e2,ef⟩:=ao ef;obtain⟨d',e3,ef⟩:=ao ef;cases ef;have hk:=tP e1;have hi:=(cK.1 hk).1;obtain⟨v,hv1,_⟩:=S.slot i 2 _ hk;obtain⟨p,ep,xs,Fs,h1,_⟩:=S.dic2 hk;refine⟨.ref p,h1,Hd P0 fp,vS Y,ds,S.hid,S.viewS,e2,λvs H2 x2 r2=>?_⟩
  have S2:=S.grow x2;obtain⟨v,hv,rv⟩:=S2.slot i 2 _ hk;rw[h1] at hv;cases hv;have eP:cn (λb=>P0 b\/∃ l,l≠i/\b∈fp l) (fp i)=Hd P0 fp:=by
   funext b;simp only[Hd,cn,eq_iff_iff]
   grind
  refine⟨λb=>P0 b\/∃ l,l≠i/\b∈fp l,fp i,p,vs,.dict kds,ds,d',by rw[kW],λb h=>S2.hid b (h.imp id λ⟨l,_,h⟩=>⟨l,h⟩),λb m h=>?_,S.nd i,by rw[eP];exact rv,by rw[eP];exact r2,e3,λH' F' x3 nd fr r3=>kk _ _ _ (S2.lent hi h1 x3 nd fr r3)⟩
  rcases h with h|⟨l,nl,h⟩
  .exact S.np m h
  .exact nl (S.dj l i b h m)
end
def bI (b:Bool):Int:=if b=af then 1 else 0
def rG (kds:be):aA->Option (List (aA×aA)×Bool)
 |.tuple [k,.int n]=>(bS k).bind λkey=>match bU kds key with
  |some (.int u)=>aa (kds,decide (u=n))
  |some _=>ab
  |none=>aa (putD kds key (.int n),af)
 |_=>ab
def uZ:aah->be->Option (List (aA×aA)×List Bool)
 |[],kds=>aa (kds,[])
 |d::r,kds=>(rG kds d).bind λq=>(uZ r q.1).bind λz=>aa (z.1,q.2::z.2)
def sC (bs:List Bool):Bool:=bZ ((bs.map λb=>aT (bI b)).getD (fP (bs.map λb=>aT (bI b)) (bs.length-1)) .none) (.int 1)
def yO (j:Nat)(fi:AF)(F:SF):SF:=λY=>(fi (vS Y)).bind λds=>(oI j Y).bind λkds=>(uZ ds kds).bind λq=>
 if 0<ds.length/\kds.length+ds.length<sizeLine then(if sC q.2=af then F (Y.set j (aa (1,.dict q.1))) else aa (.nx (Y.set j (aa (1,.dict q.1))))) else ab
theorem K9{q:List (aA×aA)×Bool}(h:rG kds d=aa q):q.1.length<=kds.length+1:=by
 unfold rG at h;split at h
 .obtain⟨key,_,h⟩:=ao h;split at h
  .cases h;simp
  .cases h
  .cases h;unfold putD;split<;>simp
 .cases h
theorem zH:∀ is:aal,pC (is.map aT)=aa is
 |[]=>rfl
 |i::r=>by simp[pC,zH r]
section
variable {z:aE}{az:aQ}{fi:AF}{p3 p4 p5 p6 p7 p8 ap tp lp mp ip icp:bH}{kk jj:Nat}{sc:fW}{F:SF}{body:List eK}{cap:tz}{N:aak}
def tSd (K:aK):TE:=R4 (λxs H Q=>(∃ i,xs=[.int i]/\Q (.int i) H)\/∃ k,xs=[.bl k]/\Q (.int (if k then 1 else 0)) H) (FK (xk (xP K ah) (tBM K "dict" Hg (sG 2) (FK (sG 0) (FK (sG 1) HE))) (sG 1)) HE)
def gSd (K:aK):TG:=SI K 2 (HS (sU 0) (HS (sU 1) SL))
abbrev RZ (K:aK)(H0:Hp)(P0:aC->Prop)(B:Hp)(Y:aR)(Z:St)(j n:Nat)(p:aC)(ds:aah)(kf:be)(all:List Bool)(A:aC)(i:Nat)(ys:aai)(σ':St)(H':Hp):Prop:=∃ ki done rest bh,done.length=i/\ys=(done.map bI).map V.int/\uZ (ds.drop i) ki=aa (kf,rest)/\all=done++rest/\Sta K H0 P0 B (Y.set j (aa (1,.dict ki))) Z H' bh/\A∈bh Y.length/\H' A=aa (.lst ys)/\(∃ u0 u1,σ'=[u0,u1,aa (.ref p)])/\ki.length<=n+i
theorem Qu {Z:St}{A B:Hp->Prop}(h:A H):HN Z H λb H4=>if b=af then A H4 else B H4:=by
 show(if af=af then A H else B H)
 rw[if_pos rfl];exact h
theorem Xg (j:Nat){dz:aQ}(hu:X.A.units+100<cLine)(hc:X.calm=af)(S:CompScope X N [ab,ab,aa j] sc)(hm:X.mg "min" = ab)(wm:Gl X "min")(hi:DI X tg az fi)(ha:iw X H0 P0 n0 body F)
  (hb:Block X N sc tg dz [] (gSd X.K) HN (tSd X.K)) (hs:∀ x,oM az X.env x=pure x:=by intro _;rfl)
  (he:bX [.ListComp dz [⟨tg,az,[],0⟩] sc lp] X.env=(ah,bY (.ListComp dz [⟨tg,az,[],0⟩] sc lp) X.env)::bX [] X.env:=by rfl) (cz:(gL bc (bX [] X.env)).any (·.1)=ah:=by rfl) (hmk:wQ .Eq (.Constant (.int 1) kk p3)=ah:=by exact kL _) :
  DS X H0 P0 n0 (.If (.Compare (.Call (.Name "min" mp) [.ListComp dz [⟨tg,az,[],0⟩] sc lp] [] bc) [.Eq] [.Constant (.int 1) kk p3] p4) body [] pos) (yO j fi F):=
 PS.imp (HK (Hf (vJ hu) (EH (J4 hc ()) wm hm PyProof.Rows.boot_min (hX (TJ hc S hi hb hs) jX he) nofun nofun he cz) IB hmk) ha IF) λD Z H gh=>by
  obtain⟨B0,Y,fp,o,S,ef,kq⟩:=gh;obtain⟨ds,e1,ef⟩:=ao ef;obtain⟨kds,e2,ef⟩:=ao ef;obtain⟨⟨kf,all⟩,e3,ef⟩:=ao ef;obtain⟨⟨h0,hl⟩,ef⟩:=DD ef;have hk:=yX e2;have hj:=(cK.1 hk).1;obtain⟨p,_,_,hp,_⟩:=S.dic1 hk;refine⟨Hd P0 fp,vS Y,ds,S.hid,S.viewS,e1,λJ H1 x1 it=>?_⟩
  have S1:=S.grow x1;have S0:Sta X.K H0 P0 (hid H1 (Hd P0 fp)) Y Z H1 fp:=⟨S1.len,S1.nd,S1.dj,S1.own,S1.ext,S1.hd,Ext.refl,S1.slot⟩;refine Mf (n:=ds.length) (RZ X.K H0 P0 (hid H1 (Hd P0 fp)) Y Z j kds.length p ds kf all)
   (λA nA=>?_) (λA i ys σ' H' hi ⟨ki,done,rest,bh,h1,h2,_,_,_,_,h3,_⟩=>⟨h3,by rw[h2];simp[h1]⟩) (λA i ys σ' H' hi ⟨ki,done,rest,bh,h1,h2,_,_,S2,_⟩=>?_) (λA ys σ' H' ⟨ki,done,rest,bh,h1,h2,_,_,S2,_⟩=>?_) () (λA i ys σ' H' v H2 nA bm ⟨ki,done,rest,bh,h1,h2,h3,h4,S2,mA,hA,⟨u0,u1,hσ⟩,hln⟩ yl=>?_) (λA ys σ' H' nA ⟨ki,done,rest,bh,h1,h2,h3,h4,S2,mA,hA,_,hln⟩=>?_)
  .have Tm:Tmp X.K H0 P0 (hid H1 (Hd P0 fp)) Y Z 1 (.list []) (.ref A) (upd H1 A (.lst [])):=S0.tmpA (by simp[fJ,nW]) (Ext.new nA) (jC.2 ⟨by simp,.nil⟩) (λa m=>by
    have:a=A:=by simpa using m
    rw[12];exact⟨nA,_,dQ⟩) ⟨A,[],[],rfl,dQ,rfl,.nil⟩
   obtain⟨bh,S2,r2⟩:=Tm;obtain⟨A',gg,Fs,eA,hA,hF,_⟩:=r2;cases eA;refine⟨kds,[],all,bh,rfl,rfl,e3,rfl,?_,by rw[hF];exact bE,dQ,⟨ab,ab,?_⟩,bB _⟩
   .rw[set_same hk];exact S2
   .unfold qQ;simp[hp]
  .exact((it i H' (λb o e=>Aal _ _ (S2.base b o e))).1 _ (fY hi)).1
  .exact(it ds.length H' (λb o e=>Aal _ _ (S2.base b o e))).2 rfl
  .have hd:=fY bm;obtain⟨x3,r3⟩:=((it i H' (λb o e=>Aal _ _ (S2.base b o e))).1 _ hd).2 v H2 yl
   have r3:=r3 (Hd P0 bh) S2.hid S2.base;rw[GI bm] at h3;obtain⟨q1,e5,h3⟩:=ao h3;obtain⟨⟨z1,z2⟩,e6,h3⟩:=ao h3;cases h3;have hk2:∀ kd,(Y.set j kd)[j]?=aa kd:=λkd=>nK hj
   generalize ds[i]=d at r3 e5;have ln:=K9 e5;unfold rG at e5;split at e5
   case h_2=>cases e5
   rename_i k n;obtain⟨key,e7,e5⟩:=ao e5;obtain⟨a,xs,rfl,ha,rr⟩:=Aap.1 r3;obtain⟨v1,t1,rfl,r1,rr⟩:=Aae.1 rr;obtain⟨v2,t2,rfl,r2,rr⟩:=Aae.1 rr;obtain rfl:=Aai.1 rr;have W2:=jL e7 r1;have W3:=Aah.1 r2;subst W2 W3 hσ;refine⟨a,_,rfl,SqT.of (Aal _ _ ha),rfl,_,_,rfl,_,_,rfl,rfl,?_⟩;have S3:=S2.grow x3;obtain⟨p',ep,xs,g1,g2,g3,g4⟩:=S3.dic1 (hk2 _);have:p'=p:=by rw[hp] at g1;cases g1;rfl
   rw[12];refine Qu ?_;refine⟨.ref p',rfl,.inr (.inr (.inl ⟨rfl,.inl ⟨ep,xs,g2⟩⟩)),kV key,rfl,.int n,rfl,?_⟩;have W8:=x3 _ _ hA;have npA:p'≠A:=λz=>by rw[z,W8] at g2;cases g2
   refine⟨p',ep,xs,key,.int n,rfl,rfl,g2,by rw[g3.length];lia,?_⟩
   have vm:∀ {Q2:be} {c:Bool} {H3:Hp},Sta X.K H0 P0 (hid H1 (Hd P0 fp)) (Y.set j (aa (1,.dict Q2))) Z H3 bh->(Q2,c)=q1->RZ X.K H0 P0 (hid H1 (Hd P0 fp)) Y Z j kds.length p' ds z1 all A (i+1) (ys++[.int (bI c)]) [aa (kV key),aa (.int n),aa (.ref p')] (upd H3 A (.lst (ys++[.int (bI c)]))):=λ{Q2 c H3} S4 eq=>by
    refine⟨Q2,done++[c],z2,bh,by simp[h1],by rw[h2];simp,?_,?_,?_,mA,dQ,⟨_,_,rfl⟩,?_⟩
    .rw[<-eq] at e6;exact e6
    .rw[h4,<-eq];simp
    .have:=S4.spoil (ys:=ys++[.int (bI c)]) mA
     rwa [List.set_eq_of_length_le (by simp)] at this
    .rw[<-eq] at ln;exact dI ln ()
   have vq:∀ u:Int,(ah != bZ (.int u) (.int n))=decide (u=n):=λu=>by
    have:bZ (.int u) (.int n)=decide (u=n):=by
     simp only[bZ]
     rfl
    rw[this];simp
   rcases tT g3 with⟨n1,n2⟩|⟨d',v',s1,s2,rd⟩
   .rw[n1] at e5;refine .inr ⟨n2,λm=>⟨.int n,rfl,.int n,.int n,Aah.2 rfl,Aah.2 rfl,rfl,rfl,.inr ⟨_,rfl,?_⟩⟩⟩
    rw[vq,show decide (n=n)=af from decide_eq_true rfl]
    have hA3:(upd H2 p' (.dK m (putK xs key (.int n))):Hp) A=aa (.lst ys):=by rw[cM npA.symm];exact W8
    have S4:=g4 m _ _ (DB (k:=key) (d:=.int n) g3 (Aah.2 rfl));rw[List.set_set] at S4;refine⟨hA3,vm S4 (dY e5)⟩
   .rw[s1] at e5;cases d' with
    |int u=>
     have:=Aah.1 rd;rw[12];refine .inl ⟨_,s2,.int n,rfl,.int u,.int n,Aah.2 rfl,Aah.2 rfl,rfl,rfl,.inr ⟨_,rfl,?_⟩⟩;rw[vq];exact⟨W8,vm S3 (dY e5)⟩
    |_=>cases e5
  .have e4:rest=[]/\ki=kf:=by
    rw[Ka] at h3;cases h3;exact⟨rfl,rfl⟩
   obtain⟨rfl,rfl⟩:=e4;rw[kW] at h4;subst h4;have df:all≠[]:=λz=>by rw[z] at h1;simp at h1;lia
   refine⟨A,ys,(all.map λb=>aT (bI b)),rfl,SqL.of hA,?_,?_,λz=>absurd (List.map_eq_nil_iff.1 z) df,λi e=>?_⟩
   .rw[h2];have:=LU (K:=X.K) (H:=H') (all.map bI)
    rwa [dC] at this
   .unfold ue;have:=zH (all.map bI);rw[dC] at this;rw[show pC (all.map λb=>aT (bI b))=aa (all.map bI) from this]
    rfl
   .have ei:all.length-1=i:=by
     have:all.length=i+1:=by simpa using e
     lia
    have hb:fP (all.map λb=>aT (bI b)) i<all.length:=by
     have:=zO (λi j=>lr ((all.map λb=>aT (bI b)).getD i .none) ((all.map λb=>aT (bI b)).getD j .none)) i
     have l:all.length=i+1:=by simpa using e
     rw[l];exact Nat.lt_succ_of_le this
    have ev:ys.getD (fP (all.map λb=>aT (bI b)) i) .non=.int (bI all[fP (all.map λb=>aT (bI b)) i]):=by
     rw[h2];simp[jE,hb]
    have ed:(all.map λb=>aT (bI b)).getD (fP (all.map λb=>aT (bI b)) i) .none=.int (bI all[fP (all.map λb=>aT (bI b)) i]):=by
     simp[jE,hb]
    rw[ev];refine⟨_,_,Aah.2 rfl,Aah.2 rfl,rfl,rfl,_,rfl,?_⟩;have S3:Sta X.K H0 P0 B0 (Y.set j (aa (1,.dict ki))) Z H' bh:=⟨S2.len,S2.nd,S2.dj,S2.own,S2.ext,S2.hd,S1.base.trans S2.base,S2.slot⟩;have em:sC all=(ah != bZ (.int (bI all[fP (all.map λb=>aT (bI b)) i])) (.int 1)):=by
     unfold sC;rw[ei,ed];simp
    rw[<-em];cases q:sC all with
    |true=>
     rw[q,if_pos rfl] at ef;exact qR ⟨B0,_,bh,o,S3,ef,kq⟩
    |false=>
     rw[q,if_neg kX] at ef;cases ef;exact qX (kq _ _ bh S3)
end
def lj (a b:aE):Prop:=a.cps.toList<=b.cps.toList
theorem J6 {a b c:aE}(h1:lj a b)(h2:lj b c):lj a c:=List.le_trans h1 h2
theorem m9 {a b:aE}(h1:lj a b)(h2:lj b a):a=b:=by
 have e:=List.le_antisymm h1 h2;obtain⟨x⟩:=a;obtain⟨y⟩:=b;have e':x.toList=y.toList:=e;rw[RN.1 e']
theorem Cq:∀ {p:aE} {l:aak},risingS p l=af->(∀ x∈l,lj p x)/\l.Pairwise lj
 |p,[],_=>⟨λx m=>by simp at m,.nil⟩
 |p,x::r,h=>by
  have h':=h;obtain⟨h1,h2⟩:=iI.1 h';rw[ltCps_eq] at h1;have l1:lj p x:=by
   have:decide (x.cps.toList<p.cps.toList)=ah:=by simpa using h1
   exact List.not_lt.1 (of_decide_eq_false this)
  obtain⟨a1,a2⟩:=Cq h2;refine⟨λy m=>?_,.cons a1 a2⟩
  rw[10]
  .exact l1
  .exact J6 l1 (a1 y m)
theorem Zv:∀ {l:aak},sortedS l=af->l.Pairwise lj
 |[],_=>.nil
 |x::r,h=>by
  obtain⟨a1,a2⟩:=Cq h;exact .cons a1 a2
def rF (ss:aak):aak:=open Classical in if h:∃ js:aak,js.Perm ss/\js.Pairwise lj then h.choose else ss
theorem E7 {ss js:aak}(hp:js.Perm ss)(hr:js.Pairwise lj):js=rF ss:=by
 have h:∃ js:aak,js.Perm ss/\js.Pairwise lj:=⟨js,hp,hr⟩;unfold rF;rw[dif_pos h];exact N4 (λa b _ _ h1 h2=>m9 h1 h2) hr h.choose_spec.2 (hp.trans h.choose_spec.1.symm)
section
theorem TZ:∀ {ns:aak} {vs:aam},Vals (ns.map V.str) vs->StrsAre vs ns
 |[],_,.nil=>.nil
 |n::ns,_,.cons ⟨t,e⟩ r=>by
  subst e;exact .cons n t (TZ r)
theorem SR:∀ {ns:aak} {vs:aam},StrsAre vs ns->Vals (ns.map V.str) vs
 |_,_,.nil=>.nil
 |_,_,.cons n t h=>.cons ⟨t,rfl⟩ (SR h)
def sA:aah->Option aak
 |[]=>aa []
 |.str i::r=>(sA r).bind λis=>aa (i::is)
 |_::_=>ab
theorem WH:∀ {ds:aah} {is:aak},sA ds=aa is->ds=is.map cE
 |[],is,e=>by cases e;rfl
 |.str i::ds,is,e=>by
  obtain⟨is',e1,e2⟩:=ao (show((sA ds).bind λis=>aa (i::is))=aa is from e)
  cases e2;rw[WH e1]
  rfl
 |.none::_,_,e=>by cases e
 |.bool _::_,_,e=>by cases e
 |.int _::_,_,e=>by cases e
 |.list _::_,_,e=>by cases e
 |.tuple _::_,_,e=>by cases e
 |.dict _::_,_,e=>by cases e
theorem YO:∀ ss:aak,sA (ss.map cE)=aa ss
 |[]=>rfl
 |s::ss=>by
  show((sA (ss.map cE)).bind λis=>aa (s::is))=_
  rw[YO ss]
  rfl
theorem Dx:∀ {is:aak} {ys:aai},Aak K H (is.map cE) ys->ys=is.map V.str/\∀ i∈is,cH (.str i)=af
 |[],ys,r=>⟨Aai.1 r,λi m=>by simp at m⟩
 |i::is,ys,r=>by
  obtain⟨v,t,rfl,r1,r2⟩:=Aae.1 r;obtain⟨e1,c1⟩:=Aa0.1 r1;obtain⟨e2,c2⟩:=Dx r2;refine⟨by rw[e1,e2];rfl,λj m=>?_⟩
  rw[10]
  .exact c1
  .exact c2 j m
theorem Ce:∀ {is:aak},(∀ i∈is,cH (.str i)=af)->Aak K H (is.map cE) (is.map V.str)
 |[],_=>Aai.2 rfl
 |i::is,h=>Aae.2 ⟨_,_,rfl,Aa0.2 ⟨rfl,h i bE⟩,Ce λj m=>h j (bL _ m)⟩
variable {F:aah->aaj}{p:bH}
end
theorem i6 (hc:X.calm=af):Acm X (.builtin "sorted") (λxs H Q=>∃ a ep kvs,∃ ns:aak,xs=[.ref a]/\H a=aa (.dK ep kvs)/\(kvs.map λkv=>kV kv.1)=ns.map V.str/\ns.length<64/\∀ (l:aC) (tu:aak),H l=ab->tu.Perm ns->tu.Pairwise lj->Q (.ref l) (upd H l (.lst (tu.map V.str)))):=by
 rw[4];obtain⟨a,ep1,kvs,ns,rfl,ha,hk,hl,q⟩:=h;obtain⟨u,rfl,ru⟩:=vals1 r;cases ru;obtain⟨z,nm,es,ep,D,rv,el⟩:=VI I ha;have hh:=I.ok.hd hc;refine RG kind_sorted plain_sorted entry_sorted (args_sorted1 _) ?_;unfold Builtin.«sorted»;have gp:kvs.length=ns.length:=by simpa using congrArg List.length hk
 refine aG (aM (aG (Zo (by simp[hh]) nm D () λs' aq hkp hg hd wc ca=>aG (wH ?_ (by
  have:=ca.1;rw[jU,this]
  lia)))))
 obtain⟨h',g',d',rn,ul⟩:=s';have e1:=hg;have e2:=hd;have e3:=wc;subst e1 e2 e3;rw[<-Am ca,hk] at rv;have hS:=TZ rv;have ax:aq.toList.length<64:=by
  have:=ca.1;rw[jU,this]
  lia
 generalize aq.toList=vs at rv hS ax;have je:(h'.push (fV "list" vs.toArray 0)).get? h'.objs.size=aa (fV "list" vs.toArray 0):=cI _ rfl;refine aG (eY (fU PC ⟨_,je,rfl⟩ PK (list_sort_treeK strKind_oneLt je hS.keysOf (λv₁ v₂ rest e=>keyKind_strs (by rw[<-e];exact hS)) ax λfu a1 a2=>⟨_,rfl,?_⟩) (PR _)))
 refine aM ⟨_,rfl,?_⟩;obtain⟨ss',h1,h2,h3⟩:=sorted_out_str hS a1 a2;obtain⟨e,he⟩:=sortedHeap_at je;have I1:Inv X ac Z H { s with heap:=h',toks:=rn }:=I.kept hkp;refine⟨.ref h'.objs.size,_,I1.laid (o:=.lst (ss'.map V.str)) (λb ob eb=>?_) (bB _) ⟨by rw[cJ,h2.length_eq];lia,_,e,SR h1,he⟩,rfl,q _ ss' I1.fresh h2 (Zv h3)⟩
 have hb:=bM (show h'.get? b=aa ob from eb)
 rw[sortedHeap_old (cO hb) (by rw[size_push'];exact AK hb),GK _ _ _ (cO hb)]
 exact eb
def yK:aah->aaj
 |[.dict kds]=>(sA (kds.map (·.1))).bind λis=>if (dg kds&&kds.all λkd=>cH kd.1)=af/\is.length<64 then aa (.list ((rF is).map cE)) else ab
 |_=>ab
theorem d6:CallD K 1 (λxs H Q=>∃ a ep kvs,∃ ns:aak,xs=[.ref a]/\H a=aa (.dK ep kvs)/\(kvs.map λkv=>kV kv.1)=ns.map V.str/\ns.length<64/\∀ (l:aC) (tu:aak),H l=ab->tu.Perm ns->tu.Pairwise lj->Q (.ref l) (upd H l (.lst (tu.map V.str)))) yK:=λP H xs ds d Q hP r e k=>by
 unfold yK at e;split at e
 .obtain⟨is,e1,e2⟩:=ao e;obtain⟨⟨hl,hn⟩,rfl⟩:=cL e2;obtain⟨pk,hl⟩:=iI.1 hl;obtain⟨v,rfl,r'⟩:=fK r;obtain⟨a,kvs,rfl,hq,rr⟩:=(oB pk).1 r';have rk:=LX rr λkd m=>cY.1 hl kd m
  rw[WH e1] at rk;obtain⟨ek,hc⟩:=Dx rk;refine⟨a,kvs.1,kvs.2,is,rfl,Aal _ _ hq,ek,hn,λl tu hf hp hr=>?_⟩
  have cy:∀ i∈tu,cH (.str i)=af:=λi m=>hc i (hp.mem_iff.1 m)
  obtain rfl:=E7 hp hr;exact k.lst hP hf (Ce cy)
 .cases e
theorem WK{p:bH}(hc:X.calm=af)(hu:X.A.units+40<cLine)(hg:Gl X "min")(hm:X.mg "min" = ab)(he:DE X e f)(hs:bX [e] X.env=(ah,bY e X.env)::bX [] X.env:=by rfl)
  (h1:gL pos (bX [e] X.env)=(ah,bY e X.env)::gL pos (bX [] X.env):=by rfl) (cz:(gL pos (bX [e] X.env)).any (·.1)=ah:=by rfl):DF 0 X (.Call (.Name "min" p) [e] [⟨aa "default",.Constant .none j cp,kp⟩] pos) (aN (pI af) (aF f aJ)):=
 PE.imp (B8 (λac s Z H xs us Q I r h=>Ay af hc hu I r h) hg hm PyProof.Rows.boot_min (pQ he pL hs) nofun nofun h1 cz) λZ H Q gh=>by
  rw[5];obtain⟨d1,e1,ef⟩:=ao ef;exact⟨P,Y,d1,hP,rs,e1,λvs H' x r=>Yu P H' vs d1 d Q (hP.ext x) r ef (k.mono x)⟩
noncomputable def BI:aA->Bool
 |.int _=>af
 |.str _=>af
 |_=>ah
def xM (f:EF):AF:=λY=>(f Y).bind λd=>match d with
 |.list ds=>if ds.all BI=af then aa ds else ab
 |_=>ab
theorem Xi{B B':Hp}:∀ {ds:aah} {xs:aai},ds.all BI=af->Aak K B ds xs->Aak K B' ds xs:=by
 intro ds;induction ds with
 |nil=>intro xs _ rs;exact Aai.2 (Aai.1 rs)
 |cons d ds ih=>
  intro xs ha rs;obtain⟨x,ys,rfl,h1,h2⟩:=Aae.1 rs;have rp:=iI.1 (show(BI d&&ds.all BI)=af from ha)
  refine Aae.2 ⟨x,ys,rfl,?_,ih rp.2 h2⟩;cases d with
  |int j=>exact Aah.2 (Aah.1 h1)
  |str z=>exact Aa0.2 (Aa0.1 h1)
  |_=>cases rp.1
section
variable {body:List eK}{F:SF}{T:aA->aR->Option aR}
theorem Lu (he:DF 1 X e f):PI X tg e (tI' X.K H0 P0 .a (xM f)):=PI.imp (Hl he) λZ H R gh=>by
 obtain⟨B0,Y,fp,ds,S,ef,k⟩:=gh;obtain⟨d,e1,ef⟩:=ao (show(f (vA Y)).bind _=aa ds from ef)
 cases d with
 |list ke=>
  obtain⟨ha,rfl⟩:=cL ef;refine⟨P0,vA Y,.list ke,S.hd.ext S.ext,S.viewA,e1,λv H' Fr x nd fr r=>?_⟩
  obtain⟨p,xs,rfl,hp,hF,rr⟩:=own1 r;have hn:=(fr p (by rw[hF];exact bE)).1
  have nh:¬ Hd P0 fp p:=λz=>by
   obtain⟨o,eo⟩:∃ o,H p=aa o:=by
    rcases S.hid p z with⟨ys,e⟩|⟨ys,e⟩
    .exact⟨_,e⟩
    .exact⟨_,e⟩
   rw[hn] at eo;cases eo
  have hr:=Abr.2 ⟨nh,hp⟩;exact⟨p,rfl,⟨xs,SqL.of hp⟩,k _ _ H' ((S.grow x).rebase Ext.refl) (S.grow x).base (XE (SqL.of hr) (Xi ha rr))⟩
 |_=>cases ef
theorem Qv (hp:wV (aP X.prog X.w) X.A X.env X.xe)(hc:X.calm=af)(he:DF 1 X e f)(hg:DG X H0 P0 tg T)(hb:iw X H0 P0 n0 body F)
  (hs:∀ x,oM e X.env x=pure x:=by intro _;rfl):DS X H0 P0 n0 (.For tg e body [] pos) (cT .a (xM f) T F):=KN hp hc (Lu he) hg hb hs
end
end L2
namespace Aw
open PySem L2
def dh (i:Nat):eK:=PySem.Challenge.pw_askwithin_k31_least_match.main.body.getD i (.Pass ⟨0,0,0,0⟩)
structure Blt (p:aE->Prop):Prop where
 «isinstance» : p "isinstance"
 «int» : p "int"
 «bool» : p "bool"
 «range» : p "range"
 «len» : p "len"
 «str» : p "str"
 «all» : p "all"
 «list» : p "list"
 «tuple» : p "tuple"
 «dict» : p "dict"
 «set» : p "set"
 «sorted» : p "sorted"
 «min» : p "min"
 «max» : p "max"
 «enumerate» : p "enumerate"
 «zip» : p "zip"
 «reversed» : p "reversed"
def Bz:SF:=(aW (bO 1 1 .s (eC (.dict [])))
 (aW (cT .s (bg (aB 0)) (dw 2) (cT .s (bg (ai au (aB 2) (eC (.int 1)))) (dw 3) (cw .s (aw (gm (gF "str") (aB 3))) (sR 1 .s (eC (.bool af)) .s (aB 3)) dS)))
 (gQ 1 (cC 1 .s (aN NV (aF (aB 1) aJ))))))
def vZ:aah->aaj:=bw 1 4 Bz
def XR:SF:=(cC 0 .s (aN iO (aF (cu [ab,aa 1] (bg (aB 0)) (gB 0) cX (lC (aB 1) (aB 0) (aB 0))) aJ)))
def rP:aah->aaj:=bw 2 2 XR
def UE:SF:=(aW (cw .s (aw (ai gs (aN cR (aF (aB 1) aJ)) (aN cR (aF (ai au (aB 0) (eC (.int 1))) aJ)))) (cC 1 .s (eC .none)) dS)
 (aW (bO 3 1 .s (aN FL (aF (aB 2) aJ)))
 (aW (cT .s (iZ (aF (ai au (aB 0) (eC (.int 1))) (aF (aB 1) aJ))) (nN 4 5) (aW (uf 6 3 .s (aw (gm (gF "str") (aB 4))) .s (aB 4) .s (aB 5) .s (aB 4))
 (cw .s (aw (ai gs (aB 5) (aB 6))) (cC 1 .s (eC .none)) dS)))
 (jV 3 1))))
def sY:aah->aaj:=bw 3 7 UE
def ZS:SF:=(cC 0 .s (lC (aB 0) (ai au (aB 1) (eC (.int 0))) (cS aJ)))
def rQ:aah->aaj:=bw 2 2 ZS
def Ah:SF:=(aW (bO 1 0 .s (eC (.int 1)))
 (aW (cT .s (bg (aB 0)) (dw 2) (bO 1 0 .s (ai fR (aB 1) (aN uS (aF (eC (.int 1)) (aF (aN cR (aF (aB 2) aJ)) aJ))))))
 (cC 0 .s (aB 1))))
def ES:aah->aaj:=bw 1 3 Ah
def Di:SF:=(aW (cw .s (aw (ai vv (aB 1) (aN cR (aF (aB 0) aJ)))) (cC 0 .s (ai au (aB 0) (aB 1))) dS)
 (aW (cw .s (aw (ai de (aN cR (aF (aB 0) aJ)) (eC (.int 0)))) (cC 0 .s (ai dA (ai nQ (ai nQ (aB 1) (aB 1)) (eC (.int 7919))) (eC (.int 31)))) dS)
 (cC 0 .s (ai dA (ai nQ (ai au (aB 0) (ai cZ (aB 1) (aN cR (aF (aB 0) aJ)))) (ai dA (aB 1) (eC (.int 2)))) (ai nQ (ai nQ (aB 1) (aB 1)) (eC (.int 69621)))))))
def iA:aah->aaj:=bw 2 2 Di
def Da:SF:=(aW (bO 3 0 .s (ai fR (ai dA (ai dA (ai cZ (aB 0) (eC (.int 2147483629))) (ai fR (eC (.int 5)) (aB 1))) (eC (.int 1))) (ai dA (eC (.int 48271)) (ai fR (aB 1) (aB 1)))))
 (cC 0 .s (ai cZ (ai cZ (ai fR (aB 3) (aB 3)) (eC (.int 2147483647))) (aB 2))))
def zN:aah->aaj:=bw 3 4 Da
def Cw:SF:=(aW (cw .s (aw (ai de (aB 0) (eC (.int 1)))) (cC 1 .s (cS (aF (ai cZ (ai dA (aB 1) (eC (.int 1))) (aB 2)) (aF (aB 1) aJ)))) dS)
 (aW (cw .s (aw (ai de (aB 0) (eC (.int 2)))) (cC 1 .s (cS (aF (aB 1) (aF (ai dA (aB 1) (eC (.int 1))) aJ)))) dS)
 (aW (cw .s (aw (ai de (aB 0) (eC (.int 3)))) (cC 1 .s (cS (aF (ai dA (aB 1) (eC (.int 1))) (aF (eC (.int 0)) aJ)))) dS)
 (aW (cw .s (aw (ai de (aB 0) (eC (.int 4)))) (cC 1 .s (cS (aF (ai cZ (aB 1) (eC (.int 3))) (aF (ai au (cS (aF (ai cZ (ai dA (aB 1) (eC (.int 1))) (eC (.int 3))) (aF (eC (.int 5)) aJ))) (ai fL (aB 1) (eC (.int 3)))) aJ)))) dS)
 (aW (cw .s (aw (ai de (aB 0) (eC (.int 5)))) (cC 1 .s (aN BQ (aF (ai dA (aB 1) (eC (.int 1))) aJ))) dS)
 (cC 1 .s (cS aJ)))))))
def NB:aah->aaj:=bw 3 3 Cw
def FB:EF:=(lC (aB 0) (aB 1) (cS aJ))
def EY:BF:=(mE (aw (ai (gn af) (aB 2) (aB 4))) (aw (ai vv (aN cR (aF (aB 4) aJ)) (eC (.int 6)))))
def EZ:EF:=(ai cZ (aB 3) (ai dA (aN cR (aF (aB 4) aJ)) (eC (.int 1))))
def FC:EF:=(ai pX (ai pX (oH (aB 4) oN (oS (aB 3))) (cS (aF (aB 2) aJ))) (oH (aB 4) (oS (aB 3)) oN))
def zJ:aah->aaj:=O0 FB EY EZ FC
def Fc:SF:=(aW (cT .s (X4 (aB 0)) (dw 1) (cw .s (mE (pA (aw (gm (gF "str") (aB 1)))) (aw (ai gs (ai au (aB 0) (aB 1)) (aB 1)))) (cC 0 .s (eC (.bool ah))) dS))
 (cC 0 .s (eC (.bool af))))
def FI:aah->aaj:=bw 1 2 Fc
def Fb:SF:=(aW (bO 2 1 .s (cu [ab] (bg (aB 1)) (gB 0) cX (aN uP (aF (ai de (ai au (ai au (aB 0) (eC (.int 1))) (eC (.int 1))) (eC (.str "x"))) aJ))))
 (gQ 2 (aW (cT .s (bg (aN vK (aF (aB 0) aJ))) (dw 3) (aW (bO 4 0 .s (ai au (aB 3) (ai au (aB 2) (eC (.int 0)))))
 (aW (bO 5 1 .s (cS aJ))
 (aW (cT .s (bg (aB 2)) (dw 6) (aW (bO 7 1 .s (cu [ab,aa 6,aa 4] (bg (aB 0)) (gB 0) (aw (ai de (ai au (aB 0) (aB 1)) (aB 2))) (ai au (aB 0) (ai kM (eC (.int 1)) (aB 1)))))
 (gQ 7 (gY 5 .s (aN (pI af) (aF (aB 7) aJ))))))
 (gQ 5 (cw .s (aw (ai (gn af) (eC .none) (aB 5))) (cC 0 .s (ai zX (aB 3) (aN iO (aF (oH (aB 5) (oS (eC (.int 1))) oN) aJ)))) dS))))))
 (cC 0 .s (eC .none)))))
def Ez:aah->aaj:=bw 2 8 Fb
def WO:SF:=(aW (bO 2 0 .s (aN vZ (aF (ai zX (xS (aB 0) oN (oS (aB 1))) (xS (aB 0) (oS (ai dA (aB 1) (eC (.int 1)))) oN)) aJ)))
 (cC 1 .s (cu [ab,aa 2] (bg (aN vZ (aF (iJ (aF (ai au (aB 0) (aB 1)) aJ)) aJ))) (gB 0) (aw (ai (gn ah) (aB 0) (aB 1))) (aB 0))))
def KR:aah->aaj:=bw 2 3 WO
def FG:SF:=(cw .s (aw (ai qt (aN ES (aF (aB 0) aJ)) (eC (.int 4096)))) sNo dS)
def NL:aah->aaj:=bw 1 1 FG
def Bq:SF:=(aW (bO 3 1 .s (cS aJ))
 (aW (cT .s (bg (aB 0)) (dw 4) (cT .s (bg (aB 2)) (dw 5) (aW (bO 6 0 .s (aN sY (aF (aB 1) (aF (aB 5) (aF (aB 4) aJ)))))
 (cw .s (aw (ai mS (aB 6) (eC .none))) (gY 3 .s (aB 6)) dS))))
 (jV 3 1)))
def MK:aah->aaj:=bw 3 7 Bq
def ZR:SF:=(cC 1 .s (aN vK (aF (cu [ab,aa 1] (bg (aN rQ (aF (aB 0) (aF (aB 1) aJ)))) (gB 0) (aw (ai mS (aN sY (aF (aB 1) (aF (aB 0) (aF (eC (.dict [])) aJ)))) (eC .none))) (aB 0)) aJ)))
def EO:aah->aaj:=bw 2 2 ZR
def WS:SF:=(cC 1 .s (cu [ab,aa 1] (bg (aN vZ (aF (iJ (aF (aB 0) aJ)) aJ))) (gB 0) (aw (ai (gn ah) (aB 0) (ai au (aB 1) (eC (.int 1))))) (aB 0)))
def JX:aah->aaj:=bw 2 2 WS
def XU:SF:=(cC 0 .s (aN rP (aF (aB 2) (aF (aN sY (aF (aB 0) (aF (aB 1) (aF (eC (.dict [])) aJ)))) aJ))))
def tN:aah->aaj:=bw 3 3 XU
def Dy:SF:=(aW (bO 2 0 .s (aN iA (aF (aB 0) (aF (eC (.int 1)) aJ))))
 (aW (cw .s (aw (ai de (ai cZ (aB 2) (eC (.int 2))) (eC (.int 0)))) (cC 0 .s (ai au (cS (aF (ai kM (aB 1) (eC (.int 1))) (aF (ai kM (eC (.int 4)) (ai fR (eC (.int 3)) (aB 1))) aJ))) (ai cZ (ai fL (aB 2) (eC (.int 2))) (eC (.int 2))))) dS)
 (cC 0 .s (ai fR (ai kM (ai cZ (ai fL (aB 2) (eC (.int 2))) (ai fR (ai pW (eC (.int 10)) (eC (.int 35))) (ai pW (eC (.int 10)) (eC (.int 34))))) (ai fR (ai pW (eC (.int 10)) (eC (.int 35))) (ai pW (eC (.int 10)) (eC (.int 33))))) (ai dA (eC (.int 1)) (ai cZ (aB 1) (eC (.int 3))))))))
def wB:aah->aaj:=bw 2 3 Dy
def Ed:SF:=(aW (bO 2 0 .s (cS (aF (eC (.dict [])) aJ)))
 (aW (bO 3 0 .s (cS aJ))
 (aW (cT .s (bg (aB 1)) (nN 4 5) (aW (bO 3 0 .s (ai pX (aB 3) (cu [ab] (bg (aB 5)) (gB 0) (aw (gm (gF "str") (aB 0))) (aB 0))))
 (aW (bO 6 1 .s (cS aJ))
 (aW (cT .s (bg (aB 2)) (dw 7) (cT .s (bg (lC (aB 0) (aB 4) (cS aJ))) (dw 8) (aW (bO 9 1 .s (aN FL (aF (aB 7) aJ)))
 (yO 9 (iZ (aF (aB 5) (aF (aB 8) aJ))) (gQ 9 (gY 6 .s (aB 9)))))))
 (gQ 6 (aW (bO 2 1 .s (cu [ab] (bg (aB 6)) (gB 0) (aw (aN FI (aF (aB 0) aJ))) (aB 0)))
 (gQ 2 dS)))))))
 (aW (bO 3 1 .s (cu [ab,aa 3] (jd (aF (aN cR (aF (aB 3) aJ)) aJ)) (gB 0) (aw (ai (gn af) (ai au (aB 1) (aB 0)) (oH (aB 1) oN (oS (aB 0))))) (ai au (aB 1) (aB 0))))
 (gQ 3 (cC 0 .s (aN (pI af) (aF (cu [ab,aa 3] (bg (aB 2)) (gB 0) cX (aN iO (aF (cu [ab,aa 0] (bg (aB 1)) (gB 0) cX (ai au (aB 1) (aB 0))) aJ))) aJ))))))))
def FE:aah->aaj:=bw 2 10 Ed
def Dm:SF:=(aW (bO 1 1 .s (cS aJ))
 (aW (cT .s (jd (aF (ai cZ (aN iA (aF (aB 0) (aF (eC (.int 54)) aJ))) (eC (.int 61))) aJ)) (dw 2) (aW (bO 3 0 .s (ai dA (aN iA (aF (aB 0) (aF (ai dA (eC (.int 55)) (ai cZ (aB 2) (eC (.int 8)))) aJ))) (ai fR (eC (.int 11)) (ai fL (aB 2) (eC (.int 8))))))
 (aW (bO 4 0 .s (iJ (aF (ai kM (aN zN (aF (aB 3) (aF (aB 2) (aF (eC (.int 9)) aJ)))) (eC (.int 4))) (aF (ai kM (aN zN (aF (aB 3) (aF (ai dA (aB 2) (eC (.int 7))) (aF (eC (.int 9)) aJ)))) (eC (.int 4))) aJ))))
 (cw .a (aw (ai (gn af) (aB 4) (aB 1))) (gY 1 .s (aB 4)) dS))))
 (gQ 1 (aW (bO 5 1 .s (cS aJ))
 (aW (cT .s (jd (aF (ai dA (eC (.int 1)) (ai cZ (ai fL (aN iA (aF (aB 0) (aF (eC (.int 54)) aJ))) (eC (.int 61))) (eC (.int 5)))) aJ)) (dw 2) (aW (bO 6 0 .s (ai au (cS (aF (eC (.str "y")) (aF (eC (.str "xx")) (aF (eC (.str "w")) (aF (eC (.str "x1")) (aF (eC (.str "v")) aJ)))))) (aB 2)))
 (gY 5 .s (iJ (aF (eC (.str "t")) (aF (ai au (cS (aF (iJ (aF (eC (.str "x")) (aF (aB 6) aJ))) (aF (iJ (aF (aB 6) (aF (eC (.str "x")) aJ))) aJ))) (ai cZ (ai fL (ai fL (aN iA (aF (aB 0) (aF (eC (.int 54)) aJ))) (ai au (cS (aF (eC (.int 1)) (aF (eC (.int 2)) (aF (eC (.int 4)) (aF (eC (.int 8)) (aF (eC (.int 16)) aJ)))))) (aB 2))) (eC (.int 305))) (eC (.int 2)))) aJ))))))
 (gQ 5 (cC 1 .s (cS (aF (aB 1) (aF (aN iO (aF (aB 5) aJ)) aJ))))))))))
def NC:aah->aaj:=bw 1 7 Dm
def Dp:SF:=(aW (bO 3 0 .s (aN KR (aF (aN iO (aF (cu [ab,aa 0] (bg (aB 1)) (gB 0) cX (ai au (aB 1) (aB 0))) aJ)) (aF (ai IZ (aB 1) (aB 2)) aJ))))
 (aW (cT .s (bg (aB 1)) (dw 4) (cw .s (mE (aw (ai gs (aB 4) (aB 2))) (aw (aN xR (aF (cu [ab,aa 0,aa 4] (bg (aB 3)) (gB 0) cX (ai (gn ah) (aB 0) (ai au (ai au (aB 1) (aB 2)) (eC (.int 1))))) aJ)))) (cC 0 .s (aB 4)) dS))
 (cC 0 .s (eC .none))))
def MV:aah->aaj:=bw 3 5 Dp
def FD:SF:=(qY .s (aN NL (aF (cu [ab,aa 0] (bg (aB 1)) (gB 0) cX (aN rQ (aF (aB 1) (aF (aB 0) aJ)))) aJ)))
def NG:aah->aaj:=bw 2 2 FD
def YR:SF:=(aW (bO 2 0 .s (cS (aF (eC (.dict [])) aJ)))
 (aW (cT .s (iZ (aF (aB 0) (aF (aB 1) aJ))) (nN 3 4) (bO 2 0 .s (aN MK (aF (aB 2) (aF (aB 3) (aF (aB 4) aJ))))))
 (cC 0 .s (aB 2))))
def JV:aah->aaj:=bw 2 5 YR
def Em:SF:=(cC 1 .s (cu [ab,aa 0] (bg (aB 1)) (gB 0) cX (aN EO (aF (aB 1) (aF (aB 0) aJ)))))
def NH:aah->aaj:=bw 2 2 Em
def Es:SF:=(aW (bO 4 0 .s (aN JX (aF (aB 0) (aF (aB 2) aJ))))
 (aW (bO 5 0 .s (aN IR (aF (cu [ab,aa 2,aa 4] (bg (aB 3)) (gB 0) cX (iJ (aF (aN tN (aF (aB 1) (aF (aB 0) (aF (aB 2) aJ)))) (aF (eC (.bool af)) aJ)))) aJ)))
 (cC 1 .s (cu [ab,aa 5,aa 0,aa 4] (bg (aB 1)) (gB 0) (aw (ai (gn ah) (aN tN (aF (aB 2) (aF (aB 0) (aF (aB 3) aJ)))) (aB 1))) (aB 0)))))
def FH:aah->aaj:=bw 4 6 Es
def Dv:SF:=(aW (bO 1 0 .s (aN iA (aF (aB 0) (aF (eC (.int 0)) aJ))))
 (aW (bO 2 0 .s (cS (aF (eC (.str "e")) (aF (eC (.str "d")) (aF (eC (.str "ee")) (aF (eC (.str "c")) (aF (eC (.str "dd")) (aF (eC (.str "b9")) (aF (eC (.str "b")) (aF (eC (.str "a9")) (aF (eC (.str "a")) (aF (eC (.str "a1")) aJ))))))))))))
 (aW (bO 3 0 .s (ai cZ (ai fL (aB 1) (eC (.int 6))) (eC (.int 5))))
 (aW (bO 4 1 .s (cS aJ))
 (aW (cT .s (jd (aF (aB 3) aJ)) (dw 5) (aW (bO 6 0 .s (aN iA (aF (aB 0) (aF (ai dA (eC (.int 3)) (aB 5)) aJ))))
 (aW (bO 7 0 .s (aN NB (aF (ai cZ (aB 1) (eC (.int 6))) (aF (aB 5) (aF (aB 3) aJ)))))
 (aW (bO 8 1 .s (cS aJ))
 (aW (cT .s (jd (aF (aN uS (aF (aN cR (aF (aB 7) aJ)) (aF (ai dA (eC (.int 1)) (ai cZ (aB 6) (eC (.int 4)))) aJ))) aJ)) (dw 9) (aW (bO 10 0 .s (aN iA (aF (aB 0) (aF (ai dA (ai dA (eC (.int 7)) (ai fR (eC (.int 4)) (aB 5))) (aB 9)) aJ))))
 (aW (bO 11 0 .s (ai pX (aB 7) (cS (aF (ai dA (eC (.int 6)) (aB 5)) aJ))))
 (aW (cw .s (aw (ai de (ai cZ (aB 1) (eC (.int 6))) (eC (.int 0)))) (bO 11 0 .s (cS (aF (eC (.int 0)) (aF (eC (.int 1)) (aF (eC (.int 2)) (aF (eC (.int 3)) aJ)))))) dS)
 (cw .s (aw (ai de (ai cZ (aB 10) (eC (.int 5))) (eC (.int 0)))) (gY 8 .s (aN wB (aF (aB 0) (aF (ai cZ (ai fL (aB 10) (eC (.int 5))) (eC (.int 3))) aJ)))) (gY 8 .s (ai au (aB 2) (ai au (aB 11) (ai cZ (ai fL (aB 10) (eC (.int 5))) (aN cR (aF (aB 11) aJ)))))))))))
 (aW (cT .s (jd (aF (aN cR (aF (aB 7) aJ)) aJ)) (dw 9) (pJ 8 .s (ai au (aB 2) (ai au (aB 7) (aB 9))) .a (ai cZ (ai dA (ai fL (aB 6) (eC (.int 4))) (aB 9)) (aN cR (aF (aB 8) aJ)))))
 (gQ 8 (gY 4 .s (iJ (aF (ai au (cS (aF (eC (.str "a")) (aF (eC (.str "b")) (aF (eC (.str "c")) (aF (eC (.str "d")) aJ))))) (ai kM (aN cR (aF (aB 8) aJ)) (eC (.int 1)))) (aF (aN iO (aF (aB 8) aJ)) aJ)))))))))))
 (gQ 4 (cC 0 .s (aN iO (aF (aB 4) aJ)))))))))
def NF:aah->aaj:=bw 1 12 Dv
def Dq:SF:=(aW (bO 2 2 .s (eC (.dict [])))
 (aW (cT .s (jd (aF (eC (.int 2)) aJ)) (dw 3) (aW (bO 4 1 .s (eC (.dict [])))
 (aW (cT .s (xh (aF (cS (aF (eC (.str "e")) (aF (eC (.str "d")) (aF (eC (.str "ee")) (aF (eC (.str "c")) (aF (eC (.str "dd")) (aF (eC (.str "b9")) (aF (eC (.str "b")) (aF (eC (.str "a9")) (aF (eC (.str "a")) (aF (eC (.str "a1")) aJ))))))))))) aJ)) (nN 5 6) (sR 4 .s (aN wB (aF (aB 0) (aF (aN zN (aF (aN iA (aF (aB 0) (aF (ai dA (eC (.int 23)) (aB 3)) aJ))) (aF (aB 5) (aF (eC (.int 3)) aJ)))) aJ))) .s (aB 6)))
 (gQ 4 (cT .s (bg (aB 1)) (nN 7 8) (zU 2 zJ (aF (aB 7) (aF (aN iO (aF (cu [ab,aa 4] (bg (aB 8)) (gB 0) cX (lC (aB 1) (aB 0) (aB 0))) aJ)) (aF (ai fL (aN iA (aF (aB 0) (aF (eC (.int 2)) aJ))) (ai dA (aB 3) (eC (.int 1)))) aJ)))))))))
 (aW (cT .s (jd (aF (eC (.int 4)) aJ)) (dw 3) (cT .s (jd (aF (ai cZ (ai fL (aN iA (aF (aB 0) (aF (eC (.int 25)) aJ))) (ai dA (aB 3) (eC (.int 1)))) (eC (.int 7))) aJ)) (dw 9) (aW (bO 10 0 .s (aN iA (aF (aB 0) (aF (ai dA (ai dA (eC (.int 26)) (ai fR (eC (.int 7)) (aB 3))) (aB 9)) aJ))))
 (aW (bO 11 0 .s (aN iO (aF (cu [ab,aa 0,aa 10] (jd (aF (ai dA (aB 3) (eC (.int 1))) aJ)) (gB 0) cX (aN wB (aF (aB 1) (aF (ai cZ (ai fL (aB 2) (ai au (cS (aF (eC (.int 1)) (aF (eC (.int 3)) (aF (eC (.int 9)) (aF (eC (.int 27)) aJ))))) (aB 0))) (eC (.int 3))) aJ)))) aJ)))
 (zU 2 zJ (aF (ai au (cS (aF (eC (.str "a")) (aF (eC (.str "b")) (aF (eC (.str "c")) (aF (eC (.str "d")) aJ))))) (aB 3)) (aF (aB 11) (aF (ai fL (aB 10) (eC (.int 81))) aJ))))))))
 (aW (cw .s (aw (ai de (ai cZ (aN iA (aF (aB 0) (aF (eC (.int 2)) aJ))) (eC (.int 7))) (eC (.int 0)))) (X7 (JE 2 .s (cS aJ) .s (eC (.str "b"))) (NZ 2 .s (cS aJ) .s (eC (.str "b")))) dS)
 (jV 2 2)))))
def MS:aah->aaj:=bw 2 12 Dq
def Dg:SF:=(aW (cT .s (bg (aB 1)) (dw 2) (aW (bO 3 0 .s (aN MV (aF (aB 0) (aF (aB 1) (aF (aB 2) aJ)))))
 (cw .s (aw (ai mS (aB 3) (eC .none))) (cC 0 .s (iJ (aF (aB 2) (aF (aB 3) aJ)))) dS)))
 (cC 0 .s (eC .none)))
def pV:aah->aaj:=bw 2 4 Dg
def VX:SF:=(aW (bO 1 1 .s (cS aJ))
 (aW (bO 2 1 .s (aN BQ (aF (aN cR (aF (aB 0) aJ)) aJ)))
 (aW (bO 3 0 .a (aN pV (aF (aB 0) (aF (aB 2) aJ))))
 (aW (su .s (aw (ai mS (aB 3) (eC .none))) (aW (gY 1 .s (aB 3))
 (aW (oZ 2 .s (ai au (aB 3) (eC (.int 0))))
 (bO 3 0 .a (aN pV (aF (aB 0) (aF (aB 2) aJ)))))) 100)
 (UN 1 2)))))
def lF:aah->aaj:=bw 1 4 VX
def VE:SF:=(aW (bO 1 1 .s (nC 1 (aN lF (aF (aB 0) aJ))))
 (UU .a (aw (ai qt (aN cR (aF (aB 1) aJ)) (eC (.int 1)))) 1 (cS aJ)))
def yD:aah->aaj:=bw 1 2 VE
def Ex:SF:=(aW (bO 2 1 .s (aN nP (aF (aB 1) aJ)))
 (aW (cT .s (bg (nC 0 (aN lF (aF (aB 0) aJ)))) (nN 3 4) (vL 2 .a (aN FH (aF (ai au (aB 0) (aB 4)) (aF (ai au (aB 2) (aB 4)) (aF (ai au (aB 0) (aB 3)) (aF (ai au (aB 2) (aB 3)) aJ))))) .s (aB 4)))
 (jV 2 1)))
def NN:aah->aaj:=bw 2 5 Ex
def Dh:SF:=(aW (bO 2 0 .s (nC 1 (aN lF (aF (aB 0) aJ))))
 (cC 0 .s (aN JV (aF (aN iO (aF (cu [ab,aa 0] (bg (aB 2)) (gB 0) cX (ai au (aB 1) (aB 0))) aJ)) (aF (cu [ab,aa 1] (bg (aB 2)) (gB 0) cX (ai au (aB 1) (aB 0))) aJ)))))
def MW:aah->aaj:=bw 2 3 Dh
def Dc:SF:=(aW (bO 2 1 .s (aN nP (aF (aB 1) aJ)))
 (aW (cT .s (iRv (aF (nC 0 (aN lF (aF (aB 0) aJ))) aJ)) (nN 3 4) (vL 2 .a (aN FH (aF (ai au (aB 0) (aB 3)) (aF (ai au (aB 2) (aB 3)) (aF (ai au (aB 0) (aB 4)) (aF (ai au (aB 2) (aB 4)) aJ))))) .s (aB 3)))
 (jV 2 1)))
def MU:aah->aaj:=bw 2 5 Dc
def FF:SF:=(qY .s (aN NG (aF (aB 0) (aF (aN iO (aF (cu [ab,aa 1] (bg (aN yD (aF (aB 1) aJ))) (gB 0) cX (ai au (aB 1) (aB 0))) aJ)) aJ))))
def Ep:aah->aaj:=bw 2 2 FF
def Cy:SF:=(aW (bO 2 1 .s (aN nP (aF (aB 1) aJ)))
 (aW (bO 3 0 .s (aN MW (aF (aB 0) (aF (aB 1) aJ))))
 (aW (cT .s (bg (nC 1 (aN lF (aF (aB 0) aJ)))) (dw 4) (pJ 2 .s (aN MF (aF (cu [ab,aa 0,aa 4] (bg (aB 3)) (gB 0) cX (aN rP (aF (ai au (ai au (aB 1) (aB 2)) (eC (.int 1))) (aF (aB 0) aJ)))) aJ)) .s (aB 4)))
 (jV 2 1))))
def MT:aah->aaj:=bw 2 5 Cy
def Bu:SF:=(cC 1 .s (aN MU (aF (aB 0) (aF (aN MT (aF (aB 0) (aF (aN NN (aF (aB 0) (aF (aB 1) aJ))) aJ))) aJ))))
def MC:aah->aaj:=bw 2 2 Bu
def Cb:SF:=(aW (bO 2 1 .s (aN NH (aF (aB 0) (aF (aB 1) aJ))))
 (aW (bO 3 0 .s (eC (.dict [])))
 (aW (cT .s (xh (aF (aB 1) aJ)) (nN 4 5) (gQ 2 (aW (bO 2 1 .s (aN MC (aF (aB 1) (aF (aB 2) aJ))))
 (aW (cw .a (aw (ai de (aN cR (aF (ai au (aB 2) (aB 4)) aJ)) (eC (.int 0)))) (cC 0 .s (eC .none)) dS)
 (aW (vL 2 .a (oH (ai au (aB 2) (aB 4)) oN (oS (eC (.int 1)))) .s (aB 4))
 (gQ 2 (bO 3 0 .s (aN sY (aF (aB 5) (aF (ai au (ai au (aB 2) (aB 4)) (eC (.int 0))) (aF (aB 3) aJ)))))))))))
 (gQ 2 (cC 0 .s (aN rP (aF (aN vZ (aF (aB 1) aJ)) (aF (aB 3) aJ))))))))
def EX:aah->aaj:=bw 2 6 Cb
def Ec:SF:=(aW (qY .s (aN Ep (aF (aB 0) (aF (aB 1) aJ))))
 (cC 0 .s (aN EX (aF (aB 0) (aF (aB 1) aJ)))))
def Eg:aah->aaj:=bw 2 2 Ec
def Du:SF:=(aW (bO 3 0 .s (aN BX (aF (cu [ab,ab] (O1 (aB 0)) (ye 0 1) cX (iJ (aF (aB 0) (aF (aN nP (aF (aB 1) aJ)) aJ)))) aJ)))
 (aW (bO 4 0 .s (aN Eg (aF (aB 0) (aF (aB 1) aJ))))
 (aW (cw .s (aw (ai (uR af) (aB 0) (aB 3))) (cC 0 .s (eC (.bool ah))) dS)
 (aW (cw .s (aw (ai xN (aB 2) (eC .none))) (cC 0 .s (ai xN (aB 4) (eC .none))) dS)
 (cC 0 .s (uQ (gm (gF "tuple") (aB 4)) (ai de (aB 4) (aB 2))))))))
def wC:aah->aaj:=bw 3 5 Du
def Ma:SF:=(aW (bO 1 0 .s (aN NF (aF (aB 0) aJ)))
 (aW (bO 2 2 .s (aN MS (aF (aB 0) (aF (aB 1) aJ))))
 (aW (BG .s (aN NC (aF (aB 0) aJ)) (NY 3 4))
 (aW (cw .a (pA (aw (aN wC (aF (aB 2) (aF (aB 1) (aF (aN FE (aF (aB 2) (aF (aB 1) aJ))) aJ)))))) (cC 0 .s (eC (.bool ah))) dS)
 (aW (cw .s (pA (aw (aN wC (aF (eDN [((eC (.str "t")),(aB 3))]) (aF (aB 4) (aF (aN Ez (aF (aB 3) (aF (aB 4) aJ))) aJ)))))) (cC 0 .s (eC (.bool ah))) dS)
 (aW (cT .a (xM (aN yK (aF (aB 2) aJ))) (dw 5) (cw .a (aw (ai qt (aN cR (aF (ai au (aB 2) (aB 5)) aJ)) (eC (.int 0)))) (aW (FM 2 .s (aB 5) .a (ai cZ (aN iA (aF (aB 0) (aF (eC (.int 2)) aJ))) (aN cR (aF (ai au (aB 2) (aB 5)) aJ))))
 (cC 0 .a (aN wC (aF (aB 2) (aF (aB 1) (aF (aN FE (aF (aB 2) (aF (aB 1) aJ))) aJ)))))) dS))
 (gQ 2 (cC 0 .s (eC (.bool af))))))))))
def HP:aah->aaj:=bw 1 6 Ma
end Aw
namespace L2
open PySem PySem.Spec PyProof.Rows
variable {F G:SF}{T:aA->aR->Option aR}{ds:aah}{Y:aR}{t:BF}{f:EF}{d:aA}{fi:AF}{n i:Nat}
theorem m7(P:Nat->aR->Prop)(h0:P 0 Y)
  (step:∀ i d Y,ds[i]?=aa d->P i Y->∃ ρ1 ρ2,T d Y=aa ρ1/\(F ρ1=aa (.nx ρ2)\/F ρ1=aa (.ct ρ2))/\P (i+1) ρ2):∃ ρ',iL F T ds Y=aa (.nx ρ')/\P ds.length ρ':=by
 have go:∀ (rest:aah) (i:Nat) (Y:aR),ds.drop i=rest->i+rest.length=ds.length->P i Y->∃ ρ',iL F T rest Y=aa (.nx ρ')/\P ds.length ρ':=by
  intro rest;induction rest with
  |nil=>
   intro i Y _ hl p;simp at hl;subst hl;exact⟨Y,rfl,p⟩
  |cons d r ih=>
   intro i Y hd hl p;have hi:ds[i]?=aa d:=by
    have:=congrArg (·[0]?) hd;simpa using this
   obtain⟨ρ1,ρ2,e1,e2,p2⟩:=step i d Y hi p;have qz:ds.drop (i+1)=r:=by
    have:=congrArg List.tail hd;simpa using this
   obtain⟨ρ',e3,p3⟩:=ih (i+1) ρ2 qz (by simp at hl;lia) p2
   refine⟨ρ',?_,p3⟩;show((T d Y).bind λρ1=>(F ρ1).bind λo=>match o with
    |.nx ρ'=>iL F T r ρ'
    |.ct ρ'=>iL F T r ρ'
    |.bk ρ'=>aa (.nx ρ')
    | .rt d=>aa (.rt d))=aa (.nx ρ')
   grind
 exact go ds 0 Y (by simp) (by simp) h0
theorem Fu {T:aA->jp->Option jp}{Y:jp}(g:aA->aA):∀ (ds:aah),(∀ d∈ds,∃ ρ1,T d Y=aa ρ1/\t ρ1=aa af/\f ρ1=aa (g d))->qv T t f Y ds=aa (ds.map g)
 |[],_=>rfl
 |d::r,h=>by
  obtain⟨ρ1,e1,e2,e3⟩:=h d bE;have e4:=Fu g r λd' m=>h d' (bL _ m)
  show((T d Y).bind λρ1=>(t ρ1).bind λc=>if c=af then(f ρ1).bind λy=>(qv T t f Y r).bind λys=>aa (y::ys) else qv T t f Y r)=aa (g d::r.map g)
  simp[e1,e2,e3,e4]
theorem Nr{ρ':aR}(h:F Y=aa (.nx ρ')):aW F G Y=G ρ':=by
 unfold aW;rw[h]
 rfl
theorem Qk(h:F Y=aa (.rt d)):aW F G Y=aa (.rt d):=by
 unfold aW;rw[h]
 rfl
theorem DM {m:Md}{o:Out}(h:aV m fi Y=aa ds)(h2:iL F T ds Y=aa o):cT m fi T F Y=aa o:=by
 unfold cT;rw[h];exact h2
theorem Mz {np:Nat}{body:SF}(hl:ds.length=np)(h:body (ds.map (λd=>aa (0,d))++oQ (n-np) ab)=aa (.rt d)):bw np n body ds=aa d:=by
 unfold bw;rw[if_pos hl,h]
 rfl
theorem BP{k:Nat}(h:k<=ds.length):cutD ds ab (aa (k:Int))=ds.take k:=by
 unfold cutD;rw[HT.Axq,HT.A1k];simp[Nat.min_eq_left h]
theorem pT(h:n<=100000):n<=sizeLine:=dI h nofun
theorem vO(h:n<=100000):n<sizeLine:=FZ h nofun
def letter (c:Nat):Bool:=decide (97<=c)&&decide (c<=122)
def figure (c:Nat):Bool:=decide (48<=c)&&decide (c<=57)
def Pq (c:Nat):Bool:=letter c||figure c
def Mb (cs:aar):Prop:=∃ c r,cs=c::r/\letter c=af/\(∀ x∈cs,Pq x=af)/\cs.length<=12
def nameS (z:aE):Prop:=Mb z.cps.toList
theorem sZ (a:Int){b:Int}(h:0<b):0<=a%b/\a%b<b:=⟨Int.emod_nonneg _ (),Int.emod_lt_of_pos _ h⟩
def Goes (F:SF)(Y:aR)(P:Out->Prop):Prop:=∃ o,F Y=aa o/\P o
variable {P:Out->Prop}{m:Md}
theorem Goes.mono {P':Out->Prop}(h:Goes F Y P)(k:∀ o,P o->P' o):Goes F Y P':=by
 obtain⟨o,e,p⟩:=h;exact⟨o,e,k o p⟩
theorem fT {ρ':aR}(h:F Y=aa (.nx ρ'))(k:Goes G ρ' P):Goes (aW F G) Y P:=by
 obtain⟨o,e,p⟩:=k;exact⟨o,by rw[Nr h];exact e,p⟩
theorem fI (I:aR->Prop)(h:Goes F Y λo=>∃ ρ',o=.nx ρ'/\I ρ')(k:∀ ρ',I ρ'->Goes G ρ' P):Goes (aW F G) Y P:=by
 obtain⟨o,e,ρ',rfl,i⟩:=h;exact fT e (k ρ' i)
theorem CP(h:F Y=aa (.rt d))(k:P (.rt d)):Goes (aW F G) Y P:=⟨_,Qk h,k⟩
theorem SU{b:Bool}(h:bV m t Y=aa b)(k:Goes (if b=af then F else G) Y P):Goes (cw m t F G) Y P:=by
 obtain⟨o,e,p⟩:=k;refine⟨o,?_,p⟩;show((bV m t Y).bind λb=>if b=af then F Y else G Y)=aa o
 rw[h];cases b
 .exact e
 .exact e
theorem fS(h:bV m t Y=aa af)(k:Goes F Y P):Goes (cw m t F G) Y P:=SU h k
theorem jY(h:bV m t Y=aa ah)(k:Goes G Y P):Goes (cw m t F G) Y P:=SU h k
theorem jZ (k:P (.nx Y)):Goes dS Y P:=⟨_,rfl,k⟩
theorem nM(h:bV m t Y=aa ah):cw m t F dS Y=aa (.nx Y):=by
 unfold cw;rw[h]
 rfl
theorem mW (h:Goes F Y λo=>∃ d,o=.rt d/\P o):Goes (aW F G) Y P:=by
 obtain⟨o,e,d,rfl,p⟩:=h;exact CP e p
theorem Vf(h:f (vA Y)=aa d)(hf:fJ n d=af)(k:P (.rt d)):Goes (cC n .a f) Y P:=⟨_,by
 unfold cC eV;simp only[h,bQ,hf,Bool.true_or,if_true],k⟩
theorem cQ(h:f (vS Y)=aa d)(k:P (.rt d)):Goes (cC n .s f) Y P:=⟨_,by
 unfold cC eV;simp only[h,bQ],k⟩
theorem NU(h:eV n m f Y=aa d)(hl:i<Y.length)(k:P (.nx (Y.set i (aa (n,d))))):Goes (bO i n m f) Y P:=
 ⟨_,by unfold bO;rw[h];simp only[bQ,if_pos hl],k⟩
theorem CZ(h:f (vS Y)=aa d)(hl:i<Y.length)(k:P (.nx (Y.set i (aa (n,d))))):Goes (bO i n .s f) Y P:=NU h hl k
theorem iV(h:Goes F (frz i Y) P):Goes (gQ i F) Y P:=h
theorem Nw(h:n<=1000000):HA 0 (n:Int)=aa ((bW n).map λ(k:Nat)=>aT k):=by
 unfold HA;rw[if_pos ()]
 simp
theorem nV {fa:AF}{Y:jp}(h:fa Y=aa [.int n])(hn:n<=1000000):jd fa Y=aa ((bW n).map λ(k:Nat)=>aT k):=by
 have e:=Nw hn;generalize aa ((bW n).map λ(k:Nat)=>aT k)=y at e ⊢
 rw[<-e];unfold jd;rw[h,bQ]
theorem du(h:fi (vS Y)=aa ds):aV .s fi Y=aa ds:=h
theorem VF(I:Nat->aR->Prop)(h:aV m fi Y=aa ds)(h0:I 0 Y)
  (step:∀ i d Y,ds[i]?=aa d->I i Y->∃ ρ1,T d Y=aa ρ1/\Goes F ρ1 λo=>∃ ρ2,(o=.nx ρ2\/o=.ct ρ2)/\I (i+1) ρ2) (k:∀ ρ',I ds.length ρ'->P (.nx ρ')):Goes (cT m fi T F) Y P:=by
 obtain⟨ρ',e,i⟩:=m7 I h0 λi d Y hd p=>by
  obtain⟨ρ1,e1,o,e2,ρ2,e3,p2⟩:=step i d Y hd p;refine⟨ρ1,ρ2,e1,?_,p2⟩;rcases e3 with rfl|rfl
  .exact .inl e2
  .exact .inr e2
 exact⟨_,DM h e,k ρ' i⟩
theorem rL(I:Nat->aR->Prop)(h:aV m fi Y=aa ((bW n).map λ(k:Nat)=>aT k))(h0:I 0 Y)
  (step:∀ (i:Nat) Y,i<n->I i Y->∃ ρ1,T (.int i) Y=aa ρ1/\Goes F ρ1 λo=>∃ ρ2,(o=.nx ρ2\/o=.ct ρ2)/\I (i+1) ρ2) (k:∀ ρ',I n ρ'->P (.nx ρ')):Goes (cT m fi T F) Y P:=by
 refine VF I h h0 (λi d Y hd p=>?_) (by simpa using k)
 have bm:i<n:=by
  have:=(cK.1 hd).1;simpa using this
 rw[eU,QU bm] at hd;have:aT (i:Int)=d:=by simpa using hd
 rw[12];exact step i Y bm p
theorem dJ {np:Nat}{body:SF}{Q:aA->Prop}(hl:ds.length=np)(h:Goes body (ds.map (λd=>aa (0,d))++oQ (n-np) ab) λo=>∃ d,o=.rt d/\Q d):∃ d,bw np n body ds=aa d/\Q d:=by
 obtain⟨o,e,d,rfl,q⟩:=h;exact⟨d,Mz hl e,q⟩
theorem VD {cap:tz}{T:aA->jp->Option jp}{Y:jp}(g:aA->aA)(h1:fi Y=aa ds)(h2:ds.length<=100000)
  (h:∀ d∈ds,∃ ρ1,T d (kZ cap Y)=aa ρ1/\t ρ1=aa af/\f ρ1=aa (g d)):cu cap fi T t f Y=aa (.list (ds.map g)):=by
 unfold cu;rw[h1,bQ,Fu g ds h,bQ,if_pos (pT h2)]
end L2
namespace L2
open PySem PySem.Spec PyProof.Rows
variable {f:EF}{ds:aah}{d:aA}
variable {F G:SF}{Y:aR}{P:Out->Prop}{m:Md}
theorem fG{Y:jp}(h:f Y=aa (.list ds)):bg f Y=aa ds:=by
 unfold bg;rw[h]
 rfl
theorem pP{Y:jp}(h:f Y=aa (.tuple ds)):bg f Y=aa ds:=by
 unfold bg;rw[h]
 rfl
theorem aY {fa:AF}{g:aah->aaj}{Y:jp}(h:fa Y=aa ds)(h2:g ds=aa d):aN g fa Y=aa d:=by
 unfold aN;rw[h];exact h2
theorem aO {fa fb:EF}{g:aA->aA->aaj}{Y:jp}{a b:aA}(h:fa Y=aa a)(h2:fb Y=aa b)(h3:g a b=aa d):ai g fa fb Y=aa d:=by
 unfold ai;rw[h,h2];exact h3
theorem rM {i:Nat}(h:f (vS Y)=aa d)(hg:getL i Y=aa ds)(hl:ds.length<100000)(k:P (.nx (Y.set i (aa (1,.list (ds++[d])))))):Goes (gY i .s f) Y P:=⟨_,by
 unfold gY eV;simp only[h,bQ,hg,if_pos (vO (qI hl))],k⟩
theorem Hr {i:Nat}{g:EF}{kd:aA}{key:aI}{kds:be}(h:f (vS Y)=aa d)(hg:oI i Y=aa kds)(hk:g (vS Y)=aa kd)(ha:bS kd=aa key)(hl:kds.length<100000)(k:P (.nx (Y.set i (aa (1,.dict (putD kds key d)))))):Goes (sR i .s f .s g) Y P:=⟨_,by
 unfold sR eV;simp only[h,bQ,hg,hk,ha,if_pos (vO (qI hl))],k⟩
def Np (d:aA):Prop:=(∃ z,d=.str z/\nameS z)\/∃ i,d=.int i
theorem EG:∀ {ts:aah},(∀ t∈ts,bN t=af)->bR ts=af
 |[],_=>by simp[bR]
 |t::r,h=>by
  simp only[bR,RM];exact⟨h t bE,EG λx m=>h x (bL _ m)⟩
theorem EI {n:Nat}:∀ {ts:aah},(∀ t∈ts,t.depth<=n)->cU ts<=n
 |[],_=>by simp[cU]
 |t::r,h=>by
  simp only[cU];exact Nat.max_le.2 ⟨h t bE,EI λx m=>h x (bL _ m)⟩
theorem vY:∀ {ts:aah},(∀ t∈ts,noDict t=af)->noDicts ts=af
 |[],_=>by simp[noDicts]
 |t::r,h=>by
  simp only[noDicts,RM];exact⟨h t bE,vY λx m=>h x (bL _ m)⟩
structure Kn (kds:List (aA×aA)):Prop where
 fit:∀ kd∈kds,(∃ z,kd.1=.str z)/\Np kd.2
 once:(kds.map (·.1)).Nodup
theorem yC {kds:be}(h:∀ kd∈kds,kd.1 ≠ .none):dg kds=af:=by
 cases kds with
 |nil=>rfl
 |cons p r=>
  obtain⟨k,d⟩:=p;have:=h (k,d) bE;cases k<;>first|rfl|exact absurd rfl this
theorem Fv:∀ {kss:lm},(∀ k∈kss,bR k=af/\cU k<=6)->iM (kss.map dM)=aa kss
 |[],_=>rfl
 |k::r,h=>by
  show(if bR k=af/\cU k<=6 then(iM (r.map dM)).bind λkss=>aa (k::kss) else ab)=_
  rw[if_pos (h k bE),Fv λx m=>h x (bL _ m)]
  rfl
end L2
namespace L2
open PySem PySem.Spec PyProof.Rows
variable {f:EF}{i n:Nat}{d:aA}
variable {F G:SF}{Y:aR}{P:Out->Prop}{m:Md}
theorem kA {α β:Type}{fi:AF}{T:aA->aR->Option aR}{xs:List α}{q:α->aA}(g:β->α->β)(I:Nat->β->aR->Prop){b0:β}(h:aV m fi Y=aa (xs.map q))(h0:I 0 b0 Y)
  (step:∀ i x b Y,xs[i]?=aa x->I i b Y->∃ ρ1,T (q x) Y=aa ρ1/\Goes F ρ1 λo=>∃ ρ2,(o=.nx ρ2\/o=.ct ρ2)/\I (i+1) (g b x) ρ2) (k:∀ ρ',I xs.length (xs.foldl g b0) ρ'->P (.nx ρ')):Goes (cT m fi T F) Y P:=by
 refine VF (λi Y=>I i ((xs.take i).foldl g b0) Y) h h0 (λi d Y hd p=>?_) (λρ' p=>k ρ' (by simpa using p))
 rw[eU] at hd;obtain⟨x,hx,rfl⟩:=gM.1 hd;obtain⟨ρ1,e1,g1⟩:=step i x _ Y hx p;refine⟨ρ1,e1,g1.mono λo ⟨ρ2,e,q⟩=>⟨ρ2,e,?_⟩⟩
 have:xs.take (i+1)=xs.take i++[x]:=by rw[uH,hx];rfl
 rw[this,uK];exact q
def X3 (F:SF)(T:aA->aR->Option aR)(ds:aah):Out->Option Out
 |.nx Y=>iL F T ds Y
 |.ct Y=>iL F T ds Y
 |.bk Y=>aa (.nx Y)
 |.rt d=>aa (.rt d)
theorem XB {T:aA->jp->Option jp}{t:BF}{Y:jp}{α:Type}{q:α->aA}(p:α->Bool)(g:α->aA):∀ (xs:List α),
  (∀ x∈xs,∃ ρ1,T (q x) Y=aa ρ1/\t ρ1=aa (p x)/\(p x=af->f ρ1=aa (g x)))->qv T t f Y (xs.map q)=aa ((xs.filter p).map g)
 |[],_=>rfl
 |x::xs,h=>by
  obtain⟨ρ1,e1,e2,e3⟩:=h x bE;have ih:=XB p g xs λy m=>h y (bL _ m)
  show((T (q x) Y).bind λρ1=>(t ρ1).bind λc=>if c=af then(f ρ1).bind λy=>(qv T t f Y (xs.map q)).bind λys=>aa (y::ys) else qv T t f Y (xs.map q))=_
  grind
theorem gA {cap:tz}{fi:AF}{T:aA->jp->Option jp}{t:BF}{Y:jp}{α:Type}{xs:List α}{q:α->aA}(p:α->Bool)(g:α->aA)(h1:fi Y=aa (xs.map q))(h2:xs.length<=100000)
  (h:∀ x∈xs,∃ ρ1,T (q x) (kZ cap Y)=aa ρ1/\t ρ1=aa (p x)/\(p x=af->f ρ1=aa (g x))):cu cap fi T t f Y=aa (.list ((xs.filter p).map g)):=by
 unfold cu;rw[h1,bQ,XB p g xs h,bQ,if_pos (pT (by simpa using h2))]
theorem UL(h:eV n m f Y=aa d)(hl:i<Y.length):bO i n m f Y=aa (.nx (Y.set i (aa (n,d)))):=by
 obtain⟨o,e,q⟩:=NU (P:=λo=>o=.nx (Y.set i (aa (n,d)))) h hl rfl
 rw[e,q]
theorem cD(h:f (vS Y)=aa d)(hl:i<Y.length)(k:Goes G (Y.set i (aa (n,d))) P):Goes (aW (bO i n .s f) G) Y P:=fT (UL h hl) k
theorem Ry(h:f (vA Y)=aa d)(hf:fJ n d=af)(hl:i<Y.length)(k:Goes G (Y.set i (aa (n,d))) P):Goes (aW (bO i n .a f) G) Y P:=
 fT (UL (by show((f (vA Y)).bind λd=>if fJ n d=af then aa d else ab)=_;rw[h,bQ,if_pos hf]) hl) k
theorem vD {fa:EF}{g:aA->aaj}{Y:jp}{a:aA}(h:fa Y=aa a)(h3:g a=aa d):gm g fa Y=aa d:=by
 unfold gm;rw[h];exact h3
theorem aX{g:AF}{Y:jp}{ds:aah}(h:f Y=aa d)(h2:g Y=aa ds):aF f g Y=aa (d::ds):=by
 unfold aF;rw[h,h2]
 rfl
end L2
namespace L2
def dP {α:Type}[DecidableEq α](aq:List α)(z:α):List α:=if z∈aq then aq else aq++[z]
def gG {α:Type}[DecidableEq α](zs:List α):List α:=zs.foldl dP []
section
variable {α:Type}[DecidableEq α]
theorem An1 {aq:List α}{z x:α}:x∈dP aq z↔x∈aq\/x=z:=by
 unfold dP
 grind
theorem LK {x:α}:∀ (zs aq:List α),x∈zs.foldl dP aq↔x∈aq\/x∈zs
 |[],aq=>by simp
 |z::zs,aq=>by
  rw[lW,LK zs,An1]
  grind
theorem Ae6 {x:α}{zs:List α}:x∈gG zs↔x∈zs:=by
 unfold gG;rw[LK];simp
theorem YT (aq:List α)(z:α):(dP aq z).length<=aq.length+1:=by
 unfold dP;split<;>simp
theorem zK:∀ (zs aq:List α),(zs.foldl dP aq).length<=aq.length+zs.length
 |[],aq=>by simp
 |z::zs,aq=>by
  have h1:=zK zs (dP aq z);have h2:=YT aq z
  grind
end
open PySem PySem.Spec PyProof.Rows
structure KnR (R:aA->Prop)(kds:List (aA×aA)):Prop where
 fit:∀ kd∈kds,(∃ z,kd.1=.str z)/\R kd.2
 once:(kds.map (·.1)).Nodup
variable {R:aA->Prop}{kds:be}
theorem KnR.look (h:KnR R kds):∀ kd∈kds,∃ z,kd.1=.str z/\bU kds (.inr z)=aa kd.2:=by
 obtain⟨hf,ho⟩:=h;induction kds with
 |nil=>intro _ m;simp at m
 |cons a r ih=>
  rw[cW,jC] at ho;intro kd m;obtain⟨z,ez⟩:=(hf kd m).1;refine⟨z,ez,?_⟩;rw[10]
  .simp[bU,gD,ez,bS]
  .obtain⟨z',e1,e2⟩:=ih (λx m=>hf x (bL _ m)) ho.2 kd m
   obtain rfl:z'=z:=by
    have q:=e1.symm.trans ez;injection q
   have df:¬ bS a.1=aa (.inr z'):=λq=>ho.1 (bK.2 ⟨kd,m,by rw[e1];exact(tW q).symm⟩)
   have e3:bU (a::r) (.inr z')=bU r (.inr z'):=by simp[bU,gD,df]
   rw[e3];exact e2
theorem KnR.hit (h:KnR R kds)(hs:∀ d,R d->bZ d d=af):∀ {r:be},(∀ kd∈r,kd∈kds)->qU kds r=af
 |[],_=>rfl
 |(k,d)::r,hr=>by
  have m:=hr (k,d) bE;obtain⟨z,e,q⟩:=h.look (k,d) m;have e':=e;have q':=q;subst e';simp only[qU,bS,bQ,q',hs d (h.fit (cE z,d) m).2,xH];exact h.hit hs λkd mm=>hr kd (bL _ mm)
theorem KnR.pl (h:KnR R kds):dg kds=af:=yC λkd m=>by
 obtain⟨⟨z,e⟩,_⟩:=h.fit kd m
 grind
theorem KnR.eqK (h:KnR R kds)(hs:∀ d,R d->bZ d d=af)(ho:∀ d,R d->dB d=af)(neg:Bool):uR neg (.dict kds) (.dict kds)=aa (.bool (neg != af)):=by
 have h1:valsOk kds=af:=cY.2 λkd m=>ho _ (h.fit kd m).2
 have h2:=h.hit hs λ_ m=>m
 simp[uR,h1,BV,h2,h.pl]
noncomputable def aZ (r:aal):aA:=.tuple (r.map aT)
def bC (rs:ga):aA:=.list (rs.map aZ)
theorem KJ (r:aal):bN (aZ r)=af:=by
 refine EG λt m=>?_
 obtain⟨i,_,rfl⟩:=bK.1 m
 rfl
theorem YA (rs:ga):bR (rs.map aZ)=af:=EG λt m=>by
 obtain⟨r,_,rfl⟩:=bK.1 m;exact KJ r
theorem Xs (rs:ga):bZ (bC rs) (bC rs)=af:=by
 have:=zG _ _ (YA rs) (YA rs);simp[bC,bZ,this]
theorem Tp {Y:aR}{P:Out->Prop}{i:Nat}{f g:EF}{d:aA}{j:Int}{jn:Nat}{ds:aah}(h:f (vS Y)=aa d)(hg:getL i Y=aa ds)(hk:g (vS Y)=aa (.int j))(hj:gb ds.length j=aa jn)(k:P (.nx (Y.set i (aa (1,.list (ds.set jn d)))))):Goes (pJ i .s f .s g) Y P:=by
 refine⟨_,?_,k⟩;have e1:eV 0 .s f Y=aa d:=h;have e2:eV 0 .s g Y=aa (.int j):=hk;unfold pJ
 grind
theorem vF {n j:Nat}(h:j<n):gb n (j:Int)=aa j:=by
 unfold gb
 grind
theorem yA {ds:aah}{f:EF}{lo hi:OF}{Y:jp}{l u:aas}(e1:f Y=aa (.list ds))(e2:lo Y=aa l)(e3:hi Y=aa u):oH f lo hi Y=aa (.list (cutD ds l u)):=by
 unfold oH
 grind
theorem CW {fd fk fx:EF}{Y:jp}{kds:be}{kd x:aA}{key:aI}(h1:fd Y=aa (.dict kds))(h2:fk Y=aa kd)(ha:bS kd=aa key)(h3:fx Y=aa x)(hp:dg kds=af:=by first|assumption|rfl|simp):lC fd fk fx Y=aa ((bU kds key).getD x):=by
 unfold lC;rw[h1,bQ,h2,bQ,h3,bQ];show(if dg kds=af then(bS kd).bind λk=>aa ((bU kds k).getD x) else ab)=_
 rw[if_pos hp,ha]
 rfl
end L2
namespace L2
open PySem PySem.Spec PyProof.Rows
variable {F G:SF}{Y:aR}{P:Out->Prop}{m:Md}
def cP {α β:Type}(g:β->α->Option β):β->List α->Option β
 |b,[]=>aa b
 |b,x::xs=>(g b x).bind λb'=>cP g b' xs
def BE {β:Type}(I:β->aR->Prop)(r:aA)(t:Option β)(o:Out):Prop:=match t with
 |none=>o=.rt r
 |some b=>∃ ρ2,o=.nx ρ2/\I b ρ2
def zV {β:Type}(I:β->aR->Prop)(r:aA)(t:Option β)(o:Out):Prop:=match t with
 |none=>o=.rt r
 |some b=>∃ ρ2,(o=.nx ρ2\/o=.ct ρ2)/\I b ρ2
theorem By {α β:Type}(g:β->α->Option β)(x:α):∀ (xs:List α) (b:β),cP g b (xs++[x])=(cP g b xs).bind λb'=>g b' x
 |[],b=>by
  show((g b x).bind λb'=>aa b')=g b x
  cases g b x<;>rfl
 |y::ys,b=>by
  show((g b y).bind λb'=>cP g b' (ys++[x]))=((g b y).bind λb'=>cP g b' ys).bind _
  cases g b y with
  |none=>rfl
  |some b'=>exact By g x ys b'
theorem UH {T:aA->aR->Option aR}{α β:Type}{q:α->aA}(g:β->α->Option β)(I:β->aR->Prop)(r:aA){all:List α}{b0:β}
  (step:∀ pre x post b Y,all=pre++x::post->cP g b0 pre=aa b->I b Y->∃ ρ1,T (q x) Y=aa ρ1/\Goes F ρ1 (zV I r (g b x))):∀ {xs pre:List α} {b:β} {Y:aR},all=pre++xs->cP g b0 pre=aa b->I b Y->∃ o,iL F T (xs.map q) Y=aa o/\BE I r (cP g b xs) o
 |[],pre,b,Y,_,_,h0=>⟨_,rfl,Y,rfl,h0⟩
 |x::xs,pre,b,Y,ha,hb,h0=>by
  obtain⟨ρ1,e1,o,e2,h⟩:=step pre x xs b Y ha hb h0;have e:iL F T ((x::xs).map q) Y=X3 F T (xs.map q) o:=by
   show((T (q x) Y).bind λρ1=>(F ρ1).bind λo=>_)=_
   rw[e1,bQ,e2,bQ];cases o<;>rfl
  rw[e];show ∃ o',X3 F T (xs.map q) o=aa o'/\BE I r ((g b x).bind λb'=>cP g b' xs) o'
  cases hg:g b x with
  |none=>
   rw[hg] at h;have h:=h;subst h;exact⟨_,rfl,rfl⟩
  |some b'=>
   rw[hg] at h;obtain⟨ρ2,ho,i2⟩:=h;obtain⟨o',e',h'⟩:=UH g I r step (pre:=pre++[x]) (by simpa using ha) (by rw[By,hb];exact hg) i2
   rcases ho with rfl|rfl
   .exact⟨o',e',h'⟩
   .exact⟨o',e',h'⟩
theorem Tr {α β:Type}{fi:AF}{T:aA->aR->Option aR}{xs:List α}{q:α->aA}{b0:β}(g:β->α->Option β)(I:β->aR->Prop)(r:aA)(h:aV m fi Y=aa (xs.map q))(h0:I b0 Y)
  (step:∀ pre x post b Y,xs=pre++x::post->cP g b0 pre=aa b->I b Y->∃ ρ1,T (q x) Y=aa ρ1/\Goes F ρ1 (zV I r (g b x))):Goes (cT m fi T F) Y (BE I r (cP g b0 xs)):=by
 obtain⟨o,e,h'⟩:=UH g I r step (xs:=xs) (pre:=[]) (by simp) rfl h0
 exact⟨o,DM h e,h'⟩
theorem Tc {β:Type}(I:β->aR->Prop)(r:aA)(t:Option β)(h:Goes F Y (BE I r t))(k1:t=ab->P (.rt r))(k2:∀ b,t=aa b->∀ ρ',I b ρ'->Goes G ρ' P):Goes (aW F G) Y P:=by
 obtain⟨o,e,h⟩:=h;cases t with
 |none=>
  have h:=h;subst h;exact CP e (k1 rfl)
 |some b=>
  obtain⟨ρ2,rfl,i2⟩:=h;exact fT e (k2 b rfl ρ2 i2)
noncomputable def dN (p:aE×Int):aA×aA:=(.str p.1,.int p.2)
def DN (kn:lw):be:=kn.map dN
noncomputable def cB (kn:lw)(z:aE):aas:=(kn.find? λp=>decide (p.1=z)).map (·.2)
theorem DU (kn:lw)(z:aE):bU (DN kn) (.inr z)=(cB kn z).map aT:=by
 unfold bU cB DN;induction kn with
 |nil=>rfl
 |cons p r ih=>
  rw[cW,gD,gD];have e:bS (dN p).1=aa (.inr p.1):=rfl;rw[e];by_cases h:p.1=z
  .simp[h,dN]
  .have h':¬ (aa (jA p.1:aI)=aa (jA z)):=λq=>h (by injection q with q;injection q)
   rw[decide_eq_false h',decide_eq_false h];exact ih
theorem Wa (kn:lw)(i:Int):bU (DN kn) (.inl i)=ab:=by
 unfold bU DN;have:((kn.map dN).find? λkd=>decide (bS kd.1=aa (.inl i)))=ab:=by
  rw[QW];intro kd m;obtain⟨p,_,rfl⟩:=bK.1 m;simp[dN,bS]
 rw[this]
 rfl
theorem Fx {kn:lw}{z:aE}(h:cB kn z=ab)(v:Int):putD (DN kn) (.inr z) (.int v)=DN (kn++[(z,v)]):=by
 unfold putD DN;have hn:¬ ((kn.map dN).any λkd=>decide (bS kd.1=aa (.inr z)))=af:=λq=>by
  obtain⟨kd,m,e⟩:=GJ.1 q;obtain⟨p,mp,rfl⟩:=bK.1 m;have e':p.1=z:=by
   have:=of_decide_eq_true e;have:=this;injection this with this;injection this
  unfold cB at h;have h2:=FY.1 h;have:=QW.1 h2 p mp;exact this (decide_eq_true e')
 rw[if_neg hn,iH]
 rfl
theorem yY {kn:lw}{z:aE}(h:cB kn z=ab)(v:Int)(y:aE):cB (kn++[(z,v)]) y=if y=z then aa v else cB kn y:=by
 unfold cB at *;rw[List.find?_append];by_cases e:y=z
 .subst e;rw[if_pos rfl,FY.1 h];simp
 .rw[if_neg e];have e':¬ z=y:=λq=>e q.symm
  cases q:kn.find? λp=>decide (p.1=y) with
  |none=>simp[e']
  |some p=>rfl
def eW (kn:lw)(p:aI×Int):Option lw:=match p.1 with
 |.inl i=>if p.2=i then aa kn else ab
 |.inr z=>match cB kn z with
  |some u=>if p.2=u then aa kn else ab
  |none=>aa (kn++[(z,p.2)])
theorem vW:∀ {ps:aag} {kn ar:lw},cP eW kn ps=aa ar ->
  (∀ z u,cB kn z=aa u->cB ar z=aa u)/\(∀ p∈ps,(∀ i,p.1=.inl i->p.2=i)/\∀ z,p.1=.inr z->cB ar z=aa p.2)/\(∀ z u,cB ar z=aa u->cB kn z=aa u\/∃ p∈ps,p.1=.inr z)
 |[],kn,ar,h=>by
  cases h;exact⟨λ_ _ e=>e,λ_ m=>by simp at m,λ_ _ e=>.inl e⟩
 |(.inl i,v)::ps,kn,ar,h=>by
  obtain⟨k1,e1,e2⟩:=ao (show((eW kn (.inl i,v)).bind λb'=>cP eW b' ps)=aa ar from h)
  have e1:=e1;obtain⟨hv,rfl⟩:=cL e1;obtain⟨a,b,c⟩:=vW e2;refine⟨a,λp m=>?_,λz u e=>(c z u e).imp id λ⟨p,m,q⟩=>⟨p,bL _ m,q⟩⟩
  rw[10]
  .exact⟨λi' q=>(by cases q;exact hv),λz q=>(by cases q)⟩
  .exact b p m
 |(.inr z,v)::ps,kn,ar,h=>by
  obtain⟨k1,e1,e2⟩:=ao (show((eW kn (.inr z,v)).bind λb'=>cP eW b' ps)=aa ar from h)
  obtain⟨a,b,c⟩:=vW e2;cases hl:cB kn z with
  |some u=>
   have e1:(match cB kn z with|some u=>if v=u then aa kn else ab|none=>aa (kn++[(z,v)]))=aa k1:=e1
   rw[hl] at e1;obtain⟨hv,rfl⟩:=cL e1;refine⟨a,λp m=>?_,λz' u' e=>(c z' u' e).imp id λ⟨p,m,q⟩=>⟨p,bL _ m,q⟩⟩
   rw[10]
   .exact⟨λi' q=>(by cases q),λz' q=>(by cases q;rw[a z u hl,hv])⟩
   .exact b p m
  |none=>
   have e1:(match cB kn z with|some u=>if v=u then aa kn else ab|none=>aa (kn++[(z,v)]))=aa k1:=e1
   rw[hl] at e1;cases e1;refine⟨λy u e=>a y u (by rw[yY hl,if_neg λq=>by rw[q,hl] at e;cases e];exact e),λp m=>?_,λy u e=>?_⟩
   .rw[10]
    .exact⟨λi' q=>(by cases q),λz' q=>(by cases q;exact a z v (by rw[yY hl,if_pos rfl]))⟩
    .exact b p m
   .rcases c y u e with q|⟨p,m,q⟩
    .rw[yY hl] at q;by_cases hy:y=z
     .exact .inr ⟨_,bE,by rw[hy]⟩
     .rw[if_neg hy] at q;exact .inl q
    .exact .inr ⟨p,bL _ m,q⟩
theorem yU:∀ {ps:aag} {kn:lw},(∀ p∈ps,∀ i,p.1=.inl i->p.2=i)->(∀ p∈ps,∀ z u,p.1=.inr z->cB kn z=aa u->p.2=u)->(∀ p∈ps,∀ p'∈ps,∀ z,p.1=.inr z->p'.1=.inr z->p.2=p'.2)->∃ ar,cP eW kn ps=aa ar
 |[],kn,_,_,_=>⟨kn,rfl⟩
 |(.inl i,v)::ps,kn,h1,h2,h3=>by
  have hv:=h1 _ bE i rfl;obtain⟨ar,e⟩:=yU (λp m=>h1 p (bL _ m)) (λp m=>h2 p (bL _ m)) (λp m p' m'=>h3 p (bL _ m) p' (bL _ m'))
  refine⟨ar,?_⟩;show((if v=i then aa kn else ab).bind λb'=>cP eW b' ps)=aa ar
  rw[if_pos hv];exact e
 |(.inr z,v)::ps,kn,h1,h2,h3=>by
  cases hl:cB kn z with
  |some u=>
   have hv:=h2 _ bE z u rfl hl;obtain⟨ar,e⟩:=yU (λp m=>h1 p (bL _ m)) (λp m=>h2 p (bL _ m)) (λp m p' m'=>h3 p (bL _ m) p' (bL _ m'))
   refine⟨ar,?_⟩;show((match cB kn z with|some u=>if v=u then aa kn else ab|none=>aa (kn++[(z,v)])).bind λb'=>cP eW b' ps)=aa ar
   rw[hl];show((if v=u then aa kn else ab).bind λb'=>cP eW b' ps)=aa ar
   rw[if_pos hv];exact e
  |none=>
   obtain⟨ar,e⟩:=yU (λp m=>h1 p (bL _ m)) (λp m y u q e=>by
    rw[yY hl] at e;by_cases hy:y=z
    .rw[if_pos hy] at e;cases e;exact h3 p (bL _ m) _ bE z (by rw[q,hy]) rfl
    .rw[if_neg hy] at e;exact h2 p (bL _ m) y u q e) (λp m p' m'=>h3 p (bL _ m) p' (bL _ m'))
   refine⟨ar,?_⟩;show((match cB kn z with|some u=>if v=u then aa kn else ab|none=>aa (kn++[(z,v)])).bind λb'=>cP eW b' ps)=aa ar
   rw[hl];exact e
end L2
namespace Aw
open PySem L2
variable {x:Bool}{R:ga}{f:EF}{Y:jp}{F:SF}{T:aA->aR->Option aR}{i:Nat}{fa:AF}{t:aE}
abbrev s0 (d:aA):L2.Slot:=aa (0,d)
abbrev lI (ms:aal):aA:=.list (ms.map aT)
theorem DV (a b:Int):de (.int a) (.int b)=aa (.bool (decide (a=b))):=by
 congr 2
theorem UB (p q:aA)(x:Int):au (.list [p,q]) (.int (x%2))=aa (if x%2=0 then p else q):=by
 have h:=sZ x (show(0:Int)<2 by decide)
 rcases(show x%2=0\/x%2=1 by lia) with e|e<;>rw[e]<;>rfl
theorem nY {α:Type}{q:α->aA}{xs:List α}{j:Nat}{x:α}(h:xs[j]?=aa x):au (.list (xs.map q)) (.int j)=aa (q x):=yJ (by rw[eU,h];rfl)
theorem Tq {α:Type}{R:α->Prop}{xs:List α}{j:Nat}{x:α}(h:∀ y∈xs,R y)(hx:R x):∀ y∈xs.set j x,R y:=λy m=>by
 grind
abbrev tK (ks:aao):aA:=.tuple (ks.map kD)
abbrev tI (row:aal):aA:=.tuple (row.map aT)
def SH:Option (lw)->aA
 |none=>.none
 |some kn=>.dict (DN kn)
def nO (p:aI×Int):aA:=pairD (kD p.1) (.int p.2)
theorem WU (ks:aao)(row:aal):AM pairD (ks.map kD) (row.map aT)=(ks.zip row).map nO:=by
 rw[List.zipWith_map,List.zip,List.map_zipWith]
 rfl
theorem yL (k:aI):gF "str" (kD k)=aa (.bool (match k with|.inr _=>af|.inl _=>ah)):=by
 cases k<;>simp[gF,mF,qu,kD]
theorem ne_int (a b:Int):gs (.int a) (.int b)=aa (.bool (decide (a≠b))):=by
 have:bZ (.int a) (.int b)=decide (a=b):=by
  rw[show bZ (.int a) (.int b)=(a==b) by simp[bZ],nL]
  simp
 simp[gs,dB,noDict,kF,this]
def eQ (ks:aao)(row:aal)(kn:lw):Option lw:=if row.length=ks.length then cP eW kn (ks.zip row) else ab
theorem IY (ds:aah):cR [.tuple ds]=aa (.int ds.length):=by simp[cR]
theorem Pa {ks:aao}{row:aal}{g:EF}(h1:f Y=aa (tI row))(h2:g Y=aa (tK ks)) :
  ai gs (aN cR (aF f aJ)) (aN cR (aF g aJ)) Y=aa (.bool (decide (row.length≠ks.length))):=by
 refine aO (aY (aX h1 rfl) (by rw[IY,cJ])) (aY (aX h2 rfl) (by rw[IY,cJ])) ?_
 rw[ne_int]
 congr 2
 rw[nL];simp
 lia
theorem dZ{b:Bool}(h:f Y=aa (.bool b)):aw f Y=aa b:=by
 unfold aw;rw[h]
 rfl
theorem C6 (L:L2.Slot)(R K:L2.Slot)(kn:lw)(Ix:kn.length<=1000)(p:aI×Int)(x6:L2.Slot) :
  Goes (aW (uf 6 3 .s (aw (gm (gF "str") (aB 4))) .s (aB 4) .s (aB 5) .s (aB 4)) (cw .s (aw (ai gs (aB 5) (aB 6))) (cC 1 .s (eC .none)) dS)) [L,R,K,aa (1,.dict (DN kn)),aa (0,kD p.1),aa (0,.int p.2),x6]
   (zV (λar ρ'=>∃ x4 x5 x6:L2.Slot,ρ'=[L,R,K,aa (1,.dict (DN ar)),x4,x5,x6]) .none (eW kn p)):=by
 have lz:(DN kn).length<sizeLine:=vO (by simp[DN];lia)
 obtain⟨t,v⟩:=p;cases t with
 |inl i=>
  have e1:uf 6 3 .s (aw (gm (gF "str") (aB 4))) .s (aB 4) .s (aB 5) .s (aB 4) [L,R,K,aa (1,.dict (DN kn)),aa (0,.int i),aa (0,.int v),x6]=aa (.nx [L,R,K,aa (1,.dict (DN kn)),aa (0,.int i),aa (0,.int v),aa (0,.int i)]):=by
   have b:bV .s (aw (gm (gF "str") (aB 4))) [L,R,K,aa (1,.dict (DN kn)),aa (0,.int i),aa (0,.int v),x6]=aa ah:=dZ (vD (a:=.int i) rfl (yL (.inl i)));unfold uf;rw[b,bQ,if_neg kX]
   rfl
  refine fT e1 ?_;have e2:bV .s (aw (ai gs (aB 5) (aB 6))) [L,R,K,aa (1,.dict (DN kn)),aa (0,.int i),aa (0,.int v),aa (0,.int i)]=aa (decide (v≠i)):=dZ (aO (a:=.int v) (b:=.int i) rfl rfl (ne_int v i));by_cases h:v=i
  .refine jY (e2.trans (by simp[h])) (jZ ?_)
   show zV _ _ (if v=i then aa kn else ab) _
   rw[if_pos h];exact⟨_,.inl rfl,_,_,_,rfl⟩
  .refine fS (e2.trans (by simp[h])) (cQ (d:=.none) rfl ?_)
   show zV _ _ (if v=i then aa kn else ab) _
   rw[if_neg h]
   rfl
 |inr z=>
  have b:bV .s (aw (gm (gF "str") (aB 4))) [L,R,K,aa (1,.dict (DN kn)),aa (0,.str z),aa (0,.int v),x6]=aa af:=dZ (vD (a:=.str z) rfl (yL (.inr z)));cases hl:cB kn z with
  |some u=>
   have e1:uf 6 3 .s (aw (gm (gF "str") (aB 4))) .s (aB 4) .s (aB 5) .s (aB 4) [L,R,K,aa (1,.dict (DN kn)),aa (0,.str z),aa (0,.int v),x6]=aa (.nx [L,R,K,aa (1,.dict (DN kn)),aa (0,.str z),aa (0,.int v),aa (0,.int u)]):=by
    unfold uf;rw[b,bQ,if_pos rfl];show(if 6<7/\(DN kn).length<sizeLine then aa (Out.nx (match bU (DN kn) (.inr z) with
     |some u=>[L,R,K,aa (1,.dict (DN kn)),aa (0,.str z),aa (0,.int v),aa (0,u)]
     | none=>[L,R,K,aa (1,.dict (putD (DN kn) (.inr z) (.int v))),aa (0,.str z),aa (0,.int v),aa (0,.int v)])) else ab)=_
    rw[if_pos ⟨(),lz⟩,DU,hl]
    rfl
   refine fT e1 ?_;have e2:bV .s (aw (ai gs (aB 5) (aB 6))) [L,R,K,aa (1,.dict (DN kn)),aa (0,.str z),aa (0,.int v),aa (0,.int u)]=aa (decide (v≠u)):=dZ (aO (a:=.int v) (b:=.int u) rfl rfl (ne_int v u));have ef:eW kn (.inr z,v)=if v=u then aa kn else ab:=by
    show(match cB kn z with|some u=>if v=u then aa kn else ab|none=>aa (kn++[(z,v)]))=_
    rw[hl]
   rw[ef];by_cases h:v=u
   .refine jY (e2.trans (by simp[h])) (jZ ?_)
    rw[if_pos h];exact⟨_,.inl rfl,_,_,_,rfl⟩
   .refine fS (e2.trans (by simp[h])) (cQ (d:=.none) rfl ?_)
    rw[if_neg h]
    rfl
  |none=>
   have e1:uf 6 3 .s (aw (gm (gF "str") (aB 4))) .s (aB 4) .s (aB 5) .s (aB 4) [L,R,K,aa (1,.dict (DN kn)),aa (0,.str z),aa (0,.int v),x6]=aa (.nx [L,R,K,aa (1,.dict (DN (kn++[(z,v)]))),aa (0,.str z),aa (0,.int v),aa (0,.int v)]):=by
    unfold uf;rw[b,bQ,if_pos rfl];show(if 6<7/\(DN kn).length<sizeLine then aa (Out.nx (match bU (DN kn) (.inr z) with
     |some u=>[L,R,K,aa (1,.dict (DN kn)),aa (0,.str z),aa (0,.int v),aa (0,u)]
     | none=>[L,R,K,aa (1,.dict (putD (DN kn) (.inr z) (.int v))),aa (0,.str z),aa (0,.int v),aa (0,.int v)])) else ab)=_
    rw[if_pos ⟨(),lz⟩,DU,hl,Fx hl]
    rfl
   refine fT e1 ?_;have e2:bV .s (aw (ai gs (aB 5) (aB 6))) [L,R,K,aa (1,.dict (DN (kn++[(z,v)]))),aa (0,.str z),aa (0,.int v),aa (0,.int v)]=aa (decide (v≠v)):=dZ (aO (a:=.int v) (b:=.int v) rfl rfl (ne_int v v));have ef:eW kn (.inr z,v)=aa (kn++[(z,v)]):=by
    show(match cB kn z with|some u=>if v=u then aa kn else ab|none=>aa (kn++[(z,v)]))=_
    rw[hl]
   rw[ef];exact jY (e2.trans (by simp)) (jZ ⟨_,.inl rfl,_,_,_,rfl⟩)
theorem JM:∀ {ps:aag} {kn ar:lw},cP eW kn ps=aa ar->ar.length<=kn.length+ps.length
 |[],kn,ar,h=>by cases h;simp
 |p::ps,kn,ar,h=>by
  obtain⟨k1,e1,e2⟩:=ao (show((eW kn p).bind λb'=>cP eW b' ps)=aa ar from h)
  have h1:=JM e2;have h2:k1.length<=kn.length+1:=by
   unfold eW at e1
   grind
  rw[fA]
  lia
def isS:aI->Bool
 |.inr _=>af
 |.inl _=>ah
theorem R3 (kn:lw):dg (DN kn)=af:=yC λkd m=>by
 obtain⟨p,_,rfl⟩:=bK.1 m;exact λq=>nomatch q
theorem Hq {c:Prop}[Decidable c]{α:Type}{a:Option α}{b:α}(h:(if c then a else ab)=aa b):c/\a=aa b:=by
 grind
def putN (kn:lw)(z:aE)(v:Int):lw:=if (cB kn z).isSome=af then kn.map λp=>if p.1=z then(p.1,v) else p else kn++[(z,v)]
theorem Pg (kn:lw)(z:aE)(v:Int):putD (DN kn) (.inr z) (.int v)=DN (putN kn z v):=by
 unfold putN;cases h:cB kn z with
 |none=>exact Fx h v
 |some u=>
  rw[if_pos (show(aa u).isSome=af from rfl)]
  unfold putD DN;have hy:((kn.map dN).any λkd=>decide (bS kd.1=aa (.inr z)))=af:=by
   unfold cB at h;obtain⟨p,e,_⟩:=gM.1 h;refine GJ.2 ⟨dN p,bK.2 ⟨p,Jo e,rfl⟩,?_⟩;have:p.1=z:=by simpa using List.find?_some e
   show decide (aa (jA p.1:aI)=aa (jA z))=af;rw[this];simp
  rw[if_pos hy,dC,dC];refine jD λp _=>?_
  show(if aa (jA p.1:aI)=aa (jA z) then((dN p).1,aT v) else dN p)=dN (if p.1=z then(p.1,v) else p)
  by_cases e:p.1=z
  .rw[if_pos (by rw[e]),if_pos e];rfl
  all_goals grind
theorem u6 (kn:lw)(z:aE)(v:Int):(putN kn z v).length<=kn.length+1:=by
 unfold putN;split<;>simp
theorem C4 (kn:lw)(z y:aE)(v:Int):cB (putN kn z v) y=if y=z then aa v else cB kn y:=by
 unfold putN;cases h:cB kn z with
 |none=>rw[if_neg (by simp)];exact yY h v y
 |some u=>
  rw[if_pos (show(aa u).isSome=af from rfl)]
  induction kn with
  |nil=>cases h
  |cons p r ih=>
   unfold cB at h ⊢;rw[cW,gD,gD];rw[gD] at h;have key:((if p.1=z then(p.1,v) else p).1:aE)=p.1:=by split<;>rfl
   by_cases hp:p.1=z
   .rw[if_pos hp];by_cases hy:y=z
    .grind
    .have n1:¬ p.1=y:=λq=>hy (by rw[<-q,hp])
     rw[decide_eq_false n1,if_neg hy];have gen:∀ r:lw,(((r.map λp=>if p.1=z then(p.1,v) else p).find? λp=>decide (p.1=y)).map (·.2))=(r.find? λp=>decide (p.1=y)).map (·.2):=λr=>by
      induction r with
      |nil=>rfl
      |cons q t ih=>
       grind
     exact gen r
   .rw[if_neg hp];rw[decide_eq_false hp] at h;by_cases hy:p.1=y
    .grind
    .rw[decide_eq_false hy];exact ih h
def HI (I:aR->Prop)(t:aaj)(o:Out):Prop:=match t with
 |some r=>o=.rt r
 |none=>∃ ρ2,o=.nx ρ2/\I ρ2
def TC (I:aR->Prop)(t:aaj)(o:Out):Prop:=match t with
 |some r=>o=.rt r
 |none=>∃ ρ2,(o=.nx ρ2\/o=.ct ρ2)/\I ρ2
theorem UM{α:Type}{q:α->aA}(I:aR->Prop)(g:α->aaj):∀ {xs:List α} {Y:aR},I Y ->
  (∀ x∈xs,∀ Y,I Y->∃ ρ1,T (q x) Y=aa ρ1/\Goes F ρ1 (TC I (g x)))->∃ o,iL F T (xs.map q) Y=aa o/\HI I (xs.findSome? g) o
 |[],Y,h0,_=>⟨_,rfl,Y,rfl,h0⟩
 |x::xs,Y,h0,step=>by
  obtain⟨ρ1,e1,o,e2,h⟩:=step x bE Y h0;have e:iL F T ((x::xs).map q) Y=X3 F T (xs.map q) o:=by
   show((T (q x) Y).bind λρ1=>(F ρ1).bind λo=>_)=_
   rw[e1,bQ,e2,bQ];cases o<;>rfl
  rw[e,GF];cases hg:g x with
  |some r=>
   rw[hg] at h;have h:=h;subst h;exact⟨_,rfl,rfl⟩
  |none=>
   rw[hg] at h;obtain⟨ρ2,ho,i2⟩:=h;obtain⟨o',e',h'⟩:=UM I g i2 λy m=>step y (bL _ m)
   rcases ho with rfl|rfl
   .exact⟨o',e',h'⟩
   .exact⟨o',e',h'⟩
theorem Fl {m:Md}{Y:aR}{α:Type}{fi:AF}{xs:List α}{q:α->aA}(I:aR->Prop)(g:α->aaj)(h:aV m fi Y=aa (xs.map q))(h0:I Y)
  (step:∀ x∈xs,∀ Y,I Y->∃ ρ1,T (q x) Y=aa ρ1/\Goes F ρ1 (TC I (g x))):Goes (cT m fi T F) Y (HI I (xs.findSome? g)):=by
 obtain⟨o,e,h'⟩:=UM I g h0 step;exact⟨o,DM h e,h'⟩
theorem Gj {G:SF}{Y:aR}{P:Out->Prop}(I:aR->Prop)(t:aaj)(h:Goes F Y (HI I t))(k1:∀ r,t=aa r->P (.rt r))(k2:t=ab->∀ ρ',I ρ'->Goes G ρ' P):Goes (aW F G) Y P:=by
 obtain⟨o,e,h⟩:=h;cases t with
 |some r=>
  have h:=h;subst h;exact CP e (k1 r rfl)
 |none=>
  obtain⟨ρ2,rfl,i2⟩:=h;exact fT e (k2 rfl ρ2 i2)
theorem Er {α β:Type}{f g:α->Option β}:∀ {xs:List α},(∀ x∈xs,f x=g x)->xs.findSome? f=xs.findSome? g
 |[],_=>rfl
 |x::xs,h=>by
  rw[GF,GF,h x bE,Er λy m=>h y (bL _ m)]
theorem Ca {α:Type}(q:α->aA)(d0:α)(xs:List α):(xs.map q).mapIdx pB=(bW xs.length).map λk=>pB k (q (xs.getD k d0)):=by
 apply GH
 .simp
 .intro i h1 h2;have hi:i<xs.length:=by simpa using h1
  simp[hi]
theorem Rh {α:Type}(q:α->aA)(d0:α){xs:List α}(h:f Y=aa (.tuple (xs.map q))):xh (aF f aJ) Y=aa ((bW xs.length).map λk=>pB k (q (xs.getD k d0))):=by
 unfold xh;rw[aX h rfl,<-Ca]
 rfl
theorem u9 {α:Type}(q:α->aA)(d0:α){xs:List α}(h:f Y=aa (.list (xs.map q))):xh (aF f aJ) Y=aa ((bW xs.length).map λk=>pB k (q (xs.getD k d0))):=by
 unfold xh;rw[aX h rfl,<-Ca]
 rfl
theorem getD_some {α:Type}{xs:List α}(d0:α)(h:i<xs.length):xs[i]?=aa (xs.getD i d0):=by
 rw[jE,fY h]
 rfl
theorem getD_mem {α:Type}{xs:List α}(d0:α)(h:i<xs.length):xs.getD i d0∈xs:=eT (getD_some d0 h)
theorem Tz {a b:EF}{y:Bool}(h:a Y=aa (.bool x))(h2:x=af->b Y=aa (.bool y)):uQ a b Y=aa (.bool (x&&y)):=by
 unfold uQ;cases x with
 |true=>rw[h,bQ,show kz (.bool af)=aa af from rfl,bQ,if_pos rfl,h2 rfl];rfl
 |false=>rw[h,bQ,show kz (.bool ah)=aa ah from rfl,bQ,if_neg (by simp)];rfl
theorem rH{ds:aah}(h:fa Y=aa ds)(hl:ds.length<=1000:=by simp):iJ fa Y=aa (.tuple ds):=by
 unfold iJ;rw[h,bQ,if_pos (pT ())]
theorem mJ{ds:aah}(h:fa Y=aa ds)(hl:ds.length<=1000:=by simp):cS fa Y=aa (.list ds):=by
 unfold cS;rw[h,bQ,if_pos (pT ())]
abbrev Ln:=aE×aao
abbrev aaq:=List Ln
def bG (l:Ln):aA:=.tuple [.str l.1,.tuple (l.2.map kD)]
abbrev cc:Ln:=("",[])
theorem Zw (xs:aao):noDicts (xs.map kD)=af:=vY λt m=>by
 obtain⟨x,_,rfl⟩:=bK.1 m;cases x<;>rfl
def rq:aA->Int
 |.int i=>i
 |_=>0
theorem tL (r:aal):(r.map aT).map rq=r:=by
 rw[dC];have:(rq∘aT)=id:=rfl;rw[this,List.map_id]
theorem yR (r:aal):bR (r.map aT)=af:=EG λt m=>by
 obtain⟨i,_,rfl⟩:=bK.1 m
 rfl
theorem EJ (r:aal):cU (r.map aT)<=1:=EI λt m=>by
 obtain⟨i,_,rfl⟩:=bK.1 m;simp[kF]
theorem EA (r:aal):dB (aZ r)=af:=by
 have h1:noDicts (r.map aT)=af:=vY λt m=>by
  obtain⟨i,_,rfl⟩:=bK.1 m
  rfl
 have h2:cU (r.map aT)<=1:=EI λt m=>by
  obtain⟨i,_,rfl⟩:=bK.1 m;simp[kF]
 simp[dB,aZ,noDict,h1,kF]
 lia
theorem Te {a b:aal}(h:aZ a=aZ b):a=b:=by
 have h:=Jk h;exact(tL a).symm.trans ((congrArg (List.map rq) h).trans (tL b))
theorem IV (a b:aal):bZ (aZ a) (aZ b)=decide (a=b):=by
 rw[JZ _ _ (KJ a) (KJ b),decide_eq_decide];exact⟨Te,λe=>by rw[e]⟩
theorem Tw (a b:aal):de (aZ a) (aZ b)=aa (.bool (decide (a=b))):=by
 unfold de;rw[EA,EA,IV]
 rfl
def lu (R:ga):ga:=(iD (R.map λr=>r.map aT)).map λk=>k.map rq
theorem JO (R:ga):(lu R).Perm R:=by
 have h:=(tQ (R.map λr=>r.map aT)).map λk=>k.map rq
 rw[dC] at h;have e:(R.map ((λk=>k.map rq)∘λr=>r.map aT))=R:=by
  have:((λk=>k.map rq)∘λr=>r.map aT)=(id:aal->aal):=by funext r;exact tL r
  rw[this,List.map_id]
 rw[e] at h;exact h
theorem Alb{r:aal}:r∈lu R↔r∈R:=(JO R).mem_iff
theorem Hu (R:ga):(lu R).length=R.length:=(JO R).length_eq
theorem LP (R:ga):iM (R.map aZ)=aa (R.map λr=>r.map aT):=by
 have:=Fv (kss:=R.map λr=>r.map aT) λk m=>by
  obtain⟨r,_,rfl⟩:=bK.1 m;have:=EJ r;exact⟨yR r,()⟩
 rw[dC] at this;exact this
theorem MG:∀ (a b:aal),a.length=b.length->eI (a.map aT) (b.map aT)=af
 |[],[],_=>rfl
 |x::a,y::b,h=>MG a b (by simpa using h)
 |[],_::_,h=>by simp at h
 |_::_,[],h=>by simp at h
theorem JC{n:Nat}(hn:1<=n)(hw:∀ r∈R,r.length=n)(hl:R.length<64):vK [bC R]=aa (bC (lu R)):=by
 show((iM (R.map aZ)).bind λkss=>if gu kss=af/\kss.length<64 then aa (qG ((iD kss).map dM)) else ab)=_
 rw[LP,bQ];have ok:gu (R.map λr=>r.map aT)=af:=by
  unfold gu;rw[Ko];refine .inr (iI.2 ⟨cY.2 λk mk=>cY.2 λk' mk'=>?_,cY.2 λk mk=>?_⟩)
  .obtain⟨a,ma,rfl⟩:=bK.1 mk;obtain⟨b,mb,rfl⟩:=bK.1 mk';exact MG a b ((hw a ma).trans (hw b mb).symm)
  .obtain⟨a,ma,rfl⟩:=bK.1 mk;have:=hw a ma;cases a with
   |nil=>simp at this;lia
   |cons x r=>rfl
 rw[if_pos ⟨ok,by rw[cJ];exact hl⟩]
 unfold bC lu;rw[dC]
 congr 2
 refine jD λk mk=>?_
 obtain⟨a,_,rfl⟩:=bK.1 ((tQ _).mem_iff.1 mk);show _=dM (((a.map aT).map rq).map aT);rw[tL]
structure Bk (kds:List (aA×aA))(B:aE->List (List Int))(wd:aE->Nat):Prop where
 pl:dg kds=af
 at_:∀ t,(bU kds (.inr t)).getD (.list [])=bC (B t)
 few:∀ t,(B t).length<64
 pos:∀ t,1<=wd t
 wid:∀ t,∀ r∈B t,r.length=wd t
theorem Bk.get {kds:be}{B:aE->ga}{wd:aE->Nat}(b:Bk kds B wd){fd fk:EF}(h1:fd Y=aa (.dict kds))(h2:fk Y=aa (.str t)):lC fd fk (cS aJ) Y=aa (bC (B t)):=by
 rw[CW h1 h2 rfl rfl b.pl,b.at_]
theorem sV (c:Int)(n:Nat)(h:0<n):cZ (.int c) (.int n)=aa (.int (c%n)):=by
 show(if 0<(n:Int) then aa (aT (c%(n:Int))) else ab)=_
 rw[if_pos ()]
theorem lD (c:Int)(n:Nat)(h:0<n)(h2:n<1000:=by lia):fL (.int c) (.int n)=aa (.int (c/n)):=by
 show(if 0<(n:Int)/\(n:Int)<1073741824 then aa (aT (c/(n:Int))) else ab)=_
 rw[if_pos ()]
theorem rC {a b:Int}(h:a.natAbs<2^64):fR (.int a) (.int b)=aa (.int (a*b)):=by
 show(if (a.natAbs<2^64\/b.natAbs<2^64)\/(a.natAbs<2^1000/\b.natAbs<2^1000) then aa (aT (a*b)) else ab)=_
 rw[if_pos (.inl (.inl h))]
theorem mul_r {a b:Int}(h:b.natAbs<2^64):fR (.int a) (.int b)=aa (.int (a*b)):=by
 show(if (a.natAbs<2^64\/b.natAbs<2^64)\/(a.natAbs<2^1000/\b.natAbs<2^1000) then aa (aT (a*b)) else ab)=_
 rw[if_pos (.inl (.inr h))]
theorem Qz {k:Nat}(h:k<=100):pW (.int 10) (.int k)=aa (.int (10^k)):=by
 show(if 0<=(k:Int)/\(k:Int)<=1000000/\(10:Int).natAbs<2^64 then aa (aT (10^(k:Int).toNat)) else ab)=_
 grind
theorem IM {a b:BF}{y:Bool}(h:a Y=aa x)(h2:x=af->b Y=aa y):mE a b Y=aa (x&&y):=by
 unfold mE
 grind
theorem CK(h:f Y=aa (.bool x)):pA (aw f) Y=aa (!x):=by
 unfold pA;rw[dZ h]
 rfl
theorem A0 (r:aal):fC (aZ r)=af:=by
 show nW (r.map aT)=af;rw[Bx,cY];intro d m;obtain⟨i,_,rfl⟩:=bK.1 m
 rfl
theorem Dl (R:ga):noDicts (R.map aZ)=af:=vY λt m=>by
 obtain⟨r,_,rfl⟩:=bK.1 m;have:=EA r;unfold dB at this
 grind
theorem WI (neg:Bool)(r:aal)(R:ga):gn neg (aZ r) (bC R)=aa (.bool (neg != decide (r∈R))):=by
 show(if (dB (aZ r)&&noDicts (R.map aZ))=af then aa (kT (neg != (R.map aZ).any λz=>bZ z (aZ r))) else ab)=_
 rw[EA,Dl,GN,if_pos rfl];have:((R.map aZ).any λz=>bZ z (aZ r))=decide (r∈R):=by
  rw[List.any_map];by_cases h:r∈R
  .rw[decide_eq_true h];exact GJ.2 ⟨r,h,by simp[IV]⟩
  .rw[decide_eq_false h,List.any_eq_false];intro x mx;simp only[Function.comp,IV,decide_eq_true_eq];exact λe=>h (e ▸ mx)
 rw[this]
theorem TX{x y:aA}{xs ys:aah}(h:fa Y=aa [x,y])(hx:pM x=aa xs)(hy:pM y=aa ys):iZ fa Y=aa (AM pairD xs ys):=by
 unfold iZ
 grind
abbrev Tb:=aE×ga
abbrev aat:=List Tb
def ba (L:aat):be:=L.map λp=>(cE p.1,bC p.2)
theorem yM {Y:aR}{P:Out->Prop}{n:Nat}{d:aA}(h:Y[i]?=aa (aa (n,d)))(k:P (.rt d)):Goes (jV i n) Y P:=⟨_,by
 unfold jV;rw[h];show(if n=n then aa (Out.rt d) else ab)=_
 rw[if_pos rfl],k⟩
theorem z7 (a:aal):(aZ a).depth<=2:=by
 have:=EJ a;show cU (a.map aT)+1<=2
 lia
theorem Tu (R:ga):dB (bC R)=af:=by
 have h2:cU (R.map aZ)<=2:=EI λt m=>by
  obtain⟨r,_,rfl⟩:=bK.1 m;exact z7 r
 unfold dB;show(noDicts (R.map aZ)&&decide (cU (R.map aZ)+1<=60))=af;rw[Dl,decide_eq_true ()]
 rfl
def bu (L:aat)(t:aE):ga:=((L.find? λp=>decide (p.1=t)).map (·.2)).getD []
theorem DX (t:aE):∀ L:aat,bU (ba L) (.inr t)=(L.find? λp=>decide (p.1=t)).map λp=>bC p.2
 |[]=>rfl
 |p::L=>by
  show bU ((.str p.1,bC p.2)::ba L) (.inr t)=_;rw[EW,gD];by_cases h:p.1=t
  .rw[if_pos (by rw[h];rfl),decide_eq_true h];rfl
  .rw[if_neg (λe=>h (by injection e with e;injection e)),decide_eq_false h,DX t L]
theorem Pb (L:aat)(t:aE):(bU (ba L) (.inr t)).getD (.list [])=bC (bu L t):=by
 rw[DX];unfold bu;cases L.find? λp=>decide (p.1=t)<;>rfl
theorem NX (L:aat):dg (ba L)=af:=yC λkd m=>by
 obtain⟨p,_,rfl⟩:=bK.1 m;exact λq=>nomatch q
theorem JF {L:aat}{r:aal}(h:r∈bu L t):∃ p∈L,p.1=t/\p.2=bu L t:=by
 unfold bu at h ⊢;cases e:L.find? λp=>decide (p.1=t) with
 |none=>rw[e] at h;simp at h
 |some p=>
  grind
theorem bkL {L:aat}{wd:aE->Nat}(h1:∀ t,1<=wd t)(hL:∀ p∈L,p.2.length<64/\∀ r∈p.2,r.length=wd p.1):Bk (ba L) (bu L) wd:=by
 refine⟨NX L,Pb L,λt=>?_,h1,λt r m=>?_⟩
 .by_cases h:∃ r,r∈bu L t
  .obtain⟨r,m⟩:=h;obtain⟨p,mp,_,e⟩:=JF m;rw[<-e];exact(hL p mp).1
  .have:=List.eq_nil_iff_forall_not_mem.2 λr m=>h ⟨r,m⟩
   rw[this];simp
 .obtain⟨p,mp,e1,e2⟩:=JF m
  grind
theorem Pi {L:aat}(nd:(L.map (·.1)).Nodup):KnR (λd=>∃ T:ga,d=bC T) (ba L):=by
 refine⟨λkd m=>?_,?_⟩
 .obtain⟨p,_,rfl⟩:=bK.1 m
  grind
 .unfold ba
  grind
theorem On {L:aat}(nd:(L.map (·.1)).Nodup):uR af (.dict (ba L)) (.dict (ba L))=aa (.bool ah):=
 (Pi nd).eqK (λd ⟨T,e⟩=>by rw[e];exact Xs T) (λd ⟨T,e⟩=>by rw[e];exact Tu T) af
noncomputable def kH:aat->aE->ga->aat
 |[],_,_=>[]
 |p::L,t,R=>if p.1=t then(p.1,R)::L else p::kH L t R
theorem CL (t:aE)(R:ga):∀ L:aat,iQ (ba L) (.inr t) (bC R)=ba (kH L t R)
 |[]=>rfl
 |p::L=>by
  show(if bS (.str p.1)=aa (.inr t) then(cE p.1,bC R)::ba L else(cE p.1,bC p.2)::iQ (ba L) (.inr t) (bC R))=ba (if p.1=t then(p.1,R)::L else p::kH L t R)
  by_cases h:p.1=t
  .rw[if_pos (by rw[h];rfl),if_pos h];rfl
  .rw[if_neg (λe=>h (by injection e with e;injection e)),if_neg h,CL t R L];rfl
theorem KS (t:aE)(R:ga):∀ L:aat,(kH L t R).map (·.1)=L.map (·.1)
 |[]=>rfl
 |p::L=>by
  show(if p.1=t then(p.1,R)::L else p::kH L t R).map (·.1)=_
  by_cases h:p.1=t
  .rw[if_pos h];rfl
  .rw[if_neg h,cW,KS t R L];rfl
theorem CS:∀ {L:aat} {p:Tb},p∈kH L t R->p∈L\/(p.1=t/\p.2=R)
 |[],p,m=>by simp[kH] at m
 |q::L,p,m=>by
  have m:p∈(if q.1=t then(q.1,R)::L else q::kH L t R):=m
  by_cases h:q.1=t
  .grind
  .rw[if_neg h] at m;rw[10]
   .exact .inl bE
   .exact(CS m).imp (bL _) id
theorem Th {Y ρ':aR}{P:Out->Prop}{G:SF}{d:aA}(h:f (vS Y)=aa d)(hT:T d Y=aa ρ')(k:Goes G ρ' P):Goes (aW (BG .s f T) G) Y P:=fT (by
 have e:eV 0 .s f Y=aa d:=h;unfold BG;rw[e,bQ,hT]
 rfl) k
theorem find_key {L:aat}(h:t∈L.map (·.1)):∃ p,(L.find? λp=>decide (p.1=t))=aa p:=by
 cases e:L.find? λp=>decide (p.1=t) with
 |some p=>exact⟨p,rfl⟩
 |none=>
  grind
theorem Yc {L:aat}(h:t∉L.map (·.1)):(L.find? λp=>decide (p.1=t))=ab:=QW.2 λp m=>by
 grind
theorem yQ {L:aat}(h:t∈L.map (·.1)):bU (ba L) (.inr t)=aa (bC (bu L t)):=by
 obtain⟨p,e⟩:=find_key h;rw[DX];unfold bu;rw[e]
 rfl
theorem zH:∀ is:aal,pC (is.map aT)=aa is
 |[]=>rfl
 |i::is=>by
  show((pC (is.map aT)).bind λr=>aa (i::r))=_
  rw[zH is]
  rfl
end Aw
namespace L2
open PySem PySem.Spec PyProof.Rows
variable {k j e p:Nat}{l:aao}{v u:aE->Int}{S R:Nat->Prop}{r:aal}{zs:aak}
def tv (v:aE->Int):aI->Int
 |.inl i=>i
 |.inr z=>v z
section
variable {ls:Nat->aao}
abbrev fN:=Nat->aal->Prop
def xI (ls:Nat->aao)(S:Nat->Prop)(T:fN)(v:aE->Int):Prop:=∀ k,S k->T k ((ls k).map (tv v))
def Gd (ls:Nat->aao)(S:Nat->Prop)(T:fN)(k:Nat)(r:aal):Prop:=∃ v,xI ls S T v/\r=(ls k).map (tv v)
def BB (a b:aao)(U:aal->Prop)(r:aal):Prop:=∃ u u',r=a.map (tv u)/\U (b.map (tv u'))/\∀ z,(.inr z:aI)∈a->(.inr z:aI)∈b->u z=u' z
def uX (T:fN)(k:Nat)(U:aal->Prop):fN:=λj=>if j=k then U else T j
theorem BR (T:fN)(k:Nat)(U:aal->Prop):uX T k U k=U:=if_pos rfl
theorem vQ {T:fN}{U:aal->Prop}(h:j≠k):uX T k U j=T j:=if_neg h
def xO (ls:Nat->aao)(S:Nat->Prop)(e p:Nat):Prop:=S e/\S p/\e≠p/\∀ z,(.inr z:aI)∈ls e->∀ k,S k->k≠e->(.inr z:aI)∈ls k->(.inr z:aI)∈ls p
def less (S:Nat->Prop)(e:Nat):Nat->Prop:=λk=>S k/\k≠e
def oa (ls:Nat->aao)(T:fN)(e p:Nat):fN:=uX T p λr=>T p r/\BB (ls p) (ls e) (T e) r
def N' (ls:Nat->aao)(T:fN)(e p:Nat):fN:=uX T e λr=>T e r/\BB (ls e) (ls p) (T p) r
theorem JR(h:l.map (tv v)=l.map (tv u)){z:aE}(m:(.inr z:aI)∈l):v z=u z:=List.map_inj_left.1 h _ m
theorem CO(h:∀ z,(.inr z:aI)∈l->v z=u z):l.map (tv v)=l.map (tv u):=jD λk m=>by
 cases k with
 |inl i=>rfl
 |inr z=>exact h z m
open Classical in
theorem glue(E:xO ls S e p)(hp:∀ z,(.inr z:aI)∈ls e->(.inr z:aI)∈ls p->v z=u z):∃ v2:aE->Int,(∀ k,less S e k->(ls k).map (tv v2)=(ls k).map (tv v))/\(ls e).map (tv v2)=(ls e).map (tv u):=by
 refine⟨λz=>if (.inr z:aI)∈ls e then u z else v z,λk hk=>CO λz mz=>?_,CO λz mz=>if_pos mz⟩
 by_cases m:(.inr z:aI)∈ls e
 .rw[if_pos m];exact(hp z m (E.2.2.2 z m k hk.1 hk.2 mz)).symm
 .rw[if_neg m]
theorem UV{T:fN}(E:xO ls S e p)(h:xI ls S T v):xI ls (less S e) (oa ls T e p) v:=λk hk=>by
 by_cases q:k=p
 .subst q;unfold oa;rw[BR];exact⟨h k E.2.1,v,v,rfl,h e E.1,λ_ _ _=>rfl⟩
 .unfold oa;rw[vQ q];exact h k hk.1
theorem UD {T:fN}(h:oa ls T e p k r):T k r:=by
 unfold oa at h;by_cases q:k=p
 .subst q;rw[BR] at h;exact h.1
 .rwa [vQ q] at h
theorem Nd{T:fN}(E:xO ls S e p)(h:xI ls (less S e) (oa ls T e p) v):∃ v2,xI ls S T v2/\∀ k,less S e k->(ls k).map (tv v2)=(ls k).map (tv v):=by
 have hp:=h p ⟨E.2.1,fX E.2.2.1⟩;unfold oa at hp;rw[BR] at hp;obtain⟨_,u,u',h1,h2,h3⟩:=hp;obtain⟨v2,a,b⟩:=glue E λz m1 m2=>(JR h1 m2).trans (h3 z m2 m1)
 refine⟨v2,λk hk=>?_,a⟩
 by_cases q:k=e
 .rw[q,b];exact h2
 .rw[a k ⟨hk,q⟩];exact UD (h k ⟨hk,q⟩)
theorem We{T Tn:fN}(E:xO ls S e p)(hn:∀ k,less S e k->∀ r,Tn k r↔Gd ls (less S e) (oa ls T e p) k r)(he:∀ r,Tn e r↔T e r):∀ k,S k->∀ r,N' ls Tn e p k r↔Gd ls S T k r:=λk hk r=>by
 have lp:less S e p:=⟨E.2.1,fX E.2.2.1⟩;by_cases q:k=e
 .subst q;unfold N';rw[BR];constructor
  .rintro⟨h0,u,u',rfl,h2,h3⟩;obtain⟨v,hv,h4⟩:=(hn p lp _).1 h2;obtain⟨v2,a,b⟩:=glue E λz m1 m2=>(JR h4 m2).symm.trans (h3 z m1 m2).symm
   refine⟨v2,λj hj=>?_,b.symm⟩
   by_cases q:j=k
   .rw[q,b];exact(he _).1 h0
   .rw[a j ⟨hj,q⟩];exact UD (hv j ⟨hj,q⟩)
  .rintro⟨v,hv,rfl⟩;exact⟨(he _).2 (hv k hk),v,v,rfl,(hn p lp _).2 ⟨v,UV E hv,rfl⟩,λ_ _ _=>rfl⟩
 .unfold N';rw[vQ q,hn k ⟨hk,q⟩];constructor
  .rintro⟨v,hv,rfl⟩;obtain⟨v2,h2,a⟩:=Nd E hv;exact⟨v2,h2,(a k ⟨hk,q⟩).symm⟩
  .rintro⟨v,hv,rfl⟩;exact⟨v,UV E hv,rfl⟩
def vH (ls:Nat->aao):(Nat->Prop)->sn->(Nat->Prop)->Prop
 |S,[],R=>∀ k,S k↔R k
 |S,q::es,R=>xO ls S q.1 q.2/\vH ls (less S q.1) es R
def xg (ls:Nat->aao)(T:fN)(es:sn):fN:=es.foldl (λT q=>oa ls T q.1 q.2) T
def yb (ls:Nat->aao)(T:fN)(es:sn):fN:=es.reverse.foldl (λT q=>N' ls T q.1 q.2) T
theorem tM:∀ {es:sn} {S:Nat->Prop},vH ls S es R->(∀ k,R k->S k)/\∀ q∈es,S q.1/\S q.2
 |[],S,h=>⟨λk r=>(h k).2 r,λq m=>by simp at m⟩
 |q::es,S,h=>by
  obtain⟨a,b⟩:=tM h.2;refine⟨λk r=>(a k r).1,λx m=>?_⟩
  rw[10]
  .exact⟨h.1.1,h.1.2.1⟩
  .exact⟨(b x m).1.1,(b x m).2.1⟩
theorem Fd:∀ {es:sn} {T:fN},(∀ q∈es,k≠q.2)->xg ls T es k=T k
 |[],T,_=>rfl
 |q::es,T,h=>by
  show xg ls (oa ls T q.1 q.2) es k=T k;rw[Fd λx m=>h x (bL _ m)]
  exact vQ (h q bE)
theorem JQ (T:fN)(q:Nat×Nat)(es:sn):yb ls T (q::es)=N' ls (yb ls T es) q.1 q.2:=by
 unfold yb;rw[List.reverse_cons,uK]
 rfl
theorem Ia:∀ {es:sn} {T:fN},(∀ q∈es,k≠q.1)->yb ls T es k=T k
 |[],T,_=>rfl
 |q::es,T,h=>by
  rw[JQ];exact(vQ (h q bE)).trans (Ia λx m=>h x (bL _ m))
theorem Bt{Tn:fN}:∀ {es:sn} {S:Nat->Prop} {T:fN},vH ls S es R->(∀ k,R k->∀ r,Tn k r↔Gd ls R (xg ls T es) k r)->(∀ k,¬ R k->Tn k=xg ls T es k)->∀ k,S k->∀ r,yb ls Tn es k r↔Gd ls S T k r
 |[],S,T,h,h1,h2,k,hk,r=>by
  have e:S=R:=funext λk=>propext (h k)
  subst e;exact h1 k hk r
 |q::es,S,T,h,h1,h2,k,hk,r=>by
  obtain⟨E,h⟩:=h;obtain⟨s1,s2⟩:=tM h;have ih:=Bt h h1 h2;rw[JQ];have nR:¬ R q.1:=λz=>(s1 _ z).2 rfl
  refine We E ih (λr=>?_) k hk r
  rw[Ia λx m z=>(s2 x m).1.2 z.symm,h2 _ nR]
  show xg ls (oa ls T q.1 q.2) es q.1 r↔_;rw[Fd λx m z=>(s2 x m).2.2 z.symm]
  unfold oa;rw[vQ E.2.2.1]
end
open PySem PySem.Spec PyProof.Rows Aw
theorem rR{p:aI×Int}(m:p∈l.zip (l.map (tv v))):p.1∈l/\p.2=tv v p.1:=by
 obtain⟨j,hj,rfl⟩:=qJ m
 grind
theorem Zl{k:aI}(m:k∈l):(k,tv v k)∈l.zip (l.map (tv v)):=by
 obtain⟨j,hj,rfl⟩:=qJ m;have h:j<(l.zip (l.map (tv v))).length:=by rw[xA,cJ,Nat.min_self];exact hj
 have:=qK h
 grind
theorem OG (l:aao)(v:aE->Int):∃ kn,eQ l (l.map (tv v)) []=aa kn/\∀ z,(.inr z:aI)∈l->cB kn z=aa (v z):=by
 obtain⟨kn,e⟩:=yU (ps:=l.zip (l.map (tv v))) (kn:=[]) (λp m i q=>by rw[(rR m).2,q];rfl) (λp _ z u _ e=>by cases e) (λp m p' m' z q q'=>by rw[(rR m).2,(rR m').2,q,q'])
 refine⟨kn,?_,λz m=>?_⟩
 .unfold eQ
  grind
 .exact((vW e).2.1 _ (Zl m)).2 z rfl
theorem Rv:(∃ kn,eQ l r []=aa kn) ↔ ∃ v,r=l.map (tv v):=by
 constructor
 .rintro⟨kn,h⟩;unfold eQ at h;by_cases hl:r.length=l.length
  .rw[if_pos hl] at h;obtain⟨_,b,_⟩:=vW h;refine⟨λz=>(cB kn z).getD 0,GH (by rw[cJ];exact hl) λj h1 h2=>?_⟩
   rw[List.getElem_map];have hj:j<l.length:=()
   have hz:j<(l.zip r).length:=by rw[xA];lia
   have:=b (l.zip r)[j] (qK hz);rw[List.getElem_zip] at this;cases hk:l[j] with
   |inl i=>exact this.1 i hk
   |inr z=>
    have e:=this.2 z hk;show r[j]=(cB kn z).getD 0;rw[e]
    rfl
  all_goals grind
 .rintro⟨v,rfl⟩;obtain⟨kn,e,_⟩:=OG l v;exact⟨kn,e⟩
def jG (l:aao)(zs:aak)(r:aal):aal:=zs.map λz=>((eQ l r []).bind λkn=>cB kn z).getD 0
theorem DC(h:∀ z∈zs,(.inr z:aI)∈l)(v:aE->Int):jG l zs (l.map (tv v))=zs.map v:=jD λz m=>by
 obtain⟨kn,e,hl⟩:=OG l v
 grind
def uT (a b:aao)(zs:aak)(R U:ga):ga:=R.filter λr=>(U.map (jG b zs)).contains (jG a zs r)
theorem G0 {a b:aao}{R U:ga}(hz:∀ z,z∈zs↔(.inr z:aI)∈a/\(.inr z:aI)∈b)(hR:∀ r∈R,∃ v,r=a.map (tv v))(hU:∀ r∈U,∃ v,r=b.map (tv v)) :
  r∈uT a b zs R U↔r∈R/\BB a b (· ∈ U) r:=by
 unfold uT;rw[oR];refine and_congr_right λmr=>?_
 obtain⟨v,rfl⟩:=hR r mr;rw[List.contains_iff_mem,DC λz m=>((hz z).1 m).1]
 constructor
 .intro m;obtain⟨r',m',e⟩:=bK.1 m;obtain⟨v',rfl⟩:=hU r' m';rw[DC λz m=>((hz z).1 m).2] at e
  exact⟨v,v',rfl,m',λz m1 m2=>(List.map_inj_left.1 e z ((hz z).2 ⟨m1,m2⟩)).symm⟩
 .rintro⟨u,u',e,m',h⟩;refine bK.2 ⟨_,m',?_⟩;rw[DC λz m=>((hz z).1 m).2]
  refine jD λz m=>?_
  obtain⟨m1,m2⟩:=(hz z).1 m;rw[<-h z m1 m2];exact(JR e m1).symm
theorem Aro {a b:aao}{R U:ga}:(uT a b zs R U).Sublist R:=List.filter_sublist
abbrev dH:=List ga
def tb (t:dH):fN:=λk r=>r∈t.getD k []
def jH (ls:Nat->aao)(t:dH):Prop:=∀ k r,r∈t.getD k []->∃ v,r=(ls k).map (tv v)
theorem EC {t:dH}(hp:p<t.length)(R:ga)(j:Nat):(t.set p R).getD j []=if j=p then R else t.getD j []:=by
 grind
section
variable {ls:Nat->aao}{cm:Nat->Nat->aak}
def Cm (ls:Nat->aao)(cm:Nat->Nat->aak):Prop:=∀ a b z,z∈cm a b↔(.inr z:aI)∈ls a/\(.inr z:aI)∈ls b
def ju (ls:Nat->aao)(cm:Nat->Nat->aak)(t:dH)(k j:Nat):dH:=t.set k (uT (ls k) (ls j) (cm k j) (t.getD k []) (t.getD j []))
theorem vN (t:dH)(k j:Nat):(ju ls cm t k j).length=t.length:=xB
theorem UP (hc:Cm ls cm){t:dH}(hf:jH ls t)(hk:k<t.length):tb (ju ls cm t k j)=uX (tb t) k λr=>tb t k r/\BB (ls k) (ls j) (tb t j) r:=by
 funext i r;unfold tb ju uX;rw[EC hk];by_cases h:i=k
 .subst h;rw[if_pos rfl,if_pos rfl];exact propext (G0 (hc i j) (hf i) (hf j))
 .rw[if_neg h,if_neg h]
theorem DP {t:dH}(hf:jH ls t)(hk:k<t.length):jH ls (ju ls cm t k j):=λi r m=>by
 unfold ju at m;rw[EC hk] at m;by_cases h:i=k
 .subst h;rw[if_pos rfl] at m;exact hf i r (Aro.mem m)
 .rw[if_neg h] at m;exact hf i r m
def oe (ls:Nat->aao)(cm:Nat->Nat->aak)(t:dH)(es:sn):dH:=es.foldl (λt q=>ju ls cm t q.2 q.1) t
def lh (ls:Nat->aao)(cm:Nat->Nat->aak)(t:dH)(es:sn):dH:=es.reverse.foldl (λt q=>ju ls cm t q.1 q.2) t
theorem NW (hc:Cm ls cm):∀ {es:sn} {t:dH},jH ls t->(∀ q∈es,q.2<t.length)->tb (oe ls cm t es)=xg ls (tb t) es/\jH ls (oe ls cm t es)/\(oe ls cm t es).length=t.length
 |[],t,hf,_=>⟨rfl,hf,rfl⟩
 |q::es,t,hf,h=>by
  have hq:=h q bE;obtain⟨a,b,c⟩:=NW hc (es:=es) (t:=ju ls cm t q.2 q.1) (DP hf hq) λx m=>by rw[vN];exact h x (bL _ m)
  refine⟨?_,b,c.trans (vN _ _ _)⟩;show tb (oe ls cm (ju ls cm t q.2 q.1) es)=xg ls (oa ls (tb t) q.1 q.2) es;rw[a,UP hc hf hq]
  rfl
theorem Wx (t:dH)(q:Nat×Nat)(es:sn):lh ls cm t (q::es)=ju ls cm (lh ls cm t es) q.1 q.2:=by
 unfold lh
 grind
theorem OB (hc:Cm ls cm):∀ {es:sn} {t:dH},jH ls t->(∀ q∈es,q.1<t.length)->tb (lh ls cm t es)=yb ls (tb t) es/\jH ls (lh ls cm t es)/\(lh ls cm t es).length=t.length
 |[],t,hf,_=>⟨rfl,hf,rfl⟩
 |q::es,t,hf,h=>by
  obtain⟨a,b,c⟩:=OB hc hf λx m=>h x (bL _ m)
  have hq:q.1<(lh ls cm t es).length:=by rw[c];exact h q bE
  rw[Wx,JQ];refine⟨?_,DP b hq,(vN _ _ _).trans c⟩;rw[UP hc b hq,a]
  rfl
theorem IQ {t:dH}(hk:k<t.length)(i:Nat):((ju ls cm t k j).getD i []).Sublist (t.getD i []):=by
 unfold ju;rw[EC hk];by_cases h:i=k
 .subst h;rw[if_pos rfl];exact Aro
 all_goals grind
theorem Zn (hc:Cm ls cm){t t2:dH}{es:sn}(hf:jH ls t)(E:vH ls (λk=>k<t.length) es R)(l2:t2.length=t.length)
  (h1:∀ k,R k->∀ r,r∈t2.getD k []↔Gd ls R (tb (oe ls cm t es)) k r) (h2:∀ k,¬ R k->t2.getD k []=(oe ls cm t es).getD k []) :
  ∀ k,k<t.length->∀ r,r∈(lh ls cm t2 es).getD k []↔Gd ls (λk=>k<t.length) (tb t) k r:=by
 obtain⟨s1,s2⟩:=tM E;obtain⟨a,b,c⟩:=NW hc hf λq m=>(s2 q m).2
 have f2:jH ls t2:=λk r m=>by
  by_cases q:R k
  .obtain⟨v,_,e⟩:=(h1 k q r).1 m;exact⟨v,e⟩
  .rw[h2 k q] at m;exact b k r m
 obtain⟨a2,_,_⟩:=OB hc f2 λq m=>by rw[l2];exact(s2 q m).1
 intro k hk r;have:=Bt (Tn:=tb t2) E (λk q r=>by rw[<-a];exact h1 k q r) (λk q=>by
  rw[<-a];funext r;show(r∈t2.getD k [])=(r∈(oe ls cm t es).getD k []);rw[h2 k q]) k hk r
 rw[<-a2] at this;exact this
end
end L2
namespace J2
variable {Z:Type}(N:Nat->Z->Prop)
def Co (S:Nat->Prop)(k j:Nat):Prop:=∀ z,N k z->N j z\/∀ o,S o->o≠k->¬ N o z
def rm (S:Nat->Prop)(k:Nat):Nat->Prop:=λo=>S o/\o≠k
def P:Nat->(Nat->Prop)->Prop
 |0,S=>∀ a b,S a->S b->a=b
 |n+1,S=>(∀ a b,S a->S b->a=b)\/∃ k p,S k/\S p/\p≠k/\Co N S k p/\P n (rm S k)
end J2
namespace Aw
open PySem L2
variable {n k i m:Nat}{f g:EF}{Y:aR}{d:aA}{ls:aaq}{ds:aah}{l a b:Ln}{u j:Int}{z:aE}{L:aat}{p:aI×Int}{ks:aao}{kds:be}{wd:aE->Nat}{r is ns row:aal}{R ak:ga}{t:dH}{v w:aE->Int}{F:SF}{C:Nat->Int}
theorem Q9(h:f (vA Y)=aa d)(hf:fJ n d=af):eV n .a f Y=aa d:=by
 show((f (vA Y)).bind λd=>if fJ n d=af then aa d else ab)=_
 rw[h,bQ,if_pos hf]
def iF (l:Ln):Prop:=l.2.length<=6/\∀ k∈l.2,cH (kD k)=af
abbrev lN (cs:aar):aA:=.list (cs.map λ(c:Nat)=>aT c)
abbrev ay (ls:aaq):aA:=.tuple (ls.map bG)
abbrev lK (ks:aao):aA:=.list (ks.map kD)
abbrev lZ (zs:aak):aA:=.list (zs.map cE)
theorem CF (cs:aar):cR [lN cs]=aa (.int cs.length):=by simp[cR]
theorem vq (a b:Nat):de (.int a) (.int b)=aa (.bool (decide (a=b))):=by
 rw[DV]
 congr 2
 rw[nL];simp
 lia
noncomputable def Ls:aI->Option aE
 |.inr z=>aa z
 |.inl _=>ab
def dD (ks:aao):aak:=ks.filterMap Ls
def bT (ls:aaf):aak:=gG (ls.flatMap λl=>dD l.2)
def kt (z:aE):aA×aA:=(.str z,.bool af)
theorem Qp (aq:aak)(z:aE):((aq.map kt).any λkd=>decide (bS kd.1=aa (.inr z)))=decide (z∈aq):=by
 induction aq with
 |nil=>rfl
 |cons y r ih=>
  rw[cW,uL,ih];have:bS (kt y).1=aa (.inr y):=rfl;rw[this];by_cases h:z=y
  .subst h;simp
  .have h':¬ y=z:=λe=>h e.symm
   simp[h,h']
theorem Ub (aq:aak)(z:aE):putD (aq.map kt) (.inr z) (.bool af)=(dP aq z).map kt:=by
 unfold putD dP;rw[Qp];by_cases h:z∈aq
 .rw[if_pos (by simpa using h),if_pos h,dC]
  refine jD λy _=>?_
  show(if bS (kt y).1=aa (.inr z) then((kt y).1,kT af) else kt y)=kt y
  split<;>rfl
 .rw[if_neg (by simpa using h),if_neg h,iH]
  rfl
def gN (aq:aak)(k:aI):aak:=match k with
 |.inr z=>dP aq z
 |.inl _=>aq
theorem HV:∀ (ks:aao) (aq:aak),ks.foldl gN aq=(dD ks).foldl dP aq
 |[],_=>rfl
 |.inl i::ks,aq=>HV ks aq
 |.inr z::ks,aq=>HV ks (dP aq z)
theorem Qt (aq:aak)(k:aI):(gN aq k).length<=aq.length+1:=by
 cases k with
 |inl i=>exact AL _
 |inr z=>exact YT aq z
theorem Pe {aq:aak}{k:aI}(h:∀ z∈aq,cH (.str z)=af)(hk:cH (kD k)=af):∀ z∈gN aq k,cH (.str z)=af:=by
 cases k with
 |inl i=>exact h
 |inr z=>exact λy m=>(An1.1 m).elim (h y) λe=>e ▸ hk
theorem EB {ls:aaf}(h:∀ l∈ls,iF l)(hn:ls.length<=100):vZ [.tuple (ls.map bG)]=aa (.list ((bT ls).map cE)):=by
 have:∃ d,vZ [.tuple (ls.map bG)]=aa d/\d=.list ((bT ls).map cE):=by
  rw[8];refine cD rfl (by simp) ?_
  refine fI (λρ'=>∃ x2 x3:L2.Slot,(∀ z∈bT ls,cH (.str z)=af)/\ρ'=[s0 (.tuple (ls.map bG)),aa (1,.dict ((bT ls).map kt)),x2,x3]) ?_ ?_
  .refine kA (b0:=[]) (λaq l=>l.2.foldl gN aq) (λi aq ρ'=>∃ x2 x3:L2.Slot,aq.length<=6*i/\(∀ z∈aq,cH (.str z)=af)/\ρ'=[s0 (.tuple (ls.map bG)),aa (1,.dict (aq.map kt)),x2,x3]) (du (pP rfl)) ⟨ab,ab,bB _,λ_ m=>by simp at m,rfl⟩ ?_ ?_
   .rintro i l aq _ hx ⟨x2,x3,ha,hy,rfl⟩;have hl:=h l (eT hx);have hi:=(cK.1 hx).1;refine⟨[s0 (.tuple (ls.map bG)),aa (1,.dict (aq.map kt)),s0 (bG l),x3],rfl,?_⟩;refine kA (xs:=l.2) (q:=kD) gN (λj bp ρ'=>∃ x3:L2.Slot,bp.length<=6*i+j/\(∀ z∈bp,cH (.str z)=af)/\ρ'=[s0 (.tuple (ls.map bG)),aa (1,.dict (bp.map kt)),s0 (bG l),x3]) (du (pP (by simp[vS,ai,aB,eC,bG,au,ia,gb]))) ⟨x3,ha,hy,rfl⟩ ?_ ?_
    .rintro j k bp _ hk ⟨x3,rp,ut,rfl⟩;have hj:=(cK.1 hk).1;have h6:=hl.1;refine⟨[s0 (.tuple (ls.map bG)),aa (1,.dict (bp.map kt)),s0 (bG l),s0 (kD k)],rfl,?_⟩;have g1:=Qt bp k;have g2:=Pe ut (hl.2 k (eT hk));cases k with
     |inl v=>exact jY (by simp[bV,vS,gm,aB,aw,kz,gF,mF,qu,kD]) (jZ ⟨_,.inl rfl,_,(),g2,rfl⟩)
     |inr z=>
      refine fS (by simp[bV,vS,gm,aB,aw,kz,gF,mF,qu,kD]) (Hr rfl rfl rfl rfl (by simp;lia) ⟨_,.inl rfl,s0 (.str z),(),g2,?_⟩)
      rw[Ub]
      rfl
    .rintro _ ⟨x3,rp,ut,rfl⟩;have h6:=hl.1;exact⟨_,.inl rfl,_,_,(),ut,rfl⟩
   .rintro _ ⟨x2,x3,ha,hy,rfl⟩;have e:ls.foldl (λaq l=>l.2.foldl gN aq) []=bT ls:=by
     unfold bT gG;rw[List.foldl_flatMap]
     congr 1
     funext aq l;exact HV l.2 aq
    rw[e] at hy ⊢;exact⟨_,rfl,x2,x3,hy,rfl⟩
  rintro _ ⟨x2,x3,hy,rfl⟩;refine iV (cQ (aY rfl ?_) ⟨_,rfl,rfl⟩);have hp:dg ((bT ls).map kt)=af:=yC λkd m=>by
   obtain⟨z,_,rfl⟩:=bK.1 m;exact λq=>nomatch q
  show(if (dg ((bT ls).map kt)&&((bT ls).map kt).all (λkd=>cH kd.1))=af then aa (qG (((bT ls).map kt).map (·.1))) else ab)=_
  rw[hp,xH,if_pos (cY.2 λkd m=>by
   obtain⟨z,mz,rfl⟩:=bK.1 m;exact hy z mz),dC]
  rfl
 rw[3]
theorem Hz (y z:aE):bZ (.str y) (.str z)=decide (y=z):=by
 rw[show bZ (.str y) (.str z)=(y==z) by simp[bZ],nL]
 simp
theorem Ul (zs:aak)(z:aE):((zs.map cE).any λd=>bZ d (.str z))=decide (z∈zs):=by
 rw[List.any_map,nL];simp[Hz]
theorem Zx (zs:aak):noDicts (zs.map cE)=af:=vY λt m=>by
 obtain⟨z,_,rfl⟩:=bK.1 m
 rfl
theorem Fh (neg:Bool)(zs:aak)(z:aE):gn neg (.str z) (.list (zs.map cE))=aa (.bool (neg != decide (z∈zs))):=by
 show(if (dB (.str z)&&noDicts (zs.map cE))=af then aa (kT (neg != (zs.map cE).any λd=>bZ d (.str z))) else ab)=_
 rw[Zx,Ul,show dB (.str z)=af from rfl,GN,if_pos rfl]
theorem any_keys (ks:aao)(z:aE):((ks.map kD).any λd=>bZ d (.str z))=decide (z∈dD ks):=by
 induction ks with
 |nil=>rfl
 |cons k r ih=>
  rw[cW,uL,ih];cases k with
  |inl i=>
   have:bZ (kD (.inl i)) (.str z)=ah:=by simp[kD,bZ]
   rw[this]
   rfl
  |inr y=>
   have:bZ (kD (.inr y)) (.str z)=decide (y=z):=Hz y z;rw[this];show(decide (y=z)||decide (z∈dD r))=decide (z∈y::dD r);by_cases e:y=z
   .subst e;simp
   .have e':¬ z=y:=λq=>e q.symm
    simp[e,e']
theorem Hx (z:aE)(ks:aao):gn ah (.str z) (.tuple (ks.map kD))=aa (.bool (decide (z∈dD ks))):=by
 show(if (dB (.str z)&&noDicts (ks.map kD))=af then aa (kT (ah != (ks.map kD).any λd=>bZ d (.str z))) else ab)=_
 rw[Zw,any_keys,show dB (.str z)=af from rfl,GN,if_pos rfl]
 simp
def pH (ls:aaf)(k:Nat):aaf:=ls.take k++ls.drop (k+1)
def IL (ls:aaf)(k:Nat)(l:aE×aao):aak:=(bT [l]).filter λz=>decide (z∈bT (pH ls k))
theorem Ii{lo hi:OF}{Y:jp}{l u:aas}(e1:f Y=aa (.tuple ds))(e2:lo Y=aa l)(e3:hi Y=aa u):xS f lo hi Y=aa (.tuple (cutD ds l u)):=by
 unfold xS;rw[e1,bQ,e2,bQ,e3,bQ]
theorem KW(k:Nat)(h:k<=ds.length):cutD ds (aa (k:Int)) ab=ds.drop k:=by
 unfold cutD;rw[HT.A1k,HT.Axq,Nat.min_eq_left h];exact List.take_of_length_le (by simp)
theorem G9 {ls:aaf}(h:∀ l∈ls,iF l)(hn:ls.length<=50){l:aE×aao}(hk:ls[k]?=aa l):KR [.tuple (ls.map bG),.int k]=aa (.list ((IL ls k l).map cE)):=by
 have bm:=(cK.1 hk).1;have Q3:(pH ls k).length<=100:=by
  unfold pH;rw[rT,QT,List.length_drop]
  lia
 have:∃ d,KR [.tuple (ls.map bG),.int k]=aa d/\d=.list ((IL ls k l).map cE):=by
  rw[8];have er:=EB (λx m=>h x (by
   rcases oU.1 m with m|m
   .exact List.mem_of_mem_take m
   .exact List.mem_of_mem_drop m)) Q3
  have el:=EB (λx m=>by rw[cF.1 m];exact h l (eT hk)) (by simp)
  refine cD (aY (aX (aO (a:=.tuple ((ls.take k).map bG)) (b:=.tuple ((ls.drop (k+1)).map bG)) ?_ ?_ ?_) rfl) er) (by simp) ?_
  .have:=Ii (f:=aB 0) (lo:=oN) (hi:=oS (aB 1)) (Y:=vS [s0 (.tuple (ls.map bG)),s0 (.int k),ab]) rfl rfl rfl;rw[BP (by simpa using qI bm),<-QR] at this
   exact this
  .have:=Ii (f:=aB 0) (lo:=oS (ai dA (aB 1) (eC (.int 1)))) (hi:=oN) (Y:=vS [s0 (.tuple (ls.map bG)),s0 (.int k),ab]) (l:=aa ((k+1:Nat):Int)) rfl rfl rfl;rw[KW _ (by simp;lia),<-Jr] at this
   exact this
  .show(if ((ls.take k).map bG).length+((ls.drop (k+1)).map bG).length<=sizeLine then aa (dM ((ls.take k).map bG++(ls.drop (k+1)).map bG)) else ab)=_
   rw[if_pos (pT (by simp;lia)),<-iH]
   rfl
  refine cQ ?_ ⟨_,rfl,rfl⟩;refine gA (λz=>decide (z∈bT (pH ls k))) cE (fG (aY ?_ el)) ?_ λz _=>?_
  .have:au (.tuple (ls.map bG)) (.int k)=aa (bG l):=yJ (by rw[eU,hk];rfl)
   refine aX ?_ rfl;have h2:(1:Nat)<=sizeLine:=pT ()
   unfold iJ;rw[aX (aO rfl rfl this) rfl];simp[h2]
  .have:(bT [l]).length<=6:=by
    have h1:=zK (dD l.2) [];have h2:(dD l.2).length<=l.2.length:=xD _ _;have h3:=(h l (eT hk)).1;have e:bT [l]=(dD l.2).foldl dP []:=by
     unfold bT gG;simp
    rw[e];simp at h1
    lia
   lia
  .refine⟨[aa (.str z),aa (.list ((bT (pH ls k)).map cE))],rfl,?_,λ_=>rfl⟩
   have:=Fh ah (bT (pH ls k)) z;simp[eV,bV,aV,vS,ai,gm,aB,eC,aN,cS,aF,aJ,aw,kz,bg,itemsOf,dA,kM,fR,cZ,fL,vt,sh,vv,qt,cR,gF,mF,qu,de,dB,noDict,noDicts,kF,cU,bZ,this]
 rw[3]
theorem Agb {ls:aaf}:z∈bT ls ↔ ∃ l∈ls,z∈dD l.2:=by
 unfold bT;rw[Ae6,GC]
theorem Aw6 {ls:aaf}{l:aE×aao}:l∈pH ls k ↔ ∃ j,j≠k/\ls[j]?=aa l:=by
 unfold pH;rw[oU,Jp,Jp];constructor
 .rintro(⟨j,hj⟩|⟨j,hj⟩)
  .rw[List.getElem?_take] at hj;by_cases h:j<k
   .rw[if_pos h] at hj;exact⟨j,(),hj⟩
   .rw[if_neg h] at hj;cases hj
  .rw[List.getElem?_drop] at hj;exact⟨_,(),hj⟩
 .rintro⟨j,df,hj⟩;by_cases h:j<k
  .exact .inl ⟨j,by rw[List.getElem?_take,if_pos h];exact hj⟩
  .exact .inr ⟨j-(k+1),by rw[List.getElem?_drop,show k+1+(j-(k+1))=j by lia];exact hj⟩
theorem pR(h:i<ls.length):au (ay ls) (.int i)=aa (bG (ls.getD i cc)):=yJ (by rw[eU,getD_some cc h];rfl)
def vx (ls:aaq)(i:Nat):aak:=dD (ls.getD i cc).2
def xK (ls:aaq)(L:aar)(k j:Nat):Prop:=∀ z∈vx ls k,z∈vx ls j\/∀ o∈L,o≠k->z∉vx ls o
instance (ls:aaq)(L:aar)(k j:Nat):Decidable (xK ls L k j):=by unfold xK;infer_instance
noncomputable def iK (ls:aaq)(L:aar)(k j:Nat):Bool:=decide (j≠k)&&decide (xK ls L k j)
noncomputable def jW (p:Nat×Nat):aA:=.tuple [.int p.1,.int p.2]
def sT:Option (Nat×Nat)->aA
 |none=>.none
 |some p=>jW p
def iW (ls:aaq)(L:aar):Option (Nat×Nat):=L.findSome? λk=>(L.find? (iK ls L k)).map λj=>(k,j)
theorem nen (a b:Nat):gs (.int a) (.int b)=aa (.bool (decide (a≠b))):=by
 rw[ne_int]
 congr 2
 rw[nL];simp
 lia
theorem Po {L:aar}(h:k∈L):∃ i:Nat,L[i]?=aa k/\IZ (lN L) (.int k)=aa (.int i):=by
 have e1:∀ xs:aar,mV (xs.map λ(c:Nat)=>aT c)=aa (xs.map λ(c:Nat)=>(.inl (c:Int):aI)):=λxs=>by
  induction xs with
  |nil=>rfl
  |cons x xs ih=>
   show((bS (.int (x:Int))).bind λk=>(mV (xs.map λ(c:Nat)=>aT c)).bind λks=>aa (k::ks))=_
   rw[ih]
   rfl
 obtain⟨i,hi⟩:∃ i,jo (L.map λ(c:Nat)=>(.inl (c:Int):aI)) (.inl (k:Int))=aa i:=by
  unfold jo;cases e:(L.map λ(c:Nat)=>(.inl (c:Int):aI)).findIdx? λy=>decide (y=.inl (k:Int)) with
  |some i=>exact⟨i,rfl⟩
  |none=>
   have:=List.findIdx?_eq_none_iff.1 e (.inl (k:Int)) (bK.2 ⟨k,h,rfl⟩);simp at this
 refine⟨i,?_,?_⟩
 .have:=(WQ hi).1;rw[eU] at this;obtain⟨x,ex,e⟩:=gM.1 this;have:x=k:=by
   have:(x:Int)=k:=by injection e
   lia
  rw[ex,this]
 .show((mV (L.map λ(c:Nat)=>aT c)).bind λks=>(bS (.int (k:Int))).bind λk=>(jo ks k).bind λj=>aa (aT j))=_
  rw[e1,bQ];show((jo _ (.inl (k:Int))).bind λj=>aa (aT j))=_
  rw[hi]
  rfl
theorem L7 {L:aar}(nd:L.Nodup){j:Nat}(h1:L[i]?=aa k)(h2:L[j]?=aa k):i=j:=by
 obtain⟨a1,a2⟩:=cK.1 h1;obtain⟨b1,b2⟩:=cK.1 h2;have pw:=GB.1 nd;rcases wX i j with h|h|h
 .exact absurd (a2.trans b2.symm) (pw i j a1 b1 h)
 .exact h
 .exact absurd (b2.trans a2.symm) (pw j i b1 a1 h)
theorem Gg {α:Type}(g:α->Bool):∀ xs:List α,sH (xs.map λx=>kT (g x))=aa (xs.map g)
 |[]=>rfl
 |x::xs=>by
  show((sH (xs.map λx=>kT (g x))).bind λbs=>aa (g x::bs))=_
  rw[Gg g xs]
  rfl
theorem B2(ho:∀ l∈ls,iF l){L:aar}(hL:∀ o∈L,o<ls.length)(nd:L.Nodup)(hl:L.length<=50)(hk:k∈L):MV [ay ls,lN L,.int k]=aa (match L.find? (iK ls L k) with|some j=>.int j|none=>.none):=by
 have:∃ d,MV [ay ls,lN L,.int k]=aa d/\d=(match L.find? (iK ls L k) with|some j=>.int j|none=>.none):=by
  rw[8]
  let sub:aaq:=L.map λj=>ls.getD j cc
  obtain⟨i,hi,ei⟩:=Po hk;have cg:∀ l∈sub,iF l:=λl m=>by
   obtain⟨j,mj,rfl⟩:=bK.1 m;exact ho _ (getD_mem cc (hL j mj))
  have hsi:sub[i]?=aa (ls.getD k cc):=by
   rw[eU,hi]
   rfl
  have es:=G9 cg (by show(L.map _).length<=50;simpa using hl) hsi
  let W:aak:=IL sub i (ls.getD k cc)
  have lc:cu [ab,aa 0] (bg (aB 1)) (gB 0) cX (ai au (aB 1) (aB 0)) (vS [s0 (ay ls),s0 (lN L),s0 (.int k),ab,ab])=aa (.list (sub.map bG)):=by
   have:=gA (cap:=[ab,aa 0]) (fi:=bg (aB 1)) (T:=gB 0) (t:=cX) (f:=ai au (aB 1) (aB 0)) (Y:=vS [s0 (ay ls),s0 (lN L),s0 (.int k),ab,ab]) (λ_=>af) (λj=>bG (ls.getD j cc)) (fG rfl) () λj mj=>⟨[aa (.int j),aa (ay ls)],rfl,rfl,λ_=>aO rfl rfl (pR (hL j mj))⟩
   rw[this,lY.2 (by simp)]
   rw[dC]
   rfl
  refine cD (aY (aX (aY (aX lc rfl) rfl) (aX (aO rfl rfl ei) rfl)) es) (by simp) ?_
  have IN:∀ z,z∈W↔z∈vx ls k/\∃ o∈L,o≠k/\z∈vx ls o:=λz=>by
   show z∈(bT [ls.getD k cc]).filter (λz=>decide (z∈bT (pH sub i)))↔_
   rw[oR,Agb];constructor
   .rintro⟨⟨l,ml,hz⟩,h2⟩;rw[cF.1 ml] at hz;refine⟨hz,?_⟩;obtain⟨l',ml',xz⟩:=Agb.1 (of_decide_eq_true h2);obtain⟨j,hj,ej⟩:=Aw6.1 ml';have ej:=ej;rw[eU] at ej;obtain⟨o,eo,rfl⟩:=gM.1 ej;refine⟨o,eT eo,λq=>hj ?_,xz⟩
    exact L7 nd (by rw[<-q];exact eo) hi
   .rintro⟨hz,o,mo,ne,xz⟩;refine⟨⟨_,cF.2 rfl,hz⟩,decide_eq_true (Agb.2 ⟨ls.getD o cc,Aw6.2 ?_,xz⟩)⟩;obtain⟨j,hj,ej⟩:=qJ mo;refine⟨j,λq=>ne ?_,?_⟩
    .obtain⟨b1,b2⟩:=cK.1 hi;subst q;rw[<-ej,b2]
    .rw[eU,fY hj,ej]
     rfl
  have hWl:W.length<=100:=by
   have h1:W.length<=(bT [ls.getD k cc]).length:=GD _ _;have h2:=zK (dD (ls.getD k cc).2) [];have h3:(dD (ls.getD k cc).2).length<=(ls.getD k cc).2.length:=xD _ _;have h4:=(ho _ (getD_mem cc (hL k hk))).1;have e:bT [ls.getD k cc]=(dD (ls.getD k cc).2).foldl dP []:=by
    unfold bT gG;simp
   rw[e] at h1;simp only[List.length_nil,Nat.zero_add] at h2
   lia
  let A:L2.Slot:=s0 (ay ls)
  let B:L2.Slot:=s0 (lN L)
  let C:L2.Slot:=s0 (.int k)
  let E:L2.Slot:=s0 (lZ W)
  refine Gj (λρ'=>∃ x4:L2.Slot,ρ'=[A,B,C,E,x4]) (L.findSome? λj=>if iK ls L k j=af then aa (.int j) else ab) (Fl (λρ'=>∃ x4:L2.Slot,ρ'=[A,B,C,E,x4]) _ (du (fG rfl)) ⟨ab,rfl⟩ ?_) ?_ ?_
  .rintro j mj _ ⟨x4,rfl⟩;refine⟨[A,B,C,E,s0 (.int j)],rfl,?_⟩;have f1:ai gs (aB 4) (aB 2) (vS [A,B,C,E,s0 (.int j)])=aa (.bool (decide (j≠k))):=aO rfl rfl (nen j k);have lc2:=gA (cap:=[ab,aa 0,aa 4]) (fi:=bg (aB 3)) (T:=gB 0) (t:=cX) (f:=ai (gn ah) (aB 0) (ai au (ai au (aB 1) (aB 2)) (eC (.int 1)))) (Y:=vS [A,B,C,E,s0 (.int j)]) (λ_=>af) (λz=>.bool (decide (z∈vx ls j))) (fG rfl) () λz mz=>⟨[aa (.str z),aa (ay ls),aa (.int j)],rfl,rfl,λ_=>aO rfl (aO (aO rfl rfl (pR (hL j mj))) rfl rfl) (Hx z _)⟩
   rw[lY.2 (by simp)] at lc2
   have f2:aN xR (aF (cu [ab,aa 0,aa 4] (bg (aB 3)) (gB 0) cX (ai (gn ah) (aB 0) (ai au (ai au (aB 1) (aB 2)) (eC (.int 1))))) aJ) (vS [A,B,C,E,s0 (.int j)])=aa (.bool (decide (xK ls L k j))):=by
    refine aY (aX lc2 rfl) ?_;show((sH (W.map λz=>kT (decide (z∈vx ls j)))).bind λbs=>aa (kT (bs.all id)))=_
    rw[Gg,bQ,List.all_map]
    congr 2
    rw[nL,cY,decide_eq_true_eq];constructor
    .intro h z mz;by_cases q:∃ o∈L,o≠k/\z∈vx ls o
     .exact .inl (of_decide_eq_true (h z ((IN z).2 ⟨mz,q⟩)))
     .exact .inr λo mo ne hz=>q ⟨o,mo,ne,hz⟩
    .intro h z mz;obtain⟨h1,o,mo,ne,hz⟩:=(IN z).1 mz;rcases h z h1 with q|q
     .exact decide_eq_true q
     .exact absurd hz (q o mo ne)
   have tb:bV .s (mE (aw (ai gs (aB 4) (aB 2))) (aw (aN xR (aF (cu [ab,aa 0,aa 4] (bg (aB 3)) (gB 0) cX (ai (gn ah) (aB 0) (ai au (ai au (aB 1) (aB 2)) (eC (.int 1))))) aJ)))) [A,B,C,E,s0 (.int j)]=aa (iK ls L k j):=by
    simp only[bV,mE,aw,f1,f2,bQ,kz];unfold iK;cases decide (j≠k)<;>rfl
   cases hb:iK ls L k j with
   |true=>exact fS (tb.trans (by rw[hb])) (cQ rfl rfl)
   |false=>exact jY (tb.trans (by rw[hb])) (jZ ⟨_,.inl rfl,_,rfl⟩)
  .intro r hr;refine⟨_,rfl,?_⟩;have:∀ xs:aar,(xs.findSome? λj=>if iK ls L k j=af then aa (aT j) else ab)=(xs.find? (iK ls L k)).map λ(j:Nat)=>aT j:=λxs=>by
    induction xs with
    |nil=>rfl
    |cons x xs ih=>
     rw[gD,GF];cases iK ls L k x with
     |true=>rfl
     |false=>exact ih
   rw[this] at hr;obtain⟨j,e,rfl⟩:=gM.1 hr;rw[e]
  .rintro hz _ ⟨x4,rfl⟩;refine cQ rfl ⟨_,rfl,?_⟩;have:∀ xs:aar,(xs.findSome? λj=>if iK ls L k j=af then aa (aT j) else ab)=(xs.find? (iK ls L k)).map λ(j:Nat)=>aT j:=λxs=>by
    induction xs with
    |nil=>rfl
    |cons x xs ih=>
     rw[gD,GF];cases iK ls L k x with
     |true=>rfl
     |false=>exact ih
   rw[this] at hz;rw[FY.1 hz]
 rw[3]
theorem Eb(ho:∀ l∈ls,iF l){L:aar}(hL:∀ o∈L,o<ls.length)(nd:L.Nodup)(hl:L.length<=50):pV [ay ls,lN L]=aa (sT (iW ls L)):=by
 have:∃ d,pV [ay ls,lN L]=aa d/\d=sT (iW ls L):=by
  rw[8]
  let A:L2.Slot:=s0 (ay ls)
  let B:L2.Slot:=s0 (lN L)
  have key:(L.findSome? λk=>((L.find? (iK ls L k)).map λj=>jW (k,j)))=(iW ls L).map jW:=by
   unfold iW;rw[List.map_findSome?];refine Er λk _=>?_
   show _=Option.map jW ((L.find? (iK ls L k)).map λj=>(k,j))
   rw[Option.map_map]
   rfl
  refine Gj (λρ'=>∃ x2 x3:L2.Slot,ρ'=[A,B,x2,x3]) (L.findSome? λk=>((L.find? (iK ls L k)).map λj=>jW (k,j))) (Fl (λρ'=>∃ x2 x3:L2.Slot,ρ'=[A,B,x2,x3]) _ (du (fG rfl)) ⟨ab,ab,rfl⟩ ?_) ?_ ?_
  .rintro k mk _ ⟨x2,x3,rfl⟩;refine⟨[A,B,s0 (.int k),x3],rfl,?_⟩;have ep:=B2 ho hL nd hl mk;cases hf:L.find? (iK ls L k) with
   |none=>
    rw[hf] at ep;exact cD (aY rfl ep) (by simp) (jY rfl (jZ ⟨_,.inl rfl,_,_,rfl⟩))
   |some j=>
    rw[hf] at ep;exact cD (aY rfl ep) (by simp) (fS rfl (cQ rfl rfl))
  .intro r hr;rw[key] at hr;obtain⟨p,e,rfl⟩:=gM.1 hr;exact⟨_,rfl,by rw[e];rfl⟩
  .rintro hz _ ⟨x2,x3,rfl⟩;rw[key] at hz;exact cQ rfl ⟨_,rfl,by rw[FY.1 hz];rfl⟩
 rw[3]
def gk (ls:aaq):Nat->aar->List (Nat×Nat)×aar
 |0,L=>([],L)
 |n+1,L=>match iW ls L with
  |none=>([],L)
  |some p=>(p::(gk ls n (L.erase p.1)).1,(gk ls n (L.erase p.1)).2)
theorem Ae{L:aar}{p:Nat×Nat}(h:iW ls L=aa p):p.1∈L/\p.2∈L:=by
 unfold iW at h;obtain⟨k,mk,h⟩:=N3 h;obtain⟨j,hj,rfl⟩:=gM.1 h;exact⟨mk,Jo hj⟩
theorem Gm:∀ {n:Nat} {L:aar},(gk ls n L).1.length<=n/\(gk ls n L).2.length<=L.length
 |0,L=>⟨by simp[gk],bB _⟩
 |n+1,L=>by
  unfold gk;cases hf:iW ls L with
  |none=>exact⟨by simp,bB _⟩
  |some p=>
   obtain⟨h1,h2⟩:=Gm;have:=List.length_erase_le (a:=p.1) (l:=L);exact⟨by simp;omega,by show(gk ls n (L.erase p.1)).2.length<=L.length;lia⟩
theorem L0 {L:aar}(h:k∈L):∃ i,jo (L.map λ(c:Nat)=>(.inl (c:Int):aI)) (.inl (k:Int))=aa i/\L.eraseIdx i=L.erase k:=by
 induction L with
 |nil=>simp at h
 |cons x xs ih=>
  by_cases q:x=k
  .subst q;exact⟨0,by simp[jo,List.findIdx?_cons],by simp⟩
  .have hm:k∈xs:=by
    rcases cV.1 h with e|m
    .exact absurd e.symm q
    .exact m
   obtain⟨i,e1,e2⟩:=ih hm;refine⟨i+1,?_,?_⟩
   .unfold jo at e1 ⊢;rw[cW,List.findIdx?_cons];have:decide ((.inl (x:Int):aI)=.inl (k:Int))=ah:=decide_eq_false λe=>q (by
     have:(x:Int)=k:=by injection e
     lia)
    rw[this];simp only[gV,if_false];rw[e1]
    rfl
   .rw[xE,e2,List.erase_cons_tail (by simpa using q)]
theorem TQ:∀ xs:aar,mV (xs.map λ(c:Nat)=>aT c)=aa (xs.map λ(c:Nat)=>(.inl (c:Int):aI))
 |[]=>rfl
 |x::xs=>by
  show((bS (.int (x:Int))).bind λk=>(mV (xs.map λ(c:Nat)=>aT c)).bind λks=>aa (k::ks))=_
  rw[TQ xs]
  rfl
theorem Oq{P:Out->Prop}{L:aar}(h:f (vS Y)=aa (.int k))(hg:getL i Y=aa (L.map λ(c:Nat)=>aT c))(hk:k∈L)(kk:P (.nx (Y.set i (aa (1,lN (L.erase k)))))):Goes (oZ i .s f) Y P:=by
 obtain⟨j,e1,e2⟩:=L0 hk;refine⟨_,?_,kk⟩;have e0:eV 0 .s f Y=aa (.int k):=h;unfold oZ;rw[e0,bQ,hg,bQ,TQ,bQ];show((jo _ (.inl (k:Int))).bind λj=>aa (Out.nx (Y.set i (aa (1,.list ((L.map λ(c:Nat)=>aT c).eraseIdx j))))))=_
 rw[e1,bQ];have:(L.map λ(c:Nat)=>aT c).eraseIdx j=(L.erase k).map λ(c:Nat)=>aT c:=by
  rw[<-e2];have go:∀ (xs:aar) (n:Nat),(xs.map λ(c:Nat)=>aT c).eraseIdx n=(xs.eraseIdx n).map λ(c:Nat)=>aT c:=by
   intro xs;induction xs with
   |nil=>intro n;simp
   |cons x xs ih=>
    intro n;cases n with
    |zero=>rfl
    |succ n=>rw[cW,xE,xE,cW,ih]
  exact go L j
 rw[this]
abbrev lP (ps:sn):aA:=.list (ps.map jW)
theorem Ai (t:Option (Nat×Nat)):fJ 0 (sT t)=af:=by cases t<;>rfl
theorem Ih {ls:aaq}(ho:∀ l∈ls,iF l):∀ (n fuel:Nat) {L:aar} {ps:sn},L.length<=n->n<fuel->(∀ o∈L,o<ls.length)->L.Nodup->L.length<=50->ps.length+n<=100 ->
  ∃ x3,su .s (aw (ai mS (aB 3) (eC .none))) (aW (gY 1 .s (aB 3)) (aW (oZ 2 .s (ai au (aB 3) (eC (.int 0)))) (bO 3 0 .a (aN pV (aF (aB 0) (aF (aB 2) aJ)))))) fuel [s0 (ay ls),aa (1,lP ps),aa (1,lN L),s0 (sT (iW ls L))]
   = aa (.nx [s0 (ay ls),aa (1,lP (ps++(gk ls n L).1)),aa (1,lN (gk ls n L).2),x3])
 |n,0,L,ps,_,hf,_,_,_,_=>()
 |0,fuel+1,L,ps,h0,_,_,_,_,_=>by
  have:L=[]:=Jv.1 ()
  rw[12];refine⟨s0 (sT (iW ls [])),?_⟩;rw[show(gk ls 0 []).1=[] from rfl,kW]
  rfl
 |n+1,fuel+1,L,ps,hn,hf,hL,nd,hl,hp=>by
  unfold gk;cases hfe:iW ls L with
  |none=>
   refine⟨s0 (sT ab),?_⟩;rw[kW]
   rfl
  |some p=>
   obtain⟨m1,m2⟩:=Ae hfe;have nd':=nd.erase p.1;have hL':∀ o∈L.erase p.1,o<ls.length:=λo m=>hL o (List.mem_of_mem_erase m)
   have ax:(L.erase p.1).length<=n:=by rw[N0 m1];lia
   have vn:(L.erase p.1).length<=50:=by rw[N0 m1];lia
   obtain⟨x3,ih⟩:=Ih ho n fuel (ps:=ps++[p]) ax () hL' nd' vn (by simp;lia)
   have body:Goes (aW (gY 1 .s (aB 3)) (aW (oZ 2 .s (ai au (aB 3) (eC (.int 0)))) (bO 3 0 .a (aN pV (aF (aB 0) (aF (aB 2) aJ)))))) [s0 (ay ls),aa (1,lP ps),aa (1,lN L),s0 (jW p)]
     λo=>o=.nx [s0 (ay ls),aa (1,lP (ps++[p])),aa (1,lN (L.erase p.1)),s0 (sT (iW ls (L.erase p.1)))]:=by
    refine fI (λρ'=>ρ'=[s0 (ay ls),aa (1,lP (ps++[p])),aa (1,lN L),s0 (jW p)]) (rM rfl rfl (by simp;lia) ⟨_,rfl,by simp⟩) ?_
    rintro _ rfl;refine fI (λρ'=>ρ'=[s0 (ay ls),aa (1,lP (ps++[p])),aa (1,lN (L.erase p.1)),s0 (jW p)]) (Oq rfl rfl m1 ⟨_,rfl,rfl⟩) ?_
    rintro _ rfl;refine NU ?_ (by simp) rfl
    exact Q9 (aY rfl (Eb ho hL' nd' vn)) (Ai _)
   obtain⟨o,eo,rfl⟩:=body;refine⟨x3,?_⟩;show((aW (gY 1 .s (aB 3)) (aW (oZ 2 .s (ai au (aB 3) (eC (.int 0)))) (bO 3 0 .a (aN pV (aF (aB 0) (aF (aB 2) aJ))))) [s0 (ay ls),aa (1,lP ps),aa (1,lN L),s0 (jW p)]).bind λo=>match o with
    |.nx ρ'=>su .s (aw (ai mS (aB 3) (eC .none))) (aW (gY 1 .s (aB 3)) (aW (oZ 2 .s (ai au (aB 3) (eC (.int 0)))) (bO 3 0 .a (aN pV (aF (aB 0) (aF (aB 2) aJ)))))) fuel ρ'
    |.ct ρ'=>su .s (aw (ai mS (aB 3) (eC .none))) (aW (gY 1 .s (aB 3)) (aW (oZ 2 .s (ai au (aB 3) (eC (.int 0)))) (bO 3 0 .a (aN pV (aF (aB 0) (aF (aB 2) aJ)))))) fuel ρ'
    |.bk ρ'=>aa (.nx ρ')
    | .rt d=>aa (.rt d))=_
   rw[eo,bQ];show su .s _ _ fuel _=_;rw[ih,QX]
   rfl
def cG (ls:aaq):List (Nat×Nat)×aar:=gk ls ls.length (bW ls.length)
theorem IU(ho:∀ l∈ls,iF l)(hn:ls.length<=50):lF [ay ls]=aa (.tuple [lP (cG ls).1,lN (cG ls).2]):=by
 have:∃ d,lF [ay ls]=aa d/\d=.tuple [lP (cG ls).1,lN (cG ls).2]:=by
  rw[8];refine cD rfl (by simp) ?_
  refine cD (d:=lN (bW ls.length)) (aY (aX (aY rfl (by rw[IY,cJ])) rfl) ?_) (by simp) ?_
  .show(if -4096<=(ls.length:Int)/\(ls.length:Int)<=4096 then aa (qG (L2.upTo (ls.length:Int).toNat)) else ab)=_
   rw[if_pos ⟨(),()⟩]
   rfl
  have hL:∀ o∈bW ls.length,o<ls.length:=λo m=>eR.1 m
  have nd:(bW ls.length).Nodup:=Jn;have hl:(bW ls.length).length<=50:=by simpa using hn
  refine Ry (aY rfl (Eb ho hL nd hl)) (Ai _) (by simp) ?_
  obtain⟨x3,e⟩:=Ih ho ls.length 100 (ps:=[]) (by simp) () hL nd hl (by simp;lia)
  refine fT e ?_;exact⟨_,rfl,_,rfl,rfl⟩
 rw[3]
theorem D0{L:aar}{p:Nat×Nat}(h:iW ls L=aa p):p.2≠p.1/\xK ls L p.1 p.2:=by
 unfold iW at h;obtain⟨k,mk,h⟩:=N3 h;obtain⟨j,hj,rfl⟩:=gM.1 h;have:=List.find?_some hj;unfold iK at this;obtain⟨h1,h2⟩:=iI.1 this;exact⟨of_decide_eq_true h1,of_decide_eq_true h2⟩
theorem Aeo:z∈dD ks↔(.inr z:aI)∈ks:=by
 unfold dD;rw[uJ];constructor
 .rintro⟨k,m,e⟩;cases k with
  |inl i=>cases e
  |inr y=>cases e;exact m
 .exact λm=>⟨_,m,rfl⟩
def ck (ls:aaq):Nat->aao:=λk=>(ls.getD k cc).2
theorem Ha:∀ {n:Nat} {L:aar},L.Nodup->vH (ck ls) (λk=>k∈L) (gk ls n L).1 (λk=>k∈(gk ls n L).2)
 |0,L,_=>λk=>Iff.rfl
 |n+1,L,nd=>by
  cases h:iW ls L with
  |none=>
   have e:gk ls (n+1) L=([],L):=by
    show(match iW ls L with|none=>([],L)|some p=>(p::(gk ls n (L.erase p.1)).1,(gk ls n (L.erase p.1)).2))=_
    rw[h]
   rw[e];exact λk=>Iff.rfl
  |some p=>
   have e:gk ls (n+1) L=(p::(gk ls n (L.erase p.1)).1,(gk ls n (L.erase p.1)).2):=by
    show(match iW ls L with|none=>([],L)|some p=>(p::(gk ls n (L.erase p.1)).1,(gk ls n (L.erase p.1)).2))=_
    rw[h]
   rw[e];obtain⟨m1,m2⟩:=Ae h;obtain⟨ne,cov⟩:=D0 h;refine⟨⟨m1,m2,fX ne,λz mz k hk df mzk=>?_⟩,?_⟩
   .rcases cov z (Aeo.2 mz) with c|c
    .exact Aeo.1 c
    .exact absurd (Aeo.2 mzk) (c k hk df)
   .have e2:less (λk=>k∈L) p.1=λk=>k∈L.erase p.1:=funext λk=>propext (by rw[nd.mem_erase_iff];exact And.comm)
    rw[e2];exact Ha (nd.erase _)
theorem ED (ls:aaq):vH (ck ls) (λk=>k<ls.length) (cG ls).1 (λk=>k∈(cG ls).2):=by
 have:=Ha (ls:=ls) (n:=ls.length) (L:=bW ls.length) Jn;have e:(λk=>k∈bW ls.length)=λk=>k<ls.length:=funext λk=>propext eR
 rw[e] at this;exact this
theorem CU (T:aA)(ks:aao)(row:aal)(kn:lw)(hk:ks.length<=100)(hn:kn.length<=100):sY [.tuple [T,tK ks],tI row,.dict (DN kn)]=aa (SH (eQ ks row kn)):=by
 have:∃ d,sY [.tuple [T,tK ks],tI row,.dict (DN kn)]=aa d/\d=SH (eQ ks row kn):=by
  rw[8];have e1:bV .s (aw (ai gs (aN cR (aF (aB 1) aJ)) (aN cR (aF (ai au (aB 0) (eC (.int 1))) aJ)))) [aa (0,.tuple [T,tK ks]),aa (0,tI row),aa (0,.dict (DN kn)),ab,ab,ab,ab]=aa (decide (row.length≠ks.length)):=dZ (Pa rfl rfl);by_cases hl:row.length=ks.length
  .refine fT (nM (e1.trans (by simp[hl]))) ?_
   refine cD (aY rfl (by show(if dg (DN kn)=af then aa (QD (DN kn)) else ab)=_;rw[R3];rfl)) (by simp) ?_
   have lz:(ks.zip row).length<=100:=by rw[xA];lia
   refine Tc (λar ρ'=>∃ x4 x5 x6:L2.Slot,ρ'=[aa (0,.tuple [T,tK ks]),aa (0,tI row),aa (0,.dict (DN kn)),aa (1,.dict (DN ar)),x4,x5,x6]) .none (cP eW kn (ks.zip row)) (Tr (q:=nO) eW _ .none (du ?_) ⟨ab,ab,ab,rfl⟩ ?_) ?_ ?_
   .show iZ (aF (ai au (aB 0) (eC (.int 1))) (aF (aB 1) aJ)) (vS [aa (0,.tuple [T,tK ks]),aa (0,tI row),aa (0,.dict (DN kn)),aa (1,.dict (DN kn)),ab,ab,ab])=_;unfold iZ;rw[show aF (ai au (aB 0) (eC (.int 1))) (aF (aB 1) aJ) (vS [aa (0,.tuple [T,tK ks]),aa (0,tI row),aa (0,.dict (DN kn)),aa (1,.dict (DN kn)),ab,ab,ab])=aa [tK ks,tI row] from rfl,<-WU]
    rfl
   .rintro pre p post ar _ ng hf ⟨x4,x5,x6,rfl⟩;have u8:ar.length<=1000:=by
     have h1:=JM hf;have h2:pre.length<=(ks.zip row).length:=by rw[ng];simp
     lia
    exact⟨[aa (0,.tuple [T,tK ks]),aa (0,tI row),aa (0,.dict (DN kn)),aa (1,.dict (DN ar)),aa (0,kD p.1),aa (0,.int p.2),x6],rfl,C6 _ _ _ ar u8 p x6⟩
   .intro hf;refine⟨_,rfl,?_⟩;unfold eQ;rw[if_pos hl,hf]
    rfl
   .rintro ar hf _ ⟨x4,x5,x6,rfl⟩;refine⟨_,rfl,_,rfl,?_⟩;unfold eQ;rw[if_pos hl,hf]
    rfl
  .refine mW (fS (e1.trans (by simp[hl])) (cQ rfl ⟨_,rfl,_,rfl,?_⟩))
   unfold eQ;rw[if_neg hl]
   rfl
 rw[3]
theorem ZX{B:aE->ga}(b:Bk kds B wd)(t:aE)(K:aA):rQ [.dict kds,.tuple [.str t,K]]=aa (bC (B t)):=by
 have:∃ d,rQ [.dict kds,.tuple [.str t,K]]=aa d/\d=bC (B t):=by
  refine dJ rfl (cQ (b.get rfl rfl) ⟨_,rfl,rfl⟩)
 rw[3]
abbrev Kn:=lw
def bx (kn:Kn):aA:=.dict (DN kn)
def nB (cv:List Kn)(ks:aao)(ak:ga):List Kn:=cv.flatMap λkn=>ak.filterMap λr=>eQ ks r kn
theorem yT {α β:Type}(f:α->Option β):∀ (xs:List α) (aq:List β),xs.foldl (λa x=>a++(f x).toList) aq=aq++xs.filterMap f
 |[],aq=>by simp
 |x::xs,aq=>by
  rw[lW,yT f xs,GG];cases f x<;>simp
theorem EK {α β:Type}(f:α->List β):∀ (xs:List α) (aq:List β),xs.foldl (λa x=>a++f x) aq=aq++xs.flatMap f
 |[],aq=>by simp
 |x::xs,aq=>by
  rw[lW,EK f xs,AQ,QX]
theorem a0 (t:aE)(ks:aao)(ak:ga)(cv:List Kn)(hk:ks.length<=100)(hn:∀ kn∈cv,kn.length<=100)(hm:cv.length*ak.length<=90000) :
  MK [.list (cv.map bx),bG (t,ks),bC ak]=aa (.list ((nB cv ks ak).map bx)):=by
 have:∃ d,MK [.list (cv.map bx),bG (t,ks),bC ak]=aa d/\d=.list ((nB cv ks ak).map bx):=by
  rw[8];refine cD rfl (by simp) ?_
  let A:List L2.Slot:=[s0 (.list (cv.map bx)),s0 (bG (t,ks)),s0 (bC ak)]
  refine fI (λρ'=>∃ x4 x5 x6:L2.Slot,ρ'=A++[aa (1,.list ((nB cv ks ak).map bx)),x4,x5,x6]) ?_ ?_
  .refine kA (b0:=[]) (λaq kn=>aq++ak.filterMap λr=>eQ ks r kn) (λi aq ρ'=>∃ x4 x5 x6:L2.Slot,aq.length<=i*ak.length/\ρ'=A++[aa (1,.list (aq.map bx)),x4,x5,x6]) (du (fG rfl)) ⟨ab,ab,ab,eG _,rfl⟩ ?_ ?_
   .rintro i kn aq _ hx ⟨x4,x5,x6,ha,rfl⟩;have hi:=(cK.1 hx).1;have Ix:=hn kn (eT hx);have u8:(i+1)*ak.length<=90000:=dI (Nat.mul_le_mul_right _ hi) hm;have hs:(i+1)*ak.length=i*ak.length+ak.length:=Nat.succ_mul _ _;refine⟨A++[aa (1,.list (aq.map bx)),s0 (bx kn),x5,x6],rfl,?_⟩;refine kA (λaq r=>aq++(eQ ks r kn).toList) (λj bp ρ'=>∃ x5 x6:L2.Slot,bp.length<=aq.length+j/\ρ'=A++[aa (1,.list (bp.map bx)),s0 (bx kn),x5,x6]) (du (fG rfl)) ⟨x5,x6,bB _,rfl⟩ ?_ ?_
    .rintro j r bp _ hr ⟨x5,x6,rp,rfl⟩;have hj:=(cK.1 hr).1;refine⟨A++[aa (1,.list (bp.map bx)),s0 (bx kn),s0 (aZ r),x6],rfl,?_⟩;have hf:=CU (.str t) ks r kn hk Ix;refine cD (aY rfl hf) (by simp[A]) ?_
     cases hfa:eQ ks r kn with
     |none=>exact jY (dZ (aO rfl rfl rfl)) (jZ ⟨_,.inl rfl,_,_,by simpa using(by lia:bp.length<=aq.length+(j+1)),by rw[Option.toList_none,kW];rfl⟩)
     |some ar=>
      refine fS (dZ (aO rfl rfl rfl)) (rM rfl rfl (by simp;lia) ⟨_,.inl rfl,_,_,by simp;lia,by rw[Option.toList_some,iH];rfl⟩)
    .rintro _ ⟨x5,x6,rp,rfl⟩;refine⟨_,.inl rfl,_,_,_,?_,by rw[yT]⟩
     rw[yT] at rp
     lia
   .rintro _ ⟨x4,x5,x6,ha,rfl⟩;rw[EK];exact⟨_,rfl,_,_,_,rfl⟩
  rintro _ ⟨x4,x5,x6,rfl⟩;exact yM rfl ⟨_,rfl,rfl⟩
 rw[3]
def oF (B:aE->ga):aaq->Nat
 |[]=>1
 |l::r=>max 1 (B l.1).length*oF B r
theorem YS (B:aE->ga):∀ (ls:aaq) (a:Int),ls.foldl (λa l=>a*((max 1 (B l.1).length:Nat):Int)) a=a*(oF B ls:Int)
 |[],a=>by simp[oF]
 |l::r,a=>by
  rw[lW,YS B r];show _=a*((max 1 (B l.1).length*oF B r:Nat):Int);rw[Ke,Int.mul_assoc]
theorem vB (ds:aah):cR [.list ds]=aa (.int ds.length):=by simp[cR]
theorem Xj {B:aE->ga}(hB:∀ t,(B t).length<64)(ls:aaq):ES [.list (ls.map λl=>bC (B l.1))]=aa (.int (oF B ls)):=by
 have:∃ d,ES [.list (ls.map λl=>bC (B l.1))]=aa d/\d=.int (oF B ls):=by
  rw[8];refine cD rfl (by simp) ?_
  refine fI (λρ'=>∃ x3:L2.Slot,ρ'=[s0 (.list (ls.map λl=>bC (B l.1))),s0 (.int (oF B ls)),x3]) ?_ ?_
  .refine kA (λa l=>a*((max 1 (B l.1).length:Nat):Int)) (λi a ρ'=>∃ x3:L2.Slot,ρ'=[s0 (.list (ls.map λl=>bC (B l.1))),s0 (.int a),x3]) (du (fG rfl)) ⟨ab,rfl⟩ ?_ ?_
   .rintro i l a _ hx ⟨x3,rfl⟩;refine⟨[s0 (.list (ls.map λl=>bC (B l.1))),s0 (.int a),s0 (bC (B l.1))],rfl,?_⟩
    have kj:=hB l.1;generalize hr:B l.1=R at kj ⊢;have em:uS [.int 1,.int (R.map aZ).length]=aa (.int ((max 1 R.length:Nat):Int)):=by
     show aa (aT (if ((R.map aZ).length:Int) > 1 then((R.map aZ).length:Int) else 1))=_
     rw[cJ]
     congr 2
     split<;>lia
    have hf:(((max 1 R.length:Nat):Int)).natAbs<2^64:=()
    exact CZ (aO rfl (aY (aX rfl (aX (aY rfl (vB _)) rfl)) em) (mul_r hf)) (by simp) ⟨_,.inl rfl,_,rfl⟩
   .rintro _ ⟨x3,rfl⟩;rw[YS,Int.one_mul];exact⟨_,rfl,x3,rfl⟩
  rintro _ ⟨x3,rfl⟩;exact cQ rfl ⟨_,rfl,rfl⟩
 rw[3]
theorem Vh{B:aE->ga}(b:Bk kds B wd)(ls:aaq)(hl:ls.length<=1000){Y:jp}(e1:Y[0]?.join=aa (.dict kds))(e2:Y[1]?.join=aa (.tuple (ls.map bG))) :
  cu [ab,aa 0] (bg (aB 1)) (gB 0) cX (aN rQ (aF (aB 1) (aF (aB 0) aJ))) Y=aa (.list (ls.map λl=>bC (B l.1))):=by
 have e:=VD (cap:=[ab,aa 0]) (fi:=bg (aB 1)) (T:=gB 0) (t:=cX) (f:=aN rQ (aF (aB 1) (aF (aB 0) aJ))) (λd=>match d with|.tuple [.str t,_]=>bC (B t)|d=>d) (pP e2) (by rw[cJ];lia) (λd m=>by
  obtain⟨l,_,rfl⟩:=bK.1 m;refine⟨[aa (bG l),aa (.dict kds)],?_,rfl,aY rfl (ZX b l.1 _)⟩;show aa ((kZ [ab,aa 0] Y).set 0 (aa (bG l)))=_;simp[kZ,e1])
 rw[e,dC]
 rfl
theorem M3{B:aE->ga}(b:Bk kds B wd)(ls:aaq)(hl:ls.length<=1000)(hw:oF B ls<=4096):NG [.dict kds,.tuple (ls.map bG)]=aa .none:=by
 have e1:NL [.list (ls.map λl=>bC (B l.1))]=aa .none:=by
  have c:bV .s (aw (ai qt (aN ES (aF (aB 0) aJ)) (eC (.int 4096)))) [s0 (.list (ls.map λl=>bC (B l.1)))]=aa ah:=dZ (aO (aY rfl (Xj b.few ls)) rfl (by
   show aa (kT (decide ((oF B ls:Int) > 4096)))=_;rw[decide_eq_false ()]))
  show outD (FG [s0 (.list (ls.map λl=>bC (B l.1)))])=_
  unfold FG;rw[nM c]
  rfl
 show outD (FD [s0 (.dict kds),s0 (.tuple (ls.map bG))])=_;have e2:eV 0 .s (aN NL (aF (cu [ab,aa 0] (bg (aB 1)) (gB 0) cX (aN rQ (aF (aB 1) (aF (aB 0) aJ)))) aJ)) [s0 (.dict kds),s0 (.tuple (ls.map bG))]=aa .none:=
  aY (aX (Vh b ls hl rfl rfl) rfl) e1
 unfold FD qY;rw[e2]
 rfl
theorem Uc (cv:List Kn)(ks:aao)(ak:ga):(nB cv ks ak).length<=cv.length*ak.length:=by
 unfold nB;induction cv with
 |nil=>simp
 |cons kn r ih=>
  rw[AQ,rT,fA,Nat.succ_mul];have:=xD (λr=>eQ ks r kn) ak
  lia
theorem WM{kn ar:Kn}(h:eQ ks r kn=aa ar):ar.length<=kn.length+ks.length:=by
 unfold eQ at h;obtain⟨h1,h2⟩:=Hq h;have:=JM h2;rw[xA] at this
 lia
def rowOf (zs:aak)(kn:Kn):aal:=zs.map λz=>(cB kn z).getD 0
theorem ZZ {zs:aak}{kn:Kn}(hl:zs.length<=1000)(h:∀ z∈zs,∃ v,cB kn z=aa v):rP [.list (zs.map cE),bx kn]=aa (aZ (rowOf zs kn)):=by
 have:∃ d,rP [.list (zs.map cE),bx kn]=aa d/\d=aZ (rowOf zs kn):=by
  rw[8];have e:=VD (cap:=[ab,aa 1]) (fi:=bg (aB 0)) (T:=gB 0) (t:=cX) (f:=lC (aB 1) (aB 0) (aB 0)) (Y:=vS [s0 (.list (zs.map cE)),s0 (bx kn)]) (λd=>match d with|.str z=>.int ((cB kn z).getD 0)|d=>d) (fG rfl) (by rw[cJ];lia) (λd m=>by
   obtain⟨z,mz,rfl⟩:=bK.1 m;obtain⟨v,hv⟩:=h z mz;refine⟨[aa (.str z),aa (bx kn)],rfl,rfl,?_⟩;have:=CW (fd:=aB 1) (fk:=aB 0) (fx:=aB 0) (Y:=[aa (.str z),aa (bx kn)]) rfl rfl rfl rfl (R3 kn);rw[this,DU];show _=aa (aT ((cB kn z).getD 0));rw[hv]
   rfl)
  rw[dC] at e;have e':zs.map ((λd=>match d with|.str z=>aT ((cB kn z).getD 0)|d=>d)∘cE)=(rowOf zs kn).map aT:=by
   unfold rowOf;rw[dC]
   rfl
  rw[e'] at e;exact cQ (aY (aX e rfl) rfl) ⟨_,rfl,rfl⟩
 rw[3]
def ny (a b:Ln):aak:=(bT [a]).filter λz=>decide (z∈dD b.2)
theorem A4e:z∈ny a b↔(.inr z:aI)∈a.2/\(.inr z:aI)∈b.2:=by
 unfold ny;rw[oR,Agb,decide_eq_true_eq,Aeo];refine and_congr_left λ_=>?_
 constructor
 .rintro⟨l,m,h⟩;rw[cF.1 m] at h;exact Aeo.1 h
 .exact λh=>⟨a,cF.2 rfl,Aeo.2 h⟩
theorem Cc(h:iF l):(bT [l]).length<=6:=by
 have h1:=zK (dD l.2) [];have h2:(dD l.2).length<=l.2.length:=xD _ _;have h3:=h.1;have e:bT [l]=(dD l.2).foldl dP []:=by
  unfold bT gG;simp
 rw[e];simp at h1
 lia
theorem Oa(h:iF a):(ny a b).length<=6:=dI (GD _ _) (Cc h)
theorem C1(ha:iF a):JX [bG a,bG b]=aa (.list ((ny a b).map cE)):=by
 have el:=EB (λx m=>by rw[cF.1 m];exact ha) (by simp)
 have:∃ d,JX [bG a,bG b]=aa d/\d=.list ((ny a b).map cE):=by
  rw[8];refine cQ ?_ ⟨_,rfl,rfl⟩;refine gA (λz=>decide (z∈dD b.2)) cE (fG (aY (aX (rH rfl) rfl) el)) (dI (Cc ha) nofun) λz _=>?_
  refine⟨[aa (.str z),aa (bG b)],rfl,?_,λ_=>rfl⟩
  exact dZ (aO rfl rfl (Hx z b.2))
 rw[3]
theorem VY(h6:l.2.length<=6){zs:aak}(hz:∀ z∈zs,(.inr z:aI)∈l.2)(hl:zs.length<=1000)(hr:∃ v,r=l.2.map (tv v)):tN [bG l,tI r,.list (zs.map cE)]=aa (aZ (jG l.2 zs r)):=by
 obtain⟨v,rfl⟩:=hr;obtain⟨kn,ef,hk⟩:=OG l.2 v;have e1:=CU (.str l.1) l.2 (l.2.map (tv v)) [] () (by simp)
 rw[ef] at e1;have e2:=ZZ hl λz m=>⟨_,hk z (hz z m)⟩
 have e3:rowOf zs kn=jG l.2 zs (l.2.map (tv v)):=by
  rw[DC hz];exact jD λz m=>by rw[hk z (hz z m)];rfl
 have:∃ d,tN [bG l,tI (l.2.map (tv v)),.list (zs.map cE)]=aa d/\d=aZ (jG l.2 zs (l.2.map (tv v))):=by
  rw[8];refine cQ (aY (aX rfl (aX (aY rfl e1) rfl)) (by rw[<-e3];exact e2)) ⟨_,rfl,rfl⟩
 rw[3]
def xi (r:aal):List aA×aA:=(r.map aT,.bool af)
theorem ZY:∀ (U:ga),sI (U.map λr=>dM [aZ r,.bool af])=aa (U.map xi)
 |[]=>rfl
 |r::U=>by
  show(if (bR (r.map aT)&&decide (cU (r.map aT)<=6))=af then(sI (U.map λr=>dM [aZ r,.bool af])).bind λps=>aa ((r.map aT,kT af)::ps) else ab)=_
  rw[yR,xH,if_pos (decide_eq_true (dI (EJ r) nofun)),ZY U]
  rfl
theorem XD {a b:aal}(h:a.map aT=b.map aT):a=b:=by
 have:=congrArg (List.map rq) h
 rwa [tL,tL] at this
theorem Sk (K:ga)(k:aal):gn ah (aZ k) (.dict ((.none,.none)::mH (K.map xi) []))=aa (.bool (K.contains k)):=by
 show(if (bR (k.map aT)&&decide (cU (k.map aT)<=6))=af then aa (kT (ah != (lB (mH (K.map xi) []) (k.map aT)).isSome)) else ab)=_
 have hk:∀ p∈K.map xi,bR p.1=af:=λp m=>by
  obtain⟨r,_,rfl⟩:=bK.1 m;exact yR r
 rw[yR,xH,if_pos (decide_eq_true (dI (EJ k) nofun)),b6 hk (yR k)]
 have e:decide (k.map aT∈(K.map xi).map (·.1))=K.contains k:=by
  rw[nL,decide_eq_true_eq,List.contains_iff_mem,dC,bK];constructor
  .rintro⟨r,m,e⟩;exact XD e ▸ m
  .exact λm=>⟨k,m,rfl⟩
 rw[e];cases K.contains k<;>rfl
theorem Bw(ha:iF a)(hb:iF b){U:ga}(hR:∀ r∈R,∃ v,r=a.2.map (tv v))(hU:∀ r∈U,∃ v,r=b.2.map (tv v))(lR:R.length<=1000)(lU:U.length<=1000) :
  FH [bG a,bC R,bG b,bC U]=aa (bC (uT a.2 b.2 (ny a b) R U)):=by
 have hl:(ny a b).length<=1000:=dI (Oa ha) nofun
 have ka:∀ r∈R,tN [bG a,tI r,.list ((ny a b).map cE)]=aa (aZ (jG a.2 (ny a b) r)):=λr m=>VY ha.1 (λz mz=>(A4e.1 mz).1) hl (hR r m)
 have kb:∀ r∈U,tN [bG b,tI r,.list ((ny a b).map cE)]=aa (aZ (jG b.2 (ny a b) r)):=λr m=>VY hb.1 (λz mz=>(A4e.1 mz).2) hl (hU r m)
 have ec:=C1 (b:=b) ha;unfold uT;generalize ny a b=zs at ka kb ec;have:∃ d,FH [bG a,bC R,bG b,bC U]=aa d/\d=bC (R.filter λr=>(U.map (jG b.2 zs)).contains (jG a.2 zs r)):=by
  rw[8];refine cD (aY rfl ec) (by simp) ?_
  refine cD (d:=.dict ((.none,.none)::mH ((U.map (jG b.2 zs)).map xi) [])) (aY (ds:=[.list ((U.map (jG b.2 zs)).map λr=>dM [aZ r,.bool af])]) (aX ?_ rfl) ?_) (by simp) ?_
  .have:=gA (cap:=[ab,aa 2,aa 4]) (fi:=bg (aB 3)) (T:=gB 0) (t:=cX) (f:=iJ (aF (aN tN (aF (aB 1) (aF (aB 0) (aF (aB 2) aJ)))) (aF (eC (.bool af)) aJ)))
    (Y:=vS [s0 (bG a),s0 (bC R),s0 (bG b),s0 (bC U),s0 (.list (zs.map cE)),ab]) (λ_=>af) (λr=>dM [aZ (jG b.2 zs r),.bool af]) (fG rfl) () λr m=>⟨[aa (aZ r),aa (bG b),aa (.list (zs.map cE))],rfl,rfl,λ_=>rH (aX (aY rfl (kb r m)) rfl)⟩
   rw[lY.2 λ_ _=>rfl] at this
   rw[dC];exact this
  .show(sI _).bind _=_;rw[ZY]
   rfl
  refine cQ ?_ ⟨_,rfl,rfl⟩;refine gA (λr=>(U.map (jG b.2 zs)).contains (jG a.2 zs r)) aZ (fG rfl) () λr m=>⟨[aa (aZ r),aa (.dict ((.none,.none)::mH ((U.map (jG b.2 zs)).map xi) [])),aa (bG a),aa (.list (zs.map cE))],rfl,?_,λ_=>rfl⟩
  exact dZ (aO (aY rfl (ka r m)) rfl (Sk _ _))
 rw[3]
theorem KG{P:Out->Prop}{jn:Nat}(h:f (vA Y)=aa d)(hf:fJ 1 d=af)(hg:getL i Y=aa ds)(hk:g (vS Y)=aa (.int j))(hj:gb ds.length j=aa jn)(k:P (.nx (Y.set i (aa (1,.list (ds.set jn d)))))):Goes (vL i .a f .s g) Y P:=⟨_,by
 unfold vL;rw[Q9 h hf,bQ,hg,bQ];show((g (vS Y)).bind _)=_;rw[hk,bQ];show((gb ds.length j).bind λj=>aa (Out.nx (Y.set i (aa (1,.list (ds.set j d))))))=_
 rw[hj,bQ],k⟩
def bj (t:dH):aA:=.list (t.map bC)
def jq (ls:aaq)(a b:Nat):aak:=ny (ls.getD a cc) (ls.getD b cc)
theorem OJ (ls:aaq):Cm (ck ls) (jq ls):=λa b z=>A4e
theorem sN(h:k<t.length):au (bj t) (.int k)=aa (bC (t.getD k [])):=by
 refine yJ ?_;rw[eU,fY h];simp[jE,h]
theorem BS(R:ga):(t.map bC).set k (bC R)=(t.set k R).map bC:=by rw[List.map_set]
theorem DJ (R:ga):fJ 1 (bC R)=af:=by
 exact cY.2 λd m=>by
  obtain⟨r,_,rfl⟩:=bK.1 m;exact A0 r
theorem Xn(ho:∀ l∈ls,iF l)(hn:ls.length<=50)(hl:t.length=ls.length)(hf:jH (ck ls) t)(hs:∀ k,(t.getD k []).length<=1000) :
  NN [ay ls,bj t]=aa (bj (oe (ck ls) (jq ls) t (cG ls).1)):=by
 obtain⟨_,s2⟩:=tM (ED ls);have ok:∀ k,k<ls.length->iF (ls.getD k cc):=λk h=>by
  have:ls.getD k cc=ls[k]:=by simp[jE,h]
  rw[this];exact ho _ (qK h)
 have:∃ d,NN [ay ls,bj t]=aa d/\d=bj (oe (ck ls) (jq ls) t (cG ls).1):=by
  rw[8];refine cD (aY rfl rfl) (by simp) ?_
  refine fI (λρ'=>∃ x3 x4:L2.Slot,ρ'=[s0 (ay ls),s0 (bj t),aa (1,bj (oe (ck ls) (jq ls) t (cG ls).1)),x3,x4]) ?_ ?_
  .refine kA (xs:=(cG ls).1) (q:=jW) (λt q=>ju (ck ls) (jq ls) t q.2 q.1) (λ_ t' ρ'=>(jH (ck ls) t'/\t'.length=ls.length/\∀ k,(t'.getD k []).length<=1000)/\∃ x3 x4:L2.Slot,ρ'=[s0 (ay ls),s0 (bj t),aa (1,bj t'),x3,x4]) (du (fG ?_)) ⟨⟨hf,hl,hs⟩,ab,ab,rfl⟩ ?_ ?_
   .show((aN lF (aF (aB 0) aJ)) (vS [s0 (ay ls),s0 (bj t),aa (1,bj t),ab,ab])).bind (yf 0)=_;rw[aY rfl (IU ho hn)]
    rfl
   .rintro i q t' _ hq ⟨⟨g1,g2,g3⟩,x3,x4,rfl⟩;obtain⟨m1,m2⟩:=s2 q (eT hq);have k1:q.1<t'.length:=by rw[g2];exact m1
    have k2:q.2<t'.length:=by rw[g2];exact m2
    refine⟨[s0 (ay ls),s0 (bj t),aa (1,bj t'),s0 (.int q.1),s0 (.int q.2)],rfl,?_⟩;have ep:=Bw (ok _ m2) (ok _ m1) (g1 q.2) (g1 q.1) (g3 _) (g3 _);refine KG (aY (aX (aO rfl rfl (pR m2)) (aX (aO rfl rfl (sN k2)) (aX (aO rfl rfl (pR m1)) (aX (aO rfl rfl (sN k1)) rfl)))) ep) (DJ _) rfl rfl (vF (by rw[cJ];exact k2)) ⟨_,.inl rfl,⟨DP g1 k2,(vN _ _ _).trans g2,λk=>dI (IQ k2 k).length_le (g3 k)⟩,s0 (.int q.1),s0 (.int q.2),?_⟩
    rw[BS]
    rfl
   .rintro _ ⟨_,x3,x4,rfl⟩;exact⟨_,rfl,x3,x4,rfl⟩
  rintro _ ⟨x3,x4,rfl⟩;exact yM rfl ⟨_,rfl,rfl⟩
 rw[3]
theorem b8(ho:∀ l∈ls,iF l)(hn:ls.length<=50)(hl:t.length=ls.length)(hf:jH (ck ls) t)(hs:∀ k,(t.getD k []).length<=1000) :
  MU [ay ls,bj t]=aa (bj (lh (ck ls) (jq ls) t (cG ls).1)):=by
 obtain⟨_,s2⟩:=tM (ED ls);have ok:∀ k,k<ls.length->iF (ls.getD k cc):=λk h=>by
  have:ls.getD k cc=ls[k]:=by simp[jE,h]
  rw[this];exact ho _ (qK h)
 have:∃ d,MU [ay ls,bj t]=aa d/\d=bj (lh (ck ls) (jq ls) t (cG ls).1):=by
  rw[8];refine cD (aY rfl rfl) (by simp) ?_
  refine fI (λρ'=>∃ x3 x4:L2.Slot,ρ'=[s0 (ay ls),s0 (bj t),aa (1,bj (lh (ck ls) (jq ls) t (cG ls).1)),x3,x4]) ?_ ?_
  .refine kA (xs:=(cG ls).1.reverse) (q:=jW) (λt q=>ju (ck ls) (jq ls) t q.1 q.2) (λ_ t' ρ'=>(jH (ck ls) t'/\t'.length=ls.length/\∀ k,(t'.getD k []).length<=1000)/\∃ x3 x4:L2.Slot,ρ'=[s0 (ay ls),s0 (bj t),aa (1,bj t'),x3,x4]) (du ?_) ⟨⟨hf,hl,hs⟩,ab,ab,rfl⟩ ?_ ?_
   .have e0:nC 0 (aN lF (aF (aB 0) aJ)) (vS [s0 (ay ls),s0 (bj t),aa (1,bj t),ab,ab])=aa (.list ((cG ls).1.map jW)):=by
     show((aN lF (aF (aB 0) aJ)) (vS [s0 (ay ls),s0 (bj t),aa (1,bj t),ab,ab])).bind (yf 0)=_;rw[aY rfl (IU ho hn)]
     rfl
    have e1:aF (nC 0 (aN lF (aF (aB 0) aJ))) aJ (vS [s0 (ay ls),s0 (bj t),aa (1,bj t),ab,ab])=aa [.list ((cG ls).1.map jW)]:=aX e0 rfl;show(aF (nC 0 (aN lF (aF (aB 0) aJ))) aJ (vS [s0 (ay ls),s0 (bj t),aa (1,bj t),ab,ab])).bind _=_;rw[e1];show aa ((cG ls).1.map jW).reverse=_;rw[List.map_reverse]
   .rintro i q t' _ hq ⟨⟨g1,g2,g3⟩,x3,x4,rfl⟩;obtain⟨m1,m2⟩:=s2 q (List.mem_reverse.1 (eT hq));have k1:q.1<t'.length:=by rw[g2];exact m1
    have k2:q.2<t'.length:=by rw[g2];exact m2
    refine⟨[s0 (ay ls),s0 (bj t),aa (1,bj t'),s0 (.int q.1),s0 (.int q.2)],rfl,?_⟩;have ep:=Bw (ok _ m1) (ok _ m2) (g1 q.1) (g1 q.2) (g3 _) (g3 _);refine KG (aY (aX (aO rfl rfl (pR m1)) (aX (aO rfl rfl (sN k1)) (aX (aO rfl rfl (pR m2)) (aX (aO rfl rfl (sN k2)) rfl)))) ep) (DJ _) rfl rfl (vF (by rw[cJ];exact k1)) ⟨_,.inl rfl,⟨DP g1 k1,(vN _ _ _).trans g2,λk=>dI (IQ k1 k).length_le (g3 k)⟩,s0 (.int q.1),s0 (.int q.2),?_⟩
    rw[BS]
    rfl
   .rintro _ ⟨_,x3,x4,rfl⟩;exact⟨_,rfl,x3,x4,rfl⟩
  rintro _ ⟨x3,x4,rfl⟩;exact yM rfl ⟨_,rfl,rfl⟩
 rw[3]
def jr (B:aE->ga)(l:Ln):ga:=lu ((B l.1).filter λr=>(eQ l.2 r []).isSome)
theorem Ato {B:aE->ga}:r∈jr B l↔r∈B l.1/\∃ v,r=l.2.map (tv v):=by
 unfold jr;rw[Alb,oR];refine and_congr_right λ_=>?_
 rw[uG];exact Rv
theorem Ux (B:aE->ga)(l:Ln):(jr B l).length<=(B l.1).length:=by
 unfold jr;rw[Hu];exact GD _ _
section
variable {B:aE->ga}
theorem Yg (b:Bk kds B wd)(h6:l.2.length<=6):EO [.dict kds,bG l]=aa (bC (jr B l)):=by
 have es:vK [bC ((B l.1).filter λr=>(eQ l.2 r []).isSome)]=aa (bC (jr B l)):=JC (b.pos l.1) (λr m=>b.wid l.1 r (oR.1 m).1) (FZ (GD _ _) (b.few l.1))
 have:∃ d,EO [.dict kds,bG l]=aa d/\d=bC (jr B l):=by
  have e:=gA (cap:=[ab,aa 1]) (fi:=bg (aN rQ (aF (aB 0) (aF (aB 1) aJ)))) (T:=gB 0) (t:=aw (ai mS (aN sY (aF (aB 1) (aF (aB 0) (aF (eC (.dict [])) aJ)))) (eC .none))) (f:=aB 0)
   (Y:=vS [s0 (.dict kds),s0 (bG l)]) (λr=>(eQ l.2 r []).isSome) aZ (fG (aY rfl (ZX b l.1 _))) (by have:=b.few l.1;lia) (λr m=>by
    refine⟨[aa (aZ r),aa (bG l)],rfl,?_,λ_=>rfl⟩
    have hf:=CU (.str l.1) l.2 r [] () (by simp)
    refine dZ (aO (aY rfl hf) rfl ?_);cases eQ l.2 r []<;>rfl)
  refine dJ rfl (cQ (aY (aX e rfl) es) ⟨_,rfl,rfl⟩)
 rw[3]
theorem j6 (b:Bk kds B wd)(h6:∀ l∈ls,l.2.length<=6)(hn:ls.length<=50):NH [.dict kds,ay ls]=aa (bj (ls.map (jr B))):=by
 have:∃ d,NH [.dict kds,ay ls]=aa d/\d=bj (ls.map (jr B)):=by
  have e:=gA (cap:=[ab,aa 0]) (fi:=bg (aB 1)) (T:=gB 0) (t:=cX) (f:=aN EO (aF (aB 1) (aF (aB 0) aJ)))
   (Y:=vS [s0 (.dict kds),s0 (ay ls)]) (λ_=>af) (λl=>bC (jr B l)) rfl () λl m=>⟨[aa (bG l),aa (.dict kds)],rfl,rfl,λ_=>aY rfl (Yg b (h6 l m))⟩
  rw[lY.2 λ_ _=>rfl] at e
  refine dJ rfl (cQ ?_ ⟨_,rfl,rfl⟩);unfold bj;rw[dC];exact e
 rw[3]
theorem Rf (ls:aaq):jH (ck ls) (ls.map (jr B)):=λk r m=>by
 rw[jE,eU] at m;unfold ck;rw[jE];cases h:ls[k]? with
 |none=>rw[h] at m;simp at m
 |some l=>
  rw[h] at m;exact(Ato.1 m).2
end
abbrev LR:=Ln×ga
def fZ:List LR->Nat
 |[]=>1
 |p::r=>max 1 p.2.length*fZ r
theorem XW:∀ ps,1<=fZ ps
 |[]=>bB _
 |p::r=>QH (Nat.le_max_left 1 p.2.length) (XW r)
theorem JW:∀ xs ys,fZ (xs++ys)=fZ xs*fZ ys
 |[],ys=>(Nat.one_mul _).symm
 |p::r,ys=>by
  show max 1 p.2.length*fZ (r++ys)=max 1 p.2.length*fZ r*fZ ys;rw[JW r ys,Nat.mul_assoc]
theorem G6 (ps:List LR)(i:Nat):fZ (ps.take i)<=fZ ps:=by
 have e:fZ ps=fZ (ps.take i)*fZ (ps.drop i):=by rw[<-JW,QP]
 rw[e];exact Nat.le_mul_of_pos_right _ (XW _)
def fO (ps:List LR):List Kn:=ps.foldl (λcv p=>nB cv p.1.2 p.2) [[]]
theorem YU (f g:LR->aA):∀ ps:List LR,AM pairD (ps.map f) (ps.map g)=ps.map λp=>pairD (f p) (g p)
 |[]=>rfl
 |p::r=>by
  rw[cW,cW,List.zipWith_cons_cons,YU f g r,cW]
theorem Xm (ps:List LR)(hl:ps.length<=16)(h6:∀ p∈ps,p.1.2.length<=6)(hw:fZ ps<=4096) :
  JV [.tuple (ps.map λp=>bG p.1),.list (ps.map λp=>bC p.2)]=aa (.list ((fO ps).map bx))/\(fO ps).length<=fZ ps/\∀ kn∈fO ps,kn.length<=96:=by
 have:∃ d,JV [.tuple (ps.map λp=>bG p.1),.list (ps.map λp=>bC p.2)]=aa d/\d=.list ((fO ps).map bx)/\(fO ps).length<=fZ ps/\∀ kn∈fO ps,kn.length<=96:=by
  rw[8];refine cD (mJ rfl) (by simp) ?_
  let A:List L2.Slot:=[s0 (.tuple (ps.map λp=>bG p.1)),s0 (.list (ps.map λp=>bC p.2))]
  refine fI (λρ'=>∃ x3 x4:L2.Slot,(fO ps).length<=fZ ps/\(∀ kn∈fO ps,kn.length<=96)/\ρ'=A++[s0 (.list ((fO ps).map bx)),x3,x4]) ?_ ?_
  .refine kA (xs:=ps) (q:=λp=>pairD (bG p.1) (bC p.2)) (b0:=[[]]) (λcv p=>nB cv p.1.2 p.2) (λi cv ρ'=>∃ x3 x4:L2.Slot,cv.length<=fZ (ps.take i)/\(∀ kn∈cv,kn.length<=6*i)/\ρ'=A++[s0 (.list (cv.map bx)),x3,x4]) (du ?_) ⟨ab,ab,bB _,λkn m=>by rw[cF.1 m];simp,rfl⟩ ?_ ?_
   .rw[<-YU];exact TX rfl rfl rfl
   .rintro i p cv _ hx ⟨x3,x4,hk,Ix,rfl⟩;have hi:=(cK.1 hx).1;have h6':=h6 p (eT hx);have ht:ps.take (i+1)=ps.take i++[p]:=by rw[uH,hx];rfl
    have W9:fZ (ps.take (i+1))=fZ (ps.take i)*max 1 p.2.length:=by
     rw[ht,JW];show _*(max 1 p.2.length*1)=_;rw[Nat.mul_one]
    have hm:cv.length*p.2.length<=fZ (ps.take (i+1)):=by
     rw[W9];exact QH hk (Nat.le_max_right _ _)
    have u8:=G6 ps (i+1);refine⟨A++[s0 (.list (cv.map bx)),s0 (bG p.1),s0 (bC p.2)],rfl,?_⟩;refine CZ (aY rfl (a0 p.1.1 p.1.2 p.2 cv () (λkn m=>by have:=Ix kn m;lia) ())) (by simp[A]) ⟨_,.inl rfl,_,_,dI (Uc _ _ _) hm,λar m=>?_,rfl⟩
    obtain⟨kn,mk,m⟩:=GC.1 m;obtain⟨r,_,e⟩:=uJ.1 m;have:=WM e;have:=Ix kn mk
    lia
   .rintro _ ⟨x3,x4,h1,h2,rfl⟩;rw[wY] at h1;exact⟨_,rfl,_,_,h1,λkn m=>by have:=h2 kn m;lia,rfl⟩
  rintro _ ⟨x3,x4,h1,h2,rfl⟩;exact cQ rfl ⟨_,rfl,rfl,h1,h2⟩
 obtain⟨d,e,rfl,h1,h2⟩:=this;exact⟨e,h1,h2⟩
def eD (kn:Kn):aE->Int:=λz=>(cB kn z).getD 0
def rX (kn:Kn)(v:aE->Int)(ks:aao):Prop:=∀ z,(.inr z:aI)∈ks->cB kn z=aa (v z)
theorem ND{kn ar:Kn}(h:eQ ks r kn=aa ar):r.length=ks.length/\(∀ z u,cB kn z=aa u->cB ar z=aa u)/\∀ p∈ks.zip r,(∀ i,p.1=.inl i->p.2=i)/\∀ z,p.1=.inr z->cB ar z=aa p.2:=by
 unfold eQ at h;obtain⟨h1,h2⟩:=Hq h;obtain⟨a,b,_⟩:=vW h2;exact⟨h1,a,b⟩
theorem YJ{kn ar:Kn}(h:eQ ks r kn=aa ar):r=ks.map (tv (eD ar))/\rX ar (eD ar) ks:=by
 obtain⟨hl,_,b⟩:=ND h;have key:∀ j (hj:j<ks.length) (hr:j<r.length),(∀ i,ks[j]=.inl i->r[j]=i)/\∀ z,ks[j]=.inr z->cB ar z=aa r[j]:=λj hj hr=>by
  have hz:j<(ks.zip r).length:=by rw[xA];lia
  have:=b (ks.zip r)[j] (qK hz);rw[List.getElem_zip] at this;exact this
 refine⟨GH (by rw[cJ];exact hl) λj h1 h2=>?_,λz mz=>?_⟩
 .rw[List.getElem_map];have hj:j<ks.length:=()
  obtain⟨k1,k2⟩:=key j hj h1;cases hk:ks[j] with
  |inl i=>exact k1 i hk
  |inr z=>
   show r[j]=(cB ar z).getD 0;rw[k2 z hk]
   rfl
 .obtain⟨j,hj,e⟩:=qJ mz;have:=(key j hj ()).2 z e
  unfold eD;rw[this]
  rfl
theorem Pk {kn ar:Kn}(h:rX kn (eD kn) ks)(k:∀ z u,cB kn z=aa u->cB ar z=aa u):rX ar (eD ar) ks/\ks.map (tv (eD ar))=ks.map (tv (eD kn)):=by
 have e:∀ z,(.inr z:aI)∈ks->cB ar z=aa (eD kn z):=λz m=>k z _ (h z m)
 have e2:∀ z,(.inr z:aI)∈ks->eD ar z=eD kn z:=λz m=>by
  show(cB ar z).getD 0=_;rw[e z m]
  rfl
 exact⟨λz m=>by rw[e2 z m];exact e z m,CO e2⟩
def GW (ps:List LR)(kn:Kn):Prop:=∀ p∈ps,rX kn (eD kn) p.1.2/\p.1.2.map (tv (eD kn))∈p.2
theorem ZK:∀ (rest wS:List LR) (cv:List Kn),(∀ kn∈cv,GW wS kn)->∀ kn∈rest.foldl (λcv p=>nB cv p.1.2 p.2) cv,GW (wS++rest) kn
 |[],wS,cv,h=>by rw[kW];exact h
 |q::rest,wS,cv,h=>by
  have e:wS++q::rest=(wS++[q])++rest:=by simp
  rw[e,lW];refine ZK rest (wS++[q]) _ λkn m=>?_
  obtain⟨k0,mk,m⟩:=GC.1 m;obtain⟨r,mr,ef⟩:=uJ.1 m;intro p mp;rcases oU.1 mp with mp|mp
  .obtain⟨a,b⟩:=h k0 mk p mp;obtain⟨c,d⟩:=Pk a (ND ef).2.1;exact⟨c,d ▸ b⟩
  .rw[cF.1 mp];obtain⟨a,b⟩:=YJ ef;exact⟨b,a ▸ mr⟩
theorem vX (ps:List LR):∀ kn∈fO ps,GW ps kn:=by
 have:=ZK ps [] [[]] λkn _ p m=>by simp at m
 rwa [List.nil_append] at this
def tJ (kn:Kn)(v:aE->Int):Prop:=∀ z u,cB kn z=aa u->u=v z
theorem KY{kn:Kn}(h:tJ kn v):∃ ar,eQ ks (ks.map (tv v)) kn=aa ar/\tJ ar v:=by
 obtain⟨ar,e⟩:=yU (ps:=ks.zip (ks.map (tv v))) (λp m i q=>by rw[(rR m).2,q];rfl) (λp m z u q e=>by rw[(rR m).2,q,h z u e];rfl) (λp m p' m' z q q'=>by rw[(rR m).2,(rR m').2,q,q'])
 refine⟨ar,?_,λz u eu=>?_⟩
 .unfold eQ;rw[if_pos (by rw[cJ])]
  exact e
 .obtain⟨_,b,c⟩:=vW e;rcases c z u eu with c|⟨p,mp,q⟩
  .exact h z u c
  .have e1:=(b p mp).2 z q;rw[eu] at e1;rw[dY e1,(rR mp).2,q]
   rfl
theorem ML:∀ (rest:List LR) (cv:List Kn),(∃ kn∈cv,tJ kn v)->(∀ p∈rest,p.1.2.map (tv v)∈p.2)->∃ kn∈rest.foldl (λcv p=>nB cv p.1.2 p.2) cv,tJ kn v
 |[],cv,h,_=>h
 |q::rest,cv,⟨k0,m0,h0⟩,h=>by
  rw[lW];refine ML rest _ ?_ λp m=>h p (bL _ m)
  obtain⟨k1,e1,h1⟩:=KY h0;exact⟨k1,GC.2 ⟨k0,m0,uJ.2 ⟨_,h q bE,e1⟩⟩,h1⟩
theorem L9 {ps:List LR}{p:LR}(hp:p∈ps):r∈(fO ps).map (λkn=>p.1.2.map (tv (eD kn))) ↔ ∃ v,(∀ q∈ps,q.1.2.map (tv v)∈q.2)/\r=p.1.2.map (tv v):=by
 rw[bK];constructor
 .rintro⟨kn,m,rfl⟩;exact⟨eD kn,λq mq=>(vX ps kn m q mq).2,rfl⟩
 .rintro⟨v,h,rfl⟩;obtain⟨kn,m,ha⟩:=ML ps [[]] ⟨[],cF.2 rfl,λz u e=>by cases e⟩ h
  refine⟨kn,m,CO λz mz=>ha z _ ((vX ps kn m p hp).1 z mz)⟩
theorem Gc {kn:Kn}(h:rX kn v ks){k:aI}(mk:k∈ks):lC (aB 1) (aB 0) (aB 0) [aa (kD k),aa (bx kn)]=aa (.int (tv v k)):=by
 cases k with
 |inl i=>
  rw[CW rfl rfl rfl rfl (R3 kn),Wa]
  rfl
 |inr z=>
  rw[CW rfl rfl rfl rfl (R3 kn),DU,h z mk]
  rfl
theorem Ys{kn:Kn}(hl:ks.length<=1000)(h:rX kn v ks):rP [tK ks,bx kn]=aa (aZ (ks.map (tv v))):=by
 have:∃ d,rP [tK ks,bx kn]=aa d/\d=aZ (ks.map (tv v)):=by
  rw[8];have e:=gA (cap:=[ab,aa 1]) (fi:=bg (aB 0)) (T:=gB 0) (t:=cX) (Y:=vS [s0 (tK ks),s0 (bx kn)]) (λ_=>af) (λk=>aT (tv v k)) (pP rfl) () λk mk=>⟨[aa (kD k),aa (bx kn)],rfl,rfl,λ_=>Gc h mk⟩
  rw[lY.2 λ_ _=>rfl] at e
  refine cQ (aY (aX e rfl) ?_) ⟨_,rfl,rfl⟩;show aa (dM _)=aa (dM ((ks.map (tv v)).map aT));rw[dC]
  rfl
 rw[3]
theorem Dr {α:Type}[DecidableEq α]:∀ (zs aq:List α),aq.Nodup->(zs.foldl dP aq).Nodup
 |[],aq,h=>h
 |z::zs,aq,h=>by
  rw[lW];refine Dr zs _ ?_;unfold dP
  grind
theorem Hw {α:Type}[DecidableEq α](zs:List α):(gG zs).Nodup:=Dr zs [] AN
theorem YC {α:Type}[DecidableEq α]{zs ys:List α}(h:∀ z∈zs,z∈ys):(gG zs).length<=ys.length:=QZ (Hw zs) λz m=>h z (Ae6.1 m)
theorem C2 (R:ga):hJ (R.map λr=>r.map aT)=(gG R).map λr=>r.map aT:=by
 have go:∀ (R aq:ga),(R.map λr=>r.map aT).foldl mD (aq.map λr=>r.map aT)=(R.foldl dP aq).map λr=>r.map aT:=by
  intro R;induction R with
  |nil=>intro aq;rfl
  |cons r R ih=>
   intro aq;rw[cW,lW,lW,<-ih]
   congr 1
   unfold mD dP;by_cases h:r∈aq
   .grind
   .rw[if_neg h,if_neg λm=>by
     obtain⟨x,mx,e⟩:=bK.1 m;exact h (XD e ▸ mx),iH]
    rfl
 exact go R []
theorem Ks (R:ga):∀ k∈R.map λr=>r.map aT,qV k:=λk m d md=>by
 grind
theorem Xp(hn:1<=n)(hw:∀ r∈R,r.length=n)(hl:(gG R).length<64):MF [bC R]=aa (bC (lu (gG R))):=by
 have e:=JC hn (λr m=>hw r (Ae6.1 m)) hl
 have e:((iM ((gG R).map aZ)).bind λkss=>if gu kss=af/\kss.length<64 then aa (qG ((iD kss).map dM)) else ab)=aa (bC (lu (gG R))):=e
 show((iM (R.map aZ)).bind _)=_;rw[LP,bQ] at e ⊢;rw[C2];obtain⟨⟨a,b⟩,c⟩:=cL e;exact(if_pos ⟨⟨b,a⟩,Ks R⟩).trans (by rw[c])
def gZ (ls:aaq)(t:dH):List LR:=(cG ls).2.map λk=>(ls.getD k cc,t.getD k [])
theorem vR(h:k∈(cG ls).2):k<ls.length:=(tM (ED ls)).1 k h
theorem KH (ls:aaq):(cG ls).2.length<=ls.length:=by
 have:=(Gm (ls:=ls) (n:=ls.length) (L:=bW ls.length)).2;rw[xC] at this;exact this
theorem IJ(ho:∀ l∈ls,iF l)(hn:ls.length<=50){Y:jp}(h:Y[0]?.join=aa (ay ls)):nC 1 (aN lF (aF (aB 0) aJ)) Y=aa (lN (cG ls).2):=by
 unfold nC;rw[aY (aX h rfl) (IU ho hn)]
 rfl
theorem Gh(hm:1<=m):∀ {ps:List LR},(∀ p∈ps,p.2.length<=m)->fZ ps<=m^ps.length
 |[],_=>bB _
 |p::ps,h=>by
  rw[fA,wW,Nat.mul_comm];exact QH (Nat.max_le.2 ⟨hm,h p bE⟩) (Gh hm λq mq=>h q (bL _ mq))
theorem Fy {B:aE->ga}(hm:1<=m)(h:∀ t,(B t).length<=m):∀ ls:aaq,oF B ls<=m^ls.length
 |[]=>bB _
 |l::ls=>by
  rw[fA,wW,Nat.mul_comm];exact QH (Nat.max_le.2 ⟨hm,h l.1⟩) (Fy hm h ls)
structure Lok (m:Nat)(ls:List Ln):Prop where
 ok:∀ l∈ls,iF l
 w1:∀ l∈ls,1<=l.2.length
 n4:ls.length<=5
 m1:1<=m
 m60:m<=60
 pw:m^(cG ls).2.length<=4096
theorem Lok.atR(h:Lok m ls)(hk:k<ls.length):iF (ls.getD k cc)/\1<=(ls.getD k cc).2.length:=by
 have e:ls.getD k cc=ls[k]:=by simp[jE,hk]
 rw[e];exact⟨h.ok _ (qK hk),h.w1 _ (qK hk)⟩
theorem c8(L:Lok m ls)(hl:t.length=ls.length)(hs:∀ k,(t.getD k []).length<=m) :
  MW [ay ls,bj t]=aa (.list ((fO (gZ ls t)).map bx))/\(fO (gZ ls t)).length<=4096:=by
 have hr:=KH ls;have n4:=L.n4;have hw:fZ (gZ ls t)<=4096:=dI (Gh L.m1 λp m=>by
  obtain⟨k,_,rfl⟩:=bK.1 m;exact hs k) (by unfold gZ;rw[cJ];exact L.pw)
 obtain⟨e,h1,_⟩:=Xm (gZ ls t) (by unfold gZ;rw[cJ];lia) (λp m=>by
  obtain⟨k,mk,rfl⟩:=bK.1 m;exact(L.atR (vR mk)).1.1) hw
 refine⟨?_,()⟩
 have:∃ d,MW [ay ls,bj t]=aa d/\d=.list ((fO (gZ ls t)).map bx):=by
  rw[8];refine cD (IJ L.ok () rfl) (by simp) ?_
  have e1:=gA (cap:=[ab,aa 0]) (fi:=bg (aB 2)) (T:=gB 0) (t:=cX) (f:=ai au (aB 1) (aB 0)) (Y:=vS [s0 (ay ls),s0 (bj t),s0 (lN (cG ls).2)]) (λ_=>af) (λk=>bG (ls.getD k cc)) (fG rfl) () λk mk=>⟨[aa (.int k),aa (ay ls)],rfl,rfl,λ_=>aO rfl rfl (pR (vR mk))⟩
  have e2:=gA (cap:=[ab,aa 1]) (fi:=bg (aB 2)) (T:=gB 0) (t:=cX) (f:=ai au (aB 1) (aB 0)) (Y:=vS [s0 (ay ls),s0 (bj t),s0 (lN (cG ls).2)]) (λ_=>af) (λk=>bC (t.getD k [])) (fG rfl) () λk mk=>⟨[aa (.int k),aa (bj t)],rfl,rfl,λ_=>aO rfl rfl (sN (by rw[hl];exact vR mk))⟩
  rw[lY.2 λ_ _=>rfl] at e1 e2
  have q1:((gZ ls t).map λp=>bG p.1)=(cG ls).2.map λk=>bG (ls.getD k cc):=by unfold gZ;rw[dC];rfl
  have q2:((gZ ls t).map λp=>bC p.2)=(cG ls).2.map λk=>bC (t.getD k []):=by unfold gZ;rw[dC];rfl
  rw[q1,q2] at e;exact cQ (aY (aX (aY (aX e1 rfl) rfl) (aX e2 rfl)) e) ⟨_,rfl,rfl⟩
 rw[3]
def sE (ls:aaq)(t:dH)(k:Nat):ga:=lu (gG ((fO (gZ ls t)).map λkn=>(ck ls k).map (tv (eD kn))))
def kJ (ls:aaq)(t:dH):dH:=(cG ls).2.foldl (λt' k=>t'.set k (sE ls t k)) t
theorem Gq(h:k∈(cG ls).2)(m:r∈(fO (gZ ls t)).map λkn=>(ck ls k).map (tv (eD kn))):r∈t.getD k []:=by
 obtain⟨kn,mk,rfl⟩:=bK.1 m;exact(vX _ kn mk (ls.getD k cc,t.getD k []) (bK.2 ⟨k,h,rfl⟩)).2
theorem Ie {f:Nat->ga}:∀ (L:aar) (t:dH),(L.foldl (λt' k=>t'.set k (f k)) t).length=t.length
 |[],t=>rfl
 |k::L,t=>by rw[lW,Ie L,xB]
theorem VA {f:Nat->ga}:∀ (L:aar) (t:dH),(∀ k∈L,k<t.length)->∀ j,(L.foldl (λt' k=>t'.set k (f k)) t).getD j []=if j∈L then f j else t.getD j []
 |[],t,_,j=>by rw[if_neg (by simp)];rfl
 |k::L,t,h,j=>by
  rw[lW,VA L _ (λx m=>by rw[xB];exact h x (bL _ m)) j,EC (h k bE)]
  grind
theorem f6(L:Lok m ls)(hl:t.length=ls.length)(hs:∀ k,(t.getD k []).length<=m):MT [ay ls,bj t]=aa (bj (kJ ls t)):=by
 obtain⟨ew,ur⟩:=c8 L hl hs;have n4:=L.n4;have:∃ d,MT [ay ls,bj t]=aa d/\d=bj (kJ ls t):=by
  rw[8];refine cD (aY rfl rfl) (by simp) ?_
  refine cD (aY rfl ew) (by simp) ?_
  refine fI (λρ'=>∃ x4:L2.Slot,ρ'=[s0 (ay ls),s0 (bj t),aa (1,bj (kJ ls t)),s0 (.list ((fO (gZ ls t)).map bx)),x4]) ?_ ?_
  .refine kA (λt' k=>t'.set k (sE ls t k)) (λ_ t' ρ'=>t'.length=ls.length/\∃ x4:L2.Slot,ρ'=[s0 (ay ls),s0 (bj t),aa (1,bj t'),s0 (.list ((fO (gZ ls t)).map bx)),x4]) (du (fG (IJ L.ok () rfl))) ⟨hl,ab,rfl⟩ ?_ ?_
   .rintro i k t' _ hk ⟨g2,x4,rfl⟩;have mk:=eT hk;have k1:=vR mk;refine⟨[s0 (ay ls),s0 (bj t),aa (1,bj t'),s0 (.list ((fO (gZ ls t)).map bx)),s0 (.int k)],rfl,?_⟩;have wk:=(L.atR k1).1.1;have e:=gA (cap:=[ab,aa 0,aa 4]) (fi:=bg (aB 3)) (T:=gB 0) (t:=cX) (f:=aN rP (aF (ai au (ai au (aB 1) (aB 2)) (eC (.int 1))) (aF (aB 0) aJ)))
     (Y:=vS [s0 (ay ls),s0 (bj t),aa (1,bj t'),s0 (.list ((fO (gZ ls t)).map bx)),s0 (.int k)]) (λ_=>af) (λkn=>aZ ((ck ls k).map (tv (eD kn)))) (fG rfl) () λkn mkn=>
      ⟨[aa (bx kn),aa (ay ls),aa (.int k)],rfl,rfl,λ_=>aY (ds:=[tK (ck ls k),bx kn]) (aX (aO (aO rfl rfl (pR k1)) rfl rfl) rfl) (Ys (by unfold ck;lia) (vX _ kn mkn (ls.getD k cc,t.getD k []) (bK.2 ⟨k,mk,rfl⟩)).1)⟩
    rw[lY.2 λ_ _=>rfl] at e
    have es:=Xp (R:=(fO (gZ ls t)).map λkn=>(ck ls k).map (tv (eD kn))) (n:=(ck ls k).length) (L.atR k1).2 (λr m=>by
     obtain⟨kn,_,rfl⟩:=bK.1 m;rw[cJ]) (FZ (YC λr m=>Gq mk m) (by have:=hs k;have:=L.m60;lia))
    unfold bC at es;rw[dC] at es;refine Tp (d:=bC (sE ls t k)) (aY (aX e rfl) es) rfl rfl (vF (by rw[cJ,g2];exact k1)) ⟨_,.inl rfl,xB.trans g2,s0 (.int k),?_⟩
    rw[BS]
    rfl
   .rintro _ ⟨_,x4,rfl⟩;exact⟨_,rfl,x4,rfl⟩
  rintro _ ⟨x4,rfl⟩;exact yM rfl ⟨_,rfl,rfl⟩
 grind
def rB (ls:aaq):aar:=if 1<(cG ls).2.length then(cG ls).2 else []
theorem Tg(L:Lok m ls):yD [ay ls]=aa (lN (rB ls)):=by
 have n4:=L.n4;have:∃ d,yD [ay ls]=aa d/\d=lN (rB ls):=by
  rw[8];refine cD (IJ L.ok () rfl) (by simp) ?_
  have c:bV .a (aw (ai qt (aN cR (aF (aB 1) aJ)) (eC (.int 1)))) [s0 (ay ls),aa (1,lN (cG ls).2)]=aa (decide (1<(cG ls).2.length)):=dZ (aO (aY rfl (CF _)) rfl (by
   show aa (kT (decide (((cG ls).2.length:Int) > 1)))=_
   congr 2
   rw[nL,decide_eq_true_eq,decide_eq_true_eq]
   lia))
  unfold rB;by_cases h:1<(cG ls).2.length
  .rw[if_pos h];rw[decide_eq_true h] at c;refine⟨.rt (lN (cG ls).2),?_,_,rfl,rfl⟩;show(bV .a _ [s0 (ay ls),aa (1,lN (cG ls).2)]).bind _=_;rw[c]
   rfl
  .rw[if_neg h];rw[decide_eq_false h] at c;refine⟨.rt (lN []),?_,_,rfl,rfl⟩;show(bV .a _ [s0 (ay ls),aa (1,lN (cG ls).2)]).bind _=_;rw[c]
   rfl
 grind
section
variable {B:aE->ga}
theorem j5 (b:Bk kds B wd)(h6:∀ t,(B t).length<=m)(L:Lok m ls):Ep [.dict kds,ay ls]=aa .none:=by
 have n4:=L.n4;have hr:=KH ls;have Q3:(rB ls).length<=5/\(∀ k∈rB ls,k<ls.length)/\m^(rB ls).length<=4096:=by
  unfold rB;split
  .exact⟨(),λk m=>vR m,L.pw⟩
  .exact⟨by simp,λk m=>by simp at m,by simp⟩
 have e1:=gA (cap:=[ab,aa 1]) (fi:=bg (aN yD (aF (aB 1) aJ))) (T:=gB 0) (t:=cX) (f:=ai au (aB 1) (aB 0)) (Y:=vS [s0 (.dict kds),s0 (ay ls)]) (λ_=>af) (λk=>bG (ls.getD k cc)) (fG (aY rfl (Tg L))) () λk mk=>⟨[aa (.int k),aa (ay ls)],rfl,rfl,λ_=>aO rfl rfl (pR (Q3.2.1 k mk))⟩
 rw[lY.2 λ_ _=>rfl] at e1
 have e2:=M3 b ((rB ls).map λk=>ls.getD k cc) (by rw[cJ];lia) (dI (Fy L.m1 h6 _) (by rw[cJ];exact Q3.2.2))
 rw[dC] at e2;show outD (FF [s0 (.dict kds),s0 (ay ls)])=_;have e3:eV 0 .s (aN NG (aF (aB 0) (aF (aN iO (aF (cu [ab,aa 1] (bg (aN yD (aF (aB 1) aJ))) (gB 0) cX (ai au (aB 1) (aB 0))) aJ)) aJ))) [s0 (.dict kds),s0 (ay ls)]=aa .none:=
  aY (aX rfl (aX (aY (aX e1 rfl) rfl) rfl)) e2
 unfold FF qY;rw[e3]
 rfl
end
def Up (R:ga):Prop:=R.Nodup/\R.Pairwise λa b=>leT (a.map aT) (b.map aT)=af
theorem OH(hn:R.Nodup):Up (lu R):=by
 refine⟨(JO R).nodup_iff.2 hn,?_⟩;have h:=MY (R.map λr=>r.map aT)
 have e:iD (R.map λr=>r.map aT)=(lu R).map λr=>r.map aT:=by
  unfold lu;rw[dC];refine(List.map_id' _).symm.trans (jD λk mk=>?_)
  obtain⟨a,_,rfl⟩:=bK.1 ((tQ _).mem_iff.1 mk);show _=((a.map aT).map rq).map aT;rw[tL]
 rw[e] at h;exact wZ.1 h
theorem Up.sub {S:ga}(h:Up S)(s:R.Sublist S):Up R:=⟨List.Nodup.sublist s h.1,h.2.sublist s⟩
theorem JY {α:Type}{ls:Nat->aao}{cm:Nat->Nat->aak}(a b:α->Nat):∀ (xs:List α) (t:dH),(∀ x∈xs,a x<t.length)->∀ i,((xs.foldl (λt x=>ju ls cm t (a x) (b x)) t).getD i []).Sublist (t.getD i [])
 |[],t,_,i=>List.Sublist.refl _
 |x::xs,t,h,i=>by
  rw[lW];exact(JY a b xs _ (λy m=>by rw[vN];exact h y (bL _ m)) i).trans (IQ (h x bE) i)
abbrev lA (ls:aaq)(t:dH)(v:aE->Int):Prop:=∀ j,j<ls.length->(ck ls j).map (tv v)∈t.getD j []
structure Kpt (m:Nat)(ls:List Ln)(t:dH):Prop where
 len:t.length=ls.length
 few:∀ k,(t.getD k []).length<=m
 up:∀ k,Up (t.getD k [])
 fit:jH (ck ls) t
theorem Yz(L:Lok m ls){t0:dH}(T:Kpt m ls t0) :
  ∃ t:dH,MC [ay ls,bj t0]=aa (bj t)/\Kpt m ls t/\∀ k,k<ls.length->∀ r,r∈t.getD k [] ↔ ∃ v,lA ls t0 v/\r=(ck ls k).map (tv v):=by
 have n4:=L.n4;obtain⟨l0,z0,u0,f0⟩:=T;have E:=ED ls;obtain⟨s1,s2⟩:=tM E;have b2:∀ q∈(cG ls).1,q.2<t0.length:=λq m=>by rw[l0];exact(s2 q m).2
 obtain⟨_,f1,l1⟩:=NW (OJ ls) f0 b2;have v1:∀ i,((oe (ck ls) (jq ls) t0 (cG ls).1).getD i []).Sublist (t0.getD i []):=JY (λq:Nat×Nat=>q.2) (λq=>q.1) (cG ls).1 t0 b2
 have e1:=Xn L.ok () l0 f0 λk=>dI (z0 k) (by have:=L.m60;lia)
 have R:=λ(h1:_) (h2:_) (l2:_)=>Zn (t2:=kJ ls (oe (ck ls) (jq ls) t0 (cG ls).1)) (OJ ls) f0 (by rw[l0];exact E) l2 h1 h2
 generalize oe (ck ls) (jq ls) t0 (cG ls).1=t1 at f1 l1 v1 e1 R;have IO:=l1.trans l0;have z1:∀ k,(t1.getD k []).length<=m:=λk=>dI (v1 k).length_le (z0 k)
 have e2:=f6 L IO z1;have w2:∀ j,(kJ ls t1).getD j []=if j∈(cG ls).2 then sE ls t1 j else t1.getD j []:=VA (cG ls).2 t1 λk m=>by rw[IO];exact vR m
 have l2:(kJ ls t1).length=t1.length:=Ie _ _;have x2:∀ k∈(cG ls).2,∀ r,r∈sE ls t1 k↔r∈(fO (gZ ls t1)).map λkn=>(ck ls k).map (tv (eD kn)):=λk _ r=>by
  unfold sE;rw[Alb,Ae6]
 have f2:jH (ck ls) (kJ ls t1):=λk r m=>by
  rw[w2 k] at m;by_cases q:k∈(cG ls).2
  .rw[if_pos q] at m;obtain⟨kn,_,rfl⟩:=bK.1 ((x2 k q r).1 m);exact⟨_,rfl⟩
  .rw[if_neg q] at m;exact f1 k r m
 have z2:∀ k,((kJ ls t1).getD k []).length<=m:=λk=>by
  rw[w2 k];split
  .rename_i q;unfold sE;rw[Hu];exact dI (YC λr m=>Gq q m) (z1 k)
  .exact z1 k
 have u2:∀ k,Up ((kJ ls t1).getD k []):=λk=>by
  rw[w2 k];split
  .exact OH (Hw _)
  .exact(u0 k).sub (v1 k)
 have R:=R (λk q r=>by
  have q:=q;rw[w2 k,if_pos q,x2 k q r];have:=L9 (ps:=gZ ls t1) (bK.2 ⟨k,q,rfl⟩) (r:=r);refine this.trans ⟨?_,?_⟩
  .rintro⟨v,h,e⟩;exact⟨v,λj hj=>h (ls.getD j cc,t1.getD j []) (bK.2 ⟨j,hj,rfl⟩),e⟩
  .rintro⟨v,h,e⟩;refine⟨v,λp mp=>?_,e⟩
   obtain⟨j,hj,rfl⟩:=bK.1 mp;exact h j hj) (λk q=>by
  have q:=q;rw[w2 k,if_neg q]) (l2.trans l1)
 have e3:=b8 L.ok () (l2.trans IO) f2 λk=>dI (z2 k) (by have:=L.m60;lia)
 have b3:∀ q∈(cG ls).1,q.1<(kJ ls t1).length:=λq m=>by rw[l2,IO];exact(s2 q m).1
 obtain⟨_,f3,l3⟩:=OB (OJ ls) f2 b3;have v3:∀ i,((lh (ck ls) (jq ls) (kJ ls t1) (cG ls).1).getD i []).Sublist ((kJ ls t1).getD i []):=JY (λq:Nat×Nat=>q.1) (λq=>q.2) (cG ls).1.reverse _ λq m=>b3 q (List.mem_reverse.1 m)
 refine⟨lh (ck ls) (jq ls) (kJ ls t1) (cG ls).1,?_,⟨l3.trans (l2.trans IO),λk=>dI (v3 k).length_le (z2 k),λk=>(u2 k).sub (v3 k),f3⟩,λk hk r=>by rw[R k (by rw[l0];exact hk) r,l0];rfl⟩
 have:∃ d,MC [ay ls,bj t0]=aa d/\d=bj (lh (ck ls) (jq ls) (kJ ls t1) (cG ls).1):=by
  rw[8];exact cQ (aY (aX rfl (aX (aY (aX rfl (aX (aY rfl e1) rfl)) e2) rfl)) e3) ⟨_,rfl,rfl⟩
 rw[3]
section
variable {G:SF}{P:Out->Prop}{m:Md}
def zW (I:aR->Prop)(R:aA->Prop)(o:Out):Prop:=(∃ ρ',o=.nx ρ'/\I ρ')\/∃ d,o=.rt d/\R d
theorem SM {T:aA->aR->Option aR}(I:Nat->aR->Prop)(R:aA->Prop):∀ (ds:aah) (Y:aR) (n:Nat),I n Y->(∀ i d Y,ds[i]?=aa d->I (n+i) Y->∃ ρ1,T d Y=aa ρ1/\Goes F ρ1 (zW (I (n+i+1)) R))->∃ o,iL F T ds Y=aa o/\zW (I (n+ds.length)) R o
 |[],Y,n,h0,_=>⟨_,rfl,.inl ⟨Y,rfl,h0⟩⟩
 |d::ds,Y,n,h0,step=>by
  obtain⟨ρ1,e1,o,e2,h⟩:=step 0 d Y rfl h0;unfold iL;rw[e1,bQ,e2,bQ];rcases h with⟨ρ2,rfl,h⟩|⟨r,rfl,h⟩
  .have:=SM I R ds ρ2 (n+1) h λi d Y e hi=>by
    have:=step (i+1) d Y e (by rw[<-GA,Nat.add_right_comm];exact hi)
    rwa [show n+(i+1)+1=n+1+i+1 by lia] at this
   grind
  .exact⟨_,rfl,.inr ⟨r,rfl,h⟩⟩
theorem CH {fi:AF}{T:aA->aR->Option aR}(I:Nat->aR->Prop)(R:aA->Prop)(h:aV m fi Y=aa ds)(hl:ds.length=n)(h0:I 0 Y)(step:∀ i d Y,ds[i]?=aa d->I i Y->∃ ρ1,T d Y=aa ρ1/\Goes F ρ1 (zW (I (i+1)) R)):Goes (cT m fi T F) Y (zW (I n) R):=by
 subst hl;obtain⟨o,e,q⟩:=SM I R ds Y 0 h0 λi d Y e hi=>by simpa using step i d Y e (by simpa using hi)
 exact⟨o,DM h e,by simpa using q⟩
theorem DL (I:aR->Prop)(R:aA->Prop)(h:Goes F Y (zW I R))(k1:∀ d,R d->P (.rt d))(k2:∀ ρ',I ρ'->Goes G ρ' P):Goes (aW F G) Y P:=by
 obtain⟨o,e,⟨ρ',rfl,h⟩|⟨d,rfl,h⟩⟩:=h
 .exact fT e (k2 ρ' h)
 .exact CP e (k1 d h)
end
def ft (a b:aal):Prop:=cA (a.map aT)<cA (b.map aT)
theorem Ael {i:Int}{a b:aal}:ft (i::a) (j::b)↔i<j\/i=j/\ft a b:=yH i j _ _
theorem vI (a:aal):¬ ft a a:=Js _
theorem CJ:∀ {a b:aal},a.length=b.length->∀ {c d:aal},ft (a++c) (b++d)↔ft a b\/a=b/\ft c d
 |[],[],_,c,d=>by simp[vI]
 |i::a,j::b,h,c,d=>by
  rw[xF,xF,Ael,Ael,CJ (by simpa using h),Kb]
  grind
theorem JH:∀ {a b:aal},a.length=b.length->a=b\/ft a b\/ft b a
 |[],[],_=>.inl rfl
 |i::a,j::b,h=>by
  have:=JH (by simpa using h)
  rw[Ael,Ael,Kb]
  grind
theorem WX {α:Type}[DecidableEq α]:∀ (zs N:List α),∃ M,zs.foldl dP N=N++M
 |[],N=>⟨[],by simp⟩
 |z::zs,N=>by
  obtain⟨M,e⟩:=WX zs (dP N z);rw[lW,e];unfold dP;split
  .exact⟨M,rfl⟩
  .exact⟨z::M,by simp⟩
theorem WL {N:aak}(h:ft (N.map v) (N.map w))(zs:aak):ft ((zs.foldl dP N).map v) ((zs.foldl dP N).map w):=by
 obtain⟨M,e⟩:=WX zs N;rw[e,iH,iH,CJ (by simp)]
 exact .inl h
theorem JS:∀ (ks:aao) (N:aak) {v w:aE->Int},(∀ z∈N,v z=w z)->ft (ks.map (tv v)) (ks.map (tv w))->ft (((dD ks).foldl dP N).map v) (((dD ks).foldl dP N).map w)
 |[],N,v,w,_,h=>absurd h (vI _)
 | .inl i::ks,N,v,w,hN,h=>JS ks N hN (by
  rcases Ael.1 h with h|h
  .exact absurd h (Int.lt_irrefl i)
  .exact h.2)
 |.inr z::ks,N,v,w,hN,h=>by
  show ft (((dD ks).foldl dP (dP N z)).map v) (((dD ks).foldl dP (dP N z)).map w);rcases Ael.1 h with h|⟨e,h⟩
  .refine WL ?_ _;have h:v z<w z:=h;have nz:z∉N:=λm=>by rw[hN z m] at h;exact absurd h (Int.lt_irrefl _)
   unfold dP;rw[if_neg nz,iH,iH,CJ (by simp)]
   exact .inr ⟨jD hN,Ael.2 (.inl h)⟩
  .refine JS ks _ (λx m=>?_) h
   rcases An1.1 m with m|rfl
   .exact hN x m
   .exact e
def iT (B:aE->ga)(ls:aaq)(v:aE->Int):Prop:=∀ l∈ls,l.2.map (tv v)∈B l.1
theorem Ct(h:k<ls.length):bT (ls.take (k+1))=(dD (ck ls k)).foldl dP (bT (ls.take k)):=by
 have e:ls.getD k cc=ls[k]:=by simp[jE,h]
 unfold bT gG ck;rw[M9 h,List.flatMap_append,uK,e,AQ,List.flatMap_nil,kW]
structure Ahd (m:Nat)(B:aE->List (List Int))(ls:List Ln)(k:Nat)(t:dH)(kn:Kn):Prop where
 kp:Kpt m ls t
 kl:kn.length<=6*k
 ex:0<k->∃ v,lA ls t v
 sol:∀ v,lA ls t v->iT B ls v/\tJ kn v
 dom:∀ z∈bT (ls.take k),∃ u,cB kn z=aa u
 lst:∀ w,iT B ls w->lA ls t w\/∃ v,lA ls t v/\ft ((bT (ls.take k)).map v) ((bT (ls.take k)).map w)
theorem Ahd.next{B:aE->ga}{t':dH}{kn:Kn}(A:Ahd m B ls k t kn)(L:Lok m ls)(hk:k<ls.length)(K:Kpt m ls t')(hm:∀ k,k<ls.length->∀ r,r∈t'.getD k [] ↔ ∃ v,lA ls t v/\r=(ck ls k).map (tv v)) :
  (t'.getD k []=[]/\∀ w,¬ iT B ls w)\/∃ r R ar,t'.getD k []=r::R/\eQ (ck ls k) r kn=aa ar/\Ahd m B ls (k+1) (t'.set k [r]) ar:=by
 cases e:t'.getD k [] with
 |nil=>
  refine .inl ⟨rfl,λw hw=>?_⟩
  have no:∀ v,¬ lA ls t v:=λv hv=>by
   have:=(hm k hk _).2 ⟨v,hv,rfl⟩;rw[e] at this;cases this
  rcases A.lst w hw with h|⟨v,h,_⟩<;>exact no _ h
 |cons r R=>
  obtain⟨v0,h0,e0⟩:=(hm k hk r).1 (by rw[e];exact bE)
  obtain⟨ar,ef,ag⟩:=KY (A.sol v0 h0).2;rw[<-e0] at ef;have at_:∀ j,(t'.set k [r]).getD j []=if j=k then [r] else t'.getD j []:=λj=>by
   grind
  have W':∀ v,lA ls (t'.set k [r]) v↔lA ls t v/\(ck ls k).map (tv v)=r:=λv=>by
   grind
  have s0:=(W' v0).2 ⟨h0,e0.symm⟩;have vo:∀ {v w},lA ls t v->lA ls t w->∀ z∈bT (ls.take k),v z=w z:=λ{v w} hv hw z m=>by
   obtain⟨u,eu⟩:=A.dom z m;rw[<-(A.sol v hv).2 z u eu,<-(A.sol w hw).2 z u eu]
  have w6:=(L.atR hk).1.1;refine .inr ⟨r,R,ar,rfl,ef,⟨by rw[xB];exact K.len,λj=>?_,λj=>?_,λj x m=>?_⟩,?_,?_,λv h=>?_,λz m=>?_,λw hw=>?_⟩
  .rw[at_];split
   .exact L.m1
   .exact K.few j
  .rw[at_];split
   .exact⟨by simp,by simp⟩
   .exact K.up j
  .rw[at_] at m;split at m
   .rename_i q;subst q;exact⟨v0,(cF.1 m).trans e0⟩
   .exact K.fit j x m
  .have:=WM ef;have:=A.kl;unfold ck at *
   lia
  .exact λ_=>⟨v0,s0⟩
  .obtain⟨h1,h2⟩:=(W' v).1 h;obtain⟨kn2,e2,a2⟩:=KY (A.sol v h1).2;rw[h2,ef] at e2;cases e2;exact⟨(A.sol v h1).1,a2⟩
  .rw[Ct hk] at m;rcases(LK _ _).1 m with m|m
   .obtain⟨u,eu⟩:=A.dom z m;exact⟨u,(ND ef).2.1 z u eu⟩
   .exact⟨_,(YJ ef).2 z (Aeo.1 m)⟩
  .rw[Ct hk];rcases A.lst w hw with h|⟨v,h,lt⟩
   .have mw:=(hm k hk _).2 ⟨w,h,rfl⟩;by_cases q:(ck ls k).map (tv w)=r
    .exact .inl ((W' w).2 ⟨h,q⟩)
    .refine .inr ⟨v0,s0,JS _ _ (vo h0 h) ?_⟩;rw[<-e0];rw[e] at mw;have up:=K.up k;rw[e] at up;rcases cV.1 mw with z|mw
     .exact absurd z q
     .have le:=Afw.1 (List.rel_of_pairwise_cons up.2 mw);rcases JH (a:=r) (b:=(ck ls k).map (tv w)) (by rw[e0];simp) with z|z|z
      .exact absurd z.symm q
      .exact z
      .exact absurd z le
   .refine .inr ⟨v0,s0,WL ?_ _⟩
    rwa [jD (vo h0 h)]
theorem Rt {a b:aal}(h:ft a b):¬ ft b a:=LG _ _ h
theorem DY:∀ ls:aaq,(∀ l∈ls,l.2.length<=6)->(ls.flatMap λl=>dD l.2).length<=6*ls.length
 |[],_=>bB _
 |l::r,h=>by
  have a:=DY r λx m=>h x (bL _ m)
  have b:=h l bE;have c:(dD l.2).length<=l.2.length:=xD ..;rw[AQ,rT,fA]
  lia
theorem ZC (ls:aaq)(h:∀ l∈ls,l.2.length<=6):(bT ls).length<=6*ls.length:=by
 have h1:=zK (ls.flatMap λl=>dD l.2) []
 have h2:=DY ls h;unfold bT gG;rw[List.length_nil,Nat.zero_add] at h1
 lia
section
variable {B:aE->ga}
theorem Ku(h5:∀ t,(B t).length<=m)(nd:∀ t,(B t).Nodup)(ls:aaq):Ahd m B ls 0 (ls.map (jr B)) []:=by
 have at_:∀ k,(ls.map (jr B)).getD k []=if k<ls.length then jr B (ls.getD k cc) else []:=λk=>by
  rw[jE,eU,jE];by_cases h:k<ls.length<;>simp[h]
 refine⟨⟨cJ _,λk=>?_,λk=>?_,Rf ls⟩,bB _,(λh=>nomatch h),λv h=>⟨λl m=>?_,(λ_ _ h=>nomatch h)⟩,(λ_ h=>nomatch h),λw hw=>.inl λj hj=>?_⟩
 .rw[at_];split
  .exact dI (Ux _ _) (h5 _)
  .simp
 .rw[at_];split
  .exact OH (List.Nodup.sublist List.filter_sublist (nd _))
  .exact⟨AN,Kc⟩
 .obtain⟨j,hj,rfl⟩:=qJ m;have:=h j hj;rw[at_,if_pos hj] at this;have:=(Ato.1 this).1;unfold ck at this
  rwa [show ls.getD j cc=ls[j] by simp[jE,hj]] at this
 .rw[at_,if_pos hj];exact Ato.2 ⟨hw _ (getD_mem cc hj),w,rfl⟩
theorem q8 (b:Bk kds B wd)(h5:∀ t,(B t).length<=m)(nd:∀ t,(B t).Nodup)(L:Lok m ls) :
  (EX [.dict kds,ay ls]=aa .none/\∀ w,¬ iT B ls w)\/∃ v,EX [.dict kds,ay ls]=aa (aZ ((bT ls).map v))/\iT B ls v/\∀ w,iT B ls w->¬ ft ((bT ls).map w) ((bT ls).map v):=by
 have n4:=L.n4;have h6:∀ l∈ls,l.2.length<=6:=λl m=>(L.ok l m).1
 have:∃ d,EX [.dict kds,ay ls]=aa d/\((d=.none/\∀ w,¬ iT B ls w)\/∃ v,d=aZ ((bT ls).map v)/\iT B ls v/\∀ w,iT B ls w->¬ ft ((bT ls).map w) ((bT ls).map v)):=by
  rw[8];refine cD (aY rfl (j6 b h6 ())) (by simp) ?_
  refine cD rfl (by simp) ?_
  let I:Nat->aR->Prop:=λk Y=>∃ c t kn x4 x5,Y=[s0 (.dict kds),s0 (ay ls),aa (c,bj t),s0 (bx kn),x4,x5]/\Ahd m B ls k t kn
  have ei:=Rh (f:=aB 1) (Y:=vS [s0 (.dict kds),s0 (ay ls),aa (1,bj (ls.map (jr B))),s0 (.dict []),ab,ab]) bG cc rfl;refine DL (I ls.length) (λd=>d=.none/\∀ w,¬ iT B ls w) ?_ (λd h=>⟨d,rfl,.inl h⟩) ?_
  .refine CH I _ (du ei) (by simp) ⟨1,_,[],ab,ab,rfl,Ku h5 nd ls⟩ ?_
   rintro k d _ hd ⟨c,t,kn,x4,x5,rfl,A⟩;have hk:k<ls.length:=by simpa using(cK.1 hd).1
   have ed:d=.tuple [.int k,bG (ls.getD k cc)]:=by
    rw[eU,QU hk] at hd;exact(dY hd).symm
   subst ed;refine⟨[s0 (.dict kds),s0 (ay ls),aa (c,bj t),s0 (bx kn),s0 (.int k),s0 (bG (ls.getD k cc))],rfl,iV ?_⟩;obtain⟨t',e1,K,hm⟩:=Yz L A.kp;refine cD (aY rfl e1) (by simp[frz]) ?_
   have ce:k<t'.length:=by rw[K.len];exact hk
   have ix:=sN ce;have len:bV .a (aw (ai de (aN cR (aF (ai au (aB 2) (aB 4)) aJ)) (eC (.int 0)))) [s0 (.dict kds),s0 (ay ls),aa (1,bj t'),s0 (bx kn),s0 (.int k),s0 (bG (ls.getD k cc))]=aa (decide ((t'.getD k []).length=0)):=dZ (aO (aY (aX (aO rfl rfl ix) rfl) (vB _)) rfl (by rw[cJ];exact vq _ 0))
   rcases A.next L hk K hm with⟨e,no⟩|⟨r,R,ar,e,ef,A'⟩
   .rw[e] at len;exact mW (fS len (cQ rfl ⟨_,rfl,.inr ⟨_,rfl,rfl,no⟩⟩))
   .rw[e] at len ix;refine fI (λρ'=>ρ'=[s0 (.dict kds),s0 (ay ls),aa (1,bj t'),s0 (bx kn),s0 (.int k),s0 (bG (ls.getD k cc))]) (jY len (jZ ⟨_,rfl,rfl⟩)) ?_
    rintro _ rfl;have es:oH (ai au (aB 2) (aB 4)) oN (oS (eC (.int 1))) (vA [s0 (.dict kds),s0 (ay ls),aa (1,bj t'),s0 (bx kn),s0 (.int k),s0 (bG (ls.getD k cc))])=aa (bC [r]):=by
     rw[yA (aO rfl rfl ix) rfl rfl];exact congrArg (λx=>aa (qG x)) (BP (by simp))
    refine fI (λρ'=>ρ'=[s0 (.dict kds),s0 (ay ls),aa (1,bj (t'.set k [r])),s0 (bx kn),s0 (.int k),s0 (bG (ls.getD k cc))]) (KG es (DJ _) rfl rfl (vF (by simpa using ce)) ⟨_,rfl,?_⟩) ?_
    .rw[BS]
     rfl
    rintro _ rfl;refine iV ?_;have yf:au (bj (t'.set k [r])) (.int k)=aa (bC [r]):=by
     rw[sN (by simpa using ce),jE,nK ce]
     rfl
    have e3:=CU (.str (ls.getD k cc).1) (ck ls k) r kn (dI (L.atR hk).1.1 nofun) (by have:=A.kl;lia)
    rw[ef] at e3;exact CZ (aY (aX rfl (aX (aO (aO rfl rfl yf) rfl (yJ rfl)) rfl)) e3) (by simp[frz]) (.inl ⟨_,rfl,0,_,ar,_,_,rfl,A'⟩)
  rintro _ ⟨c,t,kn,x4,x5,rfl,A⟩;obtain⟨kp,kl,ex,sol,dom,lst⟩:=A;rw[wY] at dom lst;obtain⟨v,hv⟩:∃ v,lA ls t v:=by
   cases q:ls.length with
   |zero=>exact⟨λ_=>0,λj hj=>()⟩
   |succ n=>exact ex ()
  have same:∀ w,lA ls t w->(bT ls).map w=(bT ls).map v:=λw hw=>jD λz m=>by
   obtain⟨u,eu⟩:=dom z m;rw[<-(sol w hw).2 z u eu,<-(sol v hv).2 z u eu]
  have ep:=ZZ (by
   have:=ZC ls h6
   lia) dom
  have er:rowOf (bT ls) kn=(bT ls).map v:=jD λz m=>by
   obtain⟨u,eu⟩:=dom z m;rw[eu,<-(sol v hv).2 z u eu]
   rfl
  rw[er] at ep;refine iV (cQ (aY (aX (aY rfl (EB L.ok ())) rfl) ep) ⟨_,rfl,.inr ⟨v,rfl,(sol v hv).1,λw hw lt=>?_⟩⟩)
  rcases lst w hw with h|⟨v',h,l2⟩
  .rw[same w h] at lt;exact vI _ lt
  .rw[same v' h] at l2;exact Rt lt l2
 obtain⟨d,e,⟨rfl,no⟩|⟨v,rfl,h⟩⟩:=this
 .exact .inl ⟨e,no⟩
 .exact .inr ⟨v,e,h⟩
end
theorem Ro{P:Out->Prop}(h:f (vS Y)=aa d)(k:P (.nx Y)):Goes (qY .s f) Y P:=⟨_,by
 unfold qY;rw[show eV 0 .s f Y=aa d from h]
 rfl,k⟩
theorem Re (w:aE->Int):tJ [] w:=λ_ _ h=>nomatch h
def rY (B:aE->ga)(ls:aaq)(d:aA):Prop:=(d=.none/\∀ w,¬ iT B ls w)\/∃ v,d=aZ ((bT ls).map v)/\iT B ls v/\∀ w,iT B ls w->¬ ft ((bT ls).map w) ((bT ls).map v)
theorem Tx {B:aE->ga}{d':aA}(h:rY B ls d)(h':rY B ls d'):d=d':=by
 rcases h with⟨rfl,h⟩|⟨v,rfl,s,h⟩<;>rcases h' with⟨rfl,h'⟩|⟨v',rfl,s',h'⟩
 .rfl
 .exact absurd s' (h v')
 .exact absurd s (h' v)
 .rcases JH (a:=(bT ls).map v) (b:=(bT ls).map v') (by simp) with e|e|e
  .rw[e]
  .exact absurd e (h' v s)
  .exact absurd e (h v' s')
section
variable {B:aE->ga}
theorem Ws (b:Bk kds B wd)(h5:∀ t,(B t).length<=m)(nd:∀ t,(B t).Nodup)(L:Lok m ls):∃ d,Eg [.dict kds,ay ls]=aa d/\rY B ls d:=by
 rw[8];refine fI (λρ'=>ρ'=[s0 (.dict kds),s0 (ay ls)]) (Ro (aY rfl (j5 b h5 L)) ⟨_,rfl,rfl⟩) ?_
 rintro _ rfl;rcases q8 b h5 nd L with⟨e,no⟩|⟨v,e,h⟩
 .exact cQ (aY rfl e) ⟨_,rfl,.inl ⟨rfl,no⟩⟩
 .exact cQ (aY rfl e) ⟨_,rfl,.inr ⟨v,rfl,h⟩⟩
end
theorem CG {xs ys:aah}(h:xs.length+ys.length<=100000):pX (.list xs) (.list ys)=aa (.list (xs++ys)):=if_pos (pT h)
theorem LV:∀ ks:aao,(ks.filter isS).map kD=(dD ks).map cE
 |[]=>rfl
 |.inl _::ks=>LV ks
 |.inr z::ks=>congrArg (cE z :: ·) (LV ks)
theorem F6 {α:Type}[DecidableEq α](zs:List α)(z:α):gG (zs++[z])=dP (gG zs) z:=uK
theorem XT (zs:aak)(d0:aE):∀ m,m<=zs.length->((bW m).filter λk=>decide (zs.getD k d0∉zs.take k)).map (λk=>cE (zs.getD k d0))=(gG (zs.take m)).map cE
 |0,_=>by simp[gG]
 |m+1,h=>by
  have e:zs.getD m d0=zs[m]:=by simp[jE,Nat.lt_of_succ_le h]
  rw[List.range_succ,List.filter_append,iH,XT zs d0 m (Jm h),M9 h,F6];unfold dP;by_cases q:zs[m]∈zs.take m
  .rw[if_pos (Ae6.2 q),List.filter_cons_of_neg (by rw[e];simpa using q)]
   simp
  .rw[if_neg λz=>q (Ae6.1 z),List.filter_cons_of_pos (by rw[e];simpa using q)]
   grind
instance (a b:aal):Decidable (ft a b):=inferInstanceAs (Decidable (cA _<cA _))
theorem G7 {a b c:aal}(h:ft a b)(h':ft b c):ft a c:=List.lt_trans h h'
theorem LJ {bt:Nat->Nat->Bool}(ir:∀ i,bt i i=ah)(tr:∀ i j k,bt i j=af->bt j k=af->bt i k=af):∀ n j,j<=n->bt j (nG bt n)=ah
 |0,j,h=>by rw[Nat.le_zero.1 h];exact ir 0
 |n+1,j,h=>by
  have ih:=LJ ir tr n;unfold nG
  grind
theorem Pf {G:ga}(hw:∀ r∈G,r.length=n)(hn:G≠[])(nn:Bool):∃ x∈G,pI nn [bC G]=aa (aZ x)/\∀ y∈G,¬ ft y x:=by
 have at_:∀ i,(G.map aZ).getD i .none=if i<G.length then aZ (G.getD i []) else .none:=λi=>by
  grind
 have lt:∀ i j,i<G.length->j<G.length->lr ((G.map aZ).getD i .none) ((G.map aZ).getD j .none)=decide (ft (G.getD i []) (G.getD j [])):=λi j hi hj=>by
  rw[at_,if_pos hi,at_,if_pos hj]
  rfl
 have no:∀ i d,¬ i<G.length->lr ((G.map aZ).getD i .none) d=ah/\lr d ((G.map aZ).getD i .none)=ah:=λi d h=>by
  rw[at_,if_neg h];exact⟨by cases d<;>rfl,by cases d<;>rfl⟩
 obtain⟨m,hm⟩:∃ m,G.length=m+1:=⟨G.length-1,by have:=Ju.2 hn;lia⟩
 have sp:=LJ (bt:=λi j=>lr ((G.map aZ).getD i .none) ((G.map aZ).getD j .none)) (λi=>by
  by_cases h:i<G.length
  .rw[lt i i h h];exact decide_eq_false (vI _)
  .exact(no i _ h).1) (λi j k h1 h2=>by
  by_cases hi:i<G.length
  .by_cases hk:k<G.length
   .by_cases hj:j<G.length
    .rw[lt i j hi hj] at h1;rw[lt j k hj hk] at h2;rw[lt i k hi hk];exact decide_eq_true (G7 (of_decide_eq_true h1) (of_decide_eq_true h2))
    all_goals grind
   all_goals grind
  .rw[(no i _ hi).1] at h1;cases h1) m
 have hb:fP (G.map aZ) m<G.length:=by
  have:=zO (λi j=>lr ((G.map aZ).getD i .none) ((G.map aZ).getD j .none)) m
  unfold fP
  lia
 have ok:ue (G.map aZ)=af:=by
  unfold ue;rw[LP];refine Ko.2 (.inr (cY.2 λa ma=>cY.2 λc mc=>?_))
  obtain⟨a,m1,rfl⟩:=bK.1 ma;obtain⟨c,m2,rfl⟩:=bK.1 mc;exact MG a c ((hw a m1).trans (hw c m2).symm)
 refine⟨G.getD (fP (G.map aZ) m) [],getD_mem [] hb,?_,λy my=>?_⟩
 .show(if ue (G.map aZ)=af/\(G.map aZ=[]->nn=af) then aa (match G.map aZ with|[]=>PyData.none|_::r=>(G.map aZ).getD (fP (G.map aZ) r.length) .none) else ab)=_
  grind
 .obtain⟨j,hj,rfl⟩:=qJ my;have:=sp j ()
  have:=of_decide_eq_false ((lt j _ hj hb).symm.trans this)
  grind
theorem TV(hl:is.length=n+1):∃ x∈is,(is.map aT).getD (fP (is.map aT) n) .none=.int x/\∀ y∈is,¬ y<x:=by
 have at_:∀ i,(is.map aT).getD i .none=if i<is.length then .int (is.getD i 0) else .none:=λi=>by
  grind
 have lt:∀ i j,i<is.length->j<is.length->lr ((is.map aT).getD i .none) ((is.map aT).getD j .none)=decide (is.getD i 0<is.getD j 0):=λi j hi hj=>by
  rw[at_,if_pos hi,at_,if_pos hj]
  rfl
 have no:∀ i d,¬ i<is.length->lr ((is.map aT).getD i .none) d=ah/\lr d ((is.map aT).getD i .none)=ah:=λi d h=>by
  rw[at_,if_neg h];exact⟨by cases d<;>rfl,by cases d<;>rfl⟩
 have sp:=LJ (bt:=λi j=>lr ((is.map aT).getD i .none) ((is.map aT).getD j .none)) (λi=>by
  by_cases h:i<is.length
  .grind
  .exact(no i _ h).1) (λi j k h1 h2=>by
  by_cases hi:i<is.length
  .grind
  .rw[(no i _ hi).1] at h1;cases h1) n
 have hb:fP (is.map aT) n<is.length:=by
  have:=zO (λi j=>lr ((is.map aT).getD i .none) ((is.map aT).getD j .none)) n
  unfold fP
  lia
 refine⟨is.getD (fP (is.map aT) n) 0,getD_mem 0 hb,?_,λy my=>?_⟩
 .rw[at_,if_pos hb]
 .obtain⟨j,hj,rfl⟩:=qJ my;have:=sp j ()
  have:=of_decide_eq_false ((lt j _ hj hb).symm.trans this)
  grind
theorem u4 {bs:List Bool}(h:bs≠[]):sC bs=bs.all id:=by
 have hl:(bs.map bI).length=(bs.length-1)+1:=by
  have:=Ju.2 h;rw[cJ]
  lia
 obtain⟨x,mx,e,lx⟩:=TV hl;rw[dC] at e;unfold sC;rw[show(bs.map λb=>aT (bI b))=bs.map (aT∘bI) from rfl,e]
 obtain⟨b,mb,rfl⟩:=bK.1 mx;cases q:bs.all id with
 |true=>
  have:=cY.1 q b mb;have:=this;rw[12];simp[bZ,bI]
 |false=>
  obtain⟨c,mc,hc⟩:=List.all_eq_false.1 q;have hc:c=ah:=by simpa using hc
  subst hc;have:=lx _ (bK.2 ⟨ah,mc,rfl⟩);cases b with
  |false=>simp[bZ,bI]
  |true=>exact absurd (show bI ah<bI af by decide) this
theorem XC(nn:Bool)(hn:is≠[]):∃ x∈is,pI nn [lI is]=aa (.int x)/\∀ y∈is,¬ y<x:=by
 obtain⟨m,hm⟩:∃ m,is.length=m+1:=⟨is.length-1,by have:=Ju.2 hn;lia⟩
 obtain⟨x,mx,e,lx⟩:=TV hm;refine⟨x,mx,?_,lx⟩;show(if ue (is.map aT)=af/\(is.map aT=[]->nn=af) then aa (match is.map aT with|[]=>PyData.none|_::r=>(is.map aT).getD (fP (is.map aT) r.length) .none) else ab)=_
 rw[if_pos ⟨by unfold ue;rw[zH];rfl,λz=>absurd (List.map_eq_nil_iff.1 z) hn⟩]
 grind
theorem Hk:pI af [.list []]=aa .none:=by
 show(if ue []=af/\(([]:aah)=[]->af=af) then aa PyData.none else ab)=_
 rw[if_pos ⟨rfl,λ_=>rfl⟩]
abbrev KI:=aag
def Q8 (p:aI×Int):aA×aA:=(kD p.1,.int p.2)
def DK (kn:KI):be:=kn.map Q8
noncomputable def fH (kn:KI)(k:aI):aas:=(kn.find? λp=>decide (p.1=k)).map (·.2)
theorem Mx (k:aI):kD k ≠ .none:=by cases k<;>exact λh=>nomatch h
theorem plI (kn:KI):dg (DK kn)=af:=yC λkd m=>by
 obtain⟨p,_,rfl⟩:=bK.1 m;exact Mx p.1
theorem II (kn:KI)(k:aI):bU (DK kn) k=(fH kn k).map aT:=by
 unfold bU fH DK;induction kn with
 |nil=>rfl
 |cons p r ih=>
  rw[cW,gD,gD];have:decide (bS (Q8 p).1=aa k)=decide (p.1=k):=by
   unfold Q8;rw[iX];simp
  rw[this];cases decide (p.1=k) with
  |true=>rfl
  |false=>exact ih
theorem ER (a b:KI)(k:aI):fH (a++b) k=(fH a k).or (fH b k):=by
 unfold fH
 grind
theorem LM (p:aI×Int)(k:aI):fH [p] k=if p.1=k then aa p.2 else ab:=by
 unfold fH
 grind
theorem LN {kn:KI}{k:aI}(h:∃ p∈kn,p.1=k):∃ u,fH kn k=aa u:=by
 cases e:fH kn k with
 |some u=>exact⟨u,rfl⟩
 |none=>
  obtain⟨p,mp,rfl⟩:=h;have:=QW.1 (FY.1 e) p mp;simp at this
theorem D9 {kn:KI}{k:aI}(h:fH kn k=aa u):∃ p∈kn,p.1=k:=by
 obtain⟨p,e,_⟩:=gM.1 h
 grind
theorem Qw {kn:KI}{k:aI}(h:fH kn k=ab)(v:Int):putD (DK kn) k (.int v)=DK (kn++[(k,v)]):=by
 unfold putD;have hn:¬ ((DK kn).any λkd=>decide (bS kd.1=aa k))=af:=λq=>by
  obtain⟨kd,m,e⟩:=GJ.1 q;obtain⟨p,mp,rfl⟩:=bK.1 m;have e:=of_decide_eq_true e;unfold Q8 at e;rw[iX] at e;obtain⟨u,eu⟩:=LN ⟨p,mp,dY e⟩;rw[h] at eu;cases eu
 rw[if_neg hn];unfold DK;rw[iH]
 rfl
def stepI (kn:KI)(p:aI×Int):Option KI:=match fH kn p.1 with
 |some u=>if u=p.2 then aa kn else ab
 |none=>aa (kn++[p])
theorem NR:∀ (ps:aag) (kn:KI),∃ ar bs,uZ (ps.map nO) (DK kn)=aa (DK ar,bs)/\bs.length=ps.length/\(bs.all id=af->cP stepI kn ps=aa ar)/\(bs.all id=ah->cP stepI kn ps=ab)
 |[],kn=>⟨kn,[],rfl,rfl,λ_=>rfl,λh=>nomatch h⟩
 |p::ps,kn=>by
  have e0:cP stepI kn (p::ps)=(stepI kn p).bind λb=>cP stepI b ps:=rfl
  have e1:uZ ((p::ps).map nO) (DK kn)=(rG (DK kn) (nO p)).bind λq=>(uZ (ps.map nO) q.1).bind λz=>aa (z.1,q.2::z.2):=rfl
  have e2:rG (DK kn) (nO p)=(bS (kD p.1)).bind λkey=>match bU (DK kn) key with
   |some (.int u)=>aa (DK kn,decide (u=p.2))
   |some _=>ab
   |none=>aa (putD (DK kn) key (.int p.2),af):=rfl
  rw[iX,bQ,II] at e2;cases h:fH kn p.1 with
  |some u=>
   rw[show stepI kn p=if u=p.2 then aa kn else ab by unfold stepI;rw[h]] at e0
   rw[h] at e2;have e2:rG (DK kn) (nO p)=aa (DK kn,decide (u=p.2)):=e2;obtain⟨ar,bs,e,hl,h1,h2⟩:=NR ps kn
   grind
  |none=>
   rw[show stepI kn p=aa (kn++[p]) by unfold stepI;rw[h]] at e0
   rw[h] at e2;have e2:rG (DK kn) (nO p)=aa (putD (DK kn) p.1 (.int p.2),af):=e2;rw[Qw h] at e2;obtain⟨ar,bs,e,hl,h1,h2⟩:=NR ps (kn++[p]);rw[e2,bQ] at e1;refine⟨ar,af::bs,e1.trans (by rw[show(DK (kn++[(p.1,p.2)]),af).1=DK (kn++[p]) from rfl,e];rfl),by simp[hl],λq=>?_,λq=>?_⟩
   .rw[e0];exact h1 q
   .rw[e0];exact h2 q
theorem A9 {kn ar:KI}(h:stepI kn p=aa ar):ar.length<=kn.length+1:=by
 unfold stepI at h
 grind
theorem J5 {kn ar:KI}(h:stepI kn p=aa ar):∀ q∈ar,q∈kn\/q=p:=by
 unfold stepI at h
 grind
theorem Xy {kn ar:KI}(h:stepI kn p=aa ar){k:aI}(e:fH kn k=aa u):fH ar k=aa u:=by
 unfold stepI at h;split at h
 .split at h
  .cases h;exact e
  .cases h
 .cases h;rw[ER,e];rfl
theorem foldI {P:KI->Prop}(hs:∀ {kn ar p},stepI kn p=aa ar->P kn->P ar):∀ {ps:aag} {kn ar:KI},cP stepI kn ps=aa ar->P kn->P ar
 |[],kn,ar,h,hp=>by cases h;exact hp
 |p::ps,kn,ar,h,hp=>by
  obtain⟨k1,h1,h2⟩:=ao (show(stepI kn p).bind (λb=>cP stepI b ps)=aa ar from h)
  exact foldI hs h2 (hs h1 hp)
theorem Aj:∀ {ps:aag} {kn ar:KI},cP stepI kn ps=aa ar->ar.length<=kn.length+ps.length
 |[],kn,ar,h=>by cases h;exact bB _
 |p::ps,kn,ar,h=>by
  obtain⟨k1,h1,h2⟩:=ao (show(stepI kn p).bind (λb=>cP stepI b ps)=aa ar from h)
  have:=A9 h1;have:=Aj h2;rw[fA]
  lia
theorem ZU:∀ {ps:aag} {kn ar:KI},cP stepI kn ps=aa ar->∀ q∈ar,q∈kn\/q∈ps
 |[],kn,ar,h,q,m=>by cases h;exact .inl m
 |p::ps,kn,ar,h,q,m=>by
  obtain⟨k1,h1,h2⟩:=ao (show(stepI kn p).bind (λb=>cP stepI b ps)=aa ar from h)
  rcases ZU h2 q m with m|m
  .rcases J5 h1 q m with m|rfl
   all_goals grind
  all_goals grind
def sk (kn:KI)(p:aI×Int):Bool:=match p.1 with
 |.inl i=>decide (fH kn (.inl i)=aa i)
 |.inr _=>af
def iC (kn:KI):Bool:=kn.all (sk kn)
theorem Agt {kn:KI}:iC kn=af ↔ ∀ i u,fH kn (.inl i)=aa u->u=i:=by
 unfold iC;rw[cY];constructor
 .intro h i u e;obtain⟨p,mp,ep⟩:=D9 e;have:=h p mp;unfold sk at this
  grind
 .intro h p mp;unfold sk;cases q:p.1 with
  |inr z=>rfl
  |inl i=>
   obtain⟨u,eu⟩:=LN ⟨p,mp,q⟩;exact decide_eq_true (by rw[eu,h i u eu])
noncomputable def pS (p:aI×Int):Option (aE×Int):=match p.1 with
 |.inr z=>aa (z,p.2)
 |.inl _=>ab
def strN (kn:KI):Kn:=kn.filterMap pS
theorem LS:∀ (kn:KI) (z:aE),cB (strN kn) z=fH kn (.inr z)
 |[],z=>rfl
 |p::kn,z=>by
  have ih:=LS kn z;unfold cB fH strN at *;rw[GG,gD];obtain⟨k,v⟩:=p;cases k with
  |inl i=>
   rw[show decide ((uF i,v).1=(jA z:aI))=ah from rfl]
   exact ih
  |inr y=>
   show Option.map _ (List.find? _ ((y,v)::_))=_
   grind
theorem yP:∀ (ps:aag) (kn:KI),iC kn=af->((cP stepI kn ps).filter iC).map strN=cP eW (strN kn) ps
 |[],kn,h=>by
  show((aa kn).filter iC).map strN=aa (strN kn);rw[show(aa kn).filter iC=aa kn by simp[Option.filter,h]]
  rfl
 |p::ps,kn,h=>by
  have e0:cP stepI kn (p::ps)=(stepI kn p).bind λb=>cP stepI b ps:=rfl
  have e1:cP eW (strN kn) (p::ps)=(eW (strN kn) p).bind λb=>cP eW b ps:=rfl
  rw[e0,e1];obtain⟨k,v⟩:=p;cases k with
  |inl i=>
   have f1:eW (strN kn) (.inl i,v)=if v=i then aa (strN kn) else ab:=rfl
   rw[f1];cases q:fH kn (.inl i) with
   |some u=>
    have hu:=Agt.1 h i u q;subst hu;have s1:stepI kn (.inl u,v)=if u=v then aa kn else ab:=by unfold stepI;rw[q]
    rw[s1];by_cases z:u=v
    .rw[if_pos z,if_pos z.symm];exact yP ps kn h
    .rw[if_neg z,if_neg (fX z)]
     rfl
   |none=>
    have s1:stepI kn (.inl i,v)=aa (kn++[(.inl i,v)]):=by unfold stepI;rw[q]
    rw[s1,bQ];have lk:fH (kn++[(.inl i,v)]) (.inl i)=aa v:=by rw[ER,q,LM,if_pos rfl];rfl
    by_cases z:v=i
    .rw[if_pos z];have h2:iC (kn++[(.inl i,v)])=af:=Agt.2 λj u e=>by
      rw[ER] at e;cases q2:fH kn (.inl j) with
      |some w=>
       rw[q2] at e;cases e;exact Agt.1 h j _ q2
      |none=>
       rw[q2,LM] at e;by_cases y:i=j
       .subst y;rw[if_pos rfl] at e;cases e;exact z
       .rw[if_neg λw=>y (Sum.inl.inj w)] at e
        cases e
     rw[yP ps _ h2];unfold strN;rw[List.filterMap_append];show cP eW (_++[]) ps=_;rw[kW]
     rfl
    .rw[if_neg z];cases w:cP stepI (kn++[(.inl i,v)]) ps with
     |none=>rfl
     |some k'=>
      have:=foldI (P:=λk=>fH k (.inl i)=aa v) (λh e=>Xy h e) w lk
      have nn:=Bool.eq_false_iff.2 λy=>z (Agt.1 y i v this)
      simp[Option.filter,nn]
  |inr x=>
   have f1:eW (strN kn) (.inr x,v)=match cB (strN kn) x with
    |some u=>if v=u then aa (strN kn) else ab
    |none=>aa (strN kn++[(x,v)]):=rfl
   rw[f1,LS];cases q:fH kn (.inr x) with
   |some u=>
    have s1:stepI kn (.inr x,v)=if u=v then aa kn else ab:=by unfold stepI;rw[q]
    rw[s1];by_cases z:u=v
    .subst z;rw[if_pos rfl];show _=(if u=u then aa (strN kn) else ab).bind _
     rw[if_pos rfl];exact yP ps kn h
    .rw[if_neg z];show _=(if v=u then aa (strN kn) else ab).bind _
     rw[if_neg (fX z)]
     rfl
   |none=>
    have s1:stepI kn (.inr x,v)=aa (kn++[(.inr x,v)]):=by unfold stepI;rw[q]
    rw[s1,bQ];have h2:iC (kn++[(.inr x,v)])=af:=Agt.2 λj u e=>by
     rw[ER,LM,if_neg (λw=>nomatch w),Option.or_none] at e
     exact Agt.1 h j u e
    rw[yP ps _ h2];unfold strN;rw[List.filterMap_append]
    rfl
theorem g8 {kn:KI}(hl:∀ p∈kn,cH (kD p.1)=af):FI [.dict (DK kn)]=aa (.bool (iC kn)):=by
 have:∃ d,FI [.dict (DK kn)]=aa d/\d=.bool (iC kn):=by
  rw[8]
  let I:Nat->aR->Prop:=λi Y=>(∃ x,Y=[s0 (.dict (DK kn)),x])/\∀ p∈kn.take i,sk kn p=af
  refine DL (I kn.length) (λd=>d=.bool ah/\iC kn=ah) ?_ (λd h=>⟨d,rfl,by rw[h.1,h.2]⟩) ?_
  .have ei:X4 (aB 0) (vS [s0 (.dict (DK kn)),ab])=aa (kn.map λp=>kD p.1):=by
    show(if (dg (DK kn)&&(DK kn).all λkd=>cH kd.1)=af then aa ((DK kn).map (·.1)) else ab)=_
    rw[plI,xH,if_pos (cY.2 λkd m=>by
     obtain⟨p,mp,rfl⟩:=bK.1 m;exact hl p mp)]
    unfold DK;rw[dC]
    rfl
   refine CH I _ (du ei) (by simp) ⟨⟨ab,rfl⟩,(λp m=>by simp at m)⟩ ?_
   rintro i d _ hd ⟨⟨x,rfl⟩,ok⟩;rw[eU] at hd;obtain⟨p,hp,rfl⟩:=gM.1 hd;refine⟨[s0 (.dict (DK kn)),s0 (kD p.1)],rfl,?_⟩;have mp:=eT hp;have tt:bV .s (mE (pA (aw (gm (gF "str") (aB 1)))) (aw (ai gs (ai au (aB 0) (aB 1)) (aB 1)))) [s0 (.dict (DK kn)),s0 (kD p.1)]=aa (!sk kn p):=by
    cases q:p.1 with
    |inr z=>
     rw[show sk kn p=af by unfold sk;rw[q]]
     exact IM (y:=af) (CK (vD rfl (yL (.inr z)))) λh=>nomatch h
    |inl j=>
     obtain⟨u,eu⟩:=LN ⟨p,mp,q⟩;have:sk kn p=decide (u=j):=by
      unfold sk;rw[q];show decide (fH kn (.inl j)=aa j)=_;rw[eu];simp
     rw[this];refine(IM (CK (vD rfl (yL (.inl j)))) λ_=>dZ (aO (aO rfl rfl (show bU (DK kn) (.inl j)=aa (.int u) by rw[II,eu];rfl)) rfl (ne_int u j))).trans ?_
     simp
   cases q:sk kn p with
   |true=>
    rw[q] at tt;refine jY tt (jZ (.inl ⟨_,rfl,⟨_,rfl⟩,λp' m=>?_⟩))
    rw[uH,hp] at m;rcases oU.1 m with m|m
    .exact ok p' m
    .rw[cF.1 (show p'∈[p] from m)];exact q
   |false=>
    rw[q] at tt;refine fS tt (cQ rfl (.inr ⟨_,rfl,rfl,?_⟩));exact List.all_eq_false.2 ⟨p,mp,by rw[q];exact kX⟩
  rintro _ ⟨⟨x,rfl⟩,ok⟩;rw[wY] at ok;refine cQ rfl ⟨_,rfl,?_⟩;rw[show iC kn=af from cY.2 ok]
 grind
theorem ext1{kn:KI}(h:iC kn=af):∀ {ak:ga},(∀ r∈ak,r.length=ks.length)->((ak.filterMap λr=>cP stepI kn (ks.zip r)).filter iC).map strN=ak.filterMap λr=>eQ ks r (strN kn)
 |[],_=>rfl
 |r::ak,hw=>by
  have ih:=ext1 h λx m=>hw x (bL _ m)
  have e:=yP (ks.zip r) kn h;have e2:eQ ks r (strN kn)=cP eW (strN kn) (ks.zip r):=if_pos (hw r bE)
  grind
theorem Hb(hw:∀ r∈ak,r.length=ks.length):∀ {kx:List KI},(∀ kn∈kx,iC kn=af)->((kx.flatMap λkn=>ak.filterMap λr=>cP stepI kn (ks.zip r)).filter iC).map strN=nB (kx.map strN) ks ak
 |[],_=>rfl
 |kn::kx,h=>by
  rw[AQ,List.filter_append,iH,Hb hw λx m=>h x (bL _ m),ext1 (h kn bE) hw]
  rfl
theorem n5{P:Out->Prop}{j:Nat}{fi:AF}{kn:KI}{ps:aag}(hi:fi (vS Y)=aa (ps.map nO))(hg:oI j Y=aa (DK kn))(hp:0<ps.length)(hl:kn.length+ps.length<=100000)
  (k1:∀ ar,cP stepI kn ps=aa ar->Goes F (Y.set j (aa (1,.dict (DK ar)))) P) (k2:∀ kds,cP stepI kn ps=ab->P (.nx (Y.set j (aa (1,.dict kds))))):Goes (yO j fi F) Y P:=by
 obtain⟨ar,bs,e,hb,h1,h2⟩:=NR ps kn;have e1:yO j fi F Y=if sC bs=af then F (Y.set j (aa (1,.dict (DK ar)))) else aa (.nx (Y.set j (aa (1,.dict (DK ar))))):=by
  unfold yO;rw[hi,bQ,hg,bQ,e,bQ,if_pos ⟨by rw[cJ];exact hp,vO (by unfold DK;rw[cJ,cJ];exact hl)⟩]
 rw[u4 (λz=>by rw[z] at hb;exact absurd hb (by simp;lia))] at e1
 cases q:bs.all id with
 |true=>
  rw[q,if_pos rfl] at e1;obtain⟨o,eo,po⟩:=k1 ar (h1 q);exact⟨o,e1.trans eo,po⟩
 |false=>
  rw[q,if_neg kX] at e1;exact⟨_,e1,k2 _ (h2 q)⟩
def mT (B:aE->ga)(ls:aaq):List Kn:=fO (ls.map λl=>(l,B l.1))
theorem Yo (B:aE->ga)(ls:aaq)(l:Ln):mT B (ls++[l])=nB (mT B ls) l.2 (B l.1):=by
 unfold mT fO
 grind
section
variable {B:aE->ga}
theorem Af{kn:Kn}(m:kn∈mT B ls):∀ z∈bT ls,cB kn z=aa (eD kn z):=λz mz=>by
 obtain⟨l,ml,hz⟩:=Agb.1 mz;exact(vX _ kn m (l,B l.1) (bK.2 ⟨l,ml,rfl⟩)).1 z (Aeo.1 hz)
theorem v9{kn:Kn}(m:kn∈mT B ls):iT B ls (eD kn):=λl ml=>(vX _ kn m (l,B l.1) (bK.2 ⟨l,ml,rfl⟩)).2
theorem l5(h:iT B ls w):∃ kn∈mT B ls,tJ kn w:=ML _ [[]] ⟨[],cF.2 rfl,Re w⟩ λp mp=>by
 obtain⟨l,ml,rfl⟩:=bK.1 mp;exact h l ml
theorem M0 (b:Bk kds B wd)(h5:∀ t,(B t).length<=6)(L:Lok 6 ls)(n4:ls.length<=4)(hW:∀ l∈ls,l.2.length=wd l.1):∃ d,FE [.dict kds,ay ls]=aa d/\rY B ls d:=by
 rw[8];have h6:∀ l∈ls,l.2.length<=6:=λl m=>(L.ok l m).1
 let kI:KI->aA:=λkn=>.dict (DK kn)
 let R:List KI->aak->List L2.Slot->aR:=λf zs r=>s0 (.dict kds)::s0 (ay ls)::s0 (.list (f.map kI))::s0 (.list (zs.map cE))::r
 refine cD (mJ rfl) (by simp) (cD rfl (by simp) ?_)
 let Ok:Nat->List KI->Prop:=λi f=>f.length<=6^i/\∀ kn∈f,iC kn=af/\kn.length<=6*i/\∀ p∈kn,cH (kD p.1)=af
 refine fI (λρ'=>∃ (f:List KI) (x4 x5 x6 x7 x8 x9:L2.Slot),Ok ls.length f/\f.map strN=mT B ls/\ρ'=R f (ls.flatMap λl=>dD l.2) [x4,x5,x6,x7,x8,x9]) ?_ ?_
 .refine kA (b0:=Unit.unit) (λ_ _=>Unit.unit) (λi _ ρ'=>∃ (f:List KI) (x4 x5 x6 x7 x8 x9:L2.Slot),Ok i f/\f.map strN=mT B (ls.take i)/\ρ'=R f ((ls.take i).flatMap λl=>dD l.2) [x4,x5,x6,x7,x8,x9]) (du (pP rfl)) ⟨[[]],ab,ab,ab,ab,ab,ab,⟨bB _,λkn m=>by rw[cF.1 m];exact⟨rfl,by simp,λp m=>by simp at m⟩⟩,rfl,rfl⟩ ?_ ?_
  .rintro i l _ _ hx ⟨f,x4,x5,x6,x7,x8,x9,⟨fl,fo⟩,fw,rfl⟩;have hi:=(cK.1 hx).1;have ml:=eT hx;have hl6:=h6 l ml;have ht:ls.take (i+1)=ls.take i++[l]:=by rw[uH,hx];rfl
   have zl:=DY (ls.take i) λl m=>h6 l (List.mem_of_mem_take m)
   have hz:(dD l.2).length<=l.2.length:=xD ..;rw[ht,Yo,List.flatMap_append];have zl:((ls.take i).flatMap λl=>dD l.2).length<=24:=by rw[QT] at zl;lia
   generalize((ls.take i).flatMap λl=>dD l.2)=zs at zl
   refine⟨R f zs [s0 (.str l.1),s0 (tK l.2),x6,x7,x8,x9],rfl,?_⟩;have e:=gA (cap:=[ab]) (fi:=bg (aB 5)) (T:=gB 0) (t:=aw (gm (gF "str") (aB 0))) (f:=aB 0) (Y:=vS (R f zs [s0 (.str l.1),s0 (tK l.2),x6,x7,x8,x9])) isS kD (pP rfl) () λk mk=>⟨[aa (kD k)],rfl,dZ (vD rfl (by rw[yL];cases k<;>rfl)),λ_=>rfl⟩
   rw[LV] at e;refine cD (d:=.list ((zs++dD l.2).map cE)) (aO rfl e ((CG (by simp;lia)).trans (by rw[iH]))) (by simp[R]) (cD (d:=.list (([]:List KI).map kI)) rfl (by simp[R]) ?_)
   have hb:=h5 l.1;have hp:(6:Nat)^i<=6^3:=QG nofun ()
   have ur:∀ r∈B l.1,r.length=l.2.length:=λr m=>(b.wid l.1 r m).trans (hW l ml).symm
   let S:List KI->List L2.Slot->aR:=λa r=>R f (zs++dD l.2) (s0 (.str l.1)::s0 (tK l.2)::aa (1,.list (a.map kI))::r)
   let X:KI->List KI:=λkn=>(B l.1).filterMap λr=>cP stepI kn (l.2.zip r)
   have lf:∀ f:List KI,(f.flatMap X).length<=f.length*6:=λf=>by
    induction f with
    |nil=>simp
    |cons k f ih=>
     grind
   refine fI (λρ'=>∃ x7 x8 x9:L2.Slot,ρ'=S (f.flatMap X) [x7,x8,x9]) ?_ ?_
   .refine kA (λaq kn=>aq++X kn) (λj aq ρ'=>aq.length<=j*6/\∃ x7 x8 x9:L2.Slot,ρ'=S aq [x7,x8,x9]) (du (fG rfl)) ⟨eG _,x7,x8,x9,rfl⟩ ?_ ?_
    .rintro j kn aq _ hx2 ⟨ha,x7,x8,x9,rfl⟩;have hj:=(cK.1 hx2).1;obtain⟨kn1,kn2,kn3⟩:=fo kn (eT hx2);refine⟨S aq [s0 (kI kn),x8,x9],rfl,?_⟩;refine kA (λaq r=>aq++(cP stepI kn (l.2.zip r)).toList) (λk bp ρ'=>bp.length<=aq.length+k/\∃ x8 x9:L2.Slot,ρ'=S bp [s0 (kI kn),x8,x9]) (du (fG (b.get rfl rfl))) ⟨bB _,x8,x9,rfl⟩ ?_ ?_
     .rintro k r bp _ hr ⟨rp,x8,x9,rfl⟩;have Q4:=(cK.1 hr).1;have mr:=eT hr;refine⟨S bp [s0 (kI kn),s0 (aZ r),x9],rfl,?_⟩;refine cD (aY rfl (by show(if dg (DK kn)=af then aa (QD (DK kn)) else ab)=_;rw[plI];rfl)) (by simp[S,R]) ?_
      have lz:(l.2.zip r).length=l.2.length:=by rw[xA,ur r mr];simp
      have w1:=L.w1 l ml;refine n5 ((TX rfl rfl rfl).trans (congrArg aa (WU l.2 r))) rfl () () (λar e'=>?_) (λXL e'=>?_)
      .refine iV (rM rfl rfl (by simp;lia) ⟨_,.inl rfl,by rw[e'];simp;lia,s0 (aZ r),s0 (kI ar),?_⟩)
       rw[e',Option.toList_some,show bp.map kI++[kI ar]=(bp++[ar]).map kI by simp]
       rfl
      .refine⟨_,.inl rfl,by rw[e'];simp;lia,s0 (aZ r),aa (1,.dict XL),?_⟩
       rw[e',Option.toList_none,kW]
       rfl
     .rintro _ ⟨rp,x8,x9,rfl⟩;refine⟨_,.inl rfl,?_,s0 (kI kn),x8,x9,by rw[yT]⟩
      rw[yT] at rp
      lia
    .rintro _ ⟨ha,x7,x8,x9,rfl⟩;rw[EK];exact⟨_,rfl,x7,x8,x9,rfl⟩
   rintro _ ⟨x7,x8,x9,rfl⟩;have lX:=lf f;have inX:∀ ar∈f.flatMap X,ar.length<=6*(i+1)/\∀ p∈ar,cH (kD p.1)=af:=λar m=>by
    obtain⟨kn,mk,m⟩:=GC.1 m;obtain⟨r,mr,e'⟩:=uJ.1 m;obtain⟨_,kn2,kn3⟩:=fo kn mk;have:=Aj e';have lz:(l.2.zip r).length=l.2.length:=by rw[xA,ur r mr];simp
    refine⟨(),λp mp=>?_⟩
    rcases ZU e' p mp with m|m
    .exact kn3 p m
    .exact(L.ok l ml).2 p.1 (QQ m).1
   have eX:=Hb ur λkn m=>(fo kn m).1
   rw[fw] at eX;have e3:=gA (cap:=[ab]) (fi:=bg (aB 6)) (T:=gB 0) (t:=aw (aN FI (aF (aB 0) aJ))) (f:=aB 0) (Y:=vS (frz 6 (S (f.flatMap X) [x7,x8,x9]))) iC kI (fG rfl) () λkn mk=>⟨[aa (kI kn)],rfl,dZ (aY rfl (g8 (inX kn mk).2)),λ_=>rfl⟩
   refine iV (cD e3 (by simp[S,R,frz]) (iV (jZ ⟨_,.inl rfl,(f.flatMap X).filter iC,s0 (.str l.1),s0 (tK l.2),s0 (.list ((f.flatMap X).map kI)),x7,x8,x9,⟨?_,λkn m=>?_⟩,eX,?_⟩)))
   .refine dI (GD ..) ?_;rw[wW]
    lia
   .obtain⟨m,hn⟩:=oR.1 m;exact⟨hn,inX kn m⟩
   .rw[AQ,List.flatMap_nil,kW]
    rfl
  all_goals grind
 rintro _ ⟨f,x4,x5,x6,x7,x8,x9,⟨fl,fo⟩,fw,rfl⟩;have fl:=dI fl (QG nofun n4)
 have fl:=fl;have zl:=DY ls h6;have eN:bT ls=gG (ls.flatMap λl=>dD l.2):=rfl
 generalize(ls.flatMap λl=>dD l.2)=zs at zl eN
 have e2:=gA (cap:=[ab,aa 3]) (fi:=jd (aF (aN cR (aF (aB 3) aJ)) aJ)) (T:=gB 0) (t:=aw (ai (gn af) (ai au (aB 1) (aB 0)) (oH (aB 1) oN (oS (aB 0))))) (f:=ai au (aB 1) (aB 0)) (Y:=vS (R f zs [x4,x5,x6,x7,x8,x9])) (λk=>decide (zs.getD k "" ∉ zs.take k)) (λk=>cE (zs.getD k "")) (nV (aX (aY rfl ((vB _).trans (by rw[cJ]))) rfl) ()) (by simp;lia) λk mk=>by
  have hk:=eR.1 mk;have ix:au (.list (zs.map cE)) (.int k)=aa (.str (zs.getD k "")):=nY (getD_some _ hk);refine⟨[aa (.int k),aa (.list (zs.map cE))],rfl,dZ (aO (aO rfl rfl ix) (yA rfl rfl rfl) ?_),λ_=>aO rfl rfl ix⟩
  rw[BP (by simp;lia),<-QR,Fh]
  simp
 rw[XT zs "" zs.length (bB _),wY,<-eN] at e2;have nl:=ZC ls h6;refine cD e2 (by simp[R]) (iV ?_)
 let G:ga:=(mT B ls).map λkn=>(bT ls).map (eD kn)
 have hG:G=f.map λkn=>(bT ls).map (eD (strN kn)):=by
  show(mT B ls).map _=_;rw[<-fw,dC]
  rfl
 let ρ9:aR:=frz 3 ((R f zs [x4,x5,x6,x7,x8,x9]).set 3 (aa (1,.list ((bT ls).map cE))))
 have e4:=gA (cap:=[ab,aa 3]) (fi:=bg (aB 2)) (T:=gB 0) (t:=cX) (f:=aN iO (aF (cu [ab,aa 0] (bg (aB 1)) (gB 0) cX (ai au (aB 1) (aB 0))) aJ)) (Y:=vS ρ9) (λ_=>af) (λkn=>aZ ((bT ls).map (eD (strN kn)))) (fG rfl) () λkn mk=>⟨[aa (kI kn),aa (.list ((bT ls).map cE))],rfl,rfl,λ_=>by
  have mw:strN kn∈mT B ls:=by rw[<-fw];exact bK.2 ⟨kn,mk,rfl⟩
  have hz:=Af mw;have e1:=gA (cap:=[ab,aa 0]) (fi:=bg (aB 1)) (T:=gB 0) (t:=cX) (f:=ai au (aB 1) (aB 0)) (Y:=[aa (kI kn),aa (.list ((bT ls).map cE))]) (λ_=>af) (λz=>aT (eD (strN kn) z)) (fG rfl) () λz mz=>⟨[aa (.str z),aa (kI kn)],rfl,rfl,λ_=>aO rfl rfl (show bU (DK kn) (.inr z)=_ by rw[II,<-LS,hz z mz];rfl)⟩
  rw[lY.2 λ_ _=>rfl] at e1
  exact aY (aX e1 rfl) (by unfold aZ;rw[dC];rfl)⟩
 rw[lY.2 λ_ _=>rfl] at e4
 have e5:f.map (λkn=>aZ ((bT ls).map (eD (strN kn))))=G.map aZ:=by rw[hG,dC];rfl
 rw[e5] at e4;have mem:∀ w,iT B ls w->(bT ls).map w∈G:=λw hw=>by
  obtain⟨kn,m,ag⟩:=l5 hw;have hz:=Af m;exact bK.2 ⟨kn,m,jD λz mz=>ag z _ (hz z mz)⟩
 by_cases q:G=[]
 .rw[q] at e4;refine cQ (aY (aX e4 rfl) Hk) ⟨_,rfl,.inl ⟨rfl,λw hw=>?_⟩⟩
  grind
 .obtain⟨x,mx,em,lx⟩:=Pf (n:=(bT ls).length) (λr m=>by
   obtain⟨kn,_,rfl⟩:=bK.1 m;simp) q af
  obtain⟨kn,mk,rfl⟩:=bK.1 mx;exact cQ (aY (aX e4 rfl) em) ⟨_,rfl,.inr ⟨eD kn,rfl,v9 mk,λw hw=>lx _ (mem w hw)⟩⟩
end
theorem Tj {A:aat}{t:aE}(h:t∉A.map (·.1))(R:ga):putD (ba A) (.inr t) (bC R)=ba (A++[(t,R)]):=by
 unfold putD;have hn:¬ ((ba A).any λkd=>decide (bS kd.1=aa (.inr t)))=af:=λq=>by
  obtain⟨kd,m,e⟩:=GJ.1 q;obtain⟨p,mp,rfl⟩:=bK.1 m;have e:=of_decide_eq_true e;have e:=e;injection e with e
  grind
 rw[if_neg hn];unfold ba;rw[iH]
 rfl
theorem Ap:∀ (M A:aat),((A++M).map (·.1)).Nodup->pO (M.map λp=>(jA p.1,bC p.2)) (ba A)=ba (A++M)
 |[],A,_=>by simp[pO]
 |p::M,A,h=>by
  show pO (M.map λp=>(jA p.1,bC p.2)) (putD (ba A) (.inr p.1) (bC p.2))=_
  have hn:p.1∉A.map (·.1):=λm=>by
   grind
  rw[Tj hn,Ap M (A++[(p.1,p.2)]) (by simpa using h)]
  simp
theorem YN:∀ L:aat,sF (L.map λp=>dM [.str p.1,bC p.2])=aa (L.map λp=>(jA p.1,bC p.2))
 |[]=>rfl
 |p::L=>by
  show((sF (L.map λp=>dM [.str p.1,bC p.2])).bind λr=>aa ((jA p.1,bC p.2)::r))=_
  rw[YN L]
  rfl
theorem m5(nd:(L.map (·.1)).Nodup):BX [.list (L.map λp=>dM [.str p.1,bC p.2])]=aa (.dict (ba L)):=by
 show((sF (L.map λp=>dM [.str p.1,bC p.2])).bind λps=>aa (QD (pO ps [])))=_
 rw[YN,bQ,show([]:be)=ba [] from rfl,Ap L [] (by simpa using nd)]
 rfl
theorem C0(ly:∀ p∈L,cH (.str p.1)=af){Y:jp}(h:f Y=aa (.dict (ba L))):O1 f Y=aa (L.map λp=>dM [.str p.1,bC p.2]):=by
 unfold O1;rw[h];show(if (dg (ba L)&&(ba L).all λkd=>cH kd.1)=af then aa ((ba L).map λkd=>dM [kd.1,kd.2]) else ab)=_
 rw[NX,xH,if_pos (cY.2 λkd m=>by
  obtain⟨p,mp,rfl⟩:=bK.1 m;exact ly p mp)]
 unfold ba;rw[dC]
 rfl
def tw:aak:=["a","b","c","d","t"]
def mh (t:aE):Nat:=if t = "a" then 1 else if t = "b" then 2 else if t = "c" then 3 else if t = "d" then 4 else 2
structure BkG (m:Nat)(L:List Tb):Prop where
 nd:(L.map (·.1)).Nodup
 tab:∀ p∈L,p.1∈tw
 few:∀ p∈L,p.2.length<=m
 once:∀ p∈L,p.2.Nodup
 row:∀ p∈L,∀ r∈p.2,r.length=mh p.1
section
variable {t:aE}
theorem BkG.nil:BkG m []:=⟨AN,λ_ m=>(by simp at m),λ_ m=>(by simp at m),λ_ m=>(by simp at m),λ_ m=>(by simp at m)⟩
theorem BkG.len (o:BkG m L):L.length<=5:=by
 have:=QZ o.nd λt m=>by
  obtain⟨p,mp,rfl⟩:=bK.1 m;exact o.tab p mp
 rw[cJ] at this;exact this
theorem BkG.atR (o:BkG m L)(t:aE):(bu L t).length<=m/\(bu L t).Nodup/\∀ r∈bu L t,r.length=mh t:=by
 by_cases h:bu L t=[]
 .grind
 .obtain⟨r,mr⟩:=List.exists_mem_of_ne_nil _ h;obtain⟨p,mp,rfl,e⟩:=JF mr;rw[<-e];exact⟨o.few p mp,o.once p mp,o.row p mp⟩
theorem BkG.upd (o:BkG m L)(h1:R.length<=m)(h2:R.Nodup)(h3:∀ r∈R,r.length=mh t):BkG m (kH L t R):=by
 refine⟨by rw[KS];exact o.nd,λp m=>?_,λp m=>?_,λp m=>?_,λp m=>?_⟩
 .have:p.1∈(kH L t R).map (·.1):=bK.2 ⟨p,m,rfl⟩;rw[KS] at this;obtain⟨q,mq,e⟩:=bK.1 this;rw[<-e];exact o.tab q mq
 .rcases CS m with m|⟨m1,m2⟩
  .exact o.few p m
  .rw[m2];exact h1
 .rcases CS m with m|⟨m1,m2⟩
  .exact o.once p m
  .rw[m2];exact h2
 .rcases CS m with m|⟨m1,m2⟩
  .exact o.row p m
  .rw[m1,m2];exact h3
theorem BkG.bk (o:BkG m L)(hm:m<=60):Bk (ba L) (bu L) mh:=bkL (λt=>by unfold mh;grind) λp mp=>⟨FZ (o.few p mp) (),o.row p mp⟩
theorem BkG.new (o:BkG m L)(ht:t∈tw)(hn:t∉L.map (·.1))(h1:R.length<=m)(h2:R.Nodup)(h3:∀ r∈R,r.length=mh t):BkG m (L++[(t,R)]):=by
 have key:∀ {Q:Tb->Prop},(∀ p∈L,Q p)->Q (t,R)->∀ p∈L++[(t,R)],Q p:=λh1 h2 p m=>by
  grind
 refine⟨?_,key o.tab ht,key o.few h1,key o.once h2,key o.row h3⟩;rw[iH];exact AO.2 ⟨o.nd,by simp,λa ha b hb e=>hn (by simp at hb;rw[<-hb,<-e];exact ha)⟩
end
theorem Gz:∀ {t:aE},t∈tw->cH (.str t)=af:=by rw[0]
theorem FJ{m:Md}{t:BF}(h:bV m t Y=aa ah):cw m t F dS Y=aa (.nx Y):=by
 unfold cw;rw[h]
 rfl
section
variable (o:BkG m L)(K:Lok m ls)(hd:rY (bu L) ls d)
include o K hd
theorem WN:wC [.dict (ba L),ay ls,d]=aa (.bool af):=by
 obtain⟨d',em,W⟩:=Ws (o.bk K.m60) (λt=>(o.atR t).1) (λt=>(o.atR t).2.1) K
 obtain rfl:=Tx hd W;have:∃ d',wC [.dict (ba L),ay ls,d]=aa d'/\d'=.bool af:=by
  rw[8];have hl:=o.len;have e:=gA (cap:=[ab,ab]) (fi:=O1 (aB 0)) (T:=ye 0 1) (t:=cX) (f:=iJ (aF (aB 0) (aF (aN nP (aF (aB 1) aJ)) aJ))) (Y:=vS [s0 (.dict (ba L)),s0 (ay ls),s0 d,ab,ab]) (λ_=>af) (λp=>dM [.str p.1,bC p.2]) (C0 (λp m=>Gz (o.tab p m)) rfl) () λp mp=>⟨[aa (.str p.1),aa (bC p.2)],rfl,rfl,λ_=>rH (aX rfl (aX (aY rfl rfl) rfl))⟩
  rw[lY.2 λ_ _=>rfl] at e
  refine cD (aY (aX e rfl) (m5 o.nd)) (by simp) (cD (aY rfl em) (by simp) (fT (FJ (dZ (aO rfl rfl (On o.nd)))) ?_))
  rcases W with⟨rfl,_⟩|⟨v,rfl,_⟩
  .exact mW (fS rfl (cQ rfl ⟨_,rfl,_,rfl,rfl⟩))
  .generalize(bT ls).map v=r;refine fT (FJ rfl) (cQ ?_ ⟨_,rfl,rfl⟩);refine Tz (x:=af) (vD rfl rfl) λ_=>aO rfl rfl ((Tw r r).trans (by simp))
 grind
end
theorem Qa {a b:Int}(h:a.natAbs<2^64):nQ (.int a) (.int b)=aa (.int (a*b)):=by
 show(if (a.natAbs<2^64\/b.natAbs<2^64)\/mQ a+mQ b<=134217728 then aa (aT (a*b)) else ab)=_
 rw[if_pos (.inl (.inl h))]
theorem OI {a b:Int}(h:b.natAbs<2^64):nQ (.int a) (.int b)=aa (.int (a*b)):=by
 show(if (a.natAbs<2^64\/b.natAbs<2^64)\/mQ a+mQ b<=134217728 then aa (aT (a*b)) else ab)=_
 rw[if_pos (.inl (.inr h))]
theorem Gi{i:Int}(a:0<=i)(b:i<ns.length):∃ c,au (lI ns) (.int i)=aa (.int c)/\c∈ns:=by
 obtain⟨j,rfl⟩:=Kf a;have hj:j<ns.length:=()
 exact⟨ns[j],nY (fY hj),qK hj⟩
theorem VM (ns:aal):cR [lI ns]=aa (.int ns.length):=by simp[cR]
theorem Fg (ns:aal){k:Int}(h0:0<=k)(h1:k<=1000):∃ c,iA [lI ns,.int k]=aa (.int c):=by
 have:∃ d,iA [lI ns,.int k]=aa d/\∃ c,d=.int c:=by
  rw[8];have hk:k.natAbs<2^64:=()
  have Q4:nQ (.int k) (.int k)=aa (.int (k*k)):=Qa hk;by_cases hl:k<(ns.length:Int)
  .obtain⟨c,e,_⟩:=Gi h0 hl;exact mW (fS (by simp[bw,aW,bO,cC,jV,cw,gY,SK,pJ,sR,gQ,frz,dS,eV,bV,aV,vS,vA,ai,gm,aB,eC,aN,iJ,cS,aF,aJ,aw,pA,mE,Q7,kz,uQ,eOr,SO,lC,HL,eIf,dw,getL,oI,outD,bg,itemsOf,dA,kM,fR,cZ,fL,pW,vt,sh,vv,gLe,qt,gGe,cR,gF,mF,qu,iO,nP,uP,de,gs,dB,noDict,noDicts,kF,cU,bZ,fJ,fC,cX,gB,hl]) (cQ (aO rfl rfl e) ⟨_,rfl,_,rfl,c,rfl⟩))
  .refine fT (nM (by simp[bw,aW,bO,cC,jV,cw,gY,SK,pJ,sR,gQ,frz,dS,eV,bV,aV,vS,vA,ai,gm,aB,eC,aN,iJ,cS,aF,aJ,aw,pA,mE,Q7,kz,uQ,eOr,SO,lC,HL,eIf,dw,getL,oI,outD,bg,itemsOf,dA,kM,fR,cZ,fL,pW,vt,sh,vv,gLe,qt,gGe,cR,gF,mF,qu,iO,nP,uP,de,gs,dB,noDict,noDicts,kF,cU,bZ,fJ,fC,cX,gB,hl])) ?_
   have e2:bV .s (aw (ai de (aN cR (aF (aB 0) aJ)) (eC (.int 0)))) [s0 (lI ns),s0 (.int k)]=aa (decide ((ns.length:Int)=0)):=dZ (aO (aY rfl (VM ns)) rfl (DV _ _));by_cases hz:(ns.length:Int)=0
   .exact mW (fS (e2.trans (by rw[decide_eq_true hz])) (cQ (aO (aO (aO rfl rfl Q4) rfl (OI nofun)) rfl rfl) ⟨_,rfl,_,rfl,_,rfl⟩))
   .refine fT (nM (e2.trans (by rw[decide_eq_false hz]))) ?_
    have xz:(0:Int)<ns.length:=()
    obtain⟨v,e,_⟩:=Gi (sZ _ xz).1 (sZ _ xz).2;exact cQ (aO (aO (aO rfl (aO rfl (aY rfl (VM ns)) (sV k ns.length ())) e) (aO rfl rfl rfl) (OI ())) (aO (aO rfl rfl Q4) rfl (OI nofun)) rfl) ⟨_,rfl,_,rfl⟩
 grind
theorem IT (c:Int){k:Int}(h0:0<=k)(h1:k<=1000)(hn:0<n):∃ v:Nat,zN [.int c,.int k,.int n]=aa (.int v)/\v<n:=by
 have:∃ d,zN [.int c,.int k,.int n]=aa d/\∃ v:Nat,d=.int v/\v<n:=by
  rw[8];have b:=sZ c (show(0:Int)<((2147483629:Nat):Int) by lia)
  have Q4:=Int.mul_le_mul h1 h1 h0 ()
  have hkk0:=Int.mul_nonneg h0 h0;have mk:fR (.int k) (.int k)=aa (.int (k*k)):=rC ()
  obtain⟨A,hA⟩:∃ A:Int,A=c%((2147483629:Nat):Int)+5*k+1:=⟨_,rfl⟩;obtain⟨B,hB⟩:∃ B:Int,B=48271+k*k:=⟨_,rfl⟩;generalize k*k=q at *;have hAB:0<=A*B/\A*B<=2200000000*2000000:=⟨Int.mul_nonneg () (),Int.mul_le_mul () () () ()⟩
  refine cD (d:=.int (A*B)) (aO (aO (aO (aO rfl rfl (sV c 2147483629 ())) (aO rfl rfl (rC nofun)) rfl) rfl (by rw[hA];rfl)) (aO rfl (aO rfl rfl mk) (by rw[hB];rfl)) (rC ())) (by simp) ?_
  generalize A*B=N at hAB;have bd:=sZ (N*N%((2147483647:Nat):Int)) (show(0:Int)<(n:Int) by lia)
  obtain⟨v,ev⟩:=Kf bd.1;exact cQ (aO (aO (aO rfl rfl (rC ())) rfl (sV _ 2147483647 ())) rfl ((sV _ n hn).trans (by rw[ev]))) ⟨_,rfl,v,rfl,()⟩
 grind
def Cl (ns:aal)(C:Nat->Int):Prop:=∀ k:Nat,k<=1000->iA [lI ns,.int k]=aa (.int (C k))
theorem Mv (ns:aal):∃ C,Cl ns C:=⟨λk=>if h:k<=1000 then(Fg ns (k:=k) () ()).choose else 0,λk h=>by
 show _=aa (aT (if h:k<=1000 then _ else 0))
 rw[dif_pos h];exact(Fg ns () ()).choose_spec⟩
theorem Cl.at(h:Cl ns C)(hk:k<=1000){Y:jp}(e0:Y[0]?.join=aa (lI ns))(e:f Y=aa (.int k)):aN iA (aF (aB 0) (aF f aJ)) Y=aa (.int (C k)):=aY (aX e0 (aX e rfl)) (h k hk)
theorem add_n (a b:Nat):dA (.int a) (.int b)=aa (.int ((a+b:Nat):Int)):=by
 congr 2
theorem iN (c:Int)(h:0<n):∃ u:Nat,cZ (.int c) (.int n)=aa (.int u)/\u<n/\c%(n:Int)=u:=by
 have b:=sZ c (show(0:Int)<(n:Int) by lia)
 obtain⟨u,eu⟩:=Kf b.1;exact⟨u,(sV c n h).trans (by rw[eu]),(),eu⟩
theorem HX {c n:Int}(h:0<n):cZ (.int c) (.int n)=aa (.int (c%n)):=by
 show(if 0<n then aa (aT (c%n)) else ab)=_
 rw[if_pos h]
theorem Sy{P:Out->Prop}{jn:Nat}(h:f (vS Y)=aa d)(hg:getL i Y=aa ds)(hk:eV 0 .a g Y=aa (.int j))(hj:gb ds.length j=aa jn)(k:P (.nx (Y.set i (aa (1,.list (ds.set jn d)))))):Goes (pJ i .s f .a g) Y P:=⟨_,by
 unfold pJ;rw[show eV 0 .s f Y=aa d from h,bQ,hg,bQ,hk,bQ]
 show((gb ds.length j).bind λj=>aa (Out.nx (Y.set i (aa (1,.list (ds.set j d))))))=_
 rw[hj]
 rfl,k⟩
theorem Rz{P:Out->Prop}{t:aE}(hg:rD i Y=aa (ba L))(hk:g (vS Y)=aa (.str t))(hl:t∈L.map (·.1))(hf:eV 0 .a f Y=aa (.int j))(hj:gb (bu L t).length j=aa n)(hz:(bu L t).length<=100000)(k:P (.nx (Y.set i (aa (2,.dict (ba (kH L t ((bu L t).eraseIdx n)))))))):Goes (FM i .s g .a f) Y P:=⟨_,by
 unfold FM;rw[hg,bQ,show eV 0 .s g Y=aa (.str t) from hk,bQ,show bS (.str t)=aa (.inr t) from rfl,bQ,yQ hl,bQ]
 show((eV 0 .a f Y).bind λd=>match d with
  |.int j=>(gb ((bu L t).map aZ).length j).bind λn=>if ((bu L t).map aZ).length<=sizeLine then aa (Out.nx (Y.set i (aa (2,.dict (iQ (ba L) (.inr t) (.list (((bu L t).map aZ).eraseIdx n))))))) else ab
  | _=>ab)=_
 rw[hf,bQ];show((gb ((bu L t).map aZ).length j).bind λn=>if ((bu L t).map aZ).length<=sizeLine then aa (Out.nx (Y.set i (aa (2,.dict (iQ (ba L) (.inr t) (.list (((bu L t).map aZ).eraseIdx n))))))) else ab)=_
 rw[cJ,hj,bQ,if_pos (pT hz),Jz,<-QR,<-Jr,<-iH,<-Jz];show aa (Out.nx (Y.set i (aa (2,.dict (iQ (ba L) (.inr t) (bC ((bu L t).eraseIdx n)))))))=_;rw[CL],k⟩
theorem SY {a b:Int}(h:a.natAbs<2^1000)(h2:b.natAbs<2^1000):fR (.int a) (.int b)=aa (.int (a*b)):=if_pos (.inr ⟨h,h2⟩)
section
variable (hC:Cl ns C)
include hC
theorem KP(hn:n<1000):∃ v,wB [lI ns,.int n]=aa (.int v):=by
 have:∃ d,wB [lI ns,.int n]=aa d/\∃ v,d=.int v:=by
  rw[8];refine cD (hC.at () rfl rfl) (by simp) ?_
  have d2:ai fL (aB 2) (eC (.int 2)) (vS [s0 (lI ns),s0 (.int n),s0 (.int (C 1))])=aa (.int (C 1/(2:Nat))):=aO rfl rfl (lD _ 2 ())
  have t1:bV .s (aw (ai de (ai cZ (aB 2) (eC (.int 2))) (eC (.int 0)))) [s0 (lI ns),s0 (.int n),s0 (.int (C 1))]=aa (decide (C 1%(2:Nat)=0)):=dZ (aO (aO rfl rfl (sV _ 2 ())) rfl (DV _ _))
  by_cases h:C 1%(2:Nat)=0
  .have sg:au (.list [.int ((n:Int)-1),.int (4-3*(n:Int))]) (.int (C 1/(2:Nat)%2))=aa (.int (if C 1/(2:Nat)%2=0 then(n:Int)-1 else 4-3*(n:Int))):=(UB _ _ _).trans (by split<;>rfl)
   exact mW (fS (t1.trans (by rw[decide_eq_true h])) (cQ (aO (mJ (aX (aO rfl rfl rfl) (aX (aO rfl (aO rfl rfl (rC nofun)) rfl) rfl))) (aO d2 rfl (HX nofun)) sg) ⟨_,rfl,_,rfl,_,rfl⟩))
  .refine fT (nM (t1.trans (by rw[decide_eq_false h]))) ?_
   have u3:=sZ (n:Int) (show(0:Int)<(3:Nat) by decide)
   have p:∀ k:Nat,k<=100->∀ Y,ai pW (eC (.int 10)) (eC (.int k)) Y=aa (.int (10^k)):=λk hk Y=>aO rfl rfl (Qz hk)
   exact cQ (aO (aO (aO d2 (aO (p 35 () _) (p 34 () _) (SY (by rw[0]) (by rw[0]))) (HX (by rw[0]))) (aO (p 35 () _) (p 33 () _) (SY (by rw[0]) (by rw[0]))) rfl) (aO rfl (aO rfl rfl (sV n 3 ())) rfl) (mul_r ())) ⟨_,rfl,_,rfl⟩
 grind
end
def NM:aak:=["e","d","ee","c","dd","b9","b","a9","a","a1"]
theorem Nv:∀ j:Fin 10,cH (.str (NM.getD j.val ""))=af:=by rw[0]
theorem VU:∀ {w:Nat},1<=w->w<=4->∃ t∈tw,w=mh t/\au (.list [.str "a",.str "b",.str "c",.str "d"]) (.int ((w:Int)-1))=aa (.str t)
 |1,_,_=>⟨"a",nofun,nofun,rfl⟩
 |2,_,_=>⟨"b",nofun,nofun,rfl⟩
 |3,_,_=>⟨"c",nofun,nofun,rfl⟩
 |4,_,_=>⟨"d",nofun,nofun,rfl⟩
def xf (x:aI):Prop:=(∃ i,x=.inl i)\/∃ m,m<10/\x=.inr (NM.getD m "")
structure LnG (l:Ln):Prop where
 wd:l.2.length=mh l.1
 tab:l.1∈tw
 trm:∀ x∈l.2,xf x
theorem OC (t:aE):1<=mh t/\mh t<=4:=by unfold mh;grind
theorem t8(h4:ls.length<=4)(h:∀ l∈ls,LnG l):Lok 6 ls:=by
 refine⟨λl m=>⟨?_,λk mk=>?_⟩,λl m=>?_,(),nofun,nofun,?_⟩
 .rw[(h l m).wd];exact dI (OC _).2 nofun
 .rcases(h l m).trm k mk with⟨i,rfl⟩|⟨j,hj,rfl⟩
  .rfl
  .exact Nv ⟨j,hj⟩
 .rw[(h l m).wd];exact(OC _).1
 .have:=KH ls;exact dI (QG nofun (show(cG ls).2.length<=4 by lia)) nofun
theorem n6(h:n<=4096):BQ [.int n]=aa (lN (bW n)):=by
 show(if -4096<=(n:Int)/\(n:Int)<=4096 then aa (qG (L2.upTo (n:Int).toNat)) else ab)=_
 rw[if_pos ⟨(),()⟩]
 rfl
open Classical in
theorem Rg {kind:Nat}(hk:k<n)(hn:n<=4)(h6:kind<6):∃ ss:aar,NB [.int kind,.int k,.int n]=aa (lN ss)/\ss.length<=4/\∀ s∈ss,s<6:=by
 have:∃ d,NB [.int kind,.int k,.int n]=aa d/\∃ ss:aar,d=lN ss/\ss.length<=4/\∀ s∈ss,s<6:=by
  rw[8];have tj:∀ j:Nat,bV .s (aw (ai de (aB 0) (eC (.int j)))) [s0 (.int kind),s0 (.int k),s0 (.int n)]=aa (decide (kind=j)):=λj=>dZ (aO rfl rfl (vq _ _))
  have wp:∀ j:Nat,kind=j->bV .s (aw (ai de (aB 0) (eC (.int j)))) [s0 (.int kind),s0 (.int k),s0 (.int n)]=aa af:=λj h=>(tj j).trans (by rw[decide_eq_true h])
  have no:∀ j:Nat,kind≠j->bV .s (aw (ai de (aB 0) (eC (.int j)))) [s0 (.int kind),s0 (.int k),s0 (.int n)]=aa ah:=λj h=>(tj j).trans (by rw[decide_eq_false h])
  by_cases h1:kind=1
  .obtain⟨u,eu,hu,_⟩:=iN ((k+1:Nat):Int) (n:=n) ()
   exact mW (fS (wp 1 h1) (cQ (mJ (aX (aO (aO rfl rfl (add_n k 1)) rfl eu) (aX rfl rfl))) ⟨_,rfl,_,rfl,[u,k],rfl,by simp,λs m=>by simp at m;lia⟩))
  refine fT (nM (no 1 h1)) ?_;by_cases h2:kind=2
  .exact mW (fS (wp 2 h2) (cQ (mJ (aX rfl (aX (aO rfl rfl (add_n k 1)) rfl))) ⟨_,rfl,_,rfl,[k,k+1],rfl,by simp,λs m=>by simp at m;lia⟩))
  refine fT (nM (no 2 h2)) ?_;by_cases h3:kind=3
  .exact mW (fS (wp 3 h3) (cQ (mJ (aX (aO rfl rfl (add_n k 1)) (aX rfl rfl))) ⟨_,rfl,_,rfl,[k+1,0],rfl,by simp,λs m=>by simp at m;lia⟩))
  refine fT (nM (no 3 h3)) ?_;by_cases h4:kind=4
  .obtain⟨u,eu,hu,_⟩:=iN (k:Int) (n:=3) ()
   obtain⟨u3,eu3,hu3,_⟩:=iN ((k+1:Nat):Int) (n:=3) ()
   obtain⟨w,hw,ew⟩:∃ w:Nat,w<6/\au (.list [.int u3,.int 5]) (.int ((k:Int)/(3:Nat)))=aa (.int w):=by
    rcases(by lia:(k:Int)/(3:Nat)=0\/(k:Int)/(3:Nat)=1) with e|e
    .rw[e];exact⟨u3,(),rfl⟩
    .rw[e];exact⟨5,(),rfl⟩
   exact mW (fS (wp 4 h4) (cQ (mJ (aX (aO rfl rfl eu) (aX (aO (mJ (aX (aO (aO rfl rfl (add_n k 1)) rfl eu3) (aX rfl rfl))) (aO rfl rfl (lD _ 3 ())) ew) rfl))) ⟨_,rfl,_,rfl,[u,w],rfl,by simp,λs m=>by simp at m;lia⟩))
  refine fT (nM (no 4 h4)) ?_;by_cases h5:kind=5
  .exact mW (fS (wp 5 h5) (cQ (aY (aX (aO rfl rfl (add_n k 1)) rfl) (n6 ())) ⟨_,rfl,_,rfl,bW (k+1),rfl,by simp;lia,λs m=>by have:=eR.1 m;lia⟩))
  refine fT (nM (no 5 h5)) ?_;exact cQ rfl ⟨_,rfl,[],rfl,by simp,λs m=>by simp at m⟩
 obtain⟨d,e,ss,rfl,h⟩:=this;exact⟨ss,e,h⟩
section
variable (hC:Cl ns C)
include hC
theorem o5:∃ ls:aaq,NF [lI ns]=aa (ay ls)/\ls.length<=4/\∀ l∈ls,LnG l:=by
 have:∃ d,NF [lI ns]=aa d/\∃ ls:aaq,d=ay ls/\ls.length<=4/\∀ l∈ls,LnG l:=by
  rw[8];refine cD (hC.at () rfl rfl) (by simp) (cD rfl (by simp) ?_)
  obtain⟨n,en,hn,_⟩:=iN (C 0/(6:Nat)) (n:=5) ()
  refine cD (aO (aO rfl rfl (lD _ 6 ())) rfl en) (by simp) (cD rfl (by simp) ?_)
  obtain⟨kd,ek,hkd,_⟩:=iN (C 0) (n:=6) ()
  let R:aaq->List L2.Slot->aR:=λls r=>s0 (lI ns)::s0 (.int (C 0))::s0 (.list (NM.map cE))::s0 (.int n)::aa (1,.list (ls.map bG))::r
  refine fI (λρ'=>∃ (ls:aaq) (x5 x6 x7 x8 x9 cb bv:L2.Slot),ls.length<=4/\(∀ l∈ls,LnG l)/\ρ'=R ls [x5,x6,x7,x8,x9,cb,bv]) ?_ ?_
  .refine rL (λi ρ'=>∃ (ls:aaq) (x5 x6 x7 x8 x9 cb bv:L2.Slot),ls.length=i/\(∀ l∈ls,LnG l)/\ρ'=R ls [x5,x6,x7,x8,x9,cb,bv]) (du (nV rfl ())) ⟨[],ab,ab,ab,ab,ab,ab,ab,rfl,(λ_ h=>nomatch h),rfl⟩ ?_ ?_
   .rintro k _ hk ⟨ls,x5,x6,x7,x8,x9,cb,bv,hl,qm,rfl⟩;refine⟨R ls [s0 (.int k),x6,x7,x8,x9,cb,bv],rfl,?_⟩;refine cD (hC.at () rfl (aO rfl rfl (add_n 3 k))) (by simp[R]) ?_
    generalize C (3+k)=c;obtain⟨ss,es,ss4,hss⟩:=Rg hk () hkd
    refine cD (aY (aX (aO rfl rfl ek) rfl) es) (by simp[R]) (cD rfl (by simp[R]) ?_)
    obtain⟨u,eu,hu,_⟩:=iN c (n:=4) ()
    obtain⟨w,ew,hw1,hw4,oq⟩:∃ w:Nat,uS [.int ss.length,.int ((1+u:Nat):Int)]=aa (.int w)/\1<=w/\w<=4/\ss.length<=w:=by
     by_cases h:((1+u:Nat):Int) > (ss.length:Int)
     .exact⟨1+u,congrArg (λx=>aa (aT x)) (if_pos h),(),(),()⟩
     .exact⟨ss.length,congrArg (λx=>aa (aT x)) (if_neg h),(),ss4,bB _⟩
    let A:aao->List L2.Slot->aR:=λks r=>R ls (s0 (.int k)::s0 (.int c)::s0 (lN ss)::aa (1,lK ks)::r)
    refine fI (λρ'=>∃ (ks:aao) (x9 cb bv:L2.Slot),ks.length=w/\(∀ x∈ks,xf x)/\ρ'=A ks [x9,cb,bv]) ?_ ?_
    .refine rL (λi ρ'=>∃ (ks:aao) (x9 cb bv:L2.Slot),ks.length=i/\(∀ x∈ks,xf x)/\ρ'=A ks [x9,cb,bv]) (du (nV (aX (aY (aX (aY rfl (CF ss)) (aX (aO rfl (aO rfl rfl eu) (add_n 1 u)) rfl)) ew) rfl) ())) ⟨[],x9,cb,bv,rfl,(λ_ h=>nomatch h),rfl⟩ ?_ ?_
     .rintro j _ hj ⟨ks,x9,cb,bv,gp,qp,rfl⟩;refine⟨A ks [s0 (.int j),cb,bv],rfl,?_⟩;have e4:fR (.int 4) (.int k)=aa (.int ((4*k:Nat):Int)):=(rC nofun).trans (by rw[Ke];rfl)
      refine cD (hC.at () rfl (aO (aO rfl (aO rfl rfl e4) (add_n 7 (4*k))) rfl (add_n (7+4*k) j))) (by simp[A,R]) ?_
      generalize C (7+4*k+j)=mo;refine cD (d:=lN (ss++[6+k])) (aO rfl (mJ (aX (aO rfl rfl (add_n 6 k)) rfl)) ((CG (by simp;lia)).trans (by simp))) (by simp[A,R]) ?_
      refine fI (λρ'=>∃ own:aar,0<own.length/\(∀ s∈own,s<10)/\ρ'=A ks [s0 (.int j),s0 (.int mo),s0 (lN own)]) ?_ ?_
      .have tt:bV .s (aw (ai de (ai cZ (aB 1) (eC (.int 6))) (eC (.int 0)))) (A ks [s0 (.int j),s0 (.int mo),s0 (lN (ss++[6+k]))])=aa (decide (kd=0)):=dZ (aO (aO rfl rfl ek) rfl (vq kd 0));by_cases h:kd=0
       .exact fS (tt.trans (by rw[decide_eq_true h])) (CZ rfl (by simp[A,R]) ⟨_,rfl,[0,1,2,3],by simp,λs m=>by simp at m;lia,rfl⟩)
       .refine jY (tt.trans (by rw[decide_eq_false h])) (jZ ⟨_,rfl,ss++[6+k],by simp,λs m=>?_,rfl⟩)
        rcases oU.1 m with m|m
        .have:=hss s m;lia
        .have:=cF.1 m;lia
      rintro _ ⟨own,ho,XV,rfl⟩;have fin:∀ {t:aI} {f:EF},f (vS (A ks [s0 (.int j),s0 (.int mo),s0 (lN own)]))=aa (kD t)->xf t->Goes (gY 8 .s f) (A ks [s0 (.int j),s0 (.int mo),s0 (lN own)]) λo=>∃ ρ2,(o=.nx ρ2\/o=.ct ρ2)/\∃ (ks:aao) (x9 cb bv:L2.Slot),ks.length=j+1/\(∀ x∈ks,xf x)/\ρ2=A ks [x9,cb,bv]:=λ{t f} h ht=>
       rM h rfl (by simp;lia) ⟨_,.inl rfl,ks++[t],s0 (.int j),s0 (.int mo),s0 (lN own),by simp[gp],λy my=>by
        rcases oU.1 my with r|r
        .exact qp y r
        .rw[cF.1 r];exact ht,by simp[A,R,lK]⟩
      obtain⟨q5,e5,_⟩:=iN mo (n:=5) ()
      have t5:bV .s (aw (ai de (ai cZ (aB 10) (eC (.int 5))) (eC (.int 0)))) (A ks [s0 (.int j),s0 (.int mo),s0 (lN own)])=aa (decide (q5=0)):=dZ (aO (aO rfl rfl e5) rfl (vq q5 0));have d5:ai fL (aB 10) (eC (.int 5)) (vS (A ks [s0 (.int j),s0 (.int mo),s0 (lN own)]))=aa (.int (mo/(5:Nat))):=aO rfl rfl (lD mo 5 ())
      by_cases h5:q5=0
      .obtain⟨i,ei,hi,_⟩:=iN (mo/(5:Nat)) (n:=3) ()
       obtain⟨y,ey⟩:=KP hC (n:=i) ()
       exact fS (t5.trans (by rw[decide_eq_true h5])) (fin (t:=.inl y) (aY (aX rfl (aX (aO d5 rfl ei) rfl)) ey) (.inl ⟨_,rfl⟩))
      .obtain⟨i,ei,hi,_⟩:=iN (mo/(5:Nat)) ho;have hv:=XV _ (getD_mem 0 hi);exact jY (t5.trans (by rw[decide_eq_false h5])) (fin (aO rfl (aO rfl (aO d5 (aY rfl (CF own)) ei) (nY (getD_some 0 hi))) (nY (getD_some _ hv))) (.inr ⟨_,hv,rfl⟩))
     .rintro _ ⟨ks,x9,cb,bv,gp,qp,rfl⟩;exact⟨_,rfl,ks,x9,cb,bv,gp,qp,rfl⟩
    rintro _ ⟨ks,x9,cb,bv,gp,qp,rfl⟩;refine fI (λρ'=>∃ (ks:aao) (x9:L2.Slot),ks.length=w/\(∀ x∈ks,xf x)/\ρ'=A ks [x9,cb,bv]) ?_ ?_
    .refine rL (λi ρ'=>∃ (ks:aao) (x9:L2.Slot),ks.length=w/\(∀ x∈ks,xf x)/\ρ'=A ks [x9,cb,bv]) (du (nV (aX (aY rfl (CF ss)) rfl) ())) ⟨ks,x9,gp,qp,rfl⟩ ?_ ?_
     .rintro j _ hj ⟨ks,x9,gp,qp,rfl⟩;refine⟨A ks [s0 (.int j),cb,bv],rfl,?_⟩;have lk:cR [lK ks]=aa (.int w):=by rw[<-gp];simp[cR]
      obtain⟨p,ep,hp,_⟩:=iN (c/(4:Nat)+j) (n:=w) ()
      have hv:ss.getD j 0<NM.length:=by
       have:=hss _ (getD_mem 0 hj);show _<10
       lia
      refine Sy (d:=kD (.inr (NM.getD (ss.getD j 0) ""))) (aO rfl (aO rfl rfl (nY (getD_some 0 hj))) (nY (getD_some _ hv))) rfl (Q9 (aO (aO (aO rfl rfl (lD c 4 ())) rfl rfl) (aY rfl lk) ep) rfl) (vF (by rw[cJ];lia)) ⟨_,.inl rfl,ks.set p (.inr (NM.getD (ss.getD j 0) "")),s0 (.int j),by simpa using gp,Tq qp (.inr ⟨_,hv,rfl⟩),by simp[A,R,lK,List.map_set]⟩
     .rintro _ ⟨ks,x9,gp,qp,rfl⟩;exact⟨_,rfl,ks,x9,gp,qp,rfl⟩
    rintro _ ⟨ks,x9,gp,qp,rfl⟩;obtain⟨t,mt,X0,et⟩:=VU (w:=ks.length) () ()
    refine iV (rM (d:=bG (t,ks)) (rH (aX (aO rfl (aO (aY rfl (show cR [lK ks]=aa (.int ks.length) by simp[cR])) rfl rfl) et) (aX (aY rfl rfl) rfl))) rfl (by simp;lia) ⟨_,.inl rfl,ls++[(t,ks)],s0 (.int k),s0 (.int c),s0 (lN ss),s0 (lK ks),x9,cb,bv,by simp[hl],λl m=>?_,by rw[show ls.map bG++[bG (t,ks)]=(ls++[(t,ks)]).map bG by simp];rfl⟩)
    rcases oU.1 m with m|m
    .exact qm l m
    .rw[cF.1 m];exact⟨X0,mt,qp⟩
   .rintro _ ⟨ls,x5,x6,x7,x8,x9,cb,bv,hl,qm,rfl⟩;exact⟨_,rfl,ls,x5,x6,x7,x8,x9,cb,bv,(),qm,rfl⟩
  rintro _ ⟨ls,x5,x6,x7,x8,x9,cb,bv,hl,qm,rfl⟩;exact iV (cQ (aY rfl rfl) ⟨_,rfl,ls,rfl,hl,qm⟩)
 obtain⟨d,e,ls,rfl,h⟩:=this;exact⟨ls,e,h⟩
end
theorem Ig(nd:(L.map (·.1)).Nodup):(pE (ba L)).Nodup:=by
 have e:pE (ba L)=(L.map (·.1)).map λz=>aa (.inr z:aI):=by
  unfold pE ba;rw[dC,dC]
  rfl
 rw[e];exact wZ.2 (nd.imp λh e=>h (Sum.inr.inj (dY e)))
theorem JD{t:aE}(h:t∉L.map (·.1)):bU (ba L) (.inr t)=ab:=by rw[DX,Yc h];rfl
def Ba0 (L:aat)(t:aE)(R:ga):aat:=if t∈L.map (·.1) then kH L t R else L++[(t,R)]
theorem BkG.Ba0(o:BkG m L){t:aE}(ht:t∈tw)(h1:R.length<=m)(h2:R.Nodup)(h3:∀ r∈R,r.length=mh t):BkG m (Ba0 L t R):=by
 unfold Aw.Ba0;by_cases h:t∈L.map (·.1)
 .rw[if_pos h];exact o.upd h1 h2 h3
 .rw[if_neg h];exact o.new ht h h1 h2 h3
theorem Ru(nd:(L.map (·.1)).Nodup)(hl:L.length<=5)(t:aE)(R:ga):putL (ba L) (.inr t) (bC R)=aa (.dict (ba (Ba0 L t R))):=by
 unfold putL Ba0;rw[if_pos ⟨DJ R,Ig nd,vO (by unfold ba;rw[cJ];lia)⟩]
 by_cases h:t∈L.map (·.1)
 .rw[yQ h,if_pos h];exact congrArg (λx=>aa (QD x)) (CL t R L)
 .rw[JD h,if_neg h];unfold ba;rw[iH]
  rfl
theorem Qm(nd:R.Nodup)(h:r∉R)(u:Nat):(R.take u++[r]++R.drop u).Nodup/\(R.take u++[r]++R.drop u).length=R.length+1/\∀ x∈R.take u++[r]++R.drop u,x∈R\/x=r:=by
 have p:(R.take u++[r]++R.drop u).Perm (r::R):=by
  have:=List.perm_middle (a:=r) (l₁:=R.take u) (l₂:=R.drop u);rw[QP] at this;rw[QX];exact this
 refine⟨p.nodup_iff.2 (jC.2 ⟨h,nd⟩),by rw[p.length_eq];rfl,λx m=>?_⟩
 rcases cV.1 (p.mem_iff.1 m) with m|m
 .exact .inr m
 .exact .inl m
theorem Px(o:BkG 6 L){t:aE}(ht:t∈tw)(hw:row.length=mh t)(a:Int):∃ L',zJ [.dict (ba L),.str t,aZ row,.int a]=aa (.dict (ba L'))/\BkG 6 L':=by
 have bk:=o.bk nofun
 obtain⟨a1,a2,a3⟩:=o.atR t;have eg:FB [aa (.dict (ba L)),aa (.str t),aa (aZ row),aa (.int a),ab]=aa (bC (bu L t)):=bk.get rfl rfl;have ln:cR [bC (bu L t)]=aa (.int (bu L t).length):=(vB _).trans (by rw[cJ])
 have et:EY [aa (.dict (ba L)),aa (.str t),aa (aZ row),aa (.int a),aa (bC (bu L t))]=aa ((af != decide (row∈bu L t))&&decide (((bu L t).length:Int)<6)):=IM (dZ (aO rfl rfl (WI af row _))) λ_=>dZ (aO (aY rfl ln) rfl rfl)
 obtain⟨u,eu,hu,_⟩:=iN a (n:=(bu L t).length+1) ()
 have e3:EZ [aa (.dict (ba L)),aa (.str t),aa (aZ row),aa (.int a),aa (bC (bu L t))]=aa (.int u):=aO rfl (aO (aY rfl ln) rfl (add_n _ 1)) eu;have e4:FC [aa (.dict (ba L)),aa (.str t),aa (aZ row),aa (.int u),aa (bC (bu L t))]=aa (bC ((bu L t).take u++[row]++(bu L t).drop u)):=by
  refine aO (aO ((yA rfl rfl rfl).trans (congrArg (λx=>aa (qG x)) (BP (by simp;lia)))) (mJ rfl) (CG (by simp;lia))) ((yA rfl rfl rfl).trans (congrArg (λx=>aa (qG x)) (KW u (by simp;lia)))) ((CG (by simp;lia)).trans ?_)
  rw[<-QR,<-Jr];simp[bC]
 have e:zJ [.dict (ba L),.str t,aZ row,.int a]=if ((af != decide (row∈bu L t))&&decide (((bu L t).length:Int)<6))=af then putL (ba L) (.inr t) (bC ((bu L t).take u++[row]++(bu L t).drop u)) else aa (.dict (ba L)):=by
  show((FB [aa (.dict (ba L)),aa (.str t),aa (aZ row),aa (.int a),ab]).bind λl=>(EY [aa (.dict (ba L)),aa (.str t),aa (aZ row),aa (.int a),aa l]).bind λb=>if b=af then(EZ [aa (.dict (ba L)),aa (.str t),aa (aZ row),aa (.int a),aa l]).bind λn=>(FC [aa (.dict (ba L)),aa (.str t),aa (aZ row),aa n,aa l]).bind λr=>putL (ba L) (.inr t) r else aa (.dict (ba L)))=_
  rw[eg,bQ,et,bQ,e3,bQ,e4,bQ]
 by_cases h:((af != decide (row∈bu L t))&&decide (((bu L t).length:Int)<6))=af
 .rw[if_pos h,Ru o.nd o.len] at e;obtain⟨h1,h2⟩:=iI.1 h;have h1:row∉bu L t:=by simpa using h1
  have h2:=of_decide_eq_true h2;obtain⟨n1,n2,n3⟩:=Qm a2 h1 u;refine⟨_,e,o.Ba0 ht (by rw[n2];lia) n1 λr m=>?_⟩
  rcases n3 r m with m|rfl
  .exact a3 r m
  .exact hw
 .rw[if_neg h] at e;exact⟨L,e,o⟩
theorem Gk{P:Out->Prop}{fa:AF}(o:BkG 6 L){t:aE}(ht:t∈tw)(hw:row.length=mh t){a:Int}(hg:rD i Y=aa (ba L))(ha:fa (vS Y)=aa [.str t,aZ row,.int a])(k:∀ L',BkG 6 L'->P (.nx (Y.set i (aa (2,.dict (ba L')))))):Goes (zU i zJ fa) Y P:=by
 obtain⟨L',e,o'⟩:=Px o ht hw a;refine⟨_,?_,k L' o'⟩;unfold zU;rw[hg,bQ,ha,bQ,e]
 rfl
section
variable (hC:Cl ns C)
include hC
theorem Sh(h4:ls.length<=4)(qm:∀ l∈ls,LnG l):∃ L,MS [lI ns,ay ls]=aa (.dict (ba L))/\BkG 6 L:=by
 have:∃ d,MS [lI ns,ay ls]=aa d/\∃ L,d=.dict (ba L)/\BkG 6 L:=by
  rw[8];refine cD rfl (by simp) ?_
  let R:aat->List L2.Slot->aR:=λL r=>s0 (lI ns)::s0 (ay ls)::aa (2,.dict (ba L))::r
  refine fI (λρ'=>∃ (L:aat) (x3 x4 x5 x6 x7 x8:L2.Slot),BkG 6 L/\ρ'=R L [x3,x4,x5,x6,x7,x8,ab,ab,ab]) ?_ ?_
  .refine rL (λi ρ'=>∃ (L:aat) (x3 x4 x5 x6 x7 x8:L2.Slot),BkG 6 L/\ρ'=R L [x3,x4,x5,x6,x7,x8,ab,ab,ab]) (du (nV rfl ())) ⟨[],ab,ab,ab,ab,ab,ab,BkG.nil,rfl⟩ ?_ ?_
   .rintro k _ hk ⟨L,x3,x4,x5,x6,x7,x8,o,rfl⟩;refine⟨R L [s0 (.int k),x4,x5,x6,x7,x8,ab,ab,ab],rfl,?_⟩;refine cD rfl (by simp[R]) ?_
    let V:Kn->List L2.Slot->aR:=λkn r=>R L (s0 (.int k)::aa (1,bx kn)::r)
    refine fI (λρ'=>∃ (kn:Kn) (x5 x6:L2.Slot),(∀ m,m<10->∃ u,cB kn (NM.getD m "")=aa u)/\ρ'=V kn [x5,x6,x7,x8,ab,ab,ab]) ?_ ?_
    .refine kA (xs:=bW 10) (q:=λj=>pB j (cE (NM.getD j ""))) (b0:=Unit.unit) (λ_ _=>Unit.unit) (λi _ ρ'=>∃ (kn:Kn) (x5 x6:L2.Slot),kn.length<=i/\(∀ m,m<i->∃ u,cB kn (NM.getD m "")=aa u)/\ρ'=V kn [x5,x6,x7,x8,ab,ab,ab]) (du (u9 cE "" rfl)) ⟨[],x5,x6,bB _,(λ_ h=>nomatch h),rfl⟩ ?_ ?_
     .rintro i j _ _ hx ⟨kn,x5,x6,hl,hm,rfl⟩;have hi:i<10:=by simpa using(cK.1 hx).1
      have hj:j=i:=by rw[QU hi] at hx;exact(dY hx).symm
      subst hj;refine⟨V kn [s0 (.int j),s0 (.str (NM.getD j "")),x7,x8,ab,ab,ab],rfl,?_⟩;obtain⟨v,ev,hv⟩:=IT (C (23+k)) (k:=j) () () (n:=3) ()
      obtain⟨y,ey⟩:=KP hC (n:=v) ()
      refine Hr (aY (aX rfl (aX (aY (aX (hC.at () rfl (aO rfl rfl (add_n 23 k))) rfl) ev) rfl)) ey) rfl rfl rfl (by unfold DN;simp;lia) ⟨_,.inl rfl,putN kn (NM.getD j "") y,s0 (.int j),s0 (.str (NM.getD j "")),dI (u6 _ _ _) (),λm h=>?_,by rw[Pg];rfl⟩
      rw[C4];split
      .exact⟨_,rfl⟩
      .rcases Nat.lt_succ_iff_lt_or_eq.1 h with h|rfl
       .exact hm m h
       .exact absurd rfl ‹_›
     .rintro _ ⟨kn,x5,x6,_,hm,rfl⟩;exact⟨_,rfl,kn,x5,x6,hm,rfl⟩
    rintro _ ⟨kn,x5,x6,hm,rfl⟩;refine iV ?_;refine kA (b0:=Unit.unit) (λ_ _=>Unit.unit) (λi _ ρ'=>∃ (L:aat) (x7 x8:L2.Slot),BkG 6 L/\ρ'=R L [s0 (.int k),s0 (bx kn),x5,x6,x7,x8,ab,ab,ab]) (du (pP rfl)) ⟨L,x7,x8,o,rfl⟩ ?_ ?_
    .rintro i l _ _ hx ⟨L,x7,x8,o,rfl⟩;have G:=qm l (eT hx);refine⟨R L [s0 (.int k),s0 (bx kn),x5,x6,s0 (.str l.1),s0 (tK l.2),ab,ab,ab],rfl,?_⟩;have tl:rX kn (eD kn) l.2:=λz m=>by
      rcases G.trm _ m with⟨i,e⟩|⟨j,hj,e⟩
      .cases e
      .cases e;obtain⟨u,eu⟩:=hm j hj;unfold eD;rw[eu]
       rfl
     have wl:=(OC l.1).2;have wl2:=G.wd;have e:=gA (cap:=[ab,aa 4]) (fi:=bg (aB 8)) (T:=gB 0) (t:=cX) (Y:=vS (R L [s0 (.int k),s0 (bx kn),x5,x6,s0 (.str l.1),s0 (tK l.2),ab,ab,ab])) (λ_=>af) (λx=>aT (tv (eD kn) x)) (pP rfl) () λx mx=>⟨[aa (kD x),aa (bx kn)],rfl,rfl,λ_=>Gc tl mx⟩
     rw[lY.2 λ_ _=>rfl] at e
     exact Gk o G.tab (row:=l.2.map (tv (eD kn))) (by rw[cJ];exact G.wd) rfl (aX rfl (aX (aY (aX e rfl) (by unfold aZ;rw[dC];rfl)) (aX (aO (hC.at () rfl rfl) (aO rfl rfl (add_n k 1)) (lD _ (k+1) ())) rfl))) λL' o'=>⟨_,.inl rfl,L',s0 (.str l.1),s0 (tK l.2),o',rfl⟩
    .rintro _ ⟨L,x7,x8,o,rfl⟩;exact⟨_,.inl rfl,L,s0 (.int k),s0 (bx kn),x5,x6,x7,x8,o,rfl⟩
   .rintro _ ⟨L,x3,x4,x5,x6,x7,x8,o,rfl⟩;exact⟨_,rfl,L,x3,x4,x5,x6,x7,x8,o,rfl⟩
  rintro _ ⟨L,x3,x4,x5,x6,x7,x8,o,rfl⟩
  let Q:aat->L2.Slot->List L2.Slot->aR:=λL x3 r=>R L (x3::x4::x5::x6::x7::x8::r)
  refine fI (λρ'=>∃ (L:aat) (x3 x9 cb bv:L2.Slot),BkG 6 L/\ρ'=Q L x3 [x9,cb,bv]) ?_ ?_
  .refine rL (λi ρ'=>∃ (L:aat) (x3 x9 cb bv:L2.Slot),BkG 6 L/\ρ'=Q L x3 [x9,cb,bv]) (du (nV rfl ())) ⟨L,x3,ab,ab,ab,o,rfl⟩ ?_ ?_
   .rintro k _ hk ⟨L,x3,x9,cb,bv,o,rfl⟩;refine⟨Q L (s0 (.int k)) [x9,cb,bv],rfl,?_⟩;obtain⟨n,en,hn,_⟩:=iN (C 25/((k+1:Nat):Int)) (n:=7) ()
    refine rL (λi ρ'=>∃ (L:aat) (x9 cb bv:L2.Slot),BkG 6 L/\ρ'=Q L (s0 (.int k)) [x9,cb,bv]) (du (nV (aX (aO (aO (hC.at () rfl rfl) (aO rfl rfl (add_n k 1)) (lD _ (k+1) ())) rfl en) rfl) ())) ⟨L,x9,cb,bv,o,rfl⟩ ?_ ?_
    .rintro j _ hj ⟨L,x9,cb,bv,o,rfl⟩;refine⟨Q L (s0 (.int k)) [s0 (.int j),cb,bv],rfl,?_⟩;have e7:fR (.int 7) (.int k)=aa (.int ((7*k:Nat):Int)):=(rC nofun).trans (by rw[Ke];rfl)
     refine cD (hC.at () rfl (aO (aO rfl (aO rfl rfl e7) (add_n 26 (7*k))) rfl (add_n (26+7*k) j))) (by simp[Q,R]) ?_
     generalize C (26+7*k+j)=c;have val:∀ i,i<k+1->∃ v,aN wB (aF (aB 1) (aF (ai cZ (ai fL (aB 2) (ai au (cS (aF (eC (.int 1)) (aF (eC (.int 3)) (aF (eC (.int 9)) (aF (eC (.int 27)) aJ))))) (aB 0))) (eC (.int 3))) aJ)) [aa (.int i),aa (lI ns),aa (.int c)]=aa (.int v):=λi hi=>by
      have ix:=nY (q:=λ(c:Nat)=>aT c) (xs:=[1,3,9,27]) (getD_some 1 (show i<4 by lia))
      have hq:1<=([1,3,9,27].getD i 1:Nat)/\([1,3,9,27].getD i 1:Nat)<=27:=(by decide:∀ j:Fin 4,1<=([1,3,9,27].getD j.val 1:Nat)/\([1,3,9,27].getD j.val 1:Nat)<=27) ⟨i,()⟩
      obtain⟨u,eu,hu,_⟩:=iN (c/(([1,3,9,27].getD i 1:Nat):Int)) (n:=3) ()
      obtain⟨y,ey⟩:=KP hC (n:=u) ()
      exact⟨y,aY (aX rfl (aX (aO (aO rfl (aO rfl rfl ix) (lD c _ ())) rfl eu) rfl)) ey⟩
     let g:Nat->Int:=λi=>if h:i<k+1 then(val i h).choose else 0
     have e:=gA (cap:=[ab,aa 0,aa 10]) (fi:=jd (aF (ai dA (aB 3) (eC (.int 1))) aJ)) (T:=gB 0) (t:=cX) (Y:=vS (Q L (s0 (.int k)) [s0 (.int j),s0 (.int c),bv])) (λ_=>af) (λi=>aT (g i)) (nV (aX (aO rfl rfl (add_n k 1)) rfl) ()) (by simp;lia) λi mi=>by
      have hi:=eR.1 mi;refine⟨[aa (.int i),aa (lI ns),aa (.int c)],rfl,rfl,λ_=>?_⟩
      show _=aa (aT (if h:i<k+1 then(val i h).choose else 0))
      rw[dif_pos hi];exact(val i hi).choose_spec
     rw[lY.2 λ_ _=>rfl] at e
     refine cD (d:=aZ ((bW (k+1)).map g)) (aY (aX e rfl) (by unfold aZ;rw[dC];rfl)) (by simp[Q,R]) ?_
     obtain⟨t,mt,X0,et⟩:=VU (w:=k+1) () ()
     rw[show((k+1:Nat):Int)-1=k by lia] at et
     exact Gk o mt (by simpa using X0) rfl (aX (aO rfl rfl et) (aX rfl (aX (aO rfl rfl (lD c 81 ())) rfl))) λL' o'=>⟨_,.inl rfl,L',_,_,_,o',rfl⟩
    .rintro _ ⟨L,x9,cb,bv,o,rfl⟩;exact⟨_,.inl rfl,L,_,x9,cb,bv,o,rfl⟩
   .rintro _ ⟨L,x3,x9,cb,bv,o,rfl⟩;exact⟨_,rfl,L,x3,x9,cb,bv,o,rfl⟩
  rintro _ ⟨L,x3,x9,cb,bv,o,rfl⟩;refine fI (λρ'=>∃ L:aat,BkG 6 L/\ρ'=Q L x3 [x9,cb,bv]) ?_ ?_
  .obtain⟨u,eu,_⟩:=iN (C 2) (n:=7) ()
   have tt:bV .s (aw (ai de (ai cZ (aN iA (aF (aB 0) (aF (eC (.int 2)) aJ))) (eC (.int 7))) (eC (.int 0)))) (Q L x3 [x9,cb,bv])=aa (decide (u=0)):=dZ (aO (aO (hC.at () rfl rfl) rfl eu) rfl (vq u 0))
   by_cases h:u=0
   .refine fS (tt.trans (by rw[decide_eq_true h])) ?_
    have hl:=o.len;have lt:(ba L).length<sizeLine:=vO (by unfold ba;rw[cJ];lia)
    have o':=o.Ba0 (t:="b") nofun (by simp) AN (λ_ h=>nomatch h)
    refine⟨.nx (Q (Ba0 L "b" []) x3 [x9,cb,bv]),?_,_,rfl,_,o',rfl⟩;have r1:JE 2 .s (cS aJ) .s (eC (.str "b")) 2 1 (Q L x3 [x9,cb,bv])=if ((bU (ba L) (.inr "b")).isSome=af/\(pE (ba L)).Nodup)/\(ba L).length<sizeLine then aa (.nx (R (L) [x3,x4,x5,x6,x7,x8,x9,cb,bv] |>.set 2 (aa (2,.dict (iQ (ba L) (.inr "b") (bC [])))))) else ab:=rfl
    have r2:NZ 2 .s (cS aJ) .s (eC (.str "b")) 2 1 (Q L x3 [x9,cb,bv])=if bU (ba L) (.inr "b")=ab/\(ba L).length<sizeLine then aa (.nx (R (L) [x3,x4,x5,x6,x7,x8,x9,cb,bv] |>.set 2 (aa (2,.dict (ba L++[(cE "b",bC [])]))))) else ab:=rfl
    unfold X7;rw[r1,r2];unfold Ba0;by_cases q:("b" : aE)∈L.map (·.1)
    .rw[if_pos ⟨⟨by rw[yQ q];rfl,Ig o.nd⟩,lt⟩,CL,if_pos q]
     rfl
    .rw[if_neg (λz=>by rw[JD q] at z;exact absurd z.1.1 (by simp)),if_pos ⟨JD q,lt⟩,if_neg q]
     have ek:ba L++[(cE "b",bC [])]=ba (L++[(("b",[]):Tb)]):=by
      unfold ba;rw[iH]
      rfl
     rw[ek]
     rfl
   .exact jY (tt.trans (by rw[decide_eq_false h])) (jZ ⟨_,rfl,L,o,rfl⟩)
  rintro _ ⟨L,o,rfl⟩;exact yM rfl ⟨_,rfl,L,rfl,o⟩
 obtain⟨d,e,L,rfl,o⟩:=this;exact⟨L,e,o⟩
end
noncomputable def OWN:aak:=["y","xx","w","x1","v"]
def ow (k:Nat):aE:=OWN.getD k ""
def iy (f:Nat->Bool)(k:Nat):Ln:=("t",if f k=af then [.inr (ow k),.inr "x"] else [.inr "x",.inr (ow k)])
def fD (n:Nat)(f:Nat->Bool):aaq:=(bW n).map (iy f)
def bits (b0 b1 b2 b3 b4:Bool)(k:Nat):Bool:=[b0,b1,b2,b3,b4].getD k ah
theorem As(hn:n<=5)(f:Nat->Bool):fD n f=fD n (bits (f 0) (f 1) (f 2) (f 3) (f 4)):=by
 refine jD λk mk=>?_
 have hk:=eR.1 mk;have:bits (f 0) (f 1) (f 2) (f 3) (f 4) k=f k:=by
  rcases(by lia:k=0\/k=1\/k=2\/k=3\/k=4) with rfl|rfl|rfl|rfl|rfl<;>rfl
 unfold iy;rw[this]
theorem J8:∀ (n:Fin 6) (b0 b1 b2 b3 b4:Bool),(cG (fD n.val (bits b0 b1 b2 b3 b4))).2.length<=2:=by rw[0]
theorem u7(hn:n<=5)(f:Nat->Bool):(cG (fD n f)).2.length<=2:=by
 rw[As hn];exact J8 ⟨n,()⟩ _ _ _ _ _
def X8 (n:Nat)(b:Bool):aak:=(if b=af then [ow 0,"x"] else ["x",ow 0])++(bW n).map λk=>ow (k+1)
theorem Zs:∀ (n:Fin 5) (b0 b1 b2 b3 b4:Bool),bT (fD (n.val+1) (bits b0 b1 b2 b3 b4))=X8 n.val b0:=by rw[0]
theorem Yd(hn:n<5)(f:Nat->Bool):bT (fD (n+1) f)=X8 n (f 0):=by
 rw[As hn];exact Zs ⟨n,hn⟩ _ _ _ _ _
theorem Sv:∀ k:Fin 5,cH (.str (ow k.val))=af:=by rw[0]
theorem TH:cH (.str "x")=af:=by rw[0]
theorem Qg:∀ k:Fin 5,ow k.val ≠ "x":=by rw[0]
theorem Wl(hn:n<=5)(f:Nat->Bool):Lok 60 (fD n f):=by
 refine⟨λl m=>?_,λl m=>?_,by unfold fD;rw[cJ,xC];exact hn,nofun,nofun,dI (QG nofun (u7 hn f)) nofun⟩<;>obtain⟨k,mk,rfl⟩:=bK.1 m
 .have:=Sv ⟨k,by have:=eR.1 mk;lia⟩
  unfold iy;cases f k with
  |true=>exact⟨by simp,λx mx=>by simp at mx;rcases mx with rfl|rfl;exact this;exact TH⟩
  |false=>exact⟨by simp,λx mx=>by simp at mx;rcases mx with rfl|rfl;exact TH;exact this⟩
 .unfold iy;cases f k<;>simp
noncomputable def nv (b:Bool)(r:aal):Int:=r.getD (if b=af then 1 else 0) 0
theorem OD(h:r.length=2)(b:Bool):au (aZ r) (.int (bI b))=aa (.int (nv b r)):=by
 match r,h with
 |[x,y],_=>cases b<;>rfl
theorem US(h:r.length=2)(b:Bool){s:Int}(h1:nv b r=s)(h2:nv (!b) r=u):r=if b=af then [u,s] else [s,u]:=by
 match r,h with
 |[x,y],_=>cases b<;>(subst h1;subst h2;rfl)
def nb (ak:ga)(b:Bool)(s:Int):aal:=(ak.filter λo=>decide (nv b o=s)).map (nv !b)
theorem L5 (b:Bool):kM (.int 1) (.int (bI b))=aa (.int (bI (!b))):=by cases b<;>rfl
def mo (is:aal):aas:=open Classical in if h:is≠[] then aa (XC af h).choose else ab
def oD:aas->aA
 |none=>.none
 |some x=>.int x
theorem Me (is:aal):pI af [lI is]=aa (oD (mo is)):=by
 unfold mo;by_cases h:is≠[]
 .rw[dif_pos h];exact(XC af h).choose_spec.2.1
 .rw[dif_neg h,Classical.not_not.1 h];exact Hk
theorem Fq{x:Int}(h:mo is=aa x):x∈is/\∀ y∈is,¬ y<x:=by
 unfold mo at h
 grind
theorem Qx(h:mo is=ab):is=[]:=by
 unfold mo at h
 grind
theorem any_none:∀ M:List aas,(af != (M.map oD).any λd=>bZ d .none)=M.all QE
 |[]=>rfl
 |x::M=>by
  rw[cW,uL,List.all_cons,<-any_none M];cases x with
  |none=>simp[oD,bZ]
  |some v=>simp[oD,bZ]
theorem Vn (M:List aas):gn af .none (.list (M.map oD))=aa (.bool (M.all QE)):=by
 show(if (dB .none&&noDicts (M.map oD))=af then aa (kT (af != (M.map oD).any λd=>bZ d .none)) else ab)=_
 rw[vY λt m=>by obtain⟨x,_,rfl⟩:=bK.1 m;cases x<;>rfl,show dB .none=af from rfl,GN,if_pos rfl,any_none]
theorem WT (z:aE):de (.str z) (.str "x")=aa (.bool (decide (z = "x"))):=by
 by_cases h:z = "x"
 .subst h;rfl
 .simp[de,dB,noDict,kF,bZ,h]
def iU (f:Nat->Bool)(w:aE->Int)(k:Nat):aal:=if f k=af then [w (ow k),w "x"] else [w "x",w (ow k)]
section
variable {f:Nat->Bool}
theorem Ao3:iT (bu [("t",ak)]) (fD (n+1) f) w ↔ ∀ k,k<=n->iU f w k∈ak:=by
 have e:∀ k,(iy f k).2.map (tv w)=iU f w k:=λk=>by
  unfold iy iU;cases f k<;>rfl
 constructor
 .intro h k hk;have:=h (iy f k) (bK.2 ⟨k,eR.2 (),rfl⟩)
  rw[e] at this;exact this
 .intro h l ml;obtain⟨k,mk,rfl⟩:=bK.1 ml;rw[e];exact h k (by have:=eR.1 mk;lia)
theorem LQ (hn:n<5):(bT (fD (n+1) f)).map w=iU f w 0++(bW n).map λk=>w (ow (k+1)):=by
 rw[Yd hn];unfold X8 iU;rw[iH,dC];cases f 0<;>rfl
theorem BZ (k:Nat):nv (f k) (iU f w k)=w "x" /\ nv (!f k) (iU f w k)=w (ow k):=by
 unfold iU;cases f k<;>exact⟨rfl,rfl⟩
theorem UK (h:∀ k,k<=n->iU f w k∈ak)(hk:k<=n):w (ow k)∈nb ak (f k) (w "x"):=
 bK.2 ⟨iU f w k,oR.2 ⟨h k hk,decide_eq_true (BZ k).1⟩,(BZ k).2⟩
end
theorem VS {α:Type}{v w:α->Int}:∀ {N:List α},(∀ z∈N,¬ w z<v z)->¬ ft (N.map w) (N.map v)
 |[],_,h=>vI _ h
 |z::N,hz,h=>by
  rcases Ael.1 h with h|⟨_,h⟩
  .exact hz z bE h
  .exact VS (λy m=>hz y (bL _ m)) h
def vw (s u:Int)(mv:Nat->Int)(z:aE):Int:=if z = "x" then s else if z = "y" then u else if z = "xx" then mv 1 else if z = "w" then mv 2 else if z = "x1" then mv 3 else mv 4
theorem Lr (s u:Int)(mv:Nat->Int):∀ k,k<4->vw s u mv (ow (k+1))=mv (k+1)
 |0,_=>rfl
 |1,_=>rfl
 |2,_=>rfl
 |3,_=>rfl
theorem j4(nd:ak.Nodup)(hw:∀ r∈ak,r.length=2)(hl:ak.length<=60)(hn:n<5)(f:Nat->Bool):∃ d,Ez [bC ak,ay (fD (n+1) f)]=aa d/\rY (bu [("t",ak)]) (fD (n+1) f) d:=by
 rw[8];have eL:ay (fD (n+1) f)=.tuple ((bW (n+1)).map λk=>bG (iy f k)):=by
  show dM (((bW (n+1)).map (iy f)).map bG)=_;rw[dC]
  rfl
 have e1:=gA (cap:=[ab]) (fi:=bg (aB 1)) (T:=gB 0) (t:=cX) (f:=aN uP (aF (ai de (ai au (ai au (aB 0) (eC (.int 1))) (eC (.int 1))) (eC (.str "x"))) aJ)) (Y:=vS [s0 (bC ak),s0 (ay (fD (n+1) f)),ab,ab,ab,ab,ab,ab]) (λ_=>af) (λk=>aT (bI (f k))) (pP (congrArg aa eL)) (by simp;lia) λk mk=>⟨[aa (bG (iy f k))],rfl,rfl,λ_=>by
  have hk:=eR.1 mk;cases q:f k with
  |true=>
   have e:iy f k=((("t" : aE),[(.inr (ow k):aI),.inr "x"]):Ln):=by unfold iy;rw[q];rfl
   rw[e];exact aY (aX (aO (aO (aO rfl rfl rfl) rfl rfl) rfl ((WT "x").trans (by rw[decide_eq_true rfl]))) rfl) rfl
  |false=>
   have e:iy f k=((("t" : aE),[(.inr "x" : aI),.inr (ow k)]):Ln):=by unfold iy;rw[q];rfl
   rw[e];exact aY (aX (aO (aO (aO rfl rfl rfl) rfl rfl) rfl ((WT (ow k)).trans (by rw[decide_eq_false (Qg ⟨k,()⟩)]))) rfl) rfl⟩
 rw[lY.2 λ_ _=>rfl] at e1
 let PL:aA:=.list ((bW (n+1)).map λk=>aT (bI (f k)))
 refine cD e1 (by simp) (iV ?_)
 let St:List L2.Slot->aR:=λr=>s0 (bC ak)::s0 (ay (fD (n+1) f))::s0 PL::r
 let Good:Int->Prop:=λs=>∀ k,k<=n->nb ak (f k) s≠[]
 have J':∀ w,(∀ k,k<=n->iU f w k∈ak)->Good (nv (f 0) (iU f w 0)):=λw h k hk=>by
  rw[(BZ 0).1];exact List.ne_nil_of_mem (UK h hk)
 let I:Nat->aR->Prop:=λi Y=>(∃ x3 x4 x5 x6 x7:L2.Slot,Y=St [x3,x4,x5,x6,x7])/\∀ r∈(lu ak).take i,¬ Good (nv (f 0) r)
 refine DL (I (lu ak).length) (rY (bu [("t",ak)]) (fD (n+1) f)) ?_ (λd h=>⟨d,rfl,h⟩) ?_
 .refine CH I _ (du (fG (aY rfl (JC nofun hw ())))) (by simp) ⟨⟨ab,ab,ab,ab,ab,rfl⟩,λr m=>by simp at m⟩ ?_
  rintro i d _ hd ⟨⟨x3,x4,x5,x6,x7,rfl⟩,KK⟩;rw[eU] at hd;obtain⟨r,hr,rfl⟩:=gM.1 hd;have mr:=Alb.1 (eT hr);have h2:=hw r mr;refine⟨St [s0 (aZ r),x4,x5,x6,x7],rfl,?_⟩;have ix0:au PL (.int 0)=aa (.int (bI (f 0))):=nY (by simp)
  refine cD (aO rfl (aO rfl rfl ix0) (OD h2 (f 0))) (by simp[St]) (cD (d:=.list (([]:List aas).map oD)) rfl (by simp[St]) ?_)
  obtain⟨s,hs⟩:∃ s,s=nv (f 0) r:=⟨_,rfl⟩;rw[<-hs]
  let T:List (aas)->List L2.Slot->aR:=λM r'=>St (s0 (aZ r)::s0 (.int s)::aa (1,.list (M.map oD))::r')
  let g:Nat->aas:=λk=>mo (nb ak (f k) s)
  refine fI (λρ'=>∃ x6 x7:L2.Slot,ρ'=T ((bW (n+1)).map g) [x6,x7]) ?_ ?_
  .refine kA (λM k=>M++[g k]) (λj M ρ'=>M.length=j/\∃ x6 x7:L2.Slot,ρ'=T M [x6,x7]) (du (fG rfl)) ⟨rfl,x6,x7,rfl⟩ ?_ ?_
   .rintro j k M _ hk ⟨hM,x6,x7,rfl⟩;have hj:=(cK.1 hk).1;rw[xC] at hj;refine⟨T M [s0 (.int (bI (f k))),x7],rfl,?_⟩;have e:=gA (cap:=[ab,aa 6,aa 4]) (fi:=bg (aB 0)) (T:=gB 0) (t:=aw (ai de (ai au (aB 0) (aB 1)) (aB 2))) (f:=ai au (aB 0) (ai kM (eC (.int 1)) (aB 1))) (Y:=vS (T M [s0 (.int (bI (f k))),x7])) (λo=>decide (nv (f k) o=s)) (λo=>aT (nv (!f k) o)) (fG rfl) () λo mo=>⟨[aa (aZ o),aa (.int (bI (f k))),aa (.int s)],rfl,dZ (aO (aO rfl rfl (OD (hw o mo) _)) rfl (DV _ _)),λ_=>aO rfl (aO rfl rfl (L5 (f k))) (OD (hw o mo) _)⟩
    refine cD (d:=lI (nb ak (f k) s)) (e.trans (by unfold nb;rw[lI,dC];rfl)) (by simp[T,St]) (iV (rM (aY rfl (Me _)) rfl (by simp;lia) ⟨_,.inl rfl,by simp[hM],s0 (.int (bI (f k))),s0 (lI (nb ak (f k) s)),?_⟩))
    rw[show M.map oD++[oD (g k)]=(M++[g k]).map oD by simp]
    rfl
   .rintro _ ⟨_,x6,x7,rfl⟩;refine⟨_,rfl,x6,x7,?_⟩;have:∀ xs:aar,xs.flatMap (λk=>[g k])=xs.map g:=λxs=>by induction xs<;>simp_all
    rw[EK,this]
    rfl
  rintro _ ⟨x6,x7,rfl⟩;refine iV ?_;have tt:bV .s (aw (ai (gn af) (eC .none) (aB 5))) (frz 5 (T ((bW (n+1)).map g) [x6,x7]))=aa (((bW (n+1)).map g).all QE):=dZ (aO rfl rfl (Vn _));by_cases q:((bW (n+1)).map g).all QE=af
  .rw[q] at tt
   let mv:Nat->Int:=λk=>(g k).getD 0
   have hm:∀ k,k<=n->g k=aa (mv k):=λk hk=>by
    obtain⟨x,ex⟩:=uG.1 (cY.1 q (g k) (bK.2 ⟨k,eR.2 (),rfl⟩))
    grind
   let v:=vw s (nv (!f 0) r) mv
   have vk:∀ k,k<n->v (ow (k+1))=mv (k+1):=λk hk=>Lr _ _ _ k ()
   have v0:iU f v 0=r:=(US h2 (f 0) hs.symm rfl).symm;have sol:∀ k,k<=n->iU f v k∈ak:=λk hk=>by
    cases k with
    |zero=>rw[v0];exact mr
    |succ k=>
     obtain⟨m1,_⟩:=Fq (hm (k+1) hk);obtain⟨o,mo,eo⟩:=bK.1 m1;obtain⟨mo,e2⟩:=oR.1 mo;have:=US (hw o mo) (f (k+1)) (of_decide_eq_true e2) eo;have e3:iU f v (k+1)=o:=by
      rw[this];unfold iU;rw[vk k ()]
      rfl
     rw[e3];exact mo
   have er:aZ ((bT (fD (n+1) f)).map v)=.tuple (r.map aT++(bW n).map λk=>aT (mv (k+1))):=by
    rw[LQ hn,v0];unfold aZ;rw[iH,dC]
    congr 2
    exact jD λk mk=>congrArg aT (vk k (eR.1 mk))
   have ed:(((bW (n+1)).map g).map oD).drop 1=(bW n).map λk=>aT (mv (k+1)):=by
    rw[List.range_succ_eq_map,cW,cW,List.drop_one,List.tail_cons,dC,dC];exact jD λk mk=>by
     show oD (g (k+1))=_;rw[hm (k+1) (by have:=eR.1 mk;lia)]
     rfl
   refine fS tt (cQ (aO rfl (aY (aX (yA rfl rfl rfl) rfl) rfl) ?_) (.inr ⟨_,rfl,.inr ⟨v,rfl,Ao3.2 sol,λw oq lt=>?_⟩⟩))
   .have ec:cutD (((bW (n+1)).map g).map oD) (aa (1:Int)) ab=_:=(KW 1 (by simp)).trans ed
    rw[er];rw[ec];exact if_pos (pT (by simp[h2];lia))
   .have oq:=Ao3.1 oq;rw[LQ hn,LQ hn,v0,CJ ((hw _ (oq 0 ())).trans h2.symm)] at lt
    rcases lt with lt|⟨eq,lt⟩
    .have mw:=Alb.2 (oq 0 ())
     obtain⟨j,hj,ej⟩:=qJ mw;obtain⟨hi,ei⟩:=cK.1 hr;rcases wX j i with z|z|z
     .refine KK (iU f w 0) ?_ (J' w oq);rw[<-ej];exact List.mem_take_iff_getElem.2 ⟨j,(),rfl⟩
     .subst z;rw[<-ej,ei] at lt;exact vI _ lt
     .have:=(GB.1 (OH nd).2) i j hi hj z;rw[ei,ej] at this;exact Afw.1 this lt
    .refine VS (λk mk=>?_) lt
     have hk:=eR.1 mk;have ws:w "x" = s:=by rw[hs,<-eq];exact(BZ 0).1.symm
     have:=(Fq (hm (k+1) ())).2 (w (ow (k+1))) (by rw[<-ws];exact UK oq ())
     rw[vk k hk];exact this
  .rw[Bool.eq_false_iff.2 q] at tt;refine jY tt (jZ (.inl ⟨_,rfl,⟨_,_,_,_,_,rfl⟩,λr' m=>?_⟩))
   rw[uH,hr] at m;rcases oU.1 m with m|m
   .exact KK r' m
   .rw[cF.1 (show r'∈[r] from m),<-hs]
    intro gd;refine q (cY.2 λx mx=>?_)
    obtain⟨k,mk,rfl⟩:=bK.1 mx;cases z:g k with
    |some u=>rfl
    |none=>exact absurd (Qx z) (gd k (by have:=eR.1 mk;lia))
 rintro _ ⟨⟨x3,x4,x5,x6,x7,rfl⟩,KK⟩;refine cQ rfl ⟨_,rfl,.inl ⟨rfl,λw oq=>?_⟩⟩
 have oq:=Ao3.1 oq;rw[wY] at KK;exact KK _ (Alb.2 (oq 0 ())) (J' w oq)
section
variable (hC:Cl ns C)
include hC
theorem Sw:∃ (ak:ga) (n:Nat) (f:Nat->Bool),NC [lI ns]=aa (.list [bC ak,ay (fD (n+1) f)])/\ak.length<=60/\ak.Nodup/\(∀ r∈ak,r.length=2)/\n<5:=by
 have:∃ d,NC [lI ns]=aa d/\∃ (ak:ga) (n:Nat) (f:Nat->Bool),d=.list [bC ak,ay (fD (n+1) f)]/\ak.length<=60/\ak.Nodup/\(∀ r∈ak,r.length=2)/\n<5:=by
  rw[8];refine cD rfl (by simp) ?_
  obtain⟨N,eN,hN,_⟩:=iN (C 54) (n:=61) ()
  let R:ga->List L2.Slot->aR:=λak r=>s0 (lI ns)::aa (1,bC ak)::r
  refine fI (λρ'=>∃ (ak:ga) (x2 x3 x4:L2.Slot),ak.length<=60/\ak.Nodup/\(∀ r∈ak,r.length=2)/\ρ'=R ak [x2,x3,x4,ab,ab]) ?_ ?_
  .refine rL (λi ρ'=>∃ (ak:ga) (x2 x3 x4:L2.Slot),ak.length<=i/\ak.Nodup/\(∀ r∈ak,r.length=2)/\ρ'=R ak [x2,x3,x4,ab,ab]) (du (nV (aX (aO (hC.at () rfl rfl) rfl eN) rfl) ())) ⟨[],ab,ab,ab,bB _,AN,(λ_ h=>nomatch h),rfl⟩ ?_ ?_
   .rintro k _ hk ⟨ak,x2,x3,x4,hl,nd,hw,rfl⟩;refine⟨R ak [s0 (.int k),x3,x4,ab,ab],rfl,?_⟩;obtain⟨a8,e8,h8,_⟩:=iN (k:Int) (n:=8) ()
    obtain⟨c,ec⟩:∃ c:Int,ai dA (aN iA (aF (aB 0) (aF (ai dA (eC (.int 55)) (ai cZ (aB 2) (eC (.int 8)))) aJ))) (ai fR (eC (.int 11)) (ai fL (aB 2) (eC (.int 8)))) (vS (R ak [s0 (.int k),x3,x4,ab,ab]))=aa (.int c):=⟨_,aO (hC.at () rfl (aO rfl (aO rfl rfl e8) (add_n 55 a8))) (aO rfl (aO rfl rfl (lD k 8 ())) (rC nofun)) rfl⟩
    refine cD ec (by simp[R]) ?_
    obtain⟨u,eu,_⟩:=IT c (k:=k) () () (n:=9) ()
    obtain⟨y,ey,_⟩:=IT c (k:=((k+7:Nat):Int)) () () (n:=9) ()
    refine cD (d:=aZ [(u:Int)-4,(y:Int)-4]) (rH (aX (aO (aY rfl eu) rfl rfl) (aX (aO (aY (aX rfl (aX (aO rfl rfl (add_n k 7)) rfl)) ey) rfl rfl) rfl))) (by simp[R]) ?_
    have tt:bV .a (aw (ai (gn af) (aB 4) (aB 1))) (R ak [s0 (.int k),s0 (.int c),s0 (aZ [(u:Int)-4,(y:Int)-4]),ab,ab])=aa (af != decide ([(u:Int)-4,(y:Int)-4]∈ak)):=dZ (aO rfl rfl (WI af _ ak));have h2:[(u:Int)-4,(y:Int)-4].length=2:=rfl;generalize [(u:Int)-4,(y:Int)-4]=row at tt h2;by_cases h:row∈ak
    .rw[decide_eq_true h] at tt;exact jY tt (jZ ⟨_,.inl rfl,ak,_,_,_,(),nd,hw,rfl⟩)
    .rw[decide_eq_false h] at tt;refine fS tt (rM rfl rfl (by simp;lia) ⟨_,.inl rfl,ak++[row],s0 (.int k),s0 (.int c),s0 (aZ row),by simp;lia,?_,λr m=>?_,?_⟩)
     .grind
     .grind
     .rw[show ak.map aZ++[aZ row]=(ak++[row]).map aZ by simp]
      rfl
   all_goals grind
  rintro _ ⟨ak,x2,x3,x4,hl,nd,hw,rfl⟩;refine iV (cD rfl (by simp[R,frz]) ?_)
  obtain⟨n,en,hn,_⟩:=iN (C 54/(61:Nat)) (n:=5) ()
  let f:Nat->Bool:=λk=>decide (C 54/(([1,2,4,8,16].getD k 1:Nat):Int)/(305:Nat)%2≠0)
  let S:aaq->L2.Slot->L2.Slot->aR:=λls x2 x6=>[s0 (lI ns),s0 (bC ak),x2,x3,x4,aa (1,.list (ls.map bG)),x6]
  refine fI (λρ'=>∃ x2 x6:L2.Slot,ρ'=S (fD (1+n) f) x2 x6) ?_ ?_
  .refine rL (λi ρ'=>∃ x2 x6:L2.Slot,ρ'=S (fD i f) x2 x6) (du (nV (aX (aO rfl (aO (aO (hC.at () rfl rfl) rfl (lD _ 61 ())) rfl en) (add_n 1 n)) rfl) ())) ⟨x2,ab,rfl⟩ ?_ ?_
   .rintro k _ hk ⟨x2,x6,rfl⟩;refine⟨S (fD k f) (s0 (.int k)) x6,rfl,?_⟩;refine cD (d:=.str (ow k)) (aO rfl rfl (nY (xs:=OWN) (getD_some _ (show k<5 by lia)))) (by simp[S]) ?_
    have ix:=nY (q:=λ(c:Nat)=>aT c) (xs:=[1,2,4,8,16]) (getD_some 1 (show k<5 by lia))
    have hq:1<=([1,2,4,8,16].getD k 1:Nat)/\([1,2,4,8,16].getD k 1:Nat)<=16:=(by decide:∀ j:Fin 5,1<=([1,2,4,8,16].getD j.val 1:Nat)/\([1,2,4,8,16].getD j.val 1:Nat)<=16) ⟨k,()⟩
    refine rM (d:=bG (iy f k)) (rH (aX rfl (aX (aO (mJ (aX (rH rfl) (aX (rH rfl) rfl))) (aO (aO (aO (hC.at () rfl rfl) (aO rfl rfl ix) (lD _ _ ())) rfl (lD _ 305 ())) rfl (HX nofun)) ((UB _ _ _).trans ?_)) rfl))) rfl (by simp[fD];lia) ⟨_,.inl rfl,s0 (.int k),s0 (.str (ow k)),?_⟩
    .unfold iy;by_cases h:C 54/(([1,2,4,8,16].getD k 1:Nat):Int)/(305:Nat)%2=0
     .rw[if_pos h,if_neg (show ¬ f k=af from λz=>of_decide_eq_true z h)]
      rfl
     .rw[if_neg h,if_pos (show f k=af from decide_eq_true h)]
      rfl
    .rw[show(fD k f).map bG++[bG (iy f k)]=(fD (k+1) f).map bG by unfold fD;rw[List.range_succ];simp]
     rfl
   all_goals grind
  rintro _ ⟨x2,x6,rfl⟩;rw[Nat.add_comm 1 n];exact iV (cQ (mJ (aX rfl (aX (aY rfl rfl) rfl))) ⟨_,rfl,ak,n,f,rfl,hl,nd,hw,hn⟩)
 grind
end
theorem B3 {ss:aak}(h:z∈rF ss):z∈ss:=by
 unfold rF at h;split at h
 .rename_i q;exact q.choose_spec.1.mem_iff.1 h
 .exact h
theorem Xb(o:BkG m L):yK [.dict (ba L)]=aa (.list ((rF (L.map (·.1))).map cE)):=by
 have e:(ba L).map (·.1)=(L.map (·.1)).map cE:=by
  unfold ba;rw[dC,dC]
  rfl
 show((sA ((ba L).map (·.1))).bind λis=>if (dg (ba L)&&(ba L).all λkd=>cH kd.1)=af/\is.length<64 then aa (qG ((rF is).map cE)) else ab)=_
 rw[e,YO,bQ,if_pos ⟨by
  rw[NX,xH];exact cY.2 λkd m=>by
   obtain⟨p,mp,rfl⟩:=bK.1 m;exact Gz (o.tab p mp),by have:=o.len;rw[cJ];lia⟩]
theorem Sg(hl:ak.length<=60)(nd:ak.Nodup)(hw:∀ r∈ak,r.length=2):BkG 60 [("t",ak)]:=by
 have key:∀ {Q:Tb->Prop},Q ("t",ak)->∀ p∈[(("t",ak):Tb)],Q p:=λh p m=>by rw[cF.1 m];exact h
 exact⟨by simp,key (show("t" : aE)∈tw by decide),key hl,key nd,key hw⟩
theorem Qf (ns:aal)(_:ns.length<=63)(_:xY ns):HP [.list (ns.map .int)]=aa (.bool af):=by
 obtain⟨C,hC⟩:=Mv ns;obtain⟨ls,eL,h4,qm⟩:=o5 hC;obtain⟨L,eB,o⟩:=Sh hC h4 qm;obtain⟨ak,n,f,eS,hl,nd,hw,hn⟩:=Sw hC;have K:=t8 h4 qm;have:∃ d,HP [lI ns]=aa d/\d=.bool af:=by
  rw[8]
  let St:aat->L2.Slot->aR:=λL x=>[s0 (lI ns),s0 (ay ls),aa (2,.dict (ba L)),s0 (bC ak),s0 (ay (fD (n+1) f)),x]
  refine cD (aY rfl eL) (by simp) (cD (aY rfl eB) (by simp) (Th (aY rfl eS) rfl ?_))
  have rt:∀ {L:aat} (_:BkG 6 L) (x:L2.Slot),aN wC (aF (aB 2) (aF (aB 1) (aF (aN FE (aF (aB 2) (aF (aB 1) aJ))) aJ))) (vA (St L x))=aa (.bool af):=λ{L} o x=>by
   obtain⟨d,ew,hd⟩:=M0 (o.bk nofun) (λt=>(o.atR t).1) K h4 λl m=>(qm l m).wd
   exact aY (aX rfl (aX rfl (aX (aY rfl ew) rfl))) (WN o K hd)
  refine fT (FJ (CK (rt o ab))) ?_;obtain⟨d,ew,hd⟩:=j4 nd hw hl hn f;refine fT (FJ (CK (aY (aX rfl (aX rfl (aX (aY rfl ew) rfl))) (WN (Sg hl nd hw) (Wl () f) hd)))) ?_
  refine DL (λρ'=>∃ x,ρ'=St L x) (λd=>d=.bool af) ?_ (λd h=>⟨d,rfl,h⟩) ?_
  .have ei:xM (aN yK (aF (aB 2) aJ)) (vA (St L ab))=aa ((rF (L.map (·.1))).map cE):=by
    unfold xM;rw[aY (aX rfl rfl) (Xb o),bQ];exact if_pos (cY.2 λd m=>by
     obtain⟨z,_,rfl⟩:=bK.1 m
     rfl)
   refine CH (λ_ ρ'=>∃ x,ρ'=St L x) _ ei rfl ⟨ab,rfl⟩ ?_
   rintro i d _ hd ⟨x,rfl⟩;rw[eU] at hd;obtain⟨t,ht,rfl⟩:=gM.1 hd;have tm:=B3 (eT ht);refine⟨St L (s0 (.str t)),rfl,?_⟩;have tt:bV .a (aw (ai qt (aN cR (aF (ai au (aB 2) (aB 5)) aJ)) (eC (.int 0)))) (St L (s0 (.str t)))=aa (decide (((bu L t).length:Int) > 0)):=dZ (aO (aY (aX (aO rfl rfl (yQ tm)) rfl) ((vB _).trans (by rw[cJ]))) rfl rfl)
   by_cases h:((bu L t).length:Int) > 0
   .obtain⟨p,ep,hp,_⟩:=iN (C 2) (n:=(bu L t).length) ()
    obtain⟨a1,a2,a3⟩:=o.atR t;have o2:BkG 6 (kH L t ((bu L t).eraseIdx p)):=o.upd (dI (List.length_eraseIdx_le ..) a1) (a2.sublist (List.eraseIdx_sublist ..)) λr m=>a3 r ((List.eraseIdx_sublist ..).subset m)
    refine fS (tt.trans (by rw[decide_eq_true h])) (fI (λρ'=>ρ'=St (kH L t ((bu L t).eraseIdx p)) (s0 (.str t))) (Rz rfl rfl tm (Q9 (aO (aY rfl (hC 2 ())) (aY (aX (aO rfl rfl (yQ tm)) rfl) ((vB _).trans (by rw[cJ]))) ep) rfl) (vF hp) () ⟨_,rfl,rfl⟩) ?_)
    rintro _ rfl;exact Vf (rt o2 _) rfl (.inr ⟨_,rfl,rfl⟩)
   .exact jY (tt.trans (by rw[decide_eq_false h])) (jZ (.inl ⟨_,rfl,_,rfl⟩))
  rintro _ ⟨x,rfl⟩;exact iV (cQ rfl ⟨_,rfl,rfl⟩)
 rw[3]
end Aw
set_option hygiene false in
local macro_rules | `(tactic| sleep 0)=>`(tactic| repeat' first|exact fE _|exact pL|refine pQ ?_ ?_|((with_reducible show PE _ _ _);first|((with_reducible show DF _ _ _ (eC _));first|exact jJ|exact yB|exact UC|exact TY|exact Gp)|((with_reducible show DF _ _ _ (ai _ _ _));first|((with_reducible show DF _ _ _ (ai au _ _));refine zY hv ?_ ?_ (λ_ _=>rfl))|((with_reducible show DF _ _ _ (ai cZ _ _));refine VP ?_ ?_)|((with_reducible show DF _ _ _ (ai fL _ _));refine Sa ?_ ?_)|((with_reducible show DF _ _ _ (ai dA _ _));refine UW ?_ ?_)|((with_reducible show DF _ _ _ (ai fR _ _));refine Oy ?_ ?_)|((with_reducible show DF _ _ _ (ai kM _ _));refine VT ?_ ?_)|((with_reducible show DF _ _ _ (ai nQ _ _));refine Va ?_ ?_)|((with_reducible show DF 1 _ _ (ai pX _ _));refine BL ?_ ?_))|((with_reducible show DF _ _ _ (aN _ _));first|((with_reducible show DF _ _ _ (aN cR _));refine pU MZ LY rfl Q.B.len Iu ?_)|((with_reducible show DF _ _ _ (aN iO _));refine mK j2 Yy rfl Q.B.tuple M8 ?_)|refine UR (by assumption) (hr.mono nofun) rfl ?_)|((with_reducible show DF _ _ _ (cu _ _ _ _ _));refine NT hS ?_ (λ_ _ _ _ _=>?_) (λ_ _ _ _ _=>?_))|((with_reducible show DF _ _ _ (gm (gF _) _));refine WA (T:="str") rfl Q.B.isinstance rfl Q.B.str PyProof.Rows.boot_str nofun ?_)|refine BK ?_|refine WD ?_|refine Sq ?_|refine Fj hv ?_ ?_ ?_|(refine hZ (n:=1) ?_;first|exact Gp|refine BK ?_|((with_reducible show DF _ _ _ (cu _ _ _ _ _));refine NT hS ?_ (λ_ _ _ _ _=>?_) (λ_ _ _ _ _=>?_))|((with_reducible show DF _ _ _ (ai pX _ _));refine BL ?_ ?_)|((with_reducible show DF _ _ _ (aN nP _));refine mK (zP rfl) zI rfl Q.B.list AE ?_)|((with_reducible show DF _ _ _ (aN _ _));refine UR (by assumption) (hr.mono nofun) rfl ?_)))|((with_reducible show PSs _ _ _);first|(with_reducible refine Ve _ ?_)|((with_reducible show iw _ _ _ _ _ (aW _ _));refine WY ?_ ?_)|refine Sr ?_|refine WY ?_ ?_|exact Rm)|((with_reducible show PS _ _ _);first|refine Py _ _ nd rfl (by first|exact gU rfl|exact jS rfl) ?_|((with_reducible show DS _ _ _ _ _ (cT _ (bg _) _ _));refine sX qH rfl ?_ ?_ ?_)|((with_reducible show DS _ _ _ _ _ (cT _ (jd _) _ _));refine Sz _ qH rfl ?_ ?_ ?_)|refine Mt _ ?_ ?_ ?_|refine C7 _ _ ?_|refine Oo _ ?_|exact To _|refine Vp _ ?_|exact Nq)|((with_reducible show PT _ _ _);first|((with_reducible show DT _ _ (aw (ai de _ _)));refine mI (vJ hu) BO ?_ ?_ (kL _))|((with_reducible show DT _ _ (aw (ai gs _ _)));refine mI (Ot hu) Pu ?_ ?_ (kL _))|((with_reducible show DT _ _ (aw (ai qt _ _)));refine mI Mp Rr ?_ ?_ (kL _))|((with_reducible show DT _ _ (aw (ai vv _ _)));refine mI (Bj6.or ZL) UI ?_ ?_ (kL _))|((with_reducible show DT _ _ (aw (ai mS _ _)));refine mI Tv A4 ?_ ?_ (kL _))|((with_reducible show DT _ _ (aw (ai xN _ _)));refine mI VW Ho ?_ ?_ (kL _))|((with_reducible show DT _ _ (aw (ai (gn _) _ _)));first|refine mI (WW hu) CB ?_ ?_ (by with_unfolding_all rfl)|refine mI (Df hu) CB ?_ ?_ (by with_unfolding_all rfl))|refine Qs ?_|((with_reducible show DT _ _ (mE _ _));refine HG ?_)|((with_reducible show DT _ _ (Q7 _ _));refine HG ?_)|refine Ny ?_)|((with_reducible show PW _ _ _);first|refine UX ?_ ?_|refine Mh ?_ ?_|refine Hy ?_|refine Nu ?_)|exact CT|refine IG ?_|refine CD ?_|refine D2 rfl Q.B.range ?_|exact Si nd rfl (by first|exact gU rfl|exact jS rfl)|exact Rl rfl nd rfl rfl (by first|exact gU rfl|exact jS rfl) (by first|exact gU rfl|exact jS rfl))
namespace Aw
open PySem L2
variable {K:aK}{n:aE}{i:Nat}
def BH (K:aK):Sp:=λvs H Q _=>∃ (a:aC) (ns:aal),vs=[.ref a]/\SqL K H a (ns.map V.int)/\ns.length<=63/\xY ns/\∀ H',Q (.bl af) H'
theorem Qr:∀ vs H Q E,BH K vs H Q E->O3 K 0 HP vs H Q E:=λvs H Q E gh=>by
 obtain⟨a,ns,ev,hS,hl,hb,k⟩:=gh;subst ev;have e0:hid H (λ_=>False)=H:=by
  funext b;unfold hid;rw[if_neg (λz=>z)]
 refine⟨λ_=>False,[.list (ns.map aT)],.bool af,λ_ z=>z.elim,?_,Qf ns hl hb,dR λv H' _ r=>?_⟩
 .rw[e0];exact Aae.2 ⟨_,_,rfl,Aa8.2 ⟨a,_,rfl,hS,LU ns⟩,Aai.2 rfl⟩
 .rw[Aaw.1 r];exact k H'
def Hs (K:aK)(n:aE)(i:Nat):Prop:=∃ f fd,Fun K n n (dh i) f fd/\AC K jO n=aa (aa (.ref f))
theorem Bkj{f:aC}{od an:Option aC}{sl:Array aap}{oc kV dc pm cd ct:aD}(a:AC K jO n=aa (aa (.ref f)))(l:K.lookup f=aa ⟨oc,od,.func (wU n n (yF (dh i)) (nX (dh i)) (dX (dh i)) .none kV dc pm an cd ct),sl⟩)(c:PX K cd n=af)(k:FW K (.ref f)=af):Hs K n i:=⟨_,_,Nz (st:=dh i) l c k,a⟩
theorem Bk2{i:Int}{t:Tok}(h:AC K jO n=aa (aa (.int i t))):∃ t,AC K jO n=aa (aa (.int i t)):=⟨t,h⟩
structure Al (P:bJ)(w:bA)(K:aK)(mg:aE->Option aD)(base h:aU):Prop where
 X:K.In h
 G:h.Ns jO mg
 a1:Hs K "names_of" 4
 a2:Hs K "put_in" 5
 a3:Hs K "fits" 14
 a4:Hs K "rows_of" 15
 a5:Hs K "ways_of" 16
 a6:Hs K "_law_cell" 36
 a7:Hs K "_law_draw" 37
 a8:Hs K "_law_some" 39
 a9:Hs K "_law_put" 41
 a10:Hs K "_law_by_numbers" 44
 a11:Hs K "_law_star_wanted" 46
 a12:Hs K "shared" 7
 a13:Hs K "refuse_rows" 17
 a14:Hs K "extended" 19
 a15:Hs K "fitting" 22
 a16:Hs K "common" 25
 a17:Hs K "key_of" 26
 a18:Hs K "_law_value" 38
 a19:Hs K "_law_wanted" 43
 a20:Hs K "_law_star" 45
 a21:Hs K "parent_of" 8
 a22:Hs K "refuse_ways" 18
 a23:Hs K "walked" 20
 a24:Hs K "all_fitting" 23
 a25:Hs K "with_partner" 27
 a26:Hs K "_law_lines" 40
 a27:Hs K "_law_book" 42
 a28:Hs K "first_ear" 9
 a29:Hs K "ears" 10
 a30:Hs K "ring" 11
 a31:Hs K "thin_parents" 28
 a32:Hs K "walk_rest" 29
 a33:Hs K "thin_ears" 31
 a34:Hs K "refuse_ring" 24
 a35:Hs K "thin_rest" 30
 a36:Hs K "thin_all" 32
 a37:Hs K "least_of" 33
 a38:Hs K "least_match" 34
 a39:Hs K "_law_right" 47
 a40:Hs K "law" 48
 c1:∃ t,AC K jO "MOST_WAYS" = aa (aa (.int 4096 t))
 z:Blt λx=>AC K jO x=aa ab
section
set_option maxHeartbeats 4000000
variable {P:bJ}{w:bA}{mg:aE->aap}{base h:aU}(Q:Al P w K mg base h)
include Q
theorem Al.B:Blt λx=>mg x=ab:=
 have M:=λx=>PySem.W.mg_none_of (n:=x) Q.X Q.G
 ⟨M _ Q.z.1,M _ Q.z.2,M _ Q.z.3,M _ Q.z.4,M _ Q.z.5,M _ Q.z.6,M _ Q.z.7,M _ Q.z.8,M _ Q.z.9,M _ Q.z.10,M _ Q.z.11,M _ Q.z.12,M _ Q.z.13,M _ Q.z.14,M _ Q.z.15,M _ Q.z.16,M _ Q.z.17⟩
theorem Hs.dd(Hh:Hs K n i)(k n0 np:Nat)(N:aak)(b:SF)
  (hb:∀ {f:aC} {bz:aD} {A:bP} {outer:List dW} {s:aH} {H:Hp} {E:XK} {P0:aC->Prop} (hr:Room k (A.deeper (AD n (dX (dh i)) s.heap.objs.size f bz))),Sx (dX (dh i)).names N->N.Nodup->(A.deeper (AD n (dX (dh i)) s.heap.objs.size f bz)).units+100<cLine->(A.deeper (AD n (dX (dh i)) s.heap.objs.size f bz)).units+40<cLine->iw (oG nu P w K mg base N n (dX (dh i)) f bz A outer s H E).nox H P0 n0 (nX (dh i)) b)
  (S:FnScope N (N.take np) (dX (dh i)):=by constructor<;>first|rfl|decide +kernel) (h1:np=(N.take np).length:=by rfl) (h2:(N.take np).length<=N.length:=by decide)
  (bn:∀ f fd,Fun K n n (dh i) f fd->Binds K fd (N.take np) []:=by exact λ_ _ F=>F.binds λ_ _ _ _ _ _ us h=>by rcases us with _|⟨_,_|⟨_,_|⟨_,_|⟨_,_|⟨_,_|⟨_,_⟩⟩⟩⟩⟩⟩<;>first|(simp at h;done)|rfl):Def P w K mg base n (k+1) (N.take np) (O3 K n0 (bw np N.length b)):=
 let ⟨_,_,F,a⟩:=Hh
 ⟨_,_,TF F S h1 h2 λbz A outer s H E P0 hr=>hb hr ⟨⟩ S.nd (HM hr) (HQ hr),PV Q.X Q.G a,F.kp,bn _ _ F⟩
theorem Hs.dL(Hh:Hs K n i)(k np:Nat)(N:aak)(fg:EF)(tb:BF)(f3 f4:EF)
  (hb:∀ {f:aC} {bz:aD} {A:bP} {outer:List dW} {s:aH} {H:Hp} {E:XK} (hr:Room k (A.deeper (AD n (dX (dh i)) s.heap.objs.size f bz))),Sx (dX (dh i)).names N->N.Nodup->(A.deeper (AD n (dX (dh i)) s.heap.objs.size f bz)).units+100<cLine->(A.deeper (AD n (dX (dh i)) s.heap.objs.size f bz)).units+40<cLine->PSs (oG nu P w K mg base N n (dX (dh i)) f bz A outer s H E).nox (nX (dh i)) (RY K fg tb f3 f4))
  (S:FnScope N (N.take np) (dX (dh i)):=by constructor<;>first|rfl|decide +kernel) (h1:(N.take np).length=4:=by rfl) (h2:N.length=5:=by rfl)
  (bn:∀ f fd,Fun K n n (dh i) f fd->Binds K fd (N.take np) []:=by exact λ_ _ F=>F.binds λ_ _ _ _ _ _ us h=>by rcases us with _|⟨_,_|⟨_,_|⟨_,_|⟨_,_|⟨_,_|⟨_,_⟩⟩⟩⟩⟩⟩<;>first|(simp at h;done)|rfl):Def P w K mg base n (k+1) (N.take np) (OA K (O0 fg tb f3 f4)):=
 let ⟨_,_,F,a⟩:=Hh
 ⟨_,_,Oj F S h1 h2 λbz A outer s H E hr=>hb hr ⟨⟩ S.nd (HM hr) (HQ hr),PV Q.X Q.G a,F.kp,bn _ _ F⟩
def MJ:=Hs.dd Q Q.a1 0 1 1 ["lines","names","line","term"] Bz λhr hS nd hu hv=>by
 rw[14];refine WJ 1 .s .s hv TY ?_;rw[14];refine mK (Yt rfl) b7 rfl Q.B.list AE ?_;rw[14]
def LA:=Hs.dd Q Q.a2 0 0 2 ["terms","known"] XR λhr hS nd hu hv=>by
 rw[14]
def BM:=Hs.dd Q Q.a3 0 1 3 ["line","row","known","found","term","number","wanted"] UE λhr hS nd hu hv=>by
 rw[14];exact XG;rw[14];refine mK Bn Ck rfl Q.B.dict QC ?_;rw[14];refine sX qH rfl ?_ ?_ ?_;refine NS rfl Q.B.zip ?_;rw[14];refine Mr 6 3 .s .s .s .s nd ?_ ?_ ?_ ?_;rw[14];exact XG;rw[14]
def ZH:=Hs.dd Q Q.a4 0 0 2 ["book","line"] ZS λhr hS nd hu hv=>by
 rw[14]
def L6:=Hs.dd Q Q.a5 0 0 1 ["rows","number","own"] Ah λhr hS nd hu hv=>by
 rw[14];refine pU (Bf rfl) Ar rfl Q.B.max PyProof.Rows.boot_max ?_;rw[14]
def zQ:=Hs.dd Q Q.a6 0 0 2 ["_law_script","_law_k"] Di λhr hS nd hu hv=>by
 rw[14]
def Ds:=Hs.dd Q Q.a7 0 0 3 ["_law_cell_here","_law_k","_law_size","_law_number"] Da λhr hS nd hu hv=>by
 rw[14]
def Zr:=Hs.dd Q Q.a8 0 1 3 ["_law_kind","_law_k","_law_count"] Cw λhr hS nd hu hv=>by
 rw[14];refine YD rfl rfl Q.B.list rfl Q.B.range ?_;rw[14]
def Yb:=Hs.dL Q Q.a9 0 4 ["_law_book_here","_law_table","_law_row","_law_at","_law_rows"] FB EY EZ FC λhr hS nd hu hv=>by
 exact JN (BW (i:=4) nd rfl (by first|exact gU rfl|exact jS rfl) (Fj hv (fE 0) (fE 1) (hZ (n:=1) (BK pL)))) (IK (HK (HG (UX (mI (Df hu) CB (fE 2) (fE 4) (by with_unfolding_all rfl)) (Hy (mI (Bj6.or ZL) UI (pU MZ LY rfl Q.B.len Iu (pQ (fE 4) pL)) jJ (kL _))))) (JN (BW (i:=3) nd rfl (by first|exact gU rfl|exact jS rfl) (VP (fE 3) (UW (pU MZ LY rfl Q.B.len Iu (pQ (fE 4) pL)) jJ))) (IK (DR hv (Nm.pe (by exact hE)) (fE 1) (BL (hZ (n:=1) (BL (hZ (n:=1) (xZ (fE 4) tD (tH (fE 3)))) (hZ (n:=1) (BK (pQ (fE 2) pL))))) (hZ (n:=1) (xZ (fE 4) (tH (fE 3)) tD))) rfl))) IF))
def k7:=Hs.dd Q Q.a10 0 0 1 ["_law_known","_law_term"] Fc λhr hS nd hu hv=>by
 rw[14];refine sX qH rfl ?_ ?_ ?_;refine Sl ?_;rw[14]
def k8:=Hs.dd Q Q.a11 0 0 2 ["_law_rows","_law_lines_here","_law_places","_law_row","_law_shared_value","_law_beside","_law_at","_law_some_here"] Fb λhr hS nd hu hv=>by
 rw[14];exact(JL (i:=2) .s rfl nd rfl (by first|exact gU rfl|exact jS rfl) (tV (N:=["_law_line"]) (cap:=[ab]) (out:=(dX (dh 46)).names) (XN:=(["_law_rows","_law_lines_here","_law_places","_law_row","_law_shared_value","_law_beside","_law_at","_law_some_here"]:aak)) rfl rfl (by rw[0]) rfl) sP (CD (fE 1)) (λcl C s₀ H₀ ex=>⟨yV (j:=0) (show(["_law_line"]:aak).Nodup by rw[0]) rfl (gU rfl),CT,(mK Bl E9 rfl Q.B.int PyProof.Rows.boot_int (pQ (BN (vJ hu) BO (zY hv (zY hv (fE 0) jJ (λ_ _=>rfl)) jJ (λ_ _=>rfl)) yB (kL _)) pL))⟩))
 rw[14];refine hZ (n:=1) ?_;refine pU Dz Cz rfl Q.B.sorted QB ?_;rw[14];exact(JL (i:=7) .s rfl nd rfl (by first|exact gU rfl|exact jS rfl) (tV (N:=["_law_other","_law_at","_law_shared_value"]) (cap:=[ab,aa 6,aa 4]) (out:=(dX (dh 46)).names) (XN:=(["_law_rows","_law_lines_here","_law_places","_law_row","_law_shared_value","_law_beside","_law_at","_law_some_here"]:aak)) rfl rfl (by rw[0]) rfl) sP (CD (fE 0)) (λcl C s₀ H₀ ex=>⟨yV (j:=0) (show(["_law_other","_law_at","_law_shared_value"]:aak).Nodup by rw[0]) rfl (gU rfl),IG (mI (vJ hu) BO (zY hv (fE 0) (fE 1) (λ_ _=>rfl)) (fE 2) (kL _)),(zY hv (fE 0) (VT jJ (fE 1)) (λ_ _=>rfl))⟩))
 rw[14];refine WK rfl hv rfl Q.B.min ?_;rw[14];refine Fw ?_ ?_;rw[14];refine hZ (n:=1) ?_;refine xZ ?_ ?_ tD;rw[14];exact(tH jJ);rw[14]
def p0:=Hs.dd Q Q.a12 1 1 2 ["lines","k","elsewhere"] WO λhr hS nd hu hv=>by
 have:=MJ Q;rw[14];refine Fw ?_ ?_;refine UQ ?_ tD ?_;rw[14];refine tH ?_;rw[14];refine UQ ?_ ?_ tD;rw[14];refine tH ?_;rw[14]
def i3:=Hs.dd Q Q.a13 1 0 1 ["rows"] FG λhr hS nd hu hv=>by
 have:=L6 Q;obtain⟨_,iu⟩:=Q.c1;rw[14];exact(o7 (i:=4096) rfl (PV Q.X Q.G iu) ⟨_,rfl⟩);rw[14]
def Ya:=Hs.dd Q Q.a14 1 1 3 ["found","line","rows","told","known","row","more"] Bq λhr hS nd hu hv=>by
 have:=BM Q;rw[14]
def L3:=Hs.dd Q Q.a15 1 1 2 ["book","line"] ZR λhr hS nd hu hv=>by
 have:=BM Q;have:=ZH Q;rw[14];refine pU Dz Cz rfl Q.B.sorted QB ?_;rw[14]
def y7:=Hs.dd Q Q.a16 1 1 2 ["line","other"] WS λhr hS nd hu hv=>by
 have:=MJ Q;rw[14]
def Wu:=Hs.dd Q Q.a17 1 0 3 ["line","row","names"] XU λhr hS nd hu hv=>by
 have:=LA Q;have:=BM Q;rw[14]
def Dw:=Hs.dd Q Q.a18 1 0 2 ["_law_script","_law_k","_law_cell_here"] Dy λhr hS nd hu hv=>by
 have:=zQ Q;rw[14];exact(CA jJ jJ);exact(CA jJ jJ);rw[14];exact(CA jJ jJ);exact(CA jJ jJ);rw[14]
def i8:=Hs.dd Q Q.a19 1 0 2 ["_law_book_here","_law_lines_here","_law_found","_law_names","_law_table","_law_terms","_law_longer","_law_known","_law_row","_law_more"] Ed λhr hS nd hu hv=>by
 have:=k7 Q;rw[14];refine mK Bn Ck rfl Q.B.dict QC ?_;rw[14];refine Xg 9 hu rfl (tV (N:=["_law_term","_law_value_here","_law_more"]) (cap:=[ab,ab,aa 9]) (out:=(dX (dh 43)).names) (XN:=(["_law_book_here","_law_lines_here","_law_found","_law_names","_law_table","_law_terms","_law_longer","_law_known","_law_row","_law_more"]:aak)) rfl rfl (by rw[0]) rfl) Q.B.min rfl ?_ ?_ (λcl C s₀ H₀ ex=>⟨IC rfl (rN (nZ (i:=0) (show(["_law_term","_law_value_here","_law_more"]:aak).Nodup by rw[0]) rfl (gU rfl)) (rN (nZ (i:=1) (show(["_law_term","_law_value_here","_law_more"]:aak).Nodup by rw[0]) rfl (gU rfl)) CQ)),Ft,zF Bl rfl Q.B.int PyProof.Rows.boot_int (hX (Gv (vJ hu) (vE Jg Je M4 Bd (Nm.pe (by exact hE)) (hX (Nm.pe (by exact hE)) (hX (Nm.pe (by exact hE)) jX)) ⟨rfl,rfl,rfl,rfl,rfl⟩) (Nm.pe (by exact hE)) (kL _)) jX)⟩)
 refine NS rfl Q.B.zip ?_;rw[14];refine JL (i:=2) .s rfl nd rfl (by first|exact gU rfl|exact jS rfl) (tV (N:=["_law_known"]) (cap:=[ab]) (out:=(dX (dh 43)).names) (XN:=(["_law_book_here","_law_lines_here","_law_found","_law_names","_law_table","_law_terms","_law_longer","_law_known","_law_row","_law_more"]:aak)) rfl rfl (by rw[0]) rfl) sP (CD (fE 6)) (λcl C s₀ H₀ ex=>⟨yV (j:=0) (show(["_law_known"]:aak).Nodup by rw[0]) rfl (gU rfl),IG ?_,(fE 0)⟩)
 rw[14];rw[14];refine VG ?_;rw[14];refine hZ (n:=1) ?_;refine xZ ?_ tD ?_;rw[14];refine tH ?_;rw[14];refine WK rfl hv rfl Q.B.min ?_;refine hZ (n:=1) ?_;refine HY rfl (tV (N:=["_law_known","_law_names"]) (cap:=[ab,aa 3]) (out:=(dX (dh 43)).names) (XN:=(["_law_book_here","_law_lines_here","_law_found","_law_names","_law_table","_law_terms","_law_longer","_law_known","_law_row","_law_more"]:aak)) rfl rfl (by rw[0]) rfl) sP ?_ (λcl C s₀ H₀ ex=>⟨yV (j:=0) (show(["_law_known","_law_names"]:aak).Nodup by rw[0]) rfl (by first|exact gU rfl|exact jS rfl),CT,?_⟩)
 rw[14];refine hZ (n:=1) ?_;refine NT (out:=[(".0",.local),("_law_known",.cell),("tuple",.globalImplicit),("_law_names",.cell)]) (XN:=["_law_known","_law_names"]) ⟨⟩ ?_ (λ_ _ _ _ _=>?_) (λ_ _ _ _ _=>?_)
 rw[14]
def Zt:=Hs.dd Q Q.a20 1 1 1 ["_law_script","_law_rows","_law_k","_law_cell_here","_law_row","_law_lines_here","_law_own"] Dm λhr hS nd hu hv=>by
 have:=zQ Q;have:=Ds Q;rw[14]
def Zz:=Hs.dd Q Q.a21 2 0 3 ["lines","left","k","wanted","j"] Dp λhr hS nd hu hv=>by
 have:=p0 Q;rw[14];refine J1 ?_ ?_;rw[14];refine pU (E4 rfl) D6 rfl Q.B.all boot_all ?_;rw[14];refine BN (WW hu) CB ?_ ?_ (by with_unfolding_all rfl)
 rw[14]
def f9:=Hs.dd Q Q.a22 2 0 2 ["book","lines"] FD λhr hS nd hu hv=>by
 have:=ZH Q;have:=i3 Q;rw[14]
def y6:=Hs.dd Q Q.a23 2 0 2 ["lines","rows","found","line","own"] YR λhr hS nd hu hv=>by
 have:=Ya Q;rw[14];refine sX qH rfl ?_ ?_ ?_;refine NS rfl Q.B.zip ?_;rw[14]
def j1:=Hs.dd Q Q.a24 2 1 2 ["book","lines"] Em λhr hS nd hu hv=>by
 have:=L3 Q;rw[14]
def Ew:=Hs.dd Q Q.a25 2 1 4 ["line","rows","other","others","names","met"] Es λhr hS nd hu hv=>by
 have:=y7 Q;have:=Wu Q;rw[14];refine mK (d7 hu rfl) d8 rfl Q.B.dict QC ?_;rw[14]
def g7:=Hs.dd Q Q.a26 2 0 1 ["_law_script","_law_first","_law_names","_law_count","_law_lines_here","_law_k","_law_cell_here","_law_some_here","_law_terms","_law_j","_law_more","_law_own"] Dv λhr hS nd hu hv=>by
 have:=zQ Q;have:=Zr Q;have:=Dw Q;rw[14];refine pU (Bf rfl) Ar rfl Q.B.max PyProof.Rows.boot_max ?_;rw[14];refine He 8 .s .a ?_ ?_;rw[14]
def Yx:=Hs.dd Q Q.a27 2 2 2 ["_law_script","_law_lines_here","_law_book_here","_law_k","_law_values","_law_at","_law_name","_law_table","_law_terms","_law_j","_law_cell_here","_law_row"] Dq λhr hS nd hu hv=>by
 have:=zQ Q;have:=Ds Q;have:=Yb Q;have:=Dw Q;rw[14];exact A5;rw[14];refine sX qH rfl ?_ ?_ ?_;refine Hj rfl Q.B.enumerate ?_;rw[14];refine WJ 4 .s .s hv ?_ ?_;rw[14];refine Fp 2 (by assumption) (hr.mono nofun) rfl ?_
 rw[14];refine VG ?_;rw[14];refine Fp 2 (by assumption) (hr.mono nofun) rfl ?_
 rw[14];refine Mg ?_ ?_;refine B7 2 .s .s hv ?_ yB;rw[14];refine o8 2 .s .s hv ?_ yB;rw[14]
def Zq:=Hs.dd Q Q.a28 3 0 2 ["lines","left","k","parent"] Dg λhr hS nd hu hv=>by
 have:=Zz Q;rw[14]
def xW:=Hs.dd Q Q.a29 4 2 1 ["lines","taken","left","ear"] VX λhr hS nd hu hv=>by
 have:=Zq Q;rw[14];refine YD rfl rfl Q.B.list rfl Q.B.range ?_;rw[14];refine z8 .s 100 qH ?_ ?_;rw[14];refine B4 2 .s ?_;rw[14];exact(n9 1 2 nofun)
def Ni:=Hs.dd Q Q.a30 5 1 1 ["lines","rest"] VE λhr hS nd hu hv=>by
 have:=xW Q;rw[14];refine o9 .a 1 ?_ ?_;rw[14]
def j9:=Hs.dd Q Q.a31 5 1 2 ["lines","kept","told","ear","parent"] Ex λhr hS nd hu hv=>by
 have:=Ew Q;have:=xW Q;rw[14];refine mK (zP rfl) zI rfl Q.B.list AE ?_;rw[14];refine hZ (n:=1) ?_;rw[14];refine KL 2 .a .s ?_ ?_;rw[14]
def Zb:=Hs.dd Q Q.a32 5 0 2 ["lines","kept","rest"] Dh λhr hS nd hu hv=>by
 have:=y6 Q;have:=xW Q;rw[14];refine hZ (n:=1) ?_;rw[14]
def Zg:=Hs.dd Q Q.a33 5 1 2 ["lines","kept","told","ear","parent"] Dc λhr hS nd hu hv=>by
 have:=Ew Q;have:=xW Q;rw[14];refine mK (zP rfl) zI rfl Q.B.list AE ?_;rw[14];refine sX qH rfl ?_ ?_ ?_;refine Qi rfl Q.B.reversed ?_;rw[14];refine hZ (n:=1) ?_;rw[14];refine KL 2 .a .s ?_ ?_;rw[14]
def i4:=Hs.dd Q Q.a34 6 0 2 ["book","lines"] FF λhr hS nd hu hv=>by
 have:=f9 Q;have:=Ni Q;rw[14]
def Zm:=Hs.dd Q Q.a35 6 1 2 ["lines","kept","told","found","k"] Cy λhr hS nd hu hv=>by
 have:=LA Q;have:=xW Q;have:=Zb Q;rw[14];refine mK (zP rfl) zI rfl Q.B.list AE ?_;rw[14];refine hZ (n:=1) ?_;rw[14];refine He 2 .s .s ?_ ?_;refine hZ (n:=1) ?_;refine Zy rfl hv rfl Q.B.sorted rfl Q.B.set ?_;rw[14]
def Xw:=Hs.dd Q Q.a36 7 1 2 ["lines","kept"] Bu λhr hS nd hu hv=>by
 have:=j9 Q;have:=Zg Q;have:=Zm Q;rw[14]
def Xh:=Hs.dd Q Q.a37 8 0 2 ["book","lines","kept","known","k","line"] Cb λhr hS nd hu hv=>by
 have:=MJ Q;have:=LA Q;have:=BM Q;have:=j1 Q;have:=Xw Q;rw[14];refine sX qH rfl ?_ ?_ ?_;refine Hj rfl Q.B.enumerate ?_;rw[14];refine KL 2 .a .s ?_ ?_;refine xZ ?_ tD ?_;rw[14];exact(tH jJ);rw[14]
def j0:=Hs.dd Q Q.a38 9 0 2 ["book","lines"] Ec λhr hS nd hu hv=>by
 have:=i4 Q;have:=Xh Q;rw[14]
def c9:=Hs.dd Q Q.a39 10 0 3 ["_law_book_here","_law_lines_here","_law_wanted_here","_law_kept","_law_found"] Du λhr hS nd hu hv=>by
 have:=j0 Q;rw[14];refine hZ (n:=1) ?_;refine mK (Za rfl) Yw rfl Q.B.dict QC ?_;rw[14];refine hZ (n:=1) ?_;refine HY rfl (tV (N:=["_law_table","_law_rows"]) (cap:=[ab,ab]) (out:=(dX (dh 47)).names) (XN:=(["_law_book_here","_law_lines_here","_law_wanted_here","_law_kept","_law_found"]:aak)) rfl rfl (by rw[0]) rfl) Nx ?_ (λcl C s₀ H₀ ex=>⟨y9 (i:=0) (j:=1) rfl (show(["_law_table","_law_rows"]:aak).Nodup by rw[0]) rfl rfl (gU rfl) (gU rfl),CT,(WD (pQ (fE 0) (pQ (hZ (n:=1) (mK (zP rfl) zI rfl Q.B.list AE (pQ (fE 1) pL))) pL)))⟩)
 refine Wo ?_;rw[14];refine mI (Ol hu) Uw ?_ ?_ (kL _);rw[14];refine BN VW Ho ?_ UC (kL _);rw[14];refine Rp ?_ ?_;refine WA (T:="tuple") rfl Q.B.isinstance rfl Q.B.tuple M8 nofun ?_
 rw[14];refine Qo ?_;refine BN (vJ hu) BO ?_ ?_ (kL _);rw[14]
end
set_option maxHeartbeats 4000000 in
theorem all_mk {P:bJ}{w:bA}{h:aU}{mg:aE->aap}{fa:aC}(hfa:mg "law" = aa (.ref fa))(Q:∀ base,Al P w K mg base h) :
  ∃ fd:mB,(∀ (s:aH) (v:aD),BindsTo s fd ⟨[v],[]⟩ [("_law_script",v)])/\∀ base:aU,K.In base->base.Ns jO mg->FnOk P w K mg base nu 12 fa fd ["_law_script"] (BH K):=by
 obtain⟨f,fd,F,a⟩:=(Q h).a40;cases hfa.symm.trans (PV (Q h).X (Q h).G a);refine⟨fd,λs v=>?_,λbase _ _=>?_⟩
 .obtain⟨_,_,_,_,_,_,_,_,_,rfl,_⟩:=F.ex;exact .of_eq rfl
 have Q:=Q base;refine(TF F (N:=["_law_script","_law_lines_here","_law_book_here","_law_rows","_law_star_here","_law_table"]) (ps:=["_law_script"]) (by constructor<;>first|rfl|decide +kernel) rfl nofun λbz A outer s H E P0 hr=>?_).imp Qr
 have hS:Sx (dX (dh 48)).names ["_law_script","_law_lines_here","_law_book_here","_law_rows","_law_star_here","_law_table"]:=⟨⟩;have nd:(["_law_script","_law_lines_here","_law_book_here","_law_rows","_law_star_here","_law_table"]:aak).Nodup:=by rw[0]
 have hu:=HM hr;have hv:=HQ hr;have:=zQ Q;have:=k8 Q;have:=i8 Q;have:=Zt Q;have:=g7 Q;have:=Yx Q;have:=c9 Q;rw[14];refine Tt .s ?_ ?_;rw[14];exact(Wj (i:=3) (j:=4) rfl nd rfl rfl (by first|exact gU rfl|exact jS rfl) (by first|exact gU rfl|exact jS rfl))
 rw[14];refine hZ (n:=1) ?_;exact(A2 (l7 yB (fE 3) Uk));rw[14];refine Qv qH rfl ?_ ?_ ?_;refine pU (i6 rfl) d6 rfl Q.B.sorted QB ?_;rw[14];refine Rw 2 .s .a hv ?_ ?_;rw[14]
theorem walk {l:PySem.W.OpenLaw}{q:bJ}{gq:aak}{XP:(aE->aap)->aU->Prop}{YP:bA->aU->Prop}{d:DefRec}{K:Params->aK}(hn:l.most=aa 63)(Go:d.params.defaults=[])
  (hY:∀ (w:bA) (h:aU),YP w h->(K w.params).In h)
  (F:∀ (w:bA) (mg:aE->aap) (fa:aC) (h:aU),(K w.params).In h->h.Ns jO mg->mg d.name=aa (.ref fa) ->
   ∃ fd:mB,(∀ (s:aH) (u:aD),BindsTo s fd ⟨[u],[]⟩ [("_law_script",u)])/\∀ base:aU,(K w.params).In base->base.Ns jO mg->FnOk l.prog w (K w.params) mg base nu 12 fa fd ["_law_script"] (BH (K w.params))) :
  PySem.W.WalkO q gq XP YP l.row.toRowW d [] (λf vs=>PySem.call f vs):=
 L2.A8s (n:=63) (k:=12) (x:="_law_script") (CX:=λ_=>nu) (sp:=λw=>BH (K w.params)) hn nofun Go ⟨rfl,nofun,nofun⟩ hY F (λ_ _ a ns hb hl _ hS=>⟨a,ns,rfl,hS,hl,hb,λ_=>rfl⟩) λ_ _ _ _ _ z=>z
end Aw
namespace PySem.W.Fast
def tw4486025387585922264:=0
def tw11477360612901083405:=0
def tw12092856382445795197:=0
def tw1412486287872727084:=0
def tw10956750979700575980:=0
def tw8743565900767300677:=0
def tw15620769248233714227:=0
def tw7911137526625080442:=0
def tw16124957711614279441:=0
def tw9982219988556973250:=0
def tw16771419254784361683:=0
def tw4146128120877669359:=0
def tw17161930139117597596:=0
def tw16758563436334789928:=0
def tw8370780797942312833:=0
def tw16664582199548804199:=0
def tw13341824364794148024:=0
def tw6830154990054885912:=0
def tw8739063032528093108:=0
def tw4790164078919293641:=0
def tw12741455544035747906:=0
def tw14769043298075699035:=0
def tw4910669821942067798:=0
def tw9487002367199959052:=0
def tw15661722285208983535:=0
def tw1570385683461392490:=0
def tw2531673221284305997:=0
def tw8447446354239538807:=0
def tw8972894751875777759:=0
def tw10857566304100627050:=0
def tw10393557395858558221:=0
def tw14504504251073153938:=0
def tw17671312754016668769:=0
def tw3485465754682592107:=0
def tw11747441538776396410:=0
def tw841020318383234287:=0
def tw4225610057357858892:=0
def tw5952989579865833825:=0
def tw4756399191311743807:=0
def tw16363372108261408895:=0
def tw16069070938607289275:=0
def tw903380290120667452:=0
def tw9184888227332055172:=0
def tw6994283652223239519:=0
def tw9457228950228440632:=0
def tw9242302875561975618:=0
def tw7795447612534276934:=0
def tw13670324009176341633:=0
def tw12208679045900154061:=0
def tw14127171817578751707:=0
def tw16708784398169501964:=0
def tw4417047470292867081:=0
def tw10306793071525543579:=0
def tw1043284979545614859:=0
def tw15079997564945064540:=0
def tw10585776097254742724:=0
def tw4450227928719547761:=0
def tw4927371400419596859:=0
def tw18443145977618456908:=0
def tw16402188546705506666:=0
def tw3978894393608077460:=0
def tw11082316011699715890:=0
def tw2557946215617389371:=0
def tw8937099197780823539:=0
def tw1443871799294478502:=0
def tw14714730568292471522:=0
def tw3009012340578290385:=0
def tw13918443581397691081:=0
def tw5130043859460451797:=0
def tw10215554347228156676:=0
def tw11228939261225640724:=0
def tw8422738755466286486:=0
def tw1243482492235549532:=0
def tw14795873481850888639:=0
def tw1432844420824658029:=0
def tw13186872456848774826:=0
def tw8846217028593765146:=0
def tw10055199756059995024:=0
def tw162195407256795693:=0
def tw14712136254049806743:=0
def tw17625961662312012775:=0
def tw2003894388116397645:=0
def tw15697103454022792731:=0
def tw5834014718571389:=0
def tw13536134754736762123:=0
def tw11904242371526970704:=0
def tw1274897102487771440:=0
def tw3564523972067154899:=0
def tw8289247913802794753:=0
def tw14822471206563833221:=0
def tw4775620208235012434:=0
def tw2632608379371459719:=0
def tw11936627611430182688:=0
def tw8366074139500913760:=0
def tw8109614887082897869:=0
def tw9082563522008853674:=0
def tw15053300365495489814:=0
def tw12819449569195050711:=0
def tw7165217866284200965:=0
def tw18223451967619887788:=0
def tw17852276839854326302:=0
def tw11511559396889785320:=0
def tw2791057450562894451:=0
def tw3908046115055327323:=0
def tw6351189144574439752:=0
def tw16843449467065369885:=0
def tw15801768348900679793:=0
def tw6399845589581330347:=0
def tw42227674982614363:=0
def tw14096901080644936213:=0
def tw595840637685353409:=0
def tw16503312680247038840:=0
def tw13752416435991852269:=0
def tw1305094303384183661:=0
def tw15034112716283788716:=0
def tw16461692191849772517:=0
def tw4099188964729247085:=0
def tw5464865288351043725:=0
def tw15513671460552260795:=0
def tw4223707408120968564:=0
def tw10440450083658364168:=0
def tw16546938494512436407:=0
def tw11058924306577920461:=0
def tw5144456246803969671:=0
def tw7398893857093294691:=0
def tw15220402851335363966:=0
def tw5090996380464754871:=0
def tw2082682017084485326:=0
def tw2815496839394178324:=0
def tw705458895141470795:=0
def tw17139396217876880499:=0
def tw11440709191263821936:=0
def tw9983593198432028961:=0
def tw12052760272444742614:=0
def tw14435144181283159361:=0
def tw16945186230171553064:=0
def tw2879284474287764199:=0
def tw12960985942561038221:=0
def tw477846103430387452:=0
def tw10764943393468026911:=0
def tw11137777880204836339:=0
def tw4026073047173862058:=0
def tw10003031632220411560:=0
def tw17958762597969630559:=0
def tw3264853412470355338:=0
def tw936066041983269836:=0
def tw7981058949503820086:=0
def tw912034520129679293:=0
def tw14904766159923192341:=0
def tw5584988827107535766:=0
def tw3679295282144024424:=0
def tw10996352501642265735:=0
def tw196962324310594431:=0
def tw13360420572743090047:=0
def tw13749840374446935290:=0
def tw16746827138000933580:=0
def tw16697602989402299675:=0
def tw102112311857439557:=0
def tw16635969849576013846:=0
def tw8693189288682824079:=0
def tw5930895483455318665:=0
def tw9358734370099796355:=0
def tw10089448254513694707:=0
def tw16719537306844622702:=0
def tw18177147760443553124:=0
def tw4629944399058688928:=0
def tw17116821610775732837:=0
def tw4488072909839215399:=0
def tw8474748014364522848:=0
def tw17423909130344775774:=0
def tw5215831462127547829:=0
def tw1159489435944626458:=0
def tw17398899617050433816:=0
def tw4441199992799135269:=0
def tw16576891970763247990:=0
def tw10916986062860118260:=0
def tw14051605950451289774:=0
def tw10896226279840542370:=0
def tw5611723550042949336:=0
def tw16477660549538205857:=0
def tw1525913529032645824:=0
def tw9728543645420248989:=0
def tw4321832845176428590:=0
def tw11730444129193394190:=0
def tw2417916933706634584:=0
end PySem.W.Fast
open PySem PySem.W PyProof.Rows
set_option maxRecDepth 100000 in
set_option maxHeartbeats 0 in
theorem PySem.Challenge.cw_askwithin_k31_least_match_holds : PySem.Challenge.rw_askwithin_k31_least_match.Holds := by
 w_on;o_law;k_head;(case hw=>w_witness2)
 k_fill
 refine Aw.walk (l:=PySem.Challenge.rw_askwithin_k31_least_match) rfl rfl (λw h al=>PySem.W.kIn_of al) ?F
 case F=>
  intro w mg fa h KX G Id;refine Aw.all_mk (h:=h) Id λ_=>?_;refine' ⟨KX,G,?_,?_,?_,?_,?_,?_,?_,?_,?_,?_,?_,?_,?_,?_,?_,?_,?_,?_,?_,?_,?_,?_,?_,?_,?_,?_,?_,?_,?_,?_,?_,?_,?_,?_,?_,?_,?_,?_,?_,?_,?_,⟨?_,?_,?_,?_,?_,?_,?_,?_,?_,?_,?_,?_,?_,?_,?_,?_,?_⟩⟩;any_goals refine' Aw.Bkj ?_ ?_ ?_ ?_
  any_goals refine' Aw.Bk2 ?_
  any_goals k_is
