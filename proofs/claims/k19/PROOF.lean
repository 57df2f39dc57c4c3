import PyProof.Rows.All
import Wide.All
import OpenK.AllK
import Wide.FinOn
import Lean
import PyProof.EqAt
import PyProof.EqKinds
import PyProof.TupleCall
import PyProof.TupleOfStr
import PyProof.ListStr
import KE.KSortTup
import PyProof.Rows.SortShellK
import PyProof.MeetsSeq2
import PyProof.FactsAll.list_4
import PyProof.AutoSeq1
import PyProof.ConsumeWalk
import PyProof.ZipIter
import PyProof.TupleIter
import PyProof.SetKind
import PyProof.Rows.SetFrom
import PyProof.AutoListH
import PyProof.ListNew
import PyProof.FactsAll.list_2
import PyProof.ListRange
import PyProof.CollectWalk
import PyProof.FactsAll.tuple_2
import PyProof.Rows.SortRunsK
import PyProof.AttrMissHeap
import PyProof.FactsAll.zip_1
import PyProof.EnumMake
import PyProof.MeetsDictList
import PySem.Challenge.RW_askwithin_k19_whole_walk
open PySem renaming PyData->aA,Value->aC,Addr->aD,Str->aE,wpAny_bind->aF,Shared->aH,wpAny->aJ,model->aP,wpAny_pure->aQ,Heap->aY,Expr->bF,World->bG,Obj->bI,Program->bP,starEach->bY,Around->bZ,eval->cD,Stmt->cR,Pos->cV,rawInt->dE,mainGlobals->eZ,Paired->fE,SetTable->fJ,Sem->fS,pyNext->fZ,wpAny_call_entry->iH,backTo->iI,wpAny_holding->jE,FuncData->jH,wpAny_field->jS,sysModules->kH,Scope->kI,boot_len->kJ,wpAny_seqItems->kO,compareOp->kQ,wpAny_rule->lA,wpAny_newObj_type->lB,field->lP,wpAny_mono->lZ,wpAny_callSpecial?_slot->mB,assign->mC,IsPair->mH,wpAny_setField_rec->mT,sizeLine_eq->mU,binaryOp->mV,assignEach->mW,Reads->mY,Keyword->nD,wpAny_attempt->nZ,pyIter->oA,codeAny_builtin->oB,Spec->oE,NameKind->oF,swapsWith->pE,holding->pF,codeAny->pG,ReadsAll->pH,plainId_quiet->qB,merged->qC,bootBuiltins->qE,IsZip->qH,wpAny_setState_of->qX,wpAny_ite_split->qY,wpAny_isInstance->qZ,firstArgMember->rA,DictEntry->rH,wpAny_typeOf->sL,typeLookup_type->uH,stored->uI,newExc->uJ,isSubtype_type->uK,foldedSetIterable->uL,entryFor->uM,builtinLookup_eq_fast->uN,bindArgs->uO,argsOk->uP,wpAny_updateSeq->xF,wpAny_specialOf->xG,wpAny_of_eq->xH,valueAt->xI,updateSeq->xJ,typeLookup->xK,sliceBounds->xM,relabel->xO,keywordEach->xP,callerA->xQ,backToKw->xR,attributeBase->xS,wpAny_setEntries_of->BI,wpAny_pyIter_slot->BJ,wpAny_fieldsOf->BL,wpAny_askSetting->BM,setField->BN,seqItems?->BO,newTuple->BP,isSubtype_stop->BQ,codeAny_mono->BR,behindInMarks->BS,wpAny_throw->HB,wpAny_passesOwn->HC,wpAny_newList->HD,wpAny_letGo->HE,wpAny_handled->HF,wpAny_forIn_list->HG,ofAClassStatement->HH,hashByValue->HK,mem_of_lookup->HM,Builtin->HN,wpAny_typeNameOf_keyiter->NQ,wpAny_typeNameOfWhole_keyiter->NR,wpAny_setField->NS,wpAny_onRaise->NT,wpAny_newTuple->NU,wpAny_dictEntries->NV,subscripted->NW,signature?_of->NX,letOwnedTupleGo->NY,entryFor_of_tree->NZ,entryFor_alias->OA,call_meetsIn->OB,Slot->OD,wpAny_updateSeq_pair->Cf,wpAny_truthy_bool->Cg,wpAny_pyIter_zip->Ci,wpAny_pyIter_list->Cj,wpAny_Call_Name_kw->Ck,codeAny_extend_loopS->Cm,codeAny_call_builtin->Cn,SetTable->Cz
open PySem.W renaming Frag->aM,nsIn->iB,mg_none_of->jT,fnOf->lQ,kia_one->oD,keepIn->uS,codeIn->BU,mg_of->Cq,methodObj->Cr,lookIn->Cs,kitx_list->Ct,kitx_dict->Cu,kitOne->Cv,instObj->Cw,OpenLaw->Cy
open PyProof.Rows renaming Keyed->aW,arrOf->bD,wpS_bind->bL,SortSt->bQ,wpS_pure->cF,wpS->cP,pendingOf->cW,KeyKind->gX,seqObj->hU,elem'->kP,SortKind->oC,wpS_get->pZ,wpS_forRange->qA,envOfC->rB,wpS_mono->sJ,failedOf->sM,AllBare->sV,wpS_modify->uF,wpS_lift->uG,boot_tuple->uT,reverseSlice'->xN,callWith_type1->BV,listUpdate_at->HJ,setArr->HP,boot_str->OE,KK_mirror_equal->PM,boot_sorted->c8
open PySem.PyData renaming int->aX,str->bR,eqv->cK,depthAll->cL,canLay0->dX,depth->eG,tuple->iC,list->mD,eqvAll->rD,bool->uV,canLayAll0->BW,strOk->OG,dict->OH
open Or renaming inl->aZ,inr->bA
open List renaming mem_cons_self->bS,mem_cons_of_mem->cG,mem_map->cJ,range->dB,getElem?_eq_some_iff->dF,mem_singleton->dP,map_cons->dQ,mem_cons->dU,getElem?_eq_getElem->eI,length_map->eS,getElem?_map->fA,size_toArray->gG,map_map->gH,mem_of_getElem?->gZ,mem_range->hV,length_cons->hW,all_eq_true->hX,mem_append->jF,map_append->jG,find?_cons->kC,nodup_cons->mE,length_append->mF,append_assoc->mG,take_append_drop->nA,getElem_mem->nB,foldl_cons->nC,length_take->oG,toArray->pI,lookup_cons->pJ,getElem?_set_ne->pK,getElem?_cons_succ->pL,append_nil->pM,mem_append_right->qG,getElem?_set_self->rE,take_add_one->sP,mem_flatten->sQ,mem_flatMap->sR,mem_filterMap->sS,take_of_length_le->uY,pairwise_map->uZ,getElem?_append_right->vB,flatten_cons->vC,zipWith->xV,replicate->xW,map_congr_left->xX,getElem?_of_mem->xY,getElem?_eq_none->xZ,getElem?_cons_zero->yA,getElem?_append_left->yB,flatMap_cons->yC,eq_nil_of_length_eq_zero->yD,perm_append_comm->CD,pairwise_iff_getElem->CF,pairwise_append->CG,not_mem_nil->CH,nodup_append->CI,nil_append->CJ,mem_reverse->CK,mem_of_mem_take->CL,map->CM,length_zip->CN,find?_eq_none->CO,ext_getElem?->CP,drop_eq_nil_of_le->CQ,drop_eq_getElem_cons->CS,cons_lt_cons_iff->CT,any_eq_true->CU,any_cons->CV,zip_cons_cons->HW,take_length->HX,nodup_nil->HY,mem_of_find?_eq_some->HZ,lookup->IA,length_range->IB,getElem?_drop->IC,forIn_cons->ID,drop_zero->IE,take_sublist->OR,mem_filter->OS,map_take->OT,map_reverse->OU,length_singleton->OV,length->OX,getElem_zip->OY,getElem_of_mem->OZ,getElem?_take->PB,getElem?_range->PC,forIn_nil->PD,foldl_append->PF,find?_some->PH,filterMap_cons->PJ,ext_getElem->PK,zipIdx_nil->Dh,zipIdx_cons->Di,reverse_perm->Dj,reverse_append->Dk,range_succ_eq_map->Dl,perm_ext_iff_of_nodup->Dm,of_mem_zip->Dn,nodup_range->Do,mem_or_eq_of_mem_set->Dp,mem_iff_getElem->Dq,length_filterMap_le->Dr,getElem_map->Ds,getD_eq_getElem?_getD->Dt,find?_append->Du,filter_eq_self->Dv,extract_eq_take_drop->Dw,drop_drop->Dx,cons_append->Dy,pairwise_filterMap->d6,length_eraseIdx_of_lt->d7,length_eq_zero_iff->d8,getElem?_take_of_lt->d9,findIdx?_eq_some_iff_getElem->f6
open PySem.Heap renaming lt_size->cA,get?_push_of_some->cH,get?_push_size->eD,SameBut->nE,get?_update_self->qJ,size_push->rF,get?_update_other->sU,ExtBut->PN
open Nat renaming le_refl->cE,ne_of_lt->dI,zero_le->dS,lt_of_lt_of_le->iK,le_trans->iU,ne_of_gt->kB,lt_irrefl->lE,lt_succ_of_lt->qF,le_of_lt->sO,lt_or_ge->uX,mod_lt->xT,min_eq_left->xU,pow_succ->BZ,mul_assoc->CA,lt_succ_self->CB,add_assoc->CC,pow_le_pow_left->HR,mul_add->HS,lt_trichotomy->HU,le_succ->HV,zero_add->OK,mul_mul_mul_comm->OL,le_of_eq->OM,le_add_right->ON,add_zero->OO,mul_left_comm->De,mul_le_mul->Dg,le_mul_of_pos_right->c9
open PySem.Value renaming none->cU,ref->fI,type->iJ,str->uQ,int->uR
open Option renaming bind_some->cX,map_eq_some_iff->kA,map_some->uW,join_some->BX,isSome_iff_exists->OI,isSome_map->Dd
open Bool renaming false_eq_true->fF,false_ne_true->oJ,and_eq_true_iff->oK,not_true->rK,eq_iff_iff->yJ,and_self->II,and_eq_true->IJ,true_or->QC,true_and->Eh
open PySem.Obj renaming mapSeq->gF,putSet->BY,data_mapFields->OJ
open Sum renaming inr->gL,inl->sN
open Option.some renaming inj->gY,injEq->HQ
open PySem.PassesOwn renaming never->iD
open PySem.NameKind renaming free->iV
open Array renaming length_toList->jU,getElem?_eq_getElem->lF,getElem?_toList->lT,toList_append->pO,getElem?_eq_some_iff->vG,perm_iff_toList_perm->yK,toList_push->CY,forIn_toList->CZ,toList_filterMap->QD,getElem?_eq_none->QE,toList_reverse->Ei,toList_inj->Ej,toList_extract->Ek,getD_eq_getD_getElem?->El,getElem?_setIfInBounds->h8
open PySem.Str renaming ofString->jZ,join->mX
open PyProof.Rows.KeyOrd renaming kle_trans->kK,kle_of_klt->oH,kle_refl->sT
open Int renaming eq_ofNat_of_zero_le->kL,toNat_natCast->lR,ofNat->qI
open Ne renaming symm->kR
open PySem.Paired renaming length->mZ
open PySem.Builtin.SmallTypes renaming nextOf->nF,ownedTupleIsFree->vF,ownedTupleHandOut->g9
open ForInStep renaming yield->oI,done->yF
open PySem.Around renaming under_plainId->qK
open True renaming intro->rC
open False renaming elim->rG
open PySem.Builtin.List renaming listExtendWith->rJ,listSameRef->yI,listLengthHint->IH,listTooLong->Eg
open PySem.PyData.tuple renaming inj->uU
open PySem.F renaming slot_zip_next->vD,called_set->vE,slot_tuple_hash->IF,slot_dict_keyiterator_next->IG,slot_tuple_iterator_next->PP,slot_set_iter->PQ,slot_list_reversed->PR,plain_list_iadd->PU,entry_zip_next->PV,args_zip_next_1->PX,slot_dict_get->Da,plainAttrs_list->Dc,slot_zip_getattribute->Eb,plain_extend_loop->Ed,slot_list_index->b6,slot_dict_setdefault->b7,plainAttrs_dict->b8,entry_tuple_add->b9,args_tuple_add_2->c6,args_dict_get_3->c7,entry_dict_keyiterator_next->f9,args_dict_keyiterator_next_1->g8
open PySem.Heap.SameBut renaming update->yE
open PySem.Expr renaming Call->yG
open Classical renaming byContradiction->yH,choose_spec->Ee
open PySem.Builtin.Tuple renaming tupleHashOf->CW
open PySem.SetTable renaming fresh->HL,fill->OC
open PySem.MeetsSeq renaming plain_index_loop->OP,EqGives->OQ
open List.Perm renaming refl->PL,eq_of_pairwise->f7
open PySem.Calls renaming spliced_cons->PY,call_function_entry->PZ,spliced_nil->Ef
open PySem.Builtin.Str renaming occurrences->QA
open PySem.Builtin.Frozenset renaming sizeOf->QB
open String renaming splitOnAux->Co,splitOn->Cp
open List.Pairwise renaming imp_of_mem->Dz
open List.Nodup renaming length_le_of_subset->Ea
open PyProof.Rows.F renaming plain_set_update_loop->Ec
theorem ao {α β:Type}{x:Option α}{f:α->Option β}{b:β}(h:x.bind f=some b) : ∃ a,x=some a/\f a=some b:=Option.bind_eq_some_iff.mp h
set_option Elab.async false
set_option bootstrap.genMatcherCode false
set_option genSizeOfSpec false
set_option linter.all false
set_option maxRecDepth 100000
set_option exponentiation.threshold 2000
noncomputable section
set_option hygiene false in
local macro_rules|`(tactic|rw[00])=>`(tactic|exact hr.mono (by decide))
set_option hygiene false in
local macro_rules|`(tactic|rw[0])=>`(tactic|decide +kernel)
set_option hygiene false in
local macro_rules|`(tactic|rw[900])=>`(tactic|exact⟨rfl,rfl,rfl,by decide +kernel,rfl,by decide +kernel,by decide +kernel⟩)
set_option hygiene false in
local macro_rules
|`(tactic|rw[1])=>`(tactic|(
 have hu:=gR hr;have hv:=gU hr))
|`(tactic|rw[2])=>`(tactic|(
 intro X hP hw hK hc i ad s σ H E I hf st hg;subst hP hw hK))
|`(tactic|rw[3])=>`(tactic|intro ad s σ H x y v u Q I rx ry h)
|`(tactic|rw[4])=>`(tactic|obtain⟨P,ρ,d,hP,rs,ef,k⟩:=gh)
|`(tactic|rw[5])=>`(tactic|intro ad s σ H xs us Q I r h)
|`(tactic|rw[6])=>`(tactic|intro ad s σ H Q I h)
|`(tactic|rw[7])=>`(tactic|dsimp only)
|`(tactic|rw[8])=>`(tactic|simp only[if_true])
|`(tactic|rw[9])=>`(tactic|refine aF ?_)
|`(tactic|rw[10])=>`(tactic|subst this)
local macro_rules|`(tactic|trivial)=>`(tactic|first|exact aZ rfl|exact bA rfl)
open Option renaming some->aa,none->ab
open Bool renaming true->ae,false->af
namespace L2
open PySem PySem.Spec PyProof.Rows
variable {h h' base:aY}{ks:List aA}{a b C dx:aD}{xs:List (List aA×aD×aC)}{us:List aC}{x:aE}{u:aC}{o:bI}{t' i k ep:Nat}{ch fp:List aD}{e c tg:bF}{M:Model}{A:bZ}{E Q:aC->aH->Prop}{s' s:aH}{pos p:cV}{ad:List (aD×bI)}{K:aM}{f:aC->aC->fS aC}{es:List bF}{op:CmpOp}{mg:aE->Option aC}{ps:List aE}{prog:bP}
instance decEqData:DecidableEq aA:=fun a b=>Classical.propDecidable (a=b)
mutual
def bN:aA->Bool
 |.int _=>ae
 |.str x=>dX (.str x)
 |.tuple ds=>cC ds
 |_=>af
def cC:List aA->Bool
 |[]=>ae
 |d::r=>bN d&&cC r
end
mutual
theorem KW:∀ d:aA,bN d=ae->d.canLay0=ae
 |.int _,_=>by simp[dX]
 |.str x,h=>by simpa [bN] using h
 |.tuple ds,h=>by
  simp only[dX];exact XG ds (by simpa [bN] using h)
 |.none,h=>by simp[bN] at h
 |.bool _,h=>by simp[bN] at h
 |.list _,h=>by simp[bN] at h
 |.dict _,h=>by simp[bN] at h
theorem XG:∀ ds:List aA,cC ds=ae->BW ds=ae
 |[],_=>by simp[BW]
 |d::r,h=>by
  have h':bN d=ae/\cC r=ae:=by simpa [cC] using h
  simp only[BW,KW d h'.1,XG r h'.2,II]
end
mutual
theorem KO:∀ x y:aA,bN x=ae->bN y=ae->cK x y=decide (x=y)
 |.int i,.int j,_,_=>by
  by_cases e:i=j
  ·subst e;simp[cK]
  ·have:¬ aX i=.int j:=fun q=>e (PyData.int.inj q)
   simp[cK,e]
 |.str i,.str j,_,_=>by
  by_cases e:i=j
  ·subst e;simp[cK]
  ·simp[cK,e]
 |.tuple xs,.tuple ys,h1,h2=>by
  have e:=FM xs ys (by simpa [bN] using h1) (by simpa [bN] using h2)
  simp only[cK,e];by_cases q:xs=ys
  ·subst q;simp
  ·have:¬ iC xs=.tuple ys:=fun z=>q (uU z)
   rw[decide_eq_false q,decide_eq_false this]
 |.int _,.str _,_,_=>by simp[cK]
 |.int _,.tuple _,_,_=>by simp[cK]
 |.str _,.int _,_,_=>by simp[cK]
 |.str _,.tuple _,_,_=>by simp[cK]
 |.tuple _,.int _,_,_=>by simp[cK]
 |.tuple _,.str _,_,_=>by simp[cK]
 |.none,_,h,_=>by simp[bN] at h
 |.bool _,_,h,_=>by simp[bN] at h
 |.list _,_,h,_=>by simp[bN] at h
 |.dict _,_,h,_=>by simp[bN] at h
 |.int _,.none,_,h=>by simp[bN] at h
 |.int _,.bool _,_,h=>by simp[bN] at h
 |.int _,.list _,_,h=>by simp[bN] at h
 |.int _,.dict _,_,h=>by simp[bN] at h
 |.str _,.none,_,h=>by simp[bN] at h
 |.str _,.bool _,_,h=>by simp[bN] at h
 |.str _,.list _,_,h=>by simp[bN] at h
 |.str _,.dict _,_,h=>by simp[bN] at h
 |.tuple _,.none,_,h=>by simp[bN] at h
 |.tuple _,.bool _,_,h=>by simp[bN] at h
 |.tuple _,.list _,_,h=>by simp[bN] at h
 |.tuple _,.dict _,_,h=>by simp[bN] at h
theorem FM:∀ xs ys:List aA,cC xs=ae->cC ys=ae->rD xs ys=decide (xs=ys)
 |[],[],_,_=>by simp[rD]
 |[],_::_,_,_=>by simp[rD]
 |_::_,[],_,_=>by simp[rD]
 |x::xs,y::ys,h1,h2=>by
  have D9:bN x=ae/\cC xs=ae:=by simpa [cC] using h1
  have xw:bN y=ae/\cC ys=ae:=by simpa [cC] using h2
  simp only[rD,KO x y D9.1 xw.1,FM xs ys D9.2 xw.2];by_cases e:x=y
  ·subst e;by_cases q:xs=ys
   ·subst q;simp
   ·simp[q]
  ·simp[e]
end
mutual
def eP (w:bG):aA->Int
 |.int i=>hashInt i
 |.str x=>hashStr w x
 |.tuple ds=>reduceHash (CW (mK w ds))
 |_=>0
def mK (w:bG):List aA->List Int
 |[]=>[]
 |d::r=>eP w d::mK w r
end
mutual
def qM:aA->Nat
 |.tuple ds=>oV ds+1
 |_=>1
def oV:List aA->Nat
 |[]=>0
 |d::r=>qM d+oV r
end
theorem ZT (a b:List aA):oV (a++b)=oV a+oV b:=by
 induction a with
 |nil=>simp[oV]
 |cons x r ih=>simp only[Dy,oV,ih];omega
theorem ZS (w:bG)(a b:List aA):mK w (a++b)=mK w a++mK w b:=by
 induction a with
 |nil=>rfl
 |cons x r ih=>simp only[Dy,mK,ih]
section
variable {w:bG}
theorem pV{v:aC}{as:List aD}(r:mY h v (.tuple ks) as):∃ a o vs n,v=.ref a/\h.get? a=aa o/\o.cls=.type "tuple" /\ o.data=.seq vs n/\pH h vs.toList ks as:=by
 cases r with
 |tuple h1 h2 h3 h4=>exact⟨_,_,_,_,rfl,h1,h2,h3,h4⟩
mutual
theorem YC:∀ (d:aA) {A:bZ} {E:aC->aH->Prop} {s:aH} {v:aC} {as:List aD} {Q:Int->aH->Prop},A.units+d.depth<cLine->bN d=ae->mY s.heap v d as ->
  Q (eP w d) { s with toks:=s.toks+qM d }->aJ (aP prog w) A (pyHash v) Q E s
 |.int i,A,E,s,v,as,Q,hu,hk,r,h=>by
  cases r with
  |int _ t=>exact wpAny_pyHash_int (by simpa [eP,qM] using h)
 |.str x,A,E,s,v,as,Q,hu,hk,r,h=>by
  cases r with
  |str _ t=>exact wpAny_pyHash_str (by simpa [eP,qM] using h)
 |.tuple ks,A,E,s,v,as,Q,hu,hk,r,h=>by
  obtain⟨a,o,cu,n,rfl,ho,hc,hd,hi⟩:=pV r;have hT:s.TypeIs (.ref a) "tuple":=⟨o,ho,hc⟩;have n9:A.units+(cL ks+1)<cLine:=by simpa [eG] using hu
  unfold pyHash
  first|unfold pyHashByItsType|skip
  first|refine aF (wpAny_cRoomFor_or (.inr (by omega)) ?_)|skip
  refine aF (xG hT IF.lookup ?_);show aJ _ _ (if (aa (Value.builtin "tuple.__hash__")==aa cU)=ae then _ else _) Q E s
  rw[if_neg (by rw[beq_builtin_none];exact oJ)]
  refine aF (xG hT IF.lookup ?_);show aJ _ _ (callSpecialIfBoundUnlessNone? (.ref a) "__hash__" _>>=_) Q E s;refine aF (wpAny_callSpecialIfBoundUnlessNone?_slot hT IF (iH IF hT F.entry_tuple_hash ?_ (F.args_tuple_hash_1 _)));show aJ _ _ (Builtin.Tuple.tupleItemsOf (.ref a)>>=_) _ _ s;refine aF (wpAny_tupleItemsOf ho hd ?_);rw[9];rw[← CZ];refine HG _
   (fun rest (b:Array Int) s'=>∃ done ay bs,ks=done++ay/\pH s.heap rest ay bs/\b.toList=mK w done/\s'={ s with toks:=s.toks+oV done })
   _ ?_ ?_ _ _ ⟨[],ks,as,rfl,hi,rfl,rfl⟩
  ·rintro x rest b s' ⟨done,ay,bs,e,hl,hb,rfl⟩;cases hl with
   |@cons _ _ d ds Id vc h1 o9=>
    have hm:d∈ks:=by rw[e];exact qG _ bS
    have ft:cC ks=ae:=by simpa [bN] using hk
    refine aF (ZD ks hm (A:=A.in1) (by
     have:A.in1.units=A.units+1:=rfl;omega) ft (s:={ s with toks:=s.toks+oV done }) h1 ?_)
    first
     |exact aQ ⟨done++[d],ds,vc,by simp[e],o9,by simp[hb,ZS,mK],by simp[ZT,oV,CC]⟩
     |exact aF (aQ (aQ ⟨done++[d],ds,vc,by simp[e],o9,by simp[hb,ZS,mK],by simp[ZT,oV,CC]⟩))
  ·rintro b s' ⟨done,ay,bs,e,hl,hb,rfl⟩;cases hl;rw[pM] at e;subst e;show aJ _ _ (retInt (CW b.toList)) _ _ _;rw[hb];refine wpAny_ret_mkInt ?_;show aJ _ _ (if (decide (-(2:Int)^63≤CW (mK w ks))&&decide (CW (mK w ks)<2^63))=ae then _ else _) Q E _
   simp only[eP,qM] at h;unfold reduceHash at h;by_cases hr:(decide (-(2:Int)^63≤CW (mK w ks))&&decide (CW (mK w ks)<2^63))=ae
   ·rw[if_pos hr];rw[if_pos hr] at h;exact aQ (by simpa [CC] using h)
   ·rw[if_neg hr];rw[if_neg hr] at h;exact aF (lA (aQ (by simpa [CC] using h)))
 |.none,A,E,s,v,as,Q,hu,hk,r,h=>by simp[bN] at hk
 |.bool _,A,E,s,v,as,Q,hu,hk,r,h=>by simp[bN] at hk
 |.list _,A,E,s,v,as,Q,hu,hk,r,h=>by simp[bN] at hk
 |.dict _,A,E,s,v,as,Q,hu,hk,r,h=>by simp[bN] at hk
theorem ZD:∀ (ks:List aA) {d:aA},d∈ks->∀ {A:bZ} {E:aC->aH->Prop} {s:aH} {v:aC} {as:List aD} {Q:Int->aH->Prop},A.units+cL ks<cLine->cC ks=ae->mY s.heap v d as ->
  Q (eP w d) { s with toks:=s.toks+qM d }->aJ (aP prog w) A (pyHash v) Q E s
 |[],_,hm,_,_,_,_,_,_,_,_,_,_=>by simp at hm
 |k::ks,d,hm,A,E,s,v,as,Q,hu,hk,r,h=>by
  have ft:bN k=ae/\cC ks=ae:=by simpa [cC] using hk
  have n9:A.units+max k.depth (cL ks)<cLine:=by simpa [cL] using hu
  by_cases e:d=k
  ·exact YC k (by omega) ft.1 (e ▸ r) (by rw[← e];exact h)
  ·have q0:d∈ks:=by
    rcases dU.mp hm with q|q
    ·exact absurd q e
    ·exact q
   exact ZD ks q0 (by omega) ft.2 r h
end
end
section
variable {w:bG}
mutual
theorem FR:∀ (d:aA) (n:Nat) {A:bZ} {E:aC->aH->Prop} {s:aH} {v:aC} {as:List aD} {Q:Bool->aH->Prop},d.depth≤n->bN d=ae->mY s.heap v d as ->
  Q ae s->aJ (aP prog w) A (eqIsQuiet n v) Q E s
 |.int i,n,A,E,s,v,as,Q,hu,hk,r,h=>by
  cases r with
  |int _ t=>
   rw[eqIsQuiet_byValue n (by rfl)]
   exact aQ h
 |.str x,n,A,E,s,v,as,Q,hu,hk,r,h=>by
  cases r with
  |str _ t=>
   rw[eqIsQuiet_byValue n (by rfl)]
   exact aQ h
 |.tuple ks,n,A,E,s,v,as,Q,hu,hk,r,h=>by
  obtain⟨a,o,cu,m,rfl,ho,hc,hd,hi⟩:=pV r;have hT:s.TypeIs (.ref a) "tuple":=⟨o,ho,hc⟩;have n9:cL ks+1≤n:=by simpa [eG] using hu
  obtain⟨n,rfl⟩:∃ m,n=m+1:=⟨n-1,by omega⟩
  have ft:cC ks=ae:=by simpa [bN] using hk
  unfold eqIsQuiet;refine aF (xG hT F.slot_tuple_eq.lookup ?_);show aJ _ _ (isInstance (.ref a) (.type "tuple")>>=_) _ _ s;refine aF (qZ hT isSubtype_tuple_tuple ?_);simp only[rK,fF,if_false];refine aF (kO ho hd ?_);rw[9];show aJ _ _ (forIn cu _ _) _ _ s;rw[← CZ];refine HG _ (fun rest r s'=>r.1=ab/\s'=s/\∃ ds bs,pH s.heap rest ds bs/\∀ d∈ds,d∈ks) _ ?_ ?_ _ _ ⟨rfl,rfl,ks,as,hi,fun _ h=>h⟩
  ·rintro v rest r s' ⟨hr,rfl,ds,bs,hl,ck⟩;cases hl with
   |@cons _ _ d ds Id vc h1 o9=>
    refine aF (YS ks (ck d bS) n (by omega) ft h1 ?_)
    simp only[rK,fF,if_false];exact aQ ⟨rfl,rfl,ds,vc,o9,fun u yl=>ck u (cG _ yl)⟩
  ·rintro⟨r1,r2⟩ s' ⟨hr,rfl,_⟩;simp only at hr;subst hr;exact aQ h
 |.none,n,A,E,s,v,as,Q,hu,hk,r,h=>by simp[bN] at hk
 |.bool _,n,A,E,s,v,as,Q,hu,hk,r,h=>by simp[bN] at hk
 |.list _,n,A,E,s,v,as,Q,hu,hk,r,h=>by simp[bN] at hk
 |.dict _,n,A,E,s,v,as,Q,hu,hk,r,h=>by simp[bN] at hk
theorem YS:∀ (ks:List aA) {d:aA},d∈ks->∀ (n:Nat) {A:bZ} {E:aC->aH->Prop} {s:aH} {v:aC} {as:List aD} {Q:Bool->aH->Prop},cL ks≤n->cC ks=ae->mY s.heap v d as ->
  Q ae s->aJ (aP prog w) A (eqIsQuiet n v) Q E s
 |[],_,hm,_,_,_,_,_,_,_,_,_,_,_=>by simp at hm
 |k::ks,d,hm,n,A,E,s,v,as,Q,hu,hk,r,h=>by
  have ft:bN k=ae/\cC ks=ae:=by simpa [cC] using hk
  have n9:max k.depth (cL ks)≤n:=by simpa [cL] using hu
  by_cases e:d=k
  ·exact FR k n (by omega) ft.1 (e ▸ r) h
  ·have q0:d∈ks:=by
    rcases dU.mp hm with q|q
    ·exact absurd q e
    ·exact q
   exact YS ks q0 n (by omega) ft.2 r h
end
mutual
theorem YL(kp:∀ b o vs n,h.get? b=aa o->o.cls=.type "tuple" -> o.data=.seq vs n->h'.get? b=aa o):∀ (d:aA) {v:aC} {as:List aD},bN d=ae->mY h v d as->mY h' v d as
 |.int i,v,as,hk,r=>by
  cases r with
  |int _ t=>exact .int i t
 |.str x,v,as,hk,r=>by
  cases r with
  |str _ t=>exact .str x t
 |.tuple ks,v,as,hk,r=>by
  obtain⟨a,o,cu,m,rfl,ho,hc,hd,hi⟩:=pV r;exact .tuple (kp _ _ _ _ ho hc hd) hc hd (ZQ kp ks (by simpa [bN] using hk) hi)
 |.none,v,as,hk,r=>by simp[bN] at hk
 |.bool _,v,as,hk,r=>by simp[bN] at hk
 |.list _,v,as,hk,r=>by simp[bN] at hk
 |.dict _,v,as,hk,r=>by simp[bN] at hk
theorem ZQ(kp:∀ b o vs n,h.get? b=aa o->o.cls=.type "tuple" -> o.data=.seq vs n->h'.get? b=aa o):∀ (ds:List aA) {vs:List aC} {as:List aD},cC ds=ae->pH h vs ds as->pH h' vs ds as
 |[],vs,as,hk,r=>by
  cases r with
  |nil=>exact .nil
 |d::ds,vs,as,hk,r=>by
  have ft:bN d=ae/\cC ds=ae:=by simpa [cC] using hk
  cases r with
  |cons r1 r2=>exact .cons (YL kp d ft.1 r1) (ZQ kp ds ft.2 r2)
end
def Adh (h:aY)(ks:List aA)(a:aD):Prop:=cC ks=ae/\cL ks≤6/\∃ as,mY h (.ref a) (.tuple ks) as
theorem Adh.keep(kp:∀ b o vs n,h.get? b=aa o->o.cls=.type "tuple" -> o.data=.seq vs n->h'.get? b=aa o)(k:Adh h ks a):Adh h' ks a:=
 ⟨k.1,k.2.1,k.2.2.choose,YL kp (.tuple ks) (by simpa [bN] using k.1) k.2.2.choose_spec⟩
def oZ (prog:bP)(w:bG):HeapKind prog w (List aA) where
 is:=Adh
 hash:=fun ks=>eP w (.tuple ks)
 draws:=fun ks=>qM (.tuple ks)
 room:=fun A=>A.units+20<cLine
 inj:=fun {h a x y} hx hy=>by
  obtain⟨k1,_,as,r1⟩:=hx;obtain⟨k2,_,bs,r2⟩:=hy;exact uU (reads_det (fun _ _ e _=>e) r2 r1).1
 keeps:=fun {h h' k a d o es ep} x ho hd hs=>x.keep fun b ob vs n hb _ oa=>by
  have fu:b≠d:=by
   rintro rfl;rw[ho] at hb;cases hb;rw[hd] at oa;cases oa
  exact(hs.2 b fu).trans hb
 pyHash:=fun {A E s k a Q} hu hk h=>by
  obtain⟨k1,k2,as,r⟩:=hk;exact YC (.tuple k) (by simp only[eG];omega) (by simpa [bN] using k1) r h
 eqBool:=fun {A E s x y a b Q} hu hx hy h=>by
  obtain⟨k1,d1,as,r1⟩:=hx;obtain⟨k2,d2,bs,r2⟩:=hy;have e:=KO (.tuple x) (.tuple y) (by simpa [bN] using k1) (by simpa [bN] using k2)
  have e2:decide ((iC x)=.tuple y)=decide (x=y):=by
   by_cases q:x=y
   ·subst q;simp
   ·rw[decide_eq_false q,decide_eq_false (fun z=>q (uU z))]
  have:=SeqAt.eqAt_reads (.tuple x) (.tuple y) A s (.ref a) (.ref b) as bs r1 r2 (KW _ (by simpa [bN] using k1)) (KW _ (by simpa [bN] using k2)) (by simp only[eG];omega)
  rw[e,e2] at this;exact this prog w E Q h
 quiet:=fun {A E s k a Q} hk h=>by
  obtain⟨k1,k2,as,r⟩:=hk;exact FR (.tuple k) 8 (by simp only[eG];omega) (by simpa [bN] using k1) r h
end
abbrev aO:=Sum Int aE
def vU:aO->aC->Bool
 |.inl k,v=>Value.isInt k v
 |.inr x,v=>Value.isStrOf x v
def Eu (w:bG):aO->Int
 |.inl k=>hashInt k
 |.inr x=>hashStr w x
theorem pW:∀ {k:aO} {v:aC},vU k v=ae->(∃ i t,k=sN i/\v=uR i t)\/(∃ x t,k=gL x/\v=uQ x t)
 |.inl i,v,h=>by
  obtain⟨t,e⟩:=Value.isInt_shape (k:=i) (v:=v) h;exact .inl ⟨i,t,rfl,e⟩
 |.inr x,v,h=>by
  obtain⟨t,e⟩:=Value.isStrOf_shape (x:=x) (v:=v) h;exact .inr ⟨x,t,rfl,e⟩
theorem Zo (i:Int)(t:Tok):vU (.inl i) (.int i t)=ae:=by simp[vU,Value.isInt]
theorem Zb (x:aE)(t:Tok):vU (.inr x) (.str x t)=ae:=by simp[vU,Value.isStrOf]
theorem Jv (a b:Int):decide ((sN a:aO)=sN b)=(a==b):=by
 by_cases e:a=b
 ·subst e;simp
 ·have h:¬ (sN a:aO)=sN b:=fun q=>e (Sum.inl.inj q)
  rw[decide_eq_false h];exact(beq_eq_false_iff_ne.mpr e).symm
theorem Ho (a b:aE):decide ((gL a:aO)=gL b)=decide (a=b):=by
 by_cases e:a=b
 ·subst e;simp
 ·have h:¬ (gL a:aO)=gL b:=fun q=>e (Sum.inr.inj q)
  rw[decide_eq_false h,decide_eq_false e]
theorem Lf (a:Int)(b:aE):decide ((sN a:aO)=gL b)=af:=decide_eq_false (fun q=>nomatch q)
theorem Ki (a:aE)(b:Int):decide ((gL a:aO)=sN b)=af:=decide_eq_false (fun q=>nomatch q)
def iT (prog:bP)(w:bG):PySem.KeyKind prog w aO where
 is:=vU
 hash:=Eu w
 inj:=fun v a b ha hb=>by
  rcases pW ha with⟨i,t,rfl,rfl⟩|⟨x,t,rfl,rfl⟩
  ·rcases pW hb with⟨j,u,rfl,e⟩|⟨y,u,rfl,e⟩
   ·injection e with e1 _;rw[e1]
   ·exact nomatch e
  ·rcases pW hb with⟨j,u,rfl,e⟩|⟨y,u,rfl,e⟩
   ·exact nomatch e
   ·injection e with e1 _;rw[e1]
 byValue:=fun k v h=>by
  rcases pW h with⟨i,t,rfl,rfl⟩|⟨x,t,rfl,rfl⟩<;>rfl
 pyHash:=fun hv h=>by
  rcases pW hv with⟨i,t,rfl,rfl⟩|⟨x,t,rfl,rfl⟩
  ·exact wpAny_pyHash_int h
  ·exact wpAny_pyHash_str h
 eqBool:=fun hu hv h=>by
  rcases pW hu with⟨i,t,rfl,rfl⟩|⟨x,t,rfl,rfl⟩
  ·rcases pW hv with⟨j,u,rfl,rfl⟩|⟨y,u,rfl,rfl⟩
   ·rw[Jv] at h;exact wpAny_eqBool_int h
   ·rw[Lf] at h;exact SeqAt.EqAt.int_str i t y u _ _ _ _ h
  ·rcases pW hv with⟨j,u,rfl,rfl⟩|⟨y,u,rfl,rfl⟩
   ·rw[Ki] at h;exact SeqAt.EqAt.str_int x t j u _ _ _ _ h
   ·rw[Ho] at h;exact wpAny_eqBool_str h
 «strs»:=fun k x t v h=>by
  rcases pW h with⟨i,u,rfl,e⟩|⟨y,u,rfl,e⟩
  ·exact nomatch e
  ·injection e with e1 _;subst e1;cases v<;>rfl
theorem MQ (prog:bP)(w:bG)(i:Int)(t:Tok):(iT prog w).is (.inl i) (.int i t)=ae:=Zo i t
theorem MU (prog:bP)(w:bG)(x:aE)(t:Tok):(iT prog w).is (.inr x) (.str x t)=ae:=Zb x t
inductive V where
 |non|bl (b:Bool)|int (i:Int)|str (x:aE)|byt (b:Array UInt8)|flt (b:UInt64)|ref (a:aD)|ty (n:String)
 deriving DecidableEq
def RelV:V->aC->Prop
 |.non,u=>u=cU
 |.bl b,u=>u=Value.bool b
 |.int i,u=>∃ t,u=uR i t
 |.str x,u=>∃ t,u=uQ x t
 |.byt b,u=>∃ t,u=Value.bytes b t
 |.flt b,u=>∃ t,u=Value.float b t
 |.ref a,u=>u=fI a
 |.ty n,u=>u=iJ n
abbrev Vals:List V->List aC->Prop:=fE RelV
theorem Vals.length {xs:List V}(r:Vals xs us):xs.length=us.length:=mZ r
theorem Vals.get:∀ {xs:List V} {us:List aC} {i:Nat} {x:V},Vals xs us->xs[i]?=aa x->∃ u,us[i]?=aa u/\RelV x u
 |_,_,_,_,.nil,e=>by simp at e
 |_,_,0,_,.cons r _,e=>by simp at e;subst e;exact⟨_,rfl,r⟩
 |_,_,i+1,x,.cons _ t,e=>by
  obtain⟨u,h1,h2⟩:=Vals.get (i:=i) (x:=x) t (by simpa using e)
  exact⟨u,by simpa using h1,h2⟩
theorem Vals.set {x:V}(r:RelV x u):∀ {xs:List V} {us:List aC} (i:Nat),Vals xs us->Vals (xs.set i x) (us.set i u)
 |_,_,_,.nil=>.nil
 |_,_,0,.cons _ t=>.cons r t
 |_,_,i+1,.cons q t=>.cons q (Vals.set r i t)
theorem Vals.append:∀ {xs ys:List V} {us ws:List aC},Vals xs us->Vals ys ws->Vals (xs++ys) (us++ws)
 |_,_,_,_,.nil,s=>s
 |_,_,_,_,.cons r t,s=>.cons r (Vals.append t s)
theorem Vals.take:∀ {xs:List V} {us:List aC} (n:Nat),Vals xs us->Vals (xs.take n) (us.take n)
 |_,_,0,_=>.nil
 |_,_,_+1,.nil=>.nil
 |_,_,n+1,.cons r t=>.cons r (Vals.take n t)
theorem Vals.drop:∀ {xs:List V} {us:List aC} (n:Nat),Vals xs us->Vals (xs.drop n) (us.drop n)
 |_,_,0,r=>r
 |_,_,_+1,.nil=>.nil
 |_,_,n+1,.cons _ t=>Vals.drop n t
def As4:Option V->Option aC->Prop
 |some v,aa u=>RelV v u
 |none,ab=>True
 |_,_=>False
def KV {κ:Type}:List (κ×V)->List (κ×aC)->Prop:=fE fun(p:κ×V) (q:κ×aC)=>p.1=q.1/\RelV p.2 q.2
def kV:aO->V
 |.inl i=>.int i
 |.inr x=>.str x
inductive HO where
 |lst (xs:List V)
 |tup (xs:List V)
 |dK (ep:Nat) (kvs:List (aO×V))|dT (kvs:List (List aA×V))
 |set (S:Int->Bool) (n:Nat)
 |ins (C dx:aD) (fs:List (aE×V))
 |own (x:aD)
 |xd (fs:List (aE×V))
 |met (f x:aD)
 |rng (lo hi:Int)
 |frz (o:bI) (u:HO)
 |tbl (ps:Array aC)
 |ext (φ:aY->Prop)
abbrev Hp:=aD->Option HO
def ar (H:Hp)(a:aD)(o:HO):Hp:=fun b=>if b=a then aa o else H b
theorem jR {H:Hp}{o:HO}:ar H a o a=aa o:=by unfold ar;rw[if_pos rfl]
theorem fR {H:Hp}{o:HO}(h:b≠a):ar H a o b=H b:=by unfold ar;rw[if_neg h]
theorem Gn {H:Hp}{o u:HO}(h:H a=aa o)(h':H b=aa u)(d:o≠u):a≠b:=by
 intro e;subst e;rw[h] at h';exact d (gY h')
theorem mR {H:Hp}{o:HO}(h:H a=aa o)(h':H b=ab):a≠b:=by
 intro e;subst e;rw[h] at h';cases h'
mutual
def Ak3 (H:Hp):aA->V->Prop
 |.int i,v=>v=.int i
 |.str x,v=>v=.str x
 |.tuple ds,v=>∃ a xs,v=.ref a/\H a=aa (.tup xs)/\Ah4 H ds xs
 |_,_=>False
def Ah4 (H:Hp):List aA->List V->Prop
 |[],vs=>vs=[]
 |d::r,vs=>∃ x rr,vs=x::rr/\Ak3 H d x/\Ah4 H r rr
end
mutual
theorem Ak3.keep {H H':Hp}(ht:∀ b xs,H b=aa (.tup xs)->H' b=aa (.tup xs)):∀ {d:aA} {v:V},Ak3 H d v->Ak3 H' d v
 |.int _,_,k=>by simpa [Ak3] using k
 |.str _,_,k=>by simpa [Ak3] using k
 |.tuple ds,_,k=>by
  simp only[Ak3] at k ⊢;obtain⟨a,xs,e,h,ks⟩:=k;exact⟨a,xs,e,ht _ _ h,Ah4.keep ht ks⟩
 |.none,_,k=>by simp[Ak3] at k
 |.bool _,_,k=>by simp[Ak3] at k
 |.list _,_,k=>by simp[Ak3] at k
 |.dict _,_,k=>by simp[Ak3] at k
theorem Ah4.keep {H H':Hp}(ht:∀ b xs,H b=aa (.tup xs)->H' b=aa (.tup xs)):∀ {ds:List aA} {vs:List V},Ah4 H ds vs->Ah4 H' ds vs
 |[],_,k=>by simpa [Ah4] using k
 |d::ds,_,k=>by
  simp only[Ah4] at k ⊢;obtain⟨x,r,e,k1,k2⟩:=k;exact⟨x,r,e,Ak3.keep ht k1,Ah4.keep ht k2⟩
end
def Avi (H:Hp)(ks:List aA)(a:aD):Prop:=cC ks=ae/\cL ks≤6/\∃ xs,H a=aa (.tup xs)/\Ah4 H ks xs
theorem Avi.keep {H H':Hp}(k:Avi H ks a)(ht:∀ b xs,H b=aa (.tup xs)->H' b=aa (.tup xs)):Avi H' ks a:=
 ⟨k.1,k.2.1,k.2.2.choose,ht _ _ k.2.2.choose_spec.1,k.2.2.choose_spec.2.keep ht⟩
def Bcm (h:aY)(a:aD)(its:Array aC):Prop:=IsTup h a its/\∃ o,h.get? a=aa o/\o.dict=ab
theorem Bcm.new (h:aY)(its:Array aC):Bcm (h.push { cls:=.type "tuple",data:=.seq its }) h.objs.size its:=⟨IsTup.new _ _,_,eD _ rfl,rfl⟩
section
variable (P:bP)(w:bG)
def Adz (H:Hp)(h:aY)(a:aD):HO->Prop
 |.lst xs=>xs.length≤sizeLine/\∃ (its:List aC) (n:Nat),Vals xs its/\h.get? a=aa { cls:=.type "list",data:=.seq its.toArray n }
 |.tup xs=>xs.length≤sizeLine/\∃ its:List aC,Vals xs its/\Bcm h a its.toArray
 |.dK ep kvs=>kvs.length≤sizeLine/\(a==kH)=af/\∃ vs,KV kvs vs/\h.DictAt (iT P w) a vs ep
 |.dT kvs=>kvs.length≤sizeLine/\(a==kH)=af/\∃ xs:List (List aA×aD×aC),
   fE (fun(p:List aA×V) (q:List aA×aD×aC)=>p.1=q.1/\Avi H p.1 q.2.1/\RelV p.2 q.2.2) kvs xs /\
   ∃ o es ep,h.get? a=aa o/\o.ExactDict/\o.data=.dict es ep/\es.toList=xs.map (entryOfKey (oZ P w))/\(xs.map (·.1)).Nodup
 |.set S n=>h.SetOf (intKind P w) a S n
 |.ins C dx fs=>H dx=aa (.own a)/\fs.length≤1000/\dx≠a/\h.get? a=aa (Cw C dx) /\
   ∃ mA,h.Ns1 dx mA/\(∀ f,As4 (fs.lookup f) (mA f))/\PySem.Within mA (fs.map (·.1))
 |.own _=>∃ o,h.get? a=aa o
 |.xd fs=>∃ mA,h.Ns1 a mA/\∀ f,As4 (fs.lookup f) (mA f)
 |.rng lo hi=>∃ t u v,h.get? a=aa { cls:=.type "range",data:=.fields #[.int lo t,.int hi u,.int 1 v] }
 |.frz o u=>h.get? a=aa o/\Adz H h a u
 |.tbl ps=>h.get? a=aa { cls:=.none,data:=.fields ps }
 |.met f x=>h.get? a=aa (Cr (.ref f) (.ref x))
 |.ext φ=>φ h/\(∃ o,h.get? a=aa o)/\∀ h1 h2:aY,φ h1->(∀ o,h1.get? a=aa o->h2.get? a=aa o)->φ h2
def HOk (H:Hp)(h:aY):Prop:=∀ a o,H a=aa o->Adz P w H h a o
end
section
variable {P:bP}{w:bG}{H H':Hp}{o:HO}
theorem Adz.lt (x:Adz P w H h a o):a<h.objs.size:=by
 cases o with
 |lst xs=>obtain⟨_,_,_,_,e⟩:=x;exact cA e
 |tup xs=>obtain⟨_,_,_,p⟩:=x;exact p.1.lt
 |dK ep kvs=>obtain⟨_,_,_,_,o,_,e,_⟩:=x;exact cA e
 |dT kvs=>obtain⟨_,_,_,_,o,_,_,e,_⟩:=x;exact cA e
 |set S n=>obtain⟨o,_,_,_,e,_⟩:=x;exact cA e
 |ins C dx fs=>obtain⟨_,_,_,e,_⟩:=x;exact cA e
 |own y=>obtain⟨_,e⟩:=x;exact cA e
 |xd fs=>obtain⟨_,⟨_,_,_,e,_⟩,_⟩:=x;exact cA e
 |rng lo hi=>obtain⟨_,_,_,e⟩:=x;exact cA e
 |frz ob u=>obtain⟨e,_⟩:=x;exact cA e
 |tbl ps=>exact cA (show h.get? a=aa _ from x)
 |met f y=>exact cA (show h.get? a=aa _ from x)
 |ext φ=>obtain⟨_,⟨_,e⟩,_⟩:=x;exact cA e
theorem Paired.mapP {α β:Type}{F G:α->β->Prop}:∀ {l₁:List α} {l₂:List β},fE F l₁ l₂->(∀ a b,F a b->G a b)->fE G l₁ l₂:=by
 intro l₁ l₂ h;induction h with
 |nil=>exact fun _=>.nil
 |cons r _ ih=>exact fun f=>.cons (f _ _ r) (ih f)
theorem Adz.stay (x:Adz P w H h a o)(k:∀ b u,(b=a\/H b=aa (.own a))->h.get? b=aa u->h'.get? b=aa u)
  (ho:∀ b,H b=aa (.own a)->H' b=aa (.own a)) (ht:∀ b xs,H b=aa (.tup xs)->H' b=aa (.tup xs)):Adz P w H' h' a o:=by
 induction o with
 |lst xs=>obtain⟨z,its,n,r,e⟩:=x;exact⟨z,its,n,r,k _ _ (.inl rfl) e⟩
 |tup xs=>obtain⟨z,its,r,⟨ob,e,c⟩,ob2,e2,c2⟩:=x;exact⟨z,its,r,⟨ob,k _ _ (.inl rfl) e,c⟩,ob2,k _ _ (.inl rfl) e2,c2⟩
 |dK ep kvs=>obtain⟨z,y,vs,r,ob,es,e,c⟩:=x;exact⟨z,y,vs,r,ob,es,k _ _ (.inl rfl) e,c⟩
 |dT kvs=>
  obtain⟨z,y,xs,r,ob,es,ep,e,c⟩:=x;exact⟨z,y,xs,Paired.mapP r fun p q z=>⟨z.1,z.2.1.keep ht,z.2.2⟩,ob,es,ep,k _ _ (.inl rfl) e,c⟩
 |set S n=>obtain⟨ob,es,ep,t,e,c⟩:=x;exact⟨ob,es,ep,t,k _ _ (.inl rfl) e,c⟩
 |ins C dx fs=>
  obtain⟨d,z,ne,e,mA,⟨od,es,ep,e2,c⟩,r⟩:=x;exact⟨ho _ d,z,ne,k _ _ (.inl rfl) e,mA,⟨od,es,ep,k _ _ (.inr d) e2,c⟩,r⟩
 |own y=>obtain⟨ob,e⟩:=x;exact⟨ob,k _ _ (.inl rfl) e⟩
 |xd fs=>obtain⟨mA,⟨od,es,ep,e,c⟩,r⟩:=x;exact⟨mA,⟨od,es,ep,k _ _ (.inl rfl) e,c⟩,r⟩
 |rng lo hi=>obtain⟨t,u,v,e⟩:=x;exact⟨t,u,v,k _ _ (.inl rfl) e⟩
 |frz ob u ih=>obtain⟨e,q⟩:=x;exact⟨k _ _ (.inl rfl) e,ih q⟩
 |tbl ps=>
  have e:h.get? a=aa { cls:=.none,data:=.fields ps }:=x;show h'.get? a=aa { cls:=.none,data:=.fields ps };exact k a _ (.inl rfl) e
 |met f y=>
  have e:h.get? a=aa (Cr (.ref f) (.ref y)):=x;show h'.get? a=aa (Cr (.ref f) (.ref y));exact k a _ (.inl rfl) e
 |ext φ=>obtain⟨p,⟨o,e⟩,st⟩:=x;exact⟨st _ _ p fun o q=>k _ _ (.inl rfl) q,⟨o,k _ _ (.inl rfl) e⟩,st⟩
theorem HOk.lt (x:HOk P w H h)(e:H a=aa o):a<h.objs.size:=(x a o e).lt
theorem HOk.fresh (x:HOk P w H h)(e:h.objs.size≤a):H a=ab:=by
 cases q:H a with
 |none=>rfl
 |some u=>exact absurd (iK (x.lt q) e) (lE _)
theorem HOk.kept (x:HOk P w H h)(k:∀ b u,h.get? b=aa u->h'.get? b=aa u):HOk P w H h':=fun a o e=>
 (x a o e).stay (fun b u _ q=>k b u q) (fun _ q=>q) fun _ _ q=>q
theorem HOk.laid (x:HOk P w H h)(k:∀ b u,h.get? b=aa u->h'.get? b=aa u)(hp:h.objs.size≤a)(new:Adz P w (ar H a o) h' a o):HOk P w (ar H a o) h':=fun b u e=>by
 have hn:=x.fresh hp;by_cases hb:b=a
 ·subst hb;rw[jR] at e;cases e;exact new
 ·rw[fR hb] at e;exact(x b u e).stay (fun c v _ q=>k c v q) (fun c q=>by rw[fR (mR q hn)];exact q) fun c xs q=>by rw[fR (mR q hn)];exact q
end
def Rd (H:Hp)(a:aD)(u:HO):Prop:=H a=aa u\/∃ o,H a=aa (.frz o u)
theorem Rd.ok {P:bP}{w:bG}{H:Hp}{u:HO}(r:Rd H a u)(x:HOk P w H h):Adz P w H h a u:=by
 rcases r with r|⟨o,r⟩
 ·exact x a u r
 ·obtain⟨_,q⟩:=x a _ r;exact q
def yL:Option HO->Prop
 |some (.lst _)=>True
 |some (.dK _ _)=>True
 |some (.dT _)=>True
 |some (.set _ _)=>True
 |some (.ins _ _ _)=>True
 |some (.ext _)=>True
 |_=>False
section
variable {P:bP}{w:bG}{H:Hp}{x e:aD}{o':HO}
theorem HOk.write (ok:HOk P w H h)(mu:yL (H x))(he:e=x\/H e=aa (.own x))(k:∀ b u,b≠e->h.get? b=aa u->h'.get? b=aa u)(xy:∃ u,h'.get? e=aa u)
  (new:Adz P w (ar H x o') h' x o'):HOk P w (ar H x o') h':=fun b u q=>by
 have ym:∀ c y,H c=aa (.own y)->c≠x:=fun c y r z=>by subst z;rw[r] at mu;exact mu
 have Is:∀ c xs,H c=aa (.tup xs)->c≠x:=fun c xs r z=>by subst z;rw[r] at mu;exact mu
 by_cases hb:b=x
 ·subst hb;rw[jR] at q;cases q;exact new
 ·rw[fR hb] at q;by_cases uf:b=e
  ·have q':H b=aa (.own x):=by
    rcases he with z|z
    ·exact absurd (uf.trans z) hb
    ·rw[uf];exact z
   rw[q] at q';cases q';obtain⟨v,hv⟩:=xy;exact⟨v,by rw[uf];exact hv⟩
  ·refine(ok b u q).stay (fun c v hc r=>k c v ?_ r) (fun c r=>by rw[fR (ym c b r)];exact r) fun c xs r=>by rw[fR (Is c xs r)];exact r
   rcases hc with rfl|hc
   ·exact uf
   ·rintro rfl;rcases he with z|z
    ·exact ym c b hc z
    ·rw[hc] at z;cases z;exact hb rfl
end
structure Un (fs ex:List aD)(H H':Hp)(h h':aY):Prop where
 keep:∀ b o,h.get? b=aa o->H b=ab->b∉fs->b∉ex->h'.get? b=aa o
 slot:∀ b o,h.get? b=aa o->H b=ab->b∈fs->b∉ex->∃ sl,h'.get? b=aa { o with slots:=sl }
 free:∀ b o,h.get? b=aa o->H b=ab->b∉ex->H' b=ab
 there:∀ b o,h.get? b=aa o->b∉ex->∃ o',h'.get? b=aa o'
 tups:∀ b xs,H b=aa (.tup xs)->H' b=aa (.tup xs)
 frzs:∀ b o u,H b=aa (.frz o u)->H' b=aa (.frz o u)
 tbls:∀ b ps,H b=aa (.tbl ps)->∃ more,H' b=aa (.tbl (ps++more))
section
variable {fs fs' ex ex':List aD}{H H1 H2:Hp}{h1 h2:aY}{x e:aD}{o:HO}
theorem Un.any (u:Un fs ex H H1 h h1){ob:bI}(q:h.get? b=aa ob)(n:H b=ab)(hx:b∉ex):∃ sl,h1.get? b=aa { ob with slots:=sl }:=by
 by_cases hb:b∈fs
 ·exact u.slot b ob q n hb hx
 ·exact⟨ob.slots,u.keep b ob q n hb hx⟩
theorem Un.kept (k:∀ b u,h.get? b=aa u->h'.get? b=aa u):Un fs ex H H h h':=
 ⟨fun b ob q _ _ _=>k b ob q,fun b ob q _ _ _=>⟨ob.slots,k b ob q⟩,fun _ _ _ n _=>n,fun b ob q _=>⟨ob,k b ob q⟩,fun _ _ q=>q,fun _ _ _ q=>q,fun _ ps q=>⟨#[],by rw[q];simp⟩⟩
theorem Un.refl:Un fs ex H H h h:=Un.kept fun _ _ q=>q
theorem Un.laid (k:∀ b u,h.get? b=aa u->h'.get? b=aa u)(hp:h.objs.size≤a)(hn:H a=ab):Un fs ex H (ar H a o) h h' where
 keep:=fun b u q _ _ _=>k b u q
 slot:=fun b u q _ _ _=>⟨u.slots,k b u q⟩
 free:=fun b u q n _=>by rw[fR (dI (iK (cA q) hp))];exact n
 there:=fun b u q _=>⟨u,k b u q⟩
 tups:=fun b xs q=>by rw[fR (mR q hn)];exact q
 frzs:=fun b u xs q=>by rw[fR (mR q hn)];exact q
 tbls:=fun b ps q=>⟨#[],by rw[fR (mR q hn),q];simp⟩
theorem Un.write (mu:yL (H x))(he:e=x\/H e=aa (.own x))(k:∀ b u,b≠e->h.get? b=aa u->h'.get? b=aa u)(xy:∃ u,h'.get? e=aa u):Un fs ex H (ar H x o) h h':=by
 have hx:∀ b,H b=ab->b≠x:=fun b n z=>by subst z;rw[n] at mu;exact mu
 have hb:∀ b,H b=ab->b≠e:=fun b n z=>by
  subst z;rcases he with r|r
  ·exact hx b n r
  ·rw[n] at r;cases r
 have hm:∀ b u,H b=aa u->¬ yL (aa u)->b≠x:=fun b u q nm z=>by subst z;rw[q] at mu;exact nm mu
 refine⟨fun b u q n _ _=>k b u (hb b n) q,fun b u q n _ _=>⟨u.slots,k b u (hb b n) q⟩,fun b u q n _=>by rw[fR (hx b n)];exact n,fun b u q _=>?_,
  fun b xs q=>by rw[fR (hm b _ q fun z=>z)];exact q,fun b u xs q=>by rw[fR (hm b _ q fun z=>z)];exact q,fun b ps q=>⟨#[],by rw[fR (hm b _ q fun z=>z),q];simp⟩⟩
 by_cases uf:b=e
 ·subst uf;exact xy
 ·exact⟨u,k b u uf q⟩
end
def G9 (h:aY)(H:Hp):List aD:=(dB h.objs.size).filter fun a=>(H a).isSome
def qV (h:aY)(H:Hp):aY:=PySem.W.hideAll h (G9 h H)
theorem Zk (h:aY)(H:Hp):(qV h H).objs.size=h.objs.size:=PySem.W.hideAll_size _ _
theorem Ww{H:Hp}(e:h.get? b=aa o)(n:H b=ab):(qV h H).get? b=aa o:=
 PySem.W.hideAll_get _ e fun hm=>by
  have q:(H b).isSome=ae:=(OS.mp hm).2;rw[n] at q;simp at q
theorem Kr{H:Hp}(e:(qV h H).get? b=aa o):h.get? b=aa o/\H b=ab:=by
 have e':h.get? b=aa o:=PySem.W.of_hideAll (G9 h H) e;refine⟨e',?_⟩;cases q:H b with
 |none=>rfl
 |some x=>
  have hm:b∈G9 h H:=OS.mpr ⟨hV.mpr (cA e'),by simp[q]⟩
  have z:(qV h H).get? b=ab:=PySem.W.hideAll_none (G9 h H) hm;rw[z] at e;cases e
def Mo (g h:aY)(L:aD):List (aD×bI):=(dB h.objs.size).filterMap fun a=>if a=L\/(g.get? a).isSome=ae then ab else(h.get? a).map fun o=>(a,o)
def rest (g h:aY)(L d:aD):List (aD×bI):=(Mo g h L).filter fun p=>decide (p.1≠d)
structure Mod (K:aM)(mg:aE->Option aC)(base:aY):Prop where
 kin:K.In base
 glob:base.Ns eZ mg
 blt:∃ mb,base.Ns builtinsNs mb/\∀ x:aE,x ≠ "__name__" -> mb x=qE x
 nolimit:base.NoLimit
structure Cx where
 prog:bP
 w:bG
 K:aM
 mg:aE->Option aC
 base:aY
 A:bZ
 N:List aE
 s₀:aH
 H₀:Hp
 env:Env
 outer:List Env
 stack:List Env
 ex:List aD
 fn:aE->Bool
 calm:Bool
 pn:List (aD×bI)
 xe:aC->aH->Prop
def qz (l:List Env):List aD:=l.filterMap (·.frame)
abbrev Cx.fs (X:Cx):List aD:=qz X.outer
def pP (sc:kI)(x:aE):Prop:=sc.names.lookup x=aa .local\/sc.names.lookup x=aa .cell\/sc.names.lookup x=aa .free
def nH (sc:kI)(x:aE):Prop:=sc.names.lookup x=aa .local\/sc.names.lookup x=aa .cell
def Look (env:Env)(h:aY)(m:aE->Option aC)(x:aE)(u:aC):Prop:=
 (env.kindOf x=aa .local/\m x=aa u)\/((env.kindOf x=aa .cell\/env.kindOf x=aa .free)/\∃ c,env.cells.lookup x=aa c/\h.IsCell c (aa u))
structure Cx.Ok (X:Cx):Prop where
 mod:Mod X.K X.mg X.base
 kind:X.env.scope.kind=.function
 glob:X.env.globals=eZ
 blt:X.env.builtins=builtinsNs
 above:X.s₀.heap.objs.size≤X.env.locals
 inj:∀ x y c,X.env.cells.lookup x=aa c->X.env.cells.lookup y=aa c->x=y
 has:∀ x,(X.env.kindOf x=aa .cell\/X.env.kindOf x=aa .free)->∃ c,X.env.cells.lookup x=aa c
 cab:∀ x c,X.fn x=ae->X.env.cells.lookup x=aa c->X.s₀.heap.objs.size≤c
 hd:X.calm=ae->X.A.handled=ab
 frames:X.A.frames=aa X.stack
 stk:X.stack=X.outer\/(X.stack=X.env::X.outer/\X.env.frame=aa X.env.locals)
 exf:∀ b∈X.ex,b≠X.env.locals/\∀ x c,X.env.cells.lookup x=aa c->c≠b
 bs:∀ b o,X.base.get? b=aa o->X.s₀.heap.get? b=aa o/\X.H₀ b=ab
 bsz:X.base.objs.size≤X.s₀.heap.objs.size
 noex:∀ b o,X.base.get? b=aa o->b∉X.ex
 exfs:∀ b∈X.ex,b∉X.fs
 funs:X.s₀.heap.FunFrames X.base X.outer
 frf:∀ b∈X.fs,X.H₀ b=ab
structure Inv (X:Cx)(ad:List (aD×bI))(σ:List (Option V))(H:Hp)(s:aH):Prop where
 ok:X.Ok
 os:s.os=X.s₀.os
 bare:sV s.gens
 base:Un X.fs X.ex X.H₀ H X.s₀.heap s.heap
 loc:∃ m,s.heap.Ns X.env.locals m/\∀ (i:Nat) (x:aE) (v:V),X.N[i]?=aa x->σ[i]?=aa (aa v)->pP X.env.scope x->∃ u,RelV v u/\Look X.env s.heap m x u
 cell:∀ x c,X.env.cells.lookup x=aa c->∃ v,s.heap.IsCell c v
 free:H X.env.locals=ab
 freeC:∀ x c,X.env.cells.lookup x=aa c->H c=ab
 pin:∀ p∈X.pn++ad,s.heap.get? p.1=aa p.2/\H p.1=ab/\p.1≠X.env.locals/\p.1∉X.fs/\∀ v,p.2.data ≠ .cell v
 hok:HOk X.prog X.w H s.heap
 len:σ.length=X.N.length
section
variable {X:Cx}{σ:List (Option V)}{H H':Hp}
theorem Cx.Ok.nofr (ok:X.Ok)(e:X.base.get? b=aa o):b∉X.fs:=fun hb=>by
 have:=(ok.funs.mem hb).1;rw[e] at this;cases this
theorem Inv.bs (I:Inv X ad σ H s):∀ b o,X.base.get? b=aa o->s.heap.get? b=aa o/\H b=ab:=fun b o e=>
 ⟨I.base.keep b o (I.ok.bs b o e).1 (I.ok.bs b o e).2 (I.ok.nofr e) (I.ok.noex b o e),I.base.free b o (I.ok.bs b o e).1 (I.ok.bs b o e).2 (I.ok.noex b o e)⟩
theorem Inv.bk (I:Inv X ad σ H s):∀ b o,X.base.get? b=aa o->s.heap.get? b=aa o:=fun b o e=>(I.bs b o e).1
theorem Inv.mod (I:Inv X ad σ H s):Mod X.K X.mg X.base:=I.ok.mod
theorem Inv.kIn (I:Inv X ad σ H s):X.K.In s.heap:=I.ok.mod.kin.keeps I.bk
theorem Inv.lt (I:Inv X ad σ H s):X.env.locals<s.heap.objs.size:=let ⟨_,hn,_⟩:=I.loc;hn.lt
theorem Inv.sz (I:Inv X ad σ H s):X.s₀.heap.objs.size≤s.heap.objs.size:=iU I.ok.above (sO I.lt)
theorem Inv.nofs (I:Inv X ad σ H s)(h:s.heap.objs.size≤a):a∉X.fs:=fun hb=>by
 obtain⟨_,o,ho,_⟩:=I.ok.funs.mem hb;exact absurd (iK (cA ho) (iU I.sz h)) (lE _)
theorem Inv.cne (I:Inv X ad σ H s):∀ x c,X.env.cells.lookup x=aa c->c≠X.env.locals:=fun x c e z=>by
 obtain⟨v,o,ho,hd⟩:=I.cell x c e;obtain⟨m,⟨o',es,ep,q8,oa,_⟩,_⟩:=I.loc;rw[z,q8] at ho;cases ho;rw[oa] at hd;cases hd
theorem Inv.funs (I:Inv X ad σ H s):s.heap.FunFrames X.base X.outer:=by
 have all:∀ (l:List Env),(∀ b∈qz l,b∈X.fs)->X.s₀.heap.FunFrames X.base l->s.heap.FunFrames X.base l:=by
  intro l;induction l with
  |nil=>intro _ _;trivial
  |cons env r ih=>
   intro hs hl;obtain⟨hk,⟨L,o,hf,hn,ho,hd⟩,hr⟩:=hl;have hL:L∈X.fs:=hs L (by unfold qz;rw[PJ,hf];exact bS)
   obtain⟨sl,e⟩:=I.base.slot L o ho (I.ok.frf L hL) hL fun z=>I.ok.exfs L z hL
   exact⟨hk,⟨L,_,hf,hn,e,hd⟩,ih (fun b hb=>hs b (by unfold qz;rw[PJ,hf];exact cG _ hb)) hr⟩
 exact all X.outer (fun _ hb=>hb) I.ok.funs
theorem Inv.stack (I:Inv X ad σ H s):s.heap.FunFrames X.base X.stack:=by
 rcases I.ok.stk with e|⟨e,hf⟩
 ·rw[e];exact I.funs
 ·rw[e];obtain⟨m,hn,_⟩:=I.loc;refine .cons (by rw[I.ok.kind];decide) hf hn ?_ I.funs
  exact Heap.get?_none_of_le (iU I.ok.bsz I.ok.above)
theorem Inv.stkSub (I:Inv X ad σ H s):∀ b∈qz X.stack,b∈X.env.locals::X.fs:=fun b hb=>by
 rcases I.ok.stk with e|⟨e,hf⟩
 ·rw[e] at hb;exact cG _ hb
 ·rw[e] at hb;unfold qz at hb;rw[PJ,hf] at hb;exact hb
theorem Inv.stkFree (I:Inv X ad σ H s):∀ b∈qz X.stack,H b=ab:=fun b hb=>by
 rcases dU.mp (I.stkSub b hb) with e|hb
 ·rw[e];exact I.free
 ·obtain⟨_,o,ho,_⟩:=I.ok.funs.mem hb;exact I.base.free b o ho (I.ok.frf b hb) fun z=>I.ok.exfs b z hb
theorem Inv.step {g':Array GenState}{d':Drawn}(I:Inv X ad σ H s)
  (tt:∀ b∈ch,(b∈X.ex\/X.s₀.heap.objs.size≤b)/\b≠X.env.locals/\(∀ x c,X.env.cells.lookup x=aa c->c≠b)/\∀ p∈X.pn++ad,p.1≠b)
  (keep:∀ b o,b≠X.env.locals->b∉X.fs->b∉ch->s.heap.get? b=aa o->H b=ab->h'.get? b=aa o)
  (slot:∀ b o,b≠X.env.locals->b∈X.fs->b∉ch->s.heap.get? b=aa o->H b=ab->∃ sl,h'.get? b=aa { o with slots:=sl }) (free:∀ b o,b∉ch->s.heap.get? b=aa o->H b=ab->H' b=ab)
  (there:∀ b o,b∉ch->s.heap.get? b=aa o->∃ o',h'.get? b=aa o')
  (tups:∀ b xs,H b=aa (.tup xs)->H' b=aa (.tup xs)) (frzs:∀ b o u,H b=aa (.frz o u)->H' b=aa (.frz o u)) (tbls:∀ b ps,H b=aa (.tbl ps)->∃ more,H' b=aa (.tbl (ps++more)))
  (ns:∀ m,s.heap.Ns X.env.locals m->h'.Ns X.env.locals m) (hok:HOk X.prog X.w H' h') (hg:sV g') :
  Inv X ad σ H' { s with heap:=h',gens:=g',drawn:=d',toks:=t' }:=by
 have U4:∀ b o,X.s₀.heap.get? b=aa o->b≠X.env.locals:=fun b o e=>dI (iK (cA e) I.ok.above)
 have Ev:∀ b o,X.s₀.heap.get? b=aa o->b∉X.ex->b∉ch:=fun b o e hx hb=>by
  rcases(tt b hb).1 with z|z
  ·exact hx z
  ·exact absurd (iK (cA e) z) (lE _)
 have vd:∀ x c,X.env.cells.lookup x=aa c->∀ v,s.heap.IsCell c v->h'.IsCell c v:=fun x c e v gh=>by
  obtain⟨o,ho,hd⟩:=gh;have yn:c∉ch:=fun z=>(tt c z).2.2.1 x c e rfl
  by_cases hc:c∈X.fs
  ·obtain⟨sl,q⟩:=slot c o (I.cne x c e) hc yn ho (I.freeC x c e);exact⟨_,q,hd⟩
  ·exact⟨o,keep c o (I.cne x c e) hc yn ho (I.freeC x c e),hd⟩
 refine⟨I.ok,I.os,hg,⟨fun b o e n hb hx=>?_,fun b o e n hb hx=>?_,fun b o e n hx=>?_,fun b o e hx=>?_,fun b xs e=>tups b xs (I.base.tups b xs e),fun b o xs e=>frzs b o xs (I.base.frzs b o xs e),fun b ps e=>?_⟩,?_,fun x c e=>?_,?_,fun x c e=>?_,fun p hp=>?_,hok,I.len⟩
 ·exact keep b o (U4 b o e) hb (Ev b o e hx) (I.base.keep b o e n hb hx) (I.base.free b o e n hx)
 ·obtain⟨sl,e1⟩:=I.base.slot b o e n hb hx;obtain⟨sl',e2⟩:=slot b _ (U4 b o e) hb (Ev b o e hx) e1 (I.base.free b o e n hx);exact⟨sl',e2⟩
 ·obtain⟨o',e1⟩:=I.base.there b o e hx;exact free b o' (Ev b o e hx) e1 (I.base.free b o e n hx)
 ·obtain⟨o',e1⟩:=I.base.there b o e hx;exact there b o' (Ev b o e hx) e1
 ·obtain⟨m1,e1⟩:=I.base.tbls b ps e;obtain⟨m2,e2⟩:=tbls b _ e1;exact⟨m1++m2,by rw[e2,Array.append_assoc]⟩
 ·obtain⟨m,hn,hl⟩:=I.loc;refine⟨m,ns m hn,fun i x v e1 e2 e3=>?_⟩
  obtain⟨u,r,l⟩:=hl i x v e1 e2 e3;refine⟨u,r,?_⟩;rcases l with l|⟨k,c,e,z⟩
  ·exact .inl l
  ·exact .inr ⟨k,c,e,vd x c e _ z⟩
 ·obtain⟨v,z⟩:=I.cell x c e;exact⟨v,vd x c e v z⟩
 ·obtain⟨m,⟨o,_,_,ho,_⟩,_⟩:=I.loc;exact free _ o (fun z=>(tt _ z).2.1 rfl) ho I.free
 ·obtain⟨v,o,ho,hd⟩:=I.cell x c e;exact free c o (fun z=>(tt c z).2.2.1 x c e rfl) ho (I.freeC x c e)
 ·obtain⟨e,n,ne,nf,d⟩:=I.pin p hp;have yn:p.1∉ch:=fun z=>(tt p.1 z).2.2.2 p hp rfl
  exact⟨keep p.1 p.2 ne nf yn e n,free p.1 p.2 yn e n,ne,nf,d⟩
theorem Inv.un(I:Inv X ad σ H s)(u:Un X.fs [] H H' s.heap h')(hok:HOk X.prog X.w H' h'):Inv X ad σ H' { s with heap:=h',toks:=t' }:=by
 obtain⟨m,⟨o,es,ep,ho,r⟩,_⟩:=id I.loc;obtain⟨sl,hL⟩:=u.any ho I.free (by simp)
 exact I.step (g':=s.gens) (d':=s.drawn) (ch:=[]) (fun _ z=>nomatch z) (fun b o _ hb _ e n=>u.keep b o e n hb (by simp)) (fun b o _ hb _ e n=>u.slot b o e n hb (by simp)) (fun b o _ e n=>u.free b o e n (by simp)) (fun b o _ e=>u.there b o e (by simp)) u.tups u.frzs u.tbls (fun m' hm=>by
  obtain⟨o',j2,l9,q8,r'⟩:=hm;rw[ho] at q8;cases q8;exact⟨_,j2,l9,hL,r'⟩) hok I.bare
theorem Inv.call {g':Array GenState}{d':Drawn}(I:Inv X ad σ H s)(u:Un (qz X.stack) ch H H' s.heap h')(hok:HOk X.prog X.w H' h')(hg:sV g')
  (tt:∀ b∈ch,(b∈X.ex\/X.s₀.heap.objs.size≤b)/\b≠X.env.locals/\(∀ x c,X.env.cells.lookup x=aa c->c≠b)/\∀ p∈X.pn++ad,p.1≠b) :
  Inv X ad σ H' { s with heap:=h',gens:=g',drawn:=d',toks:=t' }:=by
 obtain⟨m,⟨o,es,ep,ho,r⟩,_⟩:=id I.loc;obtain⟨sl,hL⟩:=u.any ho I.free fun z=>(tt _ z).2.1 rfl
 exact I.step (ch:=ch) tt (fun b o hL hb hc e n=>u.keep b o e n (fun z=>(dU.mp (I.stkSub b z)).elim hL hb) hc) (fun b o _ _ hc e n=>u.any e n hc) (fun b o hc e n=>u.free b o e n hc) (fun b o hc e=>u.there b o e hc) u.tups u.frzs u.tbls (fun m' hm=>by
  obtain⟨o',j2,l9,q8,r'⟩:=hm;rw[ho] at q8;cases q8;exact⟨_,j2,l9,hL,r'⟩) hok hg
theorem Inv.turned{it:aD}(I:Inv X ad σ H s)(k:∀ b o,b≠it->s.heap.get? b=aa o->h'.get? b=aa o)(hn:H it=ab)(hL:it≠X.env.locals)
  (h1:it∈X.ex\/X.s₀.heap.objs.size≤it) (h2:∀ x c,X.env.cells.lookup x=aa c->c≠it) (h3:∀ p∈X.pn++ad,p.1≠it):Inv X ad σ H { s with heap:=h',toks:=t' }:=by
 have U5:∀ b u,H b=aa u->b≠it:=fun b u e z=>by rw[z,hn] at e;cases e
 refine I.step (g':=s.gens) (d':=s.drawn) (ch:=[it]) (fun b hb=>?_) (fun b o _ _ hc e _=>k b o (fun z=>hc (by simp[z])) e) (fun b o _ _ hc e _=>⟨o.slots,k b o (fun z=>hc (by simp[z])) e⟩) (fun _ _ _ _ n=>n)
  (fun b o hc e=>⟨o,k b o (fun z=>hc (by simp[z])) e⟩) (fun _ _ e=>e) (fun _ _ _ e=>e) (fun b ps e=>⟨#[],by rw[e];simp⟩) (fun m hm=>?_) (fun b u e=>?_) I.bare
 ·have e:b=it:=by simpa using hb
  subst e;exact⟨h1,hL,h2,h3⟩
 ·obtain⟨o,es,ep,ho,r⟩:=hm;exact⟨o,es,ep,k _ o (kR hL) ho,r⟩
 ·refine(I.hok b u e).stay (fun c v hc q=>k c v ?_ q) (fun _ q=>q) fun _ _ q=>q
  rcases hc with z|z
  ·rw[z];exact U5 b u e
  ·exact U5 c _ z
theorem Inv.tok (I:Inv X ad σ H s)(t:Nat):Inv X ad σ H { s with toks:=t }:=I.un (h':=s.heap) (t':=t) Un.refl I.hok
theorem Inv.kept(I:Inv X ad σ H s)(k:∀ b u,s.heap.get? b=aa u->h'.get? b=aa u):Inv X ad σ H { s with heap:=h',toks:=t' }:=I.un (Un.kept k) (I.hok.kept k)
theorem Inv.laid{o:HO}(I:Inv X ad σ H s)(k:∀ b u,s.heap.get? b=aa u->h'.get? b=aa u)(hp:s.heap.objs.size≤a)(new:Adz X.prog X.w (ar H a o) h' a o) :
  Inv X ad σ (ar H a o) { s with heap:=h',toks:=t' }:=I.un (Un.laid k hp (I.hok.fresh hp)) (I.hok.laid k hp new)
theorem Inv.write {x e:aD}{o:HO}(I:Inv X ad σ H s)(mu:yL (H x))(he:e=x\/H e=aa (.own x))(k:∀ b u,b≠e->s.heap.get? b=aa u->h'.get? b=aa u)(xy:∃ u,h'.get? e=aa u)
  (new:Adz X.prog X.w (ar H x o) h' x o):Inv X ad σ (ar H x o) { s with heap:=h',toks:=t' }:=I.un (Un.write mu he k xy) (I.hok.write mu he k xy new)
theorem Inv.pins_of {ve:List (aD×bI)}(I:Inv X ad σ H s)(h:∀ p∈ve,s.heap.get? p.1=aa p.2/\H p.1=ab/\p.1≠X.env.locals/\p.1∉X.fs/\∀ v,p.2.data ≠ .cell v):Inv X ve σ H s:=
 ⟨I.ok,I.os,I.bare,I.base,I.loc,I.cell,I.free,I.freeC,fun p hp=>(jF.mp hp).elim (fun z=>I.pin p (List.mem_append_left _ z)) (h p),I.hok,I.len⟩
theorem UM {N:List aE}(hN:N.Nodup){j:Nat}(a:N[i]?=aa x)(b:N[j]?=aa x):i=j:=by
 obtain⟨h1,e1⟩:=dF.mp a;obtain⟨h2,e2⟩:=dF.mp b;exact(List.getElem_inj hN).mp (e1.trans e2.symm)
theorem VY{v:V}{Q:Unit->aH->Prop}(I:Inv X ad σ H s)(hN:X.N.Nodup)(hi:X.N[i]?=aa x)(hx:nH X.env.scope x)(r:RelV v u)
  (h:∀ s',Inv X ad (σ.set i (aa v)) H s'->(∃ a,nE a s.heap s'.heap/\(a=X.env.locals\/X.env.cells.lookup x=aa a))->Q () s') (hf:X.fn x=ae\/X.env.scope.names.lookup x=aa .local:=by first|exact .inl rfl|exact .inr rfl|assumption):aJ M A (storeName X.env x u) Q E s:=by
 obtain⟨m,hn,hl⟩:=id I.loc;have Ix:(X.env.scope.kind==.class||(X.env.scope.kind==.module&&X.env.locals != X.env.globals))=af:=by rw[I.ok.kind];rfl
 have yo:i<σ.length:=by rw[I.len];exact(dF.mp hi).1
 have cne:=I.cne;have pc:∀ {a:aD} {h':aY},(∃ o,s.heap.get? a=aa o/\H a=ab)->nE a s.heap h'->HOk X.prog X.w H h':=fun {a h'} ha hs b ob e=>by
  obtain⟨_,_,mi⟩:=ha;refine(I.hok b ob e).stay (fun c w' hc q=>(hs.2 c ?_).trans q) (fun _ q=>q) fun _ _ q=>q
  rintro rfl;rcases hc with rfl|hc
  ·rw[mi] at e;cases e
  ·rw[mi] at hc;cases hc
 rcases hx with hk|hk
 ·refine wpAny_storeName_local hk hn (fun h' hn' hs=>?_) Ix
  obtain⟨oL,_,_,q9,_⟩:=id hn;refine h _ ⟨I.ok,I.os,I.bare,⟨fun b o e n hb hx=>?_,fun b o e n hb hx=>?_,I.base.free,fun b o e hx=>?_,I.base.tups,I.base.frzs,I.base.tbls⟩,⟨_,hn',fun j y v' e1 e2 e3=>?_⟩,fun y c e=>?_,I.free,I.freeC,fun p hp=>?_,pc ⟨oL,q9,I.free⟩ hs,by simpa using I.len⟩ ⟨_,hs,.inl rfl⟩
  ·exact(hs.2 b (dI (iK (cA e) I.ok.above))).trans (I.base.keep b o e n hb hx)
  ·obtain⟨sl,e1⟩:=I.base.slot b o e n hb hx;exact⟨sl,(hs.2 b (dI (iK (cA e) I.ok.above))).trans e1⟩
  ·obtain⟨o',e1⟩:=I.base.there b o e hx;exact⟨o',(hs.2 b (dI (iK (cA e) I.ok.above))).trans e1⟩
  ·by_cases hj:j=i
   ·subst hj;rw[hi] at e1;cases e1;rw[rE yo] at e2;cases e2;exact⟨u,r,.inl ⟨hk,by simp⟩⟩
   ·rw[pK (kR hj)] at e2;obtain⟨u',r',q⟩:=hl j y v' e1 e2 e3;refine⟨u',r',?_⟩;rcases q with⟨k,e⟩|⟨k,c,e,z⟩
    ·refine .inl ⟨k,?_⟩;have:y≠x:=fun e=>hj (UM hN e1 (e ▸ hi))
     simp[this,e]
    ·exact .inr ⟨k,c,e,z.sameBut hs (cne y c e)⟩
  ·obtain⟨w',z⟩:=I.cell y c e;exact⟨w',z.sameBut hs (cne y c e)⟩
  ·obtain⟨e,n,ne,nf,d⟩:=I.pin p hp;exact⟨(hs.2 p.1 ne).trans e,n,ne,nf,d⟩
 ·have IN:X.fn x=ae:=by
   rcases hf with z|z
   ·exact z
   ·rw[z] at hk;cases hk
  obtain⟨c,hc⟩:=I.ok.has x (.inl hk);obtain⟨w',z⟩:=I.cell x c hc;refine wpAny_storeName_cell I.ok.kind hk hc z (fun h' j3 hs=>?_)
  obtain⟨oc,U6,IO⟩:=id z;refine h { s with heap:=h' } ⟨I.ok,I.os,I.bare,⟨fun b o e n hb hx=>?_,fun b o e n hb hx=>?_,I.base.free,fun b o e hx=>?_,I.base.tups,I.base.frzs,I.base.tbls⟩,⟨m,hn.sameBut hs (kR (cne x c hc)),fun j y v' e1 e2 e3=>?_⟩,fun y c' e=>?_,I.free,I.freeC,fun p hp=>?_,pc ⟨oc,U6,I.freeC x c hc⟩ hs,by simpa using I.len⟩ ⟨c,hs,.inr hc⟩
  ·exact(hs.2 b (dI (iK (cA e) (I.ok.cab x c IN hc)))).trans (I.base.keep b o e n hb hx)
  ·obtain⟨sl,e1⟩:=I.base.slot b o e n hb hx;exact⟨sl,(hs.2 b (dI (iK (cA e) (I.ok.cab x c IN hc)))).trans e1⟩
  ·obtain⟨o',e1⟩:=I.base.there b o e hx;exact⟨o',(hs.2 b (dI (iK (cA e) (I.ok.cab x c IN hc)))).trans e1⟩
  ·by_cases hj:j=i
   ·subst hj;rw[hi] at e1;cases e1;rw[rE yo] at e2;cases e2;exact⟨u,r,.inr ⟨.inl hk,c,hc,j3⟩⟩
   ·rw[pK (kR hj)] at e2;obtain⟨u',r',q⟩:=hl j y v' e1 e2 e3;refine⟨u',r',?_⟩;rcases q with q|⟨k,c',e,z'⟩
    ·exact .inl q
    ·refine .inr ⟨k,c',e,z'.sameBut hs ?_⟩;rintro rfl;exact hj (UM hN e1 (I.ok.inj _ _ _ e hc ▸ hi))
  ·by_cases U7:c'=c
   ·subst U7;exact⟨_,j3⟩
   ·obtain⟨w2,z2⟩:=I.cell y c' e;exact⟨w2,z2.sameBut hs U7⟩
  ·obtain⟨e,n,ne,nf,d⟩:=I.pin p hp;refine⟨(hs.2 p.1 ?_).trans e,n,ne,nf,d⟩;intro q;rw[q,U6] at e;have q':oc=p.2:=gY e;exact d w' (by rw[← q'];exact IO)
theorem TQ{v:V}{Q:Unit->aH->Prop}(I:Inv X ad σ H s)(hN:X.N.Nodup)(hi:X.N[i]?=aa x)(hx:nH X.env.scope x)(r:RelV v u)
  (h:∀ s',Inv X ad (σ.set i (aa v)) H s'->Q () s') (hf:X.fn x=ae\/X.env.scope.names.lookup x=aa .local:=by first|exact .inl rfl|exact .inr rfl|assumption):aJ M A (storeName X.env x u) Q E s:=
 VY I hN hi hx r (fun s' I' _=>h s' I') hf
theorem Inv.call'(I:Inv X ad σ H s)(ho:s'.os=s.os)(u:Un (qz X.stack) ch H H' s.heap s'.heap)(hok:HOk X.prog X.w H' s'.heap)(hg:sV s'.gens)
  (tt:∀ b∈ch,(b∈X.ex\/X.s₀.heap.objs.size≤b)/\b≠X.env.locals/\(∀ x c,X.env.cells.lookup x=aa c->c≠b)/\∀ p∈X.pn++ad,p.1≠b):Inv X ad σ H' s':=by
 obtain⟨h',g',d',t',o'⟩:=s';have e:o'=s.os:=ho;subst e;exact I.call (g':=g') (t':=t') (d':=d') u hok hg tt
end
abbrev XK:=aC->Option aD->Hp->Prop
abbrev St:=List (Option V)
abbrev VK:=V->Hp->Prop
abbrev TE:=St->Hp->VK->Prop
abbrev TT:=St->Hp->(Bool->Hp->Prop)->Prop
abbrev TA:=St->Hp->(List V->Hp->Prop)->Prop
structure Ends where
 nx:St->Hp->Prop
 rt:VK
 bk:St->Hp->Prop:=fun _ _=>False
 ct:St->Hp->Prop:=fun _ _=>False
abbrev TS:=Ends->St->Hp->Prop
def EP (X:Cx)(ad:List (aD×bI))(σ:St)(Q:VK)(u:aC)(s':aH):Prop:=∃ v H',Inv X ad σ H' s'/\RelV v u/\Q v H'
def TP (X:Cx)(ad:List (aD×bI))(σ:St)(Q:Bool->Hp->Prop)(b:Bool)(s':aH):Prop:=∃ H',Inv X ad σ H' s'/\Q b H'
def AP (X:Cx)(ad:List (aD×bI))(σ:St)(Q:List V->Hp->Prop)(us:List aC)(s':aH):Prop:=∃ vs H',Inv X ad σ H' s'/\Vals vs us/\Q vs H'
def SP (X:Cx)(ad:List (aD×bI))(D:Ends)(f:Flow)(s':aH):Prop:=
 match f with
 |.next=>∃ σ' H',Inv X ad σ' H' s'/\D.nx σ' H'
 |.brk=>∃ σ' H',Inv X ad σ' H' s'/\D.bk σ' H'
 |.cont=>∃ σ' H',Inv X ad σ' H' s'/\D.ct σ' H'
 |.ret u=>∃ v σ' H',Inv X ad σ' H' s'/\RelV v u/\D.rt v H'
def PE (X:Cx)(e:bF)(t:TE):Prop:=
 ∀ (ad:List (aD×bI)) (s:aH) (σ:St) (H:Hp) (Q:VK),Inv X ad σ H s->t σ H Q->aJ (aP X.prog X.w) X.A (cD e X.env) (EP X ad σ Q) X.xe s
def PT (X:Cx)(e:bF)(t:TT):Prop:=
 ∀ (ad:List (aD×bI)) (s:aH) (σ:St) (H:Hp) (Q:Bool->Hp->Prop),Inv X ad σ H s->t σ H Q->aJ (aP X.prog X.w) X.A (isTrue e X.env (cD e X.env)) (TP X ad σ Q) X.xe s
def PW (X:Cx)(e:bF)(t:TT):Prop:=
 ∀ (je:fS aC) (ad:List (aD×bI)) (s:aH) (σ:St) (H:Hp) (Q:Bool->Hp->Prop),Inv X ad σ H s->t σ H Q->aJ (aP X.prog X.w) X.A (isTrue e X.env je) (TP X ad σ Q) X.xe s
theorem PW.pt {X:Cx}{t:TT}(h:PW X e t):PT X e t:=h _
def PA (X:Cx)(es:List bF)(t:TA):Prop:=
 ∀ (pos:cV) (ad:List (aD×bI)) (s:aH) (σ:St) (H:Hp) (Q:List V->Hp->Prop),Inv X ad σ H s->t σ H Q->aJ (aP X.prog X.w) X.A (spliced (iI pos (bY es X.env))) (AP X ad σ Q) X.xe s
def PS (X:Cx)(st:cR)(t:TS):Prop:=
 ∀ (ad:List (aD×bI)) (s:aH) (σ:St) (H:Hp) (D:Ends),Inv X ad σ H s->t D σ H->aJ (aP X.prog X.w) X.A (exec st X.env) (SP X ad D) X.xe s
def PSs (X:Cx)(st:List cR)(t:TS):Prop:=
 ∀ (ad:List (aD×bI)) (s:aH) (σ:St) (H:Hp) (D:Ends),Inv X ad σ H s->t D σ H->aJ (aP X.prog X.w) X.A (execs st X.env) (SP X ad D) X.xe s
theorem bp {α:Type}{t:fS α}{Q Q':α->aH->Prop}(h:aJ M A t Q E s)(hQ:∀ a s,Q a s->Q' a s):aJ M A t Q' E s:=lZ h hQ fun _ _ x=>x
section
variable {X:Cx}
abbrev Fd (i:Nat):TE:=fun σ H Q=>∃ v,σ[i]?=aa (aa v)/\Q v H
abbrev tC (v:V):TE:=fun _ H Q=>Q v H
theorem rT(hN:X.N[i]?=aa x)(hv:pP X.env.scope x)(hd:(x==("__debug__" : aE))=af:=by decide)(jx:(x==("__classdict__" : aE))=af:=by decide):PE X (.Name x pos) (Fd i):=by
 rw[6];obtain⟨v,e,h⟩:=h;obtain⟨m,hn,hl⟩:=I.loc;obtain⟨u,r,l⟩:=hl i x v hN e hv;have fin:EP X ad σ Q u s:=⟨v,H,I,r,h⟩;rcases l with⟨hk,hm⟩|⟨hk,c,hc,pd⟩
 ·exact wpAny_Name (wpAny_loadName_local I.ok.kind hk hn hm fin) hd
 ·rcases hk with hk|hk
  ·exact wpAny_Name (wpAny_loadName_cell I.ok.kind hk hc pd fin) hd
  ·exact wpAny_Name (wpAny_loadName_free I.ok.kind hk hc pd fin jx) hd
theorem Jz {i j pos}:PE X (.Constant (.int i) j pos) (tC (.int i)):=fun _ _ _ H _ I h=>wpAny_Constant_int ⟨.int i,H,I.tok _,⟨_,rfl⟩,h⟩
theorem Hx {b j pos}:PE X (.Constant (.bool b) j pos) (tC (.bl b)):=fun _ _ _ H _ I h=>Constant_bool ⟨.bl b,H,I,rfl,h⟩
theorem Am {j pos}:PE X (.Constant .none j pos) (tC .non):=fun _ _ _ H _ I h=>Constant_none ⟨.non,H,I,rfl,h⟩
theorem Jy {x j pos}:PE X (.Constant (.str x) j pos) (tC (.str x)):=fun _ _ _ H _ I h=>Calls.Constant_str ⟨.str x,H,I.tok _,⟨_,rfl⟩,h⟩
def Gl (X:Cx)(x:aE):Prop:=X.env.kindOf x=aa .globalImplicit
theorem SU{σ:St}{H:Hp}(I:Inv X ad σ H s)(hg:Gl X x)(hm:X.mg x=aa u)(h:Q u s)
  (hd:(x==("__debug__" : aE))=af:=by decide):aJ (aP X.prog X.w) X.A (cD (.Name x pos) X.env) Q E s:=
 Calls.Name_function_global I.ok.kind hg (Calls.loadGlobal_global (by rw[I.ok.glob];exact I.mod.glob.keeps I.bk) hm h) hd
theorem rS{σ:St}{H:Hp}(I:Inv X ad σ H s)(hg:Gl X x)(hm:X.mg x=ab)(hv:qE x=aa u)(h:Q u s)
  (hn:x ≠ "__name__":=by decide) (hd:(x==("__debug__" : aE))=af:=by decide):aJ (aP X.prog X.w) X.A (cD (.Name x pos) X.env) Q E s:=by
 obtain⟨mb,h1,h2⟩:=I.mod.blt;exact Calls.Name_function_global I.ok.kind hg (Calls.loadGlobal_builtin (by rw[I.ok.glob];exact I.mod.glob.keeps I.bk) hm (by rw[I.ok.blt];exact h1.keeps I.bk) ((h2 x hn).trans hv) h) hd
theorem Lv{v:V}(hg:Gl X x)(hm:X.mg x=aa u)(r:RelV v u)(hd:(x==("__debug__" : aE))=af:=by decide):PE X (.Name x pos) (tC v):=
 fun _ _ _ H _ I h=>SU I hg hm ⟨v,H,I,r,h⟩ hd
theorem Ms{v:V}(hg:Gl X x)(hm:X.mg x=ab)(hv:qE x=aa u)(r:RelV v u)(hn:x ≠ "__name__":=by decide)(hd:(x==("__debug__" : aE))=af:=by decide):PE X (.Name x pos) (tC v):=
 fun _ _ _ H _ I h=>rS I hg hm hv ⟨v,H,I,r,h⟩ hn hd
variable {a b:bF}{ta tb:TE}
def tB (t:TE):TT:=fun σ H Q=>t σ H fun x H1=>∃ c,x=.bl c/\Q c H1
theorem Jc{t:TE}(h:PE X e t)(he:∀ je,isTrue e X.env je=(do let v ← je;standAt e.pos;pF [v] (truthy v)):=by intro _;rfl):PT X e (tB t):=by
 intro ad s σ H Q I hw;refine isTrue_plain (bp (h ad s σ H _ I hw) fun v s1 ⟨x,H1,I1,r1,q1⟩=>?_) (he _)
 obtain⟨d,rfl,q⟩:=q1;cases r1;exact Cg ⟨H1,I1,q⟩
variable {tA tB':TT}{rest:List bF}
def Fk (t u:TT):TT:=fun σ H Q=>t σ H fun c H1=>if c=ae then u σ H1 Q else Q af H1
def tOr (t u:TT):TT:=fun σ H Q=>t σ H fun c H1=>if c=ae then Q ae H1 else u σ H1 Q
theorem Mf (ha:PT X a tA):PW X (.BoolOp .And [a] pos) tA:=by
 intro wh ad s σ H Q I h;refine isTrue_and (bp (ha ad s σ H Q I h) fun c s1 e=>?_)
 cases c with
 |true=>exact isTrue_and_nil e
 |false=>exact e
theorem Kb (ha:PT X a tA):PW X (.BoolOp .Or [a] pos) tA:=by
 intro wh ad s σ H Q I h;refine isTrue_or (bp (ha ad s σ H Q I h) fun c s1 e=>?_)
 cases c with
 |false=>exact isTrue_or_nil e
 |true=>exact e
theorem Io (ha:PT X a tA)(hb:PW X (.BoolOp .And (b::rest) pos) tB'):PW X (.BoolOp .And (a::b::rest) pos) (Fk tA tB'):=by
 intro wh ad s σ H Q I h;refine isTrue_and (bp (ha ad s σ H _ I h) fun c s1 gh=>?_)
 obtain⟨H1,I1,q1⟩:=gh;cases c with
 |true=>exact hb wh ad s1 σ H1 Q I1 q1
 |false=>exact⟨H1,I1,q1⟩
theorem Gv (ha:PT X a tA)(hb:PW X (.BoolOp .Or (b::rest) pos) tB'):PW X (.BoolOp .Or (a::b::rest) pos) (tOr tA tB'):=by
 intro wh ad s σ H Q I h;refine isTrue_or (bp (ha ad s σ H _ I h) fun c s1 gh=>?_)
 obtain⟨H1,I1,q1⟩:=gh;cases c with
 |true=>exact⟨H1,I1,q1⟩
 |false=>exact hb wh ad s1 σ H1 Q I1 q1
def Gq (ta tb:TE):TE:=fun σ H Q=>ta σ H fun x H1=>∃ c,x=.bl c/\if c=ae then tb σ H1 Q else Q (.bl af) H1
theorem Hj {op}{t:TE}(h:PE X a t):PE X (.BoolOp op [a] pos) t:=fun ad s σ H Q I hw=>BoolOp_one (h ad s σ H Q I hw)
theorem Jp (ha:PE X a ta)(hb:PE X (.BoolOp .And (b::rest) pos) tb):PE X (.BoolOp .And (a::b::rest) pos) (Gq ta tb):=by
 rw[6];refine BoolOp_and (bp (ha ad s σ H _ I h) fun v s1 gh=>?_)
 obtain⟨x,H1,I1,r1,q1⟩:=gh;obtain⟨c,rfl,q1⟩:=q1;cases r1;refine Cg ?_;cases c with
 |true=>exact hb ad s1 σ H1 Q I1 q1
 |false=>exact⟨.bl af,H1,I1,rfl,q1⟩
def tIf (t:TT)(ta tb:TE):TE:=fun σ H Q=>t σ H fun c H1=>if c=ae then ta σ H1 Q else tb σ H1 Q
theorem Ve(hc:PT X c tA)(ha:PE X a ta)(hb:PE X b tb):PE X (.IfExp c a b pos) (tIf tA ta tb):=by
 rw[6];refine wpAny_IfExp (bp (hc ad s σ H _ I h) fun d s1 gh=>?_)
 obtain⟨H1,I1,q1⟩:=gh;cases d with
 |true=>exact ha ad s1 σ H1 Q I1 q1
 |false=>exact hb ad s1 σ H1 Q I1 q1
end
def SqL (K:aM)(H:Hp)(a:aD)(xs:List V):Prop:=
 Rd H a (.lst xs) \/
  ∃ (o:bI) (its:Array aC) (n:Nat),K.lookup a=aa o/\o.cls=.type "list" /\ o.dict=ab/\o.data=.seq its n/\its.size≤sizeLine/\Vals xs its.toList
def SqT (K:aM)(H:Hp)(a:aD)(xs:List V):Prop:=
 Rd H a (.tup xs) \/
  ∃ (o:bI) (its:Array aC) (n:Nat),K.lookup a=aa o/\o.cls=.type "tuple" /\ o.data=.seq its n/\its.size≤sizeLine/\Vals xs its.toList
def Fe:aC->Option V
 |.none=>aa .non
 |.bool b=>aa (.bl b)
 |.int i _=>aa (.int i)
 |.str x _=>aa (.str x)
 |.bytes b _=>aa (.byt b)
 |.float b _=>aa (.flt b)
 |.ref a=>aa (.ref a)
 |.type n=>aa (.ty n)
 |_=>ab
theorem RelV.abs {x:V}(r:RelV x u):Fe u=aa x:=by
 cases x with
 |non=>cases r;rfl
 |bl _=>cases r;rfl
 |int _=>obtain⟨t,rfl⟩:=r;rfl
 |str _=>obtain⟨t,rfl⟩:=r;rfl
 |byt _=>obtain⟨t,rfl⟩:=r;rfl
 |flt _=>obtain⟨t,rfl⟩:=r;rfl
 |ref _=>cases r;rfl
 |ty _=>cases r;rfl
theorem RelV.inj {x y:V}(r:RelV x u)(q:RelV y u):x=y:=gY (r.abs.symm.trans q.abs)
theorem Vals.inj:∀ {xs ys:List V} {us:List aC},Vals xs us->Vals ys us->xs=ys:=by
 intro xs ys us h;induction h generalizing ys with
 |nil=>intro h;cases h;rfl
 |cons r _ ih=>
  intro h;cases h with
  |cons r' t'=>rw[r.inj r',ih t']
section
variable {X:Cx}{σ:St}{H:Hp}{xs ys:List V}
theorem SqL.of(h:H a=aa (.lst xs)):SqL K H a xs:=.inl (.inl h)
theorem SqT.of(h:H a=aa (.tup xs)):SqT K H a xs:=.inl (.inl h)
theorem Inv.list (I:Inv X ad σ H s)(h:SqL X.K H a xs):∃ its:List aC,Vals xs its/\PlainL s.heap a its.toArray/\xs.length≤sizeLine:=by
 rcases h with h|⟨o,its,n,hk,hc,hd,hs,hz,r⟩
 ·obtain⟨z,its,n,r,e⟩:=h.ok I.hok;exact⟨its,r,⟨_,n,e,rfl,rfl,rfl⟩,z⟩
 ·refine⟨its.toList,r,⟨o,n,I.kIn a o hk,hc,hd,by simpa using hs⟩,?_⟩
  have e:=r.length;simp only[jU] at e;omega
theorem Inv.tuple (I:Inv X ad σ H s)(h:SqT X.K H a xs):∃ its:List aC,Vals xs its/\IsTup s.heap a its.toArray/\xs.length≤sizeLine:=by
 rcases h with h|⟨o,its,n,hk,hc,hs,hz,r⟩
 ·obtain⟨z,its,r,p⟩:=h.ok I.hok;exact⟨its,r,p.1,z⟩
 ·refine⟨its.toList,r,⟨o,I.kIn a o hk,hc,n,by simpa using hs⟩,?_⟩
  have e:=r.length;simp only[jU] at e;omega
theorem Inv.list_inj (I:Inv X ad σ H s)(h:SqL X.K H a xs)(h':SqL X.K H a ys):xs=ys:=by
 obtain⟨its,r,⟨o,n,e,_,_,d⟩,_⟩:=I.list h;obtain⟨its',r',⟨o',n',e',_,_,d'⟩,_⟩:=I.list h';rw[e] at e';cases e';rw[d] at d';injection d' with d1 _;have:its=its':=by simpa using congrArg Array.toList d1
 rw[10];exact r.inj r'
theorem Inv.tuple_inj (I:Inv X ad σ H s)(h:SqT X.K H a xs)(h':SqT X.K H a ys):xs=ys:=by
 obtain⟨its,r,⟨o,e,_,n,d⟩,_⟩:=I.tuple h;obtain⟨its',r',⟨o',e',_,n',d'⟩,_⟩:=I.tuple h';rw[e] at e';cases e';rw[d] at d';injection d' with d1 _;have:its=its':=by simpa using congrArg Array.toList d1
 rw[10];exact r.inj r'
end
abbrev Cx.wish (X:Cx)(E:aC->aH->Prop):Cx:={ X with xe:=E }
abbrev Cx.nox (X:Cx):Cx:=X.wish fun _ _=>False
theorem Cx.Ok.wish {X:Cx}(ok:X.Ok)(E:aC->aH->Prop):(X.wish E).Ok:=
 ⟨ok.mod,ok.kind,ok.glob,ok.blt,ok.above,ok.inj,ok.has,ok.cab,ok.hd,ok.frames,ok.stk,ok.exf,ok.bs,ok.bsz,ok.noex,ok.exfs,ok.funs,ok.frf⟩
theorem Cx.Ok.unwish {X:Cx}(ok:(X.wish E).Ok):X.Ok:=
 ⟨ok.mod,ok.kind,ok.glob,ok.blt,ok.above,ok.inj,ok.has,ok.cab,ok.hd,ok.frames,ok.stk,ok.exf,ok.bs,ok.bsz,ok.noex,ok.exfs,ok.funs,ok.frf⟩
section
variable {X:Cx}{σ:St}{H:Hp}
theorem Inv.wish (I:Inv X ad σ H s)(E:aC->aH->Prop):Inv (X.wish E) ad σ H s:=⟨I.ok.wish E,I.os,I.bare,I.base,I.loc,I.cell,I.free,I.freeC,I.pin,I.hok,I.len⟩
theorem Inv.unwish (I:Inv (X.wish E) ad σ H s):Inv X ad σ H s:=⟨I.ok.unwish,I.os,I.bare,I.base,I.loc,I.cell,I.free,I.freeC,I.pin,I.hok,I.len⟩
theorem SP.unwish {D:Ends}{f:Flow}(h:SP (X.wish E) ad D f s'):SP X ad D f s':=by
 cases f with
 |next=>obtain⟨σ',H',I,q⟩:=h;exact⟨σ',H',I.unwish,q⟩
 |brk=>obtain⟨σ',H',I,q⟩:=h;exact⟨σ',H',I.unwish,q⟩
 |cont=>obtain⟨σ',H',I,q⟩:=h;exact⟨σ',H',I.unwish,q⟩
 |ret u=>obtain⟨v,σ',H',I,r,q⟩:=h;exact⟨v,σ',H',I.unwish,r,q⟩
theorem PSs.nox {st:List cR}{t:TS}(h:PSs X.nox st t):PSs X st t:=fun ad s σ H D I hw=>
 lZ (h ad s σ H D (I.wish _) hw) (fun _ _ q=>q.unwish) fun _ _ z=>rG z
end
section
variable {X:Cx}{st:cR}{rest:List cR}{t u:TS}{te:TE}
def Fu:TS:=fun D σ H=>D.nx σ H
def Ff (t u:TS):TS:=fun D σ H=>t { D with nx:=u D } σ H
theorem Tz:PSs X [] Fu:=fun _ _ σ H _ I h=>wpAny_execs_nil ⟨σ,H,I,h⟩
theorem Wv (h1:PS X st t)(h2:PSs X rest u):PSs X (st::rest) (Ff t u):=by
 intro ad s σ H D I h;refine wpAny_execs_cons (bp (h1 ad s σ H { D with nx:=u D } I h) fun f s1 q=>?_)
 cases f with
 |next=>
  obtain⟨σ',H',I',q⟩:=q;exact h2 ad s1 σ' H' D I' q
 |ret v=>exact q
 |brk=>exact q
 |cont=>exact q
theorem Mz (h1:PS X st t):PSs X [st] t:=by
 intro ad s σ H D I h;refine wpAny_execs_cons (bp (h1 ad s σ H D I h) fun f s1 q=>?_)
 cases f with
 |next=>exact wpAny_execs_nil q
 |ret v=>exact q
 |brk=>exact q
 |cont=>exact q
theorem Inv.quiet{σ:St}{H:Hp}(I:Inv X ad σ H s):interactive X.env=af:=by simp[interactive,I.ok.kind]
def Gw (te:TE):TS:=fun D σ H=>te σ H fun _ H1=>D.nx σ H1
theorem JO (he:PE X e te)(hs:pE e ab pos.line X.env=pure af:=by rfl):PS X (.Expr e pos) (Gw te):=by
 intro ad s σ H D I h;exact wpAny_Expr_any (bp (he ad s σ H _ I h) fun v s1 ⟨x,H1,I1,r1,q1⟩=>⟨σ,H1,I1,q1⟩) I.quiet hs
def Ft (te:TE):TS:=fun D σ H=>te σ H D.rt
theorem Ab (he:PE X e te):PS X (.Return (aa e) pos) (Ft te):=by
 intro ad s σ H D I h;exact wpAny_Return_some (bp (he ad s σ H _ I h) fun v s1 ⟨x,H1,I1,r1,q1⟩=>⟨x,σ,H1,I1,r1,q1⟩)
def Fj (c:TT)(t u:TS):TS:=fun D σ H=>c σ H fun b H1=>if b=ae then t D σ H1 else u D σ H1
theorem Fy{a b:List cR}{tc:TT}(hc:PT X c tc)(ha:PSs X a t)(hb:PSs X b u):PS X (.If c a b pos) (Fj tc t u):=by
 intro ad s σ H D I h;refine wpAny_If (bp (hc ad s σ H _ I h) fun d s1 gh=>?_)
 obtain⟨H1,I1,q1⟩:=gh;cases d with
 |true=>exact ha ad s1 σ H1 D I1 q1
 |false=>exact hb ad s1 σ H1 D I1 q1
end
abbrev TG:=V->St->Hp->(St->Hp->Prop)->Prop
abbrev xo:=List V->St->Hp->(St->Hp->Prop)->Prop
def PG (X:Cx)(jh:bF)(t:TG):Prop:=
 ∀ (ad:List (aD×bI)) (s:aH) (σ:St) (H:Hp) (v:V) (u:aC) (Q:St->Hp->Prop),Inv X ad σ H s->RelV v u->t v σ H Q ->
  aJ (aP X.prog X.w) X.A (mC jh X.env u) (fun _ s'=>∃ σ' H',Inv X ad σ' H' s'/\Q σ' H') X.xe s
def G4 (X:Cx)(ts:List bF)(t:xo):Prop:=
 ∀ (ad:List (aD×bI)) (s:aH) (σ:St) (H:Hp) (vs:List V) (us:List aC) (Q:St->Hp->Prop),Inv X ad σ H s->Vals vs us->t vs σ H Q ->
  aJ (aP X.prog X.w) X.A (assignInOrder ((mW ts X.env).map (·.2)) us) (fun _ s'=>∃ σ' H',Inv X ad σ' H' s'/\Q σ' H') X.xe s
abbrev IT:=V->V->V->Hp->(Hp->Prop)->Prop
def QN (X:Cx)(t:IT):Prop:=
 ∀ (ad:List (aD×bI)) (s:aH) (σ:St) (H:Hp) (o i v:V) (ov iv u:aC) (Q:Hp->Prop),Inv X ad σ H s->RelV o ov->RelV i iv->RelV v u->t o i v H Q ->
  aJ (aP X.prog X.w) X.A (setItem ov iv u) (fun _ s'=>∃ H',Inv X ad σ H' s'/\Q H') X.xe s
section
variable {X:Cx}
def GT (i:Nat):TG:=fun v σ H Q=>Q (σ.set i (aa v)) H
theorem EN(hN:X.N.Nodup)(hi:X.N[i]?=aa x)(hx:nH X.env.scope x)(hf:X.fn x=ae\/X.env.scope.names.lookup x=aa .local:=by first|exact .inl rfl|exact .inr rfl|assumption):PG X (.Name x pos) (GT i):=by
 intro ad s σ H v u Q I r h;exact wpAny_assign_Name (TQ I hN hi hx r (fun s' I'=>⟨_,H,I',h⟩) hf)
def Fo:xo:=fun vs σ H Q=>vs=[]/\Q σ H
def Gb (t:TG)(u:xo):xo:=fun vs σ H Q=>∃ v r,vs=v::r/\t v σ H fun σ' H'=>u r σ' H' Q
theorem Uk:G4 X [] Fo:=by
 intro ad s σ H vs us Q I r h;obtain⟨e,h⟩:=h;subst e;cases r;exact assignInOrder_nil ⟨σ,H,I,h⟩
theorem TV{t:TG}{u:xo}(h1:PG X e t)(h2:G4 X es u)
  (hs:(mW (e::es) X.env).map (·.2)=mC e X.env::(mW es X.env).map (·.2):=by rfl):G4 X (e::es) (Gb t u):=by
 intro ad s σ H vs us Q I r h;obtain⟨v,vr,e1,h⟩:=h;subst e1;cases r with
 |cons r rr=>
  rw[hs];refine assignInOrder_cons (bp (h1 ad s σ H _ _ _ I r h) fun _ s1 gh=>?_)
  obtain⟨σ1,H1,I1,q1⟩:=gh;exact h2 ad s1 σ1 H1 _ _ Q I1 rr q1
def Es (K:aM)(n:Nat)(t:xo):TG:=fun v σ H Q=>∃ a xs,v=.ref a/\SqT K H a xs/\xs.length=n/\t xs σ H Q
theorem Ik{t:xo}{n:Nat}(hc:X.calm=ae)(h:G4 X es t)
  (hn:(mW es X.env).length=n:=by rfl) (mj:(mW es X.env).findIdx? (·.1)=ab:=by rfl):PG X (.Tuple es k pos) (Es X.K n t):=by
 intro ad s σ H v u Q I r hw;obtain⟨a,xs,e1,hq,hl,hw⟩:=hw;subst e1;cases r;obtain⟨its,rv,ht,hz⟩:=I.tuple hq;refine assign_Tuple_tuple (I.ok.hd hc) ht (by simp[hn,← hl,rv.length]) mj fun h' hx=>?_
 have I1:Inv X ad σ H { s with heap:=h' }:=I.kept (t':=s.toks) fun b o e=>hx b o (dI (cA e)) e
 exact h ad _ σ H xs _ Q I1 (by simpa using rv) hw
def Eo (to ti:TE)(t:IT):TG:=fun v σ H Q=>to σ H fun o H1=>ti σ H1 fun i H2=>t o i v H2 fun H3=>Q σ H3
theorem Kh {o i:bF}{to ti:TE}{t:IT}(ho:PE X o to)(hi:PE X i ti)(hs:QN X t)
  (ha:∀ v,mC (.Subscript o i pos) X.env v=(do
   let ov ← pF [v] (cD o X.env)
   let iv ← pF [v,ov] (cD i X.env)
   standAt pos
   pF [v,ov,iv] (setItem ov iv v)
   release [v,ov,iv] []):=by intro _;rfl):PG X (.Subscript o i pos) (Eo to ti t):=by
 intro ad s σ H v u Q I r h;rw[ha];refine aF (jE (bp (ho ad s σ H _ I h) fun ov s1 gh=>?_))
 obtain⟨x,H1,I1,r1,q1⟩:=gh;refine aF (jE (bp (hi ad s1 σ H1 _ I1 q1) fun iv s2 gh=>?_))
 obtain⟨y,H2,I2,r2,q2⟩:=gh;refine aF (wpAny_standAt (aF (jE (bp (hs ad s2 σ H2 x y v ov iv u _ I2 r1 r2 r q2) fun _ s3 gh=>?_))))
 obtain⟨H3,I3,q3⟩:=gh;exact wpAny_release ⟨σ,H3,I3,q3⟩
def IU (te:TE)(g:TG):TS:=fun D σ H=>te σ H fun x H1=>g x σ H1 D.nx
theorem Ai{te:TE}{g:TG}(he:PE X e te)(hg:PG X tg g)(hs:swapsWithSole [tg] e pos.line X.env=pure af:=by rfl)(hw:swappedStores [tg] e X.env=pure ab:=by rfl)
  (h1:(mW [tg] X.env).map (·.2)=[mC tg X.env]:=by rfl):PS X (.Assign [tg] e pos) (IU te g):=by
 intro ad s σ H D I h;refine wpAny_Assign_stores (bp (he ad s σ H _ I h) fun v s1 ⟨x,H1,I1,r1,q1⟩=>?_) hs hw
 rw[h1];exact bp (hg ad s1 σ H1 x v _ I1 r1 q1) fun _ s2 q=>q
theorem Aq{te:TE}{mn:cV}(hN:X.N.Nodup)(hi:X.N[i]?=aa x)(hx:nH X.env.scope x)(he:PE X e te)(hs:pE e (aa (.Name x mn)) pos.line X.env=pure af:=by rfl)(hf:X.fn x=ae\/X.env.scope.names.lookup x=aa .local:=by first|exact .inl rfl|exact .inr rfl|assumption) :
  PS X (.Assign [.Name x mn] e pos) (IU te (GT i)):=by
 intro ad s σ H D I h;refine wpAny_Assign_Name (bp (he ad s σ H _ I h) fun v s1 ⟨y,H1,I1,r1,q1⟩=>?_) hs
 exact TQ I1 hN hi hx r1 (fun s2 I2=>⟨_,H1,I2,q1⟩) hf
end
structure It where
 go:Nat->Hp->Prop
 yld:Nat->Hp->V->Hp->Prop
 stop:Nat->Hp->Prop
def lJ (X:Cx)(ad:List (aD×bI))(H:Hp)(b:aD):Prop:=
 H b=ab/\b≠X.env.locals/\b∉X.fs/\(b∈X.ex\/X.s₀.heap.objs.size≤b)/\(∀ x c,X.env.cells.lookup x=aa c->c≠b)/\∀ p∈X.pn++ad,p.1≠b
theorem Inv.fpOk {X:Cx}{σ:St}{H H':Hp}(I:Inv X ad σ H s)(hb:s.heap.objs.size≤b)(hn:H' b=ab):lJ X ad H' b:=by
 refine⟨hn,kB (iK I.lt hb),I.nofs hb,.inr (iU I.sz hb),fun x c e z=>?_,fun p hp z=>?_⟩
 ·obtain⟨v,q⟩:=I.cell x c e;exact absurd (iK q.lt (by rw[z];exact hb)) (lE _)
 ·exact absurd (iK (cA (I.pin p hp).1) (by rw[z];exact hb)) (lE _)
structure Turn (P:bP)(w:bG)(K:aM)(tg:bF)(J:It)(fp:List aD)(it:aD)(tn:Nat->aY->Prop):Prop where
 mem:it∈fp
 obj:∀ i h,tn i h->∀ b∈fp,∃ o,h.get? b=aa o/\∀ v,o.data ≠ .cell v
 keep:∀ i h h',tn i h->(∀ b∈fp,∀ o,h.get? b=aa o->h'.get? b=aa o)->tn i h'
 item:∀ (X:Cx),X.prog=P->X.w=w->X.K=K->X.calm=ae->∀ (i:Nat) (ad:List (aD×bI)) (s:aH) (σ:St) (H:Hp) (E:aC->aH->Prop),Inv X ad σ H s->(∀ b∈fp,lJ X ad H b)->tn i s.heap->J.go i H ->
  aJ (aP P w) X.A (fZ (.ref it)) (fun r s1=>∃ u,r=aa u /\
   aJ (aP P w) X.A (NY tg (.ref it) u) (fun _ s2=>∃ x H',Inv X ad σ H' s2/\RelV x u/\J.yld i H x H'/\tn (i+1) s2.heap/\∀ b∈fp,H' b=ab) E s1) E s
 done:∀ (X:Cx),X.prog=P->X.w=w->X.K=K->X.calm=ae->∀ (i:Nat) (ad:List (aD×bI)) (s:aH) (σ:St) (H:Hp) (E:aC->aH->Prop),Inv X ad σ H s->(∀ b∈fp,lJ X ad H b)->tn i s.heap->J.stop i H ->
  aJ (aP P w) X.A (fZ (.ref it)) (fun r s1=>r=ab/\Inv X ad σ H s1) E s
 self:∀ (A:bZ) (i:Nat) (s:aH) (Q:aC->aH->Prop) (E:aC->aH->Prop),tn i s.heap->Q (.ref it) s->aJ (aP P w) A (oA (.ref it)) Q E s
abbrev TI:=St->Hp->(It->Hp->Prop)->Prop
def S9 (X:Cx)(ad:List (aD×bI))(σ:St)(tg:bF)(R:It->Hp->Prop)(EQ:aC)(s2:aH):Prop:=
 ∃ (it:aD) (fp:List aD) (tn:Nat->aY->Prop) (J:It) (H':Hp),EQ=.ref it/\Inv X ad σ H' s2/\Turn X.prog X.w X.K tg J fp it tn/\tn 0 s2.heap/\(∀ b∈fp,lJ X ad H' b)/\R J H'
def PI (X:Cx)(tg bh:bF)(wi:TI):Prop:=
 ∀ (ad:List (aD×bI)) (s:aH) (σ:St) (H:Hp) (R:It->Hp->Prop),Inv X ad σ H s->wi σ H R ->
  aJ (aP X.prog X.w) X.A (cD bh X.env) (fun v s1=>aJ (aP X.prog X.w) X.A (oA v) (S9 X ad σ tg R) X.xe s1) X.xe s
theorem yT{it:aD}{n:String}{vs:Array aC}{Q:Unit->aH->Prop}(ho:s.heap.get? it=aa o)(hc:o.cls=.type n)(hd:o.data=.fields vs)
    (hn:["enumerate","zip","dict_itemiterator","dict_reverseitemiterator","odict_iterator","itertools.zip_longest","itertools.pairwise"].contains n=af) (hQ:Q () s):aJ M A (NY tg (.ref it) u) Q E s:=by
  unfold NY;cases tg<;>first
    |exact aQ hQ
    | (cases u<;>first
        |exact aQ hQ
        | (refine aF (wpAny_load ho ?_)
           rw[hc,hd];show aJ M A (if (["enumerate","zip","dict_itemiterator","dict_reverseitemiterator","odict_iterator","itertools.zip_longest","itertools.pairwise"].contains n&&vs[0]?==aa (dE _))=ae then _ else _) Q E s
           rw[if_neg (by intro h;rw[hn,Bool.false_and] at h;cases h)]
           exact aQ hQ))
def IP (K:aM)(a:aD):It:=
 ⟨fun i H=>∃ xs x,SqL K H a xs/\xs[i]?=aa x,fun i H x H'=>H'=H/\∀ xs,SqL K H a xs->xs[i]?=aa x,fun i H=>∃ xs,SqL K H a xs/\xs.length≤i⟩
def IM (K:aM)(a:aD):It:=
 ⟨fun i H=>∃ xs x,SqT K H a xs/\xs[i]?=aa x,fun i H x H'=>H'=H/\∀ xs,SqT K H a xs->xs[i]?=aa x,fun i H=>∃ xs,SqT K H a xs/\xs.length≤i⟩
def DC (lo:Int)(n:Nat):It:=⟨fun i _=>i<n,fun i H x H'=>H'=H/\x=.int (lo+i),fun i _=>n≤i⟩
theorem Oh {P:bP}{w:bG}(a it:aD):Turn P w K tg (IP K a) [it] it (fun i h=>h.IsListIter it a i) where
 mem:=by simp
 obj:=fun i h st b hb=>by
  have e:b=it:=by simpa using hb
  subst e;obtain⟨o,e,c,d⟩:=st;exact⟨o,e,fun v z=>by rw[d] at z;cases z⟩
 keep:=fun i h h' st k=>st.at fun o e=>k it (by simp) o e
 item:=by
  rw[2];obtain⟨xs,x,hq,hx⟩:=hg;obtain⟨its,rv,p,hz⟩:=I.list hq;obtain⟨u,hu,ru⟩:=rv.get hx;obtain⟨f0,f1,f2,f3,f4,f5⟩:=hf it (by simp)
  refine wpAny_pyNext_list_item st p.isList (x:=u) (by simpa using hu) fun h' ak sb=>?_
  have I1:Inv X ad σ H { s with heap:=h' }:=I.turned (t':=s.toks) (fun b o hb e=>(sb.2 b hb).trans e) f0 f1 f3 f4 f5
  obtain⟨o,e,c,d⟩:=id ak;exact⟨u,rfl,yT (s:={ s with heap:=h' }) e c d (by decide) ⟨x,H,I1,ru,⟨rfl,fun ys hy=>by rw[I.list_inj hy hq];exact hx⟩,ak,fun b hb=>(hf b hb).1⟩⟩
 done:=by
  rw[2];obtain⟨xs,hq,hx⟩:=hg;obtain⟨its,rv,p,hz⟩:=I.list hq;obtain⟨f0,f1,f2,f3,f4,f5⟩:=hf it (by simp)
  have hl:=rv.length;exact wpAny_pyNext_list_end (I.ok.hd hc) st p.isList (by simp;omega) fun h' eb=>⟨rfl,I.turned (t':=s.toks) (fun b o hb e=>eb b o hb e) f0 f1 f3 f4 f5⟩
 self:=fun _ _ _ _ _ st h=>wpAny_pyIter_listiter st h
theorem Pl {P:bP}{w:bG}(a it:aD):Turn P w K tg (IM K a) [it] it (fun i h=>h.IsTupleIter it a i) where
 mem:=by simp
 obj:=fun i h st b hb=>by
  have e:b=it:=by simpa using hb
  subst e;obtain⟨o,e,c,d⟩:=st;exact⟨o,e,fun v z=>by rw[d] at z;cases z⟩
 keep:=fun i h h' st k=>st.at fun o e=>k it (by simp) o e
 item:=by
  rw[2];obtain⟨xs,x,hq,hx⟩:=hg;obtain⟨its,rv,p,hz⟩:=I.tuple hq;obtain⟨u,hu,ru⟩:=rv.get hx;obtain⟨f0,f1,f2,f3,f4,f5⟩:=hf it (by simp)
  refine wpAny_pyNext_tuple_item st (show s.heap.IsTuple a its.toArray from p) (x:=u) (by simpa using hu) fun h' ak sb=>?_
  have I1:Inv X ad σ H { s with heap:=h' }:=I.turned (t':=s.toks) (fun b o hb e=>(sb.2 b hb).trans e) f0 f1 f3 f4 f5
  obtain⟨o,e,c,d⟩:=id ak;exact⟨u,rfl,yT (s:={ s with heap:=h' }) e c d (by decide) ⟨x,H,I1,ru,⟨rfl,fun ys hy=>by rw[I.tuple_inj hy hq];exact hx⟩,ak,fun b hb=>(hf b hb).1⟩⟩
 done:=by
  rw[2];obtain⟨xs,hq,hx⟩:=hg;obtain⟨its,rv,p,hz⟩:=I.tuple hq;obtain⟨f0,f1,f2,f3,f4,f5⟩:=hf it (by simp)
  have hl:=rv.length;exact wpAny_pyNext_tuple_end (I.ok.hd hc) st (show s.heap.IsTuple a its.toArray from p) (by simp;omega) fun h' eb=>⟨rfl,I.turned (t':=s.toks) (fun b o hb e=>eb b o hb e) f0 f1 f3 f4 f5⟩
 self:=fun _ _ _ _ _ st h=>wpAny_pyIter_tupleiter st h
theorem Pt {P:bP}{w:bG}(it:aD)(lo:Int)(n:Nat):Turn P w K tg (DC lo n) [it] it (fun i h=>IsRangeIter h it (lo+(i:Nat)*1) ((n:Int)-(i:Nat)) 1) where
 mem:=by simp
 obj:=fun i h st b hb=>by
  have e:b=it:=by simpa using hb
  subst e;exact⟨_,st,fun v z=>by
   have z':Data.fields _=Data.cell v:=z;cases z'⟩
 keep:=fun i h h' st k=>k it (by simp) _ st
 item:=by
  rw[2];obtain⟨f0,f1,f2,f3,f4,f5⟩:=hf it (by simp)
  have W:=Walks.range (prog:=X.prog) (w:=X.w) (I.ok.hd hc) it lo 1 n;refine W.item i s _ _ hg st fun v h' tk hv ak kk=>?_
  obtain⟨t,rfl⟩:=hv;have I1:Inv X ad σ H { s with heap:=h',toks:=tk }:=I.turned (fun b o hb e=>kk b o (by simpa using hb) e) f0 f1 f3 f4 f5
  refine⟨_,rfl,yT (s:={ s with heap:=h',toks:=tk }) (n:="range_iterator") ak rfl rfl (by decide) ⟨.int (lo+i),H,I1,⟨t,?_⟩,⟨rfl,rfl⟩,ak,fun b hb=>(hf b hb).1⟩⟩
  rw[Int.mul_one]
 done:=by
  rw[2];obtain⟨f0,f1,f2,f3,f4,f5⟩:=hf it (by simp)
  exact wpAny_pyNext_range_end (I.ok.hd hc) st (by have:n≤i:=hg;omega) fun h' eb=>⟨rfl,I.turned (t':=s.toks) (fun b o hb e=>eb b o hb e) f0 f1 f3 f4 f5⟩
 self:=fun _ _ _ _ _ st h=>wpAny_pyIter_rangeiter st h
section
variable {X:Cx}
def Gh (K:aM)(tl:TE):TI:=fun σ H R=>tl σ H fun x H1=>∃ a,x=.ref a/\(∃ xs,SqL K H1 a xs)/\R (IP K a) H1
def Ey (K:aM)(tl:TE):TI:=fun σ H R=>tl σ H fun x H1=>∃ a,x=.ref a/\(∃ xs,SqT K H1 a xs)/\R (IM K a) H1
theorem Kv {l:bF}{tl:TE}(hl:PE X l tl):PI X tg l (Gh X.K tl):=by
 intro ad s σ H R I h;refine bp (hl ad s σ H _ I h) fun v s1 gh=>?_
 obtain⟨x,H1,I1,r1,q1⟩:=gh;obtain⟨a,e,⟨xs,hq⟩,q⟩:=q1;subst e;cases r1;obtain⟨its,rv,p,hz⟩:=I1.list hq;refine Cj p.isList ?_;refine⟨s1.heap.objs.size,[s1.heap.objs.size],_,_,H1,rfl,I1.kept (t':=s1.toks) fun b o e=>cH _ e,Oh a _,⟨_,eD _ rfl,rfl,rfl⟩,fun b hb=>?_,q⟩
 have e:b=s1.heap.objs.size:=by simpa using hb
 subst e;exact I1.fpOk (cE _) (I1.hok.fresh (cE _))
theorem Kg {l:bF}{tl:TE}(hl:PE X l tl):PI X tg l (Ey X.K tl):=by
 intro ad s σ H R I h;refine bp (hl ad s σ H _ I h) fun v s1 gh=>?_
 obtain⟨x,H1,I1,r1,q1⟩:=gh;obtain⟨a,e,⟨xs,hq⟩,q⟩:=q1;subst e;cases r1;obtain⟨its,rv,p,hz⟩:=I1.tuple hq;refine wpAny_pyIter_tuple (show s1.heap.IsTuple a its.toArray from p) ?_
 refine⟨s1.heap.objs.size,[s1.heap.objs.size],_,_,H1,rfl,I1.kept (t':=s1.toks) fun b o e=>cH _ e,Pl a _,⟨_,eD _ rfl,rfl,rfl⟩,fun b hb=>?_,q⟩
 have e:b=s1.heap.objs.size:=by simpa using hb
 subst e;exact I1.fpOk (cE _) (I1.hok.fresh (cE _))
theorem Wy{σ:St}{H:Hp}{R:It->Hp->Prop}{lo hi:Int}{t u v:Tok}{tk:Nat}(I:Inv X ad σ H s)(h1 : -(2^62)≤lo)(h2:lo<2^62)(h3 : -(2^62)≤hi)(h4:hi<2^62)
  (q:R (DC lo (hi-lo).toNat) H):aJ (aP X.prog X.w) X.A (oA (.ref s.heap.objs.size)) (S9 X ad σ tg R) E { s with heap:=s.heap.push { cls:=.type "range",data:=.fields #[.int lo t,.int hi u,.int 1 v] },toks:=tk }:=by
 refine wpAny_pyIter_range (IsRange.new ..) (small_one h1 h2 h3 h4) ?_;have I1:Inv X ad σ H { s with heap:=s.heap.push { cls:=.type "range",data:=.fields #[.int lo t,.int hi u,.int 1 v] },toks:=tk }:=I.kept fun b o e=>cH _ e
 refine⟨(s.heap.push { cls:=.type "range",data:=.fields #[.int lo t,.int hi u,.int 1 v] }).objs.size,[(s.heap.push { cls:=.type "range",data:=.fields #[.int lo t,.int hi u,.int 1 v] }).objs.size],_,_,H,rfl,
  I1.kept (t':=tk) fun b o e=>cH _ e,Pt _ lo (hi-lo).toNat,?_,fun b hb=>?_,q⟩
 ·have e1:lo+((0:Nat):Int)*1=lo:=by simp
  have e2:(((hi-lo).toNat:Nat):Int)-((0:Nat):Int)=Builtin.Range.rangeSize lo hi 1:=by rw[rangeSize_one];split<;>omega
  show IsRangeIter _ _ (lo+((0:Nat):Int)*1) ((((hi-lo).toNat:Nat):Int)-((0:Nat):Int)) 1;rw[e1,e2];exact eD _ rfl
 ·have e:b=(s.heap.push { cls:=.type "range",data:=.fields #[.int lo t,.int hi u,.int 1 v] }).objs.size:=by simpa using hb
  subst e;exact I1.fpOk (cE _) (I1.hok.fresh (cE _))
def Gu (ta:TA):TI:=fun σ H R=>ta σ H fun vs H1=>∃ j:Int,vs=[.int j] /\ -(2^62)≤j/\j<2^62/\R (DC 0 j.toNat) H1
theorem Zl {a:bF}{ta:TA}(hg:Gl X "range")(hm:X.mg "range" = ab)(ha:PA X [a] ta)(hs:bY [a] X.env=[(af,cD a X.env)]:=by rfl):PI X tg (.Call (.Name "range" p) [a] [] pos) (Gu ta):=by
 intro ad s σ H R I h;refine Call_ (rS I hg hm boot_range (BV (bp (ha pos ad s σ H _ I h) fun us s1 ⟨vs,H1,I1,r1,q1⟩=>?_) hs rfl))
 obtain⟨j,e,q1,q2,q⟩:=q1;subst e;cases r1 with
 |cons r rr=>
  cases rr;obtain⟨t,rfl⟩:=r;exact call_range_1 (Wy I1 (by omega) (by omega) q1 q2 (by simpa using q))
def Ew (wi:TI)(g:TG)(tb:TS):TS:=fun D σ H=>wi σ H fun J H1=>∃ W:Nat->Nat->St->Hp->Prop,(∃ m,W 0 m σ H1)/\∀ i m σ H,W i m σ H ->
 (J.stop i H/\D.nx σ H)\/(J.go i H/\∃ N:St->Hp->Prop,(∀ σ' H',N σ' H'->∃ m',m'<m/\W (i+1) m' σ' H')/\∀ x H',J.yld i H x H'->g x σ H' fun σ2 H2=>tb { D with nx:=N,ct:=N,bk:=D.nx } σ2 H2)
def yX (fp:List aD)(h:aY):List (aD×bI):=fp.filterMap fun b=>(h.get? b).map fun o=>(b,o)
theorem FZ(hb:b∈fp)(e:h.get? b=aa o):(b,o)∈yX fp h:=sS.mpr ⟨b,hb,by rw[e];rfl⟩
theorem Ol{p:aD×bI}(hp:p∈yX fp h):p.1∈fp/\h.get? p.1=aa p.2:=by
 obtain⟨b,hb,e⟩:=sS.mp hp;cases q:h.get? b with
 |none=>rw[q] at e;cases e
 |some o=>
  rw[q] at e;have e':(b,o)=p:=gY e;subst e';exact⟨hb,q⟩
theorem Inv.pinned{σ:St}{H:Hp}(I:Inv X ad σ H s)(hf:∀ b∈fp,lJ X ad H b)(ho:∀ b∈fp,∃ o,s.heap.get? b=aa o/\∀ v,o.data ≠ .cell v):Inv X (ad++yX fp s.heap) σ H s:=
 I.pins_of fun p hp=>(jF.mp hp).elim (fun z=>I.pin p (qG _ z)) fun z=>by
  obtain⟨hb,e⟩:=Ol z;obtain⟨f0,f1,f2,_⟩:=hf p.1 hb;obtain⟨o,e',d⟩:=ho p.1 hb;rw[e] at e';cases e';exact⟨e,f0,f1,f2,d⟩
theorem Inv.unpinned {pl:List (aD×bI)}{σ:St}{H:Hp}(I:Inv X (ad++pl) σ H s):Inv X ad σ H s:=I.pins_of fun p hp=>I.pin p (qG _ (List.mem_append_left _ hp))
theorem Ke {bh:bF}{body:List cR}{wi:TI}{g:TG}{tb:TS}(hp:PassesOwn (aP X.prog X.w) X.A X.env X.xe)(hc:X.calm=ae)(hi:PI X tg bh wi)(hg:PG X tg g)(hb:PSs X body tb)
  (hs:∀ x,uL bh X.env x=pure x:=by intro _;rfl):PS X (.For tg bh body [] pos) (Ew wi g tb):=by
 intro ad s σ H D I h;refine wpAny_For (bp (hi ad s σ H _ I h) fun v s1 h1=>bp h1 fun EQ s2 h2=>?_) hs
 obtain⟨it,fp,tn,J,H2,e,I2,T,ca,f2,W,⟨m0,w0⟩,rc⟩:=h2;subst e;have oe:∀ {H':Hp},(∀ b∈fp,H' b=ab)->∀ b∈fp,lJ X ad H' b:=fun hn b hb=>⟨hn b hb,(f2 b hb).2⟩
 refine codeAny_forLoop_any (fun n s'=>∃ i σ' H',Inv X ad σ' H' s'/\tn i s'.heap/\(∀ b∈fp,H' b=ab)/\W i n σ' H') ?_ m0 ⟨0,σ,H2,I2,ca,fun b hb=>(f2 b hb).1,w0⟩
 rintro n s3 ⟨i,σ3,H3,I3,lr,yp,w3⟩;rcases rc i n σ3 H3 w3 with⟨stop,qn⟩|⟨go,N,hN,step⟩
 ·refine HC hp (bp (T.done X rfl rfl rfl hc i ad s3 σ3 H3 X.xe I3 (oe yp) lr stop) fun r s4 gh=>?_)
  obtain⟨hr,I4⟩:=gh;subst hr;exact wpAny_execs_nil ⟨σ3,H3,I4,qn⟩
 ·refine HC hp (bp (T.item X rfl rfl rfl hc i ad s3 σ3 H3 X.xe I3 (oe yp) lr go) fun r s4 gh=>?_)
  obtain⟨u,hr,h4⟩:=gh;subst hr;refine HC hp (bp h4 fun _ s5 gh=>?_)
  obtain⟨x,H5,I5,r5,y5,vf,J0⟩:=gh;have J1:=I5.pinned (oe J0) (T.obj _ _ vf);refine HC hp (bp (hg _ s5 σ3 H5 x u _ J1 r5 (step x H5 y5)) fun _ s6 gh=>?_)
  obtain⟨σ6,H6,I6,q6⟩:=gh;refine HC hp (bp (hb _ s6 σ6 H6 _ I6 q6) fun f s7 q7=>?_)
  have again:∀ {σ7:St} {H7:Hp},Inv X (ad++yX fp s5.heap) σ7 H7 s7->N σ7 H7->∃ m,m<n/\∃ i σ' H',Inv X ad σ' H' s7/\tn i s7.heap/\(∀ b∈fp,H' b=ab)/\W i m σ' H':=fun {σ7 H7} I7 n7=>by
   obtain⟨m',hm,w7⟩:=hN σ7 H7 n7;refine⟨m',hm,i+1,σ7,H7,I7.unpinned,T.keep _ _ _ vf fun b hb o e=>(I7.pin (b,o) (qG _ (qG _ (FZ hb e)))).1,fun b hb=>?_,w7⟩
   obtain⟨o,e,d⟩:=T.obj _ _ vf b hb;exact(I7.pin (b,o) (qG _ (qG _ (FZ hb e)))).2.1
  cases f with
  |next=>obtain⟨σ7,H7,I7,n7⟩:=q7;exact again I7 n7
  |cont=>obtain⟨σ7,H7,I7,n7⟩:=q7;exact again I7 n7
  |brk=>obtain⟨σ7,H7,I7,q7⟩:=q7;exact⟨σ7,H7,I7.unpinned,q7⟩
  |ret v=>obtain⟨x7,σ7,H7,I7,r7,q7⟩:=q7;exact⟨x7,σ7,H7,I7.unpinned,r7,q7⟩
end
abbrev R2:=V->V->Hp->VK->Prop
def OpR (X:Cx)(f:aC->aC->fS aC)(r:R2):Prop:=
 ∀ (ad:List (aD×bI)) (s:aH) (σ:St) (H:Hp) (x y:V) (v u:aC) (Q:VK),Inv X ad σ H s->RelV x v->RelV y u->r x y H Q ->
  aJ (aP X.prog X.w) X.A (f v u) (EP X ad σ Q) X.xe s
def Afq (X:Cx)(f:aC)(r:List V->Hp->VK->Prop):Prop:=
 ∀ (ad:List (aD×bI)) (s:aH) (σ:St) (H:Hp) (xs:List V) (us:List aC) (Q:VK),Inv X ad σ H s->Vals xs us->r xs H Q ->
  aJ (aP X.prog X.w) X.A (call f us) (EP X ad σ Q) X.xe s
def yk (r:R2)(ta tb:TE):TE:=fun σ H Q=>ta σ H fun x H1=>tb σ H1 fun y H2=>r x y H2 Q
def rI (C:Int->Int->Prop)(g:Int->Int->V):R2:=fun x y H Q=>∃ i j,x=.int i/\y=.int j/\C i j/\Q (g i j) H
def ud (g:Int->Int->V):R2:=fun x y H Q=>∃ i j,x=.int i/\y=.int j/\Q (g i j) H
section
variable {X:Cx}{a b:bF}{ta tb tc:TE}
theorem IS (ha:PE X a ta)(hb:PE X b tb){σ:St}{H:Hp}{R:V->V->Hp->Prop}(I:Inv X ad σ H s)
  (h:ta σ H fun x H1=>tb σ H1 fun y H2=>R x y H2) {Q:aC->aH->Prop} {f:aC->aC->fS aC}
  (hf:∀ v u s2 x y H2,Inv X ad σ H2 s2->RelV x v->RelV y u->R x y H2->aJ (aP X.prog X.w) X.A (f v u) Q X.xe s2) :
  aJ (aP X.prog X.w) X.A (cD a X.env) (fun v s₁=>aJ (aP X.prog X.w) X.A (cD b X.env) (fun u s₂=>aJ (aP X.prog X.w) X.A (f v u) Q X.xe s₂) X.xe s₁) X.xe s:=by
 refine bp (ha ad s σ H _ I h) fun v s1 gh=>?_
 obtain⟨x,H1,I1,r1,q1⟩:=gh;refine bp (hb ad s1 σ H1 _ I1 q1) fun u s2 gh=>?_
 obtain⟨y,H2,I2,r2,q2⟩:=gh;exact hf v u s2 x y H2 I2 r1 r2 q2
theorem He {op:Operator}{r:R2}(ho:OpR X (mV op) r)(ha:PE X a ta)(hb:PE X b tb):PE X (.BinOp a op b pos) (yk r ta tb):=by
 rw[6];exact wpAny_BinOp (IS ha hb I h fun v u s2 x y H2 I2 rx ry q=>ho ad s2 σ H2 x y v u Q I2 rx ry q)
theorem D8{C:Int->Int->Prop}{g:Int->Int->Int}
  (rule:∀ (i j:Int) (t u:Tok) (s:aH) (Q:aC->aH->Prop) (E:aC->aH->Prop),C i j->Q (.int (g i j) s.toks) { s with toks:=s.toks+1 }->aJ (aP X.prog X.w) X.A (f (.int i t) (.int j u)) Q E s) :
  OpR X f (rI C fun i j=>.int (g i j)):=by
 rw[3];obtain⟨i,j,rfl,rfl,hc,q⟩:=h;obtain⟨t,rfl⟩:=rx;obtain⟨t',rfl⟩:=ry;exact rule i j t t' s _ _ hc ⟨.int (g i j),H,I.tok _,⟨_,rfl⟩,q⟩
theorem QQ{g:Int->Int->Int}
  (rule:∀ (i j:Int) (t u:Tok) (s:aH) (Q:aC->aH->Prop) (E:aC->aH->Prop),Q (.int (g i j) s.toks) { s with toks:=s.toks+1 }->aJ (aP X.prog X.w) X.A (f (.int i t) (.int j u)) Q E s) :
  OpR X f (ud fun i j=>.int (g i j)):=by
 rw[3];obtain⟨i,j,rfl,rfl,q⟩:=h;obtain⟨t,rfl⟩:=rx;obtain⟨t',rfl⟩:=ry;exact rule i j t t' s _ _ ⟨.int (g i j),H,I.tok _,⟨_,rfl⟩,q⟩
theorem QJ{g:Int->Int->Bool}
  (rule:∀ (i j:Int) (t u:Tok) (s:aH) (Q:aC->aH->Prop) (E:aC->aH->Prop),Q (.bool (g i j)) s->aJ (aP X.prog X.w) X.A (f (.int i t) (.int j u)) Q E s) :
  OpR X f (ud fun i j=>.bl (g i j)):=by
 rw[3];obtain⟨i,j,rfl,rfl,q⟩:=h;obtain⟨t,rfl⟩:=rx;obtain⟨t',rfl⟩:=ry;exact rule i j t t' s _ _ ⟨.bl (g i j),H,I,rfl,q⟩
def Fb (i j:Int):Prop:=0<j/\j<1073741824
def Ex (i j:Int):Prop:=0≤j/\j≤1000000/\i.natAbs<2^64
def Bgf (i j:Int):Prop:=(-(2^64)<i/\i<2^64)\/(-(2^64)<j/\j<2^64)
theorem Bgf.ok {i j:Int}(h:Bgf i j):IntMulOk i j:=by
 rcases h with⟨h1,h2⟩|⟨h1,h2⟩
 ·exact .of_left (intBits_le_64 h1 h2)
 ·exact .of_right (intBits_le_64 h1 h2)
theorem Bfb:OpR X (mV .Add) (ud fun i j=>.int (i+j)):=QQ fun _ _ _ _ _ _ _ q=>add_int q
theorem Ir:OpR X (mV .Sub) (ud fun i j=>.int (i-j)):=QQ fun _ _ _ _ _ _ _ q=>sub_int q
theorem Jh:OpR X (mV .Mult) (rI Bgf fun i j=>.int (i*j)):=D8 fun _ _ _ _ _ _ _ hc q=>mul_int q hc.ok
theorem Ua:OpR X (mV .FloorDiv) (rI Fb fun i j=>.int (i/j)):=D8 fun i j _ _ _ _ _ hc q=>by
 have h1:(0:Int)<j:=hc.1;have h2:j<1073741824:=hc.2;exact floordiv_int (by omega) (by rw[Int.fdiv_eq_ediv_of_nonneg i (by omega)];exact q) (.inl (PyProof.noPylong_small (by omega)))
theorem Hf:OpR X (mV .Mod) (rI (fun _ j=>0<j) fun i j=>.int (i%j)):=D8 fun i j _ _ _ _ _ hc q=>by
 have h1:(0:Int)<j:=hc;exact mod_int' (by omega) (by rw[Int.fmod_eq_emod_of_nonneg i (by omega)];exact q)
theorem Ka:OpR X (mV .Pow) (rI Ex fun i j=>.int (i^j.toNat)):=D8 fun _ _ _ _ _ _ _ hc q=>pow_int_small hc.1 hc.2.1 hc.2.2 q
end
section
variable {X:Cx}{a b:bF}{ta tb tc:TE}
theorem JG{σ:St}{H:Hp}{Q:VK}{k k':Bool}(I:Inv X ad σ H s)(q:Q (.bl k) H)(e:k=k'):EP X ad σ Q (.bool k') s:=by
 subst e;exact⟨.bl k,H,I,rfl,q⟩
theorem Bdx:OpR X (kQ .Lt) (ud fun i j=>.bl (decide (i<j))):=QJ fun _ _ _ _ _ _ _ q=>lt_int q
theorem tH:OpR X (kQ .Gt) (ud fun i j=>.bl (decide (j<i))):=QJ fun _ _ _ _ _ _ _ q=>gt_int q
theorem WY:OpR X (kQ .Lt) (fun x y H Q=>∃ i j,x=.str i/\y=.str j/\Q (.bl (decide (i.cps.toList<j.cps.toList))) H):=by
 rw[3];obtain⟨i,j,rfl,rfl,q⟩:=h;obtain⟨t,rfl⟩:=rx;obtain⟨t',rfl⟩:=ry;exact lt_str (JG I q rfl)
theorem Of:OpR X (kQ .In) (fun x y H Q=>∃ i j,x=.str i/\y=.str j/\Q (.bl (!(QA j i 0 j.length 1).isEmpty)) H):=by
 rw[3];obtain⟨i,j,rfl,rfl,q⟩:=h;obtain⟨t,rfl⟩:=rx;obtain⟨t',rfl⟩:=ry;exact in_str (JG I q rfl)
theorem Li:OpR X (kQ .IsNot) (fun x y H Q=>y=.non/\Q (.bl (!decide (x=.non))) H):=by
 rw[3];obtain⟨rfl,q⟩:=h;cases ry;refine isnot_none_gen (JG I q ?_);cases x<;>first
  |(cases rx;rfl)
  |(obtain⟨t,rfl⟩:=rx;rfl)
theorem OpR.or{r r':R2}(h:OpR X f r)(h':OpR X f r'):OpR X f (fun x y H Q=>r x y H Q\/r' x y H Q):=by
 intro ad s σ H x y v u Q I rx ry q;rcases q with q|q
 ·exact h ad s σ H x y v u Q I rx ry q
 ·exact h' ad s σ H x y v u Q I rx ry q
theorem jJ (b:bF)(h:op ≠ .In:=by decide)(h2:op ≠ .NotIn:=by decide):BS op b=af:=by
 have e1:(op==CmpOp.In)=af:=by cases op<;>first|rfl|exact absurd rfl h
 have e2:(op==CmpOp.NotIn)=af:=by cases op<;>first|rfl|exact absurd rfl h2
 cases b<;>simp[BS,e1,e2]
theorem Np{r:R2}(ho:OpR X (kQ op) r)(ha:PE X a ta)(hb:PE X b tb)(hm:BS op b=af):PE X (.Compare a [op] [b] pos) (yk r ta tb):=by
 rw[6];exact wpAny_Compare1 (IS ha hb I h fun v u s2 x y H2 I2 rx ry q=>ho ad s2 σ H2 x y v u Q I2 rx ry q) hm
def Gr (t:TE):TT:=fun σ H Q=>t σ H fun x H'=>∃ k,x=.bl k/\Q k H'
theorem Uu{r:R2}(ho:OpR X (kQ op) r)(ha:PE X a ta)(hb:PE X b tb)(hm:BS op b=af):PT X (.Compare a [op] [b] pos) (Gr (yk r ta tb)):=by
 rw[6];refine wpAny_isTrue_Compare1 (bp (ha ad s σ H _ I h) fun v s1 ⟨x,H1,I1,r1,q1⟩=>bp (hb ad s1 σ H1 _ I1 q1) fun u s2 ⟨y,H2,I2,r2,q2⟩=>
  bp (ho ad s2 σ H2 x y v u _ I2 r1 r2 q2) fun c s3 ⟨z,H3,I3,r3,k,e,q3⟩=>?_) hm
 subst e;cases r3;exact Cg ⟨H3,I3,q3⟩
theorem tP:(sizeLine:Nat)<2^63:=by rw[mU];decide
theorem Axu:OpR X (mV .Add) (fun x y H Q=>∃ i j,x=.str i/\y=.str j/\i.length+j.length≤sizeLine/\Q (.str (i++j)) H):=by
 rw[3];obtain⟨i,j,rfl,rfl,hz,q⟩:=h;obtain⟨t,rfl⟩:=rx;obtain⟨t',rfl⟩:=ry;exact add_str (fun t' tk=>⟨.str (i++j),H,I.tok _,⟨_,rfl⟩,q⟩) hz
theorem vals1 {x:V}(r:Vals [x] us):∃ u,us=[u]/\RelV x u:=by
 cases r with
 |cons r1 r2=>cases r2;exact⟨_,rfl,r1⟩
theorem vals2 {x y:V}(r:Vals [x,y] us):∃ u w',us=[u,w']/\RelV x u/\RelV y w':=by
 cases r with
 |cons r1 r2=>
  cases r2 with
  |cons r3 r4=>cases r4;exact⟨_,_,rfl,r1,r3⟩
theorem Ny (hc:X.calm=ae):Afq X (.builtin "max") (fun xs H Q=>∃ i j,xs=[.int i,.int j]/\Q (.int (if j > i then j else i)) H):=by
 rw[5];obtain⟨i,j,rfl,q⟩:=h;obtain⟨u,w',rfl,⟨t,rfl⟩,⟨t',rfl⟩⟩:=vals2 r;refine max_two_ints (I.ok.hd hc) fun h' tk k=>⟨_,H,I.kept k,?_,q⟩
 by_cases hj:j > i
 ·rw[if_pos hj,if_pos hj];exact⟨_,rfl⟩
 ·rw[if_neg hj,if_neg hj];exact⟨_,rfl⟩
theorem WA:Afq X (.type "int") (fun xs H Q=>(∃ i,xs=[.int i]/\Q (.int i) H)\/∃ k,xs=[.bl k]/\Q (.int (if k then 1 else 0)) H):=by
 rw[5];rcases h with⟨i,rfl,q⟩|⟨k,rfl,q⟩
 ·obtain⟨u,rfl,t,rfl⟩:=vals1 r;exact call_int_int ⟨.int i,H,I,⟨_,rfl⟩,q⟩
 ·obtain⟨u,rfl,r1⟩:=vals1 r;cases r1;exact call_int_bool ⟨.int (if k then 1 else 0),H,I.tok _,⟨_,rfl⟩,q⟩
end
structure ObjM (h:aY)(x dx C:aD)(mA:aE->Option aC):Prop where
 obj:h.get? x=aa (Cw C dx)
 ns:h.Ns1 dx mA
 ne:dx≠x
theorem Od{mA:aE->Option aC}(n:h.Ns1 dx mA):∃ od,h.get? dx=aa od/\∀ name,Cs name od=aa (mA name):=by
 obtain⟨o,es,ep,ho,hd,hk,_,hm⟩:=n;refine⟨o,ho,fun name=>?_⟩
 have e:=hm name;unfold nsFind findBy at e;rw[← Array.find?_toList] at e;unfold Cs;rw[hd];rw[7];split
 ·rename_i y q;rw[q] at e;exact congrArg aa e
 ·rename_i q;rw[q] at e;have a:es.toList.any (·.refKey)=af:=by
   rw[List.any_eq_false];intro y hy;obtain⟨z,t,ji⟩:=hk y (Array.mem_toList_iff.mp hy);simp[DictEntry.refKey,ji]
  have a':¬ es.toList.any (·.refKey)=ae:=by rw[a];exact oJ
  rw[if_neg a'];exact congrArg aa e
theorem ObjM.look{x:aD}{mA:aE->Option aC}(I:ObjM h x dx C mA):∃ od,PySem.W.InstAt h x (Cw C dx) C (aa od)/\∀ name,Cs name od=aa (mA name):=
 let ⟨od,ho,hl⟩:=Od I.ns
 ⟨od,⟨I.obj,rfl,rfl,ho⟩,hl⟩
theorem As4.some_of {v:V}{o:Option aC}(r:As4 (aa v) o):∃ u,o=aa u/\RelV v u:=by
 cases o with
 |none=>exact(show False from r).elim
 |some u=>exact⟨u,rfl,r⟩
theorem As4.none_of {o:Option aC}(r:As4 ab o):o=ab:=by
 cases o with
 |none=>rfl
 |some u=>exact(show False from r).elim
section
variable {P:bP}{w:bG}{H H':Hp}{fs fs':List (aE×V)}
theorem Mm (hok:HOk P w H h)(e:H a=aa (.ins C dx fs)):∃ mA,ObjM h a dx C mA/\(∀ f,As4 (fs.lookup f) (mA f))/\PySem.Within mA (fs.map (·.1))/\fs.length≤1000/\H dx=aa (.own a):=by
 obtain⟨d,z,ne,ob,mA,n,r,q⟩:=(show Adz P w H h a (.ins C dx fs) from hok a _ e)
 exact⟨mA,⟨ob,n,ne⟩,r,q,z,d⟩
end
structure Cls (K:aM)(C:aD):Prop where
 pg:PySem.W.plainGet K C Str.empty=ae
 hd:PySem.W.hasDictIn K C=ae
 po:PySem.W.plainOver K C=ae
 sa:PySem.W.findIn K (.ref C) "__setattr__" = aa (aa (.builtin "object.__setattr__"))
theorem Cls.get(c:Cls K C)(f:aE):PySem.W.plainGet K C f=ae:=c.pg
section
variable {X:Cx}{σ:St}{H:Hp}{c:aC}{b:Bool}
inductive TyOf (K:aM)(H:Hp):V->aC->Prop where
 |non:TyOf K H .non (.type "NoneType")
 |bl (x:Bool):TyOf K H (.bl x) (.type "bool")
 |int (i:Int):TyOf K H (.int i) (.type "int")
 |str (x:aE):TyOf K H (.str x) (.type "str")
 |flt (x:UInt64):TyOf K H (.flt x) (.type "float")
 |lst {a:aD} {xs:List V} (e:H a=aa (.lst xs)):TyOf K H (.ref a) (.type "list")
 |frz {a:aD} {o:bI} {xs:List V} (e:H a=aa (.frz o (.lst xs))):TyOf K H (.ref a) (.type "list")
 |tup {a:aD} {xs:List V} (e:H a=aa (.tup xs)):TyOf K H (.ref a) (.type "tuple")
 |dK {a:aD} {ep:Nat} {kvs:List (aO×V)} (e:H a=aa (.dK ep kvs)):TyOf K H (.ref a) (.type "dict")
 |dT {a:aD} {kvs:List (List aA×V)} (e:H a=aa (.dT kvs)):TyOf K H (.ref a) (.type "dict")
 |ins {a C dx:aD} {fs:List (aE×V)} (e:H a=aa (.ins C dx fs)) (cl:Cls K C) (ha:PySem.W.findIn K (.ref C) "__class__" = aa (aa (.builtin "object.__class__")))
   (hn:PySem.W.specialIn K (.builtin "object.__class__") "__get__" = aa (aa (.builtin "getset_descriptor.__get__"))) (ph:PySem.W.takesIn K (.builtin "object.__class__")=aa ae)
   (hm:PySem.W.mroIn K C (.type "object")=aa ae):TyOf K H (.ref a) (.ref C)
theorem Yt {x:V}{t:aC}(I:Inv X ad σ H s)(rx:RelV x u)(ty:TyOf X.K H x t)(e:Cv X.K t c=aa b)(h:∀ tk,Q (.bool b) { s with toks:=tk }) :
  aJ (aP X.prog X.w) A (call (.builtin "isinstance") [u,c]) Q E s:=by
 cases ty with
 |non=>cases(show u=cU from rx);exact oD PySem.W.kitx_none I.kIn rC e (fun z=>nomatch z) h
 |bl y=>cases(show u=Value.bool y from rx);exact oD PySem.W.kitx_bool I.kIn rC e (fun z=>nomatch z) h
 |int i=>obtain⟨t,q⟩:=(show ∃ t,u=uR i t from rx);cases q;exact oD PySem.W.kitx_int I.kIn rC e (fun z=>nomatch z) h
 |str y=>obtain⟨t,q⟩:=(show ∃ t,u=uQ y t from rx);cases q;exact oD PySem.W.kitx_str I.kIn rC e (fun z=>nomatch z) h
 |flt y=>obtain⟨t,q⟩:=(show ∃ t,u=Value.float y t from rx);cases q;exact oD PySem.W.kitx_float I.kIn rC e (fun z=>nomatch z) h
 |@lst a xs ea=>
  cases(show u=fI a from rx)
  obtain⟨_,_,n,_,h1⟩:=(show Adz X.prog X.w H s.heap a (.lst xs) from I.hok a _ ea)
  exact oD Ct I.kIn ⟨_,h1,rfl⟩ e (fun z=>nomatch z) h
 |@frz a ob xs ea=>
  cases(show u=fI a from rx)
  obtain⟨_,_,_,n,_,h1⟩:=(show Adz X.prog X.w H s.heap a (.frz ob (.lst xs)) from I.hok a _ ea)
  exact oD Ct I.kIn ⟨_,h1,rfl⟩ e (fun z=>nomatch z) h
 |@tup a xs ea=>
  cases(show u=fI a from rx)
  obtain⟨_,_,_,p⟩:=(show Adz X.prog X.w H s.heap a (.tup xs) from I.hok a _ ea)
  obtain⟨o,h1,h2,_⟩:=p.1;exact oD PySem.W.kitx_tuple I.kIn ⟨o,h1,h2⟩ e (fun z=>nomatch z) h
 |@dK a ep kvs ea=>
  cases(show u=fI a from rx)
  obtain⟨_,_,vs,_,p⟩:=(show Adz X.prog X.w H s.heap a (.dK ep kvs) from I.hok a _ ea)
  obtain⟨o,es,h1,h2,_⟩:=p;exact oD Cu I.kIn ⟨o,h1,h2.1⟩ e (fun z=>nomatch z) h
 |@dT a kvs ea=>
  cases(show u=fI a from rx)
  obtain⟨_,_,xs,_,o,es,ep,h1,h2,_⟩:=(show Adz X.prog X.w H s.heap a (.dT kvs) from I.hok a _ ea)
  exact oD Cu I.kIn ⟨o,h1,h2.1⟩ e (fun z=>nomatch z) h
 |@ins a C dx fs ea cl ha hn ph hm=>
  cases(show u=fI a from rx)
  obtain⟨mA,O,_⟩:=Mm I.hok ea;obtain⟨od,J,_⟩:=O.look;exact oD (PySem.W.kitx_own (cl.get _) cl.hd ha hn ph hm) I.kIn J e (fun z=>nomatch z) h
end
structure Room (k:Nat)(A:bZ):Prop where
 hd:A.handled=ab
 dp:A.depth+3*k+5<recursionLimit
 un:A.units+16*k+200<cLine
theorem Room.mono {j:Nat}(r:Room k A)(h:j≤k):Room j A:=⟨r.hd,by have:=r.dp;omega,by have:=r.un;omega⟩
theorem Room.deeper(r:Room (k+1) A)(env:Env):Room k (A.deeper env):=
 ⟨r.hd,by have:=r.dp;show A.depth+1+3*k+5<_;omega,by have:=r.un;show A.units+3+16*k+200<_;omega⟩
theorem Room.depth(r:Room k A):A.depth<recursionLimit:=by have:=r.dp;omega
theorem Room.units(r:Room k A):A.units+64<cLine:=by have:=r.un;omega
abbrev Fp:TA:=fun _ H Q=>Q [] H
abbrev Ht (ta:TE)(tr:TA):TA:=fun σ H Q=>ta σ H fun x H1=>tr σ H1 fun xs H2=>Q (x::xs) H2
section
variable {X:Cx}{te:TE}{t:TA}
theorem qP:PA X [] Fp:=fun _ _ _ _ H Q I h=>Ef ⟨[],H,I,.nil,h⟩
theorem oW (ha:PE X e te)(hr:PA X es t)(hs:bY (e::es) X.env=(af,cD e X.env)::bY es X.env:=by rfl):PA X (e::es) (Ht te t):=by
 intro pos ad s σ H Q I h;rw[hs];show aJ _ _ (spliced ((af,cD e X.env)::iI pos (bY es X.env))) _ _ s;refine PY (bp (ha ad s σ H _ I h) fun u s1 gh=>?_)
 obtain⟨x,H1,I1,r1,q1⟩:=gh;exact bp (hr pos ad s1 σ H1 _ I1 q1) fun us s2 ⟨xs,H2,I2,r2,q2⟩=>⟨x::xs,H2,I2,.cons r1 r2,q2⟩
def Fn (t:TA):TE:=fun σ H Q=>t σ H fun xs H1=>xs.length≤sizeLine/\∀ p,H1 p=ab->Q (.ref p) (ar H1 p (.tup xs))
def Fm (t:TA):TE:=fun σ H Q=>t σ H fun xs H1=>xs.length≤sizeLine/\∀ p,H1 p=ab->Q (.ref p) (ar H1 p (.lst xs))
theorem Jk {x1}(h:PA X es t):PE X (.Tuple es x1 pos) (Fn t):=by
 intro ad s σ H Q I hq;refine wpAny_Tuple_spliced (bp (h pos ad s σ H _ I hq) fun us s1 ⟨xs,H1,I1,r,z,q⟩=>⟨by rw[← r.length];exact z,?_⟩)
 have hf:H1 s1.heap.objs.size=ab:=I1.hok.fresh (cE _);refine⟨.ref s1.heap.objs.size,ar H1 s1.heap.objs.size (.tup xs),I1.laid (t':=s1.toks) (fun b u e=>cH _ e) (cE _) ?_,rfl,q _ hf⟩
 exact⟨z,us,r,⟨_,eD _ rfl,rfl,_,rfl⟩,_,eD _ rfl,rfl⟩
theorem Iy (h:PA X es t):PE X (.List es pos) (Fm t):=by
 intro ad s σ H Q I hq;refine wpAny_List_spliced (bp (h pos ad s σ H _ I hq) fun us s1 ⟨xs,H1,I1,r,z,q⟩=>⟨by rw[← r.length];exact z,?_⟩)
 have hf:H1 s1.heap.objs.size=ab:=I1.hok.fresh (cE _);refine⟨.ref s1.heap.objs.size,ar H1 s1.heap.objs.size (.lst xs),I1.laid (t':=s1.toks) (fun b u e=>cH _ e) (cE _) ?_,rfl,q _ hf⟩
 exact⟨z,us,0,r,eD _ rfl⟩
end
abbrev Sp:=List V->Hp->VK->XK->Prop
abbrev sv:=List Env->Hp->aH->XK->aC->aH->Prop
structure Env0 (P:bP)(w:bG)(K:aM)(mg:aE->Option aC)(base:aY)(A:bZ)(outer:List Env)(s:aH)(H:Hp):Prop where
 frames:A.frames=aa outer
 mod:Mod K mg base
 bs:∀ b o,base.get? b=aa o->s.heap.get? b=aa o/\H b=ab
 bsz:base.objs.size≤s.heap.objs.size
 funs:s.heap.FunFrames base outer
 frf:∀ b∈qz outer,H b=ab
 hok:HOk P w H s.heap
 bare:sV s.gens
def CE (outer:List Env)(P:bP)(w:bG)(H:Hp)(s:aH)(Q:VK)(u:aC)(s':aH):Prop:=
 ∃ v H',s'.os=s.os/\sV s'.gens/\Un (qz outer) [] H H' s.heap s'.heap/\HOk P w H' s'.heap/\RelV v u/\Q v H'
def CR (CX:sv)(outer:List Env)(P:bP)(w:bG)(H:Hp)(s:aH)(Q:VK)(E:XK)(r:Result)(s':aH):Prop:=
 match r with
 |.ok (.ret u)=>CE outer P w H s Q u s'
 |.ok _=>False
 |.error e=>CX outer H s E e s'
structure FnOk (P:bP)(w:bG)(K:aM)(mg:aE->Option aC)(base:aY)(CX:sv)(k:Nat)(f:aD)(fd:jH)(ps:List aE)(sp:Sp):Prop where
 len:∀ vs H Q E,sp vs H Q E->vs.length=ps.length
 run:∀ (A:bZ) (outer:List Env) (s:aH) (H:Hp) (args:Args) (us:List aC) (vs:List V) (Q:VK) (E:XK),Room k A->Env0 P w K mg base A outer s H->BindsTo s fd args (ps.zip us)->Vals vs us->sp vs H Q E ->
  pG (aP P w) A (.call (.ref f) args) (CR CX outer P w H s Q E) s
theorem FnOk.imp {P:bP}{w:bG}{CX:sv}{f:aD}{fd:jH}{sp U8:Sp}(F:FnOk P w K mg base CX k f fd ps sp)
  (h:∀ vs H Q E,U8 vs H Q E->sp vs H Q E):FnOk P w K mg base CX k f fd ps U8:=
 ⟨fun vs H Q E q=>F.len vs H Q E (h _ _ _ _ q),fun A outer s H args us vs Q E hr he hb hv hs=>F.run A outer s H args us vs Q E hr he hb hv (h _ _ _ _ hs)⟩
section
variable {X:Cx}{σ:St}{H:Hp}
theorem Inv.env0 (I:Inv X ad σ H s):Env0 X.prog X.w X.K X.mg X.base X.A X.stack s H:=
 ⟨I.ok.frames,I.ok.mod,I.bs,iU I.ok.bsz I.sz,I.stack,I.stkFree,I.hok,I.bare⟩
theorem Inv.after {Q:VK}(I:Inv X ad σ H s)(h:CE X.stack X.prog X.w H s Q u s'):EP X ad σ Q u s':=by
 obtain⟨v,H',os,bare,un,hok,r,q⟩:=h;obtain⟨hh,g,d,t,we⟩:=s';obtain rfl:we=s.os:=os;exact⟨v,H',I.call (h':=hh) (g':=g) (d':=d) (t':=t) (ch:=[]) un hok bare (fun b z=>absurd z (by simp)),r,q⟩
end
def RF (sp:Sp)(vg:List V)(E:XK)(t:TA):TE:=fun σ H Q=>t σ H fun vs H1=>sp (vs++vg) H1 Q E
def Binds (K:aM)(fd:jH)(ps:List aE)(ds:List aC):Prop:=
 ∀ (s:aH) (us:List aC),K.In s.heap->(us++ds).length=ps.length->BindsTo s fd ⟨us,[]⟩ (ps.zip (us++ds))
theorem Binds.all{fd:jH}(h:∀ us:List aC,us.length=ps.length->uO fd ⟨us,[]⟩=pure (ps.zip us)):Binds K fd ps []:=fun s us _ hl=>by
 rw[pM] at hl ⊢;exact .of_eq (h us hl)
def Passes (CX:sv)(X:Cx)(E:XK):Prop:=∀ (ad:List (aD×bI)) (σ:St) (H:Hp) (s:aH) (e:aC) (s':aH),Inv X ad σ H s->CX X.stack H s E e s'->X.xe e s'
section
variable {X:Cx}{CX:sv}{f:aD}{fd:jH}{sp:Sp}{vg:List V}{ds:List aC}{E:XK}{m:aE}{bq:cV}{o:bF}{ta:TE}{t:TA}
theorem Jn{σ:St}{H:Hp}{Q:VK}{vs:List V}(F:FnOk X.prog X.w X.K X.mg X.base CX k f fd ps sp)(hr:Room k X.A)(hb:Binds X.K fd ps ds)(hd:Vals vg ds)(hx:Passes CX X E)
  (I:Inv X ad σ H s) (r:Vals vs us) (h:sp (vs++vg) H Q E):aJ (aP X.prog X.w) X.A (call (.ref f) us) (EP X ad σ Q) X.xe s:=by
 have r2:Vals (vs++vg) (us++ds):=r.append hd;have hl:(us++ds).length=ps.length:=by rw[← r2.length];exact F.len _ _ _ _ h
 refine wpAny_call (BR (F.run X.A X.stack s H ⟨us,[]⟩ (us++ds) (vs++vg) Q E hr I.env0 (hb s us I.kIn hl) r2 h) fun r s' hq=>?_)
 cases r with
 |error e=>exact hx ad σ H s e s' I hq
 |ok fl=>
  cases fl with
  |ret u=>exact I.after hq
  |next=>exact rG hq
  |brk=>exact rG hq
  |cont=>exact rG hq
theorem Ub (F:FnOk X.prog X.w X.K X.mg X.base CX k f fd ps sp)(hr:Room k X.A)(hg:Gl X x)(hm:X.mg x=aa (.ref f))(hk:uS X.K (.ref f)=ae)(hb:Binds X.K fd ps ds)(hd:Vals vg ds)(hx:Passes CX X E)
  (ha:PA X (e::es) t) (qb:(x==("__debug__" : aE))=af:=by decide) (he:bY (e::es) X.env=(af,cD e X.env)::bY es X.env:=by rfl) (ir:(iI pos (bY es X.env)).any (·.1)=af:=by rfl) :
  PE X (.Call (.Name x p) (e::es) [] pos) (RF sp vg E t):=by
 rw[6];refine Ck (SU I hg hm ?_ qb);refine PySem.W.callWith_K (h₀:=X.base) I.ok.mod.kin hk (bp (ha pos ad s σ H _ I h) fun us s1 ⟨vs,H1,I1,r,q⟩=>⟨I1.kIn,?_⟩) he ir
 exact Jn F hr hb hd hx I1 r q
end
structure FnScope (N P:List aE)(sc:kI):Prop where
 kind:sc.kind=.function
 co:sc.isCoroutine=af
 gen:sc.isGenerator=af
 nd:N.Nodup
 pre:N.take P.length=P
 par:∀ x∈P,sc.names.lookup x=aa .local\/sc.names.lookup x=aa .cell
 nofree:∀ y∈sc.names,y.2 ≠ .free
theorem WG {kindOf:aE->Option oF}:∀ {binds:List (aE×aC)} {m:aE->Option aC},(∀ v,(x,v)∉binds)->bindL kindOf binds m x=m x
 |[],_,_=>rfl
 |(n,v)::r,m,h=>by
  unfold bindL;rw[WG fun w hw=>h w (cG _ hw)]
  split
  ·have:x≠n:=by rintro rfl;exact h v bS
   simp[this]
  ·rfl
theorem WL {kindOf:aE->Option oF}:∀ {binds:List (aE×aC)} {m:aE->Option aC},(∀ v,(x,v)∉binds)->bindC kindOf binds m x=m x
 |[],_,_=>rfl
 |(n,v)::r,m,h=>by
  unfold bindC;rw[WL fun w hw=>h w (cG _ hw)]
  split
  ·rfl
  ·have:x≠n:=by rintro rfl;exact h v bS
   simp[this]
theorem WM {kindOf:aE->Option oF}{x:aE}{v:aC}:∀ {P:List aE} {vs:List aC} {i:Nat} {m:aE->Option aC},P.Nodup->P[i]?=aa x->vs[i]?=aa v->kindOf x=aa .local ->
  bindL kindOf (P.zip vs) m x=aa v
 |[],_,_,_,_,h,_,_=>by simp at h
 |_::_,[],_,_,_,_,h,_=>by simp at h
 |p::P,w::vs,0,m,nd,h1,h2,hk=>by
  simp at h1 h2;subst h1;subst h2;show bindL kindOf ((p,w)::P.zip vs) m p=_;unfold bindL;rw[WG fun v hv=>(mE.mp nd).1 (Dn hv).1,if_pos hk]
  simp
 |p::P,w::vs,i+1,m,nd,h1,h2,hk=>by
  show bindL kindOf ((p,w)::P.zip vs) m x=_;unfold bindL;exact WM (i:=i) (mE.mp nd).2 (by simpa using h1) (by simpa using h2) hk
theorem WN {kindOf:aE->Option oF}{x:aE}{v:aC}:∀ {P:List aE} {vs:List aC} {i:Nat} {m:aE->Option aC},P.Nodup->P[i]?=aa x->vs[i]?=aa v->kindOf x≠aa .local ->
  bindC kindOf (P.zip vs) m x=aa v
 |[],_,_,_,_,h,_,_=>by simp at h
 |_::_,[],_,_,_,_,h,_=>by simp at h
 |p::P,w::vs,0,m,nd,h1,h2,hk=>by
  simp at h1 h2;subst h1;subst h2;show bindC kindOf ((p,w)::P.zip vs) m p=_;unfold bindC;rw[WL fun v hv=>(mE.mp nd).1 (Dn hv).1,if_neg hk]
  simp
 |p::P,w::vs,i+1,m,nd,h1,h2,hk=>by
  show bindC kindOf ((p,w)::P.zip vs) m x=_;unfold bindC;exact WN (i:=i) (mE.mp nd).2 (by simpa using h1) (by simpa using h2) hk
def start (N:List aE)(vs:List V):St:=vs.map aa++xW (N.length-vs.length) ab
def sW (CX:sv)(P:bP)(w:bG)(K:aM)(mg:aE->Option aC)(base:aY)(N:List aE)(qual:aE)(scope:kI)(f:aD)(cd:aC)(A:bZ)(outer:List Env)(s:aH)(H:Hp)(E:XK):Cx where
 prog:=P
 w:=w
 K:=K
 mg:=mg
 base:=base
 A:=A.deeper (rB qual scope s.heap.objs.size f cd)
 N:=N
 s₀:=s
 H₀:=H
 env:=rB qual scope s.heap.objs.size f cd
 outer:=outer
 stack:=rB qual scope s.heap.objs.size f cd::outer
 ex:=[]
 calm:=ae
 fn:=fun _=>ae
 pn:=[]
 xe:=fun e s'=>aJ (aP P w) (A.deeper (rB qual scope s.heap.objs.size f cd)) (leaving (rB qual scope s.heap.objs.size f cd) e) (fun _ yq=>CX outer H s E e yq) (fun e' yq=>CX outer H s E e' yq) s'
theorem UK {sc:kI}{n:Nat}(h:sc.names.lookup x=aa .cell):∃ c,(cellsFrom n sc.names []).lookup x=aa c:=by
 have q:=PySem.W.cellsFrom_some sc.names n [] (.inl h);exact OI.mp q
theorem Zx {CX:sv}{P:bP}{w:bG}{N:List aE}{qual:aE}{scope:kI}{f:aD}{cd:aC}{outer:List Env}{s1:aH}{H:Hp}{E:XK}{vs:List V}
  (S:FnScope N ps scope) (hd:A.handled=ab) (e0:Env0 P w K mg base A outer s H) (hl:vs.length=ps.length) (r:Vals vs us)
  (x:InCallC s s.heap.objs.size (bindL (rB qual scope s.heap.objs.size f cd).kindOf (ps.zip us) fun _=>ab) (cellsFrom (s.heap.objs.size+1) scope.names []) (bindC (rB qual scope s.heap.objs.size f cd).kindOf (ps.zip us) fun _=>ab) s1) :
  Inv (sW CX P w K mg base N qual scope f cd A outer s H E) [] (start N vs) H s1:=by
 have ir:ps.length≤N.length:=by have:=congrArg OX S.pre;rw[oG] at this;omega
 obtain⟨h1,tk,rfl,hk⟩:=x.done;have yr:∀ b:aD,b∉(sW CX P w K mg base N qual scope f cd A outer s H E).ex:=fun b z=>absurd (show b∈([]:List aD) from z) (by simp)
 refine⟨⟨e0.mod,S.kind,rfl,rfl,cE _,fun y z c h1 h2=>?_,fun y hy=>?_,fun y c _ h=>?_,fun _=>hd,Around.frames_deeper e0.frames,.inr ⟨rfl,rfl⟩,fun b z=>absurd z (yr b),e0.bs,e0.bsz,fun b _ _=>yr b,fun b z=>absurd z (yr b),e0.funs,e0.frf⟩,
  rfl,e0.bare,Un.kept hk,⟨_,x.toInCall.ns,fun i y v h1 h2 h3=>?_⟩,fun y c h=>⟨_,x.cell y c h⟩,e0.hok.fresh (cE _),fun y c h=>?_,fun p hp=>absurd (show p∈([]:List (aD×bI)) from hp) (by simp),e0.hok.kept hk,?_⟩
 ·exact name_of_addr x.apart (HM h1) (HM h2)
 ·have hy:scope.names.lookup y=aa .cell\/scope.names.lookup y=aa .free:=hy;rcases hy with hy|hy
  ·exact UK hy
  ·exact absurd rfl (S.nofree _ (HM hy))
 ·exact sO (x.above y c (HM h))
 ·have hi:i<vs.length:=by
   unfold start at h2;by_cases hi:i<vs.length
   ·exact hi
   ·rw[vB (by simpa using hi)] at h2
    rw[List.getElem?_replicate] at h2;split at h2<;>cases h2
  have ha:vs[i]?=aa v:=by
   unfold start at h2;rw[yB (by simpa using hi),fA] at h2
   cases e:vs[i]? with
   |none=>rw[e] at h2;cases h2
   |some a=>rw[e] at h2;cases h2;rfl
  obtain⟨u,hu,rv⟩:=r.get ha;have hp:ps[i]?=aa y:=by
   rw[← S.pre,d9 (by omega)];exact h1
  have U9:ps.Nodup:=by rw[← S.pre];exact S.nd.sublist (OR _ _)
  refine⟨u,rv,?_⟩;rcases S.par y (gZ hp) with k|k
  ·exact .inl ⟨k,WM U9 hp hu k⟩
  ·obtain⟨c,e⟩:=UK (n:=s.heap.objs.size+1) k;refine .inr ⟨.inl k,c,e,?_⟩;have q:=x.cell y c e;rw[WN U9 hp hu (by show scope.names.lookup y≠_;rw[k];decide)] at q
   exact q
 ·exact e0.hok.fresh (sO (x.above y c (HM h)))
 ·unfold start;show _=N.length;rw[mF,eS,List.length_replicate];omega
theorem Gd {CX:sv}{P:bP}{w:bG}{f:aD}{name qual:aE}{params:Arguments}{body:List cR}{scope:kI}{dV kV fj pm ax ct oc:aC}{an od:Option aD}
  {vh:Array (Option aC)} {N ps:List aE} {sp:Sp} (lk:K.lookup f=aa ⟨oc,od,.func (lQ name qual params body scope dV kV fj pm an ax ct),vh⟩) (jx:BU K ax qual=ae) (S:FnScope N ps scope)
  (len:∀ vs H Q E,sp vs H Q E->vs.length=ps.length)
  (re:∀ (A:bZ) (outer:List Env) (s:aH) (H:Hp) (vs:List V) (Q:VK) (E:XK),Room k (A.deeper (rB qual scope s.heap.objs.size f ax))->sp vs H Q E ->
   ∃ t,PSs (sW CX P w K mg base N qual scope f ax A outer s H E) body t/\t { nx:=fun _ H'=>Q .non H',rt:=Q } (start N vs) H) :
  FnOk P w K mg base CX (k+1) f (lQ name qual params body scope dV kV fj pm an ax ct) ps sp:=by
 refine⟨len,fun A outer s H args us vs Q E hr e0 hb r tu=>?_⟩
 have hl:=len _ _ _ _ tu;have KX:K.In s.heap:=e0.mod.kin.keeps fun b o e=>(e0.bs b o e).1
 have lim:s.heap.NoLimit:=e0.mod.nolimit.keeps fun b o e=>(e0.bs b o e).1
 have pi:∀ y∈ps.zip us,scope.names.lookup y.1=aa .local\/(scope.names.lookup y.1=aa .cell/\((cellsFrom (s.heap.objs.size+1) scope.names []).lookup y.1).isSome=ae):=fun⟨n,v⟩ hy=>by
  rcases S.par n (Dn hy).1 with q|q
  ·exact .inl q
  ·exact .inr ⟨q,PySem.W.cellsFrom_some _ _ _ (.inl q)⟩
 refine codeAny_call_function hr.depth (KX _ _ lk) rfl S.co S.gen rfl (PySem.W.codeRec_of KX jx) (hb _ _ _ _ ?_);refine wpAny_newFunctionEnv_cells S.kind pi fun env he s1 x=>?_
 subst he;refine⟨lim.keeps x.toInCall.keep,codeAny_func ?_⟩;obtain⟨t,ht,hq⟩:=re A outer s H vs Q E (hr.deeper _) tu;have I:Inv (sW CX P w K mg base N qual scope f ax A outer s H E) [] (start N vs) H s1:=Zx S hr.hd e0 hl r x;refine lZ (ht [] s1 (start N vs) H _ I hq) (fun fl s' hs=>?_) fun e s' hs=>hs
 have fin:∀ {σ':St} {H':Hp} {v:V} {u:aC},Inv (sW CX P w K mg base N qual scope f ax A outer s H E) [] σ' H' s'->RelV v u->Q v H'->CE outer P w H s Q u s':=
  fun {σ' H' v u} J rv q=>⟨v,H',J.os,J.bare,J.base,J.hok,rv,q⟩
 cases fl with
 |ret u=>
  obtain⟨v,σ',H',J,rv,q⟩:=hs;exact fin J rv q
 |next=>
  obtain⟨σ',H',J,q⟩:=hs;exact fin (v:=V.non) (u:=cU) J rfl q
 |brk=>
  obtain⟨_,_,_,q⟩:=hs;exact rG q
 |cont=>
  obtain⟨_,_,_,q⟩:=hs;exact rG q
section
variable {X:Cx}{t:TA}{id T:String}{r:List V->Hp->VK->Prop}
def tCB (r:List V->Hp->VK->Prop)(t:TA):TE:=fun σ H Q=>t σ H fun vs H1=>r vs H1 Q
theorem LA (hc:Afq X (.builtin id) r)(hg:Gl X x)(hm:X.mg x=ab)(hv:qE x=aa (.builtin id))(ha:PA X (e::es) t)(hn:x ≠ "__name__":=by decide)(qb:(x==("__debug__" : aE))=af:=by decide)
  (he:bY (e::es) X.env=(af,cD e X.env)::bY es X.env:=by rfl) (ir:(iI pos (bY es X.env)).any (·.1)=af:=by rfl):PE X (.Call (.Name x p) (e::es) [] pos) (tCB r t):=by
 rw[6];refine Ck (rS I hg hm hv ?_ hn qb);exact PyProof.Rows.callWith_builtin1 (bp (ha pos ad s σ H _ I h) fun us s1 ⟨vs,H1,I1,r1,q1⟩=>hc ad s1 σ H1 vs us Q I1 r1 q1) he ir
theorem WV (hc:Afq X (.type T) r)(hg:Gl X x)(hm:X.mg x=ab)(hv:qE x=aa (.type T))(ha:PA X (e::es) t)(hn:x ≠ "__name__":=by decide)(qb:(x==("__debug__" : aE))=af:=by decide)
  (he:bY (e::es) X.env=(af,cD e X.env)::bY es X.env:=by rfl) (ir:(iI pos (bY es X.env)).any (·.1)=af:=by rfl):PE X (.Call (.Name x p) (e::es) [] pos) (tCB r t):=by
 rw[6];refine Ck (rS I hg hm hv ?_ hn qb);exact BV (bp (ha pos ad s σ H _ I h) fun us s1 ⟨vs,H1,I1,r1,q1⟩=>hc ad s1 σ H1 vs us Q I1 r1 q1) he ir
end
section
variable {κ:Type}[DecidableEq κ]
def jI (kvs:List (κ×V))(k:κ):Option V:=(kvs.find? fun kv=>decide (kv.1=k)).map (·.2)
def putK (kvs:List (κ×V))(k:κ)(v:V):List (κ×V):=
 if (kvs.any fun kv=>decide (kv.1=k))=ae then kvs.map (fun kv=>if kv.1=k then(kv.1,v) else kv) else kvs++[(k,v)]
theorem zX {p:κ×V}{r:List (κ×V)}{k:κ}(e:p.1=k):jI (p::r) k=aa p.2:=by simp[jI,kC,e]
theorem zW {p:κ×V}{r:List (κ×V)}{k:κ}(e:¬ p.1=k):jI (p::r) k=jI r k:=by simp[jI,kC,e]
theorem KN (k:κ):∀ kvs:List (κ×V),(kvs.any fun kv=>decide (kv.1=k))=(jI kvs k).isSome
 |[]=>rfl
 |p::r=>by
  rw[CV];by_cases e:p.1=k
  ·simp only[zX e,decide_eq_true e,QC,Option.isSome_some]
  ·rw[zW e,decide_eq_false e,Bool.false_or];exact KN k r
theorem GG (kvs:List (κ×V))(k:κ)(v:V):(putK kvs k v).length≤kvs.length+1:=by
 unfold putK;split
 ·rw[eS];omega
 ·rw[mF,hW,List.length_nil];omega
theorem As4.isSome_eq {o:Option V}{u:Option aC}(r:As4 o u):o.isSome=u.isSome:=by
 cases o with
 |none=>cases u with
  |none=>rfl
  |some _=>exact(show False from r).elim
 |some _=>cases u with
  |none=>exact(show False from r).elim
  |some _=>rfl
theorem As4.getD {o:Option V}{u:Option aC}{d:V}{d':aC}(r:As4 o u)(rd:RelV d d'):RelV (o.getD d) (u.getD d'):=by
 cases o with
 |none=>cases u with
  |none=>exact rd
  |some _=>exact(show False from r).elim
 |some _=>cases u with
  |none=>exact(show False from r).elim
  |some _=>exact r
theorem KV.val {kvs:List (κ×V)}{vs:List (κ×aC)}(r:KV kvs vs)(k:κ):As4 (jI kvs k) (xI vs k):=by
 unfold KV at r;induction r with
 |nil=>exact rC
 |@cons p q ps qs h t ih=>
  obtain⟨h1,h2⟩:=h;by_cases e:p.1=k
  ·have e':q.1=k:=h1.symm.trans e;have b:xI (q::qs) k=aa q.2:=by simp[xI,kC,e']
   rw[zX e,b];exact h2
  ·have e':¬ q.1=k:=fun z=>e (h1.trans z)
   have b:xI (q::qs) k=xI qs k:=by simp[xI,kC,e']
   rw[zW e,b];exact ih
theorem KV.any {kvs:List (κ×V)}{vs:List (κ×aC)}(r:KV kvs vs)(k:κ):(kvs.any fun kv=>decide (kv.1=k))=vs.any fun kv=>decide (kv.1=k):=by
 unfold KV at r;induction r with
 |nil=>rfl
 |cons h t ih=>rw[CV,CV,ih,h.1]
theorem KV.repl {kvs:List (κ×V)}{vs:List (κ×aC)}(r:KV kvs vs)(k:κ){y:V}(ry:RelV y u) :
  KV (kvs.map fun kv=>if kv.1=k then(kv.1,y) else kv) (vs.map fun kv=>if kv.1=k then(kv.1,u) else kv):=by
 unfold KV at r ⊢;induction r with
 |nil=>exact .nil
 |@cons p q ps qs h t ih=>
  rw[dQ,dQ];refine .cons ?_ ih;obtain⟨h1,h2⟩:=h;by_cases e:p.1=k
  ·rw[if_pos e,if_pos (h1.symm.trans e)];exact⟨h1,ry⟩
  ·rw[if_neg e,if_neg (fun z=>e (h1.trans z))];exact⟨h1,h2⟩
theorem KV.put {kvs:List (κ×V)}{vs:List (κ×aC)}(r:KV kvs vs)(k:κ){y:V}(ry:RelV y u):KV (putK kvs k y) (uI vs k u):=by
 unfold putK uI;rw[r.any k];by_cases e:(vs.any fun kv=>decide (kv.1=k))=ae
 ·rw[if_pos e,if_pos e];exact r.repl k ry
 ·rw[if_neg e,if_neg e];exact Paired.snoc r ⟨rfl,ry⟩
theorem KV.length {kvs:List (κ×V)}{vs:List (κ×aC)}(r:KV kvs vs):kvs.length=vs.length:=mZ r
end
theorem tJ {P:bP}{w:bG}{k:aO}(r:RelV (kV k) u):(iT P w).is k u=ae:=by
 cases k with
 |inl i=>obtain⟨t,e⟩:=(show ∃ t,u=uR i t from r);subst e;exact MQ P w i t
 |inr x=>obtain⟨t,e⟩:=(show ∃ t,u=uQ x t from r);subst e;exact MU P w x t
abbrev KT (H:Hp):List (List aA×V)->List (List aA×aD×aC)->Prop:=fE fun p q=>p.1=q.1/\Avi H p.1 q.2.1/\RelV p.2 q.2.2
theorem KT.val {H:Hp}{kvs:List (List aA×V)}(r:KT H kvs xs)(k:List aA):As4 (jI kvs k) ((atKey xs k).map (·.2)):=by
 induction r with
 |nil=>exact rC
 |@cons p q ps qs h t ih=>
  obtain⟨h1,_,h2⟩:=h;by_cases e:p.1=k
  ·have e':q.1=k:=h1.symm.trans e;have b:atKey (q::qs) k=aa q.2:=by simp[atKey,kC,e']
   rw[zX e,b];exact h2
  ·have e':¬ q.1=k:=fun z=>e (h1.trans z)
   have b:atKey (q::qs) k=atKey qs k:=by simp[atKey,kC,e']
   rw[zW e,b];exact ih
theorem KT.repl {H:Hp}{kvs:List (List aA×V)}(r:KT H kvs xs)(k:List aA){y:V}(ry:RelV y u) :
  KT H (kvs.map fun kv=>if kv.1=k then(kv.1,y) else kv) (xs.map (putAt k u)):=by
 induction r with
 |nil=>exact .nil
 |@cons p q ps qs h t ih=>
  rw[dQ,dQ];refine .cons ?_ ih;obtain⟨h1,h2,h3⟩:=h;unfold putAt;by_cases e:p.1=k
  ·rw[if_pos e,if_pos (h1.symm.trans e)];exact⟨h1,h2,ry⟩
  ·rw[if_neg e,if_neg (fun z=>e (h1.trans z))];exact⟨h1,h2,h3⟩
theorem KT.put {H:Hp}{kvs:List (List aA×V)}(r:KT H kvs xs)(k:List aA){y:V}(hb:Avi H k b)(ry:RelV y u) :
  KT H (putK kvs k y) (storedH xs k b u):=by
 have e:(kvs.any fun kv=>decide (kv.1=k))=(atKey xs k).isSome:=by
  rw[KN,(r.val k).isSome_eq,Dd]
 unfold putK storedH;rw[e];by_cases q:(atKey xs k).isSome=ae
 ·rw[if_pos q,if_pos q];exact r.repl k ry
 ·rw[if_neg q,if_neg q];exact Paired.snoc r ⟨rfl,hb,ry⟩
theorem KT.keeps {H H':Hp}{kvs:List (List aA×V)}(r:KT H kvs xs)(ht:∀ b ys,H b=aa (.tup ys)->H' b=aa (.tup ys)):KT H' kvs xs:=
 Paired.mapP r fun _ _ z=>⟨z.1,z.2.1.keep ht,z.2.2⟩
section
variable {P:bP}{w:bG}{H:Hp}
theorem RC {u:HO}(ok:HOk P w H h)(e:Rd H a u):Adz P w H h a u:=e.ok ok
theorem Gk{kvs:List (aO×V)}(ok:HOk P w H h)(e:Rd H a (.dK ep kvs)):kvs.length≤sizeLine/\(a==kH)=af/\∃ vs,KV kvs vs/\h.DictAt (iT P w) a vs ep:=
 show Adz P w H h a (.dK ep kvs) from RC ok e
theorem qL{kvs:List (aO×V)}(ok:HOk P w H h)(e:Rd H a (.dK ep kvs)):kvs.length≤sizeLine/\(a==kH)=af/\∃ vs,KV kvs vs/\h.DictOf (iT P w) a vs:=
 let ⟨z,y,vs,r,d⟩:=Gk ok e;⟨z,y,vs,r,d.dictOf⟩
theorem JD{kvs:List (aO×V)}(ok:HOk P w H h)(e:H a=aa (.dK ep kvs)):kvs.length≤sizeLine/\(a==kH)=af/\∃ vs,KV kvs vs/\h.DictOf (iT P w) a vs:=qL ok (.inl e)
theorem BB {P:bP}{w:bG}(hu:A.units+40<cLine):(oZ P w).room A.in1:=by
 show A.in1.units+20<cLine;have:A.in1.units=A.units+1:=rfl;omega
mutual
theorem XX (ok:HOk P w H h):∀ (d:aA) {v:V} {u:aC},Ak3 H d v->RelV v u->∃ as,mY h u d as
 |.int i,v,u,k,r=>by
  have e:v=.int i:=by simpa [Ak3] using k
  subst e;obtain⟨t,rfl⟩:=r;exact⟨_,.int i t⟩
 |.str x,v,u,k,r=>by
  have e:v=.str x:=by simpa [Ak3] using k
  subst e;obtain⟨t,rfl⟩:=r;exact⟨_,.str x t⟩
 |.tuple ds,v,u,k,r=>by
  simp only[Ak3] at k;obtain⟨a,xs,rfl,e,ks⟩:=k;cases r;obtain⟨_,its,rv,⟨o,h1,h2,n,h3⟩,_⟩:=(show Adz P w H h a (.tup xs) from ok a _ e)
  obtain⟨as,ra⟩:=WB ok ds ks rv;exact⟨as,.tuple h1 h2 h3 (by simpa using ra)⟩
 |.none,v,u,k,r=>by simp[Ak3] at k
 |.bool _,v,u,k,r=>by simp[Ak3] at k
 |.list _,v,u,k,r=>by simp[Ak3] at k
 |.dict _,v,u,k,r=>by simp[Ak3] at k
theorem WB (ok:HOk P w H h):∀ (ds:List aA) {vs:List V} {us:List aC},Ah4 H ds vs->Vals vs us->∃ as,pH h us ds as
 |[],vs,us,k,r=>by
  have e:vs=[]:=by simpa [Ah4] using k
  subst e;cases r;exact⟨_,.nil⟩
 |d::ds,vs,us,k,r=>by
  simp only[Ah4] at k;obtain⟨x,rr,rfl,k1,k2⟩:=k;cases r with
  |cons r1 r2=>
   obtain⟨as,ra⟩:=XX ok d k1 r1;obtain⟨bs,rb⟩:=WB ok ds k2 r2;exact⟨_,.cons ra rb⟩
end
theorem qO(ok:HOk P w H h)(e:Avi H ks a):(oZ P w).is h ks a:=by
 obtain⟨k1,k2,xs,e,jv⟩:=e;refine⟨k1,k2,?_⟩;exact XX ok (.tuple ks) (v:=.ref a) (u:=.ref a) (by simp only[Ak3];exact⟨a,xs,rfl,e,jv⟩) rfl
theorem tD {kvs:List (List aA×V)}(ok:HOk P w H h)(e:Rd H a (.dT kvs)):kvs.length≤sizeLine/\(a==kH)=af /\
  ∃ xs,KT H kvs xs/\h.DictOfH (oZ P w) a xs:=by
 obtain⟨z,y,xs,r,o,es,ep,h1,h2,h3,h4,h5⟩:=(show Adz P w H h a (.dT kvs) from RC ok e)
 refine⟨z,y,xs,r,o,es,ep,h1,h2,h3,h4,fun x hx=>?_,h5⟩
 have all:∀ {l:List (List aA×V)} {m:List (List aA×aD×aC)},KT H l m->∀ x∈m,(oZ P w).is h x.1 x.2.1:=by
  intro l m q;induction q with
  |nil=>intro x hx;exact nomatch hx
  |@cons p q ps qs hq t ih=>
   intro x hx;rcases dU.mp hx with e|hx
   ·subst e;exact qO ok (by rw[← hq.1];exact hq.2.1)
   ·exact ih x hx
 exact all r x hx
theorem RA {kvs:List (List aA×V)}(ok:HOk P w H h)(e:H a=aa (.dT kvs)):kvs.length≤sizeLine/\(a==kH)=af /\
  ∃ xs,KT H kvs xs/\h.DictOfH (oZ P w) a xs:=tD ok (.inl e)
end
def A3s (H:Hp)(a:aD)(y:V)(r:Option V):Prop:=
 (∃ ep kvs k,Rd H a (.dK ep kvs)/\y=kV k/\r=jI kvs k)\/∃ kvs k b,Rd H a (.dT kvs)/\y=.ref b/\Avi H k b/\r=jI kvs k
def Bfq (H:Hp)(a:aD)(y v:V)(H':Nat->Hp):Prop:=
 (∃ ep kvs k,H a=aa (.dK ep kvs)/\y=kV k/\kvs.length<sizeLine/\H'=fun n=>ar H a (.dK n (putK kvs k v))) \/
 ∃ kvs k b,H a=aa (.dT kvs)/\y=.ref b/\Avi H k b/\kvs.length<sizeLine/\H'=fun _=>ar H a (.dT (putK kvs k v))
theorem A3s.t {H:Hp}{kvs:List (List aA×V)}{k:List aA}(e:H a=aa (.dT kvs))(eb:Avi H k b):A3s H a (.ref b) (jI kvs k):=.inr ⟨kvs,k,b,.inl e,rfl,eb,rfl⟩
theorem Bfq.t {H:Hp}{kvs:List (List aA×V)}{k:List aA}{v:V}(e:H a=aa (.dT kvs))(eb:Avi H k b)(hl:kvs.length<sizeLine) :
  Bfq H a (.ref b) v (fun _=>ar H a (.dT (putK kvs k v))):=.inr ⟨kvs,k,b,e,rfl,eb,hl,rfl⟩
section
variable {X:Cx}{σ:St}{H:Hp}{y v:V}{r:aC}{o:Option V}
theorem Inv.big (I:Inv X ad σ H s):kH<s.heap.objs.size:=by
 have h:eZ<s.heap.objs.size:=(I.mod.glob.keeps I.bk).lt;exact Nat.lt_trans (by decide) h
theorem Ob(hu:A.units+40<cLine)(I:Inv X ad σ H s)(g:A3s H a y (aa v))(ry:RelV y u)(h:∀ w' s',Inv X ad σ H s'->RelV v w'->Q w' s') :
  aJ (aP X.prog X.w) A (getItem (.ref a) u) Q E s:=by
 rcases g with⟨ep,kvs,k,e,ey,l⟩|⟨kvs,k,b,e,ey,eb,l⟩
 ·subst ey;obtain⟨z,hd,vs,iq,dd⟩:=qL I.hok e;obtain⟨w',hw,mo⟩:=As4.some_of (v:=v) (o:=xI vs k) (by rw[l];exact iq.val k)
  exact wpAny_getItem_of (tJ ry) dd.mapOf hw (h w' _ (I.tok _) mo)
 ·subst ey;cases(show u=fI b from ry)
  obtain⟨z,hd,xs,iq,dd⟩:=tD I.hok e;obtain⟨w',hw,mo⟩:=As4.some_of (v:=v) (o:=(atKey xs k).map (·.2)) (by rw[l];exact iq.val k)
  obtain⟨p,hp,hp2⟩:=kA.mp hw;refine wpAny_getItem_heap (BB hu) (qO I.hok eb) dd hp ?_;rw[hp2];exact h w' _ (I.tok _) mo
theorem Er(hu:A.units+40<cLine)(I:Inv X ad σ H s)(g:A3s H a y o)(ry:RelV y u)(h:∀ s',Inv X ad σ H s'->Q (.bool o.isSome) s') :
  aJ (aP X.prog X.w) A (kQ .In u (.ref a)) Q E s:=by
 rcases g with⟨ep,kvs,k,e,ey,l⟩|⟨kvs,k,b,e,ey,eb,l⟩
 ·subst ey;obtain⟨z,hd,vs,iq,dd⟩:=qL I.hok e;refine wpAny_in_of (tJ ry) hd dd.mapOf ?_;rw[← (iq.val k).isSome_eq,← l];exact h _ (I.tok _)
 ·subst ey;cases(show u=fI b from ry)
  obtain⟨z,hd,xs,iq,dd⟩:=tD I.hok e;refine wpAny_in_heap (BB hu) (qO I.hok eb) hd dd ?_;have q:=(iq.val k).isSome_eq;rw[Dd] at q;rw[← q,← l];exact h _ (I.tok _)
theorem Mh(hu:A.units+40<cLine)(I:Inv X ad σ H s)(g:A3s H a y o)(ry:RelV y u)(h:∀ s',Inv X ad σ H s'->Q (.bool (!o.isSome)) s') :
  aJ (aP X.prog X.w) A (kQ .NotIn u (.ref a)) Q E s:=by
 rcases g with⟨ep,kvs,k,e,ey,l⟩|⟨kvs,k,b,e,ey,eb,l⟩
 ·subst ey;obtain⟨z,hd,vs,iq,dd⟩:=qL I.hok e;refine wpAny_notIn_of (tJ ry) hd dd.mapOf ?_;rw[← (iq.val k).isSome_eq,← l];exact h _ (I.tok _)
 ·subst ey;cases(show u=fI b from ry)
  obtain⟨z,hd,xs,iq,dd⟩:=tD I.hok e;refine wpAny_notIn_heap (BB hu) (qO I.hok eb) hd dd ?_;have q:=(iq.val k).isSome_eq;rw[Dd] at q;rw[← q,← l];exact h _ (I.tok _)
theorem JR{ob:HO}(I:Inv X ad σ H s)(mu:yL (H a))(hs:nE a s.heap h')(he:∃ q,h'.get? a=aa q)(new:Adz X.prog X.w (ar H a ob) h' a ob) :
  Inv X ad σ (ar H a ob) { s with heap:=h',toks:=t' }:=
 I.write (x:=a) (e:=a) mu (.inl rfl) (fun b q hb z=>(hs.2 b hb).trans z) he new
theorem EG {P:bP}{w:bG}{H':Hp}{kvs:List (aO×V)}{vs:List (aO×aC)}(z:kvs.length≤sizeLine)(hd:(a==kH)=af)(iq:KV kvs vs)(dd:h'.DictAt (iT P w) a vs ep) :
  Adz P w H' h' a (.dK ep kvs):=⟨z,hd,vs,iq,dd⟩
theorem Yn {H':Nat->Hp}{Q:Unit->aH->Prop}(hu:A.units+40<cLine)(I:Inv X ad σ H s)(g:Bfq H a y v H')(ry:RelV y u)(rv:RelV v r)(h:∀ n s',Inv X ad σ (H' n) s'->Q () s') :
  aJ (aP X.prog X.w) A (setItem (.ref a) u r) Q E s:=by
 rcases g with⟨ep,kvs,k,e,ey,l,eH⟩|⟨kvs,k,b,e,ey,eb,l,eH⟩
 ·subst ey eH;obtain⟨z,hd,vs,iq,dd⟩:=JD I.hok e;have hz:vs.length≤sizeLine:=by rw[← iq.length];exact z
  have hl:(putK kvs k v).length≤sizeLine:=by have:=GG kvs k v;omega
  refine wpAny_setItem_pairs (hsz:=hz) (tJ ry) dd fun h' ug hs=>?_
  have he:∃ q,h'.get? a=aa q:=let ⟨q,_,_,hq,_⟩:=ug;⟨q,hq⟩;obtain⟨n,da⟩:=ug.dictAt;exact h n _ (JR I (by rw[e];exact rC) hs he (EG hl hd (iq.put k rv) da))
 ·subst ey eH;cases(show u=fI b from ry)
  obtain⟨z,hd,xs,iq,dd⟩:=RA I.hok e;have hz:xs.length≤sizeLine:=by rw[← mZ iq];exact z
  have hl:(putK kvs k v).length≤sizeLine:=by have:=GG kvs k v;omega
  refine wpAny_setItem_heap (hsz:=hz) (BB hu) (qO I.hok eb) dd fun h' ug hs=>h 0 _ ?_
  obtain⟨q,es,ep,hq,h2,h3,h4,_,h5⟩:=ug;refine JR I (by rw[e];exact rC) hs ⟨q,hq⟩ ⟨hl,hd,_,(iq.put k eb rv).keeps fun c ys ec=>?_,q,es,ep,hq,h2,h3,h4,h5⟩
  rw[fR (Gn ec e (fun z=>nomatch z))]
  exact ec
end
section
variable {X:Cx}{σ:St}{H:Hp}{kvs:List (aO×V)}{k:aO}
theorem Gi(I:Inv X ad σ H s)(e:Rd H a (.dK ep kvs))(h:∀ t s',Inv X ad σ H s'->Q (.int kvs.length t) s'):aJ (aP X.prog X.w) A (call (.builtin "len") [.ref a]) Q E s:=by
 obtain⟨z,hd,vs,iq,dd⟩:=qL I.hok e;refine call_len_dict hd dd (by rw[← iq.length];rw[mU] at z;omega) ?_
 rw[← iq.length];exact h _ _ (I.tok _)
end
def QP (i:bF):Prop:=∀ ov iv,NW i af ov iv=operate [ov,iv] (getItem ov iv)
theorem Lp{w:bG}{env:Env}{value fw:bF}{T id:String}
  (hl:xK (.type T) "__getitem__" = pure (aa (.builtin id))) (hs:QP fw)
  (h:aJ (aP prog w) A (cD value env) (fun o s₁=>aJ (aP prog w) A (cD fw env) (fun i s₂=>s₂.TypeIs o T/\aJ (aP prog w) A (getItem o i) Q E s₂) E s₁) E s) :
  aJ (aP prog w) A (cD (.Subscript value fw pos) env) Q E s:=by
 refine Subscript_ (lZ h (fun o s₁ h₁=>lZ h₁ (fun i s₂ h₂=>?_) fun _ _ x=>x) fun _ _ x=>x)
 obtain⟨hT,h₂⟩:=h₂;unfold subscriptTail;rw[9];rw[getitemInPython_of_ne hT.not_modules];refine aF (xG hT hl ?_);have fin:aJ (aP prog w) A (NW fw af o i) (fun r s₃=>aJ (aP prog w) A (letTemporaryGo value o r>>=fun _=>pure r) Q E s₃) E s₂:=by
  rw[hs o i];exact wpAny_operating (lZ h₂ (fun r s₃ h₃=>aF (wpAny_letTemporaryGo (aQ h₃))) fun _ _ x=>x)
 first
  |exact aQ (aF fin)
  |exact aF (aQ (aF fin))
  |exact aF fin
theorem Qs {X:Cx}{σ:St}{H:Hp}{y:V}{o:Option V}(I:Inv X ad σ H s)(g:A3s H a y o):s.TypeIs (.ref a) "dict":=by
 rcases g with⟨ep,kvs,k,e,_,_⟩|⟨kvs,k,b,e,_,_,_⟩
 ·obtain⟨_,_,vs,_,dd⟩:=qL I.hok e;exact dd.typeIs
 ·obtain⟨_,_,xs,_,dd⟩:=tD I.hok e;exact dd.typeIs
def Gx (td ty:TE):TE:=fun σ H Q=>td σ H fun x H1=>ty σ H1 fun y H2=>∃ a v,x=.ref a/\A3s H2 a y (aa v)/\Q v H2
def Hc (td ty tv:TE):TS:=fun D σ H=>tv σ H fun v H1=>td σ H1 fun x H2=>ty σ H2 fun y H3=>∃ a H4,x=.ref a/\Bfq H3 a y v H4/\∀ n,D.nx σ (H4 n)
section
variable {X:Cx}{o i value:bF}{mn wf:cV}{td ty tv:TE}
theorem Uw (hu:X.A.units+40<cLine)(ho:PE X o td)(hi:PE X i ty)(hs:QP i):PE X (.Subscript o i pos) (Gx td ty):=by
 rw[6];refine Lp PySem.F.slot_dict_getitem.lookup hs (bp (ho ad s σ H _ I h) fun u s1 ⟨x,H1,I1,rx,q1⟩=>bp (hi ad s1 σ H1 _ I1 q1) fun iv s2 gh=>?_)
 obtain⟨y,H2,I2,ry,a,v,ex,g,q2⟩:=gh;subst ex;obtain rfl:u=fI a:=rx;exact⟨Qs I2 g,Ob hu I2 g ry fun w' s3 I3 mo=>⟨v,H2,I3,mo,q2⟩⟩
theorem Bq (hu:X.A.units+40<cLine)(ho:PE X o td)(hi:PE X i ty)(hv:PE X value tv)(hs:pE value (aa (.Subscript o i mn)) pos.line X.env=pure af) :
  PS X (.Assign [.Subscript o i mn] value pos) (Hc td ty tv):=by
 intro ad s σ H D I h;refine wpAny_Assign_Subscript (bp (hv ad s σ H _ I h) fun r s1 ⟨v,H1,I1,rv,q1⟩=>bp (ho ad s1 σ H1 _ I1 q1) fun u s2 ⟨x,H2,I2,rx,q2⟩=>bp (hi ad s2 σ H2 _ I2 q2) fun iv s3 ⟨y,H3,I3,ry,a,H4,ex,g,q3⟩=>?_) hs
 subst ex;obtain rfl:u=fI a:=rx;exact Yn hu I3 g ry rv fun n s4 I4=>⟨σ,H4 n,I4,q3 n⟩
end
theorem Wm {P:bP}{w:bG}{H:Hp}(h:aY)(hb:kH<h.objs.size):Adz P w H (h.push { cls:=.type "dict",data:=.dict #[] }) h.objs.size (.dK 0 []):=
 ⟨dS _,beq_eq_false_iff_ne.mpr (kR (dI hb)),[],.nil,_,#[],eD _ rfl,⟨rfl,rfl,rfl⟩,rfl,fun _ he=>by simp at he,Pairs.nil,HY⟩
theorem Xk {P:bP}{w:bG}{H:Hp}(h:aY)(hb:kH<h.objs.size):Adz P w H (h.push { cls:=.type "dict",data:=.dict #[] }) h.objs.size (.dT []):=
 ⟨dS _,beq_eq_false_iff_ne.mpr (kR (dI hb)),[],.nil,_,#[],0,eD _ rfl,⟨rfl,rfl,rfl⟩,rfl,rfl,HY⟩
def Iq:TE:=fun _ H Q=>∀ p,H p=ab->Q (.ref p) (ar H p (.dK 0 []))
def Ji:TE:=fun _ H Q=>∀ p,H p=ab->Q (.ref p) (ar H p (.dT []))
section
variable {X:Cx}
theorem Xb:PE X (.Dict [] [] pos) Iq:=fun ad s σ H Q I h=>
 wpAny_Dict_empty ⟨.ref s.heap.objs.size,_,I.laid (a:=s.heap.objs.size) (o:=.dK 0 []) (t':=s.toks) (fun _ _ q=>cH _ q) (cE _) (Wm s.heap I.big),rfl,h _ (I.hok.fresh (cE _))⟩
theorem Xm:PE X (.Dict [] [] pos) Ji:=fun ad s σ H Q I h=>
 wpAny_Dict_empty ⟨.ref s.heap.objs.size,_,I.laid (a:=s.heap.objs.size) (o:=.dT []) (t':=s.toks) (fun _ _ q=>cH _ q) (cE _) (Xk s.heap I.big),rfl,h _ (I.hok.fresh (cE _))⟩
end
def rQ (kvs more:List (aO×V)):List (aO×V):=more.foldl (fun ai kv=>putK ai kv.1 kv.2) kvs
theorem KV.merge:∀ {more:List (aO×V)} {rs:List (aO×aC)} {kvs:List (aO×V)} {vs:List (aO×aC)},KV more rs->KV kvs vs->KV (rQ kvs more) (qC vs rs):=by
 intro more rs kvs vs r;unfold KV at r;induction r generalizing kvs vs with
 |nil=>intro q;exact q
 |@cons p q ps qs h t ih=>
  intro r0;have e:KV (putK kvs p.1 p.2) (uI vs q.1 q.2):=by
   have:=r0.put p.1 h.2;rw[← h.1];exact this
  exact ih e
theorem ZO:∀ (more kvs:List (aO×V)),(rQ kvs more).length≤kvs.length+more.length
 |[],kvs=>by show kvs.length≤kvs.length+0;omega
 |p::r,kvs=>by
  have h1:=ZO r (putK kvs p.1 p.2);have h2:=GG kvs p.1 p.2;show(rQ (putK kvs p.1 p.2) r).length≤_;rw[hW];omega
structure M2 (X:Cx)(o:bF)(m:aE)(bq:cV)(e f:bF)(aw:cV):Prop where
 base:xS o m X.env (cD o X.env)=cD o X.env
 few:((iI aw (bY [e,f] X.env)).all (fun x=>!x.1)&&(xR aw (xP [] X.env)).all (fun x=>x.1.isSome)
  && decide (([e,f]:List bF).length+([]:List nD).length+(if ([]:List nD).isEmpty then 0 else 1)<30))=ae
 line:(bq.endLine==aw.line)=ae
 trees:iI aw (bY [e,f] X.env)=[(af,cD e X.env),(af,cD f X.env)]
def IsD (H:Hp)(a:aD):Prop:=(∃ ep kvs,Rd H a (.dK ep kvs))\/∃ kvs,Rd H a (.dT kvs)
theorem Kl {X:Cx}{σ:St}{H:Hp}(I:Inv X ad σ H s)(d:IsD H a) :
  s.TypeIs (.ref a) "dict" /\ (∀ b,fI a=.ref b->∃ ob,s.heap.get? b=aa ob/\ob.dict=ab)/\(a==kH)=af:=by
 rcases d with⟨ep,kvs,e⟩|⟨kvs,e⟩
 ·obtain⟨_,hd,vs,_,dd⟩:=qL I.hok e;refine⟨dd.typeIs,fun b q=>?_,hd⟩
  cases q;obtain⟨ob,_,_,h1,h2,_⟩:=dd;exact⟨ob,h1,h2.2.1⟩
 ·obtain⟨_,hd,xs,_,dd⟩:=tD I.hok e;refine⟨dd.typeIs,fun b q=>?_,hd⟩
  cases q;obtain⟨ob,_,_,h1,h2,_⟩:=dd;exact⟨ob,h1,h2.2.1⟩
section
variable {X:Cx}{σ:St}{H:Hp}{y d:V}{r:aC}{o:Option V}
theorem Hg(hu:A.units+40<cLine)(I:Inv X ad σ H s)(g:A3s H a y o)(ry:RelV y u)(rd:RelV d r)(h:∀ w' s',Inv X ad σ H s'->RelV (o.getD d) w'->Q w' s') :
  aJ (aP X.prog X.w) A (call (.builtin "dict.get") [.ref a,u,r]) Q E s:=by
 rcases g with⟨ep,kvs,k,e,ey,l⟩|⟨kvs,k,b,e,ey,eb,l⟩
 ·subst ey;obtain⟨z,hd,vs,iq,dd⟩:=qL I.hok e;refine OB Da dd.typeIs PySem.F.entry_dict_get (c7 _ _ _) (meets_dict_get_default (iT X.prog X.w) a (tJ ry) hd r) ⟨_,dd.mapOf,h _ _ (I.tok _) ?_⟩;rw[l];exact(iq.val k).getD rd
 ·subst ey;cases(show u=fI b from ry)
  obtain⟨z,hd,xs,iq,dd⟩:=tD I.hok e;refine OB Da dd.typeIs PySem.F.entry_dict_get (c7 _ _ _) (meetsH_dict_get_default (oZ X.prog X.w) a b hd r) ⟨BB hu,k,xs,qO I.hok eb,dd,h _ _ (I.tok _) ?_⟩;rw[l];exact(iq.val k).getD rd
end
def Jf (td ty tx:TE):TE:=fun σ H Q=>td σ H fun x H1=>∃ a,x=.ref a/\IsD H1 a/\ty σ H1 fun y H2=>tx σ H2 fun z H3=>∃ o,A3s H3 a y o/\Q (o.getD z) H3
section
variable {X:Cx}{o f:bF}{bq aw:cV}{td ty tx:TE}
theorem Xp (hu:X.A.units+40<cLine)(ho:PE X o td)(he:PE X e ty)(hf:PE X f tx)(m:M2 X o "get" bq e f aw):PE X (.Call (.Attribute o "get" bq) [e,f] [] aw) (Jf td ty tx):=by
 rw[6];refine wpAny_Call_method m.base m.few m.line b8 Da PySem.F.type_dict_get (bp (ho ad s σ H _ I h) fun u s1 gh=>?_)
 obtain⟨x,H1,I1,rx,a,ex,d,q1⟩:=gh;subst ex;obtain rfl:u=fI a:=rx;obtain⟨t1,t2,_⟩:=Kl I1 d;refine⟨t1,t2,?_⟩;rw[m.trees];refine Calls.callWith_builtin rfl (Calls.evalArgs_plain (PY (bp (he ad s1 σ H1 _ I1 q1) fun iv s2 ⟨y,H2,I2,ry,q2⟩=>
  PY (bp (hf ad s2 σ H2 _ I2 q2) fun fv s3 ⟨z,H3,I3,rz,ov,g,q3⟩=>Ef ?_))))
 exact Hg hu I3 g ry rz fun w' s4 I4 mo=>⟨_,H3,I4,mo,q3⟩
end
section
variable {X:Cx}{σ:St}{H:Hp}{kvs:List (aO×V)}
theorem Wq(I:Inv X ad σ H s)(e:Rd H a (.dK ep kvs))(h:∀ p n s',H p=ab->Inv X ad σ (ar H p (.dK n kvs)) s'->Q (.ref p) s'):aJ (aP X.prog X.w) A (call (.type "dict") [.ref a]) Q E s:=by
 obtain⟨z,hd,vs,iq,dd⟩:=qL I.hok e;refine kt_call_dict hd dd (by rw[← iq.length];exact z) fun h' ug hs=>?_
 obtain⟨n,da⟩:=ug.dictAt;refine h _ n _ (I.hok.fresh (cE _)) (I.laid (a:=s.heap.objs.size) (o:=.dK n kvs) (t':=s.toks) (fun b q hq=>?_) (cE _) (EG z (beq_eq_false_iff_ne.mpr (kR (dI I.big))) iq da))
 exact(hs.2 b (dI (cA hq))).trans (cH _ hq)
end
end L2
namespace HT
open PySem PyProof.Rows
section
variable {prog:bP}{w:bG}{A:bZ}{E:aC->aH->Prop}{s:aH}
theorem Bbi {t b:aD}{vs ws:List aC}{Q:aC->aH->Prop}(ht:IsTup s.heap t vs.toArray)(hb:IsTup s.heap b ws.toArray)(hv:vs≠[])
  (h1:ws=[]->Q (.ref t) s) (h2:ws≠[]->Q (.ref s.heap.objs.size) { s with heap:=s.heap.push { cls:=.type "tuple",data:=.seq (vs++ws).toArray } })
  (hsz:vs.length+ws.length≤sizeLine):aJ (aP prog w) A (mV .Add (.ref t) (.ref b)) Q E s:=by
 obtain⟨⟨cls,dd,data,sl⟩,ho,hc,n,hd⟩:=id ht;obtain⟨⟨J2,E1,data2,E2⟩,wg,vi,n2,wj⟩:=id hb;simp only at hc hd vi wj;subst hc hd vi wj;have e:vs.toArray++ws.toArray=(vs++ws).toArray:=by simp
 by_cases hw:ws=[]
 ·exact concat_meets ⟨_,ho,rfl⟩ ⟨_,wg,rfl⟩ noFill_tuple_add seq_tuple_add PySem.F.slot_tuple_add b9 (c6 _ _)
   (tuple_addW1 t b vs.toArray ws.toArray n n2 dd E1 sl E2 (by simpa using hv) (by simp[hw])) ⟨ho,wg,h1 hw⟩
 ·refine concat_meets ⟨_,ho,rfl⟩ ⟨_,wg,rfl⟩ noFill_tuple_add seq_tuple_add PySem.F.slot_tuple_add b9 (c6 _ _)
   (tuple_addW2 t b vs.toArray ws.toArray n n2 dd E1 sl E2 (by simpa using hv) (by simpa using hw) (by rw[gG,gG];exact hsz)) ⟨ho,wg,?_⟩
  rw[e];exact h2 hw
def sIx (n d:Nat):Option Int->Nat
 |none=>d
 |some v=>if v<0 then(v+(n:Int)).toNat else min v.toNat n
theorem Aoq (n d:Nat):sIx n d ab=d:=rfl
theorem At3 (n d k:Nat):sIx n d (aa (k:Int))=min k n:=by
 show(if (k:Int)<0 then((k:Int)+(n:Int)).toNat else min (k:Int).toNat n)=min k n
 rw[if_neg (by omega),lR]
end
end HT
namespace L2
open PySem PySem.Spec PyProof.Rows
variable {xs:List V}{n:Nat}{ad:List (aD×bI)}{σ:St}{H:Hp}{s:aH}{its:List aC}{X:Cx}
abbrev TO:=St->Hp->(Option Int->Hp->Prop)->Prop
def PO (X:Cx)(e:Option bF)(t:TO):Prop:=
 ∀ (ad:List (aD×bI)) (s:aH) (σ:St) (H:Hp) (Q:Option Int->Hp->Prop),Inv X ad σ H s->t σ H Q ->
  aJ (aP X.prog X.w) X.A (evalPart e X.env) (fun u s'=>∃ o H',Inv X ad σ H' s'/\IsPart u o/\Q o H') X.xe s
def Uh:TO:=fun _ H Q=>Q ab H
def Ga (t:TE):TO:=fun σ H Q=>t σ H fun x H1=>∃ i,x=.int i/\Q (aa i) H1
section
variable {e:bF}{te:TE}{lo hi:Option bF}{tl th:TO}{pos p2:cV}
theorem Me:PO X ab Uh:=by
 rw[6];rw[evalPart_none];exact aQ ⟨ab,H,I,.none,h⟩
theorem Ma (h:PE X e te):PO X (aa e) (Ga te):=by
 intro ad s σ H Q I hw;rw[evalPart_some];refine bp (h ad s σ H _ I hw) fun u s1 gh=>?_
 obtain⟨x,H1,I1,r1,q1⟩:=gh;obtain⟨i,rfl,q⟩:=q1;obtain⟨t,rfl⟩:=r1;exact⟨aa i,H1,I1,.int i t,q⟩
def SlR (X:Cx)(r:V->Option Int->Option Int->Hp->VK->Prop):Prop:=
 ∀ (ad:List (aD×bI)) (s:aH) (σ:St) (H:Hp) (x:V) (v vl vu:aC) (lo hi:Option Int) (sl:aD) (Q:VK),Inv X ad σ H s->RelV x v->s.heap.IsSliceOf sl vl vu .none->IsPart vl lo->IsPart vu hi->r x lo hi H Q ->
  ∃ T id,xK (.type T) "__getitem__" = pure (aa (.builtin id))/\s.TypeIs v T/\aJ (aP X.prog X.w) X.A (getItem v (.ref sl)) (EP X ad σ Q) X.xe s
def tSl (r:V->Option Int->Option Int->Hp->VK->Prop)(te:TE)(tl th:TO):TE:=fun σ H Q=>te σ H fun x H1=>tl σ H1 fun l H2=>th σ H2 fun u H3=>r x l u H3 Q
theorem Ye {r:V->Option Int->Option Int->Hp->VK->Prop}(hr:SlR X r)(he:PE X e te)(hl:PO X lo tl)(hu:PO X hi th):PE X (.Subscript e (.Slice lo hi ab p2) pos) (tSl r te tl th):=by
 rw[6];refine Subscript_ (bp (he ad s σ H _ I h) fun v s1 gh=>?_)
 obtain⟨x,H1,I1,r1,q1⟩:=gh;refine wpAny_Slice (bp (hl ad s1 σ H1 _ I1 q1) fun vl s2 ⟨l,H2,I2,pl,q2⟩=>bp (hu ad s2 σ H2 _ I2 q2) fun vu s3 gh=>?_)
 obtain⟨u,H3,I3,pu,q3⟩:=gh;rw[evalPart_none];refine aQ ?_;have I4:Inv X ad σ H3 { s3 with heap:=s3.heap.push { cls:=.type "slice",data:=.fields #[vl,vu,.none] } }:=I3.kept (t':=s3.toks) fun b ob q=>cH _ q
 obtain⟨T,id,hT,ht,hg⟩:=hr ad { s3 with heap:=s3.heap.push { cls:=.type "slice",data:=.fields #[vl,vu,.none] } } σ H3 x v vl vu l u s3.heap.objs.size Q I4 r1 (Heap.IsSliceOf.new ..) pl pu q3;show aJ (aP X.prog X.w) X.A (subscriptTail e (.Slice lo hi ab p2) v (.ref s3.heap.objs.size)) (EP X ad σ Q) X.xe { s3 with heap:=s3.heap.push { cls:=.type "slice",data:=.fields #[vl,vu,.none] } };exact tail_any (ops:=[.ref s3.heap.objs.size,v]) ht hT hg (by with_unfolding_all rfl)
def yP (xs:List V)(lo hi:Option Int):List V:=(xs.drop (HT.sIx xs.length 0 lo)).take (HT.sIx xs.length xs.length hi-HT.sIx xs.length 0 lo)
theorem Rr (xs:List V)(lo hi:Option Int):(yP xs lo hi).length≤xs.length:=by
 unfold yP;rw[oG,List.length_drop];omega
def RL (K:aM):R2:=fun x y H Q=>∃ a b xs ys,x=.ref a/\y=.ref b/\SqT K H a xs/\SqT K H b ys/\xs≠[]/\xs.length+ys.length≤sizeLine /\
 (ys=[]->Q (.ref a) H)/\(ys≠[]->∀ p,H p=ab->Q (.ref p) (ar H p (.tup (xs++ys))))
theorem Vals.nil_iff{us:List aC}(r:Vals xs us):us=[]↔xs=[]:=by
 cases r with
 |nil=>simp
 |cons _ _=>simp
theorem Um:OpR X (mV .Add) (RL X.K):=by
 rw[3];obtain⟨a,b,xs,ys,rfl,rfl,ha,hb,hx,hz,q1,q2⟩:=h;cases rx;cases ry;obtain⟨its,r1,p1,_⟩:=I.tuple ha;obtain⟨gx,r2,p2,_⟩:=I.tuple hb;refine HT.Bbi p1 p2 (fun z=>hx (r1.nil_iff.mp z)) (fun z=>⟨.ref a,H,I,rfl,q1 (r2.nil_iff.mp z)⟩) (fun z=>?_) (by rw[← r1.length,← r2.length];exact hz)
 refine⟨.ref s.heap.objs.size,_,I.laid (t':=s.toks) (o:=.tup (xs++ys)) (fun b ob q=>cH _ q) (cE _) ?_,rfl,q2 (fun w=>z (r2.nil_iff.mpr w)) _ (I.hok.fresh (cE _))⟩
 exact⟨by rw[mF];exact hz,_,r1.append r2,Bcm.new _ _⟩
end
def l8 (n:Nat)(i:Int):Option Nat:=if 0≤i then(if i<n then aa i.toNat else ab) else if -(n:Int)≤i then aa (i+n).toNat else ab
def jg {α:Type}(xs:List α)(i:Int):Option α:=(l8 xs.length i).bind fun j=>xs[j]?
theorem Bv{i:Int}{j:Nat}(h:l8 n i=aa j):seqIndex? i n=aa j/\j<n /\ -(n:Int)≤i/\i<n:=by
 unfold l8 at h;by_cases h0:0≤i
 ·rw[if_pos h0] at h;by_cases h1:i<n
  ·rw[if_pos h1] at h;have e:i.toNat=j:=gY h;exact⟨by rw[seqIndex_of h0 h1,e],by omega,by omega,h1⟩
  ·rw[if_neg h1] at h;cases h
 ·rw[if_neg h0] at h;by_cases h1 : -(n:Int)≤i
  ·rw[if_pos h1] at h;have e:(i+n).toNat=j:=gY h;exact⟨by rw[seqIndex_neg (by omega) h1,e],by omega,h1,by omega⟩
  ·rw[if_neg h1] at h;cases h
theorem KC {α:Type}{xs:List α}{i:Int}{v:α}(h:jg xs i=aa v):∃ j,seqIndex? i xs.length=aa j/\xs[j]?=aa v/\j<xs.length /\ -(xs.length:Int)≤i/\i<xs.length:=by
 unfold jg at h;cases e:l8 xs.length i with
 |none=>rw[e] at h;cases h
 |some j=>
  rw[e] at h;obtain⟨h1,h2,h3,h4⟩:=Bv e;exact⟨j,h1,h,h2,h3,h4⟩
theorem rU {α:Type}{xs:List α}{j:Nat}{v:α}(h:xs[j]?=aa v):jg xs (j:Int)=aa v:=by
 have hj:j<xs.length:=(dF.mp h).1;have e:l8 xs.length (j:Int)=aa j:=by
  unfold l8;rw[if_pos (by omega),if_pos (by omega)];simp
 unfold jg;rw[e];exact h
def Bt (b:bF):Prop:=∀ o i,NW b af o i=operate [o,i] (getItem o i)
def IxR (X:Cx)(r:R2):Prop:=
 ∀ (value fw:bF) (ad:List (aD×bI)) (s:aH) (σ:St) (H:Hp) (x y:V) (v u:aC) (Q:VK),Inv X ad σ H s->RelV x v->RelV y u->r x y H Q ->
  NW fw af v u=operate [v,u] (getItem v u)->aJ (aP X.prog X.w) X.A (subscriptTail value fw v u) (EP X ad σ Q) X.xe s
def S8 (X:Cx)(id:String)(r:V->List V->Hp->VK->Prop):Prop:=
 ∀ (ad:List (aD×bI)) (s:aH) (σ:St) (H:Hp) (x:V) (xs:List V) (v:aC) (us:List aC) (Q:VK),Inv X ad σ H s->RelV x v->Vals xs us->r x xs H Q ->
  aJ (aP X.prog X.w) X.A (call (.builtin id) (v::us)) (EP X ad σ Q) X.xe s
section
variable {a b:bF}{ta tb:TE}{pos:cV}
theorem IxR.or {r r':R2}(h:IxR X r)(h':IxR X r'):IxR X (fun x y H Q=>r x y H Q\/r' x y H Q):=by
 intro value fw ad s σ H x y v u Q I rx ry q hs;rcases q with q|q
 ·exact h value fw ad s σ H x y v u Q I rx ry q hs
 ·exact h' value fw ad s σ H x y v u Q I rx ry q hs
theorem Gf {r:R2}(hr:IxR X r)(ha:PE X a ta)(hb:PE X b tb)(hs:Bt b):PE X (.Subscript a b pos) (yk r ta tb):=by
 rw[6];exact Subscript_ (IS ha hb I h fun v u s2 x y H2 I2 rx ry q=>hr a b ad s2 σ H2 x y v u Q I2 rx ry q (hs _ _))
def QO (K:aM):R2:=fun x y H Q=>∃ p xs i v,x=.ref p/\y=.int i/\SqL K H p xs/\jg xs i=aa v/\Q v H
def QM (K:aM):R2:=fun x y H Q=>∃ p xs i v,x=.ref p/\y=.int i/\SqT K H p xs/\jg xs i=aa v/\Q v H
def QI:R2:=fun x y H Q=>∃ z i c,x=.str z/\y=.int i/\z.length≤sizeLine/\jg z.cps.toList i=aa c/\Q (.str ⟨#[c]⟩) H
theorem Bbj:IxR X (QO X.K):=by
 intro value fw ad s σ H x y v u Q I rx ry h hs;obtain⟨p,xs,i,z,rfl,rfl,hq,he,q⟩:=h;cases rx;obtain⟨t,rfl⟩:=ry;obtain⟨its,r,pl,hz⟩:=I.list hq;obtain⟨j,h1,h2,h3,h4,h5⟩:=KC he;obtain⟨w,ew,mo⟩:=r.get h2;have hl:=r.length;have hn:=tP;have fin:EP X ad σ Q w s:=⟨z,H,I,mo,q⟩;by_cases h0:0≤i
 ·have hj:i.toNat=j:=by
   rw[seqIndex_of h0 h5] at h1;exact gY h1
  exact item_listR pl.isList h0 (by omega) (by rw[hj];simpa using ew) fin hs
 ·have hj:(i+(its.toArray.size:Int)).toNat=j:=by
   rw[seqIndex_neg (by omega) h4] at h1
   rw[gG,← hl];exact gY h1
  exact subscriptTail_builtinR (x:=w) pl.isList.typeIs slot_list_getitem.lookup
   (wpAny_getItem_list_neg (Q:=fun r s'=>r=w/\EP X ad σ Q r s') pl.isList (by omega) (by rw[gG]<;>omega) (by omega) (by rw[hj];simpa using ew) ⟨rfl,fin⟩) hs
theorem Bee:IxR X (QM X.K):=by
 intro value fw ad s σ H x y v u Q I rx ry h hs;obtain⟨p,xs,i,z,rfl,rfl,hq,he,q⟩:=h;cases rx;obtain⟨t,rfl⟩:=ry;obtain⟨its,r,pl,hz⟩:=I.tuple hq;obtain⟨j,h1,h2,h3,h4,h5⟩:=KC he;obtain⟨w,ew,mo⟩:=r.get h2;have hl:=r.length;have hn:=tP;have fin:EP X ad σ Q w s:=⟨z,H,I,mo,q⟩;exact subscriptTail_builtinR (x:=w) pl.typeIs slot_tuple_getitem.lookup
  (getItem_tuple (j:=j) (Q:=fun r s'=>r=w/\EP X ad σ Q r s') pl (by omega) (by omega) (by rw[gG,← hl];exact h1) (by simpa using ew) ⟨rfl,fin⟩) hs
theorem Lb:IxR X QI:=by
 intro value fw ad s σ H x y v u Q I rx ry h hs;obtain⟨z,i,c,rfl,rfl,hz,he,q⟩:=h;obtain⟨t,rfl⟩:=rx;obtain⟨t',rfl⟩:=ry;obtain⟨j,h1,h2,h3,h4,h5⟩:=KC he;have hl:z.cps.toList.length=z.length:=by simp[Str.length]
 rw[hl] at h1 h4 h5;have hn:=tP;exact tail_any (typeIs_str s z t) slot_str_getitem.lookup (getItem_str (c:=c) (by
  have e1:decide (i < -(2^63:Int))=af:=decide_eq_false (by omega)
  have e2:decide (i ≥ 2^63)=af:=decide_eq_false (by omega)
  rw[e1,e2,Bool.or_false]) (by rw[h1];simpa using h2) ⟨.str ⟨#[c]⟩,H,I.tok _,⟨_,rfl⟩,q⟩) hs
def U2 (K:aM):R2:=fun x y H Q=>QO K x y H Q\/QM K x y H Q\/QI x y H Q
theorem Jt:IxR X (U2 X.K):=Bbj.or (Bee.or Lb)
theorem Pc (its:List aC)(n j:Nat)(u:aC):gF (·.setIfInBounds j u) { cls:=.type "list",data:=.seq its.toArray n }={ cls:=.type "list",data:=.seq (its.set j u).toArray n }:=by
 simp[gF]
theorem Inv.lst{p:aD}(I:Inv X ad σ H s)(h:H p=aa (.lst xs)) :
  ∃ (its:List aC) (n:Nat),Vals xs its/\s.heap.get? p=aa { cls:=.type "list",data:=.seq its.toArray n }/\xs.length≤sizeLine:=by
 obtain⟨z,its,n,r,e⟩:=I.hok p _ h;exact⟨its,n,r,e,z⟩
theorem Inv.lstUpd{p:aD}{ys:List V}{its':List aC}{n':Nat}{f:bI->bI}(I:Inv X ad σ H s)(h:H p=aa (.lst xs))
  (ho:s.heap.get? p=aa { cls:=.type "list",data:=.seq its.toArray n }) (hf:f { cls:=.type "list",data:=.seq its.toArray n }={ cls:=.type "list",data:=.seq its'.toArray n' }) (r:Vals ys its') (hz:ys.length≤sizeLine) (t:Nat) :
  Inv X ad σ (ar H p (.lst ys)) { s with heap:=s.heap.update p f,toks:=t }:=by
 have e:(s.heap.update p f).get? p=aa { cls:=.type "list",data:=.seq its'.toArray n' }:=by
  rw[qJ f ho (by rw[hf]<;>rfl),hf]
 refine I.write (x:=p) (e:=p) (by rw[h];trivial) (.inl rfl) (fun b u hb q=>(sU _ _ (kR hb)).trans q) ⟨_,e⟩ ?_
 exact⟨hz,its',n',r,e⟩
def Ge:V->V->V->Hp->(Hp->Prop)->Prop:=fun o i v H Q=>∃ p xs k j,o=.ref p/\i=.int k/\H p=aa (.lst xs)/\l8 xs.length k=aa j/\Q (ar H p (.lst (xs.set j v)))
theorem set_list:QN X Ge:=by
 intro ad s σ H o i v ov iv u Q I ro ri rv h;obtain⟨p,xs,k,j,rfl,rfl,hp,hj,q⟩:=h;cases ro;obtain⟨t,rfl⟩:=ri;obtain⟨its,n,r,ho,hz⟩:=I.lst hp;obtain⟨h1,h2,h3,h4⟩:=Bv hj;have hl:=r.length;have hn:=tP;have I':Inv X ad σ (ar H p (.lst (xs.set j v))) { s with heap:=s.heap.update p (gF (·.setIfInBounds j u)) }:=
  I.lstUpd hp ho (Pc its n j u) (r.set rv j) (by rw[List.length_set];exact hz) s.toks
 by_cases h0:0≤k
 ·have hk:k.toNat=j:=by
   rw[seqIndex_of h0 h4] at h1;exact gY h1
  exact PySem.W.ki_setAt ho h0 (by omega) (by rw[gG,← hl];exact h4) (by rw[hk];exact⟨_,I',q⟩)
 ·have hk:(k+(its.toArray.size:Int)).toNat=j:=by
   rw[seqIndex_neg (by omega) h3] at h1
   rw[gG,← hl];exact gY h1
  exact PySem.W.ki_setBack ho (by omega) (by rw[gG,← hl];exact h3) (by omega) (by rw[hk];exact⟨_,I',q⟩)
theorem Ru (lo hi:Option Int)(n:Nat):(xM lo hi ab n).1=((HT.sIx n 0 lo:Nat):Int)/\(xM lo hi ab n).2.1=((HT.sIx n n hi:Nat):Int)/\(xM lo hi ab n).2.2=1:=by
 refine⟨?_,?_,rfl⟩
 ·cases lo with
  |none=>simp[xM,HT.sIx]
  |some i=>
   simp only[xM,HT.sIx,Option.getD_none,show(1:Int) > 0 by decide,if_true]
   by_cases h:i<0
   ·simp only[h,if_true]<;>omega
   ·simp only[h,if_false]<;>omega
 ·cases hi with
  |none=>simp[xM,HT.sIx]
  |some i=>
   simp only[xM,HT.sIx,Option.getD_none,show(1:Int) > 0 by decide,if_true]
   by_cases h:i<0
   ·simp only[h,if_true]<;>omega
   ·simp only[h,if_false]<;>omega
theorem Td (its:List aC)(lo hi:Option Int):slicePick its.toArray lo hi ab=((its.drop (HT.sIx its.length 0 lo)).take (HT.sIx its.length its.length hi-HT.sIx its.length 0 lo)).toArray:=by
 obtain⟨h1,h2,h3⟩:=Ru lo hi its.toArray.size;unfold slicePick;rw[h1,h2,h3];simp only[sliceRange_one,pick_run,gG]<;>rfl
def Fc (K:aM):V->Option Int->Option Int->Hp->VK->Prop:=fun x lo hi H Q=>∃ a xs,x=.ref a/\SqL K H a xs/\∀ p,H p=ab->Q (.ref p) (ar H p (.lst (yP xs lo hi)))
theorem Lq:SlR X (Fc X.K):=by
 intro ad s σ H x v vl vu lo hi sl Q I rx hs pl pu h;obtain⟨a,xs,rfl,hx,q⟩:=h;cases rx;obtain⟨its,r,ht,hz⟩:=I.list hx;have bg:=r.length;refine⟨"list",_,slot_list_getitem.lookup,ht.isList.typeIs,?_⟩;refine wpAny_getItem_list_slice ht.isList hs pl pu .none (by simp) ?_ (by rw[gG]<;>omega)
 rw[Td,← bg];refine⟨.ref s.heap.objs.size,_,I.laid (t':=s.toks) (o:=.lst (yP xs lo hi)) (fun b ob q=>cH _ q) (cE _) ?_,rfl,q _ (I.hok.fresh (cE _))⟩
 exact⟨iU (Rr xs lo hi) hz,_,0,(r.drop (HT.sIx xs.length 0 lo)).take (HT.sIx xs.length xs.length hi-HT.sIx xs.length 0 lo),eD _ rfl⟩
theorem Sf:OpR X (kQ .NotIn) (fun x y H Q=>∃ i j,x=.str i/\y=.str j/\Q (.bl (!(!(QA j i 0 j.length 1).isEmpty))) H):=by
 rw[3];obtain⟨i,j,rfl,rfl,q⟩:=h;obtain⟨t,rfl⟩:=rx;obtain⟨t',rfl⟩:=ry;exact notIn_str ⟨.bl _,H,I,rfl,q⟩
theorem Aqt:Afq X (.builtin "len") (fun xs H Q=>∃ p ys,xs=[.ref p]/\(SqL X.K H p ys\/SqT X.K H p ys)/\Q (.int ys.length) H):=by
 rw[5];obtain⟨p,ys,rfl,hq,q⟩:=h;obtain⟨u,rfl,rx⟩:=vals1 r;cases rx;have hn:=tP;rcases hq with hq|hq
 ·obtain⟨its,r',pl,hz⟩:=I.list hq;have bg:=r'.length;exact Calls.call_len_list pl.isList (by simp only[gG]<;>omega) ⟨.int ys.length,H,I.tok _,⟨s.toks+1,by rw[gG,bg]⟩,q⟩
 ·obtain⟨its,r',pl,hz⟩:=I.tuple hq;have bg:=r'.length;exact len_tuple pl (by simp only[gG]<;>omega) ⟨.int ys.length,H,I.tok _,⟨s.toks+1,by rw[gG,bg]⟩,q⟩
theorem Ars:Afq X (.builtin "len") (fun xs H Q=>∃ z,xs=[.str z]/\z.length≤sizeLine/\Q (.int z.length) H):=by
 rw[5];obtain⟨z,rfl,hz,q⟩:=h;obtain⟨u,rfl,t,rfl⟩:=vals1 r;have hn:=tP;exact len_str (by omega) ⟨.int z.length,H,I.tok _,⟨_,rfl⟩,q⟩
theorem Afq.or {f:aC}{r r':List V->Hp->VK->Prop}(h:Afq X f r)(h':Afq X f r'):Afq X f (fun xs H Q=>r xs H Q\/r' xs H Q):=by
 intro ad s σ H xs us Q I rs q;rcases q with q|q
 ·exact h ad s σ H xs us Q I rs q
 ·exact h' ad s σ H xs us Q I rs q
theorem sD:Afq X (.type "tuple") (fun xs H Q=>∃ p ys,xs=[.ref p]/\((SqL X.K H p ys/\∀ l,H l=ab->Q (.ref l) (ar H l (.tup ys)))\/(SqT X.K H p ys/\Q (.ref p) H))):=by
 rw[5];obtain⟨p,ys,rfl,h⟩:=h;obtain⟨u,rfl,rx⟩:=vals1 r;cases rx;rcases h with⟨hq,q⟩|⟨hq,q⟩
 ·obtain⟨its,r',pl,hz⟩:=I.list hq;have bg:=r'.length;refine call_tuple_list pl.isList (fun h' kp=>?_) (by simp only[gG]<;>omega)
  have I1:Inv X ad σ H { s with heap:=h' }:=I.kept (t':=s.toks) kp;have I2:Inv X ad σ (ar H h'.objs.size (.tup ys)) { s with heap:=h'.push { cls:=.type "tuple",data:=.seq its.toArray } }:=
   I1.laid (t':=s.toks) (fun b o e=>cH _ e) (cE _) (show Adz X.prog X.w _ _ _ (.tup ys) from⟨hz,its,r',Bcm.new _ _⟩)
  exact⟨.ref h'.objs.size,_,I2,rfl,q _ (I1.hok.fresh (cE _))⟩
 ·obtain⟨its,r',pl,hz⟩:=I.tuple hq;exact call_tuple_same pl ⟨.ref p,H,I,rfl,q⟩
def tyV (K:aM)(T:String)(x:V)(H:Hp):Prop:=match x with
 |.str _=>T = "str"
 |.int _=>T = "int"
 |.ref p=>(T = "list" /\ ∃ xs,SqL K H p xs)\/(T = "tuple" /\ ((∃ o,K.lookup p=aa o/\o.cls=.type "tuple" /\ o.dict=ab)\/∃ xs,H p=aa (.tup xs))) \/
   (T = "dict" /\ ((∃ ep kvs,H p=aa (.dK ep kvs))\/∃ kvs,H p=aa (.dT kvs)))\/(T = "set" /\ ∃ S n,H p=aa (.set S n))
 |_=>False
theorem Jq{T:String}{x:V}{v:aC}(I:Inv X ad σ H s)(r:RelV x v)(ty:tyV X.K T x H) :
  s.TypeIs v T/\∀ a,v=.ref a->∃ ob,s.heap.get? a=aa ob/\ob.dict=ab:=by
 cases x with
 |str z=>
  obtain⟨t,rfl⟩:=r;cases(show T = "str" from ty)
  exact⟨typeIs_str s z t,fun _ e=>nomatch e⟩
 |int i=>
  obtain⟨t,rfl⟩:=r;cases(show T = "int" from ty)
  exact⟨typeIs_int s i t,fun _ e=>nomatch e⟩
 |ref p=>
  cases r;rcases ty with⟨rfl,xs,hq⟩|⟨rfl,⟨o,hk,hc,hd⟩|⟨xs,hx⟩⟩|⟨rfl,hk⟩|⟨rfl,S,n,hk⟩
  ·obtain⟨its,_,pl,_⟩:=I.list hq;refine⟨pl.isList.typeIs,fun a e=>?_⟩
   cases e;obtain⟨o,n,e,c,hd,_⟩:=pl;exact⟨o,e,hd⟩
  ·refine⟨⟨o,I.kIn p o hk,hc⟩,fun a e=>?_⟩
   cases e;exact⟨o,I.kIn _ o hk,hd⟩
  ·obtain⟨_,_,_,⟨o,e,c,_⟩,n⟩:=(show Adz X.prog X.w H s.heap p (.tup xs) from I.hok p _ hx)
   refine⟨⟨o,e,c⟩,fun a e=>?_⟩
   cases e;exact n
  ·have z:∃ o,s.heap.get? p=aa o/\o.ExactDict:=by
    rcases hk with⟨ep,kvs,hk⟩|⟨kvs,hk⟩
    ·obtain⟨_,_,_,_,o,_,e,ex,_⟩:=I.hok p _ hk;exact⟨o,e,ex⟩
    ·obtain⟨_,_,_,_,o,_,_,e,ex,_⟩:=I.hok p _ hk;exact⟨o,e,ex⟩
   obtain⟨o,e,ex⟩:=z;refine⟨⟨o,e,ex.1⟩,fun a e2=>?_⟩
   cases e2;exact⟨o,e,ex.2.1⟩
  ·obtain⟨o,_,_,_,e,ex,_⟩:=I.hok p _ hk;refine⟨⟨o,e,ex.1⟩,fun a e2=>?_⟩
   cases e2;exact⟨o,e,ex.2.1⟩
 |_=>exact rG ty
def tBM (K:aM)(T:String)(r:V->List V->Hp->VK->Prop)(to:TE)(t:TA):TE:=fun σ H Q=>to σ H fun x H1=>tyV K T x H1/\t σ H1 fun xs H2=>r x xs H2 Q
variable {o e:bF}{es:List bF}{to:TE}{t:TA}{name:aE}{bq aw:cV}{T id:String}{r:V->List V->Hp->VK->Prop}
theorem BG (pa:PlainAttrs T)(slot:Slot T name id)(hty:typeOf (.builtin id)=pure (.type "method_descriptor"))(hm:S8 X id r)(ho:PE X o to)(ha:PA X (e::es) t)
  (gy:xS o name X.env (cD o X.env)=cD o X.env:=by rfl)
  (i4:((iI aw (bY (e::es) X.env)).all (fun x=>!x.1)&&(xR aw (xP [] X.env)).all (fun x=>x.1.isSome)
   && decide ((e::es).length+([]:List nD).length+(if ([]:List nD).isEmpty then 0 else 1)<30))=ae:=by rfl)
  (h9:(bq.endLine==aw.line)=ae:=by rfl) (hs:bY (e::es) X.env=(af,cD e X.env)::bY es X.env:=by rfl) (cv:(iI aw (bY es X.env)).any (·.1)=af:=by rfl) :
  PE X (.Call (.Attribute o name bq) (e::es) [] aw) (tBM X.K T r to t):=by
 rw[6];refine wpAny_Call_method_late gy i4 h9 rfl (bp (ho ad s σ H _ I h) fun v s1 gh=>?_)
 obtain⟨x,H1,I1,r1,ty,q1⟩:=gh;obtain⟨h1,h2⟩:=Jq I1 r1 ty;refine⟨T,id,pa,slot,hty,h1,h2,?_⟩;have hA:=ha aw ad s1 σ H1 _ I1 q1;rw[hs] at hA ⊢;refine Calls.callWith_builtin (by show(af||(iI aw (bY es X.env)).any (·.1))=af;rw[cv]<;>rfl) (Calls.evalArgs_plain ?_)
 exact bp hA fun us s2 ⟨vs,H2,I2,r2,q2⟩=>hm ad s2 σ H2 x vs v us Q I2 r1 r2 q2
end
def S7 (X:Cx)(id:String)(r:V->List V->Hp->VK->Prop):Prop:=
 ∀ (ad:List (aD×bI)) (s:aH) (σ:St) (H:Hp) (x:V) (xs:List V) (v:aC) (us:List aC) (Q:VK),Inv X ad σ H s->RelV x v->Vals xs us->r x xs H Q ->
  aJ (aP X.prog X.w) X.A (call (.builtin id) (v::us)) (EP X ad σ Q) X.xe s
theorem Vals.one:∀ {x:V} {us:List aC},Vals [x] us->∃ u,us=[u]/\RelV x u:=by
 intro x us h;cases h with
 |cons r t=>cases t;exact⟨_,rfl,r⟩
section
variable {l b:aD}{ys zs:List V}
theorem Inv.lset {its':List aC}{f:Array aC->Array aC}{t':Nat}(I:Inv X ad σ H s)(hH:H l=aa (.lst xs))
  (e:s.heap.get? l=aa { cls:=.type "list",data:=.seq its.toArray n }) (hf:f its.toArray=its'.toArray) (hv:Vals ys its') (hz:ys.length≤sizeLine) :
  Inv X ad σ (ar H l (.lst ys)) { s with heap:=s.heap.update l (gF f),toks:=t' }:=by
 have q:=PySem.IsL.update e f;rw[hf] at q;refine I.write (x:=l) (e:=l) (by rw[hH];exact trivial) (.inl rfl) (fun b' u hb hu=>(sU s.heap (gF f) (kR hb)).trans hu) ⟨_,q⟩ ?_
 exact⟨hz,its',_,hv,q⟩
theorem Inv.lnew{t':Nat}(I:Inv X ad σ H s)(hv:Vals ys its)(hz:ys.length≤sizeLine) :
  Inv X ad σ (ar H s.heap.objs.size (.lst ys)) { s with heap:=s.heap.push { cls:=.type "list",data:=.seq its.toArray },toks:=t' }:=
 I.laid (fun _ _ q=>cH _ q) (cE _) ⟨hz,its,0,hv,eD _ rfl⟩
theorem Inv.fresh (I:Inv X ad σ H s):H s.heap.objs.size=ab:=I.hok.fresh (cE _)
theorem Inv.lstM (I:Inv X ad σ H s)(hH:H l=aa (.lst xs)):xs.length≤sizeLine/\∃ (its:List aC) (n:Nat),Vals xs its/\xs.length=its.length/\s.heap.get? l=aa { cls:=.type "list",data:=.seq its.toArray n }:=by
 obtain⟨z,its,n,r,e⟩:=I.hok l _ hH;exact⟨z,its,n,r,r.length,e⟩
theorem Wp(h:n≤sizeLine):Eg n=af:=by
 unfold Eg;exact decide_eq_false (by omega)
end
def Mg:V->List V->Hp->VK->Prop:=fun x vs H Q=>∃ l xs y,x=.ref l/\vs=[y]/\H l=aa (.lst xs)/\xs.length<sizeLine/\Q .non (ar H l (.lst (xs++[y])))
theorem VV:S7 X "list.append" Mg:=by
 intro ad s σ H x vs v us Q I rx rv h;obtain⟨l,xs,y,rfl,rfl,hH,hz,q⟩:=h;cases rx;obtain⟨u,rfl,ru⟩:=rv.one;obtain⟨z,its,n,r,hl,e⟩:=I.lstM hH;refine call_meets F.slot_list_append ⟨_,e,rfl⟩ F.entry_list_append (F.args_list_append_2 _ _) (PySem.list_append l its.toArray n u (by rw[gG];omega)) ⟨e,?_⟩
 refine⟨.non,_,I.lset (its':=its++[u]) hH e (by simp) (r.append (.cons ru .nil)) ?_,rfl,q⟩
 rw[mF,OV];omega
end L2
namespace Att
open PySem PySem.W PySem.Calls PyProof.Rows
theorem Tq {P:Params}{h:aY}:∀ (ns:List Int) (vs:List aC),WellAll P h vs (ns.map WData.int)->IntsAre vs ns:=by
 intro ns;induction ns with
 |nil=>
  intro vs w;rw[List.map_nil] at w;cases w;exact .nil
 |cons n ns ih=>
  intro vs w;rw[dQ] at w;cases w with
  |cons a b=>
   cases a;exact .cons _ _ (ih _ b)
theorem Zp {l:OpenLaw}{n:Nat}(hn:l.most=aa n){P:Params}{h:aY}{args:List WData}{wk:List aC}
  (qc:l.row.toRowW.claim.pre args=ae) (J3:WellAll P h wk args) :
  ∃ a vs ns,wk=[fI a]/\args=[WData.list (ns.map WData.int)]/\h.get? a=aa { cls:=.type "list",data:=.seq vs.toArray }/\IntsAre vs ns/\ns.length≤n:=by
 have hsh:WShape.hasAll [] args [.list .int]=ae:=(pre_splitW qc).1;have hc:l.pre.holds [] { args:=args }=ae:=(pre_splitW qc).2;obtain⟨d,r,rfl,h1,h2⟩:=hasAllW_cons hsh;obtain rfl:=hasAllW_nil h2;obtain⟨xs,rfl,h3⟩:=hasW_list h1;obtain⟨ns,rfl⟩:=items_int h3;have bg:ns.length≤n:=by
  unfold OpenLaw.pre at hc;have h4:(WTm.not (.lt (.lit (.int (n:Int))) (.len (.arg 0)))).holds [] { args:=[.list (ns.map .int)] }=ae:=by
   have h4:=(holds_andW hc).1;rw[hn] at h4;exact h4
  have h5:=condW_of h4 (w_not (w_lt w_lit (w_len_list (w_arg rfl))));rw[eS] at h5;refine Nat.le_of_not_lt fun q=>?_
  have q':(n:Int)<((ns.length:Nat):Int):=by omega
  first
   |(rw[decide_eq_true q'] at h5;exact absurd h5 (by decide))
   |(simp at h5;omega)
 cases J3 with
 |cons w1 w2=>
  cases w2;cases w1 with
  |list ho ck=>exact⟨_,_,ns,rfl,rfl,ho,Tq ns _ ck,bg⟩
theorem Yk (l:OpenLaw)(args:List WData):l.row.toRowW.claim.post args (.bool ae) args=ae:=
 postW_of (r:=l.row.toRowW) (X:=(ae==ae))
  (show WShape.has [] (.bool ae) .bool=ae by first|rfl|decide|simp[WShape.has,WShape.arms,WShape.armsAll])
  (show(WTm.eq .res (.lit (.bool ae))).value [] { args:=args,res:=aa (.bool ae),after:=args }=aa (.bool (ae==ae)) from w_eq_bool (w_res rfl) w_lit) rfl
theorem At2 {l:OpenLaw}{n:Nat}{q:bP}{k9:List aE}{XP:(aE->Option aC)->aY->Prop}{YP:bG->aY->Prop}{d:DefRec}
  (hn:l.most=aa n) (yt:d.params.defaults=[])
  (call:∀ (w:bG) (s₀ s₁:aH) (mg mb:aE->Option aC) (fa:aD) (o:bI) (pm cd fj:aC) (a:aD) (vs:List aC) (ns:List Int),
   Ground q k9 [] XP w s₀ mg mb s₁.heap->YP w s₁.heap ->
   s₁.heap.get? fa=aa o->o.data=.func (docDef d.name d.params d.body d.scope pm cd fj)->s₁.heap.CodeRec cd d.name->mg d.name=aa (.ref fa) ->
   s₁.heap.get? a=aa { cls:=.type "list",data:=.seq vs.toArray }->IntsAre vs ns->ns.length≤n->s₁.gens = #[] ->
   pG (aP l.prog w) xQ (.call (.ref fa) ⟨[.ref a],[]⟩) (fun r s'=>r=.ok (.ret (.bool ae))/\OldK s₁.heap s'.heap/\s'.os=s₁.os/\sV s'.gens) s₁) :
  WalkO q k9 XP YP l.row.toRowW d [] (fun f vs=>PySem.call f vs):=by
 intro w s₀ s₁ mg mb G Y fa o pm cd fj dV kV ho hd jx hD yu hg args wk as qc hlay hrd J3 uh;obtain rfl:dV=.none:=Dflts.none hD yt;obtain rfl:kV=.none:=Dflts.noKw hD;obtain⟨a,vs,ns,rfl,rfl,wl,rg,bg⟩:=Zp hn qc J3;refine enter_call (BR (call w s₀ s₁ mg mb fa o pm cd fj a vs ns G Y ho (fd_plain hd) jx yu wl rg bg hg) fun r s' hq=>?_)
 obtain⟨rfl,h2,h3,h4⟩:=hq;exact⟨.inl ⟨.bool ae,.bool ae,[],rfl,fun _=>rfl,.bool ae,Yk l _,fun _=>⟨List.Pairwise.nil,fun _ hm=>(nomatch hm)⟩⟩,h2,h3,h4⟩
end Att
namespace L2
open PySem PySem.Spec PyProof.Rows
variable {P P0:aD->Prop}{w:bG}{K:aM}{mg:aE->Option aC}{k:aO}{a f:aD}{x qual:aE}{sp:Sp}{n i j n0:Nat}{d m:aA}{X:Cx}{st:cR}{N ps:List aE}{A:bZ}{B H' H H1 B' B0 H0:Hp}{k4 bh c b tg e:bF}{j9 es:List bF}{pos px ui p:cV}{env:Env}{sc:kI}{v:V}{fp:Nat->List aD}{ad:List (aD×bI)}{σ:St}{s:aH}{cap:List (Option Nat)}{o:HO}{xs:List V}{ds:List aA}{ρ:List (Option aA)}{g:aA->aA->Option aA}{r:R2}{T:String}{kds:List (aA×aA)}{Q:VK}
theorem XF:∀ {vs:List aC} {ns:List Int},IntsAre vs ns->Vals (ns.map V.int) vs
 |_,_,.nil=>.nil
 |_,_,.cons n t h=>.cons ⟨t,rfl⟩ (XF h)
def Only (H:Hp):Prop:=∀ b,H b=ab\/∃ o xs,H b=aa (.frz o (.lst xs))
theorem Wf {P:bP}{mb:aE->Option aC}{CX:sv}{k:Nat}{fa:aD}{fd:jH}{s₁:aH}{vs:List aC}{ns:List Int}
  (KX:K.In s₁.heap) (J4:s₁.heap.Ns eZ mg) (hb:s₁.heap.Ns builtinsNs mb) (yv:∀ x:aE,x ≠ "__name__" -> mb x=qE x) (J5:s₁.heap.NoLimit) (hg:s₁.gens = #[])
  (ha:s₁.heap.get? a=aa { cls:=.type "list",data:=.seq vs.toArray }) (hi:IntsAre vs ns) (hl:ns.length≤sizeLine) (hr:Room k xQ)
  (F:∀ base:aY,K.In base->base.Ns eZ mg->FnOk P w K mg base CX k fa fd [x] sp) (yw:∀ (s:aH) (u:aC),BindsTo s fd ⟨[u],[]⟩ [(x,u)])
  (tu:∀ H:Hp,Only H->SqL K H a (ns.map V.int)->sp [.ref a] H (fun v _=>v=.bl ae) fun _ _ _=>False)
  (J6:∀ H e s',CX [] H s₁ (fun _ _ _=>False) e s'->False) :
  pG (aP P w) xQ (.call (.ref fa) ⟨[.ref a],[]⟩) (fun r s'=>r=.ok (.ret (.bool ae))/\OldK s₁.heap s'.heap/\s'.os=s₁.os/\sV s'.gens) s₁:=by
 have rv:=XF hi;have J7:=hi.length;have yx:∀ H:Hp,Only H->SqL K H a (ns.map V.int)->HOk P w H s₁.heap->(∀ b,H b≠ab->b=a)->(H a≠ab->K.lookup a=ab) ->
   pG (aP P w) xQ (.call (.ref fa) ⟨[.ref a],[]⟩) (fun r s'=>r=.ok (.ret (.bool ae))/\OldK s₁.heap s'.heap/\s'.os=s₁.os/\sV s'.gens) s₁:=by
  intro H hO hS hok hA hK;have base_of:∀ {b:aD} {o:bI},s₁.heap.get? b=aa o->H b=ab->(qV s₁.heap H).get? b=aa o:=fun e n=>Ww e n
  have yr:∀ {b:aD} {o:bI} {es:Array rH} {ep:Nat},s₁.heap.get? b=aa o->o.data=.dict es ep->H b=ab:=fun {b o es ep} e d=>by
   cases q:H b with
   |none=>rfl
   |some u=>
    have e':b=a:=hA b (by rw[q];simp)
    subst e';rw[ha] at e;cases e;have d':Data.seq vs.toArray _=Data.dict es ep:=d;cases d'
  have E3:∀ {b:aD} {m:aE->Option aC},s₁.heap.Ns b m->(qV s₁.heap H).Ns b m:=fun {b m} ⟨o,es,ep,e,d,r⟩=>⟨o,es,ep,base_of e (yr e d),d,r⟩
  have U':K.In (qV s₁.heap H):=fun b o e=>base_of (KX b o e) (by
   cases q:H b with
   |none=>rfl
   |some u=>
    have e':b=a:=hA b (by rw[q];simp)
    subst e';rw[hK (by rw[q];simp)] at e;cases e)
  have hM:Mod K mg (qV s₁.heap H):=⟨U',E3 J4,⟨mb,E3 hb,yv⟩,let ⟨mc,h1,h2⟩:=J5;⟨mc,E3 h1,h2⟩⟩;have e0:Env0 P w K mg (qV s₁.heap H) xQ [] s₁ H:=⟨rfl,hM,fun b o e=>Kr e,OM (Zk _ _),trivial,fun b hb=>absurd (show b∈([]:List aD) from hb) (by simp),hok,.of_eq hg⟩
  refine BR ((F _ U' (E3 J4)).run xQ [] s₁ H ⟨[.ref a],[]⟩ [.ref a] [.ref a] _ _ hr e0 (yw s₁ (.ref a)) (.cons rfl .nil) (tu H hO hS)) fun r s' h=>?_
  cases r with
  |error e=>exact(J6 H e s' h).elim
  |ok fl=>
   cases fl with
   |next=>exact rG h
   |brk=>exact rG h
   |cont=>exact rG h
   |ret u=>
    obtain⟨v,H',os,bare,un,J8,r',q⟩:=h;have q':v=.bl ae:=q;subst q';obtain rfl:u=Value.bool ae:=r';refine⟨rfl,OldK.of_keep fun b o e=>?_,os,bare⟩
    cases q:H b with
    |none=>exact un.keep b o e q (by intro z;exact absurd (show b∈([]:List aD) from z) (by simp)) (by simp)
    |some u=>
     rcases hO b with z|⟨ob,xs,z⟩
     ·rw[q] at z;cases z
     ·have z2:=un.frzs b ob _ z;obtain⟨e1,_⟩:=hok b _ z;obtain⟨e2,_⟩:=J8 b _ z2;rw[e] at e1;cases e1;exact e2
 cases hk:K.lookup a with
 |some o=>
  have e:=KX a o hk;rw[ha] at e;cases e;refine yx (fun _=>ab) (fun _=>.inl rfl) (.inr ⟨_,vs.toArray,_,hk,rfl,rfl,rfl,by rw[gG,J7];exact hl,by simpa using rv⟩) (fun b u z=>by have z':(ab:Option HO)=aa u:=z;cases z') (fun b z=>absurd rfl z) fun z=>absurd rfl z
 |none=>
  refine yx (fun b=>if b=a then aa (.frz { cls:=.type "list",data:=.seq vs.toArray } (.lst (ns.map V.int))) else ab) (fun b=>?_) (.inl (.inr ⟨{ cls:=.type "list",data:=.seq vs.toArray },if_pos rfl⟩)) (fun b u z=>?_) (fun b z=>?_) fun _=>hk
  ·by_cases hb:b=a
   ·exact .inr ⟨_,_,if_pos hb⟩
   ·exact .inl (if_neg hb)
  ·by_cases hb:b=a
   ·have z':=(if_pos hb).symm.trans z;cases z';subst hb;exact⟨ha,by rw[eS];exact hl,vs,_,rv,ha⟩
   ·have z':=(if_neg hb).symm.trans z;cases z'
  ·by_cases hb:b=a
   ·exact hb
   ·exact absurd (if_neg hb) z
theorem Bbp {l:Cy}{k:Nat}{q:bP}{k9:List aE}{XP:(aE->Option aC)->aY->Prop}{YP:bG->aY->Prop}{d:DefRec}{K:Params->aM}{CX:bG->sv}{sp:bG->Sp}
  (hn:l.most=aa n) (xz:n≤sizeLine) (yt:d.params.defaults=[]) (hr:Room k xQ)
  (hY:∀ (w:bG) (h:aY),YP w h->(K w.params).In h)
  (F:∀ (w:bG) (mg:aE->Option aC) (fa:aD) (h:aY),(K w.params).In h->h.Ns eZ mg->mg d.name=aa (.ref fa) ->
   ∃ fd:jH,(∀ (s:aH) (u:aC),BindsTo s fd ⟨[u],[]⟩ [(x,u)]) /\
    ∀ base:aY,(K w.params).In base->base.Ns eZ mg->FnOk l.prog w (K w.params) mg base (CX w) k fa fd [x] (sp w))
  (tu:∀ (w:bG) (H:Hp) (a:aD) (ns:List Int),ns.length≤n->Only H->SqL (K w.params) H a (ns.map V.int)->sp w [.ref a] H (fun v _=>v=.bl ae) fun _ _ _=>False)
  (J6:∀ (w:bG) (H:Hp) (s:aH) (e:aC) (s':aH),CX w [] H s (fun _ _ _=>False) e s'->False) :
  PySem.W.WalkO q k9 XP YP l.row.toRowW d [] (fun f vs=>PySem.call f vs):=by
 refine Att.At2 hn yt fun w s₀ s₁ mg mb fa o pm cd fj a vs ns G Y ho hd jx yu wl rg bg hg=>?_
 have KX:=hY w _ Y;obtain⟨fd,hb,hF⟩:=F w mg fa _ KX G.T.g yu;exact Wf KX G.T.g G.T.b G.T.builtins G.T.nolimit hg wl rg (iU bg xz) hr hF hb (fun H hO hS=>tu w H a ns bg hO hS) fun H e s'=>J6 w H s₁ e s'
def lX (s:cR):Arguments:=match s with
 |.FunctionDef _ a _ _ _ _ _ _ _ _=>a
 |_=>{ posonlyargs:=[],args:=[],vararg:=ab,kwonlyargs:=[],kw_defaults:=[],kwarg:=ab,defaults:=[] }
def kX (s:cR):List cR:=match s with
 |.FunctionDef _ _ b _ _ _ _ _ _ _=>b
 |_=>[]
def cQ (s:cR):kI:=match s with
 |.FunctionDef _ _ _ _ _ _ sc _ _ _=>sc
 |_=>{ kind:=.function,names:=[],isGenerator:=af,isCoroutine:=af }
abbrev gv:sv:=fun _ _ _ _ _ _=>False
abbrev E0:XK:=fun _ _ _=>False
theorem Hu:Passes gv X E0:=fun _ _ _ _ _ _ _ h=>h.elim
structure Fun (K:aM)(x qual:aE)(st:cR)(f:aD)(fd:jH):Prop where
 ex:∃ (oc:aC) (od:Option aD) (kV fj pm:aC) (an:Option aD) (ax ct:aC) (vh:Array (Option aC)),
  fd=lQ x qual (lX st) (kX st) (cQ st) .none kV fj pm an ax ct/\K.lookup f=aa ⟨oc,od,.func fd,vh⟩/\BU K ax qual=ae
 kp:uS K (.ref f)=ae
section
variable {P:bP}{base:aY}
theorem Fun.ok{fd:jH}{k:Nat}(F:Fun K x qual st f fd)(S:FnScope N ps (cQ st))(len:∀ vs H Q E,sp vs H Q E->vs.length=ps.length)
  (re:∀ (ax:aC) (A:bZ) (outer:List Env) (s:aH) (H:Hp) (vs:List V) (Q:VK) (E:XK),Room k (A.deeper (rB qual (cQ st) s.heap.objs.size f ax))->sp vs H Q E ->
   ∃ t,PSs (sW gv P w K mg base N qual (cQ st) f ax A outer s H E).nox (kX st) t/\t { nx:=fun _ H'=>Q .non H',rt:=Q } (start N vs) H):FnOk P w K mg base gv (k+1) f fd ps sp:=by
 obtain⟨oc,od,kV,fj,pm,an,ax,ct,vh,rfl,lk,jx⟩:=F.ex;refine Gd lk jx S len fun A outer s H vs Q E hr tu=>?_
 obtain⟨t,h,q⟩:=re ax A outer s H vs Q E hr tu;exact⟨t,h.nox,q⟩
theorem Fun.binds{fd:jH}(F:Fun K x qual st f fd)
  (h:∀ (kV fj pm:aC) (an:Option aD) (ax ct:aC) (us:List aC),us.length=ps.length->uO (lQ x qual (lX st) (kX st) (cQ st) .none kV fj pm an ax ct) ⟨us,[]⟩=pure (ps.zip us)):Binds K fd ps []:=by
 obtain⟨oc,od,kV,fj,pm,an,ax,ct,vh,rfl,lk,jx⟩:=F.ex;exact .all (h kV fj pm an ax ct)
theorem Ay{oc:aC}{od an:Option aD}{vh:Array (Option aC)}{kV fj pm ax ct:aC}(l:K.lookup f=aa ⟨oc,od,.func (lQ x qual (lX st) (kX st) (cQ st) .none kV fj pm an ax ct),vh⟩)
  (c:BU K ax qual=ae) (k:uS K (.ref f)=ae):Fun K x qual st f (lQ x qual (lX st) (kX st) (cQ st) .none kV fj pm an ax ct):=⟨⟨oc,od,kV,fj,pm,an,ax,ct,vh,rfl,l,c⟩,k⟩
end
theorem gU{k:Nat}(hr:Room k A):A.units+40<cLine:=Nat.lt_of_le_of_lt (Nat.add_le_add_left (by decide:40≤64) _) hr.units
theorem Yj:Afq X (.builtin "len") (fun xs H Q=>∃ a ep kvs,xs=[V.ref a]/\H a=aa (.dK ep kvs)/\Q (.int kvs.length) H):=by
 rw[5];obtain⟨a,ep,kvs,rfl,ha,q⟩:=h;obtain⟨u,rfl,ru⟩:=vals1 r;cases ru;exact Gi I (.inl ha) fun t s' I'=>⟨.int kvs.length,H,I',⟨t,rfl⟩,q⟩
theorem vM {A B:Prop}(h:B):if af=ae then A else B:=by
 rw[if_neg oJ];exact h
theorem vK {A B:Prop}(h:A):if ae=ae then A else B:=by
 rw[if_pos rfl];exact h
section
variable {prog:bP}{R:Result->aH->Prop}
theorem Qv {jh:bF}{scope:kI}{it ai:aC}(I:Nat->aH->Prop)
  (rc:∀ n s,I n s->aJ (aP prog w) A (fZ it) (fun r s₁=>match r with
   |none=>R (.ok .next) s₁
   | some v=>aJ (aP prog w) A (NY jh it v) (fun _ s₂=>aJ (aP prog w) A (mC jh env v) (fun _ s₃=>
     aJ (aP prog w) A (forIn j9 ae fun c r=>if r=ae then do let ok ← isTrue c env (cD c env);pure (oI ok) else pure (oI r)) (fun ok s₄=>
      if ok=ae then aJ (aP prog w) A (cD k4 env) (fun x s₅=>
       aJ (aP prog w) A (call (.builtin "list.append") [ai,x]) (fun _ s₆=>∃ m,m<n/\I m s₆) (fun _ _=>False) s₅) (fun _ _=>False) s₄
      else ∃ m,m<n/\I m s₄) (fun _ _=>False) s₃) (fun _ _=>False) s₂) (fun _ _=>False) s₁) (fun _ _=>False) s)
  (n:Nat) (h:I n s):pG (aP prog w) A (.compLoop (.ListComp k4 [⟨jh,bh,j9,0⟩] scope pos) 0 it ai env) R s:=by
 refine codeAny_loop rfl I (fun n s hI=>?_) n h
 show aJ _ A ((compTurn (.ListComp k4 [⟨jh,bh,j9,0⟩] scope pos) 0 it ai env).onRaise (fun x=>do noteFrame x env;theTreesLotGoes x)) _ _ s
 refine wpAny_noted ?_;rw[compTurn_list];refine aF (wpAny_standAt (aF (lZ (rc n s hI) (fun r s₁ h₁=>?_) fun _ _ h'=>h'.elim)))
 cases r with
 |none=>exact aQ h₁
 |some v=>
  refine aF (lZ h₁ (fun _ s₂ h₂=>?_) fun _ _ h'=>h'.elim)
  refine aF (lZ h₂ (fun _ s₃ h₃=>aF (lZ h₃ (fun ok s₄ h₄=>?_) fun _ _ h'=>h'.elim)) fun _ _ h'=>h'.elim)
  cases ok with
  |false=>exact aQ ⟨rfl,h₄⟩
  |true=>
   exact aF (aF (lZ h₄ (fun x s₅ h₅=>aF (lZ h₅ (fun _ s₆ h₆=>aQ (aQ ⟨rfl,h₆⟩)) fun _ _ h'=>h'.elim)) fun _ _ h'=>h'.elim))
end
theorem cellOf_eq{n:aE}{c:aD}(h:env.cells.lookup n=aa c):cellOf env n=pure c:=by
 unfold cellOf;rw[h]
def gW (env:Env):List (aE×oF)->List (aE×aD)->List (aE×aD)
 |[],cs=>cs
 |(n,k)::r,cs=>gW env r (if (k==iV)=ae then(match env.cells.lookup n with|some c=>(n,c)::cs|none=>cs) else cs)
theorem ZP(h:∀ n,(n,iV)∈sc.names->∃ c,env.cells.lookup n=aa c):closureFor sc env=pure (gW env sc.names []):=by
 unfold closureFor;generalize sc.names=l at h;have go:∀ (l:List (aE×oF)) (cs:List (aE×aD)),(∀ n,(n,iV)∈l->∃ c,env.cells.lookup n=aa c) ->
   (forIn l cs (fun(x:aE×oF) (r:List (aE×aD))=>if (x.2==iV)=ae then(do let c ← cellOf env x.1;pure (oI ((x.1,c)::r))) else pure (oI r)):fS (List (aE×aD)))=pure (gW env l cs):=by
  intro l;induction l with
  |nil=>intro cs _;rfl
  |cons p r ih=>
   intro cs hl;obtain⟨n,k⟩:=p;rw[ID];have hr:∀ n,(n,iV)∈r->∃ c,env.cells.lookup n=aa c:=fun n hn=>hl n (cG _ hn)
   cases hk:(k==iV) with
   |true=>
    have ek:k=iV:=by simpa using hk
    subst ek;obtain⟨c,hc⟩:=hl n bS;have e1:gW env ((n,iV)::r) cs=gW env r ((n,c)::cs):=by
     show gW env r (if (iV==iV)=ae then(match env.cells.lookup n with|some c=>(n,c)::cs|none=>cs) else cs)=_
     rw[hc];rfl
    rw[e1];simp only[cellOf_eq hc,hk,if_true];exact ih ((n,c)::cs) hr
   |false=>
    have e1:gW env ((n,k)::r) cs=gW env r cs:=by
     show gW env r (if (k==iV)=ae then(match env.cells.lookup n with|some c=>(n,c)::cs|none=>cs) else cs)=_
     rw[hk];rfl
    rw[e1];simp only[hk,fF,if_false];exact ih cs hr
 have e:=go l [] h;simp only[e]
 rfl
theorem MI:∀ (l:List (aE×oF)) (cs:List (aE×aD)),(∀ x c,cs.lookup x=aa c->env.cells.lookup x=aa c)->∀ x c,(gW env l cs).lookup x=aa c->env.cells.lookup x=aa c
 |[],cs,h,x,c,e=>h x c e
 |(n,k)::r,cs,h,x,c,e=>by
  refine MI r _ ?_ x c e;intro y d q;by_cases hk:(k==iV)=ae
  ·rw[if_pos hk] at q;cases hc:env.cells.lookup n with
   |none=>rw[hc] at q;exact h y d q
   |some a=>
    rw[hc] at q;by_cases hy:(y==n)=ae
    ·simp only[pJ,hy] at q;have:y=n:=by simpa using hy
     rw[this,hc];exact q
    ·have qd:(y==n)=af:=by simpa using hy
     simp only[pJ,qd] at q;exact h y d q
  ·rw[if_neg hk] at q;exact h y d q
theorem ZH{c:aD}(hx:env.cells.lookup x=aa c):∀ (l:List (aE×oF)) (cs:List (aE×aD)),cs.lookup x=aa c->(gW env l cs).lookup x=aa c
 |[],cs,h=>h
 |(n,k)::r,cs,h=>by
  refine ZH hx r _ ?_;by_cases hk:(k==iV)=ae
  ·rw[if_pos hk];cases hc:env.cells.lookup n with
   |none=>exact h
   |some a=>
    show IA x ((n,a)::cs)=aa c;by_cases hy:(x==n)=ae
    ·have:x=n:=by simpa using hy
     rw[10];rw[hx] at hc;cases hc;simp[pJ]
    ·have qd:(x==n)=af:=by simpa using hy
     simp only[pJ,qd];exact h
  ·rw[if_neg hk];exact h
theorem LY{c:aD}(hx:env.cells.lookup x=aa c):∀ (l:List (aE×oF)) (cs:List (aE×aD)),(x,iV)∈l->(gW env l cs).lookup x=aa c
 |[],cs,h=>by simp at h
 |(n,k)::r,cs,h=>by
  rcases dU.mp h with e|h
  ·cases e;refine ZH hx r _ ?_;rw[if_pos (by rfl),hx]
   simp[pJ]
  ·exact LY hx r _ h
theorem ZJ(x:aE):(xO sc env).names.lookup x=(sc.names.lookup x).map fun k=>if (k==iV&&env.scope.kind==.function&&env.kindOf x==aa .cell)=ae then NameKind.cell else k:=by
 unfold xO;show IA x (sc.names.map _)=_;induction sc.names with
 |nil=>rfl
 |cons p r ih=>
  obtain⟨n,k⟩:=p;show IA x ((if (k==iV&&env.scope.kind==.function&&env.kindOf n==aa .cell)=ae then(n,NameKind.cell) else(n,k))::CM _ r)=_
  by_cases hy:(x==n)=ae
  ·have:x=n:=by simpa using hy
   rw[10];by_cases hc:(k==iV&&env.scope.kind==.function&&env.kindOf x==aa .cell)=ae
   ·rw[if_pos hc];simp only[pJ,hy,uW];rw[if_pos hc]
   ·rw[if_neg hc];simp only[pJ,hy,uW];rw[if_neg hc]
  ·have qd:(x==n)=af:=by simpa using hy
   have e2:IA x ((n,k)::r)=IA x r:=by simp only[pJ,qd]
   rw[e2];by_cases hc:(k==iV&&env.scope.kind==.function&&env.kindOf n==aa .cell)=ae
   ·rw[if_pos hc];simp only[pJ,qd];exact ih
   ·rw[if_neg hc];simp only[pJ,qd];exact ih
theorem lookup_mem {α:Type}{v:α}:∀ {l:List (aE×α)},l.lookup x=aa v->(x,v)∈l
 |[],h=>by simp at h
 |(n,k)::r,h=>by
  by_cases hy:(x==n)=ae
  ·have:x=n:=by simpa using hy
   rw[10];simp[pJ] at h;subst h;exact bS
  ·have qd:(x==n)=af:=by simpa using hy
   simp only[pJ,qd] at h;exact cG _ (lookup_mem h)
def jX (X:Cx)(N:List aE)(sc:kI)(cl:List (aE×aD))(C:aD)(s₀:aH)(H₀:Hp)(ex:List aD):Cx:=
 { X with N:=N,s₀:=s₀,H₀:=H₀,env:=compEnvC sc cl C X.env,outer:=X.stack,ex:=ex,fn:=fun _=>af,pn:=[],xe:=fun _ _=>False }
structure CompScope (X:Cx)(N:List aE)(cap:List (Option Nat))(sc:kI):Prop where
 kind:sc.kind=.function
 nocell:∀ y∈sc.names,y.2 ≠ .cell
 nm:∀ y∈sc.names,y.2=.local->sc.names.lookup y.1=aa .local
 fre:∀ y∈sc.names,y.2=.free->X.env.scope.names.lookup y.1=aa .cell\/X.env.scope.names.lookup y.1=aa .free
 len:cap.length=N.length
 cap:∀ (i j:Nat),cap[i]?=aa (aa j)->∃ x,N[i]?=aa x/\X.N[j]?=aa x/\sc.names.lookup x=aa .free
def vH (cap:List (Option Nat))(σ:St):St:=cap.map fun o=>o.bind fun j=>(σ[j]?).join
def vJ (X:Cx)(j9:List bF)(t:TT):Prop:=
 ∀ (ad:List (aD×bI)) (s:aH) (σ:St) (H:Hp) (Q:Bool->Hp->Prop),Inv X ad σ H s->t σ H Q ->
  aJ (aP X.prog X.w) X.A (forIn j9 ae fun c r=>if r=ae then do let ok ← isTrue c X.env (cD c X.env);pure (oI ok) else pure (oI r)) (TP X ad σ Q) X.xe s
def Fv:TT:=fun _ H Q=>Q ae H
theorem My:vJ X [] Fv:=fun _ _ _ H _ I h=>wpAny_tests_nil ⟨H,I,h⟩
theorem Lo{t:TT}(h:PT X c t):vJ X [c] t:=fun ad s σ H Q I hw=>wpAny_tests_one (h ad s σ H Q I hw)
def QR (cap:List (Option Nat))(J:It)(g:TG)(tc:TT)(te:TE)(σ:St)(H1:Hp)(Q:VK):Prop:=∀ D,H1 D=ab ->
 ∃ W:Nat->Nat->List V->St->Hp->Prop,(∃ m,W 0 m [] (vH cap σ) (ar H1 D (.lst []))) /\
  ∀ i m ys σ' H',W i m ys σ' H'->H' D=aa (.lst ys)/\((J.stop i H'/\Q (.ref D) H') \/
   (J.go i H'/\ys.length<sizeLine/\∃ M:List V->St->Hp->Prop,(∀ zs σ2 H2,M zs σ2 H2->∃ m',m'<m/\W (i+1) m' zs σ2 H2)/\∀ x H2,J.yld i H' x H2->g x σ' H2 fun σ3 H3=>tc σ3 H3 fun b H4=>
    if b=ae then te σ3 H4 fun y H5=>H5 D=aa (.lst ys)/\M (ys++[y]) σ3 (ar H5 D (.lst (ys++[y]))) else M ys σ3 H4))
def U3 (cap:List (Option Nat))(wi:TI)(g:TG)(tc:TT)(te:TE):TE:=fun σ H Q=>wi σ H fun J H1=>QR cap J g tc te σ H1 Q
theorem CompScope.cells (S:CompScope X N cap sc)(ok:X.Ok):∀ n,(n,iV)∈sc.names->∃ c,X.env.cells.lookup n=aa c:=fun n hn=>ok.has n (S.fre _ hn rfl)
theorem a0 (S:CompScope X N cap sc){fp:List aD}(I:Inv X ad σ H s)(hf:∀ b∈fp,lJ X ad H b)(hl:∀ b∈fp,b<s.heap.objs.size) :
  (jX X N sc (gW X.env sc.names []) s.heap.objs.size s H fp).Ok:=by
 have sub:∀ x c,(gW X.env sc.names []).lookup x=aa c->X.env.cells.lookup x=aa c:=MI sc.names [] (fun x c e=>by simp at e)
 refine⟨I.ok.mod,?_,I.ok.glob,I.ok.blt,cE _,?_,?_,?_,I.ok.hd,I.ok.frames,.inl rfl,?_,I.bs,iU I.ok.bsz I.sz,?_,?_,I.stack,I.stkFree⟩
 ·exact S.kind
 ·intro x y c h1 h2;exact I.ok.inj x y c (sub x c h1) (sub y c h2)
 ·intro x hx;have hk:(xO sc X.env).names.lookup x=aa .cell\/(xO sc X.env).names.lookup x=aa .free:=hx;have mi:sc.names.lookup x=aa .free:=by
   rw[ZJ] at hk;cases e:sc.names.lookup x with
   |none=>rw[e] at hk;simp at hk
   |some k=>
    rw[e] at hk;have hm:=lookup_mem e;have nc:=S.nocell _ hm;simp only[uW,HQ] at hk;by_cases hc:(k==iV&&X.env.scope.kind==.function&&X.env.kindOf x==aa .cell)=ae
    ·have:(k==iV)=ae:=by
      simp only[IJ] at hc;exact hc.1.1
     rw[show k=iV by simpa using this]
    ·rw[if_neg hc] at hk;rcases hk with q|q
     ·exact absurd q nc
     ·rw[q]
  obtain⟨c,hc⟩:=S.cells I.ok x (lookup_mem mi);exact⟨c,LY hc _ _ (lookup_mem mi)⟩
 ·intro x c h1 _;exact absurd (show af=ae from h1) oJ
 ·intro b hb;refine⟨dI (hl b hb),fun x c e=>(hf b hb).2.2.2.2.1 x c (sub x c e)⟩
 ·intro b o e hb;rcases(hf b hb).2.2.2.1 with z|z
  ·exact I.ok.noex b o e z
  ·exact absurd (iK (cA e) (iU I.ok.bsz z)) (lE _)
 ·intro b hb hz;obtain⟨_,h1,h2,_⟩:=hf b hb;rcases dU.mp (I.stkSub b hz) with e|e
  ·exact h1 e
  ·exact h2 e
theorem Wu (S:CompScope X N cap sc){fp:List aD}{h':aY}{tk:Nat}(I:Inv X ad σ H s)(hf:∀ b∈fp,lJ X ad H b)(hl:∀ b∈fp,b<s.heap.objs.size)
  (hn:h'.Ns s.heap.objs.size fun _=>ab) (hk:∀ b o,s.heap.get? b=aa o->h'.get? b=aa o) :
  Inv (jX X N sc (gW X.env sc.names []) s.heap.objs.size s H fp) [] (vH cap σ) H { s with heap:=h',toks:=tk }:=by
 have sub:∀ x c,(gW X.env sc.names []).lookup x=aa c->X.env.cells.lookup x=aa c:=MI sc.names [] (fun x c e=>by simp at e)
 have fr:H s.heap.objs.size=ab:=I.hok.fresh (cE _);refine⟨a0 S I hf hl,rfl,I.bare,Un.kept hk,⟨_,hn,fun i x v e1 e2 e3=>?_⟩,fun x c e=>?_,fr,fun x c e=>I.freeC x c (sub x c e),fun p hp=>by simp[jX] at hp,I.hok.kept hk,?_⟩
 ·have nr:(cap.map fun o=>o.bind fun j=>(σ[j]?).join)[i]?=aa (aa v):=e2
  rw[fA] at nr;cases hc:cap[i]? with
  |none=>rw[hc] at nr;simp at nr
  |some o=>
   rw[hc] at nr;simp only[uW,HQ] at nr;cases o with
   |none=>simp at nr
   |some j=>
    have nr:(σ[j]?).join=aa v:=nr;have ej:σ[j]?=aa (aa v):=by
     cases q:σ[j]? with
     |none=>rw[q] at nr;simp at nr
     |some z=>rw[q] at nr;simp at nr;rw[nr]
    obtain⟨y,n1,n2,V0⟩:=S.cap i j hc;have exy:x=y:=gY (e1.symm.trans n1);subst exy;have hmem:=lookup_mem V0;have pi:=S.fre _ hmem rfl;obtain⟨m,_,V1⟩:=I.loc;obtain⟨u,r,l⟩:=V1 j x v n2 ej (.inr pi);refine⟨u,r,.inr ⟨?_,?_⟩⟩
    ·show(xO sc X.env).names.lookup x=aa .cell\/(xO sc X.env).names.lookup x=aa .free;rw[ZJ,V0];simp only[uW,HQ];by_cases hc:(iV==iV&&X.env.scope.kind==.function&&X.env.kindOf x==aa .cell)=ae
     ·exact .inl (if_pos hc)
     ·exact .inr (if_neg hc)
    ·rcases l with⟨k1,_⟩|⟨_,c,E4,pd⟩
     ·exfalso;have V3:X.env.scope.names.lookup x=aa .local:=k1;rcases pi with q|q
      ·rw[V3] at q;cases q
      ·rw[V3] at q;cases q
     ·obtain⟨oc,h1,h2⟩:=pd;exact⟨c,LY E4 _ _ hmem,oc,hk _ _ h1,h2⟩
 ·obtain⟨v,oc,h1,h2⟩:=I.cell x c (sub x c e);exact⟨v,oc,hk _ _ h1,h2⟩
 ·show(cap.map _).length=N.length;rw[eS,S.len]
theorem comp_back {fp:List aD}{cl:List (aE×aD)}{σ':St}{s':aH}{pl:List (aD×bI)}(I:Inv X ad σ H s)(hf:∀ b∈fp,lJ X ad H b)
  (I':Inv (jX X N sc cl s.heap.objs.size s H fp) pl σ' H' s'):Inv X ad σ H' s':=
 I.call' I'.os (show Un (qz X.stack) fp H H' s.heap s'.heap from I'.base) I'.hok I'.bare fun b hb=>⟨(hf b hb).2.2.2.1,(hf b hb).2.1,(hf b hb).2.2.2.2.1,(hf b hb).2.2.2.2.2⟩
section
variable {wi:TI}{g:TG}{tc:TT}{te:TE}
def Block (X:Cx)(N:List aE)(sc:kI)(tg k4:bF)(j9:List bF)(g:TG)(tc:TT)(te:TE):Prop:=
 ∀ (cl:List (aE×aD)) (C:aD) (s₀:aH) (H₀:Hp) (ex:List aD),PG (jX X N sc cl C s₀ H₀ ex) tg g/\vJ (jX X N sc cl C s₀ H₀ ex) j9 tc/\PE (jX X N sc cl C s₀ H₀ ex) k4 te
theorem SO{RR:aC->aD->Result->aH->Prop}{E:aC->aH->Prop}(hc:X.calm=ae)(S:CompScope X N cap sc)(hb:Block X N sc tg k4 j9 g tc te)
  {it:aD} {fp:List aD} {tn:Nat->aY->Prop} {J:It} {Q:VK} (I:Inv X ad σ H s) (T:Turn X.prog X.w X.K tg J fp it tn) (st:tn 0 s.heap) (hf:∀ b∈fp,lJ X ad H b)
  (q:QR cap J g tc te σ H Q)
  (hRR:∀ (D:aD) (s₀:aH) (H₀:Hp) (σ':St) (H':Hp) (s':aH),Inv X ad σ H₀ s₀->(∀ b∈fp,lJ X ad H₀ b)->Inv (jX X N sc (gW X.env sc.names []) s₀.heap.objs.size s₀ H₀ fp) [] σ' H' s'->Q (.ref D) H' ->
   RR (.ref D) s₀.heap.objs.size (.ok .next) s') :
  aJ (aP X.prog X.w) X.A (newList []) (fun ai s₃=>aJ (aP X.prog X.w) X.A (newFunctionEnv sc X.env.globals (gW X.env sc.names []) [] X.env.qual ab .none (aa X.env)) (fun yy s₄=>
   pG (aP X.prog X.w) X.A (.compStart (.ListComp k4 [⟨tg,bh,j9,0⟩] sc pos) 0 (.ref it) ai { yy with scope:=xO sc X.env }) (RR ai yy.locals) s₄) E s₃) E s:=by
 have hl:∀ b∈fp,b<s.heap.objs.size:=fun b hb=>by
  obtain⟨o,e,_⟩:=T.obj 0 _ st b hb;exact cA e
 refine lB (wpAny_newFunctionEnv S.nocell (by intro y hy;simp at hy) (fun h₁ og oh=>?_) S.kind)
 dsimp only at og oh ⊢;have I0:Inv X ad σ (ar H s.heap.objs.size (.lst [])) { s with heap:=s.heap.push { cls:=.type "list",data:=.seq ([]:List aC).toArray },toks:=s.toks }:=I.lnew (ys:=[]) .nil (by simp)
 obtain⟨W,⟨m0,w0⟩,rc⟩:=q s.heap.objs.size I.fresh;generalize xL:({ s with heap:=s.heap.push { cls:=.type "list",data:=.seq ([]:List aC).toArray },toks:=s.toks }:aH)=s0 at I0;have hh:s.heap.push { cls:=.type "list",dict:=ab,data:=.seq ([]:List aC).toArray }=s0.heap:=by rw[← xL]
 have ht0:s0.toks=s.toks:=by rw[← xL]
 have hg0:s0.gens=s.gens/\s0.drawn=s.drawn/\s0.os=s.os:=by rw[← xL];exact⟨rfl,rfl,rfl⟩
 rw[hh] at og oh ⊢;have yz:∀ b o,s.heap.get? b=aa o->s0.heap.get? b=aa o:=fun b o e=>by rw[← hh];exact cH _ e
 have y6:∀ b o,s0.heap.get? b=aa o->h₁.get? b=aa o:=fun b o e=>oh.extBut b o (dI (cA e)) (cH _ e)
 have hl0:∀ b∈fp,b<s0.heap.objs.size:=fun b hb=>by
  obtain⟨o,e,_⟩:=T.obj 0 _ st b hb;exact cA (yz b o e)
 have J9:∀ b∈fp,lJ X ad (ar H s.heap.objs.size (.lst [])) b:=fun b hb=>by
  refine⟨?_,(hf b hb).2⟩;rw[fR (dI (hl b hb))];exact(hf b hb).1
 have I1:Inv (jX X N sc (gW X.env sc.names []) s0.heap.objs.size s0 (ar H s.heap.objs.size (.lst [])) fp) [] (vH cap σ) (ar H s.heap.objs.size (.lst [])) { s0 with heap:=h₁,toks:=s.toks+0 }:=
  Wu S I0 J9 hl0 og y6
 obtain⟨pg,pf,pe⟩:=hb (gW X.env sc.names []) s0.heap.objs.size s0 (ar H s.heap.objs.size (.lst [])) fp;have m3:tn 0 h₁:=T.keep _ _ _ st fun b hb o e=>y6 b o (yz b o e)
 have oe:∀ {H':Hp},(∀ b∈fp,H' b=ab)->∀ b∈fp,lJ (jX X N sc (gW X.env sc.names []) s0.heap.objs.size s0 (ar H s.heap.objs.size (.lst [])) fp) [] H' b:=fun hn b hb=>
  ⟨hn b hb,(I1.ok.exf b hb).1,I1.ok.exfs b hb,.inl hb,(I1.ok.exf b hb).2,fun p hp=>by simp[jX] at hp⟩
 have y7:∀ s3:aH,s3={ s0 with heap:=h₁,toks:=s.toks+0 } ->
   pG (aP X.prog X.w) X.A (.compLoop (.ListComp k4 [⟨tg,bh,j9,0⟩] sc pos) 0 (.ref it) (.ref s.heap.objs.size) (compEnvC sc (gW X.env sc.names []) s0.heap.objs.size X.env)) (RR (.ref s.heap.objs.size) s0.heap.objs.size) s3:=by
  rintro s3 rfl;refine Qv (fun n s'=>∃ i ys σ' H',Inv (jX X N sc (gW X.env sc.names []) s0.heap.objs.size s0 (ar H s.heap.objs.size (.lst [])) fp) [] σ' H' s'/\tn i s'.heap/\(∀ b∈fp,H' b=ab)/\W i n ys σ' H') ?_ m0
   ⟨0,[],vH cap σ,_,I1,m3,fun b hb=>(J9 b hb).1,w0⟩
  rintro n s3 ⟨i,ys,σ3,H3,I3,lr,yp,w3⟩;obtain⟨hD,h3⟩:=rc i n ys σ3 H3 w3;rcases h3 with⟨stop,qn⟩|⟨go,bg,M,hM,step⟩
  ·refine bp (T.done (jX X N sc (gW X.env sc.names []) s0.heap.objs.size s0 (ar H s.heap.objs.size (.lst [])) fp) rfl rfl rfl hc i [] s3 σ3 H3 (fun _ _=>False) I3 (oe yp) lr stop) fun r s4 gh=>?_
   obtain⟨hr,I4⟩:=gh;subst hr;exact hRR _ s0 _ σ3 H3 s4 I0 J9 I4 qn
  ·refine bp (T.item (jX X N sc (gW X.env sc.names []) s0.heap.objs.size s0 (ar H s.heap.objs.size (.lst [])) fp) rfl rfl rfl hc i [] s3 σ3 H3 (fun _ _=>False) I3 (oe yp) lr go) fun r s4 gh=>?_
   obtain⟨u,hr,h4⟩:=gh;subst hr;refine bp h4 fun _ s5 gh=>?_
   obtain⟨x,H5,I5,r5,y5,vf,J0⟩:=gh;have J1:=I5.pinned (oe J0) (T.obj _ _ vf);refine bp (pg _ s5 σ3 H5 x u _ J1 r5 (step x H5 y5)) fun _ s6 gh=>?_
   obtain⟨σ6,H6,I6,q6⟩:=gh;refine bp (pf _ s6 σ6 H6 _ I6 q6) fun b s7 gh=>?_
   obtain⟨H7,I7,q7⟩:=gh;have again:∀ {s8:aH} {H8:Hp} {zs:List V},Inv (jX X N sc (gW X.env sc.names []) s0.heap.objs.size s0 (ar H s.heap.objs.size (.lst [])) fp) ([]++yX fp s5.heap) σ6 H8 s8->M zs σ6 H8 ->
     ∃ m,m<n/\∃ i ys σ' H',Inv (jX X N sc (gW X.env sc.names []) s0.heap.objs.size s0 (ar H s.heap.objs.size (.lst [])) fp) [] σ' H' s8/\tn i s8.heap/\(∀ b∈fp,H' b=ab)/\W i m ys σ' H':=fun {s8 H8 zs} I8 w8=>by
    obtain⟨m',hm,w8⟩:=hM _ _ _ w8;refine⟨m',hm,i+1,zs,σ6,H8,I8.unpinned,T.keep _ _ _ vf fun b hb o e=>(I8.pin (b,o) (qG _ (qG _ (FZ hb e)))).1,fun b hb=>?_,w8⟩
    obtain⟨o,e,d⟩:=T.obj _ _ vf b hb;exact(I8.pin (b,o) (qG _ (qG _ (FZ hb e)))).2.1
   cases b with
   |false=>
    rw[if_neg oJ] at q7 ⊢;exact again I7 q7
   |true=>
    rw[if_pos rfl] at q7 ⊢;refine bp (pe _ s7 σ6 H7 _ I7 q7) fun v s8 gh=>?_
    obtain⟨y,H8,I8,r8,hD8,w8⟩:=gh;refine bp (VV _ s8 σ6 H8 (.ref s.heap.objs.size) [y] (.ref s.heap.objs.size) [v] (fun _ H9=>H9=ar H8 s.heap.objs.size (.lst (ys++[y]))) I8 rfl (.cons r8 .nil) ⟨_,ys,y,rfl,rfl,hD8,bg,rfl⟩) fun _ s9 gh=>?_
    obtain⟨_,H9,I9,_,e9⟩:=gh;subst e9;exact again I9 w8
 have e3:({ s with heap:=h₁,toks:=s.toks+([]:List (aE×aC)).length }:aH)={ s0 with heap:=h₁,toks:=s.toks+0 }:=by
  rw[← xL];rfl
 have fin:=codeAny_compStart_list (y7 _ rfl) (T.self X.A 0 _ _ _ m3 (y7 _ rfl));rw[← e3] at fin;exact fin
theorem Fw (hc:X.calm=ae)(S:CompScope X N cap sc)(hi:PI X tg bh wi)(hb:Block X N sc tg k4 j9 g tc te)(hs:∀ x,uL bh X.env x=pure x:=by intro _;rfl) :
  PE X (.ListComp k4 [⟨tg,bh,j9,0⟩] sc pos) (U3 cap wi g tc te):=by
 rw[6];rw[eval_ListComp];refine wpAny_comprehension_free (use:=ab) rfl hs (ZP (S.cells I.ok)) S.kind S.nm (bp (hi ad s σ H _ I h) fun v s1 h1=>bp h1 fun EQ s2 h2=>?_)
 obtain⟨it,fp,tn,J,H2,e,I2,T,ca,f2,q2⟩:=h2;subst e;refine SO (RR:=fun ai C=>compPost (aP X.prog X.w) X.A X.xe ab (EP X ad σ Q) ai C) hc S hb I2 T ca f2 q2 ?_
 intro D s₀ H₀ σ' H' s' I0 f0 I' qD;obtain⟨m,hn,_⟩:=id I'.loc;have IX:=comp_back I0 f0 I';refine⟨m,hn,fun h' jj=>⟨.ref D,H',?_,rfl,qD⟩⟩
 exact IX.turned (t':=s'.toks) (it:=s₀.heap.objs.size) (fun b o hb e=>(jj.2 b hb).trans e) I'.free (kB I0.lt) (.inr I0.sz) (fun x c e z=>by
  obtain⟨v,oc,h1,_⟩:=I0.cell x c e;exact absurd (cA h1) (by rw[z];exact lE _)) fun p hp z=>by
   have h1:=(I0.pin p hp).1;exact absurd (cA h1) (by rw[z];exact lE _)
theorem Vf(hc:X.calm=ae)(hN:X.N.Nodup)(om:X.N[i]?=aa x)(hx:nH X.env.scope x)(S:CompScope X N cap sc)(hi:PI X tg bh wi)(hb:Block X N sc tg k4 j9 g tc te)
  (uj:pE (.ListComp k4 [⟨tg,bh,j9,0⟩] sc pos) (aa (.Name x px)) ui.line X.env=pure ae:=by rfl)
  (hs:∀ x,uL bh X.env x=pure x:=by intro _;rfl) (hf:X.fn x=ae\/X.env.scope.names.lookup x=aa .local:=by first|exact .inl rfl|exact .inr rfl|assumption) :
  PS X (.Assign [.Name x px] (.ListComp k4 [⟨tg,bh,j9,0⟩] sc pos) ui) (IU (U3 cap wi g tc te) (GT i)):=by
 intro ad s σ H D I h;rw[exec_Assign_Name_used _ _ _ _ uj];refine aF (wpAny_standAt (aF ?_));show aJ _ X.A (do let _ ← comprehension (.ListComp k4 [⟨tg,bh,j9,0⟩] sc pos) sc X.env _ (newList []) af (cD bh X.env) (aa (mC (.Name x px) X.env))) _ _ s
 refine aF (lZ (wpAny_comprehension_free (use:=aa (mC (.Name x px) X.env)) (Q:=fun _ s'=>SP X ad D .next s') rfl hs (ZP (S.cells I.ok)) S.kind S.nm
  (bp (hi ad s σ H _ I h) fun v s1 h1=>bp h1 fun EQ s2 h2=>?_)) (fun _ s' hq=>aQ (aQ hq)) fun _ _ e=>e)
 obtain⟨it,fp,tn,J,H2,e,I2,T,ca,f2,q2⟩:=h2;subst e;refine SO (Q:=fun y H1=>GT i y σ H1 D.nx) (RR:=fun ai C=>compPost (aP X.prog X.w) X.A X.xe (aa (mC (.Name x px) X.env)) (fun _ s'=>SP X ad D .next s') ai C) hc S hb I2 T ca f2 q2 ?_
 intro D' s₀ H₀ σ' H' s' I0 f0 I' qD;obtain⟨m,hn,_⟩:=id I'.loc;have IX:=comp_back I0 f0 I';have rh:∀ x c,X.env.cells.lookup x=aa c->c≠s₀.heap.objs.size:=fun x c e z=>by
  obtain⟨v,oc,h1,_⟩:=I0.cell x c e;exact absurd (cA h1) (by rw[z];exact lE _)
 show aJ _ X.A (mC (.Name x px) X.env (.ref D')) _ _ _;refine wpAny_assign_Name (VY IX hN om hx (show RelV (.ref D') (.ref D') from rfl) (fun s3 I3 ch=>?_) hf)
 obtain⟨a,sb,ha⟩:=ch;have fu:s₀.heap.objs.size≠a:=by
  rcases ha with z|z
  ·rw[z];exact kB I0.lt
  ·exact fun q=>rh x a z q.symm
 refine⟨m,Heap.Ns.sameBut hn sb fu,fun h' jj=>⟨_,H',?_,qD⟩⟩
 exact I3.turned (t':=s3.toks) (it:=s₀.heap.objs.size) (fun b o hb e=>(jj.2 b hb).trans e) I'.free (kB I0.lt) (.inr I0.sz) rh fun p hp z=>by
  have h1:=(I0.pin p hp).1;exact absurd (cA h1) (by rw[z];exact lE _)
end
def SB (out:List (aE×oF))(XN N:List aE)(cap:List (Option Nat))(ns:List (aE×oF)):Bool:=
 ns.all (fun y=>y.2 != .cell)&&ns.all (fun y=>y.2 != .local||ns.lookup y.1==aa .local)&&ns.all (fun y=>y.2 != .free||out.lookup y.1==aa .cell||out.lookup y.1==aa .free) &&
 cap.length==N.length&&(cap.zip N).all (fun p=>match p.1 with|none=>ae|some j=>XN[j]?==aa p.2&&ns.lookup p.2==aa .free)
theorem mQ{out:List (aE×oF)}{XN:List aE}(h1:X.env.scope.names=out)(h2:X.N=XN)(J':SB out XN N cap sc.names=ae)(hk:sc.kind=.function):CompScope X N cap sc:=by
 unfold SB at J';simp only[IJ,hX,bne_iff_ne,ne_eq,Bool.or_eq_true,beq_iff_eq] at J';obtain⟨⟨⟨⟨c1,c2⟩,c3⟩,c4⟩,c5⟩:=J';refine⟨hk,c1,fun y hy e=>?_,fun y hy e=>?_,c4,fun i j e=>?_⟩
 ·rcases c2 y hy with q|q
  ·exact absurd e q
  ·exact q
 ·rw[h1];rcases c3 y hy with(q|q)|q
  ·exact absurd e q
  ·exact .inl q
  ·exact .inr q
 ·have hi:i<cap.length:=(dF.mp e).1;have om:i<N.length:=by omega
  have hm:(cap[i],N[i])∈cap.zip N:=by
   have:(cap.zip N)[i]?=aa (cap[i],N[i]):=by
    rw[List.getElem?_zip_eq_some];exact⟨eI hi,eI om⟩
   exact gZ this
  have q:=c5 _ hm;have ec:cap[i]=aa j:=by
   rw[eI hi] at e;exact gY e
  rw[ec] at q;simp only[IJ,beq_iff_eq] at q;exact⟨N[i],eI om,by rw[h2];exact q.1,q.2⟩
abbrev Ext (H H':Hp):Prop:=∀ b o,H b=aa o->H' b=aa o
theorem Ext.refl:Ext H H:=fun _ _ e=>e
theorem Ext.trans {H2:Hp}(a:Ext H H1)(b:Ext H1 H2):Ext H H2:=fun x o e=>b x o (a x o e)
theorem Ext.new{p:aD}(n:H p=ab):Ext H (ar H p o):=fun b u e=>by
 rw[fR (mR e n)];exact e
theorem Ext.rd(x:Ext H H'){u:HO}(r:Rd H a u):Rd H' a u:=by
 rcases r with r|⟨o,r⟩
 ·exact .inl (x _ _ r)
 ·exact .inr ⟨o,x _ _ r⟩
theorem Ext.sqL(x:Ext H H')(h:SqL K H a xs):SqL K H' a xs:=h.imp x.rd id
theorem Ext.none(x:Ext H H')(h:H' a=Option.none):H a=Option.none:=by
 cases e:H a with
 |none=>rfl
 |some o=>rw[x a o e] at h;cases h
open Classical in
def hid (H:Hp)(P:aD->Prop):Hp:=fun a=>if P a then ab else H a
theorem Afc:hid H P a=aa o ↔ ¬ P a/\H a=aa o:=by
 unfold hid;by_cases h:P a<;>simp[h]
theorem kU(n:¬ P a)(e:H a=aa o):hid H P a=aa o:=Afc.mpr ⟨n,e⟩
theorem Aa0:Ext (hid H P) H:=fun _ _ e=>(Afc.mp e).2
theorem fD(x:Ext H H'):Ext (hid H P) (hid H' P):=fun b o e=>by
 obtain⟨n,e⟩:=Afc.mp e;exact kU n (x b o e)
theorem lM{P':aD->Prop}(s:∀ a,P' a->P a):Ext (hid H P) (hid H P'):=fun b o e=>by
 obtain⟨n,e⟩:=Afc.mp e;exact kU (fun q=>n (s b q)) e
abbrev DQ:=(Nat×List (aO×V)) ⊕ List (List aA×V)
def dO:DQ->HO
 |.inl kvs=>.dK kvs.1 kvs.2
 |.inr ts=>.dT ts
def Hid (P:aD->Prop)(H:Hp):Prop:=∀ a,P a->(∃ xs,H a=aa (.lst xs))\/∃ q:DQ,H a=aa (dO q)
theorem Hid.ext(h:Hid P H)(x:Ext H H'):Hid P H':=fun a p=>(h a p).imp (fun⟨xs,e⟩=>⟨xs,x _ _ e⟩) fun⟨xs,e⟩=>⟨xs,x _ _ e⟩
theorem Hid.new(h:Hid P H)(n:H a=ab):¬ P a:=fun p=>by
 rcases h a p with⟨xs,e⟩|⟨xs,e⟩<;>rw[n] at e<;>cases e
theorem Hid.tup(h:Hid P H)(e:H a=aa (.tup xs)):hid H P a=aa (.tup xs):=kU (fun p=>by
 rcases h a p with⟨ys,e2⟩|⟨ys,e2⟩<;>rw[e] at e2<;>first|cases e2|(cases ys<;>simp[dO] at e2)) e
abbrev ju (P:aD->Prop)(F:List aD):aD->Prop:=fun a=>P a\/a∈F
theorem SR:ju P []=P:=by
 funext a;simp[ju]
def kD:aO->aA
 |.inl i=>.int i
 |.inr x=>.str x
def QU (a:aD)(kvs:List (V×V)):HO:=.ext fun h=>kvs.length≤sizeLine/\∃ o es ep,h.get? a=aa o/\o.ExactDict/\o.data=.dict es ep/\fE (fun(p:V×V) (e:rH)=>RelV p.1 e.key/\RelV p.2 e.val) kvs es.toList
mutual
def Ab3 (K:aM)(H:Hp):aA->V->Prop
 |.none,v=>v=.non
 |.bool b,v=>v=.bl b
 |.int i,v=>v=.int i
 |.str x,v=>v=.str x/\dX (.str x)=ae
 |.list ds,v=>∃ a xs,v=.ref a/\SqL K H a xs/\Aaw K H ds xs
 |.tuple ds,v=>∃ a xs,v=.ref a/\H a=aa (.tup xs)/\Aaw K H ds xs
 |.dict kds,v=>∃ a,v=.ref a/\((∃ kvs:Nat×List (aO×V),H a=aa (.dK kvs.1 kvs.2)/\Ack K H kds kvs.2)\/(∃ ts,H a=aa (.dT ts)/\Ayb K H kds ts)\/∃ xs,H a=aa (QU a xs)/\A0x K H kds xs)
def Aaw (K:aM)(H:Hp):List aA->List V->Prop
 |[],xs=>xs=[]
 |d::ds,xs=>∃ x r,xs=x::r/\Ab3 K H d x/\Aaw K H ds r
def Ack (K:aM)(H:Hp):List (aA×aA)->List (aO×V)->Prop
 |[],xs=>xs=[]
 |(k,d)::ds,xs=>∃ k' x r,xs=(k',x)::r/\k=kD k'/\Ab3 K H d x/\Ack K H ds r
def Acv (K:aM)(H:Hp):List (aA×aA)->List (List aA×V)->Prop
 |[],xs=>xs=[]
 |(k,d)::ds,xs=>∃ k' x r,xs=(k',x)::r/\(k=.tuple k'/\cC k'=ae)/\Ab3 K H d x/\Acv K H ds r
def Ayb (K:aM)(H:Hp):List (aA×aA)->List (List aA×V)->Prop
 |[],_=>False
 |(k,_)::ds,xs=>k=.none/\Acv K H ds xs
def A0x (K:aM)(H:Hp):List (aA×aA)->List (V×V)->Prop
 |[],_=>False
 |(k,m)::ds,xs=>k=.none/\ds=[]/\Ass K H m xs
def Ass (K:aM)(H:Hp):aA->List (V×V)->Prop
 |.list es,xs=>Ajt K H es xs
 |_,_=>False
def Ajt (K:aM)(H:Hp):List aA->List (V×V)->Prop
 |[],xs=>xs=[]
 |d::ds,xs=>∃ x r,xs=x::r/\Axe K H d x/\Ajt K H ds r
def Axe (K:aM)(H:Hp):aA->V×V->Prop
 |.tuple ds,x=>Aaw K H ds [x.1,x.2]
 |_,_=>False
end
def j8:List (aA×aA)->Bool
 |(.none,_)::_=>af
 |_=>ae
theorem Acm:Ab3 K H .none v↔v=.non:=by simp[Ab3]
theorem Aa2 {b:Bool}:Ab3 K H (.bool b) v↔v=.bl b:=by simp[Ab3]
theorem Aax {b:Int}:Ab3 K H (.int b) v↔v=.int b:=by simp[Ab3]
theorem Aa6 {b:aE}:Ab3 K H (.str b) v↔v=.str b/\dX (.str b)=ae:=by simp only[Ab3]
theorem Abh:Ab3 K H (.list ds) v ↔ ∃ a xs,v=.ref a/\SqL K H a xs/\Aaw K H ds xs:=by simp only[Ab3]
theorem Aa3:Ab3 K H (.tuple ds) v ↔ ∃ a xs,v=.ref a/\H a=aa (.tup xs)/\Aaw K H ds xs:=by simp only[Ab3]
theorem Ads {ds:List (aA×aA)}:Ab3 K H (.dict ds) v ↔ ∃ a,v=.ref a/\((∃ kvs:Nat×List (aO×V),H a=aa (.dK kvs.1 kvs.2)/\Ack K H ds kvs.2)\/(∃ ts,H a=aa (.dT ts)/\Ayb K H ds ts)\/∃ xs,H a=aa (QU a xs)/\A0x K H ds xs):=by simp only[Ab3]
theorem Ahl {k:aA}{ds:List (aA×aA)}{xs:List (V×V)}:A0x K H ((k,m)::ds) xs↔k=.none/\ds=[]/\Ass K H m xs:=by simp only[A0x]
theorem Ze{xs:List (V×V)}(h:Ass K H m xs):∃ es,m=.list es/\Ajt K H es xs:=by
 cases m with
 |list es=>exact⟨es,rfl,by simpa only[Ass] using h⟩
 |_=>simp[Ass] at h
theorem Au7 {xs:List (V×V)}:Ajt K H [] xs↔xs=[]:=by simp[Ajt]
theorem Aq5{xs:List (V×V)}:Ajt K H (d::ds) xs ↔ ∃ x r,xs=x::r/\Axe K H d x/\Ajt K H ds r:=by simp only[Ajt]
theorem LK {ds:List (aA×aA)}{xs:List (V×V)}(h:A0x K H ds xs):∃ es,ds=[(.none,.list es)]/\Ajt K H es xs:=by
 cases ds with
 |nil=>simp[A0x] at h
 |cons p r=>
  obtain⟨k,m⟩:=p;obtain⟨rfl,rfl,h1⟩:=Ahl.mp h;obtain⟨es,rfl,h2⟩:=Ze h1;exact⟨es,rfl,h2⟩
theorem Adf {xs:List (List aA×V)}:Acv K H [] xs↔xs=[]:=by simp[Acv]
theorem Ab4 {k:aA}{ds:List (aA×aA)}{xs:List (List aA×V)}:Acv K H ((k,d)::ds) xs ↔ ∃ k' x r,xs=(k',x)::r/\(k=.tuple k'/\cC k'=ae)/\Ab3 K H d x/\Acv K H ds r:=by simp only[Acv]
theorem Afy {k:aA}{ds:List (aA×aA)}{xs:List (List aA×V)}:Ayb K H ((k,m)::ds) xs↔k=.none/\Acv K H ds xs:=by simp only[Ayb]
theorem Yb {ds:List (aA×aA)}{xs:List (List aA×V)}(hk:j8 ds=ae):¬ Ayb K H ds xs:=by
 cases ds with
 |nil=>simp[Ayb]
 |cons p r=>
  obtain⟨k,d⟩:=p;intro h;rw[(Afy.mp h).1] at hk;simp[j8] at hk
theorem zS {ds:List (aA×aA)}(hk:j8 ds=ae):Ab3 K H (.dict ds) v ↔ ∃ a,∃ kvs:Nat×List (aO×V),v=.ref a/\H a=aa (.dK kvs.1 kvs.2)/\Ack K H ds kvs.2:=by
 rw[Ads];constructor
 ·rintro⟨a,e,⟨kvs,h,r⟩|⟨ts,h,r⟩|⟨xs,h,r⟩⟩
  ·exact⟨a,kvs,e,h,r⟩
  ·exact absurd r (Yb hk)
  ·obtain⟨es,rfl,_⟩:=LK r;simp[j8] at hk
 ·rintro⟨a,kvs,e,h,r⟩;exact⟨a,e,.inl ⟨kvs,h,r⟩⟩
theorem Yy {ds:List (aA×aA)}{kvs:Nat×List (aO×V)}(e:v=.ref a)(h:H a=aa (.dK kvs.1 kvs.2))(r:Ack K H ds kvs.2):Ab3 K H (.dict ds) v:=Ads.mpr ⟨a,e,.inl ⟨kvs,h,r⟩⟩
theorem Aav:Aaw K H [] xs↔xs=[]:=by simp[Aaw]
theorem Aan:Aaw K H (d::ds) xs ↔ ∃ x r,xs=x::r/\Ab3 K H d x/\Aaw K H ds r:=by simp only[Aaw]
theorem Acn {xs:List (aO×V)}:Ack K H [] xs↔xs=[]:=by simp[Ack]
theorem Abr {k:aA}{ds:List (aA×aA)}{xs:List (aO×V)}:Ack K H ((k,d)::ds) xs ↔ ∃ k' x r,xs=(k',x)::r/\k=kD k'/\Ab3 K H d x/\Ack K H ds r:=by simp only[Ack]
theorem AE{ds:List (aA×aA)}(hm:∀ es,m ≠ .list es:=by intro _ z;cases z):Ab3 K H (.dict ((.none,m)::ds)) v ↔ ∃ a ts,v=.ref a/\H a=aa (.dT ts)/\Acv K H ds ts:=by
 rw[Ads];constructor
 ·rintro⟨a,e,⟨kvs,h,r⟩|⟨ts,h,r⟩|⟨xs,h,r⟩⟩
  ·obtain⟨k',_,_,_,ek,_⟩:=Abr.mp r;cases k'<;>simp[kD] at ek
  ·exact⟨a,ts,e,h,(Afy.mp r).2⟩
  ·obtain⟨es,z,_⟩:=LK r;cases z;exact absurd rfl (hm es)
 ·rintro⟨a,ts,e,h,r⟩;exact⟨a,e,.inr (.inl ⟨ts,h,Afy.mpr ⟨rfl,r⟩⟩)⟩
mutual
theorem Ab3.ext(x:Ext H H'):∀ {d:aA} {v:V},Ab3 K H d v->Ab3 K H' d v
 |.none,_,h=>Acm.mpr (Acm.mp h)
 |.bool _,_,h=>Aa2.mpr (Aa2.mp h)
 |.int _,_,h=>Aax.mpr (Aax.mp h)
 |.str _,_,h=>Aa6.mpr (Aa6.mp h)
 |.list ds,_,h=>by
  obtain⟨a,xs,e,s,r⟩:=Abh.mp h;exact Abh.mpr ⟨a,xs,e,x.sqL s,Aaw.ext x r⟩
 |.tuple ds,_,h=>by
  obtain⟨a,xs,e,s,r⟩:=Aa3.mp h;exact Aa3.mpr ⟨a,xs,e,x _ _ s,Aaw.ext x r⟩
 |.dict ds,_,h=>by
  obtain⟨a,e,⟨kvs,r,q⟩|⟨ts,r,q⟩|⟨xs,r,q⟩⟩:=Ads.mp h
  ·exact Ads.mpr ⟨a,e,.inl ⟨kvs,x _ _ r,Ack.ext x q⟩⟩
  ·exact Ads.mpr ⟨a,e,.inr (.inl ⟨ts,x _ _ r,Ayb.ext x q⟩)⟩
  ·exact Ads.mpr ⟨a,e,.inr (.inr ⟨xs,x _ _ r,A0x.ext x q⟩)⟩
theorem Aaw.ext(x:Ext H H'):∀ {ds:List aA} {vs:List V},Aaw K H ds vs->Aaw K H' ds vs
 |[],_,h=>Aav.mpr (Aav.mp h)
 |d::ds,_,h=>by
  obtain⟨y,r,e,h1,h2⟩:=Aan.mp h;exact Aan.mpr ⟨y,r,e,Ab3.ext x h1,Aaw.ext x h2⟩
theorem Ack.ext(x:Ext H H'):∀ {ds:List (aA×aA)} {vs:List (aO×V)},Ack K H ds vs->Ack K H' ds vs
 |[],_,h=>Acn.mpr (Acn.mp h)
 |(k,d)::ds,_,h=>by
  obtain⟨k',y,r,e,ek,h1,h2⟩:=Abr.mp h;exact Abr.mpr ⟨k',y,r,e,ek,Ab3.ext x h1,Ack.ext x h2⟩
theorem Acv.ext(x:Ext H H'):∀ {ds:List (aA×aA)} {vs:List (List aA×V)},Acv K H ds vs->Acv K H' ds vs
 |[],_,h=>Adf.mpr (Adf.mp h)
 |(k,d)::ds,_,h=>by
  obtain⟨k',y,r,e,ek,h1,h2⟩:=Ab4.mp h;exact Ab4.mpr ⟨k',y,r,e,ek,Ab3.ext x h1,Acv.ext x h2⟩
theorem Ayb.ext(x:Ext H H'):∀ {ds:List (aA×aA)} {vs:List (List aA×V)},Ayb K H ds vs->Ayb K H' ds vs
 |[],_,h=>absurd h (by simp[Ayb])
 |(k,d)::ds,_,h=>Afy.mpr ⟨(Afy.mp h).1,Acv.ext x (Afy.mp h).2⟩
theorem A0x.ext(x:Ext H H'):∀ {ds:List (aA×aA)} {vs:List (V×V)},A0x K H ds vs->A0x K H' ds vs
 |[],_,h=>absurd h (by simp[A0x])
 |(k,d)::ds,_,h=>Ahl.mpr ⟨(Ahl.mp h).1,(Ahl.mp h).2.1,Ass.ext x (Ahl.mp h).2.2⟩
theorem Ass.ext(x:Ext H H'):∀ {d:aA} {vs:List (V×V)},Ass K H d vs->Ass K H' d vs
 |.list es,_,h=>by
  rw[Ass] at h ⊢;exact Ajt.ext x h
 |.none,_,h=>absurd h (by simp[Ass])
 |.bool _,_,h=>absurd h (by simp[Ass])
 |.int _,_,h=>absurd h (by simp[Ass])
 |.str _,_,h=>absurd h (by simp[Ass])
 |.tuple _,_,h=>absurd h (by simp[Ass])
 |.dict _,_,h=>absurd h (by simp[Ass])
theorem Ajt.ext(x:Ext H H'):∀ {ds:List aA} {vs:List (V×V)},Ajt K H ds vs->Ajt K H' ds vs
 |[],_,h=>Au7.mpr (Au7.mp h)
 |d::ds,_,h=>by
  obtain⟨y,r,e,h1,h2⟩:=Aq5.mp h;exact Aq5.mpr ⟨y,r,e,Axe.ext x h1,Ajt.ext x h2⟩
theorem Axe.ext(x:Ext H H'):∀ {d:aA} {y:V×V},Axe K H d y->Axe K H' d y
 |.tuple ds,_,h=>by
  rw[Axe] at h ⊢;exact Aaw.ext x h
 |.none,_,h=>absurd h (by simp[Axe])
 |.bool _,_,h=>absurd h (by simp[Axe])
 |.int _,_,h=>absurd h (by simp[Axe])
 |.str _,_,h=>absurd h (by simp[Axe])
 |.list _,_,h=>absurd h (by simp[Axe])
 |.dict _,_,h=>absurd h (by simp[Axe])
end
theorem Aaw.length:∀ {ds:List aA} {vs:List V},Aaw K H ds vs->vs.length=ds.length
 |[],_,h=>by rw[Aav.mp h];rfl
 |d::ds,_,h=>by
  obtain⟨y,r,e,h1,h2⟩:=Aan.mp h;rw[e,hW,hW,Aaw.length h2]
theorem Aaw.get:∀ {ds:List aA} {vs:List V} {i:Nat} {d:aA},Aaw K H ds vs->ds[i]?=aa d->∃ v,vs[i]?=aa v/\Ab3 K H d v
 |[],_,_,_,h,e=>by simp at e
 |d::ds,_,0,d',h,e=>by
  obtain⟨y,r,rfl,h1,h2⟩:=Aan.mp h;have:d=d':=by simpa using e
  rw[10];exact⟨y,rfl,h1⟩
 |d::ds,_,i+1,d',h,e=>by
  obtain⟨y,r,rfl,h1,h2⟩:=Aan.mp h;obtain⟨v,h3,h4⟩:=Aaw.get (i:=i) h2 (by simpa using e)
  exact⟨v,by simpa using h3,h4⟩
theorem Aaw.append:∀ {ds es:List aA} {vs ws:List V},Aaw K H ds vs->Aaw K H es ws->Aaw K H (ds++es) (vs++ws)
 |[],es,_,_,h,g=>by rw[Aav.mp h];exact g
 |d::ds,es,_,_,h,g=>by
  obtain⟨y,r,rfl,h1,h2⟩:=Aan.mp h;exact Aan.mpr ⟨y,_,rfl,h1,Aaw.append h2 g⟩
theorem Aaw.snoc{vs:List V}(h:Aaw K H ds vs)(g:Ab3 K H d v):Aaw K H (ds++[d]) (vs++[v]):=
 h.append (Aan.mpr ⟨v,[],rfl,g,Aav.mpr rfl⟩)
theorem Aaw.drop:∀ {ds:List aA} {vs:List V} (n:Nat),Aaw K H ds vs->Aaw K H (ds.drop n) (vs.drop n)
 |_,_,0,h=>h
 |[],_,n+1,h=>by rw[Aav.mp h];exact Aav.mpr rfl
 |d::ds,_,n+1,h=>by
  obtain⟨y,r,rfl,h1,h2⟩:=Aan.mp h;exact Aaw.drop n h2
theorem Aaw.take:∀ {ds:List aA} {vs:List V} (n:Nat),Aaw K H ds vs->Aaw K H (ds.take n) (vs.take n)
 |_,_,0,h=>Aav.mpr rfl
 |[],_,n+1,h=>by rw[Aav.mp h];exact Aav.mpr rfl
 |d::ds,_,n+1,h=>by
  obtain⟨y,r,rfl,h1,h2⟩:=Aan.mp h;exact Aan.mpr ⟨y,_,rfl,h1,Aaw.take n h2⟩
theorem Aaw.set(g:Ab3 K H d v):∀ {ds:List aA} {vs:List V} (n:Nat),Aaw K H ds vs->Aaw K H (ds.set n d) (vs.set n v)
 |[],_,n,h=>by rw[Aav.mp h];exact Aav.mpr rfl
 |e::ds,_,0,h=>by
  obtain⟨y,r,rfl,h1,h2⟩:=Aan.mp h;exact Aan.mpr ⟨v,r,rfl,g,h2⟩
 |e::ds,_,n+1,h=>by
  obtain⟨y,r,rfl,h1,h2⟩:=Aan.mp h;exact Aan.mpr ⟨y,_,rfl,h1,Aaw.set g n h2⟩
theorem WK:∀ ns:List Int,Aaw K H (ns.map aX) (ns.map V.int)
 |[]=>Aav.mpr rfl
 |n::r=>Aan.mpr ⟨_,_,rfl,Aax.mpr rfl,WK r⟩
theorem Qz(h:Ab3 K H (kD k) v):v=kV k:=by
 cases k with
 |inl i=>exact Aax.mp h
 |inr x=>exact(Aa6.mp h).1
mutual
theorem Ab3.key {K:aM}{H:Hp}:∀ (d:aA) {v:V},bN d=ae->Ab3 K H d v->Ak3 H d v
 |.int i,v,_,h=>by simpa [Ak3] using Aax.mp h
 |.str i,v,_,h=>by simpa [Ak3] using(Aa6.mp h).1
 |.tuple ds,v,k,h=>by
  obtain⟨a,xs,e,s,r⟩:=Aa3.mp h;simp only[Ak3];exact⟨a,xs,e,s,Aaw.keys ds (by simpa [bN] using k) r⟩
 |.none,v,k,_=>by simp[bN] at k
 |.bool _,v,k,_=>by simp[bN] at k
 |.list _,v,k,_=>by simp[bN] at k
 |.dict _,v,k,_=>by simp[bN] at k
theorem Aaw.keys {K:aM}{H:Hp}:∀ (ds:List aA) {vs:List V},cC ds=ae->Aaw K H ds vs->Ah4 H ds vs
 |[],vs,_,h=>by simpa [Ah4] using Aav.mp h
 |d::ds,vs,k,h=>by
  have k':bN d=ae/\cC ds=ae:=by simpa [cC] using k
  obtain⟨y,r,e,h1,h2⟩:=Aan.mp h;simp only[Ah4];exact⟨y,r,e,Ab3.key d k'.1 h1,Aaw.keys ds k'.2 h2⟩
end
mutual
def cT:aA->Bool
 |.list _=>af
 |.dict _=>af
 |.tuple ds=>nU ds
 |_=>ae
def nU:List aA->Bool
 |[]=>ae
 |d::r=>cT d&&nU r
end
mutual
theorem Ab3.flat(x:∀ a xs,H a=aa (.tup xs)->H' a=aa (.tup xs)):∀ (d:aA) {v:V},cT d=ae->Ab3 K H d v->Ab3 K H' d v
 |.none,_,_,h=>Acm.mpr (Acm.mp h)
 |.bool _,_,_,h=>Aa2.mpr (Aa2.mp h)
 |.int _,_,_,h=>Aax.mpr (Aax.mp h)
 |.str _,_,_,h=>Aa6.mpr (Aa6.mp h)
 |.tuple ds,_,f,h=>by
  obtain⟨a,xs,e,s,r⟩:=Aa3.mp h;exact Aa3.mpr ⟨a,xs,e,x _ _ s,Aaw.flat x ds (by simpa [cT] using f) r⟩
 |.list _,_,f,_=>by simp[cT] at f
 |.dict _,_,f,_=>by simp[cT] at f
theorem Aaw.flat(x:∀ a xs,H a=aa (.tup xs)->H' a=aa (.tup xs)):∀ (ds:List aA) {vs:List V},nU ds=ae->Aaw K H ds vs->Aaw K H' ds vs
 |[],_,_,h=>Aav.mpr (Aav.mp h)
 |d::ds,_,f,h=>by
  have f':cT d=ae/\nU ds=ae:=by simpa [nU] using f
  obtain⟨y,r,e,h1,h2⟩:=Aan.mp h;exact Aan.mpr ⟨y,r,e,Ab3.flat x d f'.1 h1,Aaw.flat x ds f'.2 h2⟩
end
inductive All3 {α β γ:Type}(R:α->β->γ->Prop):List α->List β->List γ->Prop
 |nil:All3 R [] [] []
 |cons {a b c as bs cs}:R a b c->All3 R as bs cs->All3 R (a::as) (b::bs) (c::cs)
theorem All3.imp {α β γ:Type}{R S:α->β->γ->Prop}:∀ {as:List α} {bs:List β} {cs:List γ},All3 R as bs cs->(∀ a b c,c∈cs->R a b c->S a b c)->All3 S as bs cs:=by
 intro as bs cs h;induction h with
 |nil=>exact fun _=>.nil
 |cons h _ ih=>exact fun f=>.cons (f _ _ _ bS h) (ih fun a b c m=>f a b c (cG _ m))
def Agd (K:aM)(B H:Hp):Nat->aA->V->List aD->Prop
 |0,d,v,F=>F=[]/\Ab3 K B d v
 |n+1,d,v,F=>match d with
  |.list ds=>∃ p xs Fs,v=.ref p/\H p=aa (.lst xs)/\F=p::Fs.flatten/\All3 (Agd K B H n) ds xs Fs
  |.dict kds=>∃ p,∃ kvs:Nat×List (aO×V),∃ Fs,v=.ref p/\H p=aa (.dK kvs.1 kvs.2)/\F=p::Fs.flatten/\All3 (fun(kd:aA×aA) (kv:aO×V) f=>kd.1=kD kv.1/\Agd K B H n kd.2 kv.2 f) kds kvs.2 Fs
  |.tuple ds=>(n=0/\F=[]/\Ab3 K B (.tuple ds) v)\/(n≠0/\∃ p xs Fs,v=.ref p/\B p=aa (.tup xs)/\F=Fs.flatten/\All3 (Agd K B H n) ds xs Fs)
  |d=>F=[]/\Ab3 K B d v
theorem Agd.keep(xb:Ext B B'):∀ {n:Nat} {d:aA} {v:V} {F:List aD},(∀ a∈F,H' a=H a)->Agd K B H n d v F->Agd K B' H' n d v F
 |0,d,v,F,_,h=>⟨h.1,h.2.ext xb⟩
 |n+1,.list ds,v,F,kp,h=>by
  obtain⟨p,xs,Fs,e,hp,rfl,q⟩:=h;refine⟨p,xs,Fs,e,(kp p bS).trans hp,rfl,q.imp fun a b c m r=>Agd.keep xb (fun z hz=>kp z (cG _ (sQ.mpr ⟨c,m,hz⟩))) r⟩
 |n+1,.dict kds,v,F,kp,h=>by
  obtain⟨p,xs,Fs,e,hp,rfl,q⟩:=h;refine⟨p,xs,Fs,e,(kp p bS).trans hp,rfl,q.imp fun a b c m r=>⟨r.1,Agd.keep xb (fun z hz=>kp z (cG _ (sQ.mpr ⟨c,m,hz⟩))) r.2⟩⟩
 |n+1,.none,v,F,_,h=>⟨h.1,h.2.ext xb⟩
 |n+1,.bool _,v,F,_,h=>⟨h.1,h.2.ext xb⟩
 |n+1,.int _,v,F,_,h=>⟨h.1,h.2.ext xb⟩
 |n+1,.str _,v,F,_,h=>⟨h.1,h.2.ext xb⟩
 |n+1,.tuple ds,v,F,kp,h=>by
  rcases h with⟨h0,h1,h2⟩|⟨h0,p,xs,Fs,e,hp,rfl,q⟩
  ·exact .inl ⟨h0,h1,h2.ext xb⟩
  ·exact .inr ⟨h0,p,xs,Fs,e,xb _ _ hp,rfl,q.imp fun a b c m r=>Agd.keep xb (fun z hz=>kp z (sQ.mpr ⟨c,m,hz⟩)) r⟩
theorem XT{R:aA->V->List aD->Prop}(f:∀ d v F,R d v F->Ab3 K B d v):∀ {ds:List aA} {xs:List V} {Fs:List (List aD)},All3 R ds xs Fs->Aaw K B ds xs:=by
 intro ds xs Fs h;induction h with
 |nil=>exact Aav.mpr rfl
 |cons h _ ih=>exact Aan.mpr ⟨_,_,rfl,f _ _ _ h,ih⟩
theorem Zs{R:aA×aA->aO×V->List aD->Prop}(f:∀ d v F,R d v F->d.1=kD v.1/\Ab3 K B d.2 v.2):∀ {ds:List (aA×aA)} {xs:List (aO×V)} {Fs:List (List aD)},All3 R ds xs Fs->Ack K B ds xs:=by
 intro ds xs Fs h;induction h with
 |nil=>exact Acn.mpr rfl
 |@cons p q F ds xs Fs h _ ih=>
  obtain⟨k,d⟩:=p;obtain⟨k',v⟩:=q;exact Abr.mpr ⟨_,_,_,rfl,(f _ _ _ h).1,(f _ _ _ h).2,ih⟩
theorem Agd.share(xb:Ext B B'):∀ {n:Nat} {d:aA} {v:V} {F:List aD},(∀ a∈F,∀ o,H a=aa o->B' a=aa o)->Agd K B H n d v F->Ab3 K B' d v
 |0,d,v,F,_,h=>h.2.ext xb
 |n+1,.list ds,v,F,kp,h=>by
  obtain⟨p,xs,Fs,e,hp,rfl,q⟩:=h;refine Abh.mpr ⟨p,xs,e,SqL.of (kp p bS _ hp),?_⟩;exact XT (fun d v F r=>r) (q.imp fun a b c m r=>Agd.share xb (fun z hz=>kp z (cG _ (sQ.mpr ⟨c,m,hz⟩))) r)
 |n+1,.dict kds,v,F,kp,h=>by
  obtain⟨p,xs,Fs,e,hp,rfl,q⟩:=h;refine Yy e (kp p bS _ hp) ?_;exact Zs (R:=fun kd kv _=>kd.1=kD kv.1/\Ab3 K B' kd.2 kv.2) (fun d v F r=>r) (q.imp fun a b c m r=>⟨r.1,Agd.share xb (fun z hz=>kp z (cG _ (sQ.mpr ⟨c,m,hz⟩))) r.2⟩)
 |n+1,.none,v,F,_,h=>h.2.ext xb
 |n+1,.bool _,v,F,_,h=>h.2.ext xb
 |n+1,.int _,v,F,_,h=>h.2.ext xb
 |n+1,.str _,v,F,_,h=>h.2.ext xb
 |n+1,.tuple ds,v,F,kp,h=>by
  rcases h with⟨h0,h1,h2⟩|⟨h0,p,xs,Fs,e,hp,rfl,q⟩
  ·exact h2.ext xb
  ·refine Aa3.mpr ⟨p,xs,e,xb _ _ hp,?_⟩;exact XT (fun d v F r=>r) (q.imp fun a b c m r=>Agd.share xb (fun z hz=>kp z (sQ.mpr ⟨c,m,hz⟩)) r)
def dR:Nat->aA->Bool
 |0,d=>cT d
 |n+1,.list ds=>ds.all (dR n)
 |n+1,.dict kds=>kds.all fun kd=>dR n kd.2
 |n+2,.tuple ds=>ds.all (dR (n+1))
 |n+1,d=>cT d
theorem Agd.flat(xb:∀ a xs,B a=aa (.tup xs)->B' a=aa (.tup xs)):∀ {n:Nat} {d:aA} {v:V} {F:List aD},dR n d=ae->Agd K B H n d v F->Agd K B' H n d v F
 |0,d,v,F,f,h=>⟨h.1,h.2.flat xb d f⟩
 |n+1,.list ds,v,F,f,h=>by
  obtain⟨p,xs,Fs,e,hp,rfl,q⟩:=h;refine⟨p,xs,Fs,e,hp,rfl,?_⟩;have f':∀ d∈ds,dR n d=ae:=by simpa [dR] using f
  clear hp f e;induction q with
  |nil=>exact .nil
  |cons h t ih=>exact .cons (Agd.flat xb (f' _ bS) h) (ih fun d m=>f' d (cG _ m))
 |n+1,.dict kds,v,F,f,h=>by
  obtain⟨p,xs,Fs,e,hp,rfl,q⟩:=h;refine⟨p,xs,Fs,e,hp,rfl,?_⟩;have f':∀ d∈kds,dR n d.2=ae:=fun d m=>by
   have:kds.all (fun kd=>dR n kd.2)=ae:=by simpa [dR] using f
   exact hX.mp this d m
  clear hp f e;obtain⟨xe,xs⟩:=xs;replace q:All3 _ kds xs Fs:=q;show All3 _ kds xs Fs;induction q with
  |nil=>exact .nil
  |cons h t ih=>exact .cons ⟨h.1,Agd.flat xb (f' _ bS) h.2⟩ (ih fun d m=>f' d (cG _ m))
 |n+1,.none,v,F,f,h=>⟨h.1,h.2.flat xb _ f⟩
 |n+1,.bool _,v,F,f,h=>⟨h.1,h.2.flat xb _ f⟩
 |n+1,.int _,v,F,f,h=>⟨h.1,h.2.flat xb _ f⟩
 |n+1,.str _,v,F,f,h=>⟨h.1,h.2.flat xb _ f⟩
 |1,.tuple ds,v,F,f,h=>by
  rcases h with⟨h0,h1,h2⟩|⟨h0,_⟩
  ·exact .inl ⟨h0,h1,h2.flat xb _ f⟩
  ·exact absurd rfl h0
 |n+2,.tuple ds,v,F,f,h=>by
  rcases h with⟨h0,_⟩|⟨h0,p,xs,Fs,e,hp,rfl,q⟩
  ·exact absurd h0 (by omega)
  ·refine .inr ⟨h0,p,xs,Fs,e,xb _ _ hp,rfl,?_⟩;have f':∀ d∈ds,dR (n+1) d=ae:=by simpa [dR] using f
   clear hp f e;induction q with
   |nil=>exact .nil
   |cons h t ih=>exact .cons (Agd.flat xb (f' _ bS) h) (ih fun d m=>f' d (cG _ m))
theorem All3.of {α β γ:Type}{R:α->β->γ->Prop}:∀ {as:List α} {bs:List β} {cs:List γ},All3 R as bs cs->∀ c∈cs,∃ a b,R a b c:=by
 intro as bs cs h;induction h with
 |nil=>exact fun c m=>by simp at m
 |cons h _ ih=>
  intro c m;rcases dU.mp m with rfl|m
  ·exact⟨_,_,h⟩
  ·exact ih c m
mutual
def o8:aA->Bool
 |.dict kds=>D7 kds
 |.list ds=>pC ds
 |.tuple ds=>pC ds
 |_=>ae
def pC:List aA->Bool
 |[]=>ae
 |d::r=>o8 d&&pC r
def D7:List (aA×aA)->Bool
 |(.none,.none)::r=>sI r
 |_=>af
def sI:List (aA×aA)->Bool
 |[]=>ae
 |(_,d)::r=>o8 d&&sI r
end
def jM:Nat->aA->Bool
 |0,d=>o8 d
 |n+1,.list ds=>ds.all (jM n)
 |n+1,.dict kds=>kds.all fun kd=>jM n kd.2
 |_,_=>af
theorem Jr (xs:List V):∀ q,HO.lst xs≠dO q:=fun q z=>by cases q<;>cases z
theorem Jd (xs:List V):∀ q,HO.tup xs≠dO q:=fun q z=>by cases q<;>cases z
theorem Jj (o:bI)(u:HO):∀ q,HO.frz o u≠dO q:=fun q z=>by cases q<;>cases z
def D6 (H H':Hp):Prop:=∀ a o,H a=aa o->(∀ q,o≠dO (.inl q))->H' a=aa o
mutual
theorem Ab3.nd(x:D6 H H'):∀ (d:aA) {v:V},o8 d=ae->Ab3 K H d v->Ab3 K H' d v
 |.none,_,_,h=>Acm.mpr (Acm.mp h)
 |.bool _,_,_,h=>Aa2.mpr (Aa2.mp h)
 |.int _,_,_,h=>Aax.mpr (Aax.mp h)
 |.str _,_,_,h=>Aa6.mpr (Aa6.mp h)
 |.tuple ds,_,f,h=>by
  obtain⟨a,xs,e,s,r⟩:=Aa3.mp h;exact Aa3.mpr ⟨a,xs,e,x _ _ s (fun q=>Jd _ _),Aaw.nd x ds (by simpa [o8] using f) r⟩
 |.list ds,_,f,h=>by
  obtain⟨a,xs,e,s,r⟩:=Abh.mp h;refine Abh.mpr ⟨a,xs,e,s.imp (fun s=>?_) id,Aaw.nd x ds (by simpa [o8] using f) r⟩
  rcases s with s|⟨o,s⟩
  ·exact .inl (x _ _ s (fun q=>Jr _ _))
  ·exact .inr ⟨o,x _ _ s (fun q=>Jj _ _ _)⟩
 |.dict [],_,f,_=>by simp[o8,D7] at f
 |.dict ((k,m)::kds),_,f,h=>by
  have f:D7 ((k,m)::kds)=ae:=by simpa only[o8] using f
  cases k<;>cases m<;>first|(simp[D7] at f;done)|skip
  obtain⟨a,ts,e,s,r⟩:=(AE).mp h;exact(AE).mpr ⟨a,ts,e,x _ _ s (fun q z=>by cases z),Acv.nd x kds (by simpa only[D7] using f) r⟩
theorem Acv.nd(x:D6 H H'):∀ (kds:List (aA×aA)) {ts:List (List aA×V)},sI kds=ae->Acv K H kds ts->Acv K H' kds ts
 |[],_,_,h=>Adf.mpr (Adf.mp h)
 |(k,d)::r,_,f,h=>by
  have f':o8 d=ae/\sI r=ae:=by simpa [sI] using f
  obtain⟨k',y,rr,e,ek,h1,h2⟩:=Ab4.mp h;exact Ab4.mpr ⟨k',y,rr,e,ek,Ab3.nd x d f'.1 h1,Acv.nd x r f'.2 h2⟩
theorem Aaw.nd(x:D6 H H'):∀ (ds:List aA) {vs:List V},pC ds=ae->Aaw K H ds vs->Aaw K H' ds vs
 |[],_,_,h=>Aav.mpr (Aav.mp h)
 |d::ds,_,f,h=>by
  have f':o8 d=ae/\pC ds=ae:=by simpa [pC] using f
  obtain⟨y,r,e,h1,h2⟩:=Aan.mp h;exact Aan.mpr ⟨y,r,e,Ab3.nd x d f'.1 h1,Aaw.nd x ds f'.2 h2⟩
end
theorem Agd.mut:∀ {n:Nat} {d:aA} {v:V} {F:List aD},Agd K B H n d v F->∀ a∈F,(∃ xs,H a=aa (.lst xs))\/∃ q:DQ,H a=aa (dO q)
 |0,d,v,F,h,a,m=>by rw[h.1] at m;simp at m
 |n+1,.list ds,v,F,h,a,m=>by
  obtain⟨p,xs,Fs,e,hp,rfl,q⟩:=h;rcases dU.mp m with e1|m2
  ·rw[e1];exact .inl ⟨xs,hp⟩
  ·obtain⟨f,hf,ha⟩:=sQ.mp m2;obtain⟨_,_,r⟩:=q.of f hf;exact Agd.mut r a ha
 |n+1,.dict kds,v,F,h,a,m=>by
  obtain⟨p,xs,Fs,e,hp,rfl,q⟩:=h;rcases dU.mp m with e1|m2
  ·rw[e1];exact .inr ⟨.inl xs,hp⟩
  ·obtain⟨f,hf,ha⟩:=sQ.mp m2;obtain⟨_,_,r⟩:=q.of f hf;exact Agd.mut r.2 a ha
 |n+1,.none,v,F,h,a,m=>by rw[h.1] at m;simp at m
 |n+1,.bool _,v,F,h,a,m=>by rw[h.1] at m;simp at m
 |n+1,.int _,v,F,h,a,m=>by rw[h.1] at m;simp at m
 |n+1,.str _,v,F,h,a,m=>by rw[h.1] at m;simp at m
 |n+1,.tuple ds,v,F,h,a,m=>by
  rcases h with⟨_,h1,_⟩|⟨h0,p,xs,Fs,e,hp,rfl,q⟩
  ·rw[h1] at m;simp at m
  ·obtain⟨f,hf,ha⟩:=sQ.mp m;obtain⟨_,_,r⟩:=q.of f hf;exact Agd.mut r a ha
theorem Agd.nd(xb:D6 B B'):∀ {n:Nat} {d:aA} {v:V} {F:List aD},jM n d=ae->Agd K B H n d v F->Agd K B' H n d v F
 |0,d,v,F,f,h=>⟨h.1,h.2.nd xb d f⟩
 |n+1,.list ds,v,F,f,h=>by
  obtain⟨p,xs,Fs,e,hp,rfl,q⟩:=h;refine⟨p,xs,Fs,e,hp,rfl,?_⟩;have f':∀ d∈ds,jM n d=ae:=by simpa [jM] using f
  clear hp f e;induction q with
  |nil=>exact .nil
  |cons h t ih=>exact .cons (Agd.nd xb (f' _ bS) h) (ih fun d m=>f' d (cG _ m))
 |n+1,.dict kds,v,F,f,h=>by
  obtain⟨p,xs,Fs,e,hp,rfl,q⟩:=h;refine⟨p,xs,Fs,e,hp,rfl,?_⟩;have f':∀ d∈kds,jM n d.2=ae:=fun d m=>by
   have:kds.all (fun kd=>jM n kd.2)=ae:=by simpa [jM] using f
   exact hX.mp this d m
  clear hp f e;obtain⟨xe,xs⟩:=xs;replace q:All3 _ kds xs Fs:=q;show All3 _ kds xs Fs;induction q with
  |nil=>exact .nil
  |cons h t ih=>exact .cons ⟨h.1,Agd.nd xb (f' _ bS) h.2⟩ (ih fun d m=>f' d (cG _ m))
 |n+1,.none,v,F,f,h=>by simp[jM] at f
 |n+1,.bool _,v,F,f,h=>by simp[jM] at f
 |n+1,.int _,v,F,f,h=>by simp[jM] at f
 |n+1,.str _,v,F,f,h=>by simp[jM] at f
 |n+1,.tuple ds,v,F,f,h=>by simp[jM] at f
def GW (K:aM)(B H:Hp)(d:aA)(v:V)(F:List aD):Prop:=∃ kds p ts,d=.dict ((.none,.none)::kds)/\v=.ref p/\H p=aa (.dT ts)/\F=[p]/\(∀ kd∈kds,cT kd.2=ae)/\Acv K B kds ts
def Ai6 (K:aM)(B H:Hp)(n:Nat)(d:aA)(v:V)(F:List aD):Prop:=if n=9 then(d=.none/\v=.non/\F=[])\/GW K B H d v F else Agd K B H n d v F
theorem Acv.flat(xb:∀ a xs,B a=aa (.tup xs)->B' a=aa (.tup xs)):∀ {kds:List (aA×aA)} {ts:List (List aA×V)},(∀ kd∈kds,cT kd.2=ae)->Acv K B kds ts->Acv K B' kds ts
 |[],ts,_,h=>Adf.mpr (Adf.mp h)
 |(k,d)::r,ts,f,h=>by
  obtain⟨k',x,rr,e,ek,h1,h2⟩:=Ab4.mp h;exact Ab4.mpr ⟨k',x,rr,e,ek,h1.flat xb _ (f (k,d) bS),Acv.flat xb (fun kd m=>f kd (cG _ m)) h2⟩
section
variable {F:List aD}
theorem Ai6.keep (xb:Ext B B')(kp:∀ a∈F,H' a=H a)(h:Ai6 K B H n d v F):Ai6 K B' H' n d v F:=by
 unfold Ai6 at h ⊢;split at h
 ·rw[if_pos ‹_›];refine h.imp id fun h=>?_
  obtain⟨kds,p,ts,e1,e2,hp,rfl,f,r⟩:=h;exact⟨kds,p,ts,e1,e2,(kp p bS).trans hp,rfl,f,r.ext xb⟩
 ·rw[if_neg ‹_›];exact Agd.keep xb kp h
theorem Ai6.share (xb:Ext B B')(kp:∀ a∈F,∀ o,H a=aa o->B' a=aa o)(h:Ai6 K B H n d v F):Ab3 K B' d v:=by
 unfold Ai6 at h;split at h
 ·rcases h with⟨rfl,rfl,_⟩|⟨kds,p,ts,rfl,e2,hp,rfl,f,r⟩
  ·exact Acm.mpr rfl
  exact(AE).mpr ⟨p,ts,e2,kp p bS _ hp,r.ext xb⟩
 ·exact Agd.share xb kp h
theorem Ai6.flat (xb:∀ a xs,B a=aa (.tup xs)->B' a=aa (.tup xs))(f:dR n d=ae)(h:Ai6 K B H n d v F):Ai6 K B' H n d v F:=by
 unfold Ai6 at h ⊢;split at h
 ·rw[if_pos ‹_›];refine h.imp id fun h=>?_
  obtain⟨kds,p,ts,e1,e2,hp,rfl,f,r⟩:=h;exact⟨kds,p,ts,e1,e2,hp,rfl,f,r.flat xb f⟩
 ·rw[if_neg ‹_›];exact Agd.flat xb f h
theorem Ai6.nd (xb:D6 B B')(hn:n<9)(f:jM n d=ae)(h:Ai6 K B H n d v F):Ai6 K B' H n d v F:=by
 unfold Ai6 at h ⊢;rw[if_neg (by omega)] at h ⊢
 exact Agd.nd xb f h
theorem Ai6.mut (h:Ai6 K B H n d v F):∀ a∈F,(∃ xs,H a=aa (.lst xs))\/∃ q:DQ,H a=aa (dO q):=by
 unfold Ai6 at h;split at h
 ·rcases h with⟨_,_,rfl⟩|⟨kds,p,ts,e1,e2,hp,rfl,f,r⟩
  ·exact fun a m=>by simp at m
  intro a m;rw[dP.mp m];exact .inr ⟨.inr ts,hp⟩
 ·exact Agd.mut h
end
abbrev EF:=List (Option aA)->Option aA
abbrev BF:=List (Option aA)->Option Bool
abbrev AF:=List (Option aA)->Option (List aA)
def Am5 (K:aM)(B:Hp)(ρ:List (Option aA))(σ:St):Prop:=∀ (i:Nat) d,ρ[i]?=aa (aa d)->∃ v,σ[i]?=aa (aa v)/\Ab3 K B d v
theorem Am5.ext(h:Am5 K B ρ σ)(x:Ext B B'):Am5 K B' ρ σ:=fun i d e=>let ⟨v,h1,h2⟩:=h i d e;⟨v,h1,h2.ext x⟩
def Res (K:aM)(P:aD->Prop)(n:Nat)(d:aA)(H:Hp)(Q:VK):Prop:=
 ∀ v H' Fr,Ext H H'->Fr.Nodup->(∀ a∈Fr,H a=ab/\∃ o,H' a=aa o)->Ai6 K (hid H' (ju P Fr)) H' n d v Fr->Q v H'
theorem Res.zero (h:Res K P 0 d H Q)(x:Ext H H')(r:Ab3 K (hid H' P) d v):Q v H':=
 h v H' [] x .nil (fun a m=>by simp at m) ⟨rfl,by rw[SR];exact r⟩
theorem gJ (h:∀ v H',Ext H H'->Ab3 K (hid H' P) d v->Q v H'):Res K P 0 d H Q:=fun v H' Fr x _ _ r=>by
 obtain⟨rfl,r⟩:=r;rw[SR] at r;exact h v H' x r
theorem Res.mono (h:Res K P n d H Q)(x:Ext H H'):Res K P n d H' Q:=fun v H2 Fr x2 nd fr r=>
 h v H2 Fr (x.trans x2) nd (fun a m=>⟨x.none (fr a m).1,(fr a m).2⟩) r
theorem Res.of (hP:Hid P H)(h:Res K P 0 d H Q):Res K P n d H Q:=fun v H2 Fr x2 nd fr r=>
 h.zero x2 (r.share (lM fun a p=>.inl p) fun a m o e=>kU (hP.new (fr a m).1) e)
theorem Res.lst{p:aD}(hP:Hid P H)(h:Res K P 1 (.list ds) H Q)(n:H p=ab)(r:Aaw K (hid H P) ds xs):Q (.ref p) (ar H p (.lst xs)):=by
 refine h (.ref p) _ [p] (Ext.new n) (mE.mpr ⟨by simp,.nil⟩) (fun a m=>?_) ⟨p,xs,xs.map fun _=>[],rfl,jR,?_,?_⟩
 ·have:a=p:=by simpa using m
  rw[10];exact⟨n,_,jR⟩
 ·have:∀ l:List V,(l.map fun _=>([]:List aD)).flatten=[]:=fun l=>by
   induction l with
   |nil=>rfl
   |cons a l ih=>rw[dQ,vC,ih];rfl
  rw[this]
 ·have xe:Ext (hid H P) (hid (ar H p (.lst xs)) (ju P [p])):=fun b o e=>by
   obtain⟨nb,e⟩:=Afc.mp e;have hb:b≠p:=mR e n;exact kU (fun q=>q.elim nb fun m=>hb (by simpa using m)) (by rw[fR hb];exact e)
  generalize hid (ar H p (.lst xs)) (ju P [p])=B at xe;generalize ar H p (.lst xs)=H1;clear h;have go:∀ (ds:List aA) (xs:List V),Aaw K (hid H P) ds xs->All3 (Agd K B H1 0) ds xs (xs.map fun _=>[]):=by
   intro ds;induction ds with
   |nil=>intro xs r;rw[Aav.mp r];exact .nil
   |cons d ds ih=>
    intro xs r;obtain⟨y,t,rfl,h1,h2⟩:=Aan.mp r;exact .cons ⟨rfl,h1.ext xe⟩ (ih t h2)
  exact go ds xs r
theorem Res.tup{p:aD}(hP:Hid P H)(h:Res K P 0 (.tuple ds) H Q)(n:H p=ab)(r:Aaw K (hid H P) ds xs):Q (.ref p) (ar H p (.tup xs)):=by
 refine h.zero (Ext.new n) (Aa3.mpr ⟨p,xs,rfl,kU (hP.new n) jR,r.ext fun b o e=>?_⟩)
 obtain⟨nb,e⟩:=Afc.mp e;exact kU nb (Ext.new n _ _ e)
def tF (K:aM)(n:Nat)(f:EF):TE:=fun σ H Q=>∃ P ρ d,Hid P H/\Am5 K (hid H P) ρ σ/\f ρ=aa d/\Res K P n d H Q
def v9 (K:aM)(f:BF):TT:=fun σ H Q=>∃ P ρ b,Hid P H/\Am5 K (hid H P) ρ σ/\f ρ=aa b/\∀ H',Ext H H'->Q b H'
def tAF (K:aM)(f:AF):TA:=fun σ H Q=>∃ P ρ ds,Hid P H/\Am5 K (hid H P) ρ σ/\f ρ=aa ds/\∀ vs H',Ext H H'->Aaw K (hid H' P) ds vs->Q vs H'
abbrev DF (n:Nat)(X:Cx)(e:bF)(f:EF):Prop:=PE X e (tF X.K n f)
abbrev DE (X:Cx)(e:bF)(f:EF):Prop:=PE X e (tF X.K 0 f)
abbrev DT (X:Cx)(e:bF)(f:BF):Prop:=PT X e (v9 X.K f)
abbrev DW (X:Cx)(e:bF)(f:BF):Prop:=PW X e (v9 X.K f)
abbrev DA (X:Cx)(es:List bF)(f:AF):Prop:=PA X es (tAF X.K f)
section
variable {a:bF}
theorem PE.imp {t t':TE}(h:PE X e t)(w:∀ σ H Q,t' σ H Q->t σ H Q):PE X e t':=fun ad s σ H Q I q=>h ad s σ H Q I (w _ _ _ q)
theorem PT.imp {t t':TT}(h:PT X e t)(w:∀ σ H Q,t' σ H Q->t σ H Q):PT X e t':=fun ad s σ H Q I q=>h ad s σ H Q I (w _ _ _ q)
theorem PW.imp {t t':TT}(h:PW X e t)(w:∀ σ H Q,t' σ H Q->t σ H Q):PW X e t':=fun je ad s σ H Q I q=>h je ad s σ H Q I (w _ _ _ q)
theorem PA.imp {t t':TA}(h:PA X es t)(w:∀ σ H Q,t' σ H Q->t σ H Q):PA X es t':=fun pos ad s σ H Q I q=>h pos ad s σ H Q I (w _ _ _ q)
theorem dZ {f:EF}(h:DF n X e f):DE X e f:=PE.imp h fun σ H Q ⟨P,ρ,d,hP,rs,ef,k⟩=>⟨P,ρ,d,hP,rs,ef,Res.of hP k⟩
def aB (i:Nat):EF:=fun ρ=>(ρ[i]?).join
theorem XU(h:aB i ρ=aa d):ρ[i]?=aa (aa d):=by
 unfold aB at h;cases e:ρ[i]? with
 |none=>rw[e] at h;simp at h
 |some o=>rw[e] at h;simp at h;rw[h]
theorem aI (i:Nat)(hN:X.N[i]?=aa x:=by rfl)(hv:pP X.env.scope x:=by first|exact aZ rfl|exact bA (aZ rfl)|exact bA (bA rfl))(hd:(x==("__debug__" : aE))=af:=by decide)
  (jx:(x==("__classdict__" : aE))=af:=by decide):DE X (.Name x pos) (aB i):=PE.imp (rT hN hv hd jx) fun σ H Q gh=>by
 rw[4];obtain⟨v,h1,h2⟩:=rs i d (XU ef);exact⟨v,h1,k.zero Ext.refl h2⟩
def eC (d:aA):EF:=fun _=>aa d
theorem yQ(h:PE X e (tC v))(hr:∀ H,Ab3 X.K H d v):DE X e (eC d):=PE.imp h fun σ H Q gh=>by
 obtain⟨P,ρ,d',hP,rs,ef,k⟩:=gh;cases ef;exact k.zero Ext.refl (hr _)
theorem aR {i j}:DE X (.Constant (.int i) j pos) (eC (.int i)):=yQ Jz fun _=>Aax.mpr rfl
theorem vW {i j}:DE X (.Constant (.bool i) j pos) (eC (.bool i)):=yQ Hx fun _=>Aa2.mpr rfl
theorem Ld {j}:DE X (.Constant .none j pos) (eC .none):=yQ Am fun _=>Acm.mpr rfl
theorem NG {i j}(h:dX (.str i)=ae:=by rw[0]):DE X (.Constant (.str i) j pos) (eC (.str i)):=yQ Jy fun _=>Aa6.mpr ⟨rfl,h⟩
theorem Wi{i:Int}{u:aC}(hg:Gl X x)(hm:X.mg x=aa u)(r:RelV (.int i) u)(hd:(x==("__debug__" : aE))=af:=by decide):DE X (.Name x pos) (eC (.int i)):=yQ (Lv hg hm r hd) fun _=>Aax.mpr rfl
def aK:AF:=fun _=>aa []
def aG (f:EF)(g:AF):AF:=fun ρ=>(f ρ).bind fun d=>(g ρ).bind fun ds=>aa (d::ds)
theorem aT:DA X [] aK:=PA.imp qP fun σ H Q gh=>by
 rw[4];cases ef;exact k [] H Ext.refl (Aav.mpr rfl)
theorem aL {f:EF}{g:AF}(h1:DE X e f)(h2:DA X es g)(hs:bY (e::es) X.env=(af,cD e X.env)::bY es X.env:=by rfl):DA X (e::es) (aG f g):=
 PA.imp (oW h1 h2 hs) fun σ H Q gh=>by
  obtain⟨P,ρ,ds,hP,rs,ef,k⟩:=gh;obtain⟨d,e1,ef⟩:=ao ef;obtain⟨r,e2,ef⟩:=ao ef;cases ef;exact⟨P,ρ,d,hP,rs,e1,gJ fun v H1 x1 r1=>⟨P,ρ,r,hP.ext x1,rs.ext (fD x1),e2,fun vs H2 x2 r2=>
   k _ _ (x1.trans x2) (Aan.mpr ⟨v,vs,rfl,r1.ext (fD x2),r2⟩)⟩⟩
def gD (g:AF):EF:=fun ρ=>(g ρ).bind fun ds=>if ds.length≤sizeLine then aa (.tuple ds) else ab
def dG (g:AF):EF:=fun ρ=>(g ρ).bind fun ds=>if ds.length≤sizeLine then aa (.list ds) else ab
theorem eQ {α:Type}{c:Prop}[Decidable c]{x y:α}(h:(if c then aa x else ab)=aa y):c/\x=y:=by
 by_cases q:c
 ·rw[if_pos q] at h;exact⟨q,gY h⟩
 ·rw[if_neg q] at h;cases h
theorem JK {g:AF}{x1}(h:DA X es g):DE X (.Tuple es x1 pos) (gD g):=PE.imp (Jk h) fun σ H Q gh=>by
 rw[4];obtain⟨ds,e1,ef⟩:=ao ef;obtain⟨hl,rfl⟩:=eQ ef;exact⟨P,ρ,ds,hP,rs,e1,fun vs H1 x1 r1=>⟨by rw[r1.length];exact hl,fun p hp=>(k.mono x1).tup (hP.ext x1) hp r1⟩⟩
theorem jC {g:AF}(h:DA X es g):DF 1 X (.List es pos) (dG g):=PE.imp (Iy h) fun σ H Q gh=>by
 rw[4];obtain⟨ds,e1,ef⟩:=ao ef;obtain⟨hl,rfl⟩:=eQ ef;exact⟨P,ρ,ds,hP,rs,e1,fun vs H1 x1 r1=>⟨by rw[r1.length];exact hl,fun p hp=>(k.mono x1).lst (hP.ext x1) hp r1⟩⟩
def qo (K:aM)(n:Nat)(r:R2)(g:aA->aA->Option aA):Prop:=
 ∀ (P:aD->Prop) (H:Hp) (x y:V) (a b d:aA) (Q:VK),Hid P H->Ab3 K (hid H P) a x->Ab3 K (hid H P) b y->g a b=aa d->Res K P n d H Q->r x y H Q
def ah (g:aA->aA->Option aA)(fa fb:EF):EF:=fun ρ=>(fa ρ).bind fun a=>(fb ρ).bind fun b=>g a b
theorem JE{fa fb:EF}(hg:qo K n r g):∀ σ H Q,tF K n (ah g fa fb) σ H Q->yk r (tF K 0 fa) (tF K 0 fb) σ H Q:=fun σ H Q gh=>by
 rw[4];obtain⟨d1,e1,ef⟩:=ao ef;obtain⟨d2,e2,ef⟩:=ao ef;exact⟨P,ρ,d1,hP,rs,e1,gJ fun v H1 x1 r1=>⟨P,ρ,d2,hP.ext x1,rs.ext (fD x1),e2,gJ fun u H2 x2 r2=>
  hg P H2 v u d1 d2 d Q (hP.ext (x1.trans x2)) (r1.ext (fD x2)) r2 ef (k.mono (x1.trans x2))⟩⟩
theorem sY {op:Operator}{fa fb:EF}(ho:OpR X (mV op) r)(hg:qo X.K n r g)(ha:DE X a fa)(hb:DE X b fb):DF n X (.BinOp a op b pos) (ah g fa fb):=PE.imp (He ho ha hb) (JE hg)
theorem EC {op:CmpOp}{fa fb:EF}(ho:OpR X (kQ op) r)(hg:qo X.K 0 r g)(ha:DE X a fa)(hb:DE X b fb)(hm:BS op b=af):DE X (.Compare a [op] [b] pos) (ah g fa fb):=PE.imp (Np ho ha hb hm) (JE hg)
def gc (g:aA->Option aA)(fa:EF):EF:=fun ρ=>(fa ρ).bind g
def CallD (K:aM)(n:Nat)(r:List V->Hp->VK->Prop)(g:List aA->Option aA):Prop:=
 ∀ (P:aD->Prop) (H:Hp) (xs:List V) (ds:List aA) (d:aA) (Q:VK),Hid P H->Aaw K (hid H P) ds xs->g ds=aa d->Res K P n d H Q->r xs H Q
def aN (g:List aA->Option aA)(fa:AF):EF:=fun ρ=>(fa ρ).bind g
variable {r:List V->Hp->VK->Prop}{g:List aA->Option aA}{fa:AF}{id:String}
theorem jK (hc:Afq X (.builtin id) r)(hg:CallD X.K n r g)(y8:Gl X x)(hm:X.mg x=ab)(hv:qE x=aa (.builtin id))(ha:DA X (e::es) fa)(hn:x ≠ "__name__":=by decide)(qb:(x==("__debug__" : aE))=af:=by decide)
  (he:bY (e::es) X.env=(af,cD e X.env)::bY es X.env:=by rfl) (ir:(iI pos (bY es X.env)).any (·.1)=af:=by rfl):DF n X (.Call (.Name x p) (e::es) [] pos) (aN g fa):=
 PE.imp (LA hc y8 hm hv ha hn qb he ir) fun σ H Q gh=>by
  rw[4];obtain⟨d1,e1,ef⟩:=ao ef;exact⟨P,ρ,d1,hP,rs,e1,fun vs H1 x1 r1=>hg P H1 vs d1 d Q (hP.ext x1) r1 ef (k.mono x1)⟩
theorem mP (hc:Afq X (.type T) r)(hg:CallD X.K n r g)(y8:Gl X x)(hm:X.mg x=ab)(hv:qE x=aa (.type T))(ha:DA X (e::es) fa)(hn:x ≠ "__name__":=by decide)(qb:(x==("__debug__" : aE))=af:=by decide)
  (he:bY (e::es) X.env=(af,cD e X.env)::bY es X.env:=by rfl) (ir:(iI pos (bY es X.env)).any (·.1)=af:=by rfl):DF n X (.Call (.Name x p) (e::es) [] pos) (aN g fa):=
 PE.imp (WV hc y8 hm hv ha hn qb he ir) fun σ H Q gh=>by
  rw[4];obtain⟨d1,e1,ef⟩:=ao ef;exact⟨P,ρ,d1,hP,rs,e1,fun vs H1 x1 r1=>hg P H1 vs d1 d Q (hP.ext x1) r1 ef (k.mono x1)⟩
def gb:aA->Option Bool
 |.bool b=>aa b
 |_=>ab
theorem KR{b:Bool}(h:gb d=aa b):d=.bool b:=by
 cases d<;>simp[gb] at h;rw[h]
def au (f:EF):BF:=fun ρ=>(f ρ).bind gb
theorem yZ {f:EF}(h:DE X e f)(he:∀ je,isTrue e X.env je=(do let v ← je;standAt e.pos;pF [v] (truthy v)):=by intro _;rfl):DT X e (au f):=PT.imp (Jc h he) fun σ H Q gh=>by
 obtain⟨P,ρ,b,hP,rs,ef,k⟩:=gh;obtain⟨d,e1,ef⟩:=ao ef;cases KR ef;exact⟨P,ρ,_,hP,rs,e1,gJ fun v H1 x1 r1=>⟨b,Aa2.mp r1,k H1 x1⟩⟩
theorem iQ {op:CmpOp}{r:R2}{g:aA->aA->Option aA}{fa fb:EF}(ho:OpR X (kQ op) r)(hg:qo X.K 0 r g)(ha:DE X a fa)(hb:DE X b fb)(hm:BS op b=af):DT X (.Compare a [op] [b] pos) (au (ah g fa fb)):=
 PT.imp (Uu ho ha hb hm) fun σ H Q gh=>by
  obtain⟨P,ρ,c,hP,rs,ef,k⟩:=gh;obtain⟨d,e1,ef⟩:=ao ef;cases KR ef;exact JE hg σ H _ ⟨P,ρ,_,hP,rs,e1,gJ fun v H1 x1 r1=>⟨c,Aa2.mp r1,k H1 x1⟩⟩
def iN (f:BF):BF:=fun ρ=>(f ρ).bind fun b=>aa (!b)
def fT (f g:BF):BF:=fun ρ=>(f ρ).bind fun b=>if b=ae then g ρ else aa af
def jt (f g:BF):BF:=fun ρ=>(f ρ).bind fun b=>if b=ae then aa ae else g ρ
variable {fB gB:BF}{rest:List bF}
theorem SE (h:DT X a fB):DW X (.BoolOp .And [a] pos) fB:=Mf h
theorem Ju (h:DT X a fB):DW X (.BoolOp .Or [a] pos) fB:=Kb h
theorem NM (h:DT X a fB)(h2:DW X (.BoolOp .And (b::rest) pos) gB):DW X (.BoolOp .And (a::b::rest) pos) (fT fB gB):=PW.imp (Io h h2) fun σ H Q gh=>by
 obtain⟨P,ρ,c,hP,rs,ef,k⟩:=gh;obtain⟨b,e1,ef⟩:=ao ef;refine⟨P,ρ,b,hP,rs,e1,fun H1 x1=>?_⟩
 cases b with
 |true=>exact vK ⟨P,ρ,c,hP.ext x1,rs.ext (fD x1),by simpa using ef,fun H2 x2=>k H2 (x1.trans x2)⟩
 |false=>
  have:af=c:=by simpa using ef
  rw[10];exact vM (k H1 x1)
theorem Fx (h:DT X a fB)(h2:DW X (.BoolOp .Or (b::rest) pos) gB):DW X (.BoolOp .Or (a::b::rest) pos) (jt fB gB):=PW.imp (Gv h h2) fun σ H Q gh=>by
 obtain⟨P,ρ,c,hP,rs,ef,k⟩:=gh;obtain⟨b,e1,ef⟩:=ao ef;refine⟨P,ρ,b,hP,rs,e1,fun H1 x1=>?_⟩
 cases b with
 |true=>
  have:ae=c:=by simpa using ef
  rw[10];exact vK (k H1 x1)
 |false=>exact vM ⟨P,ρ,c,hP.ext x1,rs.ext (fD x1),by simpa using ef,fun H2 x2=>k H2 (x1.trans x2)⟩
theorem IV (h:DW X a fB):DT X a fB:=h.pt
def iM (f:EF):EF:=fun ρ=>(f ρ).bind fun d=>(gb d).bind fun b=>aa (.bool (!b))
def gP (f g:EF):EF:=fun ρ=>(f ρ).bind fun d=>(gb d).bind fun b=>if b=ae then g ρ else aa (.bool af)
def kj (f g:EF):EF:=fun ρ=>(f ρ).bind fun d=>(gb d).bind fun b=>if b=ae then aa (.bool ae) else g ρ
variable {f1 f2:EF}
theorem Jm {op}(h:DE X a f1):DE X (.BoolOp op [a] pos) f1:=Hj h
theorem Kc (h:DE X a f1)(h2:DE X (.BoolOp .And (b::rest) pos) f2):DE X (.BoolOp .And (a::b::rest) pos) (gP f1 f2):=PE.imp (Jp h h2) fun σ H Q gh=>by
 obtain⟨P,ρ,c,hP,rs,ef,k⟩:=gh;obtain⟨d,e1,ef⟩:=ao ef;obtain⟨b,e2,cz⟩:=ao ef;clear ef;have ef:=cz;clear cz;cases KR e2;refine⟨P,ρ,_,hP,rs,e1,gJ fun v H1 x1 r1=>⟨b,Aa2.mp r1,?_⟩⟩
 cases b with
 |true=>exact vK ⟨P,ρ,c,hP.ext x1,rs.ext (fD x1),by simpa using ef,k.mono x1⟩
 |false=>
  have:uV af=c:=by simpa using ef
  rw[10];exact vM (k.zero x1 (Aa2.mpr rfl))
def ki (t:BF)(f g:EF):EF:=fun ρ=>(t ρ).bind fun b=>if b=ae then f ρ else g ρ
end
abbrev Slot:=Option (Nat×aA)
abbrev bJ:=List Slot
def vS (ρ:bJ):List (Option aA):=ρ.map fun s=>match s with|some (0,d)=>aa d|_=>ab
def vA (ρ:bJ):List (Option aA):=ρ.map fun s=>s.map (·.2)
theorem Kk {ρ:bJ}(h:(vS ρ)[i]?=aa (aa d)):ρ[i]?=aa (aa (0,d)):=by
 unfold vS at h;rw[fA] at h;cases e:ρ[i]? with
 |none=>rw[e] at h;simp at h
 |some s=>
  rw[e] at h;simp only[uW,HQ] at h;cases s with
  |none=>simp at h
  |some q=>
   obtain⟨n,d'⟩:=q;cases n with
   |zero=>simp at h;rw[h]
   |succ n=>simp at h
theorem Ie {ρ:bJ}(h:(vA ρ)[i]?=aa (aa d)):∃ n,ρ[i]?=aa (aa (n,d)):=by
 unfold vA at h;rw[fA] at h;cases e:ρ[i]? with
 |none=>rw[e] at h;simp at h
 |some s=>
  rw[e] at h;cases s with
  |none=>simp at h
  |some q=>
   obtain⟨n,d'⟩:=q;simp at h;exact⟨n,by rw[h]⟩
abbrev Hd (P0:aD->Prop)(fp:Nat->List aD):aD->Prop:=fun a=>P0 a\/∃ i,a∈fp i
structure Sta (K:aM)(H0:Hp)(P0:aD->Prop)(B0:Hp)(ρ:bJ)(σ:St)(H:Hp)(fp:Nat->List aD):Prop where
 len:σ.length=ρ.length
 nd:∀ i,(fp i).Nodup
 dj:∀ i j a,a∈fp i->a∈fp j->i=j
 own:∀ i a,a∈fp i->H0 a=ab/\((∃ xs,H a=aa (.lst xs))\/∃ q:DQ,H a=aa (dO q))
 ext:Ext H0 H
 hd:Hid P0 H0
 base:Ext B0 (hid H (Hd P0 fp))
 slot:∀ (i:Nat) n d,ρ[i]?=aa (aa (n,d))->∃ v,σ[i]?=aa (aa v)/\Ai6 K (hid H (Hd P0 fp)) H n d v (fp i)
section
variable {ρ:bJ}
theorem Sta.hid (S:Sta K H0 P0 B0 ρ σ H fp):Hid (Hd P0 fp) H:=fun a h=>by
 rcases h with h|⟨i,h⟩
 ·exact S.hd.ext S.ext a h
 ·exact(S.own i a h).2
theorem Sta.np (S:Sta K H0 P0 B0 ρ σ H fp)(m:a∈fp i):¬ P0 a:=S.hd.new (S.own i a m).1
theorem Sta.grow (S:Sta K H0 P0 B0 ρ σ H fp)(x:Ext H H'):Sta K H0 P0 B0 ρ σ H' fp:=by
 refine⟨S.len,S.nd,S.dj,fun i a m=>⟨(S.own i a m).1,(S.own i a m).2.imp (fun⟨xs,e⟩=>⟨xs,x _ _ e⟩) fun⟨xs,e⟩=>⟨xs,x _ _ e⟩⟩,S.ext.trans x,S.hd,S.base.trans (fD x),fun i n d e=>?_⟩
 obtain⟨v,h1,h2⟩:=S.slot i n d e;refine⟨v,h1,h2.keep (fD x) fun a m=>?_⟩
 rcases(S.own i a m).2 with⟨xs,e⟩|⟨xs,e⟩
 ·rw[e,x _ _ e]
 ·rw[e,x _ _ e]
theorem Sta.viewS (S:Sta K H0 P0 B0 ρ σ H fp):Am5 K (L2.hid H (Hd P0 fp)) (vS ρ) σ:=fun i d e=>by
 obtain⟨v,h1,h2⟩:=S.slot i 0 d (Kk e);exact⟨v,h1,h2.2⟩
theorem Sta.viewA (S:Sta K H0 P0 B0 ρ σ H fp):Am5 K (L2.hid H P0) (vA ρ) σ:=fun i d e=>by
 obtain⟨n,e⟩:=Ie e;obtain⟨v,h1,h2⟩:=S.slot i n d e;exact⟨v,h1,h2.share (lM fun a p=>.inl p) fun a m o e=>kU (S.np m) e⟩
def Tmp (K:aM)(H0:Hp)(P0:aD->Prop)(B0:Hp)(ρ:bJ)(σ:St)(n:Nat)(d:aA)(v:V)(H:Hp):Prop:=
 ∃ fp,Sta K H0 P0 B0 ρ σ H fp/\Ai6 K (L2.hid H (Hd P0 fp)) H n d v (fp ρ.length)
inductive Md|s|a
def lH (ρ:bJ):Bool:=ρ.all fun s=>match s with
 |some (0,_)=>ae
 |some (1,.dict _)=>ae
 |none=>ae
 |_=>af
def eV (n:Nat)(m:Md)(f:EF)(ρ:bJ):Option aA:=match m with
 |.s=>f (vS ρ)
 |.a=>(f (vA ρ)).bind fun d=>if (dR n d||(lH ρ&&decide (n<9)&&jM n d))=ae then aa d else ab
def bV (m:Md)(f:BF)(ρ:bJ):Option Bool:=match m with
 |.s=>f (vS ρ)
 |.a=>f (vA ρ)
def aV (m:Md)(f:AF)(ρ:bJ):Option (List aA):=match m with
 |.s=>f (vS ρ)
 |.a=>f (vA ρ)
def tE (K:aM)(H0:Hp)(P0:aD->Prop)(n:Nat)(m:Md)(f:EF):TE:=fun σ H Q=>∃ B0 ρ fp d,Sta K H0 P0 B0 ρ σ H fp/\eV n m f ρ=aa d/\∀ v H',Tmp K H0 P0 B0 ρ σ n d v H'->Q v H'
end
theorem Sta.trim{ρ:bJ}(S:Sta K H0 P0 B0 ρ σ H fp):∃ iz,Sta K H0 P0 B0 ρ σ H iz/\∀ i a,a∈iz i->a∈fp i/\∃ n d,ρ[i]?=aa (aa (n,d)):=by
 let iz:Nat->List aD:=fun i=>match ρ[i]? with
  |some (aa _)=>fp i
  |_=>[]
 have sub:∀ i a,a∈iz i->a∈fp i/\∃ n d,ρ[i]?=aa (aa (n,d)):=fun i a m=>by
  have m:a∈(match ρ[i]? with|some (aa _)=>fp i|_=>[]):=m
  split at m
  ·rename_i x e;exact⟨m,x.1,x.2,e⟩
  ·simp at m
 have same:∀ i n d,ρ[i]?=aa (aa (n,d))->iz i=fp i:=fun i n d e=>by
  show(match ρ[i]? with|some (aa _)=>fp i|_=>[])=fp i
  rw[e]
 have xb:Ext (L2.hid H (Hd P0 fp)) (L2.hid H (Hd P0 iz)):=lM fun a h=>h.imp id fun⟨i,m⟩=>⟨i,(sub i a m).1⟩
 refine⟨iz,⟨S.len,fun i=>?_,fun i j a h1 h2=>S.dj i j a (sub i a h1).1 (sub j a h2).1,fun i a m=>S.own i a (sub i a m).1,S.ext,S.hd,S.base.trans xb,fun i n d e=>?_⟩,sub⟩
 ·show(match ρ[i]? with|some (aa _)=>fp i|_=>[]).Nodup
  split
  ·exact S.nd i
  ·exact HY
 ·obtain⟨v,h1,h2⟩:=S.slot i n d e;rw[same i n d e];exact⟨v,h1,h2.keep xb fun a m=>rfl⟩
theorem Sta.dicts{ρ:bJ}(S:Sta K H0 P0 B0 ρ σ H fp)(ho:lH ρ=ae){n:Nat}(m:a∈fp i)(e:ρ[i]?=aa (aa (n,d))):∃ q,H a=aa (dO (.inl q)):=by
 have:=hX.mp ho _ (gZ e);obtain⟨v,h1,h2⟩:=S.slot i n d e;split at this
 ·rename_i z;cases z;rw[h2.1] at m;simp at m
 ·rename_i kds z;cases z;obtain⟨p,xs,Fs,_,hp,hF,h3⟩:=h2;have hn:∀ {ds:List (aA×aA)} {ys:List (aO×V)} {Gs:List (List aD)},All3 (fun(kd:aA×aA) (kv:aO×V) f=>kd.1=kD kv.1/\Agd K (L2.hid H (Hd P0 fp)) H 0 kd.2 kv.2 f) ds ys Gs->Gs.flatten=[]:=fun q=>by
   induction q with
   |nil=>rfl
   |cons h _ ih=>rw[vC,h.2.1,ih];rfl
  rw[hF,hn h3] at m;rw[dP.mp m];exact⟨xs,hp⟩
 ·rename_i z;cases z
 ·cases this
theorem QT{f:EF}(m:Md):∀ σ H Q,tE K H0 P0 n m f σ H Q->tF K n f σ H Q:=fun σ H Q gh=>by
 obtain⟨B0,ρ,fp,d,S,ef,k⟩:=gh;cases m with
 |s=>
  refine⟨Hd P0 fp,vS ρ,d,S.hid,S.viewS,ef,fun v H' Fr x nd fr r=>k v H' ?_⟩
  have S':=S.grow x;have gs:∀ a,Hd P0 (fun i=>if i=ρ.length then Fr else fp i) a->ju (Hd P0 fp) Fr a:=fun a h=>by
   rcases h with h|⟨i,h⟩
   ·exact .inl (.inl h)
   ·by_cases hi:i=ρ.length
    ·simp only[hi,if_true] at h;exact .inr h
    ·simp only[hi,if_false] at h;exact .inl (.inr ⟨i,h⟩)
  have ze:∀ i a,a∈fp i->a∉Fr:=fun i a h1 h2=>by
   have:=(fr a h2).1;rcases(S.own i a h1).2 with⟨xs,e⟩|⟨xs,e⟩<;>rw[this] at e<;>first|cases e|(cases xs<;>simp[dO] at e)
  have xb:Ext (L2.hid H (Hd P0 fp)) (L2.hid H' (Hd P0 fun i=>if i=ρ.length then Fr else fp i)):=fun b o e=>by
   obtain⟨nb,e⟩:=Afc.mp e;refine kU (fun q=>?_) (x _ _ e)
   rcases q with q|⟨j,q⟩
   ·exact nb (.inl q)
   ·by_cases hj:j=ρ.length
    ·simp only[hj,if_true] at q;rw[(fr b q).1] at e;cases e
    ·simp only[hj,if_false] at q;exact nb (.inr ⟨j,q⟩)
  refine⟨fun i=>if i=ρ.length then Fr else fp i,⟨S.len,fun i=>?_,fun i j a hi hj=>?_,fun i a hi=>?_,S'.ext,S.hd,S.base.trans xb,fun i n' d' e'=>?_⟩,?_⟩
  ·by_cases hi:i=ρ.length
   ·simp only[hi,if_true];exact nd
   ·simp only[hi,if_false];exact S.nd i
  ·by_cases h1:i=ρ.length<;>by_cases h2:j=ρ.length
   ·rw[h1,h2]
   ·simp only[h1,if_true] at hi;simp only[h2,if_false] at hj;exact absurd hi (ze _ _ hj)
   ·simp only[h1,if_false] at hi;simp only[h2,if_true] at hj;exact absurd hj (ze _ _ hi)
   ·simp only[h1,if_false] at hi;simp only[h2,if_false] at hj;exact S.dj i j a hi hj
  ·by_cases h1:i=ρ.length
   ·simp only[h1,if_true] at hi;exact⟨S.ext.none (fr a hi).1,r.mut a hi⟩
   ·simp only[h1,if_false] at hi;exact S'.own i a hi
  ·have ce:i<ρ.length:=(dF.mp e').1;have h1:i≠ρ.length:=by omega
   obtain⟨v',q1,q2⟩:=S'.slot i n' d' e';refine⟨v',q1,?_⟩;simp only[h1,if_false];obtain⟨v2,p1,p2⟩:=S.slot i n' d' e';have ev:v2=v':=gY (gY (p1.symm.trans q1));subst ev;refine p2.keep xb fun a m=>?_
   rcases(S.own i a m).2 with⟨xs,e⟩|⟨xs,e⟩
   ·rw[e,x _ _ e]
   ·rw[e,x _ _ e]
  ·rw[8];exact r.keep (lM gs) fun a m=>rfl
 |a=>
  obtain⟨d',ed,ef⟩:=ao ef;obtain⟨fl,rfl⟩:=eQ ef;obtain⟨fp,S,trm⟩:=S.trim;refine⟨P0,vA ρ,d',S.hd.ext S.ext,S.viewA,ed,fun v H' Fr x nd fr r=>k v H' ?_⟩
  have S':=S.grow x;have ze:∀ i a,a∈fp i->a∉Fr:=fun i a h1 h2=>by
   have:=(fr a h2).1;rcases(S.own i a h1).2 with⟨xs,e⟩|⟨xs,e⟩<;>rw[this] at e<;>first|cases e|(cases xs<;>simp[dO] at e)
  have xb:Ext (L2.hid H (Hd P0 fp)) (L2.hid H' (Hd P0 fun i=>if i=ρ.length then Fr else fp i)):=fun b o e=>by
   obtain⟨nb,e⟩:=Afc.mp e;refine kU (fun q=>?_) (x _ _ e)
   rcases q with q|⟨j,q⟩
   ·exact nb (.inl q)
   ·by_cases hj:j=ρ.length
    ·simp only[hj,if_true] at q;rw[(fr b q).1] at e;cases e
    ·simp only[hj,if_false] at q;exact nb (.inr ⟨j,q⟩)
  refine⟨fun i=>if i=ρ.length then Fr else fp i,⟨S.len,fun i=>?_,fun i j a hi hj=>?_,fun i a hi=>?_,S'.ext,S.hd,S.base.trans xb,fun i n' d' e'=>?_⟩,?_⟩
  ·by_cases hi:i=ρ.length
   ·simp only[hi,if_true];exact nd
   ·simp only[hi,if_false];exact S.nd i
  ·by_cases h1:i=ρ.length<;>by_cases h2:j=ρ.length
   ·rw[h1,h2]
   ·simp only[h1,if_true] at hi;simp only[h2,if_false] at hj;exact absurd hi (ze _ _ hj)
   ·simp only[h1,if_false] at hi;simp only[h2,if_true] at hj;exact absurd hj (ze _ _ hi)
   ·simp only[h1,if_false] at hi;simp only[h2,if_false] at hj;exact S.dj i j a hi hj
  ·by_cases h1:i=ρ.length
   ·simp only[h1,if_true] at hi;exact⟨S.ext.none (fr a hi).1,r.mut a hi⟩
   ·simp only[h1,if_false] at hi;exact S'.own i a hi
  ·have ce:i<ρ.length:=(dF.mp e').1;have h1:i≠ρ.length:=by omega
   obtain⟨v2,p1,p2⟩:=S.slot i n' d' e';refine⟨v2,p1,?_⟩;simp only[h1,if_false];refine p2.keep xb fun a m=>?_
   rcases(S.own i a m).2 with⟨xs,e⟩|⟨xs,e⟩
   ·rw[e,x _ _ e]
   ·rw[e,x _ _ e]
  ·rw[8];have up:∀ a o,(L2.hid H' (ju P0 Fr)) a=aa o->((∃ xs,o=.tup xs)\/(lH ρ=ae/\∀ q,o≠dO (.inl q)))->(L2.hid H' (Hd P0 fun i=>if i=ρ.length then Fr else fp i)) a=aa o:=fun a o e ho=>by
    obtain⟨na,e⟩:=Afc.mp e;refine kU (fun q=>?_) e
    rcases q with q|⟨j,q⟩
    ·exact na (.inl q)
    ·by_cases hj:j=ρ.length
     ·simp only[hj,if_true] at q;exact na (.inr q)
     ·simp only[hj,if_false] at q;rcases ho with⟨xs,rfl⟩|⟨ho,hq⟩
      ·rcases(S'.own j a q).2 with⟨ys,e2⟩|⟨ys,e2⟩<;>rw[e] at e2<;>first|cases e2|(cases ys<;>simp[dO] at e2)
      ·obtain⟨_,n',d',e'⟩:=trm j a q;obtain⟨z,ez⟩:=S'.dicts ho q e';rw[e] at ez;injection ez with ez;exact hq z ez
   rcases Bool.or_eq_true_iff.mp fl with fl|fl
   ·exact r.flat (fun a xs e=>up a _ e (.inl ⟨xs,rfl⟩)) fl
   ·have fl:=oK.mp fl;have V4:=oK.mp fl.1;exact r.nd (fun a o e hq=>up a o e (.inr ⟨V4.1,hq⟩)) (of_decide_eq_true V4.2) fl.2
theorem ev {f:EF}(m:Md)(h:DF n X e f):PE X e (tE X.K H0 P0 n m f):=PE.imp h (QT m)
def tB' (K:aM)(H0:Hp)(P0:aD->Prop)(m:Md)(f:BF):TT:=fun σ H Q=>∃ B0 ρ fp b,Sta K H0 P0 B0 ρ σ H fp/\bV m f ρ=aa b/\∀ H',Sta K H0 P0 B0 ρ σ H' fp->Q b H'
theorem evB {f:BF}(m:Md)(h:DT X e f):PT X e (tB' X.K H0 P0 m f):=PT.imp h fun σ H Q gh=>by
 obtain⟨B0,ρ,fp,b,S,ef,k⟩:=gh;cases m with
 |s=>exact⟨Hd P0 fp,vS ρ,b,S.hid,S.viewS,ef,fun H' x=>k H' (S.grow x)⟩
 |a=>exact⟨P0,vA ρ,b,S.hd.ext S.ext,S.viewA,ef,fun H' x=>k H' (S.grow x)⟩
inductive Out where
 |nx (ρ:bJ)|rt (d:aA)|bk (ρ:bJ)|ct (ρ:bJ)
abbrev SF:=bJ->Option Out
def QF (K:aM)(H0:Hp)(P0:aD->Prop)(n0:Nat)(d:aA)(v:V)(H':Hp):Prop:=
 ∃ Fr,Ext H0 H'/\Fr.Nodup/\(∀ a∈Fr,H0 a=ab/\∃ o,H' a=aa o)/\Ai6 K (hid H' (ju P0 Fr)) H' n0 d v Fr
def Hy (K:aM)(H0:Hp)(P0:aD->Prop)(B0:Hp)(n0:Nat)(D:Ends):Out->Prop
 |.nx ρ=>∀ σ H fp,Sta K H0 P0 B0 ρ σ H fp->D.nx σ H
 |.bk ρ=>∀ σ H fp,Sta K H0 P0 B0 ρ σ H fp->D.bk σ H
 |.ct ρ=>∀ σ H fp,Sta K H0 P0 B0 ρ σ H fp->D.ct σ H
 |.rt d=>∀ v H',QF K H0 P0 n0 d v H'->D.rt v H'
def tS (K:aM)(H0:Hp)(P0:aD->Prop)(n0:Nat)(F:SF):TS:=fun D σ H=>∃ B0 ρ fp o,Sta K H0 P0 B0 ρ σ H fp/\F ρ=aa o/\Hy K H0 P0 B0 n0 D o
abbrev DS (X:Cx)(H0:Hp)(P0:aD->Prop)(n0:Nat)(s:cR)(F:SF):Prop:=PS X s (tS X.K H0 P0 n0 F)
abbrev qw (X:Cx)(H0:Hp)(P0:aD->Prop)(n0:Nat)(s:List cR)(F:SF):Prop:=PSs X s (tS X.K H0 P0 n0 F)
section
variable {s:cR}{ss:List cR}{F G:SF}{f:EF}
theorem PS.imp {t t':TS}(h:PS X s t)(w:∀ D σ H,t' D σ H->t D σ H):PS X s t':=fun ad st σ H D I q=>h ad st σ H D I (w _ _ _ q)
theorem PSs.imp {t t':TS}(h:PSs X ss t)(w:∀ D σ H,t' D σ H->t D σ H):PSs X ss t':=fun ad st σ H D I q=>h ad st σ H D I (w _ _ _ q)
def dA:SF:=fun ρ=>aa (.nx ρ)
def aU (F G:SF):SF:=fun ρ=>(F ρ).bind fun o=>match o with
 |.nx ρ'=>G ρ'
 |o=>aa o
theorem jP:qw X H0 P0 n0 [] dA:=PSs.imp Tz fun D σ H gh=>by
 obtain⟨B0,ρ,fp,o,S,ef,k⟩:=gh;cases ef;exact k σ H fp S
theorem bX (h:DS X H0 P0 n0 s F):qw X H0 P0 n0 [s] F:=Mz h
theorem bK (h:DS X H0 P0 n0 s F)(h2:qw X H0 P0 n0 ss G):qw X H0 P0 n0 (s::ss) (aU F G):=PSs.imp (Wv h h2) fun D σ H gh=>by
 obtain⟨B0,ρ,fp,o,S,ef,k⟩:=gh;obtain⟨o1,e1,ef⟩:=ao ef;refine⟨B0,ρ,fp,o1,S,e1,?_⟩;cases o1 with
 |nx ρ1=>exact fun σ1 H1 V5 S1=>⟨B0,ρ1,V5,o,S1,ef,k⟩
 |rt d=>cases ef;exact k
 |bk ρ1=>cases ef;exact k
 |ct ρ1=>cases ef;exact k
def cb (m:Md)(t:BF)(F G:SF):SF:=fun ρ=>(bV m t ρ).bind fun b=>if b=ae then F ρ else G ρ
theorem iY{a b:List cR}{t:BF}(m:Md)(hc:DT X c t)(ha:qw X H0 P0 n0 a F)(hb:qw X H0 P0 n0 b G):DS X H0 P0 n0 (.If c a b pos) (cb m t F G):=
 PS.imp (Fy (evB (H0:=H0) (P0:=P0) m hc) ha hb) fun D σ H gh=>by
  obtain⟨B0,ρ,fp,o,S,ef,k⟩:=gh;obtain⟨b,e1,ef⟩:=ao ef;refine⟨B0,ρ,fp,b,S,e1,fun H1 S1=>?_⟩
  cases b with
  |true=>exact vK ⟨B0,ρ,fp,o,S1,by simpa using ef,k⟩
  |false=>exact vM ⟨B0,ρ,fp,o,S1,by simpa using ef,k⟩
def frz (i:Nat)(ρ:bJ):bJ:=match ρ[i]? with
 |some (aa (_,d))=>ρ.set i (aa (0,d))
 |_=>ρ
theorem Sta.frz{ρ:bJ}(S:Sta K H0 P0 B0 ρ σ H fp)(i:Nat):∃ iz,Sta K H0 P0 B0 (L2.frz i ρ) σ H iz:=by
 unfold L2.frz;cases e:ρ[i]? with
 |none=>exact⟨fp,S⟩
 |some s=>
  cases s with
  |none=>exact⟨fp,S⟩
  |some q=>
   obtain⟨n,d⟩:=q;have hi:i<ρ.length:=(dF.mp e).1;have gs:∀ a,Hd P0 (fun j=>if j=i then [] else fp j) a->Hd P0 fp a:=fun a h=>by
    rcases h with h|⟨j,h⟩
    ·exact .inl h
    ·by_cases hj:j=i
     ·simp only[hj,if_true] at h;simp at h
     ·simp only[hj,if_false] at h;exact .inr ⟨j,h⟩
   refine⟨fun j=>if j=i then [] else fp j,⟨by simp[S.len],fun j=>?_,fun j k a h1 h2=>?_,fun j a h1=>?_,S.ext,S.hd,S.base.trans (lM gs),fun j n' d' e'=>?_⟩⟩
   ·by_cases hj:j=i
    ·simp only[hj,if_true];exact .nil
    ·simp only[hj,if_false];exact S.nd j
   ·by_cases hj:j=i
    ·simp only[hj,if_true] at h1;simp at h1
    ·by_cases hk:k=i
     ·simp only[hk,if_true] at h2;simp at h2
     ·simp only[hj,if_false] at h1;simp only[hk,if_false] at h2;exact S.dj j k a h1 h2
   ·by_cases hj:j=i
    ·simp only[hj,if_true] at h1;simp at h1
    ·simp only[hj,if_false] at h1;exact S.own j a h1
   ·by_cases hj:j=i
    ·subst hj;rw[rE hi] at e';cases e';obtain⟨v,h1,h2⟩:=S.slot j n d e;refine⟨v,h1,?_⟩;rw[8];refine⟨rfl,h2.share (lM gs) fun a m o q=>kU (fun z=>?_) q⟩
     rcases z with z|⟨k,z⟩
     ·exact S.np m z
     ·by_cases hk:k=j
      ·simp only[hk,if_true] at z;simp at z
      ·simp only[hk,if_false] at z;exact hk (S.dj k j a z m)
    ·rw[pK (fun z=>hj z.symm)] at e'
     obtain⟨v,h1,h2⟩:=S.slot j n' d' e';refine⟨v,h1,?_⟩;simp only[hj,if_false];exact h2.keep (lM gs) fun a m=>rfl
def eU (i:Nat)(F:SF):SF:=fun ρ=>F (frz i ρ)
theorem mN (i:Nat)(h:qw X H0 P0 n0 ss F):qw X H0 P0 n0 ss (eU i F):=PSs.imp h fun D σ H ⟨B0,ρ,fp,o,S,ef,k⟩=>let ⟨iz,S'⟩:=S.frz i;⟨B0,_,iz,o,S',ef,k⟩
theorem Tmp.set{ρ:bJ}(t:Tmp K H0 P0 B0 ρ σ n d v H)(hi:i<ρ.length):∃ fp,Sta K H0 P0 B0 (ρ.set i (aa (n,d))) (σ.set i (aa v)) H fp:=by
 obtain⟨fp,S,r⟩:=t;have fu:ρ.length≠i:=by omega
 have gs:∀ a,Hd P0 (fun j=>if j=i then fp ρ.length else if j=ρ.length then [] else fp j) a->Hd P0 fp a:=fun a h=>by
  rcases h with h|⟨j,h⟩
  ·exact .inl h
  ·by_cases hj:j=i
   ·simp only[hj,if_true] at h;exact .inr ⟨_,h⟩
   ·by_cases hk:j=ρ.length
    ·simp only[hj,if_false,hk,if_true] at h;rw[if_neg fu] at h;simp at h
    ·simp only[hj,if_false,hk] at h;exact .inr ⟨j,h⟩
 have zf:∀ j a,a∈(if j=i then fp ρ.length else if j=ρ.length then [] else fp j)->(j=i/\a∈fp ρ.length)\/(j≠i/\j≠ρ.length/\a∈fp j):=fun j a h=>by
  by_cases hj:j=i
  ·simp only[hj,if_true] at h;exact .inl ⟨hj,h⟩
  ·by_cases hk:j=ρ.length
   ·rw[if_neg hj,if_pos hk] at h;simp at h
   ·rw[if_neg hj,if_neg hk] at h;exact .inr ⟨hj,hk,h⟩
 refine⟨fun j=>if j=i then fp ρ.length else if j=ρ.length then [] else fp j,⟨by simp[S.len],fun j=>?_,fun j k a h1 h2=>?_,fun j a h1=>?_,S.ext,S.hd,S.base.trans (lM gs),fun j n' d' e'=>?_⟩⟩
 ·by_cases hj:j=i
  ·rw[if_pos hj];exact S.nd _
  ·by_cases hk:j=ρ.length
   ·rw[if_neg hj,if_pos hk];exact .nil
   ·rw[if_neg hj,if_neg hk];exact S.nd _
 ·rcases zf j a h1 with⟨e1,m1⟩|⟨e1,l1,m1⟩<;>rcases zf k a h2 with⟨e2,m2⟩|⟨e2,l2,m2⟩
  ·rw[e1,e2]
  ·exact absurd (S.dj _ _ a m2 m1) l2
  ·exact absurd (S.dj _ _ a m1 m2) l1
  ·exact S.dj j k a m1 m2
 ·rcases zf j a h1 with⟨e1,m1⟩|⟨e1,l1,m1⟩
  ·exact S.own _ a m1
  ·exact S.own _ a m1
 ·by_cases hj:j=i
  ·subst hj;rw[rE hi] at e';cases e';refine⟨v,?_,?_⟩
   ·rw[rE (by rw[S.len];exact hi)]
   ·rw[if_pos rfl];exact r.keep (lM gs) fun a m=>rfl
  ·rw[pK (fun z=>hj z.symm)] at e'
   have ce:j<ρ.length:=(dF.mp e').1;have hk:j≠ρ.length:=by omega
   obtain⟨v',h1,h2⟩:=S.slot j n' d' e';refine⟨v',?_,?_⟩
   ·rw[pK (fun z=>hj z.symm)];exact h1
   ·rw[if_neg hj,if_neg hk];exact h2.keep (lM gs) fun a m=>rfl
def bE (i n:Nat)(m:Md)(f:EF):SF:=fun ρ=>(eV n m f ρ).bind fun d=>if i<ρ.length then aa (.nx (ρ.set i (aa (n,d)))) else ab
theorem cI{mn:cV}(n:Nat)(m:Md)(hN:X.N.Nodup)(hi:X.N[i]?=aa x)(hx:nH X.env.scope x)(he:DF n X e f)(hs:pE e (aa (.Name x mn)) pos.line X.env=pure af:=by rfl)(hf:X.fn x=ae\/X.env.scope.names.lookup x=aa .local:=by first|exact .inl rfl|exact .inr rfl|assumption) :
  DS X H0 P0 n0 (.Assign [.Name x mn] e pos) (bE i n m f):=PS.imp (Aq hN hi hx (ev (H0:=H0) (P0:=P0) m he) hs hf) fun D σ H gh=>by
 obtain⟨B0,ρ,fp,o,S,ef,k⟩:=gh;obtain⟨d,e1,ef⟩:=ao ef;obtain⟨hl,rfl⟩:=eQ ef;refine⟨B0,ρ,fp,d,S,e1,fun v H' t=>?_⟩
 obtain⟨iz,S'⟩:=t.set hl;exact k _ _ iz S'
theorem Tmp.ret{ρ:bJ}(t:Tmp K H0 P0 B0 ρ σ n d v H):QF K H0 P0 n d v H:=by
 obtain⟨fp,S,r⟩:=t;refine⟨fp ρ.length,S.ext,S.nd _,fun a m=>⟨(S.own _ a m).1,?_⟩,r.keep (lM fun a h=>?_) fun a m=>rfl⟩
 ·rcases(S.own _ a m).2 with⟨xs,e⟩|⟨xs,e⟩
  ·exact⟨_,e⟩
  ·exact⟨_,e⟩
 ·rcases h with h|h
  ·exact .inl h
  ·exact .inr ⟨_,h⟩
def cS (n:Nat)(m:Md)(f:EF):SF:=fun ρ=>(eV n m f ρ).bind fun d=>aa (.rt d)
theorem hJ (m:Md)(he:DF n0 X e f):DS X H0 P0 n0 (.Return (aa e) pos) (cS n0 m f):=PS.imp (Ab (ev (H0:=H0) (P0:=P0) m he)) fun D σ H gh=>by
 obtain⟨B0,ρ,fp,o,S,ef,k⟩:=gh;obtain⟨d,e1,ef⟩:=ao ef;cases ef;exact⟨B0,ρ,fp,d,S,e1,fun v H' t=>k v H' t.ret⟩
def fG (i n0:Nat):SF:=fun ρ=>match ρ[i]? with
 |some (aa (n,d))=>if n=n0 then aa (.rt d) else ab
 |_=>ab
theorem tV (i:Nat)(hN:X.N[i]?=aa x:=by rfl)(hv:pP X.env.scope x:=by first|exact aZ rfl|exact bA (aZ rfl)|exact bA (bA rfl))(hd:(x==("__debug__" : aE))=af:=by decide)
  (jx:(x==("__classdict__" : aE))=af:=by decide):DS X H0 P0 n0 (.Return (aa (.Name x p)) pos) (fG i n0):=PS.imp (Ab (rT hN hv hd jx)) fun D σ H gh=>by
 obtain⟨B0,ρ,fp,o,S,ef,k⟩:=gh;unfold fG at ef;cases e:ρ[i]? with
 |none=>rw[e] at ef;simp at ef
 |some q=>
  cases q with
  |none=>rw[e] at ef;simp at ef
  |some q=>
   obtain⟨n,d⟩:=q;rw[e] at ef;obtain⟨rfl,rfl⟩:=eQ ef;obtain⟨v,h1,h2⟩:=S.slot i n d e;refine⟨v,h1,k v H ⟨fp i,S.ext,S.nd i,fun a m=>⟨(S.own i a m).1,?_⟩,h2.keep (lM fun a h=>?_) fun a m=>rfl⟩⟩
   ·rcases(S.own i a m).2 with⟨xs,e⟩|⟨xs,e⟩
    ·exact⟨_,e⟩
    ·exact⟨_,e⟩
   ·rcases h with h|h
    ·exact .inl h
    ·exact .inr ⟨_,h⟩
def rP (m:Md)(f:EF):SF:=fun ρ=>(eV 0 m f ρ).bind fun _=>aa (.nx ρ)
theorem JQ (m:Md)(he:DE X e f)(hs:pE e ab pos.line X.env=pure af:=by rfl):DS X H0 P0 n0 (.Expr e pos) (rP m f):=PS.imp (JO (ev (H0:=H0) (P0:=P0) m he) hs) fun D σ H gh=>by
 obtain⟨B0,ρ,fp,o,S,ef,k⟩:=gh;obtain⟨d,e1,ef⟩:=ao ef;cases ef;refine⟨B0,ρ,fp,d,S,e1,fun v H' ⟨iz,S',r⟩=>k _ _ iz S'⟩
end
theorem Rf:Afq X (.builtin "isinstance") (fun xs H Q=>∃ x T t b,xs=[x,.ty T]/\TyOf X.K H x t/\Cv X.K t (.type T)=aa b/\Q (.bl b) H):=by
 rw[5];obtain⟨x,T,t,b,rfl,ty,e,q⟩:=h;obtain⟨u,w',rfl,ru,mo⟩:=vals2 r;cases mo;exact Yt I ru ty e fun tk=>⟨.bl b,H,I.tok tk,rfl,q⟩
def DB (x:aE):It:=⟨fun i _=>i<x.cps.size,fun i H v H'=>H'=H/\∃ c,x.cps[i]?=aa c/\v=.str ⟨#[c]⟩,fun i _=>x.cps.size≤i⟩
theorem WX {P:bP}{it:aD}{K1:Tok}{ty:String}
  (W:∀ A':bZ,A'.handled=ab->Walks P w A' it [it] [it] x.cps.size (SignAt x) (fun i h=>h.IsStrIter it ty x K1 i))
  (sf:∀ (A:bZ) (i:Nat) (s:aH) (Q:aC->aH->Prop) (E:aC->aH->Prop),s.heap.IsStrIter it ty x K1 i->Q (.ref it) s->aJ (aP P w) A (oA (.ref it)) Q E s)
  (rj:["enumerate","zip","dict_itemiterator","dict_reverseitemiterator","odict_iterator","itertools.zip_longest","itertools.pairwise"].contains ty=af) :
  Turn P w K tg (DB x) [it] it (fun i h=>h.IsStrIter it ty x K1 i/\i≤x.cps.size) where
 mem:=by simp
 obj:=fun i h st b hb=>by
  have e:b=it:=by simpa using hb
  subst e;obtain⟨o,e,_,d⟩:=st.1;exact⟨o,e,fun v z=>by rw[d] at z;cases z⟩
 keep:=fun i h h' st k=>⟨let ⟨o,e,r⟩:=st.1;⟨o,k it (by simp) o e,r⟩,st.2⟩
 item:=by
  rw[2];obtain⟨f0,f1,f2,f3,f4,f5⟩:=hf it (by simp)
  refine(W X.A (I.ok.hd hc)).item i s _ _ hg st.1 fun v h' tk hv ak kk=>?_
  obtain⟨c,u,hcx,rfl⟩:=hv;have I1:Inv X ad σ H { s with heap:=h',toks:=tk }:=I.turned (fun b o hb e=>kk b o (by simpa using hb) e) f0 f1 f3 f4 f5
  obtain⟨o,e,K2,d⟩:=id ak;exact⟨_,rfl,yT (s:={ s with heap:=h',toks:=tk }) e K2 d rj ⟨.str ⟨#[c]⟩,H,I1,⟨u,rfl⟩,⟨rfl,c,hcx,rfl⟩,⟨ak,hg⟩,fun b hb=>(hf b hb).1⟩⟩
 done:=by
  rw[2];obtain⟨f0,f1,f2,f3,f4,f5⟩:=hf it (by simp)
  have hi:i=x.cps.size:=Nat.le_antisymm st.2 hg;subst hi;exact(W X.A (I.ok.hd hc)).done s _ _ st.1 fun h' tk kk=>⟨rfl,I.turned (fun b o hb e=>kk b o (by simpa using hb) e) f0 f1 f3 f4 f5⟩
 self:=fun A i s Q E st h=>sf A i s Q E st.1 h
def Fh (tl:TE):TI:=fun σ H R=>tl σ H fun v H1=>∃ x,v=.str x/\R (DB x) H1
theorem Jo {X:Cx}{l:bF}{tl:TE}(hl:PE X l tl):PI X tg l (Fh tl):=by
 intro ad s σ H R I h;refine bp (hl ad s σ H _ I h) fun v s1 gh=>?_
 obtain⟨y,H1,I1,r1,q1⟩:=gh;obtain⟨x,rfl,q⟩:=q1;obtain⟨t,rfl⟩:=r1;have fin:∀ (o:bI) (ty:String),Turn X.prog X.w X.K tg (DB x) [s1.heap.objs.size] s1.heap.objs.size (fun i h=>h.IsStrIter s1.heap.objs.size ty x t i/\i≤x.cps.size)->(s1.heap.push o).IsStrIter s1.heap.objs.size ty x t 0 ->
   S9 X ad σ tg R (.ref s1.heap.objs.size) { s1 with heap:=s1.heap.push o }:=fun o ty T st=>by
  refine⟨s1.heap.objs.size,[s1.heap.objs.size],_,_,H1,rfl,I1.kept (t':=s1.toks) fun b o e=>cH _ e,T,⟨st,dS _⟩,fun b hb=>?_,q⟩
  have e:b=s1.heap.objs.size:=by simpa using hb
  subst e;exact I1.fpOk (cE _) (I1.hok.fresh (cE _))
 cases ha:x.cps.all (· < 128)
 ·exact wpAny_pyIter_wide ha (fin _ "str_iterator" (WX (fun A' hA=>Walks.strWide hA _ x t) (fun A i s Q E st h=>wpAny_pyIter_striter_wide st h) (by decide)) ⟨_,eD _ rfl,rfl,rfl⟩)
 ·exact wpAny_pyIter_ascii ha (fin _ "str_ascii_iterator" (WX (fun A' hA=>Walks.strAscii hA _ x t) (fun A i s Q E st h=>wpAny_pyIter_striter_ascii st h) (by decide)) ⟨_,eD _ rfl,rfl,rfl⟩)
structure Def (P:bP)(w:bG)(K:aM)(mg:aE->Option aC)(base:aY)(x:aE)(k:Nat)(ps:List aE)(sp:Sp):Prop where
 ex:∃ f fd,FnOk P w K mg base gv k f fd ps sp/\mg x=aa (.ref f)/\uS K (.ref f)=ae/\Binds K fd ps []
section
variable {k:Nat}{t:TA}
theorem Hk (D:Def X.prog X.w X.K X.mg X.base x k ps sp)(hr:Room k X.A)(hg:Gl X x)(ha:PA X (e::es) t)(qb:(x==("__debug__" : aE))=af:=by decide)(he:bY (e::es) X.env=(af,cD e X.env)::bY es X.env:=by rfl)
  (ir:(iI pos (bY es X.env)).any (·.1)=af:=by rfl):PE X (.Call (.Name x p) (e::es) [] pos) (RF sp [] E0 t):=by
 obtain⟨f,fd,F,hm,hk,hb⟩:=D.ex;exact Ub F hr hg hm hk hb .nil Hu ha qb he ir
end
def IQ (a b:String):Option Bool:=if (iJ a==iJ b)=ae then aa ae else if PySem.W.kitMeta b=ae then(fastBuiltinMro a).map (·.contains (.type b)) else ab
theorem Amt{a b:String}:Cv K (.type a) (.type b)=IQ a b:=rfl
def kinds:List String:=["NoneType","bool","int","str","list","tuple","dict"]
def jb (t T:String):Bool:=t==T||(t == "bool" && T == "int")
theorem Wd:(kinds.all fun t=>["int","bool","str","list","tuple","dict"].all fun T=>decide (IQ t T=aa (jb t T)))=ae:=by rw[0]
theorem Nc {t:String}(ht:t∈kinds)(hT:T∈["int","bool","str","list","tuple","dict"]):IQ t T=aa (jb t T):=by
 have h:=hX.mp Wd t ht;have h:=hX.mp h T hT;exact of_decide_eq_true h
def Kd (K:aM)(H:Hp)(x:V)(t:String):Prop:=TyOf K H x (.type t)/\t∈kinds
theorem Kd.int{x:V}(h:Kd K H x "int"):∃ i,x=.int i:=by
 obtain⟨h,_⟩:=h;generalize e:iJ "int" = t at h;cases h<;>first|exact⟨_,rfl⟩|exact absurd (Value.type.inj e) (by decide)|cases e
theorem Kd.str{x:V}(h:Kd K H x "str"):∃ i,x=.str i:=by
 obtain⟨h,_⟩:=h;generalize e:iJ "str" = t at h;cases h<;>first|exact⟨_,rfl⟩|exact absurd (Value.type.inj e) (by decide)|cases e
theorem Fz(hg:Gl X x)(hm:X.mg x=ab)(hv:qE x=aa (.type T))(hn:x ≠ "__name__":=by decide)(hd:(x==("__debug__" : aE))=af:=by decide):PE X (.Name x pos) (tC (.ty T)):=
 Ms hg hm hv rfl hn hd
theorem boot_isinstance:qE "isinstance" = aa (.builtin "isinstance"):=by rw[0]
theorem bits_le {i:Int}(h:i.natAbs<2^n):Builtin.Int.intBits i≤n:=by
 unfold Builtin.Int.intBits;split
 ·exact dS _
 ·rename_i fu;have h0:i.natAbs≠0:=by
   intro z;apply fu;simp[Int.natAbs_eq_zero.mp z]
  have:i.natAbs.log2<n:=(Nat.log2_lt h0).mpr h;omega
theorem Kp:OpR X (mV .Mult) (rI (fun i j=>i.natAbs<2^1000/\j.natAbs<2^1000) fun i j=>.int (i*j)):=D8 fun i j _ _ _ _ _ hc q=>
 mul_int q (PyProof.Rows.mulOk_of_bits (bits_le hc.1) (bits_le hc.2) (by decide))
theorem gR{k:Nat}(hr:Room k A):A.units+100<cLine:=by
 have:=hr.un;omega
theorem Qd {ys:List aE}:∀ {us:List aC},Vals (ys.map V.str) us->StrsAre us ys:=by
 induction ys with
 |nil=>intro us r;cases r;exact .nil
 |cons y r ih=>
  intro us h;cases h with
  |cons h1 h2=>
   obtain⟨t,rfl⟩:=h1;exact .cons y t (ih h2)
theorem Mc:S8 X "str.join" (fun x vs H Q=>∃ ko l ys,x=.str ko/\vs=[.ref l]/\SqL X.K H l (ys.map V.str)/\(ys.map (·.length)).sum+ys.length*ko.length≤16777216/\Q (.str (mX ko ys)) H):=by
 intro ad s σ H x xs v us Q I rx rv h;obtain⟨ko,l,ys,rfl,rfl,hs,hok,q⟩:=h;obtain⟨t,rfl⟩:=rx;obtain⟨u,rfl,ru⟩:=vals1 rv;cases ru;obtain⟨its,r,pl,hz⟩:=I.list hs;refine join_list pl.isList (by simpa using Qd r) hok fun t' k=>?_
 have e:Txt.join ko ys=mX ko ys:=StrLaws.glued_eq_join ko ys;rw[e];exact⟨.str _,H,I.tok k,⟨t',rfl⟩,q⟩
theorem YK:∀ cs:List Nat,mX ⟨#[]⟩ (cs.map fun c=>(⟨#[c]⟩:aE))=⟨cs.toArray⟩
 |[]=>rfl
 |c::r=>by
  rw[dQ,join_nil_cons,YK r];show(⟨#[c]++r.toArray⟩:aE)=⟨(c::r).toArray⟩;simp
def sx (K:aM)(B:Hp)(J:It)(ds:List aA):Prop:=∀ (i:Nat) (H2:Hp),Ext B H2 ->
 (∀ d,ds[i]?=aa d->J.go i H2/\∀ x H3,J.yld i H2 x H3->Ext H2 H3/\∀ P2,Hid P2 H2->Ext B (hid H2 P2)->Ab3 K (hid H3 P2) d x)/\(ds.length=i->J.stop i H2)
def tI (K:aM)(f:AF):TI:=fun σ H R=>∃ P ρ ds,Hid P H/\Am5 K (hid H P) ρ σ/\f ρ=aa ds/\∀ J H',Ext H H'->sx K (hid H' P) J ds->R J H'
def tI0 (K:aM)(f:AF):TI:=fun σ H R=>∃ P ρ ds,Hid P H/\Am5 K (hid H P) ρ σ/\f ρ=aa ds/\∀ J H',Ext H H'->sx K (fun _=>ab) J ds->R J H'
abbrev DI (X:Cx)(tg e:bF)(f:AF):Prop:=PI X tg e (tI X.K f)
abbrev G3 (X:Cx)(tg e:bF)(f:AF):Prop:=PI X tg e (tI0 X.K f)
def itemsOf:aA->Option (List aA)
 |.list ds=>aa ds
 |.tuple ds=>aa ds
 |.str x=>aa (x.cps.toList.map fun c=>.str ⟨#[c]⟩)
 |_=>ab
def cf (f:EF):AF:=fun ρ=>(f ρ).bind itemsOf
section
variable {a:bF}
theorem PI.imp {t t':TI}(h:PI X tg e t)(w:∀ σ H R,t' σ H R->t σ H R):PI X tg e t':=fun ad s σ H R I q=>h ad s σ H R I (w _ _ _ q)
theorem PI.or {t t':TI}(h:PI X tg e t)(h':PI X tg e t'):PI X tg e (fun σ H R=>t σ H R\/t' σ H R):=fun ad s σ H R I q=>q.elim (h ad s σ H R I) (h' ad s σ H R I)
theorem Ya{a:aD}(h:SqL K B a xs)(r:Aaw K B ds xs):sx K B (IP K a) ds:=fun i H2 x2=>by
 have h2:SqL K H2 a xs:=x2.sqL h;refine⟨fun d hd=>?_,fun e=>⟨xs,h2,by rw[r.length];omega⟩⟩
 obtain⟨v,h3,h4⟩:=r.get hd;refine⟨⟨xs,v,h2,h3⟩,?_⟩;rintro x H3 ⟨rfl,hx⟩;have:aa v=aa x:=h3.symm.trans (hx xs h2);cases this;exact⟨Ext.refl,fun P2 _ xb=>h4.ext xb⟩
theorem Ud{a:aD}(h:B a=aa (.tup xs))(r:Aaw K B ds xs):sx K B (IM K a) ds:=fun i H2 x2=>by
 have h2:SqT K H2 a xs:=SqT.of (x2 _ _ h);refine⟨fun d hd=>?_,fun e=>⟨xs,h2,by rw[r.length];omega⟩⟩
 obtain⟨v,h3,h4⟩:=r.get hd;refine⟨⟨xs,v,h2,h3⟩,?_⟩;rintro x H3 ⟨rfl,hx⟩;have:aa v=aa x:=h3.symm.trans (hx xs h2);cases this;exact⟨Ext.refl,fun P2 _ xb=>h4.ext xb⟩
theorem SY {z:aE}{c:Nat}(h:dX (.str z)=ae)(hc:z.cps.toList[i]?=aa c):dX (.str ⟨#[c]⟩)=ae:=by
 have hz:∀ d∈z.cps,d<0x110000:=by
  have h':z.cps.all (· < 0x110000)=ae:=by simpa only[dX,OG] using h
  intro d hd;exact of_decide_eq_true (Array.all_eq_true'.mp h' d hd)
 have:=hz c (by simpa using gZ hc)
 simp[dX,OG,this]
theorem Uq{z:aE}(hl:dX (.str z)=ae):sx K B (DB z) (z.cps.toList.map fun c=>.str ⟨#[c]⟩):=fun i H2 x2=>by
 refine⟨fun d hd=>?_,fun e=>?_⟩
 ·rw[fA] at hd;cases hc:z.cps.toList[i]? with
  |none=>rw[hc] at hd;simp at hd
  |some c=>
   rw[hc] at hd;have hd:bR ⟨#[c]⟩=d:=by simpa using hd
   subst hd;have ce:i<z.cps.size:=by simpa using(dF.mp hc).1
   refine⟨ce,?_⟩;rintro x H3 ⟨rfl,c',j3,rfl⟩;have:z.cps.toList[i]?=aa c':=by simpa using j3
   rw[hc] at this;cases this;exact⟨Ext.refl,fun P2 _ _=>Aa6.mpr ⟨rfl,SY hl hc⟩⟩
 ·have:z.cps.size=i:=by simpa using e
  exact OM this
theorem Yx{lo:Int}:sx K B (DC lo n) ((dB n).map fun(k:Nat)=>aX (lo+k)):=fun i H2 x2=>by
 refine⟨fun d hd=>?_,fun e=>?_⟩
 ·have ce:i<n:=by
   have:=(dF.mp hd).1;simpa using this
  have oa:aX (lo+i)=d:=by
   rw[fA,PC ce] at hd;simpa using hd
  subst oa;refine⟨ce,?_⟩;rintro x H3 ⟨rfl,rfl⟩;exact⟨Ext.refl,fun P2 _ _=>Aax.mpr rfl⟩
 ·have:n=i:=by simpa using e
  exact OM this
theorem jB {f:EF}(h:DE X e f):DI X tg e (cf f):=PI.imp (PI.or (Kv h) (PI.or (Kg h) (Jo h))) fun σ H R gh=>by
 obtain⟨P,ρ,ds,hP,rs,ef,k⟩:=gh;obtain⟨d,e1,ef⟩:=ao ef;cases d with
 |list m4=>
  have:m4=ds:=by simpa [itemsOf] using ef
  rw[10];refine .inl ⟨P,ρ,_,hP,rs,e1,gJ fun v H1 x1 r1=>?_⟩
  obtain⟨a,xs,rfl,hr,rr⟩:=Abh.mp r1;exact⟨a,rfl,⟨xs,Aa0.sqL hr⟩,k _ H1 x1 (Ya hr rr)⟩
 |tuple m4=>
  have:m4=ds:=by simpa [itemsOf] using ef
  rw[10];refine .inr (.inl ⟨P,ρ,_,hP,rs,e1,gJ fun v H1 x1 r1=>?_⟩)
  obtain⟨a,xs,rfl,hr,rr⟩:=Aa3.mp r1;exact⟨a,rfl,⟨xs,SqT.of (Aa0 _ _ hr)⟩,k _ H1 x1 (Ud hr rr)⟩
 |str z=>
  have:z.cps.toList.map (fun c=>bR ⟨#[c]⟩)=ds:=by simpa [itemsOf] using ef
  rw[10];refine .inr (.inr ⟨P,ρ,_,hP,rs,e1,gJ fun v H1 x1 r1=>?_⟩)
  exact⟨z,(Aa6.mp r1).1,k _ H1 x1 (Uq (Aa6.mp r1).2)⟩
 |_=>simp[itemsOf] at ef
def yS (lo hi:Int):Option (List aA):=if -(2^62)≤lo/\lo<2^62 /\ -(2^62)≤hi/\hi<2^62 then aa ((dB (hi-lo).toNat).map fun(k:Nat)=>aX (lo+k)) else ab
def j7 (fa:AF):AF:=fun ρ=>(fa ρ).bind fun ds=>match ds with
 |[.int j]=>yS 0 j
 |_=>ab
def iR2 (fa:AF):AF:=fun ρ=>(fa ρ).bind fun ds=>match ds with
 |[.int i,.int j]=>yS i j
 |_=>ab
theorem lY {fa:AF}(hg:Gl X "range")(hm:X.mg "range" = ab)(ha:DA X [a] fa)(hs:bY [a] X.env=[(af,cD a X.env)]:=by rfl):G3 X tg (.Call (.Name "range" p) [a] [] pos) (j7 fa):=PI.imp (Zl hg hm ha hs) fun σ H R gh=>by
 obtain⟨P,ρ,ds,hP,rs,ef,k⟩:=gh;obtain⟨as,e1,ef⟩:=ao ef;refine⟨P,ρ,as,hP,rs,e1,fun vs H1 x1 r1=>?_⟩
 split at ef
 ·rename_i j;obtain⟨hb,rfl⟩:=eQ ef;obtain⟨v,t,rfl,h1,h2⟩:=Aan.mp r1;obtain rfl:=Aav.mp h2;obtain rfl:=Aax.mp h1;have e0:(j-0).toNat=j.toNat:=by simp
  refine⟨j,rfl,hb.2.2.1,hb.2.2.2,k _ H1 x1 ?_⟩;rw[e0];exact Yx
 ·cases ef
theorem tL {f:AF}(h:G3 X tg e f):DI X tg e f:=PI.imp h fun σ H R ⟨P,ρ,ds,hP,rs,ef,k⟩=>⟨P,ρ,ds,hP,rs,ef,fun J H' x it=>k J H' x fun i H2 x2=>by
 obtain⟨h1,h2⟩:=it i H2 (fun _ _ e=>by cases e)
 exact⟨fun d hd=>⟨(h1 d hd).1,fun v H3 y=>⟨((h1 d hd).2 v H3 y).1,fun P2 hp _=>((h1 d hd).2 v H3 y).2 P2 hp fun _ _ e=>by cases e⟩⟩,h2⟩⟩
def tI' (K:aM)(H0:Hp)(P0:aD->Prop)(m:Md)(f:AF):TI:=fun σ H R=>∃ B0 ρ fp ds,Sta K H0 P0 B0 ρ σ H fp/\aV m f ρ=aa ds/\∀ J B1 H',Sta K H0 P0 B1 ρ σ H' fp->Ext B0 B1->sx K B1 J ds->R J H'
theorem Sta.rebase{B1:Hp}{ρ:bJ}(S:Sta K H0 P0 B0 ρ σ H fp)(b:Ext B1 (L2.hid H (Hd P0 fp))):Sta K H0 P0 B1 ρ σ H fp:=⟨S.len,S.nd,S.dj,S.own,S.ext,S.hd,b,S.slot⟩
theorem evI {f:AF}(h:DI X tg e f):PI X tg e (tI' X.K H0 P0 .s f):=PI.imp h fun σ H R ⟨B0,ρ,fp,ds,S,ef,k⟩=>
 ⟨Hd P0 fp,vS ρ,ds,S.hid,S.viewS,ef,fun J H' x it=>k J _ H' ((S.grow x).rebase Ext.refl) (S.grow x).base it⟩
theorem Fq {f:AF}(m:Md)(h:G3 X tg e f):PI X tg e (tI' X.K H0 P0 m f):=PI.imp h fun σ H R gh=>by
 obtain⟨B0,ρ,fp,ds,S,ef,k⟩:=gh;have up:∀ {J:It} {B:Hp},sx X.K (fun _=>ab) J ds->sx X.K B J ds:=fun {J B} it i H2 x2=>by
  obtain⟨h1,h2⟩:=it i H2 (fun _ _ e=>by cases e)
  exact⟨fun d hd=>⟨(h1 d hd).1,fun v H3 y=>⟨((h1 d hd).2 v H3 y).1,fun P2 hp _=>((h1 d hd).2 v H3 y).2 P2 hp fun _ _ e=>by cases e⟩⟩,h2⟩
 cases m with
 |s=>exact⟨Hd P0 fp,vS ρ,ds,S.hid,S.viewS,ef,fun J H' x it=>k J _ H' (S.grow x) Ext.refl (up it)⟩
 |a=>exact⟨P0,vA ρ,ds,S.hd.ext S.ext,S.viewA,ef,fun J H' x it=>k J _ H' (S.grow x) Ext.refl (up it)⟩
end
def tG (K:aM)(H0:Hp)(P0:aD->Prop)(T:aA->bJ->Option bJ):TG:=fun v σ H Q=>∃ B0 ρ fp d ρ',Sta K H0 P0 B0 ρ σ H fp/\Ab3 K (hid H (Hd P0 fp)) d v/\T d ρ=aa ρ'/\∀ σ' iz,Sta K H0 P0 B0 ρ' σ' H iz->Q σ' H
abbrev DG (X:Cx)(H0:Hp)(P0:aD->Prop)(tg:bF)(T:aA->bJ->Option bJ):Prop:=PG X tg (tG X.K H0 P0 T)
theorem PG.imp{t t':TG}(h:PG X tg t)(w:∀ v σ H Q,t' v σ H Q->t v σ H Q):PG X tg t':=fun ad s σ H v u Q I r q=>h ad s σ H v u Q I r (w _ _ _ _ q)
theorem Sta.Ano{ρ:bJ}(S:Sta K H0 P0 B0 ρ σ H fp)(r:Ab3 K (L2.hid H (Hd P0 fp)) d v)(hi:i<ρ.length):∃ iz,Sta K H0 P0 B0 (ρ.set i (aa (0,d))) (σ.set i (aa v)) H iz:=by
 have gs:∀ a,Hd P0 (fun j=>if j=ρ.length then [] else fp j) a->Hd P0 fp a:=fun a h=>by
  rcases h with h|⟨j,h⟩
  ·exact .inl h
  ·by_cases hj:j=ρ.length
   ·simp only[hj,if_true] at h;simp at h
   ·simp only[hj,if_false] at h;exact .inr ⟨j,h⟩
 have S2:Sta K H0 P0 B0 ρ σ H (fun j=>if j=ρ.length then [] else fp j):=by
  refine⟨S.len,fun j=>?_,fun j k a h1 h2=>?_,fun j a h1=>?_,S.ext,S.hd,S.base.trans (lM gs),fun j n d e=>?_⟩
  ·by_cases hj:j=ρ.length
   ·simp only[hj,if_true];exact .nil
   ·simp only[hj,if_false];exact S.nd j
  ·by_cases hj:j=ρ.length
   ·simp only[hj,if_true] at h1;simp at h1
   ·by_cases hk:k=ρ.length
    ·simp only[hk,if_true] at h2;simp at h2
    ·simp only[hj,if_false] at h1;simp only[hk,if_false] at h2;exact S.dj j k a h1 h2
  ·by_cases hj:j=ρ.length
   ·simp only[hj,if_true] at h1;simp at h1
   ·simp only[hj,if_false] at h1;exact S.own j a h1
  ·have ce:j<ρ.length:=(dF.mp e).1;have hj:j≠ρ.length:=by omega
   obtain⟨v',h1,h2⟩:=S.slot j n d e;refine⟨v',h1,?_⟩;simp only[hj,if_false];exact h2.keep (lM gs) fun a m=>rfl
 refine Tmp.set (n:=0) ⟨_,S2,?_⟩ hi;rw[8];exact⟨rfl,r.ext (lM gs)⟩
def cq (i:Nat):aA->bJ->Option bJ:=fun d ρ=>if i<ρ.length then aa (ρ.set i (aa (0,d))) else ab
theorem jD(hN:X.N.Nodup)(hi:X.N[i]?=aa x)(hx:nH X.env.scope x)(hf:X.fn x=ae\/X.env.scope.names.lookup x=aa .local:=by first|exact .inl rfl|exact .inr rfl|assumption):DG X H0 P0 (.Name x pos) (cq i):=
 PG.imp (EN hN hi hx hf) fun v σ H Q gh=>by
  obtain⟨B0,ρ,fp,d,ρ',S,r,ef,k⟩:=gh;obtain⟨hl,rfl⟩:=eQ ef;obtain⟨iz,S'⟩:=S.Ano r hl;exact k _ iz S'
def rL (i j:Nat):aA->bJ->Option bJ:=fun d ρ=>match d with
 |.tuple [a,b]=>(cq i a ρ).bind fun ρ'=>cq j b ρ'
 |_=>ab
theorem zN{y:aE}{p1 p2:cV}{k}(hc:X.calm=ae)(hN:X.N.Nodup)(hi:X.N[i]?=aa x)(hj:X.N[j]?=aa y)(hx:nH X.env.scope x)(hy:nH X.env.scope y)
  (hf:X.fn x=ae\/X.env.scope.names.lookup x=aa .local:=by first|exact .inl rfl|exact .inr rfl|assumption) (hf2:X.fn y=ae\/X.env.scope.names.lookup y=aa .local:=by first|exact .inl rfl|exact .inr rfl|assumption)
  (hn:(mW [.Name x p1,.Name y p2] X.env).length=2:=by rfl) (mj:(mW [.Name x p1,.Name y p2] X.env).findIdx? (·.1)=ab:=by rfl)
  (h1:(mW [.Name x p1,.Name y p2] X.env).map (·.2)=mC (.Name x p1) X.env::(mW [.Name y p2] X.env).map (·.2):=by rfl) (h2:(mW [.Name y p2] X.env).map (·.2)=mC (.Name y p2) X.env::(mW [] X.env).map (·.2):=by rfl):DG X H0 P0 (.Tuple [.Name x p1,.Name y p2] k pos) (rL i j):=
 PG.imp (Ik hc (TV (EN hN hi hx hf) (TV (EN hN hj hy hf2) Uk h2) h1) hn mj) fun v σ H Q gh=>by
  obtain⟨B0,ρ,fp,d,ρ',S,r,ef,k⟩:=gh;unfold rL at ef;split at ef
  ·rename_i a b;obtain⟨ρ1,e1,e2⟩:=ao ef;obtain⟨l1,rfl⟩:=eQ e1;obtain⟨l2,rfl⟩:=eQ e2;obtain⟨p,xs,rfl,hp,rr⟩:=Aa3.mp r;obtain⟨v1,t1,rfl,r1,rr⟩:=Aan.mp rr;obtain⟨v2,t2,rfl,r2,rr⟩:=Aan.mp rr;obtain rfl:=Aav.mp rr;refine⟨p,_,rfl,SqT.of (Aa0 _ _ hp),rfl,v1,_,rfl,v2,_,rfl,rfl,?_⟩;have Sb:=S.rebase (B1:=hid H (Hd P0 fp)) Ext.refl;obtain⟨V5,S1⟩:=Sb.Ano r1 l1;obtain⟨lu,S2⟩:=S1.Ano (r2.ext S1.base) l2;exact k _ lu (S2.rebase (S.base.trans S2.base))
  ·cases ef
def lU (F:SF)(T:aA->bJ->Option bJ):List aA->SF
 |[],ρ=>aa (.nx ρ)
 |d::r,ρ=>(T d ρ).bind fun ρ1=>(F ρ1).bind fun o=>match o with
  |.nx ρ'=>lU F T r ρ'
  |.ct ρ'=>lU F T r ρ'
  |.bk ρ'=>aa (.nx ρ')
  |.rt d=>aa (.rt d)
def eW (m:Md)(fi:AF)(T:aA->bJ->Option bJ)(F:SF):SF:=fun ρ=>(aV m fi ρ).bind fun ds=>lU F T ds ρ
section
variable {body:List cR}{F:SF}{T:aA->bJ->Option bJ}{fi:AF}{m:Md}
theorem UI (hp:PassesOwn (aP X.prog X.w) X.A X.env X.xe)(hc:X.calm=ae)(hi:PI X tg bh (tI' X.K H0 P0 m fi))(hg:DG X H0 P0 tg T)(hb:qw X H0 P0 n0 body F)
  (hs:∀ x,uL bh X.env x=pure x:=by intro _;rfl):DS X H0 P0 n0 (.For tg bh body [] pos) (eW m fi T F):=PS.imp (Ke hp hc hi hg hb hs) fun D σ H gh=>by
 obtain⟨B0,ρ,fp,o,S,ef,k⟩:=gh;obtain⟨ds,e1,ef⟩:=ao ef;refine⟨B0,ρ,fp,ds,S,e1,fun J B1 H' S1 xb it=>?_⟩
 refine⟨fun i m σ H=>m=ds.length-i/\i≤ds.length/\∃ ρ fp,Sta X.K H0 P0 B1 ρ σ H fp/\lU F T (ds.drop i) ρ=aa o,⟨ds.length,by simp,dS _,ρ,fp,S1,by simpa using ef⟩,?_⟩
 rintro i m σ2 H2 ⟨rfl,hi,ρ2,lu,S2,e2⟩;have x2:Ext B1 H2:=S2.base.trans Aa0;obtain⟨go,st⟩:=it i H2 x2;by_cases ce:i<ds.length
 ·have hd:ds[i]?=aa ds[i]:=eI ce;rw[CS ce] at e2;obtain⟨ρ3,e3,e2⟩:=ao e2;obtain⟨o3,e4,e2⟩:=ao e2;obtain⟨g1,g2⟩:=go _ hd;refine .inr ⟨g1,fun σ' H'=>i+1≤ds.length/\∃ ρ fp,Sta X.K H0 P0 B1 ρ σ' H' fp/\lU F T (ds.drop (i+1)) ρ=aa o,fun σ' H' ⟨h1,h2⟩=>⟨ds.length-(i+1),by omega,rfl,h1,h2⟩,fun x H3 y=>?_⟩
  obtain⟨x3,r3⟩:=g2 x H3 y;refine⟨B1,ρ2,lu,_,ρ3,S2.grow x3,r3 _ S2.hid S2.base,e3,fun σ4 fp4 S4=>⟨B1,ρ3,fp4,o3,S4,e4,?_⟩⟩
  cases o3 with
  |nx ρ5=>exact fun σ5 H5 zg S5=>⟨ce,ρ5,zg,S5,e2⟩
  |ct ρ5=>exact fun σ5 H5 zg S5=>⟨ce,ρ5,zg,S5,e2⟩
  |bk ρ5=>
   cases e2;exact fun σ5 H5 zg S5=>k σ5 H5 zg (S5.rebase (xb.trans S5.base))
  |rt d=>
   cases e2;exact k
 ·have e:i=ds.length:=by omega
  subst e;rw[List.drop_length] at e2;cases e2;exact .inl ⟨st rfl,k σ2 H2 lu (S2.rebase (xb.trans S2.base))⟩
theorem jW (hp:PassesOwn (aP X.prog X.w) X.A X.env X.xe)(hc:X.calm=ae)(hi:DI X tg bh fi)(hg:DG X H0 P0 tg T)(hb:qw X H0 P0 n0 body F)
  (hs:∀ x,uL bh X.env x=pure x:=by intro _;rfl):DS X H0 P0 n0 (.For tg bh body [] pos) (eW .s fi T F):=UI hp hc (evI hi) hg hb hs
theorem tW (m:Md)(hp:PassesOwn (aP X.prog X.w) X.A X.env X.xe)(hc:X.calm=ae)(hi:G3 X tg bh fi)(hg:DG X H0 P0 tg T)(hb:qw X H0 P0 n0 body F)
  (hs:∀ x,uL bh X.env x=pure x:=by intro _;rfl):DS X H0 P0 n0 (.For tg bh body [] pos) (eW m fi T F):=UI hp hc (Fq m hi) hg hb hs
end
def p8 (T:aA->List (Option aA)->Option (List (Option aA)))(t:BF)(f:EF)(ρ:List (Option aA)):List aA->Option (List aA)
 |[]=>aa []
 |d::r=>(T d ρ).bind fun ρ1=>(t ρ1).bind fun c=>if c=ae then(f ρ1).bind fun y=>(p8 T t f ρ r).bind fun ys=>aa (y::ys) else p8 T t f ρ r
def kT (cap:List (Option Nat))(ρ:List (Option aA)):List (Option aA):=cap.map fun o=>o.bind fun j=>(ρ[j]?).join
def j1 (cap:List (Option Nat))(fi:AF)(T:aA->List (Option aA)->Option (List (Option aA)))(t:BF)(f:EF):EF:=fun ρ=>(fi ρ).bind fun ds=>(p8 T t f (kT cap ρ) ds).bind fun ys=>if ds.length≤sizeLine then aa (.list ys) else ab
def G8 (K:aM)(T:aA->List (Option aA)->Option (List (Option aA))):TG:=fun v σ H Q=>∃ P ρ d ρ',Hid P H/\Am5 K (hid H P) ρ σ/\Ab3 K (hid H P) d v/\T d ρ=aa ρ'/\∀ σ',Am5 K (hid H P) ρ' σ'->Q σ' H
def G5 (T:aA->List (Option aA)->Option (List (Option aA))):Prop:=∀ d ρ ρ',T d ρ=aa ρ'->∀ (i:Nat) d',ρ[i]?=aa (aa d')->ρ'[i]?=aa (aa d')
def dM:BF:=fun _=>aa ae
def gB (j:Nat):aA->List (Option aA)->Option (List (Option aA)):=fun d ρ=>match ρ[j]? with
 |some ab=>aa (ρ.set j (aa d))
 |_=>ab
theorem Bo{ρ':List (Option aA)}(h:gB j d ρ=aa ρ'):ρ[j]?=aa ab/\ρ.set j (aa d)=ρ':=by
 unfold gB at h;split at h
 ·rename_i e;exact⟨e,gY h⟩
 ·cases h
theorem mJ:G5 (gB j):=fun d ρ ρ' e i d' h=>by
 obtain⟨hj,rfl⟩:=Bo e;by_cases q:j=i
 ·subst q;rw[hj] at h;cases h
 ·rw[pK q];exact h
section
variable {fi:AF}{T:aA->List (Option aA)->Option (List (Option aA))}{t:BF}{f:EF}
theorem nV:vJ X [] (v9 X.K dM):=fun ad s σ H Q I gh=>by
 obtain⟨P,ρ,b,hP,rs,ef,k⟩:=gh;cases ef;exact My ad s σ H Q I (k H Ext.refl)
theorem Nh (h:DT X c t):vJ X [c] (v9 X.K t):=Lo h
theorem Am5.set(h:Am5 K B ρ σ)(r:Ab3 K B d v)(hl:j<σ.length):Am5 K B (ρ.set j (aa d)) (σ.set j (aa v)):=fun i d' e=>by
 by_cases q:j=i
 ·subst q;have hj:j<ρ.length:=by
   have:=(dF.mp e).1;simpa using this
  rw[rE hj] at e;cases e;exact⟨v,rE hl,r⟩
 ·rw[pK q] at e;obtain⟨w,h1,h2⟩:=h i d' e;exact⟨w,by rw[pK q];exact h1,h2⟩
def DGB (X:Cx)(tg:bF)(T:aA->List (Option aA)->Option (List (Option aA))):Prop:=
 ∀ (ad:List (aD×bI)) (s:aH) (σ:St) (H:Hp) (v:V) (u:aC) (Q:St->Hp->Prop),Inv X ad σ H s->RelV v u->G8 X.K T v σ H Q ->
  aJ (aP X.prog X.w) X.A (mC tg X.env u) (fun _ s'=>∃ σ' H',Inv X ad σ' H' s'/\Q σ' H') X.xe s
theorem mO(hN:X.N.Nodup)(hi:X.N[j]?=aa x)(hx:nH X.env.scope x)(hf:X.fn x=ae\/X.env.scope.names.lookup x=aa .local:=by first|exact .inl rfl|exact .inr rfl|assumption):DGB X (.Name x pos) (gB j):=fun ad s σ H v u Q I r gh=>by
 obtain⟨P,ρ,d,ρ',hP,rs,rd,ef,k⟩:=gh;obtain⟨hj,rfl⟩:=Bo ef;have hl:j<σ.length:=by rw[I.len];exact(dF.mp hi).1
 exact EN hN hi hx hf ad s σ H v u Q I r (k _ (rs.set rd hl))
theorem Vj(h:Am5 K B ρ σ):Am5 K B (kT cap ρ) (vH cap σ):=fun i d e=>by
 unfold kT at e;unfold vH;rw[fA] at e ⊢;cases hc:cap[i]? with
 |none=>rw[hc] at e;simp at e
 |some o=>
  rw[hc] at e;cases o with
  |none=>simp at e
  |some j=>
   simp only[uW,cX,HQ] at e ⊢;obtain⟨v,h1,h2⟩:=h j d (XU e);exact⟨v,by rw[h1];rfl,h2⟩
theorem QY(hT:G5 T):∀ σ H Q,tF K 1 (j1 cap fi T t f) σ H Q->U3 cap (tI K fi) (G8 K T) (v9 K t) (tF K 0 f) σ H Q:=fun σ H Q gh=>by
 rw[4];obtain⟨ds,e1,ef⟩:=ao ef;obtain⟨all,e2,ef⟩:=ao ef;obtain⟨hz,rfl⟩:=eQ ef;refine⟨P,ρ,ds,hP,rs,e1,fun J H1 x1 it A hA=>?_⟩
 have hPA:¬ P A:=(hP.ext x1).new hA;have back:∀ {H':Hp} {ys:List V},hid (ar H' A (.lst ys)) (ju P [A])=hid H' (ju P [A]):=fun {H' ys}=>by
  funext b;unfold hid;by_cases hb:ju P [A] b
  ·rw[if_pos hb,if_pos hb]
  ·rw[if_neg hb,if_neg hb];exact fR (fun z=>hb (.inr (by simp[z])))
 refine⟨fun i m ys σ' H'=>m=ds.length-i/\i≤ds.length/\H' A=aa (.lst ys)/\Ext H1 H'/\Ext (hid H1 P) (hid H' (ju P [A]))/\Am5 K (hid H' (ju P [A])) (kT cap ρ) σ'/\ys.length≤i /\
  ∃ done rest,Aaw K (hid H' (ju P [A])) done ys/\p8 T t f (kT cap ρ) (ds.drop i)=aa rest/\all=done++rest,⟨ds.length,?_⟩,?_⟩
 ·have xa:Ext (hid H1 P) (hid (ar H1 A (.lst [])) (ju P [A])):=fun b o e=>by
   obtain⟨nb,e⟩:=Afc.mp e;have hb:b≠A:=mR e hA;exact kU (fun z=>z.elim nb fun m=>hb (by simpa using m)) (by rw[fR hb];exact e)
  exact⟨by simp,dS _,jR,Ext.new hA,xa,(Vj (rs.ext (fD x1))).ext xa,dS _,[],all,Aav.mpr rfl,by simpa using e2,rfl⟩
 ·rintro i m ys σ' H' ⟨rfl,hi,hD,x2,xb,rs2,hl,done,rest,rd,e3,rfl⟩;refine⟨hD,?_⟩;obtain⟨go,st⟩:=it i H' (Aa0.trans x2);have uk:Hid (ju P [A]) H':=fun a h=>by
   rcases h with h|h
   ·exact(hP.ext (x1.trans x2)) a h
   ·have:a=A:=by simpa using h
    rw[10];exact .inl ⟨_,hD⟩
  by_cases ce:i<ds.length
  ·have hd:ds[i]?=aa ds[i]:=eI ce;rw[CS ce] at e3;obtain⟨ρ1,e4,e3⟩:=ao e3;obtain⟨c,e5,e3⟩:=ao e3;obtain⟨g1,g2⟩:=go _ hd;refine .inr ⟨g1,by omega,fun ys σ' H'=>i+1≤ds.length/\H' A=aa (.lst ys)/\Ext H1 H'/\Ext (hid H1 P) (hid H' (ju P [A]))/\Am5 K (hid H' (ju P [A])) (kT cap ρ) σ'/\ys.length≤i+1 /\
    ∃ d2 r2,Aaw K (hid H' (ju P [A])) d2 ys/\p8 T t f (kT cap ρ) (ds.drop (i+1))=aa r2/\done++rest=d2++r2,fun zs σ2 H2 h=>⟨ds.length-(i+1),by omega,rfl,h⟩,fun x H2 y=>?_⟩
   obtain⟨x3,r3⟩:=g2 x H2 y;refine⟨ju P [A],kT cap ρ,_,ρ1,uk.ext x3,rs2.ext (fD x3),r3 _ uk xb,e4,fun σ3 K3=>?_⟩
   refine⟨ju P [A],ρ1,c,uk.ext x3,K3,e5,fun H4 x4=>?_⟩
   have V6:Am5 K (hid H2 (ju P [A])) (kT cap ρ) σ3:=fun j d' e=>K3 j d' (hT _ _ _ e4 j d' e)
   cases c with
   |false=>
    rw[if_neg oJ] at e3;refine vM ⟨ce,x4 _ _ (x3 _ _ hD),x2.trans (x3.trans x4),xb.trans (fD (x3.trans x4)),V6.ext (fD x4),by omega,done,rest,rd.ext (fD (x3.trans x4)),e3,rfl⟩
   |true=>
    rw[if_pos rfl] at e3;obtain⟨yd,e6,e3⟩:=ao e3;obtain⟨r2,e7,e3⟩:=ao e3;cases e3;refine vK ⟨ju P [A],ρ1,yd,uk.ext (x3.trans x4),K3.ext (fD x4),e6,gJ fun v H5 x5 r5=>⟨x5 _ _ (x4 _ _ (x3 _ _ hD)),ce,jR,?_,?_,?_,by simp;omega,done++[yd],r2,?_,e7,by simp⟩⟩
    ·intro b o e;rw[fR (mR e hA)];exact x5 _ _ (x4 _ _ (x3 _ _ (x2 _ _ e)))
    ·rw[back];exact xb.trans (fD (x3.trans (x4.trans x5)))
    ·rw[back];exact V6.ext (fD (x4.trans x5))
    ·rw[back];exact(rd.ext (fD (x3.trans (x4.trans x5)))).snoc r5
  ·have e:i=ds.length:=by omega
   subst e;rw[List.drop_length] at e3;cases e3;rw[pM] at k;refine .inl ⟨st rfl,?_⟩;refine k (.ref A) H' [A] (x1.trans x2) (mE.mpr ⟨by simp,.nil⟩) (fun a m=>?_) ⟨A,ys,ys.map fun _=>[],rfl,hD,?_,?_⟩
   ·have:a=A:=by simpa using m
    rw[10];exact⟨x1.none hA,_,hD⟩
   ·have:∀ l:List V,(l.map fun _=>([]:List aD)).flatten=[]:=fun l=>by
     induction l with
     |nil=>rfl
     |cons a l ih=>rw[dQ,vC,ih];rfl
    rw[this]
   ·have go:∀ (ds:List aA) (xs:List V),Aaw K (hid H' (ju P [A])) ds xs->All3 (Agd K (hid H' (ju P [A])) H' 0) ds xs (xs.map fun _=>[]):=by
     intro ds;induction ds with
     |nil=>intro xs r;rw[Aav.mp r];exact .nil
     |cons d ds ih=>
      intro xs r;obtain⟨y,t,rfl,h1,h2⟩:=Aan.mp r;exact .cons ⟨rfl,h1⟩ (ih t h2)
    exact go _ _ rd
def Ad (X:Cx)(N:List aE)(sc:kI)(tg k4:bF)(j9:List bF)(T:aA->List (Option aA)->Option (List (Option aA)))(t:BF)(f:EF):Prop:=
 ∀ (cl:List (aE×aD)) (C:aD) (s₀:aH) (H₀:Hp) (ex:List aD),DGB (jX X N sc cl C s₀ H₀ ex) tg T/\vJ (jX X N sc cl C s₀ H₀ ex) j9 (v9 X.K t)/\DE (jX X N sc cl C s₀ H₀ ex) k4 f
theorem oO (hc:X.calm=ae)(S:CompScope X N cap sc)(hT:G5 T)(hi:DI X tg bh fi)(hb:Ad X N sc tg k4 j9 T t f)(hs:∀ x,uL bh X.env x=pure x:=by intro _;rfl) :
  DF 1 X (.ListComp k4 [⟨tg,bh,j9,0⟩] sc pos) (j1 cap fi T t f):=PE.imp (Fw hc S hi (g:=G8 X.K T) (tc:=v9 X.K t) (te:=tF X.K 0 f) hb hs) (QY hT)
theorem TX(m:Md)(hc:X.calm=ae)(hN:X.N.Nodup)(om:X.N[i]?=aa x)(hx:nH X.env.scope x)(S:CompScope X N cap sc)(hT:G5 T)(hi:DI X tg bh fi)(hb:Ad X N sc tg k4 j9 T t f)
  (uj:pE (.ListComp k4 [⟨tg,bh,j9,0⟩] sc pos) (aa (.Name x px)) ui.line X.env=pure ae:=by rfl)
  (hs:∀ x,uL bh X.env x=pure x:=by intro _;rfl) (hf:X.fn x=ae\/X.env.scope.names.lookup x=aa .local:=by first|exact .inl rfl|exact .inr rfl|assumption) :
  DS X H0 P0 n0 (.Assign [.Name x px] (.ListComp k4 [⟨tg,bh,j9,0⟩] sc pos) ui) (bE i 1 m (j1 cap fi T t f)):=PS.imp (Vf hc hN om hx S hi (g:=G8 X.K T) (tc:=v9 X.K t) (te:=tF X.K 0 f) hb uj hs hf) fun D σ H gh=>by
 obtain⟨B0,ρ,fp,o,S,ef,k⟩:=gh;obtain⟨d,e1,ef⟩:=ao ef;obtain⟨hl,rfl⟩:=eQ ef;refine QY hT σ H _ (QT m σ H _ ⟨B0,ρ,fp,d,S,e1,fun v H' t=>?_⟩)
 obtain⟨iz,S'⟩:=t.set hl;exact k _ _ iz S'
end
def outD:Option Out->Option aA
 |some (.rt d)=>aa d
 |some (.nx _)=>aa .none
 |_=>ab
def bz (np n:Nat)(body:SF):List aA->Option aA:=fun ds=>if ds.length=np then outD (body (ds.map (fun d=>aa (0,d))++xW (n-np) ab)) else ab
def aq (K:aM)(n0:Nat)(F:List aA->Option aA):Sp:=fun vs H Q _=>∃ P ds d,Hid P H/\Aaw K (hid H P) ds vs/\F ds=aa d/\Res K P n0 d H Q
section
variable {P:bP}{base:aY}
theorem gV{fd:jH}{k np:Nat}{body:SF}(F:Fun K x qual st f fd)(S:FnScope N ps (cQ st))(hnp:np=ps.length)(hN:ps.length≤N.length)
  (hb:∀ (ax:aC) (A:bZ) (outer:List Env) (s:aH) (H:Hp) (E:XK) (P0:aD->Prop),Room k (A.deeper (rB qual (cQ st) s.heap.objs.size f ax))->qw (sW gv P w K mg base N qual (cQ st) f ax A outer s H E).nox H P0 n0 (kX st) body) :
  FnOk P w K mg base gv (k+1) f fd ps (aq K n0 (bz np N.length body)):=by
 refine F.ok S (fun vs H Q E h=>?_) (fun ax A outer s H vs Q E hr h=>?_)
 ·obtain⟨P,ds,d,_,r,ef,_⟩:=h;unfold bz at ef;by_cases hl:ds.length=np
  ·rw[r.length,hl,hnp]
  ·rw[if_neg hl] at ef;cases ef
 ·obtain⟨P0,ds,d,hP,r,ef,k⟩:=h;refine⟨_,hb ax A outer s H E P0 hr,?_⟩;unfold bz at ef;by_cases hl:ds.length=np
  case neg=>rw[if_neg hl] at ef;cases ef
  rw[if_pos hl] at ef;rw[← hl] at ef;have bg:=r.length;have S0:Sta K H P0 (hid H P0) (ds.map (fun d=>aa (0,d))++xW (N.length-ds.length) ab) (start N vs) H (fun _=>[]):=by
   have eH:Hd P0 (fun _=>[])=P0:=by
    funext a;simp[Hd]
   refine⟨by simp[start,bg],fun _=>.nil,fun i j a h=>by simp at h,fun i a h=>by simp at h,Ext.refl,hP,by rw[eH];exact Ext.refl,fun i n' d' e=>?_⟩
   rw[eH];by_cases hi:i<ds.length
   ·rw[yB (by simpa using hi),fA] at e
    cases q:ds[i]? with
    |none=>rw[q] at e;simp at e
    |some d2=>
     rw[q] at e;have e':0=n'/\d2=d':=by simpa using e
     obtain⟨rfl,rfl⟩:=e';obtain⟨v,h1,h2⟩:=r.get q;refine⟨v,?_,rfl,h2⟩;unfold start;rw[yB (by rw[eS,bg];exact hi),fA,h1]
     rfl
   ·rw[vB (by simpa using hi)] at e
    have:=gZ e;simp at this
  cases eb:body (ds.map (fun d=>aa (0,d))++xW (N.length-ds.length) ab) with
  |none=>rw[eb] at ef;cases ef
  |some o=>
   rw[eb] at ef;refine⟨_,_,_,o,S0,eb,?_⟩;cases o with
   |rt d'=>
    cases ef;exact fun v H' ⟨Fr,h1,h2,h3,h4⟩=>k v H' Fr h1 h2 h3 h4
   |nx ρ'=>
    cases ef;intro σ' H' iz S';refine k .non H' [] S'.ext .nil (fun a m=>by simp at m) ?_
    cases n0 with
    |zero=>exact⟨rfl,Acm.mpr rfl⟩
    |succ n=>
     unfold Ai6;split
     ·exact .inl ⟨rfl,rfl,rfl⟩
     ·exact⟨rfl,Acm.mpr rfl⟩
   |bk _=>cases ef
   |ct _=>cases ef
variable {k np:Nat}{F:List aA->Option aA}{fa:AF}
theorem cB (D:Def X.prog X.w X.K X.mg X.base x k ps (aq X.K n0 F))(hr:Room k X.A)(hg:Gl X x)(ha:DA X (e::es) fa)(qb:(x==("__debug__" : aE))=af:=by decide)(he:bY (e::es) X.env=(af,cD e X.env)::bY es X.env:=by rfl)
  (ir:(iI pos (bY es X.env)).any (·.1)=af:=by rfl):DF n0 X (.Call (.Name x p) (e::es) [] pos) (aN F fa):=
 PE.imp (Hk D hr hg ha qb he ir) fun σ H Q gh=>by
  rw[4];obtain⟨ds,e1,ef⟩:=ao ef;refine⟨P,ρ,ds,hP,rs,e1,fun vs H1 x1 r1=>?_⟩
  show aq X.K n0 F (vs++[]) H1 Q E0;rw[pM];exact⟨P,ds,d,hP.ext x1,r1,ef,k.mono x1⟩
end
def iw (g:Int->Int->aA):aA->aA->Option aA
 |.int i,.int j=>aa (g i j)
 |_,_=>ab
def dh (C:Int->Int->Prop)[∀ i j,Decidable (C i j)](g:Int->Int->aA):aA->aA->Option aA
 |.int i,.int j=>if C i j then aa (g i j) else ab
 |_,_=>ab
theorem As {g:Int->Int->V}{gd:Int->Int->aA}(h:∀ i j H,Ab3 K H (gd i j) (g i j)):qo K 0 (ud g) (iw gd):=fun P H x y a b d Q hP ra rb e k=>by
 unfold iw at e;split at e
 ·rename_i i j;cases e;exact⟨i,j,Aax.mp ra,Aax.mp rb,k.zero Ext.refl (h i j _)⟩
 ·cases e
theorem GQ {C C':Int->Int->Prop}[∀ i j,Decidable (C' i j)]{g:Int->Int->V}{gd:Int->Int->aA}(hC:∀ i j,C' i j->C i j)(h:∀ i j H,Ab3 K H (gd i j) (g i j)):qo K 0 (rI C g) (dh C' gd):=fun P H x y a b d Q hP ra rb e k=>by
 unfold dh at e;split at e
 ·rename_i i j;obtain⟨hc,rfl⟩:=eQ e;exact⟨i,j,Aax.mp ra,Aax.mp rb,hC i j hc,k.zero Ext.refl (h i j _)⟩
 ·cases e
section
variable {a:bF}{fa fb fc:EF}
def gK:aA->aA->Option aA:=iw fun i j=>.int (i-j)
theorem DU (ha:DE X a fa)(hb:DE X b fb):DE X (.BinOp a .Sub b pos) (ah gK fa fb):=sY Ir (As fun _ _ _=>Aax.mpr rfl) ha hb
def dD:aA->aA->Option aA:=dh (fun i j=>(i.natAbs<2^64\/j.natAbs<2^64)\/(i.natAbs<2^1000/\j.natAbs<2^1000)) fun i j=>.int (i*j)
theorem Nr:OpR X (mV .Mult) (rI (fun i j=>(i.natAbs<2^64\/j.natAbs<2^64)\/(i.natAbs<2^1000/\j.natAbs<2^1000)) fun i j=>.int (i*j)):=by
 rw[3];obtain⟨i,j,ex,ey,hc,q⟩:=h;rcases hc with hc|hc
 ·refine Jh ad s σ H x y v u Q I rx ry ⟨i,j,ex,ey,?_,q⟩;rcases hc with hc|hc
  ·exact .inl ⟨by omega,by omega⟩
  ·exact .inr ⟨by omega,by omega⟩
 ·exact Kp ad s σ H x y v u Q I rx ry ⟨i,j,ex,ey,hc,q⟩
theorem kW (ha:DE X a fa)(hb:DE X b fb):DE X (.BinOp a .Mult b pos) (ah dD fa fb):=sY Nr (GQ (fun _ _ h=>h) fun _ _ _=>Aax.mpr rfl) ha hb
def dY:aA->aA->Option aA:=dh (fun _ j=>0<j/\j<1073741824) fun i j=>.int (i/j)
theorem pT (ha:DE X a fa)(hb:DE X b fb):DE X (.BinOp a .FloorDiv b pos) (ah dY fa fb):=sY Ua (GQ (fun _ _ h=>h) fun _ _ _=>Aax.mpr rfl) ha hb
def bM:aA->aA->Option aA:=dh (fun _ j=>0<j) fun i j=>.int (i%j)
theorem eE (ha:DE X a fa)(hb:DE X b fb):DE X (.BinOp a .Mod b pos) (ah bM fa fb):=sY Hf (GQ (fun _ _ h=>h) fun _ _ _=>Aax.mpr rfl) ha hb
def gM:aA->aA->Option aA:=dh (fun i j=>0≤j/\j≤1000000/\i.natAbs<2^64) fun i j=>.int (i^j.toNat)
theorem NK (ha:DE X a fa)(hb:DE X b fb):DE X (.BinOp a .Pow b pos) (ah gM fa fb):=sY Ka (GQ (fun _ _ h=>h) fun _ _ _=>Aax.mpr rfl) ha hb
theorem MG {y:aE}(hx:dX (.str x)=ae)(hy:dX (.str y)=ae):dX (.str (x++y))=ae:=by
 have e:(x++y).cps=x.cps++y.cps:=rfl;simp only[dX,OG] at hx hy ⊢;rw[e,Array.all_append,hx,hy]
 rfl
def bO:aA->aA->Option aA
 |.int i,.int j=>aa (.int (i+j))
 |.str x,.str y=>if x.length+y.length≤sizeLine then aa (.str (x++y)) else ab
 |.tuple (x::xs),.tuple ys=>if (x::xs).length+ys.length≤sizeLine then aa (.tuple ((x::xs)++ys)) else ab
 |_,_=>ab
theorem Nk:qo K 0 (fun x y H Q=>ud (fun i j=>.int (i+j)) x y H Q\/(∃ i j,x=.str i/\y=.str j/\i.length+j.length≤sizeLine/\Q (.str (i++j)) H)\/RL K x y H Q) bO:=fun P H x y a b d Q hP ra rb e k=>by
 unfold bO at e;split at e
 ·rename_i i j;cases e;exact .inl ⟨i,j,Aax.mp ra,Aax.mp rb,k.zero Ext.refl (Aax.mpr rfl)⟩
 ·rename_i i j;obtain⟨hc,rfl⟩:=eQ e;exact .inr (.inl ⟨i,j,(Aa6.mp ra).1,(Aa6.mp rb).1,hc,k.zero Ext.refl (Aa6.mpr ⟨rfl,MG (Aa6.mp ra).2 (Aa6.mp rb).2⟩)⟩)
 ·rename_i z zs ys;obtain⟨hc,rfl⟩:=eQ e;obtain⟨p,us,rfl,hp,r1⟩:=Aa3.mp ra;obtain⟨q,ws,rfl,hq,r2⟩:=Aa3.mp rb;have l1:=r1.length;have l2:=r2.length;refine .inr (.inr ⟨p,q,us,ws,rfl,rfl,SqT.of (Aa0 _ _ hp),SqT.of (Aa0 _ _ hq),fun z=>by rw[z] at l1;simp at l1,by rw[l1,l2];exact hc,fun z=>?_,fun z r hr=>?_⟩)
  ·subst z;have:ys=[]:=by simpa using l2.symm
   rw[10];refine k.zero Ext.refl ?_;rw[pM];exact ra
  ·exact k.tup hP hr (r1.append r2)
 ·cases e
theorem eX (ha:DE X a fa)(hb:DE X b fb):DE X (.BinOp a .Add b pos) (ah bO fa fb):=sY (Bfb.or (Axu.or Um)) Nk ha hb
mutual
def noDict:aA->Bool
 |.dict _=>af
 |.list ds=>noDicts ds
 |.tuple ds=>noDicts ds
 |_=>ae
def noDicts:List aA->Bool
 |[]=>ae
 |d::r=>noDict d&&noDicts r
end
mutual
theorem oX {X:Cx}(I:Inv X ad σ H s):∀ {d:aA} {v:V} {u:aC},noDict d=ae->Ab3 X.K H d v->RelV v u->d.canLay0=ae/\∃ as,mY s.heap u d as
 |.none,v,u,_,h,r=>by
  obtain rfl:=Acm.mp h;cases r;exact⟨by simp[dX],_,.none⟩
 |.bool b,v,u,_,h,r=>by
  obtain rfl:=Aa2.mp h;cases r;exact⟨by simp[dX],_,.bool b⟩
 |.int i,v,u,_,h,r=>by
  obtain rfl:=Aax.mp h;obtain⟨t,rfl⟩:=r;exact⟨by simp[dX],_,.int i t⟩
 |.str x,v,u,_,h,r=>by
  obtain⟨rfl,hl⟩:=Aa6.mp h;obtain⟨t,rfl⟩:=r;exact⟨hl,_,.str x t⟩
 |.list ds,v,u,n,h,r=>by
  obtain⟨a,xs,rfl,hs,hr⟩:=Abh.mp h;cases r;obtain⟨its,rv,⟨o,m,e,hc,_,hd⟩,_⟩:=I.list hs;obtain⟨hl,as,ha⟩:=MT I (by simpa [noDict] using n) hr rv
  exact⟨by simpa [dX] using hl,_,.list e hc hd (by simpa using ha)⟩
 |.tuple ds,v,u,n,h,r=>by
  obtain⟨a,xs,rfl,hs,hr⟩:=Aa3.mp h;cases r;obtain⟨its,rv,⟨o,e,hc,m,hd⟩,_⟩:=I.tuple (SqT.of hs);obtain⟨hl,as,ha⟩:=MT I (by simpa [noDict] using n) hr rv
  exact⟨by simpa [dX] using hl,_,.tuple e hc hd (by simpa using ha)⟩
 |.dict _,_,_,n,h,_=>by simp[noDict] at n
theorem MT {X:Cx}(I:Inv X ad σ H s):∀ {ds:List aA} {vs:List V} {us:List aC},noDicts ds=ae->Aaw X.K H ds vs->Vals vs us->BW ds=ae/\∃ as,pH s.heap us ds as
 |[],vs,us,_,h,r=>by
  obtain rfl:=Aav.mp h;cases r;exact⟨by simp[BW],_,.nil⟩
 |d::ds,vs,us,n,h,r=>by
  have n':noDict d=ae/\noDicts ds=ae:=by simpa [noDicts] using n
  obtain⟨x,rr,rfl,h1,h2⟩:=Aan.mp h;cases r with
  |cons r1 r2=>
   obtain⟨l1,as,ha⟩:=oX I n'.1 h1 r1;obtain⟨l2,bs,hb⟩:=MT I n'.2 h2 r2;exact⟨by simp[BW,l1,l2],_,.cons ha hb⟩
end
def cZ (d:aA):Bool:=noDict d&&decide (d.depth≤60)
def fm:aA->aA->Option aA:=fun a b=>if (cZ a&&cZ b)=ae then aa (.bool (cK a b)) else ab
def gf:aA->aA->Option aA:=fun a b=>if (cZ a&&cZ b)=ae then aa (.bool (!cK a b)) else ab
def DP (K:aM)(neg:Bool):R2:=fun x y H Q=>∃ da db,Ab3 K H da x/\Ab3 K H db y/\cZ da=ae/\cZ db=ae/\Q (.bl (neg != cK da db)) H
theorem tU (hu:X.A.units+100<cLine):OpR X (kQ .Eq) (DP X.K af):=by
 rw[3];obtain⟨da,db,ra,rb,fa,fb,q⟩:=h;have wm:noDict da=ae/\da.depth≤60:=by simpa [cZ] using fa
 have K4:noDict db=ae/\db.depth≤60:=by simpa [cZ] using fb
 obtain⟨la,as,ra⟩:=oX I wm.1 ra rx;obtain⟨lb,bs,rb⟩:=oX I K4.1 rb ry;exact SeqAt.compareEq_reads ra rb la lb (by omega) ⟨.bl _,H,I,rfl,by simpa using q⟩
theorem EH (hu:X.A.units+100<cLine):OpR X (kQ .NotEq) (DP X.K ae):=by
 rw[3];obtain⟨da,db,ra,rb,fa,fb,q⟩:=h;have wm:noDict da=ae/\da.depth≤60:=by simpa [cZ] using fa
 have K4:noDict db=ae/\db.depth≤60:=by simpa [cZ] using fb
 obtain⟨la,as,ra⟩:=oX I wm.1 ra rx;obtain⟨lb,bs,rb⟩:=oX I K4.1 rb ry;exact SeqAt.compareNe_reads ra rb la lb (by omega) ⟨.bl _,H,I,rfl,by simpa using q⟩
theorem tR:qo K 0 (DP K af) fm:=fun P H x y a b d Q hP ra rb e k=>by
 obtain⟨hc,rfl⟩:=eQ e;have j3:cZ a=ae/\cZ b=ae:=by simpa using hc
 exact⟨a,b,ra.ext Aa0,rb.ext Aa0,j3.1,j3.2,k.zero Ext.refl (Aa2.mpr (by simp))⟩
theorem EE:qo K 0 (DP K ae) gf:=fun P H x y a b d Q hP ra rb e k=>by
 obtain⟨hc,rfl⟩:=eQ e;have j3:cZ a=ae/\cZ b=ae:=by simpa using hc
 exact⟨a,b,ra.ext Aa0,rb.ext Aa0,j3.1,j3.2,k.zero Ext.refl (Aa2.mpr (by simp))⟩
def IR (K:aM)(neg:Bool):R2:=fun x y H Q=>∃ d ds,Ab3 K H d x/\(Ab3 K H (.list ds) y\/Ab3 K H (.tuple ds) y)/\cZ d=ae/\noDicts ds=ae/\Q (.bl (neg != ds.any fun z=>cK z d)) H
theorem Il (hu:X.A.units+100<cLine):OpR X (kQ .In) (IR X.K af):=by
 rw[3];obtain⟨d,ds,ra,rb,fa,fb,q⟩:=h;have wm:noDict d=ae/\d.depth≤60:=by simpa [cZ] using fa
 obtain⟨la,as,ra⟩:=oX I wm.1 ra rx;rcases rb with rb|rb
 ·obtain⟨lb,bs,rb⟩:=oX I (by simpa [noDict] using fb) rb ry
  exact SeqAt.in_list_reads rb ra (by simpa [dX] using lb) la (by omega) ⟨.bl _,H,I,rfl,by simpa using q⟩
 ·obtain⟨lb,bs,rb⟩:=oX I (by simpa [noDict] using fb) rb ry
  exact SeqAt.in_tuple_reads rb ra (by simpa [dX] using lb) la (by omega) ⟨.bl _,H,I,rfl,by simpa using q⟩
theorem Ym (hu:X.A.units+100<cLine):OpR X (kQ .NotIn) (IR X.K ae):=by
 rw[3];obtain⟨d,ds,ra,rb,fa,fb,q⟩:=h;have wm:noDict d=ae/\d.depth≤60:=by simpa [cZ] using fa
 obtain⟨la,as,ra⟩:=oX I wm.1 ra rx;rcases rb with rb|rb
 ·obtain⟨lb,bs,rb⟩:=oX I (by simpa [noDict] using fb) rb ry
  exact SeqAt.notIn_list_reads rb ra (by simpa [dX] using lb) la (by omega) ⟨.bl _,H,I,rfl,by simpa using q⟩
 ·obtain⟨lb,bs,rb⟩:=oX I (by simpa [noDict] using fb) rb ry
  exact SeqAt.notIn_tuple_reads rb ra (by simpa [dX] using lb) la (by omega) ⟨.bl _,H,I,rfl,by simpa using q⟩
end
theorem PE.or{t t':TE}(h:PE X e t)(h':PE X e t'):PE X e (fun σ H Q=>t σ H Q\/t' σ H Q):=fun ad s σ H Q I q=>q.elim (h ad s σ H Q I) (h' ad s σ H Q I)
def jd:aA->aA->Option aA
 |.int i,.int j=>aa (.bool (decide (i<j)))
 |.str i,.str j=>aa (.bool (decide (i.cps.toList<j.cps.toList)))
 |_,_=>ab
def km:aA->aA->Option aA
 |.int i,.int j=>aa (.bool (decide (i≤j)))
 |.str i,.str j=>aa (.bool (!(decide (j.cps.toList<i.cps.toList))))
 |_,_=>ab
def fq:aA->aA->Option aA:=iw fun i j=>.bool (decide (j<i))
def kl:aA->aA->Option aA:=iw fun i j=>.bool (decide (j≤i))
theorem Au:qo K 0 (fun x y H Q=>ud (fun i j=>.bl (decide (i<j))) x y H Q\/∃ i j,x=.str i/\y=.str j/\Q (.bl (decide (i.cps.toList<j.cps.toList))) H) jd:=fun P H x y a b d Q hP ra rb e k=>by
 unfold jd at e;split at e
 ·cases e;exact .inl ⟨_,_,Aax.mp ra,Aax.mp rb,k.zero Ext.refl (Aa2.mpr rfl)⟩
 ·cases e;exact .inr ⟨_,_,(Aa6.mp ra).1,(Aa6.mp rb).1,k.zero Ext.refl (Aa2.mpr rfl)⟩
 ·cases e
theorem tO:qo K 0 (ud fun i j=>.bl (decide (j<i))) fq:=As fun _ _ _=>Aa2.mpr rfl
def JF:aA->aA->Option aA
 |.none,.none=>aa (.bool af)
 |_,.none=>aa (.bool ae)
 |_,_=>ab
theorem Nt{a:aA}{x:V}(r:Ab3 K H a x):decide (x=.non)=(match a with|.none=>ae|_=>af):=by
 cases a with
 |none=>obtain rfl:=Acm.mp r;rfl
 |bool b=>obtain rfl:=Aa2.mp r;rfl
 |int b=>obtain rfl:=Aax.mp r;rfl
 |str b=>obtain⟨rfl,_⟩:=Aa6.mp r;rfl
 |list b=>obtain⟨_,_,rfl,_⟩:=Abh.mp r;rfl
 |tuple b=>obtain⟨_,_,rfl,_⟩:=Aa3.mp r;rfl
 |dict b=>obtain⟨_,rfl,_⟩:=Ads.mp r;rfl
theorem Vq:qo K 0 (fun x y H Q=>y=.non/\Q (.bl (!decide (x=.non))) H) JF:=fun P H x y a b d Q hP ra rb e k=>by
 have q:=Nt ra;unfold JF at e;split at e
 ·cases e;exact⟨Acm.mp rb,k.zero Ext.refl (Aa2.mpr (by rw[q];rfl))⟩
 ·rename_i h;cases e;refine⟨Acm.mp rb,k.zero Ext.refl (Aa2.mpr ?_)⟩;rw[q];cases a<;>first|rfl|exact(h rfl).elim
 ·cases e
def dJ:aA->Option aO
 |.int i=>aa (.inl i)
 |.str x=>aa (.inr x)
 |_=>ab
theorem MC(h:dJ d=aa k):d=kD k:=by
 cases d<;>simp[dJ] at h<;>subst h<;>rfl
def dW (kds:List (aA×aA))(k:aO):Option aA:=(kds.find? fun kd=>decide (dJ kd.1=aa k)).map (·.2)
theorem Ah3 (k:aO):dJ (kD k)=aa k:=by cases k<;>rfl
theorem AC:∀ {kds:List (aA×aA)} {kvs:List (aO×V)},Ack K H kds kvs->(dW kds k=ab/\jI kvs k=ab)\/∃ d v,dW kds k=aa d/\jI kvs k=aa v/\Ab3 K H d v
 |[],kvs,h=>by rw[Acn.mp h];exact .inl ⟨rfl,rfl⟩
 |(k0,d)::r,kvs,h=>by
  obtain⟨k',x,rr,rfl,rfl,h1,h2⟩:=Abr.mp h;by_cases e:k'=k
  ·refine .inr ⟨d,x,?_,zX e,h1⟩;simp[dW,kC,Ah3,e]
  ·have e1:dW ((kD k',d)::r) k=dW r k:=by simp[dW,kC,Ah3,e]
   rw[e1,zW e];exact AC h2
theorem ZI:∀ {kds:List (aA×aA)} {kvs:List (List aA×V)},Acv K H kds kvs->dW kds k=ab
 |[],kvs,h=>rfl
 |(k0,d)::r,kvs,h=>by
  obtain⟨k',x,rr,rfl,⟨rfl,_⟩,h1,h2⟩:=Ab4.mp h;have e1:dW ((.tuple k',d)::r) k=dW r k:=by simp[dW,kC,dJ]
  rw[e1];exact ZI h2
theorem Xy(h:Ab3 K H (.dict kds) v)(e:dW kds k=aa d):∃ a,∃ kvs:Nat×List (aO×V),v=.ref a/\H a=aa (.dK kvs.1 kvs.2)/\Ack K H kds kvs.2:=by
 obtain⟨a,ev,⟨kvs,h1,r⟩|⟨ts,h1,r⟩|⟨xs,h1,r⟩⟩:=Ads.mp h
 case inr.inr=>
  obtain⟨es,rfl,_⟩:=LK r;cases e
 ·exact⟨a,kvs,ev,h1,r⟩
 ·cases kds with
  |nil=>simp[Ayb] at r
  |cons p q=>
   obtain⟨k0,m⟩:=p;obtain⟨rfl,r2⟩:=Afy.mp r;have e1:dW ((.none,m)::q) k=dW q k:=by simp[dW,kC,dJ]
   rw[e1,ZI r2] at e;cases e
def nM (kds:List (aA×aA))(k:List aA):Option aA:=(kds.find? fun kd=>cK kd.1 (.tuple k)).map (·.2)
theorem SH (a b:List aA):cK (.tuple a) (.tuple b)=rD a b:=by simp[cK]
theorem YM {a k:List aA}{r:List (aA×aA)}(ha:cC a=ae)(hk:cC k=ae):nM ((.tuple a,d)::r) k=if a=k then aa d else nM r k:=by
 have e:cK (.tuple a) (.tuple k)=decide (a=k):=by rw[SH,FM _ _ ha hk]
 unfold nM;rw[kC,e];by_cases h:a=k
 ·rw[if_pos h,decide_eq_true h];rfl
 ·rw[if_neg h,decide_eq_false h]
theorem LH{k:List aA}(hk:cC k=ae):∀ {kds:List (aA×aA)} {kvs:List (List aA×V)},Acv K H kds kvs->(nM kds k=ab/\jI kvs k=ab)\/∃ d v,nM kds k=aa d/\jI kvs k=aa v/\Ab3 K H d v
 |[],kvs,h=>by rw[Adf.mp h];exact .inl ⟨rfl,rfl⟩
 |(k0,d)::r,kvs,h=>by
  obtain⟨k',x,rr,rfl,⟨rfl,ft⟩,h1,h2⟩:=Ab4.mp h;rw[YM ft hk];by_cases e:k'=k
  ·rw[if_pos e];exact .inr ⟨d,x,rfl,zX e,h1⟩
  ·rw[if_neg e,zW e];exact LH hk h2
def putD (kds:List (aA×aA))(k:aO)(d:aA):List (aA×aA):=
 if (kds.any fun kd=>decide (dJ kd.1=aa k))=ae then kds.map fun kd=>if dJ kd.1=aa k then(kd.1,d) else kd else kds++[(kD k,d)]
theorem RM:∀ {kds:List (aA×aA)} {kvs:List (aO×V)},Ack K H kds kvs->(kds.any fun kd=>decide (dJ kd.1=aa k))=kvs.any fun kv=>decide (kv.1=k)
 |[],kvs,h=>by rw[Acn.mp h];rfl
 |(k0,d)::r,kvs,h=>by
  obtain⟨k',x,rr,rfl,rfl,h1,h2⟩:=Abr.mp h;rw[CV,CV,RM h2,Ah3];simp
theorem KP(rv:Ab3 K H d v):∀ {kds:List (aA×aA)} {kvs:List (aO×V)},Ack K H kds kvs ->
  Ack K H (kds.map fun kd=>if dJ kd.1=aa k then(kd.1,d) else kd) (kvs.map fun kv=>if kv.1=k then(kv.1,v) else kv)
 |[],kvs,h=>by rw[Acn.mp h];exact Acn.mpr rfl
 |(k0,d0)::r,kvs,h=>by
  obtain⟨k',x,rr,rfl,rfl,h1,h2⟩:=Abr.mp h;rw[dQ,dQ];by_cases e:k'=k
  ·rw[if_pos (show dJ (kD k',d0).1=aa k by rw[Ah3,e]),if_pos (show(k',x).1=k from e)]
   exact Abr.mpr ⟨k',v,_,rfl,rfl,rv,KP rv h2⟩
  ·rw[if_neg (show ¬ dJ (kD k',d0).1=aa k by rw[Ah3];simpa using e),if_neg (show ¬ (k',x).1=k from e)]
   exact Abr.mpr ⟨k',x,_,rfl,rfl,h1,KP rv h2⟩
theorem Ack.snoc(rv:Ab3 K H d v):∀ {kds:List (aA×aA)} {kvs:List (aO×V)},Ack K H kds kvs->Ack K H (kds++[(kD k,d)]) (kvs++[(k,v)])
 |[],kvs,h=>by rw[Acn.mp h];exact Abr.mpr ⟨k,v,[],rfl,rfl,rv,Acn.mpr rfl⟩
 |(k0,d0)::r,kvs,h=>by
  obtain⟨k',x,rr,rfl,rfl,h1,h2⟩:=Abr.mp h;exact Abr.mpr ⟨k',x,_,rfl,rfl,h1,Ack.snoc rv h2⟩
theorem KD{kvs:List (aO×V)}(h:Ack K H kds kvs)(rv:Ab3 K H d v):Ack K H (putD kds k d) (putK kvs k v):=by
 unfold putD putK;rw[RM h];by_cases q:(kvs.any fun kv=>decide (kv.1=k))=ae
 ·rw[if_pos q,if_pos q];exact KP rv h
 ·rw[if_neg q,if_neg q];exact Ack.snoc rv h
theorem Ack.length:∀ {kds:List (aA×aA)} {kvs:List (aO×V)},Ack K H kds kvs->kvs.length=kds.length
 |[],kvs,h=>by rw[Acn.mp h];rfl
 |(k0,d0)::r,kvs,h=>by
  obtain⟨k',x,rr,rfl,rfl,h1,h2⟩:=Abr.mp h;rw[hW,hW,Ack.length h2]
theorem rX{x:V}(h:dJ d=aa k)(r:Ab3 K H d x):x=kV k:=by
 rw[MC h] at r;exact Qz r
def bf:aA->aA->Option aA
 |.list ds,.int i=>jg ds i
 |.tuple ds,.int i=>jg ds i
 |.str z,.int i=>if z.length≤sizeLine then(jg z.cps.toList i).bind fun c=>aa (.str ⟨#[c]⟩) else ab
 |.dict kds,d=>(dJ d).bind fun k=>dW kds k
 |_,_=>ab
theorem Cc{i:Int}(r:Aaw K H ds xs)(h:jg ds i=aa d):∃ v,jg xs i=aa v/\Ab3 K H d v:=by
 unfold jg at h ⊢;rw[r.length];obtain⟨j,h1,h2⟩:=ao h;obtain⟨v,h3,h4⟩:=r.get h2;exact⟨v,by rw[h1];exact h3,h4⟩
theorem Lk {α:Type}{xs:List α}{i:Int}{x:α}(h:jg xs i=aa x):∃ j:Nat,xs[j]?=aa x:=by
 unfold jg at h;obtain⟨j,h1,h2⟩:=ao h;exact⟨j,h2⟩
section
variable {a:bF}{fa fb f:EF}
theorem eB (hu:X.A.units+40<cLine)(ha:DE X a fa)(hb:DE X b fb)(hs:Bt b):DE X (.Subscript a b pos) (ah bf fa fb):=PE.imp (PE.or (Gf Jt ha hb hs) (Uw hu ha hb hs)) fun σ H Q h=>by
 obtain⟨P,ρ,d,hP,rs,ef,k⟩:=h;obtain⟨d1,e1,cz⟩:=ao ef;obtain⟨d2,e2,de⟩:=ao cz;clear ef cz;have seq:(∀ (H2:Hp) (v u:V),Ext H H2->Ab3 X.K (hid H2 P) d1 v->Ab3 X.K (hid H2 P) d2 u->U2 X.K v u H2 Q)->yk (U2 X.K) (tF X.K 0 fa) (tF X.K 0 fb) σ H Q:=fun z=>
  ⟨P,ρ,d1,hP,rs,e1,gJ fun v H1 x1 r1=>⟨P,ρ,d2,hP.ext x1,rs.ext (fD x1),e2,gJ fun u H2 x2 r2=>z H2 v u (x1.trans x2) (r1.ext (fD x2)) r2⟩⟩
 cases d1 with
 |list ds=>
  cases d2 with
  |int i=>
   refine .inl (seq fun H2 v u x r1 r2=>.inl ?_)
   obtain⟨q,xs,rfl,hq,rr⟩:=Abh.mp r1;obtain⟨w,h1,h2⟩:=Cc rr (show jg ds i=aa d from de)
   exact⟨q,xs,i,w,rfl,Aax.mp r2,Aa0.sqL hq,h1,k.zero x h2⟩
  |_=>cases de
 |tuple ds=>
  cases d2 with
  |int i=>
   refine .inl (seq fun H2 v u x r1 r2=>.inr (.inl ?_))
   obtain⟨q,xs,rfl,hq,rr⟩:=Aa3.mp r1;obtain⟨w,h1,h2⟩:=Cc rr (show jg ds i=aa d from de)
   exact⟨q,xs,i,w,rfl,Aax.mp r2,SqT.of (Aa0 _ _ hq),h1,k.zero x h2⟩
  |_=>cases de
 |str z=>
  cases d2 with
  |int i=>
   have de:(if z.length≤sizeLine then(jg z.cps.toList i).bind fun c=>aa (.str ⟨#[c]⟩) else ab)=aa d:=de
   by_cases hz:z.length≤sizeLine
   ·rw[if_pos hz] at de;obtain⟨c,h1,h2⟩:=ao de;cases h2;obtain⟨j,hj⟩:=Lk h1;refine .inl (seq fun H2 v u x r1 r2=>.inr (.inr ⟨z,i,c,(Aa6.mp r1).1,Aax.mp r2,hz,h1,k.zero x (Aa6.mpr ⟨rfl,SY (Aa6.mp r1).2 hj⟩)⟩))
   ·rw[if_neg hz] at de;cases de
  |_=>cases de
 |dict kds=>
  obtain⟨kk,h1,h2⟩:=ao (show((dJ d2).bind fun k=>dW kds k)=aa d by cases d2<;>exact de)
  refine .inr ⟨P,ρ,_,hP,rs,e1,gJ fun v H1 x1 r1=>⟨P,ρ,d2,hP.ext x1,rs.ext (fD x1),e2,gJ fun u H2 x2 r2=>?_⟩⟩
  obtain⟨q,kvs,rfl,hq,rr⟩:=Xy (r1.ext (fD x2)) h2;rcases AC (k:=kk) rr with⟨n1,_⟩|⟨d',v',s1,s2,rd⟩
  ·rw[h2] at n1;cases n1
  ·rw[h2] at s1;cases s1;refine⟨q,v',rfl,.inl ⟨kvs.1,kvs.2,kk,.inl (Aa0 _ _ hq),rX h1 r2,s2.symm⟩,k.zero (x1.trans x2) rd⟩
 |_=>cases d2<;>cases de
def QS (neg:Bool):aA->List (aA×aA)->Option aA
 |.tuple _,(_,.list _)::_=>ab
 |.tuple k,(_,_)::kds=>if (cC k&&decide (cL k≤6))=ae then aa (.bool (neg != (nM kds k).isSome)) else ab
 |_,_=>ab
def n8 (neg:Bool):aA->aA->Option aA
 |d,.list ds=>if (cZ d&&noDicts ds)=ae then aa (.bool (neg != ds.any fun z=>cK z d)) else ab
 |d,.tuple ds=>if (cZ d&&noDicts ds)=ae then aa (.bool (neg != ds.any fun z=>cK z d)) else ab
 |.str i,.str j=>aa (.bool (neg != !(QA j i 0 j.length 1).isEmpty))
 |d,.dict kds=>if j8 kds=ae then(dJ d).bind fun k=>aa (.bool (neg != (dW kds k).isSome)) else QS neg d kds
 |_,_=>ab
def JL (K:aM)(neg:Bool):R2:=fun x y H Q=>IR K neg x y H Q\/(∃ i j,x=.str i/\y=.str j/\Q (.bl (neg != !(QA j i 0 j.length 1).isEmpty)) H)\/∃ a o,y=.ref a/\A3s H a x o/\Q (.bl (neg != o.isSome)) H
theorem Xo (hu:X.A.units+100<cLine):OpR X (kQ .In) (JL X.K af):=by
 rw[3];rcases h with h|⟨i,j,ex,ey,q⟩|⟨a,o,rfl,g,q⟩
 ·exact Il hu ad s σ H x y v u Q I rx ry h
 ·exact Of ad s σ H x y v u Q I rx ry ⟨i,j,ex,ey,by simpa using q⟩
 ·cases ry;exact Er (by omega) I g rx fun s' I'=>⟨.bl _,H,I',rfl,by simpa using q⟩
theorem AK (hu:X.A.units+100<cLine):OpR X (kQ .NotIn) (JL X.K ae):=by
 rw[3];rcases h with h|⟨i,j,ex,ey,q⟩|⟨a,o,rfl,g,q⟩
 ·exact Ym hu ad s σ H x y v u Q I rx ry h
 ·exact Sf ad s σ H x y v u Q I rx ry ⟨i,j,ex,ey,by simpa using q⟩
 ·cases ry;exact Mh (by omega) I g rx fun s' I'=>⟨.bl _,H,I',rfl,by simpa using q⟩
theorem vZ{neg:Bool}:qo K 0 (JL K neg) (n8 neg):=fun P H x y a b d Q hP ra rb e k=>by
 unfold n8 at e;split at e
 ·obtain⟨hc,rfl⟩:=eQ e;have j3:=oK.mp hc;exact .inl ⟨a,_,ra.ext Aa0,.inl (rb.ext Aa0),j3.1,j3.2,k.zero Ext.refl (Aa2.mpr rfl)⟩
 ·obtain⟨hc,rfl⟩:=eQ e;have j3:=oK.mp hc;exact .inl ⟨a,_,ra.ext Aa0,.inr (rb.ext Aa0),j3.1,j3.2,k.zero Ext.refl (Aa2.mpr rfl)⟩
 ·cases e;exact .inr (.inl ⟨_,_,(Aa6.mp ra).1,(Aa6.mp rb).1,k.zero Ext.refl (Aa2.mpr rfl)⟩)
 ·rename_i kds;by_cases pk:j8 kds=ae
  case neg=>
   rw[if_neg pk] at e;have ek:∃ m r,kds=(.none,m)::r:=by
    cases kds with
    |nil=>simp[j8] at pk
    |cons p r=>
     obtain⟨k0,m⟩:=p;cases k0<;>simp[j8] at pk;exact⟨m,r,rfl⟩
   obtain⟨m,r,rfl⟩:=ek;cases a with
   |tuple kk=>
    have hm:∀ es,m ≠ .list es:=by
     rintro es rfl;cases e
    replace e:(if (cC kk&&decide (cL kk≤6))=ae then aa (uV (neg != (nM r kk).isSome)) else ab)=aa d:=by
     cases m with
     |list es=>exact absurd rfl (hm es)
     |_=>exact e
    obtain⟨hc,rfl⟩:=eQ e;have j3:cC kk=ae/\cL kk≤6:=by simpa using hc
    obtain⟨q,ts,rfl,hq,rr⟩:=(AE hm).mp rb;obtain⟨b,xs,rfl,hb,rx⟩:=Aa3.mp (ra.ext Aa0);refine .inr (.inr ⟨q,jI ts kk,rfl,.inr ⟨ts,kk,b,.inl (Aa0 _ _ hq),rfl,⟨j3.1,j3.2,xs,hb,Aaw.keys kk j3.1 rx⟩,rfl⟩,k.zero Ext.refl (Aa2.mpr ?_)⟩);rcases LH j3.1 rr with⟨n1,n2⟩|⟨d',v',s1,s2,rd⟩
    ·rw[n1,n2];rfl
    ·rw[s1,s2];rfl
   |_=>simp[QS] at e
  rw[if_pos pk] at e;obtain⟨kk,h1,h2⟩:=ao e;cases h2;obtain⟨q,kvs,rfl,hq,rr⟩:=(zS pk).mp rb;refine .inr (.inr ⟨q,jI kvs.2 kk,rfl,.inl ⟨kvs.1,kvs.2,kk,.inl (Aa0 _ _ hq),rX h1 ra,rfl⟩,k.zero Ext.refl (Aa2.mpr ?_)⟩);rcases AC (k:=kk) rr with⟨n1,n2⟩|⟨d',v',s1,s2,rd⟩
  ·rw[n1,n2];rfl
  ·rw[s1,s2];rfl
 ·cases e
end
def cN:List aA->Option aA
 |[.list ds]=>aa (.int ds.length)
 |[.tuple ds]=>aa (.int ds.length)
 |[.dict kds]=>if j8 kds=ae then aa (.int kds.length) else ab
 |[.str z]=>if z.length≤sizeLine then aa (.int z.length) else ab
 |_=>ab
theorem kZ(r:Aaw K H [d] xs):∃ v,xs=[v]/\Ab3 K H d v:=by
 obtain⟨v,t,rfl,h1,h2⟩:=Aan.mp r;obtain rfl:=Aav.mp h2;exact⟨v,rfl,h1⟩
section
def QH (K:aM):List V->Hp->VK->Prop:=fun xs H Q=>(∃ p ys,xs=[.ref p]/\(SqL K H p ys\/SqT K H p ys)/\Q (.int ys.length) H)\/(∃ z,xs=[.str z]/\z.length≤sizeLine/\Q (.int z.length) H)\/∃ a ep kvs,xs=[V.ref a]/\H a=aa (.dK ep kvs)/\Q (.int kvs.length) H
theorem kG:Afq X (.builtin "len") (QH X.K):=Aqt.or (Ars.or Yj)
theorem kF:CallD K 0 (QH K) cN:=fun P H xs ds d Q hP r e k=>by
 unfold cN at e;split at e
 ·cases e;obtain⟨v,rfl,r'⟩:=kZ r;replace r:=r';obtain⟨q,ys,rfl,hq,rr⟩:=Abh.mp r;exact .inl ⟨q,ys,rfl,.inl (Aa0.sqL hq),k.zero Ext.refl (Aax.mpr (by rw[rr.length]))⟩
 ·cases e;obtain⟨v,rfl,r'⟩:=kZ r;replace r:=r';obtain⟨q,ys,rfl,hq,rr⟩:=Aa3.mp r;exact .inl ⟨q,ys,rfl,.inr (SqT.of (Aa0 _ _ hq)),k.zero Ext.refl (Aax.mpr (by rw[rr.length]))⟩
 ·obtain⟨pk,rfl⟩:=eQ e;obtain⟨v,rfl,r'⟩:=kZ r;replace r:=r';obtain⟨q,ys,rfl,hq,rr⟩:=(zS pk).mp r;exact .inr (.inr ⟨q,ys.1,ys.2,rfl,Aa0 _ _ hq,k.zero Ext.refl (Aax.mpr (by rw[rr.length]))⟩)
 ·obtain⟨hz,rfl⟩:=eQ e;obtain⟨v,rfl,r'⟩:=kZ r;replace r:=r';exact .inr (.inl ⟨_,by rw[(Aa6.mp r).1],hz,k.zero Ext.refl (Aax.mpr rfl)⟩)
 ·cases e
def fO:aA->String
 |.none=>"NoneType"
 |.bool _=>"bool"
 |.int _=>"int"
 |.str _=>"str"
 |.list _=>"list"
 |.tuple _=>"tuple"
 |.dict _=>"dict"
def UP:List String:=["int","bool","str","list","tuple","dict"]
theorem Yu (d:aA):fO d∈kinds:=by cases d<;>simp[fO,kinds]
theorem Oe:Afq X (.builtin "isinstance") (fun xs H Q=>∃ x T d,xs=[x,.ty T]/\Ab3 X.K H d x/\T∈UP/\Q (.bl (jb (fO d) T)) H):=by
 rw[5];obtain⟨x,T,d,rfl,rd,hT,q⟩:=h;have ek:=Nc (Yu d) hT;have by_ty:TyOf X.K H x (.type (fO d))->aJ (aP X.prog X.w) X.A (call (.builtin "isinstance") us) (EP X ad σ Q) X.xe s:=fun ty=>
  Rf ad s σ H _ us Q I r ⟨x,T,_,jb (fO d) T,rfl,ty,Amt.trans ek,q⟩
 cases d with
 |none=>obtain rfl:=Acm.mp rd;exact by_ty .non
 |bool b=>obtain rfl:=Aa2.mp rd;exact by_ty (.bl _)
 |int b=>obtain rfl:=Aax.mp rd;exact by_ty (.int _)
 |str b=>obtain⟨rfl,_⟩:=Aa6.mp rd;exact by_ty (.str _)
 |list b=>
  obtain⟨a,ys,rfl,h,_⟩:=Abh.mp rd;obtain⟨u,w',rfl,ru,mo⟩:=vals2 r;cases mo;cases ru;obtain⟨its,_,⟨o,n,e1,hc,_,_⟩,_⟩:=I.list h;exact oD Ct I.kIn ⟨o,e1,hc⟩ (Amt.trans ek) (fun z=>nomatch z) fun tk=>⟨.bl _,H,I.tok tk,rfl,q⟩
 |tuple b=>obtain⟨_,_,rfl,h,_⟩:=Aa3.mp rd;exact by_ty (.tup h)
 |dict b=>
  obtain⟨_,rfl,⟨_,h,_⟩|⟨_,h,_⟩|⟨_,h,_⟩⟩:=Ads.mp rd
  ·exact by_ty (.dK h)
  ·exact by_ty (.dT h)
  ·obtain⟨u,w',rfl,ru,mo⟩:=vals2 r;cases mo;cases ru;obtain⟨⟨_,o,_,_,e1,hc,_⟩,_⟩:=I.hok _ _ h;exact oD Cu I.kIn ⟨o,e1,hc.1⟩ (Amt.trans ek) (fun z=>nomatch z) fun tk=>⟨.bl _,H,I.tok tk,rfl,q⟩
def eJ (T:String):aA->Option aA:=fun d=>aa (.bool (jb (fO d) T))
variable {a:bF}{f:EF}{fa:AF}{p2 bq aw:cV}
theorem ED(y8:Gl X "isinstance")(hm:X.mg "isinstance" = ab)(hg:Gl X x)(hmx:X.mg x=ab)(hv:qE x=aa (.type T))(hT:T∈UP)(he:DE X e f)
  (hn:x ≠ "__name__":=by decide) (hd:(x==("__debug__" : aE))=af:=by decide) (rm:bY (e::[.Name x p2]) X.env=(af,cD e X.env)::bY [.Name x p2] X.env:=by rfl)
  (lv:bY (.Name x p2::[]) X.env=(af,cD (.Name x p2) X.env)::bY [] X.env:=by rfl) (ir:(iI pos (bY [.Name x p2] X.env)).any (·.1)=af:=by rfl):DE X (.Call (.Name "isinstance" p) [e,.Name x p2] [] pos) (gc (eJ T) f):=
 PE.imp (LA Oe y8 hm boot_isinstance (oW he (oW (Fz hg hmx hv hn hd) qP lv) rm) (by decide) (by decide) rm ir) fun σ H Q gh=>by
  rw[4];obtain⟨d1,e1,ef⟩:=ao ef;cases ef;exact⟨P,ρ,d1,hP,rs,e1,gJ fun v H1 x1 r1=>⟨v,T,d1,rfl,r1.ext Aa0,hT,k.zero x1 (Aa2.mpr rfl)⟩⟩
def fH:List aA->Option aA
 |[.list ds]=>aa (.tuple ds)
 |[.tuple ds]=>aa (.tuple ds)
 |_=>ab
theorem sF:CallD K 0 (fun xs H Q=>∃ p ys,xs=[.ref p]/\((SqL K H p ys/\∀ l,H l=ab->Q (.ref l) (ar H l (.tup ys)))\/(SqT K H p ys/\Q (.ref p) H))) fH:=fun P H xs ds d Q hP r e k=>by
 unfold fH at e;split at e
 ·cases e;obtain⟨v,rfl,r'⟩:=kZ r;replace r:=r';obtain⟨q,ys,rfl,hq,rr⟩:=Abh.mp r;exact⟨q,ys,rfl,.inl ⟨Aa0.sqL hq,fun l hl=>k.tup hP hl rr⟩⟩
 ·cases e;obtain⟨v,rfl,r'⟩:=kZ r;replace r:=r';obtain⟨q,ys,rfl,hq,rr⟩:=Aa3.mp r;exact⟨q,ys,rfl,.inr ⟨SqT.of (Aa0 _ _ hq),k.zero Ext.refl r⟩⟩
 ·cases e
def iP:List aA->Option aA
 |[.list ds]=>aa (.list ds)
 |[.tuple ds]=>aa (.list ds)
 |[.str z]=>if z.length≤sizeLine then aa (.list (z.cps.toList.map fun c=>.str ⟨#[c]⟩)) else ab
 |_=>ab
def fW:List aA->Option aA
 |[.int i]=>aa (.int i)
 |[.bool b]=>aa (.int (if b then 1 else 0))
 |_=>ab
theorem VW:CallD K 0 (fun xs H Q=>(∃ i,xs=[.int i]/\Q (.int i) H)\/∃ k,xs=[.bl k]/\Q (.int (if k then 1 else 0)) H) fW:=fun P H xs ds d Q hP r e k=>by
 unfold fW at e;split at e
 ·cases e;obtain⟨v,rfl,r'⟩:=kZ r;replace r:=r';exact .inl ⟨_,by rw[Aax.mp r],k.zero Ext.refl (Aax.mpr rfl)⟩
 ·cases e;obtain⟨v,rfl,r'⟩:=kZ r;replace r:=r';exact .inr ⟨_,by rw[Aa2.mp r],k.zero Ext.refl (Aax.mpr rfl)⟩
 ·cases e
def cutD (ds:List aA)(lo hi:Option Int):List aA:=(ds.drop (HT.sIx ds.length 0 lo)).take (HT.sIx ds.length ds.length hi-HT.sIx ds.length 0 lo)
abbrev OF:=List (Option aA)->Option (Option Int)
def tOF (K:aM)(f:OF):TO:=fun σ H Q=>∃ P ρ o,Hid P H/\Am5 K (hid H P) ρ σ/\f ρ=aa o/\∀ H',Ext H H'->Q o H'
abbrev DO (X:Cx)(e:Option bF)(f:OF):Prop:=PO X e (tOF X.K f)
def oN:OF:=fun _=>aa ab
def oS (f:EF):OF:=fun ρ=>(f ρ).bind fun d=>match d with
 |.int i=>aa (aa i)
 |_=>ab
theorem PO.imp {o:Option bF}{t t':TO}(h:PO X o t)(w:∀ σ H Q,t' σ H Q->t σ H Q):PO X o t':=fun ad s σ H Q I q=>h ad s σ H Q I (w _ _ _ q)
theorem zJ:DO X ab oN:=PO.imp Me fun σ H Q gh=>by
 obtain⟨P,ρ,o,hP,rs,ef,k⟩:=gh;cases ef;exact k H Ext.refl
theorem zH (h:DE X e f):DO X (aa e) (oS f):=PO.imp (Ma h) fun σ H Q gh=>by
 obtain⟨P,ρ,o,hP,rs,ef,k⟩:=gh;obtain⟨d,e1,ef⟩:=ao ef;refine⟨P,ρ,d,hP,rs,e1,gJ fun v H1 x1 r1=>?_⟩
 cases d with
 |int i=>cases ef;exact⟨i,Aax.mp r1,k H1 x1⟩
 |_=>cases ef
def kM (f:EF)(lo hi:OF):EF:=fun ρ=>(f ρ).bind fun d=>(lo ρ).bind fun l=>(hi ρ).bind fun h=>match d with
 |.list ds=>aa (.list (cutD ds l h))
 |_=>ab
theorem yW {lo hi:Option bF}{fl fh:OF}{pp:cV}(he:DE X e f)(hl:DO X lo fl)(hh:DO X hi fh):DF 1 X (.Subscript e (.Slice lo hi ab pp) pos) (kM f fl fh):=PE.imp (Ye Lq he hl hh) fun σ H Q gh=>by
 rw[4];obtain⟨d1,e1,cz⟩:=ao ef;obtain⟨l,e2,de⟩:=ao cz;obtain⟨h,e3,j4⟩:=ao de;clear ef cz de;cases d1 with
 |list ds=>
  cases j4;refine⟨P,ρ,_,hP,rs,e1,gJ fun v H1 x1 r1=>⟨P,ρ,l,hP.ext x1,rs.ext (fD x1),e2,fun H2 x2=>⟨P,ρ,h,hP.ext (x1.trans x2),rs.ext (fD (x1.trans x2)),e3,fun H3 x3=>?_⟩⟩⟩
  obtain⟨q,ys,rfl,hq,rr⟩:=Abh.mp (r1.ext (fD (x2.trans x3)));refine⟨q,ys,rfl,Aa0.sqL hq,fun p hp=>(k.mono ((x1.trans x2).trans x3)).lst (hP.ext ((x1.trans x2).trans x3)) hp ?_⟩
  unfold yP cutD;rw[rr.length];exact(rr.drop _).take _
 |_=>cases j4
def sG:List aA->Option (List aE)
 |[]=>aa []
 |.str x::r=>(sG r).bind fun xs=>aa (x::xs)
 |_::_=>ab
theorem TJ:∀ {ds:List aA} {xs:List V} {bs:List aE},sG ds=aa bs->Aaw K H ds xs->xs=bs.map V.str/\∀ b∈bs,dX (.str b)=ae
 |[],xs,bs,e,r=>by
  cases e;rw[Aav.mp r];exact⟨rfl,fun b m=>by simp at m⟩
 |.str b::ds,xs,bs,e,r=>by
  obtain⟨E5,e1,e2⟩:=ao (show((sG ds).bind fun bs=>aa (b::bs))=aa bs from e)
  cases e2;obtain⟨v,t,rfl,h1,h2⟩:=Aan.mp r;obtain⟨q1,q2⟩:=TJ e1 h2;rw[(Aa6.mp h1).1,q1];refine⟨rfl,fun c m=>?_⟩
  rcases dU.mp m with rfl|m
  ·exact(Aa6.mp h1).2
  ·exact q2 c m
 |.none::_,_,_,e,_=>by cases e
 |.int _::_,_,_,e,_=>by cases e
 |.bool _::_,_,_,e,_=>by cases e
 |.list _::_,_,_,e,_=>by cases e
 |.tuple _::_,_,_,e,_=>by cases e
 |.dict _::_,_,_,e,_=>by cases e
theorem UJ {ko:aE}(hs:dX (.str ko)=ae):∀ {ys:List aE},(∀ b∈ys,dX (.str b)=ae)->dX (.str (mX ko ys))=ae
 |[],_=>by
  have:mX ko []=Str.empty:=by simp[mX]
  rw[this]
  decide +kernel
 |[x],h=>by
  have:mX ko [x]=x:=by simp[mX]
  rw[this];exact h x bS
 |x::y::r,h=>by
  have e:mX ko (x::y::r)=x++ko++mX ko (y::r):=by
   rw[mX];intro z;cases z
  rw[e];exact MG (MG (h x bS) hs) (UJ hs fun b m=>h b (cG _ m))
def vY:aA->aA->Option aA
 |.str ko,.list ds=>(sG ds).bind fun ys=>if (ys.map (·.length)).sum+ys.length*ko.length≤16777216 then aa (.str (mX ko ys)) else ab
 |_,_=>ab
theorem SG {g:EF}(ho:DE X a f)(he:DE X e g)(gy:xS a "join" X.env (cD a X.env)=cD a X.env:=by rfl)
  (i4:((iI aw (bY (e::[]) X.env)).all (fun x=>!x.1)&&(xR aw (xP [] X.env)).all (fun x=>x.1.isSome)
   && decide ((e::[]).length+([]:List nD).length+(if ([]:List nD).isEmpty then 0 else 1)<30))=ae:=by rfl)
  (h9:(bq.endLine==aw.line)=ae:=by rfl) (hs:bY (e::[]) X.env=(af,cD e X.env)::bY [] X.env:=by rfl) (cv:(iI aw (bY [] X.env)).any (·.1)=af:=by rfl):DE X (.Call (.Attribute a "join" bq) [e] [] aw) (ah vY f g):=
 PE.imp (BG PySem.F.plainAttrs_str PySem.F.slot_str_join PySem.F.type_str_join Mc ho (oW he qP hs) gy i4 h9 hs cv) fun σ H Q gh=>by
  rw[4];obtain⟨d1,e1,cz⟩:=ao ef;obtain⟨d2,e2,de⟩:=ao cz;clear ef cz;cases d1 with
  |str ko=>
   cases d2 with
   |list ds=>
    obtain⟨ys,h1,h2⟩:=ao (show((sG ds).bind fun ys=>if (ys.map (·.length)).sum+ys.length*ko.length≤16777216 then aa (bR (mX ko ys)) else ab)=aa d from de)
    obtain⟨hz,rfl⟩:=eQ h2;refine⟨P,ρ,_,hP,rs,e1,gJ fun v H1 x1 r1=>⟨by rw[(Aa6.mp r1).1];rfl,P,ρ,_,hP.ext x1,rs.ext (fD x1),e2,gJ fun u H2 x2 r2=>?_⟩⟩
    obtain⟨q,zs,rfl,hq,rr⟩:=Abh.mp r2;obtain⟨rfl,hl⟩:=TJ h1 rr;exact⟨ko,q,ys,(Aa6.mp r1).1,rfl,Aa0.sqL hq,hz,k.zero (x1.trans x2) (Aa6.mpr ⟨rfl,UJ (Aa6.mp r1).2 hl⟩)⟩
   |_=>cases de
  |_=>cases d2<;>cases de
theorem Ml {α:Type}{c:Prop}[Decidable c]{x:Option α}{y:α}(h:(if c then x else ab)=aa y):c/\x=aa y:=by
 by_cases e:c
 ·rw[if_pos e] at h;exact⟨e,h⟩
 ·rw[if_neg e] at h;cases h
def iE:aA->aA->aA->Option aA
 |.dict kds,k,x=>if j8 kds=ae then(dJ k).bind fun k=>aa ((dW kds k).getD x) else ab
 |_,_,_=>ab
def fK (fd fk fx:EF):EF:=fun ρ=>(fd ρ).bind fun d=>(fk ρ).bind fun k=>(fx ρ).bind fun x=>iE d k x
theorem FA {o k z:bF}{fd fk fx:EF}(hu:X.A.units+40<cLine)(ho:DE X o fd)(hk:DE X k fk)(hz:DE X z fx)(m:M2 X o "get" bq k z aw:=by exact⟨rfl,rfl,rfl,rfl⟩):DE X (.Call (.Attribute o "get" bq) [k,z] [] aw) (fK fd fk fx):=
 PE.imp (Xp hu ho hk hz m) fun σ H Q gh=>by
  obtain⟨P,ρ,d,hP,rs,ef,kk⟩:=gh;obtain⟨d1,e1,cz⟩:=ao ef;obtain⟨d2,e2,de⟩:=ao cz;obtain⟨d3,e3,j4⟩:=ao de;clear ef cz de;cases d1 with
  |dict kds=>
   obtain⟨pk,tz⟩:=Ml (show(if j8 kds=ae then(dJ d2).bind fun k=>aa ((dW kds k).getD d3) else ab)=aa d from j4)
   obtain⟨key,h1,h2⟩:=ao tz;cases h2;refine⟨P,ρ,_,hP,rs,e1,gJ fun v H1 x1 r1=>?_⟩
   obtain⟨q,kvs,rfl,hq,rr⟩:=(zS pk).mp r1;refine⟨q,rfl,.inl ⟨kvs.1,kvs.2,.inl (Aa0 _ _ hq)⟩,P,ρ,d2,hP.ext x1,rs.ext (fD x1),e2,gJ fun u H2 x2 r2=>⟨P,ρ,d3,hP.ext (x1.trans x2),rs.ext (fD (x1.trans x2)),e3,gJ fun w H3 x3 r3=>?_⟩⟩
   refine⟨jI kvs.2 key,.inl ⟨kvs.1,kvs.2,key,.inl (x3 _ _ (x2 _ _ (Aa0 _ _ hq))),rX h1 r2,rfl⟩,kk.zero ((x1.trans x2).trans x3) ?_⟩;rcases AC (k:=key) (rr.ext (fD (x2.trans x3))) with⟨n1,n2⟩|⟨d',v',s1,s2,rd⟩
   ·rw[n1,n2];exact r3
   ·rw[s1,s2];exact rd
  |_=>cases j4
theorem Res.dic{ep:Nat}{kvs:List (aO×V)}{q:aD}(hP:Hid P H)(h:Res K P 1 (.dict kds) H Q)(n:H q=ab)(r:Ack K (hid H P) kds kvs):Q (.ref q) (ar H q (.dK ep kvs)):=by
 refine h (.ref q) _ [q] (Ext.new n) (mE.mpr ⟨by simp,.nil⟩) (fun a m=>?_) ⟨q,(ep,kvs),kvs.map fun _=>[],rfl,jR,?_,?_⟩
 ·have:a=q:=by simpa using m
  rw[10];exact⟨n,_,jR⟩
 ·have:∀ l:List (aO×V),(l.map fun _=>([]:List aD)).flatten=[]:=fun l=>by
   induction l with
   |nil=>rfl
   |cons a l ih=>rw[dQ,vC,ih];rfl
  rw[this]
 ·have xe:Ext (hid H P) (hid (ar H q (.dK ep kvs)) (ju P [q])):=fun b o e=>by
   obtain⟨nb,e⟩:=Afc.mp e;have hb:b≠q:=mR e n;exact kU (fun z=>z.elim nb fun m=>hb (by simpa using m)) (by rw[fR hb];exact e)
  generalize hid (ar H q (.dK ep kvs)) (ju P [q])=B at xe;generalize ar H q (.dK ep kvs)=H1;clear h;have go:∀ (ds:List (aA×aA)) (xs:List (aO×V)),Ack K (hid H P) ds xs->All3 (fun(kd:aA×aA) (kv:aO×V) f=>kd.1=kD kv.1/\Ai6 K B H1 0 kd.2 kv.2 f) ds xs (xs.map fun _=>[]):=by
   intro ds;induction ds with
   |nil=>intro xs r;rw[Acn.mp r];exact .nil
   |cons d ds ih=>
    intro xs r;obtain⟨k',y,t,rfl,ek,h1,h2⟩:=Abr.mp (show Ack K (hid H P) ((d.1,d.2)::ds) xs from r)
    exact .cons ⟨ek,rfl,h1.ext xe⟩ (ih t h2)
  exact go kds kvs r
theorem ER:DF 1 X (.Dict [] [] pos) (eC (.dict [])):=PE.imp Xb fun σ H Q gh=>by
 rw[4];cases ef;exact fun q hq=>k.dic hP hq (Acn.mpr rfl)
def JA:List aA->Option aA
 |[.dict kds]=>if j8 kds=ae then aa (.dict kds) else ab
 |_=>ab
theorem Qg:Afq X (.type "dict") (fun xs H Q=>∃ a ep kvs,xs=[.ref a]/\H a=aa (.dK ep kvs)/\∀ p n,H p=ab->Q (.ref p) (ar H p (.dK n kvs))):=by
 rw[5];obtain⟨a,ep,kvs,rfl,ha,q⟩:=h;obtain⟨u,rfl,ru⟩:=vals1 r;cases ru;exact Wq I (.inl ha) fun p n s' hp I'=>⟨.ref p,_,I',rfl,q p n hp⟩
theorem Pu:CallD K 1 (fun xs H Q=>∃ a ep kvs,xs=[.ref a]/\H a=aa (.dK ep kvs)/\∀ p n,H p=ab->Q (.ref p) (ar H p (.dK n kvs))) JA:=fun P H xs ds d Q hP r e k=>by
 unfold JA at e;split at e
 ·obtain⟨pk,rfl⟩:=eQ e;obtain⟨v,rfl,r'⟩:=kZ r;replace r:=r';obtain⟨q,ys,rfl,hq,rr⟩:=(zS pk).mp r;exact⟨q,ys.1,ys.2,rfl,Aa0 _ _ hq,fun l n hl=>k.dic hP hl rr⟩
 ·cases e
end
section
variable {ρ:bJ}
theorem WT:∀ {ds:List aA} {xs:List V} {Fs:List (List aD)},All3 (Agd K B H 0) ds xs Fs->Aaw K B ds xs/\Fs.flatten=[]:=by
 intro ds xs Fs h;induction h with
 |nil=>exact⟨Aav.mpr rfl,rfl⟩
 |cons h t ih=>
  obtain⟨rfl,r⟩:=h;exact⟨Aan.mpr ⟨_,_,rfl,r,ih.1⟩,by rw[vC,ih.2];rfl⟩
theorem Pe:∀ {ds:List (aA×aA)} {xs:List (aO×V)} {Fs:List (List aD)},All3 (fun(kd:aA×aA) (kv:aO×V) f=>kd.1=kD kv.1/\Agd K B H 0 kd.2 kv.2 f) ds xs Fs->Ack K B ds xs/\Fs.flatten=[]:=by
 intro ds xs Fs h;induction h with
 |nil=>exact⟨Acn.mpr rfl,rfl⟩
 |@cons p q F ds xs Fs h t ih=>
  obtain⟨k,d⟩:=p;obtain⟨k',v⟩:=q;obtain⟨ek,rfl,r⟩:=h;exact⟨Abr.mpr ⟨_,_,_,rfl,ek,r,ih.1⟩,by rw[vC,ih.2];rfl⟩
theorem XQ:∀ {ds:List aA} {xs:List V},Aaw K B ds xs->All3 (Agd K B H1 0) ds xs (xs.map fun _=>[])/\(xs.map fun _=>([]:List aD)).flatten=[]
 |[],xs,r=>by rw[Aav.mp r];exact⟨.nil,rfl⟩
 |d::ds,xs,r=>by
  obtain⟨y,t,rfl,h1,h2⟩:=Aan.mp r;obtain⟨q1,q2⟩:=XQ h2;exact⟨.cons ⟨rfl,h1⟩ q1,by rw[dQ,vC,q2];rfl⟩
theorem YO:∀ {ds:List (aA×aA)} {xs:List (aO×V)},Ack K B ds xs->All3 (fun(kd:aA×aA) (kv:aO×V) f=>kd.1=kD kv.1/\Agd K B H1 0 kd.2 kv.2 f) ds xs (xs.map fun _=>[])/\(xs.map fun _=>([]:List aD)).flatten=[]
 |[],xs,r=>by rw[Acn.mp r];exact⟨.nil,rfl⟩
 |(k,d)::ds,xs,r=>by
  obtain⟨k',y,t,rfl,ek,h1,h2⟩:=Abr.mp r;obtain⟨q1,q2⟩:=YO h2;exact⟨.cons ⟨ek,rfl,h1⟩ q1,by rw[dQ,vC,q2];rfl⟩
theorem Sta.write {p:aD}{d':aA}(S:Sta K H0 P0 B0 ρ σ H fp)(hi:i<ρ.length)(hv:σ[i]?=aa (aa (.ref p)))(hp:p∈fp i)(ho:(∃ xs,o=.lst xs)\/∃ q:DQ,o=dO q)
  (new:Ai6 K (L2.hid H (Hd P0 fp)) (ar H p o) 1 d' (.ref p) (fp i)):Sta K H0 P0 B0 (ρ.set i (aa (1,d'))) σ (ar H p o) fp:=by
 have hb:L2.hid (ar H p o) (Hd P0 fp)=L2.hid H (Hd P0 fp):=by
  funext b;unfold L2.hid;by_cases q:Hd P0 fp b
  ·rw[if_pos q,if_pos q]
  ·rw[if_neg q,if_neg q];exact fR fun z=>q (.inr ⟨i,by rw[z];exact hp⟩)
 refine⟨by simp[S.len],S.nd,S.dj,fun j a m=>⟨(S.own j a m).1,?_⟩,fun b u e=>?_,S.hd,by rw[hb];exact S.base,fun j n d e=>?_⟩
 ·by_cases q:a=p
  ·subst q;rcases ho with⟨xs,rfl⟩|⟨xs,rfl⟩
   ·exact .inl ⟨xs,jR⟩
   ·exact .inr ⟨xs,jR⟩
  ·rw[fR q];exact(S.own j a m).2
 ·rw[fR (mR e (S.own i p hp).1)];exact S.ext b u e
 ·by_cases q:j=i
  ·subst q;rw[rE hi] at e;cases e;exact⟨_,hv,by rw[hb];exact new⟩
  ·rw[pK (fun z=>q z.symm)] at e
   obtain⟨v,h1,h2⟩:=S.slot j n d e;refine⟨v,h1,?_⟩;rw[hb];exact h2.keep Ext.refl fun a m=>fR fun z=>q (S.dj j i a m (by rw[z];exact hp))
theorem Sta.lst1(S:Sta K H0 P0 B0 ρ σ H fp)(e:ρ[i]?=aa (aa (1,.list ds))):∃ p xs,σ[i]?=aa (aa (.ref p))/\H p=aa (.lst xs)/\Aaw K (L2.hid H (Hd P0 fp)) ds xs /\
  ∀ m4 mf,Aaw K (L2.hid H (Hd P0 fp)) m4 mf->Sta K H0 P0 B0 (ρ.set i (aa (1,.list m4))) σ (ar H p (.lst mf)) fp:=by
 obtain⟨v,h1,h2⟩:=S.slot i 1 _ e;obtain⟨p,xs,Fs,rfl,hp,hF,h3⟩:=h2;obtain⟨r,hn⟩:=WT h3;rw[hn] at hF;refine⟨p,xs,h1,hp,r,fun m4 mf r'=>S.write (dF.mp e).1 h1 (by rw[hF];exact bS) (.inl ⟨_,rfl⟩) ?_⟩
 obtain⟨q1,q2⟩:=XQ (H1:=ar H p (.lst mf)) r';exact⟨p,mf,_,rfl,jR,by rw[hF,q2],q1⟩
theorem Sta.dic1 {ds:List (aA×aA)}(S:Sta K H0 P0 B0 ρ σ H fp)(e:ρ[i]?=aa (aa (1,.dict ds))):∃ p ep xs,σ[i]?=aa (aa (.ref p))/\H p=aa (.dK ep xs)/\Ack K (L2.hid H (Hd P0 fp)) ds xs /\
  ∀ n m4 mf,Ack K (L2.hid H (Hd P0 fp)) m4 mf->Sta K H0 P0 B0 (ρ.set i (aa (1,.dict m4))) σ (ar H p (.dK n mf)) fp:=by
 obtain⟨v,h1,h2⟩:=S.slot i 1 _ e;obtain⟨p,xs,Fs,rfl,hp,hF,h3⟩:=h2;obtain⟨r,hn⟩:=Pe h3;rw[hn] at hF;refine⟨p,xs.1,xs.2,h1,hp,r,fun n m4 mf r'=>S.write (dF.mp e).1 h1 (by rw[hF];exact bS) (.inr ⟨.inl (n,mf),rfl⟩) ?_⟩
 obtain⟨q1,q2⟩:=YO (H1:=ar H p (.dK n mf)) r';exact⟨p,(n,mf),_,rfl,jR,by rw[hF,q2],q1⟩
end
def getL (i:Nat)(ρ:bJ):Option (List aA):=match ρ[i]? with
 |some (aa (1,.list ds))=>aa ds
 |_=>ab
def gC (i:Nat)(ρ:bJ):Option (List (aA×aA)):=match ρ[i]? with
 |some (aa (1,.dict ds))=>aa ds
 |_=>ab
theorem wM{ρ:bJ}(h:getL i ρ=aa ds):ρ[i]?=aa (aa (1,.list ds)):=by
 unfold getL at h;split at h
 ·rename_i e;cases h;exact e
 ·cases h
theorem FQ{ρ:bJ}{ds:List (aA×aA)}(h:gC i ρ=aa ds):ρ[i]?=aa (aa (1,.dict ds)):=by
 unfold gC at h;split at h
 ·rename_i e;cases h;exact e
 ·cases h
section
variable {k o:bF}{f g:EF}{bq aw:cV}
def eR (i:Nat)(m:Md)(f:EF):SF:=fun ρ=>(eV 0 m f ρ).bind fun d=>(getL i ρ).bind fun ds=>if ds.length<sizeLine then aa (.nx (ρ.set i (aa (1,.list (ds++[d]))))) else ab
theorem pB (i:Nat)(m:Md)(he:DE X e f)(hN:X.N[i]?=aa x:=by rfl)(hv:pP X.env.scope x:=by first|exact aZ rfl|exact bA (aZ rfl)|exact bA (bA rfl))(hd:(x==("__debug__" : aE))=af:=by decide)
  (jx:(x==("__classdict__" : aE))=af:=by decide) (gy:xS (.Name x px) "append" X.env (cD (.Name x px) X.env)=cD (.Name x px) X.env:=by rfl)
  (i4:((iI aw (bY (e::[]) X.env)).all (fun x=>!x.1)&&(xR aw (xP [] X.env)).all (fun x=>x.1.isSome)
   && decide ((e::[]).length+([]:List nD).length+(if ([]:List nD).isEmpty then 0 else 1)<30))=ae:=by rfl)
  (h9:(bq.endLine==aw.line)=ae:=by rfl) (hs:bY (e::[]) X.env=(af,cD e X.env)::bY [] X.env:=by rfl) (cv:(iI aw (bY [] X.env)).any (·.1)=af:=by rfl)
  (uj:pE (.Call (.Attribute (.Name x px) "append" bq) [e] [] aw) ab pos.line X.env=pure af:=by rfl):DS X H0 P0 n0 (.Expr (.Call (.Attribute (.Name x px) "append" bq) [e] [] aw) pos) (eR i m f):=
 PS.imp (JO (BG Dc PySem.F.slot_list_append PySem.F.type_list_append VV (rT hN hv hd jx) (oW (ev (H0:=H0) (P0:=P0) m he) qP hs) gy i4 h9 hs cv) uj) fun D σ H gh=>by
  obtain⟨B0,ρ,fp,o,S,ef,k⟩:=gh;obtain⟨d,e1,cz⟩:=ao ef;obtain⟨ds,e2,de⟩:=ao cz;obtain⟨hl,rfl⟩:=eQ de;obtain⟨p,xs,h1,h2,_,_⟩:=S.lst1 (wM e2);refine⟨.ref p,h1,.inl ⟨rfl,xs,SqL.of h2⟩,B0,ρ,fp,d,S,e1,fun v H2 gh=>?_⟩
  obtain⟨lu,S2,r2⟩:=gh;obtain⟨p2,E6,q1,q2,q3,q4⟩:=S2.lst1 (wM e2);have:p2=p:=by rw[h1] at q1;cases q1;rfl
  rw[10];exact⟨p2,E6,v,rfl,rfl,q2,by rw[q3.length];exact hl,k _ _ lu (q4 _ _ (q3.snoc r2.2))⟩
def iL (i:Nat):SF:=fun ρ=>(getL i ρ).bind fun ds=>aa (.nx (ρ.set i (aa (1,.list []))))
def fX (i:Nat)(m:Md)(f:EF)(mk:Md)(g:EF):SF:=fun ρ=>(eV 0 m f ρ).bind fun d=>(getL i ρ).bind fun ds=>(eV 0 mk g ρ).bind fun k=>match k with
 |.int j=>(l8 ds.length j).bind fun j=>aa (.nx (ρ.set i (aa (1,.list (ds.set j d)))))
 |_=>ab
theorem IY{m:Md}{ρ:bJ}(S:Sta K H0 P0 B0 ρ σ H fp)(e:eV 0 m g ρ=aa d)(hd:cT d=ae)(k:∀ v H',Ext H H'->Ab3 K (hid H' (Hd P0 fp)) d v->Q v H'):tF K 0 g σ H Q:=by
 cases m with
 |s=>exact⟨Hd P0 fp,vS ρ,d,S.hid,S.viewS,e,gJ k⟩
 |a=>
  obtain⟨d',ed,ef⟩:=ao e;obtain⟨fl,rfl⟩:=eQ ef;refine⟨P0,vA ρ,d',S.hd.ext S.ext,S.viewA,ed,gJ fun v H' x r=>k v H' x (r.flat (fun a xs e=>?_) _ hd)⟩
  obtain⟨na,e⟩:=Afc.mp e;refine kU (fun q=>?_) e
  rcases q with q|⟨j,q⟩
  ·exact na q
  ·rcases((S.grow x).own j a q).2 with⟨ys,e2⟩|⟨ys,e2⟩<;>rw[e] at e2<;>first|cases e2|(cases ys<;>simp[dO] at e2)
theorem KB (i:Nat)(m mk:Md)(he:DE X e f)(hk:DE X k g)(hN:X.N[i]?=aa x:=by rfl)(hv:pP X.env.scope x:=by first|exact aZ rfl|exact bA (aZ rfl)|exact bA (bA rfl))(hd:(x==("__debug__" : aE))=af:=by decide)
  (jx:(x==("__classdict__" : aE))=af:=by decide)
  (ha:∀ v,mC (.Subscript (.Name x px) k bq) X.env v=(do
   let ov ← pF [v] (cD (.Name x px) X.env)
   let iv ← pF [v,ov] (cD k X.env)
   standAt bq
   pF [v,ov,iv] (setItem ov iv v)
   release [v,ov,iv] []):=by intro _;rfl)
  (hs:swapsWithSole [.Subscript (.Name x px) k bq] e pos.line X.env=pure af:=by rfl) (hw:swappedStores [.Subscript (.Name x px) k bq] e X.env=pure ab:=by rfl)
  (h1:(mW [.Subscript (.Name x px) k bq] X.env).map (·.2)=[mC (.Subscript (.Name x px) k bq) X.env]:=by rfl):DS X H0 P0 n0 (.Assign [.Subscript (.Name x px) k bq] e pos) (fX i m f mk g):=
 PS.imp (Ai (ev (H0:=H0) (P0:=P0) m he) (Kh (rT hN hv hd jx) hk set_list ha) hs hw h1) fun D σ H gh=>by
  obtain⟨B0,ρ,fp,o,S,ef,kk⟩:=gh;obtain⟨d,e1,cz⟩:=ao ef;obtain⟨ds,e2,de⟩:=ao cz;obtain⟨kd,e3,j4⟩:=ao de;clear ef cz de;cases kd with
  |int j=>
   obtain⟨jn,e5,tz⟩:=ao (show((l8 ds.length j).bind fun j=>aa (Out.nx (ρ.set i (aa (1,.list (ds.set j d))))))=aa o from j4)
   cases tz;refine⟨B0,ρ,fp,d,S,e1,fun v H2 gh=>?_⟩
   obtain⟨lu,S2,r2⟩:=gh;obtain⟨p,xs,h1,h2,_,_⟩:=S2.lst1 (wM e2);refine⟨.ref p,h1,IY S2 e3 (by simp[cT]) fun u H3 x3 r3=>?_⟩
   have S3:=S2.grow x3;obtain⟨p3,zh,q1,q2,q3,q4⟩:=S3.lst1 (wM e2);have:p3=p:=by rw[h1] at q1;cases q1;rfl
   rw[10];exact⟨p3,zh,j,jn,rfl,Aax.mp r3,q2,by rw[q3.length];exact e5,kk _ _ lu (q4 _ _ (q3.set (r2.2.ext (fD x3)) jn))⟩
  |_=>cases j4
def fY (i:Nat)(m:Md)(f:EF)(mk:Md)(g:EF):SF:=fun ρ=>(eV 0 m f ρ).bind fun d=>(gC i ρ).bind fun kds=>(eV 0 mk g ρ).bind fun k=>(dJ k).bind fun k=>if kds.length<sizeLine then aa (.nx (ρ.set i (aa (1,.dict (putD kds k d))))) else ab
theorem EZ (i:Nat)(m mk:Md)(hu:X.A.units+40<cLine)(he:DE X e f)(hk:DE X k g)(hN:X.N[i]?=aa x:=by rfl)(hv:pP X.env.scope x:=by first|exact aZ rfl|exact bA (aZ rfl)|exact bA (bA rfl))(hd:(x==("__debug__" : aE))=af:=by decide)
  (jx:(x==("__classdict__" : aE))=af:=by decide) (hs:pE e (aa (.Subscript (.Name x px) k bq)) pos.line X.env=pure af:=by rfl):DS X H0 P0 n0 (.Assign [.Subscript (.Name x px) k bq] e pos) (fY i m f mk g):=
 PS.imp (Bq hu (rT hN hv hd jx) hk (ev (H0:=H0) (P0:=P0) m he) hs) fun D σ H gh=>by
  obtain⟨B0,ρ,fp,o,S,ef,kk⟩:=gh;obtain⟨d,e1,cz⟩:=ao ef;obtain⟨kds,e2,de⟩:=ao cz;obtain⟨kd,e3,j4⟩:=ao de;obtain⟨key,e4,tz⟩:=ao j4;obtain⟨hl,rfl⟩:=eQ tz;clear ef cz de j4;refine⟨B0,ρ,fp,d,S,e1,fun v H2 gh=>?_⟩
  obtain⟨lu,S2,r2⟩:=gh;obtain⟨p,ep,xs,h1,h2,_,_⟩:=S2.dic1 (FQ e2);have hf:cT kd=ae:=by rw[MC e4];cases key<;>simp[kD,cT]
  refine⟨.ref p,h1,IY S2 e3 hf fun u H3 x3 r3=>?_⟩
  have S3:=S2.grow x3;obtain⟨p3,K5,zh,q1,q2,q3,q4⟩:=S3.dic1 (FQ e2);have:p3=p:=by rw[h1] at q1;cases q1;rfl
  rw[10];refine⟨p3,_,rfl,.inl ⟨K5,zh,key,q2,rX e4 r3,by rw[q3.length];exact hl,rfl⟩,fun n=>kk _ _ lu (q4 n _ _ (KD q3 (r2.2.ext (fD x3))))⟩
end
section
variable {a:bF}{fa fb fc:EF}
def pD:aA->aA->Option aA
 |.list xs,.list ys=>if xs.length+ys.length≤sizeLine then aa (.list (xs++ys)) else ab
 |_,_=>ab
theorem Mi:OpR X (mV .Add) (fun x y H Q=>∃ l b xs zs,x=.ref l/\y=.ref b/\SqL X.K H l xs/\SqL X.K H b zs/\xs.length+zs.length≤sizeLine/\∀ p,H p=ab->Q (.ref p) (ar H p (.lst (xs++zs)))):=by
 rw[3];obtain⟨l,b,xs,zs,rfl,rfl,hH,hB,hz,q⟩:=h;cases rx;cases ry;obtain⟨its,r,p1,z1⟩:=I.list hH;obtain⟨gx,r2,p2,z2⟩:=I.list hB;have l1:=r.length;have l2:=r2.length;obtain⟨⟨cls,dd,data,sl⟩,ho,hc,n,hd⟩:=p1.isList;obtain⟨⟨J2,E1,data2,E2⟩,wg,vi,n2,wj⟩:=p2.isList;simp only at hc hd vi wj;subst hc hd vi wj;refine concat_meets ⟨_,ho,rfl⟩ ⟨_,wg,rfl⟩ noFill_list_add seq_list_add PySem.F.slot_list_add PySem.F.entry_list_add (PySem.F.args_list_add_2 _ _) (list_addW l b its.toArray gx.toArray n n2 dd E1 sl E2 (by simp only[gG];omega)) ⟨ho,wg,?_⟩
 have ea:its.toArray++gx.toArray=(its++gx).toArray:=by simp
 rw[ea];exact⟨.ref _,_,I.lnew (t':=s.toks) (r.append r2) (by rw[mF];omega),rfl,q _ I.fresh⟩
theorem EA (ha:DE X a fa)(hb:DE X b fb):DF 1 X (.BinOp a .Add b pos) (ah pD fa fb):=sY Mi (fun P H x y a b d Q hP ra rb e k=>by
 unfold pD at e;split at e
 ·obtain⟨hz,rfl⟩:=eQ e;obtain⟨p,xs,rfl,hp,r1⟩:=Abh.mp ra;obtain⟨q,ys,rfl,hq,r2⟩:=Abh.mp rb;exact⟨p,q,xs,ys,rfl,rfl,Aa0.sqL hp,Aa0.sqL hq,by rw[r1.length,r2.length];exact hz,fun l hl=>k.lst hP hl (r1.append r2)⟩
 ·cases e) ha hb
end
variable {a:bF}{f fa fb:EF}
def DJ:List aA->Option aA
 |[.int i,.int j]=>aa (.int (if j > i then j else i))
 |_=>ab
theorem On:CallD K 0 (fun xs H Q=>∃ i j,xs=[.int i,.int j]/\Q (.int (if j > i then j else i)) H) DJ:=fun P H xs ds d Q hP r e k=>by
 unfold DJ at e;split at e
 ·cases e;obtain⟨v,t,rfl,h1,h2⟩:=Aan.mp r;obtain⟨v',rfl,h3⟩:=kZ h2;rw[Aax.mp h1,Aax.mp h3];exact⟨_,_,rfl,k.zero Ext.refl (Aax.mpr rfl)⟩
 ·cases e
end L2
namespace L2
open PySem PySem.Spec PyProof.Rows
variable {h h' h0:aY}{d:aA}{es:Array (Int×aC)}{ep k n n0 j i mask per av m g ia ib na nb:Nat}{s:aH}{Q E:aC->aH->Prop}{e tg:bF}{R:Result->aH->Prop}{P prog:bP}{w:bG}{a l r z i1 i2:aD}{K:aM}{f:EF}{T:String}{vs:List aC}{H H0 B:Hp}{ks kss qs:List (List aA)}{v:V}{b b1 b2 ay:Bool}{ys:List V}{X:Cx}{P0:aD->Prop}{u x y:aC}{us:Array aC}{ds:List aA}{c:Prop}{xs arr out a₀:Array aW}{ta:TA}{fa:AF}{p:aW}{ow:Array (Option Nat)}{A:bZ}{o:bI}{ps:List Nat}{ad:List (aD×bI)}{st st0:bQ}{p2 pos bq:cV}{o1 o2:List aD}{S1 S2:Nat->aY->Prop}{kd:oC}
def Axc (h:aY)(d:aD)(es:Array rH)(ep:Nat):Prop:=∃ o,h.get? d=aa o/\o.ExactDict/\o.data=.dict es ep
theorem Axc.keep{d:aD}{es:Array rH}(x:Axc h d es ep)(k:∀ o,h.get? d=aa o->h'.get? d=aa o):Axc h' d es ep:=
 let ⟨o,e,r⟩:=x;⟨o,k o e,r⟩
theorem Axc.ty{d:aD}{es:Array rH}(x:Axc s.heap d es ep):s.TypeIs (.ref d) "dict":=let ⟨o,e,c,_⟩:=x;⟨o,e,c.1⟩
section
variable {d it:aD}{es:Array rH}
theorem Ws(nm:(d==kH)=af)(R:Axc s.heap d es ep)
  (q:Q (.ref s.heap.objs.size) { s with heap:=s.heap.push { cls:=.type "dict_keyiterator",data:=.fields #[.ref d,.int 0 0,.int es.size 0,.int ep 0] } }):aJ (aP prog w) A (oA (.ref d)) Q E s:=by
 have ty:=R.ty;obtain⟨o,eo,_,ed⟩:=R;refine BJ ty F.slot_dict_iter (iH F.slot_dict_iter ty F.entry_dict_iter
  ?_ (F.args_dict_iter_1 _))
 unfold Builtin.«dict.__iter__»;rw[9];unfold Builtin.Dict.dictSlotNone;refine aF (wpAny_notOrdered_dict ty ?_);show aJ _ _ (pure (fI d)) _ _ s;refine aQ ?_;show aJ _ _ (Builtin.Dict.showsAll d>>=_) _ _ s;unfold Builtin.Dict.showsAll;rw[if_neg (show ¬ (d==kH)=ae by rw[nm];exact oJ)]
 refine aF (aQ ?_);refine aF (NV eo ed ?_);refine aF (wpAny_dictEpoch eo ed ?_);refine aF (lB (aQ ⟨_,rfl,"dict_keyiterator",_,
  ⟨_,eD _ rfl,rfl⟩,IG.lookup,?_⟩))
 simpa [dE] using q
theorem Xv {e:rH}{Q:Option aC->aH->Prop}(K:s.heap.IsKeyIter it d i es.size ep)(R:Axc s.heap d es ep)(x:es[i]?=aa e)
  (q:∀ h',h'.IsKeyIter it d (i+1) es.size ep->nE it s.heap h'->Q (aa e.key) { s with heap:=h' }):aJ (aP prog w) A (fZ (.ref it)) Q E s:=by
 obtain⟨oi,ei,ci,di⟩:=id K;obtain⟨o,eo,_,ed⟩:=R;unfold fZ;refine aF (nZ (mB (name:=jZ "__next__") K.typeIs
  IG (iH IG K.typeIs
   f9 ?_ (g8 _))))
 refine aF (aQ ?_);rw[9];rw[9]
 first
  |refine aF (NR K.typeIs (aQ ?_))
  |refine aF (NQ K.typeIs (aQ ?_))
 refine aF (BL ei di ?_);have own:Builtin.Dict_items.ownsTuple "dict_keyiterator" = af:=by decide
 simp only[own,fF,if_false];show aJ _ _ (if (fI d==cU)=ae then _ else _) _ _ s
 rw[if_neg (show ¬ (fI d==cU)=ae from oJ)]
 refine aF (aQ ?_);refine aF (NV eo ed ?_);rw[if_neg (by simp)]
 refine aF (aQ ?_);refine aF (wpAny_dictEpoch eo ed ?_);rw[if_neg (by simp)]
 refine aQ ?_;simp only[show ¬ ((i:Int)<0) from by omega,if_false,lR,x]
 rw[9]
 first
  |refine aF (NR K.typeIs (aQ ?_))
  |refine aF (NQ K.typeIs (aQ ?_))
 refine aF (wpAny_isOneOf_keyiter K.typeIs ?_);show aJ _ _ (BN (.ref it) 1 (dE ((i:Int)+1))>>=_) _ _ s;refine aF (NS ei di (by simp) ?_)
 have K':(s.heap.update it (Obj.mapFields (·.setIfInBounds 1 (dE ((i:Int)+1))))).IsKeyIter it d (i+1) es.size ep:=
  ⟨_,qJ _ ei (Obj.isFreed_of_fields (OJ di _)),(Obj.cls_mapFields ..).trans ci,by
   rw[OJ di];simp[dE]⟩
 refine aF (jE ?_);refine aF (wpAny_isOneOf_keyiter (s:={ s with heap:=s.heap.update it (Obj.mapFields (·.setIfInBounds 1 (dE ((i:Int)+1)))) })
  K'.typeIs ?_)
 show aJ _ _ (pure e.key) _ _ _;exact aQ (aQ ⟨_,rfl,aQ (q _ K' (yE ..))⟩)
theorem Nj {Q:Option aC->aH->Prop}(hh:A.handled=ab)(K:s.heap.IsKeyIter it d i es.size ep)(R:Axc s.heap d es ep)(x:es.size≤i)
  (q:∀ h',PN it s.heap h'->Q ab { s with heap:=h' }):aJ (aP prog w) A (fZ (.ref it)) Q E s:=by
 obtain⟨oi,ei,ci,di⟩:=id K;obtain⟨o,eo,_,ed⟩:=R;unfold fZ;refine aF (nZ (mB (name:=jZ "__next__") K.typeIs
  IG (iH IG K.typeIs
   f9 ?_ (g8 _))))
 refine aF (aQ ?_);rw[9];rw[9]
 first
  |refine aF (NR K.typeIs (aQ ?_))
  |refine aF (NQ K.typeIs (aQ ?_))
 refine aF (BL ei di ?_);have own:Builtin.Dict_items.ownsTuple "dict_keyiterator" = af:=by decide
 simp only[own,fF,if_false];show aJ _ _ (if (fI d==cU)=ae then _ else _) _ _ s
 rw[if_neg (show ¬ (fI d==cU)=ae from oJ)]
 refine aF (aQ ?_);refine aF (NV eo ed ?_);rw[if_neg (by simp)]
 refine aF (aQ ?_);refine aF (wpAny_dictEpoch eo ed ?_);rw[if_neg (by simp)]
 refine aQ ?_;simp only[show ¬ ((i:Int)<0) from by omega,if_false,lR,QE x]
 rw[9]
 first
  |refine aF (NR K.typeIs (aQ ?_))
  |refine aF (NQ K.typeIs (aQ ?_))
 show aJ _ _ (BN (.ref it) 0 .none>>=_) _ _ s;refine aF (NS ei di (by simp) ?_)
 show aJ _ _ (uJ (.type "StopIteration") []>>=_) _ _ _;rw[9];simp only[uJ,BP];refine aF (lB ?_ (by size_fits))
 refine aF (m:=rA _ _) (xH (a:=cU)
  (by first|rfl|(simp only[rA];rfl)) ?_)
 refine lB ?_ (by size_fits)
 simp only[raiseNew];refine aF (HF ?_);rw[show A.in1.handled=ab from hh]
 refine aF (aQ (HB ?_));refine aF (qZ (T:="StopIteration") (b:=ae)
  ⟨_,eD _ rfl,rfl⟩ BQ ?_)
 exact aQ (q _ (((yE ..).extBut.push _).push _))
theorem Zi (hh:A.handled=ab)(I d:aD)(ne:d≠I)(es:Array rH)(ep:Nat) :
  Walks prog w A I [I,d] [I] es.size (fun i v=>∃ e,es[i]?=aa e/\v=e.key) (fun i h=>h.IsKeyIter I d i es.size ep/\Axc h d es ep) where
 sub:=fun b hb=>by simp at hb;simp[hb]
 frame:=fun _ _ _ st hk=>⟨st.1.at fun o e=>hk I (by simp) o e,st.2.keep fun o e=>hk d (by simp) o e⟩
 item:=fun i s Q E hi st hQ=>by
  have hx:es[i]?=aa es[i]:=lF hi;refine Xv st.1 st.2 hx fun h' K' hs=>?_
  exact hQ _ h' s.toks ⟨_,hx,rfl⟩ ⟨K',st.2.keep fun o e=>hs.extBut d o ne e⟩ fun b o hb e=>hs.extBut b o (fun h=>hb (by simp[h])) e
 done:=fun s Q E st hQ=>Nj hh st.1 st.2 (cE _) fun h' he=>hQ h' s.toks fun b o hb e=>he b o (fun h=>hb (by simp[h])) e
 self:=fun _ _ _ _ st hQ=>wpAny_pyIter_keyiter st.1 hQ
theorem Su:xK (.type "dict") "__len__" = pure (aa (.builtin "dict.__len__")):=by rw[uH,uN];kernel_rfl
theorem Pp(hh:A.handled=ab)(nm:(d==kH)=af)(D:Axc s.heap d es ep)(S:aD)(res:aC)(c₀:Nat)(K6:S≠d)
  (hS:s.heap.get? S=aa { cls:=.type "list",data:=.seq #[] c₀ }) (hn:es.size≤sizeLine)
  (q:∀ h' tk ai c',(∀ b o,b≠S->s.heap.get? b=aa o->h'.get? b=aa o)->h'.get? S=aa { cls:=.type "list",dict:=ab,data:=.seq ai c',slots:=#[] } ->
   ItemsOf (fun i v=>∃ e,es[i]?=aa e/\v=e.key) ai es.size->R (.ok (.ret res)) { s with heap:=h',toks:=tk }) :
  aJ (aP prog w) A.in1 (rJ (.ref S) (.ref d) res)
   (fun fin s'=>match fin with|.done f=>R (.ok f) s'|.again c'=>c'.quiet=ae/\pG (aP prog w) A c' R s') (fun e s'=>R (.error e) s') s:=by
 have ty:=D.ty;unfold rJ;refine aF (sL ty ?_);have h1:yI (.ref S) (.ref d)=af:=by
  simp[yI,K6]
 have h2:(iJ "dict" == iJ "list")=af:=by decide
 have h3:(iJ "dict" == iJ "tuple")=af:=by decide
 simp only[h1,h2,h3,Bool.or_false,fF,if_false];refine aF (Ws nm D ?_);refine aF (jE ?_);have E7:d<s.heap.objs.size:=by obtain⟨o,e,_⟩:=D;exact cA e
 have V7:S<s.heap.objs.size:=cA hS;have pj:∀ b o,s.heap.get? b=aa o->(s.heap.push { cls:=.type "dict_keyiterator",data:=.fields #[.ref d,.int 0 0,.int es.size 0,.int ep 0] }).get? b=aa o:=fun b o e=>cH _ e
 have D':Axc (s.heap.push { cls:=.type "dict_keyiterator",data:=.fields #[.ref d,.int 0 0,.int es.size 0,.int ep 0] }) d es ep:=D.keep fun o e=>pj d o e
 have V9:(s.heap.push { cls:=.type "dict_keyiterator",data:=.fields #[.ref d,.int 0 0,.int es.size 0,.int ep 0] }).IsKeyIter s.heap.objs.size d 0 es.size ep:=⟨_,eD _ rfl,rfl,rfl⟩;unfold IH;refine aF (xG (T:="dict") (v:=.ref d) (by obtain⟨o,e,c,_⟩:=D';exact⟨o,e,c.1⟩) Su ?_)
 wp_delta
 refine aF (qZ (T:="dict") (v:=.ref d) (b:=ae) (by obtain⟨o,e,c,_⟩:=D';exact⟨o,e,c.1⟩) (by rw[uK];kernel_rfl) ?_)
 show aJ _ _ (typeOf (fI d)>>=_) _ _ _;refine aF (sL (T:="dict") (v:=.ref d) (by obtain⟨o,e,c,_⟩:=D';exact⟨o,e,c.1⟩) ?_)
 refine aQ ?_;rw[if_pos (by decide)]
 refine aF (lA ?_);rw[9];have S1:=pj _ _ hS;generalize(s.heap.push { cls:=.type "dict_keyiterator",data:=.fields #[.ref d,.int 0 0,.int es.size 0,.int ep 0] })=G at pj D' S1 V9 ⊢;show aJ _ _ (xJ S (·.push .none)>>=fun _=>xJ S (·.pop)) _ _ _
 refine aF (xF S1 rfl ?_);have S2:=qJ (gF (·.push cU)) S1 rfl;refine xF (hz:=by seq_fits) S2 rfl ?_
 have S3:=qJ (gF (·.pop)) S2 rfl;have lf:∀ b o,b≠S->G.get? b=aa o->((G.update S (gF (·.push cU))).update S (gF (·.pop))).get? b=aa o:=fun b o hb e=>
  (sU _ _ (kR hb)).trans ((sU _ _ (kR hb)).trans e)
 have fu:d≠s.heap.objs.size:=dI E7;have E8:S∉[s.heap.objs.size,d]:=fun hm=>by
  rcases dU.mp hm with z|z
  ·exact absurd V7 (by rw[z];exact lE _)
  ·exact K6 (dP.mp z)
 refine aQ ⟨qB Ed _,Cm (Zi (A:=A.in1) hh s.heap.objs.size d fu es ep).toS hn _ E8 _ es.size 0 _ _ _ rfl (dS _)
  ⟨V9.at fun o e=>lf _ o (kB V7) e,D'.keep fun o e=>lf _ o (kR K6) e⟩ S3 (ItemsOf.nil _) fun s' ai c' hm pq jk=>?_⟩
 rw[Moved.eq_with hm];refine q s'.heap s'.toks ai c' (fun b ob hb e=>hm.heap b ob (fun hmem=>?_) (lf b ob hb (pj _ _ e))) pq jk
 rcases dU.mp hmem with z|hmem
 ·exact hb z
 ·exact absurd (cA e) (by rw[dP.mp hmem];exact lE _)
theorem Vv(hh:A.handled=ab)(nm:(d==kH)=af)(D:Axc s.heap d es ep)(hn:es.size≤sizeLine)
  (q:∀ h' tk ai c',(∀ b o,s.heap.get? b=aa o->h'.get? b=aa o)->h'.get? s.heap.objs.size=aa { cls:=.type "list",dict:=ab,data:=.seq ai c',slots:=#[] } ->
   ItemsOf (fun i v=>∃ e,es[i]?=aa e/\v=e.key) ai es.size->Q (.ref s.heap.objs.size) { s with heap:=h',toks:=tk }):aJ (aP prog w) A (call (.type "list") [.ref d]) Q E s:=by
 refine callType_codes (Q₁:=fun obj s₁=>obj=.ref s.heap.objs.size/\s₁={ s with heap:=s.heap.push { cls:=.type "list",data:=.seq #[] } })
  F.called_list (F.typeCall_list_1 _) F.entry_list_init (code_list_new _ ⟨rfl,rfl⟩) fun obj s₁ h₁=>?_
 obtain⟨rfl,rfl⟩:=h₁;have E7:d<s.heap.objs.size:=by obtain⟨o,e,_⟩:=D;exact cA e
 have N1:(s.heap.push { cls:=.type "list",data:=.seq #[] }).get? s.heap.objs.size=aa { cls:=.type "list",data:=.seq #[] }:=eD _ rfl;refine⟨⟨_,N1,rfl⟩,F.args_list_init_2 _ _,?_⟩;show aJ _ _ (do
  let lg ← Builtin.List.listItems (.ref s.heap.objs.size)
  Builtin.List.listUpdate (.ref s.heap.objs.size) (fun _=>#[])
  letGo lg.toList.reverse
  rJ (.ref s.heap.objs.size) (.ref d) .none) _ _ _
 rw[9];unfold Builtin.List.listItems;refine aF (kO N1 rfl (aQ ?_));show aJ _ _ (xJ s.heap.objs.size (fun _=>#[])>>=fun _=>letGo (#[]:Array aC).toList.reverse>>=fun _=>
  rJ (.ref s.heap.objs.size) (.ref d) .none) _ _ _
 refine aF (xF N1 rfl ?_);have N2:=qJ (gF (fun _=>(#[]:Array aC))) N1 rfl
 have lf:∀ b o,b≠s.heap.objs.size->(s.heap.push { cls:=.type "list",data:=.seq #[] }).get? b=aa o ->
   ((s.heap.push { cls:=.type "list",data:=.seq #[] }).update s.heap.objs.size (gF (fun _=>(#[]:Array aC)))).get? b=aa o:=fun b o hb e=>(sU _ _ (kR hb)).trans e
 refine aF (HE ?_);refine Pp (A:=A.in1) hh nm (D.keep fun o e=>lf d o (dI E7) (cH _ e)) s.heap.objs.size .none _ (kB E7) N2 hn fun h' tk ai c' hk pq jk=>?_
 exact⟨rfl,q h' tk ai c' (fun b o e=>hk b o (dI (cA e)) (lf b o (dI (cA e)) (cH _ e))) pq jk⟩
end
section
variable {σ:St}
theorem MB:∀ {es:List rH} {kvs:List (aO×V)} {vs:List (aO×aC)},KV kvs vs->PySem.Pairs (iT P w) es vs->Vals (kvs.map fun kv=>kV kv.1) (es.map (·.key))
 |[],kvs,vs,r,p=>by
  cases p;cases r;exact .nil
 |e::es,kvs,vs,r,p=>by
  cases p with
  |cons h hv t=>
   cases r with
   |cons h' t'=>
    refine .cons ?_ (MB t' t);show RelV (kV _) e.key;rw[h'.1];rcases pW h with⟨i,tk,e1,e2⟩|⟨x,tk,e1,e2⟩
    ·rw[e1,e2];exact⟨tk,rfl⟩
    ·rw[e1,e2];exact⟨tk,rfl⟩
theorem Og {es:Array rH}{ai:Array aC}(h:ItemsOf (fun i v=>∃ e,es[i]?=aa e/\v=e.key) ai es.size):ai.toList=es.toList.map (·.key):=by
 obtain⟨h1,h2⟩:=h;apply CP;intro i;rw[fA];by_cases hi:i<ai.size
 ·have ha:ai.toList[i]?=aa ai[i]:=by simp[hi]
  obtain⟨e,he,hv⟩:=h2 i ai[i] (by simp[hi])
  have K7:es.toList[i]?=aa e:=by simpa using he
  rw[ha,K7,hv]
  rfl
 ·have ha:ai.toList[i]?=ab:=by simp;omega
  have he:es.toList[i]?=ab:=by simp;omega
  rw[ha,he]
  rfl
theorem Lg {ep0:Nat}{kvs:List (aO×V)}(I:Inv X ad σ H s)(ha:H a=aa (.dK ep0 kvs)):kvs.length≤sizeLine/\(a==kH)=af/\∃ es ep,Axc s.heap a es ep/\Vals (kvs.map fun kv=>kV kv.1) (es.toList.map (·.key))/\es.size=kvs.length:=by
 obtain⟨z,nm,vs,r,o,es,ep,e1,e2,e3,_,e5,_⟩:=JD I.hok ha;refine⟨z,nm,es,ep,⟨o,e1,e2,e3⟩,MB r e5,?_⟩;have l1:=(MB r e5).length;simp at l1;exact l1.symm
theorem YB (hc:X.calm=ae):Afq X (.type "list") (fun xs H Q=>∃ a ep kvs,xs=[.ref a]/\H a=aa (.dK ep kvs)/\∀ l,H l=ab->Q (.ref l) (ar H l (.lst (kvs.map fun kv=>kV kv.1)))):=by
 rw[5];obtain⟨a,ep1,kvs,rfl,ha,q⟩:=h;obtain⟨u,rfl,ru⟩:=vals1 r;cases ru;obtain⟨z,nm,es,ep,D,rv,el⟩:=Lg I ha;refine Vv (I.ok.hd hc) nm D (by omega) fun h' tk ai c' hk hS jk=>?_
 have ea:=Og jk;rw[← ea] at rv;exact⟨.ref s.heap.objs.size,_,I.laid (o:=.lst (kvs.map fun kv=>kV kv.1)) hk (cE _) (show Adz X.prog X.w _ h' _ (.lst _) from⟨by rw[eS];exact z,ai.toList,c',rv,by simpa using hS⟩),rfl,q _ I.fresh⟩
theorem XJ:∀ {kds:List (aA×aA)} {kvs:List (aO×V)},Ack K H kds kvs->(∀ kd∈kds,dX kd.1=ae)->Aaw K H (kds.map (·.1)) (kvs.map fun kv=>kV kv.1)
 |[],kvs,r,_=>by rw[Acn.mp r];exact Aav.mpr rfl
 |(k,d)::kds,kvs,r,h=>by
  obtain⟨k',x,rr,rfl,rfl,h1,h2⟩:=Abr.mp r;refine Aan.mpr ⟨_,_,rfl,?_,XJ h2 fun kd m=>h kd (cG _ m)⟩
  have hl:=h (kD k',d) bS;cases k' with
  |inl i=>exact Aax.mpr rfl
  |inr z=>exact Aa6.mpr ⟨rfl,hl⟩
def wD:List aA->Option aA
 |[.dict kds]=>if (j8 kds&&kds.all fun kd=>dX kd.1)=ae then aa (.list (kds.map (·.1))) else ab
 |_=>ab
theorem YY:CallD K 1 (fun xs H Q=>∃ a ep kvs,xs=[.ref a]/\H a=aa (.dK ep kvs)/\∀ l,H l=ab->Q (.ref l) (ar H l (.lst (kvs.map fun kv=>kV kv.1)))) wD:=fun P H xs ds d Q hP r e k=>by
 unfold wD at e;split at e
 ·obtain⟨hl,rfl⟩:=eQ e;obtain⟨v,rfl,r'⟩:=kZ r;obtain⟨pk,hl⟩:=oK.mp hl;obtain⟨q,ys,rfl,hq,rr⟩:=(zS pk).mp r';exact⟨q,ys.1,ys.2,rfl,Aa0 _ _ hq,fun l o9=>k.lst hP o9 (XJ rr (hX.mp hl))⟩
 ·cases e
end
def RB (m:Md)(f:EF)(T:aA->bJ->Option bJ):SF:=fun ρ=>(eV 0 m f ρ).bind fun d=>(T d ρ).bind fun ρ'=>aa (.nx ρ')
theorem Lx{T:aA->bJ->Option bJ}(m:Md)(he:DE X e f)(hg:DG X H0 P0 tg T)(hs:swapsWithSole [tg] e pos.line X.env=pure af:=by rfl)(hw:swappedStores [tg] e X.env=pure ab:=by rfl)
  (h1:(mW [tg] X.env).map (·.2)=[mC tg X.env]:=by rfl):DS X H0 P0 n0 (.Assign [tg] e pos) (RB m f T):=PS.imp (Ai (ev (H0:=H0) (P0:=P0) m he) hg hs hw h1) fun D σ H gh=>by
 obtain⟨B0,ρ,fp,o,S,ef,k⟩:=gh;obtain⟨d,e1,ef⟩:=ao ef;obtain⟨ρ',e2,ef⟩:=ao ef;cases ef;refine⟨B0,ρ,fp,d,S,e1,fun v H' gh=>?_⟩
 obtain⟨iz,S',r⟩:=gh;exact⟨B0,ρ,iz,d,ρ',S',r.2,e2,fun σ' lu S2=>k _ _ lu S2⟩
open PySem PySem.W PyProof.Rows
structure Ord (lt:Nat->Nat->Bool):Prop where
 asym:∀ a b,lt a b=ae->lt b a=af
 tr:∀ a b c,lt b a=af->lt c b=af->lt c a=af
section
variable {lt:Nat->Nat->Bool}(O:Ord lt)
abbrev at' (p:Array Nat)(i:Nat):Nat:=p.getD i 0
def KF (lt:Nat->Nat->Bool)(p:Array Nat)(m:Nat):Prop:=∀ i j,i≤j->j<m->lt (at' p j) (at' p i)=af
include O
end
abbrev Em (a:aD)(h h':aY):Prop:=∀ b o,b≠a->h.get? b=aa o->h'.get? b=aa o
abbrev lN (h:aY)(a:aD)(vs:List aC):aY:=((h.update a (gF fun _=>#[])).push (hU "tuple" vs.toArray 0)).push (hU "list" #[] 0)
theorem RZ:Em a h (lN h a vs):=fun b o hb e=>
 cH _ (cH _ (((yE h a (gF fun _=>(#[]:Array aC))).2 b hb).trans e))
def jL:aA->List Int
 |.int i=>[0,i]
 |.str x=>1::x.cps.toList.map qI
 |_=>[2]
def dC (ks:List aA):List (List Int):=ks.map jL
theorem XM (a b:List (List Int))(h:a<b):¬ b<a:=List.lt_asymm h
theorem XB (a b c:List (List Int))(h1:¬ b<a)(h2:¬ c<b):¬ c<a:=by
 have h1:a≤b:=h1;have h2:b≤c:=h2;exact List.le_trans h1 h2
theorem KJ {e:aA}(h1:(∃ i,d=.int i)\/∃ x,d=.str x)(h2:(∃ i,e=.int i)\/∃ x,e=.str x)(h:jL d=jL e):d=e:=by
 rcases h1 with⟨i,rfl⟩|⟨x,rfl⟩<;>rcases h2 with⟨j,rfl⟩|⟨y,rfl⟩
 ·simp[jL] at h;rw[h]
 ·simp[jL] at h
 ·simp[jL] at h
 ·have h':x.cps.toList.map qI=y.cps.toList.map qI:=by simpa [jL] using h
  have:x.cps.toList=y.cps.toList:=(List.map_inj_right (fun a b q=>Int.ofNat.inj q)).mp h'
  have:x=y:=by
   cases x;cases y;simp only at this;rw[Ej.mp this]
  rw[this]
def nJ (kss:List (List aA))(i j:Nat):Bool:=decide (dC (kss.getD i [])<dC (kss.getD j []))
theorem ZZ (kss:List (List aA)):Ord (nJ kss):=by
 refine⟨fun a b h=>?_,fun a b c h1 h2=>?_⟩
 ·have:=XM _ _ (of_decide_eq_true h);exact decide_eq_false this
 ·exact decide_eq_false (XB _ _ _ (of_decide_eq_false h1) (of_decide_eq_false h2))
theorem Ab3.tupK{ks:List aA}(r:Ab3 K H (.tuple ks) v)(h1:cC ks=ae)(h2:cL ks≤6):∃ a,v=.ref a/\Avi H ks a:=by
 obtain⟨a,xs,e,s,r⟩:=Aa3.mp r;exact⟨a,e,h1,h2,xs,s,Aaw.keys ks h1 r⟩
def kS:List aA->Option (List (List aA))
 |[]=>aa []
 |.tuple ks::r=>if cC ks=ae/\cL ks≤6 then(kS r).bind fun kss=>aa (ks::kss) else ab
 |_::_=>ab
def nL (ai:List (List aA))(k:List aA):List (List aA):=if k∈ai then ai else ai++[k]
def gE (kss:List (List aA)):List (List aA):=kss.foldl nL []
theorem UQ:∀ {ds:List aA} {kss:List (List aA)},kS ds=aa kss->ds=kss.map iC/\∀ ks∈kss,cC ks=ae/\cL ks≤6
 |[],kss,h=>by cases h;exact⟨rfl,fun _ m=>by simp at m⟩
 |.tuple ks::r,kss,h=>by
  by_cases c:cC ks=ae/\cL ks≤6
  ·have h':((kS r).bind fun kss=>aa (ks::kss))=aa kss:=by
    have:(if cC ks=ae/\cL ks≤6 then(kS r).bind fun kss=>aa (ks::kss) else ab)=aa kss:=h
    rw[if_pos c] at this;exact this
   obtain⟨k2,e1,e2⟩:=ao h';cases e2;obtain⟨q1,q2⟩:=UQ e1;refine⟨by rw[q1];rfl,fun x m=>?_⟩
   rcases dU.mp m with rfl|m
   ·exact c
   ·exact q2 x m
  ·have:(if cC ks=ae/\cL ks≤6 then(kS r).bind fun kss=>aa (ks::kss) else ab)=aa kss:=h
   rw[if_neg c] at this;cases this
 |.none::_,_,h=>by cases h
 |.bool _::_,_,h=>by cases h
 |.int _::_,_,h=>by cases h
 |.str _::_,_,h=>by cases h
 |.list _::_,_,h=>by cases h
 |.dict _::_,_,h=>by cases h
open PySem PySem.Spec PySem.W PyProof.Rows
def jN:List aA->List aA->Bool
 |[],[]=>ae
 |.int _::r,.int _::r'=>jN r r'
 |.str _::r,.str _::r'=>jN r r'
 |_,_=>af
theorem Bz (i j:Int)(r r':List aA):(dC (.int i::r)<dC (.int j::r'))↔i<j\/i=j/\dC r<dC r':=by
 show(jL (.int i)::dC r<jL (.int j)::dC r')↔_;rw[CT];simp[jL,CT]
theorem map_lt (xs ys:List Nat):(xs.map qI<ys.map qI)↔xs<ys:=by
 induction xs generalizing ys with
 |nil=>cases ys<;>simp
 |cons x r ih=>
  cases ys with
  |nil=>simp
  |cons y r'=>
   rw[dQ,dQ,CT,CT,ih];have h1:(qI x<qI y)↔x<y:=Int.ofNat_lt;have h2:(qI x=qI y)↔x=y:=⟨fun e=>Int.ofNat.inj e,fun e=>by rw[e]⟩
   rw[h1,h2]
theorem RV (x y:aE)(r r':List aA):(dC (.str x::r)<dC (.str y::r'))↔x.cps.toList<y.cps.toList\/x=y/\dC r<dC r':=by
 show(jL (.str x)::dC r<jL (.str y)::dC r')↔_;rw[CT];have h1:(jL (.str x)<jL (.str y))↔x.cps.toList<y.cps.toList:=by
  show((1:Int)::x.cps.toList.map qI<(1:Int)::y.cps.toList.map qI)↔_;rw[CT,map_lt];simp
 have h2:(jL (.str x)=jL (.str y))↔x=y:=⟨fun e=>by
  have:=KJ (.inr ⟨x,rfl⟩) (.inr ⟨y,rfl⟩) e;injection this,fun e=>by rw[e]⟩
 rw[h1,h2]
section
variable {Q:Bool->aH->Prop}
theorem DR:∀ (ks jv:List aA) {vs zi:List aC} {as rn:List aD} (i:Nat),jN ks jv=ae->pH s.heap vs ks as->pH s.heap zi jv rn->Q (decide (dC ks<dC jv)) s->KatLex prog w A b af Q (vs.zip zi) i s
 |[],[],vs,zi,as,rn,i,_,r,r',h=>by
  cases r;cases r';exact kat_nil h
 |.int x::ks,.int y::jv,vs,zi,as,rn,i,hs,r,r',h=>by
  cases r with
  |cons r1 r2=>
   cases r' with
   |cons K8 K9=>
    cases r1 with
    |int _ t=>
     cases K8 with
     |int _ u=>
      rw[HW];refine kat_cons ((iT prog w).eqBool (a:=.inl x) (b:=.inl y) (MQ _ _ x t) (MQ _ _ y u) ?_);refine kat_go (fun e=>kat_yes ?_) fun e=>kat_no ?_
      ·have e':x=y:=by simpa using e
       subst e';refine DR ks jv (i+1) (by simpa [jN] using hs) r2 K9 ?_
       have:decide (dC (.int x::ks)<dC (.int x::jv))=decide (dC ks<dC jv):=decide_eq_decide.mpr (by rw[Bz];simp)
       rw[← this];exact h
      ·have e':x≠y:=by simpa using e
       have:decide (dC (.int x::ks)<dC (.int y::jv))=decide (x<y):=decide_eq_decide.mpr (by rw[Bz];simp[e'])
       rw[this] at h;cases(b&&i==0) with
       |true=>exact oneLt_int h
       |false=>exact kat_one _ _ (lt_int h)
 |.str x::ks,.str y::jv,vs,zi,as,rn,i,hs,r,r',h=>by
  cases r with
  |cons r1 r2=>
   cases r' with
   |cons K8 K9=>
    cases r1 with
    |str _ t=>
     cases K8 with
     |str _ u=>
      rw[HW];refine kat_cons ((iT prog w).eqBool (a:=.inr x) (b:=.inr y) (MU _ _ x t) (MU _ _ y u) ?_);refine kat_go (fun e=>kat_yes ?_) fun e=>kat_no ?_
      ·have e':x=y:=by simpa using e
       subst e';refine DR ks jv (i+1) (by simpa [jN] using hs) r2 K9 ?_
       have:decide (dC (.str x::ks)<dC (.str x::jv))=decide (dC ks<dC jv):=decide_eq_decide.mpr (by rw[RV];simp[List.lt_irrefl])
       rw[← this];exact h
      ·have e':x≠y:=by simpa using e
       have:decide (dC (.str x::ks)<dC (.str y::jv))=decide (x.cps.toList<y.cps.toList):=decide_eq_decide.mpr (by rw[RV];simp[e'])
       rw[this] at h;cases(b&&i==0) with
       |true=>exact oneLt_str h
       |false=>exact kat_one _ _ (lt_str h)
end
def lK:List aA->Option String
 |.int _::_=>aa "int"
 |.str _::_=>aa "str"
 |_=>ab
theorem Xj {M:Model}{k:List aA}{b:aD}(hd:Adh h k b)(hk:lK k=aa T) :
  ∃ o xs n f,h.get? b=aa o/\o.cls=.type "tuple" /\ o.data=.seq xs n/\xs[0]?=aa f/\Looks M h (typeOf f) (.type T):=by
 obtain⟨_,_,as,r⟩:=hd;obtain⟨a,o,xs,n,e,ho,hc,hd,hi⟩:=pV r;cases e
 match k,hk,hi with
 |.int i::r,hk,hi=>
  cases hk;generalize hx:xs.toList=l at hi;cases hi with
  |cons h1 _=>
   cases h1 with
   |int _ t=>exact⟨o,xs,n,.int i t,ho,hc,hd,by rw[← lT,hx];rfl,Looks.of_pure rfl⟩
 |.str x::r,hk,hi=>
  cases hk;generalize hx:xs.toList=l at hi;cases hi with
  |cons h1 _=>
   cases h1 with
   |str _ t=>exact⟨o,xs,n,.str x t,ho,hc,hd,by rw[← lT,hx];rfl,Looks.of_pure rfl⟩
abbrev Aha (h:aY)(vs:List aC)(kss:List (List aA)):Prop:=fE (fun v k=>∃ b,v=fI b/\Adh h k b) vs kss
theorem LJ {M:Model}{h:aY}{T:String}:∀ {vs:List aC} {kss:List (List aA)},Aha h vs kss->(∀ k∈kss,lK k=aa T)->∃ fs,KatTups h vs fs/\fs.length=vs.length/\∀ f∈fs,Looks M h (typeOf f) (.type T)
 |_,_,.nil,_=>⟨[],KatTups.nil,rfl,fun _ m=>by simp at m⟩
 |_,_,.cons ⟨b,e,hd⟩ t,hk=>by
  obtain⟨fs,h1,h2,h3⟩:=LJ (M:=M) t fun k m=>hk k (cG _ m)
  obtain⟨o,xs,n,f,q1,q2,q3,q4,q5⟩:=Xj (M:=M) hd (hk _ bS);subst e;refine⟨f::fs,KatTups.cons q1 q2 q3 q4 h1,by rw[hW,hW,h2],fun g m=>?_⟩
  rcases dU.mp m with rfl|m
  ·exact q5
  ·exact h3 g m
theorem Aha.get:∀ {vs:List aC} {kss:List (List aA)},Aha h vs kss->∀ i,i<vs.length->∃ b,vs.getD i cU=.ref b/\Adh h (kss.getD i []) b/\kss.getD i []∈kss
 |_,_,.nil,i,hi=>absurd hi (by simp)
 |_,_,.cons ⟨b,e,hd⟩ t,0,_=>⟨b,e,hd,bS⟩
 |_,_,.cons _ t,i+1,hi=>by
  obtain⟨b,q1,q2,q3⟩:=Aha.get t i (by simpa using hi)
  exact⟨b,by simpa using q1,by simpa using q2,by simpa using cG _ q3⟩
theorem Aha.keep(k:∀ b o,h.get? b=aa o->h'.get? b=aa o):∀ {vs:List aC} {kss:List (List aA)},Aha h vs kss->Aha h' vs kss
 |_,_,.nil=>.nil
 |_,_,.cons ⟨b,e,hd⟩ t=>.cons ⟨b,e,hd.keep fun b o _ _ q _ _=>k b o q⟩ (Aha.keep k t)
theorem FO:∀ {k k':List aA},jN k k'=ae->k.length=k'.length
 |[],[],_=>rfl
 |.int _::r,.int _::r',h=>by rw[hW,hW,FO (k:=r) (k':=r') (by simpa [jN] using h)]
 |.str _::r,.str _::r',h=>by rw[hW,hW,FO (k:=r) (k':=r') (by simpa [jN] using h)]
theorem AG:∀ {vs:List aC} {ks:List aA} {as:List aD},pH h vs ks as->vs.length=ks.length
 |_,_,_,.nil=>rfl
 |_,_,_,.cons _ t=>by rw[hW,hW,AG t]
theorem VN{P:PySem.Fin->aH->Prop}(ho:s.heap.get? a=aa (hU "list" vs.toArray n))(h2:vs.length<2)(h:P (.done (.ret .none)) { s with heap:=sortedHeap s.heap a vs vs.toArray }) :
  aJ (aP prog w) A (Builtin.«list.sort» ⟨[.ref a],[]⟩) P E s:=by
 have lz:vs.length≤sizeLine:=by rw[mU];omega
 obtain⟨e1,zj⟩:∃ e,(s.heap.update a (gF fun _=>(#[]:Array aC))).get? a=aa (hU "list" #[] e):=⟨_,get?_update_seq ho fun _=>#[]⟩
 have zk:(lN s.heap a vs).get? a=aa (hU "list" #[] e1):=cH _ (cH _ zj);rw[list_sort_plain];refine aF (listItems_at ho rfl (aF (HJ ho rfl (aF (seqEpoch_at zj rfl (aF (NU (aF (HD (jE ?_) (dS _))) (by simpa using lz))))) (by rw[gG];exact lz) (dS _))))
 show aJ (aP prog w) A _ P E { s with heap:=lN s.heap a vs };rw[7];have few:vs.toArray.size<2:=by rw[gG];exact h2
 rw[if_pos few,if_pos few];refine aF (aQ ?_);rw[StateT.run_pure];refine aF (aQ ?_);rw[7];have on:(bD (SortSt.mk' general' (vs.toArray.zip vs.toArray) #[] 7 ab)).map (·.2)=vs.toArray:=by
  show(vs.toArray.zip vs.toArray).map (·.2)=vs.toArray;apply Ej.mp;have:∀ l:List aC,CM (fun x=>x.snd) (l.zip l)=l:=fun l=>by
   induction l with
   |nil=>rfl
   |cons a l ih=>rw[HW,dQ,ih]
  simpa using this vs
 rw[on];refine aF (seqEpoch_at zk rfl (aF (HJ zk rfl ?_ (dS _) (Nat.le_succ_of_le (by rw[gG];exact lz)))))
 simp only[bne_self_eq_false,fF,if_false];exact aQ h
theorem Pa(hl:s.heap.IsList l vs.toArray)(h2:vs.length<2)(h:Q (.ref (s.heap.objs.size+1)) { s with heap:=sortedAll s.heap vs vs.toArray }) :
  aJ (aP prog w) A (call (.builtin "sorted") [.ref l]) Q E s:=by
 refine PZ kind_sorted plain_sorted entry_sorted (args_sorted1 _) ?_;unfold Builtin.«sorted»;refine aF (m:=checkCount "sorted" 1 1 _) (aQ (aF (collect_list hl (aF (HD ?_)))));have z:((s.heap.push (hU "list" #[] 0)).update s.heap.objs.size (gF (· ++ vs.toArray))).objs.size=s.heap.objs.size+1:=by rw[Heap.size_update,size_push']
 have q9:(((s.heap.push (hU "list" #[] 0)).update s.heap.objs.size (gF (· ++ vs.toArray))).push (hU "list" vs.toArray 0)).get? (s.heap.objs.size+1)=aa (hU "list" vs.toArray 0):=z ▸ eD _ rfl;show aJ _ _ _ _ _ { s with heap:=((s.heap.push (hU "list" #[] 0)).update s.heap.objs.size (gF (· ++ vs.toArray))).push (hU "list" vs.toArray 0) };rw[z];refine aF (jE (iH slot_list_sort ⟨_,q9,rfl⟩ entry_list_sort (VN (s:={ s with heap:=_ }) q9 h2 ⟨_,rfl,?_⟩) (args_list_sort _)));exact aQ ⟨_,rfl,h⟩
theorem EY:∀ {a b:List aA},jN a b=ae->dC a=dC b->a=b
 |[],[],_,_=>rfl
 |.int i::r,.int j::r',h,e=>by
  have h':jN r r'=ae:=by simpa [jN] using h
  have e':jL (.int i)=jL (.int j)/\dC r=dC r':=by simpa [dC] using e
  rw[KJ (.inl ⟨i,rfl⟩) (.inl ⟨j,rfl⟩) e'.1,EY h' e'.2]
 |.str x::r,.str y::r',h,e=>by
  have h':jN r r'=ae:=by simpa [jN] using h
  have e':jL (.str x)=jL (.str y)/\dC r=dC r':=by simpa [dC] using e
  rw[KJ (.inr ⟨x,rfl⟩) (.inr ⟨y,rfl⟩) e'.1,EY h' e'.2]
def leT (a b:List aA):Bool:=!decide (dC b<dC a)
theorem Ahr {a b:List aA}:leT a b=ae ↔ ¬ dC b<dC a:=by simp[leT]
theorem Zd (a b c:List aA)(h1:leT a b=ae)(h2:leT b c=ae):leT a c=ae:=Ahr.mpr (XB _ _ _ (Ahr.mp h1) (Ahr.mp h2))
theorem Oa (a b:List aA):(leT a b||leT b a)=ae:=by
 by_cases h:dC b<dC a
 ·have:=XM _ _ h;simp[leT,h,this]
 ·simp[leT,h]
theorem Vw {a b:List aA}(hs:jN a b=ae)(h1:leT a b=ae)(h2:leT b a=ae):a=b:=by
 have h1:dC a≤dC b:=Ahr.mp h1;have h2:dC b≤dC a:=Ahr.mp h2;exact EY hs (List.le_antisymm h1 h2)
def iX (kss:List (List aA)):List (List aA):=kss.mergeSort leT
def sameAll (kss:List (List aA)):Bool:=kss.all fun k=>kss.all fun k'=>jN k k'
def kz (kss:List (List aA)):Bool:=decide (kss.length<2)||(sameAll kss&&kss.all fun k=>(lK k).isSome)
theorem uC (kss:List (List aA)):(iX kss).Perm kss:=List.mergeSort_perm kss leT
theorem MR (kss:List (List aA)):(iX kss).Pairwise fun a b=>leT a b=ae:=List.pairwise_mergeSort Zd Oa kss
theorem AD(hs:kz kss=ae)(hp:qs.Perm kss)(hr:qs.Pairwise fun a b=>leT a b=ae):qs=iX kss:=by
 have kr:qs.Perm (iX kss):=hp.trans (uC kss).symm;by_cases h2:kss.length<2
 ·have l1:qs.length<2:=by rw[hp.length_eq];exact h2
  match qs,l1,kr with
  |[],_,kr=>exact(List.nil_perm.mp kr).symm
  |[q],_,kr=>exact List.singleton_perm.mp kr
 ·have jj:sameAll kss=ae:=by
   have:(sameAll kss&&kss.all fun k=>(lK k).isSome)=ae:=by simpa [kz,h2] using hs
   exact(oK.mp this).1
  refine f7 (fun a b ma mb h1 h2=>Vw ?_ h1 h2) hr (MR kss) kr
  have ma':=hp.mem_iff.mp ma;have mb':=(uC kss).mem_iff.mp mb;exact hX.mp (hX.mp jj a ma') b mb'
theorem same_kind:∀ {k k':List aA},jN k k'=ae->lK k=lK k'
 |[],[],_=>rfl
 |.int _::_,.int _::_,_=>rfl
 |.str _::_,.str _::_,_=>rfl
theorem SM {k:List aA}(h:lK k=aa T):T = "int" \/ T = "str":=by
 unfold lK at h;split at h
 ·cases h;exact .inl rfl
 ·cases h;exact .inr rfl
 ·cases h
abbrev vR (H:Hp)(ys:List V)(kss:List (List aA)):Prop:=fE (fun y k=>∃ b,y=V.ref b/\Avi H k b) ys kss
theorem VJ:∀ {kss:List (List aA)} {ys:List V},(∀ ks∈kss,cC ks=ae/\cL ks≤6)->Aaw K H (kss.map iC) ys->vR H ys kss
 |[],ys,_,r=>by rw[Aav.mp r];exact .nil
 |k::kss,ys,hk,r=>by
  obtain⟨v,t,rfl,r1,r2⟩:=Aan.mp r;obtain⟨b,rfl,tk⟩:=r1.tupK (hk k bS).1 (hk k bS).2;exact .cons ⟨b,rfl,tk⟩ (VJ (fun x m=>hk x (cG _ m)) r2)
theorem VT {H':Hp}(x:∀ c zs,H c=aa (.tup zs)->H' c=aa (.tup zs)):∀ {ys:List V} {kss:List (List aA)},vR H ys kss->vR H' ys kss
 |_,_,.nil=>.nil
 |_,_,.cons ⟨b,e,tk⟩ t=>.cons ⟨b,e,tk.keep x⟩ (VT x t)
theorem SJ(ok:HOk P w H h):∀ {ys:List V} {kss:List (List aA)} {vs:List aC},vR H ys kss->Vals ys vs->Aha h vs kss
 |_,_,_,.nil,.nil=>.nil
 |_,_,_,.cons ⟨b,e,tk⟩ t,.cons r rr=>by
  subst e;cases r;exact .cons ⟨b,rfl,qO ok tk⟩ (SJ ok t rr)
def sZ (p:List Nat)(ys:List V):List V:=p.map fun i=>ys.getD i .non
theorem XR:∀ {ys:List V} {vs:List aC} (i:Nat),Vals ys vs->i<ys.length->RelV (ys.getD i .non) (vs.getD i cU)
 |_,_,0,.cons r _,_=>r
 |_,_,i+1,.cons _ t,h=>XR i t (by simpa using h)
theorem WJ(r:Vals ys vs):∀ p:List Nat,(∀ i∈p,i<ys.length)->Vals (sZ p ys) (p.map fun i=>vs.getD i cU)
 |[],_=>.nil
 |i::p,h=>.cons (XR i r (h i bS)) (WJ r p fun j m=>h j (cG _ m))
theorem WZ:∀ {kss:List (List aA)} {ys:List V} (i:Nat),Aaw K H (kss.map iC) ys->i<ys.length->Ab3 K H (.tuple (kss.getD i [])) (ys.getD i .non)
 |[],ys,i,r,h=>by rw[Aav.mp r] at h;simp at h
 |k::kss,ys,0,r,h=>by
  obtain⟨v,t,rfl,r1,r2⟩:=Aan.mp r;exact r1
 |k::kss,ys,i+1,r,h=>by
  obtain⟨v,t,rfl,r1,r2⟩:=Aan.mp r;exact WZ i r2 (by simpa using h)
theorem WS(r:Aaw K H (kss.map iC) ys):∀ p:List Nat,(∀ i∈p,i<ys.length)->Aaw K H ((p.map fun i=>kss.getD i []).map iC) (sZ p ys)
 |[],_=>Aav.mpr rfl
 |i::p,h=>Aan.mpr ⟨_,_,rfl,WZ i r (h i bS),WS r p fun j m=>h j (cG _ m)⟩
def sNo:SF:=fun _=>ab
theorem Hr{s:cR}:DS X H0 P0 n0 s sNo:=fun ad st σ H D I q=>by
 obtain⟨B0,ρ,fp,o,S,ef,k⟩:=q;cases ef
theorem Kw {k k':aO}{v:aC}(r:RelV (kV k) u)(r':RelV (kV k') v):OQ u v (decide (k=k')):=by
 intro prog w A E s Q q;cases k with
 |inl i=>
  obtain⟨t,rfl⟩:=(show ∃ t,u=uR i t from r)
  cases k' with
  |inl j=>
   obtain⟨t',rfl⟩:=(show ∃ t,v=uR j t from r')
   refine SeqAt.EqAt.int_int i t j t' prog w E Q ?_;have:(i==j)=decide ((sN i:aO)=sN j):=by
    rw[yJ];simp
   rw[this];exact q
  |inr y=>
   obtain⟨t',rfl⟩:=(show ∃ t,v=uQ y t from r')
   exact SeqAt.EqAt.int_str i t y t' prog w E Q (by simpa using q)
 |inr x=>
  obtain⟨t,rfl⟩:=(show ∃ t,u=uQ x t from r)
  cases k' with
  |inl j=>
   obtain⟨t',rfl⟩:=(show ∃ t,v=uR j t from r')
   exact SeqAt.EqAt.str_int x t j t' prog w E Q (by simpa using q)
  |inr y=>
   obtain⟨t',rfl⟩:=(show ∃ t,v=uQ y t from r')
   refine SeqAt.EqAt.str_str x t y t' prog w E Q ?_;have:(x==y)=decide ((gL x:aO)=gL y):=by
    rw[yJ];simp
   rw[this];exact q
theorem Wr (l:aD)(us:Array aC)(n:Nat)(dd:Option aD)(sl:Array (Option aC))(x:aC)(e:aC->Bool)(he:∀ y,y∈us->OQ y x (e y))(iy:Int)(j:Nat)(hj:j<us.size)(ht:(j:Int)<iy)(zl:e us[j]=ae) :
  ∀ (k i:Nat),j-i=k->i≤j->(∀ m (hm:m<us.size),i≤m->m<j->e us[m]=af)->Meets (Builtin.«list.index.loop» ⟨[.ref l,x,dE i,dE iy],[]⟩)
   (fun _ R s=>s.heap.get? l=aa { cls:=.type "list",dict:=dd,data:=.seq us n,slots:=sl }/\R (.ok (.ret (.int j s.toks))) { s with toks:=s.toks+1 }):=by
 intro k;induction k with
 |zero=>
  intro i hk ul rj prog w A R s h;obtain⟨hp,g,d,tk,os⟩:=s;obtain⟨hl,h⟩:=h;obtain rfl:i=j:=by omega
  wp_walk using wpAny_loadPart' hl
  rw[show(if (i:Int)<iy then us[((i:Nat):Int).toNat]? else ab)=aa us[i] by simp[ht,hj]]
  refine aF (he _ (Array.getElem_mem hj) prog w _ _ _ _ ?_);rw[zl]
  wp_walk
  exact h
 |succ k ih=>
  intro i hk ul rj prog w A R s h;obtain⟨hp,g,d,tk,os⟩:=s;obtain⟨hl,h⟩:=h;have lt:i<us.size:=by omega
  have lo:(i:Int)<iy:=by omega
  wp_walk using wpAny_loadPart' hl
  rw[show(if (i:Int)<iy then us[((i:Nat):Int).toNat]? else ab)=aa us[i] by simp[lo,lt]]
  refine aF (he _ (Array.getElem_mem lt) prog w _ _ _ _ ?_);rw[rj i lt (cE _) (by omega)]
  wp_walk
  rw[show((i:Int)+1)=((i+1:Nat):Int) by push_cast;rfl]
  refine⟨qB OP _,oB MeetsSeq.entry_index_loop ?_⟩;rw[qK OP _];exact ih (i+1) (by omega) (by omega) (fun m hm h1 h2=>rj m hm (by omega) h2) prog w A R _ ⟨hl,h⟩
theorem Za (l:aD)(us:Array aC)(n:Nat)(dd:Option aD)(sl:Array (Option aC))(x:aC)(e:aC->Bool)(he:∀ y,y∈us->OQ y x (e y))(j:Nat)(hj:j<us.size)(small:(j:Int)<2^63-1)(zl:e us[j]=ae)(rj:∀ m (hm:m<us.size),m<j->e us[m]=af) :
  Meets (Builtin.«list.index» ⟨[.ref l,x],[]⟩) (fun _ R s=>s.heap.get? l=aa { cls:=.type "list",dict:=dd,data:=.seq us n,slots:=sl }/\R (.ok (.ret (.int j s.toks))) { s with toks:=s.toks+1 }):=by
 intro prog w A R s h;obtain⟨hp,g,d,tk,os⟩:=s;obtain⟨hl,h⟩:=h
 wp_walk using wpAny_loadPart' hl
 rw[show((fun i:Int=>if i<0 then max 0 (i+(us.size:Int)) else i) ((ab:Option Int).getD 0))=((0:Nat):Int) by simp,show((fun i:Int=>if i<0 then max 0 (i+(us.size:Int)) else i) ((ab:Option Int).getD (2^63-1)))=2^63-1 by simp]
 refine⟨qB OP _,oB MeetsSeq.entry_index_loop ?_⟩;rw[qK OP _];exact Wr l us n dd sl x e he (2^63-1) j hj small zl _ 0 rfl (dS _) (fun m hm _ h2=>rj m hm h2) prog w A R _ ⟨hl,h⟩
def v8 (ks:List aO)(k:aO):Option Nat:=ks.findIdx? fun y=>decide (y=k)
theorem Wt {ks:List aO}{k:aO}(h:v8 ks k=aa j):ks[j]?=aa k/\∀ m,m<j->ks[m]?≠aa k:=by
 obtain⟨hj,h1,h2⟩:=f6.mp h;refine⟨by rw[eI hj,of_decide_eq_true h1],fun m hm e=>?_⟩
 have:=h2 m hm;have hl:m<ks.length:=by omega
 rw[eI hl] at e;exact this (decide_eq_true (gY e))
theorem FW:∀ {ks:List aO} {us:List aC},Vals (ks.map kV) us->∀ (m:Nat) (hm:m<us.length),∃ k,ks[m]?=aa k/\RelV (kV k) us[m]
 |[],_,.nil,m,hm=>by simp at hm
 |k::ks,_::us,.cons h t,0,hm=>⟨k,rfl,h⟩
 |k::ks,_::us,.cons h t,m+1,hm=>by
  obtain⟨k',e,r⟩:=FW t m (by simpa using hm)
  exact⟨k',by simpa using e,by simpa using r⟩
def tf (k:aO)(u:aC):Bool:=match k,u with
 |.inl i,.int j _=>decide (j=i)
 |.inr x,.str y _=>decide (y=x)
 |_,_=>af
theorem JM {k k':aO}(r:RelV (kV k) u):tf k' u=decide (k=k'):=by
 cases k with
 |inl i=>
  obtain⟨t,rfl⟩:=(show ∃ t,u=uR i t from r)
  cases k' with
  |inl j=>simp[tf]
  |inr y=>simp[tf]
 |inr x=>
  obtain⟨t,rfl⟩:=(show ∃ t,u=uQ x t from r)
  cases k' with
  |inl j=>simp[tf]
  |inr y=>simp[tf]
def Nn (K:aM):V->List V->Hp->VK->Prop:=fun x vs H Q=>∃ p ks k j,x=.ref p/\vs=[kV k]/\SqL K H p (ks.map kV)/\v8 ks k=aa j/\Q (.int j) H
theorem a7 {ks:List aO}{k:aO}{us:List aC}{v:aC}(r:Vals (ks.map kV) us)(rk:RelV (kV k) v)(h:v8 ks k=aa j) :
  (∀ y,y∈us.toArray->OQ y v (tf k y))/\∃ hj:j<us.toArray.size,tf k us.toArray[j]=ae/\∀ m (hm:m<us.toArray.size),m<j->tf k us.toArray[m]=af:=by
 obtain⟨h1,h2⟩:=Wt h;have hl:ks.length=us.length:=by simpa using r.length
 have hj:j<us.length:=by rw[← hl];exact(dF.mp h1).1
 refine⟨fun y m=>?_,by simpa using hj,?_,fun m hm ce=>?_⟩
 ·obtain⟨i,hi,rfl⟩:=OZ (show y∈us by simpa using m)
  obtain⟨k',e,rr⟩:=FW r i hi;rw[JM rr];exact Kw rr rk
 ·obtain⟨k',e,rr⟩:=FW r j hj;rw[h1] at e;cases e;show tf k us[j]=ae;rw[JM rr];simp
 ·have q0:m<us.length:=by simpa using hm
  obtain⟨k',e,rr⟩:=FW r m q0;show tf k us[m]=af;rw[JM rr];exact decide_eq_false fun q=>h2 m ce (q ▸ e)
theorem Ys:S8 X "list.index" (Nn X.K):=by
 intro ad s σ H x vs v us Q I rx rv h;obtain⟨p,ks,k,j,rfl,rfl,hp,hj,q⟩:=h;cases rx;obtain⟨u,rfl,ru⟩:=rv.one;obtain⟨its,r,pl,hz⟩:=I.list hp;obtain⟨he,ce,zl,rj⟩:=a7 r ru hj;obtain⟨⟨cls,dd,data,sl⟩,n,e,hc,_,hd⟩:=pl;simp only at hc hd;subst hc hd;have hn:=tP;have lz:its.toArray.size≤sizeLine:=by rw[gG,← r.length];exact hz
 refine call_meets b6 ⟨_,e,rfl⟩ PySem.F.entry_list_index (PySem.F.args_list_index_2 _ _) (Za p its.toArray n dd sl u (tf k) he j ce (by omega) zl rj) ⟨e,⟨.int j,H,I.tok _,⟨_,rfl⟩,q⟩⟩
def tQ:List aA->Option (List aO)
 |[]=>aa []
 |d::r=>(dJ d).bind fun k=>(tQ r).bind fun ks=>aa (k::ks)
theorem YV:∀ {ds:List aA} {xs:List V} {ks:List aO},tQ ds=aa ks->Aaw K H ds xs->xs=ks.map kV
 |[],xs,ks,e,r=>by
  cases e;exact Aav.mp r
 |d::ds,xs,ks,e,r=>by
  obtain⟨k,e1,e2⟩:=ao (show((dJ d).bind fun k=>(tQ ds).bind fun ks=>aa (k::ks))=aa ks from e)
  obtain⟨jv,e3,e4⟩:=ao e2;cases e4;obtain⟨v,t,rfl,h1,h2⟩:=Aan.mp r;rw[rX e1 h1,YV e3 h2]
  rfl
def yR (ds:List aA)(d:aA):Option aA:=(tQ ds).bind fun ks=>(dJ d).bind fun k=>(v8 ks k).bind fun j=>aa (.int j)
section
variable {o k:bF}{fo fk:EF}{aw:cV}
theorem b5{r:aA}(h:yR ds d=aa r):∃ ks kk j,tQ ds=aa ks/\dJ d=aa kk/\v8 ks kk=aa j/\r=.int j:=by
 obtain⟨ks,e1,h⟩:=ao h;obtain⟨kk,e2,h⟩:=ao h;obtain⟨j,e3,h⟩:=ao h;cases h;exact⟨ks,kk,j,e1,e2,e3,rfl⟩
def EU:aA->aA->Option aA
 |.list ds,d=>yR ds d
 |_,_=>ab
theorem XD (ho:DE X o fo)(hk:DE X k fk)(gy:xS o "index" X.env (cD o X.env)=cD o X.env:=by rfl)
  (i4:((iI aw (bY (k::[]) X.env)).all (fun x=>!x.1)&&(xR aw (xP [] X.env)).all (fun x=>x.1.isSome)
   && decide ((k::[]).length+([]:List nD).length+(if ([]:List nD).isEmpty then 0 else 1)<30))=ae:=by rfl)
  (h9:(bq.endLine==aw.line)=ae:=by rfl) (hs:bY (k::[]) X.env=(af,cD k X.env)::bY [] X.env:=by rfl) (cv:(iI aw (bY [] X.env)).any (·.1)=af:=by rfl) :
  DE X (.Call (.Attribute o "index" bq) [k] [] aw) (ah EU fo fk):=
 PE.imp (BG Dc b6 PySem.F.type_list_index Ys ho (oW hk qP hs) gy i4 h9 hs cv) fun σ H Q gh=>by
  obtain⟨P,ρ,d,hP,rs,ef,kk⟩:=gh;obtain⟨d1,e1,cz⟩:=ao ef;obtain⟨d2,e2,de⟩:=ao cz;cases d1 with
  |list ds=>
   obtain⟨ks,key,j,g1,g2,g3,rfl⟩:=b5 (show yR ds d2=aa d from de)
   refine⟨P,ρ,_,hP,rs,e1,gJ fun v H1 x1 r1=>?_⟩
   obtain⟨q,ys,rfl,hq,rr⟩:=Abh.mp r1;obtain rfl:=YV g1 rr;refine⟨.inl ⟨rfl,_,Aa0.sqL hq⟩,P,ρ,d2,hP.ext x1,rs.ext (fD x1),e2,gJ fun u H2 x2 r2=>?_⟩
   exact⟨q,ks,key,j,rfl,by rw[rX g2 r2],x2.sqL (Aa0.sqL hq),g3,kk.zero (x1.trans x2) (Aax.mpr rfl)⟩
  |_=>cases de
theorem TF {j pos}:DF 1 X (.Constant .none j pos) (eC .none):=PE.imp Am fun σ H Q gh=>by
 rw[4];cases ef;exact k .non H [] Ext.refl .nil (fun a m=>by simp at m) ⟨rfl,Acm.mpr rfl⟩
end
open PySem
structure Sub (P:bP)(w:bG)(it:aD)(own:List aD)(St:Nat->aY->Prop)(xs:Array aC):Prop where
 mem:it∈own
 obj:∀ k h,St k h->∀ c∈own,∃ o,h.get? c=aa o
 keep:∀ k h h',St k h->(∀ c∈own,∀ o,h.get? c=aa o->h'.get? c=aa o)->St k h'
 item:∀ (A:bZ) (E:aC->aH->Prop) (s:aH) (Q:aC->aH->Prop) (k:Nat) (x:aC),St k s.heap->xs[k]?=aa x ->
  (∀ h',St (k+1) h'->nE it s.heap h'->Q x { s with heap:=h' })->aJ (aP P w) A (nF (.ref it)) Q E s
 done:∀ (A:bZ) (E:aC->aH->Prop) (s:aH) (Q:aC->aH->Prop) (k:Nat),A.handled=ab->St k s.heap->xs[k]?=ab ->
  (∀ h' e,PN it s.heap h'->(∃ o,h'.get? e=aa o/\o.cls=.type "StopIteration")->E (.ref e) { s with heap:=h' })->aJ (aP P w) A (nF (.ref it)) Q E s
section
theorem Vu {j t:aD}(hj:s.heap.IsTupleIter j t k)(ht:s.heap.IsTuple t us)(hu:us[k]?=aa u)
  (q:∀ h',h'.IsTupleIter j t (k+1)->nE j s.heap h'->Q u { s with heap:=h' }):aJ (aP P w) A (nF (.ref j)) Q E s:=by
 obtain⟨oj,g1,g2,g3⟩:=id hj;obtain⟨ot,t1,_,nt,t2⟩:=ht;unfold nF;refine aF (mB (name:=jZ "__next__") hj.typeIs PP (iH PP hj.typeIs F.entry_tuple_iterator_next ?_ (F.args_tuple_iterator_next_1 _)));show aJ _ _ (lP (.ref j) 0>>=_) _ _ s;refine aF (jS g1 g3 (x:=.ref t) rfl ?_);show aJ _ _ (if (fI t==cU)=ae then _ else _) _ E s
 have ne:¬ (fI t==cU)=ae:=oJ;rw[if_neg ne];show aJ _ _ (lP (.ref j) 1>>=_) _ _ s;refine aF (jS g1 g3 (x:=.int k 0) rfl ?_);show aJ _ _ (BO (.ref t)>>=_) _ E s;refine aF (kO t1 t2 ?_);simp only[lR,hu];refine aF (NS g1 g3 (by simp) (aQ ⟨u,rfl,aQ (q _ ⟨_,qJ _ g1 (Obj.isFreed_of_fields (OJ g3 _)),(Obj.cls_mapFields ..).trans g2,?_⟩ (yE ..))⟩))
 rw[OJ g3];simp[dE]
theorem Wh {j t:aD}(hh:A.handled=ab)(hj:s.heap.IsTupleIter j t k)(ht:s.heap.IsTuple t us)(hu:us[k]?=ab)
  (q:∀ h' e,PN j s.heap h'->(∃ o,h'.get? e=aa o/\o.cls=.type "StopIteration")->E (.ref e) { s with heap:=h' }):aJ (aP P w) A (nF (.ref j)) Q E s:=by
 obtain⟨oj,g1,g2,g3⟩:=id hj;obtain⟨ot,t1,_,nt,t2⟩:=ht;unfold nF;refine aF (mB (name:=jZ "__next__") hj.typeIs PP (iH PP hj.typeIs F.entry_tuple_iterator_next ?_ (F.args_tuple_iterator_next_1 _)));show aJ _ _ (lP (.ref j) 0>>=_) _ _ s;refine aF (jS g1 g3 (x:=.ref t) rfl ?_);show aJ _ _ (if (fI t==cU)=ae then _ else _) _ E s
 have ne:¬ (fI t==cU)=ae:=oJ;rw[if_neg ne];show aJ _ _ (lP (.ref j) 1>>=_) _ _ s;refine aF (jS g1 g3 (x:=.int k 0) rfl ?_);show aJ _ _ (BO (.ref t)>>=_) _ E s;refine aF (kO t1 t2 ?_);simp only[lR,hu];refine aF (lA (aF (NS g1 g3 (by simp) ?_)))
 show aJ _ _ (uJ (.type "StopIteration") []>>=_) _ E _;rw[9];simp only[uJ,BP];refine aF (lB ?_ (by size_fits))
 refine aF (m:=rA _ _) (xH (a:=cU) (by first|rfl|(simp only[rA];rfl)) ?_)
 refine lB ?_ (by size_fits)
 simp only[raiseNew];refine aF (HF ?_)
 first|rw[show A.in1.handled=ab from hh]|rw[hh]
 refine aF (aQ (HB (q _ _ (((yE ..).extBut.push _).push _) ⟨_,eD _ rfl,rfl⟩)))
theorem Ux (j t:aD)(us:Array aC)(ne:t≠j):Sub P w j [j,t] (fun k h=>h.IsTupleIter j t k/\h.IsTuple t us) us where
 mem:=bS
 obj:=fun k h ⟨⟨o,e,_⟩,⟨o',e',_⟩⟩ c hc=>by
  rcases dU.mp hc with rfl|hc
  ·exact⟨o,e⟩
  ·rw[dP.mp hc];exact⟨o',e'⟩
 keep:=fun k h h' ⟨⟨o,e,r⟩,⟨o',e',r'⟩⟩ kp=>⟨⟨o,kp j bS o e,r⟩,⟨o',kp t (by simp) o' e',r'⟩⟩
 item:=fun A E s Q k x ⟨a,b⟩ hx q=>Vu a b hx fun h' a' sb=>q h' ⟨a',b.extBut sb.extBut ne⟩ sb
 done:=fun A E s Q k hh ⟨a,b⟩ hx q=>Wh hh a b hx q
theorem Xh (j t:aD)(us:Array aC)(ne:t≠j):Sub P w j [j,t] (fun k h=>h.IsListIter j t k/\h.IsList t us) us where
 mem:=bS
 obj:=fun k h ⟨⟨o,e,_⟩,⟨o',e',_⟩⟩ c hc=>by
  rcases dU.mp hc with rfl|hc
  ·exact⟨o,e⟩
  ·rw[dP.mp hc];exact⟨o',e'⟩
 keep:=fun k h h' ⟨⟨o,e,r⟩,⟨o',e',r'⟩⟩ kp=>⟨⟨o,kp j bS o e,r⟩,⟨o',kp t (by simp) o' e',r'⟩⟩
 item:=fun A E s Q k x ⟨a,b⟩ hx q=>wpAny_nextOf_list_item a b hx fun h' a' sb=>q h' ⟨a',b.extBut sb.extBut ne⟩ sb
 done:=fun A E s Q k hh ⟨a,b⟩ hx q=>wpAny_nextOf_list_end hh a b hx q
structure ZApart (z TI TO i1 i2:aD)(o1 o2:List aD):Prop where
 TIz:TI≠z
 TOz:TO≠z
 TITO:TI≠TO
 TI1:TI≠i1
 TI2:TI≠i2
 i12:i1≠i2
 z1:z∉o1
 z2:z∉o2
 TO1:TO∉o1
 TO2:TO∉o2
 x12:i1∉o2
 x21:i2∉o1
variable {TI TO:aD}{xs ys:Array aC}
def qy (z TI TO i1 i2:aD)(S1 S2:Nat->aY->Prop)(f0:aC)(k:Nat)(h:aY):Prop:=
 qH h z TI TO f0/\mH h TI (.ref i1) (.ref i2)/\(∃ a b,mH h TO a b)/\S1 k h/\S2 k h
theorem Sub.but {it c:aD}{own:List aD}{St:Nat->aY->Prop}(U:Sub P w it own St us)(st:St k h)(hc:c∉own)(e:PN c h h'):St k h':=
 U.keep k h h' st fun b hb o g=>e b o (fun q=>hc (q ▸ hb)) g
theorem Wj(D:ZApart z TI TO i1 i2 o1 o2)(U:Sub P w i1 o1 S1 xs)(V:Sub P w i2 o2 S2 ys)(st:qy z TI TO i1 i2 S1 S2 .none k s.heap)(hx:xs[k]?=aa x)(hy:ys[k]?=aa y)
  (q:∀ h',qy z TI TO i1 i2 S1 S2 (dE s.heap.objs.size) (k+1) h'->mH h' s.heap.objs.size x y->h'.objs.size=s.heap.objs.size+1 ->
   (∀ c o,c≠z->c≠TO->c≠i1->c≠i2->s.heap.get? c=aa o->h'.get? c=aa o)->Q (.ref s.heap.objs.size) { s with heap:=h' }) :
  aJ (aP P w) A (Builtin.«zip.__next__» ⟨[.ref z],[]⟩) (fun fin s'=>∃ v,fin=.done (.ret v)/\Q v s') E s:=by
 obtain⟨gz,gI,⟨a,b,gO⟩,m3,ca⟩:=st;have z1:i1≠z:=fun e=>D.z1 (e ▸ U.mem)
 have z2:i2≠z:=fun e=>D.z2 (e ▸ V.mem)
 have t1:TO≠i1:=fun e=>D.TO1 (e ▸ U.mem)
 have t2:TO≠i2:=fun e=>D.TO2 (e ▸ V.mem)
 show aJ _ _ (lP (.ref z) 2>>=_) _ E s;refine aF (jS gz rfl (x:=.bool af) rfl ?_);show aJ _ _ (lP (.ref z) 3>>=_) _ E s;refine aF (jS gz rfl (x:=.ref TI) rfl (aF (kO gI rfl ?_)));show aJ _ _ (vF (.ref z)>>=_) _ E s;rw[9];unfold vF;refine aF (jS gz rfl (x:=.none) rfl (aQ ?_));rw[8];refine aF (lA (aF (jS gz rfl (x:=.ref TO) rfl ?_)));refine aF (mT gz (by simp) fun ha rp sa=>?_)
 replace rp:qH ha z TI TO .ellipsis:=rp;rw[9];simp only[Di,Dh,ID,PD];refine aF (aF (NT ?_));show aJ _ _ (nF (.ref i1)>>=_) _ _ _;refine aF (U.item _ _ _ _ k x (U.but m3 D.z1 sa.extBut) hx fun hb rq sb=>aQ ?_)
 have zm:mH hb TO a b:=sb.extBut _ _ t1 (sa.extBut _ _ D.TOz gO);refine aF (kO zm rfl (aF (Cf zm fun hc E9 sc=>?_)))
 replace E9:mH hc TO x b:=E9;refine aF (HE (aQ (aF (aF (NT ?_)))));show aJ _ _ (nF (.ref i2)>>=_) _ _ _;refine aF (V.item _ _ _ _ k y (V.but (V.but (V.but ca D.z2 sa.extBut) D.x12 sb.extBut) D.TO2 sc.extBut) hy fun hd wn sd=>aQ ?_)
 have V':mH hd TO x b:=sd.extBut _ _ t2 E9;refine aF (kO V' rfl (aF (Cf V' fun he Fa se=>?_)))
 replace Fa:mH he TO x y:=Fa;refine aF (HE (aQ (aQ ?_)));refine aF (kO Fa rfl (aF (NU ?_)));have size:he.objs.size=s.heap.objs.size:=by rw[se.1,sd.1,sc.1,sb.1,sa.1]
 have WF:qH he z TI TO .ellipsis:=se.extBut _ _ D.TOz.symm (sd.extBut _ _ z2.symm (sc.extBut _ _ D.TOz.symm (sb.extBut _ _ z1.symm rp)));have lg:∀ c o,c≠z->c≠TO->c≠i1->c≠i2->s.heap.get? c=aa o->he.get? c=aa o:=fun c o n1 n2 n3 n4 g=>se.extBut _ _ n2 (sd.extBut _ _ n4 (sc.extBut _ _ n2 (sb.extBut _ _ n3 (sa.extBut _ _ n1 g))))
 have LE:S1 (k+1) he:=U.but (U.but (U.but rq D.TO1 sc.extBut) D.x21 sd.extBut) D.TO1 se.extBut;have LT:S2 (k+1) he:=V.but wn D.TO2 se.extBut;have WP:z<he.objs.size:=cA WF;show aJ _ _ (g9 (.ref z) (.ref he.objs.size)>>=_) _ _ _;rw[9];unfold g9;have gzf:qH (he.push { cls:=.type "tuple",data:=.seq #[x,y] }) z TI TO .ellipsis:=cH _ WF;refine aF (mT gzf (by simp) fun hg L5 sg=>?_)
 replace L5:qH hg z TI TO (dE he.objs.size):=L5;refine mT L5 (by simp) fun hi F0 si=>?_
 replace F0:qH hi z TI TO (dE he.objs.size):=F0;have up:∀ c o,c≠z->he.get? c=aa o->hi.get? c=aa o:=fun c o n1 g=>si.extBut _ _ n1 (sg.extBut _ _ n1 (cH _ g))
 have gT:mH hi he.objs.size x y:=si.extBut _ _ (kB WP) (sg.extBut _ _ (kB WP) (eD _ rfl));have sz:hi.objs.size=he.objs.size+1:=by rw[si.1,sg.1,rF]
 have L8:S1 (k+1) hi:=U.keep _ _ _ LE fun c hc o g=>up c o (fun e=>D.z1 (e ▸ hc)) g
 have L9:S2 (k+1) hi:=V.keep _ _ _ LT fun c hc o g=>up c o (fun e=>D.z2 (e ▸ hc)) g
 rw[size] at F0 gT sz;refine aQ ⟨_,rfl,?_⟩;show Q (.ref he.objs.size) _;rw[size];exact q hi ⟨F0,up _ _ D.TIz (lg _ _ D.TIz D.TITO D.TI1 D.TI2 gI),⟨x,y,up _ _ D.TOz Fa⟩,L8,L9⟩ gT sz fun c o n1 n2 n3 n4 g=>up c o n1 (lg c o n1 n2 n3 n4 g)
theorem Xx {Q:Fin->aH->Prop}(hh:A.handled=ab)(D:ZApart z TI TO i1 i2 o1 o2)(U:Sub P w i1 o1 S1 xs)(V:Sub P w i2 o2 S2 ys)(st:qy z TI TO i1 i2 S1 S2 .none k s.heap)(jy:xs[k]?=ab\/ys[k]?=ab)
  (q:∀ h' e,(∀ c o,c≠z->c≠TO->c≠i1->c≠i2->s.heap.get? c=aa o->h'.get? c=aa o)->(∃ o,h'.get? e=aa o/\o.cls=.type "StopIteration")->E (.ref e) { s with heap:=h' }) :
  aJ (aP P w) A (Builtin.«zip.__next__» ⟨[.ref z],[]⟩) Q E s:=by
 obtain⟨gz,gI,⟨a,b,gO⟩,m3,ca⟩:=st;have z1:i1≠z:=fun e=>D.z1 (e ▸ U.mem)
 have z2:i2≠z:=fun e=>D.z2 (e ▸ V.mem)
 have t1:TO≠i1:=fun e=>D.TO1 (e ▸ U.mem)
 show aJ _ _ (lP (.ref z) 2>>=_) _ E s;refine aF (jS gz rfl (x:=.bool af) rfl ?_);show aJ _ _ (lP (.ref z) 3>>=_) _ E s;refine aF (jS gz rfl (x:=.ref TI) rfl (aF (kO gI rfl ?_)));show aJ _ _ (vF (.ref z)>>=_) _ E s;rw[9];unfold vF;refine aF (jS gz rfl (x:=.none) rfl (aQ ?_));rw[8];refine aF (lA (aF (jS gz rfl (x:=.ref TO) rfl ?_)));refine aF (mT gz (by simp) fun ha rp sa=>?_)
 replace rp:qH ha z TI TO .ellipsis:=rp;rw[9];simp only[Di,Dh,ID,PD];refine aF (aF (NT ?_));show aJ _ _ (nF (.ref i1)>>=_) _ _ _;have W0:∀ {h':aY} {e:aD},qH h' z TI TO .ellipsis->(∃ o,h'.get? e=aa o/\o.cls=.type "StopIteration")->e≠z:=fun g ⟨o,g1,g2⟩ n=>by
  subst n;rw[g] at g1;cases g1;simp at g2
 cases hx:xs[k]? with
 |none=>
  refine aF (U.done _ _ _ _ k hh (U.but m3 D.z1 sa.extBut) hx fun hb e sb he=>?_)
  have W1:qH hb z TI TO .ellipsis:=sb _ _ z1.symm rp;have ne:=W0 W1 he;obtain⟨o,g1,g2⟩:=he;exact mT W1 (by simp) fun hc _ sc=>q hc e (fun c o n1 _ n3 _ g=>sc.extBut _ _ n1 (sb _ _ n3 (sa.extBut _ _ n1 g))) ⟨o,sc.extBut _ _ ne g1,g2⟩
 |some x=>
  have hy:ys[k]?=ab:=jy.resolve_left fun h=>by rw[hx] at h;cases h
  refine aF (U.item _ _ _ _ k x (U.but m3 D.z1 sa.extBut) hx fun hb rq sb=>aQ ?_)
  have zm:mH hb TO a b:=sb.extBut _ _ t1 (sa.extBut _ _ D.TOz gO);refine aF (kO zm rfl (aF (Cf zm fun hc E9 sc=>?_)))
  refine aF (HE (aQ (aF (aF (NT ?_)))));show aJ _ _ (nF (.ref i2)>>=_) _ _ _;refine aF (V.done _ _ _ _ k hh (V.but (V.but (V.but ca D.z2 sa.extBut) D.x12 sb.extBut) D.TO2 sc.extBut) hy fun hd e sd he=>?_)
  have F1:qH hd z TI TO .ellipsis:=sd _ _ z2.symm (sc.extBut _ _ D.TOz.symm (sb.extBut _ _ z1.symm rp));have ne:=W0 F1 he;obtain⟨o,g1,g2⟩:=he;exact mT F1 (by simp) fun hf _ sf=>q hf e (fun c o n1 n2 n3 n4 g=>sf.extBut _ _ n1 (sd _ _ n4 (sc.extBut _ _ n2 (sb.extBut _ _ n3 (sa.extBut _ _ n1 g))))) ⟨o,sf.extBut _ _ ne g1,g2⟩
theorem UW{Q:Option aC->aH->Prop}(D:ZApart z TI TO i1 i2 o1 o2)(U:Sub P w i1 o1 S1 xs)(V:Sub P w i2 o2 S2 ys)(st:qy z TI TO i1 i2 S1 S2 .none k s.heap)(hx:xs[k]?=aa x)(hy:ys[k]?=aa y)
  (q:∀ h',qy z TI TO i1 i2 S1 S2 (dE s.heap.objs.size) (k+1) h'->mH h' s.heap.objs.size x y->h'.objs.size=s.heap.objs.size+1 ->
   (∀ c o,c≠z->c≠TO->c≠i1->c≠i2->s.heap.get? c=aa o->h'.get? c=aa o)->Q (aa (.ref s.heap.objs.size)) { s with heap:=h' }):aJ (aP P w) A (fZ (.ref z)) Q E s:=by
 have ty:s.TypeIs (.ref z) "zip":=⟨_,st.1,rfl⟩;unfold fZ;exact aF (nZ (mB (name:=jZ "__next__") ty vD (iH vD ty PV (Wj D U V st hx hy fun h' a1 a2 a3 a4=>aQ (q h' a1 a2 a3 a4)) (PX _))))
theorem TZ {Q:Option aC->aH->Prop}(hh:A.handled=ab)(D:ZApart z TI TO i1 i2 o1 o2)(U:Sub P w i1 o1 S1 xs)(V:Sub P w i2 o2 S2 ys)(st:qy z TI TO i1 i2 S1 S2 .none k s.heap)(jy:xs[k]?=ab\/ys[k]?=ab)
  (q:∀ h',(∀ c o,c≠z->c≠TO->c≠i1->c≠i2->s.heap.get? c=aa o->h'.get? c=aa o)->Q ab { s with heap:=h' }):aJ (aP P w) A (fZ (.ref z)) Q E s:=by
 have ty:s.TypeIs (.ref z) "zip":=⟨_,st.1,rfl⟩;unfold fZ;refine aF (nZ (mB (name:=jZ "__next__") ty vD (iH vD ty PV (Xx hh D U V st jy fun h' e kp ⟨o,g1,g2⟩=>?_) (PX _))))
 exact aF (qZ (T:="StopIteration") (b:=ae) ⟨o,g1,g2⟩ BQ (aQ (q _ kp)))
end
def SqB (b:Bool)(h:aY)(l:aD)(us:Array aC):Prop:=match b with
 |true=>h.IsList l us
 |false=>h.IsTuple l us
def xt (b:Bool)(l:aD):bI:={ cls:=.type (match b with|true=>"list_iterator" | false=>"tuple_iterator"),data:=.fields #[.ref l,.int 0 0] }
def StB (b:Bool)(j l:aD)(us:Array aC)(k:Nat)(h:aY):Prop:=match b with
 |true=>h.IsListIter j l k/\h.IsList l us
 |false=>h.IsTupleIter j l k/\h.IsTuple l us
theorem vX(b:Bool)(j l:aD)(us:Array aC)(ne:l≠j):Sub P w j [j,l] (StB b j l us) us:=by
 cases b with
 |true=>exact Xh j l us ne
 |false=>exact Ux j l us ne
theorem SqB.keep(q:SqB b h l us)(k:∀ o,h.get? l=aa o->h'.get? l=aa o):SqB b h' l us:=by
 cases b with
 |true=>
  obtain⟨o,e,r⟩:=q;exact⟨o,k o e,r⟩
 |false=>
  obtain⟨o,e,r⟩:=q;exact⟨o,k o e,r⟩
theorem StB.new{j:aD}(q:SqB b h l us)(e:h.get? j=aa (xt b l)):StB b j l us 0 h:=by
 cases b with
 |true=>exact⟨⟨_,e,rfl,rfl⟩,q⟩
 |false=>exact⟨⟨_,e,rfl,rfl⟩,q⟩
section
variable {l1 l2:aD}{xs ys:Array aC}
theorem Ak(h:SqB b s.heap l us)(q:Q (.ref s.heap.objs.size) { s with heap:=s.heap.push (xt b l) }):aJ (aP P w) A (oA (.ref l)) Q E s:=by
 cases b with
 |true=>exact Cj h q
 |false=>exact wpAny_pyIter_tuple h q
abbrev zA (b1:Bool)(h:aY)(l1:aD):aY:=h.push (xt b1 l1)
abbrev zB (b1 b2:Bool)(h:aY)(l1 l2:aD):aY:=(zA b1 h l1).push (xt b2 l2)
abbrev zC (b1 b2:Bool)(h:aY)(l1 l2:aD):aY:=(zB b1 b2 h l1 l2).push { cls:=.type "tuple",data:=.seq #[.ref h.objs.size,.ref (zA b1 h l1).objs.size] }
abbrev zD (b1 b2:Bool)(h:aY)(l1 l2:aD):aY:=(zC b1 b2 h l1 l2).push { cls:=.type "tuple",data:=.seq #[.none,.none] }
abbrev zE (b1 b2:Bool)(h:aY)(l1 l2:aD):aY:=(zD b1 b2 h l1 l2).push { cls:=.type "zip",data:=.fields #[.none,.bool af,.bool af,.ref (zB b1 b2 h l1 l2).objs.size,.ref (zC b1 b2 h l1 l2).objs.size] }
theorem Wk (b1 b2:Bool)(l1 l2:aD)(xs ys:Array aC) :
  Meets (Builtin.«zip.__new__» ⟨[.type "zip",.ref l1,.ref l2],[]⟩) (fun _ R s=>SqB b1 s.heap l1 xs/\SqB b2 s.heap l2 ys /\
   R (.ok (.ret (.ref (zD b1 b2 s.heap l1 l2).objs.size))) { s with heap:=zE b1 b2 s.heap l1 l2 }):=
 .of_wp fun prog w A R s h=>by
  obtain⟨hp,g,d,tk,os⟩:=s;obtain⟨q1,q2,q⟩:=h;have sz:=sub_zip;have u1:SqB b1 (Shared.heap ⟨hp,g,d,tk,os⟩) l1 xs:=q1;have u2:SqB b2 (Shared.heap ⟨hp.push (xt b1 l1),g,d,tk,os⟩) l2 ys:=q2.keep fun o e=>cH _ e
  wp_walk using Ak u1,Ak u2
  exact⟨_,rfl,q⟩
theorem Nx {l1 l2:Nat}(h1:l1<n)(h2:l2<n):ZApart (n+4) (n+2) (n+3) n (n+1) [n,l1] [n+1,l2]:=by
 have um:∀ {a b c:Nat},a≠b->a≠c->a∉[b,c]:=fun h h' m=>by
  rcases dU.mp m with m|m
  ·exact h m
  ·exact h' (dP.mp m)
 have ne:∀ {a b:Nat},a<b->a≠b:=dI;have en:∀ {a b:Nat},b<a->a≠b:=kB;exact⟨ne (by omega),ne (by omega),ne (by omega),en (by omega),en (by omega),ne (by omega),um (en (by omega)) (en (by omega)),um (en (by omega)) (en (by omega)),um (en (by omega)) (en (by omega)),um (en (by omega)) (en (by omega)),um (ne (by omega)) (en h2),um (en (by omega)) (en (by omega))⟩
theorem TN(h1:SqB b1 s.heap l1 xs)(h2:SqB b2 s.heap l2 ys)
  (q:∀ (z TI TO i1 i2:aD) (h':aY),s.heap.objs.size≤z->s.heap.objs.size≤TI->s.heap.objs.size≤TO->s.heap.objs.size≤i1->s.heap.objs.size≤i2->ZApart z TI TO i1 i2 [i1,l1] [i2,l2]->qy z TI TO i1 i2 (StB b1 i1 l1 xs) (StB b2 i2 l2 ys) .none 0 h' ->
   (∀ c o,s.heap.get? c=aa o->h'.get? c=aa o)->Q (.ref z) { s with heap:=h' }):aJ (aP P w) A (call (.type "zip") [.ref l1,.ref l2]) Q E s:=by
 refine callType_new F.called_zip (by decide) (F.typeCall_zip_2 _ _) (F.newCall_zip_2 _ _) (fun obj=>F.args_object_init_3 obj _ _) F.entry_zip_new (Wk b1 b2 l1 l2 xs ys) ⟨h1,h2,?_⟩
 have za:(zA b1 s.heap l1).objs.size=s.heap.objs.size+1:=rF ..;have zb:(zB b1 b2 s.heap l1 l2).objs.size=s.heap.objs.size+2:=by rw[rF,za]
 have zc:(zC b1 b2 s.heap l1 l2).objs.size=s.heap.objs.size+3:=by rw[rF,zb]
 have zd:(zD b1 b2 s.heap l1 l2).objs.size=s.heap.objs.size+4:=by rw[rF,zc]
 have g5:(zE b1 b2 s.heap l1 l2).get? (zD b1 b2 s.heap l1 l2).objs.size=aa _:=eD _ rfl;have g4:(zE b1 b2 s.heap l1 l2).get? (zC b1 b2 s.heap l1 l2).objs.size=aa _:=cH _ (eD _ rfl);have g3:(zE b1 b2 s.heap l1 l2).get? (zB b1 b2 s.heap l1 l2).objs.size=aa _:=cH _ (cH _ (eD _ rfl));have g2:(zE b1 b2 s.heap l1 l2).get? (zA b1 s.heap l1).objs.size=aa (xt b2 l2):=cH _ (cH _ (cH _ (eD _ (by cases b2<;>rfl))))
 have g1:(zE b1 b2 s.heap l1 l2).get? s.heap.objs.size=aa (xt b1 l1):=cH _ (cH _ (cH _ (cH _ (eD _ (by cases b1<;>rfl)))))
 have all:∀ c o,s.heap.get? c=aa o->(zE b1 b2 s.heap l1 l2).get? c=aa o:=fun c o x=>cH _ (cH _ (cH _ (cH _ (cH _ x))))
 have lt1:l1<s.heap.objs.size:=by
  cases b1 with
  |true=>obtain⟨o,e,_⟩:=h1;exact cA e
  |false=>obtain⟨o,e,_⟩:=h1;exact cA e
 have lt2:l2<s.heap.objs.size:=by
  cases b2 with
  |true=>obtain⟨o,e,_⟩:=h2;exact cA e
  |false=>obtain⟨o,e,_⟩:=h2;exact cA e
 refine⟨⟨_,g5,rfl⟩,q _ (zB b1 b2 s.heap l1 l2).objs.size (zC b1 b2 s.heap l1 l2).objs.size s.heap.objs.size (zA b1 s.heap l1).objs.size _ (by omega) (by omega) (by omega) (by omega) (by omega) ?_ ⟨g5,g3,⟨_,_,g4⟩,StB.new (h1.keep (all l1)) g1,StB.new (h2.keep (all l2)) g2⟩ all⟩
 have ap:=Nx lt1 lt2;rw[← za,← zb,← zc,← zd] at ap;exact ap
end
def ItB (b:Bool)(j l:aD)(k:Nat)(h:aY):Prop:=match b with
 |true=>h.IsListIter j l k
 |false=>h.IsTupleIter j l k
theorem Ahw{j:aD}:StB b j l us k h↔ItB b j l k h/\SqB b h l us:=by cases b<;>exact Iff.rfl
theorem ItB.get{j:aD}(q:ItB b j l k h):∃ o,h.get? j=aa o/\∀ v,o.data ≠ .cell v:=by
 cases b with
 |true=>
  obtain⟨o,e,_,d⟩:=q;exact⟨o,e,fun v z=>by rw[d] at z;cases z⟩
 |false=>
  obtain⟨o,e,_,d⟩:=q;exact⟨o,e,fun v z=>by rw[d] at z;cases z⟩
theorem ItB.keep{j:aD}(q:ItB b j l k h)(kp:∀ o,h.get? j=aa o->h'.get? j=aa o):ItB b j l k h':=by
 cases b with
 |true=>
  obtain⟨o,e,r⟩:=q;exact⟨o,kp o e,r⟩
 |false=>
  obtain⟨o,e,r⟩:=q;exact⟨o,kp o e,r⟩
def n6 (b:Bool)(K:aM)(H:Hp)(a:aD)(xs:List V):Prop:=match b with
 |true=>SqL K H a xs
 |false=>SqT K H a xs
section
variable {σ:St}
theorem Inv.sqB{xs:List V}(I:Inv X ad σ H s)(h:n6 b X.K H a xs):∃ its:List aC,Vals xs its/\SqB b s.heap a its.toArray:=by
 cases b with
 |true=>
  obtain⟨its,rv,p,_⟩:=I.list h;exact⟨its,rv,p.isList⟩
 |false=>
  obtain⟨its,rv,p,_⟩:=I.tuple h;exact⟨its,rv,p⟩
theorem Inv.sqV_inj{xs:List V}(I:Inv X ad σ H s)(h:n6 b X.K H a xs)(h':n6 b X.K H a ys):xs=ys:=by
 cases b with
 |true=>exact I.list_inj h h'
 |false=>exact I.tuple_inj h h'
theorem Inv.turnM {t':Nat}{fp:List aD}(I:Inv X ad σ H s)(hf:∀ b∈fp,lJ X ad H b)(k:∀ b o,b∉fp->s.heap.get? b=aa o->h'.get? b=aa o):Inv X ad σ H { s with heap:=h',toks:=t' }:=by
 have out:∀ b u,H b=aa u->b∉fp:=fun b u e m=>by
  rw[(hf b m).1] at e;cases e
 have loc:X.env.locals∉fp:=fun m=>(hf _ m).2.1 rfl
 refine I.step (g':=s.gens) (d':=s.drawn) (ch:=fp) (fun b m=>⟨(hf b m).2.2.2.1,(hf b m).2.1,(hf b m).2.2.2.2.1,(hf b m).2.2.2.2.2⟩) (fun b o _ _ n e _=>k b o n e) (fun b o _ _ n e _=>⟨o.slots,k b o n e⟩) (fun _ _ _ _ n=>n)
  (fun b o n e=>⟨o,k b o n e⟩) (fun _ _ e=>e) (fun _ _ _ e=>e) (fun b ps e=>⟨#[],by rw[e];simp⟩) (fun m hm=>?_) (fun b u e=>?_) I.bare
 ·obtain⟨o,es,ep,ho,r⟩:=hm;exact⟨o,es,ep,k _ o loc ho,r⟩
 ·refine(I.hok b u e).stay (fun c v hc q=>k c v ?_ q) (fun _ q=>q) fun _ _ q=>q
  rcases hc with z|z
  ·rw[z];exact out b u e
  ·exact out c _ z
end
def IK (K:aM)(b1 b2:Bool)(a1 a2:aD):It:=
  ⟨fun i H=>∃ xs ys x y,n6 b1 K H a1 xs/\n6 b2 K H a2 ys/\xs[i]?=aa x/\ys[i]?=aa y,
   fun i H v H'=>∃ T x y,H T=ab/\v=.ref T/\(∀ xs,n6 b1 K H a1 xs->xs[i]?=aa x)/\(∀ ys,n6 b2 K H a2 ys->ys[i]?=aa y)/\H'=ar H T (.tup [x,y]),
   fun i H=>∃ xs ys,n6 b1 K H a1 xs/\n6 b2 K H a2 ys/\(xs.length≤i\/ys.length≤i)⟩
def tnZ (b1 b2:Bool)(a1 a2 z TI TO i1 i2:aD)(i:Nat)(h:aY):Prop:=qH h z TI TO .none/\mH h TI (.ref i1) (.ref i2)/\(∃ a b,mH h TO a b)/\ItB b1 i1 a1 i h/\ItB b2 i2 a2 i h
theorem Xd{es:List bF}{cx}{pos:cV}{b1 b2:Bool}{a1 a2 z TI TO i1 i2:aD}(D:ZApart z TI TO i1 i2 [i1,a1] [i2,a2])(n1:a1≠i1)(n2:a2≠i2) :
  Turn P w K (.Tuple es cx pos) (IK K b1 b2 a1 a2) [z,TI,TO,i1,i2] z (tnZ b1 b2 a1 a2 z TI TO i1 i2) where
 mem:=by simp
 obj:=fun i h ⟨g1,g2,⟨a,b,g3⟩,g4,g5⟩ c hc=>by
  simp only[dU,CH,or_false] at hc;rcases hc with rfl|rfl|rfl|rfl|rfl
  ·exact⟨_,g1,fun v q=>by cases q⟩
  ·exact⟨_,g2,fun v q=>by cases q⟩
  ·exact⟨_,g3,fun v q=>by cases q⟩
  ·exact g4.get
  ·exact g5.get
 keep:=fun i h h' ⟨g1,g2,⟨a,b,g3⟩,g4,g5⟩ k=>⟨k z (by simp) _ g1,k TI (by simp) _ g2,⟨a,b,k TO (by simp) _ g3⟩,g4.keep (k i1 (by simp)),g5.keep (k i2 (by simp))⟩
 item:=by
  rw[2];obtain⟨xs,ys,x,y,q1,q2,hx,hy⟩:=hg;obtain⟨us,r1,s1⟩:=I.sqB q1;obtain⟨vs,r2,s2⟩:=I.sqB q2;obtain⟨u,hu,ru⟩:=r1.get hx;obtain⟨v,hv,rv⟩:=r2.get hy;obtain⟨g1,g2,⟨pa,pb,g3⟩,g4,g5⟩:=st;have qg:qy z TI TO i1 i2 (StB b1 i1 a1 us.toArray) (StB b2 i2 a2 vs.toArray) .none i s.heap:=⟨g1,g2,⟨pa,pb,g3⟩,Ahw.mpr ⟨g4,s1⟩,Ahw.mpr ⟨g5,s2⟩⟩;have zn:∀ b∈[z,TI,TO,i1,i2],b<s.heap.objs.size:=fun b m=>by
   simp only[dU,CH,or_false] at m;rcases m with rfl|rfl|rfl|rfl|rfl
   ·exact cA g1
   ·exact cA g2
   ·exact cA g3
   ·obtain⟨o,e,_⟩:=g4.get;exact cA e
   ·obtain⟨o,e,_⟩:=g5.get;exact cA e
  refine UW D (vX b1 i1 a1 us.toArray n1) (vX b2 i2 a2 vs.toArray n2) qg (x:=u) (y:=v) (by simpa using hu) (by simpa using hv) fun h' zt pr sz lg=>?_
  have fr:H s.heap.objs.size=ab:=I.hok.fresh (cE _);have I0:Inv X ad σ (ar H s.heap.objs.size (.tup [x,y])) { s with heap:=s.heap.push { cls:=.type "tuple",data:=.seq #[u,v] } }:=
   I.laid (t':=s.toks) (o:=.tup [x,y]) (fun b ob q=>cH _ q) (cE _) ⟨by show 2≤sizeLine;decide,[u,v],.cons ru (.cons rv .nil),Bcm.new _ _⟩
  have M0:∀ b∈[z,TI,TO,i1,i2],lJ X ad (ar H s.heap.objs.size (.tup [x,y])) b:=fun b m=>⟨by rw[fR (dI (zn b m))];exact(hf b m).1,(hf b m).2⟩
  have I1:Inv X ad σ (ar H s.heap.objs.size (.tup [x,y])) { s with heap:=h' }:=I0.turnM (t':=s.toks) M0 fun b o n e=>by
   simp only[dU,CH,or_false,not_or] at n;by_cases hb:b=s.heap.objs.size
   ·subst hb;have e':(s.heap.push { cls:=.type "tuple",data:=.seq #[u,v] }).get? s.heap.objs.size=aa { cls:=.type "tuple",data:=.seq #[u,v] }:=eD _ rfl;have:aa o=aa _:=e.symm.trans e';rw[this];exact pr
   ·exact lg b o n.1 n.2.2.1 n.2.2.2.1 n.2.2.2.2 ((Heap.get?_push_ne _ _ _ hb).symm.trans e)
  obtain⟨w1,w2,⟨wa,wb,w3⟩,w4,w5⟩:=zt;have z1:i1≠z:=fun e=>D.z1 (e ▸ bS)
  have z2:i2≠z:=fun e=>D.z2 (e ▸ bS)
  refine⟨_,rfl,wpAny_letOwnedTupleGo_zip w1 fun h2 gz sb=>?_⟩
  have I2:Inv X ad σ (ar H s.heap.objs.size (.tup [x,y])) { s with heap:=h2 }:=I1.turnM (t':=s.toks) M0 fun b o n e=>sb.extBut b o (fun q=>n (by simp[q])) e
  exact⟨.ref s.heap.objs.size,_,I2,rfl,⟨_,x,y,fr,rfl,fun mf h=>by rw[I.sqV_inj h q1];exact hx,fun ys' h=>by rw[I.sqV_inj h q2];exact hy,rfl⟩,
   ⟨gz,sb.extBut _ _ D.TIz w2,⟨wa,wb,sb.extBut _ _ D.TOz w3⟩,(Ahw.mp w4).1.keep fun o e=>sb.extBut _ _ z1 e,(Ahw.mp w5).1.keep fun o e=>sb.extBut _ _ z2 e⟩,fun b m=>(M0 b m).1⟩
 done:=by
  rw[2];obtain⟨xs,ys,q1,q2,hl⟩:=hg;obtain⟨us,r1,s1⟩:=I.sqB q1;obtain⟨vs,r2,s2⟩:=I.sqB q2;obtain⟨g1,g2,g3,g4,g5⟩:=st;have qg:qy z TI TO i1 i2 (StB b1 i1 a1 us.toArray) (StB b2 i2 a2 vs.toArray) .none i s.heap:=⟨g1,g2,g3,Ahw.mpr ⟨g4,s1⟩,Ahw.mpr ⟨g5,s2⟩⟩;have l1:=r1.length;have l2:=r2.length;refine TZ (I.ok.hd hc) D (vX b1 i1 a1 us.toArray n1) (vX b2 i2 a2 vs.toArray n2) qg ?_ fun h' lg=>⟨rfl,I.turnM (t':=s.toks) hf fun b o n e=>?_⟩
  ·rcases hl with hl|hl
   ·exact .inl (by simp;omega)
   ·exact .inr (by simp;omega)
  ·simp only[dU,CH,or_false,not_or] at n;exact lg b o n.1 n.2.2.1 n.2.2.2.1 n.2.2.2.2 e
 self:=fun _ _ _ _ _ st h=>Ci st.1 h
section
variable {a b:bF}{p wf:cV}{es:List bF}{cx:Nat}
def Ez (K:aM)(ta:TA):TI:=fun σ H R=>ta σ H fun vs H1=>∃ a1 a2 b1 b2 xs ys,vs=[.ref a1,.ref a2]/\n6 b1 K H1 a1 xs/\n6 b2 K H1 a2 ys/\R (IK K b1 b2 a1 a2) H1
theorem Ib(hg:Gl X "zip")(hm:X.mg "zip" = ab)(ha:PA X [a,b] ta)(hs:bY [a,b] X.env=[(af,cD a X.env),(af,cD b X.env)]:=by rfl)(lv:bY [b] X.env=[(af,cD b X.env)]:=by rfl) :
  PI X (.Tuple es cx wf) (.Call (.Name "zip" p) [a,b] [] pos) (Ez X.K ta):=by
 intro ad s σ H R I h;refine Call_ (rS I hg hm boot_zip (BV (bp (ha pos ad s σ H _ I h) fun us s1 ⟨vs,H1,I1,r1,q1⟩=>?_) (by rw[hs,lv]) (by rw[lv];rfl)))
 obtain⟨a1,a2,b1,b2,xs,ys,rfl,k1,k2,q⟩:=q1;cases r1 with
 |cons r rr=>
  cases rr with
  |cons r' rr=>
   cases rr;cases r;cases r';obtain⟨u1,_,w1⟩:=I1.sqB k1;obtain⟨u2,_,w2⟩:=I1.sqB k2;have m1:a1<s1.heap.objs.size:=by
    cases b1 with
    |true=>obtain⟨o,e,_⟩:=w1;exact cA e
    |false=>obtain⟨o,e,_⟩:=w1;exact cA e
   have m2:a2<s1.heap.objs.size:=by
    cases b2 with
    |true=>obtain⟨o,e,_⟩:=w2;exact cA e
    |false=>obtain⟨o,e,_⟩:=w2;exact cA e
   refine TN w1 w2 fun z TI TO i1 i2 h' y0 y1 y2 y3 y4 D qg all=>Ci qg.1 ?_
   refine⟨z,[z,TI,TO,i1,i2],_,_,H1,rfl,I1.kept (t':=s1.toks) all,Xd D (fun e=>?_) (fun e=>?_),⟨qg.1,qg.2.1,qg.2.2.1,(Ahw.mp qg.2.2.2.1).1,(Ahw.mp qg.2.2.2.2).1⟩,fun b m=>?_,q⟩
   ·exact lE _ (iK m1 (e ▸ y3))
   ·exact lE _ (iK m2 (e ▸ y4))
   ·have le:s1.heap.objs.size≤b:=by
     simp only[dU,CH,or_false] at m;rcases m with rfl|rfl|rfl|rfl|rfl<;>assumption
    exact I1.fpOk le (I1.hok.fresh le)
def oU:aA->Option (List aA)
 |.list ds=>aa ds
 |.tuple ds=>aa ds
 |_=>ab
def pairD (x y:aA):aA:=.tuple [x,y]
def iZ (fa:AF):AF:=fun ρ=>(fa ρ).bind fun ds=>match ds with
 |[x,y]=>(oU x).bind fun xs=>(oU y).bind fun ys=>aa (xV pairD xs ys)
 |_=>ab
theorem GB(e:oU d=aa ds)(r:Ab3 K B d v):∃ a b xs,v=.ref a/\(∀ H2,Ext B H2->n6 b K H2 a xs)/\Aaw K B ds xs:=by
 cases d with
 |list es=>
  cases e;obtain⟨a,xs,rfl,h,rr⟩:=Abh.mp r;exact⟨a,ae,xs,rfl,fun H2 x2=>x2.sqL h,rr⟩
 |tuple es=>
  cases e;obtain⟨a,xs,rfl,h,rr⟩:=Aa3.mp r;exact⟨a,af,xs,rfl,fun H2 x2=>SqT.of (x2 _ _ h),rr⟩
 |_=>cases e
theorem Ng{a1 a2:aD}{xs:List V}{es:List aA}(h1:∀ H2,Ext B H2->n6 b1 K H2 a1 xs)(h2:∀ H2,Ext B H2->n6 b2 K H2 a2 ys)(r1:Aaw K B ds xs)(r2:Aaw K B es ys) :
  sx K B (IK K b1 b2 a1 a2) (xV pairD ds es):=fun i H2 x2=>by
 refine⟨fun d hd=>?_,fun e=>⟨xs,ys,h1 H2 x2,h2 H2 x2,?_⟩⟩
 ·rw[List.getElem?_zipWith] at hd;cases c1:ds[i]? with
  |none=>rw[c1] at hd;simp at hd
  |some d1=>
   cases c2:es[i]? with
   |none=>rw[c1,c2] at hd;simp at hd
   |some d2=>
    rw[c1,c2] at hd;have hd:pairD d1 d2=d:=by simpa using hd
    subst hd;obtain⟨v1,g1,g2⟩:=r1.get c1;obtain⟨v2,g3,g4⟩:=r2.get c2;refine⟨⟨xs,ys,v1,v2,h1 H2 x2,h2 H2 x2,g1,g3⟩,?_⟩;rintro x H3 ⟨T,x',y',fr,rfl,k1,k2,rfl⟩;obtain rfl:v1=x':=gY (g1.symm.trans (k1 xs (h1 H2 x2)));obtain rfl:v2=y':=gY (g3.symm.trans (k2 ys (h2 H2 x2)));have ext:Ext H2 (ar H2 T (.tup [v1,v2])):=fun b u e=>by rw[fR (mR e fr)];exact e
    refine⟨ext,fun P2 hP2 xb=>?_⟩
    have nT:¬ P2 T:=fun q=>by
     rcases hP2 T q with⟨o,e⟩|⟨o,e⟩<;>rw[fr] at e<;>cases e
    have gT:hid (ar H2 T (.tup [v1,v2])) P2 T=aa (.tup [v1,v2]):=kU nT jR;have xx:Ext B (hid (ar H2 T (.tup [v1,v2])) P2):=xb.trans (fD ext);exact Aa3.mpr ⟨T,_,rfl,gT,Aan.mpr ⟨_,_,rfl,g2.ext xx,Aan.mpr ⟨_,_,rfl,g4.ext xx,Aav.mpr rfl⟩⟩⟩
 ·rw[List.length_zipWith] at e;rw[r1.length,r2.length];omega
theorem Ax(hg:Gl X "zip")(hm:X.mg "zip" = ab)(ha:DA X [a,b] fa)(hs:bY [a,b] X.env=[(af,cD a X.env),(af,cD b X.env)]:=by rfl)(lv:bY [b] X.env=[(af,cD b X.env)]:=by rfl) :
  DI X (.Tuple es cx wf) (.Call (.Name "zip" p) [a,b] [] pos) (iZ fa):=PI.imp (Ib hg hm ha hs lv) fun σ H R gh=>by
 obtain⟨P,ρ,ds,hP,rs,ef,k⟩:=gh;obtain⟨as,e1,cz⟩:=ao ef;clear ef
 match as,e1,cz with
 |[x,y],e1,cz=>
  obtain⟨xs,e2,de⟩:=ao (show((oU x).bind fun xs=>(oU y).bind fun ys=>aa (xV pairD xs ys))=aa ds from cz)
  obtain⟨ys,e3,j4⟩:=ao de;cases j4;refine⟨P,ρ,_,hP,rs,e1,fun vs H1 x1 r1=>?_⟩
  obtain⟨v,t,rfl,q1,q2⟩:=Aan.mp r1;obtain⟨v',rfl,q3⟩:=kZ q2;obtain⟨a1,b1,us,rfl,k1,w1⟩:=GB e2 q1;obtain⟨a2,b2,M1,rfl,k2,w2⟩:=GB e3 q3;exact⟨a1,a2,b1,b2,us,M1,rfl,k1 _ Aa0,k2 _ Aa0,k _ H1 x1 (Ng k1 k2 w1 w2)⟩
 |[],_,h=>cases h
 |[_],_,h=>cases h
 |_::_::_::_,_,h=>cases h
end
def Ls:V->List V->Hp->VK->Prop:=fun x vs H Q=>∃ d ep kvs k y,x=.ref d/\vs=[kV k,y]/\H d=aa (.dK ep kvs)/\kvs.length<sizeLine /\
 ((∃ u,jI kvs k=aa u/\Q u H)\/(jI kvs k=ab/\∀ n,Q y (ar H d (.dK n (putK kvs k y)))))
theorem a9:S7 X "dict.setdefault" Ls:=by
 intro ad s σ H x vs v us Q I rx rv h;obtain⟨d,ep,kvs,k,y,rfl,rfl,e,l,q⟩:=h;cases rx;cases rv with
 |cons rk rr=>
  cases rr with
  |cons ry rr=>
   cases rr;obtain⟨z,hd,ws,iq,dd⟩:=JD I.hok e;refine OB b7 dd.typeIs PySem.F.entry_dict_setdefault (PySem.F.args_dict_setdefault_3 _ _ _) (kt_meets_setdefault (iT X.prog X.w) d (tJ rk) hd _) ⟨ws,dd,by rw[← iq.length];exact z,fun w hw=>?_,fun hn h' ug sb=>?_⟩
   ·have rl:=iq.val k;rcases q with⟨u,hu,q⟩|⟨hu,q⟩
    ·rw[hu] at rl;obtain⟨w',e1,e2⟩:=rl.some_of;have e3:w'=w:=by rw[e1] at hw;exact gY hw
     subst e3;exact⟨u,H,I.tok _,e2,q⟩
    ·rw[hu] at rl;have:=rl.none_of;rw[this] at hw;cases hw
   ·have rl:=iq.val k;rcases q with⟨u,hu,q⟩|⟨hu,q⟩
    ·rw[hu] at rl;obtain⟨w',e1,e2⟩:=rl.some_of;rw[e1] at hn;cases hn
    ·have hl:(putK kvs k y).length≤sizeLine:=by have:=GG kvs k y;omega
     have he:∃ q,h'.get? d=aa q:=let ⟨q,_,_,hq,_⟩:=ug;⟨q,hq⟩;obtain⟨n,da⟩:=ug.dictAt;exact⟨y,_,JR I (by rw[e];exact rC) sb he (EG hl hd (iq.put k ry) da),ry,q n⟩
section
variable {c k v e2:bF}{fc:BF}{fk fv f2:EF}{x y:aE}{p1 p3 ap cp:cV}
def vb (i j:Nat)(mc:Md)(fc:BF)(mk:Md)(fk:EF)(mv:Md)(fv:EF)(m2:Md)(f2:EF):SF:=fun ρ=>(bV mc fc ρ).bind fun b=>if b=ae then
  (eV 0 mk fk ρ).bind fun kd=>(eV 0 mv fv ρ).bind fun d=>(dJ kd).bind fun key=>(gC j ρ).bind fun kds=>match d with
   | .int n=>if i<ρ.length/\kds.length<sizeLine then aa (.nx (match dW kds key with
    |some u=>ρ.set i (aa (0,u))
    | none=>(ρ.set j (aa (1,.dict (putD kds key (.int n))))).set i (aa (0,.int n)))) else ab
   |_=>ab
 else(eV 0 m2 f2 ρ).bind fun d=>if i<ρ.length then aa (.nx (ρ.set i (aa (0,d)))) else ab
theorem Hb (i j:Nat)(mc mk mv m2:Md)(hN:X.N.Nodup)(hc:DT X c fc)(hk:DE X k fk)(hv:DE X v fv)(he:DE X e2 f2)(hi:X.N[i]?=aa x:=by rfl)(hx:nH X.env.scope x:=by trivial)
  (hj:X.N[j]?=aa y:=by rfl) (hy:pP X.env.scope y:=by first|exact aZ rfl|exact bA (aZ rfl)|exact bA (bA rfl)) (hd:(y==("__debug__" : aE))=af:=by decide)
  (jx:(y==("__classdict__" : aE))=af:=by decide) (gy:xS (.Name y p2) "setdefault" X.env (cD (.Name y p2) X.env)=cD (.Name y p2) X.env:=by rfl)
  (i4:((iI cp (bY (k::[v]) X.env)).all (fun x=>!x.1)&&(xR cp (xP [] X.env)).all (fun x=>x.1.isSome)
   && decide ((k::[v]).length+([]:List nD).length+(if ([]:List nD).isEmpty then 0 else 1)<30))=ae:=by rfl)
  (h9:(ap.endLine==cp.line)=ae:=by rfl) (hs:bY (k::[v]) X.env=(af,cD k X.env)::bY [v] X.env:=by rfl) (lv:bY (v::[]) X.env=(af,cD v X.env)::bY [] X.env:=by rfl) (cv:(iI cp (bY [v] X.env)).any (·.1)=af:=by rfl)
  (uj:pE (.IfExp c (.Call (.Attribute (.Name y p2) "setdefault" ap) [k,v] [] cp) e2 p3) (aa (.Name x p1)) pos.line X.env=pure af:=by rfl) (hf:X.fn x=ae\/X.env.scope.names.lookup x=aa .local:=by first|exact .inl rfl|exact .inr rfl|assumption) :
  DS X H0 P0 n0 (.Assign [.Name x p1] (.IfExp c (.Call (.Attribute (.Name y p2) "setdefault" ap) [k,v] [] cp) e2 p3) pos) (vb i j mc fc mk fk mv fv m2 f2):=
 PS.imp (Aq hN hi hx (Ve (evB (H0:=H0) (P0:=P0) mc hc) (BG b8 b7 PySem.F.type_dict_setdefault a9 (rT hj hy hd jx) (oW (ev (H0:=H0) (P0:=P0) mk hk) (oW (ev (H0:=H0) (P0:=P0) mv hv) qP lv) hs) gy i4 h9 hs cv) (ev (H0:=H0) (P0:=P0) m2 he)) uj hf) fun D σ H gh=>by
  obtain⟨B0,ρ,fp,o,S,ef,kk⟩:=gh;obtain⟨b,e1,cz⟩:=ao ef;refine⟨B0,ρ,fp,b,S,e1,fun H1 S1=>?_⟩
  cases b with
  |false=>
   refine vM ?_;obtain⟨d,g1,g2⟩:=ao (show((eV 0 m2 f2 ρ).bind fun d=>if i<ρ.length then aa (Out.nx (ρ.set i (aa (0,d)))) else ab)=aa o from cz)
   obtain⟨hl,rfl⟩:=eQ g2;refine⟨B0,ρ,fp,d,S1,g1,fun u H2 t=>?_⟩
   obtain⟨iz,S'⟩:=t.set hl;exact kk _ _ iz S'
  |true=>
   refine vK ?_;obtain⟨kd,g1,de⟩:=ao (show((eV 0 mk fk ρ).bind fun kd=>(eV 0 mv fv ρ).bind fun d=>(dJ kd).bind fun key=>(gC j ρ).bind fun kds=>match d with
    | .int n=>if i<ρ.length/\kds.length<sizeLine then aa (Out.nx (match dW kds key with
     |some u=>ρ.set i (aa (0,u))
     | none=>(ρ.set j (aa (1,.dict (putD kds key (.int n))))).set i (aa (0,.int n)))) else ab
    | _=>ab)=aa o from cz)
   obtain⟨d,g2,j4⟩:=ao de;obtain⟨key,g3,tz⟩:=ao j4;obtain⟨kds,g4,W2⟩:=ao tz;clear ef cz de j4 tz;cases d with
   |int n=>
    obtain⟨⟨hl,hz⟩,rfl⟩:=eQ W2;obtain⟨p,ep,xs,h1,h2,_,_⟩:=S1.dic1 (FQ g4);refine⟨.ref p,h1,.inr (.inr (.inl ⟨rfl,.inl ⟨ep,xs,h2⟩⟩)),B0,ρ,fp,kd,S1,g1,fun v1 H2 gh=>?_⟩
    obtain⟨lu,S2,r2⟩:=gh;have ev1:v1=kV key:=rX g3 r2.2;refine⟨B0,ρ,lu,.int n,S2,g2,fun v2 H3 gh=>?_⟩
    obtain⟨fp3,S3,r3⟩:=gh;have ev2:v2=.int n:=Aax.mp r3.2;subst ev1 ev2;obtain⟨p3,K5,zh,q1,q2,q3,q4⟩:=S3.dic1 (FQ g4);have:p3=p:=by rw[h1] at q1;cases q1;rfl
    rw[10];refine⟨p3,K5,zh,key,.int n,rfl,rfl,q2,by rw[q3.length];exact hz,?_⟩
    rcases AC (k:=key) q3 with⟨n1,n2⟩|⟨d',v',s1,s2,rd⟩
    ·refine .inr ⟨n2,fun m=>?_⟩
     rw[n1] at kk;have S4:=q4 m _ _ (KD (k:=key) (d:=.int n) (v:=.int n) q3 (Aax.mpr rfl));obtain⟨iz,S'⟩:=S4.Ano (i:=i) (d:=.int n) (v:=.int n) (Aax.mpr rfl) (by simpa using hl)
     exact kk _ _ iz S'
    ·refine .inl ⟨v',s2,?_⟩;rw[s1] at kk;obtain⟨iz,S'⟩:=S3.Ano (i:=i) rd hl;exact kk _ _ iz S'
   |_=>cases W2
end
open PySem PySem.SetTable
def nG (xs:Array Nat):Prop:=∀ a b u v:Nat,a<b->xs[a]?=aa u->xs[b]?=aa v->u<v
theorem KU {xs:Array Nat}(hr:nG xs):∀ fuel lo hi,hi≤xs.size->lo≤hi->hi-lo≤fuel->(∀ k<lo,∀ v,xs[k]?=aa v->v<j)->(∀ k,hi≤k->∀ v,xs[k]?=aa v->j≤v) ->
  below.go xs j fuel lo hi≤xs.size/\(∀ k<below.go xs j fuel lo hi,∀ v,xs[k]?=aa v->v<j)/\∀ k,below.go xs j fuel lo hi≤k->∀ v,xs[k]?=aa v->j≤v
 |0,lo,hi,h1,h2,h3,hl,hh=>by
  have:lo=hi:=by omega
  rw[10];unfold below.go;exact⟨h1,hl,hh⟩
 |fuel+1,lo,hi,h1,h2,h3,hl,hh=>by
  unfold below.go;by_cases c:lo<hi
  ·rw[if_pos c];have hm:(lo+hi)/2<xs.size:=by omega
   have em:xs[(lo+hi)/2]?=aa xs[(lo+hi)/2]:=lF hm;have eg:xs.getD ((lo+hi)/2) j=xs[(lo+hi)/2]:=by simp[Array.getD,hm]
   simp only[eg];by_cases d:xs[(lo+hi)/2]<j
   ·rw[if_pos d];refine KU hr fuel _ _ h1 (by omega) (by omega) (fun k hk v ev=>?_) hh
    by_cases q:k=(lo+hi)/2
    ·subst q;rw[em] at ev;cases ev;exact d
    ·have:=hr k ((lo+hi)/2) v _ (by omega) ev em
     omega
   ·rw[if_neg d];refine KU hr fuel _ _ (by omega) (by omega) (by omega) hl (fun k hk v ev=>?_)
    by_cases q:k=(lo+hi)/2
    ·subst q;rw[em] at ev;cases ev;omega
    ·have:=hr ((lo+hi)/2) k _ v (by omega) em ev
     omega
  ·rw[if_neg c];have:lo=hi:=by omega
   rw[10];exact⟨h1,hl,hh⟩
theorem GA {xs:Array Nat}(hr:nG xs)(j:Nat):below xs j≤xs.size/\(∀ k<below xs j,∀ v,xs[k]?=aa v->v<j)/\∀ k,below xs j≤k->∀ v,xs[k]?=aa v->j≤v:=
 KU hr xs.size 0 xs.size (cE _) (dS _) (by omega) (fun k hk=>absurd hk (by omega)) (fun k hk v ev=>by
  have:=(vG.mp ev).1;omega)
theorem below_at {xs:Array Nat}(hr:nG xs)(h:xs[i]?=aa j):below xs j=i:=by
 obtain⟨h1,h2,h3⟩:=GA hr j;rcases HU (below xs j) i with q|q|q
 ·have hi:=(vG.mp h).1;have e:xs[below xs j]?=aa (xs[below xs j]'(by omega)):=lF (by omega)
  have a:=h3 _ (cE _) _ e;have b:=hr _ _ _ _ q e h;omega
 ·exact q
 ·have:=h2 i q j h;omega
theorem KA (j:Nat):has #[] j=af:=by simp[has]
theorem FX {t:fJ}(hd:t.dummies = #[])(hr:nG t.place):t.slot j=.live i↔t.place[i]?=aa j:=by
 unfold slot;rw[hd,KA];rw[7];constructor
 ·intro h;split at h
  ·rename_i c;cases h;simpa using c
  ·simp at h
 ·intro h;rw[below_at hr h,h];simp
theorem Ql {t:fJ}(hd:t.dummies = #[])(hr:nG t.place)(h:∀ i:Nat,t.place[i]?≠aa j):t.slot j=.empty:=by
 unfold slot;rw[hd,KA];rw[7];rw[if_neg (by simpa using h _)]
 rfl
def o6 (mask:Nat)(p:Probe):Probe:=if p.more > 0 then { p with j:=p.j+1,more:=p.more-1 } else
 { p with j:=(leap mask p.i p.perturb).1,more:=runEnd mask (leap mask p.i p.perturb).1-(leap mask p.i p.perturb).1,i:=(leap mask p.i p.perturb).1,perturb:=(leap mask p.i p.perturb).2 }
theorem ML (t:fJ)(p:Probe):t.advance p=o6 t.mask p:=by
 unfold advance o6
 rfl
def pN (mask:Nat)(p:Probe):Nat->Probe
 |0=>p
 |n+1=>o6 mask (pN mask p n)
theorem NO (mask:Nat)(p:Probe)(a:Nat):∀ b,pN mask (pN mask p a) b=pN mask p (a+b)
 |0=>rfl
 |b+1=>by
  show o6 mask (pN mask (pN mask p a) b)=o6 mask (pN mask p (a+b));rw[NO mask p a b]
def p7 (mask i per:Nat):Probe:={ j:=i,more:=runEnd mask i-i,i,perturb:=per,dummy:=ab }
theorem La (mask i:Nat):runEnd mask i-i≤9:=by
 unfold runEnd;split<;>omega
theorem JS (mask i per:Nat):∀ k,k≤runEnd mask i-i->pN mask (p7 mask i per) k={ j:=i+k,more:=runEnd mask i-i-k,i,perturb:=per,dummy:=ab }
 |0,_=>rfl
 |k+1,h=>by
  show o6 mask (pN mask (p7 mask i per) k)=_;rw[JS mask i per k (by omega)]
  unfold o6;rw[if_pos (by show runEnd mask i-i-k > 0;omega)]
  rfl
theorem VO (mask i per:Nat):pN mask (p7 mask i per) (runEnd mask i-i+1)=p7 mask (leap mask i per).1 (leap mask i per).2:=by
 show o6 mask (pN mask (p7 mask i per) (runEnd mask i-i))=_;rw[JS mask i per _ (cE _)];unfold o6;rw[if_neg (by show ¬ (runEnd mask i-i-(runEnd mask i-i) > 0);omega)]
 rfl
def lp (mask:Nat)(s:Nat×Nat):Nat->Nat×Nat
 |0=>s
 |m+1=>leap mask (lp mask s m).1 (lp mask s m).2
theorem TH (mask i per:Nat):∀ m,∃ n,n≤10*m/\pN mask (p7 mask i per) n=p7 mask (lp mask (i,per) m).1 (lp mask (i,per) m).2
 |0=>⟨0,by omega,rfl⟩
 |m+1=>by
  obtain⟨n,hn,e⟩:=TH mask i per m;have b:=La mask (lp mask (i,per) m).1;refine⟨n+(runEnd mask (lp mask (i,per) m).1-(lp mask (i,per) m).1+1),by omega,?_⟩
  rw[← NO,e,VO]
  rfl
theorem An (mask i per:Nat):∀ m,(lp mask (i,per) m).2=per/32^m
 |0=>by simp[lp]
 |m+1=>by
  show(lp mask (i,per) m).2/32=_;rw[An mask i per m,Nat.div_div_eq_div_mul,BZ]
def xu (mask:Nat)(i:Nat):Nat->Nat
 |0=>i
 |m+1=>(xu mask i m*5+1)%(mask+1)
def pU (mask:Nat):Prop:=mask=7\/mask=31\/mask=127\/mask=511\/mask=2047\/mask=8191
def gN (x:Nat):Nat->Nat
 |0=>x
 |m+1=>gN x m*5+1
theorem Ag (x a:Nat):∀ b,gN (gN x a) b=gN x (a+b)
 |0=>rfl
 |b+1=>by
  show gN (gN x a) b*5+1=gN x (a+b)*5+1;rw[Ag x a b]
theorem Bb (x:Nat):∀ m,4*gN x m+1=5^m*(4*x+1)
 |0=>by simp[gN]
 |m+1=>by
  show 4*(gN x m*5+1)+1=5^(m+1)*(4*x+1);have:=Bb x m;rw[BZ,Nat.mul_comm (5^m) 5,CA,← this];omega
theorem UA:∀ k,∃ q,5^2^k=1+2^k*(4*(2*q+1))
 |0=>⟨0,rfl⟩
 |k+1=>by
  obtain⟨q,e⟩:=UA k;refine⟨q+2^k*((2*q+1)*(2*q+1)),?_⟩;rw[BZ 2 k,Nat.mul_comm (2^k) 2,Nat.two_mul,Nat.pow_add,e];generalize 2^k=M;generalize hu:2*q+1=u;have e2:2*(q+M*(u*u))+1=u+2*(M*(u*u)):=by omega
  rw[e2];have h1:M*(4*u)*(M*(4*u))=16*(M*(M*(u*u))):=by
   rw[show M*(4*u)=4*(M*u) by rw[De],OL]
   rw[show M*u*(M*u)=M*(M*(u*u)) by rw[OL,CA]]
  have h2:(M+M)*(4*(u+2*(M*(u*u))))=8*(M*u)+16*(M*(M*(u*u))):=by
   rw[← Nat.two_mul,HS 4,HS];rw[show 2*M*(4*u)=8*(M*u) by rw[OL]]
   rw[show 4*(2*(M*(u*u)))=8*(M*(u*u)) by omega,OL]
  rw[Nat.add_mul,HS,HS,h1,h2,show M*(4*u)=4*(M*u) by rw[De]]
  omega
theorem Ku (x k:Nat):∃ q,gN x (2^k)=x+2^k*(2*q+1):=by
 obtain⟨q,e⟩:=UA k;have h:=Bb x (2^k);rw[e] at h;refine⟨q*(4*x+1)+2*x,?_⟩;have e2:2*(q*(4*x+1)+2*x)+1=(2*q+1)*(4*x+1):=by
  rw[Nat.add_mul,HS 2,← CA 2 q];omega
 rw[e2];generalize 2^k=M at h;generalize(2*q+1)=u at h;rw[Nat.add_mul,Nat.one_mul,show M*(4*u)*(4*x+1)=4*(M*(u*(4*x+1))) by rw[De M 4 u,CA,CA]] at h
 omega
theorem Ao:∀ (k x e:Nat),∃ m,m<2^k/\gN x m%2^k=e%2^k
 |0,x,e=>⟨0,by simp,by simp[Nat.mod_one]⟩
 |k+1,x,e=>by
  obtain⟨m,hm,h⟩:=Ao k x e;have hM:0<2^k:=Nat.two_pow_pos k;have sp:∀ y:Nat,y%2^(k+1)=y%2^k+2^k*(y/2^k%2):=fun y=>by rw[BZ,Nat.mod_mul]
  have hp:2^(k+1)=2^k+2^k:=by rw[BZ];omega
  by_cases c:gN x m/2^k%2=e/2^k%2
  ·exact⟨m,by omega,by rw[sp,sp,h,c]⟩
  ·obtain⟨q,hq⟩:=Ku (gN x m) k;refine⟨m+2^k,by omega,?_⟩
   rw[← Ag,hq,sp,sp,Nat.add_mul_mod_self_left,Nat.add_mul_div_left _ _ hM,h]
   congr 2
   omega
theorem Aj (mask i:Nat)(hi:i≤mask):∀ m,xu mask i m=gN i m%(mask+1)
 |0=>by
  show i=i%(mask+1);exact(Nat.mod_eq_of_lt (by omega)).symm
 |m+1=>by
  show(xu mask i m*5+1)%(mask+1)=(gN i m*5+1)%(mask+1);rw[Aj mask i hi m];simp[Nat.add_mod,Nat.mul_mod]
theorem wF(hk:mask+1=2^k){e:Nat}(hi:i≤mask)(he:e≤mask):∃ m,m≤mask/\xu mask i m=e:=by
 obtain⟨m,h1,h2⟩:=Ao k i e;refine⟨m,by omega,?_⟩
 rw[Aj mask i hi,hk,h2,← hk];exact Nat.mod_eq_of_lt (by omega)
theorem Kq(hm:pU mask){e:Nat}(hi:i≤mask)(he:e≤mask):∃ m,m≤mask/\xu mask i m=e:=by
 rcases hm with rfl|rfl|rfl|rfl|rfl|rfl
 ·exact wF (k:=3) rfl hi he
 ·exact wF (k:=5) rfl hi he
 ·exact wF (k:=7) rfl hi he
 ·exact wF (k:=9) rfl hi he
 ·exact wF (k:=11) rfl hi he
 ·exact wF (k:=13) rfl hi he
theorem SN (h:Int):bits h<2^64:=by
 unfold bits;have:=Int.emod_lt_of_pos h (show(0:Int)<2^64 by decide)
 have:=Int.emod_nonneg h (show(2^64:Int)≠0 by decide)
 omega
theorem Ah(hp:per<2^64):∀ m,(lp mask (i,per) (13+m)).1=xu mask (lp mask (i,per) 13).1 m
 |0=>rfl
 |m+1=>by
  show((lp mask (i,per) (13+m)).1*5+1+(lp mask (i,per) (13+m)).2/32)%(mask+1)=(xu mask (lp mask (i,per) 13).1 m*5+1)%(mask+1);rw[Ah hp m,An];have:per/32^(13+m)=0:=by
   apply Nat.div_eq_of_lt;refine iK hp ?_;rw[Nat.pow_add]
   calc 2^64≤32^13:=by decide
    _≤32^13*32^m:=c9 _ (Nat.pow_pos (by decide))
  rw[this]
theorem Gy:∀ m,0<m->(lp mask (i,per) m).1≤mask
 |0,h=>absurd h (by omega)
 |m+1,_=>by
  show((lp mask (i,per) m).1*5+1+(lp mask (i,per) m).2/32)%(mask+1)≤mask;have:=xT ((lp mask (i,per) m).1*5+1+(lp mask (i,per) m).2/32) (show 0<mask+1 by omega)
  omega
theorem TU(hm:pU mask){e:Nat}(hp:per<2^64)(he:e≤mask):∃ m,m≤13+mask/\(lp mask (i,per) m).1=e:=by
 obtain⟨m,h1,h2⟩:=Kq hm (Gy (mask:=mask) (i:=i) (per:=per) 13 (by omega)) he
 exact⟨13+m,by omega,by rw[Ah hp];exact h2⟩
def rd (mask:Nat)(h:Int)(n:Nat):Probe:=pN mask (p7 mask (bits h%(mask+1)) (bits h)) n
theorem TR(hm:pU mask)(h:Int){e:Nat}(he:e≤mask):∃ n,n<10*turns mask/\(rd mask h n).j=e:=by
 obtain⟨m,h1,h2⟩:=TU hm (i:=bits h%(mask+1)) (SN h) he;obtain⟨n,h3,h4⟩:=TH mask (bits h%(mask+1)) (bits h) m;refine⟨n,by unfold turns;omega,?_⟩
 unfold rd;rw[h4];exact h2
theorem Ot (mask:Nat)(p:Probe):(o6 mask p).dummy=p.dummy:=by
 unfold o6;split<;>rfl
theorem VG (mask:Nat)(h:Int):∀ n,(rd mask h n).dummy=ab
 |0=>rfl
 |n+1=>by
  show(o6 mask (rd mask h n)).dummy=ab;rw[Ot];exact VG mask h n
def kN (t:fJ)(j:Nat):Prop:=∃ i:Nat,t.place[i]?=aa j
structure Good (t:fJ)(es:Array (Int×aC)):Prop where
 small:pU t.mask
 nod:t.dummies = #[]
 ris:nG t.place
 len:t.place.size=es.size
 inb:∀ i j:Nat,t.place[i]?=aa j->j≤t.mask
 room:es.size≤t.mask
 reach:∀ (i j:Nat) (e:Int×aC),t.place[i]?=aa j->es[i]?=aa e->∃ n,(rd t.mask e.1 n).j=j/\∀ m<n,kN t (rd t.mask e.1 m).j
theorem rank {xs:Array Nat}(hr:nG xs):∀ e,(∀ v≤e,∃ i:Nat,xs[i]?=aa v)->∃ i:Nat,xs[i]?=aa e/\e≤i
 |0,h=>by
  obtain⟨i,q⟩:=h 0 (cE _);exact⟨i,q,dS _⟩
 |e+1,h=>by
  obtain⟨i,q,hi⟩:=rank hr e fun v hv=>h v (by omega)
  obtain⟨k,qk⟩:=h (e+1) (cE _);refine⟨k,qk,?_⟩;rcases HU i k with c|c|c
  ·omega
  ·subst c;rw[q] at qk;simp at qk
  ·have:=hr k i _ _ c qk q;omega
theorem Good.empty {t:fJ}(G:Good t es):∃ e,e≤t.mask/\¬ kN t e:=by
 apply yH;intro hn;have ck:∀ v≤t.mask,∃ i:Nat,t.place[i]?=aa v:=fun v hv=>yH fun q=>hn ⟨v,hv,q⟩
 obtain⟨i,q,hi⟩:=rank G.ris t.mask ck;have h1:=(vG.mp q).1;have h2:=G.len;have h3:=G.room;omega
theorem VS {t:fJ}(h:¬ kN t j):∀ i:Nat,t.place[i]?≠aa j:=fun i e=>h ⟨i,e⟩
section
variable {t:fJ}{hashAt:Nat->Int}{h:Int}
theorem UF (hd:t.dummies = #[])(hr:nG t.place):∀ k n fuel,k<fuel->(∀ m,n≤m->m<n+k->∃ i:Nat,t.place[i]?=aa (rd t.mask h m).j/\hashAt i≠h)->¬ kN t (rd t.mask h (n+k)).j ->
  probe.go t hashAt h fuel (rd t.mask h n)=aa (.empty (rd t.mask h (n+k)).j ab)
 |_,_,0,hf,_,_=>absurd hf (by omega)
 |0,n,fuel+1,_,_,he=>by
  rw[OO] at he ⊢;unfold probe.go;rw[Ql hd hr (VS he),VG]
  rfl
 |k+1,n,fuel+1,hf,hm,he=>by
  obtain⟨i,e,fu⟩:=hm n (cE _) (by omega)
  unfold probe.go;rw[(FX hd hr).mpr e];rw[7];rw[if_neg (by simpa using fu),ML]
  have:=UF hd hr k (n+1) fuel (by omega) (fun m a b=>hm m (by omega) (by omega)) (by rw[show n+1+k=n+(k+1) by omega];exact he)
  rw[show n+1+k=n+(k+1) by omega] at this
  exact this
theorem Bf (hd:t.dummies = #[])(hr:nG t.place){i0:Nat}(h0:hashAt i0=h):∀ k n fuel,k<fuel->(∀ m,n≤m->m<n+k->∃ i:Nat,t.place[i]?=aa (rd t.mask h m).j/\hashAt i≠h)->t.place[i0]?=aa (rd t.mask h (n+k)).j ->
  probe.go t hashAt h fuel (rd t.mask h n)=aa (.candidate (rd t.mask h (n+k)).j i0 (rd t.mask h (n+k+1)))
 |_,_,0,hf,_,_=>absurd hf (by omega)
 |0,n,fuel+1,_,_,he=>by
  rw[OO] at he ⊢;unfold probe.go;rw[(FX hd hr).mpr he];rw[7];rw[if_pos (by simpa using h0),ML]
  rfl
 |k+1,n,fuel+1,hf,hm,he=>by
  obtain⟨i,e,fu⟩:=hm n (cE _) (by omega)
  unfold probe.go;rw[(FX hd hr).mpr e];rw[7];rw[if_neg (by simpa using fu),ML]
  have:=Bf hd hr h0 k (n+1) fuel (by omega) (fun m a b=>hm m (by omega) (by omega)) (by rw[show n+1+k=n+(k+1) by omega];exact he)
  rw[show n+1+k=n+(k+1) by omega] at this
  exact this
theorem XY (S:Nat->Prop):∀ d n,S (n+d)->∃ k,k≤d/\(∀ m,n≤m->m<n+k->¬ S m)/\S (n+k)
 |0,n,h=>⟨0,cE _,fun m a b=>absurd b (by omega),h⟩
 |d+1,n,h=>by
  by_cases c:S n
  ·exact⟨0,dS _,fun m a b=>absurd b (by omega),c⟩
  ·obtain⟨k,h1,h2,h3⟩:=XY S d (n+1) (by rw[show n+1+d=n+(d+1) by omega];exact h)
   refine⟨k+1,by omega,fun m a b=>?_,by rw[show n+(k+1)=n+1+k by omega];exact h3⟩
   by_cases q:m=n
   ·subst q;exact c
   ·exact h2 m (by omega) (by omega)
theorem Good.next(G:Good t es)(h:Int)(hv:∀ m<n,kN t (rd t.mask h m).j):∃ k,n+k<10*turns t.mask/\(∀ m,n≤m->m<n+k->∃ i:Nat,t.place[i]?=aa (rd t.mask h m).j/\hashAt i≠h) /\
  ((¬ kN t (rd t.mask h (n+k)).j/\t.probe hashAt h (rd t.mask h n)=aa (.empty (rd t.mask h (n+k)).j ab)) \/
   ∃ i:Nat,t.place[i]?=aa (rd t.mask h (n+k)).j/\hashAt i=h/\t.probe hashAt h (rd t.mask h n)=aa (.candidate (rd t.mask h (n+k)).j i (rd t.mask h (n+k+1)))):=by
 obtain⟨e,he,fu⟩:=G.empty;obtain⟨N,hN,eN⟩:=TR G.small h he;have W3:n≤N:=by
  rcases uX N n with c|c
  ·exact absurd (eN ▸ hv N c) fu
  ·exact c
 obtain⟨d,rfl⟩:=Nat.exists_eq_add_of_le W3;obtain⟨k,hk,h1,h2⟩:=XY (fun m=>¬ kN t (rd t.mask h m).j\/∃ i:Nat,t.place[i]?=aa (rd t.mask h m).j/\hashAt i=h) d n (.inl (by rw[eN];exact fu))
 have hm:∀ m,n≤m->m<n+k->∃ i:Nat,t.place[i]?=aa (rd t.mask h m).j/\hashAt i≠h:=fun m a b=>by
  have q:=h1 m a b;obtain⟨i,ei⟩:=yH fun z=>q (.inl z)
  exact⟨i,ei,fun z=>q (.inr ⟨i,ei,z⟩)⟩
 refine⟨k,by omega,hm,?_⟩
 rcases h2 with h2|⟨i,ei,hi⟩
 ·exact .inl ⟨h2,UF G.nod G.ris k n _ (by omega) hm h2⟩
 ·exact .inr ⟨i,ei,hi,Bf G.nod G.ris hi k n _ (by omega) hm ei⟩
end
theorem RI (mask:Nat)(h:Int):∀ n,(rd mask h n).j+(rd mask h n).more≤mask
 |0=>by
  show bits h%(mask+1)+(runEnd mask (bits h%(mask+1))-bits h%(mask+1))≤mask;have:=xT (bits h) (show 0<mask+1 by omega)
  unfold runEnd;split<;>omega
 |n+1=>by
  have ih:=RI mask h n;show(o6 mask (rd mask h n)).j+(o6 mask (rd mask h n)).more≤mask;unfold o6;split
  ·show(rd mask h n).j+1+((rd mask h n).more-1)≤mask;omega
  ·show(leap mask (rd mask h n).i (rd mask h n).perturb).1+(runEnd mask (leap mask (rd mask h n).i (rd mask h n).perturb).1-(leap mask (rd mask h n).i (rd mask h n).perturb).1)≤mask;have:(leap mask (rd mask h n).i (rd mask h n).perturb).1<mask+1:=xT _ (by omega)
   unfold runEnd;split<;>omega
theorem Ha (mask:Nat)(h:Int)(n:Nat):(rd mask h n).j≤mask:=by
 have:=RI mask h n;omega
theorem wJ {α:Type}(xs:Array α){p:Nat}(hp:p≤xs.size)(x:α)(k:Nat):(insertAt xs p x)[k]?=if k<p then xs[k]? else if k=p then aa x else xs[k-1]?:=by
 rw[← lT,toList_insertAt];by_cases c:k<p
 ·rw[if_pos c,yB (by rw[oG,jU];omega),d9 c,lT]
 ·rw[if_neg c,vB (by rw[oG,jU];omega),oG,jU,xU hp]
  by_cases d:k=p
  ·subst d;simp
  ·rw[if_neg d];obtain⟨r,rfl⟩:∃ r,k=p+1+r:=⟨k-p-1,by omega⟩
   rw[show p+1+r-p=r+1 by omega,pL,IC,lT,show p+1+r-1=p+r by omega]
theorem Lj {xs:Array Nat}(hr:nG xs)(hj:∀ i:Nat,xs[i]?≠aa j):nG (insertAt xs (below xs j) j):=by
 obtain⟨h1,h2,h3⟩:=GA hr j;intro a b u v mh ea eb;rw[wJ xs h1] at ea eb;have lt_of:∀ k w,below xs j≤k->xs[k]?=aa w->j<w:=fun k w hk e=>by
  have a:=h3 k hk w e;rcases uX j w with c|c
  ·exact c
  ·have:w=j:=by omega
   rw[10];exact absurd e (hj k)
 split at ea
 ·split at eb
  ·exact hr a b u v mh ea eb
  ·split at eb
   ·cases eb;exact h2 a (by omega) u ea
   ·exact Nat.lt_trans (h2 a (by omega) u ea) (lt_of _ v (by omega) eb)
 ·split at ea
  ·cases ea;rw[if_neg (by omega),if_neg (by omega)] at eb
   exact lt_of _ v (by omega) eb
  ·rw[if_neg (by omega),if_neg (by omega)] at eb
   exact hr (a-1) (b-1) u v (by omega) ea eb
theorem FH {α:Type}(xs:Array α)(p:Nat)(x:α):(insertAt xs p x).size=xs.size+1:=by
 rw[← jU,(insertAt_perm xs p x).length_eq,jU,Array.size_push]
theorem Ig {t:fJ}(hd:t.dummies = #[])(j:Nat):t.put j=({ t with place:=insertAt t.place (below t.place j) j },below t.place j):=by
 unfold put;rw[hd,KA];cases t;simp at hd;subst hd
 rfl
theorem Good.put {t:fJ}(G:Good t es){h:Int}(hv:∀ m<n,kN t (rd t.mask h m).j)(hn:¬ kN t (rd t.mask h n).j)  (pv:es.size<t.mask)(pl:Bool) :
  Good { t with place:=insertAt t.place (below t.place (rd t.mask h n).j) (rd t.mask h n).j,plain:=pl } (insertAt es (below t.place (rd t.mask h n).j) (h,x)):=by
 have hb:=(GA G.ris (rd t.mask h n).j).1;have uf:below t.place (rd t.mask h n).j≤es.size:=by rw[← G.len];exact hb
 have mono:∀ j,kN t j->∃ i:Nat,(insertAt t.place (below t.place (rd t.mask h n).j) (rd t.mask h n).j)[i]?=aa j:=fun j gh=>by
  obtain⟨i,e⟩:=gh;by_cases c:i<below t.place (rd t.mask h n).j
  ·exact⟨i,by rw[wJ _ hb,if_pos c];exact e⟩
  ·exact⟨i+1,by rw[wJ _ hb,if_neg (by omega),if_neg (by omega)];exact e⟩
 refine⟨G.small,G.nod,Lj G.ris (VS hn),?_,fun i j e=>?_,?_,fun i j e ei ee=>?_⟩
 ·show(insertAt _ _ _).size=(insertAt _ _ _).size;rw[FH,FH,G.len]
 ·have e':(insertAt t.place (below t.place (rd t.mask h n).j) (rd t.mask h n).j)[i]?=aa j:=e;rw[wJ _ hb] at e';split at e'
  ·exact G.inb i j e'
  ·split at e'
   ·cases e';exact Ha _ _ _
   ·exact G.inb _ j e'
 ·rw[FH];exact pv
 ·have nu:(insertAt t.place (below t.place (rd t.mask h n).j) (rd t.mask h n).j)[i]?=aa j:=ei;rw[wJ _ hb] at nu;rw[wJ _ uf] at ee;by_cases c:i<below t.place (rd t.mask h n).j
  ·rw[if_pos c] at nu ee;obtain⟨m,h1,h2⟩:=G.reach i j e nu ee;exact⟨m,h1,fun q hq=>mono _ (h2 q hq)⟩
  ·rw[if_neg c] at nu ee;by_cases d:i=below t.place (rd t.mask h n).j
   ·rw[if_pos d] at nu ee;cases nu;cases ee;exact⟨n,rfl,fun q hq=>mono _ (hv q hq)⟩
   ·rw[if_neg d] at nu ee;obtain⟨m,h1,h2⟩:=G.reach _ j e nu ee;exact⟨m,h1,fun q hq=>mono _ (h2 q hq)⟩
structure Own (mask:Nat)(hs:List Int)(ow:Array (Option Nat)):Prop where
 size:ow.size=mask+1
 lt:∀ j i:Nat,ow[j]?=aa (aa i)->i<hs.length
 inj:∀ j j' i:Nat,ow[j]?=aa (aa i)->ow[j']?=aa (aa i)->j=j'
 all:∀ i<hs.length,∃ j:Nat,ow[j]?=aa (aa i)
 reach:∀ (j i:Nat) (h:Int),ow[j]?=aa (aa i)->hs[i]?=aa h->∃ n,(rd mask h n).j=j/\∀ m<n,∃ i':Nat,ow[(rd mask h m).j]?=aa (aa i')
theorem zU(hj:j<ow.size):ow[j]?=aa ab\/∃ i,ow[j]?=aa (aa i):=by
 rw[lF hj];cases ow[j] with
 |none=>exact .inl rfl
 |some i=>exact .inr ⟨i,rfl⟩
theorem Own.free{hs:List Int}(O:Own mask hs ow)(hl:hs.length≤mask):∃ e,e≤mask/\ow[e]?=aa ab:=by
 apply yH;intro hn;have ck:∀ j≤mask,∃ i:Nat,ow[j]?=aa (aa i):=fun j hj=>by
  rcases zU (ow:=ow) (j:=j) (by rw[O.size];omega) with c|c
  ·exact absurd ⟨j,hj,c⟩ hn
  ·exact c
 have gw:((dB (mask+1)).map fun j=>((ow[j]?).join).getD 0).Nodup:=by
  unfold List.Nodup;rw[uZ];refine Dz (R:=(· < ·)) ?_ List.pairwise_lt_range;intro a b ha hb mh e;obtain⟨i,ei⟩:=ck a (by have:=hV.mp ha;omega)
  obtain⟨i',nu⟩:=ck b (by have:=hV.mp hb;omega)
  rw[ei,nu] at e;have:i=i':=by simpa using e
  rw[10];have:=O.inj a b i ei nu;omega
 have:=Ea (l₂:=dB hs.length) gw (fun v m=>by
  obtain⟨j,hj,rfl⟩:=cJ.mp m;obtain⟨i,ei⟩:=ck j (by have:=hV.mp hj;omega)
  rw[ei];exact hV.mpr (O.lt j i ei))
 simp at this;omega
theorem UG (mask i per:Nat):∀ m,lp mask (i,per) (m+1)=lp mask (leap mask i per) m
 |0=>rfl
 |m+1=>by
  show leap mask (lp mask (i,per) (m+1)).1 (lp mask (i,per) (m+1)).2=_;rw[UG mask i per m]
  rfl
theorem XC(hz:ow.size=mask+1):∀ (fuel i per m:Nat),i≤mask->m<fuel->ow[(lp mask (i,per) m).1]?=aa ab ->
  ∃ n,layClean.free mask ow fuel i per=aa (pN mask (p7 mask i per) n).j/\ow[(pN mask (p7 mask i per) n).j]?=aa ab/\∀ q<n,∃ i':Nat,ow[(pN mask (p7 mask i per) q).j]?=aa (aa i')
 |0,_,_,_,_,h,_=>absurd h (by omega)
 |fuel+1,i,per,m,hi,hm,he=>by
  have hrun:runEnd mask i≤mask/\i≤runEnd mask i:=by unfold runEnd;split<;>omega
  have zo:∀ k,k≤runEnd mask i-i->(pN mask (p7 mask i per) k).j=i+k:=fun k hk=>by rw[JS mask i per k hk]
  have hg:∀ k,k≤runEnd mask i-i->((ow.getD (i+k) (aa 0)).isNone=ae↔ow[i+k]?=aa ab):=fun k hk=>by
   rw[El];rcases zU (ow:=ow) (j:=i+k) (by omega) with c|⟨x,c⟩<;>rw[c]<;>simp
  unfold layClean.free;cases ef:(dB (runEnd mask i+1-i)).find? fun k=>(ow.getD (i+k) (aa 0)).isNone with
  |some k=>
   obtain⟨h1,h2,h3⟩:=List.find?_range_eq_some.mp ef;have hk:k≤runEnd mask i-i:=by have:=hV.mp h2;omega
   refine⟨k,by rw[zo k hk],by rw[zo k hk];exact(hg k hk).mp h1,fun q hq=>?_⟩
   rw[zo q (by omega)]
   rcases zU (ow:=ow) (j:=i+q) (by omega) with c|c
   ·have:=h3 q hq;rw[(hg q (by omega)).mpr c] at this
    exact absurd this (by decide)
   ·exact c
  |none=>
   have h3:=List.find?_range_eq_none.mp ef;have ck:∀ k,k≤runEnd mask i-i->∃ i':Nat,ow[i+k]?=aa (aa i'):=fun k hk=>by
    rcases zU (ow:=ow) (j:=i+k) (by omega) with c|c
    ·have:=h3 k (by omega)
     rw[(hg k hk).mpr c] at this;exact absurd this (by decide)
    ·exact c
   cases m with
   |zero=>
    obtain⟨i',e'⟩:=ck 0 (by omega)
    have K7:ow[i]?=aa ab:=he;rw[OO,K7] at e';cases e'
   |succ m=>
    rw[UG] at he;have oo:(leap mask i per).1≤mask:=by
     have:(leap mask i per).1<mask+1:=xT _ (by omega)
     omega
    obtain⟨n,e1,e2,e3⟩:=XC hz fuel (leap mask i per).1 (leap mask i per).2 m oo (by omega) he
    have hp:∀ q,pN mask (p7 mask i per) (runEnd mask i-i+1+q)=pN mask (p7 mask (leap mask i per).1 (leap mask i per).2) q:=fun q=>by
     rw[← NO,VO]
    refine⟨runEnd mask i-i+1+n,?_,by rw[hp];exact e2,fun q hq=>?_⟩
    ·rw[hp];exact e1
    ·by_cases c:q≤runEnd mask i-i
     ·rw[zo q c];exact ck q c
     ·obtain⟨r,rfl⟩:∃ r,q=runEnd mask i-i+1+r:=⟨q-(runEnd mask i-i+1),by omega⟩
      rw[hp];exact e3 r (by omega)
theorem Own.add(hm:pU mask){hs:List Int}(O:Own mask hs ow)(hl:hs.length≤mask)(h:Int) :
  ∃ j,layClean.free mask ow (turns mask) (bits h%(mask+1)) (bits h)=aa j/\Own mask (hs++[h]) (ow.setIfInBounds j (aa hs.length)):=by
 obtain⟨e,he,fu⟩:=O.free hl;obtain⟨m,h1,h2⟩:=TU hm (i:=bits h%(mask+1)) (SN h) he;have hi:bits h%(mask+1)≤mask:=by
  have:=xT (bits h) (show 0<mask+1 by omega)
  omega
 obtain⟨n,e1,e2,e3⟩:=XC O.size (turns mask) (bits h%(mask+1)) (bits h) m hi (by unfold turns;omega) (by rw[h2];exact fu)
 have nr:ow[(rd mask h n).j]?=aa ab:=e2;have hjs:(rd mask h n).j<ow.size:=(vG.mp nr).1;have get:∀ k:Nat,(ow.setIfInBounds (rd mask h n).j (aa hs.length))[k]?=if (rd mask h n).j=k then aa (aa hs.length) else ow[k]?:=fun k=>by
  rw[h8];by_cases c:(rd mask h n).j=k
  ·subst c;simp[hjs]
  ·rw[if_neg c,if_neg c]
 have mono:∀ k i:Nat,ow[k]?=aa (aa i)->(ow.setIfInBounds (rd mask h n).j (aa hs.length))[k]?=aa (aa i):=fun k i q=>by
  rw[get,if_neg (by rintro rfl;rw[nr] at q;cases q)]
  exact q
 refine⟨_,e1,by simpa using O.size,fun j i q=>?_,fun j j' i q q'=>?_,fun i hi=>?_,fun j i x q qx=>?_⟩
 ·have q:(ow.setIfInBounds (rd mask h n).j (aa hs.length))[j]?=aa (aa i):=q;rw[get] at q;rw[mF,OV];split at q
  ·cases q;omega
  ·have:=O.lt j i q;omega
 ·have q:(ow.setIfInBounds (rd mask h n).j (aa hs.length))[j]?=aa (aa i):=q;have q':(ow.setIfInBounds (rd mask h n).j (aa hs.length))[j']?=aa (aa i):=q';rw[get] at q q';split at q
  ·split at q'
   ·omega
   ·cases q;have:=O.lt j' _ q';omega
  ·split at q'
   ·cases q';have:=O.lt j _ q;omega
   ·exact O.inj j j' i q q'
 ·rw[mF,OV] at hi;by_cases c:i=hs.length
  ·exact⟨(rd mask h n).j,by show(ow.setIfInBounds (rd mask h n).j (aa hs.length))[(rd mask h n).j]?=_;rw[get,if_pos rfl,c]⟩
  ·obtain⟨j,q⟩:=O.all i (by omega)
   exact⟨j,mono j i q⟩
 ·have q:(ow.setIfInBounds (rd mask h n).j (aa hs.length))[j]?=aa (aa i):=q;rw[get] at q;split at q
  ·rename_i hj;cases q;rw[vB (cE _)] at qx;have:h=x:=by simpa using qx
   rw[10];refine⟨n,hj,fun q hq=>?_⟩
   obtain⟨i',w⟩:=e3 q hq;exact⟨i',mono _ i' w⟩
  ·have ce:=O.lt j i q;rw[yB ce] at qx;obtain⟨n',a,b⟩:=O.reach j i x q qx;refine⟨n',a,fun r hr=>?_⟩
   obtain⟨i',w⟩:=b r hr;exact⟨i',mono _ i' w⟩
theorem Az(hm:pU mask):∀ (rest hs:List Int) (ow:Array (Option Nat)),Own mask hs ow->hs.length+rest.length≤mask+1 ->
  ∃ F2,rest.foldl (fun ai h=>do
   let (owner,k) ← ai
   let j ← layClean.free mask owner (turns mask) (bits h%(mask+1)) (bits h)
   pure (owner.setIfInBounds j (aa k),k+1)) (aa (ow,hs.length))=aa (F2,(hs++rest).length)/\Own mask (hs++rest) F2
 |[],hs,ow,O,_=>⟨ow,by simp,by simpa using O⟩
 |h::r,hs,ow,O,hl=>by
  rw[hW] at hl;obtain⟨j,e,O'⟩:=O.add hm (by omega) h
  obtain⟨F2,e2,O2⟩:=Az hm r (hs++[h]) _ O' (by rw[mF,OV];omega)
  refine⟨F2,?_,by simpa using O2⟩
  rw[nC];have:(do
   let (owner,k) ← aa (ow,hs.length)
   let j ← layClean.free mask owner (turns mask) (bits h%(mask+1)) (bits h)
   pure (owner.setIfInBounds j (aa k),k+1))=aa (ow.setIfInBounds j (aa hs.length),(hs++[h]).length):=by
   show((layClean.free mask ow (turns mask) (bits h%(mask+1)) (bits h)).bind fun j=>aa (ow.setIfInBounds j (aa hs.length),hs.length+1))=_
   rw[e];simp
  rw[this,e2];simp
theorem Mb (mask:Nat):Own mask [] (Array.replicate (mask+1) ab):=by
 have hn:∀ j i:Nat,(Array.replicate (mask+1) (ab:Option Nat))[j]?≠aa (aa i):=fun j i q=>by
  rw[Array.getElem?_replicate] at q;split at q<;>cases q
 exact⟨by simp,fun j i q=>absurd q (hn j i),fun j _ i q=>absurd q (hn j i),fun i hi=>absurd hi (by simp),fun j i _ q=>absurd q (hn j i)⟩
theorem Ou(hm:pU mask)(hs:Array Int)(hl:hs.size≤mask+1):∃ ow,layClean mask hs=aa ow/\Own mask hs.toList ow:=by
 obtain⟨ow,e,O⟩:=Az hm hs.toList [] _ (Mb mask) (by simpa using hl)
 refine⟨ow,?_,by simpa using O⟩
 unfold layClean;rw[← Array.foldl_toList];have e':=congrArg (Option.map (·.1)) e;exact e'
theorem NH {α β:Type}{f:α->Option β}:∀ (l:List α),(∀ k∈l,(f k).isSome=ae)->∀ i:Nat,(l.filterMap f)[i]?=(l[i]?).bind f
 |[],_,i=>by simp
 |a::r,h,i=>by
  obtain⟨b,e⟩:=OI.mp (h a bS);rw[List.filterMap_cons_some e];cases i with
  |zero=>simp[e]
  |succ i=>
   rw[pL,pL];exact NH r (fun k m=>h k (cG _ m)) i
def iA (mask:Nat)(ow:Array (Option Nat)):List (Nat×Nat):=(dB (mask+1)).filterMap fun j=>(ow.getD j ab).map (j,·)
theorem oY(hz:ow.size=mask+1):(j,i)∈iA mask ow↔ow[j]?=aa (aa i):=by
 unfold iA;rw[sS];constructor
 ·rintro⟨j',hj,e⟩;obtain⟨i',e1,e2⟩:=kA.mp e;have e3:j'=j:=congrArg Prod.fst e2;have e4:i'=i:=congrArg Prod.snd e2;subst e3;subst e4;have ce:j'<ow.size:=by have:=hV.mp hj;omega
  rw[El] at e1;rcases zU ce with c|⟨x,c⟩
  ·rw[c] at e1;cases e1
  ·rw[c] at e1;cases e1;exact c
 ·intro e;have ce:=(vG.mp e).1;exact⟨j,hV.mpr (by omega),by rw[El,e];rfl⟩
theorem LQ (mask:Nat)(ow:Array (Option Nat)):(iA mask ow).Pairwise (fun a b=>a.1<b.1):=by
 unfold iA;rw[d6];refine List.Pairwise.imp ?_ List.pairwise_lt_range;intro a b mh x hx y hy;obtain⟨_,_,rfl⟩:=kA.mp hx;obtain⟨_,_,rfl⟩:=kA.mp hy;exact mh
theorem Yq(hm:pU mask)(es:Array (Int×aC))(hl:es.size≤mask)(fg mv:Nat)(led pl:Bool) :
  ∃ t' jw,laid mask fg mv led pl (es.map (·.1))=aa (t',jw)/\Good t' (jw.filterMap (es[·]?))/\(jw.filterMap (es[·]?)).toList.Perm es.toList/\t'.mask=mask/\t'.led=led/\t'.plain=pl/\t'.dummies = #[]:=by
 obtain⟨ow,e,O⟩:=Ou hm (es.map (·.1)) (by rw[Array.size_map];omega)
 have hz:=O.size;have bg:(es.map (·.1)).toList.length=es.size:=by simp
 refine⟨{ mask,place:=((iA mask ow).map (·.1)).toArray,dummies:=#[],finger:=fg,led,moves:=mv,plain:=pl },((iA mask ow).map (·.2)).toArray,?_,?_,?_,rfl,rfl,rfl,rfl⟩
 ·unfold laid;rw[e]
  rfl
 ·have vj:∀ k∈(iA mask ow).map (·.2),(es[k]?).isSome=ae:=fun k m=>by
   obtain⟨⟨j,i⟩,mm,rfl⟩:=cJ.mp m;have:=O.lt j i ((oY hz).mp mm);rw[bg] at this;rw[lF this]
   rfl
  have M4:∀ i:Nat,((((iA mask ow).map (·.2)).toArray).filterMap (es[·]?))[i]?=(((iA mask ow)[i]?).bind fun p=>es[p.2]?):=fun i=>by
   rw[← lT,QD,NH _ vj,fA];cases(iA mask ow)[i]?<;>rfl
  have ir:∀ i:Nat,(((iA mask ow).map (·.1)).toArray)[i]?=((iA mask ow)[i]?).map (·.1):=fun i=>by simp
  refine⟨hm,rfl,?_,?_,?_,?_,?_⟩
  ·intro a b u v mh ea eb;have ea:(((iA mask ow).map (·.1)).toArray)[a]?=aa u:=ea;have eb:(((iA mask ow).map (·.1)).toArray)[b]?=aa v:=eb;rw[ir] at ea eb;obtain⟨x,hx,rfl⟩:=kA.mp ea;obtain⟨y,hy,rfl⟩:=kA.mp eb;obtain⟨ha,rfl⟩:=dF.mp hx;obtain⟨hb,rfl⟩:=dF.mp hy;exact CF.mp (LQ mask ow) a b ha hb mh
  ·have:(List.filterMap (es[·]?) ((iA mask ow).map (·.2))).length=((iA mask ow).map (·.2)).length:=by
    rw[List.length_filterMap_eq_countP,List.countP_eq_length];exact vj
   show((iA mask ow).map (·.1)).toArray.size=_;rw[← jU (xs:=Array.filterMap _ _),QD,this];simp
  ·intro i j q;have q:(((iA mask ow).map (·.1)).toArray)[i]?=aa j:=q;rw[ir] at q;obtain⟨⟨j',i'⟩,hx,rfl⟩:=kA.mp q;have:=(oY hz).mp (gZ hx);have:=(vG.mp this).1;show j'≤mask;omega
  ·have gw:((iA mask ow).map (·.2)).Nodup:=by
    unfold List.Nodup;rw[uZ];refine Dz ?_ (LQ mask ow);rintro⟨a,i⟩ ⟨b,i'⟩ ma mb mh e';have e':i=i':=e';subst e';have:=O.inj a b i ((oY hz).mp ma) ((oY hz).mp mb);have mh:a<b:=mh;omega
   have:=Ea (l₂:=dB es.size) gw (fun v m=>by
    obtain⟨⟨j,i⟩,mm,rfl⟩:=cJ.mp m;have:=O.lt j i ((oY hz).mp mm);rw[bg] at this;exact hV.mpr this)
   have h2:((((iA mask ow).map (·.2)).toArray).filterMap (es[·]?)).size≤((iA mask ow).map (·.2)).length:=by
    rw[← jU,QD];exact Dr _ _
   rw[IB] at this;show _≤mask;omega
  ·intro i j x q qx;have q:(((iA mask ow).map (·.1)).toArray)[i]?=aa j:=q;rw[ir] at q;obtain⟨⟨j',k⟩,hx,rfl⟩:=kA.mp q;rw[M4,hx,cX] at qx;have hw:=(oY hz).mp (gZ hx);have hk:(es.map (·.1)).toList[k]?=aa x.1:=by
    have qx:es[k]?=aa x:=qx;rw[lT,Array.getElem?_map,qx]
    rfl
   obtain⟨n,a,b⟩:=O.reach j' k x.1 hw hk;refine⟨n,a,fun m q0=>?_⟩
   obtain⟨i',w⟩:=b m q0;obtain⟨r,hr,er⟩:=Dq.mp ((oY hz).mpr w);refine⟨r,?_⟩;show(((iA mask ow).map (·.1)).toArray)[r]?=_;rw[ir,eI hr,er]
   rfl
 ·rw[QD];have gw:((iA mask ow).map (·.2)).Nodup:=by
   unfold List.Nodup;rw[uZ];refine Dz ?_ (LQ mask ow);rintro⟨a,i⟩ ⟨b,i'⟩ ma mb mh e';have e':i=i':=e';subst e';have:=O.inj a b i ((oY hz).mp ma) ((oY hz).mp mb);have mh:a<b:=mh;omega
  have hp:((iA mask ow).map (·.2)).Perm (dB es.size):=by
   rw[Dm gw Do];intro v;constructor
   ·intro m;obtain⟨⟨j,i⟩,mm,rfl⟩:=cJ.mp m;have:=O.lt j i ((oY hz).mp mm);rw[bg] at this;exact hV.mpr this
   ·intro m;obtain⟨j,q⟩:=O.all v (by rw[bg];exact hV.mp m)
    exact cJ.mpr ⟨(j,v),(oY hz).mpr q,rfl⟩
  exact(hp.filterMap _).trans (by rw[filterMap_getElem?_range])
structure Fine (t:fJ)(es:Array (Int×aC)):Prop where
 good:Good t es
 few:es.size*5<t.mask*3/\es.size≤4914
theorem Fine.fits {t:fJ}(F:Fine t es):t.fits es.size=ae:=by
 have h1:=F.good.len;have h2:=F.good.nod;have h3:=F.good.room;simp[SetTable.fits,OC,h1,h2,h3]
theorem Fine.odd {t:fJ}(F:Fine t es):t.gaveWay=af:=by
 rcases F.good.small with e|e|e|e|e|e<;>simp[SetTable.gaveWay,e]
theorem Qj (led:Bool):Fine (HL 0 0 led) #[]:=
 ⟨⟨.inl rfl,rfl,fun a b u v _ h=>by simp[HL] at h,rfl,fun i j h=>by simp[HL] at h,by simp,fun i j e h=>by simp[HL] at h⟩,by simp[HL]⟩
theorem Zr {t:fJ}(hs:pU t.mask)(h1:(n-1)*5<t.mask*3)(h0:0<n)(hf:t.mask*3≤n*5)(hn:n≤4914):∃ M,pU M/\n*5<M*3/\SetTable.sizeAbove (SetTable.grown n)=M+1:=by
 rcases hs with e|e|e|e|e|e<;>rw[e] at h1 hf
 ·have h5:n=5:=by omega
  exact⟨31,.inr (.inl rfl),by omega,by rw[h5];decide⟩
 ·have h5:n=19:=by omega
  exact⟨127,.inr (.inr (.inl rfl)),by omega,by rw[h5];decide⟩
 ·have h5:n=77:=by omega
  exact⟨511,.inr (.inr (.inr (.inl rfl))),by omega,by rw[h5];decide⟩
 ·have h5:n=307:=by omega
  exact⟨2047,.inr (.inr (.inr (.inr (.inl rfl)))),by omega,by rw[h5];decide⟩
 ·have h5:n=1229:=by omega
  exact⟨8191,.inr (.inr (.inr (.inr (.inr rfl)))),by omega,by rw[h5];decide⟩
 ·omega
open PySem PySem.Spec PyProof.Rows PySem.SetTable
def hE (w:bG):Bool:=w.params.followText "set-order"
abbrev Ano (led:Bool):bI:={ cls:=.type "set",dict:=ab,data:=.set #[] 0 (.fresh 0 0 led) }
theorem Rk(v:aC){Q₁:aC->aH->Prop}(h:Q₁ (.ref s.heap.objs.size) { s with heap:=s.heap.push (Ano (!hE w)) }) :
  pG (aP prog w) A (.call (.builtin "set.__new__") ⟨[.type "set",v],[]⟩) (wants Q₁ E) s:=by
 refine codeAny_of_tree (show aJ _ A.in1 (do checkBuiltinCall "set.__new__" ⟨[.type "set",v],[]⟩;again (.builtin "set.__new__" ⟨[.type "set",v],[]⟩)) _ _ s from ?_)
 refine aF (xH (F.newCall_set_1 v) (aQ ⟨qB F.plain_set_new _,oB F.entry_set_new ?_⟩));rw[qK F.plain_set_new _];unfold Builtin.«set.__new__» Builtin.Frozenset.newClass;have sub1:=sub_set_self;obtain⟨hp,g,d,tk,os⟩:=s;rw[7]
 wp_walk
 refine BM (aQ ?_);rw[7];simp only[newObj];exact aF (wpAny_alloc (aQ (aQ h)))
structure WSet (w:bG)(h:aY)(a:aD)(o:bI)(es:Array (Int×aC))(ep:Nat)(t:fJ):Prop where
 get:h.get? a=aa o
 exact:o.ExactSet
 data:o.data=.set es ep t
 fine:Fine t es
 led:t.led=!hE w
mutual
theorem LN:∀ (d:aA) (n:Nat) {A:bZ} {E:aC->aH->Prop} {s:aH} {v:aC} {as:List aD} {Q:Bool->aH->Prop},d.depth≤n->bN d=ae->mY s.heap v d as ->
  Q af s->aJ (aP prog w) A (HH n v) Q E s
 |.int i,n,A,E,s,v,as,Q,hu,hk,r,h=>by
  cases r with
  |int _ t=>
   unfold HH;exact aQ h
 |.str x,n,A,E,s,v,as,Q,hu,hk,r,h=>by
  cases r with
  |str _ t=>
   unfold HH;exact aQ h
 |.tuple ks,n,A,E,s,v,as,Q,hu,hk,r,h=>by
  obtain⟨a,o,cu,m,rfl,ho,hc,hd,hi⟩:=pV r;have hT:s.TypeIs (.ref a) "tuple":=⟨o,ho,hc⟩;have n9:cL ks+1≤n:=by simpa [eG] using hu
  obtain⟨n,rfl⟩:∃ m,n=m+1:=⟨n-1,by omega⟩
  have ft:cC ks=ae:=by simpa [bN] using hk
  unfold HH;refine aF (sL hT ?_);rw[7];rw[if_pos (by decide)]
  refine aF (aQ ?_);simp only[rK,fF,if_false];refine aF (kO ho hd ?_);rw[7];rw[9];show aJ _ _ (forIn cu _ _) _ _ s;rw[← CZ];refine HG _ (fun rest r s'=>r.1=ab/\s'=s/\∃ ds bs,pH s.heap rest ds bs/\∀ d∈ds,d∈ks) _ ?_ ?_ _ _ ⟨rfl,rfl,ks,as,hi,fun _ h=>h⟩
  ·rintro v rest r s' ⟨hr,rfl,ds,bs,hl,ck⟩;cases hl with
   |@cons _ _ d ds Id vc h1 o9=>
    refine aF (YJ ks (ck d bS) n (by omega) ft h1 ?_)
    simp only[fF,if_false];exact aQ ⟨rfl,rfl,ds,vc,o9,fun u yl=>ck u (cG _ yl)⟩
  ·rintro⟨r1,r2⟩ s' ⟨hr,rfl,_⟩;simp only at hr;subst hr;exact aQ h
 |.none,n,A,E,s,v,as,Q,hu,hk,r,h=>by simp[bN] at hk
 |.bool _,n,A,E,s,v,as,Q,hu,hk,r,h=>by simp[bN] at hk
 |.list _,n,A,E,s,v,as,Q,hu,hk,r,h=>by simp[bN] at hk
 |.dict _,n,A,E,s,v,as,Q,hu,hk,r,h=>by simp[bN] at hk
theorem YJ:∀ (ks:List aA) {d:aA},d∈ks->∀ (n:Nat) {A:bZ} {E:aC->aH->Prop} {s:aH} {v:aC} {as:List aD} {Q:Bool->aH->Prop},cL ks≤n->cC ks=ae->mY s.heap v d as ->
  Q af s->aJ (aP prog w) A (HH n v) Q E s
 |[],_,hm,_,_,_,_,_,_,_,_,_,_,_=>by simp at hm
 |k::ks,d,hm,n,A,E,s,v,as,Q,hu,hk,r,h=>by
  have ft:bN k=ae/\cC ks=ae:=by simpa [cC] using hk
  have n9:max k.depth (cL ks)≤n:=by simpa [cL] using hu
  by_cases e:d=k
  ·exact LN k n (by omega) ft.1 (e ▸ r) h
  ·have q0:d∈ks:=by
    rcases dU.mp hm with q|q
    ·exact absurd q e
    ·exact q
   exact YJ ks q0 n (by omega) ft.2 r h
end
mutual
theorem XI:∀ (d:aA) (n:Nat) {A:bZ} {E:aC->aH->Prop} {s:aH} {v:aC} {as:List aD} {Q:Bool->aH->Prop},d.depth≤n->bN d=ae->mY s.heap v d as ->
  (∀ b,Q b s)->aJ (aP prog w) A (HK n v) Q E s
 |.int i,n,A,E,s,v,as,Q,hu,hk,r,h=>by
  cases r with
  |int _ t=>
   cases n<;>(unfold HK;exact aQ (h _))
 |.str x,n,A,E,s,v,as,Q,hu,hk,r,h=>by
  cases r with
  |str _ t=>
   cases n<;>(unfold HK;exact aQ (h _))
 |.tuple ks,n,A,E,s,v,as,Q,hu,hk,r,h=>by
  obtain⟨a,o,cu,m,rfl,ho,hc,hd,hi⟩:=pV r;have hT:s.TypeIs (.ref a) "tuple":=⟨o,ho,hc⟩;have n9:cL ks+1≤n:=by simpa [eG] using hu
  obtain⟨n,rfl⟩:∃ m,n=m+1:=⟨n-1,by omega⟩
  have ft:cC ks=ae:=by simpa [bN] using hk
  unfold HK;refine aF (xG hT IF.lookup ?_);show aJ _ _ (BO (.ref a)>>=_) _ _ s;refine aF (kO ho hd ?_);rw[9];show aJ _ _ (forIn cu _ _) _ _ s;rw[← CZ];refine HG _ (fun rest r s'=>s'=s/\∃ ds bs,pH s.heap rest ds bs/\∀ d∈ds,d∈ks) _ ?_ ?_ _ _ ⟨rfl,ks,as,hi,fun _ h=>h⟩
  ·rintro v rest r s' ⟨rfl,ds,bs,hl,ck⟩;cases hl with
   |@cons _ _ d ds Id vc h1 o9=>
    refine aF (YR ks (ck d bS) n (by omega) ft h1 fun b=>?_)
    cases b
    ·simp only[Bool.not_false,if_true];exact aQ (aQ (h _))
    ·simp only[rK,fF,if_false];exact aQ ⟨rfl,ds,vc,o9,fun u yl=>ck u (cG _ yl)⟩
  ·rintro⟨r1,r2⟩ s' ⟨rfl,_⟩;cases r1 with
   |none=>exact aQ (h _)
   |some b=>exact aQ (h _)
 |.none,n,A,E,s,v,as,Q,hu,hk,r,h=>by simp[bN] at hk
 |.bool _,n,A,E,s,v,as,Q,hu,hk,r,h=>by simp[bN] at hk
 |.list _,n,A,E,s,v,as,Q,hu,hk,r,h=>by simp[bN] at hk
 |.dict _,n,A,E,s,v,as,Q,hu,hk,r,h=>by simp[bN] at hk
theorem YR:∀ (ks:List aA) {d:aA},d∈ks->∀ (n:Nat) {A:bZ} {E:aC->aH->Prop} {s:aH} {v:aC} {as:List aD} {Q:Bool->aH->Prop},cL ks≤n->cC ks=ae->mY s.heap v d as ->
  (∀ b,Q b s)->aJ (aP prog w) A (HK n v) Q E s
 |[],_,hm,_,_,_,_,_,_,_,_,_,_,_=>by simp at hm
 |k::ks,d,hm,n,A,E,s,v,as,Q,hu,hk,r,h=>by
  have ft:bN k=ae/\cC ks=ae:=by simpa [cC] using hk
  have n9:max k.depth (cL ks)≤n:=by simpa [cL] using hu
  by_cases e:d=k
  ·exact XI k n (by omega) ft.1 (e ▸ r) h
  ·have q0:d∈ks:=by
    rcases dU.mp hm with q|q
    ·exact absurd q e
    ·exact q
   exact YR ks q0 n (by omega) ft.2 r h
end
theorem Ul{k:List aA}{b:aD}{ys:List aC}{Q:Bool->aH->Prop}(hk:Adh s.heap k b)(hy:∀ y∈ys,∃ k' b',y=.ref b'/\Adh s.heap k' b')(h:Q af s) :
  aJ (aP prog w) A (searchCouldBeSeen (.ref b) ys) Q E s:=by
 unfold searchCouldBeSeen;rw[9];refine HG _ (fun rest r s'=>r.1=ab/\s'=s/\∀ y∈rest,∃ k' b',y=.ref b'/\Adh s.heap k' b') _ ?_ ?_ _ _ ⟨rfl,rfl,hy⟩
 ·rintro v rest r s' ⟨hr,rfl,ck⟩;obtain⟨k',b',rfl,ft⟩:=ck v bS;have vk:∀ y∈rest,∃ k' b',y=.ref b'/\Adh s'.heap k' b':=fun y m=>ck y (cG _ m)
  rw[7];split
  ·exact aQ ⟨rfl,rfl,vk⟩
  ·obtain⟨a1,a2,as,ra⟩:=hk;obtain⟨b1,b2,bs,rb⟩:=ft;have ka:bN (.tuple k)=ae:=by simpa [bN] using a1
   have kb:bN (.tuple k')=ae:=by simpa [bN] using b1
   have da:(iC k).depth≤8:=by simp only[eG];omega
   have db:(iC k').depth≤8:=by simp only[eG];omega
   refine aF (FR (.tuple k) 8 da ka ra ?_);simp only[rK,fF,if_false];refine aF (FR (.tuple k') 8 db kb rb ?_);simp only[rK,fF,if_false];refine aF (LN (.tuple k) 8 da ka ra ?_);simp only[fF,if_false];refine aF (LN (.tuple k') 8 db kb rb ?_);simp only[fF,if_false];exact aQ ⟨rfl,rfl,vk⟩
 ·rintro⟨r1,r2⟩ s' ⟨hr,rfl,_⟩;simp only at hr;subst hr;exact aQ h
theorem wB {α β:Type}{R:α->β->Prop}:∀ {as:List α} {bs:List β},fE R as bs->∀ {i:Nat} {a:α},as[i]?=aa a->∃ b,bs[i]?=aa b/\R a b
 |_,_,.nil,i,a,h=>by simp at h
 |_,_,.cons h t,0,a,e=>⟨_,rfl,by simp at e;exact e ▸ h⟩
 |_,_,.cons h t,i+1,a,e=>wB t (by simpa using e)
theorem JT {α β:Type}{R:α->β->Prop}:∀ {as:List α} {bs:List β},fE R as bs->∀ {i:Nat} {b:β},bs[i]?=aa b->∃ a,as[i]?=aa a/\R a b
 |_,_,.nil,i,a,h=>by simp at h
 |_,_,.cons h t,0,a,e=>⟨_,rfl,by simp at e;exact e ▸ h⟩
 |_,_,.cons h t,i+1,a,e=>JT t (by simpa using e)
theorem Good.met {t:fJ}{f:Nat->Int}{h:Int}{r:Option Met}(G:Good t es)(hv:∀ m<n,kN t (rd t.mask h m).j)(x0:t.probe f h (rd t.mask h n)=r)(hf:∀ (i:Nat) e,es[i]?=aa e->f i=e.1) :
  ∃ N,n≤N/\N<10*turns t.mask/\(∀ m,n≤m->m<N->∃ (i:Nat) (e:Int×aC),t.place[i]?=aa (rd t.mask h m).j/\es[i]?=aa e/\e.1≠h) /\
   ((¬ kN t (rd t.mask h N).j/\r=aa (.empty (rd t.mask h N).j ab))\/∃ (i:Nat) (e:Int×aC),t.place[i]?=aa (rd t.mask h N).j/\es[i]?=aa e/\e.1=h/\r=aa (.candidate (rd t.mask h N).j i (rd t.mask h (N+1)))):=by
 obtain⟨k,h1,h2,h3⟩:=G.next (hashAt:=f) h hv;have el:∀ i j:Nat,t.place[i]?=aa j->∃ e,es[i]?=aa e:=fun i j q=>by
  have:=(vG.mp q).1;rw[G.len] at this;exact⟨es[i],lF this⟩
 refine⟨n+k,by omega,h1,fun m a b=>?_,?_⟩
 ·obtain⟨i,e1,e2⟩:=h2 m a b;obtain⟨e,ee⟩:=el i _ e1;exact⟨i,e,e1,ee,by rw[← hf i e ee];exact e2⟩
 ·rcases h3 with⟨a,b⟩|⟨i,a,b,c⟩
  ·exact .inl ⟨a,x0.symm.trans b⟩
  ·obtain⟨e,ee⟩:=el i _ a;exact .inr ⟨i,e,a,ee,by rw[← hf i e ee];exact b,x0.symm.trans c⟩
theorem Good.nope {t:fJ}{f:Nat->Int}{h:Int}(G:Good t es)(hv:∀ m<n,kN t (rd t.mask h m).j)(hn:∀ met,t.probe f h (rd t.mask h n)=aa met->False):False:=by
 obtain⟨k,_,_,h3⟩:=G.next (hashAt:=f) h hv;rcases h3 with⟨_,q⟩|⟨_,_,_,q⟩
 ·exact hn _ q
 ·exact hn _ q
section
variable {B:List aA->aD->Prop}
def xl (w:bG)(B:List aA->aD->Prop)(h:aY)(e:Int×aC)(k:List aA):Prop:=∃ b,e.2=.ref b/\e.1=eP w (.tuple k)/\Adh h k b/\B k b
structure SetAt (w:bG)(B:List aA->aD->Prop)(h:aY)(a:aD)(o:bI)(es:Array (Int×aC))(ep:Nat)(t:fJ)(ks:List (List aA)):Prop where
 get:h.get? a=aa o
 exact:o.ExactSet
 data:o.data=.set es ep t
 fine:Fine t es
 led:t.led=!hE w
 els:fE (xl w B h) es.toList ks
 nod:ks.Nodup
theorem VX{b:aD}{t:fJ}{k:List aA}{Q:SetFound->aH->Prop}
  (S:SetAt w B s.heap a o es ep t ks) (hk:Adh s.heap k b) (hu:A.units+20<cLine) (h1:k∈ks->Q (.there ab) s)
  (h2:k∉ks->∀ N,(∀ m<N,kN t (rd t.mask (eP w (.tuple k)) m).j)->¬ kN t (rd t.mask (eP w (.tuple k)) N).j->Q (.free (rd t.mask (eP w (.tuple k)) N).j af) s) :
  ∀ fuel n py,py.getD (t.probeStart (eP w (.tuple k)))=rd t.mask (eP w (.tuple k)) n->(∀ m<n,∃ i:Nat,t.place[i]?=aa (rd t.mask (eP w (.tuple k)) m).j/\∀ k',ks[i]?=aa k'->k'≠k)->10*turns t.mask<fuel+n ->
   aJ (aP prog w) A (setSearchFrom a (.ref b) (eP w (.tuple k)) ae fuel py) Q E s
 |0,n,py,_,hv,hf=>by
  obtain⟨e,he,fu⟩:=S.fine.good.empty;obtain⟨N,hN,eN⟩:=TR S.fine.good.small (eP w (.tuple k)) he;obtain⟨i,q,_⟩:=hv N (by omega)
  exact absurd ⟨i,eN ▸ q⟩ fu
 |fuel+1,n,py,mj,hv,hf=>by
  have G:=S.fine.good;have M5:∀ m<n,kN t (rd t.mask (eP w (.tuple k)) m).j:=fun m hm=>by
   obtain⟨i,q,_⟩:=hv m hm;exact⟨i,q⟩
  have vm:∀ (i:Nat) (e:Int×aC),es[i]?=aa e->∃ k',ks[i]?=aa k'/\xl w B s.heap e k':=fun i e q=>wB S.els (by rw[lT];exact q)
  unfold setSearchFrom;refine aF (qX S.get S.data S.fine.fits ?_);rw[7];rw[S.fine.odd];simp only[fF,if_false];rw[mj];split
  ·rename_i met x0;obtain⟨N,W3,hN,hm,hc⟩:=G.met M5 x0 (fun i e he=>by
    show(es[i]?.map (·.1)).getD 0=e.1;rw[he]
    rfl)
   have zp:∀ m<N,kN t (rd t.mask (eP w (.tuple k)) m).j:=fun m W4=>by
    rcases uX m n with c|c
    ·exact M5 m c
    ·obtain⟨i,e,q,_⟩:=hm m c W4;exact⟨i,q⟩
   rcases hc with⟨fu,hr⟩|⟨i,e,hp,wo,hh,hr⟩
   ·cases hr;rw[7];have hnk:k∉ks:=fun mem=>by
     obtain⟨i,hi,ei⟩:=Dq.mp mem;have nu:ks[i]?=aa k:=by rw[eI hi,ei]
     obtain⟨e,q,b',_,hh,_⟩:=JT S.els nu;rw[lT] at q;have j6:=(vG.mp q).1;have u9:i<t.place.size:=by rw[G.len];exact j6
     have ir:t.place[i]?=aa t.place[i]:=lF u9;obtain⟨M,hM,W5⟩:=G.reach i _ e ir q;rw[hh] at hM W5;rcases HU N M with c|c|c
     ·exact fu (W5 N c)
     ·subst c;exact fu ⟨i,by rw[ir,hM]⟩
     ·have zq:∀ i':Nat,t.place[i']?=aa (rd t.mask (eP w (.tuple k)) M).j->i'=i:=fun i' q'=>by
       rw[hM] at q';rcases HU i' i with z|z|z
       ·have:=G.ris _ _ _ _ z q' ir;omega
       ·exact z
       ·have:=G.ris _ _ _ _ z ir q';omega
      rcases uX M n with z|z
      ·obtain⟨i',q',r6⟩:=hv M z;have:=zq i' q';rw[10];exact r6 k nu rfl
      ·obtain⟨i',e',q',qe,r6⟩:=hm M z c;have:=zq i' q';rw[10];rw[q] at qe;cases qe;exact r6 hh
    exact aQ (h2 hnk N zp fu)
   ·cases hr;rw[7];obtain⟨k',ft,b',eb,eh,oa,_⟩:=vm i e wo;have zr:∀ y∈((es.filter (·.1==eP w (.tuple k))).toList.map (·.2)),∃ k' b',y=.ref b'/\Adh s.heap k' b':=fun y my=>by
     obtain⟨e',me,rfl⟩:=cJ.mp my;rw[Array.toList_filter] at me;obtain⟨q1,_⟩:=OS.mp me;obtain⟨i',om,nu⟩:=Dq.mp q1;obtain⟨k2,_,b2,z1,_,z2,_⟩:=wB S.els (i:=i') (a:=e') (by rw[eI om,nu])
     exact⟨k2,b2,z1,z2⟩
    obtain⟨eh0,ey⟩:=e;have eb:ey=.ref b':=eb;have hh:eh0=eP w (.tuple k):=hh;subst eb;have zu:k'≠k->aJ (aP prog w) A (setSearchFrom a (.ref b) (eP w (.tuple k)) ae fuel (aa (rd t.mask (eP w (.tuple k)) (N+1)))) Q E s:=fun fu=>by
     refine VX S hk hu h1 h2 fuel (N+1) _ rfl (fun m W4=>?_) (by omega)
     rcases uX m n with c|c
     ·exact hv m c
     ·rcases uX m N with c2|c2
      ·obtain⟨i',e',q',qe,r6⟩:=hm m c c2;refine⟨i',q',fun k2 vn e2=>?_⟩
       obtain⟨k3,ya,_,_,z,_⟩:=vm i' e' qe;rw[vn] at ya;cases ya;subst e2;exact r6 z
      ·have:m=N:=by omega
       rw[10];refine⟨i,hp,fun k2 vn e2=>?_⟩
       rw[ft] at vn;cases vn;exact fu e2
    have uo:t.sameMemory t.moves t.mask=aa ae:=by simp[sameMemory]
    split
    case' isTrue=>refine aF (Ul hk zr ?_);simp only[fF,if_false]
    all_goals
     rw[wo];rw[7];refine aF (jE ((oZ prog w).eqBool hu oa hk ?_));refine aF (qX S.get S.data S.fine.fits ?_);rw[7];by_cases ek:k'=k
     ·rw[decide_eq_true ek];simp only[II,if_true];exact aQ (h1 (by rw[← ek];exact gZ ft))
     ·rw[decide_eq_false ek];simp only[Bool.and_false,fF,if_false];rw[uo];rw[7];rw[8];rw[(FX G.nod G.ris).mpr hp];rw[7];rw[wo];rw[7];refine aF (wpAny_isSame_ref_self (aF (aQ ?_)));rw[8];exact zu ek
  ·rename_i x0;exact(G.nope M5 x0).elim
end
section
variable {B:List aA->aD->Prop}
theorem UR{t:fJ}(ho:h.get? a=aa o)(hd:o.data=.set es ep t)(hs:nE a h h'){k:List aA}{b:aD}(hk:Adh h k b):Adh h' k b:=
 hk.keep fun c oc vs n hc _ oa=>by
  have fu:c≠a:=by
   rintro rfl;rw[ho] at hc;cases hc;rw[hd] at oa;cases oa
  exact(hs.2 c fu).trans hc
theorem qQ {α β:Type}{R R':α->β->Prop}(f:∀ a b,R a b->R' a b):∀ {as:List α} {bs:List β},fE R as bs->fE R' as bs
 |_,_,.nil=>.nil
 |_,_,.cons h t=>.cons (f _ _ h) (qQ f t)
theorem JW {α β:Type}{R:α->β->Prop}{as rn:List α}(p:rn.Perm as):∀ {bs:List β},fE R as bs->∃ E5,fE R rn E5/\E5.Perm bs:=by
 induction p with
 |nil=>intro bs h;exact⟨bs,h,.refl _⟩
 |cons x p ih=>
  intro bs h;cases h with
  |cons h t=>
   obtain⟨E5,h1,h2⟩:=ih t;exact⟨_,.cons h h1,h2.cons _⟩
 |swap x y l=>
  intro bs h;cases h with
  |cons h t=>
   cases t with
   |cons h' t'=>exact⟨_,.cons h' (.cons h t'),.swap _ _ _⟩
 |trans p q M6 zv=>
  intro bs h;obtain⟨b1,h1,h2⟩:=zv h;obtain⟨b2,h3,h4⟩:=M6 h1;exact⟨b2,h3,h4.trans h2⟩
theorem Av {α β:Type}{R:α->β->Prop}{a:α}{b:β}(h:R a b):∀ {as:List α} {bs:List β},fE R as bs->fE R (as++[a]) (bs++[b])
 |_,_,.nil=>.cons h .nil
 |_,_,.cons h' t=>.cons h' (Av h t)
def SetT (w:bG)(B:List aA->aD->Prop)(h:aY)(a:aD)(ks:List (List aA)):Prop:=∃ o es ep t jv,SetAt w B h a o es ep t jv/\jv.Perm ks
theorem WH{t:fJ}(ho:h.get? a=aa o)(hex:o.ExactSet)(hd:o.data=.set es ep t)(j2:Array (Int×aC))(t':fJ) :
  ∃ o',(h.update a (BY j2 t')).get? a=aa o'/\o'.ExactSet/\o'.data=.set j2 (ep+1) t'/\nE a h (h.update a (BY j2 t')):=by
 have hg:=qJ (BY j2 t') ho (by rw[putSet_of j2 t' hd];rfl)
 rw[putSet_of j2 t' hd] at hg;exact⟨_,hg,hex,rfl,yE h a _⟩
theorem Jx{b:aD}{t:fJ}{k:List aA}{Q:Bool->aH->Prop}{fuel:Nat}
  (S:SetAt w B s.heap a o es ep t ks) (hk:Adh s.heap k b) (hB:B k b) (hu:A.units+20<cLine) (pv:es.size+1≤4914)
  (h:∀ h',nE a s.heap h'->SetT w B h' a (if k∈ks then ks else ks++[k])->Q (decide (k∉ks)) { s with heap:=h' }) :
  aJ (aP prog w) A (setAddHashedIn a (.ref b) (eP w (.tuple k)) (fuel+1)) Q E s:=by
 have G:=S.fine.good;have e0:s={ s with heap:=s.heap }:=by cases s;rfl
 unfold setAddHashedIn;refine aF (qX S.get S.data S.fine.fits ?_);rw[7];have hbs:byScan (.ref b) es=af:=by simp[byScan,Value.scannable]
 rw[hbs];simp only[fF,if_false];unfold setSearch;refine aF (VX S hk hu (fun mem=>?_) (fun hn N hl fu=>?_) 100000 0 ab rfl (fun m hm=>absurd hm (by omega)) (by
  rcases G.small with e|e|e|e|e|e<;>rw[e]<;>decide))
 ·rw[7];refine aQ ?_;have:=h s.heap (Heap.SameBut.refl a s.heap) (by rw[if_pos mem];exact⟨o,es,ep,t,ks,S,.refl _⟩)
  rw[e0,show af=decide (k∉ks) from(decide_eq_false (fun z=>z mem)).symm]
  exact this
 ·rw[7];refine aF (qX S.get S.data S.fine.fits ?_);rw[7];rw[Ig G.nod];rw[7];have wp:es.size<t.mask:=by
   have:=S.fine.few;rcases G.small with e|e|e|e|e|e<;>rw[e] at this ⊢<;>omega
  have tail:∀ pl:Bool,aJ (aP prog w) A (do
    storeSet a (insertAt es (below t.place (rd t.mask (eP w (.tuple k)) N).j) (eP w (.tuple k),.ref b)) { t with place:=insertAt t.place (below t.place (rd t.mask (eP w (.tuple k)) N).j) (rd t.mask (eP w (.tuple k)) N).j,plain:=pl }
    if (!af&&({ t with place:=insertAt t.place (below t.place (rd t.mask (eP w (.tuple k)) N).j) (rd t.mask (eP w (.tuple k)) N).j,plain:=pl }:fJ).tooFull)=ae then do
      setRelay a (SetTable.grown (es.size+1))
      pure ae
     else pure ae) Q E s:=fun pl=>by
   have G':=G.put (x:=.ref b) hl fu wp pl;have vo:=insertAt_perm es (below t.place (rd t.mask (eP w (.tuple k)) N).j) (eP w (.tuple k),fI b);rw[CY] at vo;have hsz:=FH es (below t.place (rd t.mask (eP w (.tuple k)) N).j) (eP w (.tuple k),fI b);generalize insertAt es (below t.place (rd t.mask (eP w (.tuple k)) N).j) (eP w (.tuple k),fI b)=nv at *;generalize uq:({ t with place:=insertAt t.place (below t.place (rd t.mask (eP w (.tuple k)) N).j) (rd t.mask (eP w (.tuple k)) N).j,plain:=pl }:fJ)=t1 at *;have qp:t1.mask=t.mask:=by rw[← uq]
   have M7:t1.led=!hE w:=by rw[← uq];exact S.led
   obtain⟨o1,g1,x1,d1,r9⟩:=WH S.get S.exact S.data nv t1;have M9:fE (xl w B s.heap) (es.toList++[(eP w (.tuple k),fI b)]) (ks++[k]):=Av ⟨b,rfl,rfl,hk,hB⟩ S.els;obtain⟨W6,zw,p1⟩:=JW vo M9;have zx:W6.Nodup:=p1.nodup_iff.mpr (CI.mpr ⟨S.nod,by simp,fun x hx y hy e=>hn (by rw[← dP.mp hy,← e];exact hx)⟩)
   have vp:∀ e k',xl w B s.heap e k'->xl w B (s.heap.update a (BY nv t1)) e k':=fun e k' ⟨b',q1,q2,q3,q4⟩=>⟨b',q1,q2,UR S.get S.data r9 q3,q4⟩
   refine aF (wpAny_storeSet_of S.get S.data ?_ (by have:sizeLine=sizeLine:=rfl;rw[mU];omega))
   have zy:t1.fits nv.size=ae:=by
    have a1:=G'.len;have a2:=G'.nod;have a3:=G'.room;simp[SetTable.fits,OC,a1,a2,a3]
   by_cases hf:t1.tooFull=ae
   ·rw[if_pos (by simpa using hf)]
    have a1:=G'.len;have a2:=G'.nod;have i4:=S.fine.few;have vq:t1.mask*3≤nv.size*5:=by
     simp[SetTable.tooFull,OC,a1,a2] at hf;exact hf
    obtain⟨M,hM,W7,zz⟩:=Zr (t:=t) (n:=es.size+1) G.small (by simpa using i4.1) (by omega) (by rw[qp,hsz] at vq;exact vq) pv
    have z0:nv.size≤M:=by
     rcases hM with e|e|e|e|e|e<;>rw[e] at W7 ⊢<;>omega
    obtain⟨t2,jw,el,G2,p2,m2,W8,_,_⟩:=Yq (mask:=M) hM nv z0 t1.finger (t1.movedTo M) t1.led t1.plain;have hre:t1.relaid (nv.map (·.1)) (SetTable.grown (es.size+1))=aa (t2,jw):=by
     unfold SetTable.relaid;rw[zz];exact el
    have z5:(jw.filterMap (nv[·]?)).size=nv.size:=by
     rw[← jU,p2.length_eq,jU]
    rw[9];unfold setRelay;refine aF (qX g1 d1 zy ?_);rw[7];rw[if_neg (by rw[mU,zz];rcases hM with e|e|e|e|e|e<;>rw[e]<;>decide),hre]
    refine aF (show aJ (aP prog w) A (do
     let j2:=jw.filterMap (nv[·]?)
     if j2.size != nv.size then unsupported "internal:set-table-lost-an-element"
     pure (j2,t2)) _ E _ from ?_)
    rw[7];rw[if_neg (by rw[z5];simp)]
    refine aQ ?_;generalize jw.filterMap (nv[·]?)=F3 at *;obtain⟨o2,g2,x2,d2,F4⟩:=WH g1 x1 d1 F3 t2;rw[7];refine wpAny_storeSet_of g1 d1 ?_ (by rw[mU];omega)
    refine aQ ?_;obtain⟨yb,M',q2⟩:=JW p2 zw;have z6:∀ e k',xl w B s.heap e k'->xl w B ((s.heap.update a (BY nv t1)).update a (BY F3 t2)) e k':=fun e k' z=>by
     obtain⟨b',z1,z2,z3,z4⟩:=vp e k' z;exact⟨b',z1,z2,UR g1 d1 F4 z3,z4⟩
    rw[show ae=decide (k∉ks) from(decide_eq_true hn).symm]
    exact h _ (r9.trans F4) (by rw[if_neg hn];exact⟨o2,F3,ep+1+1,t2,yb,⟨g2,x2,d2,⟨G2,by rw[z5,m2,hsz];exact W7,by omega⟩,W8.trans M7,qQ (fun e k'=>z6 e k') M',q2.nodup_iff.mpr zx⟩,q2.trans p1⟩)
   ·rw[if_neg (by simpa using hf)]
    have few:nv.size*5<t1.mask*3/\nv.size≤4914:=by
     have a1:=G'.len;have a2:=G'.nod;refine⟨?_,by omega⟩
     simp[SetTable.tooFull,OC,a1,a2] at hf;omega
    refine aQ ?_;rw[show ae=decide (k∉ks) from(decide_eq_true hn).symm]
    exact h _ r9 (by rw[if_neg hn];exact⟨o1,nv,ep+1,t1,W6,⟨g1,x1,d1,⟨G',few⟩,M7,qQ (fun e k'=>vp e k') zw,zx⟩,p1⟩)
  obtain⟨k1,k2,as,rk⟩:=id hk;split
  ·refine aF (XI (.tuple k) 8 (by simp only[eG];omega) (by simpa [bN] using k1) rk fun bb=>?_)
   cases bb
   ·simp only[fF,if_false];exact tail af
   ·rw[8];exact tail t.plain
  ·refine aF (aQ ?_);rw[8];exact tail t.plain
end
section
variable {B:List aA->aD->Prop}
theorem SetT.len(S:SetT w B h a ks):∃ o es ep t,h.get? a=aa o/\o.ExactSet/\o.data=.set es ep t/\t.fits es.size=ae/\es.size=ks.length:=by
 obtain⟨o,es,ep,t,jv,Z,p⟩:=S;refine⟨o,es,ep,t,Z.get,Z.exact,Z.data,Z.fine.fits,?_⟩;have:=mZ Z.els;rw[jU] at this;rw[this,p.length_eq]
theorem SetT.keep(S:SetT w B h a ks)(k1:∀ o,h.get? a=aa o->h'.get? a=aa o)(k2:∀ b o vs n,h.get? b=aa o->o.cls=.type "tuple" -> o.data=.seq vs n->h'.get? b=aa o):SetT w B h' a ks:=by
 obtain⟨o,es,ep,t,jv,Z,p⟩:=S;exact⟨o,es,ep,t,jv,⟨k1 o Z.get,Z.exact,Z.data,Z.fine,Z.led,qQ (fun e k ⟨b,q1,q2,q3,q4⟩=>⟨b,q1,q2,q3.keep k2,q4⟩) Z.els,Z.nod⟩,p⟩
theorem Vs {ls:List (List aA)}(p:ks.Perm ls)(k:List aA):(if k∈ks then ks else ks++[k]).Perm (nL ls k):=by
 unfold nL;by_cases m:k∈ks
 ·rw[if_pos m,if_pos (p.mem_iff.mp m)];exact p
 ·rw[if_neg m,if_neg (fun z=>m (p.mem_iff.mpr z))]
  exact p.append_right [k]
theorem Ll{b:aD}{k:List aA}{Q:Bool->aH->Prop}
  (S:SetT w B s.heap a ks) (hk:Adh s.heap k b) (hB:B k b) (hu:A.units+20<cLine) (pv:ks.length+1≤4914)
  (h:∀ h' c,nE a s.heap h'->SetT w B h' a (nL ks k)->Q c { s with heap:=h',toks:=s.toks+qM (.tuple k) }) :
  aJ (aP prog w) A (setAdd a (.ref b)) Q E s:=by
 obtain⟨o,es,ep,t,jv,Z,p⟩:=S;unfold setAdd;refine jE (aF ((oZ prog w).pyHash hu hk ?_));unfold setAddHashed;have wo:es.size=ks.length:=by
  have:=mZ Z.els;rw[jU] at this;rw[this,p.length_eq]
 refine jE (Jx (s:={ s with toks:=s.toks+qM (.tuple k) }) (fuel:=99999) Z hk hB hu (by omega) fun h' sb S'=>h h' _ sb ?_)
 obtain⟨o',j2,l9,t',yb,Z',p'⟩:=S';exact⟨o',j2,l9,t',yb,Z',p'.trans (Vs p k)⟩
theorem Zg (ai:List (List aA))(k:List aA):ai.length≤(nL ai k).length:=by
 unfold nL;split
 ·exact cE _
 ·simp
theorem YN:∀ (kss ai:List (List aA)),ai.length≤(kss.foldl nL ai).length
 |[],ai=>cE _
 |k::r,ai=>iU (Zg ai k) (YN r (nL ai k))
theorem Pf (kss:List (List aA))(i:Nat):(gE (kss.take i)).length≤(gE kss).length:=by
 have e:gE kss=(kss.drop i).foldl nL (gE (kss.take i)):=by
  unfold gE;rw[← PF,nA]
 rw[e];exact YN _ _
theorem Xn{I:aD}{fp wr:List aD}{G:Array GenState->Array GenState->Prop}{P:Nat->aC->Prop}{St:Nat->aH->Prop}
  (W:WalksS prog w A.in1 I fp wr G n P St) (hu:A.units+30<cLine) (S:aD) (E8:S∉fp) (kss:List (List aA)) (hn:(gE kss).length≤4900)
  (hT:∀ i s,St i s->∀ c∈wr,∀ o,s.heap.get? c=aa o->o.cls ≠ .type "tuple") :
  ∀ (k i:Nat) (s:aH),n-i=k->i≤n->St i s->SetT w B s.heap S (gE (kss.take i))->(∀ j v,P j v->∃ b q,v=.ref b/\kss[j]?=aa q/\Adh s.heap q b/\B q b) ->
   (∀ s',Moved (S::wr) G s s'->SetT w B s'.heap S (gE (kss.take n))->R (.ok (.ret .none)) s') ->
   pG (aP prog w) A (.builtin "set.update.loop" ⟨[.ref S,.ref I],[]⟩) R s:=by
 have W9:S∉wr:=fun z=>E8 (W.sub _ z)
 have more:∀ b∈wr,b∈S::wr:=fun b z=>cG _ z
 have p4:∀ {i s s'},St i s->Moved wr G s s'->∀ b o vs m,s.heap.get? b=aa o->o.cls=.type "tuple" -> o.data=.seq vs m->s'.heap.get? b=aa o:=fun {i s s'} st hm b o vs m q c _=>
  hm.heap b o (fun z=>hT i s st b z o q c) q
 intro k;induction k with
 |zero=>
  intro i s hk hi mj hS hP hR;obtain rfl:i=n:=by omega
  refine oB F.entry_set_update_loop ?_;rw[qK Ec _];show aJ _ A.in1 (fZ (.ref I)>>=_) _ _ s;refine aF (W.done s _ _ mj fun s' hm=>?_)
  show aJ _ A.in1 (ret cU) _ _ s';exact aQ (hR s' (hm.mono more) (hS.keep (fun o q=>hm.heap S o W9 q) (p4 mj hm)))
 |succ k ih=>
  intro i s hk hi mj hS hP hR;have ce:i<n:=by omega
  refine oB F.entry_set_update_loop ?_;rw[qK Ec _];show aJ _ A.in1 (fZ (.ref I)>>=_) _ _ s;refine aF (W.item i s _ _ ce mj fun v s' hPi No hm=>?_)
  obtain⟨b,q,rfl,hq,hd,hB⟩:=hP i v hPi;have pq:SetT w B s'.heap S (gE (kss.take i)):=hS.keep (fun o z=>hm.heap S o W9 z) (p4 mj hm)
  have sh:gE (kss.take (i+1))=nL (gE (kss.take i)) q:=by
   rw[sP,hq];simp[gE,PF]
  have bg:(gE (kss.take i)).length≤4900:=iU (Pf kss i) hn;show aJ _ A.in1 (pF [fI b] (setAdd S (.ref b))>>=_) _ _ s';refine aF (jE (Ll (A:=A.in1) pq (hd.keep (p4 mj hm)) hB (by show A.units+1+20<cLine;omega) (by omega) fun h' c sb S2=>?_))
  obtain⟨o2,F3,ep2,t2,g2,_,d2,_⟩:=pq.len;have kt:∀ b o vs m,s'.heap.get? b=aa o->o.cls=.type "tuple" -> o.data=.seq vs m->h'.get? b=aa o:=fun b o vs m z _ z'=>by
   have fu:b≠S:=by
    rintro rfl;rw[g2] at z;cases z;rw[d2] at z';cases z'
   exact(sb.2 b fu).trans z
  refine aQ ⟨qB Ec _,ih (i+1) _ (by omega) ce (W.frame _ s' _ _ No (ON _ _) fun c hc o e=>?_) (by rw[sh];exact S2) (fun j v z=>?_) fun yq NE S3=>?_⟩
  ·exact(sb.2 c (fun z=>E8 (z ▸ hc))).trans e
  ·obtain⟨b',q',e1,e2,e3,e4⟩:=hP j v z;exact⟨b',q',e1,e2,(e3.keep (p4 mj hm)).keep kt,e4⟩
  ·exact hR yq (Moved.trans W.gtrans ((hm.mono more).then_heap (ON _ _) fun c o hc e=>(sb.2 c (fun z=>hc (z ▸ bS))).trans e) NE) S3
end
section
variable {B:List aA->aD->Prop}
theorem Yi(e:h.get? a=aa (Ano (!hE w))):SetT w B h a []:=
 ⟨Ano (!hE w),#[],0,.fresh 0 0 (!hE w),[],⟨e,⟨rfl,rfl,rfl⟩,rfl,Qj _,rfl,.nil,.nil⟩,.refl _⟩
set_option maxHeartbeats 4000000 in
theorem Zf{cu:Array aC}(hh:A.handled=ab)(hu:A.units+40<cLine)(hl:s.heap.IsList l cu)
  (hd:∀ (j:Nat) v,cu[j]?=aa v->∃ b q,v=.ref b/\kss[j]?=aa q/\Adh s.heap q b/\B q b) (bg:(gE kss).length≤4900) (hkl:kss.length=cu.size)
  (h:∀ (h':aY) (tk:Nat),s.toks≤tk->SetT w B h' s.heap.objs.size (gE kss)->(∀ b o,b<s.heap.objs.size->s.heap.get? b=aa o->h'.get? b=aa o)->Q (.ref s.heap.objs.size) { s with heap:=h',toks:=tk }) :
  aJ (aP prog w) A (call (.type "set") [.ref l]) Q E s:=by
 obtain⟨c,tl,hmro⟩:=vE.mro;have z7:=vE.made;have gs:=vE.sub;refine wpAny_call (codeAny_of_tree (show aJ _ _ (callAny (.type "set") _) _ _ _ from ?_))
 refine aQ ⟨Code.quiet_builtin _ (by rw[0]),oB F.entry_type_call ?_⟩
 rw[Around.under_plain (weight_type_call_type "set" [.ref l] []) rfl];have z1:=vE.notType;have z2:=vE.canCreate;have z3:=F.typeCall_set_1 (.ref l)
 repeat (any_goals (first|assumption|wp_step))
 refine BR (Rk (.ref l) (E:=E) (Q₁:=fun u s₁=>u=.ref s.heap.objs.size/\s₁={ s with heap:=s.heap.push (Ano (!hE w)) }) ⟨rfl,rfl⟩) fun r s₁ hr=>?_
 match r,hr with
 |.error e,hr=>exact hr
 |.ok (.ret u),hr=>
  obtain⟨rfl,rfl⟩:=hr;generalize N0:(!hE w)=led;have gS:(s.heap.push (Ano led)).get? s.heap.objs.size=aa (Ano led):=eD _ rfl;have hT:Shared.TypeIs { s with heap:=s.heap.push (Ano led) } (.ref s.heap.objs.size) "set":=⟨_,gS,rfl⟩;have y1:=vE.init.lookup;have y2:=vE.init.bind (.ref s.heap.objs.size)
  repeat (any_goals (first|assumption|wp_step))
  refine BR (Cn (R:=wants (fun r s₂=>r=.none/\∃ h' tk,s.toks≤tk/\s₂={ s with heap:=h',toks:=tk }/\SetT w B h' s.heap.objs.size (gE kss)/\(∀ b o,b<s.heap.objs.size->s.heap.get? b=aa o->h'.get? b=aa o)) E) vE.init.plain F.entry_set_init (check_set_init_1 hT ?_)) fun r₂ s₂ m5=>?_
  ·obtain⟨ol,gl,cl,nl,dl⟩:=hl;obtain⟨ocls,z8,W',wq⟩:=ol;simp only at cl dl;subst cl;subst dl;have gl':(s.heap.push (Ano led)).get? l=aa { cls:=.type "list",dict:=z8,data:=.seq cu nl,slots:=wq }:=cH _ gl;have x1:=F.sub_list_set;have x2:=F.sub_list_frozenset;have x3:(iJ "list" == iJ "dict")=af:=by decide
   have L1:(s.heap.push (Ano led)).IsList l cu:=⟨_,gl',rfl,nl,rfl⟩;unfold Builtin.«set.__init__» noKeywords Builtin.Frozenset.updateFrom;generalize hPI:oA=PI
   wp_walk
   subst hPI;refine Cj L1 (aF (wpAny_runValue ?_));have lS:l<s.heap.objs.size:=cA gl;have hI:(s.heap.push (Ano led)).objs.size=s.heap.objs.size+1:=rF _ _;have nI:l≠(s.heap.push (Ano led)).objs.size:=by rw[hI];exact dI (qF lS)
   have nS:s.heap.objs.size∉[(s.heap.push (Ano led)).objs.size,l]:=by
    intro z;rw[hI] at z;rcases dU.mp z with z|z
    ·exact absurd z (dI (CB _))
    ·exact absurd (dP.mp z) (kB lS)
   have gI:((s.heap.push (Ano led)).push { cls:=.type "list_iterator",data:=.fields #[.ref l,.int 0 0] }).get? s.heap.objs.size=aa (Ano led):=cH _ gS;refine Xn (w:=w) (B:=B) ((Walks.list (by simp[hh]) _ l nI cu).toS) (by show A.units+1+1+30<cLine;omega) s.heap.objs.size nS kss bg (fun i s1 st c hc o e z=>?_) (cu.size-0) 0 _ rfl (dS _) ⟨⟨_,eD _ rfl,rfl,rfl⟩,L1.push _⟩ (Yi (by rw[N0];exact gI)) (fun j v e=>?_) fun s' hm S'=>?_
   ·obtain⟨⟨o',g',c',_⟩,_⟩:=st;rw[dP.mp hc,g'] at e;cases e;rw[c'] at z;exact absurd z (by decide)
   ·obtain⟨b,q,q1,q2,q3,q4⟩:=hd j v e;exact⟨b,q,q1,q2,q3.keep fun b o vs m z _ _=>cH _ (cH _ z),q4⟩
   ·obtain⟨h',g',d',t0,we⟩:=s';obtain rfl:g'=s.gens:=hm.gens;obtain rfl:d'=s.drawn:=hm.drawn;obtain rfl:we=s.os:=hm.os;show aJ _ _ _ _ _ _;refine aQ ?_;show aJ _ _ (ret cU) _ _ _;refine aQ ⟨rfl,h',t0,hm.toks,rfl,by rw[← HX (l:=kss),hkl];exact S',fun b o hb e=>?_⟩
    refine hm.heap b o (fun z=>?_) (cH _ (cH _ e))
    rw[hI] at z;rcases dU.mp z with z|z
    ·exact absurd z (dI hb)
    ·exact absurd (dP.mp z) (dI (qF hb))
  ·match r₂,m5 with
   |.error e,m5=>exact m5
   |.ok (.ret v),m5=>
    obtain⟨rfl,h',tk,ht,rfl,S',ft⟩:=m5
    repeat (any_goals (first|assumption|wp_step))
    exact h _ _ ht S' ft
end
abbrev T8 (a:aD)(o:bI):HO:=.ext fun h=>h.get? a=aa o
abbrev Refs (H:Hp)(ys:List V)(kss:List (List aA)):Prop:=fE (fun y k=>∃ b,y=V.ref b/\Avi H k b) ys kss
theorem SA:∀ {kss:List (List aA)} {ys:List V},(∀ ks∈kss,cC ks=ae/\cL ks≤6)->Aaw K H (kss.map iC) ys->Refs H ys kss
 |[],ys,_,r=>by rw[Aav.mp r];exact .nil
 |k::kss,ys,hk,r=>by
  obtain⟨v,t,rfl,r1,r2⟩:=Aan.mp r;obtain⟨b,rfl,tk⟩:=r1.tupK (hk k bS).1 (hk k bS).2;exact .cons ⟨b,rfl,tk⟩ (SA (fun x m=>hk x (cG _ m)) r2)
theorem Refs.le {H':Hp}(x:∀ c zs,H c=aa (.tup zs)->H' c=aa (.tup zs))(r:Refs H ys kss):Refs H' ys kss:=qQ (fun y k ⟨b,e,t⟩=>⟨b,e,t.keep x⟩) r
instance memK (k:aO)(ai:List aO):Decidable (k∈ai):=decidable_of_iff (ai.any (fun x=>decide (x=k))=ae) (by simp[CU])
abbrev rN (h:aY)(r l:aD)(i:Int):Prop:=h.get? r=aa { cls:=.type "list_reverseiterator",dict:=ab,data:=.fields #[.ref l,dE i],slots:=#[] }
theorem Aej:OD "list_reverseiterator" "__next__" "list_reverseiterator.__next__":=
 .of (owner:="list_reverseiterator") (n:="__next__") (by rw[uH,uN];kernel_rfl) (by rw[0]) (by rw[0]) (by rw[0])
  (by first|exact .inl (by rw[0])|exact .inr (by rw[0])) (by rw[uK];kernel_rfl)
theorem ZV:uM table "list_reverseiterator.__next__" = aa Builtin.«list_reverseiterator.__next__»:=NZ (by kernel_rfl)
theorem WQ:Manifest.owners.lookup (String.ofList "list_reverseiterator".toList.reverse.reverse)=aa Manifest.sig_list_reverseiterator:=by kernel_rfl
theorem ZN (a:aC):uP "list_reverseiterator.__next__" ⟨[a],[]⟩:=by
 unfold uP;rw[NX (id:="list_reverseiterator.__next__") (n:="__next__".toList.reverse) (o:="list_reverseiterator".toList.reverse) (by kernel_rfl) WQ]
 kernel_rfl
theorem ZM:OD "list_reverseiterator" "__iter__" "list_reverseiterator.__iter__":=
 .of (owner:="list_reverseiterator") (n:="__iter__") (by rw[uH,uN];kernel_rfl) (by rw[0]) (by rw[0]) (by rw[0])
  (by first|exact .inl (by rw[0])|exact .inr (by rw[0])) (by rw[uK];kernel_rfl)
theorem Tn:uM table "list_reverseiterator.__iter__" = aa Builtin.«dict_keyiterator.__iter__»:=
 OA (id':="dict_keyiterator.__iter__") (by kernel_rfl) (by first|rfl|decide +kernel|(unfold Cp;simp +decide [Co])) (by rw[0]) (by kernel_rfl)
theorem Sv (a:aC):uP "list_reverseiterator.__iter__" ⟨[a],[]⟩:=by
 unfold uP;rw[NX (id:="list_reverseiterator.__iter__") (n:="__iter__".toList.reverse) (o:="list_reverseiterator".toList.reverse) (by kernel_rfl) WQ]
 kernel_rfl
theorem Yg{Q:Option aC->aH->Prop}(hr:rN s.heap r l (k:Int))(hl:s.heap.IsList l us)(hu:us[k]?=aa u)
  (q:∀ h',rN h' r l ((k:Int)-1)->nE r s.heap h'->Q (aa u) { s with heap:=h' }):aJ (aP P w) A (fZ (.ref r)) Q E s:=by
 have ty:s.TypeIs (.ref r) "list_reverseiterator":=⟨_,hr,rfl⟩;obtain⟨ol,l1,_,nl,l2⟩:=hl;unfold fZ;refine aF (nZ (mB (name:=jZ "__next__") ty Aej (iH Aej ty ZV ?_ (ZN _))));show aJ _ _ (lP (.ref r) 1>>=_) _ _ s;refine aF (jS hr rfl (x:=dE k) rfl ?_);have h0:¬ ((k:Int)<0):=by omega
 show aJ _ _ (if (k:Int)<0 then _ else _) _ _ s
 rw[if_neg h0];show aJ _ _ (lP (.ref r) 0>>=_) _ _ s;refine aF (jS hr rfl (x:=.ref l) rfl (aF (kO l1 l2 ?_)));simp only[lR,hu];refine aF (mT hr (by simp) fun h' g sb=>aQ ⟨u,rfl,aQ (q h' g sb)⟩)
theorem Wa{i:Int}{Q:Option aC->aH->Prop}(hh:A.handled=ab)(hr:rN s.heap r l i)(h0:i<0)(q:∀ h',(∀ b o,s.heap.get? b=aa o->h'.get? b=aa o)->Q ab { s with heap:=h' }):aJ (aP P w) A (fZ (.ref r)) Q E s:=by
 have ty:s.TypeIs (.ref r) "list_reverseiterator":=⟨_,hr,rfl⟩;unfold fZ;refine aF (nZ (mB (name:=jZ "__next__") ty Aej (iH Aej ty ZV ?_ (ZN _))));show aJ _ _ (lP (.ref r) 1>>=_) _ _ s;refine aF (jS hr rfl (x:=dE i) rfl ?_);show aJ _ _ (if i<0 then _ else _) _ _ s
 rw[if_pos h0];refine aF (lA (aF ?_));show aJ _ _ (uJ (.type "StopIteration") []>>=_) _ _ _;rw[9];simp only[uJ,BP];refine aF (lB ?_ (by size_fits))
 refine aF (m:=rA _ _) (xH (a:=cU) (by first|rfl|(simp only[rA];rfl)) ?_)
 refine lB ?_ (by size_fits)
 simp only[raiseNew];refine aF (HF ?_)
 first|rw[show A.in1.handled=ab from hh]|rw[hh]
 refine aF (aQ (HB ?_));refine aF (qZ (T:="StopIteration") (b:=ae) ⟨_,eD _ rfl,rfl⟩ BQ ?_);exact aQ (q _ fun b o e=>cH _ (cH _ e))
theorem UD{i:Int}(hr:rN s.heap r l i)(q:Q (.ref r) s):aJ (aP P w) A (oA (.ref r)) Q E s:=by
 have ty:s.TypeIs (.ref r) "list_reverseiterator":=⟨_,hr,rfl⟩;refine BJ ty ZM (iH ZM ty Tn ?_ (Sv _));show aJ _ _ (ret (.ref r)) _ _ s;exact aQ ⟨_,rfl,"list_reverseiterator",_,ty,Aej.lookup,q⟩
theorem Sg{sl:Array (Option aC)}{Q₁:aC->aH->Prop}(hl:s.heap.get? l=aa { cls:=.type "list",dict:=ab,data:=.seq us n,slots:=sl })
  (q:Q₁ (.ref s.heap.objs.size) { s with heap:=s.heap.push { cls:=.type "list_reverseiterator",data:=.fields #[.ref l,dE ((us.size:Int)-1)] } }) :
  pG (aP P w) A (.call (.builtin "reversed.__new__") ⟨[.type "reversed",.ref l],[]⟩) (wants Q₁ E) s:=by
 have gs:isSubtype (.type "reversed") (.type "reversed")=pure ae:=by rw[uK];kernel_rfl
 refine Cn (by rw[0]) (NZ (by kernel_rfl):uM table "reversed.__new__" = aa Builtin.«reversed.__new__») (xH (show checkBuiltinCall "reversed.__new__" ⟨[.type "reversed",.ref l],[]⟩=pure () by kernel_rfl) ?_)
 obtain⟨hp,g,d,tk,os⟩:=s;have ty:(⟨hp,g,d,tk,os⟩:aH).TypeIs (.ref l) "list":=⟨_,hl,rfl⟩;have f1:=PR.lookup;have f2:=PR.bind (.ref l);unfold Builtin.«reversed.__new__»
 wp_walk
 refine Cn PR.plain F.entry_list_reversed (PR.check _ _ _ _ _ _ _ _ ty (F.args_list_reversed_1 _) ?_)
 wp_walk
 exact q
theorem Vl{sl:Array (Option aC)}(hl:s.heap.get? l=aa { cls:=.type "list",dict:=ab,data:=.seq us n,slots:=sl })
  (q:Q (.ref s.heap.objs.size) { s with heap:=s.heap.push { cls:=.type "list_reverseiterator",data:=.fields #[.ref l,dE ((us.size:Int)-1)] } }):aJ (aP P w) A (call (.type "reversed") [.ref l]) Q E s:=by
 have mro:mroOf (.type "reversed")=pure [.type "reversed",.type "object"]:=by rw[mroOf_type];kernel_rfl
 have lk:xK (.type "reversed") "__new__" = pure (aa (.builtin "reversed.__new__")):=by rw[uH,uN];kernel_rfl
 have z7:Bind.madeBy (.type "reversed")=pure (aa "reversed.__new__"):=madeBy_type mro lk (by rw[0])
 have gs:isSubtype (.type "reversed") (.type "reversed")=pure ae:=by rw[uK];kernel_rfl
 have rj:isSubtype (.type "list_reverseiterator") (.type "reversed")=pure af:=by rw[uK];kernel_rfl
 refine wpAny_call (codeAny_of_tree (show aJ _ _ (callAny (.type "reversed") _) _ _ _ from ?_))
 refine aQ ⟨Code.quiet_builtin _ (by rw[0]),oB F.entry_type_call ?_⟩
 rw[Around.under_plain (weight_type_call_type "reversed" [.ref l] []) rfl];have z1:(iJ "reversed" == iJ "type")=af:=by rw[0]
 have z2:((Manifest.find? "reversed").bind (·.mro.findSome? fun t=>(Manifest.find? t).bind fun b=>if b.noNew then aa ae else if b.attrs.any (·.1 == "__new__") then aa af else ab)).getD af=af:=by rw[0]
 have z3:checkTypeCall "reversed" ⟨[.ref l],[]⟩=pure ():=by kernel_rfl
 repeat (any_goals (first|assumption|wp_step))
 refine BR (Sg (E:=E) (Q₁:=fun u s1=>u=.ref s.heap.objs.size/\s1={ s with heap:=s.heap.push { cls:=.type "list_reverseiterator",data:=.fields #[.ref l,dE ((us.size:Int)-1)] } }) hl ⟨rfl,rfl⟩) fun r s1 hr=>?_
 match r,hr with
 |.error e,hr=>exact hr
 |.ok (.ret u),hr=>
  obtain⟨rfl,rfl⟩:=hr;refine aF (qZ (T:="list_reverseiterator") (b:=af) ⟨_,eD _ rfl,rfl⟩ rj ?_);exact aF (lA (aQ q))
theorem SD {α:Type}{l:List α}(h:i<l.length):(l[i]::l.eraseIdx i).Perm l:=by
 rw[List.eraseIdx_eq_take_drop_succ];refine List.perm_middle.symm.trans ?_;have:l.take i++l[i]::l.drop (i+1)=l:=by
  rw[← CS h,nA]
 rw[this]
theorem SX {α:Type}(f:Nat->Nat):∀ (n k:Nat) (l:List α) (out:Array α),l.length=n->(pickOrder.go f n k l out).toList.Perm (out.toList++l)
 |0,k,l,out,h=>by
  have:l=[]:=d8.mp h;rw[10];show out.toList.Perm _;simp
 |n+1,k,l,out,h=>by
  have hi:f k%l.length<l.length:=xT _ (by omega)
  unfold pickOrder.go;rw[eI hi];rw[7];refine(SX f n (k+1) _ _ (by rw[d7 hi];omega)).trans ?_
  rw[CY,mG];exact(SD hi).append_left _
theorem Zc {α:Type}(f:Nat->Nat)(xs:Array α):(pickOrder f xs).toList.Perm xs.toList:=by
 have:=SX f xs.size 0 xs.toList #[] (by simp)
 simpa [pickOrder] using this
def qa (w:bG)(a:aD)(ep:Nat)(es:Array (Int×aC)):List (Int×aC):=if hE w=ae then(pickOrder (w.params.setOrder a ep) es).toList else es.toList
theorem UL (w:bG)(a:aD)(ep:Nat)(es:Array (Int×aC)):(qa w a ep es).Perm es.toList:=by
 unfold qa;split
 ·exact Zc _ _
 ·exact .refl _
theorem EV (w:bG)(a:aD)(ep:Nat)(es:Array (Int×aC)):(qa w a ep es).length=es.size:=by
 rw[(UL w a ep es).length_eq,jU]
def slotAt (w:bG)(t:fJ):Nat->Nat
 |0=>0
 |i+1=>if hE w=ae then 0 else t.place.getD i 0+1
theorem LL (w:bG)(t:fJ)(i:Nat):slotAt w t (i+1)=if hE w=ae then 0 else t.place.getD i 0+1:=rfl
theorem Qc{t:fJ}(hr:nG t.place)(hb:hE w=af)(hi:i≤t.place.size):below t.place (slotAt w t i)=i:=by
 obtain⟨b1,b2,b3⟩:=GA hr (slotAt w t i);cases i with
 |zero=>
  rcases Nat.eq_zero_or_pos (below t.place (slotAt w t 0)) with e|e
  ·exact e
  ·have:=b2 0 e (t.place[0]'(by omega)) (lF _)
   exact absurd this (by simp[slotAt])
 |succ i=>
  have hv:t.place[i]?=aa (t.place[i]'(by omega)):=lF _
  have es:slotAt w t (i+1)=t.place[i]'(by omega)+1:=by
   rw[LL,if_neg (by rw[hb];simp)]
   simp[Array.getD,show i<t.place.size by omega]
  rw[es] at b1 b2 b3 ⊢;rcases HU (below t.place (t.place[i]'(by omega)+1)) (i+1) with c|c|c
  ·have:=b3 i (by omega) _ hv
   omega
  ·exact c
  ·have XL:t.place[i+1]?=aa (t.place[i+1]'(by omega)):=lF _
   have h1:=b2 (i+1) c _ XL;have h2:=hr i (i+1) _ _ (by omega) hv XL
   omega
section
variable {t:fJ}
theorem VC (S:WSet w s.heap a o es ep t)(gw:hE w=af->(!t.plain&&decide (es.size > 1))=af)(hi:i≤es.size){Q:Option (aC×Nat)->aH->Prop}
  (q:Q (((qa w a ep es)[i]?).map fun e=>(e.2,slotAt w t (i+1))) s):aJ (aP prog w) A (setNext a (slotAt w t i) i ep) Q E s:=by
 unfold setNext;refine aF (qX S.get S.data S.fine.fits ?_);rw[7];unfold setsByText;refine aF (aF (BM (aQ ?_)));by_cases hb:hE w=ae
 ·refine qY (fun _=>?_) (fun z=>absurd hb z)
  rw[if_neg (by simp)]
  rw[9];unfold setWalk;refine aF (qX S.get S.data S.fine.fits ?_);rw[7];unfold setsByText;refine aF (aF (BM (aQ ?_)));refine qY (fun _=>?_) (fun z=>absurd hb z)
  refine aF (BM (aQ (aQ ?_)));have e1:qa w a ep es=(pickOrder (w.params.setOrder a ep) es).toList:=by unfold qa;rw[if_pos hb]
  have e2:∀ j,slotAt w t j=0:=fun j=>by
   cases j with
   |zero=>rfl
   |succ j=>rw[LL,if_pos hb]
  rw[e1,e2 (i+1),lT] at q;rw[e2 i];exact q
 ·refine qY (fun z=>absurd z hb) (fun _=>?_)
  have t4:hE w=af:=by simpa using hb
  refine qY (fun z=>?_) (fun _=>?_)
  ·have z':(!t.plain&&decide (es.size > 1))=ae:=z;rw[gw t4] at z';cases z'
  ·refine aF (show aJ _ _ (if (!t.led&&!es.isEmpty)=ae then unsupported "set:maker-not-led" else pure ()) _ _ _ from ?_)
   rw[if_neg (by rw[S.led,t4];simp)]
   refine aQ (aQ ?_);have e1:qa w a ep es=es.toList:=by unfold qa;rw[if_neg hb]
   have hz:=S.fine.good.len;have e3:below t.place (slotAt w t i)=i:=Qc S.fine.good.ris t4 (by omega)
   rw[e1,lT] at q;rw[e3];by_cases c:i<es.size
   ·have p1:es[i]?=aa (es[i]'c):=lF _;have p2:t.place[i]?=aa (t.place[i]'(by omega)):=lF _
    have p3:slotAt w t (i+1)=t.place[i]'(by omega)+1:=by
     rw[LL,if_neg hb];simp[Array.getD,show i<t.place.size by omega]
    rw[p1,p3] at q;rw[p1,p2];exact q
   ·have p1:es[i]?=ab:=QE (by omega)
    rw[p1] at q;rw[p1];exact q
abbrev vT (h:aY)(r a:aD)(k i n ep:Nat):Prop:=h.get? r=aa { cls:=.type "set_iterator",dict:=ab,data:=.fields #[dE k,dE i,.ref a,dE n,dE ep],slots:=#[] }
end
theorem Aa9:OD "set_iterator" "__next__" "set_iterator.__next__":=
 .of (owner:="set_iterator") (n:="__next__") (by rw[uH,uN];kernel_rfl) (by rw[0]) (by rw[0]) (by rw[0])
  (by first|exact .inl (by rw[0])|exact .inr (by rw[0])) (by rw[uK];kernel_rfl)
theorem GN:uM table "set_iterator.__next__" = aa Builtin.«set_iterator.__next__»:=NZ (by kernel_rfl)
theorem XA:Manifest.owners.lookup (String.ofList "set_iterator".toList.reverse.reverse)=aa Manifest.sig_set_iterator:=by kernel_rfl
theorem GJ (a:aC):uP "set_iterator.__next__" ⟨[a],[]⟩:=by
 unfold uP;rw[NX (id:="set_iterator.__next__") (n:="__next__".toList.reverse) (o:="set_iterator".toList.reverse) (by kernel_rfl) XA]
 kernel_rfl
theorem GK:OD "set_iterator" "__iter__" "set_iterator.__iter__":=
 .of (owner:="set_iterator") (n:="__iter__") (by rw[uH,uN];kernel_rfl) (by rw[0]) (by rw[0]) (by rw[0])
  (by first|exact .inl (by rw[0])|exact .inr (by rw[0])) (by rw[uK];kernel_rfl)
theorem ZX:uM table "set_iterator.__iter__" = aa Builtin.«dict_keyiterator.__iter__»:=
 OA (id':="dict_keyiterator.__iter__") (by kernel_rfl) (by first|rfl|decide +kernel|(unfold Cp;simp +decide [Co])) (by rw[0]) (by kernel_rfl)
theorem ZU (a:aC):uP "set_iterator.__iter__" ⟨[a],[]⟩:=by
 unfold uP;rw[NX (id:="set_iterator.__iter__") (n:="__iter__".toList.reverse) (o:="set_iterator".toList.reverse) (by kernel_rfl) XA]
 kernel_rfl
theorem ZR:uM table "set.__iter__" = aa Builtin.«frozenset.__iter__»:=
 OA (id':="frozenset.__iter__") (by kernel_rfl) (by first|rfl|decide +kernel|(unfold Cp;simp +decide [Co])) (by rw[0]) (by kernel_rfl)
section
variable {t:fJ}
theorem Vo (S:WSet w s.heap a o es ep t)(gw:hE w=af->(!t.plain&&decide (es.size > 1))=af)(hr:vT s.heap r a (slotAt w t i) i es.size ep){e:Int×aC}(he:(qa w a ep es)[i]?=aa e){Q:Option aC->aH->Prop}
  (q:∀ h',vT h' r a (slotAt w t (i+1)) (i+1) es.size ep->nE r s.heap h'->Q (aa e.2) { s with heap:=h' }):aJ (aP prog w) A (fZ (.ref r)) Q E s:=by
 have ty:s.TypeIs (.ref r) "set_iterator":=⟨_,hr,rfl⟩;have hi:i<es.size:=by
  rw[← EV w a ep es];exact(dF.mp he).1
 unfold fZ;refine aF (nZ (mB (name:=jZ "__next__") ty Aa9 (iH Aa9 ty GN ?_ (GJ _))));show aJ _ _ (fieldsOf (.ref r)>>=_) _ _ s;refine aF (BL hr rfl ?_);show aJ _ _ (setEntries a>>=_) _ _ s;refine aF (BI S.get S.data S.fine.fits ?_);show aJ _ _ (if ((es.size:Int) != (es.size:Int))=ae then _ else _) _ _ s
 rw[if_neg (by simp)]
 show aJ _ _ (setNext a ((slotAt w t i:Int)).toNat ((i:Int)).toNat ((ep:Int)).toNat>>=_) _ _ s;rw[lR,lR,lR];refine aF (VC S gw (by omega) ?_)
 rw[he];show aJ _ _ (BN (.ref r) 0 (dE (slotAt w t (i+1):Nat))>>=_) _ _ s;refine aF (mT hr (by simp) fun h1 g1 r9=>?_)
 refine aF (mT g1 (by simp) fun h2 g2 F4=>aQ ⟨e.2,rfl,aQ (q h2 ?_ (r9.trans F4))⟩)
 exact g2
theorem Yd (hh:A.handled=ab)(S:WSet w s.heap a o es ep t)(gw:hE w=af->(!t.plain&&decide (es.size > 1))=af)(hr:vT s.heap r a (slotAt w t es.size) es.size es.size ep){Q:Option aC->aH->Prop}
  (q:∀ h',(∀ b ob,b≠r->s.heap.get? b=aa ob->h'.get? b=aa ob)->Q ab { s with heap:=h' }):aJ (aP prog w) A (fZ (.ref r)) Q E s:=by
 have ty:s.TypeIs (.ref r) "set_iterator":=⟨_,hr,rfl⟩;unfold fZ;refine aF (nZ (mB (name:=jZ "__next__") ty Aa9 (iH Aa9 ty GN ?_ (GJ _))));show aJ _ _ (fieldsOf (.ref r)>>=_) _ _ s;refine aF (BL hr rfl ?_);show aJ _ _ (setEntries a>>=_) _ _ s;refine aF (BI S.get S.data S.fine.fits ?_);show aJ _ _ (if ((es.size:Int) != (es.size:Int))=ae then _ else _) _ _ s
 rw[if_neg (by simp)]
 show aJ _ _ (setNext a ((slotAt w t es.size:Int)).toNat ((es.size:Int)).toNat ((ep:Int)).toNat>>=_) _ _ s;rw[lR,lR,lR];refine aF (VC S gw (cE _) ?_);rw[xZ (by rw[EV];exact cE _)]
 show aJ _ _ (BN (.ref r) 2 cU>>=_) _ _ s;refine aF (mT hr (by simp) fun h1 g1 r9=>?_)
 rw[9];simp only[uJ,BP];refine aF (lB ?_ (by size_fits))
 refine aF (m:=rA _ _) (xH (a:=cU) (by first|rfl|(simp only[rA];rfl)) ?_)
 refine lB ?_ (by size_fits)
 simp only[raiseNew];refine aF (HF ?_)
 first|rw[show A.in1.handled=ab from hh]|rw[hh]
 refine aF (aQ (HB ?_));refine aF (qZ (T:="StopIteration") (b:=ae) ⟨_,eD _ rfl,rfl⟩ BQ ?_);exact aQ (q _ fun b ob ne e=>cH _ (cH _ ((r9.2 b ne).trans e)))
theorem Va(hr:vT s.heap r a k i n ep)(q:Q (.ref r) s):aJ (aP prog w) A (oA (.ref r)) Q E s:=by
 have ty:s.TypeIs (.ref r) "set_iterator":=⟨_,hr,rfl⟩;refine BJ ty GK (iH GK ty ZX ?_ (ZU _));show aJ _ _ (ret (.ref r)) _ _ s;exact aQ ⟨_,rfl,"set_iterator",_,ty,Aa9.lookup,q⟩
theorem Uz (S:WSet w s.heap a o es ep t)(gw:hE w=af->(!t.plain&&decide (es.size > 1))=af)
  (q:Q (.ref s.heap.objs.size) { s with heap:=s.heap.push { cls:=.type "set_iterator",data:=.fields #[dE (0:Nat),dE (0:Nat),.ref a,dE (es.size:Nat),dE (ep:Nat)] } }):aJ (aP prog w) A (oA (.ref a)) Q E s:=by
 have ty:s.TypeIs (.ref a) "set":=⟨_,S.get,S.exact.1⟩;refine BJ ty PQ (iH PQ ty ZR ?_ (F.args_set_iter_1 _));show aJ _ _ (QB a>>=_) _ _ s;unfold QB;refine aF (aF (BI S.get S.data S.fine.fits (aQ ?_)));rw[9];unfold setDrawn;refine aF (qX S.get S.data S.fine.fits ?_);rw[7];unfold setsByText;refine aF (aF (BM (aQ ?_)));refine aQ ?_;refine qY (fun z=>?_) (fun _=>aF (aQ ?_))
 ·have z':(!(w.params.followText "set-order")&&(!t.plain&&decide (es.size > 1)))=ae:=z;cases hb:hE w with
  |true=>
   have t4:w.params.followText "set-order" = ae:=hb;rw[t4] at z';cases z'
  |false=>
   rw[gw hb] at z';simp at z'
 ·refine aF (wpAny_setEpoch_of S.get S.data S.fine.fits ?_);exact aF (lB (aQ ⟨_,rfl,"set_iterator",_,⟨_,eD _ rfl,rfl⟩,Aa9.lookup,q⟩) (by size_fits))
theorem Zn (hh:A.handled=ab)(r a:aD)(ne:a≠r)(S:WSet w h0 a o es ep t)(gw:hE w=af->(!t.plain&&decide (es.size > 1))=af) :
  Walks prog w A r [r,a] [r] es.size (fun i v=>∃ e,(qa w a ep es)[i]?=aa e/\v=e.2) (fun i h=>vT h r a (slotAt w t i) i es.size ep/\h.get? a=aa o) where
 sub:=fun b hb=>by rw[dP.mp hb];exact bS
 frame:=fun _ _ _ st hk=>⟨hk r bS _ st.1,hk a (cG _ bS) _ st.2⟩
 item:=fun i s Q E hi st hQ=>by
  have S':WSet w s.heap a o es ep t:=⟨st.2,S.exact,S.data,S.fine,S.led⟩;have hx:(qa w a ep es)[i]?=aa ((qa w a ep es)[i]'(by rw[EV];exact hi)):=eI _
  exact Vo S' gw st.1 hx fun h' ak sb=>hQ _ h' s.toks ⟨_,hx,rfl⟩ ⟨ak,(sb.2 a ne).trans st.2⟩ fun b o hb e=>(sb.2 b (fun z=>hb (dP.mpr z))).trans e
 done:=fun s Q E st hQ=>by
  have S':WSet w s.heap a o es ep t:=⟨st.2,S.exact,S.data,S.fine,S.led⟩;exact Yd hh S' gw st.1 fun h' he=>hQ h' s.toks fun b ob hb e=>he b ob (fun z=>hb (dP.mpr z)) e
 self:=fun _ _ _ _ st hQ=>Va st.1 hQ
end
def IL (K:aM)(a:aD)(n:Nat):It:=
 ⟨fun i H=>∃ xs,SqL K H a xs/\xs.length=n/\i<n,fun i H x H'=>H'=H/\∀ xs,SqL K H a xs->xs[n-1-i]?=aa x,fun i H=>n≤i⟩
theorem Xr(a r:aD)(n:Nat):Turn P w K tg (IL K a n) [r] r (fun i h=>rN h r a ((n:Int)-1-i)) where
 mem:=dP.mpr rfl
 obj:=fun i h st b hb=>by
  rw[dP.mp hb];exact⟨_,st,fun v z=>by
   have z':Data.fields _=Data.cell v:=z;cases z'⟩
 keep:=fun i h h' st k=>k r (dP.mpr rfl) _ st
 item:=by
  rw[2];obtain⟨xs,hq,hn,hi⟩:=hg;obtain⟨its,rv,p,hz⟩:=I.list hq;have hl:xs.length=its.length:=rv.length;obtain⟨x,hx⟩:∃ x,xs[n-1-i]?=aa x:=⟨_,eI (by omega)⟩
  obtain⟨u,hu,ru⟩:=rv.get hx;have ei:((n:Int)-1-i)=((n-1-i:Nat):Int):=by omega
  rw[ei] at st;refine Yg st p.isList (u:=u) (by simpa using hu) fun h' ak sb=>?_
  have I1:Inv X ad σ H { s with heap:=h' }:=I.turnM (t':=s.toks) hf fun b o nb e=>sb.extBut b o (fun q=>nb (dP.mpr q)) e
  have ca:rN h' r a ((n:Int)-1-((i+1:Nat):Int)):=by
   have e2:((n:Int)-1-((i+1:Nat):Int))=((n-1-i:Nat):Int)-1:=by omega
   rw[e2];exact ak
  exact⟨u,rfl,yT (s:={ s with heap:=h' }) (n:="list_reverseiterator") ca rfl rfl (by decide) ⟨x,H,I1,ru,⟨rfl,fun mf h=>by rw[I.list_inj h hq];exact hx⟩,ca,fun b hb=>(hf b hb).1⟩⟩
 done:=by
  rw[2];have hg':n≤i:=hg;exact Wa (I.ok.hd hc) st (by omega) fun h' eb=>⟨rfl,I.turnM (t':=s.toks) hf fun b o nb e=>eb b o e⟩
 self:=fun _ _ _ _ _ st h=>UD st h
section
variable {a:bF}{p:cV}
def Fg (K:aM)(ta:TA):TI:=fun σ H R=>ta σ H fun vs H1=>∃ a1 xs,vs=[.ref a1]/\SqL K H1 a1 xs/\R (IL K a1 xs.length) H1
theorem Ip(hg:Gl X "reversed")(hm:X.mg "reversed" = ab)(ha:PA X [a] ta)(hs:bY [a] X.env=[(af,cD a X.env)]:=by rfl):PI X tg (.Call (.Name "reversed" p) [a] [] pos) (Fg X.K ta):=by
 intro ad s σ H R I h;refine Call_ (rS I hg hm boot_reversed (BV (bp (ha pos ad s σ H _ I h) fun us s1 ⟨vs,H1,I1,r1,q1⟩=>?_) hs (by rfl)))
 obtain⟨a1,xs,rfl,k1,q⟩:=q1;obtain⟨u,rfl,ru⟩:=vals1 r1;cases ru;obtain⟨its,rv,⟨o,n,ho,E4,vi,XV⟩,hz⟩:=I1.list k1;have hl:xs.length=its.length:=rv.length;obtain⟨c,dct,dat,sl⟩:=o;simp only at E4 vi XV;subst E4 vi XV;have g:rN (s1.heap.push { cls:=.type "list_reverseiterator",data:=.fields #[.ref a1,dE ((its.toArray.size:Int)-1)] }) s1.heap.objs.size a1 ((its.toArray.size:Int)-1):=eD _ rfl;refine Vl ho (UD g ?_);refine⟨s1.heap.objs.size,[s1.heap.objs.size],_,_,H1,rfl,I1.kept (t':=s1.toks) fun b o e=>cH _ e,Xr a1 _ xs.length,?_,fun b hb=>?_,q⟩
 ·have e:((xs.length:Int)-1-((0:Nat):Int))=((its.toArray.size:Int)-1):=by
   rw[gG,hl];simp
  show rN _ _ _ ((xs.length:Int)-1-((0:Nat):Int));rw[e];exact g
 ·rw[dP.mp hb];exact I1.fpOk (cE _) (I1.hok.fresh (cE _))
def T7 (fa:AF):AF:=fun ρ=>(fa ρ).bind fun ds=>match ds with
 |[.list xs]=>aa xs.reverse
 |_=>ab
theorem Ut{a1:aD}{xs:List V}(h1:∀ H2,Ext B H2->SqL K H2 a1 xs)(r1:Aaw K B ds xs):sx K B (IL K a1 xs.length) ds.reverse:=fun i H2 x2=>by
 have hl:=r1.length;refine⟨fun d hd=>?_,fun e=>?_⟩
 ·have hi:i<ds.length:=by
   have:=(dF.mp hd).1;simpa using this
  rw[List.getElem?_reverse hi] at hd;obtain⟨v1,g1,g2⟩:=r1.get hd;refine⟨⟨xs,h1 H2 x2,rfl,by omega⟩,?_⟩
  rintro x H3 ⟨rfl,hx⟩;have:=hx xs (h1 _ x2);rw[hl] at this;obtain rfl:v1=x:=gY (g1.symm.trans this);exact⟨Ext.refl,fun P2 _ xb=>g2.ext xb⟩
 ·have e':ds.length=i:=by simpa using e
  show xs.length≤i;omega
theorem Iw(hg:Gl X "reversed")(hm:X.mg "reversed" = ab)(ha:DA X [a] fa)(hs:bY [a] X.env=[(af,cD a X.env)]:=by rfl) :
  DI X tg (.Call (.Name "reversed" p) [a] [] pos) (T7 fa):=PI.imp (Ip hg hm ha hs) fun σ H R gh=>by
 obtain⟨P,ρ,ds,hP,rs,ef,k⟩:=gh;obtain⟨as,e1,cz⟩:=ao ef;clear ef;split at cz
 ·cases cz;refine⟨P,ρ,_,hP,rs,e1,fun vs H1 x1 r1=>?_⟩
  obtain⟨v,rfl,q1⟩:=kZ r1;obtain⟨a1,xs,rfl,hr,rr⟩:=Abh.mp q1;exact⟨a1,xs,rfl,Aa0.sqL hr,k _ H1 x1 (Ut (fun H2 x2=>x2.sqL hr) rr)⟩
 ·cases cz
end
theorem TK{Q:Bool->aH->Prop}(ty:s.TypeIs (.ref a) "set")(q:Q af s):aJ (aP prog w) A (IH (.ref a)) Q E s:=by
 unfold IH;refine aF (xG ty F.slot_set_len.lookup ?_);generalize hid:("set.__len__" : String)=id0
 wp_delta
 rw[show splitId id0=aa ("set","__len__") from by subst hid;decide +kernel]
 subst hid;refine aF (qZ (T:="set") (b:=ae) ty sub_set_self ?_);refine qY (fun mh=>absurd mh (by decide)) (fun _=>?_)
 refine qY (fun _=>?_) (fun mh=>absurd (by rw[0]) mh)
 refine aF (sL ty ?_);exact aQ q
set_option maxHeartbeats 4000000 in
theorem Qm{t:fJ}(hh:A.handled=ab)(S:WSet w s.heap a o es ep t)(gw:hE w=af->(!t.plain&&decide (es.size > 1))=af){Q:List aC->aH->Prop}
  (q:∀ h' tk,s.toks≤tk->s.heap.objs.size<h'.objs.size->(∀ b ob,s.heap.get? b=aa ob->h'.get? b=aa ob)->Q ((qa w a ep es).map (·.2)) { s with heap:=h',toks:=tk }):aJ (aP prog w) A (collect (.ref a)) Q E s:=by
 have aS:a<s.heap.objs.size:=cA S.get;unfold collect;refine aF (wpAny_runValue (oB F.entry_proto_collect ?_));rw[qK F.plain_proto_collect _];refine aF (show aJ _ A.in1 (newList []) _ _ s from lB ?_)
 refine aQ ⟨qB PU _,oB F.entry_list_iadd ?_⟩;rw[qK PU _];generalize wt:s.heap.push { cls:=.type "list",data:=.seq ([]:List aC).toArray }=h1;have k1:∀ b ob,s.heap.get? b=aa ob->h1.get? b=aa ob:=fun b ob e=>by rw[← wt];exact cH _ e
 have z1:h1.objs.size=s.heap.objs.size+1:=by rw[← wt];exact rF _ _
 have g1:h1.get? s.heap.objs.size=aa { cls:=.type "list",data:=.seq ([]:List aC).toArray }:=by rw[← wt];exact eD _ rfl
 have S1:WSet w h1 a o es ep t:=⟨k1 _ _ S.get,S.exact,S.data,S.fine,S.led⟩;show aJ _ A.in1 (rJ (.ref s.heap.objs.size) (.ref a) (.ref s.heap.objs.size)) _ _ _;unfold rJ;refine aF (sL (T:="set") ⟨_,S1.get,S1.exact.1⟩ ?_);have n1:yI (.ref s.heap.objs.size) (.ref a)=af:=by simp[yI,kB aS]
 rw[if_neg (by rw[n1];decide)]
 refine aF (Uz (s:={ s with heap:=h1 }) S1 gw ?_);show aJ _ _ _ _ _ { s with heap:=h1.push _ };generalize yc:h1.push { cls:=.type "set_iterator",data:=.fields #[dE (0:Nat),dE (0:Nat),.ref a,dE (es.size:Nat),dE (ep:Nat)] }=h2;have k2:∀ b ob,h1.get? b=aa ob->h2.get? b=aa ob:=fun b ob e=>by rw[← yc];exact cH _ e
 have gr:vT h2 h1.objs.size a (slotAt w t 0) 0 es.size ep:=by rw[← yc];exact eD _ rfl
 have S2:WSet w h2 a o es ep t:=⟨k2 _ _ S1.get,S.exact,S.data,S.fine,S.led⟩;have ne:a≠h1.objs.size:=by rw[z1];exact dI (qF aS)
 show aJ _ _ (pF [.ref h1.objs.size] (IH (.ref a))>>=_) _ _ _;refine aF (jE (TK ⟨_,S2.get,S2.exact.1⟩ ?_));refine qY (fun _=>?_) (fun z=>absurd (by rw[0]) z)
 refine aF (lA ?_);refine aF (show aJ _ A.in1 (xJ s.heap.objs.size (·.push .none)>>=fun _=>xJ s.heap.objs.size (·.pop)) _ _ _ from ?_)
 refine aF (xF (k2 _ _ g1) rfl ?_);have z9:=qJ (gF (·.push cU)) (k2 _ _ g1) rfl;refine xF z9 rfl ?_;have N3:=qJ (gF (·.pop)) z9 rfl;have vt:∀ b ob,b≠s.heap.objs.size->h2.get? b=aa ob->((h2.update s.heap.objs.size (gF (·.push cU))).update s.heap.objs.size (gF (·.pop))).get? b=aa ob:=
  fun b ob hb e=>(sU _ _ (kR hb)).trans ((sU _ _ (kR hb)).trans e)
 have nS:s.heap.objs.size∉[h1.objs.size,a]:=by
  intro z;rcases dU.mp z with z|z
  ·rw[z1] at z;exact absurd z (dI (CB _))
  ·exact absurd (dP.mp z) (kB aS)
 have few:=S.fine.few;refine aQ ⟨qB Ed _,Cm ((Zn (A:=A.in1) (by simp[hh]) h1.objs.size a ne S2 gw).toS) (by rw[mU];omega) _ nS _ es.size 0 _ _ _ rfl (dS _) ⟨vt _ _ (by rw[z1];exact Nat.succ_ne_self _) gr,vt _ _ (dI aS) S2.get⟩ N3 (ItemsOf.nil _) fun s' dg c' hm pq jk=>?_⟩
 show aJ _ A (load s.heap.objs.size>>=_) _ _ s';refine aF (wpAny_load pq (aQ ?_));obtain⟨h',g',d',t0,we⟩:=s';obtain rfl:g'=s.gens:=hm.gens;obtain rfl:d'=s.drawn:=hm.drawn;obtain rfl:we=s.os:=hm.os;have wu:dg.toList=(qa w a ep es).map (·.2):=by
  apply CP;intro j;rw[fA,lT];by_cases hj:j<es.size
  ·have e1:dg[j]?=aa (dg[j]'(by rw[jk.1];exact hj)):=lF _
   obtain⟨e,he,ev⟩:=jk.2 j _ e1;rw[e1,he,ev]
   rfl
  ·rw[QE (by rw[jk.1];omega),xZ (by rw[EV];omega)]
   rfl
 rw[wu];refine q h' t0 hm.toks (cA pq) fun b ob e=>?_
 have hb:b<s.heap.objs.size:=cA e;refine hm.heap b ob (fun z=>?_) (vt b ob (dI hb) (k2 _ _ (k1 _ _ e)))
 rcases dU.mp z with z|z
 ·exact absurd z (dI hb)
 ·have z2:=dP.mp z;rw[z1] at z2;exact absurd z2 (dI (qF hb))
section
variable {T:aD}{t:fJ}
theorem Uo {zf:Source}{Q:Nat->aH->Prop}(h0:n≠0)(q:∀ i d,i<n->Q i { s with drawn:=d }):aJ (aP prog w) A (choose zf n) Q E s:=fun Γ p hΓ=>by
 unfold choose;rw[Sem.wp_choose];exact⟨h0,q _ _ (xT _ (Nat.pos_of_ne_zero h0))⟩
theorem Ox {α:Type}(n:Nat):∀ (xs:List α) {s:aH} {Q:List α->aH->Prop},xs.length=n->(∀ ys d,ys.Perm xs->Q ys { s with drawn:=d })->aJ (aP prog w) A (drawOrder n xs) Q E s:=by
 induction n with
 |zero=>
  intro xs s Q h q;have:xs=[]:=d8.mp h;rw[10];unfold drawOrder;have:=q [] s.drawn (.refl _);exact aQ this
 |succ n ih=>
  intro xs s Q h q;cases xs with
  |nil=>simp at h
  |cons x xs=>
   unfold drawOrder;refine aF (Uo (by simp) fun i d hi=>?_)
   rw[eI hi];rw[7];refine aF (ih ((x::xs).eraseIdx i) (by rw[d7 hi];simp at h ⊢;omega) fun ys d' p=>aQ ?_)
   exact q _ d' ((p.cons _).trans (SD hi))
abbrev vO (h:aY)(r T a:aD)(i n ep:Nat):Prop:=h.get? r=aa { cls:=.type "set_iterator",dict:=ab,data:=.fields #[.ref T,dE i,.ref a,dE n,dE ep],slots:=#[] }
def xq (es:Array (Int×aC))(ps:List Nat):List (Int×aC):=ps.filterMap (es[·]?)
theorem TC(h:ps.Perm (dB es.size)):(xq es ps).Perm es.toList:=(h.filterMap _).trans (by rw[filterMap_getElem?_range])
theorem Uv(h:∀ p∈ps,p<es.size):∀ {i:Nat} {p:Nat},ps[i]?=aa p->(xq es ps)[i]?=es[p]?:=by
 intro i p hp;unfold xq;rw[NH _ (fun k hk=>by rw[lF (h k hk)];rfl),hp]
 rfl
theorem Xz (S:WSet w s.heap a o es ep t)(hT:∃ oT n,s.heap.get? T=aa oT/\oT.data=.seq (ps.map fun(i:Nat)=>dE i).toArray n)(hr:vO s.heap r T a i es.size ep){p:Nat}(hp:ps[i]?=aa p){e:Int×aC}(he:es[p]?=aa e){Q:Option aC->aH->Prop}
  (q:∀ h',vO h' r T a (i+1) es.size ep->nE r s.heap h'->Q (aa e.2) { s with heap:=h' }):aJ (aP prog w) A (fZ (.ref r)) Q E s:=by
 have ty:s.TypeIs (.ref r) "set_iterator":=⟨_,hr,rfl⟩;obtain⟨oT,nT,gT,dT⟩:=hT;unfold fZ;refine aF (nZ (mB (name:=jZ "__next__") ty Aa9 (iH Aa9 ty GN ?_ (GJ _))));show aJ _ _ (fieldsOf (.ref r)>>=_) _ _ s;refine aF (BL hr rfl ?_);show aJ _ _ (setEntries a>>=_) _ _ s;refine aF (BI S.get S.data S.fine.fits ?_);show aJ _ _ (if ((es.size:Int) != (es.size:Int))=ae then _ else _) _ _ s
 rw[if_neg (by simp)]
 show aJ _ _ (BO (.ref T)>>=_) _ _ s;refine aF (kO gT dT ?_);rw[7];rw[show((i:Int)).toNat=i from lR i]
 have e1:(ps.map fun(i:Nat)=>dE i).toArray[i]?=aa (dE p):=by simp[hp]
 rw[e1];show aJ _ _ (setNextDrawn a ((p:Int)).toNat ((ep:Int)).toNat>>=_) _ _ s;rw[lR,lR];unfold setNextDrawn;refine aF (aF (qX S.get S.data S.fine.fits ?_));rw[7];rw[if_neg (by simp),he]
 refine aQ ?_;refine aF (mT hr (by simp) fun h1 g1 r9=>aQ ⟨e.2,rfl,aQ (q h1 g1 r9)⟩)
theorem Yh (hh:A.handled=ab)(S:WSet w s.heap a o es ep t)(hT:∃ oT n,s.heap.get? T=aa oT/\oT.data=.seq (ps.map fun(i:Nat)=>dE i).toArray n)(hl:ps.length=es.size)(hr:vO s.heap r T a es.size es.size ep){Q:Option aC->aH->Prop}
  (q:∀ h',(∀ b ob,b≠r->s.heap.get? b=aa ob->h'.get? b=aa ob)->Q ab { s with heap:=h' }):aJ (aP prog w) A (fZ (.ref r)) Q E s:=by
 have ty:s.TypeIs (.ref r) "set_iterator":=⟨_,hr,rfl⟩;obtain⟨oT,nT,gT,dT⟩:=hT;unfold fZ;refine aF (nZ (mB (name:=jZ "__next__") ty Aa9 (iH Aa9 ty GN ?_ (GJ _))));show aJ _ _ (fieldsOf (.ref r)>>=_) _ _ s;refine aF (BL hr rfl ?_);show aJ _ _ (setEntries a>>=_) _ _ s;refine aF (BI S.get S.data S.fine.fits ?_);show aJ _ _ (if ((es.size:Int) != (es.size:Int))=ae then _ else _) _ _ s
 rw[if_neg (by simp)]
 show aJ _ _ (BO (.ref T)>>=_) _ _ s;refine aF (kO gT dT ?_);rw[7];rw[show((es.size:Int)).toNat=es.size from lR _]
 have e1:(ps.map fun(i:Nat)=>dE i).toArray[es.size]?=ab:=by simp[hl]
 rw[e1];show aJ _ _ (BN (.ref r) 0 (dE 0)>>=_) _ _ s;refine aF (mT hr (by simp) fun h0 g0 sb0=>?_)
 refine aF (mT g0 (by simp) fun h1 g1 r9=>?_)
 rw[9];simp only[uJ,BP];refine aF (lB ?_ (by size_fits))
 refine aF (m:=rA _ _) (xH (a:=cU) (by first|rfl|(simp only[rA];rfl)) ?_)
 refine lB ?_ (by size_fits)
 simp only[raiseNew];refine aF (HF ?_)
 first|rw[show A.in1.handled=ab from hh]|rw[hh]
 refine aF (aQ (HB ?_));refine aF (qZ (T:="StopIteration") (b:=ae) ⟨_,eD _ rfl,rfl⟩ BQ ?_);exact aQ (q _ fun b ob ne e=>cH _ (cH _ ((r9.2 b ne).trans ((sb0.2 b ne).trans e))))
theorem Xi(hr:vO s.heap r T a i n ep)(q:Q (.ref r) s):aJ (aP prog w) A (oA (.ref r)) Q E s:=by
 have ty:s.TypeIs (.ref r) "set_iterator":=⟨_,hr,rfl⟩;refine BJ ty GK (iH GK ty ZX ?_ (ZU _));show aJ _ _ (ret (.ref r)) _ _ s;exact aQ ⟨_,rfl,"set_iterator",_,ty,Aa9.lookup,q⟩
abbrev qU (ps:List Nat):bI:={ cls:=.type "tuple",data:=.seq (ps.map fun(i:Nat)=>dE i).toArray }
theorem a5 (S:WSet w s.heap a o es ep t)(hb:hE w=af)(hd:(!t.plain&&decide (es.size > 1))=ae)
  (q:∀ ps d,ps.Perm (dB es.size)->Q (.ref (s.heap.objs.size+1)) { s with heap:=(s.heap.push (qU ps)).push { cls:=.type "set_iterator",data:=.fields #[.ref s.heap.objs.size,dE (0:Nat),.ref a,dE (es.size:Nat),dE (ep:Nat)] },drawn:=d }):aJ (aP prog w) A (oA (.ref a)) Q E s:=by
 have ty:s.TypeIs (.ref a) "set":=⟨_,S.get,S.exact.1⟩;refine BJ ty PQ (iH PQ ty ZR ?_ (F.args_set_iter_1 _));show aJ _ _ (QB a>>=_) _ _ s;unfold QB;refine aF (aF (BI S.get S.data S.fine.fits (aQ ?_)));rw[9];unfold setDrawn;refine aF (qX S.get S.data S.fine.fits ?_);rw[7];unfold setsByText;refine aF (aF (BM (aQ ?_)));refine aQ ?_;have t4:w.params.followText "set-order" = af:=hb;refine qY (fun _=>?_) (fun z=>absurd (show(!(w.params.followText "set-order")&&(!t.plain&&decide (es.size > 1)))=ae by rw[t4,hd];rfl) z)
 have few:=S.fine.few;refine aF (Ox es.size (dB es.size) (by simp) fun ps d hp=>?_)
 have hz:(ps.map fun(i:Nat)=>dE i).toArray.size≤sizeLine:=by
  have:=hp.length_eq;rw[mU];simp at this ⊢;omega
 rw[9];simp only[BP];refine lB ?_ hz;have S1:WSet w (s.heap.push (qU ps)) a o es ep t:=⟨cH _ S.get,S.exact,S.data,S.fine,S.led⟩;refine aF (wpAny_setEpoch_of (s:={ s with heap:=s.heap.push (qU ps),drawn:=d }) S1.get S.data S.fine.fits ?_);refine aF (lB (aQ ⟨_,rfl,"set_iterator",_,⟨_,eD _ rfl,rfl⟩,Aa9.lookup,?_⟩) (by size_fits))
 have z1:(s.heap.push (qU ps)).objs.size=s.heap.objs.size+1:=rF _ _;have:=q ps d hp;rw[← z1] at this;exact this
end
theorem Mq(h:ps.Perm (dB es.size)):(xq es ps).length=es.size:=by
 rw[(TC h).length_eq,jU]
theorem Zy{t:fJ}(hh:A.handled=ab)(r T a:aD)(ne:a≠r)(nT:T≠r)(S:WSet w h0 a o es ep t)(hp:ps.Perm (dB es.size)) :
  Walks prog w A r [r,a,T] [r] es.size (fun i v=>∃ e,(xq es ps)[i]?=aa e/\v=e.2) (fun i h=>vO h r T a i es.size ep/\h.get? a=aa o/\h.get? T=aa (qU ps)) where
 sub:=fun b hb=>by rw[dP.mp hb];exact bS
 frame:=fun _ _ _ st hk=>⟨hk r bS _ st.1,hk a (cG _ bS) _ st.2.1,hk T (cG _ (cG _ bS)) _ st.2.2⟩
 item:=fun i s Q E hi st hQ=>by
  have S':WSet w s.heap a o es ep t:=⟨st.2.1,S.exact,S.data,S.fine,S.led⟩;have hl:ps.length=es.size:=by simpa using hp.length_eq
  have hx:ps[i]?=aa (ps[i]'(by omega)):=eI _
  have ce:∀ p∈ps,p<es.size:=fun p m=>hV.mp (hp.mem_iff.mp m)
  have hy:es[ps[i]'(by omega)]?=aa (es[ps[i]'(by omega)]'(ce _ (nB _))):=lF _
  exact Xz S' ⟨_,_,st.2.2,rfl⟩ st.1 hx hy fun h' ak sb=>hQ _ h' s.toks ⟨_,(Uv ce hx).trans hy,rfl⟩ ⟨ak,(sb.2 a ne).trans st.2.1,(sb.2 T nT).trans st.2.2⟩ fun b o hb e=>(sb.2 b (fun z=>hb (dP.mpr z))).trans e
 done:=fun s Q E st hQ=>by
  have S':WSet w s.heap a o es ep t:=⟨st.2.1,S.exact,S.data,S.fine,S.led⟩;exact Yh hh S' ⟨_,_,st.2.2,rfl⟩ (by simpa using hp.length_eq) st.1 fun h' he=>hQ h' s.toks fun b ob hb e=>he b ob (fun z=>hb (dP.mpr z)) e
 self:=fun _ _ _ _ st hQ=>Xi st.1 hQ
set_option maxHeartbeats 4000000 in
theorem Si{t:fJ}(hh:A.handled=ab)(S:WSet w s.heap a o es ep t)(hb:hE w=af)(hd:(!t.plain&&decide (es.size > 1))=ae){Q:List aC->aH->Prop}
  (q:∀ h' tk d ps,ps.Perm (dB es.size)->s.toks≤tk->s.heap.objs.size<h'.objs.size->(∀ b ob,s.heap.get? b=aa ob->h'.get? b=aa ob)->Q ((xq es ps).map (·.2)) { s with heap:=h',toks:=tk,drawn:=d }):aJ (aP prog w) A (collect (.ref a)) Q E s:=by
 have aS:a<s.heap.objs.size:=cA S.get;unfold collect;refine aF (wpAny_runValue (oB F.entry_proto_collect ?_));rw[qK F.plain_proto_collect _];refine aF (show aJ _ A.in1 (newList []) _ _ s from lB ?_)
 refine aQ ⟨qB PU _,oB F.entry_list_iadd ?_⟩;rw[qK PU _];generalize wt:s.heap.push { cls:=.type "list",data:=.seq ([]:List aC).toArray }=h1;have k1:∀ b ob,s.heap.get? b=aa ob->h1.get? b=aa ob:=fun b ob e=>by rw[← wt];exact cH _ e
 have z1:h1.objs.size=s.heap.objs.size+1:=by rw[← wt];exact rF _ _
 have g1:h1.get? s.heap.objs.size=aa { cls:=.type "list",data:=.seq ([]:List aC).toArray }:=by rw[← wt];exact eD _ rfl
 have S1:WSet w h1 a o es ep t:=⟨k1 _ _ S.get,S.exact,S.data,S.fine,S.led⟩;show aJ _ A.in1 (rJ (.ref s.heap.objs.size) (.ref a) (.ref s.heap.objs.size)) _ _ _;unfold rJ;refine aF (sL (T:="set") ⟨_,S1.get,S1.exact.1⟩ ?_);have n1:yI (.ref s.heap.objs.size) (.ref a)=af:=by simp[yI,kB aS]
 rw[if_neg (by rw[n1];decide)]
 refine aF (a5 (s:={ s with heap:=h1 }) S1 hb hd fun ps d F5=>?_)
 show aJ _ _ _ _ _ { s with heap:=(h1.push (qU ps)).push _,drawn:=d };generalize yc:(h1.push (qU ps)).push { cls:=.type "set_iterator",data:=.fields #[.ref h1.objs.size,dE (0:Nat),.ref a,dE (es.size:Nat),dE (ep:Nat)] }=h2;have k2:∀ b ob,h1.get? b=aa ob->h2.get? b=aa ob:=fun b ob e=>by rw[← yc];exact cH _ (cH _ e)
 have z2:(h1.push (qU ps)).objs.size=h1.objs.size+1:=rF _ _;have gr:vO h2 (h1.objs.size+1) h1.objs.size a 0 es.size ep:=by rw[← yc,← z2];exact eD _ rfl
 have gT:h2.get? h1.objs.size=aa (qU ps):=by rw[← yc];exact cH _ (eD _ rfl)
 have ir:ps.length=es.size:=by simpa using F5.length_eq
 have S2:WSet w h2 a o es ep t:=⟨k2 _ _ S1.get,S.exact,S.data,S.fine,S.led⟩;have ne:a≠h1.objs.size+1:=by rw[z1];exact dI (qF (qF aS))
 show aJ _ _ (pF [.ref (h1.objs.size+1)] (IH (.ref a))>>=_) _ _ _;refine aF (jE (TK ⟨_,S2.get,S2.exact.1⟩ ?_));refine qY (fun _=>?_) (fun z=>absurd (by rw[0]) z)
 refine aF (lA ?_);refine aF (show aJ _ A.in1 (xJ s.heap.objs.size (·.push .none)>>=fun _=>xJ s.heap.objs.size (·.pop)) _ _ _ from ?_)
 refine aF (xF (k2 _ _ g1) rfl ?_);have z9:=qJ (gF (·.push cU)) (k2 _ _ g1) rfl;refine xF z9 rfl ?_;have N3:=qJ (gF (·.pop)) z9 rfl;have vt:∀ b ob,b≠s.heap.objs.size->h2.get? b=aa ob->((h2.update s.heap.objs.size (gF (·.push cU))).update s.heap.objs.size (gF (·.pop))).get? b=aa ob:=
  fun b ob hb e=>(sU _ _ (kR hb)).trans ((sU _ _ (kR hb)).trans e)
 have nS:s.heap.objs.size∉[h1.objs.size+1,a,h1.objs.size]:=by
  intro z;rcases dU.mp z with z|z
  ·rw[z1] at z;exact absurd z (dI (qF (CB _)))
  ·rcases dU.mp z with z|z
   ·exact absurd z (kB aS)
   ·have z3:=dP.mp z;rw[z1] at z3;exact absurd z3 (dI (CB _))
 have few:=S.fine.few;refine aQ ⟨qB Ed _,Cm ((Zy (A:=A.in1) (by simp[hh]) (h1.objs.size+1) h1.objs.size a ne (dI (CB _)) S2 F5).toS) (by rw[mU];omega) _ nS _ es.size 0 _ _ _ rfl (dS _) ⟨vt _ _ (by rw[z1];exact kB (qF (CB _))) gr,vt _ _ (dI aS) S2.get,vt _ _ (by rw[z1];exact Nat.succ_ne_self _) gT⟩ N3 (ItemsOf.nil _) fun s' dg c' hm pq jk=>?_⟩
 show aJ _ A (load s.heap.objs.size>>=_) _ _ s';refine aF (wpAny_load pq (aQ ?_));obtain⟨h',g',d',t0,we⟩:=s';obtain rfl:g'=s.gens:=hm.gens;obtain rfl:d'=d:=hm.drawn;obtain rfl:we=s.os:=hm.os;have wu:dg.toList=(xq es ps).map (·.2):=by
  apply CP;intro j;rw[fA,lT];by_cases hj:j<es.size
  ·have e1:dg[j]?=aa (dg[j]'(by rw[jk.1];exact hj)):=lF _
   obtain⟨e,he,ev⟩:=jk.2 j _ e1;rw[e1,he,ev]
   rfl
  ·rw[QE (by rw[jk.1];omega),xZ (by rw[Mq F5];omega)]
   rfl
 rw[wu];refine q h' t0 d' ps F5 hm.toks (cA pq) fun b ob e=>?_
 have yv:b<s.heap.objs.size:=cA e;refine hm.heap b ob (fun z=>?_) (vt b ob (dI yv) (k2 _ _ (k1 _ _ e)))
 rcases dU.mp z with z|z
 ·exact absurd z (dI yv)
 ·have z2:=dP.mp z;rw[z1] at z2;exact absurd z2 (dI (qF (qF yv)))
theorem Rp{t:fJ}(hh:A.handled=ab)(S:WSet w s.heap a o es ep t){Q:List aC->aH->Prop}
  (q:∀ h' tk d (j2:List (Int×aC)),j2.Perm es.toList->s.toks≤tk->s.heap.objs.size<h'.objs.size->(∀ b ob,s.heap.get? b=aa ob->h'.get? b=aa ob)->Q (j2.map (·.2)) { s with heap:=h',toks:=tk,drawn:=d }):aJ (aP prog w) A (collect (.ref a)) Q E s:=by
 by_cases c:hE w=af/\(!t.plain&&decide (es.size > 1))=ae
 ·exact Si hh S c.1 c.2 fun h' tk d ps hp h1 h2 h3=>q h' tk d _ (TC hp) h1 h2 h3
 ·refine Qm hh S (fun hb=>?_) fun h' tk h1 h2 h3=>q h' tk s.drawn _ (UL w a ep es) h1 h2 h3
  cases hz:(!t.plain&&decide (es.size > 1)) with
  |false=>rfl
  |true=>exact absurd ⟨hb,hz⟩ c
open PySem PySem.Spec PySem.W PyProof.Rows PySem.SetTable
theorem LF {α:Type}(xs:List α)(d:α):(dB xs.length).map (fun i=>xs.getD i d)=xs:=by
 apply PK
 ·simp
 ·intro i h1 h2;simp at h1;simp[h1]
theorem Xu(p:qs.Perm kss)(h:kz kss=ae):kz qs=ae:=by
 unfold kz at h ⊢;rw[p.length_eq];by_cases h2:kss.length<2
 ·simp[h2]
 ·have h':(sameAll kss&&kss.all fun k=>(lK k).isSome)=ae:=by simpa [h2] using h
  obtain⟨h3,h4⟩:=oK.mp h';have h5:sameAll qs=ae:=hX.mpr fun k m=>hX.mpr fun k' m'=>hX.mp (hX.mp h3 k (p.mem_iff.mp m)) k' (p.mem_iff.mp m')
  have h6:(qs.all fun k=>(lK k).isSome)=ae:=hX.mpr fun k m=>hX.mp h4 k (p.mem_iff.mp m)
  rw[h5,h6];simp
theorem Px(p:qs.Perm kss)(h:kz kss=ae):iX qs=iX kss:=AD h ((uC qs).trans p) (MR qs)
theorem RW {α β:Type}{R:α->β->Prop}{as:List α}{bs:List β}(h:fE R as bs)(x:α)(y:β):∀ p:List Nat,(∀ i∈p,i<as.length)->fE R (p.map fun i=>as.getD i x) (p.map fun i=>bs.getD i y)
 |[],_=>.nil
 |i::p,hi=>by
  refine .cons ?_ (RW h x y p fun j m=>hi j (cG _ m))
  have ce:=hi i bS;obtain⟨b,hb,r⟩:=wB h (eI ce);have e1:as.getD i x=as[i]:=by simp[ce]
  have e2:bs.getD i y=b:=by simp[hb]
  show R (as.getD i x) (bs.getD i y);rw[e1,e2];exact r
def xm (kss:List (List aA))(ys:List V)(k:List aA)(b:aD):Prop:=∃ i:Nat,kss[i]?=aa k/\ys[i]?=aa (V.ref b)
def RE (w:bG)(kss:List (List aA))(ys:List V)(o:bI)(ls:List (List aA)):Prop:=∃ es ep t ks,o.ExactSet/\o.data=.set es ep t/\Fine t es/\t.led=(!hE w)/\fE (fun(e:Int×aC) k=>∃ b,e.2=.ref b/\e.1=eP w (.tuple k)/\xm kss ys k b) es.toList ks/\ks.Nodup/\ks.Perm ls
theorem a6{σ:List (Option V)}{d:Drawn}(I:Inv X ad σ H s):Inv X ad σ H { s with drawn:=d }:=⟨I.ok,I.os,I.bare,I.base,I.loc,I.cell,I.free,I.freeC,I.pin,I.hok,I.len⟩
theorem Pk (hc:X.calm=ae)(hu:X.A.units+40<cLine):Afq X (.type "set") (fun xs H Q=>∃ p ys kss,xs=[.ref p]/\SqL X.K H p ys/\Refs H ys kss/\(gE kss).length≤4900/\∀ a o,H a=ab->RE X.w kss ys o (gE kss)->Q (.ref a) (ar H a (T8 a o))):=by
 rw[5];obtain⟨p,ys,kss,rfl,hp,rf,hl,q⟩:=h;obtain⟨u,rfl,ru⟩:=vals1 r;cases ru;obtain⟨its,rv,pl,_⟩:=I.list hp;have e1:=rv.length;have e2:=mZ rf;refine Zf (B:=xm kss ys) (kss:=kss) (I.ok.hd hc) hu pl.isList (fun j v ev=>?_) hl (by rw[gG];omega) fun h' tk ht S' hk=>?_
 ·have X0:its[j]?=aa v:=by simpa using ev
  obtain⟨y,hy,ry⟩:=JT rv X0;obtain⟨k,hk,b,rfl,tk⟩:=wB rf hy;cases ry;exact⟨b,k,rfl,hk,qO I.hok tk,j,hk,hy⟩
 ·obtain⟨o,es,ep,t,jv,Z,pm⟩:=S';have I':=I.laid (t':=tk) (h':=h') (o:=T8 s.heap.objs.size o) (fun b u e=>hk b u (cA e) e) (cE _) (show Adz X.prog X.w _ _ _ (.ext _) from⟨Z.get,⟨o,Z.get⟩,fun _ _ e k=>k _ e⟩)
  exact⟨.ref s.heap.objs.size,_,I',rfl,q _ o I.fresh ⟨es,ep,t,jv,Z.exact,Z.data,Z.fine,Z.led,qQ (fun e k ⟨b,q1,q2,_,q4⟩=>⟨b,q1,q2,q4⟩) Z.els,Z.nod,pm⟩⟩
theorem RU:∀ {ds:List aA} {kss:List (List aA)},kS ds=aa kss->ds=kss.map iC/\∀ k∈kss,cC k=ae/\cL k≤6
 |[],kss,e=>by cases e;exact⟨rfl,by simp⟩
 |d::ds,kss,e=>by
  cases d with
  |tuple ks=>
   have e:(if cC ks=ae/\cL ks≤6 then(kS ds).bind fun kss=>aa (ks::kss) else ab)=aa kss:=e
   by_cases hk:cC ks=ae/\cL ks≤6
   case neg=>rw[if_neg hk] at e;cases e
   rw[if_pos hk] at e;obtain⟨kss',e1,e2⟩:=ao e;cases e2;obtain⟨h1,h2⟩:=RU e1;refine⟨by rw[h1];rfl,fun k m=>?_⟩
   rcases dU.mp m with rfl|m
   ·exact hk
   ·exact h2 k m
  |_=>cases e
theorem SW(r:Aaw K H (kss.map iC) ys):∀ {zs:List V} {qs:List (List aA)},fE (fun z k=>∃ b,z=V.ref b/\xm kss ys k b) zs qs->Aaw K H (qs.map iC) zs
 |_,_,.nil=>Aav.mpr rfl
 |_,k::_,.cons ⟨b,e,i,h1,h2⟩ t=>by
  refine Aan.mpr ⟨_,_,rfl,?_,SW r t⟩;have h3:(kss.map iC)[i]?=aa (.tuple k):=by rw[fA,h1];rfl
  obtain⟨v,hv,rv⟩:=r.get h3;rw[h2] at hv;cases hv;rw[e];exact rv
open PySem PyProof.Rows
section
variable {κ:gX}
def iW (prog:bP)(w:bG)(A:bZ)(s:aH)(κ:gX)(kd:oC):Prop:=
 ∀ (x y:aC) (a b:κ.α) (E:aC->aH->Prop) (Q:Bool->aH->Prop),κ.keyOf x=aa a->κ.keyOf y=aa b->Q (κ.blt a b) s->aJ (aP prog w) A (keyLt' kd x y) Q E s
structure TB (kd:oC)(a₀:Array aW)(st:bQ):Prop where
 perm:(bD st).Perm a₀
 kind:kindOf st=kd
 failed:sM st=ab
theorem TB.size(h:TB kd a₀ st):(bD st).size=a₀.size:=h.perm.size_eq
theorem TB.setArr(h:TB kd a₀ st)(hp:xs.Perm (bD st)):TB kd a₀ (HP st xs):=⟨hp.trans h.perm,h.kind,h.failed⟩
def ky (κ:gX)(p:aW):κ.α:=(κ.keyOf p.1).getD κ.dflt
theorem BE(h:xs[i]?=aa p):KK κ xs i=ky κ p:=by unfold KK;rw[h];rfl
theorem NP (h0:KeysOf κ a₀)(m:p∈a₀.toList):κ.keyOf p.1=aa (ky κ p):=by
 obtain⟨a,e⟩:=h0 p m;unfold ky;rw[e]
 rfl
theorem zL {x y:aW}{Q:Option Bool->bQ->Prop}(hC:iW prog w A s κ kd)(hk:kindOf st=kd)(hx:κ.keyOf x.1=aa (ky κ x))(hy:κ.keyOf y.1=aa (ky κ y))(h:Q (aa (κ.blt (ky κ x) (ky κ y))) st) :
  cP (aP prog w) A E s (lt' x y) Q st:=by
 rw[lt'_eq];refine bL (pZ ?_);rw[hk];refine bL (uG (nZ (hC _ _ _ _ _ _ hx hy ⟨rfl,?_⟩)));exact cF h
theorem iS{Q:aW->bQ->Prop}(e:arr[i]?=aa p)(h:Q p st):cP (aP prog w) A E s (kP arr i) Q st:=by
 rw[elem'_eq,e];exact cF h
theorem TB.mem(h:TB kd a₀ st)(hi:i<a₀.size):∃ p,(bD st)[i]?=aa p/\p∈a₀.toList:=by
 have om:i<(bD st).size:=by rw[h.size];exact hi
 exact⟨(bD st)[i],getElem?_pos _ i om,(yK.mp h.perm).mem_iff.mp (by simp)⟩
theorem zM{Q:Option Bool->bQ->Prop}(hC:iW prog w A s κ kd)(h0:KeysOf κ a₀)(hB:TB kd a₀ st)(hi:i<a₀.size)(hj:j<a₀.size)
  (h:Q (aa (κ.blt (KK κ (bD st) i) (KK κ (bD st) j))) st):cP (aP prog w) A E s (ltAt' i j) Q st:=by
 obtain⟨p,ep,mp⟩:=hB.mem hi;obtain⟨q,eq,mq⟩:=hB.mem hj;rw[BE ep,BE eq] at h;rw[ltAt'_eq];refine bL (pZ ?_);exact bL (iS ep (bL (iS eq (zL hC hB.kind (NP h0 mp) (NP h0 mq) h))))
def fV (κ:gX)(xs:Array aW)(lo hi:Nat):Prop:=∀ i j,lo≤i->i≤j->j<hi->κ.kle (KK κ xs i) (KK κ xs j)
def mI (κ:gX)(xs:Array aW)(lo hi:Nat):Prop:=∀ i j,lo≤i->i≤j->j<hi->κ.kle (KK κ xs j) (KK κ xs i)
structure Mv (kd:oC)(a₀:Array aW)(lo hi:Nat)(st ak:bQ):Prop where
 tb:TB kd a₀ ak
 pend:cW ak=cW st
 out:∀ k,k<lo\/hi≤k->(bD ak)[k]?=(bD st)[k]?
theorem Mv.refl {lo hi:Nat}(h:TB kd a₀ st):Mv kd a₀ lo hi st st:=⟨h,rfl,fun _ _=>rfl⟩
theorem Mv.trans {lo hi:Nat}{s1 s2 s3:bQ}(h:Mv kd a₀ lo hi s1 s2)(h':Mv kd a₀ lo hi s2 s3):Mv kd a₀ lo hi s1 s3:=⟨h'.tb,h'.pend.trans h.pend,fun k hk=>(h'.out k hk).trans (h.out k hk)⟩
theorem Mv.rev {lo hi:Nat}(h:TB kd a₀ st)(om:lo≤i)(hj:j≤hi)(hh:hi≤a₀.size):Mv kd a₀ lo hi st (HP st (mirror (bD st) i j ((j-i)/2))):=by
 refine⟨h.setArr (mirror_perm _ _ _ _),rfl,fun k hk=>?_⟩
 show(mirror (bD st) i j ((j-i)/2))[k]?=_;rw[getElem?_mirror_all (by rw[h.size];omega),if_neg (by omega)]
theorem zK{Q:Unit->bQ->Prop}(h:Q () (HP st (mirror (bD st) i j ((j-i)/2)))):cP (aP prog w) A E s (xN i j) Q st:=by
 rw[reverseSlice'_eq];exact uF h
theorem Wx{lo x:Nat}(h:fV κ xs lo x)(hx:lo<x)(hn:κ.kle (KK κ xs (x-1)) (KK κ xs x)):fV κ xs lo (x+1):=fun i j h1 h2 h3=>by
 by_cases hj:j<x
 ·exact h i j h1 h2 hj
 ·have ur:j=x:=by omega
  subst ur;by_cases hi:i=j
  ·subst hi;exact sT _
  ·exact kK (h i (j-1) h1 (by omega) (by omega)) hn
theorem FC{lo x:Nat}(h:mI κ xs lo x)(hx:lo<x)(hn:κ.kle (KK κ xs x) (KK κ xs (x-1))):mI κ xs lo (x+1):=fun i j h1 h2 h3=>by
 by_cases hj:j<x
 ·exact h i j h1 h2 hj
 ·have ur:j=x:=by omega
  subst ur;by_cases hi:i=j
  ·subst hi;exact sT _
  ·exact kK hn (h i (j-1) h1 (by omega) (by omega))
def sH (lo a av:Nat):StateT bQ fS AscSt:=
 forIn [a:av] ((ab,a):AscSt) fun _ c=>do
  let x ← ltAt' (lo+c.snd) (lo+c.snd-1)
  match x with
  |some b=>if b=ae then pure (yF (ab,c.snd)) else pure (oI (ab,c.snd+1))
  |_=>pure (yF (aa ab,c.snd))
theorem VU{lo a:Nat}{Q:AscSt->bQ->Prop}(hC:iW prog w A s κ kd)(h0:KeysOf κ a₀)(hB:TB kd a₀ st)(hn:lo+av≤a₀.size)(ha:1≤a)(han:a≤av)(hs:fV κ (bD st) lo (lo+a))
  (h:∀ n,a≤n->n≤av->fV κ (bD st) lo (lo+n)->(n=av\/κ.klt (KK κ (bD st) (lo+n)) (KK κ (bD st) (lo+n-1)))->Q (ab,n) st):cP (aP prog w) A E s (sH lo a av) Q st:=by
 unfold sH;refine qA (I:=fun x c ak=>ak=st/\c=(ab,x)/\fV κ (bD st) lo (lo+x)) ?step ?fin ⟨rfl,rfl,hs⟩
 case fin=>
  rintro c ak ⟨rfl,rfl,hs⟩;have e:max a av=av:=by omega
  rw[e] at hs ⊢;exact h av han (cE _) hs (.inl rfl)
 case step=>
  rintro x c ak hx1 X1 ⟨rfl,rfl,hs⟩;rw[7];refine bL (zM hC h0 hB (by omega) (by omega) ?_)
  cases hb:κ.blt (KK κ (bD ak) (lo+x)) (KK κ (bD ak) (lo+x-1)) with
  |true=>
   rw[8];exact cF (h x hx1 (by omega) hs (.inr hb))
  |false=>
   simp only[fF,if_false];exact cF ⟨rfl,rfl,Wx (x:=lo+x) hs (by omega) hb⟩
theorem FF{lo:Nat}{f:AscSt->StateT bQ fS (Option Nat)}{Q:Option Nat->bQ->Prop}(hC:iW prog w A s κ kd)(h0:KeysOf κ a₀)(hM:Mv kd a₀ lo (lo+av) st0 st)(hn:lo+av≤a₀.size)(h1:1≤n)(ye:n≤av)(hs:mI κ (bD st) lo (lo+n))
  (h:∀ m ak,Mv kd a₀ lo (lo+av) st0 ak->1≤m->m≤av->fV κ (bD ak) lo (lo+m)->cP (aP prog w) A E s (f (ab,m)) Q ak):cP (aP prog w) A E s (xN lo (lo+n)>>=fun _=>sH lo n av>>=f) Q st:=by
 have hB:=hM.tb;have hsz:lo+n≤(bD st).size:=by rw[hB.size];omega
 refine bL (zK ?_);have lh:=hM.trans (Mv.rev (lo:=lo) (hi:=lo+av) (i:=lo) (j:=lo+n) hB (cE _) (by omega) hn)
 refine bL (VU hC h0 lh.tb hn h1 ye ?_ fun m qp qr uo _=>h m _ lh (by omega) qr uo)
 intro i j h1 h2 h3;show κ.kle (KK κ (mirror (bD st) lo (lo+n) ((lo+n-lo)/2)) i) (KK κ (mirror (bD st) lo (lo+n) ((lo+n-lo)/2)) j);rw[KK_mirror hsz,KK_mirror hsz,if_pos (by omega),if_pos (by omega)]
 exact hs _ _ (by omega) (by omega) (by omega)
def DD (lo n av:Nat):StateT bQ fS DescSt:=
 forIn [n:av] ((ab,n,0):DescSt) fun _ c=>do
  let x ← ltAt' (lo+c.snd.fst) (lo+c.snd.fst-1)
  match x with
  |some b=>
   if b=ae then
    if c.snd.snd > 0 then do
     xN (lo+c.snd.fst-(c.snd.snd+1)) (lo+c.snd.fst)
     pure (oI (ab,c.snd.fst+1,0))
    else pure (oI (ab,c.snd.fst+1,0))
   else do
    let x ← ltAt' (lo+c.snd.fst-1) (lo+c.snd.fst)
    match x with
    |some b=>
     if b=ae then pure (yF (ab,c.snd.fst,c.snd.snd))
     else pure (oI (ab,c.snd.fst+1,c.snd.snd+1))
    |_=>pure (yF (aa ab,c.snd.fst,c.snd.snd))
  |_=>pure (yF (aa ab,c.snd.fst,c.snd.snd))
theorem DX {ys:Array aW}{lo hi:Nat}(e:∀ k,KK κ ys k=KK κ xs k)(h:mI κ xs lo hi):mI κ ys lo hi:=fun i j a b c=>by rw[e,e];exact h i j a b c
theorem VF{lo:Nat}{Q:DescSt->bQ->Prop}(hC:iW prog w A s κ kd)(h0:KeysOf κ a₀)(hM:Mv kd a₀ lo (lo+av) st0 st)(hn:lo+av≤a₀.size)(h1:1≤n)(ye:n≤av)(hs:mI κ (bD st) lo (lo+n))
  (h:∀ m q ak,Mv kd a₀ lo (lo+av) st0 ak->1≤m->m≤av->mI κ (bD ak) lo (lo+m)->q+1≤m->(∀ i,lo+m-(q+1)≤i->i<lo+m->KK κ (bD ak) i=KK κ (bD ak) (lo+m-1))->Q (ab,m,q) ak):cP (aP prog w) A E s (DD lo n av) Q st:=by
 unfold DD;refine qA (I:=fun x c ak=>∃ q,c=(ab,x,q)/\Mv kd a₀ lo (lo+av) st0 ak/\mI κ (bD ak) lo (lo+x)/\q+1≤x /\
   (∀ i,lo+x-(q+1)≤i->i<lo+x->KK κ (bD ak) i=KK κ (bD ak) (lo+x-1))) ?step ?fin ⟨0,rfl,hM,hs,by omega,fun i h1 h2=>by congr 1;omega⟩
 case fin=>
  rintro c ak ⟨q,rfl,lh,jj,hq,he⟩;rw[show max n av=av by omega] at jj hq he ⊢
  exact h av q ak lh (by omega) (cE _) jj hq he
 case step=>
  rintro x c ak hax hxn ⟨q,rfl,lh,jj,hq,he⟩;rw[7];have m6:=lh.tb;have hsz:lo+x≤(bD ak).size:=by rw[m6.size];omega
  refine bL (zM hC h0 m6 (by omega) (by omega) ?_)
  cases m7:κ.blt (KK κ (bD ak) (lo+x)) (KK κ (bD ak) (lo+x-1))
  case true=>
   rw[8];have vv:mI κ (bD ak) lo (lo+x+1):=FC jj (by omega) (oH m7)
   by_cases m8:q > 0
   ·rw[if_pos m8];exact bL (zK (cF ⟨0,rfl,lh.trans (Mv.rev m6 (by omega) (by omega) hn),DX (PM hsz he) vv,by omega,fun i h1 h2=>by congr 1;omega⟩))
   ·rw[if_neg m8];exact cF ⟨0,rfl,lh,vv,by omega,fun i h1 h2=>by congr 1;omega⟩
  case false=>
   simp only[fF,if_false];refine bL (zM hC h0 m6 (by omega) (by omega) ?_)
   cases ut:κ.blt (KK κ (bD ak) (lo+x-1)) (KK κ (bD ak) (lo+x))
   case true=>
    rw[8];exact cF (h x q ak lh (by omega) (by omega) jj hq he)
   case false=>
    simp only[fF,if_false];have At:KK κ (bD ak) (lo+x)=KK κ (bD ak) (lo+x-1):=KeyOrd.kle_antisymm ut m7;refine cF ⟨q+1,rfl,lh,FC (x:=lo+x) jj (by omega) (by rw[At];exact sT _),by omega,fun i h1 h2=>?_⟩
    rw[show lo+(x+1)-1=lo+x by omega]
    by_cases wv:i=lo+x
    ·subst wv;rfl
    ·rw[At];exact he i (by omega) (by omega)
theorem Sk{lo:Nat}{Q:Option Nat->bQ->Prop}(hC:iW prog w A s κ kd)(h0:KeysOf κ a₀)(hB:TB kd a₀ st)(hn:lo+av≤a₀.size)(h1:1≤av)
  (h:∀ m ak,Mv kd a₀ lo (lo+av) st ak->1≤m->m≤av->fV κ (bD ak) lo (lo+m)->Q (aa m) ak):cP (aP prog w) A E s (countRun' lo av) Q st:=by
 rw[countRun'_eq];refine bL ?_
 change cP _ _ _ _ (sH lo 1 av) _ _
 refine VU hC h0 hB hn (cE 1) h1 (fun i j a b c=>by have:i=j:=(by omega);subst this;exact sT _) fun n AT xz F6 N6=>?_
 rw[7];by_cases ye:n=av
 ·rw[if_pos (by simpa using ye)]
  exact cF (h n st (.refl hB) AT xz F6)
 ·rw[if_neg (by simpa using ye)]
  have ce:κ.klt (KK κ (bD st) (lo+n)) (KK κ (bD st) (lo+n-1)):=N6.resolve_left ye;by_cases X2:n > 1
  ·rw[if_pos X2];refine bL (zM hC h0 hB (by omega) (by omega) ?_)
   cases A0:κ.blt (KK κ (bD st) lo) (KK κ (bD st) (lo+n-1))
   case true=>
    rw[8];exact cF (h n st (.refl hB) AT xz F6)
   case false=>
    simp only[fF,if_false];have hsz:lo+n≤(bD st).size:=by rw[hB.size];omega
    have ck:∀ k,lo≤k->k<lo+n->KK κ (bD st) k=KK κ (bD st) (lo+n-1):=by
     intro k X3 hk;have a1:=F6 lo k (by omega) (by omega) hk
     have a2:=F6 k (lo+n-1) (by omega) (by omega) (by omega)
     exact KeyOrd.kle_antisymm a2 (kK A0 a1)
    refine bL (zK ?_);have d1:mI κ (bD st) lo (lo+n):=fun i j a b c=>by rw[ck i (by omega) (by omega),ck j (by omega) c];exact sT _
    have d2:mI κ (bD st) lo (lo+n+1):=FC d1 (by omega) (oH ce)
    have hM:Mv kd a₀ lo (lo+av) st (HP st (mirror (bD st) lo (lo+n) ((lo+n-lo)/2))):=Mv.rev hB (cE _) (by omega) hn
    have d3:=DX (ys:=mirror (bD st) lo (lo+n) ((lo+n-lo)/2)) (PM hsz ck) d2;refine bL (uG (lA ⟨rfl,?_⟩));refine bL ?_
    change cP _ _ _ _ (DD lo (n+1) av) _ _
    refine VF hC h0 hM hn (by omega) (by omega) d3 fun m q ak lh qp qr jj hq he=>?_
    rw[7];have ww:lo+m≤(bD ak).size:=by rw[lh.tb.size];omega
    by_cases m8:q > 0
    ·rw[if_pos m8];refine bL (zK ?_)
     change cP _ _ _ _ (xN lo (lo+m)>>=fun _=>sH lo m av>>=_) _ _
     exact FF hC h0 (lh.trans (Mv.rev lh.tb (by omega) (by omega) hn)) hn qp qr (DX (PM ww he) jj) fun k ca a b c d=>cF (h k ca a b c d)
    ·rw[if_neg m8]
     change cP _ _ _ _ (xN lo (lo+m)>>=fun _=>sH lo m av>>=_) _ _
     exact FF hC h0 lh hn qp qr jj fun k ca a b c d=>cF (h k ca a b c d)
  ·rw[if_neg X2];have N7:n=1:=by omega
   subst N7;have d1:mI κ (bD st) lo (lo+1):=fun i j a b c=>by have:i=j:=(by omega);subst this;exact sT _
   have d2:mI κ (bD st) lo (lo+1+1):=FC d1 (by omega) (oH ce)
   have hM:Mv kd a₀ lo (lo+av) st st:=.refl hB;have d3:=d2;refine bL (uG (lA ⟨rfl,?_⟩));refine bL ?_
   change cP _ _ _ _ (DD lo (1+1) av) _ _
   refine VF hC h0 hM hn (by omega) (by omega) d3 fun m q ak lh qp qr jj hq he=>?_
   rw[7];have ww:lo+m≤(bD ak).size:=by rw[lh.tb.size];omega
   by_cases m8:q > 0
   ·rw[if_pos m8];refine bL (zK ?_)
    change cP _ _ _ _ (xN lo (lo+m)>>=fun _=>sH lo m av>>=_) _ _
    exact FF hC h0 (lh.trans (Mv.rev lh.tb (by omega) (by omega) hn)) hn qp qr (DX (PM ww he) jj) fun k ca a b c d=>cF (h k ca a b c d)
   ·rw[if_neg m8]
    change cP _ _ _ _ (xN lo (lo+m)>>=fun _=>sH lo m av>>=_) _ _
    exact FF hC h0 lh hn qp qr jj fun k ca a b c d=>cF (h k ca a b c d)
end
section
variable {κ:gX}
theorem Tp{lo ok:Nat}{Q:Bool->bQ->Prop}(hC:iW prog w A s κ kd)(h0:KeysOf κ a₀)(hB:TB kd a₀ st)(hn:lo+n≤a₀.size)(hok:ok≤n)(hs:fV κ (bD st) lo (lo+ok))
  (h:∀ ak,Mv kd a₀ lo (lo+n) st ak->fV κ (bD ak) lo (lo+n)->Q ae ak):cP (aP prog w) A E s (binarySort' lo n ok) Q st:=by
 rw[binarySort'_eq];refine bL (sJ (qA (I:=fun k c ak=>c=(ab,())/\Mv kd a₀ lo (lo+n) st ak/\fV κ (bD ak) lo (lo+min k n))
  (Q:=fun c ak=>c=(ab,())/\Mv kd a₀ lo (lo+n) st ak/\fV κ (bD ak) lo (lo+n)) ?step ?fin ?init) ?post)
 case post=>
  rintro c ak ⟨rfl,hM,jj⟩;exact cF (h ak hM jj)
 case init=>
  refine⟨rfl,.refl hB,fun i j h1 h2 h3=>?_⟩
  by_cases hz:ok=0
  ·have:i=j:=by omega
   subst this;exact sT _
  ·exact hs i j h1 h2 (by omega)
 case fin=>
  rintro c ak ⟨hc,hM,jj⟩;refine⟨hc,hM,?_⟩
  rwa [show min (max (max ok 1) n) n=n by omega] at jj
 case step=>
  rintro k c ak hak yf ⟨rfl,hM,jj⟩;rw[show min k n=k by omega] at jj
  have m6:=hM.tb;refine bL (sJ (qA (I:=fun x c iu=>iu=ak/\∃ l r,c=(ab,l,r)/\l≤r/\r≤k/\r-l≤k-x /\
    (∀ i,i<l->κ.kle (KK κ (bD ak) (lo+i)) (KK κ (bD ak) (lo+k)))/\(∀ i,r≤i->i<k->κ.klt (KK κ (bD ak) (lo+k)) (KK κ (bD ak) (lo+i))))
   (Q:=fun c iu=>iu=ak/\∃ l r,c=(ab,l,r)/\l≤k /\
    (∀ i,i<l->κ.kle (KK κ (bD ak) (lo+i)) (KK κ (bD ak) (lo+k)))/\(∀ i,l≤i->i<k->κ.klt (KK κ (bD ak) (lo+k)) (KK κ (bD ak) (lo+i)))) ?istep ?ifin ?iinit) ?ipost)
  case iinit=>exact⟨rfl,0,k,rfl,by omega,by omega,by omega,fun i hi=>by omega,fun i h1 h2=>by omega⟩
  case ifin=>
   rintro c iu ⟨rfl,l,r,rfl,hlr,N8,hm,uh,qt⟩;have:l=r:=by omega
   rw[10];exact⟨rfl,l,l,rfl,N8,uh,qt⟩
  case istep=>
   rintro x c iu _ hxk ⟨rfl,l,r,rfl,hlr,N8,hm,uh,qt⟩;rw[7];by_cases nw:l ≥ r
   ·rw[if_pos nw];have:l=r:=by omega
    rw[10];exact cF ⟨rfl,l,l,rfl,N8,uh,qt⟩
   ·rw[if_neg nw];refine bL (zM hC h0 m6 (by omega) (by omega) ?_)
    cases m7:κ.blt (KK κ (bD iu) (lo+k)) (KK κ (bD iu) (lo+(l+r)/2))
    case true=>
     rw[8];refine cF ⟨rfl,l,(l+r)/2,rfl,by omega,by omega,by omega,uh,fun i h1 h2=>?_⟩
     exact KeyOrd.klt_of_klt_of_kle m7 (jj _ _ (by omega) (by omega) (by omega))
    case false=>
     simp only[fF,if_false];refine cF ⟨rfl,(l+r)/2+1,r,rfl,by omega,by omega,by omega,fun i h1=>?_,qt⟩
     exact kK (jj (lo+i) (lo+(l+r)/2) (by omega) (by omega) (by omega)) (show κ.kle _ _ from m7)
  case ipost=>
   rintro c iu ⟨rfl,l,r,rfl,V1,uh,qt⟩;show cP _ _ _ _ (do moveDown' (lo+k) (lo+l);pure (oI (ab,()))) _ _
   rw[moveDown'_eq];have yg:lo+k<(bD iu).size:=by rw[m6.size];omega
   have hd:lo+k-(lo+l)≤lo+k:=by omega
   refine bL (uF (cF ⟨rfl,hM.trans ⟨m6.setArr (bubble_perm _ _ _),rfl,fun q hq=>?_⟩,?_⟩))
   ·show(bubble (bD iu) (lo+k) (lo+k-(lo+l)))[q]?=_;rw[getElem?_bubble yg _ hd,if_neg (by omega),if_neg (by omega)]
   rw[show min (k+1) n=k+1 by omega]
   intro i j h1 h2 h3;show κ.kle (KK κ (bubble (bD iu) (lo+k) (lo+k-(lo+l))) i) (KK κ (bubble (bD iu) (lo+k) (lo+k-(lo+l))) j);rw[KK_bubble yg hd,KK_bubble yg hd,show lo+k-(lo+k-(lo+l))=lo+l by omega]
   have N9:∀ i,lo≤i->i<lo+l->κ.kle (KK κ (bD iu) i) (KK κ (bD iu) (lo+k)):=fun i a b=>by
    have:=uh (i-lo) (by omega)
    rwa [show lo+(i-lo)=i by omega] at this
   have N':∀ i,lo+l≤i->i<lo+k->κ.klt (KK κ (bD iu) (lo+k)) (KK κ (bD iu) i):=fun i a b=>by
    have:=qt (i-lo) (by omega) (by omega)
    rwa [show lo+(i-lo)=i by omega] at this
   repeat' split
   all_goals first
    |(exfalso;omega)
    |exact sT _
    |exact N9 _ (by omega) (by omega)
    |exact oH (N' _ (by omega) (by omega))
    |exact jj _ _ (by omega) (by omega) (by omega)
def tX:Bool->aW->Array aW->Nat->Nat->Nat->StateT bQ fS (Option Nat):=sortPriv% PySem.Builtin.gallop
def jc (κ:gX)(ay:Bool)(k x:κ.α):Bool:=if ay=ae then κ.blt x k else !κ.blt k x
theorem KQ{k x y:κ.α}(h:κ.kle x y)(hb:jc κ ay k y=ae):jc κ ay k x=ae:=by
 unfold jc at *;cases ay with
 |true=>exact KeyOrd.klt_of_kle_of_klt h hb
 |false=>
  have hb:κ.blt k y=af:=by simpa using hb
  have:κ.blt k x=af:=kK h hb;simp[this]
def vI (ay:Bool)(key:aW)(arr:Array aW)(i:Nat):StateT bQ fS (Option Bool):=do
 let x ← kP arr i
 if ay=ae then lt' x key else do
  let r ← lt' key x
  pure (Option.map (fun x=>!x) r)
theorem FB{key:aW}{Q:Option Bool->bQ->Prop}(hC:iW prog w A s κ kd)(hk:kindOf st=kd)(hd:∀ p∈arr.toList,κ.keyOf p.1=aa (ky κ p))(hy:κ.keyOf key.1=aa (ky κ key))(hi:i<arr.size)
  (h:Q (aa (jc κ ay (ky κ key) (KK κ arr i))) st):cP (aP prog w) A E s (vI ay key arr i) Q st:=by
 have e:arr[i]?=aa arr[i]:=getElem?_pos _ i hi;have m:arr[i]∈arr.toList:=by simp
 rw[BE e] at h;unfold vI;refine bL (iS e ?_);cases ay with
 |true=>
  rw[8];exact zL hC hk (hd _ m) hy h
 |false=>
  simp only[fF,if_false];exact bL (zL hC hk hy (hd _ m) (cF h))
def DM (ay:Bool)(key:aW)(arr:Array aW)(base n lo hi:Nat):StateT bQ fS (Option (Option Nat)×Nat×Nat):=
 forIn [:n] ((ab,lo,hi):Option (Option Nat)×Nat×Nat) fun _ c=>
  if c.snd.fst ≥ c.snd.snd then pure (yF (ab,c.snd.fst,c.snd.snd))
  else do
   let x ← vI ay key arr (base+(c.snd.fst+(c.snd.snd-c.snd.fst)/2))
   match x with
   |some b=>if b=ae then pure (oI (ab,c.snd.fst+(c.snd.snd-c.snd.fst)/2+1,c.snd.snd)) else pure (oI (ab,c.snd.fst,c.snd.fst+(c.snd.snd-c.snd.fst)/2))
   |_=>pure (yF (aa ab,c.snd.fst,c.snd.snd))
section
variable {key:aW}{base:Nat}
theorem UC {lo hi:Nat}{Q:Option (Option Nat)×Nat×Nat->bQ->Prop}(hC:iW prog w A s κ kd)(hk:kindOf st=kd)(hd:∀ p∈arr.toList,κ.keyOf p.1=aa (ky κ p))(hy:κ.keyOf key.1=aa (ky κ key))(hs:fV κ arr base (base+n))(hn:base+n≤arr.size)(hl:lo≤hi)(hh:hi≤n)
  (uh:∀ i,i<lo->jc κ ay (ky κ key) (KK κ arr (base+i))=ae) (qt:∀ i,hi≤i->i<n->jc κ ay (ky κ key) (KK κ arr (base+i))=af)
  (h:∀ r,r≤n->(∀ i,i<r->jc κ ay (ky κ key) (KK κ arr (base+i))=ae)->(∀ i,r≤i->i<n->jc κ ay (ky κ key) (KK κ arr (base+i))=af)->Q (ab,r,r) st):cP (aP prog w) A E s (DM ay key arr base n lo hi) Q st:=by
 unfold DM;refine qA (I:=fun x c ak=>ak=st/\∃ l r,c=(ab,l,r)/\l≤r/\r≤n/\r-l≤n-x/\(∀ i,i<l->jc κ ay (ky κ key) (KK κ arr (base+i))=ae)/\(∀ i,r≤i->i<n->jc κ ay (ky κ key) (KK κ arr (base+i))=af)) ?step ?fin ⟨rfl,lo,hi,rfl,hl,hh,by omega,uh,qt⟩
 case fin=>
  rintro c ak ⟨rfl,l,r,rfl,h1,h2,h3,h4,h5⟩;have:l=r:=by omega
  rw[10];exact h l h2 h4 h5
 case step=>
  rintro x c ak _ hx ⟨rfl,l,r,rfl,h1,h2,h3,h4,h5⟩;rw[7];by_cases nw:l ≥ r
  ·rw[if_pos nw];have:l=r:=by omega
   rw[10];exact cF (h l h2 h4 h5)
  ·rw[if_neg nw];refine bL (FB hC hk hd hy (by omega) ?_)
   cases hb:jc κ ay (ky κ key) (KK κ arr (base+(l+(r-l)/2)))
   case true=>
    rw[8];refine cF ⟨rfl,_,r,rfl,by omega,h2,by omega,fun i hi=>?_,h5⟩
    exact KQ (hs _ _ (by omega) (by omega) (by omega)) hb
   case false=>
    simp only[fF,if_false];refine cF ⟨rfl,l,_,rfl,by omega,by omega,by omega,h4,fun i ha hb2=>?_⟩
    cases hq:jc κ ay (ky κ key) (KK κ arr (base+i)) with
    |false=>rfl
    |true=>
     have:=KQ (hs (base+(l+(r-l)/2)) (base+i) (by omega) (by omega) (by omega)) hq
     rw[hb] at this;cases this
theorem wO {br:Nat}{Q:Option Nat->bQ->Prop}(hC:iW prog w A s κ kd)(hk:kindOf st=kd)(hd:∀ p∈arr.toList,κ.keyOf p.1=aa (ky κ p))(hy:κ.keyOf key.1=aa (ky κ key))(hs:fV κ arr base (base+n))(hn:base+n≤arr.size)(hh:br<n)
  (h:∀ r,r≤n->(∀ i,i<r->jc κ ay (ky κ key) (KK κ arr (base+i))=ae)->(∀ i,r≤i->i<n->jc κ ay (ky κ key) (KK κ arr (base+i))=af)->Q (aa r) st):cP (aP prog w) A E s (tX ay key arr base n br) Q st:=by
 let P:Nat->Bool:=fun i=>jc κ ay (ky κ key) (KK κ arr (base+i))
 have mono:∀ i j,i≤j->j<n->P j=ae->P i=ae:=fun i j a b c=>KQ (hs _ _ (by omega) (by omega) (by omega)) c
 have vw:∀ i j,i≤j->j<n->P i=af->P j=af:=fun i j a b c=>by
  cases hq:P j with
  |false=>rfl
  |true=>rw[mono i j a b hq] at c;cases c
 show cP _ _ _ _ (_>>=_) _ _;refine bL ?_
 change cP _ _ _ _ (vI ay key arr (base+br)) _ _
 refine FB hC hk hd hy (by omega) ?_
 cases hr:jc κ ay (ky κ key) (KK κ arr (base+br))
 case true=>
  rw[7];rw[8];refine bL (sJ (qA (I:=fun x c ak=>ak=st/\∃ l o,c=(ab,l,o)/\l<o/\x+1≤o/\l<n-br/\P (br+l)=ae) (Q:=fun c ak=>ak=st/\∃ l o,c=(ab,l,o)/\l<o/\l<n-br/\P (br+l)=ae/\(n-br≤o\/(o<n-br/\P (br+o)=af))) ?step ?fin ⟨rfl,0,1,rfl,by omega,by omega,by omega,hr⟩) ?post)
  case fin=>
   rintro c ak ⟨rfl,l,o,rfl,h1,h2,h3,h4⟩;exact⟨rfl,l,o,rfl,h1,h3,h4,.inl (by omega)⟩
  case step=>
   rintro x c ak _ hx ⟨rfl,l,o,rfl,h1,h2,h3,h4⟩;rw[7];by_cases nw:o ≥ n-br
   ·rw[if_pos nw];exact cF ⟨rfl,l,o,rfl,h1,h3,h4,.inl nw⟩
   ·rw[if_neg nw];refine bL ?_
    change cP _ _ _ _ (vI ay key arr (base+(br+o))) _ _
    refine FB hC hk hd hy (by omega) ?_
    cases hb:jc κ ay (ky κ key) (KK κ arr (base+(br+o)))
    case true=>
     simp only[rK,fF,if_false];exact cF ⟨rfl,o,2*o+1,rfl,by omega,by omega,by omega,hb⟩
    case false=>
     simp only[Bool.not_false,if_true];exact cF ⟨rfl,l,o,rfl,h1,h3,h4,.inr ⟨by omega,hb⟩⟩
  case post=>
   rintro c ak ⟨rfl,l,o,rfl,h1,h3,h4,h5⟩;rw[7];refine bL ?_
   change cP _ _ _ _ (DM ay key arr base n (br+l+1) (br+min o (n-br))) _ _
   refine UC hC hk hd hy hs hn (by omega) (by omega) (fun i hi=>mono i (br+l) (by omega) (by omega) h4) (fun i ha hb=>?_) fun r a b c=>cF (h r a b c)
   rcases h5 with h5|⟨h5,h6⟩
   ·omega
   ·exact vw (br+o) i (by omega) hb h6
 case false=>
  rw[7];simp only[fF,if_false];refine bL (sJ (qA (I:=fun x c ak=>ak=st/\∃ l o,c=(ab,l,o)/\l<o/\x+1≤o/\l≤br/\P (br-l)=af) (Q:=fun c ak=>ak=st/\∃ l o,c=(ab,l,o)/\l<o/\l≤br/\P (br-l)=af/\(br+1≤o\/(o≤br/\P (br-o)=ae))) ?step ?fin ⟨rfl,0,1,rfl,by omega,by omega,by omega,hr⟩) ?post)
  case fin=>
   rintro c ak ⟨rfl,l,o,rfl,h1,h2,h3,h4⟩;exact⟨rfl,l,o,rfl,h1,h3,h4,.inl (by omega)⟩
  case step=>
   rintro x c ak _ hx ⟨rfl,l,o,rfl,h1,h2,h3,h4⟩;rw[7];by_cases nw:o ≥ br+1
   ·rw[if_pos nw];exact cF ⟨rfl,l,o,rfl,h1,h3,h4,.inl nw⟩
   ·rw[if_neg nw];refine bL ?_
    change cP _ _ _ _ (vI ay key arr (base+(br-o))) _ _
    refine FB hC hk hd hy (by omega) ?_
    cases hb:jc κ ay (ky κ key) (KK κ arr (base+(br-o)))
    case true=>
     rw[8];exact cF ⟨rfl,l,o,rfl,h1,h3,h4,.inr ⟨by omega,hb⟩⟩
    case false=>
     simp only[fF,if_false];exact cF ⟨rfl,o,2*o+1,rfl,by omega,by omega,by omega,hb⟩
  case post=>
   rintro c ak ⟨rfl,l,o,rfl,h1,h3,h4,h5⟩;rw[7];refine bL ?_
   change cP _ _ _ _ (DM ay key arr base n (br+1-min o (br+1)) (br-l)) _ _
   refine UC hC hk hd hy hs hn (by omega) (by omega) (fun i hi=>?_) (fun i ha hb=>vw (br-l) i ha hb h4) fun r a b c=>cF (h r a b c)
   rcases h5 with h5|⟨h5,h6⟩
   ·omega
   ·exact mono i (br-o) (by omega) (by omega) h6
end
end
section
variable {κ:gX}
def Le (κ:gX)(p q:aW):Prop:=κ.kle (ky κ p) (ky κ q)
abbrev Sd (κ:gX)(l:List aW):Prop:=l.Pairwise (Le κ)
theorem KM (a:Array aW)(i k:Nat):(a.extract i (i+k)).toList=(a.toList.drop i).take k:=by
 rw[Ek,Dw]
 congr 1
 omega
theorem wG (a:Array aW)(i:Nat):(a.extract i).toList=a.toList.drop i:=by
 rw[Ek,Dw,uY (by simp)]
structure LoI (κ:gX)(A B O:List aW)(ia ib:Nat):Prop where
 perm:O.Perm (A.take ia++B.take ib)
 pa:Sd κ (O++A.drop ia)
 pb:Sd κ (O++B.drop ib)
variable {A B O T:List aW}
theorem LoI.swap (h:LoI κ A B O ia ib):LoI κ B A O ib ia:=⟨h.perm.trans CD,h.pb,h.pa⟩
theorem LoI.extA (h:LoI κ A B O ia ib)(k:Nat)(hx:∀ x∈(A.drop ia).take k,∀ y∈B.drop ib,Le κ x y):LoI κ A B (O++(A.drop ia).take k) (ia+k) ib:=by
 have e:A.drop ia=(A.drop ia).take k++A.drop (ia+k):=by rw[← Dx,nA]
 have e2:A.take (ia+k)=A.take ia++(A.drop ia).take k:=List.take_add;refine⟨?_,?_,?_⟩
 ·rw[e2];refine(h.perm.append_right _).trans ?_;rw[mG,mG];exact CD.append_left _
 ·rw[mG,← e];exact h.pa
 ·have pa:=h.pa;rw[e,← mG] at pa;have p1:=(CG.mp pa).1;have p2:=CG.mp h.pb;refine CG.mpr ⟨p1,p2.2.1,fun x mx y my=>?_⟩
  rcases jF.mp mx with mx|mx
  ·exact p2.2.2 x mx y my
  ·exact hx x mx y my
theorem LoI.extB (h:LoI κ A B O ia ib)(k:Nat)(hx:∀ x∈(B.drop ib).take k,∀ y∈A.drop ia,Le κ x y):LoI κ A B (O++(B.drop ib).take k) ia (ib+k):=(h.swap.extA k hx).swap
theorem LoI.endB (h:LoI κ A B O ia ib)(hb:B.drop ib=[]):(O++A.drop ia).Perm (A++B)/\Sd κ (O++A.drop ia):=by
 refine⟨?_,h.pa⟩;have e:B.take ib=B:=by
  have:=nA ib B;rw[hb] at this;simpa using this
 have p:=h.perm;rw[e] at p;refine(p.append_right _).trans ?_;rw[mG];refine(CD.append_left _).trans ?_;rw[← mG,nA]
theorem LoI.endA (h:LoI κ A B O ia ib)(ha:A.drop ia=[]):(O++B.drop ib).Perm (A++B)/\Sd κ (O++B.drop ib):=⟨(h.swap.endB ha).1.trans CD,h.pb⟩
structure HiI (κ:gX)(A B T:List aW)(na nb:Nat):Prop where
 perm:T.Perm (A.drop na++B.drop nb)
 pa:Sd κ (A.take na++T)
 pb:Sd κ (B.take nb++T)
theorem HiI.swap (h:HiI κ A B T na nb):HiI κ B A T nb na:=⟨h.perm.trans CD,h.pb,h.pa⟩
theorem HiI.extA (h:HiI κ A B T na nb)(m:Nat)(hm:m≤na)(hx:∀ x∈(A.take na).drop m,∀ y∈B.take nb,Le κ y x):HiI κ A B ((A.take na).drop m++T) m nb:=by
 have e:A.take na=A.take m++(A.take na).drop m:=by
  have:=(nA m (A.take na)).symm
  rwa [List.take_take,xU hm] at this
 have e2:A.drop m=(A.take na).drop m++A.drop na:=by
  have h1:=congrArg (List.drop m) (nA na A).symm;rw[h1,List.drop_append];by_cases hl:na≤A.length
  ·rw[oG,xU hl,show m-na=0 by omega,IE]
  ·rw[CQ (show A.length≤na by omega)]
   simp
 refine⟨?_,?_,?_⟩
 ·rw[e2,mG];exact h.perm.append_left _
 ·rw[← mG,← e];exact h.pa
 ·have pa:=h.pa;rw[e,mG] at pa;have p1:=(CG.mp pa).2.1;have p2:=CG.mp h.pb;refine CG.mpr ⟨p2.1,p1,fun y my x mx=>?_⟩
  rcases jF.mp mx with mx|mx
  ·exact hx x mx y my
  ·exact p2.2.2 y my x mx
theorem HiI.endB (h:HiI κ A B T na nb)(hb:B.take nb=[]):(A.take na++T).Perm (A++B)/\Sd κ (A.take na++T):=by
 refine⟨?_,h.pa⟩;have e:B.drop nb=B:=by
  have:=nA nb B;rw[hb] at this;simpa using this
 have p:=h.perm;rw[e] at p;refine(p.append_left _).trans ?_;rw[← mG,nA]
theorem HiI.endA (h:HiI κ A B T na nb)(ha:A.take na=[]):(B.take nb++T).Perm (A++B)/\Sd κ (B.take nb++T):=⟨(h.swap.endB ha).1.trans CD,h.pb⟩
theorem drop_cons {l:List aW}(h:l[i]?=aa p):(l.drop i).take 1=[p]/\l.drop i=p::l.drop (i+1):=by
 obtain⟨hi,e⟩:=dF.mp h;have:l.drop i=p::l.drop (i+1):=by rw[← e];exact CS hi
 exact⟨by rw[this];rfl,this⟩
theorem LC {l:List aW}{x:aW}(h:x∈l.drop i):∃ j,i≤j/\l[j]?=aa x:=by
 obtain⟨j,hj⟩:=xY h;rw[IC] at hj;exact⟨i+j,by omega,hj⟩
theorem Ar {l:List aW}{x:aW}(h:x∈(l.drop i).take k):∃ j,j<k/\l[i+j]?=aa x:=by
 obtain⟨j,hj⟩:=xY h;rw[PB] at hj;split at hj
 ·rename_i hk;rw[IC] at hj;exact⟨j,hk,hj⟩
 ·cases hj
theorem KY {l:List aW}{x:aW}(h:x∈l.take n):∃ j,j<n/\l[j]?=aa x:=by
 obtain⟨j,hj⟩:=xY h;rw[PB] at hj;split at hj
 ·rename_i hk;exact⟨j,hk,hj⟩
 ·cases hj
theorem Ac {l:List aW}{x:aW}(h:x∈(l.take n).drop m):∃ j,m≤j/\j<n/\l[j]?=aa x:=by
 obtain⟨j,hj⟩:=xY h;rw[IC,PB] at hj;split at hj
 ·rename_i hk;exact⟨m+j,by omega,hk,hj⟩
 ·cases hj
theorem n5(h:xs.toList[i]?=aa p):KK κ xs i=ky κ p:=BE (by simpa using h)
theorem GU(h:fV κ xs 0 xs.size):Sd κ xs.toList:=by
 rw[Sd,CF];intro i j hi hj ul;have:=h i j (dS _) (by omega) (by simpa using hj)
 rwa [n5 (eI hi),n5 (eI hj)] at this
theorem Ih(h:Sd κ xs.toList):fV κ xs 0 xs.size:=fun i j _ ul hj=>by
 have ur:j<xs.toList.length:=by simpa using hj
 have om:i<xs.toList.length:=by omega
 rw[n5 (eI om),n5 (eI ur)];rcases uX i j with h1|h1
 ·exact CF.mp h i j om ur h1
 ·have:i=j:=by omega
  rw[10];exact sT _
end
def UH:Array aW->Array aW->StateT bQ fS (Array aW):=sortPriv% PySem.Builtin.mergeLo
def NC:Nat->StateT bQ fS Unit:=sortPriv% PySem.Builtin.setMinGallop
section
variable {κ:gX}
structure SameG (st ak:bQ):Prop where
 kind:kindOf ak=kindOf st
 arr:bD ak=bD st
 pend:cW ak=cW st
 failed:sM ak=sM st
theorem SameG.refl (st:bQ):SameG st st:=⟨rfl,rfl,rfl,rfl⟩
theorem FK{Q:Unit->bQ->Prop}(hG:SameG st0 st)(h:∀ ak,SameG st0 ak->Q () ak):cP (aP prog w) A E s (NC g) Q st:=by
 show cP _ _ _ _ (modify _) _ _;exact uF (h _ ⟨hG.kind,hG.arr,hG.pend,hG.failed⟩)
def o5 (κ:gX)(a b r:Array aW):Prop:=r.toList.Perm (a.toList++b.toList)/\Sd κ r.toList
structure MPre (κ:gX)(a b:Array aW):Prop where
 ka:∀ p∈a.toList,κ.keyOf p.1=aa (ky κ p)
 kb:∀ p∈b.toList,κ.keyOf p.1=aa (ky κ p)
 sa:fV κ a 0 a.size
 sb:fV κ b 0 b.size
 na:0<a.size
 nb:0<b.size
 first:κ.klt (KK κ b 0) (KK κ a 0)
 last:∀ j,j<b.size->κ.kle (KK κ b j) (KK κ a (a.size-1))
section
variable {a b:Array aW}
abbrev LI (κ:gX)(a b:Array aW)(out:Array aW)(ia ib:Nat):Prop:=LoI κ a.toList b.toList out.toList ia ib
theorem at_ (xs:Array aW)(h:i<xs.size):∃ p,xs[i]?=aa p/\xs.toList[i]?=aa p/\p∈xs.toList/\KK κ xs i=ky κ p:=by
 have e:xs[i]?=aa xs[i]:=getElem?_pos _ i h;exact⟨xs[i],e,by simpa using e,by simp,BE e⟩
theorem EM(h:LI κ a b out ia ib)(hb:b.size≤ib):o5 κ a b (out++a.extract ia++b.extract ib):=by
 have e:b.toList.drop ib=[]:=CQ (by simpa using hb)
 have:=h.endB e;unfold o5;rw[pO,pO,wG,wG,e,pM];exact this
theorem Ly(h:LI κ a b out ia ib)(ha:a.size≤ia):o5 κ a b (out++a.extract ia++b.extract ib):=by
 have e:a.toList.drop ia=[]:=CQ (by simpa using ha)
 have:=h.endA e;unfold o5;rw[pO,pO,wG,wG,e,pM];exact this
theorem EJ(P:MPre κ a b)(h:LI κ a b out ia ib)(ha:ia+1=a.size):o5 κ a b (out++b.extract ib++a.extract ia):=by
 have h2:=h.extB b.size fun x mx y my=>by
  obtain⟨j,hj,ej⟩:=Ar mx;obtain⟨i,hi,ei⟩:=LC my;have hil:i<a.size:=by simpa using(dF.mp ei).1
  have hjl:ib+j<b.size:=by simpa using(dF.mp ej).1
  have:=P.last (ib+j) hjl;rw[show a.size-1=i by omega,n5 ej,n5 ei] at this
  exact this
 have e:b.toList.drop (ib+b.size)=[]:=CQ (by simp)
 have:=h2.endB e;have e2:(b.toList.drop ib).take b.size=b.toList.drop ib:=uY (by simp)
 rw[e2] at this;unfold o5;rw[pO,pO,wG,wG];exact this
theorem FE(h:LI κ a b out ia ib)(e:b.toList[ib]?=aa p)(hx:∀ i,ia≤i->i<a.size->κ.kle (ky κ p) (KK κ a i)):LI κ a b (out.push p) ia (ib+1):=by
 have:=h.extB 1 fun x mx y my=>by
  rw[(drop_cons e).1] at mx;rw[dP.mp mx];obtain⟨i,hi,ei⟩:=LC my;have:=hx i hi (by simpa using(dF.mp ei).1)
  rw[n5 ei] at this;exact this
 rw[(drop_cons e).1] at this;show LoI κ _ _ (out.push p).toList _ _;rw[CY];exact this
theorem VP(h:LI κ a b out ia ib)(e:a.toList[ia]?=aa p)(hx:∀ j,ib≤j->j<b.size->κ.kle (ky κ p) (KK κ b j)):LI κ a b (out.push p) (ia+1) ib:=(FE (a:=b) (b:=a) h.swap e hx).swap
theorem RY(h:LI κ a b out ia ib)(hx:∀ j,j<k->ib+j<b.size->∀ i,ia≤i->i<a.size->κ.kle (KK κ b (ib+j)) (KK κ a i)):LI κ a b (out++b.extract ib (ib+k)) ia (ib+k):=by
 have:=h.extB k fun x mx y my=>by
  obtain⟨j,hj,ej⟩:=Ar mx;obtain⟨i,hi,ei⟩:=LC my;have:=hx j hj (by simpa using(dF.mp ej).1) i hi (by simpa using(dF.mp ei).1)
  rw[n5 ej,n5 ei] at this;exact this
 show LoI κ _ _ (out++b.extract ib (ib+k)).toList _ _;rw[pO,KM];exact this
theorem Uy(h:LI κ a b out ia ib)(hx:∀ i,i<k->ia+i<a.size->∀ j,ib≤j->j<b.size->κ.kle (KK κ a (ia+i)) (KK κ b j)):LI κ a b (out++a.extract ia (ia+k)) (ia+k) ib:=(RY (a:=b) (b:=a) h.swap hx).swap
def xv (a b out:Array aW)(ia ib:Nat):Array aW:=out++a.extract ia++b.extract ib
def U0 (a b out:Array aW)(ia ib:Nat):Array aW:=out++b.extract ib++a.extract ia
abbrev uc (ρ:Type):=Option (Array aW)×ρ
abbrev D5 (τ:Type):=uc (Array aW×Nat×Nat×τ)
def loA (a b:Array aW)(g:Nat)(out:Array aW)(ia ib ac bc:Nat):StateT bQ fS (ForInStep (D5 (Nat×Nat))):=
 kP b ib>>=fun p=>kP a ia>>=fun q=>lt' p q>>=fun x=>match x with
 |some v=>if v=ae then kP b ib>>=fun p=>if (ib+1==b.size)=ae then pure (.done (aa (xv a b (out.push p) ia (ib+1)),out.push p,ia,ib+1,0,bc+1)) else if bc+1 ≥ g then pure (.done (ab,out.push p,ia,ib+1,0,bc+1)) else pure (.yield (ab,out.push p,ia,ib+1,0,bc+1))
  else kP a ia>>=fun q=>if (ia+1+1==a.size)=ae then pure (.done (aa (U0 a b (out.push q) (ia+1) ib),out.push q,ia+1,ib,ac+1,0)) else if ac+1 ≥ g then pure (.done (ab,out.push q,ia+1,ib,ac+1,0)) else pure (.yield (ab,out.push q,ia+1,ib,ac+1,0))
 |_=>pure (.done (aa (xv a b out ia ib),out,ia,ib,ac,bc))
def T' (a b:Array aW)(g ac bc:Nat)(out:Array aW)(ia ib:Nat):StateT bQ fS (ForInStep (D5 (Nat×Nat×Nat))):=
 kP a ia>>=fun q=>if (ia+1+1==a.size)=ae then pure (.done (aa (U0 a b (out.push q) (ia+1) ib),out.push q,ia+1,ib,g,ac,bc)) else if (decide (ac<7)&&decide (bc<7))=ae then pure (.done (ab,out.push q,ia+1,ib,g,ac,bc)) else pure (.yield (ab,out.push q,ia+1,ib,g,ac,bc))
def T9 (a b:Array aW)(g ac bc:Nat)(out:Array aW)(ia ib:Nat):StateT bQ fS (ForInStep (D5 (Nat×Nat×Nat))):=
 kP b ib>>=fun p=>if (ib+1==b.size)=ae then pure (.done (aa (xv a b (out.push p) ia (ib+1)),out.push p,ia,ib+1,g,ac,bc)) else kP a ia>>=fun q=>tX ae q b (ib+1) (b.size-(ib+1)) 0>>=fun x=>match x with
 |some k=>if k > 0 then(if (ib+1+k==b.size)=ae then pure (.done (aa (xv a b (out.push p++b.extract (ib+1) (ib+1+k)) ia (ib+1+k)),out.push p++b.extract (ib+1) (ib+1+k),ia,ib+1+k,g,ac,k)) else T' a b g ac k (out.push p++b.extract (ib+1) (ib+1+k)) ia (ib+1+k)) else T' a b g ac k (out.push p) ia (ib+1)
 |_=>pure (.done (aa (xv a b (out.push p) ia (ib+1)),out.push p,ia,ib+1,g,ac,bc))
def lo1 (a b out:Array aW)(ia ib ac bc g:Nat):StateT bQ fS (ForInStep (D5 (Nat×Nat×Nat))):=
 NC g>>=fun _=>kP b ib>>=fun p=>tX af p a ia (a.size-ia) 0>>=fun x=>match x with
 |some k=>if k > 0 then(if (ia+k+1==a.size)=ae then pure (.done (aa (U0 a b (out++a.extract ia (ia+k)) (ia+k) ib),out++a.extract ia (ia+k),ia+k,ib,g,k,bc)) else if (ia+k==a.size)=ae then pure (.done (aa (xv a b (out++a.extract ia (ia+k)) (ia+k) ib),out++a.extract ia (ia+k),ia+k,ib,g,k,bc)) else T9 a b g k bc (out++a.extract ia (ia+k)) (ia+k) ib) else T9 a b g k bc out ia ib
 |_=>pure (.done (aa (xv a b out ia ib),out,ia,ib,g,ac,bc))
def S6 (κ:gX)(a b:Array aW){ρ:Type}(c:uc ρ):Prop:=∃ r,c.1=aa r/\o5 κ a b r
abbrev xn (ρ:Type):=ρ->Nat->Prop
def yi {ρ:Type}(I:xn ρ)(n:Nat)(c:uc ρ):Prop:=c.1=ab/\I c.2 n
def MgT (κ:gX)(a b:Array aW){ρ:Type}(I:xn ρ)(st0:bQ)(n m:Nat)(r:ForInStep (uc ρ))(st:bQ):Prop:=
 SameG st0 st/\match r with
 |.done c=>S6 κ a b c\/yi I n c
 |.yield c=>yi I m c
theorem MgT.rd {ρ:Type}{I:xn ρ}{r:Array aW}{c:ρ}(hG:SameG st0 st)(h:o5 κ a b r):MgT κ a b I st0 n m (.done (aa r,c)) st:=⟨hG,.inl ⟨r,rfl,h⟩⟩
theorem MgT.if_[Decidable c]{ρ:Type}{I:xn ρ}{n m:Nat}{st:bQ}{x:ρ}(hG:SameG st0 st)(h1:I x n)(h2:I x m):cP (aP prog w) A E s (if c then pure (.done (ab,x)) else pure (.yield (ab,x)):StateT bQ fS (ForInStep (uc ρ))) (MgT κ a b I st0 n m) st:=by
 split
 ·exact cF ⟨hG,.inr ⟨rfl,h1⟩⟩
 ·exact cF ⟨hG,rfl,h2⟩
theorem qS {α:Type}[Decidable c]{t e:StateT bQ fS α}{Q:α->bQ->Prop}{st:bQ}(ht:c->cP (aP prog w) A E s t Q st)(he:¬ c->cP (aP prog w) A E s e Q st):cP (aP prog w) A E s (if c then t else e) Q st:=by
 split
 ·exact ht ‹_›
 ·exact he ‹_›
theorem kE {α:Type}{t e:StateT bQ fS α}{Q:α->bQ->Prop}(ht:m=n->cP (aP prog w) A E s t Q st)(he:¬ m=n->cP (aP prog w) A E s e Q st):cP (aP prog w) A E s (if (m==n)=ae then t else e) Q st:=
 qS (fun h=>ht (by simpa using h)) fun h=>he (by simpa using h)
theorem wK {ρ:Type}{I:xn ρ}{f:Nat->uc ρ->StateT bQ fS (ForInStep (uc ρ))}{N:Nat}{n0:Nat->Nat}{c:uc ρ}{Q:uc ρ->bQ->Prop}(hN:∀ {o},I o (n0 N)->I o k)
  (hf:∀ x c st,x<N->SameG st0 st->I c.2 (n0 x)->cP (aP prog w) A E s (f x c) (MgT κ a b I st0 k (n0 (x+1))) st)
  (hG:SameG st0 st) (hI:yi I (n0 0) c) (h:∀ c ak,SameG st0 ak->S6 κ a b c\/yi I k c->Q c ak):cP (aP prog w) A E s (forIn [:N] c f) Q st:=by
 refine sJ (qA (I:=fun x c st=>SameG st0 st/\yi I (n0 x) c) (Q:=fun c st=>SameG st0 st/\(S6 κ a b c\/yi I k c)) (fun x c st _ hx hc=>sJ (hf x c st hx hc.1 hc.2.2) ?_) ?_ ⟨hG,hI⟩) fun c st h'=>h c st h'.1 h'.2
 ·intro r ak h;cases r with
  |done c=>exact h
  |yield c=>exact h
 ·rw[Nat.max_eq_right (dS _)];exact fun c st h=>⟨h.1,.inr ⟨h.2.1,hN h.2.2⟩⟩
def R9 (κ:gX)(a b out:Array aW)(ia ib n:Nat):Prop:=LI κ a b out ia ib/\ia+1<a.size/\ib<b.size/\n≤ia+ib
def LoN (κ:gX)(a b:Array aW){τ:Type}:xn (Array aW×Nat×Nat×τ):=fun c n=>R9 κ a b c.1 c.2.1 c.2.2.1 n
section
variable {ac bc:Nat}
theorem MgT.lo[Decidable c]{τ:Type}{x:τ}(hG:SameG st0 st)(L:LI κ a b out ia ib)(h1:ia+1<a.size)(h2:ib<b.size)(h3:n≤ia+ib)(h4:m≤ia+ib):cP (aP prog w) A E s (if c then pure (.done (ab,out,ia,ib,x)) else pure (.yield (ab,out,ia,ib,x)):StateT bQ fS (ForInStep (D5 τ))) (MgT κ a b (LoN κ a b) st0 n m) st:=MgT.if_ hG ⟨L,h1,h2,h3⟩ ⟨L,h1,h2,h4⟩
theorem Mn (hC:iW prog w A s κ kd)(P:MPre κ a b)(hk:kindOf st0=kd)(hG:SameG st0 st)(h:R9 κ a b out ia ib n)(hm:m≤n+1):cP (aP prog w) A E s (loA a b g out ia ib ac bc) (MgT κ a b (LoN κ a b) st0 m (n+1)) st:=by
 obtain⟨L,h1,h2,h3⟩:=h;obtain⟨p,ep,l9,mp,kp⟩:=at_ (κ:=κ) b h2;obtain⟨q,eq,t5,mq,kq⟩:=at_ (κ:=κ) a (show ia<a.size by omega)
 refine bL (iS ep (bL (iS eq (bL (zL hC (hG.kind.trans hk) (P.kb p mp) (P.ka q mq) ?_)))));refine qS (fun hb=>?_) fun hb=>?_
 ·refine bL (iS ep ?_);have L':=FE L l9 fun i hi1 j6=>by
   refine kK (oH hb) ?_;rw[← kq];exact P.sa ia i (dS _) hi1 j6
  exact kE (fun d1=>cF (.rd hG (EM L' (by omega)))) fun d1=>MgT.lo hG L' h1 (by omega) (by omega) (by omega)
 ·refine bL (iS eq ?_);have L':=VP L t5 fun j t6 uu=>by
   refine kK (show κ.kle (ky κ q) (ky κ p) from Bool.of_not_eq_true hb) ?_
   rw[← kp];exact P.sb ib j (dS _) t6 uu
  exact kE (fun d1=>cF (.rd hG (EJ P L' d1))) fun d1=>MgT.lo hG L' (by omega) h2 (by omega) (by omega)
theorem SV (P:MPre κ a b)(hG:SameG st0 st)(L:LI κ a b out ia ib)(h1:ia+1<a.size)(h2:ib<b.size)(hx:∀ j,ib≤j->j<b.size->κ.kle (KK κ a ia) (KK κ b j))(h3:n≤ia+ib):cP (aP prog w) A E s (T' a b g ac bc out ia ib) (MgT κ a b (LoN κ a b) st0 n n) st:=by
 obtain⟨q,eq,t5,mq,kq⟩:=at_ (κ:=κ) a (show ia<a.size by omega)
 rw[kq] at hx;have M3:=VP L t5 hx;exact bL (iS eq (kE (fun d=>cF (.rd hG (EJ P M3 d))) fun d=>MgT.lo hG M3 (by omega) h2 (by omega) (by omega)))
theorem Ca (hC:iW prog w A s κ kd)(P:MPre κ a b)(hk:kindOf st0=kd)(hG:SameG st0 st)(L:LI κ a b out ia ib)(h1:ia+1<a.size)(h2:ib<b.size)(hx:∀ i,ia≤i->i<a.size->κ.kle (KK κ b ib) (KK κ a i))(h3:n≤ia+ib):cP (aP prog w) A E s (T9 a b g ac bc out ia ib) (MgT κ a b (LoN κ a b) st0 n n) st:=by
 obtain⟨p,ep,l9,mp,kp⟩:=at_ (κ:=κ) b h2;obtain⟨q,eq,t5,mq,kq⟩:=at_ (κ:=κ) a (show ia<a.size by omega)
 rw[kp] at hx;have L3:=FE L l9 hx;refine bL (iS ep (kE (fun d=>cF (.rd hG (EM L3 (by omega)))) fun d=>bL (iS eq (bL (wO (κ:=κ) hC (hG.kind.trans hk) P.kb (P.ka q mq) (fun i j a1 a2 a3=>P.sb i j (dS _) a2 (by omega)) (by omega) (by omega) fun k X4 t7 F7=>?_)))))
 have f2:∀ j,ib+1+k≤j->j<b.size->κ.kle (KK κ a ia) (KK κ b j):=fun j t6 uu=>by
  have:=F7 (j-(ib+1)) (by omega) (by omega)
  rw[show ib+1+(j-(ib+1))=j by omega] at this
  rw[kq];exact(show κ.blt (KK κ b j) (ky κ q)=af by simpa [jc] using this)
 refine qS (fun wx=>?_) fun wx=>?_
 ·have L4:=RY (k:=k) L3 fun j t6 uu i hi1 j6=>by
   have:=t7 j t6;refine kK (oH (show κ.blt (KK κ b (ib+1+j)) (ky κ q)=ae by simpa [jc] using this)) ?_
   rw[← kq];exact P.sa ia i (dS _) hi1 j6
  exact kE (fun d=>cF (.rd hG (EM L4 (by omega)))) fun d=>SV P hG L4 h1 (by omega) f2 (by omega)
 ·have:k=0:=by omega
  rw[10];exact SV P hG L3 h1 (by omega) f2 (by omega)
theorem Cd (hC:iW prog w A s κ kd)(P:MPre κ a b)(hk:kindOf st0=kd)(hG:SameG st0 st)(h:R9 κ a b out ia ib n):cP (aP prog w) A E s (lo1 a b out ia ib ac bc g) (MgT κ a b (LoN κ a b) st0 n n) st:=by
 obtain⟨L,h1,h2,h3⟩:=h;obtain⟨p,ep,l9,mp,kp⟩:=at_ (κ:=κ) b h2;refine bL (FK hG fun lr hG=>bL (iS ep (bL (wO (κ:=κ) hC (hG.kind.trans hk) P.ka (P.kb p mp) (fun i j a1 a2 a3=>P.sa i j (dS _) a2 (by omega)) (by omega) (by omega) fun k X3 vn ya=>?_))))
 have g2:∀ i,ia+k≤i->i<a.size->κ.kle (KK κ b ib) (KK κ a i):=fun i hi1 j6=>by
  have:=ya (i-ia) (by omega) (by omega)
  rw[show ia+(i-ia)=i by omega] at this
  rw[kp];exact oH (show κ.klt _ _ by simpa [jc,KeyOrd.klt] using this)
 refine qS (fun wx=>?_) fun wx=>?_
 ·have L1:=Uy (k:=k) L fun i hi1 j6 j t6 uu=>by
   have:=vn i hi1;refine kK (show κ.blt (ky κ p) (KK κ a (ia+i))=af by simpa [jc] using this) ?_
   rw[← kp];exact P.sb ib j (dS _) t6 uu
  exact kE (fun d=>cF (.rd hG (EJ P L1 d))) fun d1=>kE (fun d=>cF (.rd hG (Ly L1 (by omega)))) fun d=>Ca hC P hk hG L1 (by omega) h2 g2 (by omega)
 ·have:k=0:=by omega
  rw[10];exact Ca hC P hk hG L h1 h2 g2 (by omega)
theorem LoN.up {n n':Nat}{τ:Type}(q:n'≤n){o:Array aW×Nat×Nat×τ}(h:LoN κ a b o n):LoN κ a b o n':=⟨h.1,h.2.1,h.2.2.1,iU q h.2.2.2⟩
end
theorem Re{Q:Array aW->bQ->Prop}(hC:iW prog w A s κ kd)(P:MPre κ a b)(hk:kindOf st=kd)(h:∀ r ak,SameG st ak->o5 κ a b r->Q r ak):cP (aP prog w) A E s (UH a b) Q st:=by
 have na:=P.na;have nb:=P.nb;obtain⟨p0,e0,Op,m0,k0⟩:=at_ (κ:=κ) b nb;have L0:LI κ a b #[p0] 0 1:=by
  have h0:LI κ a b #[] 0 0:=⟨by simp,by simpa using GU P.sa,by simpa using GU P.sb⟩
  refine FE h0 Op fun i _ hi=>?_
  rw[← k0];exact kK (oH P.first) (P.sa 0 i (dS _) (dS _) hi)
 show cP _ _ _ _ (_>>=_) _ _;refine bL (uG (lA ⟨rfl,?_⟩));refine bL (iS e0 ?_);refine kE (fun c=>cF (h _ st (.refl st) (EM L0 (by omega)))) fun c1=>?_
 refine kE (fun c=>cF (h _ st (.refl st) (EJ P L0 c))) fun c2=>?_
 refine bL (pZ ?_);have z1:0+1<a.size:=by omega
 have z2:1<b.size:=by omega
 refine bL (wK (κ:=κ) (a:=a) (b:=b) (I:=LoN κ a b) (st0:=st) (k:=a.size+b.size) (n0:=fun x=>x) id (fun n c ak _ hG hc=>?_) (.refl st) ⟨rfl,L0,z1,z2,dS _⟩ fun c ak hG hd=>?_)
 ·refine bL (wK (κ:=κ) (a:=a) (b:=b) (I:=LoN κ a b) (st0:=st) (k:=n+1) (n0:=fun x=>n+x) (LoN.up (by omega)) (fun x c st hx hG h=>Mn hC P hk hG h (Nat.succ_le_succ (ON n x))) hG ⟨rfl,hc⟩ fun d st hG hd=>?_)
  rcases d with⟨_|r,d⟩
  ·rcases hd with⟨r,e,hr⟩|⟨e,hd⟩
   ·cases e
   refine bL (uG (lA ⟨rfl,?_⟩));refine bL (wK (κ:=κ) (a:=a) (b:=b) (I:=LoN κ a b) (k:=n+1) (n0:=fun _=>n+1) id (fun x c st hx hG h=>qS (fun _=>Cd hC P hk hG h) fun _=>Cd hC P hk hG h) hG ⟨rfl,hd⟩ fun d st hG hd=>?_)
   rcases d with⟨_|r,d⟩
   ·rcases hd with⟨r,e,hr⟩|⟨e,hd⟩
    ·cases e
    refine bL (FK hG fun st hG=>cF ⟨hG,rfl,hd⟩)
   ·rcases hd with⟨r,e,hr⟩|⟨e,hd⟩
    ·cases e;exact cF (.rd hG hr)
    ·cases e
  ·rcases hd with⟨r,e,hr⟩|⟨e,hd⟩
   ·cases e;exact cF (.rd hG hr)
   ·cases e
 ·rcases c with⟨_|r,c⟩
  ·rcases hd with⟨r,e,hr⟩|⟨e,hd⟩
   ·cases e
   obtain⟨_,d1,d2,d3⟩:=hd;omega
  ·rcases hd with⟨r,e,hr⟩|⟨e,hd⟩
   ·cases e;exact cF (h _ ak hG hr)
   ·cases e
end
end
def VH:Array aW->Array aW->StateT bQ fS (Array aW):=sortPriv% PySem.Builtin.mergeHi
section
variable {κ:gX}
section
variable {a b:Array aW}
abbrev HI (κ:gX)(a b:Array aW)(out:Array aW)(na nb:Nat):Prop:=HiI κ a.toList b.toList out.toList.reverse na nb
theorem tN (a:Array aW)(m n:Nat):(a.extract m n).toList=(a.toList.take n).drop m:=by
 rw[Ek,Dw,List.drop_take]
theorem zQ(h:HI κ a b out na nb)(hz:na=0\/nb=0):o5 κ a b (a.extract 0 na++b.extract 0 nb++out.reverse):=by
 unfold o5;rw[pO,pO,tN,tN,Ei,IE,IE];rcases hz with rfl|rfl
 ·have:=h.endA (by simp)
  rw[List.take_zero,CJ];exact this
 ·have:=h.endB (by simp)
  rw[List.take_zero,pM];exact this
theorem FD(P:MPre κ a b)(h:HI κ a b out na nb)(hb:nb=1):o5 κ a b (b.extract 0 nb++a.extract 0 na++out.reverse):=by
 subst hb;have h2:=h.extA 0 (dS _) fun x mx y my=>by
  obtain⟨i,_,_,ei⟩:=Ac mx;obtain⟨j,hj,ej⟩:=KY my;have:j=0:=by omega
  rw[10];have hi:i<a.size:=by simpa using(dF.mp ei).1
  have:=kK (oH P.first) (P.sa 0 i (dS _) (dS _) hi)
  rw[n5 ej,n5 ei] at this;exact this
 have:=h2.endA (by simp)
 unfold o5;rw[pO,pO,tN,tN,Ei,IE,mG];exact this
theorem WI {l:List aW}(h:l[n]?=aa p):(l.take (n+1)).drop n=[p]:=by
 obtain⟨hn,e⟩:=dF.mp h;rw[List.drop_take,(drop_cons h).2,show n+1-n=1 by omega]
 rfl
theorem LB(h:HI κ a b out (na+1) nb)(e:a.toList[na]?=aa p)(hx:∀ j,j<nb->j<b.size->κ.kle (KK κ b j) (ky κ p)):HI κ a b (out.push p) na nb:=by
 have:=h.extA na (HV _) fun x mx y my=>by
  rw[WI e] at mx;rw[dP.mp mx];obtain⟨j,hj,ej⟩:=KY my;have:=hx j hj (by simpa using(dF.mp ej).1)
  rw[n5 ej] at this;exact this
 rw[WI e] at this;show HiI κ _ _ (out.push p).toList.reverse _ _;rw[CY,Dk];exact this
theorem Vz(h:HI κ a b out na (nb+1))(e:b.toList[nb]?=aa p)(hx:∀ i,i<na->i<a.size->κ.kle (KK κ a i) (ky κ p)):HI κ a b (out.push p) na nb:=(LB (a:=b) (b:=a) h.swap e hx).swap
theorem Bs(h:HI κ a b out na nb)(hm:m≤na)(hx:∀ i,m≤i->i<na->i<a.size->∀ j,j<nb->j<b.size->κ.kle (KK κ b j) (KK κ a i)):HI κ a b (out++(a.extract m na).reverse) m nb:=by
 have:=h.extA m hm fun x mx y my=>by
  obtain⟨i,hi1,j6,ei⟩:=Ac mx;obtain⟨j,hj,ej⟩:=KY my;have:=hx i hi1 j6 (by simpa using(dF.mp ei).1) j hj (by simpa using(dF.mp ej).1)
  rw[n5 ej,n5 ei] at this;exact this
 show HiI κ _ _ (out++(a.extract m na).reverse).toList.reverse _ _;rw[pO,Dk,Ei,List.reverse_reverse,tN];exact this
theorem Mt(h:HI κ a b out na nb)(hm:m≤nb)(hx:∀ j,m≤j->j<nb->j<b.size->∀ i,i<na->i<a.size->κ.kle (KK κ a i) (KK κ b j)):HI κ a b (out++(b.extract m nb).reverse) na m:=(Bs (a:=b) (b:=a) h.swap hm hx).swap
theorem Bd(h:HI κ a b out na nb)(h0:0<na)(e:a.toList[na-1]?=aa p)(hx:∀ j,j<nb->j<b.size->κ.kle (KK κ b j) (ky κ p)):HI κ a b (out.push p) (na-1) nb:=LB (by rw[Nat.sub_add_cancel h0];exact h) e hx
theorem Bh(h:HI κ a b out na nb)(h0:0<nb)(e:b.toList[nb-1]?=aa p)(hx:∀ i,i<na->i<a.size->κ.kle (KK κ a i) (ky κ p)):HI κ a b (out.push p) na (nb-1):=Vz (by rw[Nat.sub_add_cancel h0];exact h) e hx
def xr (a b out:Array aW)(na nb:Nat):Array aW:=a.extract 0 na++b.extract 0 nb++out.reverse
def T6 (a b out:Array aW)(na nb:Nat):Array aW:=b.extract 0 nb++a.extract 0 na++out.reverse
abbrev D4 (τ:Type):=uc (Nat×Nat×Array aW×τ)
def hiA (a b:Array aW)(g:Nat)(na nb:Nat)(out:Array aW)(ac bc:Nat):StateT bQ fS (ForInStep (D4 (Nat×Nat))):=
 kP b (nb-1)>>=fun p=>kP a (na-1)>>=fun q=>lt' p q>>=fun x=>match x with
 |some v=>if v=ae then kP a (na-1)>>=fun q=>if (na-1==0)=ae then pure (.done (aa (xr a b (out.push q) (na-1) nb),na-1,nb,out.push q,ac+1,0)) else if ac+1 ≥ g then pure (.done (ab,na-1,nb,out.push q,ac+1,0)) else pure (.yield (ab,na-1,nb,out.push q,ac+1,0))
  else kP b (nb-1)>>=fun p=>if (nb-1==1)=ae then pure (.done (aa (T6 a b (out.push p) na (nb-1)),na,nb-1,out.push p,0,bc+1)) else if bc+1 ≥ g then pure (.done (ab,na,nb-1,out.push p,0,bc+1)) else pure (.yield (ab,na,nb-1,out.push p,0,bc+1))
 |_=>pure (.done (aa (xr a b out na nb),na,nb,out,ac,bc))
def u9 (a b:Array aW)(g ac bc na nb:Nat)(out:Array aW):StateT bQ fS (ForInStep (D4 (Nat×Nat×Nat))):=
 kP a (na-1)>>=fun q=>if (na-1==0)=ae then pure (.done (aa (xr a b (out.push q) (na-1) nb),na-1,nb,out.push q,g,ac,bc)) else if (decide (ac<7)&&decide (bc<7))=ae then pure (.done (ab,na-1,nb,out.push q,g,ac,bc)) else pure (.yield (ab,na-1,nb,out.push q,g,ac,bc))
def j6 (a b:Array aW)(g ac bc na nb:Nat)(out:Array aW):StateT bQ fS (ForInStep (D4 (Nat×Nat×Nat))):=
 kP b (nb-1)>>=fun p=>if (nb-1==1)=ae then pure (.done (aa (T6 a b (out.push p) na (nb-1)),na,nb-1,out.push p,g,ac,bc)) else kP a (na-1)>>=fun q=>tX ae q b 0 (nb-1) (nb-1-1)>>=fun x=>match x with
 |some r=>if nb-1-r > 0 then(if (r==1)=ae then pure (.done (aa (T6 a b (out.push p++(b.extract r (nb-1)).reverse) na r),na,r,out.push p++(b.extract r (nb-1)).reverse,g,ac,nb-1-r)) else if (r==0)=ae then pure (.done (aa (xr a b (out.push p++(b.extract r (nb-1)).reverse) na r),na,r,out.push p++(b.extract r (nb-1)).reverse,g,ac,nb-1-r)) else u9 a b g ac (nb-1-r) na r (out.push p++(b.extract r (nb-1)).reverse)) else u9 a b g ac (nb-1-r) na (nb-1) (out.push p)
 |_=>pure (.done (aa (xr a b (out.push p) na (nb-1)),na,nb-1,out.push p,g,ac,bc))
def hi1 (a b:Array aW)(na nb:Nat)(out:Array aW)(ac bc g:Nat):StateT bQ fS (ForInStep (D4 (Nat×Nat×Nat))):=
 NC g>>=fun _=>kP b (nb-1)>>=fun p=>tX af p a 0 na (na-1)>>=fun x=>match x with
 |some r=>if na-r > 0 then(if (r==0)=ae then pure (.done (aa (xr a b (out++(a.extract r na).reverse) r nb),r,nb,out++(a.extract r na).reverse,g,na-r,bc)) else j6 a b g (na-r) bc r nb (out++(a.extract r na).reverse)) else j6 a b g (na-r) bc na nb out
 |_=>pure (.done (aa (xr a b out na nb),na,nb,out,g,ac,bc))
def R7 (κ:gX)(a b:Array aW)(na nb:Nat)(out:Array aW)(n:Nat):Prop:=HI κ a b out na nb/\0<na/\na≤a.size/\1<nb/\nb≤b.size/\n+na+nb≤a.size+b.size
def HiN (κ:gX)(a b:Array aW){τ:Type}:xn (Nat×Nat×Array aW×τ):=fun c n=>R7 κ a b c.1 c.2.1 c.2.2.1 n
section
variable {ac bc:Nat}
theorem MgT.hi[Decidable c]{τ:Type}{x:τ}(hG:SameG st0 st)(L:HI κ a b out na nb)(h1:0<na/\na≤a.size)(h2:1<nb/\nb≤b.size)(h3:n+na+nb≤a.size+b.size/\m+na+nb≤a.size+b.size):cP (aP prog w) A E s (if c then pure (.done (ab,na,nb,out,x)) else pure (.yield (ab,na,nb,out,x)):StateT bQ fS (ForInStep (D4 τ))) (MgT κ a b (HiN κ a b) st0 n m) st:=MgT.if_ hG ⟨L,h1.1,h1.2,h2.1,h2.2,h3.1⟩ ⟨L,h1.1,h1.2,h2.1,h2.2,h3.2⟩
theorem Lw (hC:iW prog w A s κ kd)(P:MPre κ a b)(hk:kindOf st0=kd)(hG:SameG st0 st)(h:R7 κ a b na nb out n)(hm:m≤n+1):cP (aP prog w) A E s (hiA a b g na nb out ac bc) (MgT κ a b (HiN κ a b) st0 m (n+1)) st:=by
 obtain⟨L,h1,h2,h3,h4,h5⟩:=h;obtain⟨p,ep,l9,mp,kp⟩:=at_ (κ:=κ) b (show nb-1<b.size by omega)
 obtain⟨q,eq,t5,mq,kq⟩:=at_ (κ:=κ) a (show na-1<a.size by omega)
 refine bL (iS ep (bL (iS eq (bL (zL hC (hG.kind.trans hk) (P.kb p mp) (P.ka q mq) ?_)))));refine qS (fun hb=>?_) fun hb=>?_
 ·refine bL (iS eq ?_);have L':=Bd L h1 t5 fun j t6 uu=>by
   refine kK ?_ (oH hb);rw[← kp];exact P.sb j (nb-1) (dS _) (by omega) (by omega)
  exact kE (fun d=>cF (.rd hG (zQ L' (.inl d)))) fun d=>MgT.hi hG L' (by omega) (by omega) (by omega)
 ·refine bL (iS ep ?_);have L':=Bh L (by omega) l9 fun i hi1 j6=>by
   refine kK ?_ (show κ.kle (ky κ q) (ky κ p) from Bool.of_not_eq_true hb)
   rw[← kq];exact P.sa i (na-1) (dS _) (by omega) (by omega)
  exact kE (fun d=>cF (.rd hG (FD P L' d))) fun d=>MgT.hi hG L' (by omega) (by omega) (by omega)
theorem Bm (hG:SameG st0 st)(L:HI κ a b out na nb)(h1:0<na/\na≤a.size)(h2:1<nb/\nb≤b.size)(hx:∀ j,j<nb->κ.kle (KK κ b j) (KK κ a (na-1)))(h3:n+na+nb≤a.size+b.size):cP (aP prog w) A E s (u9 a b g ac bc na nb out) (MgT κ a b (HiN κ a b) st0 n n) st:=by
 obtain⟨q,eq,t5,mq,kq⟩:=at_ (κ:=κ) a (show na-1<a.size by omega)
 rw[kq] at hx;have M3:=Bd L h1.1 t5 fun j hj _=>hx j hj
 exact bL (iS eq (kE (fun d=>cF (.rd hG (zQ M3 (.inl d)))) fun d=>MgT.hi hG M3 (by omega) h2 (by omega)))
theorem Bn (hC:iW prog w A s κ kd)(P:MPre κ a b)(hk:kindOf st0=kd)(hG:SameG st0 st)(L:HI κ a b out na nb)(h1:0<na/\na≤a.size)(h2:1<nb/\nb≤b.size)(hx:∀ i,i<na->κ.kle (KK κ a i) (KK κ b (nb-1)))(h3:n+na+nb≤a.size+b.size):cP (aP prog w) A E s (j6 a b g ac bc na nb out) (MgT κ a b (HiN κ a b) st0 n n) st:=by
 obtain⟨p,ep,l9,mp,kp⟩:=at_ (κ:=κ) b (show nb-1<b.size by omega)
 obtain⟨q,eq,t5,mq,kq⟩:=at_ (κ:=κ) a (show na-1<a.size by omega)
 rw[kp] at hx;have L3:=Bh L (by omega) l9 fun i hi _=>hx i hi
 refine bL (iS ep (kE (fun d=>cF (.rd hG (FD P L3 d))) fun d=>bL (iS eq (bL (wO (κ:=κ) hC (hG.kind.trans hk) P.kb (P.ka q mq) (fun i j a1 a2 a3=>P.sb i j (dS _) a2 (by omega)) (by omega) (by omega) fun r X4 t7 F7=>?_)))))
 have f1:∀ j,j<r->κ.kle (KK κ b j) (KK κ a (na-1)):=fun j hj=>by
  have:=t7 j hj;rw[OK] at this;rw[kq];exact oH (show κ.blt (KK κ b j) (ky κ q)=ae by simpa [jc] using this)
 refine qS (fun wx=>?_) fun wx=>?_
 ·have L4:=Mt (m:=r) L3 X4 fun j t6 uu hj3 i hi1 j6=>by
   have:=F7 j t6 uu;rw[OK] at this;refine kK ?_ (show κ.blt (KK κ b j) (ky κ q)=af by simpa [jc] using this)
   rw[← kq];exact P.sa i (na-1) (dS _) (by omega) (by omega)
  exact kE (fun d=>cF (.rd hG (FD P L4 d))) fun d1=>kE (fun d=>cF (.rd hG (zQ L4 (.inr d)))) fun d=>Bm hG L4 h1 (by omega) f1 (by omega)
 ·have:r=nb-1:=by omega
  rw[this] at f1;exact Bm hG L3 h1 (by omega) f1 (by omega)
theorem RX (hC:iW prog w A s κ kd)(P:MPre κ a b)(hk:kindOf st0=kd)(hG:SameG st0 st)(h:R7 κ a b na nb out n):cP (aP prog w) A E s (hi1 a b na nb out ac bc g) (MgT κ a b (HiN κ a b) st0 n n) st:=by
 obtain⟨L,h1,h2,h3,h4,h5⟩:=h;obtain⟨p,ep,l9,mp,kp⟩:=at_ (κ:=κ) b (show nb-1<b.size by omega)
 refine bL (FK hG fun lr hG=>bL (iS ep (bL (wO (κ:=κ) hC (hG.kind.trans hk) P.ka (P.kb p mp) (fun i j a1 a2 a3=>P.sa i j (dS _) a2 (by omega)) (by omega) (by omega) fun r qp qr O0=>?_))))
 have g1:∀ i,i<r->κ.kle (KK κ a i) (KK κ b (nb-1)):=fun i hi=>by
  have:=qr i hi;rw[OK] at this;rw[kp];exact(show κ.blt (ky κ p) (KK κ a i)=af by simpa [jc] using this)
 refine qS (fun wx=>?_) fun wx=>?_
 ·have L1:=Bs (m:=r) L qp fun i hi1 j6 u9 j t6 uu=>by
   have:=O0 i hi1 j6;rw[OK] at this;refine kK ?_ (oH (show κ.blt (ky κ p) (KK κ a i)=ae by simpa [jc] using this))
   rw[← kp];exact P.sb j (nb-1) (dS _) (by omega) (by omega)
  exact kE (fun d=>cF (.rd hG (zQ L1 (.inl d)))) fun d=>Bn hC P hk hG L1 (by omega) ⟨h3,h4⟩ g1 (by omega)
 ·have:r=na:=by omega
  rw[this] at g1;exact Bn hC P hk hG L ⟨h1,h2⟩ ⟨h3,h4⟩ g1 h5
theorem HiN.up {n n':Nat}{τ:Type}(q:n'≤n){o:Nat×Nat×Array aW×τ}(h:HiN κ a b o n):HiN κ a b o n':=⟨h.1,h.2.1,h.2.2.1,h.2.2.2.1,h.2.2.2.2.1,iU (Nat.add_le_add_right (Nat.add_le_add_right q _) _) h.2.2.2.2.2⟩
end
theorem Qy{Q:Array aW->bQ->Prop}(hC:iW prog w A s κ kd)(P:MPre κ a b)(hk:kindOf st=kd)(h:∀ r ak,SameG st ak->o5 κ a b r->Q r ak):cP (aP prog w) A E s (VH a b) Q st:=by
 have na0:=P.na;have nb0:=P.nb;obtain⟨p0,e0,Op,m0,k0⟩:=at_ (κ:=κ) a (show a.size-1<a.size by omega)
 have L0:HI κ a b #[p0] (a.size-1) b.size:=by
  have h0:HI κ a b #[] (a.size-1+1) b.size:=by
   refine⟨?_,?_,?_⟩
   ·rw[show a.size-1+1=a.size by omega,CQ (by simp),CQ (by simp)]
    simp
   ·rw[show a.size-1+1=a.size by omega,uY (by simp)]
    simpa using GU P.sa
   ·rw[uY (by simp)]
    simpa using GU P.sb
  refine LB h0 Op fun j _ hj=>?_
  rw[← k0];exact P.last j hj
 show cP _ _ _ _ (_>>=_) _ _;refine bL (uG (lA ⟨rfl,?_⟩));refine bL (iS e0 ?_);refine kE (fun c=>cF (h _ st (.refl st) (zQ L0 (.inl c)))) fun c1=>?_
 refine kE (fun c=>cF (h _ st (.refl st) (FD P L0 c))) fun c2=>?_
 refine bL (pZ ?_);have z1:0<a.size-1:=by omega
 have z2:a.size-1≤a.size:=by omega
 have z3:1<b.size:=by omega
 have z4:0+(a.size-1)+b.size≤a.size+b.size:=by omega
 refine bL (wK (κ:=κ) (a:=a) (b:=b) (I:=HiN κ a b) (st0:=st) (k:=a.size+b.size) (n0:=fun x=>x) id (fun n c ak _ hG hc=>?_) (.refl st) ⟨rfl,L0,z1,z2,z3,cE _,z4⟩ fun c ak hG hd=>?_)
 ·refine bL (wK (κ:=κ) (a:=a) (b:=b) (I:=HiN κ a b) (st0:=st) (k:=n+1) (n0:=fun x=>n+x) (HiN.up (by omega)) (fun x c st hx hG h=>Lw hC P hk hG h (Nat.succ_le_succ (ON n x))) hG ⟨rfl,hc⟩ fun d st hG hd=>?_)
  rcases d with⟨_|r,d⟩
  ·rcases hd with⟨r,e,hr⟩|⟨e,hd⟩
   ·cases e
   refine bL (uG (lA ⟨rfl,?_⟩));refine bL (wK (κ:=κ) (a:=a) (b:=b) (I:=HiN κ a b) (k:=n+1) (n0:=fun _=>n+1) id (fun x c st hx hG h=>qS (fun _=>RX hC P hk hG h) fun _=>RX hC P hk hG h) hG ⟨rfl,hd⟩ fun d st hG hd=>?_)
   rcases d with⟨_|r,d⟩
   ·rcases hd with⟨r,e,hr⟩|⟨e,hd⟩
    ·cases e
    refine bL (FK hG fun st hG=>cF ⟨hG,rfl,hd⟩)
   ·rcases hd with⟨r,e,hr⟩|⟨e,hd⟩
    ·cases e;exact cF (.rd hG hr)
    ·cases e
  ·rcases hd with⟨r,e,hr⟩|⟨e,hd⟩
   ·cases e;exact cF (.rd hG hr)
   ·cases e
 ·rcases c with⟨_|r,c⟩
  ·rcases hd with⟨r,e,hr⟩|⟨e,hd⟩
   ·cases e
   obtain⟨_,d1,d2,d3,d4,d5⟩:=hd;omega
  ·rcases hd with⟨r,e,hr⟩|⟨e,hd⟩
   ·cases e;exact cF (h _ ak hG hr)
   ·cases e
end
end
section
variable {κ:gX}
theorem Lz {ak:bQ}{Q:PUnit->bQ->Prop}(h:Q ⟨⟩ ak):cP (aP prog w) A E s (set ak:StateT bQ fS PUnit) Q st:=by
 unfold cP;rw[StateT.run_set];exact aQ ⟨rfl,h⟩
def tq (xs:Array aW)(p:Nat)(r:Array aW):Array aW:=r.toList.zipIdx.foldl (fun a (q,j)=>a.setIfInBounds (p+j) q) xs
theorem Bp (p:Nat):∀ (R:List aW) (j0:Nat) (xs:Array aW),p+j0+R.length≤xs.size->∀ t:Nat,((R.zipIdx j0).foldl (fun(a:Array aW) (q,j)=>a.setIfInBounds (p+j) q) xs)[t]?=if p+j0≤t/\t<p+j0+R.length then R[t-(p+j0)]? else xs[t]?
 |[],j0,xs,_,t=>by
  rw[Dh,List.foldl_nil,if_neg (by simp)]
 |x::R,j0,xs,h,t=>by
  rw[Di,nC,Bp p R (j0+1) _ (by simp at h ⊢;omega)]
  simp only[hW] at h ⊢;by_cases h1:p+(j0+1)≤t/\t<p+(j0+1)+R.length
  ·rw[if_pos h1,if_pos (by omega),show t-(p+j0)=(t-(p+(j0+1)))+1 by omega,pL]
  ·rw[if_neg h1,h8];by_cases h2:p+j0=t
   ·rw[if_pos h2,if_pos (by omega),if_pos (by omega),show t-(p+j0)=0 by omega]
    rfl
   ·rw[if_neg h2,if_neg (by omega)]
theorem DZ {r:Array aW}{p:Nat}(h:p+r.size≤xs.size)(t:Nat):(tq xs p r)[t]?=if p≤t/\t<p+r.size then r[t-p]? else xs[t]?:=by
 have:=Bp p r.toList 0 xs (by simpa using h) t
 unfold tq;rw[this];simp
theorem Xg {r:Array aW}{p:Nat}(h:p+r.size≤xs.size)(hp:r.toList.Perm ((xs.toList.drop p).take r.size)):(tq xs p r).Perm xs:=by
 rw[yK];have e:(tq xs p r).toList=xs.toList.take p++(r.toList++xs.toList.drop (p+r.size)):=by
  refine CP fun t=>?_
  have:=DZ h t;rw[lT,this];by_cases h1:t<p
  ·rw[if_neg (by omega),yB (by simp;omega),PB,if_pos h1]
   simp
  ·rw[vB (by simp;omega),oG,xU (by simp;omega)]
   by_cases h2:t<p+r.size
   ·rw[if_pos ⟨by omega,h2⟩,yB (by simp;omega)]
    simp
   ·rw[if_neg (by omega),vB (by simp;omega),IC]
    simp only[jU];rw[show p+r.size+(t-p-r.size)=t by omega]
    simp
 have e2:xs.toList=xs.toList.take p++((xs.toList.drop p).take r.size++xs.toList.drop (p+r.size)):=by
  rw[← Dx,nA,nA]
 rw[e]
 conv=>rhs;rw[e2]
 exact(hp.append_right _).append_left _
theorem Aa(h:i+k<j)(hj:j≤xs.size):KK κ (xs.extract i j) k=KK κ xs (i+k):=KK_congr (by
 rw[Array.getElem?_extract,if_pos (by omega)])
theorem Qu{sa sb p1 p2:Nat}{Q:Bool->bQ->Prop}(hC:iW prog w A s κ kd)(h0:KeysOf κ a₀)(hB:TB kd a₀ st)(e1:(cW st)[i]?=aa (sa,na,p1))(e2:(cW st)[i+1]?=aa (sb,nb,p2))(hs:sb=sa+na)(hn:sb+nb≤a₀.size)(ha:0<na)(hb:0<nb)
  (sA:fV κ (bD st) sa (sa+na)) (sB:fV κ (bD st) sb (sb+nb))
  (h:∀ ak,TB kd a₀ ak->cW ak=((cW st).setIfInBounds i (sa,na+nb,p1)).eraseIdxIfInBounds (i+1)->(∀ k,k<sa\/sb+nb≤k->(bD ak)[k]?=(bD st)[k]?)->fV κ (bD ak) sa (sb+nb)->Q ae ak):cP (aP prog w) A E s (mergeAt' i) Q st:=by
 show cP _ _ _ _ (_>>=_) _ _;refine bL (pZ ?_);rw[show(sortPriv% PySem.Builtin.SortState.pending) st=cW st from rfl,e1,e2]
 rw[7]
 let arr:=bD st
 have hsz:arr.size=a₀.size:=hB.size;have ji:∀ p∈arr.toList,κ.keyOf p.1=aa (ky κ p):=fun p m=>NP h0 ((yK.mp hB.perm).mem_iff.mp m)
 refine bL (Lz ?_);obtain⟨p,ep,l9,mp,kp⟩:=at_ (κ:=κ) arr (show sb<arr.size by omega)
 refine bL (iS ep ?_);refine bL ?_
 change cP _ _ _ _ (tX af p arr sa na 0) _ _
 refine wO (κ:=κ) hC hB.kind ji (ji p mp) sA (by omega) (by omega) fun k X3 vn ya=>?_
 rw[7];have g1:∀ t,sa≤t->t<sa+k->κ.kle (KK κ arr t) (KK κ arr sb):=fun t uq A2=>by
  have:=vn (t-sa) (by omega)
  rw[show sa+(t-sa)=t by omega,← kp] at this
  exact(show κ.blt (KK κ arr sb) (KK κ arr t)=af by simpa [jc] using this)
 have g2:∀ t,sa+k≤t->t<sb->κ.klt (KK κ arr sb) (KK κ arr t):=fun t uq A2=>by
  have:=ya (t-sa) (by omega) (by omega)
  rw[show sa+(t-sa)=t by omega,← kp] at this
  exact(show κ.blt (KK κ arr sb) (KK κ arr t)=ae by simpa [jc] using this)
 by_cases c1:na-k=0
 ·rw[if_pos (by simpa using c1)]
  refine cF (h _ ⟨hB.perm,hB.kind,hB.failed⟩ rfl (fun _ _=>rfl) fun i j i1 i2 i3=>?_)
  show κ.kle (KK κ arr i) (KK κ arr j);by_cases hj:j<sb
  ·exact sA i j i1 i2 (by omega)
  ·by_cases hi:i<sb
   ·exact kK (g1 i i1 (by omega)) (sB sb j (cE _) (by omega) i3)
   ·exact sB i j (by omega) i2 i3
 rw[if_neg (by simpa using c1)]
 obtain⟨q,eq,t5,mq,kq⟩:=at_ (κ:=κ) arr (show sa+k+(na-k)-1<arr.size by omega)
 rw[show sa+k+(na-k)-1=sb-1 by omega] at kq
 refine bL (iS eq ?_);refine bL ?_
 change cP _ _ _ _ (tX ae q arr sb nb (nb-1)) _ _
 refine wO (κ:=κ) hC hB.kind ji (ji q mq) sB (by omega) (by omega) fun m qp qr O0=>?_
 rw[7];have f1:∀ t,sb≤t->t<sb+m->κ.klt (KK κ arr t) (KK κ arr (sb-1)):=fun t uq A2=>by
  have:=qr (t-sb) (by omega)
  rw[show sb+(t-sb)=t by omega,← kq] at this
  exact(show κ.blt (KK κ arr t) (KK κ arr (sb-1))=ae by simpa [jc] using this)
 have f2:∀ t,sb+m≤t->t<sb+nb->κ.kle (KK κ arr (sb-1)) (KK κ arr t):=fun t uq A2=>by
  have:=O0 (t-sb) (by omega) (by omega)
  rw[show sb+(t-sb)=t by omega,← kq] at this
  exact(show κ.blt (KK κ arr t) (KK κ arr (sb-1))=af by simpa [jc] using this)
 by_cases c2:m=0
 ·rw[if_pos (by simpa using c2)]
  refine cF (h _ ⟨hB.perm,hB.kind,hB.failed⟩ rfl (fun _ _=>rfl) fun i j i1 i2 i3=>?_)
  show κ.kle (KK κ arr i) (KK κ arr j);by_cases hj:j<sb
  ·exact sA i j i1 i2 (by omega)
  ·by_cases hi:i<sb
   ·exact kK (sA i (sb-1) i1 (by omega) (by omega)) (f2 j (by omega) i3)
   ·exact sB i j (by omega) i2 i3
 rw[if_neg (by simpa using c2)]
 let x:=arr.extract (sa+k) sb
 let y:=arr.extract sb (sb+m)
 have xs:x.size=sb-(sa+k):=by simp[x];omega
 have ys:y.size=m:=by simp[y];omega
 have kx:∀ t,t<x.size->KK κ x t=KK κ arr (sa+k+t):=fun t ht=>Aa (by omega) (by omega)
 have kY:∀ t,t<y.size->KK κ y t=KK κ arr (sb+t):=fun t ht=>Aa (by omega) (by omega)
 have inx:∀ p∈x.toList,p∈arr.toList:=fun p m=>by
  have e:x.toList=(arr.toList.take sb).drop (sa+k):=tN arr _ _;rw[e] at m;exact CL (List.mem_of_mem_drop m)
 have iny:∀ p∈y.toList,p∈arr.toList:=fun p m'=>by
  have e:y.toList=(arr.toList.take (sb+m)).drop sb:=tN arr _ _;rw[e] at m';exact CL (List.mem_of_mem_drop m')
 have P:MPre κ x y:=by
  refine⟨fun p m=>ji p (inx p m),fun p m=>ji p (iny p m),fun i j _ i2 i3=>?_,fun i j _ i2 i3=>?_,by omega,by omega,?_,fun j hj=>?_⟩
  ·rw[kx i (by omega),kx j i3]
   exact sA _ _ (by omega) (by omega) (by omega)
  ·rw[kY i (by omega),kY j i3]
   exact sB _ _ (by omega) (by omega) (by omega)
  ·rw[kY 0 (by omega),kx 0 (by omega)]
   exact g2 _ (by omega) (by omega)
  ·rw[kY j hj,kx (x.size-1) (by omega),show sa+k+(x.size-1)=sb-1 by omega]
   exact oH (f1 _ (by omega) (by omega))
 have fin:∀ (r:Array aW) (gu:bQ),SameG (SortSt.mk' (kindOf st) arr (((cW st).setIfInBounds i (sa,na+nb,p1)).eraseIdxIfInBounds (i+1)) (gallopOf st) (sM st)) gu->o5 κ x y r->Q ae (HP gu (tq (bD gu) (sa+k) r))/\sM gu=ab:=by
  intro r gu hG hm;have ea:bD gu=arr:=hG.arr;have rs:r.size=x.size+y.size:=by
   have:=hm.1.length_eq;simpa using this
  have oo:sa+k+r.size≤arr.size:=by omega
  have O1:(arr.toList.drop (sa+k)).take r.size=x.toList++y.toList:=by
   have ex:x.toList=(arr.toList.drop (sa+k)).take x.size:=by
    have:=KM arr (sa+k) x.size;rw[show sa+k+x.size=sb by omega] at this
    exact this
   have ey:y.toList=(arr.toList.drop sb).take y.size:=by
    have:=KM arr sb y.size;rw[show sb+y.size=sb+m by omega] at this
    exact this
   rw[ex,ey,rs,List.take_add,Dx,show sa+k+x.size=sb by omega]
  have hp:(tq arr (sa+k) r).Perm arr:=Xg oo (by rw[O1];exact hm.1)
  refine⟨h _ ⟨?_,hG.kind.trans hB.kind,hG.failed.trans hB.failed⟩ hG.pend (fun t ht=>?_) ?_,hG.failed.trans hB.failed⟩
  ·show(tq (bD gu) (sa+k) r).Perm a₀;rw[ea];exact hp.trans hB.perm
  ·show(tq (bD gu) (sa+k) r)[t]?=arr[t]?;rw[ea,DZ oo,if_neg (by omega)]
  ·show fV κ (tq (bD gu) (sa+k) r) sa (sb+nb);rw[ea];have out:∀ t,¬ (sa+k≤t/\t<sa+k+r.size)->KK κ (tq arr (sa+k) r) t=KK κ arr t:=fun t ht=>KK_congr (by rw[DZ oo,if_neg ht])
   have ins:∀ t,sa+k≤t->t<sa+k+r.size->KK κ (tq arr (sa+k) r) t=KK κ r (t-(sa+k)):=fun t h1 h2=>KK_congr (by rw[DZ oo,if_pos ⟨h1,h2⟩])
   have sr:=Ih hm.2;have from_:∀ u,u<r.size->∃ t,KK κ r u=KK κ arr t/\sa+k≤t/\t<sb+m:=fun u hu=>by
    obtain⟨v,ev,X0,mv,kv⟩:=at_ (κ:=κ) r hu;have mv:=hm.1.mem_iff.mp mv;rcases jF.mp mv with mv|mv
    ·obtain⟨t,et⟩:=xY mv;have ht:t<x.size:=by simpa using(dF.mp et).1
     exact⟨sa+k+t,by rw[kv,← kx t ht,n5 et],by omega,by omega⟩
    ·obtain⟨t,et⟩:=xY mv;have ht:t<y.size:=by simpa using(dF.mp et).1
     exact⟨sb+t,by rw[kv,← kY t ht,n5 et],by omega,by omega⟩
   intro i j i1 i2 i3;by_cases hi1:i<sa+k
   ·rw[out i (by omega)]
    have X5:∀ t,i≤t->t<sb+nb->κ.kle (KK κ arr i) (KK κ arr t):=fun t t1 t2=>by
     by_cases ht:t<sb
     ·exact sA i t i1 t1 (by omega)
     ·exact kK (g1 i i1 hi1) (sB sb t (cE _) (by omega) t2)
    by_cases hj:sa+k≤j/\j<sa+k+r.size
    ·rw[ins j hj.1 hj.2];obtain⟨t,et,t1,t2⟩:=from_ (j-(sa+k)) (by omega)
     rw[et];exact X5 t (by omega) (by omega)
    ·rw[out j hj];exact X5 j i2 i3
   ·by_cases j6:i<sa+k+r.size
    ·rw[ins i (by omega) j6]
     by_cases hj:j<sa+k+r.size
     ·rw[ins j (by omega) hj]
      exact sr _ _ (dS _) (by omega) (by omega)
     ·rw[out j (by omega)]
      obtain⟨t,et,t1,t2⟩:=from_ (i-(sa+k)) (by omega)
      rw[et];by_cases ht:t<sb
      ·exact kK (sA t (sb-1) (by omega) (by omega) (by omega)) (f2 j (by omega) i3)
      ·exact sB t j (by omega) (by omega) i3
    ·rw[out i (by omega),out j (by omega)]
     exact sB i j (by omega) i2 i3
 by_cases c3:na-k≤m
 ·rw[if_pos c3];refine bL ?_
  change cP _ _ _ _ (UH x y) _ _
  refine Re hC P hB.kind fun r gu hG hm=>?_
  obtain⟨q1,q2⟩:=fin r gu hG hm;refine bL (uF (bL (pZ (cF ?_))));show Q (sM gu).isNone _;rw[q2];exact q1
 ·rw[if_neg c3];refine bL ?_
  change cP _ _ _ _ (VH x y) _ _
  refine Qy hC P hB.kind fun r gu hG hm=>?_
  obtain⟨q1,q2⟩:=fin r gu hG hm;refine bL (uF (bL (pZ (cF ?_))));show Q (sM gu).isNone _;rw[q2];exact q1
end
abbrev Rn:=Nat×Nat×Nat
section
variable {κ:gX}
def Tl (κ:gX)(xs:Array aW):Nat->List Rn->Nat->Prop
 |b,[],e=>b=e
 |b,r::rs,e=>r.1=b/\0<r.2.1/\fV κ xs b (b+r.2.1)/\Tl κ xs (b+r.2.1) rs e
theorem Tl.le:∀ {rs:List Rn} {b e:Nat},Tl κ xs b rs e->b+rs.length≤e
 |[],b,e,h=>by simp[Tl] at h;simp;omega
 |r::rs,b,e,h=>by
  have:=Tl.le h.2.2.2;have:=h.2.1;simp;omega
theorem WD {ys:Array aW}{lo hi:Nat}(e:∀ k,lo≤k->k<hi->ys[k]?=xs[k]?)(h:fV κ xs lo hi):fV κ ys lo hi:=fun i j a b c=>by
 rw[KK_congr (e i a (by omega)),KK_congr (e j (by omega) c)]
 exact h i j a b c
theorem Tl.congr {ys:Array aW}:∀ {rs:List Rn} {b e:Nat},(∀ k,b≤k->k<e->ys[k]?=xs[k]?)->Tl κ xs b rs e->Tl κ ys b rs e
 |[],_,_,_,h=>h
 |r::rs,b,e,hc,h=>by
  have:=Tl.le h.2.2.2;exact⟨h.1,h.2.1,WD (fun k a c=>hc k a (by omega)) h.2.2.1,Tl.congr (fun k a c=>hc k (by omega) c) h.2.2.2⟩
theorem Tl.app:∀ {r1 r2:List Rn} {b e:Nat},Tl κ xs b (r1++r2) e ↔ ∃ m,Tl κ xs b r1 m/\Tl κ xs m r2 e
 |[],r2,b,e=>⟨fun h=>⟨b,rfl,h⟩,fun⟨m,h1,h2⟩=>by cases h1;exact h2⟩
 |r::r1,r2,b,e=>by
  constructor
  ·intro h;obtain⟨m,h1,h2⟩:=Tl.app.mp h.2.2.2;exact⟨m,⟨h.1,h.2.1,h.2.2.1,h1⟩,h2⟩
  ·rintro⟨m,h1,h2⟩;exact⟨h1.1,h1.2.1,h1.2.2.1,Tl.app.mpr ⟨m,h1.2.2.2,h2⟩⟩
theorem Tl.mod(f:Rn->Rn)(hf:∀ r,(f r).1=r.1/\(f r).2.1=r.2.1):∀ {rs:List Rn} {b e:Nat} (i:Nat),Tl κ xs b rs e->Tl κ xs b (rs.modify i f) e
 |[],_,_,i,h=>by cases i<;>exact h
 |r::rs,b,e,0,h=>by
  have:=hf r;refine⟨this.1.trans h.1,by rw[this.2];exact h.2.1,by rw[this.2];exact h.2.2.1,?_⟩
  rw[this.2];exact h.2.2.2
 |r::rs,b,e,i+1,h=>⟨h.1,h.2.1,h.2.2.1,Tl.mod f hf i h.2.2.2⟩
theorem Jw {l:List Rn}(h:i+1<l.length):∃ l1 x y l2,l=l1++x::y::l2/\l1.length=i:=by
 refine⟨l.take i,l[i],l[i+1],l.drop (i+2),?_,by simp;omega⟩
 rw[← CS,← CS,nA]
theorem YW{lo:Nat}{Q:Bool->bQ->Prop}(hC:iW prog w A s κ kd)(h0:KeysOf κ a₀)(hB:TB kd a₀ st)(hT:Tl κ (bD st) 0 (cW st).toList lo)(hl:lo≤a₀.size)(hi:i+1<(cW st).size)
  (h:∀ ak,TB kd a₀ ak->Tl κ (bD ak) 0 (cW ak).toList lo->(cW ak).size+1=(cW st).size->(∀ k,lo≤k->(bD ak)[k]?=(bD st)[k]?)->Q ae ak):cP (aP prog w) A E s (mergeAt' i) Q st:=by
 obtain⟨l1,⟨sa,na,p1⟩,⟨sb,nb,p2⟩,l2,el,e1⟩:=Jw (l:=(cW st).toList) (i:=i) (by simpa using hi)
 rw[el] at hT;obtain⟨m,t1,t2⟩:=Tl.app.mp hT;obtain⟨q1,q2,q3,q4,q5,q6,q7⟩:=t2;simp only at q1 q2 q3 q4 q5 q6 q7;subst q1 q4;have M7:=Tl.le t1;have W8:=Tl.le q7;have g1:(cW st)[i]?=aa (sa,na,p1):=by
  rw[← lT,el,vB (by omega),e1]
  simp
 have g2:(cW st)[i+1]?=aa (sa+na,nb,p2):=by
  rw[← lT,el,vB (by omega),e1]
  simp
 refine Qu hC h0 hB g1 g2 rfl (by omega) q2 q5 q3 q6 fun ak m6 hp on hs=>?_
 have ep:(cW ak).toList=l1++(sa,na+nb,p1)::l2:=by
  rw[hp,Array.toList_eraseIdxIfInBounds,Array.toList_setIfInBounds,el,← e1];simp[List.eraseIdx_append_of_length_le]
 refine h ak m6 ?_ ?_ fun k hk=>on k (.inr (by omega))
 ·rw[ep];refine Tl.app.mpr ⟨sa,t1.congr fun k _ hk=>on k (.inl hk),rfl,by show 0<na+nb;omega,?_,?_⟩
  ·show fV κ _ sa (sa+(na+nb));rw[← CC];exact hs
  ·show Tl κ _ (sa+(na+nb)) l2 lo;rw[← CC];exact q7.congr fun k hk _=>on k (.inr hk)
 ·have e1:=congrArg OX ep;have e2:=congrArg OX el;simp at e1 e2;omega
theorem Ta{Q:Unit->bQ->Prop}(hC:iW prog w A s κ kd)(h0:KeysOf κ a₀)(hB:TB kd a₀ st)(hp:cW st = #[])(h2:0<a₀.size)
    (h:∀ ak,(bD ak).Perm a₀->sM ak=ab->fV κ (bD ak) 0 a₀.size->Q () ak):cP (aP prog w) A E s sortRuns' Q st:=by
  rw[sortRuns'_eq];refine bL (pZ ?_);rw[7];simp only[hB.size];generalize minRun' a₀.size a₀.size 0=mr;refine bL (sJ (qA
    (I:=fun x c ak=>∃ lo,c=(ab,lo)/\TB kd a₀ ak/\Tl κ (bD ak) 0 (cW ak).toList lo/\lo≤a₀.size/\x≤lo)
    (Q:=fun c ak=>c=(ab,a₀.size)/\TB kd a₀ ak/\Tl κ (bD ak) 0 (cW ak).toList a₀.size) ?step ?fin ⟨0,rfl,hB,by rw[hp];rfl,by omega,by omega⟩) ?post)
  case fin=>
    rintro c ak ⟨lo,rfl,m6,hT,h1,h2⟩;have:lo=a₀.size:=by omega
    rw[10];exact⟨rfl,m6,hT⟩
  case step=>
    rintro x c ak _ hx ⟨lo,rfl,m6,hT,h1,h3⟩;rw[7];by_cases nw:lo ≥ a₀.size
    · rw[if_pos nw]
      have:lo=a₀.size:=by omega
      rw[10];exact cF ⟨rfl,m6,hT⟩
    rw[if_neg nw];refine bL (Sk hC h0 m6 (by omega) (by omega) fun m ca hM qp qr lv=>?_)
    rw[7];have T2:Tl κ (bD ca) 0 (cW ca).toList lo:=by
      rw[hM.pend];exact hT.congr fun k _ hk=>hM.out k (.inl hk)
    have S:∃ n,0<n/\lo+n≤a₀.size/\((m<mr/\n=min (a₀.size-lo) mr)\/(¬ m<mr/\n=m)):=by
      by_cases ce:m<mr
      · exact⟨_,by omega,by omega,.inl ⟨ce,rfl⟩⟩
      · exact⟨_,by omega,by omega,.inr ⟨ce,rfl⟩⟩
    obtain⟨n,X6,AT,N6⟩:=S;rcases N6 with⟨ce,en⟩|⟨ce,en⟩
    all_goals
      first|rw[if_pos ce]|rw[if_neg ce]
      first
        | (refine bL (uG (lA ⟨rfl,?_⟩))
           rw[← en];refine bL (Tp (n:=n) hC h0 hM.tb (by omega) (by omega) lv fun lr z0 vx=>?_)
           simp only[rK,fF,if_false];have wy:=z0.tb;have T3:Tl κ (bD lr) 0 (cW lr).toList lo:=by
             rw[z0.pend];exact T2.congr fun k _ hk=>z0.out k (.inl hk))
        | (obtain⟨lr,e3⟩:∃ q,q=ca:=⟨_,rfl⟩
           rw[← e3] at lv T2 hM ⊢;have wy:=hM.tb;have T3:=T2;have vx:fV κ (bD lr) lo (lo+n):=by rw[en];exact lv
           rw[← en])
      refine bL (pZ ?_);cases X7:(cW lr).back? with
      |none=>
        rw[7];have he:(cW lr).toList=[]:=by
          have:(cW lr).size=0:=by
            rcases Nat.eq_zero_or_pos (cW lr).size with q|q
            · exact q
            · rw[Array.back?_eq_getElem?,lF (by omega)] at X7
              cases X7
          simpa using this
        refine bL (uF (cF ⟨lo+n,rfl,⟨wy.perm,wy.kind,wy.failed⟩,?_,AT,by omega⟩))
        show Tl κ (bD lr) 0 ((cW lr).push (lo,n,0)).toList (lo+n);rw[CY];exact Tl.app.mpr ⟨lo,T3,rfl,X6,vx,rfl⟩
      |some v=>
        obtain⟨s1,n1,q1⟩:=v;rw[7];generalize power' a₀.size (2*s1+n1) (2*s1+n1+n1+n) a₀.size=pw;refine bL (sJ (qA (I:=fun _ c gu=>c=(ab,())/\TB kd a₀ gu/\Tl κ (bD gu) 0 (cW gu).toList lo/\fV κ (bD gu) lo (lo+n)) (Q:=fun c gu=>c=(ab,())/\TB kd a₀ gu/\Tl κ (bD gu) 0 (cW gu).toList lo/\fV κ (bD gu) lo (lo+n)) ?_ (fun _ _ q=>q) ⟨rfl,wy,T3,vx⟩) ?_)
        · rintro x2 c gu _ _ ⟨rfl,wz,T4,A3⟩
          refine bL (pZ ?_);by_cases hz:(cW gu).size > 1
          · rw[if_pos hz]
            have eq:(cW gu)[(cW gu).size-2]?=aa (cW gu)[(cW gu).size-2]:=getElem?_pos _ _ (by omega)
            rw[eq];rw[7];by_cases ho:((cW gu)[(cW gu).size-2]).2.2≤pw
            · rw[if_pos ho]
              exact cF ⟨rfl,wz,T4,A3⟩
            · rw[if_neg ho]
              refine bL (YW hC h0 wz T4 (by omega) (by omega) fun vf hB5 T5 _ O3=>?_)
              simp only[rK,fF,if_false];exact cF ⟨rfl,hB5,T5,WD (fun k a _=>O3 k a) A3⟩
          · rw[if_neg hz]
            exact cF ⟨rfl,wz,T4,A3⟩
        · rintro c gu ⟨rfl,wz,T4,A3⟩
          rw[7];refine bL (uF (bL (uF (cF ⟨lo+n,rfl,⟨wz.perm,wz.kind,wz.failed⟩,?_,AT,by omega⟩))))
          show Tl κ (bD gu) 0 (((cW gu).modify ((cW gu).size-1) fun(r:Rn)=>(r.1,r.2.1,pw)).push (lo,n,0)).toList (lo+n)
          rw[CY,Array.toList_modify];exact Tl.app.mpr ⟨lo,T4.mod (fun(r:Rn)=>(r.1,r.2.1,pw)) (fun _=>⟨rfl,rfl⟩) _,rfl,X6,A3,rfl⟩
  case post=>
    rintro c ak ⟨rfl,m6,hT⟩;rw[7];refine bL (sJ (qA (I:=fun x c ca=>c=(ab,())/\TB kd a₀ ca/\Tl κ (bD ca) 0 (cW ca).toList a₀.size/\((cW ca).size+x≤a₀.size\/(cW ca).size≤1)) (Q:=fun c ca=>c=(ab,())/\TB kd a₀ ca/\Tl κ (bD ca) 0 (cW ca).toList a₀.size/\(cW ca).size≤1) ?_ ?_ ⟨rfl,m6,hT,.inl (by have:=Tl.le hT;simp at this;omega)⟩) ?_)
    · rintro x c ca _ hx ⟨rfl,wE,T2,hz⟩
      refine bL (pZ ?_);by_cases h1:(cW ca).size≤1
      · rw[if_pos h1]
        exact cF ⟨rfl,wE,T2,h1⟩
      rw[if_neg h1];have hi:∃ i,i+1<(cW ca).size/\i=(if ((if (cW ca).size-2 > 0 then((cW ca)[(cW ca).size-2-1]?).map (·.2.1) else ab).any fun q=>decide (q<((cW ca)[(cW ca).size-2+1]?).elim 0 (·.2.1)))=ae then(cW ca).size-2-1 else(cW ca).size-2):=by
        refine⟨_,?_,rfl⟩;have:∀ q:Bool,(if q=ae then(cW ca).size-2-1 else(cW ca).size-2)+1<(cW ca).size:=fun q=>by cases q<;>simp<;>omega
        exact this _
      obtain⟨i,hi1,j6⟩:=hi;rw[← j6];refine bL (YW hC h0 wE T2 (cE _) hi1 fun lr wy T3 sz _=>?_)
      simp only[rK,fF,if_false];exact cF ⟨rfl,wy,T3,by omega⟩
    · rintro c ca ⟨rfl,wE,T2,hz⟩
      have:=Tl.le T2;simp at this;exact⟨rfl,wE,T2,by omega⟩
    · rintro c ca ⟨rfl,wE,T2,hz⟩
      refine cF (h ca wE.perm wE.failed ?_);have bg:(cW ca).toList.length≤1:=by simpa using hz
      generalize(cW ca).toList=L at T2 bg;cases L with
      |nil=>
        have:0=a₀.size:=T2;omega
      |cons r L=>
        cases L with
        |cons _ _=>simp at bg
        |nil=>
          obtain⟨q1,q2,q3,q4⟩:=T2;have q4:0+r.2.1=a₀.size:=q4;rw[q4] at q3;exact q3
end
theorem Xt {α:Type}(d:α){xs ys:List α}(h:xs.Perm ys):∃ is:List Nat,is.Perm (dB ys.length)/\xs=is.map fun i=>ys.getD i d:=by
 induction h with
 |nil=>exact⟨[],by simp,rfl⟩
 |@cons x l1 l2 _ ih=>
  obtain⟨is,h1,h2⟩:=ih;refine⟨0::is.map (· + 1),?_,?_⟩
  ·rw[hW,Dl];exact .cons 0 (h1.map _)
  ·rw[dQ,gH,h2]
   rfl
 |swap x y l=>
  refine⟨1::0::(dB l.length).map (· + 2),?_,?_⟩
  ·rw[hW,hW,Dl,Dl,dQ,gH];exact .swap 0 1 _
  ·rw[dQ,dQ,gH];show y::x::l=y::x::(dB l.length).map fun i=>l.getD i d
   congr 2
   refine CP fun i=>?_
   rw[fA];by_cases hi:i<l.length
   ·rw[PC hi,eI hi];simp[hi]
   ·rw[xZ (by omega),xZ (by simp;omega)]
    rfl
 |@trans l1 l2 l3 h12 h23 M6 zv=>
  obtain⟨is,a1,a2⟩:=M6;obtain⟨js,b1,b2⟩:=zv;have hl:l2.length=js.length:=by rw[b2];simp
  refine⟨is.map fun i=>js.getD i 0,?_,?_⟩
  ·refine(a1.map _).trans ?_;have:(dB l2.length).map (fun i=>js.getD i 0)=js:=by
    rw[hl];refine CP fun i=>?_
    rw[fA];by_cases hi:i<js.length
    ·rw[PC hi,eI hi];simp[hi]
    ·rw[xZ (by simp;omega),xZ (by omega)]
     rfl
   rw[this];exact b1
  ·rw[gH,a2];refine xX fun i m=>?_
   have hi:i<js.length:=by
    have:=hV.mp (a1.mem_iff.mp m);omega
   show l2.getD i d=l3.getD (js.getD i 0) d;rw[b2];simp[hi]
section
variable {lt:Nat->Nat->Bool}
def oQ (lt:Nat->Nat->Bool)(n i:Nat):Nat:=((dB n).filter fun k=>lt k i).length
theorem RT (O:Ord lt)(hi:i<n):decide (oQ lt n i<oQ lt n j)=lt i j:=by
 cases h:lt i j with
 |true=>
  refine decide_eq_true ?_;have sub:∀ k,lt k i=ae->lt k j=ae:=fun k hk=>by
   cases hq:lt k j with
   |true=>rfl
   |false=>
    have:=O.tr j k i hq (O.asym k i hk);rw[h] at this;cases this
  have e:(dB n).filter (fun k=>lt k i)=((dB n).filter fun k=>lt k j).filter fun k=>lt k i:=by
   rw[List.filter_filter];refine List.filter_congr fun k _=>?_
   cases hk:lt k i with
   |false=>rfl
   |true=>rw[sub k hk];rfl
  unfold oQ;rw[e,List.length_filter_lt_length_iff_exists];have ii:lt i i=af:=by
   cases q:lt i i with
   |false=>rfl
   |true=>have:=O.asym i i q;rw[q] at this;cases this
  exact⟨i,OS.mpr ⟨hV.mpr hi,h⟩,by simp[ii]⟩
 |false=>
  refine decide_eq_false (Nat.not_lt.mpr ?_);have sub:∀ k,lt k j=ae->lt k i=ae:=fun k hk=>by
   cases hq:lt k i with
   |true=>rfl
   |false=>
    have:=O.tr j i k h hq;rw[hk] at this;cases this
  have e:(dB n).filter (fun k=>lt k j)=((dB n).filter fun k=>lt k i).filter fun k=>lt k j:=by
   rw[List.filter_filter];refine List.filter_congr fun k _=>?_
   cases hk:lt k j with
   |false=>rfl
   |true=>rw[sub k hk];rfl
  unfold oQ;rw[e];exact List.length_filter_le _ _
end
def yU (lt:Nat->Nat->Bool)(vs:List aC):gX where
 α:=Nat
 blt:=fun a b=>decide (a<b)
 irrefl:=fun a=>by simp
 trans:=fun a b c h1 h2=>by simp at *;omega
 negTrans:=fun a b c h=>by simp at *;omega
 total:=fun a b h1 h2=>by simp at *;omega
 keyOf:=fun v=>by
  classical
  exact if h:∃ i,i<vs.length/\vs.getD i cU=v then aa (oQ lt vs.length h.choose) else ab
 dflt:=0
theorem LR {lt:Nat->Nat->Bool}{v:aC}{a:Nat}(h:(yU lt vs).keyOf v=aa a):∃ i,i<vs.length/\vs.getD i cU=v/\a=oQ lt vs.length i:=by
 unfold yU at h;simp only at h;split at h
 ·rename_i q;exact⟨q.choose,q.choose_spec.1,q.choose_spec.2,(gY h).symm⟩
 ·cases h
theorem YA {lt:Nat->Nat->Bool}{v:aC}(h:v∈vs):∃ a,(yU lt vs).keyOf v=aa a:=by
 obtain⟨i,e⟩:=xY h;have hi:=(dF.mp e).1;have q:∃ i,i<vs.length/\vs.getD i cU=v:=⟨i,hi,by rw[Dt,e];rfl⟩
 unfold yU;simp only;rw[dif_pos q];exact⟨_,rfl⟩
theorem UT{κ:oC}{lt:Nat->Nat->Bool}{P:PySem.Fin->aH->Prop}(O:Ord lt)(ho:s.heap.get? a=aa (hU "list" vs.toArray n))(h2:2≤vs.length)(lz:vs.length≤sizeLine)
  (hu:∀ i j,i<vs.length->j<vs.length->vs.getD i cU=vs.getD j cU->∀ k,lt i k=lt j k/\lt k i=lt k j)
  (hk:∀ (Q:oC->aH->Prop),Q κ { s with heap:=lN s.heap a vs }->aJ (aP prog w) A (keyKind' vs.toArray) Q E { s with heap:=lN s.heap a vs })
  (hc:∀ i j (C:Bool->aH->Prop),i<vs.length->j<vs.length->C (lt i j) { s with heap:=lN s.heap a vs }->aJ (aP prog w) A (keyLt' κ (vs.getD i cU) (vs.getD j cU)) C (fun _ _=>False) { s with heap:=lN s.heap a vs })
  (h:∀ p:Array Nat,p.Perm (pI (dB vs.length))->KF lt p vs.length->P (.done (.ret .none)) { s with heap:=sortedHeap s.heap a vs (pI (p.toList.map fun i=>vs.getD i cU)) }) :
  aJ (aP prog w) A (Builtin.«list.sort» ⟨[.ref a],[]⟩) P E s:=by
 have ha:a<s.heap.objs.size:=cA ho;obtain⟨e1,zj⟩:∃ e,(s.heap.update a (gF fun _=>(#[]:Array aC))).get? a=aa (hU "list" #[] e):=⟨_,get?_update_seq ho fun _=>#[]⟩
 have zk:(lN s.heap a vs).get? a=aa (hU "list" #[] e1):=cH _ (cH _ zj);rw[list_sort_plain];refine aF (listItems_at ho rfl (aF (HJ ho rfl (aF (seqEpoch_at zj rfl (aF (NU (aF (HD (jE ?_) (dS _))) (by simpa using lz))))) (by rw[gG];exact lz) (dS _))))
 show aJ (aP prog w) A _ P E { s with heap:=lN s.heap a vs };rw[7];have big:¬ vs.toArray.size<2:=by rw[gG];omega
 rw[if_neg big,if_neg big];refine aF (hk _ ?_)
 let κ':=yU lt vs
 have hC:iW prog w A { s with heap:=lN s.heap a vs } κ' κ:=fun x y a b E Q hx hy q=>by
  obtain⟨i,hi,rfl,rfl⟩:=LR hx;obtain⟨j,hj,rfl,rfl⟩:=LR hy;refine lZ (hc i j Q hi hj ?_) (fun _ _ q=>q) fun _ _ z=>z.elim
  have:κ'.blt (oQ lt vs.length i) (oQ lt vs.length j)=lt i j:=RT O hi;rw[← this];exact q
 have h0:KeysOf κ' (pairsOf vs):=fun p mp=>by
  rw[pairsOf_toList] at mp;exact YA (mem_zip_self mp).2
 have run:=Ta (prog:=prog) (w:=w) (A:=A) (E:=E) (s:={ s with heap:=lN s.heap a vs }) (κ:=κ') (kd:=κ) (a₀:=pairsOf vs) (st:=SortSt.mk' κ (vs.toArray.zip vs.toArray) #[] 7 ab) (Q:=fun _ ak=>(bD ak).Perm (pairsOf vs)/\sM ak=ab/\fV κ' (bD ak) 0 (pairsOf vs).size) hC h0 ⟨Array.Perm.refl _,rfl,rfl⟩ rfl (by rw[pairsOf_size];omega) fun ak a b c=>⟨a,b,c⟩
 refine aF (lZ run ?_ fun _ _ e=>e)
 rintro⟨⟨⟩,ak⟩ s' ⟨rfl,hp,hf,hs⟩;rw[7];have hl:(bD ak).toList.Perm (vs.zip vs):=by rw[← pairsOf_toList];exact yK.mp hp
 have hmem:∀ p,p∈(bD ak).toList->p.1=p.2/\p.1∈vs:=fun p kr=>mem_zip_self (hl.mem_iff.mp kr)
 have hv:((bD ak).map (·.2)).toList.Perm vs:=by
  rw[Array.toList_map];have:=hl.map Prod.snd
  rwa [List.map_snd_zip (cE _)] at this
 obtain⟨is,hi1,j6⟩:=Xt cU hv;have bg:(bD ak).size=vs.length:=by rw[hp.size_eq,pairsOf_size]
 have il:is.length=vs.length:=by rw[hi1.length_eq,IB]
 have on:(bD ak).map (·.2)=pI (is.toArray.toList.map fun i=>vs.getD i cU):=by
  apply Ej.mp;rw[j6]
 have hsz:(pI (is.toArray.toList.map fun i=>vs.getD i cU)).size≤sizeLine:=by
  rw[gG,eS];show is.length≤sizeLine;omega
 rw[on];refine aF (seqEpoch_at zk rfl (aF (HJ zk rfl ?_ (dS _) (Nat.le_succ_of_le hsz))));rw[hf];simp only[bne_self_eq_false,fF,if_false];refine aQ (h is.toArray (by rw[yK];exact hi1) fun i j ul hj=>?_)
 have X8:∀ t,t<vs.length->∃ u,u<vs.length/\vs.getD u cU=vs.getD (at' is.toArray t) cU/\KK κ' (bD ak) t=oQ lt vs.length u/\at' is.toArray t<vs.length:=fun t ht=>by
  obtain⟨p,ep,l9,mp,kp⟩:=at_ (κ:=κ') (bD ak) (show t<(bD ak).size by omega)
  obtain⟨a',vy⟩:=YA (lt:=lt) (hmem p mp).2;obtain⟨u,hu1,hu2,hu3⟩:=LR vy;have sj:t<is.length:=by omega
  have e3:p.2=vs.getD (at' is.toArray t) cU:=by
   have:=congrArg (fun l=>l[t]?) j6
   simp only[Array.toList_map,fA] at this;rw[l9,eI sj] at this;have:=gY this;simpa [at',sj] using this
  refine⟨u,hu1,by rw[hu2,(hmem p mp).1,e3],?_,?_⟩
  ·rw[kp,← hu3];unfold ky;rw[vy]
   rfl
  ·have m:at' is.toArray t∈is:=by
    have:at' is.toArray t=is[t]:=by simp[at',sj]
    rw[this];exact nB sj
   exact hV.mp (hi1.mem_iff.mp m)
 obtain⟨u,u1,u2,u3,u4⟩:=X8 i (by omega)
 obtain⟨v,v1,v2,v3,v4⟩:=X8 j hj;have:=hs i j (dS _) ul (by rw[pairsOf_size];exact hj)
 rw[u3,v3] at this;have this:decide (oQ lt vs.length v<oQ lt vs.length u)=af:=this;rw[RT O v1] at this;rw[← (hu v _ v1 v4 v2 (at' is.toArray i)).1,← (hu u _ u1 u4 u2 v).2];exact this
theorem Qi{κ:oC}{lt:Nat->Nat->Bool}(O:Ord lt)(hl:s.heap.IsList l vs.toArray)(h2:2≤vs.length)(lz:vs.length≤sizeLine)
  (hu:∀ i j,i<vs.length->j<vs.length->vs.getD i cU=vs.getD j cU->∀ k,lt i k=lt j k/\lt k i=lt k j)
  (hk:∀ h',(∀ b o,s.heap.get? b=aa o->h'.get? b=aa o)->∀ (A':bZ) (E':aC->aH->Prop) (R:oC->aH->Prop),R κ { s with heap:=h' }->aJ (aP prog w) A' (keyKind' vs.toArray) R E' { s with heap:=h' })
  (hc:∀ h',(∀ b o,s.heap.get? b=aa o->h'.get? b=aa o)->∀ (A':bZ),A'.units≤A.units+4->∀ i j (C:Bool->aH->Prop),i<vs.length->j<vs.length->C (lt i j) { s with heap:=h' }->aJ (aP prog w) A' (keyLt' κ (vs.getD i cU) (vs.getD j cU)) C (fun _ _=>False) { s with heap:=h' })
  (h:∀ p:Array Nat,p.Perm (pI (dB vs.length))->KF lt p vs.length->Q (.ref (s.heap.objs.size+1)) { s with heap:=sortedAll s.heap vs (pI (p.toList.map fun i=>vs.getD i cU)) }) :
  aJ (aP prog w) A (call (.builtin "sorted") [.ref l]) Q E s:=by
 refine PZ kind_sorted plain_sorted entry_sorted (args_sorted1 _) ?_;unfold Builtin.«sorted»;refine aF (m:=checkCount "sorted" 1 1 _) (aQ (aF (collect_list hl (aF (HD ?_)))));have z:((s.heap.push (hU "list" #[] 0)).update s.heap.objs.size (gF (· ++ vs.toArray))).objs.size=s.heap.objs.size+1:=by rw[Heap.size_update,size_push']
 have q9:(((s.heap.push (hU "list" #[] 0)).update s.heap.objs.size (gF (· ++ vs.toArray))).push (hU "list" vs.toArray 0)).get? (s.heap.objs.size+1)=aa (hU "list" vs.toArray 0):=z ▸ eD _ rfl;have kept:∀ b o,s.heap.get? b=aa o->(lN (((s.heap.push (hU "list" #[] 0)).update s.heap.objs.size (gF (· ++ vs.toArray))).push (hU "list" vs.toArray 0)) (s.heap.objs.size+1) vs).get? b=aa o:=fun b o e=>by
  have hb:=cA e;refine RZ b o (fun q=>?_) (cH _ (((yE _ s.heap.objs.size _).2 b (fun q=>?_)).trans (cH _ e)))
  ·exact absurd hb (by rw[q];exact Nat.not_lt.mpr (HV _))
  ·exact absurd hb (by rw[q];exact lE _)
 show aJ _ _ _ _ _ { s with heap:=((s.heap.push (hU "list" #[] 0)).update s.heap.objs.size (gF (· ++ vs.toArray))).push (hU "list" vs.toArray 0) };rw[z];refine aF (jE (iH slot_list_sort ⟨_,q9,rfl⟩ entry_list_sort (UT (s:={ s with heap:=_ }) O q9 h2 lz hu (fun R q=>hk _ kept _ _ R q) (fun i j C hi hj q=>hc _ kept _ ?_ i j C hi hj q) fun p b1 b2=>⟨_,rfl,?_⟩) (args_list_sort _)))
 ·first|(show A.units+1≤A.units+4;omega)|(show A.units+1+1≤A.units+4;omega)|(show A.units+1+1+1≤A.units+4;omega)
 ·exact aQ ⟨_,rfl,h p b1 b2⟩
theorem Sr(hl:s.heap.IsList l vs.toArray)(ht:Aha s.heap vs kss)(hT:T = "int" \/ T = "str")(hk:∀ k∈kss,lK k=aa T)(hs:∀ k∈kss,∀ k'∈kss,jN k k'=ae)(h2:2≤vs.length)(lz:vs.length≤sizeLine)
  (h:∀ p:Array Nat,p.Perm (pI (dB vs.length))->KF (nJ kss) p vs.length->Q (.ref (s.heap.objs.size+1)) { s with heap:=sortedAll s.heap vs (pI (p.toList.map fun i=>vs.getD i cU)) }) :
  aJ (aP prog w) A (call (.builtin "sorted") [.ref l]) Q E s:=by
 have hu:∀ i j,i<vs.length->j<vs.length->vs.getD i cU=vs.getD j cU->∀ k,nJ kss i k=nJ kss j k/\nJ kss k i=nJ kss k j:=fun i j hi hj e k=>by
  obtain⟨b,e1,⟨_,_,as,r1⟩,_⟩:=ht.get i hi;obtain⟨b',e2,⟨_,_,rn,r2⟩,_⟩:=ht.get j hj;rw[e1,e2] at e;cases e;have:=uU (reads_det (fun _ _ e _=>e) r2 r1).1
  unfold nJ;rw[this];exact⟨rfl,rfl⟩
 refine Qi (κ:=tuples' (iJ T != iJ "tuple")) (ZZ kss) hl h2 lz hu (fun h' kp A' E' R q=>?_) (fun h' kp A' _ i j C hi hj q=>?_) h
 ·obtain⟨fs,f1,f2,f3⟩:=LJ (M:=aP prog w) (ht.keep kp) hk;exact kat_kind (s:={ s with heap:=h' }) f1 (by omega) f3 (by rcases hT with rfl|rfl<;>decide) q
 ·have sj:=ht.keep kp;obtain⟨b,e1,⟨_,_,as,r1⟩,m1⟩:=sj.get i hi;obtain⟨b',e2,⟨_,_,rn,r2⟩,m2⟩:=sj.get j hj;rw[e1,e2];obtain⟨_,o,xs,n,z,ho,_,hd,hr⟩:=pV r1;cases z;obtain⟨_,o',mf,n',z,q8,_,oa,wP⟩:=pV r2;cases z;have uo:=hs _ m1 _ m2;have l1:=AG hr;have l2:=AG wP;have ll:=FO uo;have:decide (xs.size<mf.size)=af:=decide_eq_false (by simp only[jU] at l1 l2;omega)
  refine kat_lt (s:={ s with heap:=h' }) ho hd q8 oa ?_;rw[this];exact DR _ _ 0 uo hr wP q
theorem Qt(hl:s.heap.IsList l vs.toArray)(ht:Aha s.heap vs kss)(ok:kz kss=ae)(lz:vs.length≤sizeLine)
  (h:∀ p:List Nat,p.Perm (dB vs.length)->p.map (fun i=>kss.getD i [])=iX kss->Q (.ref (s.heap.objs.size+1)) { s with heap:=sortedAll s.heap vs (pI (p.map fun i=>vs.getD i cU)) }) :
  aJ (aP prog w) A (call (.builtin "sorted") [.ref l]) Q E s:=by
 have ln:vs.length=kss.length:=mZ ht;have O4:∀ {α:Type} (xs:List α) (d:α),(dB xs.length).map (fun i=>xs.getD i d)=xs:=fun xs d=>by
  apply PK
  ·simp
  ·intro i h1 h2;simp at h1;simp[h1]
 by_cases h2:vs.length<2
 ·refine Pa hl h2 ?_;have:=h (dB vs.length) (PL _) (by
   rw[ln,O4 kss];refine AD ok (PL _) ?_
   match kss,ln with
   |[],_=>exact .nil
   |[k],_=>simp
   | _::_::_,ln=>simp at ln;omega)
  rw[O4 vs] at this;exact this
 ·have hs:sameAll kss=ae/\(kss.all fun k=>(lK k).isSome)=ae:=by
   have xw:¬ kss.length<2:=by omega
   have:(sameAll kss&&kss.all fun k=>(lK k).isSome)=ae:=by simpa [kz,xw] using ok
   exact oK.mp this
  obtain⟨k0,m0⟩:∃ k0,k0∈kss:=by
   cases hk:kss with
   |nil=>rw[hk] at ln;exact absurd ln (by simp;intro e;rw[e] at h2;simp at h2)
   |cons k r=>exact⟨k,bS⟩
  obtain⟨T,hT⟩:=OI.mp (hX.mp hs.2 k0 m0);have sm:∀ k∈kss,∀ k'∈kss,jN k k'=ae:=fun k m k' m'=>hX.mp (hX.mp hs.1 k m) k' m'
  refine Sr hl ht (SM hT) (fun k m=>(same_kind (sm k m k0 m0)).trans hT) sm (by omega) lz fun p hp ha=>?_
  have kr:p.toList.Perm (dB vs.length):=by simpa using yK.mp hp
  have pl:p.toList.length=vs.length:=by rw[kr.length_eq,IB]
  refine h p.toList kr (AD ok ?_ ?_)
  ·have:=kr.map (fun i=>kss.getD i [])
   rw[ln,O4 kss] at this;exact this
  ·rw[uZ,CF];intro i j hi hj ul;refine Ahr.mpr ?_;have:=ha i j (sO ul) (by omega)
   have e1:at' p i=p.toList[i]:=by simp at hi;simp[at',hi]
   have e2:at' p j=p.toList[j]:=by simp at hj;simp[at',hj]
   rw[e1,e2] at this;exact of_decide_eq_false this
theorem Sw:Afq X (.builtin "sorted") (fun xs H Q=>∃ p ys kss,xs=[.ref p]/\SqL X.K H p ys/\vR H ys kss/\kz kss=ae/\kss.length≤4096 /\
  ∀ l q,H l=ab->q.Perm (dB ys.length)->q.map (fun i=>kss.getD i [])=iX kss->Q (.ref l) (ar H l (.lst (sZ q ys)))):=by
 rw[5];obtain⟨p,ys,kss,rfl,hp,rf,ok,hl,q⟩:=h;obtain⟨u,rfl,ru⟩:=vals1 r;cases ru;obtain⟨its,rv,pl,hz⟩:=I.list hp;have e1:ys.length=its.length:=rv.length;have e2:ys.length=kss.length:=mZ rf;refine Qt pl.isList (SJ I.hok rf rv) ok (by rw[mU];omega) fun q' kr hs=>?_
 have hq:∀ i∈q',i<ys.length:=fun i m=>by
  have:=hV.mp (kr.mem_iff.mp m);omega
 obtain⟨e,he⟩:=sortedAll_at s.heap its (pI (q'.map fun i=>its.getD i cU))
 have hn:H (s.heap.objs.size+1)=ab:=I.hok.fresh (HV _);have lz:(sZ q' ys).length≤sizeLine:=by
  unfold sZ;rw[eS,kr.length_eq,IB];omega
 exact⟨.ref (s.heap.objs.size+1),_,I.laid (t':=s.toks) (o:=.lst (sZ q' ys)) (fun b ob g=>sortedAll_old g) (HV _) ⟨lz,_,e,WJ rv q' hq,he⟩,rfl,q _ q' hn (by rw[e1];exact kr) hs⟩
def EO:List aA->Option aA
 |[.list ds]=>(kS ds).bind fun kss=>if kz kss=ae/\kss.length≤4096 then aa (.list ((iX kss).map iC)) else ab
 |_=>ab
theorem Sh:CallD K 1 (fun xs H Q=>∃ p ys kss,xs=[.ref p]/\SqL K H p ys/\vR H ys kss/\kz kss=ae/\kss.length≤4096 /\
  ∀ l q,H l=ab->q.Perm (dB ys.length)->q.map (fun i=>kss.getD i [])=iX kss->Q (.ref l) (ar H l (.lst (sZ q ys)))) EO:=fun P H xs ds d Q hP r e k=>by
 unfold EO at e;split at e
 ·obtain⟨kss,e1,e2⟩:=ao e;obtain⟨⟨ok,hl⟩,rfl⟩:=eQ e2;obtain⟨rfl,hk⟩:=UQ e1;obtain⟨v,rfl,r'⟩:=kZ r;obtain⟨q,ys,rfl,hq,rr⟩:=Abh.mp r';refine⟨q,ys,kss,rfl,Aa0.sqL hq,?_,ok,hl,fun l p hn hp hs=>?_⟩
  ·exact VT (fun c zs g=>Aa0 _ _ g) (VJ hk rr)
  ·have hi:∀ i∈p,i<ys.length:=fun i m=>hV.mp (hp.mem_iff.mp m)
   have:=WS rr p hi;rw[hs] at this;exact k.lst hP hn this
 ·cases e
theorem Nz{P:PySem.Fin->aH->Prop}(ho:s.heap.get? a=aa (hU "list" vs.toArray n))(ht:Aha h0 vs kss)(kp:∀ b o,h0.get? b=aa o->(lN s.heap a vs).get? b=aa o)(ok:kz kss=ae)(lz:vs.length≤sizeLine)
  (h:∀ p:List Nat,p.Perm (dB vs.length)->p.map (fun i=>kss.getD i [])=iX kss->P (.done (.ret .none)) { s with heap:=sortedHeap s.heap a vs (pI (p.map fun i=>vs.getD i cU)) }) :
  aJ (aP prog w) A (Builtin.«list.sort» ⟨[.ref a],[]⟩) P E s:=by
 have ln:vs.length=kss.length:=mZ ht;by_cases h2:vs.length<2
 ·refine VN ho h2 ?_;have:=h (dB vs.length) (PL _) (by
   rw[ln,LF kss];refine AD ok (PL _) ?_
   match kss,ln with
   |[],_=>exact .nil
   |[k],_=>simp
   | _::_::_,ln=>simp at ln;omega)
  rw[LF vs] at this;exact this
 ·have hs:sameAll kss=ae/\(kss.all fun k=>(lK k).isSome)=ae:=by
   have xw:¬ kss.length<2:=by omega
   have:(sameAll kss&&kss.all fun k=>(lK k).isSome)=ae:=by simpa [kz,xw] using ok
   exact oK.mp this
  obtain⟨k0,m0⟩:∃ k0,k0∈kss:=by
   cases hk:kss with
   |nil=>rw[hk] at ln;exact absurd ln (by simp;intro e;rw[e] at h2;simp at h2)
   |cons k r=>exact⟨k,bS⟩
  obtain⟨T,hT⟩:=OI.mp (hX.mp hs.2 k0 m0);have sm:∀ k∈kss,∀ k'∈kss,jN k k'=ae:=fun k m k' m'=>hX.mp (hX.mp hs.1 k m) k' m'
  have sj:=ht.keep kp;have hu:∀ i j,i<vs.length->j<vs.length->vs.getD i cU=vs.getD j cU->∀ k,nJ kss i k=nJ kss j k/\nJ kss k i=nJ kss k j:=fun i j hi hj e k=>by
   obtain⟨b,e1,⟨_,_,as,r1⟩,_⟩:=ht.get i hi;obtain⟨b',e2,⟨_,_,rn,r2⟩,_⟩:=ht.get j hj;rw[e1,e2] at e;cases e;have:=uU (reads_det (fun _ _ e _=>e) r2 r1).1
   unfold nJ;rw[this];exact⟨rfl,rfl⟩
  refine UT (κ:=tuples' (iJ T != iJ "tuple")) (ZZ kss) ho (by omega) lz hu (fun R q=>?_) (fun i j C hi hj q=>?_) fun p hp ha=>?_
  ·obtain⟨fs,f1,f2,f3⟩:=LJ (M:=aP prog w) sj fun k m=>(same_kind (sm k m k0 m0)).trans hT
   exact kat_kind (s:={ s with heap:=lN s.heap a vs }) f1 (by omega) f3 (by rcases SM hT with rfl|rfl<;>decide) q
  ·obtain⟨b,e1,⟨_,_,as,r1⟩,m1⟩:=sj.get i hi;obtain⟨b',e2,⟨_,_,rn,r2⟩,m2⟩:=sj.get j hj;rw[e1,e2];obtain⟨_,o,xs,n,z,ho,_,hd,hr⟩:=pV r1;cases z;obtain⟨_,o',mf,n',z,q8,_,oa,wP⟩:=pV r2;cases z;have uo:=sm _ m1 _ m2;have l1:=AG hr;have l2:=AG wP;have ll:=FO uo;have:decide (xs.size<mf.size)=af:=decide_eq_false (by simp only[jU] at l1 l2;omega)
   refine kat_lt (s:={ s with heap:=lN s.heap a vs }) ho hd q8 oa ?_;rw[this];exact DR _ _ 0 uo hr wP q
  ·have kr:p.toList.Perm (dB vs.length):=by simpa using yK.mp hp
   have pl:p.toList.length=vs.length:=by rw[kr.length_eq,IB]
   refine h p.toList kr (AD ok ?_ ?_)
   ·have:=kr.map (fun i=>kss.getD i [])
    rw[ln,LF kss] at this;exact this
   ·rw[uZ,CF];intro i j hi hj ul;refine Ahr.mpr ?_;have:=ha i j (sO ul) (by omega)
    have e1:at' p i=p.toList[i]:=by simp at hi;simp[at',hi]
    have e2:at' p j=p.toList[j]:=by simp at hj;simp[at',hj]
    rw[e1,e2] at this;exact of_decide_eq_false this
theorem Rg {B:List aA->aD->Prop}(hh:A.handled=ab)(S:SetT w B s.heap a kss)(ok:kz kss=ae)(F9:kss.length≤4900)
  (q:∀ h' tk d l e (out:List aC),s.toks≤tk->(∀ b ob,s.heap.get? b=aa ob->h'.get? b=aa ob)->s.heap.objs.size≤l->fE (fun v k=>∃ b,v=fI b/\B k b) out (iX kss)->h'.get? l=aa (hU "list" out.toArray e)->Q (.ref l) { s with heap:=h',toks:=tk,drawn:=d }) :
  aJ (aP prog w) A (call (.builtin "sorted") [.ref a]) Q E s:=by
 obtain⟨o,es,ep,t,ks,S,pm⟩:=S;have W:WSet w s.heap a o es ep t:=⟨S.get,S.exact,S.data,S.fine,S.led⟩;refine PZ kind_sorted plain_sorted entry_sorted (args_sorted1 _) ?_;unfold Builtin.«sorted»;have wo:es.size=kss.length:=by
  have:=mZ S.els;rw[jU] at this;rw[this,pm.length_eq]
 refine aF (m:=checkCount "sorted" 1 1 _) (aQ (aF (Rp (A:=A.in1) (by simp[hh]) W fun h1 tk d j2 pe ph hsz k1=>aF (HD ?_ (by rw[mU,eS,pe.length_eq,jU];omega)))))
 obtain⟨yb,p2,X9⟩:=JW pe S.els;have pk:yb.Perm kss:=X9.trans pm;have tv:fE (fun v k=>∃ b,v=fI b/\Adh s.heap k b/\B k b) (j2.map (·.2)) yb:=by
  clear pe X9 pk;induction p2 with
  |nil=>exact .nil
  |cons h t ih=>
   obtain⟨b,e1,_,e3,e4⟩:=h;exact .cons ⟨b,e1,e3,e4⟩ ih
 have bg:(j2.map (·.2)).length≤sizeLine:=by rw[eS,pe.length_eq,jU,mU];omega
 generalize j2.map (·.2)=vs at tv bg;have q9:(h1.push (hU "list" vs.toArray 0)).get? h1.objs.size=aa (hU "list" vs.toArray 0):=eD _ rfl;show aJ _ _ _ _ _ { s with heap:=h1.push (hU "list" vs.toArray 0),toks:=tk,drawn:=d };refine aF (jE (iH slot_list_sort ⟨_,q9,rfl⟩ entry_list_sort (Nz (s:={ s with heap:=_,toks:=tk,drawn:=d }) (h0:=s.heap) q9 (qQ (fun v k ⟨b,e1,e2,_⟩=>⟨b,e1,e2⟩) tv) (fun b ob eb=>?_) (Xu pk ok) bg fun p hp hs=>⟨_,rfl,?_⟩) (args_list_sort _)))
 ·have hb:=cA (k1 b ob eb);exact RZ b ob (dI hb) (cH _ (k1 b ob eb))
 refine aQ ⟨_,rfl,?_⟩;obtain⟨e,he⟩:=sortedHeap_at (out:=pI (p.map fun i=>vs.getD i cU)) q9
 refine q _ tk d h1.objs.size e (p.map fun i=>vs.getD i cU) ph (fun b ob eb=>?_) (sO hsz) ?_ he
 ·have hb:=cA (k1 b ob eb);rw[sortedHeap_old (dI hb) (by rw[size_push'];exact qF hb),Heap.get?_push_ne _ _ _ (dI hb)]
  exact k1 b ob eb
 ·have:=RW tv cU [] p fun i m=>hV.mp (hp.mem_iff.mp m)
  rw[hs,Px pk ok] at this;exact qQ (fun v k ⟨b,e1,_,e3⟩=>⟨b,e1,e3⟩) this
theorem Ry (hc:X.calm=ae):Afq X (.builtin "sorted") (fun xs H Q=>∃ a o ys kss ls,xs=[.ref a]/\H a=aa (T8 a o)/\RE X.w kss ys o ls/\Refs H ys kss/\kz ls=ae/\ls.length≤4900 /\
  ∀ l zs,H l=ab->fE (fun z k=>∃ b,z=V.ref b/\xm kss ys k b) zs (iX ls)->Q (.ref l) (ar H l (.lst zs))):=by
 rw[5];obtain⟨a,o,ys,kss,ls,rfl,ha,⟨es,ep,t,ks,hx,hd,hf,hl,he,hn,pm⟩,rf,ok,F9,q⟩:=h;obtain⟨u,rfl,ru⟩:=vals1 r;cases ru;obtain⟨g,_,_⟩:=(show Adz X.prog X.w H s.heap a (.ext _) from I.hok a _ ha)
 have O5:∀ k b,xm kss ys k b->Adh s.heap k b:=fun k b gh=>by
  obtain⟨i,h1,h2⟩:=gh;obtain⟨k',ft,b',eb,tk⟩:=wB rf h2;rw[h1] at ft;cases ft;cases eb;exact qO I.hok tk
 refine Rg (B:=xm kss ys) (I.ok.hd hc) (kss:=ls) ⟨o,es,ep,t,ks,⟨g,hx,hd,hf,hl,qQ (fun e k ⟨b,q1,q2,q3⟩=>⟨b,q1,q2,O5 k b q3,q3⟩) he,hn⟩,pm⟩ ok F9 fun h' tk d l e out ph kept oo pr A4=>?_
 have O6:H l=ab:=I.hok.fresh oo
 let zs:List V:=out.map fun v=>match v with|.ref b=>V.ref b|_=>V.non
 have pz:fE (fun z k=>∃ b,z=V.ref b/\xm kss ys k b) zs (iX ls)/\Vals zs out:=by
  show fE _ (out.map _) _/\Vals (out.map _) out;generalize iX ls=qs at pr;clear A4;induction pr with
  |nil=>exact⟨.nil,.nil⟩
  |cons h t ih=>
   obtain⟨b,rfl,hb⟩:=h;exact⟨.cons ⟨b,rfl,hb⟩ ih.1,.cons rfl ih.2⟩
 have lz:zs.length≤sizeLine:=by
  have h1:=mZ pz.1;rw[h1,(uC ls).length_eq,mU];omega
 exact⟨.ref l,_,a6 (I.laid (t':=tk) (o:=.lst zs) (fun b ob g=>kept b ob g) oo ⟨lz,out,e,pz.2,A4⟩),rfl,q _ zs O6 pz.1⟩
def MD:List aA->Option aA
 |[.list ds]=>(kS ds).bind fun kss=>if (gE kss).length≤4900/\kz (gE kss)=ae then aa (.list ((iX (gE kss)).map iC)) else ab
 |_=>ab
theorem Rx{fe:EF}{p1 A5 jf:cV}(hc:X.calm=ae)(hu:X.A.units+40<cLine)(g1:Gl X "sorted")(m1:X.mg "sorted" = ab)(g2:Gl X "set")(m2:X.mg "set" = ab)(he:DE X e fe)
  (rm:bY [yG (.Name "set" p2) [e] [] jf] X.env=[(af,cD (yG (.Name "set" p2) [e] [] jf) X.env)]:=by rfl) (lv:bY [e] X.env=[(af,cD e X.env)]:=by rfl) :
  DF 1 X (.Call (.Name "sorted" p1) [.Call (.Name "set" p2) [e] [] jf] [] A5) (aN MD (aG fe aK)):=by
 have h1:PE X (.Call (.Name "set" p2) [e] [] jf) _:=WV (Pk hc hu) g2 m2 rfl (oW he qP lv) (by decide) (by decide) lv rfl
 have h2:PE X (.Call (.Name "sorted" p1) [.Call (.Name "set" p2) [e] [] jf] [] A5) _:=LA (Ry hc) g1 m1 c8 (oW h1 qP rm) (by decide) (by decide) rm rfl
 refine PE.imp h2 fun σ H Q gh=>?_
 rw[4];obtain⟨ds0,e0,ef⟩:=ao ef;obtain⟨d1,e1,e0⟩:=ao e0;have e0:[d1]=ds0:=by simpa [aK] using e0
 subst e0;cases d1 with
 |list ds=>
  obtain⟨kss,e2,ef⟩:=ao (show((kS ds).bind fun kss=>if (gE kss).length≤4900/\kz (gE kss)=ae then aa (mD ((iX (gE kss)).map iC)) else ab)=aa d from ef)
  obtain⟨⟨hl,ok⟩,rfl⟩:=eQ ef;obtain⟨rfl,hk⟩:=RU e2;refine⟨P,ρ,.list (kss.map iC),hP,rs,e1,gJ fun v H1 x1 r1=>?_⟩
  obtain⟨q,ys,rfl,hq,rr⟩:=Abh.mp r1;have rf:Refs H1 ys kss:=Refs.le (fun c zs e=>Aa0 _ _ e) (SA hk rr)
  refine⟨q,ys,kss,rfl,Aa0.sqL hq,rf,by omega,fun a o hn S=>⟨a,o,ys,kss,gE kss,rfl,jR,S,Refs.le (fun c zs e=>(Ext.new hn) _ _ e) rf,ok,hl,fun l zs O6 pz=>?_⟩⟩
  exact(k.mono (x1.trans (Ext.new hn))).lst (hP.ext (x1.trans (Ext.new hn))) O6 (SW (rr.ext (fD (Ext.new hn))) pz)
 |_=>cases ef
theorem ZF:uM table "dict.update.loop" = aa Builtin.«dict.update.loop»:=NZ (by kernel_rfl)
theorem GC:plainId "dict.update.loop" = ae:=by rw[0]
theorem YU:∀ (more kvs:List (aO×aC)),(qC kvs more).length≤kvs.length+more.length
 |[],kvs=>cE _
 |p::r,kvs=>by
  have h1:=YU r (uI kvs p.1 p.2);have h2:(uI kvs p.1 p.2).length≤kvs.length+1:=by
   unfold uI;split<;>simp
  show(qC (uI kvs p.1 p.2) r).length≤_;rw[hW];omega
def tM (ps:List (aO×aA))(kds:List (aA×aA)):List (aA×aA):=ps.foldl (fun ai p=>putD ai p.1 p.2) kds
theorem Oo:∀ {ps:List (aO×aA)} {qs:List (aO×V)},fE (fun(p:aO×aA) (q:aO×V)=>p.1=q.1/\Ab3 K H p.2 q.2) ps qs->∀ {kds:List (aA×aA)} {kvs:List (aO×V)},Ack K H kds kvs->Ack K H (tM ps kds) (rQ kvs qs):=by
 intro ps qs hp;induction hp with
 |nil=>exact fun r=>r
 |@cons p q ps qs hq t ih=>
  intro kds kvs r;have:=ih (KD (k:=p.1) r hq.2);show Ack K H (tM _ (putD kds p.1 p.2)) (rQ (putK kvs q.1 q.2) _);rw[← hq.1];exact this
section
theorem We{Q:Option bI->aH->Prop}(ho:s.heap.get? a=aa o)(h:Q (aa o) s):aJ (aP P w) A (loadIfAlive a) Q E s:=fun Γ p _=>by
 show Q (s.heap.get? a) s;rw[ho];exact h
abbrev GR (h:aY)(z TI TO:aD)(T:Nat)(c:Bool):Prop:=
 h.get? z=aa { cls:=.type "zip",dict:=ab,data:=.fields #[dE T,.bool c,.bool af,.ref TI,.ref TO],slots:=#[] }
variable {C TI TO:aD}{xs ys:Array aC}{T:Nat}{c:Bool}
def xp (D z TI TO i1 i2:aD)(S1 S2:Nat->aY->Prop)(k:Nat)(h:aY):Prop:=
 (∃ T c,GR h z TI TO T c/\(∃ o,h.get? T=aa o)/\T≠z/\T≠i1/\T≠i2/\T≠D)/\mH h TI (.ref i1) (.ref i2)/\S1 k h/\S2 k h
theorem Br {Q:Bool->aH->Prop}(gz:GR s.heap z TI TO T c)(ha:∃ o,s.heap.get? T=aa o)(q:∀ h' c',GR h' z TI TO T c'->nE z s.heap h'->Q af { s with heap:=h' }):aJ (aP P w) A (vF (.ref z)) Q E s:=by
 obtain⟨o,ha⟩:=ha;unfold vF;refine aF (jS gz rfl (x:=dE T) rfl ?_);show aJ _ _ (loadIfAlive (T:Int).toNat>>=_) _ E s;refine aF (We (by simpa using ha) ?_)
 show aJ _ _ (lP (.ref z) 1>>=_) _ E s;refine aF (jS gz rfl (x:=.bool c) rfl ?_);cases c with
 |true=>
  show aJ _ _ (pure PUnit.unit>>=fun _=>pure af) _ E s
  exact aF (aQ (aQ (q _ _ gz (Heap.SameBut.refl _ _))))
 |false=>
  show aJ _ _ (BN (.ref z) 1 (.bool ae)>>=fun _=>pure af) _ E s
  exact aF (mT gz (by simp) fun h' g' sb=>aQ (q h' ae g' sb))
theorem Wz(D:ZApart z TI TO i1 i2 o1 o2)(U:Sub P w i1 o1 S1 xs)(V:Sub P w i2 o2 S2 ys)(st:xp C z TI TO i1 i2 S1 S2 k s.heap)(hx:xs[k]?=aa x)(hy:ys[k]?=aa y)
  (q:∀ h' T,xp C z TI TO i1 i2 S1 S2 (k+1) h'->mH h' T x y->s.heap.objs.size≤T ->
   (∀ c o,c≠z->c≠TO->c≠i1->c≠i2->s.heap.get? c=aa o->h'.get? c=aa o)->Q (.ref T) { s with heap:=h' }) :
  aJ (aP P w) A (Builtin.«zip.__next__» ⟨[.ref z],[]⟩) (fun fin s'=>∃ v,fin=.done (.ret v)/\Q v s') E s:=by
 obtain⟨⟨T,c,gz,⟨oT,gT⟩,T1,T2,T3,T4⟩,gI,m3,ca⟩:=st;have z1:i1≠z:=fun e=>D.z1 (e ▸ U.mem)
 have z2:i2≠z:=fun e=>D.z2 (e ▸ V.mem)
 show aJ _ _ (lP (.ref z) 2>>=_) _ E s;refine aF (jS gz rfl (x:=.bool af) rfl ?_);show aJ _ _ (lP (.ref z) 3>>=_) _ E s;refine aF (jS gz rfl (x:=.ref TI) rfl (aF (kO gI rfl ?_)));show aJ _ _ (vF (.ref z)>>=_) _ E s;refine aF (Br gz ⟨oT,gT⟩ fun ha c' rp sa=>?_)
 simp only[fF,if_false,pure_bind];rw[9];rw[← CZ];simp only[ID,PD];refine aF (aF (jE ?_));show aJ _ _ (nF (.ref i1)>>=_) _ _ _;refine aF (U.item _ _ _ _ k x (U.but m3 D.z1 sa.extBut) hx fun hb rq sb=>aQ ?_)
 refine aQ (aF (aF (jE ?_)));show aJ _ _ (nF (.ref i2)>>=_) _ _ _;refine aF (V.item _ _ _ _ k y (V.but (V.but ca D.z2 sa.extBut) D.x12 sb.extBut) hy fun hd wn sd=>aQ ?_)
 refine aQ (aQ ?_);refine aF (NU (hsz:=by show 2≤sizeLine;decide) ?_)
 have up:∀ c o,c≠z->c≠i1->c≠i2->s.heap.get? c=aa o->hd.get? c=aa o:=fun c o n1 n3 n4 g=>sd.extBut _ _ n4 (sb.extBut _ _ n3 (sa.extBut _ _ n1 g))
 have size:hd.objs.size=s.heap.objs.size:=by rw[sd.1,sb.1,sa.1]
 have F1:GR hd z TI TO T c':=sd.extBut _ _ z2.symm (sb.extBut _ _ z1.symm rp);have O7:S1 (k+1) hd:=U.but rq D.x21 sd.extBut;have pu:∀ (c:aD) o,hd.get? c=aa o->(hd.push { cls:=.type "tuple",data:=.seq #[x,y] }).get? c=aa o:=fun c o g=>cH _ g
 refine aQ ⟨_,rfl,q _ hd.objs.size ⟨⟨T,c',pu _ _ F1,⟨oT,pu _ _ (up _ _ T1 T2 T3 gT)⟩,T1,T2,T3,T4⟩,pu _ _ (up _ _ D.TIz D.TI1 D.TI2 gI),U.keep _ _ _ O7 fun c _ o g=>pu _ _ g,V.keep _ _ _ wn fun c _ o g=>pu _ _ g⟩ (eD _ rfl) (OM size.symm) fun c o n1 n2 n3 n4 g=>pu _ _ (up c o n1 n3 n4 g)⟩
theorem Wb {Q:Fin->aH->Prop}(hh:A.handled=ab)(D:ZApart z TI TO i1 i2 o1 o2)(U:Sub P w i1 o1 S1 xs)(V:Sub P w i2 o2 S2 ys)(st:xp C z TI TO i1 i2 S1 S2 k s.heap)(jy:xs[k]?=ab\/ys[k]?=ab)
  (q:∀ h' e,(∀ c o,c≠z->c≠TO->c≠i1->c≠i2->s.heap.get? c=aa o->h'.get? c=aa o)->(∃ o,h'.get? e=aa o/\o.cls=.type "StopIteration")->E (.ref e) { s with heap:=h' }) :
  aJ (aP P w) A (Builtin.«zip.__next__» ⟨[.ref z],[]⟩) Q E s:=by
 obtain⟨⟨T,c,gz,⟨oT,gT⟩,T1,T2,T3,T4⟩,gI,m3,ca⟩:=st;show aJ _ _ (lP (.ref z) 2>>=_) _ E s;refine aF (jS gz rfl (x:=.bool af) rfl ?_);show aJ _ _ (lP (.ref z) 3>>=_) _ E s;refine aF (jS gz rfl (x:=.ref TI) rfl (aF (kO gI rfl ?_)));show aJ _ _ (vF (.ref z)>>=_) _ E s;refine aF (Br gz ⟨oT,gT⟩ fun ha c' rp sa=>?_)
 simp only[fF,if_false,pure_bind];rw[9];rw[← CZ];simp only[ID,PD];refine aF (aF (jE ?_));show aJ _ _ (nF (.ref i1)>>=_) _ _ _;cases hx:xs[k]? with
 |none=>
  refine aF (U.done _ _ _ _ k hh (U.but m3 D.z1 sa.extBut) hx fun hb e sb he=>?_)
  exact q hb e (fun c o n1 _ n3 _ g=>sb _ _ n3 (sa.extBut _ _ n1 g)) he
 |some x=>
  have hy:ys[k]?=ab:=jy.resolve_left fun h=>by rw[hx] at h;cases h
  refine aF (U.item _ _ _ _ k x (U.but m3 D.z1 sa.extBut) hx fun hb rq sb=>aQ ?_)
  refine aQ (aF (aF (jE ?_)));show aJ _ _ (nF (.ref i2)>>=_) _ _ _;refine aF (V.done _ _ _ _ k hh (V.but (V.but ca D.z2 sa.extBut) D.x12 sb.extBut) hy fun hd e sd he=>?_)
  exact q hd e (fun c o n1 _ n3 n4 g=>sd _ _ n4 (sb.extBut _ _ n3 (sa.extBut _ _ n1 g))) he
def Bey (C z TI TO i1 i2:aD)(S1 S2:Nat->aY->Prop)(k:Nat)(h:aY):Prop:=qy z TI TO i1 i2 S1 S2 .none k h\/xp C z TI TO i1 i2 S1 S2 k h
theorem a8{Q:Option aC->aH->Prop}(D:ZApart z TI TO i1 i2 o1 o2)(U:Sub P w i1 o1 S1 xs)(V:Sub P w i2 o2 S2 ys)(st:Bey C z TI TO i1 i2 S1 S2 k s.heap)(hx:xs[k]?=aa x)(hy:ys[k]?=aa y)(lC:C<s.heap.objs.size)
  (q:∀ h' T,xp C z TI TO i1 i2 S1 S2 (k+1) h'->mH h' T x y->s.heap.objs.size≤T ->
   (∀ c o,c≠z->c≠TO->c≠i1->c≠i2->s.heap.get? c=aa o->h'.get? c=aa o)->Q (aa (.ref T)) { s with heap:=h' }):aJ (aP P w) A (fZ (.ref z)) Q E s:=by
 rcases st with st|st
 ·have lz:z<s.heap.objs.size:=cA st.1;have l1:i1<s.heap.objs.size:=by obtain⟨o,e⟩:=U.obj _ _ st.2.2.2.1 _ U.mem;exact cA e
  have l2:i2<s.heap.objs.size:=by obtain⟨o,e⟩:=V.obj _ _ st.2.2.2.2 _ V.mem;exact cA e
  refine UW D U V st hx hy fun h' ⟨g1,g2,g3,g4,g5⟩ pr sz lg=>q h' _ ⟨⟨_,af,g1,⟨_,pr⟩,kB lz,kB l1,kB l2,kB lC⟩,g2,g4,g5⟩ pr (cE _) lg
 ·have ty:s.TypeIs (.ref z) "zip":=by
   obtain⟨⟨T,c,gz,_⟩,_⟩:=st;exact⟨_,gz,rfl⟩
  unfold fZ;exact aF (nZ (mB (name:=jZ "__next__") ty vD (iH vD ty PV (Wz D U V st hx hy fun h' T a1 a2 a3 a4=>aQ (q h' T a1 a2 a3 a4)) (PX _))))
theorem Yz {Q:Option aC->aH->Prop}(hh:A.handled=ab)(D:ZApart z TI TO i1 i2 o1 o2)(U:Sub P w i1 o1 S1 xs)(V:Sub P w i2 o2 S2 ys)(st:Bey C z TI TO i1 i2 S1 S2 k s.heap)(jy:xs[k]?=ab\/ys[k]?=ab)
  (q:∀ h',(∀ c o,c≠z->c≠TO->c≠i1->c≠i2->s.heap.get? c=aa o->h'.get? c=aa o)->Q ab { s with heap:=h' }):aJ (aP P w) A (fZ (.ref z)) Q E s:=by
 rcases st with st|st
 ·exact TZ hh D U V st jy q
 ·have ty:s.TypeIs (.ref z) "zip":=by
   obtain⟨⟨T,c,gz,_⟩,_⟩:=st;exact⟨_,gz,rfl⟩
  unfold fZ;refine aF (nZ (mB (name:=jZ "__next__") ty vD (iH vD ty PV (Wb hh D U V st jy fun h' e kp ⟨o,g1,g2⟩=>?_) (PX _))))
  exact aF (qZ (T:="StopIteration") (b:=ae) ⟨o,g1,g2⟩ BQ (aQ (q _ kp)))
end
theorem Rm:xK (.type "zip") "keys" = pure ab:=by rw[uH,uN];kernel_rfl
section
variable {TI TO:aD}{xs ys:Array aC}
theorem Bey.keep{D:aD}(U:Sub P w i1 o1 S1 xs)(V:Sub P w i2 o2 S2 ys)(nz:D≠z)(nI:D≠TI)(n1:D∉o1)(n2:D∉o2)(st:xp D z TI TO i1 i2 S1 S2 k h)(kp:∀ c o,c≠D->h.get? c=aa o->h'.get? c=aa o):xp D z TI TO i1 i2 S1 S2 k h':=by
 obtain⟨⟨T,c,gz,⟨oT,gT⟩,T1,T2,T3,T4⟩,gI,m3,ca⟩:=st;exact⟨⟨T,c,kp _ _ nz.symm gz,⟨oT,kp _ _ T4 gT⟩,T1,T2,T3,T4⟩,kp _ _ nI.symm gI,U.keep _ _ _ m3 fun c hc o g=>kp _ _ (fun e=>n1 (e ▸ hc)) g,V.keep _ _ _ ca fun c hc o g=>kp _ _ (fun e=>n2 (e ▸ hc)) g⟩
theorem Nv(hh:A.handled=ab)(Z:ZApart z TI TO i1 i2 o1 o2)(U:Sub prog w i1 o1 S1 xs)(V:Sub prog w i2 o2 S2 ys)(D:aD)(nz:D≠z)(nI:D≠TI)(nO:D≠TO)(n1:D∉o1)(n2:D∉o2)(kvs:List (aO×aC))(hn:kvs.length≤sizeLine)
  (jy:xs[kvs.length]?=ab\/ys[kvs.length]?=ab) (O8:∀ (j:Nat) p,kvs[j]?=aa p->∃ kv,xs[j]?=aa kv/\ys[j]?=aa p.2/\(iT prog w).is p.1 kv=ae) :
  ∀ (k i:Nat) (s:aH),kvs.length-i=k->i≤kvs.length->Bey D z TI TO i1 i2 S1 S2 i s.heap->s.heap.DictOf (iT prog w) D (qC [] (kvs.take i)) ->
   (∀ h' tk,(∀ c o,c≠D->c≠z->c≠TO->c≠i1->c≠i2->s.heap.get? c=aa o->h'.get? c=aa o)->h'.DictOf (iT prog w) D (qC [] kvs)->R (.ok (.ret .none)) { s with heap:=h',toks:=tk }) ->
   pG (aP prog w) A (.builtin "dict.update.loop" ⟨[.ref D,.ref z,dE (i:Int),.none],[]⟩) R s:=by
 have e1:D≠i1:=fun e=>n1 (e ▸ U.mem)
 have e2:D≠i2:=fun e=>n2 (e ▸ V.mem)
 intro k;induction k with
 |zero=>
  intro i s hk hi mj hS hR;obtain rfl:i=kvs.length:=by omega
  refine oB ZF ?_;rw[qK GC _];show aJ _ A.in1 (fZ (.ref z)>>=_) _ _ s;refine aF (Yz (by simp[hh]) Z U V mj jy fun h' kp=>?_)
  show aJ _ A.in1 (Builtin.Dict.addKeywords D []>>=fun _=>ret cU) _ _ _
  refine aF (aQ (aQ (hR h' _ (fun c o _ a b c' d g=>kp c o a b c' d g) ?_)))
  obtain⟨o,es,ep,ho,r⟩:=hS;rw[HX] at r;exact⟨o,es,ep,kp D o nz nO e1 e2 ho,r⟩
 |succ k ih=>
  intro i s hk hi mj hS hR;have ce:i<kvs.length:=by omega
  obtain⟨p,hp⟩:∃ p,kvs[i]?=aa p:=⟨_,eI ce⟩;obtain⟨kv,hx,hy,hkk⟩:=O8 i p hp;have lD:D<s.heap.objs.size:=by
   obtain⟨o,es,ep,ho,r⟩:=hS;exact cA ho
  refine oB ZF ?_;rw[qK GC _];show aJ _ A.in1 (fZ (.ref z)>>=_) _ _ s;refine aF (a8 Z U V mj hx hy lD fun h' T ak pr hT1 lg=>?_)
  have pq:h'.DictOf (iT prog w) D (qC [] (kvs.take i)):=by
   obtain⟨o,es,ep,ho,r⟩:=hS;exact⟨o,es,ep,lg D o nz nO e1 e2 ho,r⟩
  have sh:qC [] (kvs.take (i+1))=uI (qC [] (kvs.take i)) p.1 p.2:=by
   rw[sP,hp];simp[qC,PF]
  have bg:(qC [] (kvs.take i)).length≤sizeLine:=by
   have:=YU (kvs.take i) [];rw[oG] at this;simp at this;omega
  refine aF (jE (aF (wpAny_tryCatch ?_)));unfold Builtin.Dict.pairItems;have tb:(Shared.heap { s with heap:=h' }).IsTuple T #[kv,p.2]:=⟨_,pr,rfl,0,rfl⟩;refine aF (sL tb.typeIs ?_);show aJ _ _ (BO (.ref T)>>=_) _ _ _;refine aF (kO pr rfl (aQ ?_));show aJ _ _ (pF [kv,p.2] (dictSet D kv p.2)) _ _ _;refine jE (wpAny_dictSet_pairs (knd:=iT prog w) hkk pq (fun h2 d' sb=>?_) bg)
  refine aQ ⟨qB GC _,?_⟩;have X':∀ c o,c≠D->h'.get? c=aa o->h2.get? c=aa o:=fun c o n g=>(sb.2 c n).trans g
  refine ih (i+1) _ (by omega) ce (.inr (Bey.keep U V nz nI n1 n2 ak X')) (by rw[sh];exact d') fun h3 tk kp3 S4=>?_
  exact hR h3 tk (fun c o a b c' d e g=>kp3 c o a b c' d e (X' c o a (lg c o b c' d e g))) S4
theorem Ti:xK (.type "zip") "__getattr__" = pure ab:=by rw[uH,uN];kernel_rfl
theorem Rh:uM table "zip.__getattribute__" = aa Builtin.«object.__getattribute__»:=
 OA (id':="object.__getattribute__") (by kernel_rfl) (by rw[0]) (by rw[0]) (by kernel_rfl)
theorem Vg (a:aD)(fs:Array aC)(name:aE)(u:Tok)(Y0:xK (.type "zip") name=pure ab)(A6:(["__module__","__name__","__qualname__","__doc__","__annotations__"]:List aE).contains name=af)(hsz:name.length+100≤sizeLine:=by size_fits) :
  Meets (Builtin.«object.__getattribute__» ⟨[.ref a,.str name u],[]⟩) (fun A R s=>s.heap.get? a=aa { cls:=.type "zip",dict:=ab,data:=.fields fs,slots:=#[] }/\raisesAttr (.ref a) name A R s):=
 Meets.of_wp fun prog w A R s hs=>by
  obtain⟨hp,g,d,tk,os⟩:=s;obtain⟨hx,hs⟩:=hs;have hT:(⟨hp,g,d,tk,os⟩:aH).TypeIs (.ref a) "zip":=⟨_,hx,rfl⟩;unfold Builtin.«object.__getattribute__»
  repeat (any_goals (first|assumption|wp_step))
  simp only[A6,fF,if_false]
  repeat (any_goals (first|assumption|wp_step))
  exact wpAny_raiseAttrError hs.1 hs.2 (attrMsg_fits (by rw[0]) hsz)
set_option maxHeartbeats 4000000 in
theorem Qx{fs:Array aC}{Q:Option aC->aH->Prop}(hx:s.heap.get? a=aa { cls:=.type "zip",dict:=ab,data:=.fields fs,slots:=#[] })(hA:A.handled=ab)
  (h:∀ h' tk,(∀ b o,s.heap.get? b=aa o->h'.get? b=aa o)->Q ab { s with heap:=h',toks:=tk }):aJ (aP prog w) A (getAttr? (.ref a) "keys") Q E s:=by
 obtain⟨hp,g,d,tk,os⟩:=s;have hT:∀ t0,(⟨hp,g,d,t0,os⟩:aH).TypeIs (.ref a) "zip":=fun _=>⟨_,hx,rfl⟩
 have f1:=sub_AttributeError;have f3:=Eb.lookup;have f4:=Eb.bind (.ref a);have f5:=Ti;unfold getAttr? getAttrBy? getAttrBy
 repeat (any_goals (first|assumption|exact hT _|((with_reducible show aJ _ _ (call (Value.builtin "zip.__getattribute__") _ _) _ _ _);refine call_meets Eb (hT _) Rh (F.args_zip_getattribute_2 _ _) (Vg a fs _ _ Rm (by rw[0])) ⟨hx,hA,fun h' t0 e Y1=>?_⟩)|wp_step))
 obtain⟨t',u',he⟩:=Y1.there;show aJ _ _ (getattributeRaised _ _ _ _ _ _ _) _ _ _;unfold getattributeRaised
 repeat (any_goals (first|assumption|wp_step))
 exact h _ _ Y1.keeps
theorem Py{l1 l2:aD}{kvs:List (aO×aC)}(hh:A.handled=ab)(ap:ZApart z TI TO i1 i2 [i1,l1] [i2,l2])(ne1:l1≠i1)(ne2:l2≠i2)(st:qy z TI TO i1 i2 (StB b1 i1 l1 xs) (StB b2 i2 l2 ys) .none 0 s.heap)
  (hn:kvs.length≤sizeLine) (jy:xs[kvs.length]?=ab\/ys[kvs.length]?=ab) (O8:∀ (j:Nat) p,kvs[j]?=aa p->∃ kv,xs[j]?=aa kv/\ys[j]?=aa p.2/\(iT prog w).is p.1 kv=ae)
  (h:∀ h' tk,h'.DictOf (iT prog w) s.heap.objs.size (qC [] kvs)->(∀ b o,b≠z->b≠TO->b≠i1->b≠i2->s.heap.get? b=aa o->h'.get? b=aa o)->Q (.ref s.heap.objs.size) { s with heap:=h',toks:=tk }) :
  aJ (aP prog w) A (call (.type "dict") [.ref z]) Q E s:=by
 have U:Sub prog w i1 [i1,l1] (StB b1 i1 l1 xs) xs:=vX b1 i1 l1 xs ne1;have V:Sub prog w i2 [i2,l2] (StB b2 i2 l2 ys) ys:=vX b2 i2 l2 ys ne2;refine callType_codes (Q₁:=fun obj s₁=>obj=.ref s.heap.objs.size/\s₁={ s with heap:=s.heap.push { cls:=.type "dict",data:=.dict #[] } }) F.kt_called_dict (F.kt_typeCall_dict_1 _) F.entry_dict_init (kt_code_dict_new _ ⟨rfl,rfl⟩) ?_
 rintro obj s₁ ⟨rfl,rfl⟩;have dn:(s.heap.push { cls:=.type "dict",data:=.dict #[] }).DictOf (iT prog w) s.heap.objs.size []:=Heap.DictOf.new s.heap;refine⟨dn.typeIs,F.args_dict_init_2 _ _,?_⟩;unfold Builtin.«dict.__init__»;rw[9];unfold Builtin.Dict.selfAndRest;refine aF (wpAny_notOrdered_dict dn.typeIs (aQ ?_));show aJ _ _ (Builtin.Dict.updateFrom "dict.__init__" s.heap.objs.size (.ref z) [] .none) _ _ _;unfold Builtin.Dict.updateFrom;have pz:(s.heap.push { cls:=.type "dict",data:=.dict #[] }).get? z=aa _:=cH _ st.1;refine aF (sL (T:="zip") ⟨_,pz,rfl⟩ ?_);rw[if_pos (by decide)]
 refine aF (Qx pz (by simp[hh]) fun h1 tk k1=>?_)
 show aJ _ _ (rule _>>=fun _=>oA (.ref z)>>=_) _ _ _
 have lg:∀ b o,s.heap.get? b=aa o->h1.get? b=aa o:=fun b o e=>k1 _ _ (cH _ e)
 have m3:qy z TI TO i1 i2 (StB b1 i1 l1 xs) (StB b2 i2 l2 ys) .none 0 h1:=by
  obtain⟨g1,g2,⟨a,b,g3⟩,g4,g5⟩:=st;exact⟨lg _ _ g1,lg _ _ g2,⟨a,b,lg _ _ g3⟩,U.keep _ _ _ g4 fun c _ o g=>lg _ _ g,V.keep _ _ _ g5 fun c _ o g=>lg _ _ g⟩
 refine aF (lA (aF (Ci m3.1 (aQ ⟨qB GC _,?_⟩))));have d1:h1.DictOf (iT prog w) s.heap.objs.size []:=by
  obtain⟨o,es,ep,ho,r⟩:=dn;exact⟨o,es,ep,k1 _ _ ho,r⟩
 have ne:∀ {b:aD},(∃ o,s.heap.get? b=aa o)->s.heap.objs.size≠b:=fun⟨o,e⟩=>kB (cA e)
 obtain⟨g1,g2,⟨a,b,g3⟩,g4,g5⟩:=st;have m1:=U.obj _ _ g4;have m2:=V.obj _ _ g5;refine Nv (w:=w) (by simp[hh]) ap U V s.heap.objs.size (ne ⟨_,g1⟩) (ne ⟨_,g2⟩) (ne ⟨_,g3⟩) (fun q=>ne (m1 _ q) rfl) (fun q=>ne (m2 _ q) rfl) kvs hn jy O8 (kvs.length-0) 0 _ rfl (dS _) (.inl m3) d1 fun h' t0 kp S'=>⟨rfl,h h' t0 S' fun b o n1 n2 n3 n4 e=>kp b o (dI (cA e)) n1 n2 n3 n4 (lg b o e)⟩
end
section
variable {a b:bF}{p jf:cV}
abbrev R8 (xs:List V)(ks:List aO):Prop:=fE (fun x k=>x=kV k) xs ks
def tDz (K:aM)(ta:TA):TE:=fun σ H Q=>ta σ H fun vs H1=>∃ a1 a2 b1 b2 xs ys ks,vs=[.ref a1,.ref a2]/\n6 b1 K H1 a1 xs/\n6 b2 K H1 a2 ys/\R8 xs ks/\xs.length≤sizeLine/\∀ q n,H1 q=ab->Q (.ref q) (ar H1 q (.dK n (rQ [] (ks.zip ys))))
theorem tT {X:Cx}:∀ {xs:List V} {ks:List aO} {ys:List V} {us vs:List aC},R8 xs ks->Vals xs us->Vals ys vs->∃ kvs:List (aO×aC),KV (ks.zip ys) kvs/\(us[kvs.length]?=ab\/vs[kvs.length]?=ab)/\kvs.length≤xs.length/\∀ (j:Nat) p,kvs[j]?=aa p->∃ kv,us[j]?=aa kv/\vs[j]?=aa p.2/\(iT X.prog X.w).is p.1 kv=ae:=by
 intro xs ks ys us vs h;induction h generalizing ys us vs with
 |nil=>
  intro r q;cases r;exact⟨[],.nil,.inl rfl,cE _,fun j p e=>by simp at e⟩
 |@cons x k xs ks e t ih=>
  intro r q;cases r with
  |cons r rr=>
   cases q with
   |nil=>exact⟨[],.nil,.inr rfl,dS _,fun j p e=>by simp at e⟩
   |@cons y v ys vs q qq=>
    obtain⟨kvs,h1,h2,h3,h4⟩:=ih rr qq;subst e;refine⟨(k,v)::kvs,.cons ⟨rfl,q⟩ h1,by simpa using h2,by simpa using h3,fun j p e=>?_⟩
    cases j with
    |zero=>
     cases e;exact⟨_,rfl,rfl,tJ r⟩
    |succ j=>exact h4 j p (by simpa using e)
theorem Vt(hc:X.calm=ae)(g1:Gl X "dict")(m1:X.mg "dict" = ab)(g2:Gl X "zip")(m2:X.mg "zip" = ab)(ha:PA X [a,b] ta)
  (rm:bY [yG (.Name "zip" p2) [a,b] [] jf] X.env=[(af,cD (yG (.Name "zip" p2) [a,b] [] jf) X.env)]:=by rfl) (lv:bY [a,b] X.env=[(af,cD a X.env),(af,cD b X.env)]:=by rfl) (vx:bY [b] X.env=[(af,cD b X.env)]:=by rfl) :
  PE X (.Call (.Name "dict" p) [.Call (.Name "zip" p2) [a,b] [] jf] [] pos) (tDz X.K ta):=by
 rw[6];refine Call_ (rS I g1 m1 boot_dict (BV ?_ rm rfl));rw[rm];show aJ _ _ (spliced ((af,cD (yG (.Name "zip" p2) [a,b] [] jf) X.env)::[])) _ _ s;refine PY ?_;refine Call_ (rS I g2 m2 boot_zip (BV (bp (ha jf ad s σ H _ I h) fun us s1 ⟨vs,H1,I1,r1,q1⟩=>?_) (by rw[lv,vx]) (by rw[vx];rfl)))
 obtain⟨a1,a2,b1,b2,xs,ys,ks,rfl,k1,k2,kk,hz,q⟩:=q1;cases r1 with
 |cons r rr=>
  cases rr with
  |cons r' rr=>
   cases rr;cases r;cases r';obtain⟨u1,v1,w1⟩:=I1.sqB k1;obtain⟨u2,v2,w2⟩:=I1.sqB k2;have mm:∀ {b:Bool} {l:aD} {us:Array aC},SqB b s1.heap l us->l<s1.heap.objs.size:=fun {b l us} w=>by
    cases b with
    |true=>obtain⟨o,e,_⟩:=w;exact cA e
    |false=>obtain⟨o,e,_⟩:=w;exact cA e
   refine TN w1 w2 fun z TI TO i1 i2 h' y0 y1 y2 y3 y4 D qg all=>Ef ?_
   obtain⟨kvs,e1,e2,e3,e4⟩:=tT (X:=X) kk v1 v2;refine Py (s:={ s1 with heap:=h' }) (kvs:=kvs) (I1.ok.hd hc) D (fun e=>?_) (fun e=>?_) qg (by omega) (by simpa using e2) (fun j p e=>by simpa using e4 j p e) fun h2 tk dd hk=>?_
   ·exact lE _ (iK (mm w1) (e ▸ y3))
   ·exact lE _ (iK (mm w2) (e ▸ y4))
   obtain⟨m,da⟩:=dd.dictAt;have lz:(rQ [] (ks.zip ys)).length≤sizeLine:=by
    have l1:=ZO (ks.zip ys) [];have l2:(ks.zip ys).length=kvs.length:=mZ e1;simp at l1 l2;omega
   have le:s1.heap.objs.size≤h'.objs.size:=by
    rcases uX z h'.objs.size with hl|hl
    ·omega
    ·exact absurd (cA qg.1) (Nat.not_lt.mpr hl)
   have kp:∀ c o,s1.heap.get? c=aa o->h2.get? c=aa o:=fun c o e=>by
    have lc:=cA e;exact hk c o (dI (iK lc y0)) (dI (iK lc y2)) (dI (iK lc y3)) (dI (iK lc y4)) (all c o e)
   exact⟨.ref h'.objs.size,_,I1.laid (a:=h'.objs.size) (o:=.dK m (rQ [] (ks.zip ys))) (t':=tk) kp le (EG lz (beq_eq_false_iff_ne.mpr (kR (dI (iK I1.big le)))) (e1.merge .nil) da),rfl,q _ m (I1.hok.fresh le)⟩
def sX:List aA->Option (List aO)
 |[]=>aa []
 |k::r=>(dJ k).bind fun k=>(sX r).bind fun ks=>aa (k::ks)
def yV:List aA->Option aA
 |[x,y]=>(oU x).bind fun xs=>(oU y).bind fun ys=>(sX xs).bind fun ks=>if xs.length≤sizeLine then aa (.dict (tM (ks.zip ys) [])) else ab
 |_=>ab
theorem VA:∀ {ds:List aA} {ks:List aO} {xs:List V},sX ds=aa ks->Aaw K H ds xs->R8 xs ks
 |[],ks,xs,e,r=>by
  cases e;rw[Aav.mp r];exact .nil
 |d::ds,ks,xs,e,r=>by
  obtain⟨k,e1,e⟩:=ao (show((dJ d).bind fun k=>(sX ds).bind fun ks=>aa (k::ks))=aa ks from e)
  obtain⟨jv,e2,e⟩:=ao e;cases e;obtain⟨v,t,rfl,r1,r2⟩:=Aan.mp r;exact .cons (rX e1 r1) (VA e2 r2)
theorem US:∀ {ks:List aO} {es:List aA} {ys:List V},Aaw K H es ys->fE (fun(p:aO×aA) (q:aO×V)=>p.1=q.1/\Ab3 K H p.2 q.2) (ks.zip es) (ks.zip ys)
 |[],_,_,_=>.nil
 |_::_,[],ys,r=>by
  rw[Aav.mp r];exact .nil
 |k::ks,e::es,ys,r=>by
  obtain⟨v,t,rfl,r1,r2⟩:=Aan.mp r;exact .cons ⟨rfl,r1⟩ (US r2)
theorem Xs(hc:X.calm=ae)(g1:Gl X "dict")(m1:X.mg "dict" = ab)(g2:Gl X "zip")(m2:X.mg "zip" = ab)(ha:DA X [a,b] fa)
  (rm:bY [yG (.Name "zip" p2) [a,b] [] jf] X.env=[(af,cD (yG (.Name "zip" p2) [a,b] [] jf) X.env)]:=by rfl) (lv:bY [a,b] X.env=[(af,cD a X.env),(af,cD b X.env)]:=by rfl) (vx:bY [b] X.env=[(af,cD b X.env)]:=by rfl) :
  DF 1 X (.Call (.Name "dict" p) [.Call (.Name "zip" p2) [a,b] [] jf] [] pos) (aN yV fa):=PE.imp (Vt hc g1 m1 g2 m2 ha rm lv vx) fun σ H Q gh=>by
 rw[4];obtain⟨as,e1,cz⟩:=ao ef;clear ef;unfold yV at cz;split at cz
 ·obtain⟨xs,e2,de⟩:=ao cz;obtain⟨ys,e3,j4⟩:=ao de;obtain⟨ks,e4,tz⟩:=ao j4;obtain⟨hz,rfl⟩:=eQ tz;refine⟨P,ρ,_,hP,rs,e1,fun vs H1 x1 r1=>?_⟩
  obtain⟨v,t,rfl,q1,q2⟩:=Aan.mp r1;obtain⟨v',rfl,q3⟩:=kZ q2;obtain⟨a1,b1,us,rfl,k1,w1⟩:=GB e2 q1;obtain⟨a2,b2,M1,rfl,k2,w2⟩:=GB e3 q3;exact⟨a1,a2,b1,b2,us,M1,ks,rfl,k1 _ Aa0,k2 _ Aa0,VA e4 w1,by rw[w1.length];exact hz,fun l n hn=>(k.mono x1).dic (hP.ext x1) hn (Oo (US w2) (Acn.mpr rfl))⟩
 ·cases cz
end
abbrev TE3:=List aA×aD×aC
def qW (kds:List (aA×aA))(k:List aA)(d:aA):List (aA×aA):=if (nM kds k).isSome=ae then kds.map fun kd=>if cK kd.1 (.tuple k)=ae then(kd.1,d) else kd else kds++[(.tuple k,d)]
theorem LV{k:List aA}(hk:cC k=ae)(rv:Ab3 K H d v):∀ {kds:List (aA×aA)} {kvs:List (List aA×V)},Acv K H kds kvs ->
  Acv K H (kds.map fun kd=>if cK kd.1 (.tuple k)=ae then(kd.1,d) else kd) (kvs.map fun kv=>if kv.1=k then(kv.1,v) else kv)
 |[],kvs,h=>by rw[Adf.mp h];exact Adf.mpr rfl
 |(k0,d0)::r,kvs,h=>by
  obtain⟨k',x,rr,rfl,⟨rfl,ft⟩,h1,h2⟩:=Ab4.mp h;have e:cK (.tuple k') (.tuple k)=decide (k'=k):=by rw[SH,FM _ _ ft hk]
  rw[dQ,dQ];by_cases q:k'=k
  ·rw[if_pos q,if_pos (by rw[e];exact decide_eq_true q)]
   exact Ab4.mpr ⟨k',v,_,rfl,⟨rfl,ft⟩,rv,LV hk rv h2⟩
  ·rw[if_neg q,if_neg (by rw[e,decide_eq_false q];simp)]
   exact Ab4.mpr ⟨k',x,_,rfl,⟨rfl,ft⟩,h1,LV hk rv h2⟩
theorem Acv.snoc{k:List aA}(hk:cC k=ae)(rv:Ab3 K H d v):∀ {kds:List (aA×aA)} {kvs:List (List aA×V)},Acv K H kds kvs->Acv K H (kds++[(.tuple k,d)]) (kvs++[(k,v)])
 |[],kvs,h=>by rw[Adf.mp h];exact Ab4.mpr ⟨k,v,[],rfl,⟨rfl,hk⟩,rv,Adf.mpr rfl⟩
 |(k0,d0)::r,kvs,h=>by
  obtain⟨k',x,rr,rfl,e,h1,h2⟩:=Ab4.mp h;exact Ab4.mpr ⟨k',x,_,rfl,e,h1,Acv.snoc hk rv h2⟩
theorem Yf{k:List aA}{kds:List (aA×aA)}{kvs:List (List aA×V)}(hk:cC k=ae)(h:Acv K H kds kvs)(rv:Ab3 K H d v):Acv K H (qW kds k d) (putK kvs k v):=by
 unfold qW putK;rw[KN];rcases LH hk h with⟨n1,n2⟩|⟨d',v',s1,s2,_⟩
 ·rw[n1,n2,if_neg (by simp),if_neg (by simp)]
  exact Acv.snoc hk rv h
 ·rw[s1,s2,if_pos (show(aa d').isSome=ae from rfl),if_pos (show(aa v').isSome=ae from rfl)]
  exact LV hk rv h
def keyed (kds:List (aA×aA)):Prop:=∀ kd∈kds,∃ k,kd.1=.tuple k/\cC k=ae
theorem YQ {k:List aA}(hk:cC k=ae):∀ {kds:List (aA×aA)},keyed kds->((nM kds k).isSome=ae↔iC k∈kds.map (·.1))
 |[],_=>by simp[nM]
 |(k0,d)::r,h=>by
  obtain⟨k',e,ft⟩:=h (k0,d) bS;have e:k0=.tuple k':=e;subst e;rw[YM ft hk];by_cases q:k'=k
  ·rw[if_pos q,q];simp
  ·rw[if_neg q,YQ hk fun kd m=>h kd (cG _ m)]
   have:iC k ≠ .tuple k':=fun z=>q (uU z).symm
   simp[this]
section
variable {B0:Hp}{ρ:bJ}{σ:St}{fp:Nat->List aD}
theorem Sta.writeN{p:aD}{o:HO}{d':aA}(S:Sta K H0 P0 B0 ρ σ H fp)(hi:i<ρ.length)(hv:σ[i]?=aa (aa v))(hp:p∈fp i)(ho:(∃ xs,o=.lst xs)\/∃ q:DQ,o=dO q)
  (new:Ai6 K (L2.hid H (Hd P0 fp)) (ar H p o) n d' v (fp i)):Sta K H0 P0 B0 (ρ.set i (aa (n,d'))) σ (ar H p o) fp:=by
 have same:L2.hid (ar H p o) (Hd P0 fp)=L2.hid H (Hd P0 fp):=by
  funext b;unfold L2.hid;by_cases q:Hd P0 fp b
  ·rw[if_pos q,if_pos q]
  ·rw[if_neg q,if_neg q];exact fR fun z=>q (.inr ⟨i,by rw[z];exact hp⟩)
 refine⟨by simp[S.len],S.nd,S.dj,fun j a m=>⟨(S.own j a m).1,?_⟩,fun b u e=>?_,S.hd,by rw[same];exact S.base,fun j n' d e=>?_⟩
 ·by_cases q:a=p
  ·subst q;rcases ho with⟨xs,rfl⟩|⟨xs,rfl⟩
   ·exact .inl ⟨xs,jR⟩
   ·exact .inr ⟨xs,jR⟩
  ·rw[fR q];exact(S.own j a m).2
 ·rw[fR (mR e (S.own i p hp).1)];exact S.ext b u e
 ·by_cases q:j=i
  ·subst q;rw[rE hi] at e;cases e;exact⟨_,hv,by rw[same];exact new⟩
  ·rw[pK (fun z=>q z.symm)] at e
   obtain⟨u,h1,h2⟩:=S.slot j n' d e;refine⟨u,h1,?_⟩;rw[same];exact h2.keep Ext.refl fun a m=>fR fun z=>q (S.dj j i a m (by rw[z];exact hp))
theorem own1{F:List aD}(h:Ai6 K B H 1 (.list ds) v F):∃ p xs,v=.ref p/\H p=aa (.lst xs)/\F=[p]/\Aaw K B ds xs:=by
 obtain⟨p,xs,Fs,rfl,hp,hF,h3⟩:=h;obtain⟨r,hn⟩:=WT h3;exact⟨p,xs,rfl,hp,by rw[hF,hn],r⟩
theorem QG{a b:List aA}{F:List aD}(h:Ai6 K B H 2 (.tuple [.list a,.list b]) v F) :
  ∃ q p p' xs ys,v=.ref q/\B q=aa (.tup [.ref p,.ref p'])/\F=[p,p']/\H p=aa (.lst xs)/\H p'=aa (.lst ys)/\Aaw K B a xs/\Aaw K B b ys:=by
 rcases h with⟨h0,_⟩|⟨_,q,us,Fs,rfl,hq,rfl,h3⟩
 ·cases h0
 ·cases h3 with
  |cons h1 t=>
   cases t with
   |cons h2 t=>
    cases t with
    |nil=>
     obtain⟨p,xs,rfl,hp,rfl,r⟩:=own1 h1;obtain⟨p',ys,rfl,kr,rfl,r'⟩:=own1 h2;exact⟨q,p,p',xs,ys,rfl,hq,rfl,hp,kr,r,r'⟩
end
theorem Acv.length:∀ {kds:List (aA×aA)} {ts:List (List aA×V)},Acv K H kds ts->ts.length=kds.length
 |[],ts,h=>by rw[Adf.mp h];rfl
 |(k,d)::r,ts,h=>by
  obtain⟨k',x,rr,rfl,_,_,h2⟩:=Ab4.mp h;simp[Acv.length h2]
mutual
theorem Yr:∀ d:aA,bN d=ae->cT d=ae
 |.int _,_=>by simp[cT]
 |.str _,_=>by simp[cT]
 |.tuple ds,h=>by
  simp only[cT];exact MA ds (by simpa [bN] using h)
 |.none,h=>by simp[bN] at h
 |.bool _,h=>by simp[bN] at h
 |.list _,h=>by simp[bN] at h
 |.dict _,h=>by simp[bN] at h
theorem MA:∀ ds:List aA,cC ds=ae->nU ds=ae
 |[],_=>rfl
 |d::r,h=>by
  have h:bN d=ae/\cC r=ae:=by simpa [cC] using h
  simp[nU,Yr d h.1,MA r h.2]
end
def GY (i:Nat)(ρ:bJ):Option (List (aA×aA)):=match ρ[i]? with
 |some (aa (9,.dict ((.none,.none)::kds)))=>aa kds
 |_=>ab
theorem YF{ρ:bJ}{ds:List (aA×aA)}(h:GY i ρ=aa ds):ρ[i]?=aa (aa (9,.dict ((.none,.none)::ds))):=by
 unfold GY at h;split at h
 ·rename_i e;cases h;exact e
 ·cases h
theorem Yv {kds:List (aA×aA)}{k:List aA}(h:∀ kd∈kds,cT kd.2=ae)(hd:cT d=ae):∀ kd∈qW kds k d,cT kd.2=ae:=fun kd m=>by
 unfold qW at m;split at m
 ·obtain⟨y,my,rfl⟩:=cJ.mp m;split
  ·exact hd
  ·exact h y my
 ·rcases jF.mp m with m|m
  ·exact h kd m
  ·rw[dP.mp m];exact hd
section
variable {B0:Hp}{ρ:bJ}{σ:St}{fp:Nat->List aD}
theorem Sta.dicT {ds:List (aA×aA)}(S:Sta K H0 P0 B0 ρ σ H fp)(e:ρ[i]?=aa (aa (9,.dict ((.none,.none)::ds)))):∃ p ts,σ[i]?=aa (aa (.ref p))/\H p=aa (.dT ts)/\(∀ kd∈ds,cT kd.2=ae)/\Acv K (L2.hid H (Hd P0 fp)) ds ts /\
  ∀ m4 A7,(∀ kd∈m4,cT kd.2=ae)->Acv K (L2.hid H (Hd P0 fp)) m4 A7->Sta K H0 P0 B0 (ρ.set i (aa (9,.dict ((.none,.none)::m4)))) σ (ar H p (.dT A7)) fp:=by
 obtain⟨v,h1,h2⟩:=S.slot i 9 _ e;rcases(show _\/GW _ _ _ _ _ _ from h2) with⟨z,_⟩|⟨kds,p,ts,ed,rfl,hp,hF,f,r⟩
 ·cases z
 cases ed;refine⟨p,ts,h1,hp,f,r,fun m4 A7 f' r'=>S.writeN (dF.mp e).1 h1 (by rw[hF];exact bS) (.inr ⟨.inr A7,rfl⟩) ?_⟩
 exact(bA ⟨m4,p,A7,rfl,rfl,jR,hF,f',r'⟩:_\/GW _ _ _ _ _ _)
end
section
variable {x:aE}{k:bF}{g:EF}{px:cV}
theorem Vb:DF 9 X (.Dict [] [] pos) (eC (.dict [(.none,.none)])):=PE.imp Xm fun σ H Q gh=>by
 rw[4];cases ef;refine fun q hq=>k (.ref q) (ar H q (.dT [])) [q] (Ext.new hq) (mE.mpr ⟨by simp,.nil⟩) (fun a m=>?_) (bA ⟨[],q,[],rfl,rfl,jR,rfl,fun kd m=>by simp at m,Adf.mpr rfl⟩:_\/GW _ _ _ _ _ _)
 rw[dP.mp m];exact⟨hq,_,jR⟩
def GP (i:Nat)(m:Md)(f:EF)(mk:Md)(g:EF):SF:=fun ρ=>(eV 0 m f ρ).bind fun d=>(GY i ρ).bind fun kds=>(eV 0 mk g ρ).bind fun k=>match k with
 |.tuple k=>if ((cC k=ae/\cL k≤6)/\cT d=ae)/\kds.length<sizeLine then aa (.nx (ρ.set i (aa (9,.dict ((.none,.none)::qW kds k d))))) else ab
 |_=>ab
theorem Ue (i:Nat)(m mk:Md)(hu:X.A.units+40<cLine)(he:DE X e f)(hk:DE X k g)(hN:X.N[i]?=aa x:=by rfl)(hv:pP X.env.scope x:=by first|exact aZ rfl|exact bA (aZ rfl)|exact bA (bA rfl))(hd:(x==("__debug__" : aE))=af:=by decide)
  (jx:(x==("__classdict__" : aE))=af:=by decide) (hs:pE e (aa (.Subscript (.Name x px) k bq)) pos.line X.env=pure af:=by rfl):DS X H0 P0 n0 (.Assign [.Subscript (.Name x px) k bq] e pos) (GP i m f mk g):=
 PS.imp (Bq hu (rT hN hv hd jx) hk (ev (H0:=H0) (P0:=P0) m he) hs) fun D σ H gh=>by
  obtain⟨B0,ρ,fp,o,S,ef,kk⟩:=gh;obtain⟨d,e1,cz⟩:=ao ef;obtain⟨kds,e2,de⟩:=ao cz;obtain⟨kd,e3,j4⟩:=ao de;cases kd with
  |tuple key=>
   obtain⟨⟨⟨ji,hfd⟩,hl⟩,rfl⟩:=eQ j4;clear ef cz de j4;refine⟨B0,ρ,fp,d,S,e1,fun v H2 gh=>?_⟩
   obtain⟨lu,S2,r2⟩:=gh;obtain⟨p,ts,h1,h2,_⟩:=S2.dicT (YF e2);have hf:cT (.tuple key)=ae:=by simp only[cT];exact MA _ ji.1
   refine⟨.ref p,h1,IY S2 e3 hf fun u H3 x3 r3=>?_⟩
   have S3:=S2.grow x3;obtain⟨p3,ts3,q1,q2,qf,q3,q4⟩:=S3.dicT (YF e2);have:p3=p:=by rw[h1] at q1;cases q1;rfl
   rw[10];obtain⟨b,rfl,tb⟩:=r3.tupK ji.1 ji.2;refine⟨p3,_,rfl,.inr ⟨ts3,key,b,q2,rfl,tb.keep fun c zs e=>Aa0 _ _ e,by rw[q3.length];exact hl,rfl⟩,fun n=>kk _ _ lu (q4 _ _ (Yv qf hfd) (Yf ji.1 q3 (r2.2.ext (fD x3))))⟩
  |_=>cases j4
theorem Pr(d:aD)(hd:(d==kH)=af) :
  MeetsIn prog w (Builtin.«dict.__len__» ⟨[.ref d],[]⟩) (fun _ R s=>∃ xs,s.heap.DictOfH (oZ prog w) d xs/\R (.ok (.ret (.int xs.length s.toks))) { s with toks:=s.toks+1 }):=
 .of_wp fun A R s gh=>by
  obtain⟨xs,hm,h⟩:=gh;obtain⟨o,es,ep,ho,hc,O9,wo,_,_⟩:=hm;show aJ _ _ (dictSize d>>=_) _ _ s;unfold dictSize;refine aF (aF (NV ho O9 (aQ ?_)));refine aF (wpAny_pendingCount_other hd (wpAny_ret_mkInt ?_));have:es.size=xs.length:=size_of_entries wo;rw[OO,this];exact h
theorem Ep{d:aD}{xs:List TE3}(hd:(d==kH)=af)(hm:s.heap.DictOfH (oZ prog w) d xs)(hz:(xs.length:Int)<2^63)(h:∀ t s',s'={ s with toks:=s.toks+1+1 }->Q (.int xs.length t) s') :
  aJ (aP prog w) A (call (.builtin "len") [.ref d]) Q E s:=by
 refine PZ kind_len plain_len entry_len (args_len1 _) ?_;unfold Builtin.«len»;refine aF (m:=oneArg "len" _) (aQ ?_);refine aF (m:=callSpecial? (.ref d) (jZ "__len__")) (mB (name:=jZ "__len__") hm.typeIs F.slot_dict_len (OB F.slot_dict_len hm.typeIs F.entry_dict_len (F.args_dict_len_1 _) (Pr d hd) ⟨xs,hm,?_⟩));show aJ _ _ _ _ _ { s with toks:=s.toks+1 };refine aF (jE (aQ ?_));refine aF (HE ?_);show aJ _ _ (if ((xs.length:Nat):Int)<0 then _ else _) _ _ _
 rw[if_neg (by omega)]
 show aJ _ _ (if ((xs.length:Nat):Int) ≥ 2^63 then _ else _) _ _ _
 rw[if_neg (by omega)]
 exact aF (wpAny_mkInt (aQ ⟨_,rfl,h _ _ rfl⟩))
theorem Zz:Afq X (.builtin "len") (fun xs H Q=>∃ a ts,xs=[V.ref a]/\H a=aa (.dT ts)/\Q (.int ts.length) H):=by
 rw[5];obtain⟨a,ts,rfl,ha,q⟩:=h;obtain⟨u,rfl,ru⟩:=vals1 r;cases ru;obtain⟨z,hd,ys,kt,dd⟩:=RA I.hok ha;have e:ts.length=ys.length:=mZ kt;refine Ep hd dd (by rw[← e];rw[mU] at z;omega) fun t s' es=>?_
 subst es;exact⟨.int ts.length,H,I.tok _,⟨t,by rw[e]⟩,q⟩
def GZ:List aA->Option aA
 |[.dict ((.none,.none)::kds)]=>aa (.int kds.length)
 |_=>ab
theorem Qf:CallD K 0 (fun xs H Q=>∃ a ts,xs=[V.ref a]/\H a=aa (.dT ts)/\Q (.int ts.length) H) GZ:=fun P H xs ds d Q hP r e k=>by
 unfold GZ at e;split at e
 ·cases e;obtain⟨v,rfl,r'⟩:=kZ r;obtain⟨a,ts,rfl,ha,rr⟩:=(AE).mp r';exact⟨a,ts,rfl,Aa0 _ _ ha,k.zero Ext.refl (Aax.mpr (by rw[rr.length]))⟩
 ·cases e
end
def Gg (K:aM):V->List V->Hp->VK->Prop:=fun x vs H Q=>∃ l b xs zs,x=.ref l/\vs=[.ref b]/\H l=aa (.lst xs)/\(SqL K H b zs\/SqT K H b zs)/\xs.length+zs.length≤sizeLine/\Q .non (ar H l (.lst (xs++zs)))
theorem Pg:S7 X "list.extend" (Gg X.K):=by
 intro ad s σ H x vs v us Q I rx rv h;obtain⟨l,b,xs,zs,rfl,rfl,hH,hB,hz,q⟩:=h;cases rx;obtain⟨u,rfl,ru⟩:=rv.one;cases ru;obtain⟨z,its,n,r,hl,e⟩:=I.lstM hH;obtain⟨gx,r2,T,o2,n2,g1,g2,g3,hT⟩:∃ (gx:List aC),Vals zs gx/\∃ (T:String) (o2:bI) (n2:Nat),s.heap.get? b=aa o2/\o2.cls=.type T/\o2.data=.seq gx.toArray n2/\(T = "list" \/ T = "tuple"):=by
  rcases hB with hB|hB
  ·obtain⟨gx,r2,pl,_⟩:=I.list hB;obtain⟨o2,g1,g2,n2,g3⟩:=pl.isList;exact⟨gx,r2,"list",o2,n2,g1,g2,g3,.inl rfl⟩
  ·obtain⟨gx,r2,pl,_⟩:=I.tuple hB;obtain⟨o2,g1,g2,n2,g3⟩:=pl;exact⟨gx,r2,"tuple",o2,n2,g1,g2,g3,.inr rfl⟩
 have t7:=r2.length;have hsz:its.toArray.size+gx.toArray.size≤sizeLine:=by rw[gG,gG];omega
 have A8:¬ (!its.toArray.isEmpty&&Eg (its.toArray.size+gx.toArray.size))=ae:=by
  rw[Wp hsz,Bool.and_false];exact oJ
 refine iH F.slot_list_extend ⟨_,e,rfl⟩ F.entry_list_extend ?_ (F.args_list_extend_2 _ _);unfold Builtin.«list.extend»;refine aF (m:=selfAndOne "list.extend" _) (aQ ?_);show aJ _ _ (rJ (.ref l) (.ref b) .none) _ _ _;unfold rJ;refine aF (sL (T:=T) ⟨o2,g1,g2⟩ ?_);have yes:(yI (.ref l) (.ref b)||iJ T==iJ "list" || iJ T==iJ "tuple")=ae:=by
  rcases hT with rfl|rfl
  ·rw[show(iJ "list" == iJ "list")=ae from rfl];simp
  ·rw[show(iJ "tuple" == iJ "tuple")=ae from rfl];simp
 rw[if_pos yes];refine aF (listItems_at g1 g3 (aF (listItems_at e rfl ?_)));rw[if_neg A8];refine aF (HJ e rfl (aQ ⟨.none,rfl,?_⟩) (by rw[gG];omega) (by show(its.toArray++gx.toArray).size≤sizeLine+1;rw[Array.size_append];omega))
 refine⟨.non,_,I.lset (t':=s.toks) (f:=fun a=>a++gx.toArray) (its':=its++gx) hH e (by simp) (r.append r2) (by rw[mF];omega),rfl,q⟩
section
variable {x:aE}{px aw:cV}
def Fl:aA->Option (List aA)
 |.list es=>aa es
 |.tuple es=>aa es
 |_=>ab
def rO (i:Nat)(m:Md)(f:EF):SF:=fun ρ=>(eV 0 m f ρ).bind fun d=>(getL i ρ).bind fun ds=>(Fl d).bind fun es=>if ds.length+es.length≤sizeLine then aa (.nx (ρ.set i (aa (1,.list (ds++es))))) else ab
theorem VI{es:List aA}{xs:List V}(h1:Aaw K H ds xs)(h2:Aaw K H es ys):Aaw K H (ds++es) (xs++ys):=h1.append h2
theorem ME (i:Nat)(m:Md)(he:DE X e f)(hN:X.N[i]?=aa x:=by rfl)(hv:pP X.env.scope x:=by first|exact aZ rfl|exact bA (aZ rfl)|exact bA (bA rfl))(hd:(x==("__debug__" : aE))=af:=by decide)
  (jx:(x==("__classdict__" : aE))=af:=by decide) (gy:xS (.Name x px) "extend" X.env (cD (.Name x px) X.env)=cD (.Name x px) X.env:=by rfl)
  (i4:((iI aw (bY (e::[]) X.env)).all (fun x=>!x.1)&&(xR aw (xP [] X.env)).all (fun x=>x.1.isSome)
   && decide ((e::[]).length+([]:List nD).length+(if ([]:List nD).isEmpty then 0 else 1)<30))=ae:=by rfl)
  (h9:(bq.endLine==aw.line)=ae:=by rfl) (hs:bY (e::[]) X.env=(af,cD e X.env)::bY [] X.env:=by rfl) (cv:(iI aw (bY [] X.env)).any (·.1)=af:=by rfl)
  (uj:pE (.Call (.Attribute (.Name x px) "extend" bq) [e] [] aw) ab pos.line X.env=pure af:=by rfl):DS X H0 P0 n0 (.Expr (.Call (.Attribute (.Name x px) "extend" bq) [e] [] aw) pos) (rO i m f):=
 PS.imp (JO (BG Dc PySem.F.slot_list_extend PySem.F.type_list_extend Pg (rT hN hv hd jx) (oW (ev (H0:=H0) (P0:=P0) m he) qP hs) gy i4 h9 hs cv) uj) fun D σ H gh=>by
  obtain⟨B0,ρ,fp,o,S,ef,k⟩:=gh;obtain⟨d,e1,cz⟩:=ao ef;obtain⟨ds,e2,de⟩:=ao cz;obtain⟨es,e3,j4⟩:=ao de;obtain⟨hl,rfl⟩:=eQ j4;obtain⟨p,xs,h1,h2,_,_⟩:=S.lst1 (wM e2);refine⟨.ref p,h1,.inl ⟨rfl,xs,SqL.of h2⟩,B0,ρ,fp,d,S,e1,fun v H2 gh=>?_⟩
  obtain⟨lu,S2,r2⟩:=gh;obtain⟨p2,E6,q1,q2,q3,q4⟩:=S2.lst1 (wM e2);have:p2=p:=by rw[h1] at q1;cases q1;rfl
  rw[10];cases d with
  |list j2=>
   cases e3;obtain⟨b,ys,rfl,hb,rr⟩:=Abh.mp r2.2;exact⟨p2,b,E6,ys,rfl,rfl,q2,.inl (Aa0.sqL hb),by rw[q3.length,rr.length];exact hl,k _ _ lu (q4 _ _ (VI q3 rr))⟩
  |tuple j2=>
   cases e3;obtain⟨b,ys,rfl,hb,rr⟩:=Aa3.mp r2.2;exact⟨p2,b,E6,ys,rfl,rfl,q2,.inr (SqT.of (Aa0 _ _ hb)),by rw[q3.length,rr.length];exact hl,k _ _ lu (q4 _ _ (VI q3 rr))⟩
  |_=>cases e3
end
end L2
namespace Aw
open PySem L2
def iy (i:Nat):cR:=PySem.Challenge.pw_askwithin_k19_whole_walk.main.body.getD i (.Pass ⟨0,0,0,0⟩)
abbrev LZ:cR:=iy 4
abbrev Pz:List aE:=["lines","names","line","term"]
abbrev wN:List aE:=["lines"]
theorem Amc:FnScope Pz wN (cQ LZ):=by rw[900]
abbrev FJ:cR:=iy 5
abbrev VQ:List aE:=["terms","known"]
abbrev wI:List aE:=["terms","known"]
theorem Ar4:FnScope VQ wI (cQ FJ):=by rw[900]
abbrev NL:cR:=iy 8
abbrev Hz:List aE:=["line","row","known","found","term","number","wanted"]
abbrev zF:List aE:=["line","row","known"]
theorem A3d:FnScope Hz zF (cQ NL):=by rw[900]
abbrev LW:cR:=iy 9
abbrev Oq:List aE:=["book","line"]
abbrev wL:List aE:=["book","line"]
theorem An4:FnScope Oq wL (cQ LW):=by rw[900]
abbrev LO:cR:=iy 10
abbrev Oi:List aE:=["rows","number","own"]
abbrev AB:List aE:=["rows"]
theorem An6:FnScope Oi AB (cQ LO):=by rw[900]
abbrev MY:cR:=iy 11
abbrev Sz:List aE:=["rows"]
abbrev AQ:List aE:=["rows"]
theorem Ah5:FnScope Sz AQ (cQ MY):=by rw[900]
abbrev GI:cR:=iy 12
abbrev ZW:List aE:=["book","lines"]
abbrev wY:List aE:=["book","lines"]
theorem Ah6:FnScope ZW wY (cQ GI):=by rw[900]
abbrev MF:cR:=iy 13
abbrev Pq:List aE:=["found","line","rows","told","known","row","more"]
abbrev AH:List aE:=["found","line","rows"]
theorem Al0:FnScope Pq AH (cQ MF):=by rw[900]
abbrev LD:cR:=iy 14
abbrev Xe:List aE:=["lines","rows","found","line","own"]
abbrev zT:List aE:=["lines","rows"]
theorem Aql:FnScope Xe zT (cQ LD):=by rw[900]
abbrev GL:cR:=iy 15
abbrev ZL:List aE:=["lines","found","names"]
abbrev AV:List aE:=["lines","found"]
theorem Ai1:FnScope ZL AV (cQ GL):=by rw[900]
abbrev FP:cR:=iy 16
abbrev XW:List aE:=["book","lines"]
abbrev AA:List aE:=["book","lines"]
theorem Aod:FnScope XW AA (cQ FP):=by rw[900]
abbrev GM:cR:=iy 17
abbrev ZK:List aE:=["alternative","found","names"]
abbrev AY:List aE:=["alternative","found"]
theorem Ajc:FnScope ZK AY (cQ GM):=by rw[900]
abbrev LU:cR:=iy 18
abbrev Om:List aE:=["book","question","alternative","told"]
abbrev zZ:List aE:=["book","question"]
theorem Aoc:FnScope Om zZ (cQ LU):=by rw[900]
abbrev MN:cR:=iy 20
abbrev Ra:List aE:=["_law_script","_law_k","_law_number"]
abbrev sE:List aE:=["_law_script","_law_k"]
theorem Ak0:FnScope Ra sE (cQ MN):=by rw[900]
abbrev MK:cR:=iy 21
abbrev Qh:List aE:=["_law_cell_here","_law_k","_law_number"]
abbrev mS:List aE:=["_law_cell_here","_law_k"]
theorem Alw:FnScope Qh mS (cQ MK):=by rw[900]
abbrev wZ:cR:=iy 22
abbrev GE:List aE:=["_law_cell_here","_law_count","_law_signs","_law_size","_law_base","_law_at","_law_found","_law_k"]
abbrev xB:List aE:=["_law_cell_here","_law_count"]
theorem Aje:FnScope GE xB (cQ wZ):=by rw[900]
abbrev MP:cR:=iy 23
abbrev Qw:List aE:=["_law_cell_here","_law_far","_law_big"]
abbrev AN:List aE:=["_law_cell_here"]
theorem Akz:FnScope Qw AN (cQ MP):=by rw[900]
abbrev MZ:cR:=iy 24
abbrev Tc:List aE:=["_law_cell_here","_law_count","_law_found","_law_name","_law_number","_law_wide"]
abbrev AR:List aE:=["_law_cell_here","_law_count"]
theorem Ah9:FnScope Tc AR (cQ MZ):=by rw[900]
abbrev MS:cR:=iy 25
abbrev Qr:List aE:=["_law_cell_here","_law_names_here","_law_pool_here","_law_number"]
abbrev AO:List aE:=["_law_cell_here","_law_names_here","_law_pool_here"]
theorem Aky:FnScope Qr AO (cQ MS):=by rw[900]
abbrev AX:cR:=iy 26
abbrev MW:List aE:=["_law_script","_law_start","_law_tables_here","_law_names_here","_law_pool_here","_law_count","_law_lines_here","_law_at","_law_k","_law_number","_law_table","_law_terms"]
abbrev AW:List aE:=["_law_script","_law_start","_law_tables_here","_law_names_here","_law_pool_here","_law_count"]
theorem Aj1:FnScope MW AW (cQ AX):=by rw[900]
abbrev NA:cR:=iy 27
abbrev Tt:List aE:=["_law_cell_here","_law_line","_law_names_here","_law_pool_here","_law_row","_law_term_here"]
abbrev BA:List aE:=["_law_cell_here","_law_line","_law_names_here","_law_pool_here"]
theorem Ahh:FnScope Tt BA (cQ NA):=by rw[900]
abbrev GH:cR:=iy 28
abbrev ZA:List aE:=["_law_script","_law_start","_law_tables_here","_law_lines_here","_law_names_here","_law_pool_here","_law_most","_law_book_here","_law_table","_law_wide","_law_rows","_law_j","_law_cell_here","_law_row","_law_k","_law_at"]
abbrev AM:List aE:=["_law_script","_law_start","_law_tables_here","_law_lines_here","_law_names_here","_law_pool_here","_law_most"]
theorem Akx:FnScope ZA AM (cQ GH):=by rw[900]
abbrev MH:cR:=iy 29
abbrev Pb:List aE:=["_law_terms","_law_names_here","_law_values","_law_row","_law_term_here"]
abbrev AI:List aE:=["_law_terms","_law_names_here","_law_values"]
theorem Alu:FnScope Pb AI (cQ MH):=by rw[900]
abbrev NF:cR:=iy 30
abbrev Tu:List aE:=["_law_script","_law_start","_law_tables_here","_law_names_here","_law_pool_here","_law_size","_law_cell_here","_law_lines_here","_law_flat","_law_line","_law_head","_law_j"]
abbrev BD:List aE:=["_law_script","_law_start","_law_tables_here","_law_names_here","_law_pool_here","_law_size"]
theorem Afw:FnScope Tu BD (cQ NF):=by rw[900]
abbrev MO:cR:=iy 31
abbrev Rq:List aE:=["_law_book_here","_law_question","_law_names_here","_law_pool_here","_law_owed_here","_law_head","_law_lines_here","_law_number","_law_values","_law_stands","_law_line","_law_row"]
abbrev AJ:List aE:=["_law_book_here","_law_question","_law_names_here","_law_pool_here"]
theorem Aku:FnScope Rq AJ (cQ MO):=by rw[900]
abbrev MX:cR:=iy 32
abbrev Ss:List aE:=["_law_book_here","_law_found","_law_table","_law_rows","_law_row"]
abbrev BC:List aE:=["_law_book_here"]
theorem Aib:FnScope Ss BC (cQ MX):=by rw[900]
abbrev qN:cR:=iy 33
abbrev JC:List aE:=["_law_script","_law_tables_here","_law_names_here","_law_pool_here","_law_size","_law_question","_law_lines_here","_law_k","_law_most","_law_book_here","_law_owed_here","_law_found","_law_row","_law_table","_law_wide","_law_cell_here","_law_rows","_law_more"]
abbrev QW:List aE:=["_law_script"]
theorem A8l:FnScope JC QW (cQ qN):=by rw[900]
structure Blt (mg:aE->Option aC):Prop where
 «isinstance» : mg "isinstance" = ab
 «int» : mg "int" = ab
 «bool» : mg "bool" = ab
 «abs» : mg "abs" = ab
 «range» : mg "range" = ab
 «len» : mg "len" = ab
 «str» : mg "str" = ab
 «all» : mg "all" = ab
 «any» : mg "any" = ab
 «list» : mg "list" = ab
 «tuple» : mg "tuple" = ab
 «dict» : mg "dict" = ab
 «set» : mg "set" = ab
 «sorted» : mg "sorted" = ab
 «sum» : mg "sum" = ab
 «min» : mg "min" = ab
 «max» : mg "max" = ab
 «enumerate» : mg "enumerate" = ab
 «zip» : mg "zip" = ab
 «reversed» : mg "reversed" = ab
 «ValueError» : mg "ValueError" = ab
structure Cst (mg:aE->Option aC):Prop where
 MOST_WAYS:∃ t,mg "MOST_WAYS" = aa (.int 4096 t)
set_option maxHeartbeats 4000000
variable {P:bP}{w:bG}{K:aM}{mg:aE->Option aC}{base:aY}{f:aD}{fd:jH}
def Pi:SF:=(aU (bE 1 1 .s (eC (.dict [])))
 (aU (eW .s (cf (aB 0)) (cq 2) (eW .s (cf (ah bf (aB 2) (eC (.int 1)))) (cq 3) (cb .s (au (gc (eJ "str") (aB 3))) (fY 1 .s (eC (.bool ae)) .s (aB 3)) dA)))
 (eU 1 (cS 1 .s (aN wD (aG (aB 1) aK))))))
def rZ:List aA->Option aA:=bz 1 4 Pi
theorem Rb (F:Fun K "names_of" "names_of" LZ f fd)(B:Blt mg)(C:Cst mg):FnOk P w K mg base gv 1 f fd wN (aq K 1 rZ):=by
 have nd:=Amc.nd;exact gV F Amc rfl (by decide) fun ax A outer s H E P0 hr=>by
  rw[1];exact(bK (cI (i:=1) 1 .s nd rfl (by trivial) ER)
   (bK (jW iD rfl (jB (aI 0)) (jD (i:=2) nd rfl (by trivial)) (bX (jW iD rfl (jB (eB hv (aI 2) aR (fun _ _=>rfl))) (jD (i:=3) nd rfl (by trivial)) (bX (iY .s (yZ (ED (T:="str") rfl B.isinstance rfl B.str OE (by decide) (aI 3))) (bX (EZ 1 .s .s hv vW (aI 3))) jP)))))
   (mN 1 (bX (hJ .s (mP (YB rfl) YY rfl B.list PyProof.Rows.boot_list (aL (aI 1) aT)))))))
def Xf:SF:=(cS 0 .s (aN fH (aG (j1 [ab,aa 1] (cf (aB 0)) (gB 0) dM (fK (aB 1) (aB 0) (aB 0))) aK)))
def nY:List aA->Option aA:=bz 2 2 Xf
theorem Zu (F:Fun K "put_in" "put_in" FJ f fd)(B:Blt mg)(C:Cst mg):FnOk P w K mg base gv 1 f fd wI (aq K 0 nY):=by
 have nd:=Ar4.nd;exact gV F Ar4 rfl (by decide) fun ax A outer s H E P0 hr=>by
  rw[1];exact(bX (hJ .s (mP sD sF rfl B.tuple uT (aL (dZ (n:=1) (oO rfl (mQ (N:=["term","known"]) (cap:=[ab,aa 1]) (out:=(cQ FJ).names) (XN:=VQ) rfl rfl (by rw[0]) rfl) mJ (jB (aI 0)) (fun cl C s₀ H₀ ex=>⟨mO (j:=0) (show(["term","known"]:List aE).Nodup by rw[0]) rfl (aZ rfl),nV,(FA hv (aI 1) (aI 0) (aI 0))⟩))) aT))))
def Hm:SF:=(aU (cb .s (au (ah gf (aN cN (aG (aB 1) aK)) (aN cN (aG (ah bf (aB 0) (eC (.int 1))) aK)))) (cS 1 .s (eC .none)) dA)
 (aU (bE 3 1 .s (aN JA (aG (aB 2) aK)))
 (aU (eW .s (iZ (aG (ah bf (aB 0) (eC (.int 1))) (aG (aB 1) aK))) (rL 4 5) (aU (vb 6 3 .s (au (gc (eJ "str") (aB 4))) .s (aB 4) .s (aB 5) .s (aB 4))
 (cb .s (au (ah gf (aB 5) (aB 6))) (cS 1 .s (eC .none)) dA)))
 (fG 3 1))))
def wA:List aA->Option aA:=bz 3 7 Hm
theorem Mr (F:Fun K "fits" "fits" NL f fd)(B:Blt mg)(C:Cst mg):FnOk P w K mg base gv 1 f fd zF (aq K 1 wA):=by
 have nd:=A3d.nd;exact gV F A3d rfl (by decide) fun ax A outer s H E P0 hr=>by
  rw[1];exact(bK (iY .s (iQ (EH hu) EE (jK kG kF rfl B.len kJ (aL (aI 1) aT)) (jK kG kF rfl B.len kJ (aL (eB hv (aI 0) aR (fun _ _=>rfl)) aT)) (jJ _)) (bX (hJ .s TF)) jP)
   (bK (cI (i:=3) 1 .s nd rfl (by trivial) (mP Qg Pu rfl B.dict PyProof.Rows.boot_dict (aL (aI 2) aT)))
   (bK (jW iD rfl (Ax rfl B.zip (aL (eB hv (aI 0) aR (fun _ _=>rfl)) (aL (aI 1) aT))) (zN (i:=4) (j:=5) rfl nd rfl rfl (by trivial) (by trivial)) (bK (Hb 6 3 .s .s .s .s nd (yZ (ED (T:="str") rfl B.isinstance rfl B.str OE (by decide) (aI 4))) (aI 4) (aI 5) (aI 4))
   (bX (iY .s (iQ (EH hu) EE (aI 5) (aI 6) (jJ _)) (bX (hJ .s TF)) jP))))
   (bX (tV 3)))))
def Zm:SF:=(cS 0 .s (fK (aB 0) (ah bf (aB 1) (eC (.int 0))) (dG aK)))
def pA:List aA->Option aA:=bz 2 2 Zm
theorem Qb (F:Fun K "rows_of" "rows_of" LW f fd)(B:Blt mg)(C:Cst mg):FnOk P w K mg base gv 1 f fd wL (aq K 0 pA):=by
 have nd:=An4.nd;exact gV F An4 rfl (by decide) fun ax A outer s H E P0 hr=>by
  rw[1];exact(bX (hJ .s (FA hv (aI 0) (eB hv (aI 1) aR (fun _ _=>rfl)) (dZ (n:=1) (jC aT)))))
def Oc:SF:=(aU (bE 1 0 .s (eC (.int 1)))
 (aU (eW .s (cf (aB 0)) (cq 2) (bE 1 0 .s (ah dD (aB 1) (aN DJ (aG (eC (.int 1)) (aG (aN cN (aG (aB 2) aK)) aK))))))
 (cS 0 .s (aB 1))))
def uB:List aA->Option aA:=bz 1 3 Oc
theorem Oy (F:Fun K "ways_of" "ways_of" LO f fd)(B:Blt mg)(C:Cst mg):FnOk P w K mg base gv 1 f fd AB (aq K 0 uB):=by
 have nd:=An6.nd;exact gV F An6 rfl (by decide) fun ax A outer s H E P0 hr=>by
  rw[1];exact(bK (cI (i:=1) 0 .s nd rfl (by trivial) aR)
   (bK (jW iD rfl (jB (aI 0)) (jD (i:=2) nd rfl (by trivial)) (bX (cI (i:=1) 0 .s nd rfl (by trivial) (kW (aI 1) (jK (Ny rfl) On rfl B.max PyProof.Rows.boot_max (aL aR (aL (jK kG kF rfl B.len kJ (aL (aI 2) aT)) aT)))))))
   (bX (hJ .s (aI 1)))))
def GF:SF:=(aU (cb .s (au (ah jd (aB 1) (aN cN (aG (aB 0) aK)))) (cS 0 .s (ah bf (aB 0) (aB 1))) dA)
 (aU (bE 2 0 .s (ah bO (ah dD (aB 1) (eC (.int 7919))) (eC (.int 5))))
 (aU (cb .s (au (ah fq (aN cN (aG (aB 0) aK)) (eC (.int 0)))) (bE 2 0 .s (ah bM (ah bO (ah dD (ah bf (aB 0) (ah bM (ah dD (aB 1) (eC (.int 7))) (aN cN (aG (aB 0) aK)))) (eC (.int 48271))) (ah dD (aB 1) (eC (.int 7919)))) (eC (.int 2147483647)))) dA)
 (cS 0 .s (ah bM (ah dD (aB 2) (aB 2)) (eC (.int 2147483629)))))))
def fL:List aA->Option aA:=bz 2 3 GF
theorem Ri (F:Fun K "_law_cell" "_law_cell" MN f fd)(B:Blt mg)(C:Cst mg):FnOk P w K mg base gv 1 f fd sE (aq K 0 fL):=by
 have nd:=Ak0.nd;exact gV F Ak0 rfl (by decide) fun ax A outer s H E P0 hr=>by
  rw[1];exact(bK (iY .s (iQ (Bdx.or WY) Au (aI 1) (jK kG kF rfl B.len kJ (aL (aI 0) aT)) (jJ _)) (bX (hJ .s (eB hv (aI 0) (aI 1) (fun _ _=>rfl)))) jP)
   (bK (cI (i:=2) 0 .s nd rfl (by trivial) (eX (kW (aI 1) aR) aR))
   (bK (iY .s (iQ tH tO (jK kG kF rfl B.len kJ (aL (aI 0) aT)) aR (jJ _)) (bX (cI (i:=2) 0 .s nd rfl (by trivial) (eE (eX (kW (eB hv (aI 0) (eE (kW (aI 1) aR) (jK kG kF rfl B.len kJ (aL (aI 0) aT))) (fun _ _=>rfl)) aR) (kW (aI 1) aR)) aR))) jP)
   (bX (hJ .s (eE (kW (aI 2) (aI 2)) aR))))))
def YI:SF:=(aU (bE 2 0 .s (ah bM (ah bO (ah bO (ah bO (ah dD (ah bM (aB 0) (eC (.int 2147483647))) (eC (.int 48271))) (ah dD (ah dD (aB 1) (aB 1)) (eC (.int 69621)))) (aB 1)) (eC (.int 11))) (eC (.int 2147483629))))
 (cS 0 .s (ah bM (ah dD (aB 2) (aB 2)) (eC (.int 2147483587)))))
def dH:List aA->Option aA:=bz 2 3 YI
theorem Qq (F:Fun K "_law_mix" "_law_mix" MK f fd)(B:Blt mg)(C:Cst mg):FnOk P w K mg base gv 1 f fd mS (aq K 0 dH):=by
 have nd:=Alw.nd;exact gV F Alw rfl (by decide) fun ax A outer s H E P0 hr=>by
  rw[1];exact(bK (cI (i:=2) 0 .s nd rfl (by trivial) (eE (eX (eX (eX (kW (eE (aI 0) aR) aR) (kW (kW (aI 1) (aI 1)) aR)) (aI 1)) aR) aR))
   (bX (hJ .s (eE (kW (aI 2) (aI 2)) aR))))
def Pm:SF:=(aU (bE 3 1 .s (dG aK))
 (aU (eW .s (cf (aB 0)) (cq 4) (cb .s (au (gc (eJ "str") (aB 4))) (eR 3 .s (ah bf (aB 2) (ah EU (aB 1) (aB 4)))) (eR 3 .s (aB 4))))
 (eU 3 (cS 0 .s (aN fH (aG (aB 3) aK))))))
def uD:List aA->Option aA:=bz 3 5 Pm
theorem Qn (F:Fun K "_law_put" "_law_put" MH f fd)(B:Blt mg)(C:Cst mg):FnOk P w K mg base gv 1 f fd AI (aq K 0 uD):=by
 have nd:=Alu.nd;exact gV F Alu rfl (by decide) fun ax A outer s H E P0 hr=>by
  rw[1];exact(bK (cI (i:=3) 1 .s nd rfl (by trivial) (jC aT))
   (bK (jW iD rfl (jB (aI 0)) (jD (i:=4) nd rfl (by trivial)) (bX (iY .s (yZ (ED (T:="str") rfl B.isinstance rfl B.str OE (by decide) (aI 4))) (bX (pB 3 .s (eB hv (aI 2) (XD (aI 1) (aI 4)) (fun _ _=>rfl)))) (bX (pB 3 .s (aI 4))))))
   (mN 3 (bX (hJ .s (mP sD sF rfl B.tuple uT (aL (aI 3) aT)))))))
def Sn:SF:=(aU (bE 1 1 .s (eC (.dict [])))
 (aU (eW .s (T7 (aG (aN wD (aG (aB 0) aK)) aK)) (cq 2) (aU (bE 3 0 .s (dG aK))
 (aU (eW .s (cf (ah bf (aB 0) (aB 2))) (cq 4) (bE 3 0 .s (ah pD (dG (aG (aB 4) aK)) (aB 3))))
 (fY 1 .s (aB 3) .s (aB 2)))))
 (fG 1 1)))
def xD:List aA->Option aA:=bz 1 5 Sn
theorem Th (F:Fun K "_law_turned" "_law_turned" MX f fd)(B:Blt mg)(C:Cst mg):FnOk P w K mg base gv 1 f fd BC (aq K 1 xD):=by
 have nd:=Aib.nd;exact gV F Aib rfl (by decide) fun ax A outer s H E P0 hr=>by
  rw[1];exact(bK (cI (i:=1) 1 .s nd rfl (by trivial) ER)
   (bK (jW iD rfl (Iw rfl B.reversed (aL (dZ (n:=1) (mP (YB rfl) YY rfl B.list PyProof.Rows.boot_list (aL (aI 0) aT))) aT)) (jD (i:=2) nd rfl (by trivial)) (bK (cI (i:=3) 0 .s nd rfl (by trivial) (dZ (n:=1) (jC aT)))
   (bK (jW iD rfl (jB (eB hv (aI 0) (aI 2) (fun _ _=>rfl))) (jD (i:=4) nd rfl (by trivial)) (bX (cI (i:=3) 0 .s nd rfl (by trivial) (dZ (n:=1) (EA (dZ (n:=1) (jC (aL (aI 4) aT))) (aI 3))))))
   (bX (EZ 1 .s .s hv (aI 3) (aI 2))))))
   (bX (tV 1))))
def ND:SF:=(cb .s (au (ah fq (aN uB (aG (aB 0) aK)) (eC (.int 4096)))) sNo dA)
def wX:List aA->Option aA:=bz 1 1 ND
theorem Ts (F:Fun K "refuse_rows" "refuse_rows" MY f fd)(B:Blt mg)(C:Cst mg)(jl:Def P w K mg base "ways_of" 1 AB (aq K 0 uB)):FnOk P w K mg base gv 2 f fd AQ (aq K 0 wX):=by
 obtain⟨_,m9⟩:=C.MOST_WAYS;have nd:=Ah5.nd;exact gV F Ah5 rfl (by decide) fun ax A outer s H E P0 hr=>by
  rw[1];exact(bX (iY .s (iQ tH tO (cB jl (by rw[00]) rfl (aL (aI 0) aT)) (Wi (i:=4096) rfl m9 ⟨_,rfl⟩) (jJ _)) (bX Hr) jP))
def Pv:SF:=(aU (bE 3 1 .s (dG aK))
 (aU (eW .s (cf (aB 0)) (cq 4) (eW .s (cf (aB 2)) (cq 5) (aU (bE 6 0 .s (aN wA (aG (aB 1) (aG (aB 5) (aG (aB 4) aK)))))
 (cb .s (au (ah JF (aB 6) (eC .none))) (eR 3 .s (aB 6)) dA))))
 (fG 3 1)))
def wQ:List aA->Option aA:=bz 3 7 Pv
theorem Rt (F:Fun K "extended" "extended" MF f fd)(B:Blt mg)(C:Cst mg)(oq:Def P w K mg base "fits" 1 zF (aq K 1 wA)):FnOk P w K mg base gv 2 f fd AH (aq K 1 wQ):=by
 have nd:=Al0.nd;exact gV F Al0 rfl (by decide) fun ax A outer s H E P0 hr=>by
  rw[1];exact(bK (cI (i:=3) 1 .s nd rfl (by trivial) (jC aT))
   (bK (jW iD rfl (jB (aI 0)) (jD (i:=4) nd rfl (by trivial)) (bX (jW iD rfl (jB (aI 2)) (jD (i:=5) nd rfl (by trivial)) (bK (cI (i:=6) 0 .s nd rfl (by trivial) (dZ (n:=1) (cB oq (by rw[00]) rfl (aL (aI 1) (aL (aI 5) (aL (aI 4) aT))))))
   (bX (iY .s (iQ Li Vq (aI 6) Ld (jJ _)) (bX (pB 3 .s (aI 6))) jP))))))
   (bX (tV 3))))
def Rz:SF:=(aU (bE 2 0 .s (aN rZ (aG (aB 0) aK)))
 (cS 1 .s (aN EO (aG (j1 [ab,aa 2] (cf (aB 1)) (gB 0) dM (aN nY (aG (aB 1) (aG (aB 0) aK)))) aK))))
def xC:List aA->Option aA:=bz 2 3 Rz
theorem So (F:Fun K "matches_of" "matches_of" GL f fd)(B:Blt mg)(C:Cst mg)(cg:Def P w K mg base "names_of" 1 wN (aq K 1 rZ))(fy:Def P w K mg base "put_in" 1 wI (aq K 0 nY)):FnOk P w K mg base gv 2 f fd AV (aq K 1 xC):=by
 have nd:=Ai1.nd;exact gV F Ai1 rfl (by decide) fun ax A outer s H E P0 hr=>by
  rw[1];exact(bK (cI (i:=2) 0 .s nd rfl (by trivial) (dZ (n:=1) (cB cg (by rw[00]) rfl (aL (aI 0) aT))))
   (bX (hJ .s (jK Sw Sh rfl B.sorted c8 (aL (dZ (n:=1) (oO rfl (mQ (N:=["known","names"]) (cap:=[ab,aa 2]) (out:=(cQ GL).names) (XN:=ZL) rfl rfl (by rw[0]) rfl) mJ (jB (aI 1)) (fun cl C s₀ H₀ ex=>⟨mO (j:=0) (show(["known","names"]:List aE).Nodup by rw[0]) rfl (aZ rfl),nV,(cB fy (by rw[00]) rfl (aL (aI 1) (aL (aI 0) aT)))⟩))) aT)))))
def Se:SF:=(aU (bE 2 0 .s (aN rZ (aG (ah bf (aB 0) (eC (.int 1))) aK)))
 (cS 1 .s (j1 [ab,aa 0,aa 2] (cf (aB 1)) (gB 0) dM (aN nY (aG (ah bf (aB 1) (eC (.int 0))) (aG (aN yV (aG (aB 2) (aG (aB 0) aK))) aK))))))
def xA:List aA->Option aA:=bz 2 3 Se
theorem Te (F:Fun K "answers_of" "answers_of" GM f fd)(B:Blt mg)(C:Cst mg)(cg:Def P w K mg base "names_of" 1 wN (aq K 1 rZ))(fy:Def P w K mg base "put_in" 1 wI (aq K 0 nY)):FnOk P w K mg base gv 2 f fd AY (aq K 1 xA):=by
 have nd:=Ajc.nd;exact gV F Ajc rfl (by decide) fun ax A outer s H E P0 hr=>by
  rw[1];exact(bK (cI (i:=2) 0 .s nd rfl (by trivial) (dZ (n:=1) (cB cg (by rw[00]) rfl (aL (eB hv (aI 0) aR (fun _ _=>rfl)) aT))))
   (bX (hJ .s (oO rfl (mQ (N:=["numbers","alternative","names"]) (cap:=[ab,aa 0,aa 2]) (out:=(cQ GM).names) (XN:=ZK) rfl rfl (by rw[0]) rfl) mJ (jB (aI 1)) (fun cl C s₀ H₀ ex=>⟨mO (j:=0) (show(["numbers","alternative","names"]:List aE).Nodup by rw[0]) rfl (aZ rfl),nV,(cB fy (by rw[00]) rfl (aL (eB hv (aI 1) aR (fun _ _=>rfl)) (aL (dZ (n:=1) (Xs rfl rfl B.dict rfl B.zip (aL (aI 2) (aL (aI 0) aT)))) aT)))⟩)))))
end Aw
namespace Aw
open PySem L2
set_option maxHeartbeats 4000000
variable {P:bP}{w:bG}{K:aM}{mg:aE->Option aC}{base:aY}{f:aD}{fd:jH}
def Sq:SF:=(aU (bE 2 0 .s (eC (.str "abcdefghijklmnopqrstuvwxyz0123456789")))
 (aU (bE 3 0 .s (ah bO (eC (.int 1)) (ah bM (aN dH (aG (aB 0) (aG (eC (.int 1)) aK))) (eC (.int 12)))))
 (aU (cb .s (au (ah fm (ah bM (aN dH (aG (aB 0) (aG (eC (.int 2)) aK))) (eC (.int 3))) (eC (.int 0)))) (bE 3 0 .s (eC (.int 12))) dA)
 (aU (bE 4 1 .s (j1 [ab,aa 2,aa 0] (j7 (aG (aB 3) aK)) (gB 0) dM (ah bf (aB 1) (ah bM (aN dH (aG (aB 2) (aG (ah bO (eC (.int 30)) (aB 0)) aK))) (eC (.int 36))))))
 (aU (fX 4 .s (ah bf (aB 2) (ah bM (aN dH (aG (aB 0) (aG (eC (.int 50)) aK))) (eC (.int 26)))) .s (eC (.int 0)))
 (aU (cb .s (au (ah fm (ah bM (aN dH (aG (aB 0) (aG (eC (.int 2)) aK))) (eC (.int 3))) (eC (.int 0)))) (cS 1 .a (j1 [ab,aa 4] (j7 (aG (aB 1) aK)) (gB 0) dM (ah vY (eC (.str "")) (kM (aB 1) oN (oS (ah bO (aB 0) (eC (.int 1)))))))) dA)
 (aU (bE 5 0 .s (ah bM (aN dH (aG (aB 0) (aG (eC (.int 3)) aK))) (aB 3)))
 (aU (bE 6 1 .s (dG aK))
 (aU (eW .s (j7 (aG (aB 1) aK)) (cq 7) (aU (fX 4 .s (ah bf (aB 2) (ah bM (ah bO (aN dH (aG (aB 0) (aG (eC (.int 4)) aK))) (aB 7)) (ah bO (eC (.int 26)) (ah dD (eC (.int 10)) (aN fW (aG (ah fq (aB 5) (eC (.int 0))) aK)))))) .s (aB 5))
 (eR 6 .a (ah vY (eC (.str "")) (aB 4)))))
 (eU 4 (fG 6 1)))))))))))
def sC:List aA->Option aA:=bz 2 8 Sq
theorem Sx (F:Fun K "_law_names" "_law_names" wZ f fd)(B:Blt mg)(C:Cst mg)(ag:Def P w K mg base "_law_mix" 1 mS (aq K 0 dH)):FnOk P w K mg base gv 2 f fd xB (aq K 1 sC):=by
 have nd:=Aje.nd;exact gV F Aje rfl (by decide) fun ax A outer s H E P0 hr=>by
  rw[1];exact(bK (cI (i:=2) 0 .s nd rfl (by trivial) NG)
   (bK (cI (i:=3) 0 .s nd rfl (by trivial) (eX aR (eE (cB ag (by rw[00]) rfl (aL (aI 0) (aL aR aT))) aR)))
   (bK (iY .s (iQ (tU hu) tR (eE (cB ag (by rw[00]) rfl (aL (aI 0) (aL aR aT))) aR) aR (jJ _)) (bX (cI (i:=3) 0 .s nd rfl (by trivial) aR)) jP)
   (bK (by first|exact(TX (i:=4) .s rfl nd rfl (by trivial) (mQ (N:=["_law_k","_law_signs","_law_cell_here"]) (cap:=[ab,aa 2,aa 0]) (out:=(cQ wZ).names) (XN:=GE) rfl rfl (by rw[0]) rfl) mJ (tL (lY rfl B.range (aL (aI 3) aT))) (fun cl C s₀ H₀ ex=>⟨mO (j:=0) (show(["_law_k","_law_signs","_law_cell_here"]:List aE).Nodup by rw[0]) rfl (aZ rfl),nV,(eB hv (aI 1) (eE (cB ag (by rw[00]) rfl (aL (aI 2) (aL (eX aR (aI 0)) aT))) aR) (fun _ _=>rfl))⟩))|exact(cI (i:=4) 1 .s nd rfl (by trivial) (oO rfl (mQ (N:=["_law_k","_law_signs","_law_cell_here"]) (cap:=[ab,aa 2,aa 0]) (out:=(cQ wZ).names) (XN:=GE) rfl rfl (by rw[0]) rfl) mJ (tL (lY rfl B.range (aL (aI 3) aT))) (fun cl C s₀ H₀ ex=>⟨mO (j:=0) (show(["_law_k","_law_signs","_law_cell_here"]:List aE).Nodup by rw[0]) rfl (aZ rfl),nV,(eB hv (aI 1) (eE (cB ag (by rw[00]) rfl (aL (aI 2) (aL (eX aR (aI 0)) aT))) aR) (fun _ _=>rfl))⟩))))
   (bK (KB 4 .s .s (eB hv (aI 2) (eE (cB ag (by rw[00]) rfl (aL (aI 0) (aL aR aT))) aR) (fun _ _=>rfl)) aR)
   (bK (iY .s (iQ (tU hu) tR (eE (cB ag (by rw[00]) rfl (aL (aI 0) (aL aR aT))) aR) aR (jJ _)) (bX (hJ .a (oO rfl (mQ (N:=["_law_k","_law_base"]) (cap:=[ab,aa 4]) (out:=(cQ wZ).names) (XN:=GE) rfl rfl (by rw[0]) rfl) mJ (tL (lY rfl B.range (aL (aI 1) aT))) (fun cl C s₀ H₀ ex=>⟨mO (j:=0) (show(["_law_k","_law_base"]:List aE).Nodup by rw[0]) rfl (aZ rfl),nV,(SG NG (dZ (n:=1) (yW (aI 1) zJ (zH (eX (aI 0) aR)))))⟩)))) jP)
   (bK (cI (i:=5) 0 .s nd rfl (by trivial) (eE (cB ag (by rw[00]) rfl (aL (aI 0) (aL aR aT))) (aI 3)))
   (bK (cI (i:=6) 1 .s nd rfl (by trivial) (jC aT))
   (bK (tW .s iD rfl (lY rfl B.range (aL (aI 1) aT)) (jD (i:=7) nd rfl (by trivial)) (bK (KB 4 .s .s (eB hv (aI 2) (eE (eX (cB ag (by rw[00]) rfl (aL (aI 0) (aL aR aT))) (aI 7)) (eX aR (kW aR (mP WA VW rfl B.int PyProof.Rows.boot_int (aL (EC tH tO (aI 5) aR (jJ _)) aT))))) (fun _ _=>rfl)) (aI 5))
   (bX (pB 6 .a (SG NG (aI 4))))))
   (mN 4 (bX (tV 6))))))))))))
def YZ:SF:=(aU (bE 1 0 .s (ah bM (aB 0) (ah gM (eC (.int 10)) (eC (.int 59)))))
 (aU (bE 2 0 .s (ah bO (ah dD (ah gM (eC (.int 10)) (eC (.int 35))) (ah gM (eC (.int 10)) (eC (.int 34)))) (aB 1)))
 (cS 1 .s (dG (aG (aB 1) (aG (ah gK (ah gK (eC (.int 0)) (aB 1)) (eC (.int 1))) (aG (ah bM (aN dH (aG (aB 0) (aG (eC (.int 31)) aK))) (eC (.int 3))) (aG (eC (.int 7)) (aG (aB 2) (aG (ah gK (eC (.int 0)) (aB 2)) aK))))))))))
def wU:List aA->Option aA:=bz 1 3 YZ
theorem Rv (F:Fun K "_law_pool" "_law_pool" MP f fd)(B:Blt mg)(C:Cst mg)(ag:Def P w K mg base "_law_mix" 1 mS (aq K 0 dH)):FnOk P w K mg base gv 2 f fd AN (aq K 1 wU):=by
 have nd:=Akz.nd;exact gV F Akz rfl (by decide) fun ax A outer s H E P0 hr=>by
  rw[1];exact(bK (cI (i:=1) 0 .s nd rfl (by trivial) (eE (aI 0) (NK aR aR)))
   (bK (cI (i:=2) 0 .s nd rfl (by trivial) (eX (kW (NK aR aR) (NK aR aR)) (aI 1)))
   (bX (hJ .s (jC (aL (aI 1) (aL (DU (DU aR (aI 1)) aR) (aL (eE (cB ag (by rw[00]) rfl (aL (aI 0) (aL aR aT))) aR) (aL aR (aL (aI 2) (aL (DU aR (aI 2)) aT)))))))))))
def Rl:SF:=(aU (bE 3 0 .s (aN dH (aG (aB 0) (aG (eC (.int 7)) aK))))
 (aU (cb .s (au (ah jd (ah bM (aB 3) (eC (.int 5))) (eC (.int 4)))) (cS 0 .s (ah bf (aB 1) (ah bM (ah dY (aB 3) (eC (.int 5))) (aN cN (aG (aB 1) aK))))) dA)
 (cS 0 .s (ah bf (aB 2) (ah bM (ah dY (aB 3) (eC (.int 5))) (eC (.int 4)))))))
def wR:List aA->Option aA:=bz 3 4 Rl
theorem Rw (F:Fun K "_law_term" "_law_term" MS f fd)(B:Blt mg)(C:Cst mg)(ag:Def P w K mg base "_law_mix" 1 mS (aq K 0 dH)):FnOk P w K mg base gv 2 f fd AO (aq K 0 wR):=by
 have nd:=Aky.nd;exact gV F Aky rfl (by decide) fun ax A outer s H E P0 hr=>by
  rw[1];exact(bK (cI (i:=3) 0 .s nd rfl (by trivial) (cB ag (by rw[00]) rfl (aL (aI 0) (aL aR aT))))
   (bK (iY .s (iQ (Bdx.or WY) Au (eE (aI 3) aR) aR (jJ _)) (bX (hJ .s (eB hv (aI 1) (eE (pT (aI 3) aR) (jK kG kF rfl B.len kJ (aL (aI 1) aT))) (fun _ _=>rfl)))) jP)
   (bX (hJ .s (eB hv (aI 2) (eE (pT (aI 3) aR) aR) (fun _ _=>rfl))))))
def Tj:SF:=(aU (bE 4 1 .s (dG aK))
 (aU (eW .s (cf (ah bf (aB 1) (eC (.int 1)))) (cq 5) (cb .s (au (gc (eJ "str") (aB 5))) (eR 4 .s (ah bf (aB 3) (ah bM (aN dH (aG (aB 0) (aG (ah bO (eC (.int 34)) (ah EU (aB 2) (aB 5))) aK))) (eC (.int 6))))) (eR 4 .s (aB 5))))
 (eU 4 (cS 0 .s (aN fH (aG (aB 4) aK))))))
def uE:List aA->Option aA:=bz 4 6 Tj
theorem To (F:Fun K "_law_planted" "_law_planted" NA f fd)(B:Blt mg)(C:Cst mg)(ag:Def P w K mg base "_law_mix" 1 mS (aq K 0 dH)):FnOk P w K mg base gv 2 f fd BA (aq K 0 uE):=by
 have nd:=Ahh.nd;exact gV F Ahh rfl (by decide) fun ax A outer s H E P0 hr=>by
  rw[1];exact(bK (cI (i:=4) 1 .s nd rfl (by trivial) (jC aT))
   (bK (jW iD rfl (jB (eB hv (aI 1) aR (fun _ _=>rfl))) (jD (i:=5) nd rfl (by trivial)) (bX (iY .s (yZ (ED (T:="str") rfl B.isinstance rfl B.str OE (by decide) (aI 5))) (bX (pB 4 .s (eB hv (aI 3) (eE (cB ag (by rw[00]) rfl (aL (aI 0) (aL (eX aR (XD (aI 2) (aI 5))) aT))) aR) (fun _ _=>rfl)))) (bX (pB 4 .s (aI 5))))))
   (mN 4 (bX (hJ .s (mP sD sF rfl B.tuple uT (aL (aI 4) aT)))))))
def Ro:SF:=(aU (bE 4 9 .s (eC (.dict [(.none,.none)])))
 (aU (eW .s (cf (aB 1)) (rL 5 6) (eW .s (j7 (aG (eC (.int 216)) aK)) (cq 7) (aU (bE 8 0 .s (dG (aG (ah bf (aB 3) (ah bM (aB 7) (eC (.int 6)))) (aG (ah bf (aB 3) (ah bM (ah dY (aB 7) (eC (.int 6))) (eC (.int 6)))) (aG (ah bf (aB 3) (ah dY (aB 7) (eC (.int 36)))) aK)))))
 (aU (bE 9 0 .s (eC (.bool ae)))
 (aU (eW .s (cf (aB 6)) (cq 10) (aU (bE 11 0 .s (aN uD (aG (ah bf (aB 10) (eC (.int 1))) (aG (aB 2) (aG (aB 8) aK)))))
 (bE 9 0 .s (gP (aB 9) (ah (n8 af) (aB 11) (fK (aB 0) (ah bf (aB 10) (eC (.int 0))) (dG aK)))))))
 (cb .s (au (aB 9)) (GP 4 .s (eC (.bool ae)) .s (aN uD (aG (aB 5) (aG (aB 2) (aG (aB 8) aK))))) dA))))))
 (eU 4 (cS 0 .s (aB 4)))))
def wW:List aA->Option aA:=bz 4 12 Ro
theorem Sj (F:Fun K "_law_owed" "_law_owed" MO f fd)(B:Blt mg)(C:Cst mg)(gg:Def P w K mg base "_law_put" 1 AI (aq K 0 uD)):FnOk P w K mg base gv 2 f fd AJ (aq K 0 wW):=by
 have nd:=Aku.nd;exact gV F Aku rfl (by decide) fun ax A outer s H E P0 hr=>by
  rw[1];exact(bK (cI (i:=4) 9 .s nd rfl (by trivial) Vb)
   (bK (jW iD rfl (jB (aI 1)) (zN (i:=5) (j:=6) rfl nd rfl rfl (by trivial) (by trivial)) (bX (tW .s iD rfl (lY rfl B.range (aL aR aT)) (jD (i:=7) nd rfl (by trivial)) (bK (cI (i:=8) 0 .s nd rfl (by trivial) (dZ (n:=1) (jC (aL (eB hv (aI 3) (eE (aI 7) aR) (fun _ _=>rfl)) (aL (eB hv (aI 3) (eE (pT (aI 7) aR) aR) (fun _ _=>rfl)) (aL (eB hv (aI 3) (pT (aI 7) aR) (fun _ _=>rfl)) aT))))))
   (bK (cI (i:=9) 0 .s nd rfl (by trivial) vW)
   (bK (jW iD rfl (jB (aI 6)) (jD (i:=10) nd rfl (by trivial)) (bK (cI (i:=11) 0 .s nd rfl (by trivial) (cB gg (by rw[00]) rfl (aL (eB hv (aI 10) aR (fun _ _=>rfl)) (aL (aI 2) (aL (aI 8) aT)))))
   (bX (cI (i:=9) 0 .s nd rfl (by trivial) (Kc (aI 9) (Jm (EC (Xo hu) vZ (aI 11) (FA hv (aI 0) (eB hv (aI 10) aR (fun _ _=>rfl)) (dZ (n:=1) (jC aT))) (by with_unfolding_all rfl))))))))
   (bX (iY .s (yZ (aI 9)) (bX (Ue 4 .s .s hv vW (cB gg (by rw[00]) rfl (aL (aI 5) (aL (aI 2) (aL (aI 8) aT)))))) jP))))))))
   (mN 4 (bX (hJ .s (aI 4))))))
def NB:SF:=(rP .s (aN wX (aG (j1 [ab,aa 0] (cf (aB 1)) (gB 0) dM (aN pA (aG (aB 1) (aG (aB 0) aK)))) aK)))
def qT:List aA->Option aA:=bz 2 2 NB
theorem Tg (F:Fun K "refuse_ways" "refuse_ways" GI f fd)(B:Blt mg)(C:Cst mg)(cr:Def P w K mg base "rows_of" 1 wL (aq K 0 pA))(dm:Def P w K mg base "refuse_rows" 2 AQ (aq K 0 wX)):FnOk P w K mg base gv 3 f fd wY (aq K 0 qT):=by
 have nd:=Ah6.nd;exact gV F Ah6 rfl (by decide) fun ax A outer s H E P0 hr=>by
  rw[1];exact(bX (JQ .s (cB dm (by rw[00]) rfl (aL (dZ (n:=1) (oO rfl (mQ (N:=["line","book"]) (cap:=[ab,aa 0]) (out:=(cQ GI).names) (XN:=ZW) rfl rfl (by rw[0]) rfl) mJ (jB (aI 1)) (fun cl C s₀ H₀ ex=>⟨mO (j:=0) (show(["line","book"]:List aE).Nodup by rw[0]) rfl (aZ rfl),nV,(cB cr (by rw[00]) rfl (aL (aI 1) (aL (aI 0) aT)))⟩))) aT))))
def Vx:SF:=(aU (bE 2 0 .s (dG (aG (eC (.dict [])) aK)))
 (aU (eW .s (iZ (aG (aB 0) (aG (aB 1) aK))) (rL 3 4) (bE 2 0 .s (aN wQ (aG (aB 2) (aG (aB 3) (aG (aB 4) aK))))))
 (cS 0 .s (aB 2))))
def wH:List aA->Option aA:=bz 2 5 Vx
theorem Zw (F:Fun K "walked" "walked" LD f fd)(B:Blt mg)(C:Cst mg)(i5:Def P w K mg base "extended" 2 AH (aq K 1 wQ)):FnOk P w K mg base gv 3 f fd zT (aq K 0 wH):=by
 have nd:=Aql.nd;exact gV F Aql rfl (by decide) fun ax A outer s H E P0 hr=>by
  rw[1];exact(bK (cI (i:=2) 0 .s nd rfl (by trivial) (dZ (n:=1) (jC (aL (dZ (n:=1) ER) aT))))
   (bK (jW iD rfl (Ax rfl B.zip (aL (aI 0) (aL (aI 1) aT))) (zN (i:=3) (j:=4) rfl nd rfl rfl (by trivial) (by trivial)) (bX (cI (i:=2) 0 .s nd rfl (by trivial) (dZ (n:=1) (cB i5 (by rw[00]) rfl (aL (aI 2) (aL (aI 3) (aL (aI 4) aT))))))))
   (bX (hJ .s (aI 2)))))
def Tf:SF:=(aU (bE 2 1 .s (dG aK))
 (aU (eW .s (cf (aN sC (aG (aB 0) (aG (aB 1) aK)))) (cq 3) (aU (bE 4 0 .a (aN dH (aG (aB 0) (aG (ah bO (eC (.int 60)) (aN cN (aG (aB 2) aK))) aK))))
 (aU (bE 5 0 .s (ah bO (eC (.int 1)) (ah bM (ah dY (aB 4) (eC (.int 4))) (eC (.int 3)))))
 (aU (cb .s (au (ah fm (ah bM (aB 4) (eC (.int 4))) (eC (.int 0)))) (bE 5 0 .s (ah bO (eC (.int 1)) (ah bM (ah dY (aB 4) (eC (.int 4))) (eC (.int 6))))) dA)
 (eR 2 .s (gD (aG (aB 3) (aG (aB 5) aK))))))))
 (fG 2 1)))
def AS:List aA->Option aA:=bz 2 6 Tf
theorem Tr (F:Fun K "_law_tables" "_law_tables" MZ f fd)(B:Blt mg)(C:Cst mg)(ag:Def P w K mg base "_law_mix" 1 mS (aq K 0 dH))(bt:Def P w K mg base "_law_names" 2 xB (aq K 1 sC)):FnOk P w K mg base gv 3 f fd AR (aq K 1 AS):=by
 have nd:=Ah9.nd;exact gV F Ah9 rfl (by decide) fun ax A outer s H E P0 hr=>by
  rw[1];exact(bK (cI (i:=2) 1 .s nd rfl (by trivial) (jC aT))
   (bK (jW iD rfl (jB (dZ (n:=1) (cB bt (by rw[00]) rfl (aL (aI 0) (aL (aI 1) aT))))) (jD (i:=3) nd rfl (by trivial)) (bK (cI (i:=4) 0 .a nd rfl (by trivial) (cB ag (by rw[00]) rfl (aL (aI 0) (aL (eX aR (jK kG kF rfl B.len kJ (aL (aI 2) aT))) aT))))
   (bK (cI (i:=5) 0 .s nd rfl (by trivial) (eX aR (eE (pT (aI 4) aR) aR)))
   (bK (iY .s (iQ (tU hu) tR (eE (aI 4) aR) aR (jJ _)) (bX (cI (i:=5) 0 .s nd rfl (by trivial) (eX aR (eE (pT (aI 4) aR) aR)))) jP)
   (bX (pB 2 .s (JK (aL (aI 3) (aL (aI 5) aT)))))))))
   (bX (tV 2))))
def Sa:SF:=(aU (bE 6 1 .s (dG aK))
 (aU (bE 7 0 .s (aB 1))
 (aU (eW .s (j7 (aG (aB 5) aK)) (cq 8) (aU (bE 9 0 .s (aN dH (aG (aN fL (aG (aB 0) (aG (aB 7) aK))) (aG (eC (.int 8)) aK))))
 (aU (bE 10 0 .s (ah bf (aB 2) (ah bM (aB 9) (aN cN (aG (aB 2) aK)))))
 (aU (bE 11 1 .s (j1 [ab,aa 3,aa 4,aa 0,aa 7] (j7 (aG (ah bf (aB 10) (eC (.int 1))) aK)) (gB 0) dM (aN wR (aG (aN fL (aG (aB 3) (aG (ah bO (ah bO (aB 4) (eC (.int 1))) (aB 0)) aK))) (aG (aB 1) (aG (aB 2) aK))))))
 (eU 11 (aU (eR 6 .s (gD (aG (ah bf (aB 10) (eC (.int 0))) (aG (aN fH (aG (aB 11) aK)) aK))))
 (aU (cb .s (fT (au (ah fq (aB 8) (eC (.int 0)))) (au (ah fm (ah bM (ah dY (aB 9) (eC (.int 8))) (eC (.int 9))) (eC (.int 0))))) (fX 6 .a (ah bf (aB 6) (ah bM (ah dY (aB 9) (eC (.int 72))) (aB 8))) .s (aB 8)) dA)
 (bE 7 0 .s (ah bO (ah bO (aB 7) (eC (.int 1))) (ah bf (aB 10) (eC (.int 1))))))))))))
 (fG 6 1))))
def AZ:List aA->Option aA:=bz 6 12 Sa
theorem Sl (F:Fun K "_law_lines" "_law_lines" AX f fd)(B:Blt mg)(C:Cst mg)(aj:Def P w K mg base "_law_cell" 1 sE (aq K 0 fL))(ag:Def P w K mg base "_law_mix" 1 mS (aq K 0 dH))(dk:Def P w K mg base "_law_term" 2 AO (aq K 0 wR)):FnOk P w K mg base gv 3 f fd AW (aq K 1 AZ):=by
 have nd:=Aj1.nd;exact gV F Aj1 rfl (by decide) fun ax A outer s H E P0 hr=>by
  rw[1];exact(bK (cI (i:=6) 1 .s nd rfl (by trivial) (jC aT))
   (bK (cI (i:=7) 0 .s nd rfl (by trivial) (aI 1))
   (bK (tW .s iD rfl (lY rfl B.range (aL (aI 5) aT)) (jD (i:=8) nd rfl (by trivial)) (bK (cI (i:=9) 0 .s nd rfl (by trivial) (cB ag (by rw[00]) rfl (aL (cB aj (by rw[00]) rfl (aL (aI 0) (aL (aI 7) aT))) (aL aR aT))))
   (bK (cI (i:=10) 0 .s nd rfl (by trivial) (eB hv (aI 2) (eE (aI 9) (jK kG kF rfl B.len kJ (aL (aI 2) aT))) (fun _ _=>rfl)))
   (bK (by first|exact(TX (i:=11) .s rfl nd rfl (by trivial) (mQ (N:=["_law_j","_law_names_here","_law_pool_here","_law_script","_law_at"]) (cap:=[ab,aa 3,aa 4,aa 0,aa 7]) (out:=(cQ AX).names) (XN:=MW) rfl rfl (by rw[0]) rfl) mJ (tL (lY rfl B.range (aL (eB hv (aI 10) aR (fun _ _=>rfl)) aT))) (fun cl C s₀ H₀ ex=>⟨mO (j:=0) (show(["_law_j","_law_names_here","_law_pool_here","_law_script","_law_at"]:List aE).Nodup by rw[0]) rfl (aZ rfl),nV,(cB dk (by rw[00]) rfl (aL (cB aj (by rw[00]) rfl (aL (aI 3) (aL (eX (eX (aI 4) aR) (aI 0)) aT))) (aL (aI 1) (aL (aI 2) aT))))⟩))|exact(cI (i:=11) 1 .s nd rfl (by trivial) (oO rfl (mQ (N:=["_law_j","_law_names_here","_law_pool_here","_law_script","_law_at"]) (cap:=[ab,aa 3,aa 4,aa 0,aa 7]) (out:=(cQ AX).names) (XN:=MW) rfl rfl (by rw[0]) rfl) mJ (tL (lY rfl B.range (aL (eB hv (aI 10) aR (fun _ _=>rfl)) aT))) (fun cl C s₀ H₀ ex=>⟨mO (j:=0) (show(["_law_j","_law_names_here","_law_pool_here","_law_script","_law_at"]:List aE).Nodup by rw[0]) rfl (aZ rfl),nV,(cB dk (by rw[00]) rfl (aL (cB aj (by rw[00]) rfl (aL (aI 3) (aL (eX (eX (aI 4) aR) (aI 0)) aT))) (aL (aI 1) (aL (aI 2) aT))))⟩))))
   (mN 11 (bK (pB 6 .s (JK (aL (eB hv (aI 10) aR (fun _ _=>rfl)) (aL (mP sD sF rfl B.tuple uT (aL (aI 11) aT)) aT))))
   (bK (iY .s (IV (NM (iQ tH tO (aI 8) aR (jJ _)) (SE (iQ (tU hu) tR (eE (pT (aI 9) aR) aR) aR (jJ _))))) (bX (KB 6 .a .s (eB hv (aI 6) (eE (pT (aI 9) aR) (aI 8)) (fun _ _=>rfl)) (aI 8))) jP)
   (bX (cI (i:=7) 0 .s nd rfl (by trivial) (eX (eX (aI 7) aR) (eB hv (aI 10) aR (fun _ _=>rfl))))))))))))
   (bX (tV 6)))))
def Qp:SF:=(aU (bE 7 1 .s (eC (.dict [])))
 (aU (eW .s (cf (aB 2)) (rL 8 9) (aU (bE 10 1 .s (dG aK))
 (aU (eW .a (j7 (aG (ah bM (aN dH (aG (aN fL (aG (aB 0) (aG (ah bO (aB 1) (aN cN (aG (aB 7) aK))) aK))) (aG (eC (.int 32)) aK))) (ah bO (aB 6) (eC (.int 1)))) aK)) (cq 11) (aU (bE 12 0 .a (ah bO (aN fL (aG (aB 0) (aG (ah bO (ah bO (ah bO (aB 1) (eC (.int 3))) (ah dD (eC (.int 5)) (aN cN (aG (aB 7) aK)))) (aB 11)) aK))) (aB 11)))
 (aU (bE 13 0 .s (aN fH (aG (j1 [ab,aa 5,aa 12] (j7 (aG (aB 9) aK)) (gB 0) dM (ah bf (aB 1) (ah bM (aN dH (aG (aB 2) (aG (ah bO (eC (.int 40)) (aB 0)) aK))) (eC (.int 3))))) aK)))
 (cb .a (au (ah (n8 ae) (aB 13) (aB 10))) (eR 10 .s (aB 13)) dA))))
 (eU 10 (aU (eW .s (j7 (aG (ah dD (eC (.int 2)) (aN cN (aG (aB 3) aK))) aK)) (cq 14) (aU (bE 12 0 .s (aN fL (aG (aB 0) (aG (ah bO (ah bO (aB 1) (eC (.int 1))) (ah bM (aB 14) (eC (.int 2)))) aK))))
 (aU (bE 13 0 .s (aN uE (aG (aB 12) (aG (ah bf (aB 3) (ah dY (aB 14) (eC (.int 2)))) (aG (aB 4) (aG (aB 5) aK))))))
 (cb .s (fT (au (ah fm (ah bf (ah bf (aB 3) (ah dY (aB 14) (eC (.int 2)))) (eC (.int 0))) (aB 8))) (fT (au (ah (n8 ae) (aB 13) (aB 10))) (au (ah fq (ah bM (aN dH (aG (aB 12) (aG (ah bO (eC (.int 54)) (aB 14)) aK))) (eC (.int 5))) (eC (.int 0)))))) (aU (bE 15 0 .s (ah bM (aN dH (aG (aB 12) (aG (eC (.int 52)) aK))) (ah bO (aN cN (aG (aB 10) aK)) (eC (.int 1)))))
 (bE 10 0 .s (kM (ah pD (ah pD (kM (aB 10) oN (oS (aB 15))) (dG (aG (aB 13) aK))) (kM (aB 10) (oS (aB 15)) oN)) oN (oS (aB 6))))) dA))))
 (cb .s (jt (au (ah fq (aN cN (aG (aB 10) aK)) (eC (.int 0)))) (au (ah fm (ah bM (aN dH (aG (aN fL (aG (aB 0) (aG (aB 1) aK))) (aG (eC (.int 53)) aK))) (eC (.int 2))) (eC (.int 0))))) (fY 7 .s (aB 10) .s (aB 8)) dA))))))
 (fG 7 1)))
def wV:List aA->Option aA:=bz 7 16 Qp
theorem Rj (F:Fun K "_law_book" "_law_book" GH f fd)(B:Blt mg)(C:Cst mg)(aj:Def P w K mg base "_law_cell" 1 sE (aq K 0 fL))(ag:Def P w K mg base "_law_mix" 1 mS (aq K 0 dH))(cw:Def P w K mg base "_law_planted" 2 BA (aq K 0 uE)):FnOk P w K mg base gv 3 f fd AM (aq K 1 wV):=by
 have nd:=Akx.nd;exact gV F Akx rfl (by decide) fun ax A outer s H E P0 hr=>by
  rw[1];exact(bK (cI (i:=7) 1 .s nd rfl (by trivial) ER)
   (bK (jW iD rfl (jB (aI 2)) (zN (i:=8) (j:=9) rfl nd rfl rfl (by trivial) (by trivial)) (bK (cI (i:=10) 1 .s nd rfl (by trivial) (jC aT))
   (bK (tW .a iD rfl (lY rfl B.range (aL (eE (cB ag (by rw[00]) rfl (aL (cB aj (by rw[00]) rfl (aL (aI 0) (aL (eX (aI 1) (jK kG kF rfl B.len kJ (aL (aI 7) aT))) aT))) (aL aR aT))) (eX (aI 6) aR)) aT)) (jD (i:=11) nd rfl (by trivial)) (bK (cI (i:=12) 0 .a nd rfl (by trivial) (eX (cB aj (by rw[00]) rfl (aL (aI 0) (aL (eX (eX (eX (aI 1) aR) (kW aR (jK kG kF rfl B.len kJ (aL (aI 7) aT)))) (aI 11)) aT))) (aI 11)))
   (bK (cI (i:=13) 0 .s nd rfl (by trivial) (mP sD sF rfl B.tuple uT (aL (dZ (n:=1) (oO rfl (mQ (N:=["_law_i","_law_pool_here","_law_cell_here"]) (cap:=[ab,aa 5,aa 12]) (out:=(cQ GH).names) (XN:=ZA) rfl rfl (by rw[0]) rfl) mJ (tL (lY rfl B.range (aL (aI 9) aT))) (fun cl C s₀ H₀ ex=>⟨mO (j:=0) (show(["_law_i","_law_pool_here","_law_cell_here"]:List aE).Nodup by rw[0]) rfl (aZ rfl),nV,(eB hv (aI 1) (eE (cB ag (by rw[00]) rfl (aL (aI 2) (aL (eX aR (aI 0)) aT))) aR) (fun _ _=>rfl))⟩))) aT)))
   (bX (iY .a (iQ (AK hu) vZ (aI 13) (aI 10) (by with_unfolding_all rfl)) (bX (pB 10 .s (aI 13))) jP)))))
   (mN 10 (bK (tW .s iD rfl (lY rfl B.range (aL (kW aR (jK kG kF rfl B.len kJ (aL (aI 3) aT))) aT)) (jD (i:=14) nd rfl (by trivial)) (bK (cI (i:=12) 0 .s nd rfl (by trivial) (cB aj (by rw[00]) rfl (aL (aI 0) (aL (eX (eX (aI 1) aR) (eE (aI 14) aR)) aT))))
   (bK (cI (i:=13) 0 .s nd rfl (by trivial) (cB cw (by rw[00]) rfl (aL (aI 12) (aL (eB hv (aI 3) (pT (aI 14) aR) (fun _ _=>rfl)) (aL (aI 4) (aL (aI 5) aT))))))
   (bX (iY .s (IV (NM (iQ (tU hu) tR (eB hv (eB hv (aI 3) (pT (aI 14) aR) (fun _ _=>rfl)) aR (fun _ _=>rfl)) (aI 8) (jJ _)) (NM (iQ (AK hu) vZ (aI 13) (aI 10) (by with_unfolding_all rfl)) (SE (iQ tH tO (eE (cB ag (by rw[00]) rfl (aL (aI 12) (aL (eX aR (aI 14)) aT))) aR) aR (jJ _)))))) (bK (cI (i:=15) 0 .s nd rfl (by trivial) (eE (cB ag (by rw[00]) rfl (aL (aI 12) (aL aR aT))) (eX (jK kG kF rfl B.len kJ (aL (aI 10) aT)) aR)))
   (bX (cI (i:=10) 0 .s nd rfl (by trivial) (dZ (n:=1) (yW (dZ (n:=1) (EA (dZ (n:=1) (EA (dZ (n:=1) (yW (aI 10) zJ (zH (aI 15)))) (dZ (n:=1) (jC (aL (aI 13) aT))))) (dZ (n:=1) (yW (aI 10) (zH (aI 15)) zJ)))) zJ (zH (aI 6))))))) jP)))))
   (bX (iY .s (IV (Fx (iQ tH tO (jK kG kF rfl B.len kJ (aL (aI 10) aT)) aR (jJ _)) (Ju (iQ (tU hu) tR (eE (cB ag (by rw[00]) rfl (aL (cB aj (by rw[00]) rfl (aL (aI 0) (aL (aI 1) aT))) (aL aR aT))) aR) aR (jJ _))))) (bX (EZ 7 .s .s hv (aI 10) (aI 8))) jP)))))))
   (bX (tV 7))))
def b4:SF:=(aU (rP .s (aN qT (aG (aB 0) (aG (aB 1) aK))))
 (cS 1 .s (aN xC (aG (aB 1) (aG (aN wH (aG (aB 1) (aG (j1 [ab,aa 0] (cf (aB 1)) (gB 0) dM (aN pA (aG (aB 1) (aG (aB 0) aK)))) aK))) aK)))))
def uA:List aA->Option aA:=bz 2 2 b4
theorem Ph (F:Fun K "matches" "matches" FP f fd)(B:Blt mg)(C:Cst mg)(cr:Def P w K mg base "rows_of" 1 wL (aq K 0 pA))(gi:Def P w K mg base "matches_of" 2 AV (aq K 1 xC))(az:Def P w K mg base "refuse_ways" 3 wY (aq K 0 qT))(kc:Def P w K mg base "walked" 3 zT (aq K 0 wH)):FnOk P w K mg base gv 4 f fd AA (aq K 1 uA):=by
 have nd:=Aod.nd;exact gV F Aod rfl (by decide) fun ax A outer s H E P0 hr=>by
  rw[1];exact(bK (JQ .s (cB az (by rw[00]) rfl (aL (aI 0) (aL (aI 1) aT))))
   (bX (hJ .s (cB gi (by rw[00]) rfl (aL (aI 1) (aL (cB kc (by rw[00]) rfl (aL (aI 1) (aL (dZ (n:=1) (oO rfl (mQ (N:=["line","book"]) (cap:=[ab,aa 0]) (out:=(cQ FP).names) (XN:=XW) rfl rfl (by rw[0]) rfl) mJ (jB (aI 1)) (fun cl C s₀ H₀ ex=>⟨mO (j:=0) (show(["line","book"]:List aE).Nodup by rw[0]) rfl (aZ rfl),nV,(cB cr (by rw[00]) rfl (aL (aI 1) (aL (aI 0) aT)))⟩))) aT))) aT))))))
def Tw:SF:=(aU (bE 6 0 .s (aN fL (aG (aB 0) (aG (aB 1) aK))))
 (aU (bE 7 0 .s (aN AZ (aG (aB 0) (aG (ah bO (aB 1) (eC (.int 1))) (aG (aB 2) (aG (aB 3) (aG (aB 4) (aG (ah bM (aN dH (aG (aB 6) (aG (eC (.int 11)) aK))) (eC (.int 4))) aK))))))))
 (aU (bE 8 1 .s (dG (aG (ah bf (aB 4) (ah bM (aN dH (aG (aB 6) (aG (eC (.int 12)) aK))) (eC (.int 4)))) aK)))
 (aU (eW .s (cf (aB 7)) (cq 9) (rO 8 .s (ah bf (aB 9) (eC (.int 1)))))
 (eU 8 (aU (bE 10 1 .s (dG aK))
 (aU (eW .s (j7 (aG (aB 5) aK)) (cq 11) (eR 10 .s (ah bf (aB 8) (ah bM (aN dH (aG (aB 6) (aG (ah bO (eC (.int 13)) (aB 11)) aK))) (aN cN (aG (aB 8) aK))))))
 (eU 10 (cS 0 .s (gD (aG (aN fH (aG (aB 10) aK)) (aG (aN fH (aG (aB 7) aK)) aK))))))))))))
def xE:List aA->Option aA:=bz 6 12 Tw
theorem Tv (F:Fun K "_law_alternative" "_law_alternative" NF f fd)(B:Blt mg)(C:Cst mg)(aj:Def P w K mg base "_law_cell" 1 sE (aq K 0 fL))(ag:Def P w K mg base "_law_mix" 1 mS (aq K 0 dH))(gj:Def P w K mg base "_law_lines" 3 AW (aq K 1 AZ)):FnOk P w K mg base gv 4 f fd BD (aq K 0 xE):=by
 have nd:=Afw.nd;exact gV F Afw rfl (by decide) fun ax A outer s H E P0 hr=>by
  rw[1];exact(bK (cI (i:=6) 0 .s nd rfl (by trivial) (cB aj (by rw[00]) rfl (aL (aI 0) (aL (aI 1) aT))))
   (bK (cI (i:=7) 0 .s nd rfl (by trivial) (dZ (n:=1) (cB gj (by rw[00]) rfl (aL (aI 0) (aL (eX (aI 1) aR) (aL (aI 2) (aL (aI 3) (aL (aI 4) (aL (eE (cB ag (by rw[00]) rfl (aL (aI 6) (aL aR aT))) aR) aT)))))))))
   (bK (cI (i:=8) 1 .s nd rfl (by trivial) (jC (aL (eB hv (aI 4) (eE (cB ag (by rw[00]) rfl (aL (aI 6) (aL aR aT))) aR) (fun _ _=>rfl)) aT)))
   (bK (jW iD rfl (jB (aI 7)) (jD (i:=9) nd rfl (by trivial)) (bX (ME 8 .s (eB hv (aI 9) aR (fun _ _=>rfl)))))
   (mN 8 (bK (cI (i:=10) 1 .s nd rfl (by trivial) (jC aT))
   (bK (tW .s iD rfl (lY rfl B.range (aL (aI 5) aT)) (jD (i:=11) nd rfl (by trivial)) (bX (pB 10 .s (eB hv (aI 8) (eE (cB ag (by rw[00]) rfl (aL (aI 6) (aL (eX aR (aI 11)) aT))) (jK kG kF rfl B.len kJ (aL (aI 8) aT))) (fun _ _=>rfl)))))
   (mN 10 (bX (hJ .s (JK (aL (mP sD sF rfl B.tuple uT (aL (aI 10) aT)) (aL (mP sD sF rfl B.tuple uT (aL (aI 7) aT)) aT)))))))))))))
def Nu:SF:=(aU (eW .s (cf (aB 1)) (cq 2) (rP .s (aN qT (aG (aB 0) (aG (ah bf (aB 2) (eC (.int 1))) aK)))))
 (aU (bE 3 1 .s (dG aK))
 (aU (eW .s (cf (aB 1)) (cq 2) (rO 3 .s (aN xA (aG (aB 2) (aG (aN uA (aG (aB 0) (aG (ah bf (aB 2) (eC (.int 1))) aK))) aK)))))
 (eU 3 (cS 1 .s (aN MD (aG (aB 3) aK)))))))
def rY:List aA->Option aA:=bz 2 4 Nu
theorem Qa (F:Fun K "answers" "answers" LU f fd)(B:Blt mg)(C:Cst mg)(gk:Def P w K mg base "answers_of" 2 AY (aq K 1 xA))(az:Def P w K mg base "refuse_ways" 3 wY (aq K 0 qT))(jm:Def P w K mg base "matches" 4 AA (aq K 1 uA)):FnOk P w K mg base gv 5 f fd zZ (aq K 1 rY):=by
 have nd:=Aoc.nd;exact gV F Aoc rfl (by decide) fun ax A outer s H E P0 hr=>by
  rw[1];exact(bK (jW iD rfl (jB (aI 1)) (jD (i:=2) nd rfl (by trivial)) (bX (JQ .s (cB az (by rw[00]) rfl (aL (aI 0) (aL (eB hv (aI 2) aR (fun _ _=>rfl)) aT))))))
   (bK (cI (i:=3) 1 .s nd rfl (by trivial) (jC aT))
   (bK (jW iD rfl (jB (aI 1)) (jD (i:=2) nd rfl (by trivial)) (bX (ME 3 .s (dZ (n:=1) (cB gk (by rw[00]) rfl (aL (aI 2) (aL (dZ (n:=1) (cB jm (by rw[00]) rfl (aL (aI 0) (aL (eB hv (aI 2) aR (fun _ _=>rfl)) aT)))) aT)))))))
   (mN 3 (bX (hJ .s (Rx rfl hv rfl B.sorted rfl B.set (aI 3))))))))
end Aw
namespace Aw
open PySem L2
set_option maxHeartbeats 4000000
variable {P:bP}{w:bG}{K:aM}{mg:aE->Option aC}{base:aY}{f:aD}{fd:jH}
def Hq:SF:=(aU (bE 1 0 .s (aN AS (aG (aN fL (aG (aB 0) (aG (eC (.int 0)) aK))) (aG (eC (.int 3)) aK))))
 (aU (bE 2 0 .s (aN sC (aG (aN fL (aG (aB 0) (aG (eC (.int 1)) aK))) (aG (eC (.int 3)) aK))))
 (aU (bE 3 0 .s (aN wU (aG (aN fL (aG (aB 0) (aG (eC (.int 2)) aK))) aK)))
 (aU (bE 4 0 .s (ah bM (aN dH (aG (aN fL (aG (aB 0) (aG (eC (.int 3)) aK))) (aG (eC (.int 9)) aK))) (eC (.int 4))))
 (aU (bE 5 1 .s (dG aK))
 (aU (bE 6 1 .s (dG aK))
 (aU (eW .s (j7 (aG (ah bO (eC (.int 1)) (ah bM (aN dH (aG (aN fL (aG (aB 0) (aG (eC (.int 3)) aK))) (aG (eC (.int 10)) aK))) (eC (.int 2)))) aK)) (cq 7) (aU (eR 5 .s (aN xE (aG (aB 0) (aG (ah bO (eC (.int 4)) (ah dD (eC (.int 22)) (aB 7))) (aG (aB 1) (aG (aB 2) (aG (aB 3) (aG (aB 4) aK))))))))
 (rO 6 .a (ah bf (ah bf (aB 5) (aB 7)) (eC (.int 1))))))
 (eU 5 (eU 6 (aU (bE 8 0 .s (ah gK (eC (.int 12)) (ah dD (eC (.int 4)) (aN fW (aG (ah fq (aN cN (aG (aB 6) aK)) (eC (.int 3))) aK)))))
 (aU (bE 9 1 .s (aN wV (aG (aB 0) (aG (eC (.int 48)) (aG (aB 1) (aG (kM (aB 6) oN (oS (eC (.int 5)))) (aG (aB 2) (aG (aB 3) (aG (aB 8) aK)))))))))
 (aU (bE 10 0 .a (aN wW (aG (aB 9) (aG (aB 5) (aG (aB 2) (aG (aB 3) aK))))))
 (aU (bE 11 0 .a (aN rY (aG (aB 9) (aG (aB 5) aK))))
 (aU (cb .s (au (ah gf (aN cN (aG (aB 11) aK)) (aN GZ (aG (aB 10) aK)))) (cS 0 .s (eC (.bool af))) dA)
 (aU (eW .s (cf (aB 11)) (cq 12) (cb .s (au (ah (n8 ae) (aB 12) (aB 10))) (cS 0 .s (eC (.bool af))) dA))
 (aU (cb .a (au (ah gf (aN rY (aG (aN xD (aG (aB 9) aK)) (aG (aB 5) aK))) (aB 11))) (cS 0 .s (eC (.bool af))) dA)
 (aU (RB .s (ah bf (aB 1) (ah bM (aN dH (aG (aN fL (aG (aB 0) (aG (eC (.int 47)) aK))) (aG (eC (.int 14)) aK))) (eC (.int 3)))) (rL 13 14))
 (aU (bE 15 0 .s (aN fL (aG (aB 0) (aG (eC (.int 47)) aK))))
 (aU (bE 12 0 .s (aN fH (aG (j1 [ab,aa 3,aa 15] (j7 (aG (aB 14) aK)) (gB 0) dM (ah bf (aB 1) (ah bM (aN dH (aG (aB 2) (aG (ah bO (eC (.int 15)) (aB 0)) aK))) (eC (.int 6))))) aK)))
 (aU (bE 16 0 .a (fK (aB 9) (aB 13) (dG aK)))
 (aU (cb .s (au (ah (n8 ae) (aB 12) (aB 16))) (fY 9 .s (ah pD (aB 16) (dG (aG (aB 12) aK))) .s (aB 13)) dA)
 (eU 9 (aU (bE 17 0 .s (aN rY (aG (aB 9) (aG (aB 5) aK))))
 (cS 0 .s (ah fm (aN cN (aG (j1 [ab,aa 17] (cf (aB 11)) (gB 0) (au (ah (n8 ae) (aB 0) (aB 1))) (aB 0)) aK)) (eC (.int 0)))))))))))))))))))))))))))
def IZ:List aA->Option aA:=bz 1 18 Hq
theorem Hi (F:Fun K "law" "law" qN f fd)(B:Blt mg)(C:Cst mg)(aj:Def P w K mg base "_law_cell" 1 sE (aq K 0 fL))(ag:Def P w K mg base "_law_mix" 1 mS (aq K 0 dH))(dq:Def P w K mg base "_law_turned" 1 BC (aq K 1 xD))(bt:Def P w K mg base "_law_names" 2 xB (aq K 1 sC))(ic:Def P w K mg base "_law_pool" 2 AN (aq K 1 wU))(ie:Def P w K mg base "_law_owed" 2 AJ (aq K 0 wW))(dr:Def P w K mg base "_law_tables" 3 AR (aq K 1 AS))(ig:Def P w K mg base "_law_book" 3 AM (aq K 1 wV))(bv:Def P w K mg base "_law_alternative" 4 BD (aq K 0 xE))(fz:Def P w K mg base "answers" 5 zZ (aq K 1 rY)):FnOk P w K mg base gv 6 f fd QW (aq K 0 IZ):=by
 have nd:=A8l.nd;exact gV F A8l rfl (by decide) fun ax A outer s H E P0 hr=>by
  rw[1];exact(bK (cI (i:=1) 0 .s nd rfl (by trivial) (dZ (n:=1) (cB dr (by rw[00]) rfl (aL (cB aj (by rw[00]) rfl (aL (aI 0) (aL aR aT))) (aL aR aT)))))
   (bK (cI (i:=2) 0 .s nd rfl (by trivial) (dZ (n:=1) (cB bt (by rw[00]) rfl (aL (cB aj (by rw[00]) rfl (aL (aI 0) (aL aR aT))) (aL aR aT)))))
   (bK (cI (i:=3) 0 .s nd rfl (by trivial) (dZ (n:=1) (cB ic (by rw[00]) rfl (aL (cB aj (by rw[00]) rfl (aL (aI 0) (aL aR aT))) aT))))
   (bK (cI (i:=4) 0 .s nd rfl (by trivial) (eE (cB ag (by rw[00]) rfl (aL (cB aj (by rw[00]) rfl (aL (aI 0) (aL aR aT))) (aL aR aT))) aR))
   (bK (cI (i:=5) 1 .s nd rfl (by trivial) (jC aT))
   (bK (cI (i:=6) 1 .s nd rfl (by trivial) (jC aT))
   (bK (tW .s iD rfl (lY rfl B.range (aL (eX aR (eE (cB ag (by rw[00]) rfl (aL (cB aj (by rw[00]) rfl (aL (aI 0) (aL aR aT))) (aL aR aT))) aR)) aT)) (jD (i:=7) nd rfl (by trivial)) (bK (pB 5 .s (cB bv (by rw[00]) rfl (aL (aI 0) (aL (eX aR (kW aR (aI 7))) (aL (aI 1) (aL (aI 2) (aL (aI 3) (aL (aI 4) aT))))))))
   (bX (ME 6 .a (eB hv (eB hv (aI 5) (aI 7) (fun _ _=>rfl)) aR (fun _ _=>rfl))))))
   (mN 5 (mN 6 (bK (cI (i:=8) 0 .s nd rfl (by trivial) (DU aR (kW aR (mP WA VW rfl B.int PyProof.Rows.boot_int (aL (EC tH tO (jK kG kF rfl B.len kJ (aL (aI 6) aT)) aR (jJ _)) aT)))))
   (bK (cI (i:=9) 1 .s nd rfl (by trivial) (cB ig (by rw[00]) rfl (aL (aI 0) (aL aR (aL (aI 1) (aL (dZ (n:=1) (yW (aI 6) zJ (zH aR))) (aL (aI 2) (aL (aI 3) (aL (aI 8) aT)))))))))
   (bK (cI (i:=10) 0 .a nd rfl (by trivial) (cB ie (by rw[00]) rfl (aL (aI 9) (aL (aI 5) (aL (aI 2) (aL (aI 3) aT))))))
   (bK (cI (i:=11) 0 .a nd rfl (by trivial) (dZ (n:=1) (cB fz (by rw[00]) rfl (aL (aI 9) (aL (aI 5) aT)))))
   (bK (iY .s (iQ (EH hu) EE (jK kG kF rfl B.len kJ (aL (aI 11) aT)) (jK Zz Qf rfl B.len kJ (aL (aI 10) aT)) (jJ _)) (bX (hJ .s vW)) jP)
   (bK (jW iD rfl (jB (aI 11)) (jD (i:=12) nd rfl (by trivial)) (bX (iY .s (iQ (AK hu) vZ (aI 12) (aI 10) (by with_unfolding_all rfl)) (bX (hJ .s vW)) jP)))
   (bK (iY .a (iQ (EH hu) EE (dZ (n:=1) (cB fz (by rw[00]) rfl (aL (dZ (n:=1) (cB dq (by rw[00]) rfl (aL (aI 9) aT))) (aL (aI 5) aT)))) (aI 11) (jJ _)) (bX (hJ .s vW)) jP)
   (bK (Lx .s (eB hv (aI 1) (eE (cB ag (by rw[00]) rfl (aL (cB aj (by rw[00]) rfl (aL (aI 0) (aL aR aT))) (aL aR aT))) aR) (fun _ _=>rfl)) (zN (i:=13) (j:=14) rfl nd rfl rfl (by trivial) (by trivial)))
   (bK (cI (i:=15) 0 .s nd rfl (by trivial) (cB aj (by rw[00]) rfl (aL (aI 0) (aL aR aT))))
   (bK (cI (i:=12) 0 .s nd rfl (by trivial) (mP sD sF rfl B.tuple uT (aL (dZ (n:=1) (oO rfl (mQ (N:=["_law_k","_law_pool_here","_law_cell_here"]) (cap:=[ab,aa 3,aa 15]) (out:=(cQ qN).names) (XN:=JC) rfl rfl (by rw[0]) rfl) mJ (tL (lY rfl B.range (aL (aI 14) aT))) (fun cl C s₀ H₀ ex=>⟨mO (j:=0) (show(["_law_k","_law_pool_here","_law_cell_here"]:List aE).Nodup by rw[0]) rfl (aZ rfl),nV,(eB hv (aI 1) (eE (cB ag (by rw[00]) rfl (aL (aI 2) (aL (eX aR (aI 0)) aT))) aR) (fun _ _=>rfl))⟩))) aT)))
   (bK (cI (i:=16) 0 .a nd rfl (by trivial) (FA hv (aI 9) (aI 13) (dZ (n:=1) (jC aT))))
   (bK (iY .s (iQ (AK hu) vZ (aI 12) (aI 16) (by with_unfolding_all rfl)) (bX (EZ 9 .s .s hv (dZ (n:=1) (EA (aI 16) (dZ (n:=1) (jC (aL (aI 12) aT))))) (aI 13))) jP)
   (mN 9 (bK (cI (i:=17) 0 .s nd rfl (by trivial) (dZ (n:=1) (cB fz (by rw[00]) rfl (aL (aI 9) (aL (aI 5) aT)))))
   (bX (hJ .s (EC (tU hu) tR (jK kG kF rfl B.len kJ (aL (dZ (n:=1) (oO rfl (mQ (N:=["_law_row","_law_more"]) (cap:=[ab,aa 17]) (out:=(cQ qN).names) (XN:=JC) rfl rfl (by rw[0]) rfl) mJ (jB (aI 11)) (fun cl C s₀ H₀ ex=>⟨mO (j:=0) (show(["_law_row","_law_more"]:List aE).Nodup by rw[0]) rfl (aZ rfl),Nh (iQ (AK hu) vZ (aI 0) (aI 1) (by with_unfolding_all rfl)),(aI 0)⟩))) aT)) aR (jJ _)))))))))))))))))))))))))))
end Aw
namespace L2
open PySem PySem.Spec PyProof.Rows
variable {F G:SF}{T:aA->List (Option aA)->Option (List (Option aA))}{ds:List aA}{ρ ρ':bJ}{f:EF}{d:aA}{fi:AF}{n i:Nat}{cap:List (Option Nat)}
theorem Yc{T:aA->bJ->Option bJ}(P:Nat->bJ->Prop)(h0:P 0 ρ)
  (step:∀ i d ρ,ds[i]?=aa d->P i ρ->∃ ρ1 ρ2,T d ρ=aa ρ1/\(F ρ1=aa (.nx ρ2)\/F ρ1=aa (.ct ρ2))/\P (i+1) ρ2):∃ ρ',lU F T ds ρ=aa (.nx ρ')/\P ds.length ρ':=by
 have go:∀ (rest:List aA) (i:Nat) (ρ:bJ),ds.drop i=rest->i+rest.length=ds.length->P i ρ->∃ ρ',lU F T rest ρ=aa (.nx ρ')/\P ds.length ρ':=by
  intro rest;induction rest with
  |nil=>
   intro i ρ _ hl p;simp at hl;subst hl;exact⟨ρ,rfl,p⟩
  |cons d r ih=>
   intro i ρ hd hl p;have hi:ds[i]?=aa d:=by
    have:=congrArg (·[0]?) hd;simpa using this
   obtain⟨ρ1,ρ2,e1,e2,p2⟩:=step i d ρ hi p;have wj:ds.drop (i+1)=r:=by
    have:=congrArg List.tail hd;simpa using this
   obtain⟨ρ',e3,p3⟩:=ih (i+1) ρ2 wj (by simp at hl;omega) p2
   refine⟨ρ',?_,p3⟩;show((T d ρ).bind fun ρ1=>(F ρ1).bind fun o=>match o with
    |.nx ρ'=>lU F T r ρ'
    |.ct ρ'=>lU F T r ρ'
    |.bk ρ'=>aa (.nx ρ')
    | .rt d=>aa (.rt d))=aa (.nx ρ')
   rw[e1];rcases e2 with e2|e2
   ·simp only[cX,e2];exact e3
   ·simp only[cX,e2];exact e3
 exact go ds 0 ρ (by simp) (by simp) h0
theorem Bx{t:BF}{ρ:List (Option aA)}(R:aA->aA->Prop):∀ (ds:List aA),(∀ d∈ds,∃ ρ1 y,T d ρ=aa ρ1/\t ρ1=aa ae/\f ρ1=aa y/\R d y) ->
  ∃ ys,p8 T t f ρ ds=aa ys/\fE R ds ys
 |[],_=>⟨[],rfl,.nil⟩
 |d::r,h=>by
  obtain⟨ρ1,y,e1,e2,e3,hr⟩:=h d bS;obtain⟨ys,e4,hp⟩:=Bx R r fun d' m=>h d' (cG _ m)
  refine⟨y::ys,?_,.cons hr hp⟩;show((T d ρ).bind fun ρ1=>(t ρ1).bind fun c=>if c=ae then(f ρ1).bind fun y=>(p8 T t f ρ r).bind fun ys=>aa (y::ys) else p8 T t f ρ r)=aa (y::ys)
  simp[e1,e2,e3,e4]
theorem Bj{t:BF}{ρ:List (Option aA)}(g:aA->aA):∀ (ds:List aA),(∀ d∈ds,∃ ρ1,T d ρ=aa ρ1/\t ρ1=aa ae/\f ρ1=aa (g d))->p8 T t f ρ ds=aa (ds.map g)
 |[],_=>rfl
 |d::r,h=>by
  obtain⟨ρ1,e1,e2,e3⟩:=h d bS;have e4:=Bj g r fun d' m=>h d' (cG _ m)
  show((T d ρ).bind fun ρ1=>(t ρ1).bind fun c=>if c=ae then(f ρ1).bind fun y=>(p8 T t f ρ r).bind fun ys=>aa (y::ys) else p8 T t f ρ r)=aa (g d::r.map g)
  simp[e1,e2,e3,e4]
theorem Paired.mem_right {α β:Type}{R:α->β->Prop}:∀ {as:List α} {bs:List β},fE R as bs->∀ b∈bs,∃ a∈as,R a b:=by
 intro as bs h;induction h with
 |nil=>exact fun b m=>by simp at m
 |cons h _ ih=>
  intro b m;rcases dU.mp m with rfl|m
  ·exact⟨_,bS,h⟩
  ·obtain⟨a,ha,hr⟩:=ih b m;exact⟨a,cG _ ha,hr⟩
theorem Kf(h:F ρ=aa (.nx ρ')):aU F G ρ=G ρ':=by
 unfold aU;rw[h]
 rfl
theorem Kj(h:F ρ=aa (.rt d)):aU F G ρ=aa (.rt d):=by
 unfold aU;rw[h]
 rfl
theorem SC {m:Md}{T:aA->bJ->Option bJ}{o:Out}(h:aV m fi ρ=aa ds)(h2:lU F T ds ρ=aa o):eW m fi T F ρ=aa o:=by
 unfold eW;rw[h];exact h2
theorem RK {np:Nat}{body:SF}(hl:ds.length=np)(h:body (ds.map (fun d=>aa (0,d))++xW (n-np) ab)=aa (.rt d)):bz np n body ds=aa d:=by
 unfold bz;rw[if_pos hl,h]
 rfl
theorem Pd {α β:Type}{R:α->β->Prop}{as:List α}{bs:List β}(h:fE R as bs):bs.length=as.length:=(mZ h).symm
theorem Ap {β:Type}{g:β->aA}{R:β->Prop}:∀ (ys:List aA),(∀ y∈ys,∃ c,y=g c/\R c)->∃ cs:List β,ys=cs.map g/\∀ c∈cs,R c
 |[],_=>⟨[],rfl,fun _ m=>by simp at m⟩
 |y::r,h=>by
  obtain⟨c,e,hc⟩:=h y bS;obtain⟨cs,e2,h2⟩:=Ap r fun z m=>h z (cG _ m)
  refine⟨c::cs,by rw[e,e2];rfl,fun x m=>?_⟩
  rcases dU.mp m with rfl|m
  ·exact hc
  ·exact h2 x m
theorem Al{k:Nat}(h:k≤ds.length):cutD ds ab (aa (k:Int))=ds.take k:=by
 unfold cutD;rw[HT.Aoq,HT.At3];simp[xU h]
theorem nX(h:n≤100000):n≤sizeLine:=iU h (by decide)
theorem zO(h:n≤100000):n<sizeLine:=Nat.lt_of_le_of_lt h (by decide)
def letter (c:Nat):Bool:=decide (97≤c)&&decide (c≤122)
def figure (c:Nat):Bool:=decide (48≤c)&&decide (c≤57)
def nP (c:Nat):Bool:=letter c||figure c
theorem Os {c:Nat}(h:nP c=ae):c<128:=by
 simp[nP,letter,figure] at h;omega
def Gz (cs:List Nat):Prop:=∃ c r,cs=c::r/\letter c=ae/\(∀ x∈cs,nP x=ae)/\cs.length≤12
abbrev lG (cs:List Nat):aE:=⟨cs.toArray⟩
def nameS (z:aE):Prop:=Gz z.cps.toList
theorem Ij {z:aE}(h:∀ c∈z.cps.toList,nP c=ae):dX (.str z)=ae:=by
 have:z.cps.all (fun x=>decide (x<1114112))=ae:=by
  rw[Array.all_eq_true'];intro x hx;have:=Os (h x (by simpa using hx))
  simp;omega
 simpa [dX,OG] using this
theorem nameS.lay {z:aE}(h:nameS z):dX (.str z)=ae:=by
 obtain⟨c,r,_,_,h,_⟩:=h;exact Ij h
def fN (c:Nat):aA:=.str ⟨#[c]⟩
def SIGNS:aE:="abcdefghijklmnopqrstuvwxyz0123456789"
theorem signs_at:∀ j<36,∃ c,SIGNS.cps.toList[j]?=aa c/\nP c=ae/\(j<26->letter c=ae):=by rw[0]
theorem UE {i:Int}(h0:0≤i)(h1:i<36):∃ c,bf (.str SIGNS) (.int i)=aa (fN c)/\nP c=ae/\(i<26->letter c=ae):=by
 obtain⟨j,rfl⟩:=kL h0;obtain⟨c,e,h2,h3⟩:=signs_at j (by omega)
 refine⟨c,?_,h2,fun h=>h3 (by omega)⟩
 show(if SIGNS.length≤sizeLine then(jg SIGNS.cps.toList (j:Int)).bind fun c=>aa (bR ⟨#[c]⟩) else ab)=_
 rw[if_pos (by rw[0]),rU e]
 rfl
theorem YT:∀ cs:List Nat,sG (cs.map fN)=aa (cs.map fun c=>(⟨#[c]⟩:aE))
 |[]=>rfl
 |c::r=>by
  show((sG (r.map fN)).bind fun xs=>aa ((⟨#[c]⟩:aE)::xs))=_
  rw[YT r]
  rfl
theorem TM:∀ cs:List Nat,((cs.map fun c=>(⟨#[c]⟩:aE)).map (·.length)).sum=cs.length
 |[]=>rfl
 |c::r=>by
  rw[dQ,dQ,List.sum_cons,TM r,hW];show 1+r.length=r.length+1;omega
theorem Bl {cs:List Nat}(h:cs.length≤1000):vY (.str "") (.list (cs.map fN))=aa (.str (lG cs)):=by
 show((sG (cs.map fN)).bind fun ys=>if (ys.map (·.length)).sum+ys.length*(jZ "").length≤16777216 then aa (bR (mX (jZ "") ys)) else ab)=_
 rw[YT];simp only[cX,TM,eS];rw[if_pos (by
  have:(jZ "").length=0:=by rw[0]
  rw[this];omega)]
 have:=YK cs;have e:(jZ "")=(⟨#[]⟩:aE):=by rw[0]
 rw[e,this]
def bT (c k:Int):Int:=(c%2147483647*48271+k*k*69621+k+11)%2147483629*((c%2147483647*48271+k*k*69621+k+11)%2147483629)%2147483587
theorem fQ (a:Int){b:Int}(h:0<b):0≤a%b/\a%b<b:=⟨Int.emod_nonneg _ (by omega),Int.emod_lt_of_pos _ h⟩
def Goes (F:SF)(ρ:bJ)(P:Out->Prop):Prop:=∃ o,F ρ=aa o/\P o
variable {P:Out->Prop}{m:Md}
theorem Goes.mono {P':Out->Prop}(h:Goes F ρ P)(k:∀ o,P o->P' o):Goes F ρ P':=by
 obtain⟨o,e,p⟩:=h;exact⟨o,e,k o p⟩
theorem vV(h:F ρ=aa (.nx ρ'))(k:P (.nx ρ')):Goes F ρ P:=⟨_,h,k⟩
theorem eF(h:F ρ=aa (.nx ρ'))(k:Goes G ρ' P):Goes (aU F G) ρ P:=by
 obtain⟨o,e,p⟩:=k;exact⟨o,by rw[Kf h];exact e,p⟩
theorem fU (I:bJ->Prop)(h:Goes F ρ fun o=>∃ ρ',o=.nx ρ'/\I ρ')(k:∀ ρ',I ρ'->Goes G ρ' P):Goes (aU F G) ρ P:=by
 obtain⟨o,e,ρ',rfl,i⟩:=h;exact eF e (k ρ' i)
theorem RS(h:F ρ=aa (.rt d))(k:P (.rt d)):Goes (aU F G) ρ P:=⟨_,Kj h,k⟩
theorem GV {t:BF}{b:Bool}(h:bV m t ρ=aa b)(k:Goes (if b=ae then F else G) ρ P):Goes (cb m t F G) ρ P:=by
 obtain⟨o,e,p⟩:=k;refine⟨o,?_,p⟩;show((bV m t ρ).bind fun b=>if b=ae then F ρ else G ρ)=aa o
 rw[h];cases b
 ·exact e
 ·exact e
theorem lW {t:BF}(h:bV m t ρ=aa ae)(k:Goes F ρ P):Goes (cb m t F G) ρ P:=GV h k
theorem mL {t:BF}(h:bV m t ρ=aa af)(k:Goes G ρ P):Goes (cb m t F G) ρ P:=GV h k
theorem mM (k:P (.nx ρ)):Goes dA ρ P:=⟨_,rfl,k⟩
theorem vQ {t:BF}(h:bV m t ρ=aa af):cb m t F dA ρ=aa (.nx ρ):=by
 unfold cb;rw[h]
 rfl
theorem JY (h:Goes F ρ fun o=>∃ d,o=.rt d/\P o):Goes (aU F G) ρ P:=by
 obtain⟨o,e,d,rfl,p⟩:=h;exact RS e p
theorem Up(h:f (vA ρ)=aa d)(hf:dR n d=ae)(k:P (.rt d)):Goes (cS n .a f) ρ P:=⟨_,by
 unfold cS eV;simp only[h,cX,hf,QC,if_true],k⟩
theorem jO(h:f (vS ρ)=aa d)(k:P (.rt d)):Goes (cS n .s f) ρ P:=⟨_,by
 unfold cS eV;simp only[h,cX],k⟩
theorem Bc(h:eV n m f ρ=aa d)(hl:i<ρ.length)(k:P (.nx (ρ.set i (aa (n,d))))):Goes (bE i n m f) ρ P:=
 ⟨_,by unfold bE;rw[h];simp only[cX,if_pos hl],k⟩
theorem rV(h:f (vS ρ)=aa d)(hl:i<ρ.length)(k:P (.nx (ρ.set i (aa (n,d))))):Goes (bE i n .s f) ρ P:=Bc h hl k
theorem nQ(h:Goes F (frz i ρ) P):Goes (eU i F) ρ P:=h
theorem Jb(h:n≤1000000):yS 0 (n:Int)=aa ((dB n).map fun(k:Nat)=>aX k):=by
 unfold yS;rw[if_pos (by omega)]
 simp
theorem nR {fa:AF}{ρ:List (Option aA)}(h:fa ρ=aa [.int n])(hn:n≤1000000):j7 fa ρ=aa ((dB n).map fun(k:Nat)=>aX k):=by
 have e:=Jb hn;generalize aa ((dB n).map fun(k:Nat)=>aX k)=y at e ⊢
 rw[← e];unfold j7;rw[h,cX]
theorem jz(h:fi (vS ρ)=aa ds):aV .s fi ρ=aa ds:=h
theorem avA(h:fi (vA ρ)=aa ds):aV .a fi ρ=aa ds:=h
theorem pQ{T:aA->bJ->Option bJ}(I:Nat->bJ->Prop)(h:aV m fi ρ=aa ds)(h0:I 0 ρ)
  (step:∀ i d ρ,ds[i]?=aa d->I i ρ->∃ ρ1,T d ρ=aa ρ1/\Goes F ρ1 fun o=>∃ ρ2,(o=.nx ρ2\/o=.ct ρ2)/\I (i+1) ρ2) (k:∀ ρ',I ds.length ρ'->P (.nx ρ')):Goes (eW m fi T F) ρ P:=by
 obtain⟨ρ',e,i⟩:=Yc (F:=F) (T:=T) I h0 fun i d ρ hd p=>by
  obtain⟨ρ1,e1,o,e2,ρ2,e3,p2⟩:=step i d ρ hd p;refine⟨ρ1,ρ2,e1,?_,p2⟩;rcases e3 with rfl|rfl
  ·exact .inl e2
  ·exact .inr e2
 exact⟨_,SC h e,k ρ' i⟩
theorem tZ{T:aA->bJ->Option bJ}(I:Nat->bJ->Prop)(h:aV m fi ρ=aa ((dB n).map fun(k:Nat)=>aX k))(h0:I 0 ρ)
  (step:∀ (i:Nat) ρ,i<n->I i ρ->∃ ρ1,T (.int i) ρ=aa ρ1/\Goes F ρ1 fun o=>∃ ρ2,(o=.nx ρ2\/o=.ct ρ2)/\I (i+1) ρ2) (k:∀ ρ',I n ρ'->P (.nx ρ')):Goes (eW m fi T F) ρ P:=by
 refine pQ I h h0 (fun i d ρ hd p=>?_) (by simpa using k)
 have ce:i<n:=by
  have:=(dF.mp hd).1;simpa using this
 rw[fA,PC ce] at hd;have:aX (i:Int)=d:=by simpa using hd
 rw[10];exact step i ρ ce p
theorem jV {np:Nat}{body:SF}{Q:aA->Prop}(hl:ds.length=np)(h:Goes body (ds.map (fun d=>aa (0,d))++xW (n-np) ab) fun o=>∃ d,o=.rt d/\Q d):∃ d,bz np n body ds=aa d/\Q d:=by
 obtain⟨o,e,d,rfl,q⟩:=h;exact⟨d,RK hl e,q⟩
theorem Gp{t:BF}{ρ:List (Option aA)}(R:aA->aA->Prop)(h1:fi ρ=aa ds)(h2:ds.length≤100000)
  (h:∀ d∈ds,∃ ρ1 y,T d (kT cap ρ)=aa ρ1/\t ρ1=aa ae/\f ρ1=aa y/\R d y):∃ ys,j1 cap fi T t f ρ=aa (.list ys)/\fE R ds ys:=by
 obtain⟨ys,e,hp⟩:=Bx R ds h;refine⟨ys,?_,hp⟩;unfold j1;rw[h1,cX,e,cX,if_pos (nX h2)]
theorem NI{t:BF}{ρ:List (Option aA)}(g:aA->aA)(h1:fi ρ=aa ds)(h2:ds.length≤100000)
  (h:∀ d∈ds,∃ ρ1,T d (kT cap ρ)=aa ρ1/\t ρ1=aa ae/\f ρ1=aa (g d)):j1 cap fi T t f ρ=aa (.list (ds.map g)):=by
 unfold j1;rw[h1,cX,Bj g ds h,cX,if_pos (nX h2)]
theorem ES{t:BF}{ρ:List (Option aA)}{β:Type}(g:β->aA)(R:β->Prop)(h1:fi ρ=aa ((dB n).map fun(k:Nat)=>aX k))(h2:n≤100000)
  (h:∀ k<n,∃ ρ1 y,T (.int (k:Nat)) (kT cap ρ)=aa ρ1/\t ρ1=aa ae/\f ρ1=aa (g y)/\R y):∃ ys:List β,j1 cap fi T t f ρ=aa (.list (ys.map g))/\ys.length=n/\∀ y∈ys,R y:=by
 obtain⟨ys,e,hp⟩:=Gp (cap:=cap) (T:=T) (t:=t) (f:=f) (fun _ y=>∃ x,y=g x/\R x) h1 (by simpa using h2) fun d m=>by
  obtain⟨k,hk,rfl⟩:=cJ.mp m;obtain⟨ρ1,y,a1,a2,a3,a4⟩:=h k (by simpa using hk)
  exact⟨ρ1,g y,a1,a2,a3,y,rfl,a4⟩
 obtain⟨xs,rfl,hx⟩:=Ap (g:=g) (R:=R) ys fun y m=>by
  obtain⟨_,_,x,e,hx⟩:=L2.Paired.mem_right hp y m;exact⟨x,e,hx⟩
 have:=Pd hp;exact⟨xs,e,by simpa using this,hx⟩
end L2
namespace L2
open PySem PySem.Spec PyProof.Rows
variable {f:EF}{ds:List aA}{d:aA}{kds:List (aA×aA)}
variable {F G:SF}{ρ:bJ}{P:Out->Prop}{m:Md}
theorem lO{ρ:List (Option aA)}(h:f ρ=aa (.list ds)):cf f ρ=aa ds:=by
 unfold cf;rw[h]
 rfl
theorem tY{ρ:List (Option aA)}(h:f ρ=aa (.tuple ds)):cf f ρ=aa ds:=by
 unfold cf;rw[h]
 rfl
theorem bW {fa:AF}{g:List aA->Option aA}{ρ:List (Option aA)}(h:fa ρ=aa ds)(h2:g ds=aa d):aN g fa ρ=aa d:=by
 unfold aN;rw[h];exact h2
theorem bU {fa fb:EF}{g:aA->aA->Option aA}{ρ:List (Option aA)}{a b:aA}(h:fa ρ=aa a)(h2:fb ρ=aa b)(h3:g a b=aa d):ah g fa fb ρ=aa d:=by
 unfold ah;rw[h,h2];exact h3
theorem JI(i:Int)(h:0<ds.length):∃ (j:Nat) (d:aA),ds[j]?=aa d/\jg ds (i%(ds.length:Int))=aa d:=by
 have b:=fQ i (show(0:Int)<ds.length by omega)
 obtain⟨j,e⟩:=kL b.1;have hj:j<ds.length:=by omega
 exact⟨j,ds[j],eI hj,by rw[e];exact rU (eI hj)⟩
theorem pS {i:Nat}(h:f (vS ρ)=aa d)(hg:getL i ρ=aa ds)(hl:ds.length<100000)(k:P (.nx (ρ.set i (aa (1,.list (ds++[d])))))):Goes (eR i .s f) ρ P:=⟨_,by
 unfold eR eV;simp only[h,cX,hg,if_pos (zO (sO hl))],k⟩
theorem EW {i:Nat}{g:EF}{kd:aA}{key:aO}(h:f (vS ρ)=aa d)(hg:gC i ρ=aa kds)(hk:g (vS ρ)=aa kd)(ha:dJ kd=aa key)(hl:kds.length<100000)(k:P (.nx (ρ.set i (aa (1,.dict (putD kds key d)))))):Goes (fY i .s f .s g) ρ P:=⟨_,by
 unfold fY eV;simp only[h,cX,hg,hk,ha,if_pos (zO (sO hl))],k⟩
def Gj (d:aA):Prop:=(∃ z,d=.str z/\nameS z)\/∃ i,d=.int i
theorem LG:∀ {ts:List aA},(∀ t∈ts,bN t=ae)->cC ts=ae
 |[],_=>by simp[cC]
 |t::r,h=>by
  simp only[cC,IJ];exact⟨h t bS,LG fun x m=>h x (cG _ m)⟩
theorem FN {n:Nat}:∀ {ts:List aA},(∀ t∈ts,t.depth≤n)->cL ts≤n
 |[],_=>by simp[cL]
 |t::r,h=>by
  simp only[cL];exact Nat.max_le.mpr ⟨h t bS,FN fun x m=>h x (cG _ m)⟩
theorem MJ:∀ {ts:List aA},(∀ t∈ts,noDict t=ae)->noDicts ts=ae
 |[],_=>by simp[noDicts]
 |t::r,h=>by
  simp only[noDicts,IJ];exact⟨h t bS,MJ fun x m=>h x (cG _ m)⟩
structure Kn (kds:List (aA×aA)):Prop where
 fit:∀ kd∈kds,(∃ z,kd.1=.str z)/\Gj kd.2
 once:(kds.map (·.1)).Nodup
theorem Kn.int(h:Kn kds)(i:Int):dW kds (.inl i)=ab:=by
 have:(kds.find? fun kd=>decide (dJ kd.1=aa (.inl i)))=ab:=by
  rw[CO];intro kd m;obtain⟨⟨z,e⟩,_⟩:=h.fit kd m;simp[e,dJ]
 unfold dW;rw[this]
 rfl
theorem JH(h:∀ kd∈kds,kd.1 ≠ .none):j8 kds=ae:=by
 cases kds with
 |nil=>rfl
 |cons p r=>
  obtain⟨k,d⟩:=p;have:=h (k,d) bS;cases k<;>first|rfl|exact absurd rfl this
theorem SK:∀ {kss:List (List aA)},(∀ k∈kss,cC k=ae/\cL k≤6)->kS (kss.map iC)=aa kss
 |[],_=>rfl
 |k::r,h=>by
  show(if cC k=ae/\cL k≤6 then(kS (r.map iC)).bind fun kss=>aa (k::kss) else ab)=_
  rw[if_pos (h k bS),SK fun x m=>h x (cG _ m)]
  rfl
end L2
namespace L2
open PySem PySem.Spec PyProof.Rows
variable {f:EF}{i n:Nat}{d:aA}
variable {F G:SF}{ρ:bJ}{P:Out->Prop}{m:Md}
theorem pR {α β:Type}{fi:AF}{T:aA->bJ->Option bJ}{xs:List α}{q:α->aA}(g:β->α->β)(I:Nat->β->bJ->Prop){b0:β}(h:aV m fi ρ=aa (xs.map q))(h0:I 0 b0 ρ)
  (step:∀ i x b ρ,xs[i]?=aa x->I i b ρ->∃ ρ1,T (q x) ρ=aa ρ1/\Goes F ρ1 fun o=>∃ ρ2,(o=.nx ρ2\/o=.ct ρ2)/\I (i+1) (g b x) ρ2) (k:∀ ρ',I xs.length (xs.foldl g b0) ρ'->P (.nx ρ')):Goes (eW m fi T F) ρ P:=by
 refine pQ (fun i ρ=>I i ((xs.take i).foldl g b0) ρ) h h0 (fun i d ρ hd p=>?_) (fun ρ' p=>k ρ' (by simpa using p))
 rw[fA] at hd;obtain⟨x,hx,rfl⟩:=kA.mp hd;obtain⟨ρ1,e1,g1⟩:=step i x _ ρ hx p;refine⟨ρ1,e1,g1.mono fun o ⟨ρ2,e,q⟩=>⟨ρ2,e,?_⟩⟩
 have:xs.take (i+1)=xs.take i++[x]:=by rw[sP,hx];rfl
 rw[this,PF];exact q
def aft (F:SF)(T:aA->bJ->Option bJ)(ds:List aA):Out->Option Out
 |.nx ρ=>lU F T ds ρ
 |.ct ρ=>lU F T ds ρ
 |.bk ρ=>aa (.nx ρ)
 |.rt d=>aa (.rt d)
theorem UV {T:aA->List (Option aA)->Option (List (Option aA))}{t:BF}{ρ:List (Option aA)}{α:Type}{q:α->aA}(p:α->Bool)(g:α->aA):∀ (xs:List α),
  (∀ x∈xs,∃ ρ1,T (q x) ρ=aa ρ1/\t ρ1=aa (p x)/\(p x=ae->f ρ1=aa (g x)))->p8 T t f ρ (xs.map q)=aa ((xs.filter p).map g)
 |[],_=>rfl
 |x::xs,h=>by
  obtain⟨ρ1,e1,e2,e3⟩:=h x bS;have ih:=UV p g xs fun y m=>h y (cG _ m)
  show((T (q x) ρ).bind fun ρ1=>(t ρ1).bind fun c=>if c=ae then(f ρ1).bind fun y=>(p8 T t f ρ (xs.map q)).bind fun ys=>aa (y::ys) else p8 T t f ρ (xs.map q))=_
  rw[e1,cX,e2,cX,ih];cases hp:p x with
  |true=>rw[if_pos rfl,e3 hp,List.filter_cons_of_pos hp];rfl
  |false=>rw[if_neg (by simp),List.filter_cons_of_neg (by simp[hp])]
theorem EX {cap:List (Option Nat)}{fi:AF}{T:aA->List (Option aA)->Option (List (Option aA))}{t:BF}{ρ:List (Option aA)}{α:Type}{xs:List α}{q:α->aA}(p:α->Bool)(g:α->aA)(h1:fi ρ=aa (xs.map q))(h2:xs.length≤100000)
  (h:∀ x∈xs,∃ ρ1,T (q x) (kT cap ρ)=aa ρ1/\t ρ1=aa (p x)/\(p x=ae->f ρ1=aa (g x))):j1 cap fi T t f ρ=aa (.list ((xs.filter p).map g)):=by
 unfold j1;rw[h1,cX,UV p g xs h,cX,if_pos (nX (by simpa using h2))]
theorem lL(h:eV n m f ρ=aa d)(hl:i<ρ.length):bE i n m f ρ=aa (.nx (ρ.set i (aa (n,d)))):=by
 obtain⟨o,e,q⟩:=Bc (P:=fun o=>o=.nx (ρ.set i (aa (n,d)))) h hl rfl
 rw[e,q]
theorem iG(h:f (vS ρ)=aa d)(hl:i<ρ.length)(k:Goes G (ρ.set i (aa (n,d))) P):Goes (aU (bE i n .s f) G) ρ P:=eF (lL h hl) k
theorem Cb(h:f (vA ρ)=aa d)(hf:dR n d=ae)(hl:i<ρ.length)(k:Goes G (ρ.set i (aa (n,d))) P):Goes (aU (bE i n .a f) G) ρ P:=
 eF (lL (m:=.a) (by show((f (vA ρ)).bind fun d=>if (dR n d||(lH ρ&&decide (n<9)&&jM n d))=ae then aa d else ab)=_;rw[h,cX,hf,QC,if_pos rfl]) hl) k
theorem GS {fa:EF}{g:aA->Option aA}{ρ:List (Option aA)}{a:aA}(h:fa ρ=aa a)(h3:g a=aa d):gc g fa ρ=aa d:=by
 unfold gc;rw[h];exact h3
theorem cM{g:AF}{ρ:List (Option aA)}{ds:List aA}(h:f ρ=aa d)(h2:g ρ=aa ds):aG f g ρ=aa (d::ds):=by
 unfold aG;rw[h,h2]
 rfl
end L2
namespace L2
def gQ {α:Type}[DecidableEq α](ai:List α)(z:α):List α:=if z∈ai then ai else ai++[z]
def fP {α:Type}[DecidableEq α](zs:List α):List α:=zs.foldl gQ []
section
variable {α:Type}[DecidableEq α]
theorem Auv {ai:List α}{z x:α}:x∈gQ ai z↔x∈ai\/x=z:=by
 unfold gQ;split
 ·rename_i h;exact⟨.inl,fun q=>q.elim id fun e=>e ▸ h⟩
 ·simp
theorem WR {x:α}:∀ (zs ai:List α),x∈zs.foldl gQ ai↔x∈ai\/x∈zs
 |[],ai=>by simp
 |z::zs,ai=>by
  rw[nC,WR zs,Auv];simp only[dU];constructor
  ·rintro((h|h)|h)
   ·exact .inl h
   ·exact .inr (.inl h)
   ·exact .inr (.inr h)
  ·rintro(h|h|h)
   ·exact .inl (.inl h)
   ·exact .inl (.inr h)
   ·exact .inr h
theorem Ahk {x:α}{zs:List α}:x∈fP zs↔x∈zs:=by
 unfold fP;rw[WR];simp
theorem FI (ai:List α)(z:α):(gQ ai z).length≤ai.length+1:=by
 unfold gQ;split<;>simp
theorem FT:∀ (zs ai:List α),(zs.foldl gQ ai).length≤ai.length+zs.length
 |[],ai=>by simp
 |z::zs,ai=>by
  have h1:=FT zs (gQ ai z);have h2:=FI ai z;rw[nC,hW];omega
end
open PySem PySem.Spec PyProof.Rows
structure KnR (R:aA->Prop)(kds:List (aA×aA)):Prop where
 fit:∀ kd∈kds,(∃ z,kd.1=.str z)/\R kd.2
 once:(kds.map (·.1)).Nodup
variable {R:aA->Prop}{kds:List (aA×aA)}
theorem KnR.look (h:KnR R kds):∀ kd∈kds,∃ z,kd.1=.str z/\dW kds (.inr z)=aa kd.2:=by
 obtain⟨hf,ho⟩:=h;induction kds with
 |nil=>intro _ m;simp at m
 |cons a r ih=>
  rw[dQ,mE] at ho;intro kd m;obtain⟨z,ez⟩:=(hf kd m).1;refine⟨z,ez,?_⟩;rcases dU.mp m with rfl|m
  ·simp[dW,kC,ez,dJ]
  ·obtain⟨z',e1,e2⟩:=ih (fun x m=>hf x (cG _ m)) ho.2 kd m
   obtain rfl:z'=z:=by
    have q:=e1.symm.trans ez;injection q
   have fu:¬ dJ a.1=aa (.inr z'):=fun q=>ho.1 (cJ.mpr ⟨kd,m,by rw[e1];exact(MC q).symm⟩)
   have e3:dW (a::r) (.inr z')=dW r (.inr z'):=by simp[dW,kC,fu]
   rw[e3];exact e2
def bC (r:List Int):aA:=.tuple (r.map aX)
def bB (rs:List (List Int)):aA:=.list (rs.map bC)
theorem UN (r:List Int):bN (bC r)=ae:=by
 show cC (r.map aX)=ae;refine LG fun t m=>?_
 obtain⟨i,_,rfl⟩:=cJ.mp m
 rfl
theorem EB {ds:List aA}{f:EF}{lo hi:OF}{ρ:List (Option aA)}{l u:Option Int}(e1:f ρ=aa (.list ds))(e2:lo ρ=aa l)(e3:hi ρ=aa u):kM f lo hi ρ=aa (.list (cutD ds l u)):=by
 unfold kM;rw[e1,cX,e2,cX,e3,cX]
theorem JV {fd fk fx:EF}{ρ:List (Option aA)}{kds:List (aA×aA)}{kd x:aA}{key:aO}(h1:fd ρ=aa (.dict kds))(h2:fk ρ=aa kd)(ha:dJ kd=aa key)(h3:fx ρ=aa x)(hp:j8 kds=ae:=by first|assumption|rfl|simp):fK fd fk fx ρ=aa ((dW kds key).getD x):=by
 unfold fK;rw[h1,cX,h2,cX,h3,cX];show(if j8 kds=ae then(dJ kd).bind fun k=>aa ((dW kds k).getD x) else ab)=_
 rw[if_pos hp,ha]
 rfl
end L2
namespace L2
open PySem PySem.Spec PyProof.Rows
variable {F G:SF}{ρ:bJ}{P:Out->Prop}{m:Md}
def iO {α β:Type}(g:β->α->Option β):β->List α->Option β
 |b,[]=>aa b
 |b,x::xs=>(g b x).bind fun b'=>iO g b' xs
def DK {β:Type}(I:β->bJ->Prop)(r:aA)(t:Option β)(o:Out):Prop:=match t with
 |none=>o=.rt r
 |some b=>∃ ρ2,o=.nx ρ2/\I b ρ2
def BH {β:Type}(I:β->bJ->Prop)(r:aA)(t:Option β)(o:Out):Prop:=match t with
 |none=>o=.rt r
 |some b=>∃ ρ2,(o=.nx ρ2\/o=.ct ρ2)/\I b ρ2
theorem YX {α β:Type}(g:β->α->Option β)(x:α):∀ (xs:List α) (b:β),iO g b (xs++[x])=(iO g b xs).bind fun b'=>g b' x
 |[],b=>by
  show((g b x).bind fun b'=>aa b')=g b x
  cases g b x<;>rfl
 |y::ys,b=>by
  show((g b y).bind fun b'=>iO g b' (ys++[x]))=((g b y).bind fun b'=>iO g b' ys).bind _
  cases g b y with
  |none=>rfl
  |some b'=>exact YX g x ys b'
theorem Ba {T:aA->bJ->Option bJ}{α β:Type}{q:α->aA}(g:β->α->Option β)(I:β->bJ->Prop)(r:aA){all:List α}{b0:β}
  (step:∀ pre x post b ρ,all=pre++x::post->iO g b0 pre=aa b->I b ρ->∃ ρ1,T (q x) ρ=aa ρ1/\Goes F ρ1 (BH I r (g b x))):∀ {xs pre:List α} {b:β} {ρ:bJ},all=pre++xs->iO g b0 pre=aa b->I b ρ->∃ o,lU F T (xs.map q) ρ=aa o/\DK I r (iO g b xs) o
 |[],pre,b,ρ,_,_,h0=>⟨_,rfl,ρ,rfl,h0⟩
 |x::xs,pre,b,ρ,ha,hb,h0=>by
  obtain⟨ρ1,e1,o,e2,h⟩:=step pre x xs b ρ ha hb h0;have e:lU F T ((x::xs).map q) ρ=aft F T (xs.map q) o:=by
   show((T (q x) ρ).bind fun ρ1=>(F ρ1).bind fun o=>_)=_
   rw[e1,cX,e2,cX];cases o<;>rfl
  rw[e];show ∃ o',aft F T (xs.map q) o=aa o'/\DK I r ((g b x).bind fun b'=>iO g b' xs) o'
  cases hg:g b x with
  |none=>
   rw[hg] at h;have h:o=.rt r:=h;subst h;exact⟨_,rfl,rfl⟩
  |some b'=>
   rw[hg] at h;obtain⟨ρ2,ho,i2⟩:=h;obtain⟨o',e',h'⟩:=Ba g I r step (pre:=pre++[x]) (xs:=xs) (by simpa using ha) (by rw[YX,hb];exact hg) i2
   rcases ho with rfl|rfl
   ·exact⟨o',e',h'⟩
   ·exact⟨o',e',h'⟩
theorem Us {α β:Type}{fi:AF}{T:aA->bJ->Option bJ}{xs:List α}{q:α->aA}{b0:β}(g:β->α->Option β)(I:β->bJ->Prop)(r:aA)(h:aV m fi ρ=aa (xs.map q))(h0:I b0 ρ)
  (step:∀ pre x post b ρ,xs=pre++x::post->iO g b0 pre=aa b->I b ρ->∃ ρ1,T (q x) ρ=aa ρ1/\Goes F ρ1 (BH I r (g b x))):Goes (eW m fi T F) ρ (DK I r (iO g b0 xs)):=by
 obtain⟨o,e,h'⟩:=Ba g I r step (xs:=xs) (pre:=[]) (by simp) rfl h0
 exact⟨o,SC h e,h'⟩
theorem Ui {β:Type}(I:β->bJ->Prop)(r:aA)(t:Option β)(h:Goes F ρ (DK I r t))(k1:t=ab->P (.rt r))(k2:∀ b,t=aa b->∀ ρ',I b ρ'->Goes G ρ' P):Goes (aU F G) ρ P:=by
 obtain⟨o,e,h⟩:=h;cases t with
 |none=>
  have h:o=.rt r:=h;subst h;exact RS e (k1 rfl)
 |some b=>
  obtain⟨ρ2,rfl,i2⟩:=h;exact eF e (k2 b rfl ρ2 i2)
def dN (p:aE×Int):aA×aA:=(.str p.1,.int p.2)
def DN (kn:List (aE×Int)):List (aA×aA):=kn.map dN
def cY (kn:List (aE×Int))(z:aE):Option Int:=(kn.find? fun p=>decide (p.1=z)).map (·.2)
theorem EK (kn:List (aE×Int))(z:aE):dW (DN kn) (.inr z)=(cY kn z).map aX:=by
 unfold dW cY DN;induction kn with
 |nil=>rfl
 |cons p r ih=>
  rw[dQ,kC,kC];have e:dJ (dN p).1=aa (.inr p.1):=rfl;rw[e];by_cases h:p.1=z
  ·simp[h,dN]
  ·have h':¬ (aa (gL p.1:aO)=aa (gL z)):=fun q=>h (by injection q with q;injection q)
   rw[decide_eq_false h',decide_eq_false h];exact ih
theorem Lm {kn:List (aE×Int)}{z:aE}(h:cY kn z=ab)(v:Int):putD (DN kn) (.inr z) (.int v)=DN (kn++[(z,v)]):=by
 unfold putD DN;have hn:¬ ((kn.map dN).any fun kd=>decide (dJ kd.1=aa (.inr z)))=ae:=fun q=>by
  obtain⟨kd,m,e⟩:=CU.mp q;obtain⟨p,mp,rfl⟩:=cJ.mp m;have e':p.1=z:=by
   have:=of_decide_eq_true e;have:aa (gL p.1:aO)=aa (gL z):=this;injection this with this;injection this
  unfold cY at h;have h2:=Option.map_eq_none_iff.mp h;have:=CO.mp h2 p mp;exact this (decide_eq_true e')
 rw[if_neg hn,jG]
 rfl
theorem FS {kn:List (aE×Int)}{z:aE}(h:cY kn z=ab)(v:Int)(y:aE):cY (kn++[(z,v)]) y=if y=z then aa v else cY kn y:=by
 unfold cY at *;rw[Du];by_cases e:y=z
 ·subst e;rw[if_pos rfl,Option.map_eq_none_iff.mp h];simp
 ·rw[if_neg e];have e':¬ z=y:=fun q=>e q.symm
  cases q:kn.find? fun p=>decide (p.1=y) with
  |none=>simp[e']
  |some p=>rfl
def jQ (kn:List (aE×Int))(p:aO×Int):Option (List (aE×Int)):=match p.1 with
 |.inl i=>if p.2=i then aa kn else ab
 |.inr z=>match cY kn z with
  |some u=>if p.2=u then aa kn else ab
  |none=>aa (kn++[(z,p.2)])
theorem FU:∀ {ps:List (aO×Int)} {kn cj:List (aE×Int)},iO jQ kn ps=aa cj ->
  (∀ z u,cY kn z=aa u->cY cj z=aa u)/\(∀ p∈ps,(∀ i,p.1=.inl i->p.2=i)/\∀ z,p.1=.inr z->cY cj z=aa p.2)/\(∀ z u,cY cj z=aa u->cY kn z=aa u\/∃ p∈ps,p.1=.inr z)
 |[],kn,cj,h=>by
  cases h;exact⟨fun _ _ e=>e,fun _ m=>by simp at m,fun _ _ e=>.inl e⟩
 |(.inl i,v)::ps,kn,cj,h=>by
  obtain⟨k1,e1,e2⟩:=ao (show((jQ kn (.inl i,v)).bind fun b'=>iO jQ b' ps)=aa cj from h)
  have e1:(if v=i then aa kn else ab)=aa k1:=e1
  obtain⟨hv,rfl⟩:=eQ e1;obtain⟨a,b,c⟩:=FU e2;refine⟨a,fun p m=>?_,fun z u e=>(c z u e).imp id fun⟨p,m,q⟩=>⟨p,cG _ m,q⟩⟩
  rcases dU.mp m with rfl|m
  ·exact⟨fun i' q=>(by cases q;exact hv),fun z q=>(by cases q)⟩
  ·exact b p m
 |(.inr z,v)::ps,kn,cj,h=>by
  obtain⟨k1,e1,e2⟩:=ao (show((jQ kn (.inr z,v)).bind fun b'=>iO jQ b' ps)=aa cj from h)
  obtain⟨a,b,c⟩:=FU e2;cases hl:cY kn z with
  |some u=>
   have e1:(match cY kn z with|some u=>if v=u then aa kn else ab|none=>aa (kn++[(z,v)]))=aa k1:=e1
   rw[hl] at e1;obtain⟨hv,rfl⟩:=eQ e1;refine⟨a,fun p m=>?_,fun z' u' e=>(c z' u' e).imp id fun⟨p,m,q⟩=>⟨p,cG _ m,q⟩⟩
   rcases dU.mp m with rfl|m
   ·exact⟨fun i' q=>(by cases q),fun z' q=>(by cases q;rw[a z u hl,hv])⟩
   ·exact b p m
  |none=>
   have e1:(match cY kn z with|some u=>if v=u then aa kn else ab|none=>aa (kn++[(z,v)]))=aa k1:=e1
   rw[hl] at e1;cases e1;refine⟨fun y u e=>a y u (by rw[FS hl,if_neg fun q=>by rw[q,hl] at e;cases e];exact e),fun p m=>?_,fun y u e=>?_⟩
   ·rcases dU.mp m with rfl|m
    ·exact⟨fun i' q=>(by cases q),fun z' q=>(by cases q;exact a z v (by rw[FS hl,if_pos rfl]))⟩
    ·exact b p m
   ·rcases c y u e with q|⟨p,m,q⟩
    ·rw[FS hl] at q;by_cases hy:y=z
     ·exact .inr ⟨_,bS,by rw[hy]⟩
     ·rw[if_neg hy] at q;exact .inl q
    ·exact .inr ⟨p,cG _ m,q⟩
theorem FG:∀ {ps:List (aO×Int)} {kn:List (aE×Int)},(∀ p∈ps,∀ i,p.1=.inl i->p.2=i)->(∀ p∈ps,∀ z u,p.1=.inr z->cY kn z=aa u->p.2=u)->(∀ p∈ps,∀ p'∈ps,∀ z,p.1=.inr z->p'.1=.inr z->p.2=p'.2)->∃ cj,iO jQ kn ps=aa cj
 |[],kn,_,_,_=>⟨kn,rfl⟩
 |(.inl i,v)::ps,kn,h1,h2,h3=>by
  have hv:v=i:=h1 _ bS i rfl;obtain⟨cj,e⟩:=FG (kn:=kn) (fun p m=>h1 p (cG _ m)) (fun p m=>h2 p (cG _ m)) (fun p m p' m'=>h3 p (cG _ m) p' (cG _ m'))
  refine⟨cj,?_⟩;show((if v=i then aa kn else ab).bind fun b'=>iO jQ b' ps)=aa cj
  rw[if_pos hv];exact e
 |(.inr z,v)::ps,kn,h1,h2,h3=>by
  cases hl:cY kn z with
  |some u=>
   have hv:v=u:=h2 _ bS z u rfl hl;obtain⟨cj,e⟩:=FG (kn:=kn) (fun p m=>h1 p (cG _ m)) (fun p m=>h2 p (cG _ m)) (fun p m p' m'=>h3 p (cG _ m) p' (cG _ m'))
   refine⟨cj,?_⟩;show((match cY kn z with|some u=>if v=u then aa kn else ab|none=>aa (kn++[(z,v)])).bind fun b'=>iO jQ b' ps)=aa cj
   rw[hl];show((if v=u then aa kn else ab).bind fun b'=>iO jQ b' ps)=aa cj
   rw[if_pos hv];exact e
  |none=>
   obtain⟨cj,e⟩:=FG (kn:=kn++[(z,v)]) (fun p m=>h1 p (cG _ m)) (fun p m y u q e=>by
    rw[FS hl] at e;by_cases hy:y=z
    ·rw[if_pos hy] at e;cases e;exact h3 p (cG _ m) _ bS z (by rw[q,hy]) rfl
    ·rw[if_neg hy] at e;exact h2 p (cG _ m) y u q e) (fun p m p' m'=>h3 p (cG _ m) p' (cG _ m'))
   refine⟨cj,?_⟩;show((match cY kn z with|some u=>if v=u then aa kn else ab|none=>aa (kn++[(z,v)])).bind fun b'=>iO jQ b' ps)=aa cj
   rw[hl];exact e
end L2
namespace Aw
open PySem L2
variable {ρ:List (Option aA)}{cs:List Nat}{s:Nat}
abbrev s0 (d:aA):L2.Slot:=aa (0,d)
abbrev lI (ms:List Int):aA:=.list (ms.map aX)
theorem Lu (a b:Int):fm (.int a) (.int b)=aa (.bool (decide (a=b))):=by
 show aa (uV (cK (.int a) (.int b)))=_
 congr 2
theorem rW {α:Type}{q:α->aA}{xs:List α}{j:Nat}{x:α}(h:xs[j]?=aa x):bf (.list (xs.map q)) (.int j)=aa (q x):=rU (by rw[fA,h];rfl)
abbrev tK (ks:List aO):aA:=.tuple (ks.map kD)
abbrev tI (row:List Int):aA:=.tuple (row.map aX)
def yN:Option (List (aE×Int))->aA
 |none=>.none
 |some kn=>.dict (DN kn)
def RJ (p:aO×Int):aA:=pairD (kD p.1) (.int p.2)
theorem Xw (ks:List aO)(row:List Int):xV pairD (ks.map kD) (row.map aX)=(ks.zip row).map RJ:=by
 rw[List.zipWith_map,List.zip,List.map_zipWith]
 rfl
theorem EI (k:aO):eJ "str" (kD k)=aa (.bool (match k with|.inr _=>ae|.inl _=>af)):=by
 cases k<;>simp[eJ,fO,jb,kD]
theorem ne_int (a b:Int):gf (.int a) (.int b)=aa (.bool (decide (a≠b))):=by
 have:cK (.int a) (.int b)=decide (a=b):=by
  rw[show cK (.int a) (.int b)=(a==b) by simp[cK],yJ]
  simp
 simp[gf,cZ,noDict,eG,this]
def jY (ks:List aO)(row:List Int)(kn:List (aE×Int)):Option (List (aE×Int)):=if row.length=ks.length then iO jQ kn (ks.zip row) else ab
theorem SQ (ds:List aA):cN [.tuple ds]=aa (.int ds.length):=by simp[cN]
theorem Hh {ks:List aO}{row:List Int}{f g:EF}(h1:f ρ=aa (tI row))(h2:g ρ=aa (tK ks)) :
  ah gf (aN cN (aG f aK)) (aN cN (aG g aK)) ρ=aa (.bool (decide (row.length≠ks.length))):=by
 refine bU (a:=.int row.length) (b:=.int ks.length) (bW (cM h1 rfl) (by rw[SQ,eS])) (bW (cM h2 rfl) (by rw[SQ,eS])) ?_
 rw[ne_int]
 congr 2
 rw[yJ];simp;omega
theorem iF {f:EF}{b:Bool}(h:f ρ=aa (.bool b)):au f ρ=aa b:=by
 unfold au;rw[h]
 rfl
theorem Zv (L:L2.Slot)(R K:L2.Slot)(kn:List (aE×Int))(yf:kn.length≤1000)(p:aO×Int)(x6:L2.Slot) :
  Goes (aU (vb 6 3 .s (au (gc (eJ "str") (aB 4))) .s (aB 4) .s (aB 5) .s (aB 4)) (cb .s (au (ah gf (aB 5) (aB 6))) (cS 1 .s (eC .none)) dA)) [L,R,K,aa (1,.dict (DN kn)),aa (0,kD p.1),aa (0,.int p.2),x6]
   (BH (fun cj ρ'=>∃ x4 x5 x6:L2.Slot,ρ'=[L,R,K,aa (1,.dict (DN cj)),x4,x5,x6]) .none (jQ kn p)):=by
 have lz:(DN kn).length<sizeLine:=zO (by simp[DN];omega)
 obtain⟨t,v⟩:=p;cases t with
 |inl i=>
  have e1:vb 6 3 .s (au (gc (eJ "str") (aB 4))) .s (aB 4) .s (aB 5) .s (aB 4) [L,R,K,aa (1,.dict (DN kn)),aa (0,.int i),aa (0,.int v),x6]=aa (.nx [L,R,K,aa (1,.dict (DN kn)),aa (0,.int i),aa (0,.int v),aa (0,.int i)]):=by
   have b:bV .s (au (gc (eJ "str") (aB 4))) [L,R,K,aa (1,.dict (DN kn)),aa (0,.int i),aa (0,.int v),x6]=aa af:=iF (GS (a:=.int i) rfl (EI (.inl i)));unfold vb;rw[b,cX,if_neg oJ]
   rfl
  refine eF e1 ?_;have e2:bV .s (au (ah gf (aB 5) (aB 6))) [L,R,K,aa (1,.dict (DN kn)),aa (0,.int i),aa (0,.int v),aa (0,.int i)]=aa (decide (v≠i)):=iF (bU (a:=.int v) (b:=.int i) rfl rfl (ne_int v i));by_cases h:v=i
  ·refine mL (e2.trans (by simp[h])) (mM ?_)
   show BH _ _ (if v=i then aa kn else ab) _
   rw[if_pos h];exact⟨_,.inl rfl,_,_,_,rfl⟩
  ·refine lW (e2.trans (by simp[h])) (jO (d:=.none) rfl ?_)
   show BH _ _ (if v=i then aa kn else ab) _
   rw[if_neg h]
   rfl
 |inr z=>
  have b:bV .s (au (gc (eJ "str") (aB 4))) [L,R,K,aa (1,.dict (DN kn)),aa (0,.str z),aa (0,.int v),x6]=aa ae:=iF (GS (a:=.str z) rfl (EI (.inr z)));cases hl:cY kn z with
  |some u=>
   have e1:vb 6 3 .s (au (gc (eJ "str") (aB 4))) .s (aB 4) .s (aB 5) .s (aB 4) [L,R,K,aa (1,.dict (DN kn)),aa (0,.str z),aa (0,.int v),x6]=aa (.nx [L,R,K,aa (1,.dict (DN kn)),aa (0,.str z),aa (0,.int v),aa (0,.int u)]):=by
    unfold vb;rw[b,cX,if_pos rfl];show(if 6<7/\(DN kn).length<sizeLine then aa (Out.nx (match dW (DN kn) (.inr z) with
     |some u=>[L,R,K,aa (1,.dict (DN kn)),aa (0,.str z),aa (0,.int v),aa (0,u)]
     | none=>[L,R,K,aa (1,.dict (putD (DN kn) (.inr z) (.int v))),aa (0,.str z),aa (0,.int v),aa (0,.int v)])) else ab)=_
    rw[if_pos ⟨by omega,lz⟩,EK,hl]
    rfl
   refine eF e1 ?_;have e2:bV .s (au (ah gf (aB 5) (aB 6))) [L,R,K,aa (1,.dict (DN kn)),aa (0,.str z),aa (0,.int v),aa (0,.int u)]=aa (decide (v≠u)):=iF (bU (a:=.int v) (b:=.int u) rfl rfl (ne_int v u));have ef:jQ kn (.inr z,v)=if v=u then aa kn else ab:=by
    show(match cY kn z with|some u=>if v=u then aa kn else ab|none=>aa (kn++[(z,v)]))=_
    rw[hl]
   rw[ef];by_cases h:v=u
   ·refine mL (e2.trans (by simp[h])) (mM ?_)
    rw[if_pos h];exact⟨_,.inl rfl,_,_,_,rfl⟩
   ·refine lW (e2.trans (by simp[h])) (jO (d:=.none) rfl ?_)
    rw[if_neg h]
    rfl
  |none=>
   have e1:vb 6 3 .s (au (gc (eJ "str") (aB 4))) .s (aB 4) .s (aB 5) .s (aB 4) [L,R,K,aa (1,.dict (DN kn)),aa (0,.str z),aa (0,.int v),x6]=aa (.nx [L,R,K,aa (1,.dict (DN (kn++[(z,v)]))),aa (0,.str z),aa (0,.int v),aa (0,.int v)]):=by
    unfold vb;rw[b,cX,if_pos rfl];show(if 6<7/\(DN kn).length<sizeLine then aa (Out.nx (match dW (DN kn) (.inr z) with
     |some u=>[L,R,K,aa (1,.dict (DN kn)),aa (0,.str z),aa (0,.int v),aa (0,u)]
     | none=>[L,R,K,aa (1,.dict (putD (DN kn) (.inr z) (.int v))),aa (0,.str z),aa (0,.int v),aa (0,.int v)])) else ab)=_
    rw[if_pos ⟨by omega,lz⟩,EK,hl,Lm hl]
    rfl
   refine eF e1 ?_;have e2:bV .s (au (ah gf (aB 5) (aB 6))) [L,R,K,aa (1,.dict (DN (kn++[(z,v)]))),aa (0,.str z),aa (0,.int v),aa (0,.int v)]=aa (decide (v≠v)):=iF (bU (a:=.int v) (b:=.int v) rfl rfl (ne_int v v));have ef:jQ kn (.inr z,v)=aa (kn++[(z,v)]):=by
    show(match cY kn z with|some u=>if v=u then aa kn else ab|none=>aa (kn++[(z,v)]))=_
    rw[hl]
   rw[ef];exact mL (e2.trans (by simp)) (mM ⟨_,.inl rfl,_,_,_,rfl⟩)
theorem KH:∀ {ps:List (aO×Int)} {kn cj:List (aE×Int)},iO jQ kn ps=aa cj->cj.length≤kn.length+ps.length
 |[],kn,cj,h=>by cases h;simp
 |p::ps,kn,cj,h=>by
  obtain⟨k1,e1,e2⟩:=ao (show((jQ kn p).bind fun b'=>iO jQ b' ps)=aa cj from h)
  have h1:=KH e2;have h2:k1.length≤kn.length+1:=by
   unfold jQ at e1;split at e1
   ·obtain⟨_,rfl⟩:=eQ e1;omega
   ·split at e1
    ·obtain⟨_,rfl⟩:=eQ e1;omega
    ·cases e1;simp
  rw[hW];omega
theorem Wc (a b:aO):cK (kD a) (kD b)=decide (a=b):=by
 cases a with
 |inl i=>cases b with
  |inl j=>
   rw[show cK (kD (.inl i)) (kD (.inl j))=(i==j) by simp[kD,cK],yJ]
   simp
  |inr y=>simp[kD,cK]
 |inr x=>cases b with
  |inl j=>simp[kD,cK]
  |inr y=>
   rw[show cK (kD (.inr x)) (kD (.inr y))=(x==y) by simp[kD,cK],yJ]
   simp
theorem Mj (a b:aO):fm (kD a) (kD b)=aa (.bool (decide (a=b))):=by
 have h1:∀ k:aO,cZ (kD k)=ae:=fun k=>by cases k<;>rfl
 unfold fm;rw[h1 a,h1 b,Wc]
 rfl
def isS:aO->Bool
 |.inr _=>ae
 |.inl _=>af
theorem U1 (kn:List (aE×Int)):j8 (DN kn)=ae:=JH fun kd m=>by
 obtain⟨p,_,rfl⟩:=cJ.mp m;exact fun q=>nomatch q
theorem Bu {c:Prop}[Decidable c]{α:Type}{a:Option α}{b:α}(h:(if c then a else ab)=aa b):c/\a=aa b:=by
 by_cases q:c
 ·rw[if_pos q] at h;exact⟨q,h⟩
 ·rw[if_neg q] at h;cases h
theorem Mw {a b:EF}{x y:Bool}(h:a ρ=aa (.bool x))(h2:x=ae->b ρ=aa (.bool y)):gP a b ρ=aa (.bool (x&&y)):=by
 unfold gP;cases x with
 |true=>rw[h,cX,show gb (.bool ae)=aa ae from rfl,cX,if_pos rfl,h2 rfl];rfl
 |false=>rw[h,cX,show gb (.bool af)=aa af from rfl,cX,if_neg (by simp)];rfl
theorem Js {fa:AF}{ds:List aA}(h:fa ρ=aa ds)(hl:ds.length≤1000:=by simp):gD fa ρ=aa (.tuple ds):=by
 unfold gD;rw[h,cX,if_pos (nX (by omega))]
theorem wC {fa:AF}{ds:List aA}(h:fa ρ=aa ds)(hl:ds.length≤1000:=by simp):dG fa ρ=aa (.list ds):=by
 unfold dG;rw[h,cX,if_pos (nX (by omega))]
abbrev Ln:=aE×List aO
def bH (l:Ln):aA:=.tuple [.str l.1,.tuple (l.2.map kD)]
theorem Ko (a b:aE):fm (.str a) (.str b)=aa (.bool (decide (a=b))):=(Mj (.inr a) (.inr b)).trans (by simp)
theorem jA (c k:Int)(h0:0≤k)(h1:k≤1000000):dH [.int c,.int k]=aa (.int (bT c k)):=by
 have b:=fQ (c%2147483647*48271+k*k*69621+k+11) (show(0:Int)<2147483629 by decide)
 have hk:k.natAbs<18446744073709551616:=by omega
 have hn:((c%2147483647*48271+k*k*69621+k+11)%2147483629).natAbs<18446744073709551616:=by omega
 simp[dH,YI,bz,aU,bE,cS,eV,vS,ah,aB,eC,outD,bO,dD,bM,dh,hk,hn,bT]
theorem nW {ns:List Int}{k:Int}(h0:0≤k)(h1:k≤1000000):∃ c,fL [.list (ns.map aX),.int k]=aa (.int c):=by
 have hk:k.natAbs<18446744073709551616:=by omega
 have at_:∀ i:Int,0≤i->i<ns.length->∃ c,bf (.list (ns.map aX)) (.int i)=aa (.int c):=fun i a b=>by
  obtain⟨j,rfl⟩:=kL a;have hj:j<ns.length:=by omega
  exact⟨ns[j],rU (by rw[fA,eI hj];rfl)⟩
 by_cases hl:k<(ns.length:Int)
 ·obtain⟨c,e⟩:=at_ k h0 hl;exact⟨c,by simp[fL,GF,bz,aU,bE,cS,cb,dA,eV,bV,vS,ah,aB,eC,aN,aG,aK,au,gb,outD,bO,dD,bM,iw,dh,jd,fq,cN,hl,e]⟩
 ·by_cases hz:(0:Int)<ns.length
  ·obtain⟨c,e⟩:=at_ (k*7%(ns.length:Int)) (fQ _ hz).1 (fQ _ hz).2;have b:=fQ (c*48271+k*7919) (show(0:Int)<2147483647 by decide)
   have hn:((c*48271+k*7919)%2147483647).natAbs<18446744073709551616:=by omega
   have A9:0<ns.length:=by omega
   exact⟨_,by simp[fL,GF,bz,aU,bE,cS,cb,dA,eV,bV,vS,ah,aB,eC,aN,aG,aK,au,gb,outD,bO,dD,bM,iw,dh,jd,fq,cN,hl,A9,hk,e,hn];rfl⟩
  ·have A9:ns=[]:=by
    cases ns with
    |nil=>rfl
    |cons a r=>exact absurd (by simp) hz
   have hn:(k*7919+5).natAbs<18446744073709551616:=by omega
   have o9:¬ k<0:=by omega
   subst A9;exact⟨_,by simp[fL,GF,bz,aU,bE,cS,cb,dA,eV,bV,vS,ah,aB,eC,aN,aG,aK,au,gb,outD,bO,dD,bM,iw,dh,jd,fq,cN,o9,hk,hn];rfl⟩
def baseOk (cs:List Nat)(s:Nat):Prop:=cs.length=s/\(∀ c∈cs,nP c=ae)/\∃ c r,cs=c::r/\letter c=ae
theorem baseOk.set{j c:Nat}(h:baseOk cs s)(hc:nP c=ae)(hl:j=0->letter c=ae):baseOk (cs.set j c) s:=by
 obtain⟨h1,h2,c0,r,e,h3⟩:=h;refine⟨by simpa using h1,fun x m=>?_,?_⟩
 ·rcases Dp m with q|q
  ·exact h2 x q
  ·rw[q];exact hc
 ·subst e;cases j with
  |zero=>exact⟨c,r,rfl,hl rfl⟩
  |succ j=>exact⟨c0,r.set j c,rfl,h3⟩
theorem baseOk.name(h:baseOk cs s)(hs:s≤12):nameS (lG cs):=by
 obtain⟨h1,h2,c0,r,e,h3⟩:=h;exact⟨c0,r,e,h3,h2,by show cs.length≤12;omega⟩
theorem WW (cs:List Nat)(j c:Nat):(cs.map fN).set j (fN c)=(cs.set j c).map fN:=by rw[List.map_set]
theorem KL {α β:Type}{f:α->β}:∀ {l:List α},(∀ a∈l,∀ b∈l,f a=f b->a=b)->l.Nodup->(l.map f).Nodup
 |[],_,_=>by simp
 |x::l,h,nd=>by
  rw[mE] at nd;rw[dQ,mE];refine⟨fun m=>?_,KL (fun a ma b mb=>h a (cG _ ma) b (cG _ mb)) nd.2⟩
  obtain⟨y,my,e⟩:=cJ.mp m;exact nd.1 (h y (cG _ my) x bS e ▸ my)
def ue (j:Nat):Nat:=SIGNS.cps.toList.getD j 0
theorem JX:∀ j<36,SIGNS.cps.toList[j]?=aa (ue j)/\nP (ue j)=ae/\(j<26->letter (ue j)=ae):=by rw[0]
theorem Tx:∀ i<36,∀ j<36,ue i=ue j->i=j:=by rw[0]
theorem Ja {i:Int}(h0:0≤i)(h1:i<36):bf (.str SIGNS) (.int i)=aa (fN (ue i.toNat)):=by
 obtain⟨j,rfl⟩:=kL h0;obtain⟨e,_,_⟩:=JX j (by omega)
 show(if SIGNS.length≤sizeLine then(jg SIGNS.cps.toList (j:Int)).bind fun c=>aa (bR ⟨#[c]⟩) else ab)=_
 rw[if_pos (by rw[0]),rU e]
 rfl
theorem VD {a b:List Nat}(h:lG a=lG b):a=b:=by
 have h:a.toArray=b.toArray:=by injection h
 simpa using h
theorem Yp{k:Nat}(h:baseOk cs s)(hs:s≤12):nameS (lG (cs.take (k+1))):=by
 obtain⟨h1,h2,c0,r,e,h3⟩:=h;refine⟨c0,r.take k,by subst e;rfl,h3,fun x m=>h2 x (CL m),?_⟩
 show(cs.take (k+1)).length≤12;rw[oG];omega
theorem Yl (zs:List aE):dR 1 (.list (zs.map bR))=ae:=by
 simp[dR,cT]
theorem SZ (c:Int){n:Nat}(hn:n≤12):∃ zs:List aE,sC [.int c,.int n]=aa (.list (zs.map bR))/\zs.length=n/\(∀ z∈zs,nameS z)/\zs.Nodup:=by
 suffices h:∃ d,sC [.int c,.int n]=aa d/\∃ zs:List aE,d=.list (zs.map bR)/\zs.length=n/\(∀ z∈zs,nameS z)/\zs.Nodup by
  obtain⟨_,e,zs,rfl,h⟩:=h;exact⟨zs,e,h⟩
 refine jV rfl ?_;refine eF (ρ':=[s0 (.int c),s0 (.int n),s0 (.str SIGNS),ab,ab,ab,ab,ab]) (by simp[bE,eV,eC,SIGNS]) ?_
 refine eF (ρ':=[s0 (.int c),s0 (.int n),s0 (.str SIGNS),s0 (.int (1+bT c 1%12)),ab,ab,ab,ab]) (by simp[bE,eV,vS,ah,aB,eC,aN,aG,aK,bO,bM,dh,jA]) ?_
 have b1:=fQ (bT c 1) (show(0:Int)<12 by decide)
 refine fU (fun ρ'=>∃ s:Nat,1≤s/\s≤12/\(bT c 2%3=0->s=12)/\ρ'=[s0 (.int c),s0 (.int n),s0 (.str SIGNS),s0 (.int s),ab,ab,ab,ab]) ?_ ?_
 ·by_cases h3:bT c 2%3=0
  ·refine vV (ρ':=[s0 (.int c),s0 (.int n),s0 (.str SIGNS),s0 (.int 12),ab,ab,ab,ab]) (by simp[bE,cb,dA,eV,bV,vS,ah,aB,eC,aN,aG,aK,au,gb,bM,dh,fm,cZ,noDict,eG,cK,jA,h3]) ⟨_,rfl,12,by omega,by omega,fun _=>rfl,rfl⟩
  ·refine vV (ρ':=[s0 (.int c),s0 (.int n),s0 (.str SIGNS),s0 (.int (1+bT c 1%12)),ab,ab,ab,ab]) (by simp[bE,cb,dA,eV,bV,vS,ah,aB,eC,aN,aG,aK,au,gb,bM,dh,fm,cZ,noDict,eG,cK,jA,h3]) ⟨_,rfl,(1+bT c 1%12).toNat,by omega,by omega,fun h=>absurd h h3,?_⟩
   have e:((1+bT c 1%12).toNat:Int)=1+bT c 1%12:=by omega
   rw[e]
 rintro _ ⟨s,rm,Ps,tu,rfl⟩;refine fU (fun ρ'=>∃ cs:List Nat,cs.length=s/\(∀ x∈cs,nP x=ae)/\ρ'=[s0 (.int c),s0 (.int n),s0 (.str SIGNS),s0 (.int s),aa (1,.list (cs.map fN)),ab,ab,ab]) ?_ ?_
 ·obtain⟨cs,e,hl,ho⟩:=ES (cap:=[ab,aa 2,aa 0]) (fi:=j7 (aG (aB 3) aK)) (T:=gB 0) (t:=dM) (f:=(ah bf (aB 1) (ah bM (aN dH (aG (aB 2) (aG (ah bO (eC (.int 30)) (aB 0)) aK))) (eC (.int 36)))))
    (ρ:=vS [s0 (.int c),s0 (.int n),s0 (.str SIGNS),s0 (.int s),ab,ab,ab,ab]) (n:=s) fN (fun x=>nP x=ae) (nR rfl (by omega)) (by omega) (fun k hk=>by
    have b:=fQ (bT c (30+k)) (show(0:Int)<36 by decide)
    obtain⟨x,e,h1,_⟩:=UE b.1 b.2;have e2:=jA c (30+(k:Int)) (by omega) (by omega)
    refine⟨[aa (.int k),aa (.str SIGNS),aa (.int c)],x,rfl,rfl,?_,h1⟩;simp only[ah,aB,eC,aN,aG,aK,bO,bM,dh,cX,yA,pL,BX,e2,if_pos (show(0:Int)<36 by decide),e])
  exact rV e (by simp) ⟨_,rfl,cs,hl,ho,rfl⟩
 rintro _ ⟨F',hl,ho,rfl⟩;refine fU (fun ρ'=>∃ cs:List Nat,baseOk cs s/\ρ'=[s0 (.int c),s0 (.int n),s0 (.str SIGNS),s0 (.int s),aa (1,.list (cs.map fN)),ab,ab,ab]) ?_ ?_
 ·have b:=fQ (bT c 50) (show(0:Int)<26 by decide)
  obtain⟨x,e,h1,h2⟩:=UE b.1 (by omega)
  have hb:baseOk (F'.set 0 x) s:=by
   refine⟨by simpa using hl,fun y m=>?_,?_⟩
   ·rcases Dp m with q|q
    ·exact ho y q
    ·rw[q];exact h1
   ·cases F' with
    |nil=>simp at hl;omega
    |cons a r=>exact⟨x,r,rfl,h2 b.2⟩
  have wv:l8 (F'.map fN).length 0=aa 0:=by
   unfold l8;rw[if_pos (by decide),if_pos (by rw[eS];omega)]
   rfl
  refine vV (ρ':=[s0 (.int c),s0 (.int n),s0 (.str SIGNS),s0 (.int s),aa (1,.list ((F'.set 0 x).map fN)),ab,ab,ab]) ?_ ⟨_,rfl,_,hb,rfl⟩;simp only[fX,eV,vS,ah,aB,eC,aN,aG,aK,bM,dh,getL,dQ,yA,pL,BX,cX,jA c 50 (by omega) (by omega),if_pos (show(0:Int)<26 by decide),e,wv]
  rw[← WW]
  rfl
 rintro _ ⟨cs,hb,rfl⟩;by_cases h3:bT c 2%3=0
 ·have hs:=tu h3;subst hs;have e:=NI (cap:=[ab,aa 4]) (fi:=j7 (aG (aB 1) aK)) (T:=gB 0) (t:=dM) (f:=(ah vY (eC (.str "")) (kM (aB 1) oN (oS (ah bO (aB 0) (eC (.int 1)))))))
    (ρ:=vA [s0 (.int c),s0 (.int n),s0 (.str SIGNS),s0 (.int (12:Nat)),aa (1,.list (cs.map fN)),ab,ab,ab]) (ds:=(dB n).map fun(k:Nat)=>aX k) (fun d=>match d with|.int k=>.str (lG (cs.take (k.toNat+1)))|d=>d) (nR rfl (by omega)) (by simp;omega) (fun d md=>by
    obtain⟨k,mk,rfl⟩:=cJ.mp md;have hk:=hV.mp mk;have e1:=Al (ds:=cs.map fN) (k:=k+1) (by have:=hb.1;simp;omega)
    have e2:=Bl (cs:=cs.take (k+1)) (by have:=hb.1;simp;omega)
    refine⟨[aa (.int k),aa (.list (cs.map fN))],rfl,rfl,?_⟩;have e3:((k:Int)+1)=((k+1:Nat):Int):=by omega
    simp only[ah,aB,eC,kM,oN,oS,bO,cX,yA,pL,BX,e3,e1];rw[← OT,e2]
    rfl)
  rw[gH] at e;have e':((dB n).map ((fun d=>match d with|.int k=>bR (lG (cs.take (k.toNat+1)))|d=>d)∘fun(k:Nat)=>aX k))=(((dB n).map fun k=>lG (cs.take (k+1))).map bR):=by
   rw[gH]
   rfl
  rw[e'] at e;refine JY (lW ?_ (Up e (Yl _) ⟨_,rfl,_,rfl,_,rfl,by simp,fun z m=>?_,?_⟩))
  ·simp[bV,vS,ah,aB,eC,aN,aG,aK,au,gb,bM,dh,fm,cZ,noDict,eG,cK,jA,h3]
  ·obtain⟨k,_,rfl⟩:=cJ.mp m;exact Yp hb (by omega)
  ·refine KL (fun a ma b mb q=>?_) Do
   have ha:=hV.mp ma;have t4:=hV.mp mb;have:=congrArg OX (VD q);rw[oG,oG,hb.1] at this;omega
 ·refine eF (ρ':=[s0 (.int c),s0 (.int n),s0 (.str SIGNS),s0 (.int s),aa (1,.list (cs.map fN)),ab,ab,ab]) (vQ (by simp[bV,vS,ah,aB,eC,aN,aG,aK,au,gb,bM,dh,fm,cZ,noDict,eG,cK,jA,h3])) ?_
  have xL:(0:Int)<s:=by omega
  have ba:=fQ (bT c 3) xL;obtain⟨a,ha⟩:=kL ba.1;have vy:a<s:=by omega
  refine eF (ρ':=[s0 (.int c),s0 (.int n),s0 (.str SIGNS),s0 (.int s),aa (1,.list (cs.map fN)),s0 (.int a),ab,ab]) (by
   have:0<s:=by omega
   simp[bE,eV,vS,ah,aB,eC,aN,aG,aK,bM,dh,jA,this,ha]) ?_
  refine eF (ρ':=[s0 (.int c),s0 (.int n),s0 (.str SIGNS),s0 (.int s),aa (1,.list (cs.map fN)),s0 (.int a),aa (1,.list []),ab]) rfl ?_;obtain⟨w,hw⟩:∃ w:Nat,w=if a=0 then 26 else 36:=⟨_,rfl⟩
  have hw1:26≤w/\w≤36:=by subst hw;split<;>omega
  let sg:Nat->Nat:=fun k=>ue ((bT c 4+k)%(w:Int)).toNat
  have BT:∀ k:Nat,((bT c 4+k)%(w:Int)).toNat<w:=fun k=>by
   have:=fQ (bT c 4+k) (show(0:Int)<w by omega)
   omega
  have Y2:∀ k,nP (sg k)=ae:=fun k=>(JX _ (by have:=BT k;omega)).2.1
  have Y3:∀ k,a=0->letter (sg k)=ae:=fun k h0=>(JX _ (by have:=BT k;omega)).2.2 (by have:=BT k;rw[if_pos h0] at hw;omega)
  refine fU (fun ρ'=>∃ (ds:List Nat) (x:L2.Slot),ρ'=[s0 (.int c),s0 (.int n),s0 (.str SIGNS),s0 (.int s),aa (1,.list (ds.map fN)),s0 (.int a),aa (1,.list (((dB n).map fun k=>lG (cs.set a (sg k))).map bR)),x]) ?_ ?_
  ·refine tZ (n:=n) (fun i ρ'=>∃ (ds:List Nat) (x:L2.Slot),baseOk ds s/\(∀ y,ds.set a y=cs.set a y)/\ρ'=[s0 (.int c),s0 (.int n),s0 (.str SIGNS),s0 (.int s),aa (1,.list (ds.map fN)),s0 (.int a),aa (1,.list (((dB i).map fun k=>lG (cs.set a (sg k))).map bR)),x]) ?_ ⟨cs,ab,hb,fun _=>rfl,rfl⟩ ?_ ?_
   ·exact jz (nR rfl (by omega))
   ·rintro i _ hi ⟨ds,x,hd,P1,rfl⟩;generalize hZ:((dB i).map fun k=>lG (cs.set a (sg k)))=zs
    have Go:zs.length=i:=by rw[← hZ];simp
    refine⟨[s0 (.int c),s0 (.int n),s0 (.str SIGNS),s0 (.int s),aa (1,.list (ds.map fN)),s0 (.int a),aa (1,.list (zs.map bR)),s0 (.int i)],rfl,?_⟩;have K2:=hd.1;have wv:l8 (ds.map fN).length (a:Int)=aa a:=by
     unfold l8;rw[if_pos (by omega),if_pos (by rw[eS];omega)]
     simp
    have ey:eV 0 .s (ah bf (aB 2) (ah bM (ah bO (aN dH (aG (aB 0) (aG (eC (.int 4)) aK))) (aB 7)) (ah bO (eC (.int 26)) (ah dD (eC (.int 10)) (aN fW (aG (ah fq (aB 5) (eC (.int 0))) aK)))))) [s0 (.int c),s0 (.int n),s0 (.str SIGNS),s0 (.int s),aa (1,.list (ds.map fN)),s0 (.int a),aa (1,.list (zs.map bR)),s0 (.int i)]=aa (fN (sg i)):=by
     have hb1:=fQ (bT c 4+i) (show(0:Int)<w by omega)
     have e:=Ja hb1.1 (by omega)
     show _=aa (fN (ue ((bT c 4+i)%(w:Int)).toNat));by_cases h0:a=0
     ·rw[if_pos h0] at hw;subst hw;have e:bf (.str SIGNS) (.int ((bT c 4+i)%26))=aa (fN (ue ((bT c 4+i)%26).toNat)):=e;simp[eV,vS,ah,aB,eC,aN,aG,aK,bO,dD,bM,iw,dh,fq,fW,jA,h0,e]
     ·rw[if_neg h0] at hw;subst hw;have e:bf (.str SIGNS) (.int ((bT c 4+i)%36))=aa (fN (ue ((bT c 4+i)%36).toNat)):=e;have h1:0<a:=by omega
      simp[eV,vS,ah,aB,eC,aN,aG,aK,bO,dD,bM,iw,dh,fq,fW,jA,h1,e]
    refine eF (ρ':=[s0 (.int c),s0 (.int n),s0 (.str SIGNS),s0 (.int s),aa (1,.list ((cs.set a (sg i)).map fN)),s0 (.int a),aa (1,.list (zs.map bR)),s0 (.int i)]) ?_ ?_
    ·unfold fX;rw[ey,← P1,← WW];simp only[eV,vS,aB,getL,dQ,yA,pL,BX,cX,wv]
     rfl
    ·have t4:=hb.set (j:=a) (Y2 i) (Y3 i);have ej:=Bl (cs:=cs.set a (sg i)) (by have:=hb.1;simp;omega)
     refine vV (ρ':=[s0 (.int c),s0 (.int n),s0 (.str SIGNS),s0 (.int s),aa (1,.list ((cs.set a (sg i)).map fN)),s0 (.int a),aa (1,.list ((zs++[lG (cs.set a (sg i))]).map bR)),s0 (.int i)]) ?_ ⟨_,.inl rfl,cs.set a (sg i),s0 (.int i),t4,fun y=>by rw[List.set_set],?_⟩
     ·have hz:(zs.map bR).length<sizeLine:=zO (by simp;omega)
      have ee:ah vY (eC (.str "")) (aB 4) (vA [s0 (.int c),s0 (.int n),s0 (.str SIGNS),s0 (.int s),aa (1,.list ((cs.set a (sg i)).map fN)),s0 (.int a),aa (1,.list (zs.map bR)),s0 (.int i)])=aa (.str (lG (cs.set a (sg i)))):=by
       simp only[ah,eC,aB,vA,dQ,uW,yA,pL,BX,cX,ej]
      unfold eR eV;simp only[ee,cX,dR,cT,if_true,getL,yA,pL,if_pos hz];simp
     ·have e:((dB (i+1)).map fun k=>lG (cs.set a (sg k)))=zs++[lG (cs.set a (sg i))]:=by
       rw[List.range_succ,jG,hZ]
       rfl
      rw[e]
   ·rintro _ ⟨ds,x,_,_,rfl⟩;exact⟨_,rfl,ds,x,rfl⟩
  rintro _ ⟨ds,x,rfl⟩;refine⟨_,rfl,_,rfl,_,rfl,by simp,fun z m=>?_,?_⟩
  ·obtain⟨k,_,rfl⟩:=cJ.mp m;exact(hb.set (Y2 k) (Y3 k)).name Ps
  ·refine KL (fun k mk k' mk' q=>?_) Do
   have hk:=hV.mp mk;have ft:=hV.mp mk';have e:=congrArg (fun l=>l[a]?) (VD q)
   have K2:=hb.1;simp only[rE (show a<cs.length by omega)] at e
   have e:=Tx _ (by have:=BT k;omega) _ (by have:=BT k';omega) (gY e)
   have b1:=fQ (bT c 4+k) (show(0:Int)<w by omega)
   have b2:=fQ (bT c 4+k') (show(0:Int)<w by omega)
   have e:(bT c 4+k)%(w:Int)=(bT c 4+k')%(w:Int):=by omega
   by_cases h0:a=0
   ·rw[if_pos h0] at hw;subst hw;omega
   ·rw[if_neg h0] at hw;subst hw;omega
def eY (t:aE×Nat):aA:=.tuple [.str t.1,.int t.2]
theorem Mx (c:Int):∃ ps:List Int,wU [.int c]=aa (.list (ps.map aX))/\ps.length=6:=by
 have h6:(6:Nat)≤sizeLine:=nX (by omega)
 refine⟨[c%10^59,0-c%10^59-1,bT c 31%3,7,10^35*10^34+c%10^59,0-(10^35*10^34+c%10^59)],?_,rfl⟩;simp[wU,YZ,bz,aU,bE,cS,fG,cb,eW,eR,iL,fX,fY,eU,frz,dA,eV,bV,aV,vS,vA,ah,gc,aB,eC,aN,gD,dG,aG,aK,au,iN,fT,jt,gb,gP,kj,iM,fK,iE,ki,cq,getL,gC,outD,cf,j7,iR2,yS,itemsOf,bO,gK,dD,bM,dY,gM,iw,dh,jd,km,fq,kl,cN,eJ,fO,jb,fH,iP,fW,fm,gf,cZ,noDict,noDicts,eG,cL,cK,dR,cT,j1,kT,dM,gB,jA,h6]
theorem Zh (c:Int){n:Nat}(hn:n≤12):∃ d,AS [.int c,.int n]=aa d/\∃ ts:List (aE×Nat),d=.list (ts.map eY)/\ts.length=n/\(∀ t∈ts,nameS t.1/\1≤t.2/\t.2≤6)/\(ts.map (·.1)).Nodup:=by
 obtain⟨zs,e,hl,hz,gw⟩:=SZ c hn;refine jV rfl ?_;refine iG (n:=1) (d:=.list []) rfl (by simp) ?_
 refine fU (fun ρ'=>∃ (ts:List (aE×Nat)) (x3 x4 x5:L2.Slot),ts.length=n/\((∀ t∈ts,nameS t.1/\1≤t.2/\t.2≤6)/\ts.map (·.1)=zs)/\ρ'=[s0 (.int c),s0 (.int n),aa (1,.list (ts.map eY)),x3,x4,x5]) ?_ ?_
 ·refine pQ (ds:=zs.map bR) (fun i ρ'=>∃ (ts:List (aE×Nat)) (x3 x4 x5:L2.Slot),ts.length=i/\((∀ t∈ts,nameS t.1/\1≤t.2/\t.2≤6)/\ts.map (·.1)=zs.take i)/\ρ'=[s0 (.int c),s0 (.int n),aa (1,.list (ts.map eY)),x3,x4,x5]) (jz (lO (bW (ds:=[.int c,.int n]) rfl e))) ⟨[],ab,ab,ab,rfl,⟨fun _ m=>by simp at m,rfl⟩,rfl⟩ ?_ ?_
  ·rintro i d _ hd ⟨ts,x3,x4,x5,t7,⟨ht,htz⟩,rfl⟩;rw[fA] at hd;obtain⟨z,t8,rfl⟩:=kA.mp hd;have hi:i<n:=by rw[← hl];exact(dF.mp t8).1
   refine⟨[s0 (.int c),s0 (.int n),aa (1,.list (ts.map eY)),s0 (.str z),x4,x5],rfl,?_⟩;have em:=jA c (60+(i:Int)) (by omega) (by omega)
   refine Cb (d:=.int (bT c (60+(i:Int)))) (by simp[bz,aU,bE,cS,fG,cb,eR,iL,fX,fY,eU,frz,dA,eV,bV,aV,vS,vA,ah,gc,aB,eC,aN,gD,dG,aG,aK,au,iN,fT,jt,gb,gP,kj,iM,fK,iE,ki,cq,getL,gC,outD,cf,itemsOf,bO,gK,dD,bM,dY,gM,iw,dh,jd,km,fq,kl,cN,eJ,fO,jb,fH,iP,fW,fm,gf,cZ,noDict,noDicts,eG,cL,cK,dR,cT,dM,gB,t7,em]) rfl (by simp) ?_
   generalize bT c (60+(i:Int))=m;refine iG (d:=.int (1+m/4%3)) (by simp[bz,aU,bE,cS,fG,cb,eR,iL,fX,fY,eU,frz,dA,eV,bV,aV,vS,vA,ah,gc,aB,eC,aN,gD,dG,aG,aK,au,iN,fT,jt,gb,gP,kj,iM,fK,iE,ki,cq,getL,gC,outD,cf,itemsOf,bO,gK,dD,bM,dY,gM,iw,dh,jd,km,fq,kl,cN,eJ,fO,jb,fH,iP,fW,fm,gf,cZ,noDict,noDicts,eG,cL,cK,dR,cT,dM,gB]) (by simp) ?_
   refine fU (fun ρ'=>∃ q:Nat,1≤q/\q≤6/\ρ'=[s0 (.int c),s0 (.int n),aa (1,.list (ts.map eY)),s0 (.str z),s0 (.int m),s0 (.int q)]) ?_ ?_
   ·by_cases h4:m%4=0
    ·have b:=fQ (m/4) (show(0:Int)<6 by decide)
     obtain⟨q,hq⟩:=kL b.1;exact lW (by simp[bz,aU,bE,cS,fG,cb,eR,iL,fX,fY,eU,frz,dA,eV,bV,aV,vS,vA,ah,gc,aB,eC,aN,gD,dG,aG,aK,au,iN,fT,jt,gb,gP,kj,iM,fK,iE,ki,cq,getL,gC,outD,cf,itemsOf,bO,gK,dD,bM,dY,gM,iw,dh,jd,km,fq,kl,cN,eJ,fO,jb,fH,iP,fW,fm,gf,cZ,noDict,noDicts,eG,cL,cK,dR,cT,dM,gB,h4]) (rV (d:=.int ((1+q:Nat):Int)) (by simp[bz,aU,bE,cS,fG,cb,eR,iL,fX,fY,eU,frz,dA,eV,bV,aV,vS,vA,ah,gc,aB,eC,aN,gD,dG,aG,aK,au,iN,fT,jt,gb,gP,kj,iM,fK,iE,ki,cq,getL,gC,outD,cf,itemsOf,bO,gK,dD,bM,dY,gM,iw,dh,jd,km,fq,kl,cN,eJ,fO,jb,fH,iP,fW,fm,gf,cZ,noDict,noDicts,eG,cL,cK,dR,cT,dM,gB,hq]) (by simp) ⟨_,rfl,1+q,by omega,by omega,rfl⟩)
    ·have b:=fQ (m/4) (show(0:Int)<3 by decide)
     obtain⟨q,hq⟩:=kL b.1;refine mL (by simp[bz,aU,bE,cS,fG,cb,eR,iL,fX,fY,eU,frz,dA,eV,bV,aV,vS,vA,ah,gc,aB,eC,aN,gD,dG,aG,aK,au,iN,fT,jt,gb,gP,kj,iM,fK,iE,ki,cq,getL,gC,outD,cf,itemsOf,bO,gK,dD,bM,dY,gM,iw,dh,jd,km,fq,kl,cN,eJ,fO,jb,fH,iP,fW,fm,gf,cZ,noDict,noDicts,eG,cL,cK,dR,cT,dM,gB,h4]) (mM ⟨_,rfl,1+q,by omega,by omega,?_⟩)
     rw[hq]
     rfl
   rintro _ ⟨q,q1,q6,rfl⟩;have h2:(2:Nat)≤sizeLine:=nX (by omega)
   refine pS (d:=eY (z,q)) (ds:=ts.map eY) (by simp[bz,aU,bE,cS,fG,cb,eR,iL,fX,fY,eU,frz,dA,eV,bV,aV,vS,vA,ah,gc,aB,eC,aN,gD,dG,aG,aK,au,iN,fT,jt,gb,gP,kj,iM,fK,iE,ki,cq,getL,gC,outD,cf,itemsOf,bO,gK,dD,bM,dY,gM,iw,dh,jd,km,fq,kl,cN,eJ,fO,jb,fH,iP,fW,fm,gf,cZ,noDict,noDicts,eG,cL,cK,dR,cT,dM,gB,eY,h2]) rfl (by simp;omega) ⟨_,.inl rfl,ts++[(z,q)],s0 (.str z),s0 (.int m),s0 (.int q),by simp[t7],⟨fun t m=>?_,by rw[jG,htz,sP,t8];rfl⟩,by simp⟩
   rcases jF.mp m with m|m
   ·exact ht t m
   ·rw[dP.mp m];exact⟨hz z (gZ t8),q1,q6⟩
  ·rintro _ ⟨ts,x3,x4,x5,h1,h2,rfl⟩;exact⟨_,rfl,ts,_,_,_,by simpa [hl] using h1,⟨h2.1,by simpa [← hl] using h2.2⟩,rfl⟩
 rintro _ ⟨ts,x3,x4,x5,h1,h2,rfl⟩;exact⟨_,rfl,_,rfl,ts,rfl,h1,h2.1,by rw[h2.2];exact gw⟩
def G6 (zs:List aE)(ps:List Int):aO->Prop
 |.inl i=>i∈ps
 |.inr z=>z∈zs
theorem Ug (c:Int){zs:List aE}{ps:List Int}(h0:0<zs.length)(hp:ps.length=6):∃ d,wR [.int c,.list (zs.map bR),.list (ps.map aX)]=aa d/\∃ k:aO,d=kD k/\G6 zs ps k:=by
 refine jV rfl ?_;refine iG (d:=.int (bT c 7)) (by simp[bz,aU,bE,cS,fG,cb,eR,iL,fX,fY,eU,frz,dA,eV,bV,aV,vS,vA,ah,gc,aB,eC,aN,gD,dG,aG,aK,au,iN,fT,jt,gb,gP,kj,iM,fK,iE,ki,cq,getL,gC,outD,cf,itemsOf,bO,gK,dD,bM,dY,gM,iw,dh,jd,km,fq,kl,cN,eJ,fO,jb,fH,iP,fW,fm,gf,cZ,noDict,noDicts,eG,cL,cK,dR,cT,dM,gB,jA]) (by simp) ?_
 generalize bT c 7=m;by_cases h3:m%5<4
 ·obtain⟨j,d,hj,e⟩:=JI (ds:=zs.map bR) (m/5) (by simpa using h0)
  rw[fA] at hj;obtain⟨z,t8,rfl⟩:=kA.mp hj;have e':jg (zs.map bR) (m/5%(zs.length:Int))=aa (.str z):=by simpa using e
  refine JY (lW (by simp[bz,aU,bE,cS,fG,cb,eR,iL,fX,fY,eU,frz,dA,eV,bV,aV,vS,vA,ah,gc,aB,eC,aN,gD,dG,aG,aK,au,iN,fT,jt,gb,gP,kj,iM,fK,iE,ki,cq,getL,gC,outD,cf,itemsOf,bO,gK,dD,bM,dY,gM,iw,dh,jd,km,fq,kl,cN,eJ,fO,jb,fH,iP,fW,fm,gf,cZ,noDict,noDicts,eG,cL,cK,dR,cT,dM,gB,h3]) (jO (d:=.str z) ?_ ⟨_,rfl,_,rfl,.inr z,rfl,gZ t8⟩))
  simp[bz,aU,bE,cS,fG,cb,eR,iL,fX,fY,eU,frz,dA,eV,bV,aV,vS,vA,ah,gc,aB,eC,aN,gD,dG,aG,aK,au,iN,fT,jt,gb,gP,kj,iM,fK,iE,ki,cq,getL,gC,outD,cf,itemsOf,bO,gK,dD,bM,dY,gM,iw,dh,jd,km,fq,kl,cN,eJ,fO,jb,fH,iP,fW,fm,gf,cZ,noDict,noDicts,eG,cL,cK,dR,cT,dM,gB,h0,bf,e']
 ·refine eF (vQ (by simp[bz,aU,bE,cS,fG,cb,eR,iL,fX,fY,eU,frz,dA,eV,bV,aV,vS,vA,ah,gc,aB,eC,aN,gD,dG,aG,aK,au,iN,fT,jt,gb,gP,kj,iM,fK,iE,ki,cq,getL,gC,outD,cf,itemsOf,bO,gK,dD,bM,dY,gM,iw,dh,jd,km,fq,kl,cN,eJ,fO,jb,fH,iP,fW,fm,gf,cZ,noDict,noDicts,eG,cL,cK,dR,cT,dM,gB,h3])) ?_
  have b:=fQ (m/5) (show(0:Int)<4 by decide)
  obtain⟨j,ej⟩:=kL b.1;have hj:j<ps.length:=by omega
  have e':jg (ps.map aX) (m/5%4)=aa (.int ps[j]):=by rw[ej];exact rU (by rw[fA,eI hj];rfl)
  refine jO (d:=.int ps[j]) ?_ ⟨_,rfl,.inl ps[j],rfl,nB hj⟩;simp[bz,aU,bE,cS,fG,cb,eR,iL,fX,fY,eU,frz,dA,eV,bV,aV,vS,vA,ah,gc,aB,eC,aN,gD,dG,aG,aK,au,iN,fT,jt,gb,gP,kj,iM,fK,iE,ki,cq,getL,gC,outD,cf,itemsOf,bO,gK,dD,bM,dY,gM,iw,dh,jd,km,fq,kl,cN,eJ,fO,jb,fH,iP,fW,fm,gf,cZ,noDict,noDicts,eG,cL,cK,dR,cT,dM,gB,bf,e']
def tp (ts:List (aE×Nat))(zs:List aE)(ps:List Int)(l:Ln):Prop:=(l.1,l.2.length)∈ts/\∀ k∈l.2,G6 zs ps k
theorem YG (l:Ln):cT (bH l)=ae:=by
 have:∀ ks:List aO,nU (ks.map kD)=ae:=fun ks=>by
  induction ks with
  |nil=>rfl
  |cons k r ih=>cases k<;>simp[kD,nU,cT,ih]
 simp[bH,cT,nU,this]
theorem Vn {ns:List Int}{ts:List (aE×Nat)}{zs:List aE}{ps:List Int}{st cnt:Nat}(hs:st≤1000)(hc:cnt≤1000)(h0:0<ts.length)(ht:∀ t∈ts,nameS t.1/\1≤t.2/\t.2≤6)(P5:0<zs.length)(hp:ps.length=6) :
  ∃ d,AZ [.list (ns.map aX),.int st,.list (ts.map eY),.list (zs.map bR),.list (ps.map aX),.int cnt]=aa d/\∃ ls:List Ln,d=.list (ls.map bH)/\ls.length=cnt/\∀ l∈ls,tp ts zs ps l:=by
 let pre:List L2.Slot:=[s0 (.list (ns.map aX)),s0 (.int st),s0 (.list (ts.map eY)),s0 (.list (zs.map bR)),s0 (.list (ps.map aX)),s0 (.int cnt)]
 refine jV rfl ?_;refine eF (ρ':=pre++[aa (1,.list []),ab,ab,ab,ab,ab]) rfl ?_;refine eF (ρ':=pre++[aa (1,.list []),s0 (.int st),ab,ab,ab,ab]) rfl ?_;refine fU (fun ρ'=>∃ (ls:List Ln) (x6 x7 x8 x9 du:L2.Slot),ls.length=cnt/\(∀ l∈ls,tp ts zs ps l)/\ρ'=pre++[aa (1,.list (ls.map bH)),x6,x7,x8,x9,du]) ?_ ?_
 ·refine tZ (n:=cnt) (fun i ρ'=>∃ (ls:List Ln) (at_:Nat) (x7 x8 x9 du:L2.Slot),ls.length=i/\(∀ l∈ls,tp ts zs ps l)/\at_≤1000+7*i/\ρ'=pre++[aa (1,.list (ls.map bH)),s0 (.int at_),x7,x8,x9,du]) (jz (nR rfl (by omega))) ⟨[],st,ab,ab,ab,ab,rfl,fun _ m=>by simp at m,by omega,rfl⟩ ?_ ?_
  ·rintro i _ hi ⟨ls,at_,x7,x8,x9,du,hl,qu,zo,rfl⟩;refine⟨pre++[aa (1,.list (ls.map bH)),s0 (.int at_),s0 (.int i),x8,x9,du],rfl,?_⟩;obtain⟨c,ec⟩:=nW (ns:=ns) (k:=(at_:Int)) (by omega) (by omega)
   have e8:∀ y9 y10:L2.Slot,aN dH (aG (aN fL (aG (aB 0) (aG (aB 7) aK))) (aG (eC (.int 8)) aK)) (vS (pre++[aa (1,.list (ls.map bH)),s0 (.int at_),s0 (.int i),x8,y9,y10]))=aa (.int (bT c 8)):=fun _ _=>by
    simp[bz,aU,bE,cS,fG,cb,eR,iL,fX,fY,eU,frz,dA,eV,bV,aV,vS,vA,ah,gc,aB,eC,aN,gD,dG,aG,aK,au,iN,fT,jt,gb,gP,kj,iM,fK,iE,ki,cq,getL,gC,outD,cf,itemsOf,bO,gK,dD,bM,dY,gM,iw,dh,jd,km,fq,kl,cN,eJ,fO,jb,fH,iP,fW,fm,gf,cZ,noDict,noDicts,eG,cL,cK,dR,cT,dM,gB,pre,ec,jA]
   refine eF (ρ':=pre++[aa (1,.list (ls.map bH)),s0 (.int at_),s0 (.int i),s0 (.int (bT c 8)),x9,du]) ?_ ?_
   ·unfold bE eV;rw[e8]
    rfl
   obtain⟨j,d,hj,e⟩:=JI (ds:=ts.map eY) (bT c 8) (by simpa using h0)
   rw[fA] at hj;obtain⟨t,uq,rfl⟩:=kA.mp hj;have e':jg (ts.map eY) (bT c 8%(ts.length:Int))=aa (eY t):=by simpa using e
   obtain⟨t1,t2,t3⟩:=ht t (gZ uq);refine eF (ρ':=pre++[aa (1,.list (ls.map bH)),s0 (.int at_),s0 (.int i),s0 (.int (bT c 8)),s0 (eY t),du]) ?_ ?_
   ·simp[bz,aU,bE,cS,fG,cb,eR,iL,fX,fY,eU,frz,dA,eV,bV,aV,vS,vA,ah,gc,aB,eC,aN,gD,dG,aG,aK,au,iN,fT,jt,gb,gP,kj,iM,fK,iE,ki,cq,getL,gC,outD,cf,itemsOf,bO,gK,dD,bM,dY,gM,iw,dh,jd,km,fq,kl,cN,eJ,fO,jb,fH,iP,fW,fm,gf,cZ,noDict,noDicts,eG,cL,cK,dR,cT,dM,gB,pre,h0,bf,e']
   obtain⟨tm,et,ce,htm⟩:=ES (cap:=[ab,aa 3,aa 4,aa 0,aa 7]) (fi:=j7 (aG (ah bf (aB 10) (eC (.int 1))) aK)) (T:=gB 0) (t:=dM) (f:=aN wR (aG (aN fL (aG (aB 3) (aG (ah bO (ah bO (aB 4) (eC (.int 1))) (aB 0)) aK))) (aG (aB 1) (aG (aB 2) aK))))
    (ρ:=vS (pre++[aa (1,.list (ls.map bH)),s0 (.int at_),s0 (.int i),s0 (.int (bT c 8)),s0 (eY t),du])) (n:=t.2) kD (G6 zs ps) (nR rfl (by omega)) (by omega) (fun k hk=>by
     obtain⟨c2,B2⟩:=nW (ns:=ns) (k:=(at_:Int)+1+(k:Int)) (by omega) (by omega)
     obtain⟨d,ed,kk,rfl,hd⟩:=Ug c2 P5 hp;refine⟨[aa (.int k),aa (.list (zs.map bR)),aa (.list (ps.map aX)),aa (.list (ns.map aX)),aa (.int at_)],kk,rfl,rfl,?_,hd⟩;simp[bz,aU,bE,cS,fG,cb,eR,iL,fX,fY,eU,frz,dA,eV,bV,aV,vS,vA,ah,gc,aB,eC,aN,gD,dG,aG,aK,au,iN,fT,jt,gb,gP,kj,iM,fK,iE,ki,cq,getL,gC,outD,cf,itemsOf,bO,gK,dD,bM,dY,gM,iw,dh,jd,km,fq,kl,cN,eJ,fO,jb,fH,iP,fW,fm,gf,cZ,noDict,noDicts,eG,cL,cK,dR,cT,dM,gB,B2,ed])
   refine fU (fun ρ'=>ρ'=pre++[aa (1,.list (ls.map bH)),s0 (.int at_),s0 (.int i),s0 (.int (bT c 8)),s0 (eY t),aa (1,.list (tm.map kD))]) (rV et (by simp[pre]) ⟨_,rfl,rfl⟩) ?_
   rintro _ rfl;refine nQ ?_;have hln:tp ts zs ps (t.1,tm):=⟨by show(t.1,tm.length)∈ts;rw[ce];exact gZ uq,fun k m=>htm k m⟩
   refine fU (fun ρ'=>ρ'=pre++[aa (1,.list ((ls++[(t.1,tm)]).map bH)),s0 (.int at_),s0 (.int i),s0 (.int (bT c 8)),s0 (eY t),s0 (.list (tm.map kD))]) (pS (d:=bH (t.1,tm)) (ds:=ls.map bH) ?_ rfl (by simp;omega) ⟨_,rfl,by rw[jG];rfl⟩) ?_
   ·have h2:(2:Nat)≤sizeLine:=nX (by omega)
    simp[bz,aU,bE,cS,fG,cb,eR,iL,fX,fY,eU,frz,dA,eV,bV,aV,vS,vA,ah,gc,aB,eC,aN,gD,dG,aG,aK,au,iN,fT,jt,gb,gP,kj,iM,fK,iE,ki,cq,getL,gC,outD,cf,itemsOf,bO,gK,dD,bM,dY,gM,iw,dh,jd,km,fq,kl,cN,eJ,fO,jb,fH,iP,fW,fm,gf,cZ,noDict,noDicts,eG,cL,cK,dR,cT,dM,gB,pre,bf,eY,jg,l8,h2,bH]
   rintro _ rfl;refine fU (fun ρ'=>∃ yh:List Ln,yh.length=i+1/\(∀ l∈yh,tp ts zs ps l)/\ρ'=pre++[aa (1,.list (yh.map bH)),s0 (.int at_),s0 (.int i),s0 (.int (bT c 8)),s0 (eY t),s0 (.list (tm.map kD))]) ?_ ?_
   ·have uv:∀ l∈ls++[(t.1,tm)],tp ts zs ps l:=fun l m=>by
     rcases jF.mp m with m|m
     ·exact qu l m
     ·rw[dP.mp m];exact hln
    generalize hg:ls++[(t.1,tm)]=p5 at uv ⊢;have t7:p5.length=i+1:=by rw[← hg];simp[hl]
    by_cases hb:0<i/\bT c 8/8%9=0
    ·have b:=fQ (bT c 8/72) (show(0:Int)<i by omega)
     obtain⟨j,ej⟩:=kL b.1;have hj:j<p5.length:=by omega
     have hx:=uv p5[j] (nB hj);have ea:jg (p5.map bH) (bT c 8/72%(i:Int))=aa (bH p5[j]):=by rw[ej];exact rU (by rw[fA,eI hj];rfl)
     have wv:l8 (p5.map bH).length (i:Int)=aa i:=by
      unfold l8;rw[if_pos (by omega),if_pos (by rw[eS];omega)]
      simp
     have h0i:=hb.1;refine lW (by simp[bz,aU,bE,cS,fG,cb,eR,iL,fX,fY,eU,frz,dA,eV,bV,aV,vS,vA,ah,gc,aB,eC,aN,gD,dG,aG,aK,au,iN,fT,jt,gb,gP,kj,iM,fK,iE,ki,cq,getL,gC,outD,cf,itemsOf,bO,gK,dD,bM,dY,gM,iw,dh,jd,km,fq,kl,cN,eJ,fO,jb,fH,iP,fW,fm,gf,cZ,noDict,noDicts,eG,cL,cK,dR,cT,dM,gB,pre,hb]) (vV (ρ':=pre++[aa (1,.list ((p5.set i p5[j]).map bH)),s0 (.int at_),s0 (.int i),s0 (.int (bT c 8)),s0 (eY t),s0 (.list (tm.map kD))]) ?_ ⟨_,rfl,p5.set i p5[j],by simp[t7],fun l m=>?_,rfl⟩)
     ·have hfl:=YG p5[j];have ee:eV 0 .a (ah bf (aB 6) (ah bM (ah dY (aB 9) (eC (.int 72))) (aB 8))) (pre++[aa (1,.list (p5.map bH)),s0 (.int at_),s0 (.int i),s0 (.int (bT c 8)),s0 (eY t),s0 (.list (tm.map kD))])=aa (bH p5[j]):=by
       simp[bz,aU,bE,cS,fG,cb,eR,iL,fX,fY,eU,frz,dA,eV,bV,aV,vS,vA,ah,gc,aB,eC,aN,gD,dG,aG,aK,au,iN,fT,jt,gb,gP,kj,iM,fK,iE,ki,cq,getL,gC,outD,cf,itemsOf,bO,gK,dD,bM,dY,gM,iw,dh,jd,km,fq,kl,cN,eJ,fO,jb,fH,iP,fW,fm,gf,cZ,noDict,noDicts,eG,cL,cK,dR,cT,dM,gB,pre,bf,ea,h0i,hfl]
      unfold fX;rw[ee];simp only[pre,Dy,CJ,eV,vS,aB,getL,dQ,yA,pL,BX,cX,wv,List.map_set]
      rfl
     ·rcases Dp m with q|q
      ·exact uv l q
      ·rw[q];exact hx
    ·refine mL ?_ (mM ⟨_,rfl,p5,t7,uv,rfl⟩);by_cases h1:0<i
     ·have h2:¬ bT c 8/8%9=0:=fun h=>hb ⟨h1,h⟩
      simp[bz,aU,bE,cS,fG,cb,eR,iL,fX,fY,eU,frz,dA,eV,bV,aV,vS,vA,ah,gc,aB,eC,aN,gD,dG,aG,aK,au,iN,fT,jt,gb,gP,kj,iM,fK,iE,ki,cq,getL,gC,outD,cf,itemsOf,bO,gK,dD,bM,dY,gM,iw,dh,jd,km,fq,kl,cN,eJ,fO,jb,fH,iP,fW,fm,gf,cZ,noDict,noDicts,eG,cL,cK,dR,cT,dM,gB,pre,h1,h2]
     ·simp[bz,aU,bE,cS,fG,cb,eR,iL,fX,fY,eU,frz,dA,eV,bV,aV,vS,vA,ah,gc,aB,eC,aN,gD,dG,aG,aK,au,iN,fT,jt,gb,gP,kj,iM,fK,iE,ki,cq,getL,gC,outD,cf,itemsOf,bO,gK,dD,bM,dY,gM,iw,dh,jd,km,fq,kl,cN,eJ,fO,jb,fH,iP,fW,fm,gf,cZ,noDict,noDicts,eG,cL,cK,dR,cT,dM,gB,pre,h1]
   rintro _ ⟨yh,o9,P6,rfl⟩;refine vV (ρ':=pre++[aa (1,.list (yh.map bH)),s0 (.int ((at_+1+t.2:Nat):Int)),s0 (.int i),s0 (.int (bT c 8)),s0 (eY t),s0 (.list (tm.map kD))]) ?_ ⟨_,.inl rfl,yh,at_+1+t.2,_,_,_,_,o9,P6,by omega,rfl⟩
   simp[bz,aU,bE,cS,fG,cb,eR,iL,fX,fY,eU,frz,dA,eV,bV,aV,vS,vA,ah,gc,aB,eC,aN,gD,dG,aG,aK,au,iN,fT,jt,gb,gP,kj,iM,fK,iE,ki,cq,getL,gC,outD,cf,itemsOf,bO,gK,dD,bM,dY,gM,iw,dh,jd,km,fq,kl,cN,eJ,fO,jb,fH,iP,fW,fm,gf,cZ,noDict,noDicts,eG,cL,cK,dR,cT,dM,gB,pre,bf,eY,jg,l8]
  ·rintro _ ⟨ls,at_,x7,x8,x9,du,h1,h2,_,rfl⟩;exact⟨_,rfl,ls,_,_,_,_,_,h1,h2,rfl⟩
 rintro _ ⟨ls,x6,x7,x8,x9,du,h1,h2,rfl⟩;exact⟨_,rfl,_,rfl,ls,rfl,h1,h2⟩
end Aw
namespace L2
open PySem PySem.Spec PyProof.Rows
section
variable {K:aM}{H0 H B0:Hp}{P0:aD->Prop}{ρ:bJ}{σ:St}{fp:Nat->List aD}{i:Nat}
abbrev R1 (K:aM)(B H:Hp):aA×aA->aO×V->List aD->Prop:=fun kd kv f=>kd.1=kD kv.1/\Ai6 K B H 1 kd.2 kv.2 f
theorem Ov (k0 d0:aA)(r:List (aA×aA))(k:aO):dW ((k0,d0)::r) k=if dJ k0=aa k then aa d0 else dW r k:=by
 unfold dW;rw[kC];by_cases h:dJ k0=aa k
 ·rw[if_pos h];simp[h]
 ·rw[if_neg h];simp[h]
end
section
variable {K:aM}{H0 H B0:Hp}{P0:aD->Prop}{ρ:bJ}{σ:St}{fp:Nat->List aD}{i j:Nat}
def AL (σ:St)(H:Hp)(i j:Nat)(k:aO):Prop:=∃ p ep xs q,σ[i]?=aa (aa (.ref p))/\H p=aa (.dK ep xs)/\jI xs k=aa (.ref q)/\σ[j]?=aa (aa (.ref q))
theorem AL.set {k:aO}{l:Nat}{v:V}(h:AL σ H i j k)(hi:l≠i)(hj:l≠j):AL (σ.set l (aa v)) H i j k:=by
 obtain⟨p,ep,xs,q,h1,h2,h3,h4⟩:=h;exact⟨p,ep,xs,q,by rw[pK hi];exact h1,h2,h3,by rw[pK hj];exact h4⟩
end
end L2
namespace Aw
open PySem L2
variable {a b:Int}{R:List (List Int)}{r m ps ns:List Int}{kds:List (aA×aA)}{B:aE->List (List Int)}{wd:aE->Nat}{ρ:List (Option aA)}{P:Out->Prop}{i n k w most:Nat}{f g:EF}{ds:List aA}{ts:List (aE×Nat)}{x z qual:aE}{d:aA}{ls:List Ln}{ks:List aO}{zs:List aE}{l:Ln}{st:cR}{v:aE->Int}{K:aM}
def sy:aA->Int
 |.int i=>i
 |_=>0
theorem qR (r:List Int):(r.map aX).map sy=r:=by
 rw[gH];have:(sy∘aX)=id:=rfl;rw[this,List.map_id]
theorem zV (r:List Int):cC (r.map aX)=ae:=LG fun t m=>by
 obtain⟨i,_,rfl⟩:=cJ.mp m
 rfl
theorem FV (r:List Int):cL (r.map aX)≤1:=FN fun t m=>by
 obtain⟨i,_,rfl⟩:=cJ.mp m;simp[eG]
theorem UO (r:List Int):cZ (bC r)=ae:=by
 have h1:noDicts (r.map aX)=ae:=MJ fun t m=>by
  obtain⟨i,_,rfl⟩:=cJ.mp m
  rfl
 have h2:cL (r.map aX)≤1:=FN fun t m=>by
  obtain⟨i,_,rfl⟩:=cJ.mp m;simp[eG]
 simp[cZ,bC,noDict,h1,eG];omega
theorem SI {a b:List Int}(h:bC a=bC b):a=b:=by
 have h:=uU h;exact(qR a).symm.trans ((congrArg (CM sy) h).trans (qR b))
theorem JU (a b:List Int):cK (bC a) (bC b)=decide (a=b):=by
 rw[KO _ _ (UN a) (UN b),decide_eq_decide];exact⟨SI,fun e=>by rw[e]⟩
def ix (R:List (List Int)):List (List Int):=(iX (R.map fun r=>r.map aX)).map fun k=>k.map sy
theorem zR (R:List (List Int)):(ix R).Perm R:=by
 have h:=(uC (R.map fun r=>r.map aX)).map fun k=>k.map sy
 rw[gH] at h;have e:(R.map ((fun k=>k.map sy)∘fun r=>r.map aX))=R:=by
  have:((fun k=>k.map sy)∘fun r=>r.map aX)=(id:List Int->List Int):=by funext r;exact qR r
  rw[this,List.map_id]
 rw[e] at h;exact h
theorem Ahp:r∈ix R↔r∈R:=(zR R).mem_iff
theorem zI (R:List (List Int)):(ix R).length=R.length:=(zR R).length_eq
theorem WU (R:List (List Int)):kS (R.map bC)=aa (R.map fun r=>r.map aX):=by
 have:=SK (kss:=R.map fun r=>r.map aX) fun k m=>by
  obtain⟨r,_,rfl⟩:=cJ.mp m;have:=FV r;exact⟨zV r,by omega⟩
 rw[gH] at this;exact this
theorem LP:∀ (a b:List Int),a.length=b.length->jN (a.map aX) (b.map aX)=ae
 |[],[],_=>rfl
 |x::a,y::b,h=>LP a b (by simpa using h)
 |[],_::_,h=>by simp at h
 |_::_,[],h=>by simp at h
structure Bk (kds:List (aA×aA))(B:aE->List (List Int))(wd:aE->Nat):Prop where
 pl:j8 kds=ae
 at_:∀ t,(dW kds (.inr t)).getD (.list [])=bB (B t)
 few:∀ t,(B t).length<64
 pos:∀ t,1≤wd t
 wid:∀ t,∀ r∈B t,r.length=wd t
theorem Bk.get(b:Bk kds B wd){fd fk:EF}{t:aE}(h1:fd ρ=aa (.dict kds))(h2:fk ρ=aa (.str t)):fK fd fk (dG aK) ρ=aa (bB (B t)):=by
 rw[JV h1 h2 (key:=.inr t) rfl (x:=.list []) rfl b.pl,b.at_]
theorem Kx {ρ:bJ}{ts:List aA}(h:f (vS ρ)=aa (.list ts))(hg:getL i ρ=aa ds)(hl:ds.length+ts.length≤100000)(k:P (.nx (ρ.set i (aa (1,.list (ds++ts)))))):Goes (rO i .s f) ρ P:=⟨_,by
 have h':eV 0 .s f ρ=aa (.list ts):=h;unfold rO;rw[h',cX,hg,cX];show(if ds.length+ts.length≤sizeLine then aa (Out.nx (ρ.set i (aa (1,.list (ds++ts))))) else ab)=_
 rw[if_pos (nX hl)],k⟩
theorem Gm (c:Int)(n:Nat)(h:0<n):bM (.int c) (.int n)=aa (.int (c%n)):=by
 show(if 0<(n:Int) then aa (aX (c%(n:Int))) else ab)=_
 rw[if_pos (by omega)]
theorem QZ(h:a.natAbs<2^64):dD (.int a) (.int b)=aa (.int (a*b)):=by
 show(if (a.natAbs<2^64\/b.natAbs<2^64)\/(a.natAbs<2^1000/\b.natAbs<2^1000) then aa (aX (a*b)) else ab)=_
 rw[if_pos (.inl (.inl h))]
theorem mul_r(h:b.natAbs<2^64):dD (.int a) (.int b)=aa (.int (a*b)):=by
 show(if (a.natAbs<2^64\/b.natAbs<2^64)\/(a.natAbs<2^1000/\b.natAbs<2^1000) then aa (aX (a*b)) else ab)=_
 rw[if_pos (.inl (.inr h))]
theorem Bg {a b:BF}{x y:Bool}(h:a ρ=aa x)(h2:x=ae->b ρ=aa y):fT a b ρ=aa (x&&y):=by
 unfold fT;rw[h];cases x with
 |true=>exact h2 rfl
 |false=>rfl
theorem Lh {a b:BF}{x y:Bool}(h:a ρ=aa x)(h2:x=af->b ρ=aa y):jt a b ρ=aa (x||y):=by
 unfold jt;rw[h];cases x with
 |true=>rfl
 |false=>exact h2 rfl
theorem ZE (R:List (List Int)):noDicts (R.map bC)=ae:=MJ fun t m=>by
 obtain⟨r,_,rfl⟩:=cJ.mp m;have:=UO r;unfold cZ at this;exact(oK.mp this).1
theorem zP (neg:Bool)(r:List Int)(R:List (List Int)):n8 neg (bC r) (bB R)=aa (.bool (neg != decide (r∈R))):=by
 show(if (cZ (bC r)&&noDicts (R.map bC))=ae then aa (uV (neg != (R.map bC).any fun z=>cK z (bC r))) else ab)=_
 rw[UO,ZE,II,if_pos rfl];have:((R.map bC).any fun z=>cK z (bC r))=decide (r∈R):=by
  rw[List.any_map];by_cases h:r∈R
  ·rw[decide_eq_true h];exact CU.mpr ⟨r,h,by simp[JU]⟩
  ·rw[decide_eq_false h,List.any_eq_false];intro x mx;simp only[Function.comp,JU,decide_eq_true_eq];exact fun e=>h (e ▸ mx)
 rw[this]
theorem Hv {fa:AF}{x y:aA}{xs ys:List aA}(h:fa ρ=aa [x,y])(hx:oU x=aa xs)(hy:oU y=aa ys):iZ fa ρ=aa (xV pairD xs ys):=by
 unfold iZ;rw[h];show((oU x).bind fun xs=>(oU y).bind fun ys=>aa (xV pairD xs ys))=_
 rw[hx,hy]
 rfl
abbrev Tb:=aE×List (List Int)
def bu (L:List Tb):List (aA×aA):=L.map fun p=>(bR p.1,bB p.2)
theorem JZ {ρ:bJ}(h:ρ[i]?=aa (aa (n,d)))(k:P (.rt d)):Goes (fG i n) ρ P:=⟨_,by
 unfold fG;rw[h];show(if n=n then aa (Out.rt d) else ab)=_
 rw[if_pos rfl],k⟩
theorem Vm (a:List Int):(bC a).depth≤2:=by
 have:=FV a;show cL (a.map aX)+1≤2;omega
def bo (L:List Tb)(t:aE):List (List Int):=((L.find? fun p=>decide (p.1=t)).map (·.2)).getD []
theorem UX (t:aE):∀ L:List Tb,dW (bu L) (.inr t)=(L.find? fun p=>decide (p.1=t)).map fun p=>bB p.2
 |[]=>rfl
 |p::L=>by
  show dW ((.str p.1,bB p.2)::bu L) (.inr t)=_;rw[Ov,kC];by_cases h:p.1=t
  ·rw[if_pos (by rw[h];rfl),decide_eq_true h];rfl
  ·rw[if_neg (fun e=>h (by injection e with e;injection e)),decide_eq_false h,UX t L]
theorem Iu (L:List Tb)(t:aE):(dW (bu L) (.inr t)).getD (.list [])=bB (bo L t):=by
 rw[UX];unfold bo;cases L.find? fun p=>decide (p.1=t)<;>rfl
theorem DY (L:List Tb):j8 (bu L)=ae:=JH fun kd m=>by
 obtain⟨p,_,rfl⟩:=cJ.mp m;exact fun q=>nomatch q
theorem Be {L:List Tb}{t:aE}(h:r∈bo L t):∃ p∈L,p.1=t/\p.2=bo L t:=by
 unfold bo at h ⊢;cases e:L.find? fun p=>decide (p.1=t) with
 |none=>rw[e] at h;simp at h
 |some p=>
  have h2:=PH (p:=fun(p:Tb)=>decide (p.1=t)) e
  exact⟨p,HZ e,by simpa using h2,rfl⟩
theorem Lc {L:List Tb}{t:aE}(h:t∉L.map (·.1)):bo L t=[]:=by
 unfold bo;rw[CO.mpr fun p m=>by
  simp only[decide_eq_true_eq];exact fun e=>h (cJ.mpr ⟨p,m,e⟩)]
 rfl
theorem bkL {L:List Tb}(h1:∀ t,1≤wd t)(hL:∀ p∈L,p.2.length<64/\∀ r∈p.2,r.length=wd p.1):Bk (bu L) (bo L) wd:=by
 refine⟨DY L,Iu L,fun t=>?_,h1,fun t r m=>?_⟩
 ·by_cases h:∃ r,r∈bo L t
  ·obtain⟨r,m⟩:=h;obtain⟨p,mp,_,e⟩:=Be m;rw[← e];exact(hL p mp).1
  ·have:bo L t=[]:=List.eq_nil_iff_forall_not_mem.mpr fun r m=>h ⟨r,m⟩
   rw[this];simp
 ·obtain⟨p,mp,e1,e2⟩:=Be m;rw[← e2] at m;rw[← e1];exact(hL p mp).2 r m
theorem Ia {L:List Tb}(nd:(L.map (·.1)).Nodup):KnR (fun d=>∃ T:List (List Int),d=bB T) (bu L):=by
 refine⟨fun kd m=>?_,?_⟩
 ·obtain⟨p,_,rfl⟩:=cJ.mp m;exact⟨⟨_,rfl⟩,_,rfl⟩
 ·unfold bu;rw[gH,show((fun x=>x.1)∘fun(p:Tb)=>(bR p.1,bB p.2))=bR∘(·.1) from rfl,← gH]
  exact(uZ.mpr (nd.imp fun h e=>h (by injection e)))
theorem EL {L:List Tb}(nd:(L.map (·.1)).Nodup){p:Tb}(m:p∈L):dW (bu L) (.inr p.1)=aa (bB p.2):=by
 obtain⟨z,e1,e2⟩:=(Ia nd).look (bR p.1,bB p.2) (cJ.mpr ⟨p,m,rfl⟩);injection e1 with e1;rw[e1];exact e2
theorem find_key {L:List Tb}{t:aE}(h:t∈L.map (·.1)):∃ p,(L.find? fun p=>decide (p.1=t))=aa p:=by
 cases e:L.find? fun p=>decide (p.1=t) with
 |some p=>exact⟨p,rfl⟩
 |none=>
  obtain⟨p,mp,ep⟩:=cJ.mp h;have:=CO.mp e p mp;simp[ep] at this
theorem Ow {L:List Tb}{t:aE}(h:t∉L.map (·.1)):(L.find? fun p=>decide (p.1=t))=ab:=CO.mpr fun p m=>by
 simp only[decide_eq_true_eq];exact fun e=>h (cJ.mpr ⟨p,m,e⟩)
def rR (l:Ln):Prop:=l.2.length≤6/\∀ k∈l.2,dX (kD k)=ae
def En:aO->Option aE
 |.inr z=>aa z
 |.inl _=>ab
def rM (ks:List aO):List aE:=ks.filterMap En
def cO (ls:List (aE×List aO)):List aE:=fP (ls.flatMap fun l=>rM l.2)
def kt (z:aE):aA×aA:=(.str z,.bool ae)
theorem Ic (ai:List aE)(z:aE):((ai.map kt).any fun kd=>decide (dJ kd.1=aa (.inr z)))=decide (z∈ai):=by
 induction ai with
 |nil=>rfl
 |cons y r ih=>
  rw[dQ,CV,ih];have:dJ (kt y).1=aa (.inr y):=rfl;rw[this];by_cases h:z=y
  ·subst h;simp
  ·have h':¬ y=z:=fun e=>h e.symm
   simp[h,h']
theorem Ks (ai:List aE)(z:aE):putD (ai.map kt) (.inr z) (.bool ae)=(gQ ai z).map kt:=by
 unfold putD gQ;rw[Ic];by_cases h:z∈ai
 ·rw[if_pos (by simpa using h),if_pos h,gH]
  refine xX fun y _=>?_
  show(if dJ (kt y).1=aa (.inr z) then((kt y).1,uV ae) else kt y)=kt y
  split<;>rfl
 ·rw[if_neg (by simpa using h),if_neg h,jG]
  rfl
def gN (ai:List aE)(k:aO):List aE:=match k with
 |.inr z=>gQ ai z
 |.inl _=>ai
theorem IW:∀ (ks:List aO) (ai:List aE),ks.foldl gN ai=(rM ks).foldl gQ ai
 |[],_=>rfl
 |.inl i::ks,ai=>IW ks ai
 |.inr z::ks,ai=>IW ks (gQ ai z)
theorem Iz (ai:List aE)(k:aO):(gN ai k).length≤ai.length+1:=by
 cases k with
 |inl i=>exact HV _
 |inr z=>exact FI ai z
theorem Jg {ai:List aE}{k:aO}(h:∀ z∈ai,dX (.str z)=ae)(hk:dX (kD k)=ae):∀ z∈gN ai k,dX (.str z)=ae:=by
 cases k with
 |inl i=>exact h
 |inr z=>exact fun y m=>(Auv.mp m).elim (h y) fun e=>e ▸ hk
theorem YE {ls:List (aE×List aO)}(h:∀ l∈ls,rR l)(hn:ls.length≤100):rZ [.tuple (ls.map bH)]=aa (.list ((cO ls).map bR)):=by
 have:∃ d,rZ [.tuple (ls.map bH)]=aa d/\d=.list ((cO ls).map bR):=by
  refine jV rfl ?_;refine iG (n:=1) (d:=.dict []) rfl (by simp) ?_
  refine fU (fun ρ'=>∃ x2 x3:L2.Slot,(∀ z∈cO ls,dX (.str z)=ae)/\ρ'=[s0 (.tuple (ls.map bH)),aa (1,.dict ((cO ls).map kt)),x2,x3]) ?_ ?_
  ·refine pR (xs:=ls) (q:=bH) (b0:=[]) (fun ai l=>l.2.foldl gN ai) (fun i ai ρ'=>∃ x2 x3:L2.Slot,ai.length≤6*i/\(∀ z∈ai,dX (.str z)=ae)/\ρ'=[s0 (.tuple (ls.map bH)),aa (1,.dict (ai.map kt)),x2,x3]) (jz (tY rfl)) ⟨ab,ab,cE _,fun _ m=>by simp at m,rfl⟩ ?_ ?_
   ·rintro i l ai _ hx ⟨x2,x3,ha,hy,rfl⟩;have hl:=h l (gZ hx);have hi:i<ls.length:=(dF.mp hx).1;refine⟨[s0 (.tuple (ls.map bH)),aa (1,.dict (ai.map kt)),s0 (bH l),x3],rfl,?_⟩;refine pR (xs:=l.2) (q:=kD) (b0:=ai) gN (fun j dg ρ'=>∃ x3:L2.Slot,dg.length≤6*i+j/\(∀ z∈dg,dX (.str z)=ae)/\ρ'=[s0 (.tuple (ls.map bH)),aa (1,.dict (dg.map kt)),s0 (bH l),x3]) (jz (tY (by simp[vS,ah,aB,eC,bH,bf,jg,l8]))) ⟨x3,ha,hy,rfl⟩ ?_ ?_
    ·rintro j k dg _ hk ⟨x3,vy,qd,rfl⟩;have hj:j<l.2.length:=(dF.mp hk).1;have h6:=hl.1;refine⟨[s0 (.tuple (ls.map bH)),aa (1,.dict (dg.map kt)),s0 (bH l),s0 (kD k)],rfl,?_⟩;have g1:=Iz dg k;have g2:=Jg qd (hl.2 k (gZ hk));cases k with
     |inl v=>exact mL (by simp[bV,vS,gc,aB,au,gb,eJ,fO,jb,kD]) (mM ⟨_,.inl rfl,_,by omega,g2,rfl⟩)
     |inr z=>
      refine lW (by simp[bV,vS,gc,aB,au,gb,eJ,fO,jb,kD]) (EW (d:=.bool ae) (kd:=.str z) (key:=.inr z) (kds:=dg.map kt) rfl rfl rfl rfl (by simp;omega) ⟨_,.inl rfl,s0 (.str z),by omega,g2,?_⟩)
      rw[Ks]
      rfl
    ·rintro _ ⟨x3,vy,qd,rfl⟩;have h6:=hl.1;exact⟨_,.inl rfl,_,_,by omega,qd,rfl⟩
   ·rintro _ ⟨x2,x3,ha,hy,rfl⟩;have e:ls.foldl (fun ai l=>l.2.foldl gN ai) []=cO ls:=by
     unfold cO fP;rw[List.foldl_flatMap]
     congr 1
     funext ai l;exact IW l.2 ai
    rw[e] at hy ⊢;exact⟨_,rfl,x2,x3,hy,rfl⟩
  rintro _ ⟨x2,x3,hy,rfl⟩;refine nQ (jO (d:=.list ((cO ls).map bR)) (bW (ds:=[.dict ((cO ls).map kt)]) rfl ?_) ⟨_,rfl,rfl⟩);have hp:j8 ((cO ls).map kt)=ae:=JH fun kd m=>by
   obtain⟨z,_,rfl⟩:=cJ.mp m;exact fun q=>nomatch q
  show(if (j8 ((cO ls).map kt)&&((cO ls).map kt).all (fun kd=>dX kd.1))=ae then aa (mD (((cO ls).map kt).map (·.1))) else ab)=_
  rw[hp,Eh,if_pos (hX.mpr fun kd m=>by
   obtain⟨z,mz,rfl⟩:=cJ.mp m;exact hy z mz),gH]
  rfl
 obtain⟨d,e,rfl⟩:=this;exact e
theorem Nb (T:aA)(ks:List aO)(row:List Int)(kn:List (aE×Int))(hk:ks.length≤100)(hn:kn.length≤100):wA [.tuple [T,tK ks],tI row,.dict (DN kn)]=aa (yN (jY ks row kn)):=by
 have:∃ d,wA [.tuple [T,tK ks],tI row,.dict (DN kn)]=aa d/\d=yN (jY ks row kn):=by
  refine jV rfl ?_;have e1:bV .s (au (ah gf (aN cN (aG (aB 1) aK)) (aN cN (aG (ah bf (aB 0) (eC (.int 1))) aK)))) [aa (0,.tuple [T,tK ks]),aa (0,tI row),aa (0,.dict (DN kn)),ab,ab,ab,ab]=aa (decide (row.length≠ks.length)):=iF (Hh (ks:=ks) (row:=row) rfl rfl);by_cases hl:row.length=ks.length
  ·refine eF (vQ (e1.trans (by simp[hl]))) ?_
   refine iG (n:=1) (d:=.dict (DN kn)) (bW (ds:=[.dict (DN kn)]) rfl (by show(if j8 (DN kn)=ae then aa (OH (DN kn)) else ab)=_;rw[U1];rfl)) (by simp) ?_
   have lz:(ks.zip row).length≤100:=by rw[CN];omega
   refine Ui (fun cj ρ'=>∃ x4 x5 x6:L2.Slot,ρ'=[aa (0,.tuple [T,tK ks]),aa (0,tI row),aa (0,.dict (DN kn)),aa (1,.dict (DN cj)),x4,x5,x6]) .none (iO jQ kn (ks.zip row)) (Us (xs:=ks.zip row) (q:=RJ) (b0:=kn) jQ _ .none (jz ?_) ⟨ab,ab,ab,rfl⟩ ?_) ?_ ?_
   ·show iZ (aG (ah bf (aB 0) (eC (.int 1))) (aG (aB 1) aK)) (vS [aa (0,.tuple [T,tK ks]),aa (0,tI row),aa (0,.dict (DN kn)),aa (1,.dict (DN kn)),ab,ab,ab])=_;unfold iZ;rw[show aG (ah bf (aB 0) (eC (.int 1))) (aG (aB 1) aK) (vS [aa (0,.tuple [T,tK ks]),aa (0,tI row),aa (0,.dict (DN kn)),aa (1,.dict (DN kn)),ab,ab,ab])=aa [tK ks,tI row] from rfl,← Xw]
    rfl
   ·rintro pre p post cj _ qc hf ⟨x4,x5,x6,rfl⟩;have oo:cj.length≤1000:=by
     have h1:=KH hf;have h2:pre.length≤(ks.zip row).length:=by rw[qc];simp
     omega
    exact⟨[aa (0,.tuple [T,tK ks]),aa (0,tI row),aa (0,.dict (DN kn)),aa (1,.dict (DN cj)),aa (0,kD p.1),aa (0,.int p.2),x6],rfl,Zv _ _ _ cj oo p x6⟩
   ·intro hf;refine⟨_,rfl,?_⟩;unfold jY;rw[if_pos hl,hf]
    rfl
   ·rintro cj hf _ ⟨x4,x5,x6,rfl⟩;refine⟨_,rfl,_,rfl,?_⟩;unfold jY;rw[if_pos hl,hf]
    rfl
  ·refine JY (lW (e1.trans (by simp[hl])) (jO (d:=.none) rfl ⟨_,rfl,_,rfl,?_⟩))
   unfold jY;rw[if_neg hl]
   rfl
 obtain⟨d,e,rfl⟩:=this;exact e
theorem Zt(b:Bk kds B wd)(t:aE)(K:aA):pA [.dict kds,.tuple [.str t,K]]=aa (bB (B t)):=by
 have:∃ d,pA [.dict kds,.tuple [.str t,K]]=aa d/\d=bB (B t):=by
  refine jV rfl (jO (d:=bB (B t)) (b.get (t:=t) rfl rfl) ⟨_,rfl,rfl⟩)
 obtain⟨d,e,rfl⟩:=this;exact e
abbrev Kn:=List (aE×Int)
def ff (kn:Kn):aA:=.dict (DN kn)
def oM (bx:List Kn)(ks:List aO)(dv:List (List Int)):List Kn:=bx.flatMap fun kn=>dv.filterMap fun r=>jY ks r kn
theorem KS {α β:Type}(f:α->Option β):∀ (xs:List α) (ai:List β),xs.foldl (fun a x=>a++(f x).toList) ai=ai++xs.filterMap f
 |[],ai=>by simp
 |x::xs,ai=>by
  rw[nC,KS f xs,PJ];cases f x<;>simp
theorem FY {α β:Type}(f:α->List β):∀ (xs:List α) (ai:List β),xs.foldl (fun a x=>a++f x) ai=ai++xs.flatMap f
 |[],ai=>by simp
 |x::xs,ai=>by
  rw[nC,FY f xs,yC,mG]
theorem Rc (t:aE)(ks:List aO)(dv:List (List Int))(bx:List Kn)(hk:ks.length≤100)(hn:∀ kn∈bx,kn.length≤100)(hm:bx.length*dv.length≤90000) :
  wQ [.list (bx.map ff),bH (t,ks),bB dv]=aa (.list ((oM bx ks dv).map ff)):=by
 have:∃ d,wQ [.list (bx.map ff),bH (t,ks),bB dv]=aa d/\d=.list ((oM bx ks dv).map ff):=by
  refine jV rfl ?_;refine iG (n:=1) (d:=.list []) rfl (by simp) ?_
  let A:List L2.Slot:=[s0 (.list (bx.map ff)),s0 (bH (t,ks)),s0 (bB dv)]
  refine fU (fun ρ'=>∃ x4 x5 x6:L2.Slot,ρ'=A++[aa (1,.list ((oM bx ks dv).map ff)),x4,x5,x6]) ?_ ?_
  ·refine pR (xs:=bx) (q:=ff) (b0:=[]) (fun ai kn=>ai++dv.filterMap fun r=>jY ks r kn) (fun i ai ρ'=>∃ x4 x5 x6:L2.Slot,ai.length≤i*dv.length/\ρ'=A++[aa (1,.list (ai.map ff)),x4,x5,x6]) (jz (lO rfl)) ⟨ab,ab,ab,dS _,rfl⟩ ?_ ?_
   ·rintro i kn ai _ hx ⟨x4,x5,x6,ha,rfl⟩;have hi:i<bx.length:=(dF.mp hx).1;have yf:=hn kn (gZ hx);have oo:(i+1)*dv.length≤90000:=iU (Nat.mul_le_mul_right _ hi) hm;have hs:(i+1)*dv.length=i*dv.length+dv.length:=Nat.succ_mul _ _;refine⟨A++[aa (1,.list (ai.map ff)),s0 (ff kn),x5,x6],rfl,?_⟩;refine pR (xs:=dv) (q:=bC) (b0:=ai) (fun ai r=>ai++(jY ks r kn).toList) (fun j dg ρ'=>∃ x5 x6:L2.Slot,dg.length≤ai.length+j/\ρ'=A++[aa (1,.list (dg.map ff)),s0 (ff kn),x5,x6]) (jz (lO rfl)) ⟨x5,x6,cE _,rfl⟩ ?_ ?_
    ·rintro j r dg _ hr ⟨x5,x6,vy,rfl⟩;have hj:j<dv.length:=(dF.mp hr).1;refine⟨A++[aa (1,.list (dg.map ff)),s0 (ff kn),s0 (bC r),x6],rfl,?_⟩;have hf:=Nb (.str t) ks r kn hk yf;refine iG (d:=yN (jY ks r kn)) (bW (ds:=[.tuple [.str t,tK ks],tI r,.dict (DN kn)]) rfl hf) (by simp[A]) ?_
     cases Y4:jY ks r kn with
     |none=>exact mL (iF (bU (a:=yN ab) (b:=.none) rfl rfl rfl)) (mM ⟨_,.inl rfl,_,_,by simpa using(by omega:dg.length≤ai.length+(j+1)),by rw[Option.toList_none,pM];rfl⟩)
     |some cj=>
      refine lW (iF (bU (a:=yN (aa cj)) (b:=.none) rfl rfl rfl)) (pS (d:=ff cj) (ds:=dg.map ff) rfl rfl (by simp;omega) ⟨_,.inl rfl,_,_,by simp;omega,by rw[Option.toList_some,jG];rfl⟩)
    ·rintro _ ⟨x5,x6,vy,rfl⟩;refine⟨_,.inl rfl,_,_,_,?_,by rw[KS]⟩
     rw[KS] at vy;omega
   ·rintro _ ⟨x4,x5,x6,ha,rfl⟩;rw[FY];exact⟨_,rfl,_,_,_,rfl⟩
  rintro _ ⟨x4,x5,x6,rfl⟩;exact JZ rfl ⟨_,rfl,rfl⟩
 obtain⟨d,e,rfl⟩:=this;exact e
def fM (B:aE->List (List Int)):List Ln->Nat
 |[]=>1
 |l::r=>max 1 (B l.1).length*fM B r
theorem Bw (B:aE->List (List Int)):∀ ls,1≤fM B ls
 |[]=>cE _
 |l::r=>by
  have h1:=Bw B r;have h2:1≤max 1 (B l.1).length:=Nat.le_max_left _ _;exact Dg h2 h1
theorem JN (B:aE->List (List Int)):∀ xs ys,fM B (xs++ys)=fM B xs*fM B ys
 |[],ys=>by rw[CJ];exact(Nat.one_mul _).symm
 |l::r,ys=>by
  show max 1 (B l.1).length*fM B (r++ys)=max 1 (B l.1).length*fM B r*fM B ys;rw[JN B r ys,CA]
theorem Wg (B:aE->List (List Int))(ls:List Ln)(i:Nat):fM B (ls.take i)≤fM B ls:=by
 have e:=JN B (ls.take i) (ls.drop i);rw[nA] at e;rw[e];exact c9 _ (Bw B _)
theorem VL (B:aE->List (List Int)):∀ (ls:List Ln) (a:Int),ls.foldl (fun a l=>a*((max 1 (B l.1).length:Nat):Int)) a=a*(fM B ls:Int)
 |[],a=>by simp[fM]
 |l::r,a=>by
  rw[nC,VL B r];show _=a*((max 1 (B l.1).length*fM B r:Nat):Int);rw[Int.natCast_mul,Int.mul_assoc]
theorem vP (ds:List aA):cN [.list ds]=aa (.int ds.length):=by simp[cN]
theorem Pn(hB:∀ t,(B t).length<64)(ls:List Ln):uB [.list (ls.map fun l=>bB (B l.1))]=aa (.int (fM B ls)):=by
 have:∃ d,uB [.list (ls.map fun l=>bB (B l.1))]=aa d/\d=.int (fM B ls):=by
  refine jV rfl ?_;refine iG (d:=.int 1) rfl (by simp) ?_
  refine fU (fun ρ'=>∃ x3:L2.Slot,ρ'=[s0 (.list (ls.map fun l=>bB (B l.1))),s0 (.int (fM B ls)),x3]) ?_ ?_
  ·refine pR (xs:=ls) (q:=fun l=>bB (B l.1)) (b0:=(1:Int)) (fun a l=>a*((max 1 (B l.1).length:Nat):Int)) (fun i a ρ'=>∃ x3:L2.Slot,ρ'=[s0 (.list (ls.map fun l=>bB (B l.1))),s0 (.int a),x3]) (jz (lO rfl)) ⟨ab,rfl⟩ ?_ ?_
   ·rintro i l a _ hx ⟨x3,rfl⟩;refine⟨[s0 (.list (ls.map fun l=>bB (B l.1))),s0 (.int a),s0 (bB (B l.1))],rfl,?_⟩
    have F9:=hB l.1;generalize hr:B l.1=R at F9 ⊢;have em:DJ [.int 1,.int (R.map bC).length]=aa (.int ((max 1 R.length:Nat):Int)):=by
     show aa (aX (if ((R.map bC).length:Int) > 1 then((R.map bC).length:Int) else 1))=_
     rw[eS]
     congr 2
     split<;>omega
    have hf:(((max 1 R.length:Nat):Int)).natAbs<2^64:=by omega
    exact rV (d:=.int (a*((max 1 R.length:Nat):Int))) (bU (a:=.int a) (b:=.int ((max 1 R.length:Nat):Int)) rfl (bW (ds:=[.int 1,.int (R.map bC).length]) (cM rfl (cM (bW (ds:=[bB R]) rfl (vP _)) rfl)) em) (mul_r hf)) (by simp) ⟨_,.inl rfl,_,rfl⟩
   ·rintro _ ⟨x3,rfl⟩;rw[VL,Int.one_mul];exact⟨_,rfl,x3,rfl⟩
  rintro _ ⟨x3,rfl⟩;exact jO rfl ⟨_,rfl,rfl⟩
 obtain⟨d,e,rfl⟩:=this;exact e
theorem Bi(b:Bk kds B wd)(ls:List Ln)(hl:ls.length≤1000)(e1:ρ[0]?.join=aa (.dict kds))(e2:ρ[1]?.join=aa (.tuple (ls.map bH))) :
  j1 [ab,aa 0] (cf (aB 1)) (gB 0) dM (aN pA (aG (aB 1) (aG (aB 0) aK))) ρ=aa (.list (ls.map fun l=>bB (B l.1))):=by
 have e:=NI (cap:=[ab,aa 0]) (fi:=cf (aB 1)) (T:=gB 0) (t:=dM) (f:=aN pA (aG (aB 1) (aG (aB 0) aK))) (ρ:=ρ) (ds:=ls.map bH) (fun d=>match d with|.tuple [.str t,_]=>bB (B t)|d=>d) (tY e2) (by rw[eS];omega) (fun d m=>by
  obtain⟨l,_,rfl⟩:=cJ.mp m;refine⟨[aa (bH l),aa (.dict kds)],?_,rfl,bW (ds:=[.dict kds,bH l]) rfl (Zt b l.1 _)⟩;show aa ((kT [ab,aa 0] ρ).set 0 (aa (bH l)))=_;simp[kT,e1])
 rw[e,gH]
 rfl
theorem UU(hn:1≤n\/R.length<2)(hw:∀ r∈R,r.length=n)(hl:R.length≤4096):EO [bB R]=aa (bB (ix R)):=by
 show((kS (R.map bC)).bind fun kss=>if kz kss=ae/\kss.length≤4096 then aa (mD ((iX kss).map iC)) else ab)=_
 rw[WU,cX];have ok:kz (R.map fun r=>r.map aX)=ae:=by
  unfold kz;rw[Bool.or_eq_true_iff];rcases hn with hn|hn
  ·refine .inr (oK.mpr ⟨hX.mpr fun k mk=>hX.mpr fun k' mk'=>?_,hX.mpr fun k mk=>?_⟩)
   ·obtain⟨a,ma,rfl⟩:=cJ.mp mk;obtain⟨b,mb,rfl⟩:=cJ.mp mk';exact LP a b ((hw a ma).trans (hw b mb).symm)
   ·obtain⟨a,ma,rfl⟩:=cJ.mp mk;have:=hw a ma;cases a with
    |nil=>simp at this;omega
    |cons x r=>rfl
  ·exact .inl (decide_eq_true (by rw[eS];exact hn))
 rw[if_pos ⟨ok,by rw[eS];exact hl⟩]
 unfold bB ix;rw[gH]
 congr 2
 refine xX fun k mk=>?_
 obtain⟨a,_,rfl⟩:=cJ.mp ((uC _).mem_iff.mp mk);show _=iC (((a.map aX).map sy).map aX);rw[qR]
theorem XE(b:Bk kds B wd)(ls:List Ln)(hl:ls.length≤1000)(hw:fM B ls≤4096):qT [.dict kds,.tuple (ls.map bH)]=aa .none:=by
 have e1:wX [.list (ls.map fun l=>bB (B l.1))]=aa .none:=by
  have c:bV .s (au (ah fq (aN uB (aG (aB 0) aK)) (eC (.int 4096)))) [s0 (.list (ls.map fun l=>bB (B l.1)))]=aa af:=iF (bU (a:=.int (fM B ls)) (b:=.int 4096) (bW (ds:=[.list (ls.map fun l=>bB (B l.1))]) rfl (Pn b.few ls)) rfl (by
   show aa (uV (decide ((fM B ls:Int) > 4096)))=_;rw[decide_eq_false (by omega)]))
  show outD (ND [s0 (.list (ls.map fun l=>bB (B l.1)))])=_
  unfold ND;rw[vQ c]
  rfl
 show outD (NB [s0 (.dict kds),s0 (.tuple (ls.map bH))])=_;have e2:eV 0 .s (aN wX (aG (j1 [ab,aa 0] (cf (aB 1)) (gB 0) dM (aN pA (aG (aB 1) (aG (aB 0) aK)))) aK)) [s0 (.dict kds),s0 (.tuple (ls.map bH))]=aa .none:=
  bW (cM (Bi b ls hl rfl rfl) rfl) e1
 unfold NB rP;rw[e2]
 rfl
def lV (B:aE->List (List Int))(ls:List Ln):List Kn:=ls.foldl (fun bx l=>oM bx l.2 (B l.1)) [[]]
theorem Ur (bx:List Kn)(ks:List aO)(dv:List (List Int)):(oM bx ks dv).length≤bx.length*dv.length:=by
 unfold oM;induction bx with
 |nil=>simp
 |cons kn r ih=>
  rw[yC,mF,hW,Nat.succ_mul];have:=Dr (fun r=>jY ks r kn) dv
  omega
theorem Km{kn cj:Kn}(h:jY ks r kn=aa cj):cj.length≤kn.length+ks.length:=by
 unfold jY at h;obtain⟨h1,h2⟩:=Bu h;have:=KH h2;rw[CN] at this;omega
theorem TY (f:Ln->aA)(g:Ln->aA):∀ ls:List Ln,xV pairD (ls.map f) (ls.map g)=ls.map fun l=>pairD (f l) (g l)
 |[]=>rfl
 |l::r=>by
  rw[dQ,dQ,List.zipWith_cons_cons,TY f g r,dQ]
theorem LM(ls:List Ln)(hl:ls.length≤16)(h6:∀ l∈ls,l.2.length≤6)(hw:fM B ls≤4096) :
  wH [.tuple (ls.map bH),.list (ls.map fun l=>bB (B l.1))]=aa (.list ((lV B ls).map ff))/\(lV B ls).length≤fM B ls/\∀ kn∈lV B ls,kn.length≤96:=by
 have:∃ d,wH [.tuple (ls.map bH),.list (ls.map fun l=>bB (B l.1))]=aa d/\d=.list ((lV B ls).map ff)/\(lV B ls).length≤fM B ls/\∀ kn∈lV B ls,kn.length≤96:=by
  refine jV rfl ?_;refine iG (d:=.list ([[]].map ff)) (wC (ds:=[.dict []]) rfl) (by simp) ?_
  let A:List L2.Slot:=[s0 (.tuple (ls.map bH)),s0 (.list (ls.map fun l=>bB (B l.1)))]
  refine fU (fun ρ'=>∃ x3 x4:L2.Slot,(lV B ls).length≤fM B ls/\(∀ kn∈lV B ls,kn.length≤96)/\ρ'=A++[s0 (.list ((lV B ls).map ff)),x3,x4]) ?_ ?_
  ·refine pR (xs:=ls) (q:=fun l=>pairD (bH l) (bB (B l.1))) (b0:=[[]]) (fun bx l=>oM bx l.2 (B l.1)) (fun i bx ρ'=>∃ x3 x4:L2.Slot,bx.length≤fM B (ls.take i)/\(∀ kn∈bx,kn.length≤6*i)/\ρ'=A++[s0 (.list (bx.map ff)),x3,x4]) (jz ?_) ⟨ab,ab,cE _,fun kn m=>by rw[dP.mp m];simp,rfl⟩ ?_ ?_
   ·rw[← TY];exact Hv rfl rfl rfl
   ·rintro i l bx _ hx ⟨x3,x4,hk,yf,rfl⟩;have hi:i<ls.length:=(dF.mp hx).1;have h6':=h6 l (gZ hx);have ht:ls.take (i+1)=ls.take i++[l]:=by rw[sP,hx];rfl
    have P7:fM B (ls.take (i+1))=fM B (ls.take i)*max 1 (B l.1).length:=by
     rw[ht,JN];show _*(max 1 (B l.1).length*1)=_;rw[Nat.mul_one]
    have hm:bx.length*(B l.1).length≤fM B (ls.take (i+1)):=by
     rw[P7];exact Dg hk (Nat.le_max_right _ _)
    have oo:=Wg B ls (i+1);refine⟨A++[s0 (.list (bx.map ff)),s0 (bH l),s0 (bB (B l.1))],rfl,?_⟩;refine rV (d:=.list ((oM bx l.2 (B l.1)).map ff)) (bW (ds:=[.list (bx.map ff),bH (l.1,l.2),bB (B l.1)]) rfl (Rc l.1 l.2 (B l.1) bx (by omega) (fun kn m=>by have:=yf kn m;omega) (by omega))) (by simp[A]) ⟨_,.inl rfl,_,_,iU (Ur _ _ _) hm,fun cj m=>?_,rfl⟩
    obtain⟨kn,mk,m⟩:=sR.mp m;obtain⟨r,_,e⟩:=sS.mp m;have:=Km e;have:=yf kn mk;omega
   ·rintro _ ⟨x3,x4,h1,h2,rfl⟩;rw[HX] at h1;exact⟨_,rfl,_,_,h1,fun kn m=>by have:=h2 kn m;omega,rfl⟩
  rintro _ ⟨x3,x4,h1,h2,rfl⟩;exact jO rfl ⟨_,rfl,rfl,h1,h2⟩
 obtain⟨d,e,rfl,h1,h2⟩:=this;exact⟨e,h1,h2⟩
def rowOf (zs:List aE)(kn:Kn):List Int:=zs.map fun z=>(cY kn z).getD 0
theorem Zq{kn:Kn}(hl:zs.length≤1000)(h:∀ z∈zs,∃ v,cY kn z=aa v):nY [.list (zs.map bR),ff kn]=aa (bC (rowOf zs kn)):=by
 have:∃ d,nY [.list (zs.map bR),ff kn]=aa d/\d=bC (rowOf zs kn):=by
  refine jV rfl ?_;have e:=NI (cap:=[ab,aa 1]) (fi:=cf (aB 0)) (T:=gB 0) (t:=dM) (f:=fK (aB 1) (aB 0) (aB 0)) (ρ:=vS [s0 (.list (zs.map bR)),s0 (ff kn)]) (ds:=zs.map bR) (fun d=>match d with|.str z=>.int ((cY kn z).getD 0)|d=>d) (lO rfl) (by rw[eS];omega) (fun d m=>by
   obtain⟨z,mz,rfl⟩:=cJ.mp m;obtain⟨v,hv⟩:=h z mz;refine⟨[aa (.str z),aa (ff kn)],rfl,rfl,?_⟩;have:=JV (fd:=aB 1) (fk:=aB 0) (fx:=aB 0) (ρ:=[aa (.str z),aa (ff kn)]) (kds:=DN kn) (kd:=.str z) (x:=.str z) (key:=.inr z) rfl rfl rfl rfl (U1 kn);rw[this,EK];show _=aa (aX ((cY kn z).getD 0));rw[hv]
   rfl)
  rw[gH] at e;have e':zs.map ((fun d=>match d with|.str z=>aX ((cY kn z).getD 0)|d=>d)∘bR)=(rowOf zs kn).map aX:=by
   unfold rowOf;rw[gH]
   rfl
  rw[e'] at e;exact jO (d:=bC (rowOf zs kn)) (bW (cM e rfl) rfl) ⟨_,rfl,rfl⟩
 obtain⟨d,e,rfl⟩:=this;exact e
theorem Sm{bx:List Kn}(h:∀ l∈ls,rR l)(hl:ls.length≤16)(hz:(cO ls).length≤1000)(hk:bx.length≤4096)(hn:∀ kn∈bx,∀ z∈cO ls,∃ v,cY kn z=aa v)(h2:1≤(cO ls).length\/bx.length<2) :
  xC [.tuple (ls.map bH),.list (bx.map ff)]=aa (bB (ix (bx.map (rowOf (cO ls))))):=by
 have:∃ d,xC [.tuple (ls.map bH),.list (bx.map ff)]=aa d/\d=bB (ix (bx.map (rowOf (cO ls)))):=by
  refine jV rfl ?_;refine iG (d:=.list ((cO ls).map bR)) (bW (ds:=[.tuple (ls.map bH)]) rfl (YE h (by omega))) (by simp) ?_
  have e:=EX (cap:=[ab,aa 2]) (fi:=cf (aB 1)) (T:=gB 0) (t:=dM) (f:=aN nY (aG (aB 1) (aG (aB 0) aK))) (ρ:=vS [s0 (.tuple (ls.map bH)),s0 (.list (bx.map ff)),s0 (.list ((cO ls).map bR))]) (xs:=bx) (q:=ff) (fun _=>ae) (fun kn=>bC (rowOf (cO ls) kn)) (lO rfl) (by omega) (fun kn m=>by
   refine⟨[aa (ff kn),aa (.list ((cO ls).map bR))],rfl,rfl,fun _=>?_⟩
   exact bW (ds:=[.list ((cO ls).map bR),ff kn]) rfl (Zq hz (hn kn m)))
  rw[Dv.mpr fun _ _=>rfl] at e
  have e':bx.map (fun kn=>bC (rowOf (cO ls) kn))=(bx.map (rowOf (cO ls))).map bC:=by rw[gH];rfl
  rw[e'] at e;refine jO (d:=bB (ix (bx.map (rowOf (cO ls))))) (bW (cM e rfl) (UU (n:=(cO ls).length) (by rw[eS];exact h2) (fun r m=>?_) (by rw[eS];exact hk))) ⟨_,rfl,rfl⟩
  obtain⟨kn,_,rfl⟩:=cJ.mp m;simp[rowOf]
 obtain⟨d,e,rfl⟩:=this;exact e
def Sat (B:aE->List (List Int))(ls:List Ln)(kn:Kn):Prop:=∀ l∈ls,∃ r∈B l.1,r.length=l.2.length/\∀ p∈l.2.zip r,(∀ i,p.1=.inl i->p.2=i)/\∀ z,p.1=.inr z->cY kn z=aa p.2
def yj (ls:List Ln)(z:aE):Prop:=∃ l∈ls,(.inr z:aO)∈l.2
def Df (ls:List Ln)(a b:Kn):Prop:=∃ z,yj ls z/\cY a z≠cY b z
theorem Sat.look{kn:Kn}(h:Sat B ls kn)(hz:yj ls z):∃ v,cY kn z=aa v:=by
 obtain⟨l,ml,mz⟩:=hz;obtain⟨r,_,hr,hp⟩:=h l ml;obtain⟨j,hj,ej⟩:=OZ mz;have ur:j<(l.2.zip r).length:=by rw[CN];omega
 have:=(hp (l.2.zip r)[j] (nB ur)).2 z (by rw[OY];exact ej)
 exact⟨_,this⟩
theorem Sat.up{kn cj:Kn}(h:Sat B ls kn)(k:∀ z u,cY kn z=aa u->cY cj z=aa u):Sat B ls cj:=fun l ml=>by
 obtain⟨r,mr,hr,hp⟩:=h l ml;exact⟨r,mr,hr,fun p mp=>⟨(hp p mp).1,fun z e=>k z _ ((hp p mp).2 z e)⟩⟩
theorem AU{kn cj:Kn}(h:jY ks r kn=aa cj):r.length=ks.length/\(∀ z u,cY kn z=aa u->cY cj z=aa u)/\∀ p∈ks.zip r,(∀ i,p.1=.inl i->p.2=i)/\∀ z,p.1=.inr z->cY cj z=aa p.2:=by
 unfold jY at h;obtain⟨h1,h2⟩:=Bu h;obtain⟨a,b,_⟩:=FU h2;exact⟨h1,a,b⟩
theorem Na{r':List Int}{kn x y:Kn}(hx:jY ks r kn=aa x)(hy:jY ks r' kn=aa y)(h:∀ z,(.inr z:aO)∈ks->cY x z=cY y z):r=r':=by
 obtain⟨l1,_,p1⟩:=AU hx;obtain⟨l2,_,p2⟩:=AU hy;refine PK (l1.trans l2.symm) fun j h1 h2=>?_
 have hk:j<ks.length:=by omega
 have z1:j<(ks.zip r).length:=by rw[CN];omega
 have z2:j<(ks.zip r').length:=by rw[CN];omega
 have a:=p1 (ks.zip r)[j] (nB z1);have b:=p2 (ks.zip r')[j] (nB z2);rw[OY] at a b;cases B3:ks[j] with
 |inl i=>exact(a.1 i B3).trans (b.1 i B3).symm
 |inr z=>
  have e1:=a.2 z B3;have e2:=b.2 z B3;rw[h z (B3 ▸ nB hk)] at e1;exact gY (e1.symm.trans e2)
theorem VB(hB:∀ t,(B t).Nodup):∀ (rest sk:List Ln) (bx:List Kn),(∀ kn∈bx,Sat B sk kn)->bx.Pairwise (Df sk) ->
  (∀ kn∈rest.foldl (fun bx l=>oM bx l.2 (B l.1)) bx,Sat B (sk++rest) kn)/\(rest.foldl (fun bx l=>oM bx l.2 (B l.1)) bx).Pairwise (Df (sk++rest))
 |[],sk,bx,h1,h2=>by rw[pM];exact⟨h1,h2⟩
 |l::rest,sk,bx,h1,h2=>by
  have e:sk++l::rest=(sk++[l])++rest:=by simp
  rw[e,nC];have mono:∀ z,yj sk z->yj (sk++[l]) z:=fun z ⟨l',m,q⟩=>⟨l',jF.mpr (.inl m),q⟩
  refine VB hB rest (sk++[l]) _ (fun kn m=>?_) ?_
  ·obtain⟨k0,mk,m⟩:=sR.mp m;obtain⟨r,mr,ef⟩:=sS.mp m;obtain⟨a,b,c⟩:=AU ef;intro l' m';rcases jF.mp m' with m'|m'
   ·exact(h1 k0 mk).up b l' m'
   ·rw[dP.mp m'];exact⟨r,mr,a,c⟩
  ·refine List.pairwise_flatMap.mpr ⟨fun k0 mk=>?_,?_⟩
   ·refine d6.mpr ((hB l.1).imp fun {r r'} fu x hx y hy=>?_)
    refine yH fun hn=>fu (Na hx hy fun z mz=>yH fun hz=>hn ⟨z,⟨l,jF.mpr (.inr (dP.mpr rfl)),mz⟩,hz⟩)
   ·refine(List.Pairwise.and_mem.mp h2).imp ?_;rintro a b ⟨ma,mb,z,hz,fu⟩ x hx y hy;obtain⟨r,_,ex⟩:=sS.mp hx;obtain⟨r',_,ey⟩:=sS.mp hy;obtain⟨u,hu⟩:=(h1 a ma).look hz;obtain⟨v,hv⟩:=(h1 b mb).look hz;refine⟨z,mono z hz,?_⟩;rw[(AU ex).2.1 z u hu,(AU ey).2.1 z v hv];rw[hu,hv] at fu;exact fu
theorem KZ(hB:∀ t,(B t).Nodup)(ls:List Ln):(∀ kn∈lV B ls,Sat B ls kn)/\(lV B ls).Pairwise (Df ls):=by
 have:=VB hB ls [] [[]] (fun kn _ l m=>by simp at m) (by simp)
 rwa [CJ] at this
theorem Auf:z∈rM ks↔(.inr z:aO)∈ks:=by
 unfold rM;rw[sS];constructor
 ·rintro⟨k,m,e⟩;cases k with
  |inl i=>cases e
  |inr y=>cases e;exact m
 ·exact fun m=>⟨_,m,rfl⟩
theorem Afu:z∈cO ls↔yj ls z:=by
 unfold cO yj;rw[Ahk,sR];exact⟨fun⟨l,m,h⟩=>⟨l,m,Auf.mp h⟩,fun⟨l,m,h⟩=>⟨l,m,Auf.mpr h⟩⟩
def oP (B:aE->List (List Int))(ls:List Ln):List (List Int):=(lV B ls).map (rowOf (cO ls))
theorem Qk(b:Bk kds B wd)(hB:∀ t,(B t).Nodup)(h:∀ l∈ls,rR l)(hl:ls.length≤16)(hw:fM B ls≤4096)(hz:(cO ls).length≤1000) :
  uA [.dict kds,.tuple (ls.map bH)]=aa (bB (ix (oP B ls))):=by
 obtain⟨h1,h2⟩:=KZ hB ls;obtain⟨e,l1,l2⟩:=LM (B:=B) ls hl (fun l m=>(h l m).1) hw
 have:∃ d,uA [.dict kds,.tuple (ls.map bH)]=aa d/\d=bB (ix (oP B ls)):=by
  refine jV rfl ?_;refine eF (ρ':=[s0 (.dict kds),s0 (.tuple (ls.map bH))]) ?_ ?_
  ·have e0:eV 0 .s (aN qT (aG (aB 0) (aG (aB 1) aK))) [s0 (.dict kds),s0 (.tuple (ls.map bH))]=aa .none:=bW (ds:=[.dict kds,.tuple (ls.map bH)]) rfl (XE b ls (by omega) hw)
   unfold rP;show(eV 0 .s (aN qT (aG (aB 0) (aG (aB 1) aK))) [s0 (.dict kds),s0 (.tuple (ls.map bH))]).bind _=_;rw[e0]
   rfl
  refine jO (d:=bB (ix (oP B ls))) (bW (ds:=[.tuple (ls.map bH),.list ((lV B ls).map ff)]) (cM rfl (cM (bW (ds:=[.tuple (ls.map bH),.list (ls.map fun l=>bB (B l.1))]) (cM rfl (cM (Bi b ls (by omega) rfl rfl) rfl)) e) rfl)) (Sm h hl hz (by omega) (fun kn m z mz=>(h1 kn m).look (Afu.mp mz)) ?_)) ⟨_,rfl,rfl⟩
  by_cases hn:1≤(cO ls).length
  ·exact .inl hn
  ·refine .inr (Nat.lt_of_not_le fun hc=>?_)
   have P8:1<(lV B ls).length:=hc;obtain⟨z,A9,_⟩:=CF.mp h2 0 1 (by omega) P8 (by omega)
   have:=List.length_pos_of_mem (Afu.mpr A9);omega
 obtain⟨d,e,rfl⟩:=this;exact e
theorem Qo(hB:∀ t,(B t).Nodup)(hm:m∈oP B ls):∃ kn:Kn,m=rowOf (cO ls) kn/\Sat B ls kn:=by
 obtain⟨kn,mk,rfl⟩:=cJ.mp hm;exact⟨kn,rfl,(KZ hB ls).1 kn mk⟩
theorem ZY(hw:∀ r∈R,r.length=n)(hn:R.Nodup):(ix R).Pairwise fun a b=>dC (a.map aX)<dC (b.map aX):=by
 have nd:(ix R).Nodup:=(zR R).nodup_iff.mpr hn;have h:=MR (R.map fun r=>r.map aX)
 have e:iX (R.map fun r=>r.map aX)=(ix R).map fun r=>r.map aX:=by
  unfold ix;rw[gH];refine(List.map_id' _).symm.trans (xX fun k mk=>?_)
  obtain⟨a,_,rfl⟩:=cJ.mp ((uC _).mem_iff.mp mk);show _=((a.map aX).map sy).map aX;rw[qR]
 rw[e] at h;have h:=uZ.mp h;refine((List.Pairwise.and_mem.mp h).and nd).imp ?_;rintro a b ⟨⟨ma,mb,oo⟩,fu⟩;have h1:dC (a.map aX)≤dC (b.map aX):=Ahr.mp oo;refine yH fun hc=>fu ?_
 have h2:dC (b.map aX)≤dC (a.map aX):=hc;have e:=EY (LP a b ((hw a (Ahp.mp ma)).trans (hw b (Ahp.mp mb)).symm)) (List.le_antisymm h1 h2);have:=congrArg (CM sy) e
 rwa [qR,qR] at this
theorem ZC:∀ zs:List aE,tQ (zs.map bR)=aa (zs.map gL)
 |[]=>rfl
 |z::zs=>by
  show((dJ (.str z)).bind fun k=>(tQ (zs.map bR)).bind fun ks=>aa (k::ks))=_
  rw[ZC zs]
  rfl
theorem ET (ai:List Int)(v:Int):mD (ai.map aX++[.int v])=lI (ai++[v]):=by
 rw[lI,jG]
 rfl
theorem VE(h:z∈zs):∃ j:Nat,EU (.list (zs.map bR)) (.str z)=aa (.int j)/\zs[j]?=aa z:=by
 obtain⟨j,e,hj⟩:∃ j,v8 (zs.map gL) (.inr z)=aa j/\zs[j]?=aa z:=by
  unfold v8;cases e:(zs.map (gL:aE->aO)).findIdx? fun y=>decide (y=.inr z) with
  |some j=>
   obtain⟨h1,h2,_⟩:=f6.mp e;refine⟨j,rfl,?_⟩;have D9:j<zs.length:=by simpa using h1
   have h2:=of_decide_eq_true h2;rw[Ds] at h2;injection h2 with h2;rw[eI D9,h2]
  |none=>
   have:=List.findIdx?_eq_none_iff.mp e (.inr z) (cJ.mpr ⟨z,h,rfl⟩);simp at this
 refine⟨j,?_,hj⟩;show yR (zs.map bR) (.str z)=_;unfold yR;rw[ZC,cX];show((v8 (zs.map gL) (.inr z)).bind fun j=>aa (aX j))=_
 rw[e]
 rfl
def pY (kn:Kn):aO->Int
 |.inl i=>i
 |.inr z=>(cY kn z).getD 0
theorem Lr{kn:Kn}(h:Sat B ls kn)(ml:l∈ls):l.2.map (pY kn)∈B l.1:=by
 obtain⟨r,mr,hr,hp⟩:=h l ml;have:l.2.map (pY kn)=r:=by
  refine PK (by simp[hr]) fun j h1 h2=>?_
  have hk:j<l.2.length:=by omega
  have hz:j<(l.2.zip r).length:=by rw[CN];omega
  have a:=hp (l.2.zip r)[j] (nB hz);rw[OY] at a;rw[Ds];cases e:l.2[j] with
  |inl i=>exact(a.1 i e).symm
  |inr z=>
   show(cY kn z).getD 0=_;rw[a.2 z e]
   rfl
 rw[this];exact mr
theorem Pw (c:Int)(hz:∀ k∈l.2,G6 zs ps k)(t8:zs.length≤1000)(hp:ps.length=6)(h6:l.2.length≤6) :
  ∃ r:List Int,uE [.int c,bH l,.list (zs.map bR),.list (ps.map aX)]=aa (bC r)/\r.length=l.2.length/\∀ v∈r,v∈ps:=by
 have:∃ d,uE [.int c,bH l,.list (zs.map bR),.list (ps.map aX)]=aa d/\∃ r:List Int,d=bC r/\r.length=l.2.length/\∀ v∈r,v∈ps:=by
  refine jV rfl ?_;refine iG (n:=1) (d:=.list []) rfl (by simp) ?_
  let A:List L2.Slot:=[s0 (.int c),s0 (bH l),s0 (.list (zs.map bR)),s0 (.list (ps.map aX))]
  refine fU (fun ρ'=>∃ (r:List Int) (x:L2.Slot),(r.length=l.2.length/\∀ v∈r,v∈ps)/\ρ'=A++[aa (1,lI r),x]) ?_ ?_
  ·refine pQ (ds:=l.2.map kD) (fun i ρ'=>∃ (r:List Int) (x:L2.Slot),(r.length=i/\∀ v∈r,v∈ps)/\ρ'=A++[aa (1,lI r),x]) (jz (tY (by simp[bz,aU,bE,cS,fG,cb,eR,iL,fX,fY,eU,frz,dA,eV,bV,aV,vS,vA,ah,gc,aB,eC,aN,gD,dG,aG,aK,au,iN,fT,jt,gb,gP,kj,iM,fK,iE,ki,cq,getL,gC,outD,cf,itemsOf,bO,gK,dD,bM,dY,gM,iw,dh,jd,km,fq,kl,cN,eJ,fO,jb,fH,iP,fW,fm,gf,cZ,noDict,noDicts,eG,cL,cK,dR,cT,dM,gB,bH,bf,jg,l8]))) ⟨[],ab,⟨rfl,fun _ m=>by simp at m⟩,rfl⟩ ?_ ?_
   ·rintro i d _ hd ⟨r,x,⟨hr,hv⟩,rfl⟩;rw[fA] at hd;obtain⟨k,hx,rfl⟩:=kA.mp hd;have hi:i<l.2.length:=(dF.mp hx).1;refine⟨A++[aa (1,lI r),s0 (kD k)],rfl,?_⟩;have b1:au (gc (eJ "str") (aB 5)) (vS (A++[aa (1,lI r),s0 (kD k)]))=aa (isS k):=iF (GS (a:=kD k) rfl ((EI k).trans (by cases k<;>rfl)))
    have hk:=hz k (gZ hx);have snoc:∀ {v:Int},v∈ps->∀ u∈r++[v],u∈ps:=fun {v} h u m=>by
     rcases jF.mp m with m|m
     ·exact hv u m
     ·rw[dP.mp m];exact h
    cases k with
    |inl v=>exact mL b1 (pS (d:=.int v) (ds:=r.map aX) rfl rfl (by simp;omega) ⟨_,.inl rfl,r++[v],_,⟨by simp[hr],snoc hk⟩,by rw[ET];rfl⟩)
    |inr z=>
     obtain⟨j,ej,hj⟩:=VE (zs:=zs) (z:=z) hk;have ur:j<zs.length:=(dF.mp hj).1;have em:=jA c (34+(j:Int)) (by omega) (by omega)
     have bm:=fQ (bT c (34+(j:Int))) (show(0:Int)<6 by decide)
     obtain⟨u,hu⟩:=kL bm.1;have vz:u<ps.length:=by omega
     refine lW b1 (pS (d:=.int ps[u]) (ds:=r.map aX) (bU (a:=.list (ps.map aX)) (b:=.int u) rfl (bU (a:=.int (bT c (34+(j:Int)))) (b:=.int 6) (bW (ds:=[.int c,.int (34+(j:Int))]) (cM rfl (cM (bU (a:=.int 34) (b:=.int j) rfl (bU (a:=.list (zs.map bR)) (b:=.str z) rfl rfl ej) rfl) rfl)) em) rfl (by rw[← hu];rfl)) (rW (eI vz))) rfl (by simp;omega) ⟨_,.inl rfl,r++[ps[u]],_,⟨by simp[hr],snoc (nB vz)⟩,by rw[ET];rfl⟩)
   ·rintro _ ⟨r,x,hr,rfl⟩;exact⟨_,rfl,r,x,⟨by simpa using hr.1,hr.2⟩,rfl⟩
  rintro _ ⟨r,x,hr,rfl⟩;exact nQ (jO (d:=bC r) (bW (ds:=[lI r]) rfl rfl) ⟨_,rfl,r,rfl,hr⟩)
 obtain⟨d,e,r,rfl,h⟩:=this;exact⟨r,e,h⟩
theorem KG {A:List Tb}{t:aE}(h:t∉A.map (·.1))(R:List (List Int)):putD (bu A) (.inr t) (bB R)=bu (A++[(t,R)]):=by
 unfold putD;have hn:¬ ((bu A).any fun kd=>decide (dJ kd.1=aa (.inr t)))=ae:=fun q=>by
  obtain⟨kd,m,e⟩:=CU.mp q;obtain⟨p,mp,rfl⟩:=cJ.mp m;have e:=of_decide_eq_true e;have e:aa (gL p.1:aO)=aa (gL t):=e;injection e with e;injection e with e;exact h (cJ.mpr ⟨p,mp,e⟩)
 rw[if_neg hn];unfold bu;rw[jG]
 rfl
def DH (ps:List Int)(w:Nat)(r:List Int):Prop:=r.length=w/\∀ v∈r,v∈ps
def Agc (ps:List Int)(w most:Nat)(R:List (List Int)):Prop:=R.Nodup/\R.length≤most/\∀ r∈R,DH ps w r
theorem Agc.add(h:Agc ps w most R)(hl:R.length<most)(hr:r∉R)(hw:DH ps w r):Agc ps w most (R++[r]):=by
 refine⟨?_,by simp;omega,fun x m=>?_⟩
 ·refine CI.mpr ⟨h.1,by simp,fun a ma b mb e=>?_⟩
  rw[dP.mp mb] at e;exact hr (e ▸ ma)
 ·rcases jF.mp m with m|m
  ·exact h.2.2 x m
  ·rw[dP.mp m];exact hw
theorem Agc.put(h:Agc ps w most R)(hr:r∉R)(hw:DH ps w r)(j:Nat):Agc ps w most ((R.take j++[r]++R.drop j).take most):=by
 have hp:(R.take j++[r]++R.drop j).Perm (r::R):=by
  rw[mG];refine(List.perm_middle (a:=r) (l₁:=R.take j) (l₂:=R.drop j)).trans ?_;rw[nA]
 refine⟨(hp.nodup_iff.mpr (mE.mpr ⟨hr,h.1⟩)).sublist (OR _ _),by rw[oG];omega,fun x m=>?_⟩
 rcases dU.mp (hp.mem_iff.mp (CL m)) with e|m
 ·rw[e];exact hw
 ·exact h.2.2 x m
theorem QX (kds:List (aA×aA))(h:j8 kds=ae):cN [.dict kds]=aa (.int kds.length):=by simp[cN,h]
theorem Xl(h:k≤ds.length):cutD ds (aa (k:Int)) ab=ds.drop k:=by
 unfold cutD;rw[HT.Aoq,HT.At3,xU h];exact uY (by simp)
theorem VM:cutD ds ab (aa (k:Int))=ds.take k:=by
 unfold cutD;rw[HT.Aoq,HT.At3,IE,Nat.sub_zero];rcases Nat.le_total k ds.length with h|h
 ·rw[xU h]
 ·rw[Nat.min_eq_right h,uY (cE _),uY h]
section
variable {st:Nat}
abbrev kh (ns:List Int)(st most:Nat)(ts:List (aE×Nat))(ls:List Ln)(zs:List aE)(ps:List Int):List L2.Slot:=[s0 (.list (ns.map aX)),s0 (.int st),s0 (.list (ts.map eY)),s0 (.list (ls.map bH)),s0 (.list (zs.map bR)),s0 (.list (ps.map aX)),s0 (.int most)]
theorem Vy (hs:st≤1000)(hm:most≤63)(hp:ps.length=6){L:List Tb}(hL:L.length≤100){t:aE}(hw:w≤6)(cm x12 p6 li lj:L2.Slot) :
  Goes (eW .a (j7 (aG (ah bM (aN dH (aG (aN fL (aG (aB 0) (aG (ah bO (aB 1) (aN cN (aG (aB 7) aK))) aK))) (aG (eC (.int 32)) aK))) (ah bO (aB 6) (eC (.int 1)))) aK)) (cq 11) (aU (bE 12 0 .a (ah bO (aN fL (aG (aB 0) (aG (ah bO (ah bO (ah bO (aB 1) (eC (.int 3))) (ah dD (eC (.int 5)) (aN cN (aG (aB 7) aK)))) (aB 11)) aK))) (aB 11)))
 (aU (bE 13 0 .s (aN fH (aG (j1 [ab,aa 5,aa 12] (j7 (aG (aB 9) aK)) (gB 0) dM (ah bf (aB 1) (ah bM (aN dH (aG (aB 2) (aG (ah bO (eC (.int 40)) (aB 0)) aK))) (eC (.int 3))))) aK)))
 (cb .a (au (ah (n8 ae) (aB 13) (aB 10))) (eR 10 .s (aB 13)) dA))))
   (kh ns st most ts ls zs ps++[aa (1,.dict (bu L)),s0 (.str t),s0 (.int w),aa (1,.list []),cm,x12,p6,li,lj])
   (fun o=>∃ ρ',o=.nx ρ'/\∃ (R:List (List Int)) (t9 ny ng:L2.Slot),Agc ps w most R/\ρ'=kh ns st most ts ls zs ps++[aa (1,.dict (bu L)),s0 (.str t),s0 (.int w),aa (1,bB R),t9,ny,ng,li,lj]):=by
 have ld:(bu L).length=L.length:=by simp[bu]
 obtain⟨c,ec⟩:=nW (ns:=ns) (k:=(st:Int)+(L.length:Int)) (by omega) (by omega)
 have bm:=fQ (bT c 32) (show(0:Int)<(most:Int)+1 by omega)
 obtain⟨n,hn⟩:=kL bm.1;have hnm:n≤most:=by omega
 refine tZ (n:=n) (fun i ρ'=>∃ (R:List (List Int)) (t9 ny ng:L2.Slot),(Agc ps w most R/\R.length≤i)/\ρ'=kh ns st most ts ls zs ps++[aa (1,.dict (bu L)),s0 (.str t),s0 (.int w),aa (1,bB R),t9,ny,ng,li,lj]) (avA (nR (cM ?_ rfl) (by omega))) ⟨[],cm,x12,p6,⟨⟨by simp,by simp,fun _ m=>by simp at m⟩,cE _⟩,rfl⟩ ?_ ?_
 ·refine bU (a:=.int (bT c 32)) (b:=.int ((most:Int)+1)) (bW (ds:=[.int c,.int 32]) (cM (bW (ds:=[.list (ns.map aX),.int ((st:Int)+(L.length:Int))]) (cM rfl (cM (bU (a:=.int st) (b:=.int (bu L).length) rfl (bW (ds:=[.dict (bu L)]) rfl (QX _ (DY L))) (by rw[ld];rfl)) rfl)) ec) rfl) (jA c 32 (by decide) (by decide))) (bU (a:=.int most) (b:=.int 1) rfl rfl rfl) ?_
  show(if 0<(most:Int)+1 then aa (aX (bT c 32%((most:Int)+1))) else ab)=_
  rw[if_pos (by omega),hn]
 ·rintro i _ hi ⟨R,t9,ny,ng,⟨hR,hRi⟩,rfl⟩;refine⟨kh ns st most ts ls zs ps++[aa (1,.dict (bu L)),s0 (.str t),s0 (.int w),aa (1,bB R),s0 (.int i),ny,ng,li,lj],rfl,?_⟩;obtain⟨c2,B2⟩:=nW (ns:=ns) (k:=(st:Int)+3+5*(L.length:Int)+(i:Int)) (by omega) (by omega)
  have e2:ah bO (aN fL (aG (aB 0) (aG (ah bO (ah bO (ah bO (aB 1) (eC (.int 3))) (ah dD (eC (.int 5)) (aN cN (aG (aB 7) aK)))) (aB 11)) aK))) (aB 11) (vA (kh ns st most ts ls zs ps++[aa (1,.dict (bu L)),s0 (.str t),s0 (.int w),aa (1,bB R),s0 (.int i),ny,ng,li,lj]))=aa (.int (c2+i)):=
   bU (a:=.int c2) (b:=.int i) (bW (ds:=[.list (ns.map aX),.int ((st:Int)+3+5*(L.length:Int)+(i:Int))]) (cM rfl (cM (bU (a:=.int ((st:Int)+3+5*(L.length:Int))) (b:=.int i) (bU (a:=.int ((st:Int)+3)) (b:=.int (5*(L.length:Int))) (bU (a:=.int st) (b:=.int 3) rfl rfl rfl) (bU (a:=.int 5) (b:=.int (L.length:Int)) rfl (bW (ds:=[.dict (bu L)]) rfl ((QX _ (DY L)).trans (by rw[ld]))) (QZ (by decide))) rfl) rfl rfl) rfl)) B2) rfl rfl
  refine Cb e2 rfl (by simp) ?_
  obtain⟨r,er,P9,B4⟩:=ES (cap:=[ab,aa 5,aa 12]) (fi:=j7 (aG (aB 9) aK)) (T:=gB 0) (t:=dM) (f:=ah bf (aB 1) (ah bM (aN dH (aG (aB 2) (aG (ah bO (eC (.int 40)) (aB 0)) aK))) (eC (.int 3))))
   (ρ:=vS (kh ns st most ts ls zs ps++[aa (1,.dict (bu L)),s0 (.str t),s0 (.int w),aa (1,bB R),s0 (.int i),s0 (.int (c2+i)),ng,li,lj])) (n:=w) aX (fun v=>v∈ps) (nR rfl (by omega)) (by omega) (fun k hk=>by
    have em:=jA (c2+i) (40+(k:Int)) (by omega) (by omega)
    have b3:=fQ (bT (c2+i) (40+(k:Int))) (show(0:Int)<3 by decide)
    obtain⟨u,hu⟩:=kL b3.1;have vz:u<ps.length:=by omega
    refine⟨[aa (.int k),aa (.list (ps.map aX)),aa (.int (c2+i))],ps[u],rfl,rfl,?_,nB vz⟩;exact bU (a:=.list (ps.map aX)) (b:=.int u) rfl (bU (a:=.int (bT (c2+i) (40+(k:Int)))) (b:=.int 3) (bW (ds:=[.int (c2+i),.int (40+(k:Int))]) rfl em) rfl (by rw[← hu];rfl)) (rW (eI vz)))
  refine iG (d:=bC r) (bW (cM er rfl) rfl) (by simp) ?_
  have b1:au (ah (n8 ae) (aB 13) (aB 10)) (vA (kh ns st most ts ls zs ps++[aa (1,.dict (bu L)),s0 (.str t),s0 (.int w),aa (1,bB R),s0 (.int i),s0 (.int (c2+i)),s0 (bC r),li,lj]))=aa (ae != decide (r∈R)):=iF (bU (a:=bC r) (b:=bB R) rfl rfl (zP ae r R));by_cases hr:r∈R
  ·exact mL (b1.trans (by simp[hr])) (mM ⟨_,.inl rfl,R,_,_,_,⟨hR,by omega⟩,rfl⟩)
  ·refine lW (b1.trans (by simp[hr])) (pS (d:=bC r) (ds:=R.map bC) rfl rfl (by simp;omega) ⟨_,.inl rfl,R++[r],s0 (.int i),s0 (.int (c2+i)),s0 (bC r),⟨hR.add (by omega) hr ⟨P9,B4⟩,by simp;omega⟩,?_⟩)
   rw[show mD (R.map bC++[bC r])=bB (R++[r]) by rw[bB,jG];rfl]
   rfl
 ·rintro _ ⟨R,t9,ny,ng,⟨hR,_⟩,rfl⟩;exact⟨_,rfl,R,_,_,_,hR,rfl⟩
end
section
variable {st:Nat}
theorem LX {ts:List (aE×Nat)}(h:(ts.map (·.1)).Nodup){a b:Nat}(ha:(z,a)∈ts)(hb:(z,b)∈ts):a=b:=by
 induction ts with
 |nil=>simp at ha
 |cons t r ih=>
  rw[dQ,mE] at h;rcases dU.mp ha with e|ma
  ·rcases dU.mp hb with e'|mb
   ·rw[← e] at e';exact(Prod.mk.inj e').2.symm
   ·exact absurd (cJ.mpr ⟨_,mb,by rw[← e]⟩) h.1
  ·rcases dU.mp hb with e'|mb
   ·exact absurd (cJ.mpr ⟨_,ma,by rw[← e']⟩) h.1
   ·exact ih h.2 ma mb
theorem GO {xs ys:List aA}(h:xs.length+ys.length≤100000):pD (.list xs) (.list ys)=aa (.list (xs++ys)):=by
 show(if xs.length+ys.length≤sizeLine then aa (mD (xs++ys)) else ab)=_
 rw[if_pos (nX h)]
theorem half:dY (.int k) (.int 2)=aa (.int ((k/2:Nat):Int)):=by
 show(if (0:Int)<2/\(2:Int)<1073741824 then aa (aX ((k:Int)/2)) else ab)=_
 rw[if_pos (by decide)]
 rfl
theorem Xc (hs:st≤1000)(hm:most≤63)(hp:ps.length=6)(gw:(ts.map (·.1)).Nodup)(qu:∀ l∈ls,tp ts zs ps l/\l.2.length≤6)(t8:zs.length≤1000)(hl:ls.length≤16){BK:L2.Slot}{t:aE}(ht:(t,w)∈ts){R0:List (List Int)}(h0:Agc ps w most R0)(cm x12 p6 li lj:L2.Slot) :
  Goes (eW .s (j7 (aG (ah dD (eC (.int 2)) (aN cN (aG (aB 3) aK))) aK)) (cq 14) (aU (bE 12 0 .s (aN fL (aG (aB 0) (aG (ah bO (ah bO (aB 1) (eC (.int 1))) (ah bM (aB 14) (eC (.int 2)))) aK))))
 (aU (bE 13 0 .s (aN uE (aG (aB 12) (aG (ah bf (aB 3) (ah dY (aB 14) (eC (.int 2)))) (aG (aB 4) (aG (aB 5) aK))))))
 (cb .s (fT (au (ah fm (ah bf (ah bf (aB 3) (ah dY (aB 14) (eC (.int 2)))) (eC (.int 0))) (aB 8))) (fT (au (ah (n8 ae) (aB 13) (aB 10))) (au (ah fq (ah bM (aN dH (aG (aB 12) (aG (ah bO (eC (.int 54)) (aB 14)) aK))) (eC (.int 5))) (eC (.int 0)))))) (aU (bE 15 0 .s (ah bM (aN dH (aG (aB 12) (aG (eC (.int 52)) aK))) (ah bO (aN cN (aG (aB 10) aK)) (eC (.int 1)))))
 (bE 10 0 .s (kM (ah pD (ah pD (kM (aB 10) oN (oS (aB 15))) (dG (aG (aB 13) aK))) (kM (aB 10) (oS (aB 15)) oN)) oN (oS (aB 6))))) dA))))
   (kh ns st most ts ls zs ps++[BK,s0 (.str t),s0 (.int w),s0 (bB R0),cm,x12,p6,li,lj])
   (fun o=>∃ ρ',o=.nx ρ'/\∃ (R:List (List Int)) (ny ng B5 uw:L2.Slot),Agc ps w most R/\ρ'=kh ns st most ts ls zs ps++[BK,s0 (.str t),s0 (.int w),s0 (bB R),cm,ny,ng,B5,uw]):=by
 refine tZ (n:=2*ls.length) (fun i ρ'=>∃ (R:List (List Int)) (ny ng B5 uw:L2.Slot),Agc ps w most R/\ρ'=kh ns st most ts ls zs ps++[BK,s0 (.str t),s0 (.int w),s0 (bB R),cm,ny,ng,B5,uw]) (jz (nR (cM ?_ rfl) (by omega))) ⟨R0,x12,p6,li,lj,h0,rfl⟩ ?_ ?_
 ·refine bU (a:=.int 2) (b:=.int (ls.map bH).length) rfl (bW (ds:=[.list (ls.map bH)]) rfl (vP _)) ((QZ (by decide)).trans ?_)
  rw[eS]
  congr 2
 ·rintro i _ hi ⟨R,ny,ng,B5,uw,hR,rfl⟩;refine⟨kh ns st most ts ls zs ps++[BK,s0 (.str t),s0 (.int w),s0 (bB R),cm,ny,ng,s0 (.int i),uw],rfl,?_⟩;obtain⟨c,ec⟩:=nW (ns:=ns) (k:=(st:Int)+1+(i:Int)%2) (by omega) (by omega)
  refine iG (d:=.int c) (bW (ds:=[.list (ns.map aX),.int ((st:Int)+1+(i:Int)%2)]) (cM rfl (cM (bU (a:=.int ((st:Int)+1)) (b:=.int ((i:Int)%2)) (bU (a:=.int st) (b:=.int 1) rfl rfl rfl) (bU (a:=.int i) (b:=.int 2) rfl rfl (Gm i 2 (by decide))) rfl) rfl)) ec) (by simp) ?_
  have hj:i/2<ls.length:=by omega
  have ex:∀ a b c d:L2.Slot,ah bf (aB 3) (ah dY (aB 14) (eC (.int 2))) (vS (kh ns st most ts ls zs ps++[BK,s0 (.str t),s0 (.int w),s0 (bB R),a,b,c,s0 (.int i),d]))=aa (bH ls[i/2]):=fun a b c d=>bU (a:=.list (ls.map bH)) (b:=.int ((i/2:Nat):Int)) rfl (bU (a:=.int i) (b:=.int 2) rfl rfl half) (rW (eI hj))
  have ml:ls[i/2]∈ls:=nB hj;generalize ls[i/2]=l at ex ml;obtain⟨⟨ce,hlz⟩,hl6⟩:=qu l ml;obtain⟨r,er,hr,B4⟩:=Pw c (l:=l) hlz t8 hp hl6;refine iG (d:=bC r) (bW (ds:=[.int c,bH l,.list (zs.map bR),.list (ps.map aX)]) (cM rfl (cM (ex _ _ _ _) rfl)) er) (by simp) ?_
  have em:=jA c (54+(i:Int)) (by omega) (by omega)
  have c1:au (ah fm (ah bf (ah bf (aB 3) (ah dY (aB 14) (eC (.int 2)))) (eC (.int 0))) (aB 8)) (vS (kh ns st most ts ls zs ps++[BK,s0 (.str t),s0 (.int w),s0 (bB R),cm,s0 (.int c),s0 (bC r),s0 (.int i),uw]))=aa (decide (l.1=t)):=iF (bU (a:=.str l.1) (b:=.str t) (bU (a:=bH l) (b:=.int 0) (ex _ _ _ _) rfl rfl) rfl (Ko l.1 t));have c2:au (ah (n8 ae) (aB 13) (aB 10)) (vS (kh ns st most ts ls zs ps++[BK,s0 (.str t),s0 (.int w),s0 (bB R),cm,s0 (.int c),s0 (bC r),s0 (.int i),uw]))=aa (ae != decide (r∈R)):=iF (bU (a:=bC r) (b:=bB R) rfl rfl (zP ae r R));have c3:au (ah fq (ah bM (aN dH (aG (aB 12) (aG (ah bO (eC (.int 54)) (aB 14)) aK))) (eC (.int 5))) (eC (.int 0))) (vS (kh ns st most ts ls zs ps++[BK,s0 (.str t),s0 (.int w),s0 (bB R),cm,s0 (.int c),s0 (bC r),s0 (.int i),uw]))=aa (decide (bT c (54+(i:Int))%5 > 0)):=iF (bU (a:=.int (bT c (54+(i:Int))%5)) (b:=.int 0) (bU (a:=.int (bT c (54+(i:Int)))) (b:=.int 5) (bW (ds:=[.int c,.int (54+(i:Int))]) rfl em) rfl rfl) rfl rfl);have cc:=Bg c1 fun _=>Bg c2 fun _=>c3
  refine GV cc ?_;split
  ·rename_i hc;have j3:l.1=t/\r∉R:=by
    have:=oK.mp hc;exact⟨of_decide_eq_true this.1,fun q=>by have:=(oK.mp this.2).1;simp[q] at this⟩
   have hrw:r.length=w:=by
    have e1:=LX gw ce (show(l.1,w)∈ts by rw[j3.1];exact ht)
    rw[hr];exact e1
   have hR63:=hR.2.1;have bj:=fQ (bT c 52) (show(0:Int)<(R.length:Int)+1 by omega)
   obtain⟨u,hu⟩:=kL bj.1;have huR:u≤R.length:=by omega
   refine iG (d:=.int u) (bU (a:=.int (bT c 52)) (b:=.int ((R.length:Int)+1)) (bW (ds:=[.int c,.int 52]) rfl (jA c 52 (by decide) (by decide))) (bU (a:=.int (R.length:Int)) (b:=.int 1) (bW (ds:=[bB R]) rfl ((vP _).trans (by rw[eS]))) rfl rfl) ?_) (by simp) ?_
   ·show(if 0<(R.length:Int)+1 then aa (aX (bT c 52%((R.length:Int)+1))) else ab)=_
    rw[if_pos (by omega),hu]
   have el:(R.map bC).length=R.length:=eS ..;refine rV (d:=bB ((R.take u++[r]++R.drop u).take most)) ?_ (by simp) ⟨_,.inl rfl,(R.take u++[r]++R.drop u).take most,s0 (.int c),s0 (bC r),s0 (.int i),s0 (.int u),hR.put j3.2 ⟨hrw,B4⟩ u,rfl⟩
   have s1:kM (aB 10) oN (oS (aB 15)) (vS (kh ns st most ts ls zs ps++[BK,s0 (.str t),s0 (.int w),s0 (bB R),cm,s0 (.int c),s0 (bC r),s0 (.int i),s0 (.int u)]))=aa (.list ((R.take u).map bC)):=(EB (ds:=R.map bC) (l:=ab) (u:=aa (u:Int)) rfl rfl rfl).trans (by rw[Al (by omega),OT])
   have s2:kM (aB 10) (oS (aB 15)) oN (vS (kh ns st most ts ls zs ps++[BK,s0 (.str t),s0 (.int w),s0 (bB R),cm,s0 (.int c),s0 (bC r),s0 (.int i),s0 (.int u)]))=aa (.list ((R.drop u).map bC)):=(EB (ds:=R.map bC) (l:=aa (u:Int)) (u:=ab) rfl rfl rfl).trans (by rw[Xl (by omega),List.map_drop])
   have s3:ah pD (ah pD (kM (aB 10) oN (oS (aB 15))) (dG (aG (aB 13) aK))) (kM (aB 10) (oS (aB 15)) oN) (vS (kh ns st most ts ls zs ps++[BK,s0 (.str t),s0 (.int w),s0 (bB R),cm,s0 (.int c),s0 (bC r),s0 (.int i),s0 (.int u)]))=aa (.list ((R.take u++[r]++R.drop u).map bC)):=by
    refine bU (a:=.list ((R.take u++[r]).map bC)) (b:=.list ((R.drop u).map bC)) (bU (a:=.list ((R.take u).map bC)) (b:=.list [bC r]) s1 (wC rfl) ?_) s2 ?_
    ·rw[GO (by simp;omega),jG]
     rfl
    ·rw[GO (by simp;omega),← jG]
   refine(EB (l:=ab) (u:=aa (most:Int)) s3 rfl rfl).trans ?_;rw[VM,bB,OT]
  ·exact mM ⟨_,.inl rfl,R,_,_,_,_,hR,rfl⟩
 ·rintro _ ⟨R,ny,ng,B5,uw,hR,rfl⟩;exact⟨_,rfl,R,_,_,_,_,hR,rfl⟩
end
theorem Nd{st:Nat}(hs:st≤1000)(hm:most≤63)(hp:ps.length=6)(lw:∀ t∈ts,t.2≤6)(F7:ts.length≤100)(gw:(ts.map (·.1)).Nodup)(qu:∀ l∈ls,tp ts zs ps l/\l.2.length≤6)(t8:zs.length≤1000)(hl:ls.length≤16) :
  ∃ L:List Tb,wV [.list (ns.map aX),.int st,.list (ts.map eY),.list (ls.map bH),.list (zs.map bR),.list (ps.map aX),.int most]=aa (.dict (bu L))/\(L.map (·.1)).Nodup/\∀ p∈L,∃ w,(p.1,w)∈ts/\Agc ps w most p.2:=by
 have:∃ d,wV [.list (ns.map aX),.int st,.list (ts.map eY),.list (ls.map bH),.list (zs.map bR),.list (ps.map aX),.int most]=aa d/\∃ L:List Tb,d=.dict (bu L)/\(L.map (·.1)).Nodup/\∀ p∈L,∃ w,(p.1,w)∈ts/\Agc ps w most p.2:=by
  refine jV rfl ?_;refine iG (n:=1) (d:=.dict []) rfl (by simp) ?_
  refine fU (fun ρ'=>∃ (L:List Tb) (x8 x9 du cm x12 p6 li lj:L2.Slot),((L.map (·.1)).Nodup/\∀ p∈L,∃ w,(p.1,w)∈ts/\Agc ps w most p.2)/\ρ'=kh ns st most ts ls zs ps++[aa (1,.dict (bu L)),x8,x9,du,cm,x12,p6,li,lj]) ?_ ?_
  ·refine pQ (ds:=ts.map eY) (fun i ρ'=>∃ (L:List Tb) (x8 x9 du cm x12 p6 li lj:L2.Slot),((L.map (·.1)).Nodup/\L.length≤i/\∀ p∈L,p.1∈(ts.take i).map (·.1)/\∃ w,(p.1,w)∈ts/\Agc ps w most p.2)/\ρ'=kh ns st most ts ls zs ps++[aa (1,.dict (bu L)),x8,x9,du,cm,x12,p6,li,lj]) (jz (lO rfl)) ⟨[],ab,ab,ab,ab,ab,ab,ab,ab,⟨by simp,cE _,fun _ m=>by simp at m⟩,rfl⟩ ?_ ?_
   ·rintro i d _ hd ⟨L,x8,x9,du,cm,x12,p6,li,lj,⟨h1,h2,h3⟩,rfl⟩;rw[fA] at hd;obtain⟨⟨t,w⟩,hx,rfl⟩:=kA.mp hd;have mt:=gZ hx;have hi:i<ts.length:=(dF.mp hx).1;have ph:ts.take (i+1)=ts.take i++[(t,w)]:=by rw[sP,hx];rfl
    have ux:t∉L.map (·.1):=fun m=>by
     obtain⟨p,mp,e⟩:=cJ.mp m;have n2:((ts.take (i+1)).map (·.1)).Nodup:=gw.sublist ((OR _ _).map _);rw[ph,jG] at n2;exact(CI.mp n2).2.2 p.1 (h3 p mp).1 t (by simp) e
    have keep:∀ p∈L,p.1∈(ts.take (i+1)).map (·.1)/\∃ w,(p.1,w)∈ts/\Agc ps w most p.2:=fun p mp=>⟨by rw[ph,jG];exact jF.mpr (.inl (h3 p mp).1),(h3 p mp).2⟩
    refine⟨kh ns st most ts ls zs ps++[aa (1,.dict (bu L)),s0 (.str t),s0 (.int w),du,cm,x12,p6,li,lj],rfl,?_⟩;refine iG (n:=1) (d:=.list []) rfl (by simp) ?_
    refine fU _ (Vy hs hm hp (L:=L) (by omega) (lw _ mt) cm x12 p6 li lj) ?_
    rintro _ ⟨R1,t9,ny,ng,hR1,rfl⟩;refine nQ ?_;refine fU _ (Xc hs hm hp gw qu t8 hl mt hR1 t9 ny ng li lj) ?_;rintro _ ⟨R,Q0,Q1,Q2,Q3,hR,rfl⟩;obtain⟨c,ec⟩:=nW (ns:=ns) (k:=(st:Int)) (by omega) (by omega)
    have c1:au (ah fq (aN cN (aG (aB 10) aK)) (eC (.int 0))) (vS (kh ns st most ts ls zs ps++[aa (1,.dict (bu L)),s0 (.str t),s0 (.int w),s0 (bB R),t9,Q0,Q1,Q2,Q3]))=aa (decide (((R.map bC).length:Int) > 0)):=iF (bU (a:=.int (R.map bC).length) (b:=.int 0) (bW (ds:=[bB R]) rfl (vP _)) rfl rfl);have c2:au (ah fm (ah bM (aN dH (aG (aN fL (aG (aB 0) (aG (aB 1) aK))) (aG (eC (.int 53)) aK))) (eC (.int 2))) (eC (.int 0))) (vS (kh ns st most ts ls zs ps++[aa (1,.dict (bu L)),s0 (.str t),s0 (.int w),s0 (bB R),t9,Q0,Q1,Q2,Q3]))=aa (decide (bT c 53%2=0)):=iF (bU (a:=.int (bT c 53%2)) (b:=.int 0) (bU (a:=.int (bT c 53)) (b:=.int 2) (bW (ds:=[.int c,.int 53]) (cM (bW (ds:=[.list (ns.map aX),.int st]) rfl ec) rfl) (jA c 53 (by decide) (by decide))) rfl rfl) rfl (Lu _ _))
    refine GV (Lh c1 fun _=>c2) ?_
    split
    ·refine EW (d:=bB R) (kd:=.str t) (key:=.inr t) (kds:=bu L) rfl rfl rfl rfl (by simp[bu];omega) ⟨_,.inl rfl,L++[(t,R)],s0 (.str t),s0 (.int w),s0 (bB R),t9,Q0,Q1,Q2,Q3,⟨?_,by simp;omega,fun p mp=>?_⟩,?_⟩
     ·rw[jG];refine CI.mpr ⟨h1,by simp,fun a ma b mb e=>?_⟩
      have:b=t:=by simpa using mb
      exact ux (this ▸ e ▸ ma)
     ·rcases jF.mp mp with mp|mp
      ·exact keep p mp
      ·rw[dP.mp mp];exact⟨by rw[ph];simp,w,mt,hR⟩
     ·rw[KG ux]
      rfl
    ·exact mM ⟨_,.inl rfl,L,_,_,_,_,_,_,_,_,⟨h1,by omega,keep⟩,rfl⟩
   ·rintro _ ⟨L,x8,x9,du,cm,x12,p6,li,lj,⟨h1,h2,h3⟩,rfl⟩;exact⟨_,rfl,L,_,_,_,_,_,_,_,_,⟨h1,fun p mp=>(h3 p mp).2⟩,rfl⟩
  rintro _ ⟨L,x8,x9,du,cm,x12,p6,li,lj,h,rfl⟩;exact JZ rfl ⟨_,rfl,L,rfl,h.1,h.2⟩
 obtain⟨d,e,L,rfl,h⟩:=this;exact⟨L,e,h⟩
theorem MV {α:Type}[DecidableEq α]:∀ (zs ai:List α),ai.Nodup->(zs.foldl gQ ai).Nodup
 |[],ai,h=>h
 |z::zs,ai,h=>by
  rw[nC];refine MV zs _ ?_;unfold gQ;split
  ·exact h
  ·rename_i hz;exact CI.mpr ⟨h,by simp,fun a ha b hb e=>hz (by rw[dP] at hb;rw[← hb,← e];exact ha)⟩
theorem zG {α:Type}[DecidableEq α](zs:List α):(fP zs).Nodup:=MV zs [] HY
theorem Xa {α:Type}[DecidableEq α]{zs ys:List α}(h:∀ z∈zs,z∈ys):(fP zs).length≤ys.length:=Ea (zG zs) fun z m=>h z (Ahk.mp m)
theorem RQ {a b:List Int}(h:a.map aX=b.map aX):a=b:=by
 have:=congrArg (CM sy) h
 rwa [qR,qR] at this
theorem Oj (R:List (List Int)):gE (R.map fun r=>r.map aX)=(fP R).map fun r=>r.map aX:=by
 have go:∀ (R ai:List (List Int)),(R.map fun r=>r.map aX).foldl nL (ai.map fun r=>r.map aX)=(R.foldl gQ ai).map fun r=>r.map aX:=by
  intro R;induction R with
  |nil=>intro ai;rfl
  |cons r R ih=>
   intro ai;rw[dQ,nC,nC,← ih]
   congr 1
   unfold nL gQ;by_cases h:r∈ai
   ·rw[if_pos h,if_pos (cJ.mpr ⟨r,h,rfl⟩)]
   ·rw[if_neg h,if_neg fun m=>by
     obtain⟨x,mx,e⟩:=cJ.mp m;exact h ((RQ e) ▸ mx),jG]
    rfl
 exact go R []
def o7 (r:List Int):aA×aA:=(.tuple (r.map aX),.bool ae)
theorem Yw (ai:List (List Int)):keyed (ai.map o7):=fun kd m=>by
 obtain⟨r,_,rfl⟩:=cJ.mp m;exact⟨_,rfl,zV r⟩
theorem UB (ai:List (List Int))(r:List Int):(nM (ai.map o7) (r.map aX)).isSome=decide (r∈ai):=by
 rw[yJ,YQ (zV r) (Yw ai),gH,decide_eq_true_eq,cJ];constructor
 ·rintro⟨a,ma,e⟩;exact RQ (uU e) ▸ ma
 ·exact fun m=>⟨r,m,rfl⟩
theorem Wl (ai:List (List Int))(r:List Int):qW (ai.map o7) (r.map aX) (.bool ae)=(gQ ai r).map o7:=by
 unfold qW gQ;rw[UB];by_cases h:r∈ai
 ·rw[if_pos (decide_eq_true h),if_pos h,gH];refine xX fun a _=>?_
  show(if cK (o7 a).1 (.tuple (r.map aX))=ae then((o7 a).1,uV ae) else o7 a)=o7 a
  split<;>rfl
 ·rw[if_neg (by simpa using h),if_neg h]
  simp[o7]
theorem Ni {ρ:bJ}{k:List aA}(h:f (vS ρ)=aa d)(hg:GY i ρ=aa kds)(hk:g (vS ρ)=aa (.tuple k))(h1:cC k=ae)(h2:cL k≤6)(h3:cT d=ae)(hl:kds.length<100000)(kk:P (.nx (ρ.set i (aa (9,.dict ((.none,.none)::qW kds k d)))))):Goes (GP i .s f .s g) ρ P:=⟨_,by
 have e1:eV 0 .s f ρ=aa d:=h;have e2:eV 0 .s g ρ=aa (.tuple k):=hk;unfold GP;rw[e1,cX,hg,cX,e2,cX];show(if ((cC k=ae/\cL k≤6)/\cT d=ae)/\kds.length<sizeLine then aa (Out.nx (ρ.set i (aa (9,.dict ((.none,.none)::qW kds k d))))) else ab)=_
 rw[if_pos ⟨⟨⟨h1,h2⟩,h3⟩,zO (sO hl)⟩],kk⟩
theorem Wn(hm:m∈oP B ls):m.length=(cO ls).length:=by
 obtain⟨kn,_,rfl⟩:=cJ.mp hm;simp[rowOf]
theorem ZG:∀ (ps:List (aO×aA)) (ai:List (aA×aA)),(ps.map (·.1)).Nodup->(∀ p∈ps,∀ kd∈ai,dJ kd.1≠aa p.1)->tM ps ai=ai++ps.map fun p=>(kD p.1,p.2)
 |[],ai,_,_=>by simp[tM]
 |p::ps,ai,nd,h=>by
  rw[dQ,mE] at nd;have e:putD ai p.1 p.2=ai++[(kD p.1,p.2)]:=by
   unfold putD;rw[if_neg];intro q;obtain⟨kd,m,hk⟩:=CU.mp q;exact h p bS kd m (of_decide_eq_true hk)
  show tM ps (putD ai p.1 p.2)=_;rw[e,ZG ps _ nd.2]
  ·simp
  ·intro q mq kd m;rcases jF.mp m with m|m
   ·exact h q (cG _ mq) kd m
   ·rw[dP.mp m];show dJ (kD p.1)≠_;rw[L2.Ah3];exact fun e=>nd.1 (cJ.mpr ⟨q,mq,(gY e).symm⟩)
theorem Oz(hn:1≤n\/(fP R).length<2)(hw:∀ r∈R,r.length=n)(hl:(fP R).length≤4096):MD [bB R]=aa (bB (ix (fP R))):=by
 have e:=UU (R:=fP R) hn (fun r m=>hw r (Ahk.mp m)) hl
 have e:((kS ((fP R).map bC)).bind fun kss=>if kz kss=ae/\kss.length≤4096 then aa (mD ((iX kss).map iC)) else ab)=aa (bB (ix (fP R))):=e
 show((kS (R.map bC)).bind fun kss=>if (gE kss).length≤4900/\kz (gE kss)=ae then aa (mD ((iX (gE kss)).map iC)) else ab)=_
 rw[WU,cX] at e ⊢;rw[Oj];obtain⟨⟨a,b⟩,c⟩:=eQ e;rw[if_pos ⟨iU b (by decide),a⟩,c]
theorem XO:∀ zs:List aE,sX (zs.map bR)=aa (zs.map gL)
 |[]=>rfl
 |z::zs=>by
  show((sX (zs.map bR)).bind fun ks=>aa (.inr z::ks))=_
  rw[XO zs]
  rfl
theorem RN {α β:Type}:∀ (as:List α) (bs:List β),as.length=bs.length->(as.zip bs).map (·.1)=as
 |[],[],_=>rfl
 |a::as,b::bs,h=>by
  rw[HW,dQ,RN as bs (by simpa using h)]
 |[],_::_,h=>by simp at h
 |_::_,[],h=>by simp at h
theorem UY {α β γ δ:Type}(f:α->γ)(g:β->δ):∀ (as:List α) (bs:List β),(as.map f).zip (bs.map g)=(as.zip bs).map fun p=>(f p.1,g p.2)
 |[],_=>by simp
 |_::_,[]=>by simp
 |a::as,b::bs=>by simp[UY f g as bs]
theorem Kt(hz:zs.Nodup)(hl:zs.length=m.length)(h1:zs.length≤1000):yV [.list (zs.map bR),bC m]=aa (ff (zs.zip m)):=by
 show((sX (zs.map bR)).bind fun ks=>if (zs.map bR).length≤sizeLine then aa (OH (tM (ks.zip (m.map aX)) [])) else ab)=_
 rw[XO,cX,if_pos (nX (by simp;omega)),UY,ZG]
 ·show aa (OH _)=aa (OH ((zs.zip m).map dN));rw[CJ,gH]
  rfl
 ·rw[gH];show((zs.zip m).map fun p=>(gL p.1:aO)).Nodup
  have:((zs.zip m).map fun p=>(gL p.1:aO))=zs.map gL:=by
   have:=congrArg (CM (gL:aE->aO)) (RN zs m hl);rw[gH] at this;exact this
  rw[this];exact uZ.mpr (hz.imp fun h e=>h (Sum.inr.inj e))
 ·intro p _ kd mk;simp at mk
theorem zY:∀ {zs:List aE} {m:List Int},zs.Nodup->zs.length=m.length->∀ {j:Nat} {z:aE},zs[j]?=aa z->cY (zs.zip m) z=m[j]?
 |[],_,_,_,j,z,h=>by simp at h
 |y::zs,[],_,hl,_,_,_=>by simp at hl
 |y::zs,v::m,nd,hl,j,z,h=>by
  rw[mE] at nd;cases j with
  |zero=>
   have:y=z:=by simpa using h
   rw[10];simp[cY]
  |succ j=>
   have h:zs[j]?=aa z:=by simpa using h
   have ne:y≠z:=fun e=>nd.1 (e ▸ gZ h)
   have:=zY (zs:=zs) (m:=m) nd.2 (by simpa using hl) h
   rw[pL,← this];unfold cY;rw[HW,kC];simp[ne]
theorem Vp (kn:Kn)(i:Int):dW (DN kn) (.inl i)=ab:=by
 unfold dW DN;induction kn with
 |nil=>rfl
 |cons p r ih=>
  rw[dQ,kC];have e:decide (dJ (dN p).1=aa (.inl i))=af:=decide_eq_false (by show ¬ (aa (gL p.1:aO)=aa (.inl i));simp)
  rw[e];exact ih
theorem Vi {hd:List aO}{kn:Kn}(hl:hd.length≤1000)(h:∀ z,(.inr z:aO)∈hd->∃ v,cY kn z=aa v):nY [tK hd,ff kn]=aa (bC (hd.map (pY kn))):=by
 have:∃ d,nY [tK hd,ff kn]=aa d/\d=bC (hd.map (pY kn)):=by
  refine jV rfl ?_;have e:=EX (cap:=[ab,aa 1]) (fi:=cf (aB 0)) (T:=gB 0) (t:=dM) (f:=fK (aB 1) (aB 0) (aB 0)) (ρ:=vS [s0 (tK hd),s0 (ff kn)]) (xs:=hd) (q:=kD) (fun _=>ae) (fun k=>.int (pY kn k)) (tY rfl) (by omega) (fun k m=>by
   refine⟨[aa (kD k),aa (ff kn)],rfl,rfl,fun _=>?_⟩
   have:=JV (fd:=aB 1) (fk:=aB 0) (fx:=aB 0) (ρ:=[aa (kD k),aa (ff kn)]) (kds:=DN kn) (kd:=kD k) (x:=kD k) (key:=k) rfl rfl (by cases k<;>rfl) rfl (U1 kn)
   rw[this];cases k with
   |inl i=>rw[Vp];rfl
   |inr z=>
    obtain⟨v,hv⟩:=h z m;rw[EK,hv];show _=aa (aX ((cY kn z).getD 0));rw[hv]
    rfl)
  rw[Dv.mpr fun _ _=>rfl] at e
  have e':hd.map (fun k=>aX (pY kn k))=(hd.map (pY kn)).map aX:=by rw[gH];rfl
  rw[e'] at e;exact jO (d:=bC (hd.map (pY kn))) (bW (cM e rfl) rfl) ⟨_,rfl,rfl⟩
 obtain⟨d,e,rfl⟩:=this;exact e
abbrev gA:=List aO×List Ln
def eK (q:gA):aA:=.tuple [tK q.1,.tuple (q.2.map bH)]
def pX (q:gA)(m:List Int):List Int:=q.1.map (pY ((cO q.2).zip m))
theorem KI (ls:List Ln):(cO ls).Nodup:=zG _
theorem Vr {q:gA}(hl:m.length=(cO q.2).length)(hz:z∈cO q.2):∃ (j:Nat) (v:Int),(cO q.2)[j]?=aa z/\m[j]?=aa v/\cY ((cO q.2).zip m) z=aa v:=by
 obtain⟨j,hj⟩:=List.mem_iff_getElem?.mp hz;have ce:j<(cO q.2).length:=(dF.mp hj).1;have e:m[j]?=aa (m[j]'(by omega)):=eI (by omega)
 exact⟨j,_,hj,e,(zY (KI q.2) hl.symm hj).trans e⟩
theorem Sy {q:gA}{M:List (List Int)}(hq:∀ l∈q.2,rR l)(hl:q.2.length≤16)(hz:(cO q.2).length≤1000)(hh:q.1.length≤1000)(hn:∀ z,(.inr z:aO)∈q.1->z∈cO q.2)(hM:∀ m∈M,m.length=(cO q.2).length)(hc:M.length≤4096) :
  xA [eK q,bB M]=aa (bB (M.map (pX q))):=by
 have:∃ d,xA [eK q,bB M]=aa d/\d=bB (M.map (pX q)):=by
  refine jV rfl ?_;refine iG (d:=.list ((cO q.2).map bR)) (bW (ds:=[.tuple (q.2.map bH)]) (cM (bU (a:=eK q) (b:=.int 1) rfl rfl rfl) rfl) (YE hq (by omega))) (by simp) ?_
  have e:=EX (cap:=[ab,aa 0,aa 2]) (fi:=cf (aB 1)) (T:=gB 0) (t:=dM) (f:=aN nY (aG (ah bf (aB 1) (eC (.int 0))) (aG (aN yV (aG (aB 2) (aG (aB 0) aK))) aK))) (ρ:=vS [s0 (eK q),s0 (bB M),s0 (.list ((cO q.2).map bR))]) (xs:=M) (q:=bC) (fun _=>ae) (fun m=>bC (pX q m)) (lO rfl) (by omega) (fun m mm=>by
   refine⟨[aa (bC m),aa (eK q),aa (.list ((cO q.2).map bR))],rfl,rfl,fun _=>?_⟩
   exact bW (ds:=[tK q.1,ff ((cO q.2).zip m)]) (cM (bU (a:=eK q) (b:=.int 0) rfl rfl rfl) (cM (bW (ds:=[.list ((cO q.2).map bR),bC m]) rfl (Kt (KI _) (hM m mm).symm hz)) rfl)) (Vi hh fun z mz=>by
    obtain⟨j,v,_,_,h⟩:=Vr (hM m mm) (hn z mz);exact⟨v,h⟩))
  rw[Dv.mpr fun _ _=>rfl] at e
  have e':M.map (fun m=>bC (pX q m))=(M.map (pX q)).map bC:=by rw[gH];rfl
  rw[e'] at e;exact jO (d:=bB (M.map (pX q))) e ⟨_,rfl,rfl⟩
 obtain⟨d,e,rfl⟩:=this;exact e
theorem HA {np:Nat}{body:SF}(hl:ds.length=np)(h:Goes body (ds.map (fun d=>aa (0,d))++xW (n-np) ab) fun o=>o=.rt d):bz np n body ds=aa d:=by
 obtain⟨o,e,rfl⟩:=h;exact RK hl e
theorem Wo {ρ:bJ}(h:f (vS ρ)=aa d)(k:P (.nx ρ)):Goes (rP .s f) ρ P:=⟨_,by
 have h':eV 0 .s f ρ=aa d:=h;unfold rP;rw[h',cX],k⟩
structure QOk (B:aE->List (List Int))(n:Nat)(q:gA):Prop where
 ok:∀ l∈q.2,rR l
 few:q.2.length≤16
 way:fM B q.2≤4096
 nms:(cO q.2).length≤1000
 hd:q.1.length=n
 inn:∀ z,(.inr z:aO)∈q.1->z∈cO q.2
def nN (B:aE->List (List Int))(q:gA):List (List Int):=(ix (oP B q.2)).map (pX q)
def fC (B:aE->List (List Int))(qs:List gA):List (List Int):=qs.flatMap (nN B)
section
variable {qs:List gA}
theorem TL {q:gA}(h:QOk B n q):(oP B q.2).length≤4096:=by
 have:=(LM (B:=B) q.2 h.few (fun l m=>(h.ok l m).1) (by have:=h.way;omega)).2.1
 have h2:=h.way;unfold oP;rw[eS];omega
theorem XS {q:gA}(h:QOk B n q):(nN B q).length≤4096:=by
 unfold nN;rw[eS,zI];exact TL h
theorem YD {q:gA}(h:QOk B n q)(m:r∈nN B q):r.length=n:=by
 obtain⟨x,_,rfl⟩:=cJ.mp m;unfold pX;rw[eS,h.hd]
theorem YH:∀ {qs:List gA},(∀ q∈qs,QOk B n q)->(fC B qs).length≤4096*qs.length
 |[],_=>cE _
 |q::qs,h=>by
  have h1:=XS (h q bS);have h2:=YH (qs:=qs) fun x m=>h x (cG _ m)
  unfold fC at h2 ⊢;rw[yC,mF,hW];omega
theorem Vc(h:∀ r∈R,r.length=0):(fP R).length<2:=by
 have:=Xa (zs:=R) (ys:=[[]]) fun r m=>by
  rw[yD (h r m)];exact bS
 simp at this;omega
theorem Je (b:Bk kds B wd)(hB:∀ t,(B t).Nodup){q:gA}(h:QOk B n q):uA [.dict kds,.tuple (q.2.map bH)]=aa (bB (ix (oP B q.2))):=Qk b hB h.ok h.few (by have:=h.way;omega) h.nms
theorem Qe (b:Bk kds B wd)(hB:∀ t,(B t).Nodup)(hq:∀ q∈qs,QOk B n q)(hl:qs.length≤5)(hn:n≤1000)(hS:(fC B qs).length≤4096):rY [.dict kds,.list (qs.map eK)]=aa (bB (ix (fP (fC B qs)))):=by
 refine HA rfl ?_
 let BK:L2.Slot:=s0 (.dict kds)
 let Q:L2.Slot:=s0 (.list (qs.map eK))
 refine fU (fun ρ'=>∃ x2:L2.Slot,ρ'=[BK,Q,x2,ab]) ?_ ?_
 ·refine pQ (ds:=qs.map eK) (fun k ρ'=>∃ x2:L2.Slot,ρ'=[BK,Q,x2,ab]) (jz (lO rfl)) ⟨ab,rfl⟩ ?_ ?_
  ·rintro k d _ hx ⟨x2,rfl⟩;rw[fA] at hx;obtain⟨q,hq',rfl⟩:=kA.mp hx;have H:=hq q (gZ hq');refine⟨[BK,Q,s0 (eK q),ab],rfl,?_⟩;exact Wo (bW (ds:=[.dict kds,.tuple (q.2.map bH)]) (cM rfl (cM (bU (a:=eK q) (b:=.int 1) rfl rfl rfl) rfl)) (XE b q.2 (by have:=H.few;omega) (by have:=H.way;omega))) ⟨_,.inl rfl,s0 (eK q),rfl⟩
  ·rintro _ ⟨x2,rfl⟩;exact⟨_,rfl,x2,rfl⟩
 rintro _ ⟨x2,rfl⟩;refine iG (n:=1) (d:=.list []) rfl (by simp) ?_
 refine fU (fun ρ'=>∃ x2:L2.Slot,ρ'=[BK,Q,x2,aa (1,bB (fC B qs))]) ?_ ?_
 ·refine pR (xs:=qs) (q:=eK) (b0:=([]:List (List Int))) (fun ai q=>ai++nN B q) (fun k ai ρ'=>∃ x2:L2.Slot,ai.length≤4096*k/\ρ'=[BK,Q,x2,aa (1,bB ai)]) (jz (lO rfl)) ⟨x2,by simp,rfl⟩ ?_ ?_
  ·rintro k q ai _ hx ⟨x2,ha,rfl⟩;have H:=hq q (gZ hx);have hk:k<qs.length:=(dF.mp hx).1;have h7:=XS H;refine⟨[BK,Q,s0 (eK q),aa (1,bB ai)],rfl,?_⟩;refine Kx (ds:=ai.map bC) (ts:=(nN B q).map bC) (bW (ds:=[eK q,bB (ix (oP B q.2))]) (cM rfl (cM (bW (ds:=[.dict kds,.tuple (q.2.map bH)]) (cM rfl (cM (bU (a:=eK q) (b:=.int 1) rfl rfl rfl) rfl)) (Je b hB H)) rfl)) (Sy H.ok H.few H.nms (by rw[H.hd];exact hn) H.inn (fun m mm=>Wn (Ahp.mp mm)) (by rw[zI];have:=TL H;omega))) rfl (by simp;omega) ⟨_,.inl rfl,s0 (eK q),?_,?_⟩
   ·rw[mF];omega
   ·show [BK,Q,s0 (eK q),aa (1,mD (ai.map bC++(nN B q).map bC))]=_;rw[← jG]
    rfl
  ·rintro _ ⟨x2,_,rfl⟩;refine⟨_,rfl,x2,?_⟩;rw[FY]
   rfl
 rintro _ ⟨x2,rfl⟩;refine nQ ?_;have hw:∀ r∈fC B qs,r.length=n:=fun r m=>by
  obtain⟨q,mq,mr⟩:=sR.mp m;exact YD (hq q mq) mr
 have bg:=YH hq;have hon:(fP (fC B qs)).length≤4096:=by
  have:=FT (fC B qs) [];have e:(fP (fC B qs)).length=((fC B qs).foldl gQ []).length:=rfl;simp at this;omega
 refine jO (ρ:=[BK,Q,x2,s0 (bB (fC B qs))]) (bW (ds:=[bB (fC B qs)]) rfl (Oz (n:=n) ?_ hw hon)) rfl;by_cases h0:1≤n
 ·exact .inl h0
 ·exact .inr (Vc fun r m=>by rw[hw r m];omega)
end
def kv (v:aE->Int):aO->Int
 |.inl i=>i
 |.inr z=>v z
def va (kn:Kn)(z:aE):Int:=(cY kn z).getD 0
theorem RO (kn:Kn):pY kn=kv (va kn):=by
 funext k;cases k<;>rfl
def GD (kn:Kn)(v:aE->Int):Prop:=∀ z u,cY kn z=aa u->u=v z
theorem tT {l:List aO}{p:aO×Int}(m:p∈l.zip (l.map (kv v))):p.2=kv v p.1:=by
 obtain⟨j,hj,rfl⟩:=OZ m;rw[OY,Ds]
theorem Vk{kn:Kn}(h:GD kn v):∃ cj,jY ks (ks.map (kv v)) kn=aa cj/\GD cj v:=by
 obtain⟨cj,e⟩:=FG (ps:=ks.zip (ks.map (kv v))) (kn:=kn) (fun p m i q=>by rw[tT m,q];rfl) (fun p m z u q e=>by rw[tT m,q,h z u e];rfl) (fun p m p' m' z q q'=>by rw[tT m,tT m',q,q'])
 refine⟨cj,?_,fun z u eu=>?_⟩
 ·unfold jY;rw[if_pos (by rw[eS])]
  exact e
 ·obtain⟨_,b,c⟩:=FU e;rcases c z u eu with c|⟨p,mp,q⟩
  ·exact h z u c
  ·have e1:=(b p mp).2 z q;rw[eu] at e1;rw[gY e1,tT mp,q]
   rfl
theorem WE:∀ (ls:List Ln) (bx:List Kn),(∃ kn∈bx,GD kn v)->(∀ l∈ls,l.2.map (kv v)∈B l.1)->∃ kn∈ls.foldl (fun bx l=>oM bx l.2 (B l.1)) bx,GD kn v
 |[],bx,h,_=>h
 |q::rest,bx,⟨k0,m0,h0⟩,h=>by
  rw[nC];refine WE rest _ ?_ fun p m=>h p (cG _ m)
  obtain⟨k1,e1,h1⟩:=Vk (ks:=q.2) h0;exact⟨k1,sR.mpr ⟨k0,m0,sS.mpr ⟨_,h q bS,e1⟩⟩,h1⟩
def Puts (B:aE->List (List Int))(ls:List Ln)(v:aE->Int):Prop:=∀ l∈ls,l.2.map (kv v)∈B l.1
theorem DV{w:aE->Int}(h:∀ z,(.inr z:aO)∈ks->v z=w z):ks.map (kv v)=ks.map (kv w):=xX fun k m=>by
 cases k with
 |inl i=>rfl
 |inr z=>exact h z m
theorem Ce {q:gA}{kn:Kn}(ua:∀ z,(.inr z:aO)∈q.1->z∈cO q.2):pX q (rowOf (cO q.2) kn)=q.1.map (kv (va kn)):=by
 unfold pX;rw[RO];refine DV fun z mz=>?_
 obtain⟨j,hj⟩:=List.mem_iff_getElem?.mp (ua z mz);have:=zY (KI q.2) (m:=rowOf (cO q.2) kn) (by simp[rowOf]) hj
 show(cY ((cO q.2).zip (rowOf (cO q.2) kn)) z).getD 0=_;rw[this];unfold rowOf;rw[fA,hj]
 rfl
theorem VZ (hB:∀ t,(B t).Nodup){q:gA}(ua:∀ z,(.inr z:aO)∈q.1->z∈cO q.2):r∈nN B q ↔ ∃ v,Puts B q.2 v/\r=q.1.map (kv v):=by
 unfold nN;rw[cJ];constructor
 ·rintro⟨m,mm,rfl⟩;obtain⟨kn,rfl,hs⟩:=Qo hB (Ahp.mp mm);refine⟨va kn,fun l ml=>?_,Ce ua⟩
  rw[← RO];exact Lr hs ml
 ·rintro⟨v,hv,rfl⟩;obtain⟨kn,mk,ha⟩:=WE (B:=B) (v:=v) q.2 [[]] ⟨[],dP.mpr rfl,fun z u e=>by cases e⟩ hv
  refine⟨rowOf (cO q.2) kn,Ahp.mpr (cJ.mpr ⟨kn,mk,rfl⟩),?_⟩;rw[Ce ua];refine DV fun z mz=>?_
  obtain⟨u,hu⟩:=((KZ hB q.2).1 kn mk).look (Afu.mp (ua z mz));show(cY kn z).getD 0=_;rw[hu];exact ha z u hu
theorem Pj (hB:∀ t,(B t).Nodup){qs:List gA}(ua:∀ q∈qs,∀ z,(.inr z:aO)∈q.1->z∈cO q.2):r∈fC B qs ↔ ∃ q∈qs,∃ v,Puts B q.2 v/\r=q.1.map (kv v):=by
 unfold fC;rw[sR];exact⟨fun⟨q,m,h⟩=>⟨q,m,(VZ hB (ua q m)).mp h⟩,fun⟨q,m,h⟩=>⟨q,m,(VZ hB (ua q m)).mpr h⟩⟩
theorem Vh {A A':List (List Int)}(hw:∀ r∈A,r.length=n)(hA:A.Nodup)(Y5:A'.Nodup)(h:∀ r,r∈A↔r∈A'):ix A=ix A':=
 f7 (fun a b _ _ h1 h2=>absurd (List.lt_trans h1 h2) (List.lt_irrefl _)) (ZY hw hA) (ZY (fun r m=>hw r ((h r).mpr m)) Y5) ((zR A).trans (((Dm hA Y5).mpr h).trans (zR A').symm))
def wc (ps:List Int)(k:Nat):List Int:=[ps.getD (k%6) 0,ps.getD (k/6%6) 0,ps.getD (k/36) 0]
def vN (zs:List aE)(ps:List Int)(k:Nat):aE->Int:=va (zs.zip (wc ps k))
theorem Nl(hz:zs.length=3)(sn:zs.Nodup)(hp:ps.length=6){ks:List aE}(yg:∀ z∈ks,z∈zs/\v z∈ps):∃ k,k<216/\∀ z∈ks,vN zs ps k z=v z:=by
 have pk:∀ z:aE,∃ i,i<6/\(z∈ks->ps.getD i 0=v z):=fun z=>by
  by_cases m:z∈ks
  ·obtain⟨i,hi,e⟩:=OZ (yg z m).2;exact⟨i,by omega,fun _=>by rw[Dt,eI hi,e];rfl⟩
  ·exact⟨0,by omega,fun h=>absurd h m⟩
 obtain⟨a,b,c,rfl⟩:∃ a b c,zs=[a,b,c]:=by
  match zs,hz with
  |[a,b,c],_=>exact⟨a,b,c,rfl⟩
 obtain⟨i,hi,ei⟩:=pk a;obtain⟨j,hj,ej⟩:=pk b;obtain⟨l,hl,el⟩:=pk c;have e1:(i+6*j+36*l)%6=i:=by omega
 have e2:(i+6*j+36*l)/6%6=j:=by omega
 have e3:(i+6*j+36*l)/36=l:=by omega
 refine⟨i+6*j+36*l,by omega,fun z m=>?_⟩
 have ex:wc ps (i+6*j+36*l)=[ps.getD i 0,ps.getD j 0,ps.getD l 0]:=by
  unfold wc;rw[e1,e2,e3]
 show(cY ([a,b,c].zip (wc ps (i+6*j+36*l))) z).getD 0=v z;rw[ex];have lz:∀ (n:Nat),[a,b,c][n]?=aa z->cY ([a,b,c].zip [ps.getD i 0,ps.getD j 0,ps.getD l 0]) z=[ps.getD i 0,ps.getD j 0,ps.getD l 0][n]?:=fun n h=>zY sn rfl h
 have mz:=(yg z m).1;simp only[dU,CH,or_false] at mz;rcases mz with rfl|rfl|rfl
 ·rw[lz 0 rfl];exact ei m
 ·rw[lz 1 rfl];exact ej m
 ·rw[lz 2 rfl];exact el m
theorem XH(hz:zs.length=3)(sn:zs.Nodup)(hp:ps.length=6)(hv:∀ t,∀ r∈B t,∀ v∈r,v∈ps){q:gA}(qu:∀ l∈q.2,∀ z,(.inr z:aO)∈l.2->z∈zs)(ua:∀ z,(.inr z:aO)∈q.1->z∈cO q.2):(∃ v,Puts B q.2 v/\r=q.1.map (kv v)) ↔ ∃ k,k<216/\Puts B q.2 (vN zs ps k)/\r=q.1.map (kv (vN zs ps k)):=by
 constructor
 ·rintro⟨v,hP,rfl⟩;obtain⟨k,hk,e⟩:=Nl (v:=v) (ks:=cO q.2) hz sn hp fun z mz=>by
   obtain⟨l,ml,hl⟩:=Afu.mp mz;exact⟨qu l ml z hl,hv l.1 _ (hP l ml) (v z) (cJ.mpr ⟨.inr z,hl,rfl⟩)⟩
  refine⟨k,hk,fun l ml=>?_,DV fun z mz=>(e z (ua z mz)).symm⟩
  rw[DV fun z mz=>e z (Afu.mpr ⟨l,ml,mz⟩)]
  exact hP l ml
 ·rintro⟨k,_,h⟩;exact⟨_,h⟩
theorem WC {α β:Type}(f:α->β):∀ (xs:List α) (ai:List β),xs.foldl (fun a x=>a++[f x]) ai=ai++xs.map f
 |[],ai=>by simp
 |x::xs,ai=>by rw[nC,WC f xs,dQ,mG];rfl
theorem Nq{xs:List Int}(sn:zs.Nodup)(hl:zs.length=xs.length)(hk:∀ z,(.inr z:aO)∈ks->z∈zs)(h6:ks.length≤1000):uD [tK ks,.list (zs.map bR),lI xs]=aa (bC (ks.map (kv (va (zs.zip xs))))):=by
 refine HA rfl ?_
 let K0:L2.Slot:=s0 (tK ks)
 let Z1:L2.Slot:=s0 (.list (zs.map bR))
 let V2:L2.Slot:=s0 (lI xs)
 refine iG (n:=1) (d:=.list []) rfl (by simp) ?_
 refine fU (fun ρ'=>∃ x:L2.Slot,ρ'=[K0,Z1,V2,aa (1,lI (ks.map (kv (va (zs.zip xs))))),x]) ?_ ?_
 ·refine pR (xs:=ks) (q:=kD) (b0:=([]:List Int)) (fun ai k=>ai++[kv (va (zs.zip xs)) k]) (fun j ai ρ'=>∃ x:L2.Slot,ai.length≤j/\ρ'=[K0,Z1,V2,aa (1,lI ai),x]) (jz (tY rfl)) ⟨ab,by simp,rfl⟩ ?_ ?_
  ·rintro j k ai _ hx ⟨x,ha,rfl⟩;have hj:j<ks.length:=(dF.mp hx).1;have mk:=gZ hx;refine⟨[K0,Z1,V2,aa (1,lI ai),s0 (kD k)],rfl,?_⟩;have t:bV .s (au (gc (eJ "str") (aB 4))) [K0,Z1,V2,aa (1,lI ai),s0 (kD k)]=aa (isS k):=iF (GS (a:=kD k) rfl ((EI k).trans (by cases k<;>rfl)))
   cases k with
   |inl i=>
    refine mL t (pS (d:=.int i) (ds:=ai.map aX) rfl rfl (by simp;omega) ⟨_,.inl rfl,s0 (.int i),by simp;omega,?_⟩)
    show [K0,Z1,V2,aa (1,mD (ai.map aX++[.int i])),s0 (.int i)]=_;rw[ET]
    rfl
   |inr z=>
    obtain⟨j',e1,e2⟩:=VE (hk z mk);have ce:j'<zs.length:=(dF.mp e2).1;have e3:xs[j']?=aa (xs[j']'(by omega)):=eI (by omega)
    have e4:=(zY sn hl e2).trans e3;refine lW t (pS (d:=.int (xs[j']'(by omega))) (ds:=ai.map aX) (bU (a:=lI xs) (b:=.int j') rfl (bU (a:=.list (zs.map bR)) (b:=.str z) rfl rfl e1) (rU (by rw[fA,e3];rfl))) rfl (by simp;omega) ⟨_,.inl rfl,s0 (.str z),by simp;omega,?_⟩)
    show [K0,Z1,V2,aa (1,mD (ai.map aX++[.int _])),s0 (.str z)]=_;rw[ET];show _=[K0,Z1,V2,aa (1,lI (ai++[(cY (zs.zip xs) z).getD 0])),s0 (.str z)];rw[e4]
    rfl
  ·rintro _ ⟨x,_,rfl⟩;refine⟨_,rfl,x,?_⟩;rw[WC,CJ]
 rintro _ ⟨x,rfl⟩;exact nQ (jO (d:=bC (ks.map (kv (va (zs.zip xs))))) (bW (ds:=[lI (ks.map (kv (va (zs.zip xs))))]) rfl rfl) rfl)
theorem Ae(h:f ρ=aa (.int a))(h2:g ρ=aa (.int b))(hb:0<b):ah bM f g ρ=aa (.int (a%b)):=by
 refine bU h h2 ?_;simp[bM,dh,hb]
theorem Nm(h:f ρ=aa (.int a))(b:Nat)(hb:0<b/\b<1000000):ah dY f (eC (.int b)) ρ=aa (.int (a/b)):=by
 refine bU (b:=.int b) h rfl ?_;have h1:0<b/\(b:Int)<1073741824:=by omega
 simp[dY,dh];omega
theorem QV{a:Nat}(h:f ρ=aa (.int (a:Int)))(b:Nat)(hb:0<b):ah bM f (eC (.int b)) ρ=aa (.int ((a%b:Nat):Int)):=(Ae (b:=b) h rfl (by omega)).trans rfl
theorem RH{a:Nat}(h:f ρ=aa (.int (a:Int)))(b:Nat)(hb:0<b/\b<1000000):ah dY f (eC (.int b)) ρ=aa (.int ((a/b:Nat):Int)):=(Nm h b hb).trans rfl
theorem vL {c k:Int}(h0:0≤k)(h1:k≤1000000){fc fk:EF}(ec:fc ρ=aa (.int c))(ek:fk ρ=aa (.int k))(hg:g ρ=aa (.int b))(hb:0<b):ah bM (aN dH (aG fc (aG fk aK))) g ρ=aa (.int (bT c k%b)):=
 Ae (bW (ds:=[.int c,.int k]) (cM ec (cM ek rfl)) (jA c k h0 h1)) hg hb
theorem JB{u:Nat}(h:u<ps.length):bf (.list (ps.map aX)) (.int (u:Int))=aa (.int (ps.getD u 0)):=by
 rw[Dt,eI h];exact rW (q:=aX) (eI h)
theorem FI {α:Type}[DecidableEq α](ai:List α)(x:α):(gQ ai x).length≤ai.length+1:=by
 unfold gQ;split
 ·omega
 ·simp
theorem Vd {α:Type}[DecidableEq α]{ai:List α}{x r:α}:r∈gQ ai x↔r∈ai\/r=x:=by
 unfold gQ;split
 ·rename_i h;exact⟨.inl,fun q=>q.elim id fun e=>e ▸ h⟩
 ·rw[jF,dP]
theorem Uj {α:Type}[DecidableEq α]{ai:List α}{x:α}(h:ai.Nodup):(gQ ai x).Nodup:=MV [x] ai h
theorem UZ {α:Type}(p:α->Bool):∀ (xs:List α) (b:Bool),xs.foldl (fun b x=>b&&p x) b=(b&&xs.all p)
 |[],b=>by simp
 |x::xs,b=>by rw[nC,UZ p xs,List.all_cons,Bool.and_assoc]
theorem RP {P:Nat->Prop}:(∃ k,k<i+1/\P k)↔(∃ k,k<i/\P k)\/P i:=by
 constructor
 ·rintro⟨k,hk,h⟩;by_cases e:k=i
  ·exact .inr (e ▸ h)
  ·exact .inl ⟨k,by omega,h⟩
 ·rintro(⟨k,hk,h⟩|h)
  ·exact⟨k,by omega,h⟩
  ·exact⟨i,by omega,h⟩
abbrev lq (ai:List (List Int)):aA:=.dict ((.none,.none)::ai.map o7)
def G7 (B:aE->List (List Int))(zs:List aE)(ps:List Int)(q:gA)(k:Nat)(r:List Int):Prop:=Puts B q.2 (vN zs ps k)/\r=q.1.map (kv (vN zs ps k))
section
variable {qs:List gA}
theorem Awk:(ls.all fun l=>decide (l.2.map (kv v)∈B l.1))=ae↔Puts B ls v:=by
 rw[hX];exact⟨fun h l m=>of_decide_eq_true (h l m),fun h l m=>decide_eq_true (h l m)⟩
theorem Mk (b:Bk kds B wd)(hz:zs.length=3)(sn:zs.Nodup)(hp:ps.length=6)(qu:∀ q∈qs,∀ l∈q.2,l.2.length≤6/\∀ z,(.inr z:aO)∈l.2->z∈zs)(hhd:∀ q∈qs,q.1.length≤10/\∀ z,(.inr z:aO)∈q.1->z∈zs)(hl:qs.length≤5) :
  ∃ ai:List (List Int),wW [.dict kds,.list (qs.map eK),.list (zs.map bR),.list (ps.map aX)]=aa (lq ai)/\ai.Nodup/\∀ r,r∈ai ↔ ∃ q∈qs,∃ k,k<216/\G7 B zs ps q k r:=by
 suffices h:∃ d,wW [.dict kds,.list (qs.map eK),.list (zs.map bR),.list (ps.map aX)]=aa d/\∃ ai:List (List Int),d=lq ai/\ai.Nodup/\∀ r,r∈ai ↔ ∃ q∈qs,∃ k,k<216/\G7 B zs ps q k r by
  obtain⟨_,e,ai,rfl,h⟩:=h;exact⟨ai,e,h⟩
 refine jV rfl ?_
 let BK:L2.Slot:=s0 (.dict kds)
 let Q:L2.Slot:=s0 (.list (qs.map eK))
 let Z2:L2.Slot:=s0 (.list (zs.map bR))
 let P3:L2.Slot:=s0 (.list (ps.map aX))
 let I:Nat->bJ->Prop:=fun j ρ'=>∃ (ai:List (List Int)) (x5 x6 x7 x8 x9 du cm:L2.Slot),(ai.Nodup/\ai.length≤216*j/\∀ r,r∈ai ↔ ∃ q∈qs.take j,∃ k,k<216/\G7 B zs ps q k r)/\ρ'=[BK,Q,Z2,P3,aa (9,lq ai),x5,x6,x7,x8,x9,du,cm]
 refine iG (n:=9) (d:=lq []) rfl (by simp) ?_
 refine fU (I qs.length) ?_ ?_
 ·refine pQ (ds:=qs.map eK) I (jz (lO rfl)) ⟨[],ab,ab,ab,ab,ab,ab,ab,⟨HY,by simp,fun r=>by simp⟩,rfl⟩ ?_ (fun ρ' h=>⟨_,rfl,by simpa using h⟩)
  rintro j d _ hd ⟨wS,x5,x6,x7,x8,x9,du,cm,⟨h1,h2,h3⟩,rfl⟩;rw[fA] at hd;obtain⟨q,hx,rfl⟩:=kA.mp hd;have mq:=gZ hx;have hj:j<qs.length:=(dF.mp hx).1;have ph:qs.take (j+1)=qs.take j++[q]:=by rw[sP,hx];rfl
  let H5:L2.Slot:=s0 (tK q.1)
  let L6:L2.Slot:=s0 (.tuple (q.2.map bH))
  refine⟨[BK,Q,Z2,P3,aa (9,lq wS),H5,L6,x7,x8,x9,du,cm],rfl,?_⟩;refine tZ (n:=216) (fun i ρ'=>∃ (ai:List (List Int)) (x7 x8 x9 du cm:L2.Slot),(ai.Nodup/\ai.length≤216*j+i/\∀ r,r∈ai↔r∈wS\/∃ k,k<i/\G7 B zs ps q k r)/\ρ'=[BK,Q,Z2,P3,aa (9,lq ai),H5,L6,x7,x8,x9,du,cm]) (jz (nR rfl (by omega))) ⟨wS,x7,x8,x9,du,cm,⟨h1,by omega,fun r=>by simp⟩,rfl⟩ ?_ ?_
  ·rintro i _ hi ⟨ai,x7,x8,x9,du,cm,⟨a1,a2,a3⟩,rfl⟩;refine⟨[BK,Q,Z2,P3,aa (9,lq ai),H5,L6,s0 (.int i),x8,x9,du,cm],rfl,?_⟩
   let V8:L2.Slot:=s0 (lI (wc ps i))
   refine eF (ρ':=[BK,Q,Z2,P3,aa (9,lq ai),H5,L6,s0 (.int i),V8,x9,du,cm]) (lL (m:=.s) (wC (ds:=[.int (ps.getD (i%6) 0),.int (ps.getD (i/6%6) 0),.int (ps.getD (i/36) 0)]) (cM (bU (a:=.list (ps.map aX)) (b:=.int ((i%6:Nat):Int)) rfl (QV (a:=i) rfl 6 (by omega)) (JB (by omega))) (cM (bU (a:=.list (ps.map aX)) (b:=.int ((i/6%6:Nat):Int)) rfl (QV (a:=i/6) (RH (a:=i) rfl 6 (by omega)) 6 (by omega)) (JB (by omega))) (cM (bU (a:=.list (ps.map aX)) (b:=.int ((i/36:Nat):Int)) rfl (RH (a:=i) rfl 36 (by omega)) (JB (by omega))) rfl)))) (by simp)) ?_
   refine eF (ρ':=[BK,Q,Z2,P3,aa (9,lq ai),H5,L6,s0 (.int i),V8,s0 (.bool ae),du,cm]) rfl ?_;have lp:∀ {ks:List aO},ks.length≤1000->(∀ z,(.inr z:aO)∈ks->z∈zs)->uD [tK ks,.list (zs.map bR),lI (wc ps i)]=aa (bC (ks.map (kv (vN zs ps i)))):=fun h6 hk=>Nq sn (by rw[hz];rfl) hk h6
   refine fU (fun ρ'=>∃ du cm:L2.Slot,ρ'=[BK,Q,Z2,P3,aa (9,lq ai),H5,L6,s0 (.int i),V8,s0 (.bool (q.2.all fun l=>decide (l.2.map (kv (vN zs ps i))∈B l.1))),du,cm]) ?_ ?_
   ·refine pR (xs:=q.2) (q:=bH) (b0:=ae) (fun bb l=>bb&&decide (l.2.map (kv (vN zs ps i))∈B l.1)) (fun _ bb ρ'=>∃ du cm:L2.Slot,ρ'=[BK,Q,Z2,P3,aa (9,lq ai),H5,L6,s0 (.int i),V8,s0 (.bool bb),du,cm]) (jz (tY rfl)) ⟨du,cm,rfl⟩ ?_ ?_
    ·rintro u l bb _ X1 ⟨du,cm,rfl⟩;obtain⟨g1,g2⟩:=qu q mq l (gZ X1);refine⟨[BK,Q,Z2,P3,aa (9,lq ai),H5,L6,s0 (.int i),V8,s0 (.bool bb),s0 (bH l),cm],rfl,?_⟩;refine iG (d:=bC (l.2.map (kv (vN zs ps i)))) (bW (ds:=[tK l.2,.list (zs.map bR),lI (wc ps i)]) (cM (bU (a:=bH l) (b:=.int 1) rfl rfl rfl) rfl) (lp (by omega) g2)) (by simp) ?_
     exact rV (d:=.bool (bb&&decide (l.2.map (kv (vN zs ps i))∈B l.1))) (Mw (x:=bb) (y:=decide (l.2.map (kv (vN zs ps i))∈B l.1)) rfl fun _=>bU (a:=bC (l.2.map (kv (vN zs ps i)))) (b:=bB (B l.1)) rfl (b.get (t:=l.1) rfl (bU (a:=bH l) (b:=.int 0) rfl rfl rfl)) ((zP af _ _).trans (by simp))) (by simp) ⟨_,.inl rfl,s0 (bH l),s0 (bC (l.2.map (kv (vN zs ps i)))),rfl⟩
    ·rintro _ ⟨du,cm,rfl⟩;exact⟨_,rfl,du,cm,by rw[UZ,Eh]⟩
   rintro _ ⟨du,cm,rfl⟩;by_cases hP:Puts B q.2 (vN zs ps i)
   ·rw[Awk.mpr hP];obtain⟨g1,g2⟩:=hhd q mq;refine lW (iF rfl) (Ni (d:=.bool ae) (k:=(q.1.map (kv (vN zs ps i))).map aX) (kds:=ai.map o7) rfl rfl (bW (ds:=[tK q.1,.list (zs.map bR),lI (wc ps i)]) rfl (lp (by omega) g2)) (zV _) (by have:=FV (q.1.map (kv (vN zs ps i)));omega) rfl (by simp;omega) ⟨_,.inl rfl,gQ ai (q.1.map (kv (vN zs ps i))),s0 (.int i),V8,s0 (.bool ae),du,cm,⟨Uj a1,by have:=FI ai (q.1.map (kv (vN zs ps i)));omega,fun r=>?_⟩,?_⟩)
    ·rw[Vd,a3,RP,← or_assoc];exact or_congr Iff.rfl ⟨fun e=>⟨hP,e⟩,fun h=>h.2⟩
    ·rw[Wl]
     rfl
   ·have ef:(q.2.all fun l=>decide (l.2.map (kv (vN zs ps i))∈B l.1))=af:=Bool.eq_false_iff.mpr fun h=>hP (Awk.mp h)
    rw[ef];refine mL (iF rfl) (mM ⟨_,.inl rfl,ai,s0 (.int i),V8,s0 (.bool af),du,cm,⟨a1,by omega,fun r=>?_⟩,rfl⟩)
    rw[a3,RP,← or_assoc];exact⟨.inl,fun h=>h.elim id fun h=>absurd h.1 hP⟩
  ·rintro _ ⟨ai,x7,x8,x9,du,cm,⟨a1,a2,a3⟩,rfl⟩;refine⟨_,.inl rfl,ai,H5,L6,x7,x8,x9,du,cm,⟨a1,by omega,fun r=>?_⟩,rfl⟩
   rw[a3,h3,ph];simp only[jF,dP,or_and_right,exists_or,exists_eq_left]
 rintro _ ⟨ai,x5,x6,x7,x8,x9,du,cm,⟨a1,_,a3⟩,rfl⟩;refine nQ (jO (d:=lq ai) rfl ⟨_,rfl,ai,rfl,a1,fun r=>?_⟩)
 rw[a3,HX]
def oR (L:List Tb):List Tb:=L.reverse.map fun p=>(p.1,p.2.reverse)
theorem Zj {L:List Tb}(gw:(L.map (·.1)).Nodup)(ly:∀ p∈L,dX (.str p.1)=ae)(hl:L.length≤100)(hr:∀ p∈L,p.2.length≤63):xD [.dict (bu L)]=aa (.dict (bu (oR L))):=by
 refine HA rfl ?_
 let B0:L2.Slot:=s0 (.dict (bu L))
 have hnr:(L.reverse.map (·.1)).Nodup:=by
  rw[OU];exact(Dj _).nodup_iff.mpr gw
 refine iG (n:=1) (d:=.dict []) rfl (by simp) ?_
 refine fU (fun ρ'=>∃ x2 x3 x4:L2.Slot,ρ'=[B0,aa (1,.dict (bu (oR L))),x2,x3,x4]) ?_ ?_
 ·refine pQ (ds:=((bu L).map (·.1)).reverse) (fun i ρ'=>∃ x2 x3 x4:L2.Slot,ρ'=[B0,aa (1,.dict (bu ((L.reverse.take i).map fun p=>(p.1,p.2.reverse)))),x2,x3,x4]) (jz ?_) ⟨ab,ab,ab,rfl⟩ ?_ ?_
  ·have e:aN wD (aG (aB 0) aK) (vS [B0,aa (1,.dict []),ab,ab,ab])=aa (.list ((bu L).map (·.1))):=bW (ds:=[.dict (bu L)]) rfl (by
    show(if (j8 (bu L)&&(bu L).all fun kd=>dX kd.1)=ae then aa (mD ((bu L).map (·.1))) else ab)=_
    rw[DY,Eh,if_pos (hX.mpr fun kd m=>by
     obtain⟨p,mp,rfl⟩:=cJ.mp m;exact ly p mp)])
   unfold T7;show((aG (aN wD (aG (aB 0) aK)) aK (vS [B0,aa (1,.dict []),ab,ab,ab])).bind _)=_;rw[cM (g:=aK) e rfl]
   rfl
  ·rintro i d _ hid ⟨x2,x3,x4,rfl⟩;rw[← OU,fA] at hid;unfold bu at hid;rw[← OU,fA,Option.map_map] at hid;obtain⟨p,hp,rfl⟩:=kA.mp hid;have mp:p∈L:=CK.mp (gZ hp);have hi:i<L.reverse.length:=(dF.mp hp).1;have om:i<L.length:=by simpa using hi
   have ph:L.reverse.take (i+1)=L.reverse.take i++[p]:=by rw[sP,hp];rfl
   let D1:L2.Slot:=aa (1,.dict (bu ((L.reverse.take i).map fun p=>(p.1,p.2.reverse))))
   refine⟨[B0,D1,s0 (.str p.1),x3,x4],rfl,?_⟩;refine eF (ρ':=[B0,D1,s0 (.str p.1),s0 (bB []),x4]) rfl ?_;have h63:=hr p mp;refine fU (fun ρ'=>∃ x4:L2.Slot,ρ'=[B0,D1,s0 (.str p.1),s0 (bB p.2.reverse),x4]) ?_ ?_
   ·refine pQ (ds:=p.2.map bC) (fun j ρ'=>∃ x4:L2.Slot,ρ'=[B0,D1,s0 (.str p.1),s0 (bB (p.2.take j).reverse),x4]) (jz (lO (bU (a:=.dict (bu L)) (b:=.str p.1) rfl rfl (EL gw mp)))) ⟨x4,rfl⟩ ?_ ?_
    ·rintro j d _ Y6 ⟨x4,rfl⟩;rw[fA] at Y6;obtain⟨r,wP,rfl⟩:=kA.mp Y6;refine⟨[B0,D1,s0 (.str p.1),s0 (bB (p.2.take j).reverse),s0 (bC r)],rfl,?_⟩;have A2:p.2.take (j+1)=p.2.take j++[r]:=by rw[sP,wP];rfl
     refine rV (d:=bB (p.2.take (j+1)).reverse) (bU (a:=.list [bC r]) (b:=bB (p.2.take j).reverse) (wC (ds:=[bC r]) rfl) rfl ((GO (by simp;omega)).trans ?_)) (by simp) ⟨_,.inl rfl,s0 (bC r),rfl⟩
     rw[A2,Dk]
     rfl
    ·rintro _ ⟨x4,rfl⟩;exact⟨_,rfl,x4,by rw[eS,HX]⟩
   rintro _ ⟨x4,rfl⟩;have ux:p.1∉((L.reverse.take i).map fun p=>(p.1,p.2.reverse)).map (·.1):=fun m=>by
    rw[gH] at m;obtain⟨q,mq,e⟩:=cJ.mp m;have n2:((L.reverse.take (i+1)).map (·.1)).Nodup:=hnr.sublist ((OR _ _).map _);rw[ph,jG] at n2;exact(CI.mp n2).2.2 q.1 (cJ.mpr ⟨q,mq,rfl⟩) p.1 (by simp) e
   refine EW (d:=bB p.2.reverse) (kd:=.str p.1) (key:=.inr p.1) (kds:=bu ((L.reverse.take i).map fun p=>(p.1,p.2.reverse))) rfl rfl rfl rfl (by simp[bu];omega) ⟨_,.inl rfl,s0 (.str p.1),s0 (bB p.2.reverse),x4,?_⟩
   rw[KG ux,ph,jG]
   rfl
  ·rintro _ ⟨x2,x3,x4,rfl⟩;refine⟨_,rfl,x2,x3,x4,?_⟩;rw[uY (by simp[bu])]
   rfl
 rintro _ ⟨x2,x3,x4,rfl⟩;exact JZ rfl rfl
end
theorem VR {ρ:bJ}{m:Md}{ts:List aA}(h':eV 0 m f ρ=aa (.tuple ts))(hg:getL i ρ=aa ds)(hl:ds.length+ts.length≤100000)(k:P (.nx (ρ.set i (aa (1,.list (ds++ts)))))):Goes (rO i m f) ρ P:=⟨_,by
 unfold rO;rw[h',cX,hg,cX];show(if ds.length+ts.length≤sizeLine then aa (Out.nx (ρ.set i (aa (1,.list (ds++ts))))) else ab)=_
 rw[if_pos (nX hl)],k⟩
abbrev tj (ks:List aO):aA:=.list (ks.map kD)
def yO (ts:List (aE×Nat))(zs:List aE)(ps:List Int)(n:Nat)(q:gA):Prop:=q.1.length=n/\q.2.length≤3/\(∀ l∈q.2,tp ts zs ps l)/\∀ z,(.inr z:aO)∈q.1->z∈cO q.2
theorem RD (ht:∀ t∈ts,nameS t.1/\1≤t.2/\t.2≤6)(ub:∀ z∈zs,nameS z)(h:tp ts zs ps l):rR l:=⟨(ht _ h.1).2.2,fun k mk=>by
 cases k with
 |inl i=>simp[kD,dX]
 |inr z=>exact(ub z (h.2 _ mk)).lay⟩
theorem Im (h0:0<ts.length)(ht:∀ t∈ts,nameS t.1/\1≤t.2/\t.2≤6)(P5:0<zs.length)(hp:ps.length=6){st:Nat}(hs:st≤500)(hn:n≤10) :
  ∃ q:gA,xE [.list (ns.map aX),.int st,.list (ts.map eY),.list (zs.map bR),.list (ps.map aX),.int n]=aa (eK q)/\yO ts zs ps n q:=by
 suffices h:∃ d,xE [.list (ns.map aX),.int st,.list (ts.map eY),.list (zs.map bR),.list (ps.map aX),.int n]=aa d/\∃ q:gA,d=eK q/\yO ts zs ps n q by
  obtain⟨_,e,q,rfl,h⟩:=h;exact⟨q,e,h⟩
 refine jV rfl ?_
 let sc:aA:=.list (ns.map aX)
 obtain⟨c,ec⟩:=nW (ns:=ns) (k:=(st:Int)) (by omega) (by omega)
 obtain⟨lc,elc⟩:=kL (fQ (bT c 11) (show(0:Int)<4 by decide)).1
 have hlc:lc≤3:=by have:=(fQ (bT c 11) (show(0:Int)<4 by decide)).2;omega
 obtain⟨_,el,ls,rfl,hll,qu⟩:=Vn (ns:=ns) (ts:=ts) (zs:=zs) (ps:=ps) (st:=st+1) (cnt:=lc) (by omega) (by omega) h0 ht P5 hp
 obtain⟨u,eu⟩:=kL (fQ (bT c 12) (show(0:Int)<4 by decide)).1
 have hu:u<ps.length:=by have:=(fQ (bT c 12) (show(0:Int)<4 by decide)).2;omega
 let S:L2.Slot:=s0 sc
 let A1:L2.Slot:=s0 (.int st)
 let T2:L2.Slot:=s0 (.list (ts.map eY))
 let Z3:L2.Slot:=s0 (.list (zs.map bR))
 let P4:L2.Slot:=s0 (.list (ps.map aX))
 let N5:L2.Slot:=s0 (.int n)
 let C6:L2.Slot:=s0 (.int c)
 let L7:L2.Slot:=s0 (.list (ls.map bH))
 refine eF (ρ':=[S,A1,T2,Z3,P4,N5,C6,ab,ab,ab,ab,ab]) (lL (m:=.s) (bW (ds:=[sc,.int st]) rfl ec) (by simp)) ?_
 refine eF (ρ':=[S,A1,T2,Z3,P4,N5,C6,L7,ab,ab,ab,ab]) (lL (m:=.s) (bW (ds:=[sc,.int ((st+1:Nat):Int),.list (ts.map eY),.list (zs.map bR),.list (ps.map aX),.int lc]) (cM rfl (cM (bU (a:=.int st) (b:=.int 1) rfl rfl rfl) (cM rfl (cM rfl (cM rfl (cM (g:=aK) ((vL (c:=c) (k:=11) (by decide) (by decide) rfl rfl (b:=4) rfl (by decide)).trans (by rw[elc])) rfl)))))) el) (by simp)) ?_
 refine iG (n:=1) (d:=tj [.inl ps[u]]) (wC (ds:=[.int ps[u]]) (cM (bU (a:=.list (ps.map aX)) (b:=.int u) rfl ((vL (c:=c) (k:=12) (by decide) (by decide) rfl rfl (b:=4) rfl (by decide)).trans (by rw[eu])) (rW (q:=aX) (eI hu))) rfl)) (by simp) ?_
 have h6:∀ l∈ls,l.2.length≤6:=fun l m=>(ht _ (qu l m).1).2.2
 refine fU (fun ρ'=>∃ x9:L2.Slot,ρ'=[S,A1,T2,Z3,P4,N5,C6,L7,aa (1,tj ([.inl ps[u]]++ls.flatMap (·.2))),x9,ab,ab]) ?_ ?_
 ·refine pR (xs:=ls) (q:=bH) (b0:=[(.inl ps[u]:aO)]) (fun ai l=>ai++l.2) (fun k ai ρ'=>∃ x9:L2.Slot,ai.length≤1+6*k/\ρ'=[S,A1,T2,Z3,P4,N5,C6,L7,aa (1,tj ai),x9,ab,ab]) (jz (lO rfl)) ⟨ab,by simp,rfl⟩ ?_ ?_
  ·rintro k l ai _ hx ⟨x9,ha,rfl⟩;have h4:=h6 l (gZ hx);have hk:k<ls.length:=(dF.mp hx).1;refine⟨[S,A1,T2,Z3,P4,N5,C6,L7,aa (1,tj ai),s0 (bH l),ab,ab],rfl,?_⟩;refine VR (m:=.s) (ds:=ai.map kD) (ts:=l.2.map kD) (bU (a:=bH l) (b:=.int 1) rfl rfl rfl) rfl (by simp;omega) ⟨_,.inl rfl,s0 (bH l),by simp;omega,?_⟩
   show [S,A1,T2,Z3,P4,N5,C6,L7,aa (1,mD (ai.map kD++l.2.map kD)),s0 (bH l),ab,ab]=_;rw[← jG]
  ·rintro _ ⟨x9,_,rfl⟩;refine⟨_,rfl,x9,?_⟩;rw[FY]
 rintro _ ⟨x9,rfl⟩;refine nQ ?_;generalize Y7:[(.inl ps[u]:aO)]++ls.flatMap (·.2)=FL;have hFp:0<FL.length:=by rw[← Y7];simp
 let F8:L2.Slot:=s0 (tj FL)
 show Goes _ [S,A1,T2,Z3,P4,N5,C6,L7,F8,x9,ab,ab] _;refine eF (ρ':=[S,A1,T2,Z3,P4,N5,C6,L7,F8,x9,aa (1,tj []),ab]) rfl ?_
 let J:Nat->bJ->Prop:=fun j ρ'=>∃ (hd:List aO) (cm:L2.Slot),hd.length=j/\(∀ k∈hd,k∈FL)/\ρ'=[S,A1,T2,Z3,P4,N5,C6,L7,F8,x9,aa (1,tj hd),cm]
 refine fU (J n) ?_ ?_
 ·refine tZ (n:=n) J (jz (nR rfl (by omega))) ⟨[],ab,rfl,by simp,rfl⟩ ?_ (fun ρ' h=>⟨_,rfl,h⟩)
  rintro j _ hj ⟨hd,cm,Q4,qt,rfl⟩;refine⟨[S,A1,T2,Z3,P4,N5,C6,L7,F8,x9,aa (1,tj hd),s0 (.int j)],rfl,?_⟩;obtain⟨i,d,hi,e⟩:=JI (ds:=FL.map kD) (bT c (13+(j:Int))) (by simpa using hFp)
  rw[fA] at hi;obtain⟨k,hk,rfl⟩:=kA.mp hi;refine pS (d:=kD k) (ds:=hd.map kD) (bU (a:=tj FL) (b:=.int (bT c (13+(j:Int))%FL.length)) rfl (vL (c:=c) (k:=13+(j:Int)) (by omega) (by omega) rfl (bU (a:=.int 13) (b:=.int j) rfl rfl rfl) (b:=FL.length) (bW (ds:=[tj FL]) rfl (by simp[cN])) (by omega)) (by simpa [bf] using e)) rfl (by simp;omega) ⟨_,.inl rfl,hd++[k],s0 (.int j),by simp[Q4],fun y my=>?_,?_⟩
  ·rcases jF.mp my with my|my
   ·exact qt y my
   ·rw[dP.mp my];exact gZ hk
  ·show [S,A1,T2,Z3,P4,N5,C6,L7,F8,x9,aa (1,mD (hd.map kD++[kD k])),s0 (.int j)]=_;rw[show hd.map kD++[kD k]=(hd++[k]).map kD by rw[jG];rfl]
 rintro _ ⟨hd,cm,Q4,qt,rfl⟩;refine nQ (jO (d:=eK (hd,ls)) (Js (ds:=[tK hd,.tuple (ls.map bH)]) (cM (bW (ds:=[tj hd]) rfl rfl) (cM (bW (ds:=[.list (ls.map bH)]) rfl rfl) rfl))) ⟨_,rfl,(hd,ls),rfl,Q4,by show ls.length≤3;omega,qu,fun z mz=>?_⟩)
 have m:=qt _ mz;rw[← Y7] at m;rcases jF.mp m with m|m
 ·simp at m
 ·obtain⟨l,ml,mz⟩:=sR.mp m;exact Afu.mpr ⟨l,ml,mz⟩
theorem evN{ρ:bJ}(h:f (vA ρ)=aa d)(ho:lH ρ=ae)(hn:n<9)(hd:jM n d=ae):eV n .a f ρ=aa d:=by
 show((f (vA ρ)).bind fun d=>if (dR n d||(lH ρ&&decide (n<9)&&jM n d))=ae then aa d else ab)=_
 rw[h,cX,if_pos (by rw[ho,decide_eq_true hn,hd];simp)]
theorem JP {ρ:bJ}{G:SF}(h:f (vA ρ)=aa d)(ho:lH ρ=ae)(hn:n<9)(hd:jM n d=ae)(hl:i<ρ.length)(k:Goes G (ρ.set i (aa (n,d))) P):Goes (aU (bE i n .a f) G) ρ P:=eF (lL (m:=.a) (evN h ho hn hd) hl) k
theorem Af(h:∀ d∈ds,o8 d=ae):pC ds=ae:=by
 induction ds with
 |nil=>simp[pC]
 |cons d r ih=>
  rw[pC,h d bS,ih fun x m=>h x (cG _ m)]
  rfl
theorem Jl (r:List Int):o8 (bC r)=ae:=by
 show pC (r.map aX)=ae;exact Af fun d m=>by
  obtain⟨i,_,rfl⟩:=cJ.mp m
  rfl
theorem SL (R:List (List Int)):o8 (bB R)=ae:=by
 show pC (R.map bC)=ae;exact Af fun d m=>by
  obtain⟨r,_,rfl⟩:=cJ.mp m;exact Jl r
def putL (L:List Tb)(t:aE)(R:List (List Int)):List Tb:=if t∈L.map (·.1) then L.map fun p=>if p.1=t then(t,R) else p else L++[(t,R)]
theorem Hn (L:List Tb)(t:aE)(R:List (List Int)):putD (bu L) (.inr t) (bB R)=bu (putL L t R):=by
 unfold putL;by_cases h:t∈L.map (·.1)
 ·rw[if_pos h];unfold putD;have ha:((bu L).any fun kd=>decide (dJ kd.1=aa (.inr t)))=ae:=by
   obtain⟨p,mp,e⟩:=cJ.mp h;refine CU.mpr ⟨_,cJ.mpr ⟨p,mp,rfl⟩,?_⟩;show decide (aa (gL p.1:aO)=aa (gL t))=ae;rw[e];simp
  rw[if_pos ha];unfold bu;rw[gH,gH];refine xX fun p _=>?_
  show(if aa (gL p.1:aO)=aa (gL t) then(bR p.1,bB R) else(bR p.1,bB p.2))=(bR (if p.1=t then(t,R) else p).1,bB (if p.1=t then(t,R) else p).2)
  by_cases q:p.1=t
  ·rw[if_pos (by rw[q]),if_pos q,q]
  ·rw[if_neg (fun e=>q (by injection e with e;injection e)),if_neg q]
 ·rw[if_neg h,KG h]
theorem Mp (L:List Tb)(t:aE)(R:List (List Int))(t':aE):bo (putL L t R) t'=if t'=t then R else bo L t':=by
 have ac:∀ (q:Tb) (M:List Tb),bo (q::M) t'=if q.1=t' then q.2 else bo M t':=fun q M=>by
  unfold bo;rw[kC];by_cases z:q.1=t'
  ·rw[decide_eq_true z,if_pos z];rfl
  ·rw[decide_eq_false z,if_neg z]
 unfold putL;by_cases h:t∈L.map (·.1)
 ·rw[if_pos h];induction L with
  |nil=>simp at h
  |cons p L ih=>
   rw[dQ,ac,ac];by_cases hp:p.1=t
   ·rw[if_pos hp];by_cases q:t'=t
    ·rw[if_pos q.symm,if_pos q]
    ·rw[if_neg (fun z=>q z.symm),if_neg q,if_neg (fun z=>q (z.symm.trans hp))]
     have:∀ M:List Tb,bo (M.map fun p=>if p.1=t then(t,R) else p) t'=bo M t':=fun M=>by
      induction M with
      |nil=>rfl
      |cons x M zv=>
       have Y8:∀ (q:Tb) (M:List Tb),bo (q::M) t'=if q.1=t' then q.2 else bo M t':=ac
       rw[dQ,Y8,Y8,zv];by_cases hx:x.1=t
       ·rw[if_pos hx,if_neg (fun z=>q z.symm),if_neg (fun z=>q (z.symm.trans hx))]
       ·rw[if_neg hx]
     exact this L
   ·rw[if_neg hp];have h':t∈L.map (·.1):=by
     rcases dU.mp h with z|z
     ·exact absurd z.symm hp
     ·exact z
    rw[ih h'];by_cases q:t'=t
    ·rw[if_pos q,if_neg (fun z=>hp (z.trans q)),if_pos q]
    ·rw[if_neg q,if_neg q]
 ·rw[if_neg h];by_cases q:t'=t
  ·rw[if_pos q,q];unfold bo;rw[Du,Ow h];simp
  ·rw[if_neg q];unfold bo;rw[Du];cases e:L.find? fun p=>decide (p.1=t') with
   |some p=>rfl
   |none=>
    have:¬ t=t':=fun z=>q z.symm
    simp[this]
theorem NJ{m:Nat}(h1:1≤m)(h:∀ t,(B t).length≤m):∀ ls:List Ln,fM B ls≤m^ls.length
 |[]=>cE _
 |l::r=>by
  show max 1 (B l.1).length*fM B r≤m^(r.length+1);rw[BZ,Nat.mul_comm];exact Dg (NJ h1 h r) (Nat.max_le.mpr ⟨h1,h l.1⟩)
theorem WO:∀ {ls:List Ln},(∀ l∈ls,rR l)->(ls.flatMap fun l=>rM l.2).length≤6*ls.length
 |[],_=>by simp
 |l::r,h=>by
  rw[yC,mF,hW];have h1:=WO fun l m=>h l (cG _ m)
  have h2:=(h l bS).1;have h3:(rM l.2).length≤l.2.length:=Dr _ _;omega
theorem yY (L:List Tb)(t:aE):bo L t=[]\/∃ p∈L,p.1=t/\bo L t=p.2:=by
 by_cases h:t∈L.map (·.1)
 ·obtain⟨p,hp⟩:=find_key h;refine .inr ⟨p,HZ hp,by simpa using PH hp,?_⟩
  unfold bo;rw[hp]
  rfl
 ·exact .inl (Lc h)
theorem Mu (ai:List (List Int)):GZ [lq ai]=aa (.int ai.length):=by
 show aa (aX ((ai.map o7).length:Int))=_;rw[eS]
theorem Gc (ai:List (List Int))(r:List Int):n8 ae (bC r) (lq ai)=aa (.bool (ae != decide (r∈ai))):=by
 show(if (cC (r.map aX)&&decide (cL (r.map aX)≤6))=ae then aa (uV (ae != (nM (ai.map o7) (r.map aX)).isSome)) else ab)=_
 rw[zV,decide_eq_true (by have:=FV r;omega),II,if_pos rfl,UB]
theorem Hw (ai:List (List Int)):o8 (lq ai)=ae:=by
 show sI (ai.map o7)=ae;induction ai with
 |nil=>simp[sI]
 |cons r ai ih=>
  rw[dQ];show(o8 (.bool ae)&&sI (ai.map o7))=ae;rw[ih]
  rfl
theorem Et{ρ:bJ}(h:f (vA ρ)=aa d)(hd:cT d=ae):eV 0 .a f ρ=aa d:=by
 show((f (vA ρ)).bind fun d=>if (dR 0 d||(lH ρ&&decide (0<9)&&jM 0 d))=ae then aa d else ab)=_
 rw[h,cX,show dR 0 d=ae from hd,QC,if_pos rfl]
theorem Po (ls:List Ln):cT (.tuple (ls.map bH))=ae:=by
 have:nU (ls.map bH)=ae:=by
  induction ls with
  |nil=>rfl
  |cons l ls ih=>rw[dQ,nU,YG,ih];rfl
 simpa [cT] using this
theorem Yo (R:List (List Int)):gf (bB R) (bB R)=aa (.bool af):=by
 have h1:=ZE R;have h2:cL (R.map bC)≤10:=FN fun t m=>by
  obtain⟨x,_,rfl⟩:=cJ.mp m;exact iU (Vm x) (by omega)
 have ok:cZ (.list (R.map bC))=ae:=by
  simp[cZ,noDict,h1,eG];omega
 have e:cK (.list (R.map bC)) (.list (R.map bC))=rD (R.map bC) (R.map bC):=by simp only[cK]
 have es:rD (R.map bC) (R.map bC)=ae:=by
  clear ok h1 h2 e;induction R with
  |nil=>simp[rD]
  |cons r R ih=>
   rw[dQ];have h1:=JU r r;simp only[rD,h1,ih];simp
 show gf (.list (R.map bC)) (.list (R.map bC))=_;unfold gf;rw[ok,II,if_pos rfl,e,es]
 rfl
section
variable {m:Nat}{L:List Tb}{qs:List gA}
def v7 (ts:List (aE×Nat))(ps:List Int)(m:Nat)(L:List Tb):Prop:=∀ p∈L,∃ w,(p.1,w)∈ts/\Agc ps w m p.2
theorem RG (lw:∀ t∈ts,nameS t.1/\1≤t.2/\t.2≤6)(qv:(ts.map (·.1)).Nodup)(hm:m≤60)(hL:v7 ts ps m L):∃ wd,Bk (bu L) (bo L) wd/\(∀ t,(bo L t).Nodup)/\(∀ t,(bo L t).length≤m)/\∀ t,∀ r∈bo L t,∀ v∈r,v∈ps:=by
 let wd:aE->Nat:=fun t=>((ts.find? fun q=>decide (q.1=t)).map (·.2)).getD 1
 have hwd:∀ t w,(t,w)∈ts->wd t=w:=fun t w m=>by
  show((ts.find? fun q=>decide (q.1=t)).map (·.2)).getD 1=w
  cases hf:ts.find? fun q=>decide (q.1=t) with
  |none=>
   have:=CO.mp hf _ m;simp at this
  |some q=>
   have hq:q.1=t:=by simpa using PH hf
   have mq:=HZ hf;exact LX qv (show(t,q.2)∈ts by rw[← hq];exact mq) m
 have Q6:∀ t,1≤wd t:=fun t=>by
  show 1≤((ts.find? fun q=>decide (q.1=t)).map (·.2)).getD 1
  cases hf:ts.find? fun q=>decide (q.1=t) with
  |none=>exact cE _
  |some q=>exact(lw q (HZ hf)).2.1
 have at_:∀ t,bo L t=[]\/∃ w,Agc ps w m (bo L t):=fun t=>by
  rcases yY L t with e|⟨p,mp,_,e⟩
  ·exact .inl e
  ·obtain⟨w,_,g⟩:=hL p mp;exact .inr ⟨w,e ▸ g⟩
 refine⟨wd,bkL Q6 fun p mp=>?_,fun t=>?_,fun t=>?_,fun t r mr=>?_⟩
 ·obtain⟨w,mw,g1,g2,g3⟩:=hL p mp;exact⟨by omega,fun r mr=>by rw[hwd p.1 w mw];exact(g3 r mr).1⟩
 ·rcases at_ t with e|⟨w,g⟩
  ·rw[e];simp
  ·exact g.1
 ·rcases at_ t with e|⟨w,g⟩
  ·rw[e];simp
  ·exact g.2.1
 ·rcases at_ t with e|⟨w,g⟩
  ·rw[e] at mr;simp at mr
  ·exact(g.2.2 r mr).2
theorem Ii (lw:∀ t∈ts,nameS t.1/\1≤t.2/\t.2≤6)(ub:∀ z∈zs,nameS z)(hm:1≤m/\m≤13)(hf:∀ t,(B t).length≤m){q:gA}(h:yO ts zs ps n q):QOk B n q:=by
 obtain⟨g1,g2,g3,g4⟩:=h;have ok:∀ l∈q.2,rR l:=fun l m=>RD lw ub (g3 l m)
 refine⟨ok,by omega,?_,?_,g1,g4⟩
 ·exact iU (NJ hm.1 hf q.2) (iU (HR hm.2 _) (iU (Nat.pow_le_pow_right (by omega) g2) (by decide)))
 ·have h1:=FT (q.2.flatMap fun l=>rM l.2) []
  have h2:=WO ok;have h3:(cO q.2).length≤([]:List aE).length+(q.2.flatMap fun l=>rM l.2).length:=h1
  simp only[List.length_nil] at h3;omega
theorem Xq {q:gA}(h:QOk B n q):(nN B q).length≤fM B q.2:=by
 unfold nN;rw[eS,zI];unfold oP;rw[eS];exact(LM (B:=B) q.2 h.few (fun l m=>(h.ok l m).1) (by have:=h.way;omega)).2.1
theorem p13:∀ a∈dB 4,∀ b∈dB 4,a+b≤3->13^a+13^b≤4096:=by decide
theorem p9:∀ a∈dB 4,∀ b∈dB 4,9^a+9^b≤4096:=by decide
theorem Nw (h1:1≤m)(hf:∀ t,(B t).length≤m)(hQ:∀ q∈qs,QOk B n q)(h3:∀ q∈qs,q.2.length≤3)(h2:qs.length≤2)(hs:((qs.flatMap (·.2)).length≤3/\m≤13)\/m≤9):(fC B qs).length≤4096:=by
 have pw:∀ q∈qs,(nN B q).length≤m^q.2.length:=fun q mq=>iU (Xq (hQ q mq)) (NJ h1 hf q.2)
 have um:∀ a b,a≤3->b≤3->(a+b≤3/\m≤13)\/m≤9->m^a+m^b≤4096:=fun a b ha hb h=>by
  rcases h with⟨mh,h⟩|h
  ·exact iU (Nat.add_le_add (HR h a) (HR h b)) (p13 a (hV.mpr (by omega)) b (hV.mpr (by omega)) mh)
  ·exact iU (Nat.add_le_add (HR h a) (HR h b)) (p9 a (hV.mpr (by omega)) b (hV.mpr (by omega)))
 match qs,h2 with
 |[],_=>simp[fC]
 |[q],_=>
  have a:=pw q bS;have b:=um q.2.length 0 (h3 q bS) (by omega) (by simpa using hs)
  simp only[fC,yC,List.flatMap_nil,pM];omega
 |[q,q'],_=>
  have a:=pw q bS;have a':=pw q' (by simp)
  have b:=um q.2.length q'.2.length (h3 q bS) (h3 q' (by simp)) (by simpa using hs)
  simp only[fC,yC,List.flatMap_nil,pM,mF];omega
theorem JJ (lw:∀ t∈ts,nameS t.1/\1≤t.2/\t.2≤6)(qv:(ts.map (·.1)).Nodup)(ub:∀ z∈zs,nameS z)(hm:1≤m/\m≤13)(hL:v7 ts ps m L)(hq:∀ q∈qs,yO ts zs ps n q)(h2:qs.length≤2)(hn:n≤10)(hs:((qs.flatMap (·.2)).length≤3/\m≤13)\/m≤9) :
  rY [.dict (bu L),.list (qs.map eK)]=aa (bB (ix (fP (fC (bo L) qs))))/\(∀ r,r∈fP (fC (bo L) qs) ↔ ∃ q∈qs,∃ v,Puts (bo L) q.2 v/\r=q.1.map (kv v))/\(∀ r∈fP (fC (bo L) qs),r.length=n)/\(fP (fC (bo L) qs)).length≤4096:=by
 obtain⟨wd,bk,hB,hf,_⟩:=RG lw qv (by omega) hL
 have hQ:∀ q∈qs,QOk (bo L) n q:=fun q mq=>Ii lw ub hm hf (hq q mq)
 have hS:=Nw hm.1 hf hQ (fun q mq=>(hq q mq).2.1) h2 hs
 refine⟨Qe bk hB hQ (by omega) (by omega) hS,fun r=>Ahk.trans (Pj hB fun q mq=>(hq q mq).2.2.2),fun r m=>?_,?_⟩
 ·obtain⟨q,mq,mr⟩:=sR.mp (Ahk.mp m);exact YD (hQ q mq) mr
 ·have:=FT (fC (bo L) qs) [];have e:(fP (fC (bo L) qs)).length=((fC (bo L) qs).foldl gQ []).length:=rfl;simp at this;omega
theorem XZ {α β:Type}{f:α->β}(h:∀ a b,f a=f b->a=b):∀ {xs ys:List α},xs.map f=ys.map f->xs=ys
 |[],[],_=>rfl
 |[],_::_,e=>by simp at e
 |_::_,[],e=>by simp at e
 |x::xs,y::ys,e=>by
  rw[dQ,dQ] at e;injection e with e1 e2;rw[h x y e1,XZ h e2]
theorem By {A:List Tb}(h:(A.map (·.1)).Nodup){p q:Tb}(hp:p∈A)(hq:q∈A)(e:p.1=q.1):p.2=q.2:=by
 have a:=EL h hp;have b:=EL h hq;rw[e,b] at a;exact(XZ (fun _ _ h=>SI h) (PyData.list.inj (gY a))).symm
theorem Uc (gw:(L.map (·.1)).Nodup)(t:aE):bo (oR L) t=(bo L t).reverse:=by
 have xz:((oR L).map (·.1)).Nodup:=by
  unfold oR;rw[gH];show(L.reverse.map (·.1)).Nodup;rw[OU];exact(Dj _).nodup_iff.mpr gw
 have one:∀ {A:List Tb},(A.map (·.1)).Nodup->∀ {p:Tb},p∈A->bo A p.1=p.2:=fun {A} h {p} mp=>by
  have:=EL h mp;rcases yY A p.1 with e|⟨q,mq,e1,e2⟩
  ·obtain⟨q,hq⟩:=find_key (cJ.mpr ⟨p,mp,rfl⟩:p.1∈A.map (·.1));have mq:=HZ hq;have q1:q.1=p.1:=by simpa using PH hq
   have:bo A p.1=q.2:=by
    unfold bo;rw[hq]
    rfl
   rw[this,By h mq mp q1]
  ·rw[e2,By h mq mp e1]
 rcases yY L t with e|⟨p,mp,rfl,e⟩
 ·rcases yY (oR L) t with e'|⟨p',Q7,rfl,e'⟩
  ·rw[e,e'];rfl
  ·obtain⟨p,mp,rfl⟩:=cJ.mp Q7;rw[e'];show p.2.reverse=(bo L p.1).reverse;rw[one gw (CK.mp mp)]
 ·rw[e];exact one xz (p:=(p.1,p.2.reverse)) (cJ.mpr ⟨p,CK.mpr mp,rfl⟩)
theorem Nf (hL:v7 ts ps m L):v7 ts ps m (oR L):=fun p' Q7=>by
 obtain⟨p,mp,rfl⟩:=cJ.mp Q7;obtain⟨w,mw,g1,g2,g3⟩:=hL p (CK.mp mp);exact⟨w,mw,(Dj _).nodup_iff.mpr g1,by simpa using g2,fun r mr=>g3 r (CK.mp mr)⟩
theorem Kz (hL:v7 ts ps m L){t:aE}(ht:(t,w)∈ts)(qv:(ts.map (·.1)).Nodup)(hr:DH ps w r)(hn:r∉bo L t):v7 ts ps (m+1) (putL L t (bo L t++[r])):=by
 have up:∀ {w:Nat} {R:List (List Int)},Agc ps w m R->Agc ps w (m+1) R:=fun g=>⟨g.1,by have:=g.2.1;omega,g.2.2⟩
 have hg:Agc ps w (m+1) (bo L t++[r]):=by
  rcases yY L t with e|⟨p,mp,rfl,e⟩
  ·rw[e];exact⟨by simp,by simp,fun x mx=>by rw[dP.mp mx];exact hr⟩
  ·obtain⟨w',mw,g⟩:=hL p mp;have e':=LX qv mw ht;subst e';rw[e] at hn ⊢;exact(up g).add (by have:=g.2.1;omega) hn hr
 intro p mp;unfold putL at mp;split at mp
 ·obtain⟨q,mq,rfl⟩:=cJ.mp mp;split
  ·exact⟨w,ht,hg⟩
  ·obtain⟨w',mw,g⟩:=hL q mq;exact⟨w',mw,up g⟩
 ·rcases jF.mp mp with mp|mp
  ·obtain⟨w',mw,g⟩:=hL p mp;exact⟨w',mw,up g⟩
  ·rw[dP.mp mp];exact⟨w,ht,hg⟩
end
theorem NN:∀ {xs:List gA},(∀ q∈xs,q.2.length≤3)->(xs.flatMap (·.2)).length≤3*xs.length
 |[],_=>by simp
 |x::xs,h=>by
  have a:=h x bS;have b:=NN (xs:=xs) fun q m=>h q (cG _ m)
  rw[yC,mF,hW];omega
theorem Ky (ns:List Int)(J4:ns.length≤63):IZ [.list (ns.map aX)]=aa (.bool ae):=by
 refine HA rfl ?_
 let sc:aA:=.list (ns.map aX)
 obtain⟨c0,ec0⟩:=nW (ns:=ns) (k:=0) (by decide) (by decide)
 obtain⟨c1,ec1⟩:=nW (ns:=ns) (k:=1) (by decide) (by decide)
 obtain⟨c2,B2⟩:=nW (ns:=ns) (k:=2) (by decide) (by decide)
 obtain⟨c3,Y9⟩:=nW (ns:=ns) (k:=3) (by decide) (by decide)
 obtain⟨c4,Y'⟩:=nW (ns:=ns) (k:=47) (by decide) (by decide)
 obtain⟨dt,et,ts,rfl,htl,lw,qv⟩:=Zh c0 (n:=3) (by decide)
 obtain⟨zs,ez,Go,ub,sn⟩:=SZ c1 (n:=3) (by decide)
 obtain⟨ps,ep,ir⟩:=Mx c2;obtain⟨n,en⟩:=kL (fQ (bT c3 9) (show(0:Int)<4 by decide)).1
 have hn:n≤3:=by have:=(fQ (bT c3 9) (show(0:Int)<4 by decide)).2;omega
 obtain⟨cn,ecn⟩:=kL (fQ (bT c3 10) (show(0:Int)<2 by decide)).1
 have hcn:cn≤1:=by have:=(fQ (bT c3 10) (show(0:Int)<2 by decide)).2;omega
 let N:L2.Slot:=ab
 let S:L2.Slot:=s0 sc
 let T1:L2.Slot:=s0 (.list (ts.map eY))
 let Z2:L2.Slot:=s0 (.list (zs.map bR))
 let P3:L2.Slot:=s0 (.list (ps.map aX))
 let N4:L2.Slot:=s0 (.int n)
 refine eF (ρ':=[S,T1,N,N,N,N,N,N,N,N,N,N,N,N,N,N,N,N]) (lL (m:=.s) (bW (ds:=[.int c0,.int 3]) (cM (bW (ds:=[sc,.int 0]) rfl ec0) rfl) et) (by simp)) ?_
 refine eF (ρ':=[S,T1,Z2,N,N,N,N,N,N,N,N,N,N,N,N,N,N,N]) (lL (m:=.s) (bW (ds:=[.int c1,.int 3]) (cM (bW (ds:=[sc,.int 1]) rfl ec1) rfl) ez) (by simp)) ?_
 refine eF (ρ':=[S,T1,Z2,P3,N,N,N,N,N,N,N,N,N,N,N,N,N,N]) (lL (m:=.s) (bW (ds:=[.int c2]) (cM (bW (ds:=[sc,.int 2]) rfl B2) rfl) ep) (by simp)) ?_
 refine eF (ρ':=[S,T1,Z2,P3,N4,N,N,N,N,N,N,N,N,N,N,N,N,N]) (lL (m:=.s) ((vL (c:=c3) (k:=9) (by decide) (by decide) (bW (ds:=[sc,.int 3]) rfl Y9) rfl (b:=4) rfl (by decide)).trans (by rw[en])) (by simp)) ?_
 refine eF (ρ':=[S,T1,Z2,P3,N4,aa (1,.list []),N,N,N,N,N,N,N,N,N,N,N,N]) rfl ?_;refine eF (ρ':=[S,T1,Z2,P3,N4,aa (1,.list []),aa (1,.list []),N,N,N,N,N,N,N,N,N,N,N]) rfl ?_
 let I:Nat->bJ->Prop:=fun k ρ'=>∃ (qs:List gA) (x7:L2.Slot),(qs.length=k/\(∀ q∈qs,yO ts zs ps n q)/\lH [x7]=ae)/\ρ'=[S,T1,Z2,P3,N4,aa (1,.list (qs.map eK)),aa (1,.list ((qs.flatMap (·.2)).map bH)),x7,N,N,N,N,N,N,N,N,N,N]
 refine fU (I (1+cn)) ?_ ?_
 ·refine tZ (n:=1+cn) I (jz (nR (cM ((bU (a:=.int 1) (b:=.int cn) rfl ((vL (c:=c3) (k:=10) (by decide) (by decide) (bW (ds:=[sc,.int 3]) rfl Y9) rfl (b:=2) rfl (by decide)).trans (by rw[ecn])) rfl).trans (by rw[show((1+cn:Nat):Int)=1+(cn:Int) by omega])) rfl) (by omega))) ⟨[],N,⟨rfl,by simp,rfl⟩,rfl⟩ ?_ (fun ρ' h=>⟨_,rfl,h⟩)
  rintro k _ hk ⟨qs,x7,⟨hl,hq,_⟩,rfl⟩;have ZB:=NN fun q m=>(hq q m).2.1
  obtain⟨q,eq,qh⟩:=Im (ns:=ns) (ts:=ts) (zs:=zs) (ps:=ps) (st:=4+22*k) (n:=n) (by omega) lw (by omega) ir (by omega) (by omega)
  let L6:L2.Slot:=aa (1,.list ((qs.flatMap (·.2)).map bH))
  refine⟨[S,T1,Z2,P3,N4,aa (1,.list (qs.map eK)),L6,s0 (.int k),N,N,N,N,N,N,N,N,N,N],rfl,?_⟩;refine fU (fun ρ'=>ρ'=[S,T1,Z2,P3,N4,aa (1,.list ((qs++[q]).map eK)),L6,s0 (.int k),N,N,N,N,N,N,N,N,N,N]) (pS (d:=eK q) (ds:=qs.map eK) (bW (ds:=[sc,.int ((4+22*k:Nat):Int),.list (ts.map eY),.list (zs.map bR),.list (ps.map aX),.int n]) (cM rfl (cM ((bU (a:=.int 4) (b:=.int (22*(k:Int))) rfl (by simp[bz,aU,bE,cS,fG,cb,eR,iL,fX,fY,eU,frz,dA,eV,bV,aV,vS,vA,ah,gc,aB,eC,aN,gD,dG,aG,aK,au,iN,fT,jt,gb,gP,kj,iM,fK,iE,ki,cq,getL,gC,outD,cf,itemsOf,bO,gK,dD,bM,dY,gM,iw,dh,jd,km,fq,kl,cN,eJ,fO,jb,fH,iP,fW,fm,gf,cZ,noDict,noDicts,eG,cL,cK,dR,cT,dM,gB]) rfl).trans (by rw[show((4+22*k:Nat):Int)=4+22*(k:Int) by omega])) rfl)) eq) rfl (by simp;omega) ⟨_,rfl,by rw[jG];rfl⟩) ?_
  rintro _ rfl;have h3:=qh.2.1;refine VR (m:=.a) (ds:=(qs.flatMap (·.2)).map bH) (ts:=q.2.map bH) (Et (bU (a:=eK q) (b:=.int 1) (bU (a:=.list ((qs++[q]).map eK)) (b:=.int k) rfl rfl (rW (q:=eK) (by rw[← hl];simp))) rfl rfl) (Po q.2)) rfl (by simp only[eS];omega) ⟨_,.inl rfl,qs++[q],s0 (.int k),⟨by simp[hl],fun x mx=>?_,rfl⟩,?_⟩
  ·rcases jF.mp mx with mx|mx
   ·exact hq x mx
   ·rw[dP.mp mx];exact qh
  ·show [S,T1,Z2,P3,N4,aa (1,.list ((qs++[q]).map eK)),aa (1,mD ((qs.flatMap (·.2)).map bH++q.2.map bH)),s0 (.int k),N,N,N,N,N,N,N,N,N,N]=_;rw[← jG,List.flatMap_append,show List.flatMap (fun(x:gA)=>x.2) [q]=q.2 by simp]
 rintro _ ⟨qs,x7,⟨hql,qh,Q8⟩,rfl⟩;refine nQ ?_;refine nQ ?_;have ZB:=NN fun q m=>(qh q m).2.1
 have Q9:∀ l∈qs.flatMap (·.2),tp ts zs ps l:=fun l m=>by
  obtain⟨q,mq,ml⟩:=sR.mp m;exact(qh q mq).2.2.1 l ml
 generalize Rs:qs.flatMap (·.2)=LS at ZB Q9
 let Q5:L2.Slot:=s0 (.list (qs.map eK))
 let L6:L2.Slot:=s0 (.list (LS.map bH))
 let big:Bool:=decide ((LS.length:Int) > 3)
 let most:Nat:=if big=ae then 8 else 12
 let M8:L2.Slot:=s0 (.int most)
 have v0:1≤most/\most≤12/\(LS.length≤3\/most≤8):=by
  show 1≤(if big=ae then 8 else 12)/\(if big=ae then 8 else 12)≤12/\(LS.length≤3\/(if big=ae then 8 else 12)≤8)
  by_cases h:LS.length≤3
  ·exact⟨by split<;>omega,by split<;>omega,.inl h⟩
  ·have hb:big=ae:=decide_eq_true (by omega)
   rw[if_pos hb];exact⟨by omega,by omega,.inr (by omega)⟩
 show Goes _ [S,T1,Z2,P3,N4,Q5,L6,x7,N,N,N,N,N,N,N,N,N,N] _;refine eF (ρ':=[S,T1,Z2,P3,N4,Q5,L6,x7,M8,N,N,N,N,N,N,N,N,N]) (lL (m:=.s) ?_ (by simp)) ?_
 ·have gt:ah fq (aN cN (aG (aB 6) aK)) (eC (.int 3)) (vS [S,T1,Z2,P3,N4,Q5,L6,x7,N,N,N,N,N,N,N,N,N,N])=aa (.bool big):=bU (a:=.int LS.length) (b:=.int 3) (bW (ds:=[.list (LS.map bH)]) rfl ((vP _).trans (by rw[eS]))) rfl rfl
  refine bU (a:=.int 12) (b:=.int (4*(if big=ae then 1 else 0))) rfl (bU (a:=.int 4) (b:=.int (if big=ae then 1 else 0)) rfl (bW (ds:=[.bool big]) (cM gt rfl) ?_) ?_) ?_
  ·cases big<;>rfl
  ·cases big<;>rfl
  ·show aa (aX (12-4*(if big=ae then 1 else 0)))=aa (aX (((if big=ae then 8 else 12:Nat)):Int))
   cases big<;>rfl
 obtain⟨L,eL,gw,hL⟩:=Nd (ns:=ns) (st:=48) (most:=most) (ts:=ts) (ls:=LS.take 5) (zs:=zs) (ps:=ps) (by decide) (by omega) ir (fun t m=>(lw t m).2.2) (by omega) qv (fun l m=>⟨Q9 l (CL m),(RD lw ub (Q9 l (CL m))).1⟩) (by omega) (by rw[oG];omega)
 have hL:v7 ts ps most L:=hL;have ly:∀ p∈L,dX (.str p.1)=ae:=fun p mp=>by
  obtain⟨w,mw,_⟩:=hL p mp;exact(lw _ mw).1.lay
 have hLl:L.length≤3:=by
  have h1:L.length=(L.map (·.1)).length:=(eS ..).symm;have h2:(L.map (·.1)).length≤(ts.map (·.1)).length:=gw.length_le_of_subset fun z mz=>by
   obtain⟨q,mq,rfl⟩:=cJ.mp mz;obtain⟨w,mw,_⟩:=hL q mq;exact cJ.mpr ⟨_,mw,rfl⟩
  simp only[eS] at h2;omega
 have R3:qs.length≤2:=by omega
 have R4:((qs.flatMap (·.2)).length≤3/\most+1≤13)\/most+1≤9:=by rw[Rs];omega
 have v5:((qs.flatMap (·.2)).length≤3/\most≤13)\/most≤9:=by omega
 obtain⟨wd,bk,hB,i4,B6⟩:=RG lw qv (by omega) hL
 have G0:∀ q∈qs,∀ l∈q.2,l.2.length≤6/\∀ z,(.inr z:aO)∈l.2->z∈zs:=fun q mq l ml=>by
  have g:=(qh q mq).2.2.1 l ml;exact⟨(lw _ g.1).2.2,fun z mz=>g.2 _ mz⟩
 obtain⟨OW,eO,hOn,Z0⟩:=Mk (qs:=qs) bk Go sn ir G0 (fun q mq=>⟨by have:=(qh q mq).1;omega,fun z mz=>by
  obtain⟨l,ml,hz⟩:=Afu.mp ((qh q mq).2.2.2 z mz);exact(G0 q mq l ml).2 z hz⟩) (by omega)
 obtain⟨eA,G1,hAw,Z4⟩:=JJ lw qv ub ⟨v0.1,by omega⟩ hL qh R3 (by omega) v5
 obtain⟨eT,Z5,Z6,_⟩:=JJ lw qv ub ⟨v0.1,by omega⟩ (Nf hL) qh R3 (by omega) v5
 have R5:∀ r,r∈fP (fC (bo L) qs)↔r∈OW:=fun r=>by
  rw[G1,Z0];exact⟨fun⟨q,mq,h⟩=>⟨q,mq,(XH Go sn ir B6 (fun l ml=>(G0 q mq l ml).2) (qh q mq).2.2.2).mp h⟩,fun⟨q,mq,h⟩=>⟨q,mq,(XH Go sn ir B6 (fun l ml=>(G0 q mq l ml).2) (qh q mq).2.2.2).mpr h⟩⟩
 have Z7:ix (fP (fC (bo (oR L)) qs))=ix (fP (fC (bo L) qs)):=Vh Z6 (zG _) (zG _) fun r=>by
  rw[Z5,G1];have:∀ (q:gA) v,Puts (bo (oR L)) q.2 v↔Puts (bo L) q.2 v:=fun q v=>by
   unfold Puts;simp only[Uc gw,CK]
  simp only[this]
 rw[Z7] at eT;clear Z7 Z5 Z6;have Z8:(ix (fP (fC (bo L) qs))).length=OW.length:=by
  rw[zI];exact((Dm (zG _) hOn).mpr R5).length_eq
 have Z9:∀ r,r∈ix (fP (fC (bo L) qs)) ↔ ∃ q∈qs,∃ v,Puts (bo L) q.2 v/\r=q.1.map (kv v):=fun r=>Ahp.trans (G1 r)
 have hSO:∀ r∈ix (fP (fC (bo L) qs)),r∈OW:=fun r m=>(R5 r).mp (Ahp.mp m)
 have hSc:(ix (fP (fC (bo L) qs))).length≤4096:=by rw[zI];exact Z4
 generalize ix (fP (fC (bo L) qs))=SS at eA eT Z8 Z9 hSO hSc;clear R5 G1 hAw Z4 Z0
 let B9:L2.Slot:=aa (1,.dict (bu L))
 let j5:L2.Slot:=s0 (lq OW)
 let ku:L2.Slot:=s0 (bB SS)
 refine eF (ρ':=[S,T1,Z2,P3,N4,Q5,L6,x7,M8,B9,N,N,N,N,N,N,N,N]) (lL (m:=.s) (bW (ds:=[sc,.int ((48:Nat):Int),.list (ts.map eY),.list ((LS.take 5).map bH),.list (zs.map bR),.list (ps.map aX),.int most]) (cM rfl (cM rfl (cM rfl (cM ((EB (ds:=LS.map bH) (l:=ab) (u:=aa ((5:Nat):Int)) rfl rfl rfl).trans (by rw[VM,OT])) rfl)))) eL) (by simp)) ?_
 have R6:lH [S,T1,Z2,P3,N4,Q5,L6,x7,M8,B9,N,N,N,N,N,N,N,N]=ae:=by simpa [lH,S,T1,Z2,P3,N4,Q5,L6,M8,B9,j5,ku,N] using Q8
 have own1:lH [S,T1,Z2,P3,N4,Q5,L6,x7,M8,B9,j5,N,N,N,N,N,N,N]=ae:=by simpa [lH,S,T1,Z2,P3,N4,Q5,L6,M8,B9,j5,ku,N] using Q8
 refine JP (d:=lq OW) (bW (ds:=[.dict (bu L),.list (qs.map eK),.list (zs.map bR),.list (ps.map aX)]) rfl eO) R6 (by decide) (Hw OW) (by simp) ?_
 show Goes _ [S,T1,Z2,P3,N4,Q5,L6,x7,M8,B9,j5,N,N,N,N,N,N,N] _;refine JP (d:=bB SS) (bW (ds:=[.dict (bu L),.list (qs.map eK)]) rfl eA) own1 (by decide) (SL SS) (by simp) ?_
 show Goes _ [S,T1,Z2,P3,N4,Q5,L6,x7,M8,B9,j5,ku,N,N,N,N,N,N] _;have ne0:∀ a:Int,gf (.int a) (.int a)=aa (.bool af):=fun a=>by rw[ne_int];simp
 refine eF (ρ':=[S,T1,Z2,P3,N4,Q5,L6,x7,M8,B9,j5,ku,N,N,N,N,N,N]) (vQ (iF (bU (a:=.int SS.length) (b:=.int SS.length) (bW (ds:=[bB SS]) rfl ((vP _).trans (by rw[eS]))) (bW (ds:=[lq OW]) rfl ((Mu OW).trans (by rw[Z8]))) (ne0 _)))) ?_
 refine fU (fun ρ'=>∃ x12:L2.Slot,ρ'=[S,T1,Z2,P3,N4,Q5,L6,x7,M8,B9,j5,ku,x12,N,N,N,N,N]) ?_ ?_
 ·refine pQ (ds:=SS.map bC) (fun _ ρ'=>∃ x12:L2.Slot,ρ'=[S,T1,Z2,P3,N4,Q5,L6,x7,M8,B9,j5,ku,x12,N,N,N,N,N]) (jz (lO rfl)) ⟨N,rfl⟩ ?_ (fun ρ' h=>⟨_,rfl,h⟩)
  rintro i d _ hd ⟨x12,rfl⟩;rw[fA] at hd;obtain⟨r,hr,rfl⟩:=kA.mp hd;have mr:=hSO r (gZ hr);refine⟨[S,T1,Z2,P3,N4,Q5,L6,x7,M8,B9,j5,ku,s0 (bC r),N,N,N,N,N],rfl,?_⟩;exact mL ((iF (bU (a:=bC r) (b:=lq OW) rfl rfl (Gc OW r))).trans (by simp[mr])) (mM ⟨_,.inl rfl,s0 (bC r),rfl⟩)
 rintro _ ⟨x12,rfl⟩;have eTu:xD [.dict (bu L)]=aa (.dict (bu (oR L))):=Zj gw ly (by omega) fun p mp=>by
  obtain⟨w,_,g⟩:=hL p mp;have:=g.2.1;omega
 refine eF (ρ':=[S,T1,Z2,P3,N4,Q5,L6,x7,M8,B9,j5,ku,x12,N,N,N,N,N]) (vQ (m:=.a) (iF (bU (a:=bB SS) (b:=bB SS) (bW (ds:=[.dict (bu (oR L)),.list (qs.map eK)]) (cM (bW (ds:=[.dict (bu L)]) rfl eTu) rfl) eT) rfl (Yo SS)))) ?_;obtain⟨i3,ei3⟩:=kL (fQ (bT c4 14) (show(0:Int)<3 by decide)).1
 have u9:i3<ts.length:=by have:=(fQ (bT c4 14) (show(0:Int)<3 by decide)).2;omega
 have mt:ts[i3]∈ts:=nB u9;have et3:ah bf (aB 1) (ah bM (aN dH (aG (aN fL (aG (aB 0) (aG (eC (.int 47)) aK))) (aG (eC (.int 14)) aK))) (eC (.int 3))) (vS [S,T1,Z2,P3,N4,Q5,L6,x7,M8,B9,j5,ku,x12,N,N,N,N,N])=aa (eY ts[i3]):=bU (a:=.list (ts.map eY)) (b:=.int i3) rfl ((vL (c:=c4) (k:=14) (by decide) (by decide) (bW (ds:=[sc,.int 47]) rfl Y') rfl (b:=3) rfl (by decide)).trans (by rw[ei3])) (rW (q:=eY) (eI u9))
 generalize ts[i3]=tw at mt et3;obtain⟨t,w⟩:=tw;have hw6:w≤6:=(lw _ mt).2.2;refine eF (ρ':=[S,T1,Z2,P3,N4,Q5,L6,x7,M8,B9,j5,ku,x12,s0 (.str t),s0 (.int w),N,N,N]) ?_ ?_
 ·show((ah bf (aB 1) (ah bM (aN dH (aG (aN fL (aG (aB 0) (aG (eC (.int 47)) aK))) (aG (eC (.int 14)) aK))) (eC (.int 3))) (vS [S,T1,Z2,P3,N4,Q5,L6,x7,M8,B9,j5,ku,x12,N,N,N,N,N])).bind fun d=>(rL 13 14 d _).bind fun ρ'=>aa (Out.nx ρ'))=_
  rw[et3]
  rfl
 refine eF (ρ':=[S,T1,Z2,P3,N4,Q5,L6,x7,M8,B9,j5,ku,x12,s0 (.str t),s0 (.int w),s0 (.int c4),N,N]) (lL (m:=.s) (bW (ds:=[sc,.int 47]) rfl Y') (by simp)) ?_
 obtain⟨r,er,P9,B4⟩:=ES (cap:=[ab,aa 3,aa 15]) (fi:=j7 (aG (aB 14) aK)) (T:=gB 0) (t:=dM) (f:=ah bf (aB 1) (ah bM (aN dH (aG (aB 2) (aG (ah bO (eC (.int 15)) (aB 0)) aK))) (eC (.int 6))))
  (ρ:=vS [S,T1,Z2,P3,N4,Q5,L6,x7,M8,B9,j5,ku,x12,s0 (.str t),s0 (.int w),s0 (.int c4),N,N]) (n:=w) aX (fun v=>v∈ps) (nR rfl (by omega)) (by omega) (fun k hk=>by
   have em:=jA c4 (15+(k:Int)) (by omega) (by omega)
   have b3:=fQ (bT c4 (15+(k:Int))) (show(0:Int)<6 by decide)
   obtain⟨u,hu⟩:=kL b3.1;have vz:u<ps.length:=by omega
   refine⟨[aa (.int k),aa (.list (ps.map aX)),aa (.int c4)],ps[u],rfl,rfl,?_,nB vz⟩;exact bU (a:=.list (ps.map aX)) (b:=.int u) rfl (bU (a:=.int (bT c4 (15+(k:Int)))) (b:=.int 6) (bW (ds:=[.int c4,.int (15+(k:Int))]) rfl em) rfl (by rw[← hu];rfl)) (rW (eI vz)))
 refine eF (ρ':=[S,T1,Z2,P3,N4,Q5,L6,x7,M8,B9,j5,ku,s0 (bC r),s0 (.str t),s0 (.int w),s0 (.int c4),N,N]) (lL (m:=.s) (bW (cM er rfl) rfl) (by simp)) ?_
 have QG:lH [S,T1,Z2,P3,N4,Q5,L6,x7,M8,B9,j5,ku,s0 (bC r),s0 (.str t),s0 (.int w),s0 (.int c4),N,N]=ae:=by simpa [lH,S,T1,Z2,P3,N4,Q5,L6,M8,B9,j5,ku,N] using Q8
 refine JP (d:=bB (bo L t)) (bk.get (t:=t) rfl rfl) QG (by decide) (SL _) (by simp) ?_
 let R16:L2.Slot:=s0 (bB (bo L t))
 let C15:L2.Slot:=s0 (.int c4)
 show Goes _ [S,T1,Z2,P3,N4,Q5,L6,x7,M8,B9,j5,ku,s0 (bC r),s0 (.str t),s0 (.int w),C15,R16,N] _;have h12:=i4 t;refine fU (fun ρ'=>∃ L':List Tb,(v7 ts ps (most+1) L'/\∀ t',∀ x∈bo L t',x∈bo L' t')/\ρ'=[S,T1,Z2,P3,N4,Q5,L6,x7,M8,aa (1,.dict (bu L')),j5,ku,s0 (bC r),s0 (.str t),s0 (.int w),C15,R16,N]) ?_ ?_
 ·have b1:au (ah (n8 ae) (aB 12) (aB 16)) (vS [S,T1,Z2,P3,N4,Q5,L6,x7,M8,B9,j5,ku,s0 (bC r),s0 (.str t),s0 (.int w),C15,R16,N])=aa (ae != decide (r∈bo L t)):=iF (bU (a:=bC r) (b:=bB (bo L t)) rfl rfl (zP ae r _));by_cases hr:r∈bo L t
  ·refine mL (b1.trans (by simp[hr])) (mM ⟨_,rfl,L,⟨fun p mp=>?_,fun _ _ m=>m⟩,rfl⟩)
   obtain⟨w',mw,g⟩:=hL p mp;exact⟨w',mw,g.1,by have:=g.2.1;omega,g.2.2⟩
  ·refine lW (b1.trans (by simp[hr])) (EW (d:=bB (bo L t++[r])) (kd:=.str t) (key:=.inr t) (kds:=bu L) (bU (a:=bB (bo L t)) (b:=.list [bC r]) rfl (wC (ds:=[bC r]) rfl) ((GO (by simp;omega)).trans (by rw[bB,jG];rfl))) rfl rfl rfl (by simp[bu];omega) ⟨_,rfl,putL L t (bo L t++[r]),⟨Kz hL mt qv ⟨P9,B4⟩ hr,fun t' x mx=>?_⟩,?_⟩)
   ·rw[Mp];split
    ·rename_i e;exact jF.mpr (.inl (e ▸ mx))
    ·exact mx
   ·rw[Hn]
    rfl
 rintro _ ⟨L',⟨hL',gs⟩,rfl⟩;refine nQ ?_;obtain⟨eM,hMm,_,_⟩:=JJ lw qv ub ⟨by omega,by omega⟩ hL' qh R3 (by omega) R4
 have hSM:∀ x∈SS,x∈ix (fP (fC (bo L') qs)):=fun x m=>by
  obtain⟨q,mq,v,hP,e⟩:=(Z9 x).mp m;exact Ahp.mpr ((hMm x).mpr ⟨q,mq,v,fun l ml=>gs _ _ (hP l ml),e⟩)
 generalize ix (fP (fC (bo L') qs))=MM at eM hSM
 let B9':L2.Slot:=s0 (.dict (bu L'))
 show Goes _ [S,T1,Z2,P3,N4,Q5,L6,x7,M8,B9',j5,ku,s0 (bC r),s0 (.str t),s0 (.int w),C15,R16,N] _;refine eF (ρ':=[S,T1,Z2,P3,N4,Q5,L6,x7,M8,B9',j5,ku,s0 (bC r),s0 (.str t),s0 (.int w),C15,R16,s0 (bB MM)]) (lL (m:=.s) (bW (ds:=[.dict (bu L'),.list (qs.map eK)]) rfl eM) (by simp)) ?_
 have lc:=EX (cap:=[ab,aa 17]) (fi:=cf (aB 11)) (T:=gB 0) (t:=au (ah (n8 ae) (aB 0) (aB 1))) (f:=aB 0) (ρ:=vS [S,T1,Z2,P3,N4,Q5,L6,x7,M8,B9',j5,ku,s0 (bC r),s0 (.str t),s0 (.int w),C15,R16,s0 (bB MM)]) (xs:=SS) (q:=bC) (fun x=>ae != decide (x∈MM)) bC (lO rfl) (by omega) (fun x _=>⟨[aa (bC x),aa (bB MM)],rfl,iF (bU (a:=bC x) (b:=bB MM) rfl rfl (zP ae x MM)),fun _=>rfl⟩)
 rw[List.filter_eq_nil_iff.mpr fun x m=>by simp[hSM x m]] at lc
 exact jO (d:=.bool ae) (bU (a:=.int 0) (b:=.int 0) (bW (ds:=[.list []]) (cM lc rfl) rfl) rfl rfl) rfl
def GX (K:aM):Sp:=fun vs H Q _=>∃ (a:aD) (ns:List Int),vs=[.ref a]/\SqL K H a (ns.map V.int)/\ns.length≤63/\∀ H',Q (.bl ae) H'
theorem Iv:∀ vs H Q E,GX K vs H Q E->aq K 0 IZ vs H Q E:=fun vs H Q E gh=>by
 obtain⟨a,ns,ev,hS,hl,k⟩:=gh;subst ev;have e0:hid H (fun _=>False)=H:=by
  funext b;unfold hid;rw[if_neg (fun z=>z)]
 refine⟨fun _=>False,[.list (ns.map aX)],.bool ae,fun _ z=>z.elim,?_,Ky ns hl,gJ fun v H' _ r=>?_⟩
 ·rw[e0];exact Aan.mpr ⟨_,_,rfl,Abh.mpr ⟨a,_,rfl,hS,WK ns⟩,Aav.mpr rfl⟩
 ·rw[Aa2.mp r];exact k H'
def Hl (K:aM)(n:aE)(st:cR)(f:aD):Prop:=∃ (od an:Option aD) (sl:Array (Option aC)) (oc kV dc pm cd ct:aC),iB K eZ n=aa (aa (.ref f))/\K.lookup f=aa ⟨oc,od,.func (lQ n n (lX st) (kX st) (cQ st) .none kV dc pm an cd ct),sl⟩/\BU K cd n=ae/\uS K (.ref f)=ae
def Hs (K:aM)(n:aE)(st:cR)(f:aD):Prop:=∃ fd,Fun K n n st f fd/\iB K eZ n=aa (aa (.ref f))/\uS K (.ref f)=ae
section
variable {n:aE}{f:aD}
theorem Bgy {od an:Option aD}{sl:Array (Option aC)}{oc kV dc pm cd ct:aC}(a:iB K eZ n=aa (aa (.ref f)))(l:K.lookup f=aa ⟨oc,od,.func (lQ n n (lX st) (kX st) (cQ st) .none kV dc pm an cd ct),sl⟩)(c:BU K cd n=ae)(k:uS K (.ref f)=ae):Hl K n st f:=⟨_,_,_,_,_,_,_,_,_,a,l,c,k⟩
theorem Ae2 {od an:Option aD}{sl:Array (Option aC)}{oc kV dc pm cd ct:aC}(a:iB K eZ n=aa (aa (.ref f)))(l:K.lookup f=aa ⟨oc,od,.func (lQ n n (lX st) (kX st) (cQ st) .none kV dc pm an cd ct),sl⟩)(c:BU K cd n=ae)(k:uS K (.ref f)=ae):Hs K n st f:=⟨_,Ay (st:=st) l c k,a,k⟩
def Hs.fd (h:Hs K n st f):jH:=Classical.choose h
theorem Hs.fn (h:Hs K n st f):Fun K n n st f h.fd:=(Ee h).1
theorem Hs.df {P:bP}{w:bG}{mg:aE->Option aC}{h base:aY}{ps:List aE}{sp:Sp}(X:K.In h)(G:h.Ns eZ mg)(H:Hs K n st f)(ok:FnOk P w K mg base gv k f H.fd ps sp)(b:Binds K H.fd ps []):Def P w K mg base n k ps sp:=⟨_,_,ok,Cq X G (Ee H).2.1,(Ee H).2.2,b⟩
end
theorem iR {us:List aC}(h:us.length=n+1):∃ a r,us=a::r/\r.length=n:=by
 cases us with
 |nil=>exact absurd h (by simp)
 |cons a r=>exact⟨a,r,rfl,Nat.succ.inj h⟩
theorem yM{f:aD}{fd:jH}{ps:List aE}(F:Fun K x qual st f fd)(hp:ps.length=1)(h:∀ (kV fj pm:aC) (an:Option aD) (ax ct:aC) a,uO (lQ x qual (lX st) (kX st) (cQ st) .none kV fj pm an ax ct) ⟨[a],[]⟩=pure (ps.zip [a])):Binds K fd ps []:=F.binds fun kV fj pm an ax ct u0 hl=>by
 have g0:=hl.trans hp;clear hl;obtain⟨a,u1,rfl,g1⟩:=iR g0;cases yD g1;exact h kV fj pm an ax ct a
theorem nK{f:aD}{fd:jH}{ps:List aE}(F:Fun K x qual st f fd)(hp:ps.length=2)(h:∀ (kV fj pm:aC) (an:Option aD) (ax ct:aC) a b,uO (lQ x qual (lX st) (kX st) (cQ st) .none kV fj pm an ax ct) ⟨[a,b],[]⟩=pure (ps.zip [a,b])):Binds K fd ps []:=F.binds fun kV fj pm an ax ct u0 hl=>by
 have g0:=hl.trans hp;clear hl;obtain⟨a,u1,rfl,g1⟩:=iR g0;obtain⟨b,u2,rfl,g2⟩:=iR g1;cases yD g2;exact h kV fj pm an ax ct a b
theorem DL{f:aD}{fd:jH}{ps:List aE}(F:Fun K x qual st f fd)(hp:ps.length=3)(h:∀ (kV fj pm:aC) (an:Option aD) (ax ct:aC) a b c,uO (lQ x qual (lX st) (kX st) (cQ st) .none kV fj pm an ax ct) ⟨[a,b,c],[]⟩=pure (ps.zip [a,b,c])):Binds K fd ps []:=F.binds fun kV fj pm an ax ct u0 hl=>by
 have g0:=hl.trans hp;clear hl;obtain⟨a,u1,rfl,g1⟩:=iR g0;obtain⟨b,u2,rfl,g2⟩:=iR g1;obtain⟨c,u3,rfl,g3⟩:=iR g2;cases yD g3;exact h kV fj pm an ax ct a b c
theorem QL{f:aD}{fd:jH}{ps:List aE}(F:Fun K x qual st f fd)(hp:ps.length=4)(h:∀ (kV fj pm:aC) (an:Option aD) (ax ct:aC) a b c d,uO (lQ x qual (lX st) (kX st) (cQ st) .none kV fj pm an ax ct) ⟨[a,b,c,d],[]⟩=pure (ps.zip [a,b,c,d])):Binds K fd ps []:=F.binds fun kV fj pm an ax ct u0 hl=>by
 have g0:=hl.trans hp;clear hl;obtain⟨a,u1,rfl,g1⟩:=iR g0;obtain⟨b,u2,rfl,g2⟩:=iR g1;obtain⟨c,u3,rfl,g3⟩:=iR g2;obtain⟨d,u4,rfl,g4⟩:=iR g3;cases yD g4;exact h kV fj pm an ax ct a b c d
theorem QK{f:aD}{fd:jH}{ps:List aE}(F:Fun K x qual st f fd)(hp:ps.length=6)(h:∀ (kV fj pm:aC) (an:Option aD) (ax ct:aC) a b c d e f,uO (lQ x qual (lX st) (kX st) (cQ st) .none kV fj pm an ax ct) ⟨[a,b,c,d,e,f],[]⟩=pure (ps.zip [a,b,c,d,e,f])):Binds K fd ps []:=F.binds fun kV fj pm an ax ct u0 hl=>by
 have g0:=hl.trans hp;clear hl;obtain⟨a,u1,rfl,g1⟩:=iR g0;obtain⟨b,u2,rfl,g2⟩:=iR g1;obtain⟨c,u3,rfl,g3⟩:=iR g2;obtain⟨d,u4,rfl,g4⟩:=iR g3;obtain⟨e,u5,rfl,g5⟩:=iR g4;obtain⟨f,u6,rfl,g6⟩:=iR g5;cases yD g6;exact h kV fj pm an ax ct a b c d e f
theorem Fi{f:aD}{fd:jH}{ps:List aE}(F:Fun K x qual st f fd)(hp:ps.length=7)(h:∀ (kV fj pm:aC) (an:Option aD) (ax ct:aC) a b c d e f g,uO (lQ x qual (lX st) (kX st) (cQ st) .none kV fj pm an ax ct) ⟨[a,b,c,d,e,f,g],[]⟩=pure (ps.zip [a,b,c,d,e,f,g])):Binds K fd ps []:=F.binds fun kV fj pm an ax ct u0 hl=>by
 have g0:=hl.trans hp;clear hl;obtain⟨a,u1,rfl,g1⟩:=iR g0;obtain⟨b,u2,rfl,g2⟩:=iR g1;obtain⟨c,u3,rfl,g3⟩:=iR g2;obtain⟨d,u4,rfl,g4⟩:=iR g3;obtain⟨e,u5,rfl,g5⟩:=iR g4;obtain⟨f,u6,rfl,g6⟩:=iR g5;obtain⟨g,u7,rfl,g7⟩:=iR g6;cases yD g7;exact h kV fj pm an ax ct a b c d e f g
set_option maxHeartbeats 4000000 in
theorem all_mk {l:Cy}{w:bG}{h:aY}{mg:aE->Option aC}{fa ou so wT qi qj nh ox oy k5 k6 oz lx l0 l4 ni nj ke nk k7 sq k8 l5 nn ql i6 qm B7:aD}(X:K.In h)(G:h.Ns eZ mg)(Y4:mg "law" = aa (.ref fa)){no:Tok}
  (i7:Hs K "names_of" LZ ou) (kf:Hs K "put_in" FJ so) (o0:Hs K "fits" NL wT) (jo:Hs K "rows_of" LW qi) (jp:Hs K "ways_of" LO qj) (ij:Hs K "_law_cell" MN nh) (i8:Hs K "_law_mix" MK ox) (i9:Hs K "_law_put" MH oy) (dw:Hs K "_law_turned" MX k5) (dy:Hs K "refuse_rows" MY k6) (ja:Hs K "extended" MF oz) (gm:Hs K "matches_of" GL lx) (gn:Hs K "answers_of" GM l0) (gp:Hs K "_law_names" wZ l4) (ik:Hs K "_law_pool" MP ni) (im:Hs K "_law_term" MS nj) (cy:Hs K "_law_planted" NA ke) (io:Hs K "_law_owed" MO nk) (dz:Hs K "refuse_ways" GI k7) (kg:Hs K "walked" LD sq) (dL:Hs K "_law_tables" MZ k8) (gq:Hs K "_law_lines" AX l5) (ip:Hs K "_law_book" GH nn) (jq:Hs K "matches" FP ql) (bw:Hs K "_law_alternative" NF i6) (jr:Hs K "answers" LU qm) (B8:Hl K "law" qN B7)
  (l6:iB K eZ "isinstance" = aa ab) (Ch:iB K eZ "int" = aa ab) (w6:iB K eZ "bool" = aa ab) (Cl:iB K eZ "abs" = aa ab) (uy:iB K eZ "range" = aa ab) (C0:iB K eZ "len" = aa ab) (C1:iB K eZ "str" = aa ab) (C2:iB K eZ "all" = aa ab) (C3:iB K eZ "any" = aa ab) (w9:iB K eZ "list" = aa ab) (uz:iB K eZ "tuple" = aa ab) (xc:iB K eZ "dict" = aa ab) (C4:iB K eZ "set" = aa ab) (su:iB K eZ "sorted" = aa ab) (C5:iB K eZ "sum" = aa ab) (C7:iB K eZ "min" = aa ab) (C8:iB K eZ "max" = aa ab) (nq:iB K eZ "enumerate" = aa ab) (C9:iB K eZ "zip" = aa ab) (o4:iB K eZ "reversed" = aa ab) (l7:iB K eZ "ValueError" = aa ab) (g_MOST_WAYS:iB K eZ "MOST_WAYS" = aa (aa (.int 4096 no))) :
  ∃ fd:jH,(∀ (s:aH) (v:aC),BindsTo s fd ⟨[v],[]⟩ [("_law_script",v)])/\∀ base:aY,K.In base->base.Ns eZ mg->FnOk l.prog w K mg base gv 6 fa fd ["_law_script"] (GX K):=by
 obtain⟨_,xf,_,_,xg,xh,xi,xj,xk,Db,D0,D2,D3⟩:=B8;have e:=Y4.symm.trans (Cq X G Db);cases e;have B:Blt mg:=⟨jT X G l6,jT X G Ch,jT X G w6,jT X G Cl,jT X G uy,jT X G C0,jT X G C1,jT X G C2,jT X G C3,jT X G w9,jT X G uz,jT X G xc,jT X G C4,jT X G su,jT X G C5,jT X G C7,jT X G C8,jT X G nq,jT X G C9,jT X G o4,jT X G l7⟩;have C:Cst mg:=⟨⟨_,Cq X G g_MOST_WAYS⟩⟩;refine⟨lQ "law" "law" (lX qN) (kX qN) (cQ qN) .none xg xh xi xf xj xk,fun s v=>.of_eq rfl,fun base _ _=>?_⟩
 have QQq{n st f}(H:Hs K n st f){k ps sp}(ok:FnOk l.prog w K mg base gv k f H.fd ps sp)(b:Binds K H.fd ps []):=H.df X G ok b
 have cg:=QQq i7 (Rb i7.fn B C ) (yM i7.fn rfl fun _ _ _ _ _ _ _=>rfl)
 have fy:=QQq kf (Zu kf.fn B C ) (nK kf.fn rfl fun _ _ _ _ _ _ _ _=>rfl)
 have oq:=QQq o0 (Mr o0.fn B C ) (DL o0.fn rfl fun _ _ _ _ _ _ _ _ _=>rfl)
 have cr:=QQq jo (Qb jo.fn B C ) (nK jo.fn rfl fun _ _ _ _ _ _ _ _=>rfl)
 have jl:=QQq jp (Oy jp.fn B C ) (yM jp.fn rfl fun _ _ _ _ _ _ _=>rfl)
 have aj:=QQq ij (Ri ij.fn B C ) (nK ij.fn rfl fun _ _ _ _ _ _ _ _=>rfl)
 have ag:=QQq i8 (Qq i8.fn B C ) (nK i8.fn rfl fun _ _ _ _ _ _ _ _=>rfl)
 have gg:=QQq i9 (Qn i9.fn B C ) (DL i9.fn rfl fun _ _ _ _ _ _ _ _ _=>rfl)
 have dq:=QQq dw (Th dw.fn B C ) (yM dw.fn rfl fun _ _ _ _ _ _ _=>rfl)
 have dm:=QQq dy (Ts dy.fn B C jl) (yM dy.fn rfl fun _ _ _ _ _ _ _=>rfl)
 have i5:=QQq ja (Rt ja.fn B C oq) (DL ja.fn rfl fun _ _ _ _ _ _ _ _ _=>rfl)
 have gi:=QQq gm (So gm.fn B C cg fy) (nK gm.fn rfl fun _ _ _ _ _ _ _ _=>rfl)
 have gk:=QQq gn (Te gn.fn B C cg fy) (nK gn.fn rfl fun _ _ _ _ _ _ _ _=>rfl)
 have bt:=QQq gp (Sx gp.fn B C ag) (nK gp.fn rfl fun _ _ _ _ _ _ _ _=>rfl)
 have ic:=QQq ik (Rv ik.fn B C ag) (yM ik.fn rfl fun _ _ _ _ _ _ _=>rfl)
 have dk:=QQq im (Rw im.fn B C ag) (DL im.fn rfl fun _ _ _ _ _ _ _ _ _=>rfl)
 have cw:=QQq cy (To cy.fn B C ag) (QL cy.fn rfl fun _ _ _ _ _ _ _ _ _ _=>rfl)
 have ie:=QQq io (Sj io.fn B C gg) (QL io.fn rfl fun _ _ _ _ _ _ _ _ _ _=>rfl)
 have az:=QQq dz (Tg dz.fn B C cr dm) (nK dz.fn rfl fun _ _ _ _ _ _ _ _=>rfl)
 have kc:=QQq kg (Zw kg.fn B C i5) (nK kg.fn rfl fun _ _ _ _ _ _ _ _=>rfl)
 have dr:=QQq dL (Tr dL.fn B C ag bt) (nK dL.fn rfl fun _ _ _ _ _ _ _ _=>rfl)
 have gj:=QQq gq (Sl gq.fn B C aj ag dk) (QK gq.fn rfl fun _ _ _ _ _ _ _ _ _ _ _ _=>rfl)
 have ig:=QQq ip (Rj ip.fn B C aj ag cw) (Fi ip.fn rfl fun _ _ _ _ _ _ _ _ _ _ _ _ _=>rfl)
 have jm:=QQq jq (Ph jq.fn B C cr gi az kc) (nK jq.fn rfl fun _ _ _ _ _ _ _ _=>rfl)
 have bv:=QQq bw (Tv bw.fn B C aj ag gj) (QK bw.fn rfl fun _ _ _ _ _ _ _ _ _ _ _ _=>rfl)
 have fz:=QQq jr (Qa jr.fn B C gk az jm) (nK jr.fn rfl fun _ _ _ _ _ _ _ _=>rfl)
 exact(Hi (Ay (st:=qN) D0 D2 D3) B C aj ag dq bt ic ie dr ig bv fz).imp Iv
theorem walk {l:Cy}{q:bP}{k9:List aE}{XP:(aE->Option aC)->aY->Prop}{YP:bG->aY->Prop}{d:DefRec}{K:Params->aM}(hn:l.most=aa 63)(yt:d.params.defaults=[])
  (hY:∀ (w:bG) (h:aY),YP w h->(K w.params).In h)
  (F:∀ (w:bG) (mg:aE->Option aC) (fa:aD) (h:aY),(K w.params).In h->h.Ns eZ mg->mg d.name=aa (.ref fa) ->
   ∃ fd:jH,(∀ (s:aH) (u:aC),BindsTo s fd ⟨[u],[]⟩ [("_law_script",u)])/\∀ base:aY,(K w.params).In base->base.Ns eZ mg->FnOk l.prog w (K w.params) mg base gv 6 fa fd ["_law_script"] (GX (K w.params))) :
  PySem.W.WalkO q k9 XP YP l.row.toRowW d [] (fun f vs=>PySem.call f vs):=
 L2.Bbp (n:=63) (k:=6) (x:="_law_script") (CX:=fun _=>gv) (sp:=fun w=>GX (K w.params)) hn (by decide) yt ⟨rfl,by decide,by decide⟩ hY F (fun _ _ a ns hl _ hS=>⟨a,ns,rfl,hS,hl,fun _=>rfl⟩) fun _ _ _ _ _ z=>z
end Aw
namespace PySem.W.Fast
def tw4328030775807813911:=0
def tw5579694018339706156:=0
def tw6503003301246631570:=0
def tw18038047928417077375:=0
def tw12235376604773172562:=0
def tw3806160121244201601:=0
def tw5430752512819851347:=0
def tw1072840439000079215:=0
def tw15929375726044668448:=0
def tw17678799482065937269:=0
def tw7018449895691648210:=0
def tw734319989815653991:=0
def tw3485883065218228900:=0
def tw5869119327668287557:=0
def tw9558185075718818521:=0
def tw9705598136718457749:=0
def tw16890117202718657940:=0
def tw1235786238751515321:=0
def tw18030045022241190555:=0
def tw7286312148419316456:=0
def tw12411010147984487507:=0
def tw6188192722544123810:=0
def tw16769657720687992132:=0
def tw6955021041213255242:=0
def tw10500003032304274549:=0
def tw9563895580532235639:=0
def tw13631458406626814300:=0
def tw2948911245457240080:=0
def tw8637908198394240873:=0
def tw11698348941298514561:=0
def tw2337470474965359619:=0
def tw15734705090007964232:=0
def tw1263889668263931946:=0
def tw12344987875895516933:=0
def tw16921575742308232397:=0
def tw17499007647133202076:=0
def tw8315637704736450247:=0
def tw6185505872222633567:=0
def tw12698189270340270210:=0
def tw12441435880206407775:=0
def tw13863195099520806264:=0
def tw4027456681472680926:=0
def tw5843994268128973090:=0
def tw6385921015968690304:=0
def tw41986211525642886:=0
def tw2142703709713367039:=0
def tw15596314206104238435:=0
def tw13849034083620693910:=0
def tw17817129395770552677:=0
def tw13610036334695636362:=0
def tw1863687334843194223:=0
def tw517279740459793362:=0
def tw6594691991457738641:=0
def tw1975212489694477057:=0
def tw16496126063247678207:=0
def tw16436940615032614467:=0
def tw8913129300961290451:=0
def tw375746578746416283:=0
def tw16075996133209055521:=0
def tw12108671143015472636:=0
def tw5246496394614259148:=0
def tw16729238805139360066:=0
def tw4857798666364952323:=0
def tw1757443017717936774:=0
def tw1532161119727702368:=0
def tw5571013542229199527:=0
def tw109869333656830132:=0
def tw16282428636756444719:=0
def tw14328473818760570965:=0
def tw11322460573657267352:=0
def tw10012518898596967962:=0
def tw5036450132953507819:=0
def tw3163245557911241225:=0
def tw5039984707472606627:=0
def tw9875262317539788060:=0
def tw10122284325227663991:=0
def tw3587325076068066392:=0
def tw14141720579401406002:=0
def tw9980096678322112390:=0
def tw4679197081724328044:=0
def tw16109705009802135947:=0
def tw2986029846776091237:=0
def tw8780532881131867862:=0
def tw10889314697399706269:=0
def tw12501243102317025867:=0
def tw11261789253705283471:=0
def tw684665966832811080:=0
def tw9918160784895770828:=0
def tw2792881785772041621:=0
def tw18406914803041228484:=0
def tw5148409243767982394:=0
def tw4002747876766984566:=0
def tw17075612645247901636:=0
def tw9660300213977328213:=0
def tw8561228980344249133:=0
def tw2731270035064274640:=0
def tw1685468782401129544:=0
def tw5631273760435063215:=0
def tw8431629286078133142:=0
def tw17877841697659919498:=0
def tw3212930401396573876:=0
def tw3005686799796404019:=0
def tw18317174390196839759:=0
def tw5091312934332257313:=0
def tw11346091841836500506:=0
def tw7572383684894636200:=0
def tw16459864951371050038:=0
def tw415077979417029077:=0
def tw12760250506065284908:=0
def tw16070801914791969319:=0
def tw12172166005182137006:=0
def tw24533436860724083:=0
def tw8007183276659907904:=0
def tw7563281915153762624:=0
def tw11179248630730459868:=0
def tw8430404738718950224:=0
def tw17448423018150825545:=0
def tw14815680765307504174:=0
def tw6327627745719720350:=0
def tw17495024614093642796:=0
def tw3935792791242209254:=0
def tw5829288355603941230:=0
def tw14688352742992321503:=0
def tw5744053447644415571:=0
def tw5790649115507114245:=0
def tw12013116469811069386:=0
def tw14555660171781745239:=0
def tw2639923808337485430:=0
def tw4637928693623533453:=0
def tw6684727804034762519:=0
def tw5542247282101387586:=0
def tw10685745065709524736:=0
def tw12539776690423151538:=0
def tw12816009747990210841:=0
def tw964500365714103289:=0
def tw12704319440422327005:=0
def tw6260214346246305943:=0
def tw10255178896404579279:=0
def tw15928919182170086033:=0
def tw16051262434492330341:=0
def tw11842192360725615115:=0
def tw16277233527104591628:=0
def tw17905218795785753587:=0
def tw13040095744468465497:=0
def tw9096729691938366723:=0
def tw18077807355270358061:=0
def tw2719453612287490201:=0
def tw10296702529949224034:=0
def tw8825407254013523100:=0
def tw900062060677811879:=0
def tw3744378983041588639:=0
def tw14904385235450163680:=0
def tw9261460359097148026:=0
def tw8352966809239621633:=0
def tw11933861113208038529:=0
def tw11571551531596781921:=0
def tw8599698135920501849:=0
def tw2240550927391104682:=0
def tw2065005443138235939:=0
def tw12283639142546201942:=0
def tw15397882780977756157:=0
def tw1876010601931118850:=0
def tw1807911537214878476:=0
def tw9297223653929791383:=0
def tw11205163319448749467:=0
def tw13384555978224293808:=0
def tw16196511771906627612:=0
def tw14631566792176407179:=0
def tw15453056205622951586:=0
def tw6904385709114797638:=0
def tw14534775324211260029:=0
def tw12275131273483482850:=0
def tw3306594638923909689:=0
def tw646532418322166139:=0
def tw13685967464132874152:=0
def tw2663159399930409625:=0
def tw816419410741015004:=0
def tw5396978191843023667:=0
def tw13496369575154790155:=0
def tw11904862125245936160:=0
def tw15760648484978183586:=0
def tw14347351609848106772:=0
def tw8883130409966422589:=0
def tw4862952039838419294:=0
def tw202037563318964570:=0
def tw479971880779519857:=0
def tw3088721841341501558:=0
def tw9262919737168963100:=0
def tw15668663291244229280:=0
def tw17573102190695112107:=0
def tw1520733691535244993:=0
end PySem.W.Fast
open PySem PySem.W PyProof.Rows
set_option maxRecDepth 100000 in
set_option maxHeartbeats 0 in
theorem PySem.Challenge.cw_askwithin_k19_whole_walk_holds : PySem.Challenge.rw_askwithin_k19_whole_walk.Holds := by
 w_on;o_law;k_head;(case hw=>w_witness2)
 k_fill
 refine Aw.walk (l:=PySem.Challenge.rw_askwithin_k19_whole_walk) rfl rfl (fun w h Y=>PySem.W.kIn_of Y) ?F
 case F=>
  intro w mg fa h KX G yu;refine' Aw.all_mk KX G yu (Aw.Ae2 ?_ ?_ ?_ ?_) (Aw.Ae2 ?_ ?_ ?_ ?_) (Aw.Ae2 ?_ ?_ ?_ ?_) (Aw.Ae2 ?_ ?_ ?_ ?_) (Aw.Ae2 ?_ ?_ ?_ ?_) (Aw.Ae2 ?_ ?_ ?_ ?_) (Aw.Ae2 ?_ ?_ ?_ ?_) (Aw.Ae2 ?_ ?_ ?_ ?_) (Aw.Ae2 ?_ ?_ ?_ ?_) (Aw.Ae2 ?_ ?_ ?_ ?_) (Aw.Ae2 ?_ ?_ ?_ ?_) (Aw.Ae2 ?_ ?_ ?_ ?_) (Aw.Ae2 ?_ ?_ ?_ ?_) (Aw.Ae2 ?_ ?_ ?_ ?_) (Aw.Ae2 ?_ ?_ ?_ ?_) (Aw.Ae2 ?_ ?_ ?_ ?_) (Aw.Ae2 ?_ ?_ ?_ ?_) (Aw.Ae2 ?_ ?_ ?_ ?_) (Aw.Ae2 ?_ ?_ ?_ ?_) (Aw.Ae2 ?_ ?_ ?_ ?_) (Aw.Ae2 ?_ ?_ ?_ ?_) (Aw.Ae2 ?_ ?_ ?_ ?_) (Aw.Ae2 ?_ ?_ ?_ ?_) (Aw.Ae2 ?_ ?_ ?_ ?_) (Aw.Ae2 ?_ ?_ ?_ ?_) (Aw.Ae2 ?_ ?_ ?_ ?_) (Aw.Bgy ?_ ?_ ?_ ?_)  ?_ ?_ ?_ ?_ ?_ ?_ ?_ ?_ ?_ ?_ ?_ ?_ ?_ ?_ ?_ ?_ ?_ ?_ ?_ ?_ ?_ ?_
  any_goals k_is
