import PyProof.Rows.All
import Wide.All
import OpenK.AllK
import Wide.FinOn
import Lean
import PyProof.EqAt
import PyProof.EqKinds
import PyProof.TupleCall
import PyProof.TupleOfStr
import PyProof.ListStr
import KE.KSortTup
import PyProof.Rows.SortShellK
import PyProof.MeetsSeq2
import PyProof.FactsAll.list_4
import PyProof.AutoSeq1
import PyProof.ConsumeWalk
import PyProof.ZipIter
import PyProof.TupleIter
import PyProof.SetKind
import PyProof.Rows.SetFrom
import PyProof.AutoListH
import PyProof.ListNew
import PyProof.FactsAll.list_2
import PyProof.ListRange
import PyProof.CollectWalk
import PyProof.FactsAll.tuple_2
import PyProof.Rows.SortRunsK
import PyProof.AttrMissHeap
import PyProof.FactsAll.zip_1
import PyProof.WalksMore
import PyProof.SeqI3
import PyProof.EnumMake
import PyProof.MeetsDictList
import PySem.Challenge.RW_askwithin_k17_answers_of_alternatives
open PySem renaming PyData->aA,Value->aC,Addr->aD,Str->aE,wpAny_bind->aF,Shared->aH,wpAny->aJ,model->aO,wpAny_pure->aQ,Heap->aZ,Expr->bF,World->bH,Obj->bJ,Program->bS,Around->cD,eval->cE,starEach->cH,Stmt->cV,Pos->dA,rawInt->dZ,mainGlobals->eX,Paired->fE,SetTable->fJ,Sem->fV,pyNext->iA,backTo->iJ,wpAny_holding->iX,wpAny_call_entry->iY,FuncData->jD,boot_len->jG,sysModules->kB,compareOp->kC,Scope->kE,wpAny_field->kK,wpAny_seqItems->lF,wpAny_rule->lG,Reads->lH,wpAny_newObj_type->mC,wpAny_mono->mD,IsPair->mG,sizeLine_eq->mS,binaryOp->mT,assign->mU,ReadsAll->mW,Keyword->nA,wpAny_setField_rec->nW,wpAny_callSpecial?_slot->nX,swapsWith->nY,field->nZ,assignEach->oA,Spec->oD,NameKind->oE,wpAny_ite_split->pB,pyIter->pC,holding->pD,codeAny_builtin->pE,wpAny_attempt->pY,plainId_quiet->pZ,merged->qA,codeAny->qB,bootBuiltins->qC,IsZip->qH,wpAny_setState_of->rB,DictEntry->rJ,wpAny_typeOf->sL,wpAny_isInstance->sM,attributeBase->sO,stored->uI,foldedSetIterable->uJ,firstArgMember->uK,bindArgs->uL,wpAny_updateSeq->xF,wpAny_specialOf->xG,valueAt->xH,updateSeq->xI,sliceBounds->xJ,relabel->xM,keywordEach->xN,callerA->xO,backToKw->xP,wpAny_setEntries_of->AY,wpAny_forIn_list->AZ,wpAny_fieldsOf->BA,wpAny_askSetting->BB,typeLookup->BC,setField->BD,seqItems?->BE,behindInMarks->BG,wpAny_pyIter_slot->GE,wpAny_passesOwn->GF,wpAny_of_eq->GG,wpAny_newList->GH,wpAny_letGo->GI,typeLookup_type->GJ,ofAClassStatement->GK,isSubtype_stop->GM,hashByValue->GN,codeAny_mono->GO,builtinLookup_eq_fast->GP,mem_of_lookup->GR,Builtin->GS,wpAny_typeNameOf_keyiter->NB,wpAny_typeNameOfWhole_keyiter->NC,wpAny_throw->ND,wpAny_setField->NF,wpAny_pyIter_list->NG,wpAny_onRaise->NH,wpAny_newTuple->NI,wpAny_handled->NJ,wpAny_dictEntries->NK,subscripted->NL,letOwnedTupleGo->NM,call_meetsIn->NN,Fin->NP,wpAny_updateSeq_pair->Bm,wpAny_tupleItemsOf->Bn,wpAny_truthy_bool->Bo,wpAny_pyIter_zip->Bp,wpAny_Call_Name_kw->Bq,codeAny_extend_loopS->Br,SetTable->Ca
open PySem.W renaming Frag->aM,nsIn->iE,mg_none_of->jN,fnOf->lW,kia_one->oC,keepIn->uO,codeIn->BH,mg_of->Bs,methodObj->Bt,lookIn->Bu,kitx_list->Bv,kitx_dict->Bw,kitOne->Bx,instObj->By,OpenLaw->Bz
open PySem.PyData renaming int->aR,str->bD,eqv->bQ,depthAll->bX,depth->dQ,canLay0->dS,tuple->iF,eqvAll->jO,list->kN,bool->qE,canLayAll0->BI,strOk->NS,dict->NT
open PyProof.Rows renaming Keyed->aW,arrOf->bC,wpS_bind->bK,SortSt->bT,wpS_pure->cK,wpS->cP,pendingOf->cY,KeyKind->gX,seqObj->hX,elem'->kL,SortKind->oB,wpS_get->pW,wpS_forRange->pX,envOfC->rC,wpS_mono->sJ,failedOf->sN,AllBare->sU,wpS_modify->uG,wpS_lift->uH,boot_tuple->uP,reverseSlice'->xK,listUpdate_at->GL,setArr->GT,callWith_type1->GU,boot_str->GV,boot_list->NR,KK_mirror_equal->OP,boot_sorted->Zl
open Or renaming inl->bA,inr->bB
open Nat renaming le_refl->bZ,ne_of_lt->dM,zero_le->dU,lt_of_lt_of_le->iL,ne_of_gt->jU,le_trans->jV,lt_irrefl->kQ,lt_succ_of_lt->pF,le_of_lt->sQ,lt_or_ge->uS,mod_lt->xQ,min_eq_left->xR,lt_succ_self->xS,pow_succ->BM,mul_assoc->BN,add_assoc->BO,mul_add->GX,lt_trichotomy->GY,le_succ->GZ,le_add_right->HA,zero_add->NW,mul_mul_mul_comm->NX,le_of_eq->NY,add_zero->NZ,mul_left_comm->Cc,mul_le_mul->Cd,lt_of_le_of_lt->Ce,le_mul_of_pos_right->Zm
open PySem.Heap renaming lt_size->cC,get?_push_of_some->cL,get?_push_size->eJ,SameBut->oH,size_push->qJ,get?_update_self->qK,get?_update_other->sT,ExtBut->OQ
open List renaming mem_cons_self->cF,mem_map->cN,mem_cons_of_mem->cS,getElem?_eq_some_iff->dD,range->dP,mem_singleton->eB,mem_cons->eD,map_cons->eF,getElem?_eq_getElem->eW,length_map->eY,size_toArray->fP,getElem?_map->fW,mem_of_getElem?->gL,all_eq_true->gQ,map_map->gY,length_cons->iB,mem_range->jB,map_append->jC,find?_cons->kF,mem_append->kR,nodup_cons->mE,append_assoc->mF,take_append_drop->mY,length_append->mZ,foldl_cons->oF,toArray->pG,lookup_cons->pH,length_take->pI,getElem?_cons_succ->pJ,mem_append_right->qF,getElem_mem->qG,getElem?_set_self->rE,getElem?_set_ne->rF,append_nil->rG,mem_flatten->sR,take_of_length_le->uT,pairwise_map->uU,mem_filterMap->uV,getElem?_append_right->uW,flatten_cons->uX,zipWith->xT,take_add_one->xU,replicate->xV,pairwise_iff_getElem->xW,getElem?_of_mem->xX,getElem?_eq_none->xY,getElem?_cons_zero->xZ,getElem?_append_left->yA,eq_nil_of_length_eq_zero->yB,zip_cons_cons->BP,perm_append_comm->BQ,pairwise_append->BR,nodup_append->BS,nil_append->BU,mem_flatMap->BV,map->BW,flatMap_cons->BX,ext_getElem?->BY,drop_eq_nil_of_le->BZ,drop_eq_getElem_cons->CA,cons_lt_cons_iff->CB,any_cons->CC,not_mem_nil->HB,mem_of_find?_eq_some->HC,map_congr_left->HD,lookup->HE,length_zip->HF,length_range->HG,getElem?_drop->HH,forIn_cons->HJ,foldl_append->HK,find?_eq_none->HL,drop_zero->HM,any_eq_true->HN,take_sublist->OC,nodup_nil->OD,mem_of_mem_take->OE,mem_filter->OG,length_singleton->OH,length->OI,getElem?_take->OJ,getElem?_range->OK,forIn_nil->OL,filter_eq_self->OM,filterMap_cons->ON,zipIdx_nil->Cf,zipIdx_cons->Cg,take_length->Ci,range_succ_eq_map->Cj,of_mem_zip->Ck,nodup_range->Cm,mem_or_eq_of_mem_set->Cn,mem_iff_getElem->Co,map_take->Cp,length_filterMap_le->Cq,getElem_of_mem->Cr,foldl_flatMap->Cs,find?_some->Ct,extract_eq_take_drop->Cu,ext_getElem->Cv,drop_drop->Cw,cons_append->Cy,pairwise_filterMap->Zn,length_eraseIdx_of_lt->Zo,length_eq_zero_iff->Zp,getElem?_take_of_lt->Zq,getD_eq_getElem?_getD->Zr,findIdx?_eq_some_iff_getElem->Zs
open PySem.Value renaming none->cZ,ref->fO,type->jA,str->uM,int->uN
open Option renaming bind_some->dB,map_eq_some_iff->kO,map_some->uR,join_some->BJ,isSome_iff_exists->NU
open Bool renaming false_eq_true->fA,and_eq_true_iff->kT,false_ne_true->oJ,eq_iff_iff->pK,not_true->qL,and_self->yH,and_eq_true->HS,true_and->Dl
open PySem.Obj renaming mapSeq->gK,putSet->BL,data_mapFields->NV
open PySem.PassesOwn renaming never->iG
open Option.some renaming inj->iH,injEq->GW
open Sum renaming inr->iK,inl->sP
open PySem.NameKind renaming free->iP
open Array renaming length_toList->jE,getElem?_eq_getElem->lJ,getElem?_toList->lX,toList_append->pL,getElem?_eq_some_iff->vC,perm_iff_toList_perm->yI,toList_push->CF,forIn_toList->CG,toList_filterMap->PB,getElem?_eq_none->PC,toList_reverse->Dm,toList_inj->Dn,toList_extract->Do,getD_eq_getD_getElem?->Dp,getElem?_setIfInBounds->Zx
open PyProof.Rows.KeyOrd renaming kle_trans->kG,kle_of_klt->oG,kle_refl->sS
open PySem.Str renaming ofString->kM,join->mV
open Ne renaming symm->kP
open Int renaming eq_ofNat_of_zero_le->kS,toNat_natCast->mH,ofNat->qI
open PySem.Paired renaming length->mX
open PySem.Builtin.SmallTypes renaming nextOf->nB,ownedTupleIsFree->vB,ownedTupleHandOut->Zw
open ForInStep renaming yield->oI,done->yD
open PySem.Around renaming under_plainId->qM
open True renaming intro->rD
open False renaming elim->rH
open PySem.Builtin.List renaming listExtendWith->rK,listSameRef->yG,listLengthHint->HR,listTooLong->Dk
open PySem.PyData.tuple renaming inj->uQ
open PySem.F renaming slot_zip_next->uY,called_set->uZ,slot_tuple_hash->HP,slot_dict_keyiterator_next->HQ,plainAttrs_list->NQ,slot_tuple_iterator_next->OR,slot_set_iter->OS,plain_list_iadd->OT,entry_zip_next->OU,args_zip_next_1->OV,slot_dict_get->Cb,slot_zip_getattribute->Dc,plain_extend_loop->De,slot_list_index->Zf,slot_dict_setdefault->Zg,plainAttrs_dict->Zh,entry_tuple_add->Zi,args_tuple_add_2->Zj,args_dict_get_3->Zk,entry_dict_keyiterator_next->Zt,args_dict_keyiterator_next_1->Zu
open PySem.Heap.SameBut renaming update->yC
open PySem.Expr renaming Call->yE
open Classical renaming byContradiction->yF,choose_spec->Dg,propDecidable->Zv
open PySem.Builtin.Tuple renaming tupleHashOf->CD
open PySem.SetTable renaming fresh->GQ,fill->NO
open PySem.MeetsSeq renaming plain_index_loop->OA,EqGives->OB
open List.Perm renaming refl->OO
open PySem.Calls renaming spliced_cons->OX,call_function_entry->OY,spliced_nil->Dh,callWith_builtin->Di
open PySem.Builtin.Frozenset renaming sizeOf->OZ
open List.Pairwise renaming imp_of_mem->Cz
open List.Nodup renaming length_le_of_subset->Da
open PyProof.Rows.F renaming plain_set_update_loop->Dd
open PySem.Builtin.Str renaming occurrences->Dj
theorem av {α β:Type}{x:Option α}{f:α->Option β}{b:β}(h:x.bind f=some b) : ∃ a,x=some a/\f a=some b:=Option.bind_eq_some_iff.mp h
set_option Elab.async false
set_option bootstrap.genMatcherCode false
set_option genSizeOfSpec false
set_option linter.all false
set_option maxRecDepth 100000
set_option exponentiation.threshold 2000
noncomputable section
set_option hygiene false in
local macro_rules|`(tactic|rw[00])=>`(tactic|exact hr.mono (by decide))
set_option hygiene false in
local macro_rules|`(tactic|rw[0])=>`(tactic|decide +kernel)
set_option hygiene false in
local macro_rules|`(tactic|rw[900])=>`(tactic|exact⟨rfl,rfl,rfl,by decide +kernel,rfl,by decide +kernel,by decide +kernel⟩)
set_option hygiene false in
local macro_rules
|`(tactic|rw[1])=>`(tactic|(
 intro X hP hw hK hc i ad s σ H E I hf st hg;subst hP hw hK))
|`(tactic|rw[2])=>`(tactic|(
 have hu:=hU hr;have hv:=hV hr))
|`(tactic|rw[3])=>`(tactic|intro ad s σ H x y v u Q I rx ry h)
|`(tactic|rw[4])=>`(tactic|obtain⟨P,ρ,d,hP,rs,ef,k⟩:=gh)
|`(tactic|rw[5])=>`(tactic|intro ad s σ H xs us Q I r h)
|`(tactic|rw[6])=>`(tactic|(
 obtain⟨v,rfl,r'⟩:=jT r;replace r:=r'))
|`(tactic|rw[7])=>`(tactic|rcases hd with⟨r,e,hr⟩|⟨e,hd⟩)
|`(tactic|rw[8])=>`(tactic|(
 refine aF (rB S.get S.data S.fine.fits ?_);dsimp only))
|`(tactic|rw[9])=>`(tactic|intro ad s σ H Q I h)
|`(tactic|rw[10])=>`(tactic|(
 obtain⟨d,e,rfl⟩:=this;exact e))
|`(tactic|rw[11])=>`(tactic|obtain⟨B0,ρ,fp,o,S,ef,k⟩:=gh)
|`(tactic|rw[12])=>`(tactic|obtain⟨f0,f1,f2,f3,f4,f5⟩:=hf it (by simp))
set_option hygiene false in
local macro_rules
|`(tactic|rw[13])=>`(tactic|dsimp only)
|`(tactic|rw[14])=>`(tactic|refine iV (n:=1) (d:=.list []) rfl (by simp) ?_)
|`(tactic|rw[15])=>`(tactic|obtain⟨p,xs,Fs,e,hp,rfl,q⟩:=h)
|`(tactic|rw[16])=>`(tactic|rcases eD.mp m with rfl|m)
|`(tactic|rw[17])=>`(tactic|(
 obtain⟨t,rfl⟩:=rx;obtain⟨t',rfl⟩:=ry))
|`(tactic|rw[18])=>`(tactic|(
 obtain⟨u,rfl,ru⟩:=vals1 r;cases ru))
|`(tactic|rw[19])=>`(tactic|simp only[fA,if_false])
|`(tactic|rw[20])=>`(tactic|simp only[if_true])
|`(tactic|rw[21])=>`(tactic|obtain⟨d,e1,ef⟩:=av ef)
|`(tactic|rw[22])=>`(tactic|refine aF ?_)
|`(tactic|rw[23])=>`(tactic|simp only[qL,fA,if_false])
|`(tactic|rw[24])=>`(tactic|obtain⟨x,H1,I1,r1,q1⟩:=gh)
set_option hygiene false in
local macro_rules
|`(tactic|rw[25])=>`(tactic|subst this)
|`(tactic|rw[26])=>`(tactic|refine jJ rfl ?_)
|`(tactic|rw[27])=>`(tactic|intro ad s σ H D I h)
|`(tactic|rw[28])=>`(tactic|obtain⟨hc,rfl⟩:=dX e)
|`(tactic|rw[29])=>`(tactic|exact this)
|`(tactic|rw[30])=>`(tactic|cases e)
local macro_rules|`(tactic|trivial)=>`(tactic|first|exact bA rfl|exact bB rfl)
open Option renaming some->aa,none->ab
open Bool renaming true->ae,false->af
namespace L2
open PySem PySem.Spec PyProof.Rows
variable {h h' base:aZ}{ks:List aA}{s s':aH}{a b C dx:aD}{xs:List (List aA×aD×aC)}{us:List aC}{x:aE}{u:aC}{o:bJ}{t' i k ep:Nat}{ch fp:List aD}{e c tg:bF}{M:Model}{A:cD}{E Q:aC->aH->Prop}{pos p:dA}{ad:List (aD×bJ)}{K:aM}{f:aC->aC->fV aC}{es:List bF}{op:CmpOp}{mg:aE->Option aC}{ps:List aE}{prog:bS}
instance decEqData:DecidableEq aA:=fun a b=>Zv (a=b)
mutual
def bO:aA->Bool
 |.int _=>ae
 |.str x=>dS (.str x)
 |.tuple ds=>cA ds
 |_=>af
def cA:List aA->Bool
 |[]=>ae
 |d::r=>bO d&&cA r
end
mutual
theorem KJ:∀ d:aA,bO d=ae->d.canLay0=ae
 |.int _,_=>by simp[dS]
 |.str x,h=>by simpa [bO] using h
 |.tuple ds,h=>by
  simp only[dS];exact UY ds (by simpa [bO] using h)
 |.none,h=>by simp[bO] at h
 |.bool _,h=>by simp[bO] at h
 |.list _,h=>by simp[bO] at h
 |.dict _,h=>by simp[bO] at h
theorem UY:∀ ds:List aA,cA ds=ae->BI ds=ae
 |[],_=>by simp[BI]
 |d::r,h=>by
  have h':bO d=ae/\cA r=ae:=by simpa [cA] using h
  simp only[BI,KJ d h'.1,UY r h'.2,yH]
end
mutual
theorem KG:∀ x y:aA,bO x=ae->bO y=ae->bQ x y=decide (x=y)
 |.int i,.int j,_,_=>by
  by_cases e:i=j
  ·subst e;simp[bQ]
  ·have:¬ aR i=.int j:=fun q=>e (PyData.int.inj q)
   simp[bQ,e]
 |.str i,.str j,_,_=>by
  by_cases e:i=j
  ·subst e;simp[bQ]
  ·simp[bQ,e]
 |.tuple xs,.tuple ys,h1,h2=>by
  have e:=zT xs ys (by simpa [bO] using h1) (by simpa [bO] using h2)
  simp only[bQ,e];by_cases q:xs=ys
  ·subst q;simp
  ·have:¬ iF xs=.tuple ys:=fun z=>q (uQ z)
   rw[decide_eq_false q,decide_eq_false this]
 |.int _,.str _,_,_=>by simp[bQ]
 |.int _,.tuple _,_,_=>by simp[bQ]
 |.str _,.int _,_,_=>by simp[bQ]
 |.str _,.tuple _,_,_=>by simp[bQ]
 |.tuple _,.int _,_,_=>by simp[bQ]
 |.tuple _,.str _,_,_=>by simp[bQ]
 |.none,_,h,_=>by simp[bO] at h
 |.bool _,_,h,_=>by simp[bO] at h
 |.list _,_,h,_=>by simp[bO] at h
 |.dict _,_,h,_=>by simp[bO] at h
 |.int _,.none,_,h=>by simp[bO] at h
 |.int _,.bool _,_,h=>by simp[bO] at h
 |.int _,.list _,_,h=>by simp[bO] at h
 |.int _,.dict _,_,h=>by simp[bO] at h
 |.str _,.none,_,h=>by simp[bO] at h
 |.str _,.bool _,_,h=>by simp[bO] at h
 |.str _,.list _,_,h=>by simp[bO] at h
 |.str _,.dict _,_,h=>by simp[bO] at h
 |.tuple _,.none,_,h=>by simp[bO] at h
 |.tuple _,.bool _,_,h=>by simp[bO] at h
 |.tuple _,.list _,_,h=>by simp[bO] at h
 |.tuple _,.dict _,_,h=>by simp[bO] at h
theorem zT:∀ xs ys:List aA,cA xs=ae->cA ys=ae->jO xs ys=decide (xs=ys)
 |[],[],_,_=>by simp[jO]
 |[],_::_,_,_=>by simp[jO]
 |_::_,[],_,_=>by simp[jO]
 |x::xs,y::ys,h1,h2=>by
  have A6:bO x=ae/\cA xs=ae:=by simpa [cA] using h1
  have wu:bO y=ae/\cA ys=ae:=by simpa [cA] using h2
  simp only[jO,KG x y A6.1 wu.1,zT xs ys A6.2 wu.2];by_cases e:x=y
  ·subst e;by_cases q:xs=ys
   ·subst q;simp
   ·simp[q]
  ·simp[e]
end
mutual
def eM (w:bH):aA->Int
 |.int i=>hashInt i
 |.str x=>hashStr w x
 |.tuple ds=>reduceHash (CD (mK w ds))
 |_=>0
def mK (w:bH):List aA->List Int
 |[]=>[]
 |d::r=>eM w d::mK w r
end
mutual
def qN:aA->Nat
 |.tuple ds=>oQ ds+1
 |_=>1
def oQ:List aA->Nat
 |[]=>0
 |d::r=>qN d+oQ r
end
theorem YO (a b:List aA):oQ (a++b)=oQ a+oQ b:=by
 induction a with
 |nil=>simp[oQ]
 |cons x r ih=>simp only[Cy,oQ,ih];omega
theorem YW (w:bH)(a b:List aA):mK w (a++b)=mK w a++mK w b:=by
 induction a with
 |nil=>rfl
 |cons x r ih=>simp only[Cy,mK,ih]
section
variable {w:bH}
theorem mP{v:aC}{as:List aD}(r:lH h v (.tuple ks) as):∃ a o vs n,v=.ref a/\h.get? a=aa o/\o.cls=.type "tuple" /\ o.data=.seq vs n/\mW h vs.toList ks as:=by
 cases r with
 |tuple h1 h2 h3 h4=>exact⟨_,_,_,_,rfl,h1,h2,h3,h4⟩
theorem MO{as:List aD}(r:lH s.heap (.ref a) (.tuple ks) as):s.TypeIs (.ref a) "tuple":=by
 obtain⟨a',o,vs,n,e,h1,h2,_⟩:=mP r;rw[30];exact⟨o,h1,h2⟩
mutual
theorem WQ:∀ (d:aA) {A:cD} {E:aC->aH->Prop} {s:aH} {v:aC} {as:List aD} {Q:Int->aH->Prop},A.units+d.depth<cLine->bO d=ae->lH s.heap v d as ->
  Q (eM w d) { s with toks:=s.toks+qN d }->aJ (aO prog w) A (pyHash v) Q E s
 |.int i,A,E,s,v,as,Q,hu,hk,r,h=>by
  cases r with
  |int _ t=>exact wpAny_pyHash_int (by simpa [eM,qN] using h)
 |.str x,A,E,s,v,as,Q,hu,hk,r,h=>by
  cases r with
  |str _ t=>exact wpAny_pyHash_str (by simpa [eM,qN] using h)
 |.tuple ks,A,E,s,v,as,Q,hu,hk,r,h=>by
  obtain⟨a,o,ce,n,rfl,ho,hc,hd,hi⟩:=mP r;have hT:s.TypeIs (.ref a) "tuple":=⟨o,ho,hc⟩;have l5:A.units+(bX ks+1)<cLine:=by simpa [dQ] using hu
  unfold pyHash
  first|unfold pyHashByItsType|skip
  first|refine aF (wpAny_cRoomFor_or (.inr (by omega)) ?_)|skip
  refine aF (xG hT HP.lookup ?_);show aJ _ _ (if (aa (Value.builtin "tuple.__hash__")==aa cZ)=ae then _ else _) Q E s
  rw[if_neg (by rw[beq_builtin_none];exact oJ)]
  refine aF (xG hT HP.lookup ?_);show aJ _ _ (callSpecialIfBoundUnlessNone? (.ref a) "__hash__" _>>=_) Q E s;refine aF (wpAny_callSpecialIfBoundUnlessNone?_slot hT HP (iY HP hT F.entry_tuple_hash ?_ (F.args_tuple_hash_1 _)));show aJ _ _ (Builtin.Tuple.tupleItemsOf (.ref a)>>=_) _ _ s;refine aF (Bn ho hd ?_);rw[22];rw[← CG];refine AZ _
   (fun rest (b:Array Int) s'=>∃ done a6 bs,ks=done++a6/\mW s.heap rest a6 bs/\b.toList=mK w done/\s'={ s with toks:=s.toks+oQ done })
   _ ?_ ?_ _ _ ⟨[],ks,as,rfl,hi,rfl,rfl⟩
  ·rintro x rest b s' ⟨done,a6,bs,e,hl,hb,rfl⟩;cases hl with
   |@cons _ _ d ds D9 tj h1 m7=>
    have hm:d∈ks:=by rw[e];exact qF _ cF
    have dh:cA ks=ae:=by simpa [bO] using hk
    refine aF (XR ks hm (A:=A.in1) (by
     have:A.in1.units=A.units+1:=rfl;omega) dh (s:={ s with toks:=s.toks+oQ done }) h1 ?_)
    first
     |exact aQ ⟨done++[d],ds,tj,by simp[e],m7,by simp[hb,YW,mK],by simp[YO,oQ,BO]⟩
     |exact aF (aQ (aQ ⟨done++[d],ds,tj,by simp[e],m7,by simp[hb,YW,mK],by simp[YO,oQ,BO]⟩))
  ·rintro b s' ⟨done,a6,bs,e,hl,hb,rfl⟩;cases hl;rw[rG] at e;subst e;show aJ _ _ (retInt (CD b.toList)) _ _ _;rw[hb];refine wpAny_ret_mkInt ?_;show aJ _ _ (if (decide (-(2:Int)^63≤CD (mK w ks))&&decide (CD (mK w ks)<2^63))=ae then _ else _) Q E _
   simp only[eM,qN] at h;unfold reduceHash at h;by_cases hr:(decide (-(2:Int)^63≤CD (mK w ks))&&decide (CD (mK w ks)<2^63))=ae
   ·rw[if_pos hr];rw[if_pos hr] at h;exact aQ (by simpa [BO] using h)
   ·rw[if_neg hr];rw[if_neg hr] at h;exact aF (lG (aQ (by simpa [BO] using h)))
 |.none,A,E,s,v,as,Q,hu,hk,r,h=>by simp[bO] at hk
 |.bool _,A,E,s,v,as,Q,hu,hk,r,h=>by simp[bO] at hk
 |.list _,A,E,s,v,as,Q,hu,hk,r,h=>by simp[bO] at hk
 |.dict _,A,E,s,v,as,Q,hu,hk,r,h=>by simp[bO] at hk
theorem XR:∀ (ks:List aA) {d:aA},d∈ks->∀ {A:cD} {E:aC->aH->Prop} {s:aH} {v:aC} {as:List aD} {Q:Int->aH->Prop},A.units+bX ks<cLine->cA ks=ae->lH s.heap v d as ->
  Q (eM w d) { s with toks:=s.toks+qN d }->aJ (aO prog w) A (pyHash v) Q E s
 |[],_,hm,_,_,_,_,_,_,_,_,_,_=>by simp at hm
 |k::ks,d,hm,A,E,s,v,as,Q,hu,hk,r,h=>by
  have dh:bO k=ae/\cA ks=ae:=by simpa [cA] using hk
  have l5:A.units+max k.depth (bX ks)<cLine:=by simpa [bX] using hu
  by_cases e:d=k
  ·exact WQ k (by omega) dh.1 (e ▸ r) (by rw[← e];exact h)
  ·have o8:d∈ks:=by
    rcases eD.mp hm with q|q
    ·exact absurd q e
    ·exact q
   exact XR ks o8 (by omega) dh.2 r h
end
end
section
variable {w:bH}
mutual
theorem EX:∀ (d:aA) (n:Nat) {A:cD} {E:aC->aH->Prop} {s:aH} {v:aC} {as:List aD} {Q:Bool->aH->Prop},d.depth≤n->bO d=ae->lH s.heap v d as ->
  Q ae s->aJ (aO prog w) A (eqIsQuiet n v) Q E s
 |.int i,n,A,E,s,v,as,Q,hu,hk,r,h=>by
  cases r with
  |int _ t=>
   rw[eqIsQuiet_byValue n (by rfl)]
   exact aQ h
 |.str x,n,A,E,s,v,as,Q,hu,hk,r,h=>by
  cases r with
  |str _ t=>
   rw[eqIsQuiet_byValue n (by rfl)]
   exact aQ h
 |.tuple ks,n,A,E,s,v,as,Q,hu,hk,r,h=>by
  obtain⟨a,o,ce,m,rfl,ho,hc,hd,hi⟩:=mP r;have hT:s.TypeIs (.ref a) "tuple":=⟨o,ho,hc⟩;have l5:bX ks+1≤n:=by simpa [dQ] using hu
  obtain⟨n,rfl⟩:∃ m,n=m+1:=⟨n-1,by omega⟩
  have dh:cA ks=ae:=by simpa [bO] using hk
  unfold eqIsQuiet;refine aF (xG hT F.slot_tuple_eq.lookup ?_);show aJ _ _ (isInstance (.ref a) (.type "tuple")>>=_) _ _ s;refine aF (sM hT isSubtype_tuple_tuple ?_);rw[23];refine aF (lF ho hd ?_);rw[22];show aJ _ _ (forIn ce _ _) _ _ s;rw[← CG];refine AZ _ (fun rest r s'=>r.1=ab/\s'=s/\∃ ds bs,mW s.heap rest ds bs/\∀ d∈ds,d∈ks) _ ?_ ?_ _ _ ⟨rfl,rfl,ks,as,hi,fun _ h=>h⟩
  ·rintro v rest r s' ⟨hr,rfl,ds,bs,hl,bx⟩;cases hl with
   |@cons _ _ d ds D9 tj h1 m7=>
    refine aF (XX ks (bx d cF) n (by omega) dh h1 ?_)
    rw[23];exact aQ ⟨rfl,rfl,ds,tj,m7,fun u xk=>bx u (cS _ xk)⟩
  ·rintro⟨r1,r2⟩ s' ⟨hr,rfl,_⟩;simp only at hr;subst hr;exact aQ h
 |.none,n,A,E,s,v,as,Q,hu,hk,r,h=>by simp[bO] at hk
 |.bool _,n,A,E,s,v,as,Q,hu,hk,r,h=>by simp[bO] at hk
 |.list _,n,A,E,s,v,as,Q,hu,hk,r,h=>by simp[bO] at hk
 |.dict _,n,A,E,s,v,as,Q,hu,hk,r,h=>by simp[bO] at hk
theorem XX:∀ (ks:List aA) {d:aA},d∈ks->∀ (n:Nat) {A:cD} {E:aC->aH->Prop} {s:aH} {v:aC} {as:List aD} {Q:Bool->aH->Prop},bX ks≤n->cA ks=ae->lH s.heap v d as ->
  Q ae s->aJ (aO prog w) A (eqIsQuiet n v) Q E s
 |[],_,hm,_,_,_,_,_,_,_,_,_,_,_=>by simp at hm
 |k::ks,d,hm,n,A,E,s,v,as,Q,hu,hk,r,h=>by
  have dh:bO k=ae/\cA ks=ae:=by simpa [cA] using hk
  have l5:max k.depth (bX ks)≤n:=by simpa [bX] using hu
  by_cases e:d=k
  ·exact EX k n (by omega) dh.1 (e ▸ r) h
  ·have o8:d∈ks:=by
    rcases eD.mp hm with q|q
    ·exact absurd q e
    ·exact q
   exact XX ks o8 n (by omega) dh.2 r h
end
mutual
theorem XI(kp:∀ b o vs n,h.get? b=aa o->o.cls=.type "tuple" -> o.data=.seq vs n->h'.get? b=aa o):∀ (d:aA) {v:aC} {as:List aD},bO d=ae->lH h v d as->lH h' v d as
 |.int i,v,as,hk,r=>by
  cases r with
  |int _ t=>exact .int i t
 |.str x,v,as,hk,r=>by
  cases r with
  |str _ t=>exact .str x t
 |.tuple ks,v,as,hk,r=>by
  obtain⟨a,o,ce,m,rfl,ho,hc,hd,hi⟩:=mP r;exact .tuple (kp _ _ _ _ ho hc hd) hc hd (YV kp ks (by simpa [bO] using hk) hi)
 |.none,v,as,hk,r=>by simp[bO] at hk
 |.bool _,v,as,hk,r=>by simp[bO] at hk
 |.list _,v,as,hk,r=>by simp[bO] at hk
 |.dict _,v,as,hk,r=>by simp[bO] at hk
theorem YV(kp:∀ b o vs n,h.get? b=aa o->o.cls=.type "tuple" -> o.data=.seq vs n->h'.get? b=aa o):∀ (ds:List aA) {vs:List aC} {as:List aD},cA ds=ae->mW h vs ds as->mW h' vs ds as
 |[],vs,as,hk,r=>by
  cases r with
  |nil=>exact .nil
 |d::ds,vs,as,hk,r=>by
  have dh:bO d=ae/\cA ds=ae:=by simpa [cA] using hk
  cases r with
  |cons r1 r2=>exact .cons (XI kp d dh.1 r1) (YV kp ds dh.2 r2)
end
def Ac4 (h:aZ)(ks:List aA)(a:aD):Prop:=cA ks=ae/\bX ks≤6/\∃ as,lH h (.ref a) (.tuple ks) as
theorem Ac4.keep(kp:∀ b o vs n,h.get? b=aa o->o.cls=.type "tuple" -> o.data=.seq vs n->h'.get? b=aa o)(k:Ac4 h ks a):Ac4 h' ks a:=
 ⟨k.1,k.2.1,k.2.2.choose,XI kp (.tuple ks) (by simpa [bO] using k.1) k.2.2.choose_spec⟩
def oY (prog:bS)(w:bH):HeapKind prog w (List aA) where
 is:=Ac4
 hash:=fun ks=>eM w (.tuple ks)
 draws:=fun ks=>qN (.tuple ks)
 room:=fun A=>A.units+20<cLine
 inj:=fun {h a x y} hx hy=>by
  obtain⟨k1,_,as,r1⟩:=hx;obtain⟨k2,_,bs,r2⟩:=hy;exact uQ (reads_det (fun _ _ e _=>e) r2 r1).1
 keeps:=fun {h h' k a d o es ep} x ho hd hs=>x.keep fun b ob vs n hb _ kg=>by
  have cf:b≠d:=by
   rintro rfl;rw[ho] at hb;cases hb;rw[hd] at kg;cases kg
  exact(hs.2 b cf).trans hb
 pyHash:=fun {A E s k a Q} hu hk h=>by
  obtain⟨k1,k2,as,r⟩:=hk;exact WQ (.tuple k) (by simp only[dQ];omega) (by simpa [bO] using k1) r h
 eqBool:=fun {A E s x y a b Q} hu hx hy h=>by
  obtain⟨k1,d1,as,r1⟩:=hx;obtain⟨k2,d2,bs,r2⟩:=hy;have e:=KG (.tuple x) (.tuple y) (by simpa [bO] using k1) (by simpa [bO] using k2)
  have e2:decide ((iF x)=.tuple y)=decide (x=y):=by
   by_cases q:x=y
   ·subst q;simp
   ·rw[decide_eq_false q,decide_eq_false (fun z=>q (uQ z))]
  have:=SeqAt.eqAt_reads (.tuple x) (.tuple y) A s (.ref a) (.ref b) as bs r1 r2 (KJ _ (by simpa [bO] using k1)) (KJ _ (by simpa [bO] using k2)) (by simp only[dQ];omega)
  rw[e,e2] at this;exact this prog w E Q h
 quiet:=fun {A E s k a Q} hk h=>by
  obtain⟨k1,k2,as,r⟩:=hk;exact EX (.tuple k) 8 (by simp only[dQ];omega) (by simpa [bO] using k1) r h
end
abbrev aP:=Sum Int aE
def vQ:aP->aC->Bool
 |.inl k,v=>Value.isInt k v
 |.inr x,v=>Value.isStrOf x v
def Dz (w:bH):aP->Int
 |.inl k=>hashInt k
 |.inr x=>hashStr w x
theorem pA:∀ {k:aP} {v:aC},vQ k v=ae->(∃ i t,k=sP i/\v=uN i t)\/(∃ x t,k=iK x/\v=uM x t)
 |.inl i,v,h=>by
  obtain⟨t,e⟩:=Value.isInt_shape (k:=i) (v:=v) h;exact .inl ⟨i,t,rfl,e⟩
 |.inr x,v,h=>by
  obtain⟨t,e⟩:=Value.isStrOf_shape (x:=x) (v:=v) h;exact .inr ⟨x,t,rfl,e⟩
theorem Xy (i:Int)(t:Tok):vQ (.inl i) (.int i t)=ae:=by simp[vQ,Value.isInt]
theorem Yo (x:aE)(t:Tok):vQ (.inr x) (.str x t)=ae:=by simp[vQ,Value.isStrOf]
theorem Ip (a b:Int):decide ((sP a:aP)=sP b)=(a==b):=by
 by_cases e:a=b
 ·subst e;simp
 ·have h:¬ (sP a:aP)=sP b:=fun q=>e (Sum.inl.inj q)
  rw[decide_eq_false h];exact(beq_eq_false_iff_ne.mpr e).symm
theorem Iy (a b:aE):decide ((iK a:aP)=iK b)=decide (a=b):=by
 by_cases e:a=b
 ·subst e;simp
 ·have h:¬ (iK a:aP)=iK b:=fun q=>e (Sum.inr.inj q)
  rw[decide_eq_false h,decide_eq_false e]
theorem Gr (a:Int)(b:aE):decide ((sP a:aP)=iK b)=af:=decide_eq_false (fun q=>nomatch q)
theorem Hv (a:aE)(b:Int):decide ((iK a:aP)=sP b)=af:=decide_eq_false (fun q=>nomatch q)
def hW (prog:bS)(w:bH):PySem.KeyKind prog w aP where
 is:=vQ
 hash:=Dz w
 inj:=fun v a b ha hb=>by
  rcases pA ha with⟨i,t,rfl,rfl⟩|⟨x,t,rfl,rfl⟩
  ·rcases pA hb with⟨j,u,rfl,e⟩|⟨y,u,rfl,e⟩
   ·injection e with e1 _;rw[e1]
   ·exact nomatch e
  ·rcases pA hb with⟨j,u,rfl,e⟩|⟨y,u,rfl,e⟩
   ·exact nomatch e
   ·injection e with e1 _;rw[e1]
 byValue:=fun k v h=>by
  rcases pA h with⟨i,t,rfl,rfl⟩|⟨x,t,rfl,rfl⟩<;>rfl
 pyHash:=fun hv h=>by
  rcases pA hv with⟨i,t,rfl,rfl⟩|⟨x,t,rfl,rfl⟩
  ·exact wpAny_pyHash_int h
  ·exact wpAny_pyHash_str h
 eqBool:=fun hu hv h=>by
  rcases pA hu with⟨i,t,rfl,rfl⟩|⟨x,t,rfl,rfl⟩
  ·rcases pA hv with⟨j,u,rfl,rfl⟩|⟨y,u,rfl,rfl⟩
   ·rw[Ip] at h;exact wpAny_eqBool_int h
   ·rw[Gr] at h;exact SeqAt.EqAt.int_str i t y u _ _ _ _ h
  ·rcases pA hv with⟨j,u,rfl,rfl⟩|⟨y,u,rfl,rfl⟩
   ·rw[Hv] at h;exact SeqAt.EqAt.str_int x t j u _ _ _ _ h
   ·rw[Iy] at h;exact wpAny_eqBool_str h
 «strs»:=fun k x t v h=>by
  rcases pA h with⟨i,u,rfl,e⟩|⟨y,u,rfl,e⟩
  ·exact nomatch e
  ·injection e with e1 _;subst e1;cases v<;>rfl
theorem AE (prog:bS)(w:bH)(i:Int)(t:Tok):(hW prog w).is (.inl i) (.int i t)=ae:=Xy i t
theorem AA (prog:bS)(w:bH)(x:aE)(t:Tok):(hW prog w).is (.inr x) (.str x t)=ae:=Yo x t
inductive V where
 |non|bl (b:Bool)|int (i:Int)|str (x:aE)|byt (b:Array UInt8)|flt (b:UInt64)|ref (a:aD)|ty (n:String)
 deriving DecidableEq
def RelV:V->aC->Prop
 |.non,u=>u=cZ
 |.bl b,u=>u=Value.bool b
 |.int i,u=>∃ t,u=uN i t
 |.str x,u=>∃ t,u=uM x t
 |.byt b,u=>∃ t,u=Value.bytes b t
 |.flt b,u=>∃ t,u=Value.float b t
 |.ref a,u=>u=fO a
 |.ty n,u=>u=jA n
abbrev Vals:List V->List aC->Prop:=fE RelV
theorem Vals.length {xs:List V}(r:Vals xs us):xs.length=us.length:=mX r
theorem Vals.get:∀ {xs:List V} {us:List aC} {i:Nat} {x:V},Vals xs us->xs[i]?=aa x->∃ u,us[i]?=aa u/\RelV x u
 |_,_,_,_,.nil,e=>by simp at e
 |_,_,0,_,.cons r _,e=>by simp at e;subst e;exact⟨_,rfl,r⟩
 |_,_,i+1,x,.cons _ t,e=>by
  obtain⟨u,h1,h2⟩:=Vals.get (i:=i) (x:=x) t (by simpa using e)
  exact⟨u,by simpa using h1,h2⟩
theorem Vals.set {x:V}(r:RelV x u):∀ {xs:List V} {us:List aC} (i:Nat),Vals xs us->Vals (xs.set i x) (us.set i u)
 |_,_,_,.nil=>.nil
 |_,_,0,.cons _ t=>.cons r t
 |_,_,i+1,.cons q t=>.cons q (Vals.set r i t)
theorem Vals.append:∀ {xs ys:List V} {us ws:List aC},Vals xs us->Vals ys ws->Vals (xs++ys) (us++ws)
 |_,_,_,_,.nil,s=>s
 |_,_,_,_,.cons r t,s=>.cons r (Vals.append t s)
theorem Vals.take:∀ {xs:List V} {us:List aC} (n:Nat),Vals xs us->Vals (xs.take n) (us.take n)
 |_,_,0,_=>.nil
 |_,_,_+1,.nil=>.nil
 |_,_,n+1,.cons r t=>.cons r (Vals.take n t)
theorem Vals.drop:∀ {xs:List V} {us:List aC} (n:Nat),Vals xs us->Vals (xs.drop n) (us.drop n)
 |_,_,0,r=>r
 |_,_,_+1,.nil=>.nil
 |_,_,n+1,.cons _ t=>Vals.drop n t
def As2:Option V->Option aC->Prop
 |some v,aa u=>RelV v u
 |none,ab=>True
 |_,_=>False
def KV {κ:Type}:List (κ×V)->List (κ×aC)->Prop:=fE fun(p:κ×V) (q:κ×aC)=>p.1=q.1/\RelV p.2 q.2
def kV:aP->V
 |.inl i=>.int i
 |.inr x=>.str x
inductive HO where
 |lst (xs:List V)
 |tup (xs:List V)
 |dK (ep:Nat) (kvs:List (aP×V))|dT (kvs:List (List aA×V))
 |set (S:Int->Bool) (n:Nat)
 |ins (C dx:aD) (fs:List (aE×V))
 |own (x:aD)
 |xd (fs:List (aE×V))
 |met (f x:aD)
 |rng (lo hi:Int)
 |frz (o:bJ) (u:HO)
 |tbl (ps:Array aC)
 |ext (φ:aZ->Prop)
abbrev Hp:=aD->Option HO
def aq (H:Hp)(a:aD)(o:HO):Hp:=fun b=>if b=a then aa o else H b
theorem jK {H:Hp}{o:HO}:aq H a o a=aa o:=by unfold aq;rw[if_pos rfl]
theorem fU {H:Hp}{o:HO}(h:b≠a):aq H a o b=H b:=by unfold aq;rw[if_neg h]
theorem Fv {H:Hp}{o u:HO}(h:H a=aa o)(h':H b=aa u)(d:o≠u):a≠b:=by
 intro e;subst e;rw[h] at h';exact d (iH h')
theorem mQ {H:Hp}{o:HO}(h:H a=aa o)(h':H b=ab):a≠b:=by
 intro e;subst e;rw[h] at h';cases h'
mutual
def Aks (H:Hp):aA->V->Prop
 |.int i,v=>v=.int i
 |.str x,v=>v=.str x
 |.tuple ds,v=>∃ a xs,v=.ref a/\H a=aa (.tup xs)/\Aib H ds xs
 |_,_=>False
def Aib (H:Hp):List aA->List V->Prop
 |[],vs=>vs=[]
 |d::r,vs=>∃ x rr,vs=x::rr/\Aks H d x/\Aib H r rr
end
mutual
theorem Aks.keep {H H':Hp}(ht:∀ b xs,H b=aa (.tup xs)->H' b=aa (.tup xs)):∀ {d:aA} {v:V},Aks H d v->Aks H' d v
 |.int _,_,k=>by simpa [Aks] using k
 |.str _,_,k=>by simpa [Aks] using k
 |.tuple ds,_,k=>by
  simp only[Aks] at k ⊢;obtain⟨a,xs,e,h,ks⟩:=k;exact⟨a,xs,e,ht _ _ h,Aib.keep ht ks⟩
 |.none,_,k=>by simp[Aks] at k
 |.bool _,_,k=>by simp[Aks] at k
 |.list _,_,k=>by simp[Aks] at k
 |.dict _,_,k=>by simp[Aks] at k
theorem Aib.keep {H H':Hp}(ht:∀ b xs,H b=aa (.tup xs)->H' b=aa (.tup xs)):∀ {ds:List aA} {vs:List V},Aib H ds vs->Aib H' ds vs
 |[],_,k=>by simpa [Aib] using k
 |d::ds,_,k=>by
  simp only[Aib] at k ⊢;obtain⟨x,r,e,k1,k2⟩:=k;exact⟨x,r,e,Aks.keep ht k1,Aib.keep ht k2⟩
end
def Asj (H:Hp)(ks:List aA)(a:aD):Prop:=cA ks=ae/\bX ks≤6/\∃ xs,H a=aa (.tup xs)/\Aib H ks xs
theorem Asj.keep {H H':Hp}(k:Asj H ks a)(ht:∀ b xs,H b=aa (.tup xs)->H' b=aa (.tup xs)):Asj H' ks a:=
 ⟨k.1,k.2.1,k.2.2.choose,ht _ _ k.2.2.choose_spec.1,k.2.2.choose_spec.2.keep ht⟩
def Bck (h:aZ)(a:aD)(its:Array aC):Prop:=IsTup h a its/\∃ o,h.get? a=aa o/\o.dict=ab
theorem Bck.new (h:aZ)(its:Array aC):Bck (h.push { cls:=.type "tuple",data:=.seq its }) h.objs.size its:=⟨IsTup.new _ _,_,eJ _ rfl,rfl⟩
section
variable (P:bS)(w:bH)
def Adl (H:Hp)(h:aZ)(a:aD):HO->Prop
 |.lst xs=>xs.length≤sizeLine/\∃ (its:List aC) (n:Nat),Vals xs its/\h.get? a=aa { cls:=.type "list",data:=.seq its.toArray n }
 |.tup xs=>xs.length≤sizeLine/\∃ its:List aC,Vals xs its/\Bck h a its.toArray
 |.dK ep kvs=>kvs.length≤sizeLine/\(a==kB)=af/\∃ vs,KV kvs vs/\h.DictAt (hW P w) a vs ep
 |.dT kvs=>kvs.length≤sizeLine/\(a==kB)=af/\∃ xs:List (List aA×aD×aC),
   fE (fun(p:List aA×V) (q:List aA×aD×aC)=>p.1=q.1/\Asj H p.1 q.2.1/\RelV p.2 q.2.2) kvs xs /\
   ∃ o es ep,h.get? a=aa o/\o.ExactDict/\o.data=.dict es ep/\es.toList=xs.map (entryOfKey (oY P w))/\(xs.map (·.1)).Nodup
 |.set S n=>h.SetOf (intKind P w) a S n
 |.ins C dx fs=>H dx=aa (.own a)/\fs.length≤1000/\dx≠a/\h.get? a=aa (By C dx) /\
   ∃ mA,h.Ns1 dx mA/\(∀ f,As2 (fs.lookup f) (mA f))/\PySem.Within mA (fs.map (·.1))
 |.own _=>∃ o,h.get? a=aa o
 |.xd fs=>∃ mA,h.Ns1 a mA/\∀ f,As2 (fs.lookup f) (mA f)
 |.rng lo hi=>∃ t u v,h.get? a=aa { cls:=.type "range",data:=.fields #[.int lo t,.int hi u,.int 1 v] }
 |.frz o u=>h.get? a=aa o/\Adl H h a u
 |.tbl ps=>h.get? a=aa { cls:=.none,data:=.fields ps }
 |.met f x=>h.get? a=aa (Bt (.ref f) (.ref x))
 |.ext φ=>φ h/\(∃ o,h.get? a=aa o)/\∀ h1 h2:aZ,φ h1->(∀ o,h1.get? a=aa o->h2.get? a=aa o)->φ h2
def HOk (H:Hp)(h:aZ):Prop:=∀ a o,H a=aa o->Adl P w H h a o
end
section
variable {P:bS}{w:bH}{H H':Hp}{o:HO}
theorem Adl.lt (x:Adl P w H h a o):a<h.objs.size:=by
 cases o with
 |lst xs=>obtain⟨_,_,_,_,e⟩:=x;exact cC e
 |tup xs=>obtain⟨_,_,_,p⟩:=x;exact p.1.lt
 |dK ep kvs=>obtain⟨_,_,_,_,o,_,e,_⟩:=x;exact cC e
 |dT kvs=>obtain⟨_,_,_,_,o,_,_,e,_⟩:=x;exact cC e
 |set S n=>obtain⟨o,_,_,_,e,_⟩:=x;exact cC e
 |ins C dx fs=>obtain⟨_,_,_,e,_⟩:=x;exact cC e
 |own y=>obtain⟨_,e⟩:=x;exact cC e
 |xd fs=>obtain⟨_,⟨_,_,_,e,_⟩,_⟩:=x;exact cC e
 |rng lo hi=>obtain⟨_,_,_,e⟩:=x;exact cC e
 |frz ob u=>obtain⟨e,_⟩:=x;exact cC e
 |tbl ps=>exact cC (show h.get? a=aa _ from x)
 |met f y=>exact cC (show h.get? a=aa _ from x)
 |ext φ=>obtain⟨_,⟨_,e⟩,_⟩:=x;exact cC e
theorem Paired.mapP {α β:Type}{F G:α->β->Prop}:∀ {l₁:List α} {l₂:List β},fE F l₁ l₂->(∀ a b,F a b->G a b)->fE G l₁ l₂:=by
 intro l₁ l₂ h;induction h with
 |nil=>exact fun _=>.nil
 |cons r _ ih=>exact fun f=>.cons (f _ _ r) (ih f)
theorem Adl.stay (x:Adl P w H h a o)(k:∀ b u,(b=a\/H b=aa (.own a))->h.get? b=aa u->h'.get? b=aa u)
  (ho:∀ b,H b=aa (.own a)->H' b=aa (.own a)) (ht:∀ b xs,H b=aa (.tup xs)->H' b=aa (.tup xs)):Adl P w H' h' a o:=by
 induction o with
 |lst xs=>obtain⟨z,its,n,r,e⟩:=x;exact⟨z,its,n,r,k _ _ (.inl rfl) e⟩
 |tup xs=>obtain⟨z,its,r,⟨ob,e,c⟩,V5,e2,c2⟩:=x;exact⟨z,its,r,⟨ob,k _ _ (.inl rfl) e,c⟩,V5,k _ _ (.inl rfl) e2,c2⟩
 |dK ep kvs=>obtain⟨z,y,vs,r,ob,es,e,c⟩:=x;exact⟨z,y,vs,r,ob,es,k _ _ (.inl rfl) e,c⟩
 |dT kvs=>
  obtain⟨z,y,xs,r,ob,es,ep,e,c⟩:=x;exact⟨z,y,xs,Paired.mapP r fun p q z=>⟨z.1,z.2.1.keep ht,z.2.2⟩,ob,es,ep,k _ _ (.inl rfl) e,c⟩
 |set S n=>obtain⟨ob,es,ep,t,e,c⟩:=x;exact⟨ob,es,ep,t,k _ _ (.inl rfl) e,c⟩
 |ins C dx fs=>
  obtain⟨d,z,ne,e,mA,⟨od,es,ep,e2,c⟩,r⟩:=x;exact⟨ho _ d,z,ne,k _ _ (.inl rfl) e,mA,⟨od,es,ep,k _ _ (.inr d) e2,c⟩,r⟩
 |own y=>obtain⟨ob,e⟩:=x;exact⟨ob,k _ _ (.inl rfl) e⟩
 |xd fs=>obtain⟨mA,⟨od,es,ep,e,c⟩,r⟩:=x;exact⟨mA,⟨od,es,ep,k _ _ (.inl rfl) e,c⟩,r⟩
 |rng lo hi=>obtain⟨t,u,v,e⟩:=x;exact⟨t,u,v,k _ _ (.inl rfl) e⟩
 |frz ob u ih=>obtain⟨e,q⟩:=x;exact⟨k _ _ (.inl rfl) e,ih q⟩
 |tbl ps=>
  have e:h.get? a=aa { cls:=.none,data:=.fields ps }:=x;show h'.get? a=aa { cls:=.none,data:=.fields ps };exact k a _ (.inl rfl) e
 |met f y=>
  have e:h.get? a=aa (Bt (.ref f) (.ref y)):=x;show h'.get? a=aa (Bt (.ref f) (.ref y));exact k a _ (.inl rfl) e
 |ext φ=>obtain⟨p,⟨o,e⟩,st⟩:=x;exact⟨st _ _ p fun o q=>k _ _ (.inl rfl) q,⟨o,k _ _ (.inl rfl) e⟩,st⟩
theorem HOk.lt (x:HOk P w H h)(e:H a=aa o):a<h.objs.size:=(x a o e).lt
theorem HOk.fresh (x:HOk P w H h)(e:h.objs.size≤a):H a=ab:=by
 cases q:H a with
 |none=>rfl
 |some u=>exact absurd (iL (x.lt q) e) (kQ _)
theorem HOk.kept (x:HOk P w H h)(k:∀ b u,h.get? b=aa u->h'.get? b=aa u):HOk P w H h':=fun a o e=>
 (x a o e).stay (fun b u _ q=>k b u q) (fun _ q=>q) fun _ _ q=>q
theorem HOk.laid (x:HOk P w H h)(k:∀ b u,h.get? b=aa u->h'.get? b=aa u)(hp:h.objs.size≤a)(new:Adl P w (aq H a o) h' a o):HOk P w (aq H a o) h':=fun b u e=>by
 have hn:=x.fresh hp;by_cases hb:b=a
 ·subst hb;rw[jK] at e;cases e;exact new
 ·rw[fU hb] at e;exact(x b u e).stay (fun c v _ q=>k c v q) (fun c q=>by rw[fU (mQ q hn)];exact q) fun c xs q=>by rw[fU (mQ q hn)];exact q
end
def Rd (H:Hp)(a:aD)(u:HO):Prop:=H a=aa u\/∃ o,H a=aa (.frz o u)
theorem Rd.ok {P:bS}{w:bH}{H:Hp}{u:HO}(r:Rd H a u)(x:HOk P w H h):Adl P w H h a u:=by
 rcases r with r|⟨o,r⟩
 ·exact x a u r
 ·obtain⟨_,q⟩:=x a _ r;exact q
def yJ:Option HO->Prop
 |some (.lst _)=>True
 |some (.dK _ _)=>True
 |some (.dT _)=>True
 |some (.set _ _)=>True
 |some (.ins _ _ _)=>True
 |some (.ext _)=>True
 |_=>False
section
variable {P:bS}{w:bH}{H:Hp}{x e:aD}{o':HO}
theorem HOk.write (ok:HOk P w H h)(mu:yJ (H x))(he:e=x\/H e=aa (.own x))(k:∀ b u,b≠e->h.get? b=aa u->h'.get? b=aa u)(wv:∃ u,h'.get? e=aa u)
  (new:Adl P w (aq H x o') h' x o'):HOk P w (aq H x o') h':=fun b u q=>by
 have xl:∀ c y,H c=aa (.own y)->c≠x:=fun c y r z=>by subst z;rw[r] at mu;exact mu
 have Ev:∀ c xs,H c=aa (.tup xs)->c≠x:=fun c xs r z=>by subst z;rw[r] at mu;exact mu
 by_cases hb:b=x
 ·subst hb;rw[jK] at q;cases q;exact new
 ·rw[fU hb] at q;by_cases rh:b=e
  ·have q':H b=aa (.own x):=by
    rcases he with z|z
    ·exact absurd (rh.trans z) hb
    ·rw[rh];exact z
   rw[q] at q';cases q';obtain⟨v,hv⟩:=wv;exact⟨v,by rw[rh];exact hv⟩
  ·refine(ok b u q).stay (fun c v hc r=>k c v ?_ r) (fun c r=>by rw[fU (xl c b r)];exact r) fun c xs r=>by rw[fU (Ev c xs r)];exact r
   rcases hc with rfl|hc
   ·exact rh
   ·rintro rfl;rcases he with z|z
    ·exact xl c b hc z
    ·rw[hc] at z;cases z;exact hb rfl
end
structure Un (fs ex:List aD)(H H':Hp)(h h':aZ):Prop where
 keep:∀ b o,h.get? b=aa o->H b=ab->b∉fs->b∉ex->h'.get? b=aa o
 slot:∀ b o,h.get? b=aa o->H b=ab->b∈fs->b∉ex->∃ sl,h'.get? b=aa { o with slots:=sl }
 free:∀ b o,h.get? b=aa o->H b=ab->b∉ex->H' b=ab
 there:∀ b o,h.get? b=aa o->b∉ex->∃ o',h'.get? b=aa o'
 tups:∀ b xs,H b=aa (.tup xs)->H' b=aa (.tup xs)
 frzs:∀ b o u,H b=aa (.frz o u)->H' b=aa (.frz o u)
 tbls:∀ b ps,H b=aa (.tbl ps)->∃ more,H' b=aa (.tbl (ps++more))
section
variable {fs V6 ex ex':List aD}{H H1 H2:Hp}{h1 h2:aZ}{x e:aD}{o:HO}
theorem Un.any (u:Un fs ex H H1 h h1){ob:bJ}(q:h.get? b=aa ob)(n:H b=ab)(hx:b∉ex):∃ sl,h1.get? b=aa { ob with slots:=sl }:=by
 by_cases hb:b∈fs
 ·exact u.slot b ob q n hb hx
 ·exact⟨ob.slots,u.keep b ob q n hb hx⟩
theorem Un.kept (k:∀ b u,h.get? b=aa u->h'.get? b=aa u):Un fs ex H H h h':=
 ⟨fun b ob q _ _ _=>k b ob q,fun b ob q _ _ _=>⟨ob.slots,k b ob q⟩,fun _ _ _ n _=>n,fun b ob q _=>⟨ob,k b ob q⟩,fun _ _ q=>q,fun _ _ _ q=>q,fun _ ps q=>⟨#[],by rw[q];simp⟩⟩
theorem Un.refl:Un fs ex H H h h:=Un.kept fun _ _ q=>q
theorem Un.laid (k:∀ b u,h.get? b=aa u->h'.get? b=aa u)(hp:h.objs.size≤a)(hn:H a=ab):Un fs ex H (aq H a o) h h' where
 keep:=fun b u q _ _ _=>k b u q
 slot:=fun b u q _ _ _=>⟨u.slots,k b u q⟩
 free:=fun b u q n _=>by rw[fU (dM (iL (cC q) hp))];exact n
 there:=fun b u q _=>⟨u,k b u q⟩
 tups:=fun b xs q=>by rw[fU (mQ q hn)];exact q
 frzs:=fun b u xs q=>by rw[fU (mQ q hn)];exact q
 tbls:=fun b ps q=>⟨#[],by rw[fU (mQ q hn),q];simp⟩
theorem Un.write (mu:yJ (H x))(he:e=x\/H e=aa (.own x))(k:∀ b u,b≠e->h.get? b=aa u->h'.get? b=aa u)(wv:∃ u,h'.get? e=aa u):Un fs ex H (aq H x o) h h':=by
 have hx:∀ b,H b=ab->b≠x:=fun b n z=>by subst z;rw[n] at mu;exact mu
 have hb:∀ b,H b=ab->b≠e:=fun b n z=>by
  subst z;rcases he with r|r
  ·exact hx b n r
  ·rw[n] at r;cases r
 have hm:∀ b u,H b=aa u->¬ yJ (aa u)->b≠x:=fun b u q nm z=>by subst z;rw[q] at mu;exact nm mu
 refine⟨fun b u q n _ _=>k b u (hb b n) q,fun b u q n _ _=>⟨u.slots,k b u (hb b n) q⟩,fun b u q n _=>by rw[fU (hx b n)];exact n,fun b u q _=>?_,
  fun b xs q=>by rw[fU (hm b _ q fun z=>z)];exact q,fun b u xs q=>by rw[fU (hm b _ q fun z=>z)];exact q,fun b ps q=>⟨#[],by rw[fU (hm b _ q fun z=>z),q];simp⟩⟩
 by_cases rh:b=e
 ·subst rh;exact wv
 ·exact⟨u,k b u rh q⟩
end
def D8 (h:aZ)(H:Hp):List aD:=(dP h.objs.size).filter fun a=>(H a).isSome
def qZ (h:aZ)(H:Hp):aZ:=PySem.W.hideAll h (D8 h H)
theorem Mq (h:aZ)(H:Hp):(qZ h H).objs.size=h.objs.size:=PySem.W.hideAll_size _ _
theorem Uk{H:Hp}(e:h.get? b=aa o)(n:H b=ab):(qZ h H).get? b=aa o:=
 PySem.W.hideAll_get _ e fun hm=>by
  have q:(H b).isSome=ae:=(OG.mp hm).2;rw[n] at q;simp at q
theorem Lm{H:Hp}(e:(qZ h H).get? b=aa o):h.get? b=aa o/\H b=ab:=by
 have e':h.get? b=aa o:=PySem.W.of_hideAll (D8 h H) e;refine⟨e',?_⟩;cases q:H b with
 |none=>rfl
 |some x=>
  have hm:b∈D8 h H:=OG.mpr ⟨jB.mpr (cC e'),by simp[q]⟩
  have z:(qZ h H).get? b=ab:=PySem.W.hideAll_none (D8 h H) hm;rw[z] at e;cases e
def Ti (g h:aZ)(L:aD):List (aD×bJ):=(dP h.objs.size).filterMap fun a=>if a=L\/(g.get? a).isSome=ae then ab else(h.get? a).map fun o=>(a,o)
def rest (g h:aZ)(L d:aD):List (aD×bJ):=(Ti g h L).filter fun p=>decide (p.1≠d)
structure Mod (K:aM)(mg:aE->Option aC)(base:aZ):Prop where
 kin:K.In base
 glob:base.Ns eX mg
 blt:∃ mb,base.Ns builtinsNs mb/\∀ x:aE,x ≠ "__name__" -> mb x=qC x
 nolimit:base.NoLimit
structure Cx where
 prog:bS
 w:bH
 K:aM
 mg:aE->Option aC
 base:aZ
 A:cD
 N:List aE
 s₀:aH
 H₀:Hp
 env:Env
 outer:List Env
 stack:List Env
 ex:List aD
 fn:aE->Bool
 calm:Bool
 pn:List (aD×bJ)
 xe:aC->aH->Prop
def o6 (l:List Env):List aD:=l.filterMap (·.frame)
abbrev Cx.fs (X:Cx):List aD:=o6 X.outer
def oK (sc:kE)(x:aE):Prop:=sc.names.lookup x=aa .local\/sc.names.lookup x=aa .cell\/sc.names.lookup x=aa .free
def nD (sc:kE)(x:aE):Prop:=sc.names.lookup x=aa .local\/sc.names.lookup x=aa .cell
def Look (env:Env)(h:aZ)(m:aE->Option aC)(x:aE)(u:aC):Prop:=
 (env.kindOf x=aa .local/\m x=aa u)\/((env.kindOf x=aa .cell\/env.kindOf x=aa .free)/\∃ c,env.cells.lookup x=aa c/\h.IsCell c (aa u))
structure Cx.Ok (X:Cx):Prop where
 mod:Mod X.K X.mg X.base
 kind:X.env.scope.kind=.function
 glob:X.env.globals=eX
 blt:X.env.builtins=builtinsNs
 above:X.s₀.heap.objs.size≤X.env.locals
 inj:∀ x y c,X.env.cells.lookup x=aa c->X.env.cells.lookup y=aa c->x=y
 has:∀ x,(X.env.kindOf x=aa .cell\/X.env.kindOf x=aa .free)->∃ c,X.env.cells.lookup x=aa c
 cab:∀ x c,X.fn x=ae->X.env.cells.lookup x=aa c->X.s₀.heap.objs.size≤c
 hd:X.calm=ae->X.A.handled=ab
 frames:X.A.frames=aa X.stack
 stk:X.stack=X.outer\/(X.stack=X.env::X.outer/\X.env.frame=aa X.env.locals)
 exf:∀ b∈X.ex,b≠X.env.locals/\∀ x c,X.env.cells.lookup x=aa c->c≠b
 bs:∀ b o,X.base.get? b=aa o->X.s₀.heap.get? b=aa o/\X.H₀ b=ab
 bsz:X.base.objs.size≤X.s₀.heap.objs.size
 noex:∀ b o,X.base.get? b=aa o->b∉X.ex
 exfs:∀ b∈X.ex,b∉X.fs
 funs:X.s₀.heap.FunFrames X.base X.outer
 frf:∀ b∈X.fs,X.H₀ b=ab
structure Inv (X:Cx)(ad:List (aD×bJ))(σ:List (Option V))(H:Hp)(s:aH):Prop where
 ok:X.Ok
 os:s.os=X.s₀.os
 bare:sU s.gens
 base:Un X.fs X.ex X.H₀ H X.s₀.heap s.heap
 loc:∃ m,s.heap.Ns X.env.locals m/\∀ (i:Nat) (x:aE) (v:V),X.N[i]?=aa x->σ[i]?=aa (aa v)->oK X.env.scope x->∃ u,RelV v u/\Look X.env s.heap m x u
 cell:∀ x c,X.env.cells.lookup x=aa c->∃ v,s.heap.IsCell c v
 free:H X.env.locals=ab
 freeC:∀ x c,X.env.cells.lookup x=aa c->H c=ab
 pin:∀ p∈X.pn++ad,s.heap.get? p.1=aa p.2/\H p.1=ab/\p.1≠X.env.locals/\p.1∉X.fs/\∀ v,p.2.data ≠ .cell v
 hok:HOk X.prog X.w H s.heap
 len:σ.length=X.N.length
section
variable {X:Cx}{σ:List (Option V)}{H H':Hp}
theorem Cx.Ok.nofr (ok:X.Ok)(e:X.base.get? b=aa o):b∉X.fs:=fun hb=>by
 have:=(ok.funs.mem hb).1;rw[e] at this;cases this
theorem Inv.bs (I:Inv X ad σ H s):∀ b o,X.base.get? b=aa o->s.heap.get? b=aa o/\H b=ab:=fun b o e=>
 ⟨I.base.keep b o (I.ok.bs b o e).1 (I.ok.bs b o e).2 (I.ok.nofr e) (I.ok.noex b o e),I.base.free b o (I.ok.bs b o e).1 (I.ok.bs b o e).2 (I.ok.noex b o e)⟩
theorem Inv.bk (I:Inv X ad σ H s):∀ b o,X.base.get? b=aa o->s.heap.get? b=aa o:=fun b o e=>(I.bs b o e).1
theorem Inv.mod (I:Inv X ad σ H s):Mod X.K X.mg X.base:=I.ok.mod
theorem Inv.kIn (I:Inv X ad σ H s):X.K.In s.heap:=I.ok.mod.kin.keeps I.bk
theorem Inv.lt (I:Inv X ad σ H s):X.env.locals<s.heap.objs.size:=let ⟨_,hn,_⟩:=I.loc;hn.lt
theorem Inv.sz (I:Inv X ad σ H s):X.s₀.heap.objs.size≤s.heap.objs.size:=jV I.ok.above (sQ I.lt)
theorem Inv.nofs (I:Inv X ad σ H s)(h:s.heap.objs.size≤a):a∉X.fs:=fun hb=>by
 obtain⟨_,o,ho,_⟩:=I.ok.funs.mem hb;exact absurd (iL (cC ho) (jV I.sz h)) (kQ _)
theorem Inv.cne (I:Inv X ad σ H s):∀ x c,X.env.cells.lookup x=aa c->c≠X.env.locals:=fun x c e z=>by
 obtain⟨v,o,ho,hd⟩:=I.cell x c e;obtain⟨m,⟨o',es,ep,m8,kg,_⟩,_⟩:=I.loc;rw[z,m8] at ho;cases ho;rw[kg] at hd;cases hd
theorem Inv.funs (I:Inv X ad σ H s):s.heap.FunFrames X.base X.outer:=by
 have all:∀ (l:List Env),(∀ b∈o6 l,b∈X.fs)->X.s₀.heap.FunFrames X.base l->s.heap.FunFrames X.base l:=by
  intro l;induction l with
  |nil=>intro _ _;trivial
  |cons env r ih=>
   intro hs hl;obtain⟨hk,⟨L,o,hf,hn,ho,hd⟩,hr⟩:=hl;have hL:L∈X.fs:=hs L (by unfold o6;rw[ON,hf];exact cF)
   obtain⟨sl,e⟩:=I.base.slot L o ho (I.ok.frf L hL) hL fun z=>I.ok.exfs L z hL
   exact⟨hk,⟨L,_,hf,hn,e,hd⟩,ih (fun b hb=>hs b (by unfold o6;rw[ON,hf];exact cS _ hb)) hr⟩
 exact all X.outer (fun _ hb=>hb) I.ok.funs
theorem Inv.stack (I:Inv X ad σ H s):s.heap.FunFrames X.base X.stack:=by
 rcases I.ok.stk with e|⟨e,hf⟩
 ·rw[e];exact I.funs
 ·rw[e];obtain⟨m,hn,_⟩:=I.loc;refine .cons (by rw[I.ok.kind];decide) hf hn ?_ I.funs
  exact Heap.get?_none_of_le (jV I.ok.bsz I.ok.above)
theorem Inv.stkSub (I:Inv X ad σ H s):∀ b∈o6 X.stack,b∈X.env.locals::X.fs:=fun b hb=>by
 rcases I.ok.stk with e|⟨e,hf⟩
 ·rw[e] at hb;exact cS _ hb
 ·rw[e] at hb;unfold o6 at hb;rw[ON,hf] at hb;exact hb
theorem Inv.stkFree (I:Inv X ad σ H s):∀ b∈o6 X.stack,H b=ab:=fun b hb=>by
 rcases eD.mp (I.stkSub b hb) with e|hb
 ·rw[e];exact I.free
 ·obtain⟨_,o,ho,_⟩:=I.ok.funs.mem hb;exact I.base.free b o ho (I.ok.frf b hb) fun z=>I.ok.exfs b z hb
theorem Inv.step {g':Array GenState}{d':Drawn}(I:Inv X ad σ H s)
  (qo:∀ b∈ch,(b∈X.ex\/X.s₀.heap.objs.size≤b)/\b≠X.env.locals/\(∀ x c,X.env.cells.lookup x=aa c->c≠b)/\∀ p∈X.pn++ad,p.1≠b)
  (keep:∀ b o,b≠X.env.locals->b∉X.fs->b∉ch->s.heap.get? b=aa o->H b=ab->h'.get? b=aa o)
  (slot:∀ b o,b≠X.env.locals->b∈X.fs->b∉ch->s.heap.get? b=aa o->H b=ab->∃ sl,h'.get? b=aa { o with slots:=sl }) (free:∀ b o,b∉ch->s.heap.get? b=aa o->H b=ab->H' b=ab)
  (there:∀ b o,b∉ch->s.heap.get? b=aa o->∃ o',h'.get? b=aa o')
  (tups:∀ b xs,H b=aa (.tup xs)->H' b=aa (.tup xs)) (frzs:∀ b o u,H b=aa (.frz o u)->H' b=aa (.frz o u)) (tbls:∀ b ps,H b=aa (.tbl ps)->∃ more,H' b=aa (.tbl (ps++more)))
  (ns:∀ m,s.heap.Ns X.env.locals m->h'.Ns X.env.locals m) (hok:HOk X.prog X.w H' h') (hg:sU g') :
  Inv X ad σ H' { s with heap:=h',gens:=g',drawn:=d',toks:=t' }:=by
 have P4:∀ b o,X.s₀.heap.get? b=aa o->b≠X.env.locals:=fun b o e=>dM (iL (cC e) I.ok.above)
 have A7:∀ b o,X.s₀.heap.get? b=aa o->b∉X.ex->b∉ch:=fun b o e hx hb=>by
  rcases(qo b hb).1 with z|z
  ·exact hx z
  ·exact absurd (iL (cC e) z) (kQ _)
 have tt:∀ x c,X.env.cells.lookup x=aa c->∀ v,s.heap.IsCell c v->h'.IsCell c v:=fun x c e v gh=>by
  obtain⟨o,ho,hd⟩:=gh;have xm:c∉ch:=fun z=>(qo c z).2.2.1 x c e rfl
  by_cases hc:c∈X.fs
  ·obtain⟨sl,q⟩:=slot c o (I.cne x c e) hc xm ho (I.freeC x c e);exact⟨_,q,hd⟩
  ·exact⟨o,keep c o (I.cne x c e) hc xm ho (I.freeC x c e),hd⟩
 refine⟨I.ok,I.os,hg,⟨fun b o e n hb hx=>?_,fun b o e n hb hx=>?_,fun b o e n hx=>?_,fun b o e hx=>?_,fun b xs e=>tups b xs (I.base.tups b xs e),fun b o xs e=>frzs b o xs (I.base.frzs b o xs e),fun b ps e=>?_⟩,?_,fun x c e=>?_,?_,fun x c e=>?_,fun p hp=>?_,hok,I.len⟩
 ·exact keep b o (P4 b o e) hb (A7 b o e hx) (I.base.keep b o e n hb hx) (I.base.free b o e n hx)
 ·obtain⟨sl,e1⟩:=I.base.slot b o e n hb hx;obtain⟨V7,e2⟩:=slot b _ (P4 b o e) hb (A7 b o e hx) e1 (I.base.free b o e n hx);exact⟨V7,e2⟩
 ·obtain⟨o',e1⟩:=I.base.there b o e hx;exact free b o' (A7 b o e hx) e1 (I.base.free b o e n hx)
 ·obtain⟨o',e1⟩:=I.base.there b o e hx;exact there b o' (A7 b o e hx) e1
 ·obtain⟨m1,e1⟩:=I.base.tbls b ps e;obtain⟨m2,e2⟩:=tbls b _ e1;exact⟨m1++m2,by rw[e2,Array.append_assoc]⟩
 ·obtain⟨m,hn,hl⟩:=I.loc;refine⟨m,ns m hn,fun i x v e1 e2 e3=>?_⟩
  obtain⟨u,r,l⟩:=hl i x v e1 e2 e3;refine⟨u,r,?_⟩;rcases l with l|⟨k,c,e,z⟩
  ·exact .inl l
  ·exact .inr ⟨k,c,e,tt x c e _ z⟩
 ·obtain⟨v,z⟩:=I.cell x c e;exact⟨v,tt x c e v z⟩
 ·obtain⟨m,⟨o,_,_,ho,_⟩,_⟩:=I.loc;exact free _ o (fun z=>(qo _ z).2.1 rfl) ho I.free
 ·obtain⟨v,o,ho,hd⟩:=I.cell x c e;exact free c o (fun z=>(qo c z).2.2.1 x c e rfl) ho (I.freeC x c e)
 ·obtain⟨e,n,ne,nf,d⟩:=I.pin p hp;have xm:p.1∉ch:=fun z=>(qo p.1 z).2.2.2 p hp rfl
  exact⟨keep p.1 p.2 ne nf xm e n,free p.1 p.2 xm e n,ne,nf,d⟩
theorem Inv.un(I:Inv X ad σ H s)(u:Un X.fs [] H H' s.heap h')(hok:HOk X.prog X.w H' h'):Inv X ad σ H' { s with heap:=h',toks:=t' }:=by
 obtain⟨m,⟨o,es,ep,ho,r⟩,_⟩:=id I.loc;obtain⟨sl,hL⟩:=u.any ho I.free (by simp)
 exact I.step (g':=s.gens) (d':=s.drawn) (ch:=[]) (fun _ z=>nomatch z) (fun b o _ hb _ e n=>u.keep b o e n hb (by simp)) (fun b o _ hb _ e n=>u.slot b o e n hb (by simp)) (fun b o _ e n=>u.free b o e n (by simp)) (fun b o _ e=>u.there b o e (by simp)) u.tups u.frzs u.tbls (fun m' hm=>by
  obtain⟨o',i9,kf,m8,r'⟩:=hm;rw[ho] at m8;cases m8;exact⟨_,i9,kf,hL,r'⟩) hok I.bare
theorem Inv.call {g':Array GenState}{d':Drawn}(I:Inv X ad σ H s)(u:Un (o6 X.stack) ch H H' s.heap h')(hok:HOk X.prog X.w H' h')(hg:sU g')
  (qo:∀ b∈ch,(b∈X.ex\/X.s₀.heap.objs.size≤b)/\b≠X.env.locals/\(∀ x c,X.env.cells.lookup x=aa c->c≠b)/\∀ p∈X.pn++ad,p.1≠b) :
  Inv X ad σ H' { s with heap:=h',gens:=g',drawn:=d',toks:=t' }:=by
 obtain⟨m,⟨o,es,ep,ho,r⟩,_⟩:=id I.loc;obtain⟨sl,hL⟩:=u.any ho I.free fun z=>(qo _ z).2.1 rfl
 exact I.step (ch:=ch) qo (fun b o hL hb hc e n=>u.keep b o e n (fun z=>(eD.mp (I.stkSub b z)).elim hL hb) hc) (fun b o _ _ hc e n=>u.any e n hc) (fun b o hc e n=>u.free b o e n hc) (fun b o hc e=>u.there b o e hc) u.tups u.frzs u.tbls (fun m' hm=>by
  obtain⟨o',i9,kf,m8,r'⟩:=hm;rw[ho] at m8;cases m8;exact⟨_,i9,kf,hL,r'⟩) hok hg
theorem Inv.turned{it:aD}(I:Inv X ad σ H s)(k:∀ b o,b≠it->s.heap.get? b=aa o->h'.get? b=aa o)(hn:H it=ab)(hL:it≠X.env.locals)
  (h1:it∈X.ex\/X.s₀.heap.objs.size≤it) (h2:∀ x c,X.env.cells.lookup x=aa c->c≠it) (h3:∀ p∈X.pn++ad,p.1≠it):Inv X ad σ H { s with heap:=h',toks:=t' }:=by
 have P5:∀ b u,H b=aa u->b≠it:=fun b u e z=>by rw[z,hn] at e;cases e
 refine I.step (g':=s.gens) (d':=s.drawn) (ch:=[it]) (fun b hb=>?_) (fun b o _ _ hc e _=>k b o (fun z=>hc (by simp[z])) e) (fun b o _ _ hc e _=>⟨o.slots,k b o (fun z=>hc (by simp[z])) e⟩) (fun _ _ _ _ n=>n)
  (fun b o hc e=>⟨o,k b o (fun z=>hc (by simp[z])) e⟩) (fun _ _ e=>e) (fun _ _ _ e=>e) (fun b ps e=>⟨#[],by rw[e];simp⟩) (fun m hm=>?_) (fun b u e=>?_) I.bare
 ·have e:b=it:=by simpa using hb
  subst e;exact⟨h1,hL,h2,h3⟩
 ·obtain⟨o,es,ep,ho,r⟩:=hm;exact⟨o,es,ep,k _ o (kP hL) ho,r⟩
 ·refine(I.hok b u e).stay (fun c v hc q=>k c v ?_ q) (fun _ q=>q) fun _ _ q=>q
  rcases hc with z|z
  ·rw[z];exact P5 b u e
  ·exact P5 c _ z
theorem Inv.tok (I:Inv X ad σ H s)(t:Nat):Inv X ad σ H { s with toks:=t }:=I.un (h':=s.heap) (t':=t) Un.refl I.hok
theorem Inv.kept(I:Inv X ad σ H s)(k:∀ b u,s.heap.get? b=aa u->h'.get? b=aa u):Inv X ad σ H { s with heap:=h',toks:=t' }:=I.un (Un.kept k) (I.hok.kept k)
theorem Inv.laid{o:HO}(I:Inv X ad σ H s)(k:∀ b u,s.heap.get? b=aa u->h'.get? b=aa u)(hp:s.heap.objs.size≤a)(new:Adl X.prog X.w (aq H a o) h' a o) :
  Inv X ad σ (aq H a o) { s with heap:=h',toks:=t' }:=I.un (Un.laid k hp (I.hok.fresh hp)) (I.hok.laid k hp new)
theorem Inv.write {x e:aD}{o:HO}(I:Inv X ad σ H s)(mu:yJ (H x))(he:e=x\/H e=aa (.own x))(k:∀ b u,b≠e->s.heap.get? b=aa u->h'.get? b=aa u)(wv:∃ u,h'.get? e=aa u)
  (new:Adl X.prog X.w (aq H x o) h' x o):Inv X ad σ (aq H x o) { s with heap:=h',toks:=t' }:=I.un (Un.write mu he k wv) (I.hok.write mu he k wv new)
theorem Inv.pins_of {tu:List (aD×bJ)}(I:Inv X ad σ H s)(h:∀ p∈tu,s.heap.get? p.1=aa p.2/\H p.1=ab/\p.1≠X.env.locals/\p.1∉X.fs/\∀ v,p.2.data ≠ .cell v):Inv X tu σ H s:=
 ⟨I.ok,I.os,I.bare,I.base,I.loc,I.cell,I.free,I.freeC,fun p hp=>(kR.mp hp).elim (fun z=>I.pin p (List.mem_append_left _ z)) (h p),I.hok,I.len⟩
theorem SI {N:List aE}(hN:N.Nodup){j:Nat}(a:N[i]?=aa x)(b:N[j]?=aa x):i=j:=by
 obtain⟨h1,e1⟩:=dD.mp a;obtain⟨h2,e2⟩:=dD.mp b;exact(List.getElem_inj hN).mp (e1.trans e2.symm)
theorem VB{v:V}{Q:Unit->aH->Prop}(I:Inv X ad σ H s)(hN:X.N.Nodup)(hi:X.N[i]?=aa x)(hx:nD X.env.scope x)(r:RelV v u)
  (h:∀ s',Inv X ad (σ.set i (aa v)) H s'->(∃ a,oH a s.heap s'.heap/\(a=X.env.locals\/X.env.cells.lookup x=aa a))->Q () s') (hf:X.fn x=ae\/X.env.scope.names.lookup x=aa .local:=by first|exact .inl rfl|exact .inr rfl|assumption):aJ M A (storeName X.env x u) Q E s:=by
 obtain⟨m,hn,hl⟩:=id I.loc;have EQ:(X.env.scope.kind==.class||(X.env.scope.kind==.module&&X.env.locals != X.env.globals))=af:=by rw[I.ok.kind];rfl
 have xn:i<σ.length:=by rw[I.len];exact(dD.mp hi).1
 have cne:=I.cne;have m9:∀ {a:aD} {h':aZ},(∃ o,s.heap.get? a=aa o/\H a=ab)->oH a s.heap h'->HOk X.prog X.w H h':=fun {a h'} ha hs b ob e=>by
  obtain⟨_,_,kh⟩:=ha;refine(I.hok b ob e).stay (fun c w' hc q=>(hs.2 c ?_).trans q) (fun _ q=>q) fun _ _ q=>q
  rintro rfl;rcases hc with rfl|hc
  ·rw[kh] at e;cases e
  ·rw[kh] at hc;cases hc
 rcases hx with hk|hk
 ·refine wpAny_storeName_local hk hn (fun h' V8 hs=>?_) EQ
  obtain⟨oL,_,_,o9,_⟩:=id hn;refine h _ ⟨I.ok,I.os,I.bare,⟨fun b o e n hb hx=>?_,fun b o e n hb hx=>?_,I.base.free,fun b o e hx=>?_,I.base.tups,I.base.frzs,I.base.tbls⟩,⟨_,V8,fun j y v' e1 e2 e3=>?_⟩,fun y c e=>?_,I.free,I.freeC,fun p hp=>?_,m9 ⟨oL,o9,I.free⟩ hs,by simpa using I.len⟩ ⟨_,hs,.inl rfl⟩
  ·exact(hs.2 b (dM (iL (cC e) I.ok.above))).trans (I.base.keep b o e n hb hx)
  ·obtain⟨sl,e1⟩:=I.base.slot b o e n hb hx;exact⟨sl,(hs.2 b (dM (iL (cC e) I.ok.above))).trans e1⟩
  ·obtain⟨o',e1⟩:=I.base.there b o e hx;exact⟨o',(hs.2 b (dM (iL (cC e) I.ok.above))).trans e1⟩
  ·by_cases hj:j=i
   ·subst hj;rw[hi] at e1;cases e1;rw[rE xn] at e2;cases e2;exact⟨u,r,.inl ⟨hk,by simp⟩⟩
   ·rw[rF (kP hj)] at e2;obtain⟨u',r',q⟩:=hl j y v' e1 e2 e3;refine⟨u',r',?_⟩;rcases q with⟨k,e⟩|⟨k,c,e,z⟩
    ·refine .inl ⟨k,?_⟩;have:y≠x:=fun e=>hj (SI hN e1 (e ▸ hi))
     simp[this,e]
    ·exact .inr ⟨k,c,e,z.sameBut hs (cne y c e)⟩
  ·obtain⟨w',z⟩:=I.cell y c e;exact⟨w',z.sameBut hs (cne y c e)⟩
  ·obtain⟨e,n,ne,nf,d⟩:=I.pin p hp;exact⟨(hs.2 p.1 ne).trans e,n,ne,nf,d⟩
 ·have E1:X.fn x=ae:=by
   rcases hf with z|z
   ·exact z
   ·rw[z] at hk;cases hk
  obtain⟨c,hc⟩:=I.ok.has x (.inl hk);obtain⟨w',z⟩:=I.cell x c hc;refine wpAny_storeName_cell I.ok.kind hk hc z (fun h' gx hs=>?_)
  obtain⟨oc,P6,E2⟩:=id z;refine h { s with heap:=h' } ⟨I.ok,I.os,I.bare,⟨fun b o e n hb hx=>?_,fun b o e n hb hx=>?_,I.base.free,fun b o e hx=>?_,I.base.tups,I.base.frzs,I.base.tbls⟩,⟨m,hn.sameBut hs (kP (cne x c hc)),fun j y v' e1 e2 e3=>?_⟩,fun y c' e=>?_,I.free,I.freeC,fun p hp=>?_,m9 ⟨oc,P6,I.freeC x c hc⟩ hs,by simpa using I.len⟩ ⟨c,hs,.inr hc⟩
  ·exact(hs.2 b (dM (iL (cC e) (I.ok.cab x c E1 hc)))).trans (I.base.keep b o e n hb hx)
  ·obtain⟨sl,e1⟩:=I.base.slot b o e n hb hx;exact⟨sl,(hs.2 b (dM (iL (cC e) (I.ok.cab x c E1 hc)))).trans e1⟩
  ·obtain⟨o',e1⟩:=I.base.there b o e hx;exact⟨o',(hs.2 b (dM (iL (cC e) (I.ok.cab x c E1 hc)))).trans e1⟩
  ·by_cases hj:j=i
   ·subst hj;rw[hi] at e1;cases e1;rw[rE xn] at e2;cases e2;exact⟨u,r,.inr ⟨.inl hk,c,hc,gx⟩⟩
   ·rw[rF (kP hj)] at e2;obtain⟨u',r',q⟩:=hl j y v' e1 e2 e3;refine⟨u',r',?_⟩;rcases q with q|⟨k,c',e,z'⟩
    ·exact .inl q
    ·refine .inr ⟨k,c',e,z'.sameBut hs ?_⟩;rintro rfl;exact hj (SI hN e1 (I.ok.inj _ _ _ e hc ▸ hi))
  ·by_cases P7:c'=c
   ·subst P7;exact⟨_,gx⟩
   ·obtain⟨w2,z2⟩:=I.cell y c' e;exact⟨w2,z2.sameBut hs P7⟩
  ·obtain⟨e,n,ne,nf,d⟩:=I.pin p hp;refine⟨(hs.2 p.1 ?_).trans e,n,ne,nf,d⟩;intro q;rw[q,P6] at e;have q':oc=p.2:=iH e;exact d w' (by rw[← q'];exact E2)
theorem TH{v:V}{Q:Unit->aH->Prop}(I:Inv X ad σ H s)(hN:X.N.Nodup)(hi:X.N[i]?=aa x)(hx:nD X.env.scope x)(r:RelV v u)
  (h:∀ s',Inv X ad (σ.set i (aa v)) H s'->Q () s') (hf:X.fn x=ae\/X.env.scope.names.lookup x=aa .local:=by first|exact .inl rfl|exact .inr rfl|assumption):aJ M A (storeName X.env x u) Q E s:=
 VB I hN hi hx r (fun s' I' _=>h s' I') hf
theorem Inv.call'(I:Inv X ad σ H s)(ho:s'.os=s.os)(u:Un (o6 X.stack) ch H H' s.heap s'.heap)(hok:HOk X.prog X.w H' s'.heap)(hg:sU s'.gens)
  (qo:∀ b∈ch,(b∈X.ex\/X.s₀.heap.objs.size≤b)/\b≠X.env.locals/\(∀ x c,X.env.cells.lookup x=aa c->c≠b)/\∀ p∈X.pn++ad,p.1≠b):Inv X ad σ H' s':=by
 obtain⟨h',g',d',t',o'⟩:=s';have e:o'=s.os:=ho;subst e;exact I.call (g':=g') (t':=t') (d':=d') u hok hg qo
end
abbrev XK:=aC->Option aD->Hp->Prop
abbrev St:=List (Option V)
abbrev VK:=V->Hp->Prop
abbrev TE:=St->Hp->VK->Prop
abbrev TT:=St->Hp->(Bool->Hp->Prop)->Prop
abbrev TA:=St->Hp->(List V->Hp->Prop)->Prop
structure Ends where
 nx:St->Hp->Prop
 rt:VK
 bk:St->Hp->Prop:=fun _ _=>False
 ct:St->Hp->Prop:=fun _ _=>False
abbrev TS:=Ends->St->Hp->Prop
def EP (X:Cx)(ad:List (aD×bJ))(σ:St)(Q:VK)(u:aC)(s':aH):Prop:=∃ v H',Inv X ad σ H' s'/\RelV v u/\Q v H'
def TP (X:Cx)(ad:List (aD×bJ))(σ:St)(Q:Bool->Hp->Prop)(b:Bool)(s':aH):Prop:=∃ H',Inv X ad σ H' s'/\Q b H'
def AP (X:Cx)(ad:List (aD×bJ))(σ:St)(Q:List V->Hp->Prop)(us:List aC)(s':aH):Prop:=∃ vs H',Inv X ad σ H' s'/\Vals vs us/\Q vs H'
def SP (X:Cx)(ad:List (aD×bJ))(D:Ends)(f:Flow)(s':aH):Prop:=
 match f with
 |.next=>∃ σ' H',Inv X ad σ' H' s'/\D.nx σ' H'
 |.brk=>∃ σ' H',Inv X ad σ' H' s'/\D.bk σ' H'
 |.cont=>∃ σ' H',Inv X ad σ' H' s'/\D.ct σ' H'
 |.ret u=>∃ v σ' H',Inv X ad σ' H' s'/\RelV v u/\D.rt v H'
def PE (X:Cx)(e:bF)(t:TE):Prop:=
 ∀ (ad:List (aD×bJ)) (s:aH) (σ:St) (H:Hp) (Q:VK),Inv X ad σ H s->t σ H Q->aJ (aO X.prog X.w) X.A (cE e X.env) (EP X ad σ Q) X.xe s
def PT (X:Cx)(e:bF)(t:TT):Prop:=
 ∀ (ad:List (aD×bJ)) (s:aH) (σ:St) (H:Hp) (Q:Bool->Hp->Prop),Inv X ad σ H s->t σ H Q->aJ (aO X.prog X.w) X.A (isTrue e X.env (cE e X.env)) (TP X ad σ Q) X.xe s
def PW (X:Cx)(e:bF)(t:TT):Prop:=
 ∀ (gy:fV aC) (ad:List (aD×bJ)) (s:aH) (σ:St) (H:Hp) (Q:Bool->Hp->Prop),Inv X ad σ H s->t σ H Q->aJ (aO X.prog X.w) X.A (isTrue e X.env gy) (TP X ad σ Q) X.xe s
theorem PW.pt {X:Cx}{t:TT}(h:PW X e t):PT X e t:=h _
def PA (X:Cx)(es:List bF)(t:TA):Prop:=
 ∀ (pos:dA) (ad:List (aD×bJ)) (s:aH) (σ:St) (H:Hp) (Q:List V->Hp->Prop),Inv X ad σ H s->t σ H Q->aJ (aO X.prog X.w) X.A (spliced (iJ pos (cH es X.env))) (AP X ad σ Q) X.xe s
def PS (X:Cx)(st:cV)(t:TS):Prop:=
 ∀ (ad:List (aD×bJ)) (s:aH) (σ:St) (H:Hp) (D:Ends),Inv X ad σ H s->t D σ H->aJ (aO X.prog X.w) X.A (exec st X.env) (SP X ad D) X.xe s
def PSs (X:Cx)(st:List cV)(t:TS):Prop:=
 ∀ (ad:List (aD×bJ)) (s:aH) (σ:St) (H:Hp) (D:Ends),Inv X ad σ H s->t D σ H->aJ (aO X.prog X.w) X.A (execs st X.env) (SP X ad D) X.xe s
theorem a9 {α:Type}{t:fV α}{Q Q':α->aH->Prop}(h:aJ M A t Q E s)(hQ:∀ a s,Q a s->Q' a s):aJ M A t Q' E s:=mD h hQ fun _ _ x=>x
section
variable {X:Cx}
abbrev Ea (i:Nat):TE:=fun σ H Q=>∃ v,σ[i]?=aa (aa v)/\Q v H
abbrev tC (v:V):TE:=fun _ H Q=>Q v H
theorem qP(hN:X.N[i]?=aa x)(hv:oK X.env.scope x)(hd:(x==("__debug__" : aE))=af:=by decide)(ic:(x==("__classdict__" : aE))=af:=by decide):PE X (.Name x pos) (Ea i):=by
 rw[9];obtain⟨v,e,h⟩:=h;obtain⟨m,hn,hl⟩:=I.loc;obtain⟨u,r,l⟩:=hl i x v hN e hv;have fin:EP X ad σ Q u s:=⟨v,H,I,r,h⟩;rcases l with⟨hk,hm⟩|⟨hk,c,hc,ng⟩
 ·exact wpAny_Name (wpAny_loadName_local I.ok.kind hk hn hm fin) hd
 ·rcases hk with hk|hk
  ·exact wpAny_Name (wpAny_loadName_cell I.ok.kind hk hc ng fin) hd
  ·exact wpAny_Name (wpAny_loadName_free I.ok.kind hk hc ng fin ic) hd
theorem Hx {i j pos}:PE X (.Constant (.int i) j pos) (tC (.int i)):=fun _ _ _ H _ I h=>wpAny_Constant_int ⟨.int i,H,I.tok _,⟨_,rfl⟩,h⟩
theorem Fi {b j pos}:PE X (.Constant (.bool b) j pos) (tC (.bl b)):=fun _ _ _ H _ I h=>Constant_bool ⟨.bl b,H,I,rfl,h⟩
theorem ZR {j pos}:PE X (.Constant .none j pos) (tC .non):=fun _ _ _ H _ I h=>Constant_none ⟨.non,H,I,rfl,h⟩
theorem Ju {x j pos}:PE X (.Constant (.str x) j pos) (tC (.str x)):=fun _ _ _ H _ I h=>Calls.Constant_str ⟨.str x,H,I.tok _,⟨_,rfl⟩,h⟩
def Gl (X:Cx)(x:aE):Prop:=X.env.kindOf x=aa .globalImplicit
theorem RA{σ:St}{H:Hp}(I:Inv X ad σ H s)(hg:Gl X x)(hm:X.mg x=aa u)(h:Q u s)
  (hd:(x==("__debug__" : aE))=af:=by decide):aJ (aO X.prog X.w) X.A (cE (.Name x pos) X.env) Q E s:=
 Calls.Name_function_global I.ok.kind hg (Calls.loadGlobal_global (by rw[I.ok.glob];exact I.mod.glob.keeps I.bk) hm h) hd
theorem tH{σ:St}{H:Hp}(I:Inv X ad σ H s)(hg:Gl X x)(hm:X.mg x=ab)(hv:qC x=aa u)(h:Q u s)
  (hn:x ≠ "__name__":=by decide) (hd:(x==("__debug__" : aE))=af:=by decide):aJ (aO X.prog X.w) X.A (cE (.Name x pos) X.env) Q E s:=by
 obtain⟨mb,h1,h2⟩:=I.mod.blt;exact Calls.Name_function_global I.ok.kind hg (Calls.loadGlobal_builtin (by rw[I.ok.glob];exact I.mod.glob.keeps I.bk) hm (by rw[I.ok.blt];exact h1.keeps I.bk) ((h2 x hn).trans hv) h) hd
theorem Ke{v:V}(hg:Gl X x)(hm:X.mg x=aa u)(r:RelV v u)(hd:(x==("__debug__" : aE))=af:=by decide):PE X (.Name x pos) (tC v):=
 fun _ _ _ H _ I h=>RA I hg hm ⟨v,H,I,r,h⟩ hd
theorem Tf{v:V}(hg:Gl X x)(hm:X.mg x=ab)(hv:qC x=aa u)(r:RelV v u)(hn:x ≠ "__name__":=by decide)(hd:(x==("__debug__" : aE))=af:=by decide):PE X (.Name x pos) (tC v):=
 fun _ _ _ H _ I h=>tH I hg hm hv ⟨v,H,I,r,h⟩ hn hd
variable {a b:bF}{ta tb:TE}
def tB (t:TE):TT:=fun σ H Q=>t σ H fun x H1=>∃ c,x=.bl c/\Q c H1
theorem Ht{t:TE}(h:PE X e t)(he:∀ gy,isTrue e X.env gy=(do let v ← gy;standAt e.pos;pD [v] (truthy v)):=by intro _;rfl):PT X e (tB t):=by
 intro ad s σ H Q I hw;refine isTrue_plain (a9 (h ad s σ H _ I hw) fun v s1 ⟨x,H1,I1,r1,q1⟩=>?_) (he _)
 obtain⟨d,rfl,q⟩:=q1;cases r1;exact Bo ⟨H1,I1,q⟩
variable {tA tB':TT}{rest:List bF}
def Dy (t u:TT):TT:=fun σ H Q=>t σ H fun c H1=>if c=ae then u σ H1 Q else Q af H1
def tOr (t u:TT):TT:=fun σ H Q=>t σ H fun c H1=>if c=ae then Q ae H1 else u σ H1 Q
def Ee (t:TT):TT:=fun σ H Q=>t σ H fun c H1=>Q (!c) H1
theorem Ld (ha:PT X a tA):PW X (.BoolOp .And [a] pos) tA:=by
 intro wh ad s σ H Q I h;refine isTrue_and (a9 (ha ad s σ H Q I h) fun c s1 e=>?_)
 cases c with
 |true=>exact isTrue_and_nil e
 |false=>exact e
theorem Jx (ha:PT X a tA):PW X (.BoolOp .Or [a] pos) tA:=by
 intro wh ad s σ H Q I h;refine isTrue_or (a9 (ha ad s σ H Q I h) fun c s1 e=>?_)
 cases c with
 |false=>exact isTrue_or_nil e
 |true=>exact e
theorem Ic (ha:PT X a tA)(hb:PW X (.BoolOp .And (b::rest) pos) tB'):PW X (.BoolOp .And (a::b::rest) pos) (Dy tA tB'):=by
 intro wh ad s σ H Q I h;refine isTrue_and (a9 (ha ad s σ H _ I h) fun c s1 gh=>?_)
 obtain⟨H1,I1,q1⟩:=gh;cases c with
 |true=>exact hb wh ad s1 σ H1 Q I1 q1
 |false=>exact⟨H1,I1,q1⟩
theorem Fk (ha:PT X a tA)(hb:PW X (.BoolOp .Or (b::rest) pos) tB'):PW X (.BoolOp .Or (a::b::rest) pos) (tOr tA tB'):=by
 intro wh ad s σ H Q I h;refine isTrue_or (a9 (ha ad s σ H _ I h) fun c s1 gh=>?_)
 obtain⟨H1,I1,q1⟩:=gh;cases c with
 |true=>exact⟨H1,I1,q1⟩
 |false=>exact hb wh ad s1 σ H1 Q I1 q1
theorem Jw (ha:PT X a tA):PT X (.UnaryOp .Not a pos) (Ee tA):=by
 rw[9];exact isTrue_not (ha ad s σ H (fun c H1=>Q (!c) H1) I h)
def Fj (ta tb:TE):TE:=fun σ H Q=>ta σ H fun x H1=>∃ c,x=.bl c/\if c=ae then tb σ H1 Q else Q (.bl af) H1
theorem Jz {op}{t:TE}(h:PE X a t):PE X (.BoolOp op [a] pos) t:=fun ad s σ H Q I hw=>BoolOp_one (h ad s σ H Q I hw)
theorem Hf (ha:PE X a ta)(hb:PE X (.BoolOp .And (b::rest) pos) tb):PE X (.BoolOp .And (a::b::rest) pos) (Fj ta tb):=by
 rw[9];refine BoolOp_and (a9 (ha ad s σ H _ I h) fun v s1 gh=>?_)
 rw[24];obtain⟨c,rfl,q1⟩:=q1;cases r1;refine Bo ?_;cases c with
 |true=>exact hb ad s1 σ H1 Q I1 q1
 |false=>exact⟨.bl af,H1,I1,rfl,q1⟩
def tIf (t:TT)(ta tb:TE):TE:=fun σ H Q=>t σ H fun c H1=>if c=ae then ta σ H1 Q else tb σ H1 Q
theorem Wf(hc:PT X c tA)(ha:PE X a ta)(hb:PE X b tb):PE X (.IfExp c a b pos) (tIf tA ta tb):=by
 rw[9];refine wpAny_IfExp (a9 (hc ad s σ H _ I h) fun d s1 gh=>?_)
 obtain⟨H1,I1,q1⟩:=gh;cases d with
 |true=>exact ha ad s1 σ H1 Q I1 q1
 |false=>exact hb ad s1 σ H1 Q I1 q1
end
def SqL (K:aM)(H:Hp)(a:aD)(xs:List V):Prop:=
 Rd H a (.lst xs) \/
  ∃ (o:bJ) (its:Array aC) (n:Nat),K.lookup a=aa o/\o.cls=.type "list" /\ o.dict=ab/\o.data=.seq its n/\its.size≤sizeLine/\Vals xs its.toList
def SqT (K:aM)(H:Hp)(a:aD)(xs:List V):Prop:=
 Rd H a (.tup xs) \/
  ∃ (o:bJ) (its:Array aC) (n:Nat),K.lookup a=aa o/\o.cls=.type "tuple" /\ o.data=.seq its n/\its.size≤sizeLine/\Vals xs its.toList
def Dx:aC->Option V
 |.none=>aa .non
 |.bool b=>aa (.bl b)
 |.int i _=>aa (.int i)
 |.str x _=>aa (.str x)
 |.bytes b _=>aa (.byt b)
 |.float b _=>aa (.flt b)
 |.ref a=>aa (.ref a)
 |.type n=>aa (.ty n)
 |_=>ab
theorem RelV.abs {x:V}(r:RelV x u):Dx u=aa x:=by
 cases x with
 |non=>cases r;rfl
 |bl _=>cases r;rfl
 |int _=>obtain⟨t,rfl⟩:=r;rfl
 |str _=>obtain⟨t,rfl⟩:=r;rfl
 |byt _=>obtain⟨t,rfl⟩:=r;rfl
 |flt _=>obtain⟨t,rfl⟩:=r;rfl
 |ref _=>cases r;rfl
 |ty _=>cases r;rfl
theorem RelV.inj {x y:V}(r:RelV x u)(q:RelV y u):x=y:=iH (r.abs.symm.trans q.abs)
theorem Vals.inj:∀ {xs ys:List V} {us:List aC},Vals xs us->Vals ys us->xs=ys:=by
 intro xs ys us h;induction h generalizing ys with
 |nil=>intro h;cases h;rfl
 |cons r _ ih=>
  intro h;cases h with
  |cons r' t'=>rw[r.inj r',ih t']
section
variable {X:Cx}{σ:St}{H:Hp}{xs ys:List V}
theorem SqL.of(h:H a=aa (.lst xs)):SqL K H a xs:=.inl (.inl h)
theorem SqT.of(h:H a=aa (.tup xs)):SqT K H a xs:=.inl (.inl h)
theorem Inv.list (I:Inv X ad σ H s)(h:SqL X.K H a xs):∃ its:List aC,Vals xs its/\PlainL s.heap a its.toArray/\xs.length≤sizeLine:=by
 rcases h with h|⟨o,its,n,hk,hc,hd,hs,hz,r⟩
 ·obtain⟨z,its,n,r,e⟩:=h.ok I.hok;exact⟨its,r,⟨_,n,e,rfl,rfl,rfl⟩,z⟩
 ·refine⟨its.toList,r,⟨o,n,I.kIn a o hk,hc,hd,by simpa using hs⟩,?_⟩
  have e:=r.length;simp only[jE] at e;omega
theorem Inv.tuple (I:Inv X ad σ H s)(h:SqT X.K H a xs):∃ its:List aC,Vals xs its/\IsTup s.heap a its.toArray/\xs.length≤sizeLine:=by
 rcases h with h|⟨o,its,n,hk,hc,hs,hz,r⟩
 ·obtain⟨z,its,r,p⟩:=h.ok I.hok;exact⟨its,r,p.1,z⟩
 ·refine⟨its.toList,r,⟨o,I.kIn a o hk,hc,n,by simpa using hs⟩,?_⟩
  have e:=r.length;simp only[jE] at e;omega
theorem Inv.list_inj (I:Inv X ad σ H s)(h:SqL X.K H a xs)(h':SqL X.K H a ys):xs=ys:=by
 obtain⟨its,r,⟨o,n,e,_,_,d⟩,_⟩:=I.list h;obtain⟨its',r',⟨o',n',e',_,_,d'⟩,_⟩:=I.list h';rw[e] at e';cases e';rw[d] at d';injection d' with d1 _;have:its=its':=by simpa using congrArg Array.toList d1
 rw[25];exact r.inj r'
theorem Inv.tuple_inj (I:Inv X ad σ H s)(h:SqT X.K H a xs)(h':SqT X.K H a ys):xs=ys:=by
 obtain⟨its,r,⟨o,e,_,n,d⟩,_⟩:=I.tuple h;obtain⟨its',r',⟨o',e',_,n',d'⟩,_⟩:=I.tuple h';rw[e] at e';cases e';rw[d] at d';injection d' with d1 _;have:its=its':=by simpa using congrArg Array.toList d1
 rw[25];exact r.inj r'
end
abbrev Cx.wish (X:Cx)(E:aC->aH->Prop):Cx:={ X with xe:=E }
abbrev Cx.nox (X:Cx):Cx:=X.wish fun _ _=>False
theorem Cx.Ok.wish {X:Cx}(ok:X.Ok)(E:aC->aH->Prop):(X.wish E).Ok:=
 ⟨ok.mod,ok.kind,ok.glob,ok.blt,ok.above,ok.inj,ok.has,ok.cab,ok.hd,ok.frames,ok.stk,ok.exf,ok.bs,ok.bsz,ok.noex,ok.exfs,ok.funs,ok.frf⟩
theorem Cx.Ok.unwish {X:Cx}(ok:(X.wish E).Ok):X.Ok:=
 ⟨ok.mod,ok.kind,ok.glob,ok.blt,ok.above,ok.inj,ok.has,ok.cab,ok.hd,ok.frames,ok.stk,ok.exf,ok.bs,ok.bsz,ok.noex,ok.exfs,ok.funs,ok.frf⟩
section
variable {X:Cx}{σ:St}{H:Hp}
theorem Inv.wish (I:Inv X ad σ H s)(E:aC->aH->Prop):Inv (X.wish E) ad σ H s:=⟨I.ok.wish E,I.os,I.bare,I.base,I.loc,I.cell,I.free,I.freeC,I.pin,I.hok,I.len⟩
theorem Inv.unwish (I:Inv (X.wish E) ad σ H s):Inv X ad σ H s:=⟨I.ok.unwish,I.os,I.bare,I.base,I.loc,I.cell,I.free,I.freeC,I.pin,I.hok,I.len⟩
theorem SP.unwish {D:Ends}{f:Flow}(h:SP (X.wish E) ad D f s'):SP X ad D f s':=by
 cases f with
 |next=>obtain⟨σ',H',I,q⟩:=h;exact⟨σ',H',I.unwish,q⟩
 |brk=>obtain⟨σ',H',I,q⟩:=h;exact⟨σ',H',I.unwish,q⟩
 |cont=>obtain⟨σ',H',I,q⟩:=h;exact⟨σ',H',I.unwish,q⟩
 |ret u=>obtain⟨v,σ',H',I,r,q⟩:=h;exact⟨v,σ',H',I.unwish,r,q⟩
theorem PSs.nox {st:List cV}{t:TS}(h:PSs X.nox st t):PSs X st t:=fun ad s σ H D I hw=>
 mD (h ad s σ H D (I.wish _) hw) (fun _ _ q=>q.unwish) fun _ _ z=>rH z
end
section
variable {X:Cx}{st:cV}{rest:List cV}{t u:TS}{te:TE}
def Ey:TS:=fun D σ H=>D.nx σ H
def Eb (t u:TS):TS:=fun D σ H=>t { D with nx:=u D } σ H
theorem Mm:PSs X [] Ey:=fun _ _ σ H _ I h=>wpAny_execs_nil ⟨σ,H,I,h⟩
theorem Wh (h1:PS X st t)(h2:PSs X rest u):PSs X (st::rest) (Eb t u):=by
 rw[27];refine wpAny_execs_cons (a9 (h1 ad s σ H { D with nx:=u D } I h) fun f s1 q=>?_)
 cases f with
 |next=>
  obtain⟨σ',H',I',q⟩:=q;exact h2 ad s1 σ' H' D I' q
 |ret v=>exact q
 |brk=>exact q
 |cont=>exact q
theorem Tp (h1:PS X st t):PSs X [st] t:=by
 rw[27];refine wpAny_execs_cons (a9 (h1 ad s σ H D I h) fun f s1 q=>?_)
 cases f with
 |next=>exact wpAny_execs_nil q
 |ret v=>exact q
 |brk=>exact q
 |cont=>exact q
theorem Inv.quiet{σ:St}{H:Hp}(I:Inv X ad σ H s):interactive X.env=af:=by simp[interactive,I.ok.kind]
def Fw (te:TE):TS:=fun D σ H=>te σ H fun _ H1=>D.nx σ H1
theorem ED (he:PE X e te)(hs:nY e ab pos.line X.env=pure af:=by rfl):PS X (.Expr e pos) (Fw te):=by
 rw[27];exact wpAny_Expr_any (a9 (he ad s σ H _ I h) fun v s1 ⟨x,H1,I1,r1,q1⟩=>⟨σ,H1,I1,q1⟩) I.quiet hs
def Ds (te:TE):TS:=fun D σ H=>te σ H D.rt
theorem ZT (he:PE X e te):PS X (.Return (aa e) pos) (Ds te):=by
 rw[27];exact wpAny_Return_some (a9 (he ad s σ H _ I h) fun v s1 ⟨x,H1,I1,r1,q1⟩=>⟨x,σ,H1,I1,r1,q1⟩)
def Ec (c:TT)(t u:TS):TS:=fun D σ H=>c σ H fun b H1=>if b=ae then t D σ H1 else u D σ H1
theorem Fn{a b:List cV}{tc:TT}(hc:PT X c tc)(ha:PSs X a t)(hb:PSs X b u):PS X (.If c a b pos) (Ec tc t u):=by
 rw[27];refine wpAny_If (a9 (hc ad s σ H _ I h) fun d s1 gh=>?_)
 obtain⟨H1,I1,q1⟩:=gh;cases d with
 |true=>exact ha ad s1 σ H1 D I1 q1
 |false=>exact hb ad s1 σ H1 D I1 q1
end
abbrev TG:=V->St->Hp->(St->Hp->Prop)->Prop
abbrev wc:=List V->St->Hp->(St->Hp->Prop)->Prop
def PG (X:Cx)(ie:bF)(t:TG):Prop:=
 ∀ (ad:List (aD×bJ)) (s:aH) (σ:St) (H:Hp) (v:V) (u:aC) (Q:St->Hp->Prop),Inv X ad σ H s->RelV v u->t v σ H Q ->
  aJ (aO X.prog X.w) X.A (mU ie X.env u) (fun _ s'=>∃ σ' H',Inv X ad σ' H' s'/\Q σ' H') X.xe s
def D4 (X:Cx)(ts:List bF)(t:wc):Prop:=
 ∀ (ad:List (aD×bJ)) (s:aH) (σ:St) (H:Hp) (vs:List V) (us:List aC) (Q:St->Hp->Prop),Inv X ad σ H s->Vals vs us->t vs σ H Q ->
  aJ (aO X.prog X.w) X.A (assignInOrder ((oA ts X.env).map (·.2)) us) (fun _ s'=>∃ σ' H',Inv X ad σ' H' s'/\Q σ' H') X.xe s
abbrev IA:=V->V->V->Hp->(Hp->Prop)->Prop
def PF (X:Cx)(t:IA):Prop:=
 ∀ (ad:List (aD×bJ)) (s:aH) (σ:St) (H:Hp) (o i v:V) (ov iv u:aC) (Q:Hp->Prop),Inv X ad σ H s->RelV o ov->RelV i iv->RelV v u->t o i v H Q ->
  aJ (aO X.prog X.w) X.A (setItem ov iv u) (fun _ s'=>∃ H',Inv X ad σ H' s'/\Q H') X.xe s
section
variable {X:Cx}
def GB (i:Nat):TG:=fun v σ H Q=>Q (σ.set i (aa v)) H
theorem EI(hN:X.N.Nodup)(hi:X.N[i]?=aa x)(hx:nD X.env.scope x)(hf:X.fn x=ae\/X.env.scope.names.lookup x=aa .local:=by first|exact .inl rfl|exact .inr rfl|assumption):PG X (.Name x pos) (GB i):=by
 intro ad s σ H v u Q I r h;exact wpAny_assign_Name (TH I hN hi hx r (fun s' I'=>⟨_,H,I',h⟩) hf)
def Ep:wc:=fun vs σ H Q=>vs=[]/\Q σ H
def Ga (t:TG)(u:wc):wc:=fun vs σ H Q=>∃ v r,vs=v::r/\t v σ H fun σ' H'=>u r σ' H' Q
theorem Tn:D4 X [] Ep:=by
 intro ad s σ H vs us Q I r h;obtain⟨e,h⟩:=h;subst e;cases r;exact assignInOrder_nil ⟨σ,H,I,h⟩
theorem SY{t:TG}{u:wc}(h1:PG X e t)(h2:D4 X es u)
  (hs:(oA (e::es) X.env).map (·.2)=mU e X.env::(oA es X.env).map (·.2):=by rfl):D4 X (e::es) (Ga t u):=by
 intro ad s σ H vs us Q I r h;obtain⟨v,vr,e1,h⟩:=h;subst e1;cases r with
 |cons r rr=>
  rw[hs];refine assignInOrder_cons (a9 (h1 ad s σ H _ _ _ I r h) fun _ s1 gh=>?_)
  obtain⟨σ1,H1,I1,q1⟩:=gh;exact h2 ad s1 σ1 H1 _ _ Q I1 rr q1
def Er (K:aM)(n:Nat)(t:wc):TG:=fun v σ H Q=>∃ a xs,v=.ref a/\SqT K H a xs/\xs.length=n/\t xs σ H Q
theorem Iw{t:wc}{n:Nat}(hc:X.calm=ae)(h:D4 X es t)
  (hn:(oA es X.env).length=n:=by rfl) (ki:(oA es X.env).findIdx? (·.1)=ab:=by rfl):PG X (.Tuple es k pos) (Er X.K n t):=by
 intro ad s σ H v u Q I r hw;obtain⟨a,xs,e1,hq,hl,hw⟩:=hw;subst e1;cases r;obtain⟨its,rv,ht,hz⟩:=I.tuple hq;refine assign_Tuple_tuple (I.ok.hd hc) ht (by simp[hn,← hl,rv.length]) ki fun h' hx=>?_
 have I1:Inv X ad σ H { s with heap:=h' }:=I.kept (t':=s.toks) fun b o e=>hx b o (dM (cC e)) e
 exact h ad _ σ H xs _ Q I1 (by simpa using rv) hw
def Ef (to ti:TE)(t:IA):TG:=fun v σ H Q=>to σ H fun o H1=>ti σ H1 fun i H2=>t o i v H2 fun H3=>Q σ H3
theorem Im {o i:bF}{to ti:TE}{t:IA}(ho:PE X o to)(hi:PE X i ti)(hs:PF X t)
  (ha:∀ v,mU (.Subscript o i pos) X.env v=(do
   let ov ← pD [v] (cE o X.env)
   let iv ← pD [v,ov] (cE i X.env)
   standAt pos
   pD [v,ov,iv] (setItem ov iv v)
   release [v,ov,iv] []):=by intro _;rfl):PG X (.Subscript o i pos) (Ef to ti t):=by
 intro ad s σ H v u Q I r h;rw[ha];refine aF (iX (a9 (ho ad s σ H _ I h) fun ov s1 gh=>?_))
 rw[24];refine aF (iX (a9 (hi ad s1 σ H1 _ I1 q1) fun iv s2 gh=>?_))
 obtain⟨y,H2,I2,r2,q2⟩:=gh;refine aF (wpAny_standAt (aF (iX (a9 (hs ad s2 σ H2 x y v ov iv u _ I2 r1 r2 r q2) fun _ s3 gh=>?_))))
 obtain⟨H3,I3,q3⟩:=gh;exact wpAny_release ⟨σ,H3,I3,q3⟩
def IC (te:TE)(g:TG):TS:=fun D σ H=>te σ H fun x H1=>g x σ H1 D.nx
theorem Ii{te:TE}{g:TG}(he:PE X e te)(hg:PG X tg g)(hs:swapsWithSole [tg] e pos.line X.env=pure af:=by rfl)(hw:swappedStores [tg] e X.env=pure ab:=by rfl)
  (h1:(oA [tg] X.env).map (·.2)=[mU tg X.env]:=by rfl):PS X (.Assign [tg] e pos) (IC te g):=by
 rw[27];refine wpAny_Assign_stores (a9 (he ad s σ H _ I h) fun v s1 ⟨x,H1,I1,r1,q1⟩=>?_) hs hw
 rw[h1];exact a9 (hg ad s1 σ H1 x v _ I1 r1 q1) fun _ s2 q=>q
theorem ZS{te:TE}{kj:dA}(hN:X.N.Nodup)(hi:X.N[i]?=aa x)(hx:nD X.env.scope x)(he:PE X e te)(hs:nY e (aa (.Name x kj)) pos.line X.env=pure af:=by rfl)(hf:X.fn x=ae\/X.env.scope.names.lookup x=aa .local:=by first|exact .inl rfl|exact .inr rfl|assumption) :
  PS X (.Assign [.Name x kj] e pos) (IC te (GB i)):=by
 rw[27];refine wpAny_Assign_Name (a9 (he ad s σ H _ I h) fun v s1 ⟨y,H1,I1,r1,q1⟩=>?_) hs
 exact TH I1 hN hi hx r1 (fun s2 I2=>⟨_,H1,I2,q1⟩) hf
end
structure It where
 go:Nat->Hp->Prop
 yld:Nat->Hp->V->Hp->Prop
 stop:Nat->Hp->Prop
def lL (X:Cx)(ad:List (aD×bJ))(H:Hp)(b:aD):Prop:=
 H b=ab/\b≠X.env.locals/\b∉X.fs/\(b∈X.ex\/X.s₀.heap.objs.size≤b)/\(∀ x c,X.env.cells.lookup x=aa c->c≠b)/\∀ p∈X.pn++ad,p.1≠b
theorem Inv.fpOk {X:Cx}{σ:St}{H H':Hp}(I:Inv X ad σ H s)(hb:s.heap.objs.size≤b)(hn:H' b=ab):lL X ad H' b:=by
 refine⟨hn,jU (iL I.lt hb),I.nofs hb,.inr (jV I.sz hb),fun x c e z=>?_,fun p hp z=>?_⟩
 ·obtain⟨v,q⟩:=I.cell x c e;exact absurd (iL q.lt (by rw[z];exact hb)) (kQ _)
 ·exact absurd (iL (cC (I.pin p hp).1) (by rw[z];exact hb)) (kQ _)
structure Turn (P:bS)(w:bH)(K:aM)(tg:bF)(J:It)(fp:List aD)(it:aD)(tn:Nat->aZ->Prop):Prop where
 mem:it∈fp
 obj:∀ i h,tn i h->∀ b∈fp,∃ o,h.get? b=aa o/\∀ v,o.data ≠ .cell v
 keep:∀ i h h',tn i h->(∀ b∈fp,∀ o,h.get? b=aa o->h'.get? b=aa o)->tn i h'
 item:∀ (X:Cx),X.prog=P->X.w=w->X.K=K->X.calm=ae->∀ (i:Nat) (ad:List (aD×bJ)) (s:aH) (σ:St) (H:Hp) (E:aC->aH->Prop),Inv X ad σ H s->(∀ b∈fp,lL X ad H b)->tn i s.heap->J.go i H ->
  aJ (aO P w) X.A (iA (.ref it)) (fun r s1=>∃ u,r=aa u /\
   aJ (aO P w) X.A (NM tg (.ref it) u) (fun _ s2=>∃ x H',Inv X ad σ H' s2/\RelV x u/\J.yld i H x H'/\tn (i+1) s2.heap/\∀ b∈fp,H' b=ab) E s1) E s
 done:∀ (X:Cx),X.prog=P->X.w=w->X.K=K->X.calm=ae->∀ (i:Nat) (ad:List (aD×bJ)) (s:aH) (σ:St) (H:Hp) (E:aC->aH->Prop),Inv X ad σ H s->(∀ b∈fp,lL X ad H b)->tn i s.heap->J.stop i H ->
  aJ (aO P w) X.A (iA (.ref it)) (fun r s1=>r=ab/\Inv X ad σ H s1) E s
 self:∀ (A:cD) (i:Nat) (s:aH) (Q:aC->aH->Prop) (E:aC->aH->Prop),tn i s.heap->Q (.ref it) s->aJ (aO P w) A (pC (.ref it)) Q E s
abbrev TI:=St->Hp->(It->Hp->Prop)->Prop
def N9 (X:Cx)(ad:List (aD×bJ))(σ:St)(tg:bF)(R:It->Hp->Prop)(A8:aC)(s2:aH):Prop:=
 ∃ (it:aD) (fp:List aD) (tn:Nat->aZ->Prop) (J:It) (H':Hp),A8=.ref it/\Inv X ad σ H' s2/\Turn X.prog X.w X.K tg J fp it tn/\tn 0 s2.heap/\(∀ b∈fp,lL X ad H' b)/\R J H'
def PI (X:Cx)(tg a8:bF)(wi:TI):Prop:=
 ∀ (ad:List (aD×bJ)) (s:aH) (σ:St) (H:Hp) (R:It->Hp->Prop),Inv X ad σ H s->wi σ H R ->
  aJ (aO X.prog X.w) X.A (cE a8 X.env) (fun v s1=>aJ (aO X.prog X.w) X.A (pC v) (N9 X ad σ tg R) X.xe s1) X.xe s
theorem AX{it:aD}{n:String}{vs:Array aC}{Q:Unit->aH->Prop}(ho:s.heap.get? it=aa o)(hc:o.cls=.type n)(hd:o.data=.fields vs)
    (hn:["enumerate","zip","dict_itemiterator","dict_reverseitemiterator","odict_iterator","itertools.zip_longest","itertools.pairwise"].contains n=af) (hQ:Q () s):aJ M A (NM tg (.ref it) u) Q E s:=by
  unfold NM;cases tg<;>first
    |exact aQ hQ
    | (cases u<;>first
        |exact aQ hQ
        | (refine aF (wpAny_load ho ?_)
           rw[hc,hd];show aJ M A (if (["enumerate","zip","dict_itemiterator","dict_reverseitemiterator","odict_iterator","itertools.zip_longest","itertools.pairwise"].contains n&&vs[0]?==aa (dZ _))=ae then _ else _) Q E s
           rw[if_neg (by intro h;rw[hn,Bool.false_and] at h;cases h)]
           exact aQ hQ))
def HW (K:aM)(a:aD):It:=
 ⟨fun i H=>∃ xs x,SqL K H a xs/\xs[i]?=aa x,fun i H x H'=>H'=H/\∀ xs,SqL K H a xs->xs[i]?=aa x,fun i H=>∃ xs,SqL K H a xs/\xs.length≤i⟩
def HV (K:aM)(a:aD):It:=
 ⟨fun i H=>∃ xs x,SqT K H a xs/\xs[i]?=aa x,fun i H x H'=>H'=H/\∀ xs,SqT K H a xs->xs[i]?=aa x,fun i H=>∃ xs,SqT K H a xs/\xs.length≤i⟩
def CI (lo:Int)(n:Nat):It:=⟨fun i _=>i<n,fun i H x H'=>H'=H/\x=.int (lo+i),fun i _=>n≤i⟩
theorem Mx {P:bS}{w:bH}(a it:aD):Turn P w K tg (HW K a) [it] it (fun i h=>h.IsListIter it a i) where
 mem:=by simp
 obj:=fun i h st b hb=>by
  have e:b=it:=by simpa using hb
  subst e;obtain⟨o,e,c,d⟩:=st;exact⟨o,e,fun v z=>by rw[d] at z;cases z⟩
 keep:=fun i h h' st k=>st.at fun o e=>k it (by simp) o e
 item:=by
  rw[1];obtain⟨xs,x,hq,hx⟩:=hg;obtain⟨its,rv,p,hz⟩:=I.list hq;obtain⟨u,hu,ru⟩:=rv.get hx;rw[12];refine wpAny_pyNext_list_item st p.isList (x:=u) (by simpa using hu) fun h' ak sb=>?_
  have I1:Inv X ad σ H { s with heap:=h' }:=I.turned (t':=s.toks) (fun b o hb e=>(sb.2 b hb).trans e) f0 f1 f3 f4 f5
  obtain⟨o,e,c,d⟩:=id ak;exact⟨u,rfl,AX (s:={ s with heap:=h' }) e c d (by decide) ⟨x,H,I1,ru,⟨rfl,fun ys hy=>by rw[I.list_inj hy hq];exact hx⟩,ak,fun b hb=>(hf b hb).1⟩⟩
 done:=by
  rw[1];obtain⟨xs,hq,hx⟩:=hg;obtain⟨its,rv,p,hz⟩:=I.list hq;rw[12];have hl:=rv.length;exact wpAny_pyNext_list_end (I.ok.hd hc) st p.isList (by simp;omega) fun h' eb=>⟨rfl,I.turned (t':=s.toks) (fun b o hb e=>eb b o hb e) f0 f1 f3 f4 f5⟩
 self:=fun _ _ _ _ _ st h=>wpAny_pyIter_listiter st h
theorem Oa {P:bS}{w:bH}(a it:aD):Turn P w K tg (HV K a) [it] it (fun i h=>h.IsTupleIter it a i) where
 mem:=by simp
 obj:=fun i h st b hb=>by
  have e:b=it:=by simpa using hb
  subst e;obtain⟨o,e,c,d⟩:=st;exact⟨o,e,fun v z=>by rw[d] at z;cases z⟩
 keep:=fun i h h' st k=>st.at fun o e=>k it (by simp) o e
 item:=by
  rw[1];obtain⟨xs,x,hq,hx⟩:=hg;obtain⟨its,rv,p,hz⟩:=I.tuple hq;obtain⟨u,hu,ru⟩:=rv.get hx;rw[12];refine wpAny_pyNext_tuple_item st (show s.heap.IsTuple a its.toArray from p) (x:=u) (by simpa using hu) fun h' ak sb=>?_
  have I1:Inv X ad σ H { s with heap:=h' }:=I.turned (t':=s.toks) (fun b o hb e=>(sb.2 b hb).trans e) f0 f1 f3 f4 f5
  obtain⟨o,e,c,d⟩:=id ak;exact⟨u,rfl,AX (s:={ s with heap:=h' }) e c d (by decide) ⟨x,H,I1,ru,⟨rfl,fun ys hy=>by rw[I.tuple_inj hy hq];exact hx⟩,ak,fun b hb=>(hf b hb).1⟩⟩
 done:=by
  rw[1];obtain⟨xs,hq,hx⟩:=hg;obtain⟨its,rv,p,hz⟩:=I.tuple hq;rw[12];have hl:=rv.length;exact wpAny_pyNext_tuple_end (I.ok.hd hc) st (show s.heap.IsTuple a its.toArray from p) (by simp;omega) fun h' eb=>⟨rfl,I.turned (t':=s.toks) (fun b o hb e=>eb b o hb e) f0 f1 f3 f4 f5⟩
 self:=fun _ _ _ _ _ st h=>wpAny_pyIter_tupleiter st h
theorem Ov {P:bS}{w:bH}(it:aD)(lo:Int)(n:Nat):Turn P w K tg (CI lo n) [it] it (fun i h=>IsRangeIter h it (lo+(i:Nat)*1) ((n:Int)-(i:Nat)) 1) where
 mem:=by simp
 obj:=fun i h st b hb=>by
  have e:b=it:=by simpa using hb
  subst e;exact⟨_,st,fun v z=>by
   have z':Data.fields _=Data.cell v:=z;cases z'⟩
 keep:=fun i h h' st k=>k it (by simp) _ st
 item:=by
  rw[1];rw[12];have W:=Walks.range (prog:=X.prog) (w:=X.w) (I.ok.hd hc) it lo 1 n;refine W.item i s _ _ hg st fun v h' tk hv ak kk=>?_
  obtain⟨t,rfl⟩:=hv;have I1:Inv X ad σ H { s with heap:=h',toks:=tk }:=I.turned (fun b o hb e=>kk b o (by simpa using hb) e) f0 f1 f3 f4 f5
  refine⟨_,rfl,AX (s:={ s with heap:=h',toks:=tk }) (n:="range_iterator") ak rfl rfl (by decide) ⟨.int (lo+i),H,I1,⟨t,?_⟩,⟨rfl,rfl⟩,ak,fun b hb=>(hf b hb).1⟩⟩
  rw[Int.mul_one]
 done:=by
  rw[1];rw[12];exact wpAny_pyNext_range_end (I.ok.hd hc) st (by have:n≤i:=hg;omega) fun h' eb=>⟨rfl,I.turned (t':=s.toks) (fun b o hb e=>eb b o hb e) f0 f1 f3 f4 f5⟩
 self:=fun _ _ _ _ _ st h=>wpAny_pyIter_rangeiter st h
section
variable {X:Cx}
def Gm (K:aM)(tl:TE):TI:=fun σ H R=>tl σ H fun x H1=>∃ a,x=.ref a/\(∃ xs,SqL K H1 a xs)/\R (HW K a) H1
def Ej (K:aM)(tl:TE):TI:=fun σ H R=>tl σ H fun x H1=>∃ a,x=.ref a/\(∃ xs,SqT K H1 a xs)/\R (HV K a) H1
theorem Jr {l:bF}{tl:TE}(hl:PE X l tl):PI X tg l (Gm X.K tl):=by
 intro ad s σ H R I h;refine a9 (hl ad s σ H _ I h) fun v s1 gh=>?_
 rw[24];obtain⟨a,e,⟨xs,hq⟩,q⟩:=q1;subst e;cases r1;obtain⟨its,rv,p,hz⟩:=I1.list hq;refine NG p.isList ?_;refine⟨s1.heap.objs.size,[s1.heap.objs.size],_,_,H1,rfl,I1.kept (t':=s1.toks) fun b o e=>cL _ e,Mx a _,⟨_,eJ _ rfl,rfl,rfl⟩,fun b hb=>?_,q⟩
 have e:b=s1.heap.objs.size:=by simpa using hb
 subst e;exact I1.fpOk (bZ _) (I1.hok.fresh (bZ _))
theorem Gy {l:bF}{tl:TE}(hl:PE X l tl):PI X tg l (Ej X.K tl):=by
 intro ad s σ H R I h;refine a9 (hl ad s σ H _ I h) fun v s1 gh=>?_
 rw[24];obtain⟨a,e,⟨xs,hq⟩,q⟩:=q1;subst e;cases r1;obtain⟨its,rv,p,hz⟩:=I1.tuple hq;refine wpAny_pyIter_tuple (show s1.heap.IsTuple a its.toArray from p) ?_
 refine⟨s1.heap.objs.size,[s1.heap.objs.size],_,_,H1,rfl,I1.kept (t':=s1.toks) fun b o e=>cL _ e,Oa a _,⟨_,eJ _ rfl,rfl,rfl⟩,fun b hb=>?_,q⟩
 have e:b=s1.heap.objs.size:=by simpa using hb
 subst e;exact I1.fpOk (bZ _) (I1.hok.fresh (bZ _))
theorem Uj{σ:St}{H:Hp}{R:It->Hp->Prop}{lo hi:Int}{t u v:Tok}{tk:Nat}(I:Inv X ad σ H s)(h1 : -(2^62)≤lo)(h2:lo<2^62)(h3 : -(2^62)≤hi)(h4:hi<2^62)
  (q:R (CI lo (hi-lo).toNat) H):aJ (aO X.prog X.w) X.A (pC (.ref s.heap.objs.size)) (N9 X ad σ tg R) E { s with heap:=s.heap.push { cls:=.type "range",data:=.fields #[.int lo t,.int hi u,.int 1 v] },toks:=tk }:=by
 refine wpAny_pyIter_range (IsRange.new ..) (small_one h1 h2 h3 h4) ?_;have I1:Inv X ad σ H { s with heap:=s.heap.push { cls:=.type "range",data:=.fields #[.int lo t,.int hi u,.int 1 v] },toks:=tk }:=I.kept fun b o e=>cL _ e
 refine⟨(s.heap.push { cls:=.type "range",data:=.fields #[.int lo t,.int hi u,.int 1 v] }).objs.size,[(s.heap.push { cls:=.type "range",data:=.fields #[.int lo t,.int hi u,.int 1 v] }).objs.size],_,_,H,rfl,
  I1.kept (t':=tk) fun b o e=>cL _ e,Ov _ lo (hi-lo).toNat,?_,fun b hb=>?_,q⟩
 ·have e1:lo+((0:Nat):Int)*1=lo:=by simp
  have e2:(((hi-lo).toNat:Nat):Int)-((0:Nat):Int)=Builtin.Range.rangeSize lo hi 1:=by rw[rangeSize_one];split<;>omega
  show IsRangeIter _ _ (lo+((0:Nat):Int)*1) ((((hi-lo).toNat:Nat):Int)-((0:Nat):Int)) 1;rw[e1,e2];exact eJ _ rfl
 ·have e:b=(s.heap.push { cls:=.type "range",data:=.fields #[.int lo t,.int hi u,.int 1 v] }).objs.size:=by simpa using hb
  subst e;exact I1.fpOk (bZ _) (I1.hok.fresh (bZ _))
def Fe (ta:TA):TI:=fun σ H R=>ta σ H fun vs H1=>∃ j:Int,vs=[.int j] /\ -(2^62)≤j/\j<2^62/\R (CI 0 j.toNat) H1
theorem Nf {a:bF}{ta:TA}(hg:Gl X "range")(hm:X.mg "range" = ab)(ha:PA X [a] ta)(hs:cH [a] X.env=[(af,cE a X.env)]:=by rfl):PI X tg (.Call (.Name "range" p) [a] [] pos) (Fe ta):=by
 intro ad s σ H R I h;refine Call_ (tH I hg hm boot_range (GU (a9 (ha pos ad s σ H _ I h) fun us s1 ⟨vs,H1,I1,r1,q1⟩=>?_) hs rfl))
 obtain⟨j,e,q1,q2,q⟩:=q1;subst e;cases r1 with
 |cons r rr=>
  cases rr;obtain⟨t,rfl⟩:=r;exact call_range_1 (Uj I1 (by omega) (by omega) q1 q2 (by simpa using q))
def El (wi:TI)(g:TG)(tb:TS):TS:=fun D σ H=>wi σ H fun J H1=>∃ W:Nat->Nat->St->Hp->Prop,(∃ m,W 0 m σ H1)/\∀ i m σ H,W i m σ H ->
 (J.stop i H/\D.nx σ H)\/(J.go i H/\∃ N:St->Hp->Prop,(∀ σ' H',N σ' H'->∃ m',m'<m/\W (i+1) m' σ' H')/\∀ x H',J.yld i H x H'->g x σ H' fun σ2 H2=>tb { D with nx:=N,ct:=N,bk:=D.nx } σ2 H2)
def yW (fp:List aD)(h:aZ):List (aD×bJ):=fp.filterMap fun b=>(h.get? b).map fun o=>(b,o)
theorem FF(hb:b∈fp)(e:h.get? b=aa o):(b,o)∈yW fp h:=uV.mpr ⟨b,hb,by rw[e];rfl⟩
theorem Yw{p:aD×bJ}(hp:p∈yW fp h):p.1∈fp/\h.get? p.1=aa p.2:=by
 obtain⟨b,hb,e⟩:=uV.mp hp;cases q:h.get? b with
 |none=>rw[q] at e;cases e
 |some o=>
  rw[q] at e;have e':(b,o)=p:=iH e;subst e';exact⟨hb,q⟩
theorem Inv.pinned{σ:St}{H:Hp}(I:Inv X ad σ H s)(hf:∀ b∈fp,lL X ad H b)(ho:∀ b∈fp,∃ o,s.heap.get? b=aa o/\∀ v,o.data ≠ .cell v):Inv X (ad++yW fp s.heap) σ H s:=
 I.pins_of fun p hp=>(kR.mp hp).elim (fun z=>I.pin p (qF _ z)) fun z=>by
  obtain⟨hb,e⟩:=Yw z;obtain⟨f0,f1,f2,_⟩:=hf p.1 hb;obtain⟨o,e',d⟩:=ho p.1 hb;rw[e] at e';cases e';exact⟨e,f0,f1,f2,d⟩
theorem Inv.unpinned {pl:List (aD×bJ)}{σ:St}{H:Hp}(I:Inv X (ad++pl) σ H s):Inv X ad σ H s:=I.pins_of fun p hp=>I.pin p (qF _ (List.mem_append_left _ hp))
theorem Gc {a8:bF}{body:List cV}{wi:TI}{g:TG}{tb:TS}(hp:PassesOwn (aO X.prog X.w) X.A X.env X.xe)(hc:X.calm=ae)(hi:PI X tg a8 wi)(hg:PG X tg g)(hb:PSs X body tb)
  (hs:∀ x,uJ a8 X.env x=pure x:=by intro _;rfl):PS X (.For tg a8 body [] pos) (El wi g tb):=by
 rw[27];refine wpAny_For (a9 (hi ad s σ H _ I h) fun v s1 h1=>a9 h1 fun A8 s2 h2=>?_) hs
 obtain⟨it,fp,tn,J,H2,e,I2,T,bt,f2,W,⟨m0,w0⟩,pc⟩:=h2;subst e;have l6:∀ {H':Hp},(∀ b∈fp,H' b=ab)->∀ b∈fp,lL X ad H' b:=fun hn b hb=>⟨hn b hb,(f2 b hb).2⟩
 refine codeAny_forLoop_any (fun n s'=>∃ i σ' H',Inv X ad σ' H' s'/\tn i s'.heap/\(∀ b∈fp,H' b=ab)/\W i n σ' H') ?_ m0 ⟨0,σ,H2,I2,bt,fun b hb=>(f2 b hb).1,w0⟩
 rintro n s3 ⟨i,σ3,H3,I3,j2,xo,w3⟩;rcases pc i n σ3 H3 w3 with⟨stop,qn⟩|⟨go,N,hN,step⟩
 ·refine GF hp (a9 (T.done X rfl rfl rfl hc i ad s3 σ3 H3 X.xe I3 (l6 xo) j2 stop) fun r s4 gh=>?_)
  obtain⟨hr,I4⟩:=gh;subst hr;exact wpAny_execs_nil ⟨σ3,H3,I4,qn⟩
 ·refine GF hp (a9 (T.item X rfl rfl rfl hc i ad s3 σ3 H3 X.xe I3 (l6 xo) j2 go) fun r s4 gh=>?_)
  obtain⟨u,hr,h4⟩:=gh;subst hr;refine GF hp (a9 h4 fun _ s5 gh=>?_)
  obtain⟨x,H5,I5,r5,y5,tw,E3⟩:=gh;have E4:=I5.pinned (l6 E3) (T.obj _ _ tw);refine GF hp (a9 (hg _ s5 σ3 H5 x u _ E4 r5 (step x H5 y5)) fun _ s6 gh=>?_)
  obtain⟨σ6,H6,I6,q6⟩:=gh;refine GF hp (a9 (hb _ s6 σ6 H6 _ I6 q6) fun f s7 q7=>?_)
  have again:∀ {σ7:St} {H7:Hp},Inv X (ad++yW fp s5.heap) σ7 H7 s7->N σ7 H7->∃ m,m<n/\∃ i σ' H',Inv X ad σ' H' s7/\tn i s7.heap/\(∀ b∈fp,H' b=ab)/\W i m σ' H':=fun {σ7 H7} I7 n7=>by
   obtain⟨m',hm,w7⟩:=hN σ7 H7 n7;refine⟨m',hm,i+1,σ7,H7,I7.unpinned,T.keep _ _ _ tw fun b hb o e=>(I7.pin (b,o) (qF _ (qF _ (FF hb e)))).1,fun b hb=>?_,w7⟩
   obtain⟨o,e,d⟩:=T.obj _ _ tw b hb;exact(I7.pin (b,o) (qF _ (qF _ (FF hb e)))).2.1
  cases f with
  |next=>obtain⟨σ7,H7,I7,n7⟩:=q7;exact again I7 n7
  |cont=>obtain⟨σ7,H7,I7,n7⟩:=q7;exact again I7 n7
  |brk=>obtain⟨σ7,H7,I7,q7⟩:=q7;exact⟨σ7,H7,I7.unpinned,q7⟩
  |ret v=>obtain⟨x7,σ7,H7,I7,r7,q7⟩:=q7;exact⟨x7,σ7,H7,I7.unpinned,r7,q7⟩
end
abbrev R2:=V->V->Hp->VK->Prop
def OpR (X:Cx)(f:aC->aC->fV aC)(r:R2):Prop:=
 ∀ (ad:List (aD×bJ)) (s:aH) (σ:St) (H:Hp) (x y:V) (v u:aC) (Q:VK),Inv X ad σ H s->RelV x v->RelV y u->r x y H Q ->
  aJ (aO X.prog X.w) X.A (f v u) (EP X ad σ Q) X.xe s
def Aet (X:Cx)(f:aC)(r:List V->Hp->VK->Prop):Prop:=
 ∀ (ad:List (aD×bJ)) (s:aH) (σ:St) (H:Hp) (xs:List V) (us:List aC) (Q:VK),Inv X ad σ H s->Vals xs us->r xs H Q ->
  aJ (aO X.prog X.w) X.A (call f us) (EP X ad σ Q) X.xe s
def xj (r:R2)(ta tb:TE):TE:=fun σ H Q=>ta σ H fun x H1=>tb σ H1 fun y H2=>r x y H2 Q
def rI (C:Int->Int->Prop)(g:Int->Int->V):R2:=fun x y H Q=>∃ i j,x=.int i/\y=.int j/\C i j/\Q (g i j) H
def ql (g:Int->Int->V):R2:=fun x y H Q=>∃ i j,x=.int i/\y=.int j/\Q (g i j) H
section
variable {X:Cx}{a b:bF}{ta tb tc:TE}
theorem HZ (ha:PE X a ta)(hb:PE X b tb){σ:St}{H:Hp}{R:V->V->Hp->Prop}(I:Inv X ad σ H s)
  (h:ta σ H fun x H1=>tb σ H1 fun y H2=>R x y H2) {Q:aC->aH->Prop} {f:aC->aC->fV aC}
  (hf:∀ v u s2 x y H2,Inv X ad σ H2 s2->RelV x v->RelV y u->R x y H2->aJ (aO X.prog X.w) X.A (f v u) Q X.xe s2) :
  aJ (aO X.prog X.w) X.A (cE a X.env) (fun v s₁=>aJ (aO X.prog X.w) X.A (cE b X.env) (fun u s₂=>aJ (aO X.prog X.w) X.A (f v u) Q X.xe s₂) X.xe s₁) X.xe s:=by
 refine a9 (ha ad s σ H _ I h) fun v s1 gh=>?_
 rw[24];refine a9 (hb ad s1 σ H1 _ I1 q1) fun u s2 gh=>?_
 obtain⟨y,H2,I2,r2,q2⟩:=gh;exact hf v u s2 x y H2 I2 r1 r2 q2
theorem Ft {op:Operator}{r:R2}(ho:OpR X (mT op) r)(ha:PE X a ta)(hb:PE X b tb):PE X (.BinOp a op b pos) (xj r ta tb):=by
 rw[9];exact wpAny_BinOp (HZ ha hb I h fun v u s2 x y H2 I2 rx ry q=>ho ad s2 σ H2 x y v u Q I2 rx ry q)
theorem A5{C:Int->Int->Prop}{g:Int->Int->Int}
  (rule:∀ (i j:Int) (t u:Tok) (s:aH) (Q:aC->aH->Prop) (E:aC->aH->Prop),C i j->Q (.int (g i j) s.toks) { s with toks:=s.toks+1 }->aJ (aO X.prog X.w) X.A (f (.int i t) (.int j u)) Q E s) :
  OpR X f (rI C fun i j=>.int (g i j)):=by
 rw[3];obtain⟨i,j,rfl,rfl,hc,q⟩:=h;rw[17];exact rule i j t t' s _ _ hc ⟨.int (g i j),H,I.tok _,⟨_,rfl⟩,q⟩
theorem PR{g:Int->Int->Int}
  (rule:∀ (i j:Int) (t u:Tok) (s:aH) (Q:aC->aH->Prop) (E:aC->aH->Prop),Q (.int (g i j) s.toks) { s with toks:=s.toks+1 }->aJ (aO X.prog X.w) X.A (f (.int i t) (.int j u)) Q E s) :
  OpR X f (ql fun i j=>.int (g i j)):=by
 rw[3];obtain⟨i,j,rfl,rfl,q⟩:=h;rw[17];exact rule i j t t' s _ _ ⟨.int (g i j),H,I.tok _,⟨_,rfl⟩,q⟩
theorem PK{g:Int->Int->Bool}
  (rule:∀ (i j:Int) (t u:Tok) (s:aH) (Q:aC->aH->Prop) (E:aC->aH->Prop),Q (.bool (g i j)) s->aJ (aO X.prog X.w) X.A (f (.int i t) (.int j u)) Q E s) :
  OpR X f (ql fun i j=>.bl (g i j)):=by
 rw[3];obtain⟨i,j,rfl,rfl,q⟩:=h;rw[17];exact rule i j t t' s _ _ ⟨.bl (g i j),H,I,rfl,q⟩
def Du (i j:Int):Prop:=0<j/\j<1073741824
def Ei (i j:Int):Prop:=0≤j/\j≤1000000/\i.natAbs<2^64
def Bgr (i j:Int):Prop:=(-(2^64)<i/\i<2^64)\/(-(2^64)<j/\j<2^64)
theorem Bgr.ok {i j:Int}(h:Bgr i j):IntMulOk i j:=by
 rcases h with⟨h1,h2⟩|⟨h1,h2⟩
 ·exact .of_left (intBits_le_64 h1 h2)
 ·exact .of_right (intBits_le_64 h1 h2)
theorem Bfh:OpR X (mT .Add) (ql fun i j=>.int (i+j)):=PR fun _ _ _ _ _ _ _ q=>add_int q
theorem Ho:OpR X (mT .Sub) (ql fun i j=>.int (i-j)):=PR fun _ _ _ _ _ _ _ q=>sub_int q
theorem Hh:OpR X (mT .Mult) (rI Bgr fun i j=>.int (i*j)):=A5 fun _ _ _ _ _ _ _ hc q=>mul_int q hc.ok
theorem Mo:OpR X (mT .FloorDiv) (rI Du fun i j=>.int (i/j)):=A5 fun i j _ _ _ _ _ hc q=>by
 have h1:(0:Int)<j:=hc.1;have h2:j<1073741824:=hc.2;exact floordiv_int (by omega) (by rw[Int.fdiv_eq_ediv_of_nonneg i (by omega)];exact q) (.inl (PyProof.noPylong_small (by omega)))
theorem Hk:OpR X (mT .Mod) (rI (fun _ j=>0<j) fun i j=>.int (i%j)):=A5 fun i j _ _ _ _ _ hc q=>by
 have h1:(0:Int)<j:=hc;exact mod_int' (by omega) (by rw[Int.fmod_eq_emod_of_nonneg i (by omega)];exact q)
theorem Gx:OpR X (mT .Pow) (rI Ei fun i j=>.int (i^j.toNat)):=A5 fun _ _ _ _ _ _ _ hc q=>pow_int_small hc.1 hc.2.1 hc.2.2 q
end
section
variable {X:Cx}{a b:bF}{ta tb tc:TE}
theorem IQ{σ:St}{H:Hp}{Q:VK}{k k':Bool}(I:Inv X ad σ H s)(q:Q (.bl k) H)(e:k=k'):EP X ad σ Q (.bool k') s:=by
 subst e;exact⟨.bl k,H,I,rfl,q⟩
theorem A9r:OpR X (kC .Lt) (ql fun i j=>.bl (decide (i<j))):=PK fun _ _ _ _ _ _ _ q=>lt_int q
theorem pM:OpR X (kC .Gt) (ql fun i j=>.bl (decide (j<i))):=PK fun _ _ _ _ _ _ _ q=>gt_int q
theorem LK:OpR X (kC .Lt) (fun x y H Q=>∃ i j,x=.str i/\y=.str j/\Q (.bl (decide (i.cps.toList<j.cps.toList))) H):=by
 rw[3];obtain⟨i,j,rfl,rfl,q⟩:=h;rw[17];exact lt_str (IQ I q rfl)
theorem Ll:OpR X (kC .IsNot) (fun x y H Q=>y=.non/\Q (.bl (!decide (x=.non))) H):=by
 rw[3];obtain⟨rfl,q⟩:=h;cases ry;refine isnot_none_gen (IQ I q ?_);cases x<;>first
  |(cases rx;rfl)
  |(obtain⟨t,rfl⟩:=rx;rfl)
theorem OpR.or{r r':R2}(h:OpR X f r)(h':OpR X f r'):OpR X f (fun x y H Q=>r x y H Q\/r' x y H Q):=by
 intro ad s σ H x y v u Q I rx ry q;rcases q with q|q
 ·exact h ad s σ H x y v u Q I rx ry q
 ·exact h' ad s σ H x y v u Q I rx ry q
theorem gU (b:bF)(h:op ≠ .In:=by decide)(h2:op ≠ .NotIn:=by decide):BG op b=af:=by
 have e1:(op==CmpOp.In)=af:=by cases op<;>first|rfl|exact absurd rfl h
 have e2:(op==CmpOp.NotIn)=af:=by cases op<;>first|rfl|exact absurd rfl h2
 cases b<;>simp[BG,e1,e2]
theorem Tr{r:R2}(ho:OpR X (kC op) r)(ha:PE X a ta)(hb:PE X b tb)(hm:BG op b=af):PE X (.Compare a [op] [b] pos) (xj r ta tb):=by
 rw[9];exact wpAny_Compare1 (HZ ha hb I h fun v u s2 x y H2 I2 rx ry q=>ho ad s2 σ H2 x y v u Q I2 rx ry q) hm
def Fu (t:TE):TT:=fun σ H Q=>t σ H fun x H'=>∃ k,x=.bl k/\Q k H'
theorem Ml{r:R2}(ho:OpR X (kC op) r)(ha:PE X a ta)(hb:PE X b tb)(hm:BG op b=af):PT X (.Compare a [op] [b] pos) (Fu (xj r ta tb)):=by
 rw[9];refine wpAny_isTrue_Compare1 (a9 (ha ad s σ H _ I h) fun v s1 ⟨x,H1,I1,r1,q1⟩=>a9 (hb ad s1 σ H1 _ I1 q1) fun u s2 ⟨y,H2,I2,r2,q2⟩=>
  a9 (ho ad s2 σ H2 x y v u _ I2 r1 r2 q2) fun c s3 ⟨z,H3,I3,r3,k,e,q3⟩=>?_) hm
 subst e;cases r3;exact Bo ⟨H3,I3,q3⟩
theorem tP:(sizeLine:Nat)<2^63:=by rw[mS];decide
theorem Awr:OpR X (mT .Add) (fun x y H Q=>∃ i j,x=.str i/\y=.str j/\i.length+j.length≤sizeLine/\Q (.str (i++j)) H):=by
 rw[3];obtain⟨i,j,rfl,rfl,hz,q⟩:=h;rw[17];exact add_str (fun t' tk=>⟨.str (i++j),H,I.tok _,⟨_,rfl⟩,q⟩) hz
theorem vals1 {x:V}(r:Vals [x] us):∃ u,us=[u]/\RelV x u:=by
 cases r with
 |cons r1 r2=>cases r2;exact⟨_,rfl,r1⟩
theorem vals2 {x y:V}(r:Vals [x,y] us):∃ u w',us=[u,w']/\RelV x u/\RelV y w':=by
 cases r with
 |cons r1 r2=>
  cases r2 with
  |cons r3 r4=>cases r4;exact⟨_,_,rfl,r1,r3⟩
theorem Yg (hc:X.calm=ae):Aet X (.builtin "max") (fun xs H Q=>∃ i j,xs=[.int i,.int j]/\Q (.int (if j > i then j else i)) H):=by
 rw[5];obtain⟨i,j,rfl,q⟩:=h;obtain⟨u,w',rfl,⟨t,rfl⟩,⟨t',rfl⟩⟩:=vals2 r;refine max_two_ints (I.ok.hd hc) fun h' tk k=>⟨_,H,I.kept k,?_,q⟩
 by_cases hj:j > i
 ·rw[if_pos hj,if_pos hj];exact⟨_,rfl⟩
 ·rw[if_neg hj,if_neg hj];exact⟨_,rfl⟩
theorem VH:Aet X (.type "int") (fun xs H Q=>(∃ i,xs=[.int i]/\Q (.int i) H)\/∃ k,xs=[.bl k]/\Q (.int (if k then 1 else 0)) H):=by
 rw[5];rcases h with⟨i,rfl,q⟩|⟨k,rfl,q⟩
 ·obtain⟨u,rfl,t,rfl⟩:=vals1 r;exact call_int_int ⟨.int i,H,I,⟨_,rfl⟩,q⟩
 ·obtain⟨u,rfl,r1⟩:=vals1 r;cases r1;exact call_int_bool ⟨.int (if k then 1 else 0),H,I.tok _,⟨_,rfl⟩,q⟩
end
structure ObjM (h:aZ)(x dx C:aD)(mA:aE->Option aC):Prop where
 obj:h.get? x=aa (By C dx)
 ns:h.Ns1 dx mA
 ne:dx≠x
theorem Yk{mA:aE->Option aC}(n:h.Ns1 dx mA):∃ od,h.get? dx=aa od/\∀ name,Bu name od=aa (mA name):=by
 obtain⟨o,es,ep,ho,hd,hk,_,hm⟩:=n;refine⟨o,ho,fun name=>?_⟩
 have e:=hm name;unfold nsFind findBy at e;rw[← Array.find?_toList] at e;unfold Bu;rw[hd];rw[13];split
 ·rename_i y q;rw[q] at e;exact congrArg aa e
 ·rename_i q;rw[q] at e;have a:es.toList.any (·.refKey)=af:=by
   rw[List.any_eq_false];intro y hy;obtain⟨z,t,gg⟩:=hk y (Array.mem_toList_iff.mp hy);simp[DictEntry.refKey,gg]
  have a':¬ es.toList.any (·.refKey)=ae:=by rw[a];exact oJ
  rw[if_neg a'];exact congrArg aa e
theorem ObjM.look{x:aD}{mA:aE->Option aC}(I:ObjM h x dx C mA):∃ od,PySem.W.InstAt h x (By C dx) C (aa od)/\∀ name,Bu name od=aa (mA name):=
 let ⟨od,ho,hl⟩:=Yk I.ns
 ⟨od,⟨I.obj,rfl,rfl,ho⟩,hl⟩
theorem As2.some_of {v:V}{o:Option aC}(r:As2 (aa v) o):∃ u,o=aa u/\RelV v u:=by
 cases o with
 |none=>exact(show False from r).elim
 |some u=>exact⟨u,rfl,r⟩
theorem As2.none_of {o:Option aC}(r:As2 ab o):o=ab:=by
 cases o with
 |none=>rfl
 |some u=>exact(show False from r).elim
section
variable {P:bS}{w:bH}{H H':Hp}{fs V6:List (aE×V)}
theorem Lu (hok:HOk P w H h)(e:H a=aa (.ins C dx fs)):∃ mA,ObjM h a dx C mA/\(∀ f,As2 (fs.lookup f) (mA f))/\PySem.Within mA (fs.map (·.1))/\fs.length≤1000/\H dx=aa (.own a):=by
 obtain⟨d,z,ne,ob,mA,n,r,q⟩:=(show Adl P w H h a (.ins C dx fs) from hok a _ e)
 exact⟨mA,⟨ob,n,ne⟩,r,q,z,d⟩
end
structure Cls (K:aM)(C:aD):Prop where
 pg:PySem.W.plainGet K C Str.empty=ae
 hd:PySem.W.hasDictIn K C=ae
 po:PySem.W.plainOver K C=ae
 sa:PySem.W.findIn K (.ref C) "__setattr__" = aa (aa (.builtin "object.__setattr__"))
theorem Cls.get(c:Cls K C)(f:aE):PySem.W.plainGet K C f=ae:=c.pg
section
variable {X:Cx}{σ:St}{H:Hp}{c:aC}{b:Bool}
inductive TyOf (K:aM)(H:Hp):V->aC->Prop where
 |non:TyOf K H .non (.type "NoneType")
 |bl (x:Bool):TyOf K H (.bl x) (.type "bool")
 |int (i:Int):TyOf K H (.int i) (.type "int")
 |str (x:aE):TyOf K H (.str x) (.type "str")
 |flt (x:UInt64):TyOf K H (.flt x) (.type "float")
 |lst {a:aD} {xs:List V} (e:H a=aa (.lst xs)):TyOf K H (.ref a) (.type "list")
 |frz {a:aD} {o:bJ} {xs:List V} (e:H a=aa (.frz o (.lst xs))):TyOf K H (.ref a) (.type "list")
 |tup {a:aD} {xs:List V} (e:H a=aa (.tup xs)):TyOf K H (.ref a) (.type "tuple")
 |dK {a:aD} {ep:Nat} {kvs:List (aP×V)} (e:H a=aa (.dK ep kvs)):TyOf K H (.ref a) (.type "dict")
 |dT {a:aD} {kvs:List (List aA×V)} (e:H a=aa (.dT kvs)):TyOf K H (.ref a) (.type "dict")
 |ins {a C dx:aD} {fs:List (aE×V)} (e:H a=aa (.ins C dx fs)) (cl:Cls K C) (ha:PySem.W.findIn K (.ref C) "__class__" = aa (aa (.builtin "object.__class__")))
   (hn:PySem.W.specialIn K (.builtin "object.__class__") "__get__" = aa (aa (.builtin "getset_descriptor.__get__"))) (ox:PySem.W.takesIn K (.builtin "object.__class__")=aa ae)
   (hm:PySem.W.mroIn K C (.type "object")=aa ae):TyOf K H (.ref a) (.ref C)
theorem Yu {x:V}{t:aC}(I:Inv X ad σ H s)(rx:RelV x u)(ty:TyOf X.K H x t)(e:Bx X.K t c=aa b)(h:∀ tk,Q (.bool b) { s with toks:=tk }) :
  aJ (aO X.prog X.w) A (call (.builtin "isinstance") [u,c]) Q E s:=by
 cases ty with
 |non=>cases(show u=cZ from rx);exact oC PySem.W.kitx_none I.kIn rD e (fun z=>nomatch z) h
 |bl y=>cases(show u=Value.bool y from rx);exact oC PySem.W.kitx_bool I.kIn rD e (fun z=>nomatch z) h
 |int i=>obtain⟨t,q⟩:=(show ∃ t,u=uN i t from rx);cases q;exact oC PySem.W.kitx_int I.kIn rD e (fun z=>nomatch z) h
 |str y=>obtain⟨t,q⟩:=(show ∃ t,u=uM y t from rx);cases q;exact oC PySem.W.kitx_str I.kIn rD e (fun z=>nomatch z) h
 |flt y=>obtain⟨t,q⟩:=(show ∃ t,u=Value.float y t from rx);cases q;exact oC PySem.W.kitx_float I.kIn rD e (fun z=>nomatch z) h
 |@lst a xs ea=>
  cases(show u=fO a from rx)
  obtain⟨_,_,n,_,h1⟩:=(show Adl X.prog X.w H s.heap a (.lst xs) from I.hok a _ ea)
  exact oC Bv I.kIn ⟨_,h1,rfl⟩ e (fun z=>nomatch z) h
 |@frz a ob xs ea=>
  cases(show u=fO a from rx)
  obtain⟨_,_,_,n,_,h1⟩:=(show Adl X.prog X.w H s.heap a (.frz ob (.lst xs)) from I.hok a _ ea)
  exact oC Bv I.kIn ⟨_,h1,rfl⟩ e (fun z=>nomatch z) h
 |@tup a xs ea=>
  cases(show u=fO a from rx)
  obtain⟨_,_,_,p⟩:=(show Adl X.prog X.w H s.heap a (.tup xs) from I.hok a _ ea)
  obtain⟨o,h1,h2,_⟩:=p.1;exact oC PySem.W.kitx_tuple I.kIn ⟨o,h1,h2⟩ e (fun z=>nomatch z) h
 |@dK a ep kvs ea=>
  cases(show u=fO a from rx)
  obtain⟨_,_,vs,_,p⟩:=(show Adl X.prog X.w H s.heap a (.dK ep kvs) from I.hok a _ ea)
  obtain⟨o,es,h1,h2,_⟩:=p;exact oC Bw I.kIn ⟨o,h1,h2.1⟩ e (fun z=>nomatch z) h
 |@dT a kvs ea=>
  cases(show u=fO a from rx)
  obtain⟨_,_,xs,_,o,es,ep,h1,h2,_⟩:=(show Adl X.prog X.w H s.heap a (.dT kvs) from I.hok a _ ea)
  exact oC Bw I.kIn ⟨o,h1,h2.1⟩ e (fun z=>nomatch z) h
 |@ins a C dx fs ea cl ha hn ox hm=>
  cases(show u=fO a from rx)
  obtain⟨mA,O,_⟩:=Lu I.hok ea;obtain⟨od,J,_⟩:=O.look;exact oC (PySem.W.kitx_own (cl.get _) cl.hd ha hn ox hm) I.kIn J e (fun z=>nomatch z) h
end
structure Room (k:Nat)(A:cD):Prop where
 hd:A.handled=ab
 dp:A.depth+3*k+5<recursionLimit
 un:A.units+16*k+200<cLine
theorem Room.mono {j:Nat}(r:Room k A)(h:j≤k):Room j A:=⟨r.hd,by have:=r.dp;omega,by have:=r.un;omega⟩
theorem Room.deeper(r:Room (k+1) A)(env:Env):Room k (A.deeper env):=
 ⟨r.hd,by have:=r.dp;show A.depth+1+3*k+5<_;omega,by have:=r.un;show A.units+3+16*k+200<_;omega⟩
theorem Room.depth(r:Room k A):A.depth<recursionLimit:=by have:=r.dp;omega
theorem Room.units(r:Room k A):A.units+64<cLine:=by have:=r.un;omega
abbrev Em:TA:=fun _ H Q=>Q [] H
abbrev Gh (ta:TE)(tr:TA):TA:=fun σ H Q=>ta σ H fun x H1=>tr σ H1 fun xs H2=>Q (x::xs) H2
section
variable {X:Cx}{te:TE}{t:TA}
theorem qQ:PA X [] Em:=fun _ _ _ _ H Q I h=>Dh ⟨[],H,I,.nil,h⟩
theorem oW (ha:PE X e te)(hr:PA X es t)(hs:cH (e::es) X.env=(af,cE e X.env)::cH es X.env:=by rfl):PA X (e::es) (Gh te t):=by
 intro pos ad s σ H Q I h;rw[hs];show aJ _ _ (spliced ((af,cE e X.env)::iJ pos (cH es X.env))) _ _ s;refine OX (a9 (ha ad s σ H _ I h) fun u s1 gh=>?_)
 rw[24];exact a9 (hr pos ad s1 σ H1 _ I1 q1) fun us s2 ⟨xs,H2,I2,r2,q2⟩=>⟨x::xs,H2,I2,.cons r1 r2,q2⟩
def En (t:TA):TE:=fun σ H Q=>t σ H fun xs H1=>xs.length≤sizeLine/\∀ p,H1 p=ab->Q (.ref p) (aq H1 p (.tup xs))
def Ed (t:TA):TE:=fun σ H Q=>t σ H fun xs H1=>xs.length≤sizeLine/\∀ p,H1 p=ab->Q (.ref p) (aq H1 p (.lst xs))
theorem Ji {x1}(h:PA X es t):PE X (.Tuple es x1 pos) (En t):=by
 intro ad s σ H Q I hq;refine wpAny_Tuple_spliced (a9 (h pos ad s σ H _ I hq) fun us s1 ⟨xs,H1,I1,r,z,q⟩=>⟨by rw[← r.length];exact z,?_⟩)
 have hf:H1 s1.heap.objs.size=ab:=I1.hok.fresh (bZ _);refine⟨.ref s1.heap.objs.size,aq H1 s1.heap.objs.size (.tup xs),I1.laid (t':=s1.toks) (fun b u e=>cL _ e) (bZ _) ?_,rfl,q _ hf⟩
 exact⟨z,us,r,⟨_,eJ _ rfl,rfl,_,rfl⟩,_,eJ _ rfl,rfl⟩
theorem Jc (h:PA X es t):PE X (.List es pos) (Ed t):=by
 intro ad s σ H Q I hq;refine wpAny_List_spliced (a9 (h pos ad s σ H _ I hq) fun us s1 ⟨xs,H1,I1,r,z,q⟩=>⟨by rw[← r.length];exact z,?_⟩)
 have hf:H1 s1.heap.objs.size=ab:=I1.hok.fresh (bZ _);refine⟨.ref s1.heap.objs.size,aq H1 s1.heap.objs.size (.lst xs),I1.laid (t':=s1.toks) (fun b u e=>cL _ e) (bZ _) ?_,rfl,q _ hf⟩
 exact⟨z,us,0,r,eJ _ rfl⟩
end
abbrev Sp:=List V->Hp->VK->XK->Prop
abbrev qg:=List Env->Hp->aH->XK->aC->aH->Prop
structure Env0 (P:bS)(w:bH)(K:aM)(mg:aE->Option aC)(base:aZ)(A:cD)(outer:List Env)(s:aH)(H:Hp):Prop where
 frames:A.frames=aa outer
 mod:Mod K mg base
 bs:∀ b o,base.get? b=aa o->s.heap.get? b=aa o/\H b=ab
 bsz:base.objs.size≤s.heap.objs.size
 funs:s.heap.FunFrames base outer
 frf:∀ b∈o6 outer,H b=ab
 hok:HOk P w H s.heap
 bare:sU s.gens
def CE (outer:List Env)(P:bS)(w:bH)(H:Hp)(s:aH)(Q:VK)(u:aC)(s':aH):Prop:=
 ∃ v H',s'.os=s.os/\sU s'.gens/\Un (o6 outer) [] H H' s.heap s'.heap/\HOk P w H' s'.heap/\RelV v u/\Q v H'
def CR (CX:qg)(outer:List Env)(P:bS)(w:bH)(H:Hp)(s:aH)(Q:VK)(E:XK)(r:Result)(s':aH):Prop:=
 match r with
 |.ok (.ret u)=>CE outer P w H s Q u s'
 |.ok _=>False
 |.error e=>CX outer H s E e s'
structure FnOk (P:bS)(w:bH)(K:aM)(mg:aE->Option aC)(base:aZ)(CX:qg)(k:Nat)(f:aD)(fd:jD)(ps:List aE)(sp:Sp):Prop where
 len:∀ vs H Q E,sp vs H Q E->vs.length=ps.length
 run:∀ (A:cD) (outer:List Env) (s:aH) (H:Hp) (args:Args) (us:List aC) (vs:List V) (Q:VK) (E:XK),Room k A->Env0 P w K mg base A outer s H->BindsTo s fd args (ps.zip us)->Vals vs us->sp vs H Q E ->
  qB (aO P w) A (.call (.ref f) args) (CR CX outer P w H s Q E) s
theorem FnOk.imp {P:bS}{w:bH}{CX:qg}{f:aD}{fd:jD}{sp P8:Sp}(F:FnOk P w K mg base CX k f fd ps sp)
  (h:∀ vs H Q E,P8 vs H Q E->sp vs H Q E):FnOk P w K mg base CX k f fd ps P8:=
 ⟨fun vs H Q E q=>F.len vs H Q E (h _ _ _ _ q),fun A outer s H args us vs Q E hr he hb hv hs=>F.run A outer s H args us vs Q E hr he hb hv (h _ _ _ _ hs)⟩
section
variable {X:Cx}{σ:St}{H:Hp}
theorem Inv.env0 (I:Inv X ad σ H s):Env0 X.prog X.w X.K X.mg X.base X.A X.stack s H:=
 ⟨I.ok.frames,I.ok.mod,I.bs,jV I.ok.bsz I.sz,I.stack,I.stkFree,I.hok,I.bare⟩
theorem Inv.after {Q:VK}(I:Inv X ad σ H s)(h:CE X.stack X.prog X.w H s Q u s'):EP X ad σ Q u s':=by
 obtain⟨v,H',os,bare,un,hok,r,q⟩:=h;obtain⟨hh,g,d,t,uw⟩:=s';obtain rfl:uw=s.os:=os;exact⟨v,H',I.call (h':=hh) (g':=g) (d':=d) (t':=t) (ch:=[]) un hok bare (fun b z=>absurd z (by simp)),r,q⟩
end
def QL (sp:Sp)(tz:List V)(E:XK)(t:TA):TE:=fun σ H Q=>t σ H fun vs H1=>sp (vs++tz) H1 Q E
def Binds (K:aM)(fd:jD)(ps:List aE)(ds:List aC):Prop:=
 ∀ (s:aH) (us:List aC),K.In s.heap->(us++ds).length=ps.length->BindsTo s fd ⟨us,[]⟩ (ps.zip (us++ds))
theorem Binds.all{fd:jD}(h:∀ us:List aC,us.length=ps.length->uL fd ⟨us,[]⟩=pure (ps.zip us)):Binds K fd ps []:=fun s us _ hl=>by
 rw[rG] at hl ⊢;exact .of_eq (h us hl)
def Passes (CX:qg)(X:Cx)(E:XK):Prop:=∀ (ad:List (aD×bJ)) (σ:St) (H:Hp) (s:aH) (e:aC) (s':aH),Inv X ad σ H s->CX X.stack H s E e s'->X.xe e s'
section
variable {X:Cx}{CX:qg}{f:aD}{fd:jD}{sp:Sp}{tz:List V}{ds:List aC}{E:XK}{m:aE}{ay:dA}{o:bF}{ta:TE}{t:TA}
theorem Hr{σ:St}{H:Hp}{Q:VK}{vs:List V}(F:FnOk X.prog X.w X.K X.mg X.base CX k f fd ps sp)(hr:Room k X.A)(hb:Binds X.K fd ps ds)(hd:Vals tz ds)(hx:Passes CX X E)
  (I:Inv X ad σ H s) (r:Vals vs us) (h:sp (vs++tz) H Q E):aJ (aO X.prog X.w) X.A (call (.ref f) us) (EP X ad σ Q) X.xe s:=by
 have r2:Vals (vs++tz) (us++ds):=r.append hd;have hl:(us++ds).length=ps.length:=by rw[← r2.length];exact F.len _ _ _ _ h
 refine wpAny_call (GO (F.run X.A X.stack s H ⟨us,[]⟩ (us++ds) (vs++tz) Q E hr I.env0 (hb s us I.kIn hl) r2 h) fun r s' hq=>?_)
 cases r with
 |error e=>exact hx ad σ H s e s' I hq
 |ok fl=>
  cases fl with
  |ret u=>exact I.after hq
  |next=>exact rH hq
  |brk=>exact rH hq
  |cont=>exact rH hq
theorem Lf (F:FnOk X.prog X.w X.K X.mg X.base CX k f fd ps sp)(hr:Room k X.A)(hg:Gl X x)(hm:X.mg x=aa (.ref f))(hk:uO X.K (.ref f)=ae)(hb:Binds X.K fd ps ds)(hd:Vals tz ds)(hx:Passes CX X E)
  (ha:PA X (e::es) t) (n8:(x==("__debug__" : aE))=af:=by decide) (he:cH (e::es) X.env=(af,cE e X.env)::cH es X.env:=by rfl) (gs:(iJ pos (cH es X.env)).any (·.1)=af:=by rfl) :
  PE X (.Call (.Name x p) (e::es) [] pos) (QL sp tz E t):=by
 rw[9];refine Bq (RA I hg hm ?_ n8);refine PySem.W.callWith_K (h₀:=X.base) I.ok.mod.kin hk (a9 (ha pos ad s σ H _ I h) fun us s1 ⟨vs,H1,I1,r,q⟩=>⟨I1.kIn,?_⟩) he gs
 exact Hr F hr hb hd hx I1 r q
end
structure FnScope (N P:List aE)(sc:kE):Prop where
 kind:sc.kind=.function
 co:sc.isCoroutine=af
 gen:sc.isGenerator=af
 nd:N.Nodup
 pre:N.take P.length=P
 par:∀ x∈P,sc.names.lookup x=aa .local\/sc.names.lookup x=aa .cell
 nofree:∀ y∈sc.names,y.2 ≠ .free
theorem WI {kindOf:aE->Option oE}:∀ {binds:List (aE×aC)} {m:aE->Option aC},(∀ v,(x,v)∉binds)->bindL kindOf binds m x=m x
 |[],_,_=>rfl
 |(n,v)::r,m,h=>by
  unfold bindL;rw[WI fun w hw=>h w (cS _ hw)]
  split
  ·have:x≠n:=by rintro rfl;exact h v cF
   simp[this]
  ·rfl
theorem VM {kindOf:aE->Option oE}:∀ {binds:List (aE×aC)} {m:aE->Option aC},(∀ v,(x,v)∉binds)->bindC kindOf binds m x=m x
 |[],_,_=>rfl
 |(n,v)::r,m,h=>by
  unfold bindC;rw[VM fun w hw=>h w (cS _ hw)]
  split
  ·rfl
  ·have:x≠n:=by rintro rfl;exact h v cF
   simp[this]
theorem VP {kindOf:aE->Option oE}{x:aE}{v:aC}:∀ {P:List aE} {vs:List aC} {i:Nat} {m:aE->Option aC},P.Nodup->P[i]?=aa x->vs[i]?=aa v->kindOf x=aa .local ->
  bindL kindOf (P.zip vs) m x=aa v
 |[],_,_,_,_,h,_,_=>by simp at h
 |_::_,[],_,_,_,_,h,_=>by simp at h
 |p::P,w::vs,0,m,nd,h1,h2,hk=>by
  simp at h1 h2;subst h1;subst h2;show bindL kindOf ((p,w)::P.zip vs) m p=_;unfold bindL;rw[WI fun v hv=>(mE.mp nd).1 (Ck hv).1,if_pos hk]
  simp
 |p::P,w::vs,i+1,m,nd,h1,h2,hk=>by
  show bindL kindOf ((p,w)::P.zip vs) m x=_;unfold bindL;exact VP (i:=i) (mE.mp nd).2 (by simpa using h1) (by simpa using h2) hk
theorem WD {kindOf:aE->Option oE}{x:aE}{v:aC}:∀ {P:List aE} {vs:List aC} {i:Nat} {m:aE->Option aC},P.Nodup->P[i]?=aa x->vs[i]?=aa v->kindOf x≠aa .local ->
  bindC kindOf (P.zip vs) m x=aa v
 |[],_,_,_,_,h,_,_=>by simp at h
 |_::_,[],_,_,_,_,h,_=>by simp at h
 |p::P,w::vs,0,m,nd,h1,h2,hk=>by
  simp at h1 h2;subst h1;subst h2;show bindC kindOf ((p,w)::P.zip vs) m p=_;unfold bindC;rw[VM fun v hv=>(mE.mp nd).1 (Ck hv).1,if_neg hk]
  simp
 |p::P,w::vs,i+1,m,nd,h1,h2,hk=>by
  show bindC kindOf ((p,w)::P.zip vs) m x=_;unfold bindC;exact WD (i:=i) (mE.mp nd).2 (by simpa using h1) (by simpa using h2) hk
def start (N:List aE)(vs:List V):St:=vs.map aa++xV (N.length-vs.length) ab
def sX (CX:qg)(P:bS)(w:bH)(K:aM)(mg:aE->Option aC)(base:aZ)(N:List aE)(qual:aE)(scope:kE)(f:aD)(cd:aC)(A:cD)(outer:List Env)(s:aH)(H:Hp)(E:XK):Cx where
 prog:=P
 w:=w
 K:=K
 mg:=mg
 base:=base
 A:=A.deeper (rC qual scope s.heap.objs.size f cd)
 N:=N
 s₀:=s
 H₀:=H
 env:=rC qual scope s.heap.objs.size f cd
 outer:=outer
 stack:=rC qual scope s.heap.objs.size f cd::outer
 ex:=[]
 calm:=ae
 fn:=fun _=>ae
 pn:=[]
 xe:=fun e s'=>aJ (aO P w) (A.deeper (rC qual scope s.heap.objs.size f cd)) (leaving (rC qual scope s.heap.objs.size f cd) e) (fun _ xp=>CX outer H s E e xp) (fun e' xp=>CX outer H s E e' xp) s'
theorem SB {sc:kE}{n:Nat}(h:sc.names.lookup x=aa .cell):∃ c,(cellsFrom n sc.names []).lookup x=aa c:=by
 have q:=PySem.W.cellsFrom_some sc.names n [] (.inl h);exact NU.mp q
theorem Nl {CX:qg}{P:bS}{w:bH}{N:List aE}{qual:aE}{scope:kE}{f:aD}{cd:aC}{outer:List Env}{s1:aH}{H:Hp}{E:XK}{vs:List V}
  (S:FnScope N ps scope) (hd:A.handled=ab) (e0:Env0 P w K mg base A outer s H) (hl:vs.length=ps.length) (r:Vals vs us)
  (x:InCallC s s.heap.objs.size (bindL (rC qual scope s.heap.objs.size f cd).kindOf (ps.zip us) fun _=>ab) (cellsFrom (s.heap.objs.size+1) scope.names []) (bindC (rC qual scope s.heap.objs.size f cd).kindOf (ps.zip us) fun _=>ab) s1) :
  Inv (sX CX P w K mg base N qual scope f cd A outer s H E) [] (start N vs) H s1:=by
 have gs:ps.length≤N.length:=by have:=congrArg OI S.pre;rw[pI] at this;omega
 obtain⟨h1,tk,rfl,hk⟩:=x.done;have xq:∀ b:aD,b∉(sX CX P w K mg base N qual scope f cd A outer s H E).ex:=fun b z=>absurd (show b∈([]:List aD) from z) (by simp)
 refine⟨⟨e0.mod,S.kind,rfl,rfl,bZ _,fun y z c h1 h2=>?_,fun y hy=>?_,fun y c _ h=>?_,fun _=>hd,Around.frames_deeper e0.frames,.inr ⟨rfl,rfl⟩,fun b z=>absurd z (xq b),e0.bs,e0.bsz,fun b _ _=>xq b,fun b z=>absurd z (xq b),e0.funs,e0.frf⟩,
  rfl,e0.bare,Un.kept hk,⟨_,x.toInCall.ns,fun i y v h1 h2 h3=>?_⟩,fun y c h=>⟨_,x.cell y c h⟩,e0.hok.fresh (bZ _),fun y c h=>?_,fun p hp=>absurd (show p∈([]:List (aD×bJ)) from hp) (by simp),e0.hok.kept hk,?_⟩
 ·exact name_of_addr x.apart (GR h1) (GR h2)
 ·have hy:scope.names.lookup y=aa .cell\/scope.names.lookup y=aa .free:=hy;rcases hy with hy|hy
  ·exact SB hy
  ·exact absurd rfl (S.nofree _ (GR hy))
 ·exact sQ (x.above y c (GR h))
 ·have hi:i<vs.length:=by
   unfold start at h2;by_cases hi:i<vs.length
   ·exact hi
   ·rw[uW (by simpa using hi)] at h2
    rw[List.getElem?_replicate] at h2;split at h2<;>cases h2
  have ha:vs[i]?=aa v:=by
   unfold start at h2;rw[yA (by simpa using hi),fW] at h2
   cases e:vs[i]? with
   |none=>rw[e] at h2;cases h2
   |some a=>rw[e] at h2;cases h2;rfl
  obtain⟨u,hu,rv⟩:=r.get ha;have hp:ps[i]?=aa y:=by
   rw[← S.pre,Zq (by omega)];exact h1
  have P9:ps.Nodup:=by rw[← S.pre];exact S.nd.sublist (OC _ _)
  refine⟨u,rv,?_⟩;rcases S.par y (gL hp) with k|k
  ·exact .inl ⟨k,VP P9 hp hu k⟩
  ·obtain⟨c,e⟩:=SB (n:=s.heap.objs.size+1) k;refine .inr ⟨.inl k,c,e,?_⟩;have q:=x.cell y c e;rw[WD P9 hp hu (by show scope.names.lookup y≠_;rw[k];decide)] at q
   exact q
 ·exact e0.hok.fresh (sQ (x.above y c (GR h)))
 ·unfold start;show _=N.length;rw[mZ,eY,List.length_replicate];omega
theorem Fo {CX:qg}{P:bS}{w:bH}{f:aD}{name qual:aE}{params:Arguments}{body:List cV}{scope:kE}{dV kV c9 pm az ct oc:aC}{an od:Option aD}
  {t0:Array (Option aC)} {N ps:List aE} {sp:Sp} (lk:K.lookup f=aa ⟨oc,od,.func (lW name qual params body scope dV kV c9 pm an az ct),t0⟩) (ic:BH K az qual=ae) (S:FnScope N ps scope)
  (len:∀ vs H Q E,sp vs H Q E->vs.length=ps.length)
  (pd:∀ (A:cD) (outer:List Env) (s:aH) (H:Hp) (vs:List V) (Q:VK) (E:XK),Room k (A.deeper (rC qual scope s.heap.objs.size f az))->sp vs H Q E ->
   ∃ t,PSs (sX CX P w K mg base N qual scope f az A outer s H E) body t/\t { nx:=fun _ H'=>Q .non H',rt:=Q } (start N vs) H) :
  FnOk P w K mg base CX (k+1) f (lW name qual params body scope dV kV c9 pm an az ct) ps sp:=by
 refine⟨len,fun A outer s H args us vs Q E hr e0 hb r qp=>?_⟩
 have hl:=len _ _ _ _ qp;have KX:K.In s.heap:=e0.mod.kin.keeps fun b o e=>(e0.bs b o e).1
 have V9:s.heap.NoLimit:=e0.mod.nolimit.keeps fun b o e=>(e0.bs b o e).1
 have nh:∀ y∈ps.zip us,scope.names.lookup y.1=aa .local\/(scope.names.lookup y.1=aa .cell/\((cellsFrom (s.heap.objs.size+1) scope.names []).lookup y.1).isSome=ae):=fun⟨n,v⟩ hy=>by
  rcases S.par n (Ck hy).1 with q|q
  ·exact .inl q
  ·exact .inr ⟨q,PySem.W.cellsFrom_some _ _ _ (.inl q)⟩
 refine codeAny_call_function hr.depth (KX _ _ lk) rfl S.co S.gen rfl (PySem.W.codeRec_of KX ic) (hb _ _ _ _ ?_);refine wpAny_newFunctionEnv_cells S.kind nh fun env he s1 x=>?_
 subst he;refine⟨V9.keeps x.toInCall.keep,codeAny_func ?_⟩;obtain⟨t,ht,hq⟩:=pd A outer s H vs Q E (hr.deeper _) qp;have I:Inv (sX CX P w K mg base N qual scope f az A outer s H E) [] (start N vs) H s1:=Nl S hr.hd e0 hl r x;refine mD (ht [] s1 (start N vs) H _ I hq) (fun fl s' hs=>?_) fun e s' hs=>hs
 have fin:∀ {σ':St} {H':Hp} {v:V} {u:aC},Inv (sX CX P w K mg base N qual scope f az A outer s H E) [] σ' H' s'->RelV v u->Q v H'->CE outer P w H s Q u s':=
  fun {σ' H' v u} J rv q=>⟨v,H',J.os,J.bare,J.base,J.hok,rv,q⟩
 cases fl with
 |ret u=>
  obtain⟨v,σ',H',J,rv,q⟩:=hs;exact fin J rv q
 |next=>
  obtain⟨σ',H',J,q⟩:=hs;exact fin (v:=V.non) (u:=cZ) J rfl q
 |brk=>
  obtain⟨_,_,_,q⟩:=hs;exact rH q
 |cont=>
  obtain⟨_,_,_,q⟩:=hs;exact rH q
section
variable {X:Cx}{t:TA}{id T:String}{r:List V->Hp->VK->Prop}
def V4 (r:List V->Hp->VK->Prop)(t:TA):TE:=fun σ H Q=>t σ H fun vs H1=>r vs H1 Q
theorem KI (hc:Aet X (.builtin id) r)(hg:Gl X x)(hm:X.mg x=ab)(hv:qC x=aa (.builtin id))(ha:PA X (e::es) t)(hn:x ≠ "__name__":=by decide)(n8:(x==("__debug__" : aE))=af:=by decide)
  (he:cH (e::es) X.env=(af,cE e X.env)::cH es X.env:=by rfl) (gs:(iJ pos (cH es X.env)).any (·.1)=af:=by rfl):PE X (.Call (.Name x p) (e::es) [] pos) (V4 r t):=by
 rw[9];refine Bq (tH I hg hm hv ?_ hn n8);exact PyProof.Rows.callWith_builtin1 (a9 (ha pos ad s σ H _ I h) fun us s1 ⟨vs,H1,I1,r1,q1⟩=>hc ad s1 σ H1 vs us Q I1 r1 q1) he gs
theorem VN (hc:Aet X (.type T) r)(hg:Gl X x)(hm:X.mg x=ab)(hv:qC x=aa (.type T))(ha:PA X (e::es) t)(hn:x ≠ "__name__":=by decide)(n8:(x==("__debug__" : aE))=af:=by decide)
  (he:cH (e::es) X.env=(af,cE e X.env)::cH es X.env:=by rfl) (gs:(iJ pos (cH es X.env)).any (·.1)=af:=by rfl):PE X (.Call (.Name x p) (e::es) [] pos) (V4 r t):=by
 rw[9];refine Bq (tH I hg hm hv ?_ hn n8);exact GU (a9 (ha pos ad s σ H _ I h) fun us s1 ⟨vs,H1,I1,r1,q1⟩=>hc ad s1 σ H1 vs us Q I1 r1 q1) he gs
end
section
variable {κ:Type}[DecidableEq κ]
def jH (kvs:List (κ×V))(k:κ):Option V:=(kvs.find? fun kv=>decide (kv.1=k)).map (·.2)
def putK (kvs:List (κ×V))(k:κ)(v:V):List (κ×V):=
 if (kvs.any fun kv=>decide (kv.1=k))=ae then kvs.map (fun kv=>if kv.1=k then(kv.1,v) else kv) else kvs++[(k,v)]
theorem zN {p:κ×V}{r:List (κ×V)}{k:κ}(e:p.1=k):jH (p::r) k=aa p.2:=by simp[jH,kF,e]
theorem zO {p:κ×V}{r:List (κ×V)}{k:κ}(e:¬ p.1=k):jH (p::r) k=jH r k:=by simp[jH,kF,e]
theorem KQ (k:κ):∀ kvs:List (κ×V),(kvs.any fun kv=>decide (kv.1=k))=(jH kvs k).isSome
 |[]=>rfl
 |p::r=>by
  rw[CC];by_cases e:p.1=k
  ·simp only[zN e,decide_eq_true e,Bool.true_or,Option.isSome_some]
  ·rw[zO e,decide_eq_false e,Bool.false_or];exact KQ k r
theorem FI (kvs:List (κ×V))(k:κ)(v:V):(putK kvs k v).length≤kvs.length+1:=by
 unfold putK;split
 ·rw[eY];omega
 ·rw[mZ,iB,List.length_nil];omega
theorem As2.isSome_eq {o:Option V}{u:Option aC}(r:As2 o u):o.isSome=u.isSome:=by
 cases o with
 |none=>cases u with
  |none=>rfl
  |some _=>exact(show False from r).elim
 |some _=>cases u with
  |none=>exact(show False from r).elim
  |some _=>rfl
theorem As2.getD {o:Option V}{u:Option aC}{d:V}{d':aC}(r:As2 o u)(rd:RelV d d'):RelV (o.getD d) (u.getD d'):=by
 cases o with
 |none=>cases u with
  |none=>exact rd
  |some _=>exact(show False from r).elim
 |some _=>cases u with
  |none=>exact(show False from r).elim
  |some _=>exact r
theorem KV.val {kvs:List (κ×V)}{vs:List (κ×aC)}(r:KV kvs vs)(k:κ):As2 (jH kvs k) (xH vs k):=by
 unfold KV at r;induction r with
 |nil=>exact rD
 |@cons p q ps qs h t ih=>
  obtain⟨h1,h2⟩:=h;by_cases e:p.1=k
  ·have e':q.1=k:=h1.symm.trans e;have b:xH (q::qs) k=aa q.2:=by simp[xH,kF,e']
   rw[zN e,b];exact h2
  ·have e':¬ q.1=k:=fun z=>e (h1.trans z)
   have b:xH (q::qs) k=xH qs k:=by simp[xH,kF,e']
   rw[zO e,b];exact ih
theorem KV.any {kvs:List (κ×V)}{vs:List (κ×aC)}(r:KV kvs vs)(k:κ):(kvs.any fun kv=>decide (kv.1=k))=vs.any fun kv=>decide (kv.1=k):=by
 unfold KV at r;induction r with
 |nil=>rfl
 |cons h t ih=>rw[CC,CC,ih,h.1]
theorem KV.repl {kvs:List (κ×V)}{vs:List (κ×aC)}(r:KV kvs vs)(k:κ){y:V}(ry:RelV y u) :
  KV (kvs.map fun kv=>if kv.1=k then(kv.1,y) else kv) (vs.map fun kv=>if kv.1=k then(kv.1,u) else kv):=by
 unfold KV at r ⊢;induction r with
 |nil=>exact .nil
 |@cons p q ps qs h t ih=>
  rw[eF,eF];refine .cons ?_ ih;obtain⟨h1,h2⟩:=h;by_cases e:p.1=k
  ·rw[if_pos e,if_pos (h1.symm.trans e)];exact⟨h1,ry⟩
  ·rw[if_neg e,if_neg (fun z=>e (h1.trans z))];exact⟨h1,h2⟩
theorem KV.put {kvs:List (κ×V)}{vs:List (κ×aC)}(r:KV kvs vs)(k:κ){y:V}(ry:RelV y u):KV (putK kvs k y) (uI vs k u):=by
 unfold putK uI;rw[r.any k];by_cases e:(vs.any fun kv=>decide (kv.1=k))=ae
 ·rw[if_pos e,if_pos e];exact r.repl k ry
 ·rw[if_neg e,if_neg e];exact Paired.snoc r ⟨rfl,ry⟩
theorem KV.length {kvs:List (κ×V)}{vs:List (κ×aC)}(r:KV kvs vs):kvs.length=vs.length:=mX r
end
theorem vN {P:bS}{w:bH}{k:aP}(r:RelV (kV k) u):(hW P w).is k u=ae:=by
 cases k with
 |inl i=>obtain⟨t,e⟩:=(show ∃ t,u=uN i t from r);subst e;exact AE P w i t
 |inr x=>obtain⟨t,e⟩:=(show ∃ t,u=uM x t from r);subst e;exact AA P w x t
abbrev KT (H:Hp):List (List aA×V)->List (List aA×aD×aC)->Prop:=fE fun p q=>p.1=q.1/\Asj H p.1 q.2.1/\RelV p.2 q.2.2
theorem KT.val {H:Hp}{kvs:List (List aA×V)}(r:KT H kvs xs)(k:List aA):As2 (jH kvs k) ((atKey xs k).map (·.2)):=by
 induction r with
 |nil=>exact rD
 |@cons p q ps qs h t ih=>
  obtain⟨h1,_,h2⟩:=h;by_cases e:p.1=k
  ·have e':q.1=k:=h1.symm.trans e;have b:atKey (q::qs) k=aa q.2:=by simp[atKey,kF,e']
   rw[zN e,b];exact h2
  ·have e':¬ q.1=k:=fun z=>e (h1.trans z)
   have b:atKey (q::qs) k=atKey qs k:=by simp[atKey,kF,e']
   rw[zO e,b];exact ih
theorem KT.repl {H:Hp}{kvs:List (List aA×V)}(r:KT H kvs xs)(k:List aA){y:V}(ry:RelV y u) :
  KT H (kvs.map fun kv=>if kv.1=k then(kv.1,y) else kv) (xs.map (putAt k u)):=by
 induction r with
 |nil=>exact .nil
 |@cons p q ps qs h t ih=>
  rw[eF,eF];refine .cons ?_ ih;obtain⟨h1,h2,h3⟩:=h;unfold putAt;by_cases e:p.1=k
  ·rw[if_pos e,if_pos (h1.symm.trans e)];exact⟨h1,h2,ry⟩
  ·rw[if_neg e,if_neg (fun z=>e (h1.trans z))];exact⟨h1,h2,h3⟩
theorem KT.put {H:Hp}{kvs:List (List aA×V)}(r:KT H kvs xs)(k:List aA){y:V}(hb:Asj H k b)(ry:RelV y u) :
  KT H (putK kvs k y) (storedH xs k b u):=by
 have e:(kvs.any fun kv=>decide (kv.1=k))=(atKey xs k).isSome:=by
  rw[KQ,(r.val k).isSome_eq,Option.isSome_map]
 unfold putK storedH;rw[e];by_cases q:(atKey xs k).isSome=ae
 ·rw[if_pos q,if_pos q];exact r.repl k ry
 ·rw[if_neg q,if_neg q];exact Paired.snoc r ⟨rfl,hb,ry⟩
theorem KT.keeps {H H':Hp}{kvs:List (List aA×V)}(r:KT H kvs xs)(ht:∀ b ys,H b=aa (.tup ys)->H' b=aa (.tup ys)):KT H' kvs xs:=
 Paired.mapP r fun _ _ z=>⟨z.1,z.2.1.keep ht,z.2.2⟩
section
variable {P:bS}{w:bH}{H:Hp}
theorem QK {u:HO}(ok:HOk P w H h)(e:Rd H a u):Adl P w H h a u:=e.ok ok
theorem GD{kvs:List (aP×V)}(ok:HOk P w H h)(e:Rd H a (.dK ep kvs)):kvs.length≤sizeLine/\(a==kB)=af/\∃ vs,KV kvs vs/\h.DictAt (hW P w) a vs ep:=
 show Adl P w H h a (.dK ep kvs) from QK ok e
theorem rO{kvs:List (aP×V)}(ok:HOk P w H h)(e:Rd H a (.dK ep kvs)):kvs.length≤sizeLine/\(a==kB)=af/\∃ vs,KV kvs vs/\h.DictOf (hW P w) a vs:=
 let ⟨z,y,vs,r,d⟩:=GD ok e;⟨z,y,vs,r,d.dictOf⟩
theorem AV{kvs:List (aP×V)}(ok:HOk P w H h)(e:H a=aa (.dK ep kvs)):kvs.length≤sizeLine/\(a==kB)=af/\∃ vs,KV kvs vs/\h.DictOf (hW P w) a vs:=rO ok (.inl e)
theorem FR {P:bS}{w:bH}(hu:A.units+40<cLine):(oY P w).room A.in1:=by
 show A.in1.units+20<cLine;have:A.in1.units=A.units+1:=rfl;omega
mutual
theorem VQ (ok:HOk P w H h):∀ (d:aA) {v:V} {u:aC},Aks H d v->RelV v u->∃ as,lH h u d as
 |.int i,v,u,k,r=>by
  have e:v=.int i:=by simpa [Aks] using k
  subst e;obtain⟨t,rfl⟩:=r;exact⟨_,.int i t⟩
 |.str x,v,u,k,r=>by
  have e:v=.str x:=by simpa [Aks] using k
  subst e;obtain⟨t,rfl⟩:=r;exact⟨_,.str x t⟩
 |.tuple ds,v,u,k,r=>by
  simp only[Aks] at k;obtain⟨a,xs,rfl,e,ks⟩:=k;cases r;obtain⟨_,its,rv,⟨o,h1,h2,n,h3⟩,_⟩:=(show Adl P w H h a (.tup xs) from ok a _ e)
  obtain⟨as,ra⟩:=UV ok ds ks rv;exact⟨as,.tuple h1 h2 h3 (by simpa using ra)⟩
 |.none,v,u,k,r=>by simp[Aks] at k
 |.bool _,v,u,k,r=>by simp[Aks] at k
 |.list _,v,u,k,r=>by simp[Aks] at k
 |.dict _,v,u,k,r=>by simp[Aks] at k
theorem UV (ok:HOk P w H h):∀ (ds:List aA) {vs:List V} {us:List aC},Aib H ds vs->Vals vs us->∃ as,mW h us ds as
 |[],vs,us,k,r=>by
  have e:vs=[]:=by simpa [Aib] using k
  subst e;cases r;exact⟨_,.nil⟩
 |d::ds,vs,us,k,r=>by
  simp only[Aib] at k;obtain⟨x,rr,rfl,k1,k2⟩:=k;cases r with
  |cons r1 r2=>
   obtain⟨as,ra⟩:=VQ ok d k1 r1;obtain⟨bs,rb⟩:=UV ok ds k2 r2;exact⟨_,.cons ra rb⟩
end
theorem pR(ok:HOk P w H h)(e:Asj H ks a):(oY P w).is h ks a:=by
 obtain⟨k1,k2,xs,e,ir⟩:=e;refine⟨k1,k2,?_⟩;exact VQ ok (.tuple ks) (v:=.ref a) (u:=.ref a) (by simp only[Aks];exact⟨a,xs,rfl,e,ir⟩) rfl
theorem vP {kvs:List (List aA×V)}(ok:HOk P w H h)(e:Rd H a (.dT kvs)):kvs.length≤sizeLine/\(a==kB)=af /\
  ∃ xs,KT H kvs xs/\h.DictOfH (oY P w) a xs:=by
 obtain⟨z,y,xs,r,o,es,ep,h1,h2,h3,h4,h5⟩:=(show Adl P w H h a (.dT kvs) from QK ok e)
 refine⟨z,y,xs,r,o,es,ep,h1,h2,h3,h4,fun x hx=>?_,h5⟩
 have all:∀ {l:List (List aA×V)} {m:List (List aA×aD×aC)},KT H l m->∀ x∈m,(oY P w).is h x.1 x.2.1:=by
  intro l m q;induction q with
  |nil=>intro x hx;exact nomatch hx
  |@cons p q ps qs hq t ih=>
   intro x hx;rcases eD.mp hx with e|hx
   ·subst e;exact pR ok (by rw[← hq.1];exact hq.2.1)
   ·exact ih x hx
 exact all r x hx
theorem QI {kvs:List (List aA×V)}(ok:HOk P w H h)(e:H a=aa (.dT kvs)):kvs.length≤sizeLine/\(a==kB)=af /\
  ∃ xs,KT H kvs xs/\h.DictOfH (oY P w) a xs:=vP ok (.inl e)
end
def A7j (H:Hp)(a:aD)(y:V)(r:Option V):Prop:=
 (∃ ep kvs k,Rd H a (.dK ep kvs)/\y=kV k/\r=jH kvs k)\/∃ kvs k b,Rd H a (.dT kvs)/\y=.ref b/\Asj H k b/\r=jH kvs k
def Bfn (H:Hp)(a:aD)(y v:V)(H':Nat->Hp):Prop:=
 (∃ ep kvs k,H a=aa (.dK ep kvs)/\y=kV k/\kvs.length<sizeLine/\H'=fun n=>aq H a (.dK n (putK kvs k v))) \/
 ∃ kvs k b,H a=aa (.dT kvs)/\y=.ref b/\Asj H k b/\kvs.length<sizeLine/\H'=fun _=>aq H a (.dT (putK kvs k v))
theorem A7j.t {H:Hp}{kvs:List (List aA×V)}{k:List aA}(e:H a=aa (.dT kvs))(eb:Asj H k b):A7j H a (.ref b) (jH kvs k):=.inr ⟨kvs,k,b,.inl e,rfl,eb,rfl⟩
theorem Bfn.t {H:Hp}{kvs:List (List aA×V)}{k:List aA}{v:V}(e:H a=aa (.dT kvs))(eb:Asj H k b)(hl:kvs.length<sizeLine) :
  Bfn H a (.ref b) v (fun _=>aq H a (.dT (putK kvs k v))):=.inr ⟨kvs,k,b,e,rfl,eb,hl,rfl⟩
section
variable {X:Cx}{σ:St}{H:Hp}{y v:V}{r:aC}{o:Option V}
theorem Inv.big (I:Inv X ad σ H s):kB<s.heap.objs.size:=by
 have h:eX<s.heap.objs.size:=(I.mod.glob.keeps I.bk).lt;exact Nat.lt_trans (by decide) h
theorem Nm(hu:A.units+40<cLine)(I:Inv X ad σ H s)(g:A7j H a y (aa v))(ry:RelV y u)(h:∀ w' s',Inv X ad σ H s'->RelV v w'->Q w' s') :
  aJ (aO X.prog X.w) A (getItem (.ref a) u) Q E s:=by
 rcases g with⟨ep,kvs,k,e,ey,l⟩|⟨kvs,k,b,e,ey,eb,l⟩
 ·subst ey;obtain⟨z,hd,vs,ff,dd⟩:=rO I.hok e;obtain⟨w',hw,kl⟩:=As2.some_of (v:=v) (o:=xH vs k) (by rw[l];exact ff.val k)
  exact wpAny_getItem_of (vN ry) dd.mapOf hw (h w' _ (I.tok _) kl)
 ·subst ey;cases(show u=fO b from ry)
  obtain⟨z,hd,xs,ff,dd⟩:=vP I.hok e;obtain⟨w',hw,kl⟩:=As2.some_of (v:=v) (o:=(atKey xs k).map (·.2)) (by rw[l];exact ff.val k)
  obtain⟨p,hp,V'⟩:=kO.mp hw;refine wpAny_getItem_heap (FR hu) (pR I.hok eb) dd hp ?_;rw[V'];exact h w' _ (I.tok _) kl
theorem Ky(hu:A.units+40<cLine)(I:Inv X ad σ H s)(g:A7j H a y o)(ry:RelV y u)(h:∀ s',Inv X ad σ H s'->Q (.bool (!o.isSome)) s') :
  aJ (aO X.prog X.w) A (kC .NotIn u (.ref a)) Q E s:=by
 rcases g with⟨ep,kvs,k,e,ey,l⟩|⟨kvs,k,b,e,ey,eb,l⟩
 ·subst ey;obtain⟨z,hd,vs,ff,dd⟩:=rO I.hok e;refine wpAny_notIn_of (vN ry) hd dd.mapOf ?_;rw[← (ff.val k).isSome_eq,← l];exact h _ (I.tok _)
 ·subst ey;cases(show u=fO b from ry)
  obtain⟨z,hd,xs,ff,dd⟩:=vP I.hok e;refine wpAny_notIn_heap (FR hu) (pR I.hok eb) hd dd ?_;have q:=(ff.val k).isSome_eq;rw[Option.isSome_map] at q;rw[← q,← l];exact h _ (I.tok _)
theorem JP{ob:HO}(I:Inv X ad σ H s)(mu:yJ (H a))(hs:oH a s.heap h')(he:∃ q,h'.get? a=aa q)(new:Adl X.prog X.w (aq H a ob) h' a ob) :
  Inv X ad σ (aq H a ob) { s with heap:=h',toks:=t' }:=
 I.write (x:=a) (e:=a) mu (.inl rfl) (fun b q hb z=>(hs.2 b hb).trans z) he new
theorem DB {P:bS}{w:bH}{H':Hp}{kvs:List (aP×V)}{vs:List (aP×aC)}(z:kvs.length≤sizeLine)(hd:(a==kB)=af)(ff:KV kvs vs)(dd:h'.DictAt (hW P w) a vs ep) :
  Adl P w H' h' a (.dK ep kvs):=⟨z,hd,vs,ff,dd⟩
theorem Xp {H':Nat->Hp}{Q:Unit->aH->Prop}(hu:A.units+40<cLine)(I:Inv X ad σ H s)(g:Bfn H a y v H')(ry:RelV y u)(rv:RelV v r)(h:∀ n s',Inv X ad σ (H' n) s'->Q () s') :
  aJ (aO X.prog X.w) A (setItem (.ref a) u r) Q E s:=by
 rcases g with⟨ep,kvs,k,e,ey,l,eH⟩|⟨kvs,k,b,e,ey,eb,l,eH⟩
 ·subst ey eH;obtain⟨z,hd,vs,ff,dd⟩:=AV I.hok e;have hz:vs.length≤sizeLine:=by rw[← ff.length];exact z
  have hl:(putK kvs k v).length≤sizeLine:=by have:=FI kvs k v;omega
  refine wpAny_setItem_pairs (hsz:=hz) (vN ry) dd fun h' rj hs=>?_
  have he:∃ q,h'.get? a=aa q:=let ⟨q,_,_,hq,_⟩:=rj;⟨q,hq⟩;obtain⟨n,da⟩:=rj.dictAt;exact h n _ (JP I (by rw[e];exact rD) hs he (DB hl hd (ff.put k rv) da))
 ·subst ey eH;cases(show u=fO b from ry)
  obtain⟨z,hd,xs,ff,dd⟩:=QI I.hok e;have hz:xs.length≤sizeLine:=by rw[← mX ff];exact z
  have hl:(putK kvs k v).length≤sizeLine:=by have:=FI kvs k v;omega
  refine wpAny_setItem_heap (hsz:=hz) (FR hu) (pR I.hok eb) dd fun h' rj hs=>h 0 _ ?_
  obtain⟨q,es,ep,hq,h2,h3,h4,_,h5⟩:=rj;refine JP I (by rw[e];exact rD) hs ⟨q,hq⟩ ⟨hl,hd,_,(ff.put k eb rv).keeps fun c ys ec=>?_,q,es,ep,hq,h2,h3,h4,h5⟩
  rw[fU (Fv ec e (fun z=>nomatch z))]
  exact ec
end
section
variable {X:Cx}{σ:St}{H:Hp}{kvs:List (aP×V)}{k:aP}
theorem Ff(I:Inv X ad σ H s)(e:Rd H a (.dK ep kvs))(h:∀ t s',Inv X ad σ H s'->Q (.int kvs.length t) s'):aJ (aO X.prog X.w) A (call (.builtin "len") [.ref a]) Q E s:=by
 obtain⟨z,hd,vs,ff,dd⟩:=rO I.hok e;refine call_len_dict hd dd (by rw[← ff.length];rw[mS] at z;omega) ?_
 rw[← ff.length];exact h _ _ (I.tok _)
end
def PQ (i:bF):Prop:=∀ ov iv,NL i af ov iv=operate [ov,iv] (getItem ov iv)
theorem Kv{w:bH}{env:Env}{value dk:bF}{T id:String}
  (hl:BC (.type T) "__getitem__" = pure (aa (.builtin id))) (hs:PQ dk)
  (h:aJ (aO prog w) A (cE value env) (fun o s₁=>aJ (aO prog w) A (cE dk env) (fun i s₂=>s₂.TypeIs o T/\aJ (aO prog w) A (getItem o i) Q E s₂) E s₁) E s) :
  aJ (aO prog w) A (cE (.Subscript value dk pos) env) Q E s:=by
 refine Subscript_ (mD h (fun o s₁ h₁=>mD h₁ (fun i s₂ h₂=>?_) fun _ _ x=>x) fun _ _ x=>x)
 obtain⟨hT,h₂⟩:=h₂;unfold subscriptTail;rw[22];rw[getitemInPython_of_ne hT.not_modules];refine aF (xG hT hl ?_);have fin:aJ (aO prog w) A (NL dk af o i) (fun r s₃=>aJ (aO prog w) A (letTemporaryGo value o r>>=fun _=>pure r) Q E s₃) E s₂:=by
  rw[hs o i];exact wpAny_operating (mD h₂ (fun r s₃ h₃=>aF (wpAny_letTemporaryGo (aQ h₃))) fun _ _ x=>x)
 first
  |exact aQ (aF fin)
  |exact aF (aQ (aF fin))
  |exact aF fin
theorem Qs {X:Cx}{σ:St}{H:Hp}{y:V}{o:Option V}(I:Inv X ad σ H s)(g:A7j H a y o):s.TypeIs (.ref a) "dict":=by
 rcases g with⟨ep,kvs,k,e,_,_⟩|⟨kvs,k,b,e,_,_,_⟩
 ·obtain⟨_,_,vs,_,dd⟩:=rO I.hok e;exact dd.typeIs
 ·obtain⟨_,_,xs,_,dd⟩:=vP I.hok e;exact dd.typeIs
def Ex (td ty:TE):TE:=fun σ H Q=>td σ H fun x H1=>ty σ H1 fun y H2=>∃ a v,x=.ref a/\A7j H2 a y (aa v)/\Q v H2
def Fc (td ty tv:TE):TS:=fun D σ H=>tv σ H fun v H1=>td σ H1 fun x H2=>ty σ H2 fun y H3=>∃ a H4,x=.ref a/\Bfn H3 a y v H4/\∀ n,D.nx σ (H4 n)
section
variable {X:Cx}{o i value:bF}{kj ux:dA}{td ty tv:TE}
theorem To (hu:X.A.units+40<cLine)(ho:PE X o td)(hi:PE X i ty)(hs:PQ i):PE X (.Subscript o i pos) (Ex td ty):=by
 rw[9];refine Kv PySem.F.slot_dict_getitem.lookup hs (a9 (ho ad s σ H _ I h) fun u s1 ⟨x,H1,I1,rx,q1⟩=>a9 (hi ad s1 σ H1 _ I1 q1) fun iv s2 gh=>?_)
 obtain⟨y,H2,I2,ry,a,v,ex,g,q2⟩:=gh;subst ex;obtain rfl:u=fO a:=rx;exact⟨Qs I2 g,Nm hu I2 g ry fun w' s3 I3 kl=>⟨v,H2,I3,kl,q2⟩⟩
theorem Ay (hu:X.A.units+40<cLine)(ho:PE X o td)(hi:PE X i ty)(hv:PE X value tv)(hs:nY value (aa (.Subscript o i kj)) pos.line X.env=pure af) :
  PS X (.Assign [.Subscript o i kj] value pos) (Fc td ty tv):=by
 rw[27];refine wpAny_Assign_Subscript (a9 (hv ad s σ H _ I h) fun r s1 ⟨v,H1,I1,rv,q1⟩=>a9 (ho ad s1 σ H1 _ I1 q1) fun u s2 ⟨x,H2,I2,rx,q2⟩=>a9 (hi ad s2 σ H2 _ I2 q2) fun iv s3 ⟨y,H3,I3,ry,a,H4,ex,g,q3⟩=>?_) hs
 subst ex;obtain rfl:u=fO a:=rx;exact Xp hu I3 g ry rv fun n s4 I4=>⟨σ,H4 n,I4,q3 n⟩
end
theorem Wm {P:bS}{w:bH}{H:Hp}(h:aZ)(hb:kB<h.objs.size):Adl P w H (h.push { cls:=.type "dict",data:=.dict #[] }) h.objs.size (.dK 0 []):=
 ⟨dU _,beq_eq_false_iff_ne.mpr (kP (dM hb)),[],.nil,_,#[],eJ _ rfl,⟨rfl,rfl,rfl⟩,rfl,fun _ he=>by simp at he,Pairs.nil,OD⟩
theorem Wj {P:bS}{w:bH}{H:Hp}(h:aZ)(hb:kB<h.objs.size):Adl P w H (h.push { cls:=.type "dict",data:=.dict #[] }) h.objs.size (.dT []):=
 ⟨dU _,beq_eq_false_iff_ne.mpr (kP (dM hb)),[],.nil,_,#[],0,eJ _ rfl,⟨rfl,rfl,rfl⟩,rfl,rfl,OD⟩
def Jg:TE:=fun _ H Q=>∀ p,H p=ab->Q (.ref p) (aq H p (.dK 0 []))
def Ig:TE:=fun _ H Q=>∀ p,H p=ab->Q (.ref p) (aq H p (.dT []))
section
variable {X:Cx}
theorem Wg:PE X (.Dict [] [] pos) Jg:=fun ad s σ H Q I h=>
 wpAny_Dict_empty ⟨.ref s.heap.objs.size,_,I.laid (a:=s.heap.objs.size) (o:=.dK 0 []) (t':=s.toks) (fun _ _ q=>cL _ q) (bZ _) (Wm s.heap I.big),rfl,h _ (I.hok.fresh (bZ _))⟩
theorem Ut:PE X (.Dict [] [] pos) Ig:=fun ad s σ H Q I h=>
 wpAny_Dict_empty ⟨.ref s.heap.objs.size,_,I.laid (a:=s.heap.objs.size) (o:=.dT []) (t':=s.toks) (fun _ _ q=>cL _ q) (bZ _) (Wj s.heap I.big),rfl,h _ (I.hok.fresh (bZ _))⟩
end
def rS (kvs more:List (aP×V)):List (aP×V):=more.foldl (fun ai kv=>putK ai kv.1 kv.2) kvs
theorem KV.merge:∀ {more:List (aP×V)} {rs:List (aP×aC)} {kvs:List (aP×V)} {vs:List (aP×aC)},KV more rs->KV kvs vs->KV (rS kvs more) (qA vs rs):=by
 intro more rs kvs vs r;unfold KV at r;induction r generalizing kvs vs with
 |nil=>intro q;exact q
 |@cons p q ps qs h t ih=>
  intro r0;have e:KV (putK kvs p.1 p.2) (uI vs q.1 q.2):=by
   have:=r0.put p.1 h.2;rw[← h.1];exact this
  exact ih e
theorem YQ:∀ (more kvs:List (aP×V)),(rS kvs more).length≤kvs.length+more.length
 |[],kvs=>by show kvs.length≤kvs.length+0;omega
 |p::r,kvs=>by
  have h1:=YQ r (putK kvs p.1 p.2);have h2:=FI kvs p.1 p.2;show(rS (putK kvs p.1 p.2) r).length≤_;rw[iB];omega
structure M2 (X:Cx)(o:bF)(m:aE)(ay:dA)(e f:bF)(au:dA):Prop where
 base:sO o m X.env (cE o X.env)=cE o X.env
 few:((iJ au (cH [e,f] X.env)).all (fun x=>!x.1)&&(xP au (xN [] X.env)).all (fun x=>x.1.isSome)
  && decide (([e,f]:List bF).length+([]:List nA).length+(if ([]:List nA).isEmpty then 0 else 1)<30))=ae
 line:(ay.endLine==au.line)=ae
 trees:iJ au (cH [e,f] X.env)=[(af,cE e X.env),(af,cE f X.env)]
def U9 (H:Hp)(a:aD):Prop:=(∃ ep kvs,Rd H a (.dK ep kvs))\/∃ kvs,Rd H a (.dT kvs)
theorem Hu {X:Cx}{σ:St}{H:Hp}(I:Inv X ad σ H s)(d:U9 H a) :
  s.TypeIs (.ref a) "dict" /\ (∀ b,fO a=.ref b->∃ ob,s.heap.get? b=aa ob/\ob.dict=ab)/\(a==kB)=af:=by
 rcases d with⟨ep,kvs,e⟩|⟨kvs,e⟩
 ·obtain⟨_,hd,vs,_,dd⟩:=rO I.hok e;refine⟨dd.typeIs,fun b q=>?_,hd⟩
  cases q;obtain⟨ob,_,_,h1,h2,_⟩:=dd;exact⟨ob,h1,h2.2.1⟩
 ·obtain⟨_,hd,xs,_,dd⟩:=vP I.hok e;refine⟨dd.typeIs,fun b q=>?_,hd⟩
  cases q;obtain⟨ob,_,_,h1,h2,_⟩:=dd;exact⟨ob,h1,h2.2.1⟩
section
variable {X:Cx}{σ:St}{H:Hp}{y d:V}{r:aC}{o:Option V}
theorem Jf(hu:A.units+40<cLine)(I:Inv X ad σ H s)(g:A7j H a y o)(ry:RelV y u)(rd:RelV d r)(h:∀ w' s',Inv X ad σ H s'->RelV (o.getD d) w'->Q w' s') :
  aJ (aO X.prog X.w) A (call (.builtin "dict.get") [.ref a,u,r]) Q E s:=by
 rcases g with⟨ep,kvs,k,e,ey,l⟩|⟨kvs,k,b,e,ey,eb,l⟩
 ·subst ey;obtain⟨z,hd,vs,ff,dd⟩:=rO I.hok e;refine NN Cb dd.typeIs PySem.F.entry_dict_get (Zk _ _ _) (meets_dict_get_default (hW X.prog X.w) a (vN ry) hd r) ⟨_,dd.mapOf,h _ _ (I.tok _) ?_⟩;rw[l];exact(ff.val k).getD rd
 ·subst ey;cases(show u=fO b from ry)
  obtain⟨z,hd,xs,ff,dd⟩:=vP I.hok e;refine NN Cb dd.typeIs PySem.F.entry_dict_get (Zk _ _ _) (meetsH_dict_get_default (oY X.prog X.w) a b hd r) ⟨FR hu,k,xs,pR I.hok eb,dd,h _ _ (I.tok _) ?_⟩;rw[l];exact(ff.val k).getD rd
end
def Iv (td ty tx:TE):TE:=fun σ H Q=>td σ H fun x H1=>∃ a,x=.ref a/\U9 H1 a/\ty σ H1 fun y H2=>tx σ H2 fun z H3=>∃ o,A7j H3 a y o/\Q (o.getD z) H3
section
variable {X:Cx}{o f:bF}{ay au:dA}{td ty tx:TE}
theorem Wu (hu:X.A.units+40<cLine)(ho:PE X o td)(he:PE X e ty)(hf:PE X f tx)(m:M2 X o "get" ay e f au):PE X (.Call (.Attribute o "get" ay) [e,f] [] au) (Iv td ty tx):=by
 rw[9];refine wpAny_Call_method m.base m.few m.line Zh Cb PySem.F.type_dict_get (a9 (ho ad s σ H _ I h) fun u s1 gh=>?_)
 obtain⟨x,H1,I1,rx,a,ex,d,q1⟩:=gh;subst ex;obtain rfl:u=fO a:=rx;obtain⟨t1,t2,_⟩:=Hu I1 d;refine⟨t1,t2,?_⟩;rw[m.trees];refine Di rfl (Calls.evalArgs_plain (OX (a9 (he ad s1 σ H1 _ I1 q1) fun iv s2 ⟨y,H2,I2,ry,q2⟩=>
  OX (a9 (hf ad s2 σ H2 _ I2 q2) fun fv s3 ⟨z,H3,I3,rz,ov,g,q3⟩=>Dh ?_))))
 exact Jf hu I3 g ry rz fun w' s4 I4 kl=>⟨_,H3,I4,kl,q3⟩
end
section
variable {X:Cx}{σ:St}{H:Hp}{kvs:List (aP×V)}
theorem Ui(I:Inv X ad σ H s)(e:Rd H a (.dK ep kvs))(h:∀ p n s',H p=ab->Inv X ad σ (aq H p (.dK n kvs)) s'->Q (.ref p) s'):aJ (aO X.prog X.w) A (call (.type "dict") [.ref a]) Q E s:=by
 obtain⟨z,hd,vs,ff,dd⟩:=rO I.hok e;refine kt_call_dict hd dd (by rw[← ff.length];exact z) fun h' rj hs=>?_
 obtain⟨n,da⟩:=rj.dictAt;refine h _ n _ (I.hok.fresh (bZ _)) (I.laid (a:=s.heap.objs.size) (o:=.dK n kvs) (t':=s.toks) (fun b q hq=>?_) (bZ _) (DB z (beq_eq_false_iff_ne.mpr (kP (dM I.big))) ff da))
 exact(hs.2 b (dM (cC hq))).trans (cL _ hq)
end
end L2
namespace HT
open PySem PyProof.Rows
section
variable {prog:bS}{w:bH}{A:cD}{E:aC->aH->Prop}{s:aH}
theorem A9t {t b:aD}{vs ws:List aC}{Q:aC->aH->Prop}(ht:IsTup s.heap t vs.toArray)(hb:IsTup s.heap b ws.toArray)(hv:vs≠[])
  (h1:ws=[]->Q (.ref t) s) (h2:ws≠[]->Q (.ref s.heap.objs.size) { s with heap:=s.heap.push { cls:=.type "tuple",data:=.seq (vs++ws).toArray } })
  (hsz:vs.length+ws.length≤sizeLine):aJ (aO prog w) A (mT .Add (.ref t) (.ref b)) Q E s:=by
 obtain⟨⟨cls,dd,data,sl⟩,ho,hc,n,hd⟩:=id ht;obtain⟨⟨E5,A9,data2,BT⟩,uy,xr,n2,uz⟩:=id hb;simp only at hc hd xr uz;subst hc hd xr uz;have e:vs.toArray++ws.toArray=(vs++ws).toArray:=by simp
 by_cases hw:ws=[]
 ·exact concat_meets ⟨_,ho,rfl⟩ ⟨_,uy,rfl⟩ noFill_tuple_add seq_tuple_add PySem.F.slot_tuple_add Zi (Zj _ _)
   (tuple_addW1 t b vs.toArray ws.toArray n n2 dd A9 sl BT (by simpa using hv) (by simp[hw])) ⟨ho,uy,h1 hw⟩
 ·refine concat_meets ⟨_,ho,rfl⟩ ⟨_,uy,rfl⟩ noFill_tuple_add seq_tuple_add PySem.F.slot_tuple_add Zi (Zj _ _)
   (tuple_addW2 t b vs.toArray ws.toArray n n2 dd A9 sl BT (by simpa using hv) (by simpa using hw) (by rw[fP,fP];exact hsz)) ⟨ho,uy,?_⟩
  rw[e];exact h2 hw
def sIx (n d:Nat):Option Int->Nat
 |none=>d
 |some v=>if v<0 then(v+(n:Int)).toNat else min v.toNat n
theorem Apu (n d:Nat):sIx n d ab=d:=rfl
theorem Aty (n d k:Nat):sIx n d (aa (k:Int))=min k n:=by
 show(if (k:Int)<0 then((k:Int)+(n:Int)).toNat else min (k:Int).toNat n)=min k n
 rw[if_neg (by omega),mH]
end
end HT
namespace L2
open PySem PySem.Spec PyProof.Rows
variable {xs:List V}{n:Nat}{ad:List (aD×bJ)}{σ:St}{H:Hp}{s:aH}{its:List aC}{X:Cx}
abbrev TO:=St->Hp->(Option Int->Hp->Prop)->Prop
def PO (X:Cx)(e:Option bF)(t:TO):Prop:=
 ∀ (ad:List (aD×bJ)) (s:aH) (σ:St) (H:Hp) (Q:Option Int->Hp->Prop),Inv X ad σ H s->t σ H Q ->
  aJ (aO X.prog X.w) X.A (evalPart e X.env) (fun u s'=>∃ o H',Inv X ad σ H' s'/\IsPart u o/\Q o H') X.xe s
def Lj:TO:=fun _ H Q=>Q ab H
def Fg (t:TE):TO:=fun σ H Q=>t σ H fun x H1=>∃ i,x=.int i/\Q (aa i) H1
section
variable {e:bF}{te:TE}{lo hi:Option bF}{tl th:TO}{pos p2:dA}
theorem Kq:PO X ab Lj:=by
 rw[9];rw[evalPart_none];exact aQ ⟨ab,H,I,.none,h⟩
theorem Mf (h:PE X e te):PO X (aa e) (Fg te):=by
 intro ad s σ H Q I hw;rw[evalPart_some];refine a9 (h ad s σ H _ I hw) fun u s1 gh=>?_
 rw[24];obtain⟨i,rfl,q⟩:=q1;obtain⟨t,rfl⟩:=r1;exact⟨aa i,H1,I1,.int i t,q⟩
def U' (X:Cx)(r:V->Option Int->Option Int->Hp->VK->Prop):Prop:=
 ∀ (ad:List (aD×bJ)) (s:aH) (σ:St) (H:Hp) (x:V) (v vl vu:aC) (lo hi:Option Int) (sl:aD) (Q:VK),Inv X ad σ H s->RelV x v->s.heap.IsSliceOf sl vl vu .none->IsPart vl lo->IsPart vu hi->r x lo hi H Q ->
  ∃ T id,BC (.type T) "__getitem__" = pure (aa (.builtin id))/\s.TypeIs v T/\aJ (aO X.prog X.w) X.A (getItem v (.ref sl)) (EP X ad σ Q) X.xe s
def tSl (r:V->Option Int->Option Int->Hp->VK->Prop)(te:TE)(tl th:TO):TE:=fun σ H Q=>te σ H fun x H1=>tl σ H1 fun l H2=>th σ H2 fun u H3=>r x l u H3 Q
theorem Vs {r:V->Option Int->Option Int->Hp->VK->Prop}(hr:U' X r)(he:PE X e te)(hl:PO X lo tl)(hu:PO X hi th):PE X (.Subscript e (.Slice lo hi ab p2) pos) (tSl r te tl th):=by
 rw[9];refine Subscript_ (a9 (he ad s σ H _ I h) fun v s1 gh=>?_)
 rw[24];refine wpAny_Slice (a9 (hl ad s1 σ H1 _ I1 q1) fun vl s2 ⟨l,H2,I2,pl,q2⟩=>a9 (hu ad s2 σ H2 _ I2 q2) fun vu s3 gh=>?_)
 obtain⟨u,H3,I3,pu,q3⟩:=gh;rw[evalPart_none];refine aQ ?_;have I4:Inv X ad σ H3 { s3 with heap:=s3.heap.push { cls:=.type "slice",data:=.fields #[vl,vu,.none] } }:=I3.kept (t':=s3.toks) fun b ob q=>cL _ q
 obtain⟨T,id,hT,ht,hg⟩:=hr ad { s3 with heap:=s3.heap.push { cls:=.type "slice",data:=.fields #[vl,vu,.none] } } σ H3 x v vl vu l u s3.heap.objs.size Q I4 r1 (Heap.IsSliceOf.new ..) pl pu q3;show aJ (aO X.prog X.w) X.A (subscriptTail e (.Slice lo hi ab p2) v (.ref s3.heap.objs.size)) (EP X ad σ Q) X.xe { s3 with heap:=s3.heap.push { cls:=.type "slice",data:=.fields #[vl,vu,.none] } };exact tail_any (ops:=[.ref s3.heap.objs.size,v]) ht hT hg (by with_unfolding_all rfl)
def yL (xs:List V)(lo hi:Option Int):List V:=(xs.drop (HT.sIx xs.length 0 lo)).take (HT.sIx xs.length xs.length hi-HT.sIx xs.length 0 lo)
theorem Qt (xs:List V)(lo hi:Option Int):(yL xs lo hi).length≤xs.length:=by
 unfold yL;rw[pI,List.length_drop];omega
def QM (K:aM):R2:=fun x y H Q=>∃ a b xs ys,x=.ref a/\y=.ref b/\SqT K H a xs/\SqT K H b ys/\xs≠[]/\xs.length+ys.length≤sizeLine /\
 (ys=[]->Q (.ref a) H)/\(ys≠[]->∀ p,H p=ab->Q (.ref p) (aq H p (.tup (xs++ys))))
theorem Vals.nil_iff{us:List aC}(r:Vals xs us):us=[]↔xs=[]:=by
 cases r with
 |nil=>simp
 |cons _ _=>simp
theorem Mi:OpR X (mT .Add) (QM X.K):=by
 rw[3];obtain⟨a,b,xs,ys,rfl,rfl,ha,hb,hx,hz,q1,q2⟩:=h;cases rx;cases ry;obtain⟨its,r1,p1,_⟩:=I.tuple ha;obtain⟨fj,r2,p2,_⟩:=I.tuple hb;refine HT.A9t p1 p2 (fun z=>hx (r1.nil_iff.mp z)) (fun z=>⟨.ref a,H,I,rfl,q1 (r2.nil_iff.mp z)⟩) (fun z=>?_) (by rw[← r1.length,← r2.length];exact hz)
 refine⟨.ref s.heap.objs.size,_,I.laid (t':=s.toks) (o:=.tup (xs++ys)) (fun b ob q=>cL _ q) (bZ _) ?_,rfl,q2 (fun w=>z (r2.nil_iff.mpr w)) _ (I.hok.fresh (bZ _))⟩
 exact⟨by rw[mZ];exact hz,_,r1.append r2,Bck.new _ _⟩
end
def jt (n:Nat)(i:Int):Option Nat:=if 0≤i then(if i<n then aa i.toNat else ab) else if -(n:Int)≤i then aa (i+n).toNat else ab
def gq {α:Type}(xs:List α)(i:Int):Option α:=(jt xs.length i).bind fun j=>xs[j]?
theorem RU{i:Int}{j:Nat}(h:jt n i=aa j):seqIndex? i n=aa j/\j<n /\ -(n:Int)≤i/\i<n:=by
 unfold jt at h;by_cases h0:0≤i
 ·rw[if_pos h0] at h;by_cases h1:i<n
  ·rw[if_pos h1] at h;have e:i.toNat=j:=iH h;exact⟨by rw[seqIndex_of h0 h1,e],by omega,by omega,h1⟩
  ·rw[if_neg h1] at h;cases h
 ·rw[if_neg h0] at h;by_cases h1 : -(n:Int)≤i
  ·rw[if_pos h1] at h;have e:(i+n).toNat=j:=iH h;exact⟨by rw[seqIndex_neg (by omega) h1,e],by omega,h1,by omega⟩
  ·rw[if_neg h1] at h;cases h
theorem JB {α:Type}{xs:List α}{i:Int}{v:α}(h:gq xs i=aa v):∃ j,seqIndex? i xs.length=aa j/\xs[j]?=aa v/\j<xs.length /\ -(xs.length:Int)≤i/\i<xs.length:=by
 unfold gq at h;cases e:jt xs.length i with
 |none=>rw[e] at h;cases h
 |some j=>
  rw[e] at h;obtain⟨h1,h2,h3,h4⟩:=RU e;exact⟨j,h1,h,h2,h3,h4⟩
theorem rU {α:Type}{xs:List α}{j:Nat}{v:α}(h:xs[j]?=aa v):gq xs (j:Int)=aa v:=by
 have hj:j<xs.length:=(dD.mp h).1;have e:jt xs.length (j:Int)=aa j:=by
  unfold jt;rw[if_pos (by omega),if_pos (by omega)];simp
 unfold gq;rw[e];exact h
def Bf (b:bF):Prop:=∀ o i,NL b af o i=operate [o,i] (getItem o i)
def IxR (X:Cx)(r:R2):Prop:=
 ∀ (value dk:bF) (ad:List (aD×bJ)) (s:aH) (σ:St) (H:Hp) (x y:V) (v u:aC) (Q:VK),Inv X ad σ H s->RelV x v->RelV y u->r x y H Q ->
  NL dk af v u=operate [v,u] (getItem v u)->aJ (aO X.prog X.w) X.A (subscriptTail value dk v u) (EP X ad σ Q) X.xe s
def D2 (X:Cx)(id:String)(r:V->List V->Hp->VK->Prop):Prop:=
 ∀ (ad:List (aD×bJ)) (s:aH) (σ:St) (H:Hp) (x:V) (xs:List V) (v:aC) (us:List aC) (Q:VK),Inv X ad σ H s->RelV x v->Vals xs us->r x xs H Q ->
  aJ (aO X.prog X.w) X.A (call (.builtin id) (v::us)) (EP X ad σ Q) X.xe s
section
variable {a b:bF}{ta tb:TE}{pos:dA}
theorem IxR.or {r r':R2}(h:IxR X r)(h':IxR X r'):IxR X (fun x y H Q=>r x y H Q\/r' x y H Q):=by
 intro value dk ad s σ H x y v u Q I rx ry q hs;rcases q with q|q
 ·exact h value dk ad s σ H x y v u Q I rx ry q hs
 ·exact h' value dk ad s σ H x y v u Q I rx ry q hs
theorem Fz {r:R2}(hr:IxR X r)(ha:PE X a ta)(hb:PE X b tb)(hs:Bf b):PE X (.Subscript a b pos) (xj r ta tb):=by
 rw[9];exact Subscript_ (HZ ha hb I h fun v u s2 x y H2 I2 rx ry q=>hr a b ad s2 σ H2 x y v u Q I2 rx ry q (hs _ _))
def PZ (K:aM):R2:=fun x y H Q=>∃ p xs i v,x=.ref p/\y=.int i/\SqL K H p xs/\gq xs i=aa v/\Q v H
def PY (K:aM):R2:=fun x y H Q=>∃ p xs i v,x=.ref p/\y=.int i/\SqT K H p xs/\gq xs i=aa v/\Q v H
def PJ:R2:=fun x y H Q=>∃ z i c,x=.str z/\y=.int i/\z.length≤sizeLine/\gq z.cps.toList i=aa c/\Q (.str ⟨#[c]⟩) H
theorem Bbn:IxR X (PZ X.K):=by
 intro value dk ad s σ H x y v u Q I rx ry h hs;obtain⟨p,xs,i,z,rfl,rfl,hq,he,q⟩:=h;cases rx;obtain⟨t,rfl⟩:=ry;obtain⟨its,r,pl,hz⟩:=I.list hq;obtain⟨j,h1,h2,h3,h4,h5⟩:=JB he;obtain⟨w,ew,kl⟩:=r.get h2;have hl:=r.length;have hn:=tP;have fin:EP X ad σ Q w s:=⟨z,H,I,kl,q⟩;by_cases h0:0≤i
 ·have hj:i.toNat=j:=by
   rw[seqIndex_of h0 h5] at h1;exact iH h1
  exact item_listR pl.isList h0 (by omega) (by rw[hj];simpa using ew) fin hs
 ·have hj:(i+(its.toArray.size:Int)).toNat=j:=by
   rw[seqIndex_neg (by omega) h4] at h1
   rw[fP,← hl];exact iH h1
  exact subscriptTail_builtinR (x:=w) pl.isList.typeIs slot_list_getitem.lookup
   (wpAny_getItem_list_neg (Q:=fun r s'=>r=w/\EP X ad σ Q r s') pl.isList (by omega) (by rw[fP]<;>omega) (by omega) (by rw[hj];simpa using ew) ⟨rfl,fin⟩) hs
theorem Bd4:IxR X (PY X.K):=by
 intro value dk ad s σ H x y v u Q I rx ry h hs;obtain⟨p,xs,i,z,rfl,rfl,hq,he,q⟩:=h;cases rx;obtain⟨t,rfl⟩:=ry;obtain⟨its,r,pl,hz⟩:=I.tuple hq;obtain⟨j,h1,h2,h3,h4,h5⟩:=JB he;obtain⟨w,ew,kl⟩:=r.get h2;have hl:=r.length;have hn:=tP;have fin:EP X ad σ Q w s:=⟨z,H,I,kl,q⟩;exact subscriptTail_builtinR (x:=w) pl.typeIs slot_tuple_getitem.lookup
  (getItem_tuple (j:=j) (Q:=fun r s'=>r=w/\EP X ad σ Q r s') pl (by omega) (by omega) (by rw[fP,← hl];exact h1) (by simpa using ew) ⟨rfl,fin⟩) hs
theorem He:IxR X PJ:=by
 intro value dk ad s σ H x y v u Q I rx ry h hs;obtain⟨z,i,c,rfl,rfl,hz,he,q⟩:=h;rw[17];obtain⟨j,h1,h2,h3,h4,h5⟩:=JB he;have hl:z.cps.toList.length=z.length:=by simp[Str.length]
 rw[hl] at h1 h4 h5;have hn:=tP;exact tail_any (typeIs_str s z t) slot_str_getitem.lookup (getItem_str (c:=c) (by
  have e1:decide (i < -(2^63:Int))=af:=decide_eq_false (by omega)
  have e2:decide (i ≥ 2^63)=af:=decide_eq_false (by omega)
  rw[e1,e2,Bool.or_false]) (by rw[h1];simpa using h2) ⟨.str ⟨#[c]⟩,H,I.tok _,⟨_,rfl⟩,q⟩) hs
def O7 (K:aM):R2:=fun x y H Q=>PZ K x y H Q\/PY K x y H Q\/PJ x y H Q
theorem Ka:IxR X (O7 X.K):=Bbn.or (Bd4.or He)
theorem Po (its:List aC)(n j:Nat)(u:aC):gK (·.setIfInBounds j u) { cls:=.type "list",data:=.seq its.toArray n }={ cls:=.type "list",data:=.seq (its.set j u).toArray n }:=by
 simp[gK]
theorem Inv.lst{p:aD}(I:Inv X ad σ H s)(h:H p=aa (.lst xs)) :
  ∃ (its:List aC) (n:Nat),Vals xs its/\s.heap.get? p=aa { cls:=.type "list",data:=.seq its.toArray n }/\xs.length≤sizeLine:=by
 obtain⟨z,its,n,r,e⟩:=I.hok p _ h;exact⟨its,n,r,e,z⟩
theorem Inv.lstUpd{p:aD}{ys:List V}{its':List aC}{n':Nat}{f:bJ->bJ}(I:Inv X ad σ H s)(h:H p=aa (.lst xs))
  (ho:s.heap.get? p=aa { cls:=.type "list",data:=.seq its.toArray n }) (hf:f { cls:=.type "list",data:=.seq its.toArray n }={ cls:=.type "list",data:=.seq its'.toArray n' }) (r:Vals ys its') (hz:ys.length≤sizeLine) (t:Nat) :
  Inv X ad σ (aq H p (.lst ys)) { s with heap:=s.heap.update p f,toks:=t }:=by
 have e:(s.heap.update p f).get? p=aa { cls:=.type "list",data:=.seq its'.toArray n' }:=by
  rw[qK f ho (by rw[hf]<;>rfl),hf]
 refine I.write (x:=p) (e:=p) (by rw[h];trivial) (.inl rfl) (fun b u hb q=>(sT _ _ (kP hb)).trans q) ⟨_,e⟩ ?_
 exact⟨hz,its',n',r,e⟩
def Fh:V->V->V->Hp->(Hp->Prop)->Prop:=fun o i v H Q=>∃ p xs k j,o=.ref p/\i=.int k/\H p=aa (.lst xs)/\jt xs.length k=aa j/\Q (aq H p (.lst (xs.set j v)))
theorem set_list:PF X Fh:=by
 intro ad s σ H o i v ov iv u Q I ro ri rv h;obtain⟨p,xs,k,j,rfl,rfl,hp,hj,q⟩:=h;cases ro;obtain⟨t,rfl⟩:=ri;obtain⟨its,n,r,ho,hz⟩:=I.lst hp;obtain⟨h1,h2,h3,h4⟩:=RU hj;have hl:=r.length;have hn:=tP;have I':Inv X ad σ (aq H p (.lst (xs.set j v))) { s with heap:=s.heap.update p (gK (·.setIfInBounds j u)) }:=
  I.lstUpd hp ho (Po its n j u) (r.set rv j) (by rw[List.length_set];exact hz) s.toks
 by_cases h0:0≤k
 ·have hk:k.toNat=j:=by
   rw[seqIndex_of h0 h4] at h1;exact iH h1
  exact PySem.W.ki_setAt ho h0 (by omega) (by rw[fP,← hl];exact h4) (by rw[hk];exact⟨_,I',q⟩)
 ·have hk:(k+(its.toArray.size:Int)).toNat=j:=by
   rw[seqIndex_neg (by omega) h3] at h1
   rw[fP,← hl];exact iH h1
  exact PySem.W.ki_setBack ho (by omega) (by rw[fP,← hl];exact h3) (by omega) (by rw[hk];exact⟨_,I',q⟩)
theorem Rr (lo hi:Option Int)(n:Nat):(xJ lo hi ab n).1=((HT.sIx n 0 lo:Nat):Int)/\(xJ lo hi ab n).2.1=((HT.sIx n n hi:Nat):Int)/\(xJ lo hi ab n).2.2=1:=by
 refine⟨?_,?_,rfl⟩
 ·cases lo with
  |none=>simp[xJ,HT.sIx]
  |some i=>
   simp only[xJ,HT.sIx,Option.getD_none,show(1:Int) > 0 by decide,if_true]
   by_cases h:i<0
   ·simp only[h,if_true]<;>omega
   ·simp only[h,if_false]<;>omega
 ·cases hi with
  |none=>simp[xJ,HT.sIx]
  |some i=>
   simp only[xJ,HT.sIx,Option.getD_none,show(1:Int) > 0 by decide,if_true]
   by_cases h:i<0
   ·simp only[h,if_true]<;>omega
   ·simp only[h,if_false]<;>omega
theorem Rk (its:List aC)(lo hi:Option Int):slicePick its.toArray lo hi ab=((its.drop (HT.sIx its.length 0 lo)).take (HT.sIx its.length its.length hi-HT.sIx its.length 0 lo)).toArray:=by
 obtain⟨h1,h2,h3⟩:=Rr lo hi its.toArray.size;unfold slicePick;rw[h1,h2,h3];simp only[sliceRange_one,pick_run,fP]<;>rfl
def Dw (K:aM):V->Option Int->Option Int->Hp->VK->Prop:=fun x lo hi H Q=>∃ a xs,x=.ref a/\SqL K H a xs/\∀ p,H p=ab->Q (.ref p) (aq H p (.lst (yL xs lo hi)))
theorem Jn:U' X (Dw X.K):=by
 intro ad s σ H x v vl vu lo hi sl Q I rx hs pl pu h;obtain⟨a,xs,rfl,hx,q⟩:=h;cases rx;obtain⟨its,r,ht,hz⟩:=I.list hx;have ax:=r.length;refine⟨"list",_,slot_list_getitem.lookup,ht.isList.typeIs,?_⟩;refine wpAny_getItem_list_slice ht.isList hs pl pu .none (by simp) ?_ (by rw[fP]<;>omega)
 rw[Rk,← ax];refine⟨.ref s.heap.objs.size,_,I.laid (t':=s.toks) (o:=.lst (yL xs lo hi)) (fun b ob q=>cL _ q) (bZ _) ?_,rfl,q _ (I.hok.fresh (bZ _))⟩
 exact⟨jV (Qt xs lo hi) hz,_,0,(r.drop (HT.sIx xs.length 0 lo)).take (HT.sIx xs.length xs.length hi-HT.sIx xs.length 0 lo),eJ _ rfl⟩
theorem Rg:OpR X (kC .NotIn) (fun x y H Q=>∃ i j,x=.str i/\y=.str j/\Q (.bl (!(!(Dj j i 0 j.length 1).isEmpty))) H):=by
 rw[3];obtain⟨i,j,rfl,rfl,q⟩:=h;rw[17];exact notIn_str ⟨.bl _,H,I,rfl,q⟩
theorem Ar9:Aet X (.builtin "len") (fun xs H Q=>∃ p ys,xs=[.ref p]/\(SqL X.K H p ys\/SqT X.K H p ys)/\Q (.int ys.length) H):=by
 rw[5];obtain⟨p,ys,rfl,hq,q⟩:=h;obtain⟨u,rfl,rx⟩:=vals1 r;cases rx;have hn:=tP;rcases hq with hq|hq
 ·obtain⟨its,r',pl,hz⟩:=I.list hq;have ax:=r'.length;exact Calls.call_len_list pl.isList (by simp only[fP]<;>omega) ⟨.int ys.length,H,I.tok _,⟨s.toks+1,by rw[fP,ax]⟩,q⟩
 ·obtain⟨its,r',pl,hz⟩:=I.tuple hq;have ax:=r'.length;exact len_tuple pl (by simp only[fP]<;>omega) ⟨.int ys.length,H,I.tok _,⟨s.toks+1,by rw[fP,ax]⟩,q⟩
theorem Arf:Aet X (.builtin "len") (fun xs H Q=>∃ z,xs=[.str z]/\z.length≤sizeLine/\Q (.int z.length) H):=by
 rw[5];obtain⟨z,rfl,hz,q⟩:=h;obtain⟨u,rfl,t,rfl⟩:=vals1 r;have hn:=tP;exact len_str (by omega) ⟨.int z.length,H,I.tok _,⟨_,rfl⟩,q⟩
theorem Aet.or {f:aC}{r r':List V->Hp->VK->Prop}(h:Aet X f r)(h':Aet X f r'):Aet X f (fun xs H Q=>r xs H Q\/r' xs H Q):=by
 intro ad s σ H xs us Q I rs q;rcases q with q|q
 ·exact h ad s σ H xs us Q I rs q
 ·exact h' ad s σ H xs us Q I rs q
theorem Aqj:Aet X (.type "list") (fun xs H Q=>∃ p ys,xs=[.ref p]/\(SqL X.K H p ys\/SqT X.K H p ys)/\∀ l,H l=ab->Q (.ref l) (aq H l (.lst ys))):=by
 rw[5];obtain⟨p,ys,rfl,hq,q⟩:=h;obtain⟨u,rfl,rx⟩:=vals1 r;cases rx;have fin:∀ (its:List aC),Vals ys its->ys.length≤sizeLine->∀ (h':aZ) (c':Nat),(∀ b o',s.heap.get? b=aa o'->h'.get? b=aa o') ->
   h'.get? s.heap.objs.size=aa { cls:=.type "list",dict:=ab,data:=.seq its.toArray c',slots:=#[] }->EP X ad σ Q (.ref s.heap.objs.size) { s with heap:=h' }:=fun its r' hz h' c' kp e=>
  ⟨.ref s.heap.objs.size,_,I.laid (t':=s.toks) kp (bZ _) (show Adl X.prog X.w _ h' _ (.lst ys) from⟨hz,its,c',r',e⟩),rfl,q _ (I.hok.fresh (bZ _))⟩
 rcases hq with hq|hq
 ·obtain⟨its,r',pl,hz⟩:=I.list hq;have ax:=r'.length;obtain⟨o,ho,hc,n,hd⟩:=pl.isList;exact call_list_seq p (.inl rfl) ho hc hd (fun h' c' kp e=>fin its r' hz h' c' kp e) (by simp only[fP]<;>omega)
 ·obtain⟨its,r',pl,hz⟩:=I.tuple hq;have ax:=r'.length;obtain⟨o,ho,hc,n,hd⟩:=pl;exact call_list_seq p (.inr rfl) ho hc hd (fun h' c' kp e=>fin its r' hz h' c' kp e) (by simp only[fP]<;>omega)
theorem uD:Aet X (.type "tuple") (fun xs H Q=>∃ p ys,xs=[.ref p]/\((SqL X.K H p ys/\∀ l,H l=ab->Q (.ref l) (aq H l (.tup ys)))\/(SqT X.K H p ys/\Q (.ref p) H))):=by
 rw[5];obtain⟨p,ys,rfl,h⟩:=h;obtain⟨u,rfl,rx⟩:=vals1 r;cases rx;rcases h with⟨hq,q⟩|⟨hq,q⟩
 ·obtain⟨its,r',pl,hz⟩:=I.list hq;have ax:=r'.length;refine call_tuple_list pl.isList (fun h' kp=>?_) (by simp only[fP]<;>omega)
  have I1:Inv X ad σ H { s with heap:=h' }:=I.kept (t':=s.toks) kp;have I2:Inv X ad σ (aq H h'.objs.size (.tup ys)) { s with heap:=h'.push { cls:=.type "tuple",data:=.seq its.toArray } }:=
   I1.laid (t':=s.toks) (fun b o e=>cL _ e) (bZ _) (show Adl X.prog X.w _ _ _ (.tup ys) from⟨hz,its,r',Bck.new _ _⟩)
  exact⟨.ref h'.objs.size,_,I2,rfl,q _ (I1.hok.fresh (bZ _))⟩
 ·obtain⟨its,r',pl,hz⟩:=I.tuple hq;exact call_tuple_same pl ⟨.ref p,H,I,rfl,q⟩
def P1 (K:aM)(T:String)(x:V)(H:Hp):Prop:=match x with
 |.str _=>T = "str"
 |.int _=>T = "int"
 |.ref p=>(T = "list" /\ ∃ xs,SqL K H p xs)\/(T = "tuple" /\ ((∃ o,K.lookup p=aa o/\o.cls=.type "tuple" /\ o.dict=ab)\/∃ xs,H p=aa (.tup xs))) \/
   (T = "dict" /\ ((∃ ep kvs,H p=aa (.dK ep kvs))\/∃ kvs,H p=aa (.dT kvs)))\/(T = "set" /\ ∃ S n,H p=aa (.set S n))
 |_=>False
theorem ZE{T:String}{x:V}{v:aC}(I:Inv X ad σ H s)(r:RelV x v)(ty:P1 X.K T x H) :
  s.TypeIs v T/\∀ a,v=.ref a->∃ ob,s.heap.get? a=aa ob/\ob.dict=ab:=by
 cases x with
 |str z=>
  obtain⟨t,rfl⟩:=r;cases(show T = "str" from ty)
  exact⟨typeIs_str s z t,fun _ e=>nomatch e⟩
 |int i=>
  obtain⟨t,rfl⟩:=r;cases(show T = "int" from ty)
  exact⟨typeIs_int s i t,fun _ e=>nomatch e⟩
 |ref p=>
  cases r;rcases ty with⟨rfl,xs,hq⟩|⟨rfl,⟨o,hk,hc,hd⟩|⟨xs,hx⟩⟩|⟨rfl,hk⟩|⟨rfl,S,n,hk⟩
  ·obtain⟨its,_,pl,_⟩:=I.list hq;refine⟨pl.isList.typeIs,fun a e=>?_⟩
   rw[30];obtain⟨o,n,e,c,hd,_⟩:=pl;exact⟨o,e,hd⟩
  ·refine⟨⟨o,I.kIn p o hk,hc⟩,fun a e=>?_⟩
   rw[30];exact⟨o,I.kIn _ o hk,hd⟩
  ·obtain⟨_,_,_,⟨o,e,c,_⟩,n⟩:=(show Adl X.prog X.w H s.heap p (.tup xs) from I.hok p _ hx)
   refine⟨⟨o,e,c⟩,fun a e=>?_⟩
   rw[30];exact n
  ·have z:∃ o,s.heap.get? p=aa o/\o.ExactDict:=by
    rcases hk with⟨ep,kvs,hk⟩|⟨kvs,hk⟩
    ·obtain⟨_,_,_,_,o,_,e,ex,_⟩:=I.hok p _ hk;exact⟨o,e,ex⟩
    ·obtain⟨_,_,_,_,o,_,_,e,ex,_⟩:=I.hok p _ hk;exact⟨o,e,ex⟩
   obtain⟨o,e,ex⟩:=z;refine⟨⟨o,e,ex.1⟩,fun a e2=>?_⟩
   cases e2;exact⟨o,e,ex.2.1⟩
  ·obtain⟨o,_,_,_,e,ex,_⟩:=I.hok p _ hk;refine⟨⟨o,e,ex.1⟩,fun a e2=>?_⟩
   cases e2;exact⟨o,e,ex.2.1⟩
 |_=>exact rH ty
def Es (K:aM)(T:String)(r:V->List V->Hp->VK->Prop)(to:TE):TE:=fun σ H Q=>to σ H fun x H1=>P1 K T x H1/\r x [] H1 Q
def tBM (K:aM)(T:String)(r:V->List V->Hp->VK->Prop)(to:TE)(t:TA):TE:=fun σ H Q=>to σ H fun x H1=>P1 K T x H1/\t σ H1 fun xs H2=>r x xs H2 Q
variable {o e:bF}{es:List bF}{to:TE}{t:TA}{name:aE}{ay au:dA}{T id:String}{r:V->List V->Hp->VK->Prop}
theorem Ia (pa:PlainAttrs T)(slot:Slot T name id)(E6:typeOf (.builtin id)=pure (.type "method_descriptor"))(hm:D2 X id r)(ho:PE X o to)
  (cg:sO o name X.env (cE o X.env)=cE o X.env:=by rfl) (cj:(ay.endLine==au.line)=ae:=by rfl):PE X (.Call (.Attribute o name ay) [] [] au) (Es X.K T r to):=by
 rw[9];refine wpAny_Call_method0_late cg cj (a9 (ho ad s σ H _ I h) fun v s1 gh=>?_)
 obtain⟨x,H1,I1,r1,ty,q1⟩:=gh;obtain⟨h1,h2⟩:=ZE I1 r1 ty;exact⟨T,id,pa,slot,E6,h1,h2,Di rfl (PySem.evalArgs_none (hm ad s1 σ H1 x [] v [] Q I1 r1 .nil q1))⟩
theorem AQ (pa:PlainAttrs T)(slot:Slot T name id)(E6:typeOf (.builtin id)=pure (.type "method_descriptor"))(hm:D2 X id r)(ho:PE X o to)(ha:PA X (e::es) t)
  (cg:sO o name X.env (cE o X.env)=cE o X.env:=by rfl)
  (gi:((iJ au (cH (e::es) X.env)).all (fun x=>!x.1)&&(xP au (xN [] X.env)).all (fun x=>x.1.isSome)
   && decide ((e::es).length+([]:List nA).length+(if ([]:List nA).isEmpty then 0 else 1)<30))=ae:=by rfl)
  (cj:(ay.endLine==au.line)=ae:=by rfl) (hs:cH (e::es) X.env=(af,cE e X.env)::cH es X.env:=by rfl) (ck:(iJ au (cH es X.env)).any (·.1)=af:=by rfl) :
  PE X (.Call (.Attribute o name ay) (e::es) [] au) (tBM X.K T r to t):=by
 rw[9];refine wpAny_Call_method_late cg gi cj rfl (a9 (ho ad s σ H _ I h) fun v s1 gh=>?_)
 obtain⟨x,H1,I1,r1,ty,q1⟩:=gh;obtain⟨h1,h2⟩:=ZE I1 r1 ty;refine⟨T,id,pa,slot,E6,h1,h2,?_⟩;have hA:=ha au ad s1 σ H1 _ I1 q1;rw[hs] at hA ⊢;refine Di (by show(af||(iJ au (cH es X.env)).any (·.1))=af;rw[ck]<;>rfl) (Calls.evalArgs_plain ?_)
 exact a9 hA fun us s2 ⟨vs,H2,I2,r2,q2⟩=>hm ad s2 σ H2 x vs v us Q I2 r1 r2 q2
end
def D1 (X:Cx)(id:String)(r:V->List V->Hp->VK->Prop):Prop:=
 ∀ (ad:List (aD×bJ)) (s:aH) (σ:St) (H:Hp) (x:V) (xs:List V) (v:aC) (us:List aC) (Q:VK),Inv X ad σ H s->RelV x v->Vals xs us->r x xs H Q ->
  aJ (aO X.prog X.w) X.A (call (.builtin id) (v::us)) (EP X ad σ Q) X.xe s
theorem Vals.one:∀ {x:V} {us:List aC},Vals [x] us->∃ u,us=[u]/\RelV x u:=by
 intro x us h;cases h with
 |cons r t=>cases t;exact⟨_,rfl,r⟩
theorem Vals.zero:∀ {us:List aC},Vals [] us->us=[]
 |_,.nil=>rfl
section
variable {l b:aD}{ys zs:List V}
theorem Inv.lset {its':List aC}{f:Array aC->Array aC}{t':Nat}(I:Inv X ad σ H s)(hH:H l=aa (.lst xs))
  (e:s.heap.get? l=aa { cls:=.type "list",data:=.seq its.toArray n }) (hf:f its.toArray=its'.toArray) (hv:Vals ys its') (hz:ys.length≤sizeLine) :
  Inv X ad σ (aq H l (.lst ys)) { s with heap:=s.heap.update l (gK f),toks:=t' }:=by
 have q:=PySem.IsL.update e f;rw[hf] at q;refine I.write (x:=l) (e:=l) (by rw[hH];exact trivial) (.inl rfl) (fun b' u hb hu=>(sT s.heap (gK f) (kP hb)).trans hu) ⟨_,q⟩ ?_
 exact⟨hz,its',_,hv,q⟩
theorem Inv.lnew{t':Nat}(I:Inv X ad σ H s)(hv:Vals ys its)(hz:ys.length≤sizeLine) :
  Inv X ad σ (aq H s.heap.objs.size (.lst ys)) { s with heap:=s.heap.push { cls:=.type "list",data:=.seq its.toArray },toks:=t' }:=
 I.laid (fun _ _ q=>cL _ q) (bZ _) ⟨hz,its,0,hv,eJ _ rfl⟩
theorem Inv.fresh (I:Inv X ad σ H s):H s.heap.objs.size=ab:=I.hok.fresh (bZ _)
theorem Inv.lstM (I:Inv X ad σ H s)(hH:H l=aa (.lst xs)):xs.length≤sizeLine/\∃ (its:List aC) (n:Nat),Vals xs its/\xs.length=its.length/\s.heap.get? l=aa { cls:=.type "list",data:=.seq its.toArray n }:=by
 obtain⟨z,its,n,r,e⟩:=I.hok l _ hH;exact⟨z,its,n,r,r.length,e⟩
theorem Uc(h:n≤sizeLine):Dk n=af:=by
 unfold Dk;exact decide_eq_false (by omega)
end
def Km:V->List V->Hp->VK->Prop:=fun x vs H Q=>∃ l xs y,x=.ref l/\vs=[y]/\H l=aa (.lst xs)/\xs.length<sizeLine/\Q .non (aq H l (.lst (xs++[y])))
theorem VC:D1 X "list.append" Km:=by
 intro ad s σ H x vs v us Q I rx rv h;obtain⟨l,xs,y,rfl,rfl,hH,hz,q⟩:=h;cases rx;obtain⟨u,rfl,ru⟩:=rv.one;obtain⟨z,its,n,r,hl,e⟩:=I.lstM hH;refine call_meets F.slot_list_append ⟨_,e,rfl⟩ F.entry_list_append (F.args_list_append_2 _ _) (PySem.list_append l its.toArray n u (by rw[fP];omega)) ⟨e,?_⟩
 refine⟨.non,_,I.lset (its':=its++[u]) hH e (by simp) (r.append (.cons ru .nil)) ?_,rfl,q⟩
 rw[mZ,OH];omega
def Je:V->List V->Hp->VK->Prop:=fun x vs H Q=>∃ l xs,x=.ref l/\vs=[]/\H l=aa (.lst xs)/\Q .non (aq H l (.lst []))
theorem Wk:D1 X "list.clear" Je:=by
 intro ad s σ H x vs v us Q I rx rv h;obtain⟨l,xs,rfl,rfl,hH,q⟩:=h;cases rx;have WF:=rv.zero;subst WF;obtain⟨z,its,n,r,hl,e⟩:=I.lstM hH;refine call_meets F.slot_list_clear ⟨_,e,rfl⟩ F.entry_list_clear (F.args_list_clear_1 _) (AutoSeq1.list_clear_list_0 l its.toArray n (by rw[fP];omega)) ⟨e,?_⟩
 exact⟨.non,_,I.lset (its':=[]) (ys:=[]) hH e rfl .nil (dU _),rfl,q⟩
end L2
namespace Att
open PySem PySem.W PySem.Calls PyProof.Rows
theorem Ss {P:Params}{h:aZ}:∀ (ns:List Int) (vs:List aC),WellAll P h vs (ns.map WData.int)->IntsAre vs ns:=by
 intro ns;induction ns with
 |nil=>
  intro vs w;rw[List.map_nil] at w;cases w;exact .nil
 |cons n ns ih=>
  intro vs w;rw[eF] at w;cases w with
  |cons a b=>
   cases a;exact .cons _ _ (ih _ b)
theorem Np {l:OpenLaw}{n:Nat}(hn:l.most=aa n){P:Params}{h:aZ}{args:List WData}{u8:List aC}
  (n9:l.row.toRowW.claim.pre args=ae) (E7:WellAll P h u8 args) :
  ∃ a vs ns,u8=[fO a]/\args=[WData.list (ns.map WData.int)]/\h.get? a=aa { cls:=.type "list",data:=.seq vs.toArray }/\IntsAre vs ns/\ns.length≤n:=by
 have WP:WShape.hasAll [] args [.list .int]=ae:=(pre_splitW n9).1;have hc:l.pre.holds [] { args:=args }=ae:=(pre_splitW n9).2;obtain⟨d,r,rfl,h1,h2⟩:=hasAllW_cons WP;obtain rfl:=hasAllW_nil h2;obtain⟨xs,rfl,h3⟩:=hasW_list h1;obtain⟨ns,rfl⟩:=items_int h3;have ax:ns.length≤n:=by
  unfold OpenLaw.pre at hc;have h4:(WTm.not (.lt (.lit (.int (n:Int))) (.len (.arg 0)))).holds [] { args:=[.list (ns.map .int)] }=ae:=by
   have h4:=(holds_andW hc).1;rw[hn] at h4;exact h4
  have h5:=condW_of h4 (w_not (w_lt w_lit (w_len_list (w_arg rfl))));rw[eY] at h5;refine Nat.le_of_not_lt fun q=>?_
  have q':(n:Int)<((ns.length:Nat):Int):=by omega
  first
   |(rw[decide_eq_true q'] at h5;exact absurd h5 (by decide))
   |(simp at h5;omega)
 cases E7 with
 |cons w1 w2=>
  cases w2;cases w1 with
  |list ho bx=>exact⟨_,_,ns,rfl,rfl,ho,Ss ns _ bx,ax⟩
theorem Xq (l:OpenLaw)(args:List WData):l.row.toRowW.claim.post args (.bool ae) args=ae:=
 postW_of (r:=l.row.toRowW) (X:=(ae==ae))
  (show WShape.has [] (.bool ae) .bool=ae by first|rfl|decide|simp[WShape.has,WShape.arms,WShape.armsAll])
  (show(WTm.eq .res (.lit (.bool ae))).value [] { args:=args,res:=aa (.bool ae),after:=args }=aa (.bool (ae==ae)) from w_eq_bool (w_res rfl) w_lit) rfl
theorem As4 {l:OpenLaw}{n:Nat}{q:bS}{ju:List aE}{XP:(aE->Option aC)->aZ->Prop}{YP:bH->aZ->Prop}{d:DefRec}
  (hn:l.most=aa n) (xt:d.params.defaults=[])
  (call:∀ (w:bH) (s₀ s₁:aH) (mg mb:aE->Option aC) (fa:aD) (o:bJ) (pm cd c9:aC) (a:aD) (vs:List aC) (ns:List Int),
   Ground q ju [] XP w s₀ mg mb s₁.heap->YP w s₁.heap ->
   s₁.heap.get? fa=aa o->o.data=.func (docDef d.name d.params d.body d.scope pm cd c9)->s₁.heap.CodeRec cd d.name->mg d.name=aa (.ref fa) ->
   s₁.heap.get? a=aa { cls:=.type "list",data:=.seq vs.toArray }->IntsAre vs ns->ns.length≤n->s₁.gens = #[] ->
   qB (aO l.prog w) xO (.call (.ref fa) ⟨[.ref a],[]⟩) (fun r s'=>r=.ok (.ret (.bool ae))/\OldK s₁.heap s'.heap/\s'.os=s₁.os/\sU s'.gens) s₁) :
  WalkO q ju XP YP l.row.toRowW d [] (fun f vs=>PySem.call f vs):=by
 intro w s₀ s₁ mg mb G Y fa o pm cd c9 dV kV ho hd ic hD xu hg args u8 as n9 W0 hrd E7 rm;obtain rfl:dV=.none:=Dflts.none hD xt;obtain rfl:kV=.none:=Dflts.noKw hD;obtain⟨a,vs,ns,rfl,rfl,u9,ph,ax⟩:=Np hn n9 E7;refine enter_call (GO (call w s₀ s₁ mg mb fa o pm cd c9 a vs ns G Y ho (fd_plain hd) ic xu u9 ph ax hg) fun r s' hq=>?_)
 obtain⟨rfl,h2,h3,h4⟩:=hq;exact⟨.inl ⟨.bool ae,.bool ae,[],rfl,fun _=>rfl,.bool ae,Xq l _,fun _=>⟨List.Pairwise.nil,fun _ hm=>(nomatch hm)⟩⟩,h2,h3,h4⟩
end Att
namespace L2
open PySem PySem.Spec PyProof.Rows
variable {P P0:aD->Prop}{w:bH}{K:aM}{mg:aE->Option aC}{k:aP}{a f:aD}{x qual:aE}{sp:Sp}{n i j n0:Nat}{d m:aA}{X:Cx}{st:cV}{N ps:List aE}{A:cD}{B H' H H1 B' B0 H0:Hp}{jo a8 c b tg e:bF}{jd es:List bF}{pos px rn p:dA}{env:Env}{sc:kE}{v:V}{fp:Nat->List aD}{ad:List (aD×bJ)}{σ:St}{s:aH}{cap:List (Option Nat)}{o:HO}{xs:List V}{ds:List aA}{ρ:List (Option aA)}{g:aA->aA->Option aA}{r:R2}{T:String}{kds:List (aA×aA)}{Q:VK}
theorem VD:∀ {vs:List aC} {ns:List Int},IntsAre vs ns->Vals (ns.map V.int) vs
 |_,_,.nil=>.nil
 |_,_,.cons n t h=>.cons ⟨t,rfl⟩ (VD h)
def Only (H:Hp):Prop:=∀ b,H b=ab\/∃ o xs,H b=aa (.frz o (.lst xs))
theorem Wb {P:bS}{mb:aE->Option aC}{CX:qg}{k:Nat}{fa:aD}{fd:jD}{s₁:aH}{vs:List aC}{ns:List Int}
  (KX:K.In s₁.heap) (E8:s₁.heap.Ns eX mg) (hb:s₁.heap.Ns builtinsNs mb) (xv:∀ x:aE,x ≠ "__name__" -> mb x=qC x) (E9:s₁.heap.NoLimit) (hg:s₁.gens = #[])
  (ha:s₁.heap.get? a=aa { cls:=.type "list",data:=.seq vs.toArray }) (hi:IntsAre vs ns) (hl:ns.length≤sizeLine) (hr:Room k xO)
  (F:∀ base:aZ,K.In base->base.Ns eX mg->FnOk P w K mg base CX k fa fd [x] sp) (xw:∀ (s:aH) (u:aC),BindsTo s fd ⟨[u],[]⟩ [(x,u)])
  (qp:∀ H:Hp,Only H->SqL K H a (ns.map V.int)->sp [.ref a] H (fun v _=>v=.bl ae) fun _ _ _=>False)
  (Fa:∀ H e s',CX [] H s₁ (fun _ _ _=>False) e s'->False) :
  qB (aO P w) xO (.call (.ref fa) ⟨[.ref a],[]⟩) (fun r s'=>r=.ok (.ret (.bool ae))/\OldK s₁.heap s'.heap/\s'.os=s₁.os/\sU s'.gens) s₁:=by
 have rv:=VD hi;have F0:=hi.length;have xy:∀ H:Hp,Only H->SqL K H a (ns.map V.int)->HOk P w H s₁.heap->(∀ b,H b≠ab->b=a)->(H a≠ab->K.lookup a=ab) ->
   qB (aO P w) xO (.call (.ref fa) ⟨[.ref a],[]⟩) (fun r s'=>r=.ok (.ret (.bool ae))/\OldK s₁.heap s'.heap/\s'.os=s₁.os/\sU s'.gens) s₁:=by
  intro H hO hS hok hA hK;have base_of:∀ {b:aD} {o:bJ},s₁.heap.get? b=aa o->H b=ab->(qZ s₁.heap H).get? b=aa o:=fun e n=>Uk e n
  have xq:∀ {b:aD} {o:bJ} {es:Array rJ} {ep:Nat},s₁.heap.get? b=aa o->o.data=.dict es ep->H b=ab:=fun {b o es ep} e d=>by
   cases q:H b with
   |none=>rfl
   |some u=>
    have e':b=a:=hA b (by rw[q];simp)
    subst e';rw[ha] at e;cases e;have d':Data.seq vs.toArray _=Data.dict es ep:=d;cases d'
  have B2:∀ {b:aD} {m:aE->Option aC},s₁.heap.Ns b m->(qZ s₁.heap H).Ns b m:=fun {b m} ⟨o,es,ep,e,d,r⟩=>⟨o,es,ep,base_of e (xq e d),d,r⟩
  have Q0:K.In (qZ s₁.heap H):=fun b o e=>base_of (KX b o e) (by
   cases q:H b with
   |none=>rfl
   |some u=>
    have e':b=a:=hA b (by rw[q];simp)
    subst e';rw[hK (by rw[q];simp)] at e;cases e)
  have hM:Mod K mg (qZ s₁.heap H):=⟨Q0,B2 E8,⟨mb,B2 hb,xv⟩,let ⟨mc,h1,h2⟩:=E9;⟨mc,B2 h1,h2⟩⟩;have e0:Env0 P w K mg (qZ s₁.heap H) xO [] s₁ H:=⟨rfl,hM,fun b o e=>Lm e,NY (Mq _ _),trivial,fun b hb=>absurd (show b∈([]:List aD) from hb) (by simp),hok,.of_eq hg⟩
  refine GO ((F _ Q0 (B2 E8)).run xO [] s₁ H ⟨[.ref a],[]⟩ [.ref a] [.ref a] _ _ hr e0 (xw s₁ (.ref a)) (.cons rfl .nil) (qp H hO hS)) fun r s' h=>?_
  cases r with
  |error e=>exact(Fa H e s' h).elim
  |ok fl=>
   cases fl with
   |next=>exact rH h
   |brk=>exact rH h
   |cont=>exact rH h
   |ret u=>
    obtain⟨v,H',os,bare,un,F1,r',q⟩:=h;have q':v=.bl ae:=q;subst q';obtain rfl:u=Value.bool ae:=r';refine⟨rfl,OldK.of_keep fun b o e=>?_,os,bare⟩
    cases q:H b with
    |none=>exact un.keep b o e q (by intro z;exact absurd (show b∈([]:List aD) from z) (by simp)) (by simp)
    |some u=>
     rcases hO b with z|⟨ob,xs,z⟩
     ·rw[q] at z;cases z
     ·have z2:=un.frzs b ob _ z;obtain⟨e1,_⟩:=hok b _ z;obtain⟨e2,_⟩:=F1 b _ z2;rw[e] at e1;cases e1;exact e2
 cases hk:K.lookup a with
 |some o=>
  have e:=KX a o hk;rw[ha] at e;rw[30];refine xy (fun _=>ab) (fun _=>.inl rfl) (.inr ⟨_,vs.toArray,_,hk,rfl,rfl,rfl,by rw[fP,F0];exact hl,by simpa using rv⟩) (fun b u z=>by have z':(ab:Option HO)=aa u:=z;cases z') (fun b z=>absurd rfl z) fun z=>absurd rfl z
 |none=>
  refine xy (fun b=>if b=a then aa (.frz { cls:=.type "list",data:=.seq vs.toArray } (.lst (ns.map V.int))) else ab) (fun b=>?_) (.inl (.inr ⟨{ cls:=.type "list",data:=.seq vs.toArray },if_pos rfl⟩)) (fun b u z=>?_) (fun b z=>?_) fun _=>hk
  ·by_cases hb:b=a
   ·exact .inr ⟨_,_,if_pos hb⟩
   ·exact .inl (if_neg hb)
  ·by_cases hb:b=a
   ·have z':=(if_pos hb).symm.trans z;cases z';subst hb;exact⟨ha,by rw[eY];exact hl,vs,_,rv,ha⟩
   ·have z':=(if_neg hb).symm.trans z;cases z'
  ·by_cases hb:b=a
   ·exact hb
   ·exact absurd (if_neg hb) z
theorem Bbp {l:Bz}{k:Nat}{q:bS}{ju:List aE}{XP:(aE->Option aC)->aZ->Prop}{YP:bH->aZ->Prop}{d:DefRec}{K:Params->aM}{CX:bH->qg}{sp:bH->Sp}
  (hn:l.most=aa n) (B3:n≤sizeLine) (xt:d.params.defaults=[]) (hr:Room k xO)
  (hY:∀ (w:bH) (h:aZ),YP w h->(K w.params).In h)
  (F:∀ (w:bH) (mg:aE->Option aC) (fa:aD) (h:aZ),(K w.params).In h->h.Ns eX mg->mg d.name=aa (.ref fa) ->
   ∃ fd:jD,(∀ (s:aH) (u:aC),BindsTo s fd ⟨[u],[]⟩ [(x,u)]) /\
    ∀ base:aZ,(K w.params).In base->base.Ns eX mg->FnOk l.prog w (K w.params) mg base (CX w) k fa fd [x] (sp w))
  (qp:∀ (w:bH) (H:Hp) (a:aD) (ns:List Int),ns.length≤n->Only H->SqL (K w.params) H a (ns.map V.int)->sp w [.ref a] H (fun v _=>v=.bl ae) fun _ _ _=>False)
  (Fa:∀ (w:bH) (H:Hp) (s:aH) (e:aC) (s':aH),CX w [] H s (fun _ _ _=>False) e s'->False) :
  PySem.W.WalkO q ju XP YP l.row.toRowW d [] (fun f vs=>PySem.call f vs):=by
 refine Att.As4 hn xt fun w s₀ s₁ mg mb fa o pm cd c9 a vs ns G Y ho hd ic xu u9 ph ax hg=>?_
 have KX:=hY w _ Y;obtain⟨fd,hb,hF⟩:=F w mg fa _ KX G.T.g xu;exact Wb KX G.T.g G.T.b G.T.builtins G.T.nolimit hg u9 ph (jV ax B3) hr hF hb (fun H hO hS=>qp w H a ns ax hO hS) fun H e s'=>Fa w H s₁ e s'
def mB (s:cV):Arguments:=match s with
 |.FunctionDef _ a _ _ _ _ _ _ _ _=>a
 |_=>{ posonlyargs:=[],args:=[],vararg:=ab,kwonlyargs:=[],kw_defaults:=[],kwarg:=ab,defaults:=[] }
def lE (s:cV):List cV:=match s with
 |.FunctionDef _ _ b _ _ _ _ _ _ _=>b
 |_=>[]
def cX (s:cV):kE:=match s with
 |.FunctionDef _ _ _ _ _ _ sc _ _ _=>sc
 |_=>{ kind:=.function,names:=[],isGenerator:=af,isCoroutine:=af }
abbrev d9:qg:=fun _ _ _ _ _ _=>False
abbrev E0:XK:=fun _ _ _=>False
theorem Fb:Passes d9 X E0:=fun _ _ _ _ _ _ _ h=>h.elim
structure Fun (K:aM)(x qual:aE)(st:cV)(f:aD)(fd:jD):Prop where
 ex:∃ (oc:aC) (od:Option aD) (kV c9 pm:aC) (an:Option aD) (az ct:aC) (t0:Array (Option aC)),
  fd=lW x qual (mB st) (lE st) (cX st) .none kV c9 pm an az ct/\K.lookup f=aa ⟨oc,od,.func fd,t0⟩/\BH K az qual=ae
 kp:uO K (.ref f)=ae
section
variable {P:bS}{base:aZ}
theorem Fun.ok{fd:jD}{k:Nat}(F:Fun K x qual st f fd)(S:FnScope N ps (cX st))(len:∀ vs H Q E,sp vs H Q E->vs.length=ps.length)
  (pd:∀ (az:aC) (A:cD) (outer:List Env) (s:aH) (H:Hp) (vs:List V) (Q:VK) (E:XK),Room k (A.deeper (rC qual (cX st) s.heap.objs.size f az))->sp vs H Q E ->
   ∃ t,PSs (sX d9 P w K mg base N qual (cX st) f az A outer s H E).nox (lE st) t/\t { nx:=fun _ H'=>Q .non H',rt:=Q } (start N vs) H):FnOk P w K mg base d9 (k+1) f fd ps sp:=by
 obtain⟨oc,od,kV,c9,pm,an,az,ct,t0,rfl,lk,ic⟩:=F.ex;refine Fo lk ic S len fun A outer s H vs Q E hr qp=>?_
 obtain⟨t,h,q⟩:=pd az A outer s H vs Q E hr qp;exact⟨t,h.nox,q⟩
theorem Fun.binds{fd:jD}(F:Fun K x qual st f fd)
  (h:∀ (kV c9 pm:aC) (an:Option aD) (az ct:aC) (us:List aC),us.length=ps.length->uL (lW x qual (mB st) (lE st) (cX st) .none kV c9 pm an az ct) ⟨us,[]⟩=pure (ps.zip us)):Binds K fd ps []:=by
 obtain⟨oc,od,kV,c9,pm,an,az,ct,t0,rfl,lk,ic⟩:=F.ex;exact .all (h kV c9 pm an az ct)
theorem ZZ{oc:aC}{od an:Option aD}{t0:Array (Option aC)}{kV c9 pm az ct:aC}(l:K.lookup f=aa ⟨oc,od,.func (lW x qual (mB st) (lE st) (cX st) .none kV c9 pm an az ct),t0⟩)
  (c:BH K az qual=ae) (k:uO K (.ref f)=ae):Fun K x qual st f (lW x qual (mB st) (lE st) (cX st) .none kV c9 pm an az ct):=⟨⟨oc,od,kV,c9,pm,an,az,ct,t0,rfl,l,c⟩,k⟩
end
theorem hV{k:Nat}(hr:Room k A):A.units+40<cLine:=Ce (Nat.add_le_add_left (by decide:40≤64) _) hr.units
theorem Xv:Aet X (.builtin "len") (fun xs H Q=>∃ a ep kvs,xs=[V.ref a]/\H a=aa (.dK ep kvs)/\Q (.int kvs.length) H):=by
 rw[5];obtain⟨a,ep,kvs,rfl,ha,q⟩:=h;rw[18];exact Ff I (.inl ha) fun t s' I'=>⟨.int kvs.length,H,I',⟨t,rfl⟩,q⟩
theorem vI {A B:Prop}(h:B):if af=ae then A else B:=by
 rw[if_neg oJ];exact h
theorem vE {A B:Prop}(h:A):if ae=ae then A else B:=by
 rw[if_pos rfl];exact h
section
variable {prog:bS}{R:Result->aH->Prop}
theorem Qm {ie:bF}{scope:kE}{it ai:aC}(I:Nat->aH->Prop)
  (pc:∀ n s,I n s->aJ (aO prog w) A (iA it) (fun r s₁=>match r with
   |none=>R (.ok .next) s₁
   | some v=>aJ (aO prog w) A (NM ie it v) (fun _ s₂=>aJ (aO prog w) A (mU ie env v) (fun _ s₃=>
     aJ (aO prog w) A (forIn jd ae fun c r=>if r=ae then do let ok ← isTrue c env (cE c env);pure (oI ok) else pure (oI r)) (fun ok s₄=>
      if ok=ae then aJ (aO prog w) A (cE jo env) (fun x s₅=>
       aJ (aO prog w) A (call (.builtin "list.append") [ai,x]) (fun _ s₆=>∃ m,m<n/\I m s₆) (fun _ _=>False) s₅) (fun _ _=>False) s₄
      else ∃ m,m<n/\I m s₄) (fun _ _=>False) s₃) (fun _ _=>False) s₂) (fun _ _=>False) s₁) (fun _ _=>False) s)
  (n:Nat) (h:I n s):qB (aO prog w) A (.compLoop (.ListComp jo [⟨ie,a8,jd,0⟩] scope pos) 0 it ai env) R s:=by
 refine codeAny_loop rfl I (fun n s hI=>?_) n h
 show aJ _ A ((compTurn (.ListComp jo [⟨ie,a8,jd,0⟩] scope pos) 0 it ai env).onRaise (fun x=>do noteFrame x env;theTreesLotGoes x)) _ _ s
 refine wpAny_noted ?_;rw[compTurn_list];refine aF (wpAny_standAt (aF (mD (pc n s hI) (fun r s₁ h₁=>?_) fun _ _ h'=>h'.elim)))
 cases r with
 |none=>exact aQ h₁
 |some v=>
  refine aF (mD h₁ (fun _ s₂ h₂=>?_) fun _ _ h'=>h'.elim)
  refine aF (mD h₂ (fun _ s₃ h₃=>aF (mD h₃ (fun ok s₄ h₄=>?_) fun _ _ h'=>h'.elim)) fun _ _ h'=>h'.elim)
  cases ok with
  |false=>exact aQ ⟨rfl,h₄⟩
  |true=>
   exact aF (aF (mD h₄ (fun x s₅ h₅=>aF (mD h₅ (fun _ s₆ h₆=>aQ (aQ ⟨rfl,h₆⟩)) fun _ _ h'=>h'.elim)) fun _ _ h'=>h'.elim))
end
theorem cellOf_eq{n:aE}{c:aD}(h:env.cells.lookup n=aa c):cellOf env n=pure c:=by
 unfold cellOf;rw[h]
def gV (env:Env):List (aE×oE)->List (aE×aD)->List (aE×aD)
 |[],cs=>cs
 |(n,k)::r,cs=>gV env r (if (k==iP)=ae then(match env.cells.lookup n with|some c=>(n,c)::cs|none=>cs) else cs)
theorem YR(h:∀ n,(n,iP)∈sc.names->∃ c,env.cells.lookup n=aa c):closureFor sc env=pure (gV env sc.names []):=by
 unfold closureFor;generalize sc.names=l at h;have go:∀ (l:List (aE×oE)) (cs:List (aE×aD)),(∀ n,(n,iP)∈l->∃ c,env.cells.lookup n=aa c) ->
   (forIn l cs (fun(x:aE×oE) (r:List (aE×aD))=>if (x.2==iP)=ae then(do let c ← cellOf env x.1;pure (oI ((x.1,c)::r))) else pure (oI r)):fV (List (aE×aD)))=pure (gV env l cs):=by
  intro l;induction l with
  |nil=>intro cs _;rfl
  |cons p r ih=>
   intro cs hl;obtain⟨n,k⟩:=p;rw[HJ];have hr:∀ n,(n,iP)∈r->∃ c,env.cells.lookup n=aa c:=fun n hn=>hl n (cS _ hn)
   cases hk:(k==iP) with
   |true=>
    have ek:k=iP:=by simpa using hk
    subst ek;obtain⟨c,hc⟩:=hl n cF;have e1:gV env ((n,iP)::r) cs=gV env r ((n,c)::cs):=by
     show gV env r (if (iP==iP)=ae then(match env.cells.lookup n with|some c=>(n,c)::cs|none=>cs) else cs)=_
     rw[hc];rfl
    rw[e1];simp only[cellOf_eq hc,hk,if_true];exact ih ((n,c)::cs) hr
   |false=>
    have e1:gV env ((n,k)::r) cs=gV env r cs:=by
     show gV env r (if (k==iP)=ae then(match env.cells.lookup n with|some c=>(n,c)::cs|none=>cs) else cs)=_
     rw[hk];rfl
    rw[e1];simp only[hk,fA,if_false];exact ih cs hr
 have e:=go l [] h;simp only[e]
 rfl
theorem LZ:∀ (l:List (aE×oE)) (cs:List (aE×aD)),(∀ x c,cs.lookup x=aa c->env.cells.lookup x=aa c)->∀ x c,(gV env l cs).lookup x=aa c->env.cells.lookup x=aa c
 |[],cs,h,x,c,e=>h x c e
 |(n,k)::r,cs,h,x,c,e=>by
  refine LZ r _ ?_ x c e;intro y d q;by_cases hk:(k==iP)=ae
  ·rw[if_pos hk] at q;cases hc:env.cells.lookup n with
   |none=>rw[hc] at q;exact h y d q
   |some a=>
    rw[hc] at q;by_cases hy:(y==n)=ae
    ·simp only[pH,hy] at q;have:y=n:=by simpa using hy
     rw[this,hc];exact q
    ·have oa:(y==n)=af:=by simpa using hy
     simp only[pH,oa] at q;exact h y d q
  ·rw[if_neg hk] at q;exact h y d q
theorem YN{c:aD}(hx:env.cells.lookup x=aa c):∀ (l:List (aE×oE)) (cs:List (aE×aD)),cs.lookup x=aa c->(gV env l cs).lookup x=aa c
 |[],cs,h=>h
 |(n,k)::r,cs,h=>by
  refine YN hx r _ ?_;by_cases hk:(k==iP)=ae
  ·rw[if_pos hk];cases hc:env.cells.lookup n with
   |none=>exact h
   |some a=>
    show HE x ((n,a)::cs)=aa c;by_cases hy:(x==n)=ae
    ·have:x=n:=by simpa using hy
     rw[25];rw[hx] at hc;cases hc;simp[pH]
    ·have oa:(x==n)=af:=by simpa using hy
     simp only[pH,oa];exact h
  ·rw[if_neg hk];exact h
theorem LU{c:aD}(hx:env.cells.lookup x=aa c):∀ (l:List (aE×oE)) (cs:List (aE×aD)),(x,iP)∈l->(gV env l cs).lookup x=aa c
 |[],cs,h=>by simp at h
 |(n,k)::r,cs,h=>by
  rcases eD.mp h with e|h
  ·rw[30];refine YN hx r _ ?_;rw[if_pos (by rfl),hx]
   simp[pH]
  ·exact LU hx r _ h
theorem YK(x:aE):(xM sc env).names.lookup x=(sc.names.lookup x).map fun k=>if (k==iP&&env.scope.kind==.function&&env.kindOf x==aa .cell)=ae then NameKind.cell else k:=by
 unfold xM;show HE x (sc.names.map _)=_;induction sc.names with
 |nil=>rfl
 |cons p r ih=>
  obtain⟨n,k⟩:=p;show HE x ((if (k==iP&&env.scope.kind==.function&&env.kindOf n==aa .cell)=ae then(n,NameKind.cell) else(n,k))::BW _ r)=_
  by_cases hy:(x==n)=ae
  ·have:x=n:=by simpa using hy
   rw[25];by_cases hc:(k==iP&&env.scope.kind==.function&&env.kindOf x==aa .cell)=ae
   ·rw[if_pos hc];simp only[pH,hy,uR];rw[if_pos hc]
   ·rw[if_neg hc];simp only[pH,hy,uR];rw[if_neg hc]
  ·have oa:(x==n)=af:=by simpa using hy
   have e2:HE x ((n,k)::r)=HE x r:=by simp only[pH,oa]
   rw[e2];by_cases hc:(k==iP&&env.scope.kind==.function&&env.kindOf n==aa .cell)=ae
   ·rw[if_pos hc];simp only[pH,oa];exact ih
   ·rw[if_neg hc];simp only[pH,oa];exact ih
theorem lookup_mem {α:Type}{v:α}:∀ {l:List (aE×α)},l.lookup x=aa v->(x,v)∈l
 |[],h=>by simp at h
 |(n,k)::r,h=>by
  by_cases hy:(x==n)=ae
  ·have:x=n:=by simpa using hy
   rw[25];simp[pH] at h;subst h;exact cF
  ·have oa:(x==n)=af:=by simpa using hy
   simp only[pH,oa] at h;exact cS _ (lookup_mem h)
def jQ (X:Cx)(N:List aE)(sc:kE)(cl:List (aE×aD))(C:aD)(s₀:aH)(H₀:Hp)(ex:List aD):Cx:=
 { X with N:=N,s₀:=s₀,H₀:=H₀,env:=compEnvC sc cl C X.env,outer:=X.stack,ex:=ex,fn:=fun _=>af,pn:=[],xe:=fun _ _=>False }
structure CompScope (X:Cx)(N:List aE)(cap:List (Option Nat))(sc:kE):Prop where
 kind:sc.kind=.function
 nocell:∀ y∈sc.names,y.2 ≠ .cell
 nm:∀ y∈sc.names,y.2=.local->sc.names.lookup y.1=aa .local
 fre:∀ y∈sc.names,y.2=.free->X.env.scope.names.lookup y.1=aa .cell\/X.env.scope.names.lookup y.1=aa .free
 len:cap.length=N.length
 cap:∀ (i j:Nat),cap[i]?=aa (aa j)->∃ x,N[i]?=aa x/\X.N[j]?=aa x/\sc.names.lookup x=aa .free
def vF (cap:List (Option Nat))(σ:St):St:=cap.map fun o=>o.bind fun j=>(σ[j]?).join
def CL (X:Cx)(jd:List bF)(t:TT):Prop:=
 ∀ (ad:List (aD×bJ)) (s:aH) (σ:St) (H:Hp) (Q:Bool->Hp->Prop),Inv X ad σ H s->t σ H Q ->
  aJ (aO X.prog X.w) X.A (forIn jd ae fun c r=>if r=ae then do let ok ← isTrue c X.env (cE c X.env);pure (oI ok) else pure (oI r)) (TP X ad σ Q) X.xe s
def Gn:TT:=fun _ H Q=>Q ae H
theorem Kk:CL X [] Gn:=fun _ _ _ H _ I h=>wpAny_tests_nil ⟨H,I,h⟩
def PH (cap:List (Option Nat))(J:It)(g:TG)(tc:TT)(te:TE)(σ:St)(H1:Hp)(Q:VK):Prop:=∀ D,H1 D=ab ->
 ∃ W:Nat->Nat->List V->St->Hp->Prop,(∃ m,W 0 m [] (vF cap σ) (aq H1 D (.lst []))) /\
  ∀ i m ys σ' H',W i m ys σ' H'->H' D=aa (.lst ys)/\((J.stop i H'/\Q (.ref D) H') \/
   (J.go i H'/\ys.length<sizeLine/\∃ M:List V->St->Hp->Prop,(∀ zs σ2 H2,M zs σ2 H2->∃ m',m'<m/\W (i+1) m' zs σ2 H2)/\∀ x H2,J.yld i H' x H2->g x σ' H2 fun σ3 H3=>tc σ3 H3 fun b H4=>
    if b=ae then te σ3 H4 fun y H5=>H5 D=aa (.lst ys)/\M (ys++[y]) σ3 (aq H5 D (.lst (ys++[y]))) else M ys σ3 H4))
def O8 (cap:List (Option Nat))(wi:TI)(g:TG)(tc:TT)(te:TE):TE:=fun σ H Q=>wi σ H fun J H1=>PH cap J g tc te σ H1 Q
theorem CompScope.cells (S:CompScope X N cap sc)(ok:X.Ok):∀ n,(n,iP)∈sc.names->∃ c,X.env.cells.lookup n=aa c:=fun n hn=>ok.has n (S.fre _ hn rfl)
theorem Xw (S:CompScope X N cap sc){fp:List aD}(I:Inv X ad σ H s)(hf:∀ b∈fp,lL X ad H b)(hl:∀ b∈fp,b<s.heap.objs.size) :
  (jQ X N sc (gV X.env sc.names []) s.heap.objs.size s H fp).Ok:=by
 have sub:∀ x c,(gV X.env sc.names []).lookup x=aa c->X.env.cells.lookup x=aa c:=LZ sc.names [] (fun x c e=>by simp at e)
 refine⟨I.ok.mod,?_,I.ok.glob,I.ok.blt,bZ _,?_,?_,?_,I.ok.hd,I.ok.frames,.inl rfl,?_,I.bs,jV I.ok.bsz I.sz,?_,?_,I.stack,I.stkFree⟩
 ·exact S.kind
 ·intro x y c h1 h2;exact I.ok.inj x y c (sub x c h1) (sub y c h2)
 ·intro x hx;have hk:(xM sc X.env).names.lookup x=aa .cell\/(xM sc X.env).names.lookup x=aa .free:=hx;have kh:sc.names.lookup x=aa .free:=by
   rw[YK] at hk;cases e:sc.names.lookup x with
   |none=>rw[e] at hk;simp at hk
   |some k=>
    rw[e] at hk;have hm:=lookup_mem e;have nc:=S.nocell _ hm;simp only[uR,GW] at hk;by_cases hc:(k==iP&&X.env.scope.kind==.function&&X.env.kindOf x==aa .cell)=ae
    ·have:(k==iP)=ae:=by
      simp only[HS] at hc;exact hc.1.1
     rw[show k=iP by simpa using this]
    ·rw[if_neg hc] at hk;rcases hk with q|q
     ·exact absurd q nc
     ·rw[q]
  obtain⟨c,hc⟩:=S.cells I.ok x (lookup_mem kh);exact⟨c,LU hc _ _ (lookup_mem kh)⟩
 ·intro x c h1 _;exact absurd (show af=ae from h1) oJ
 ·intro b hb;refine⟨dM (hl b hb),fun x c e=>(hf b hb).2.2.2.2.1 x c (sub x c e)⟩
 ·intro b o e hb;rcases(hf b hb).2.2.2.1 with z|z
  ·exact I.ok.noex b o e z
  ·exact absurd (iL (cC e) (jV I.ok.bsz z)) (kQ _)
 ·intro b hb hz;obtain⟨_,h1,h2,_⟩:=hf b hb;rcases eD.mp (I.stkSub b hz) with e|e
  ·exact h1 e
  ·exact h2 e
theorem Wo (S:CompScope X N cap sc){fp:List aD}{h':aZ}{tk:Nat}(I:Inv X ad σ H s)(hf:∀ b∈fp,lL X ad H b)(hl:∀ b∈fp,b<s.heap.objs.size)
  (hn:h'.Ns s.heap.objs.size fun _=>ab) (hk:∀ b o,s.heap.get? b=aa o->h'.get? b=aa o) :
  Inv (jQ X N sc (gV X.env sc.names []) s.heap.objs.size s H fp) [] (vF cap σ) H { s with heap:=h',toks:=tk }:=by
 have sub:∀ x c,(gV X.env sc.names []).lookup x=aa c->X.env.cells.lookup x=aa c:=LZ sc.names [] (fun x c e=>by simp at e)
 have fr:H s.heap.objs.size=ab:=I.hok.fresh (bZ _);refine⟨Xw S I hf hl,rfl,I.bare,Un.kept hk,⟨_,hn,fun i x v e1 e2 e3=>?_⟩,fun x c e=>?_,fr,fun x c e=>I.freeC x c (sub x c e),fun p hp=>by simp[jQ] at hp,I.hok.kept hk,?_⟩
 ·have lj:(cap.map fun o=>o.bind fun j=>(σ[j]?).join)[i]?=aa (aa v):=e2
  rw[fW] at lj;cases hc:cap[i]? with
  |none=>rw[hc] at lj;simp at lj
  |some o=>
   rw[hc] at lj;simp only[uR,GW] at lj;cases o with
   |none=>simp at lj
   |some j=>
    have lj:(σ[j]?).join=aa v:=lj;have ej:σ[j]?=aa (aa v):=by
     cases q:σ[j]? with
     |none=>rw[q] at lj;simp at lj
     |some z=>rw[q] at lj;simp at lj;rw[lj]
    obtain⟨y,n1,n2,Q1⟩:=S.cap i j hc;have W1:x=y:=iH (e1.symm.trans n1);subst W1;have hmem:=lookup_mem Q1;have nh:=S.fre _ hmem rfl;obtain⟨m,_,Q2⟩:=I.loc;obtain⟨u,r,l⟩:=Q2 j x v n2 ej (.inr nh);refine⟨u,r,.inr ⟨?_,?_⟩⟩
    ·show(xM sc X.env).names.lookup x=aa .cell\/(xM sc X.env).names.lookup x=aa .free;rw[YK,Q1];simp only[uR,GW];by_cases hc:(iP==iP&&X.env.scope.kind==.function&&X.env.kindOf x==aa .cell)=ae
     ·exact .inl (if_pos hc)
     ·exact .inr (if_neg hc)
    ·rcases l with⟨k1,_⟩|⟨_,c,F2,ng⟩
     ·exfalso;have Q3:X.env.scope.names.lookup x=aa .local:=k1;rcases nh with q|q
      ·rw[Q3] at q;cases q
      ·rw[Q3] at q;cases q
     ·obtain⟨oc,h1,h2⟩:=ng;exact⟨c,LU F2 _ _ hmem,oc,hk _ _ h1,h2⟩
 ·obtain⟨v,oc,h1,h2⟩:=I.cell x c (sub x c e);exact⟨v,oc,hk _ _ h1,h2⟩
 ·show(cap.map _).length=N.length;rw[eY,S.len]
theorem comp_back {fp:List aD}{cl:List (aE×aD)}{σ':St}{s':aH}{pl:List (aD×bJ)}(I:Inv X ad σ H s)(hf:∀ b∈fp,lL X ad H b)
  (I':Inv (jQ X N sc cl s.heap.objs.size s H fp) pl σ' H' s'):Inv X ad σ H' s':=
 I.call' I'.os (show Un (o6 X.stack) fp H H' s.heap s'.heap from I'.base) I'.hok I'.bare fun b hb=>⟨(hf b hb).2.2.2.1,(hf b hb).2.1,(hf b hb).2.2.2.2.1,(hf b hb).2.2.2.2.2⟩
section
variable {wi:TI}{g:TG}{tc:TT}{te:TE}
def Block (X:Cx)(N:List aE)(sc:kE)(tg jo:bF)(jd:List bF)(g:TG)(tc:TT)(te:TE):Prop:=
 ∀ (cl:List (aE×aD)) (C:aD) (s₀:aH) (H₀:Hp) (ex:List aD),PG (jQ X N sc cl C s₀ H₀ ex) tg g/\CL (jQ X N sc cl C s₀ H₀ ex) jd tc/\PE (jQ X N sc cl C s₀ H₀ ex) jo te
theorem QY{RR:aC->aD->Result->aH->Prop}{E:aC->aH->Prop}(hc:X.calm=ae)(S:CompScope X N cap sc)(hb:Block X N sc tg jo jd g tc te)
  {it:aD} {fp:List aD} {tn:Nat->aZ->Prop} {J:It} {Q:VK} (I:Inv X ad σ H s) (T:Turn X.prog X.w X.K tg J fp it tn) (st:tn 0 s.heap) (hf:∀ b∈fp,lL X ad H b)
  (q:PH cap J g tc te σ H Q)
  (W2:∀ (D:aD) (s₀:aH) (H₀:Hp) (σ':St) (H':Hp) (s':aH),Inv X ad σ H₀ s₀->(∀ b∈fp,lL X ad H₀ b)->Inv (jQ X N sc (gV X.env sc.names []) s₀.heap.objs.size s₀ H₀ fp) [] σ' H' s'->Q (.ref D) H' ->
   RR (.ref D) s₀.heap.objs.size (.ok .next) s') :
  aJ (aO X.prog X.w) X.A (newList []) (fun ai s₃=>aJ (aO X.prog X.w) X.A (newFunctionEnv sc X.env.globals (gV X.env sc.names []) [] X.env.qual ab .none (aa X.env)) (fun xz s₄=>
   qB (aO X.prog X.w) X.A (.compStart (.ListComp jo [⟨tg,a8,jd,0⟩] sc pos) 0 (.ref it) ai { xz with scope:=xM sc X.env }) (RR ai xz.locals) s₄) E s₃) E s:=by
 have hl:∀ b∈fp,b<s.heap.objs.size:=fun b hb=>by
  obtain⟨o,e,_⟩:=T.obj 0 _ st b hb;exact cC e
 refine mC (wpAny_newFunctionEnv S.nocell (by intro y hy;simp at hy) (fun h₁ l7 l8=>?_) S.kind)
 dsimp only at l7 l8 ⊢;have I0:Inv X ad σ (aq H s.heap.objs.size (.lst [])) { s with heap:=s.heap.push { cls:=.type "list",data:=.seq ([]:List aC).toArray },toks:=s.toks }:=I.lnew (ys:=[]) .nil (by simp)
 obtain⟨W,⟨m0,w0⟩,pc⟩:=q s.heap.objs.size I.fresh;generalize ww:({ s with heap:=s.heap.push { cls:=.type "list",data:=.seq ([]:List aC).toArray },toks:=s.toks }:aH)=s0 at I0;have hh:s.heap.push { cls:=.type "list",dict:=ab,data:=.seq ([]:List aC).toArray }=s0.heap:=by rw[← ww]
 have ht0:s0.toks=s.toks:=by rw[← ww]
 have hg0:s0.gens=s.gens/\s0.drawn=s.drawn/\s0.os=s.os:=by rw[← ww];exact⟨rfl,rfl,rfl⟩
 rw[hh] at l7 l8 ⊢;have xL:∀ b o,s.heap.get? b=aa o->s0.heap.get? b=aa o:=fun b o e=>by rw[← hh];exact cL _ e
 have x0:∀ b o,s0.heap.get? b=aa o->h₁.get? b=aa o:=fun b o e=>l8.extBut b o (dM (cC e)) (cL _ e)
 have W3:∀ b∈fp,b<s0.heap.objs.size:=fun b hb=>by
  obtain⟨o,e,_⟩:=T.obj 0 _ st b hb;exact cC (xL b o e)
 have F3:∀ b∈fp,lL X ad (aq H s.heap.objs.size (.lst [])) b:=fun b hb=>by
  refine⟨?_,(hf b hb).2⟩;rw[fU (dM (hl b hb))];exact(hf b hb).1
 have I1:Inv (jQ X N sc (gV X.env sc.names []) s0.heap.objs.size s0 (aq H s.heap.objs.size (.lst [])) fp) [] (vF cap σ) (aq H s.heap.objs.size (.lst [])) { s0 with heap:=h₁,toks:=s.toks+0 }:=
  Wo S I0 F3 W3 l7 x0
 obtain⟨pg,pf,pe⟩:=hb (gV X.env sc.names []) s0.heap.objs.size s0 (aq H s.heap.objs.size (.lst [])) fp;have km:tn 0 h₁:=T.keep _ _ _ st fun b hb o e=>x0 b o (xL b o e)
 have l6:∀ {H':Hp},(∀ b∈fp,H' b=ab)->∀ b∈fp,lL (jQ X N sc (gV X.env sc.names []) s0.heap.objs.size s0 (aq H s.heap.objs.size (.lst [])) fp) [] H' b:=fun hn b hb=>
  ⟨hn b hb,(I1.ok.exf b hb).1,I1.ok.exfs b hb,.inl hb,(I1.ok.exf b hb).2,fun p hp=>by simp[jQ] at hp⟩
 have ya:∀ s3:aH,s3={ s0 with heap:=h₁,toks:=s.toks+0 } ->
   qB (aO X.prog X.w) X.A (.compLoop (.ListComp jo [⟨tg,a8,jd,0⟩] sc pos) 0 (.ref it) (.ref s.heap.objs.size) (compEnvC sc (gV X.env sc.names []) s0.heap.objs.size X.env)) (RR (.ref s.heap.objs.size) s0.heap.objs.size) s3:=by
  rintro s3 rfl;refine Qm (fun n s'=>∃ i ys σ' H',Inv (jQ X N sc (gV X.env sc.names []) s0.heap.objs.size s0 (aq H s.heap.objs.size (.lst [])) fp) [] σ' H' s'/\tn i s'.heap/\(∀ b∈fp,H' b=ab)/\W i n ys σ' H') ?_ m0
   ⟨0,[],vF cap σ,_,I1,km,fun b hb=>(F3 b hb).1,w0⟩
  rintro n s3 ⟨i,ys,σ3,H3,I3,j2,xo,w3⟩;obtain⟨hD,h3⟩:=pc i n ys σ3 H3 w3;rcases h3 with⟨stop,qn⟩|⟨go,ax,M,hM,step⟩
  ·refine a9 (T.done (jQ X N sc (gV X.env sc.names []) s0.heap.objs.size s0 (aq H s.heap.objs.size (.lst [])) fp) rfl rfl rfl hc i [] s3 σ3 H3 (fun _ _=>False) I3 (l6 xo) j2 stop) fun r s4 gh=>?_
   obtain⟨hr,I4⟩:=gh;subst hr;exact W2 _ s0 _ σ3 H3 s4 I0 F3 I4 qn
  ·refine a9 (T.item (jQ X N sc (gV X.env sc.names []) s0.heap.objs.size s0 (aq H s.heap.objs.size (.lst [])) fp) rfl rfl rfl hc i [] s3 σ3 H3 (fun _ _=>False) I3 (l6 xo) j2 go) fun r s4 gh=>?_
   obtain⟨u,hr,h4⟩:=gh;subst hr;refine a9 h4 fun _ s5 gh=>?_
   obtain⟨x,H5,I5,r5,y5,tw,E3⟩:=gh;have E4:=I5.pinned (l6 E3) (T.obj _ _ tw);refine a9 (pg _ s5 σ3 H5 x u _ E4 r5 (step x H5 y5)) fun _ s6 gh=>?_
   obtain⟨σ6,H6,I6,q6⟩:=gh;refine a9 (pf _ s6 σ6 H6 _ I6 q6) fun b s7 gh=>?_
   obtain⟨H7,I7,q7⟩:=gh;have again:∀ {s8:aH} {H8:Hp} {zs:List V},Inv (jQ X N sc (gV X.env sc.names []) s0.heap.objs.size s0 (aq H s.heap.objs.size (.lst [])) fp) ([]++yW fp s5.heap) σ6 H8 s8->M zs σ6 H8 ->
     ∃ m,m<n/\∃ i ys σ' H',Inv (jQ X N sc (gV X.env sc.names []) s0.heap.objs.size s0 (aq H s.heap.objs.size (.lst [])) fp) [] σ' H' s8/\tn i s8.heap/\(∀ b∈fp,H' b=ab)/\W i m ys σ' H':=fun {s8 H8 zs} I8 w8=>by
    obtain⟨m',hm,w8⟩:=hM _ _ _ w8;refine⟨m',hm,i+1,zs,σ6,H8,I8.unpinned,T.keep _ _ _ tw fun b hb o e=>(I8.pin (b,o) (qF _ (qF _ (FF hb e)))).1,fun b hb=>?_,w8⟩
    obtain⟨o,e,d⟩:=T.obj _ _ tw b hb;exact(I8.pin (b,o) (qF _ (qF _ (FF hb e)))).2.1
   cases b with
   |false=>
    rw[if_neg oJ] at q7 ⊢;exact again I7 q7
   |true=>
    rw[if_pos rfl] at q7 ⊢;refine a9 (pe _ s7 σ6 H7 _ I7 q7) fun v s8 gh=>?_
    obtain⟨y,H8,I8,r8,W4,w8⟩:=gh;refine a9 (VC _ s8 σ6 H8 (.ref s.heap.objs.size) [y] (.ref s.heap.objs.size) [v] (fun _ H9=>H9=aq H8 s.heap.objs.size (.lst (ys++[y]))) I8 rfl (.cons r8 .nil) ⟨_,ys,y,rfl,rfl,W4,ax,rfl⟩) fun _ s9 gh=>?_
    obtain⟨_,H9,I9,_,e9⟩:=gh;subst e9;exact again I9 w8
 have e3:({ s with heap:=h₁,toks:=s.toks+([]:List (aE×aC)).length }:aH)={ s0 with heap:=h₁,toks:=s.toks+0 }:=by
  rw[← ww];rfl
 have fin:=codeAny_compStart_list (ya _ rfl) (T.self X.A 0 _ _ _ km (ya _ rfl));rw[← e3] at fin;exact fin
theorem Gj (hc:X.calm=ae)(S:CompScope X N cap sc)(hi:PI X tg a8 wi)(hb:Block X N sc tg jo jd g tc te)(hs:∀ x,uJ a8 X.env x=pure x:=by intro _;rfl) :
  PE X (.ListComp jo [⟨tg,a8,jd,0⟩] sc pos) (O8 cap wi g tc te):=by
 rw[9];rw[eval_ListComp];refine wpAny_comprehension_free (use:=ab) rfl hs (YR (S.cells I.ok)) S.kind S.nm (a9 (hi ad s σ H _ I h) fun v s1 h1=>a9 h1 fun A8 s2 h2=>?_)
 obtain⟨it,fp,tn,J,H2,e,I2,T,bt,f2,q2⟩:=h2;subst e;refine QY (RR:=fun ai C=>compPost (aO X.prog X.w) X.A X.xe ab (EP X ad σ Q) ai C) hc S hb I2 T bt f2 q2 ?_
 intro D s₀ H₀ σ' H' s' I0 f0 I' qD;obtain⟨m,hn,_⟩:=id I'.loc;have IX:=comp_back I0 f0 I';refine⟨m,hn,fun h' ig=>⟨.ref D,H',?_,rfl,qD⟩⟩
 exact IX.turned (t':=s'.toks) (it:=s₀.heap.objs.size) (fun b o hb e=>(ig.2 b hb).trans e) I'.free (jU I0.lt) (.inr I0.sz) (fun x c e z=>by
  obtain⟨v,oc,h1,_⟩:=I0.cell x c e;exact absurd (cC h1) (by rw[z];exact kQ _)) fun p hp z=>by
   have h1:=(I0.pin p hp).1;exact absurd (cC h1) (by rw[z];exact kQ _)
theorem Vy(hc:X.calm=ae)(hN:X.N.Nodup)(ni:X.N[i]?=aa x)(hx:nD X.env.scope x)(S:CompScope X N cap sc)(hi:PI X tg a8 wi)(hb:Block X N sc tg jo jd g tc te)
  (pi:nY (.ListComp jo [⟨tg,a8,jd,0⟩] sc pos) (aa (.Name x px)) rn.line X.env=pure ae:=by rfl)
  (hs:∀ x,uJ a8 X.env x=pure x:=by intro _;rfl) (hf:X.fn x=ae\/X.env.scope.names.lookup x=aa .local:=by first|exact .inl rfl|exact .inr rfl|assumption) :
  PS X (.Assign [.Name x px] (.ListComp jo [⟨tg,a8,jd,0⟩] sc pos) rn) (IC (O8 cap wi g tc te) (GB i)):=by
 rw[27];rw[exec_Assign_Name_used _ _ _ _ pi];refine aF (wpAny_standAt (aF ?_));show aJ _ X.A (do let _ ← comprehension (.ListComp jo [⟨tg,a8,jd,0⟩] sc pos) sc X.env _ (newList []) af (cE a8 X.env) (aa (mU (.Name x px) X.env))) _ _ s
 refine aF (mD (wpAny_comprehension_free (use:=aa (mU (.Name x px) X.env)) (Q:=fun _ s'=>SP X ad D .next s') rfl hs (YR (S.cells I.ok)) S.kind S.nm
  (a9 (hi ad s σ H _ I h) fun v s1 h1=>a9 h1 fun A8 s2 h2=>?_)) (fun _ s' hq=>aQ (aQ hq)) fun _ _ e=>e)
 obtain⟨it,fp,tn,J,H2,e,I2,T,bt,f2,q2⟩:=h2;subst e;refine QY (Q:=fun y H1=>GB i y σ H1 D.nx) (RR:=fun ai C=>compPost (aO X.prog X.w) X.A X.xe (aa (mU (.Name x px) X.env)) (fun _ s'=>SP X ad D .next s') ai C) hc S hb I2 T bt f2 q2 ?_
 intro D' s₀ H₀ σ' H' s' I0 f0 I' qD;obtain⟨m,hn,_⟩:=id I'.loc;have IX:=comp_back I0 f0 I';have pj:∀ x c,X.env.cells.lookup x=aa c->c≠s₀.heap.objs.size:=fun x c e z=>by
  obtain⟨v,oc,h1,_⟩:=I0.cell x c e;exact absurd (cC h1) (by rw[z];exact kQ _)
 show aJ _ X.A (mU (.Name x px) X.env (.ref D')) _ _ _;refine wpAny_assign_Name (VB IX hN ni hx (show RelV (.ref D') (.ref D') from rfl) (fun s3 I3 ch=>?_) hf)
 obtain⟨a,sb,ha⟩:=ch;have cf:s₀.heap.objs.size≠a:=by
  rcases ha with z|z
  ·rw[z];exact jU I0.lt
  ·exact fun q=>pj x a z q.symm
 refine⟨m,Heap.Ns.sameBut hn sb cf,fun h' ig=>⟨_,H',?_,qD⟩⟩
 exact I3.turned (t':=s3.toks) (it:=s₀.heap.objs.size) (fun b o hb e=>(ig.2 b hb).trans e) I'.free (jU I0.lt) (.inr I0.sz) pj fun p hp z=>by
  have h1:=(I0.pin p hp).1;exact absurd (cC h1) (by rw[z];exact kQ _)
end
def RM (out:List (aE×oE))(XN N:List aE)(cap:List (Option Nat))(ns:List (aE×oE)):Bool:=
 ns.all (fun y=>y.2 != .cell)&&ns.all (fun y=>y.2 != .local||ns.lookup y.1==aa .local)&&ns.all (fun y=>y.2 != .free||out.lookup y.1==aa .cell||out.lookup y.1==aa .free) &&
 cap.length==N.length&&(cap.zip N).all (fun p=>match p.1 with|none=>ae|some j=>XN[j]?==aa p.2&&ns.lookup p.2==aa .free)
theorem nV{out:List (aE×oE)}{XN:List aE}(h1:X.env.scope.names=out)(h2:X.N=XN)(F4:RM out XN N cap sc.names=ae)(hk:sc.kind=.function):CompScope X N cap sc:=by
 unfold RM at F4;simp only[HS,gQ,bne_iff_ne,ne_eq,Bool.or_eq_true,beq_iff_eq] at F4;obtain⟨⟨⟨⟨c1,c2⟩,c3⟩,c4⟩,c5⟩:=F4;refine⟨hk,c1,fun y hy e=>?_,fun y hy e=>?_,c4,fun i j e=>?_⟩
 ·rcases c2 y hy with q|q
  ·exact absurd e q
  ·exact q
 ·rw[h1];rcases c3 y hy with(q|q)|q
  ·exact absurd e q
  ·exact .inl q
  ·exact .inr q
 ·have hi:i<cap.length:=(dD.mp e).1;have ni:i<N.length:=by omega
  have hm:(cap[i],N[i])∈cap.zip N:=by
   have:(cap.zip N)[i]?=aa (cap[i],N[i]):=by
    rw[List.getElem?_zip_eq_some];exact⟨eW hi,eW ni⟩
   exact gL this
  have q:=c5 _ hm;have ec:cap[i]=aa j:=by
   rw[eW hi] at e;exact iH e
  rw[ec] at q;simp only[HS,beq_iff_eq] at q;exact⟨N[i],eW ni,by rw[h2];exact q.1,q.2⟩
abbrev Ext (H H':Hp):Prop:=∀ b o,H b=aa o->H' b=aa o
theorem Ext.refl:Ext H H:=fun _ _ e=>e
theorem Ext.trans {H2:Hp}(a:Ext H H1)(b:Ext H1 H2):Ext H H2:=fun x o e=>b x o (a x o e)
theorem Ext.new{p:aD}(n:H p=ab):Ext H (aq H p o):=fun b u e=>by
 rw[fU (mQ e n)];exact e
theorem Ext.rd(x:Ext H H'){u:HO}(r:Rd H a u):Rd H' a u:=by
 rcases r with r|⟨o,r⟩
 ·exact .inl (x _ _ r)
 ·exact .inr ⟨o,x _ _ r⟩
theorem Ext.sqL(x:Ext H H')(h:SqL K H a xs):SqL K H' a xs:=h.imp x.rd id
theorem Ext.none(x:Ext H H')(h:H' a=Option.none):H a=Option.none:=by
 cases e:H a with
 |none=>rfl
 |some o=>rw[x a o e] at h;cases h
open Classical in
def hid (H:Hp)(P:aD->Prop):Hp:=fun a=>if P a then ab else H a
theorem Afg:hid H P a=aa o ↔ ¬ P a/\H a=aa o:=by
 unfold hid;by_cases h:P a<;>simp[h]
theorem lO(n:¬ P a)(e:H a=aa o):hid H P a=aa o:=Afg.mpr ⟨n,e⟩
theorem Aaz:Ext (hid H P) H:=fun _ _ e=>(Afg.mp e).2
theorem fD(x:Ext H H'):Ext (hid H P) (hid H' P):=fun b o e=>by
 obtain⟨n,e⟩:=Afg.mp e;exact lO n (x b o e)
theorem lT{P':aD->Prop}(s:∀ a,P' a->P a):Ext (hid H P) (hid H P'):=fun b o e=>by
 obtain⟨n,e⟩:=Afg.mp e;exact lO (fun q=>n (s b q)) e
abbrev DQ:=(Nat×List (aP×V)) ⊕ List (List aA×V)
def dO:DQ->HO
 |.inl kvs=>.dK kvs.1 kvs.2
 |.inr ts=>.dT ts
def Hid (P:aD->Prop)(H:Hp):Prop:=∀ a,P a->(∃ xs,H a=aa (.lst xs))\/∃ q:DQ,H a=aa (dO q)
theorem Hid.ext(h:Hid P H)(x:Ext H H'):Hid P H':=fun a p=>(h a p).imp (fun⟨xs,e⟩=>⟨xs,x _ _ e⟩) fun⟨xs,e⟩=>⟨xs,x _ _ e⟩
theorem Hid.new(h:Hid P H)(n:H a=ab):¬ P a:=fun p=>by
 rcases h a p with⟨xs,e⟩|⟨xs,e⟩<;>rw[n] at e<;>cases e
abbrev iq (P:aD->Prop)(F:List aD):aD->Prop:=fun a=>P a\/a∈F
theorem Ag:iq P []=P:=by
 funext a;simp[iq]
def kD:aP->aA
 |.inl i=>.int i
 |.inr x=>.str x
def PU (a:aD)(kvs:List (V×V)):HO:=.ext fun h=>kvs.length≤sizeLine/\∃ o es ep,h.get? a=aa o/\o.ExactDict/\o.data=.dict es ep/\fE (fun(p:V×V) (e:rJ)=>RelV p.1 e.key/\RelV p.2 e.val) kvs es.toList
mutual
def Abz (K:aM)(H:Hp):aA->V->Prop
 |.none,v=>v=.non
 |.bool b,v=>v=.bl b
 |.int i,v=>v=.int i
 |.str x,v=>v=.str x/\dS (.str x)=ae
 |.list ds,v=>∃ a xs,v=.ref a/\SqL K H a xs/\Aax K H ds xs
 |.tuple ds,v=>∃ a xs,v=.ref a/\H a=aa (.tup xs)/\Aax K H ds xs
 |.dict kds,v=>∃ a,v=.ref a/\((∃ kvs:Nat×List (aP×V),H a=aa (.dK kvs.1 kvs.2)/\Aca K H kds kvs.2)\/(∃ ts,H a=aa (.dT ts)/\Ax5 K H kds ts)\/∃ xs,H a=aa (PU a xs)/\A0i K H kds xs)
def Aax (K:aM)(H:Hp):List aA->List V->Prop
 |[],xs=>xs=[]
 |d::ds,xs=>∃ x r,xs=x::r/\Abz K H d x/\Aax K H ds r
def Aca (K:aM)(H:Hp):List (aA×aA)->List (aP×V)->Prop
 |[],xs=>xs=[]
 |(k,d)::ds,xs=>∃ k' x r,xs=(k',x)::r/\k=kD k'/\Abz K H d x/\Aca K H ds r
def Adc (K:aM)(H:Hp):List (aA×aA)->List (List aA×V)->Prop
 |[],xs=>xs=[]
 |(k,d)::ds,xs=>∃ k' x r,xs=(k',x)::r/\(k=.tuple k'/\cA k'=ae)/\Abz K H d x/\Adc K H ds r
def Ax5 (K:aM)(H:Hp):List (aA×aA)->List (List aA×V)->Prop
 |[],_=>False
 |(k,_)::ds,xs=>k=.none/\Adc K H ds xs
def A0i (K:aM)(H:Hp):List (aA×aA)->List (V×V)->Prop
 |[],_=>False
 |(k,m)::ds,xs=>k=.none/\ds=[]/\Asn K H m xs
def Asn (K:aM)(H:Hp):aA->List (V×V)->Prop
 |.list es,xs=>Ai8 K H es xs
 |_,_=>False
def Ai8 (K:aM)(H:Hp):List aA->List (V×V)->Prop
 |[],xs=>xs=[]
 |d::ds,xs=>∃ x r,xs=x::r/\Axv K H d x/\Ai8 K H ds r
def Axv (K:aM)(H:Hp):aA->V×V->Prop
 |.tuple ds,x=>Aax K H ds [x.1,x.2]
 |_,_=>False
end
def gw:List (aA×aA)->Bool
 |(.none,_)::_=>af
 |_=>ae
theorem Acj:Abz K H .none v↔v=.non:=by simp[Abz]
theorem Aa3 {b:Bool}:Abz K H (.bool b) v↔v=.bl b:=by simp[Abz]
theorem Aau {b:Int}:Abz K H (.int b) v↔v=.int b:=by simp[Abz]
theorem Aa2 {b:aE}:Abz K H (.str b) v↔v=.str b/\dS (.str b)=ae:=by simp only[Abz]
theorem Abg:Abz K H (.list ds) v ↔ ∃ a xs,v=.ref a/\SqL K H a xs/\Aax K H ds xs:=by simp only[Abz]
theorem Aa5:Abz K H (.tuple ds) v ↔ ∃ a xs,v=.ref a/\H a=aa (.tup xs)/\Aax K H ds xs:=by simp only[Abz]
theorem Adt {ds:List (aA×aA)}:Abz K H (.dict ds) v ↔ ∃ a,v=.ref a/\((∃ kvs:Nat×List (aP×V),H a=aa (.dK kvs.1 kvs.2)/\Aca K H ds kvs.2)\/(∃ ts,H a=aa (.dT ts)/\Ax5 K H ds ts)\/∃ xs,H a=aa (PU a xs)/\A0i K H ds xs):=by simp only[Abz]
theorem Ahs {k:aA}{ds:List (aA×aA)}{xs:List (V×V)}:A0i K H ((k,m)::ds) xs↔k=.none/\ds=[]/\Asn K H m xs:=by simp only[A0i]
theorem Nr{xs:List (V×V)}(h:Asn K H m xs):∃ es,m=.list es/\Ai8 K H es xs:=by
 cases m with
 |list es=>exact⟨es,rfl,by simpa only[Asn] using h⟩
 |_=>simp[Asn] at h
theorem Av7 {xs:List (V×V)}:Ai8 K H [] xs↔xs=[]:=by simp[Ai8]
theorem Aq6{xs:List (V×V)}:Ai8 K H (d::ds) xs ↔ ∃ x r,xs=x::r/\Axv K H d x/\Ai8 K H ds r:=by simp only[Ai8]
theorem KZ {ds:List (aA×aA)}{xs:List (V×V)}(h:A0i K H ds xs):∃ es,ds=[(.none,.list es)]/\Ai8 K H es xs:=by
 cases ds with
 |nil=>simp[A0i] at h
 |cons p r=>
  obtain⟨k,m⟩:=p;obtain⟨rfl,rfl,h1⟩:=Ahs.mp h;obtain⟨es,rfl,h2⟩:=Nr h1;exact⟨es,rfl,h2⟩
theorem Aei {xs:List (List aA×V)}:Adc K H [] xs↔xs=[]:=by simp[Adc]
theorem Aco {k:aA}{ds:List (aA×aA)}{xs:List (List aA×V)}:Adc K H ((k,d)::ds) xs ↔ ∃ k' x r,xs=(k',x)::r/\(k=.tuple k'/\cA k'=ae)/\Abz K H d x/\Adc K H ds r:=by simp only[Adc]
theorem Af7 {k:aA}{ds:List (aA×aA)}{xs:List (List aA×V)}:Ax5 K H ((k,m)::ds) xs↔k=.none/\Adc K H ds xs:=by simp only[Ax5]
theorem Vn {ds:List (aA×aA)}{xs:List (List aA×V)}(hk:gw ds=ae):¬ Ax5 K H ds xs:=by
 cases ds with
 |nil=>simp[Ax5]
 |cons p r=>
  obtain⟨k,d⟩:=p;intro h;rw[(Af7.mp h).1] at hk;simp[gw] at hk
theorem rX {ds:List (aA×aA)}(hk:gw ds=ae):Abz K H (.dict ds) v ↔ ∃ a,∃ kvs:Nat×List (aP×V),v=.ref a/\H a=aa (.dK kvs.1 kvs.2)/\Aca K H ds kvs.2:=by
 rw[Adt];constructor
 ·rintro⟨a,e,⟨kvs,h,r⟩|⟨ts,h,r⟩|⟨xs,h,r⟩⟩
  ·exact⟨a,kvs,e,h,r⟩
  ·exact absurd r (Vn hk)
  ·obtain⟨es,rfl,_⟩:=KZ r;simp[gw] at hk
 ·rintro⟨a,kvs,e,h,r⟩;exact⟨a,e,.inl ⟨kvs,h,r⟩⟩
theorem Mw {ds:List (aA×aA)}{kvs:Nat×List (aP×V)}(e:v=.ref a)(h:H a=aa (.dK kvs.1 kvs.2))(r:Aca K H ds kvs.2):Abz K H (.dict ds) v:=Adt.mpr ⟨a,e,.inl ⟨kvs,h,r⟩⟩
theorem Aat:Aax K H [] xs↔xs=[]:=by simp[Aax]
theorem Aal:Aax K H (d::ds) xs ↔ ∃ x r,xs=x::r/\Abz K H d x/\Aax K H ds r:=by simp only[Aax]
theorem Acf {xs:List (aP×V)}:Aca K H [] xs↔xs=[]:=by simp[Aca]
theorem Abf {k:aA}{ds:List (aA×aA)}{xs:List (aP×V)}:Aca K H ((k,d)::ds) xs ↔ ∃ k' x r,xs=(k',x)::r/\k=kD k'/\Abz K H d x/\Aca K H ds r:=by simp only[Aca]
theorem LD{ds:List (aA×aA)}(hm:∀ es,m ≠ .list es:=by intro _ z;cases z):Abz K H (.dict ((.none,m)::ds)) v ↔ ∃ a ts,v=.ref a/\H a=aa (.dT ts)/\Adc K H ds ts:=by
 rw[Adt];constructor
 ·rintro⟨a,e,⟨kvs,h,r⟩|⟨ts,h,r⟩|⟨xs,h,r⟩⟩
  ·obtain⟨k',_,_,_,ek,_⟩:=Abf.mp r;cases k'<;>simp[kD] at ek
  ·exact⟨a,ts,e,h,(Af7.mp r).2⟩
  ·obtain⟨es,z,_⟩:=KZ r;cases z;exact absurd rfl (hm es)
 ·rintro⟨a,ts,e,h,r⟩;exact⟨a,e,.inr (.inl ⟨ts,h,Af7.mpr ⟨rfl,r⟩⟩)⟩
mutual
theorem Abz.ext(x:Ext H H'):∀ {d:aA} {v:V},Abz K H d v->Abz K H' d v
 |.none,_,h=>Acj.mpr (Acj.mp h)
 |.bool _,_,h=>Aa3.mpr (Aa3.mp h)
 |.int _,_,h=>Aau.mpr (Aau.mp h)
 |.str _,_,h=>Aa2.mpr (Aa2.mp h)
 |.list ds,_,h=>by
  obtain⟨a,xs,e,s,r⟩:=Abg.mp h;exact Abg.mpr ⟨a,xs,e,x.sqL s,Aax.ext x r⟩
 |.tuple ds,_,h=>by
  obtain⟨a,xs,e,s,r⟩:=Aa5.mp h;exact Aa5.mpr ⟨a,xs,e,x _ _ s,Aax.ext x r⟩
 |.dict ds,_,h=>by
  obtain⟨a,e,⟨kvs,r,q⟩|⟨ts,r,q⟩|⟨xs,r,q⟩⟩:=Adt.mp h
  ·exact Adt.mpr ⟨a,e,.inl ⟨kvs,x _ _ r,Aca.ext x q⟩⟩
  ·exact Adt.mpr ⟨a,e,.inr (.inl ⟨ts,x _ _ r,Ax5.ext x q⟩)⟩
  ·exact Adt.mpr ⟨a,e,.inr (.inr ⟨xs,x _ _ r,A0i.ext x q⟩)⟩
theorem Aax.ext(x:Ext H H'):∀ {ds:List aA} {vs:List V},Aax K H ds vs->Aax K H' ds vs
 |[],_,h=>Aat.mpr (Aat.mp h)
 |d::ds,_,h=>by
  obtain⟨y,r,e,h1,h2⟩:=Aal.mp h;exact Aal.mpr ⟨y,r,e,Abz.ext x h1,Aax.ext x h2⟩
theorem Aca.ext(x:Ext H H'):∀ {ds:List (aA×aA)} {vs:List (aP×V)},Aca K H ds vs->Aca K H' ds vs
 |[],_,h=>Acf.mpr (Acf.mp h)
 |(k,d)::ds,_,h=>by
  obtain⟨k',y,r,e,ek,h1,h2⟩:=Abf.mp h;exact Abf.mpr ⟨k',y,r,e,ek,Abz.ext x h1,Aca.ext x h2⟩
theorem Adc.ext(x:Ext H H'):∀ {ds:List (aA×aA)} {vs:List (List aA×V)},Adc K H ds vs->Adc K H' ds vs
 |[],_,h=>Aei.mpr (Aei.mp h)
 |(k,d)::ds,_,h=>by
  obtain⟨k',y,r,e,ek,h1,h2⟩:=Aco.mp h;exact Aco.mpr ⟨k',y,r,e,ek,Abz.ext x h1,Adc.ext x h2⟩
theorem Ax5.ext(x:Ext H H'):∀ {ds:List (aA×aA)} {vs:List (List aA×V)},Ax5 K H ds vs->Ax5 K H' ds vs
 |[],_,h=>absurd h (by simp[Ax5])
 |(k,d)::ds,_,h=>Af7.mpr ⟨(Af7.mp h).1,Adc.ext x (Af7.mp h).2⟩
theorem A0i.ext(x:Ext H H'):∀ {ds:List (aA×aA)} {vs:List (V×V)},A0i K H ds vs->A0i K H' ds vs
 |[],_,h=>absurd h (by simp[A0i])
 |(k,d)::ds,_,h=>Ahs.mpr ⟨(Ahs.mp h).1,(Ahs.mp h).2.1,Asn.ext x (Ahs.mp h).2.2⟩
theorem Asn.ext(x:Ext H H'):∀ {d:aA} {vs:List (V×V)},Asn K H d vs->Asn K H' d vs
 |.list es,_,h=>by
  rw[Asn] at h ⊢;exact Ai8.ext x h
 |.none,_,h=>absurd h (by simp[Asn])
 |.bool _,_,h=>absurd h (by simp[Asn])
 |.int _,_,h=>absurd h (by simp[Asn])
 |.str _,_,h=>absurd h (by simp[Asn])
 |.tuple _,_,h=>absurd h (by simp[Asn])
 |.dict _,_,h=>absurd h (by simp[Asn])
theorem Ai8.ext(x:Ext H H'):∀ {ds:List aA} {vs:List (V×V)},Ai8 K H ds vs->Ai8 K H' ds vs
 |[],_,h=>Av7.mpr (Av7.mp h)
 |d::ds,_,h=>by
  obtain⟨y,r,e,h1,h2⟩:=Aq6.mp h;exact Aq6.mpr ⟨y,r,e,Axv.ext x h1,Ai8.ext x h2⟩
theorem Axv.ext(x:Ext H H'):∀ {d:aA} {y:V×V},Axv K H d y->Axv K H' d y
 |.tuple ds,_,h=>by
  rw[Axv] at h ⊢;exact Aax.ext x h
 |.none,_,h=>absurd h (by simp[Axv])
 |.bool _,_,h=>absurd h (by simp[Axv])
 |.int _,_,h=>absurd h (by simp[Axv])
 |.str _,_,h=>absurd h (by simp[Axv])
 |.list _,_,h=>absurd h (by simp[Axv])
 |.dict _,_,h=>absurd h (by simp[Axv])
end
theorem Aax.length:∀ {ds:List aA} {vs:List V},Aax K H ds vs->vs.length=ds.length
 |[],_,h=>by rw[Aat.mp h];rfl
 |d::ds,_,h=>by
  obtain⟨y,r,e,h1,h2⟩:=Aal.mp h;rw[e,iB,iB,Aax.length h2]
theorem Aax.get:∀ {ds:List aA} {vs:List V} {i:Nat} {d:aA},Aax K H ds vs->ds[i]?=aa d->∃ v,vs[i]?=aa v/\Abz K H d v
 |[],_,_,_,h,e=>by simp at e
 |d::ds,_,0,d',h,e=>by
  obtain⟨y,r,rfl,h1,h2⟩:=Aal.mp h;have:d=d':=by simpa using e
  rw[25];exact⟨y,rfl,h1⟩
 |d::ds,_,i+1,d',h,e=>by
  obtain⟨y,r,rfl,h1,h2⟩:=Aal.mp h;obtain⟨v,h3,h4⟩:=Aax.get (i:=i) h2 (by simpa using e)
  exact⟨v,by simpa using h3,h4⟩
theorem Aax.append:∀ {ds es:List aA} {vs ws:List V},Aax K H ds vs->Aax K H es ws->Aax K H (ds++es) (vs++ws)
 |[],es,_,_,h,g=>by rw[Aat.mp h];exact g
 |d::ds,es,_,_,h,g=>by
  obtain⟨y,r,rfl,h1,h2⟩:=Aal.mp h;exact Aal.mpr ⟨y,_,rfl,h1,Aax.append h2 g⟩
theorem Aax.snoc{vs:List V}(h:Aax K H ds vs)(g:Abz K H d v):Aax K H (ds++[d]) (vs++[v]):=
 h.append (Aal.mpr ⟨v,[],rfl,g,Aat.mpr rfl⟩)
theorem Aax.drop:∀ {ds:List aA} {vs:List V} (n:Nat),Aax K H ds vs->Aax K H (ds.drop n) (vs.drop n)
 |_,_,0,h=>h
 |[],_,n+1,h=>by rw[Aat.mp h];exact Aat.mpr rfl
 |d::ds,_,n+1,h=>by
  obtain⟨y,r,rfl,h1,h2⟩:=Aal.mp h;exact Aax.drop n h2
theorem Aax.take:∀ {ds:List aA} {vs:List V} (n:Nat),Aax K H ds vs->Aax K H (ds.take n) (vs.take n)
 |_,_,0,h=>Aat.mpr rfl
 |[],_,n+1,h=>by rw[Aat.mp h];exact Aat.mpr rfl
 |d::ds,_,n+1,h=>by
  obtain⟨y,r,rfl,h1,h2⟩:=Aal.mp h;exact Aal.mpr ⟨y,_,rfl,h1,Aax.take n h2⟩
theorem Aax.set(g:Abz K H d v):∀ {ds:List aA} {vs:List V} (n:Nat),Aax K H ds vs->Aax K H (ds.set n d) (vs.set n v)
 |[],_,n,h=>by rw[Aat.mp h];exact Aat.mpr rfl
 |e::ds,_,0,h=>by
  obtain⟨y,r,rfl,h1,h2⟩:=Aal.mp h;exact Aal.mpr ⟨v,r,rfl,g,h2⟩
 |e::ds,_,n+1,h=>by
  obtain⟨y,r,rfl,h1,h2⟩:=Aal.mp h;exact Aal.mpr ⟨y,_,rfl,h1,Aax.set g n h2⟩
theorem VF:∀ ns:List Int,Aax K H (ns.map aR) (ns.map V.int)
 |[]=>Aat.mpr rfl
 |n::r=>Aal.mpr ⟨_,_,rfl,Aau.mpr rfl,VF r⟩
theorem Qe(h:Abz K H (kD k) v):v=kV k:=by
 cases k with
 |inl i=>exact Aau.mp h
 |inr x=>exact(Aa2.mp h).1
mutual
theorem Abz.key {K:aM}{H:Hp}:∀ (d:aA) {v:V},bO d=ae->Abz K H d v->Aks H d v
 |.int i,v,_,h=>by simpa [Aks] using Aau.mp h
 |.str i,v,_,h=>by simpa [Aks] using(Aa2.mp h).1
 |.tuple ds,v,k,h=>by
  obtain⟨a,xs,e,s,r⟩:=Aa5.mp h;simp only[Aks];exact⟨a,xs,e,s,Aax.keys ds (by simpa [bO] using k) r⟩
 |.none,v,k,_=>by simp[bO] at k
 |.bool _,v,k,_=>by simp[bO] at k
 |.list _,v,k,_=>by simp[bO] at k
 |.dict _,v,k,_=>by simp[bO] at k
theorem Aax.keys {K:aM}{H:Hp}:∀ (ds:List aA) {vs:List V},cA ds=ae->Aax K H ds vs->Aib H ds vs
 |[],vs,_,h=>by simpa [Aib] using Aat.mp h
 |d::ds,vs,k,h=>by
  have k':bO d=ae/\cA ds=ae:=by simpa [cA] using k
  obtain⟨y,r,e,h1,h2⟩:=Aal.mp h;simp only[Aib];exact⟨y,r,e,Abz.key d k'.1 h1,Aax.keys ds k'.2 h2⟩
end
mutual
def cT:aA->Bool
 |.list _=>af
 |.dict _=>af
 |.tuple ds=>pQ ds
 |_=>ae
def pQ:List aA->Bool
 |[]=>ae
 |d::r=>cT d&&pQ r
end
mutual
theorem Abz.flat(x:∀ a xs,H a=aa (.tup xs)->H' a=aa (.tup xs)):∀ (d:aA) {v:V},cT d=ae->Abz K H d v->Abz K H' d v
 |.none,_,_,h=>Acj.mpr (Acj.mp h)
 |.bool _,_,_,h=>Aa3.mpr (Aa3.mp h)
 |.int _,_,_,h=>Aau.mpr (Aau.mp h)
 |.str _,_,_,h=>Aa2.mpr (Aa2.mp h)
 |.tuple ds,_,f,h=>by
  obtain⟨a,xs,e,s,r⟩:=Aa5.mp h;exact Aa5.mpr ⟨a,xs,e,x _ _ s,Aax.flat x ds (by simpa [cT] using f) r⟩
 |.list _,_,f,_=>by simp[cT] at f
 |.dict _,_,f,_=>by simp[cT] at f
theorem Aax.flat(x:∀ a xs,H a=aa (.tup xs)->H' a=aa (.tup xs)):∀ (ds:List aA) {vs:List V},pQ ds=ae->Aax K H ds vs->Aax K H' ds vs
 |[],_,_,h=>Aat.mpr (Aat.mp h)
 |d::ds,_,f,h=>by
  have f':cT d=ae/\pQ ds=ae:=by simpa [pQ] using f
  obtain⟨y,r,e,h1,h2⟩:=Aal.mp h;exact Aal.mpr ⟨y,r,e,Abz.flat x d f'.1 h1,Aax.flat x ds f'.2 h2⟩
end
inductive All3 {α β γ:Type}(R:α->β->γ->Prop):List α->List β->List γ->Prop
 |nil:All3 R [] [] []
 |cons {a b c as bs cs}:R a b c->All3 R as bs cs->All3 R (a::as) (b::bs) (c::cs)
theorem All3.imp {α β γ:Type}{R S:α->β->γ->Prop}:∀ {as:List α} {bs:List β} {cs:List γ},All3 R as bs cs->(∀ a b c,c∈cs->R a b c->S a b c)->All3 S as bs cs:=by
 intro as bs cs h;induction h with
 |nil=>exact fun _=>.nil
 |cons h _ ih=>exact fun f=>.cons (f _ _ _ cF h) (ih fun a b c m=>f a b c (cS _ m))
def Agk (K:aM)(B H:Hp):Nat->aA->V->List aD->Prop
 |0,d,v,F=>F=[]/\Abz K B d v
 |n+1,d,v,F=>match d with
  |.list ds=>∃ p xs Fs,v=.ref p/\H p=aa (.lst xs)/\F=p::Fs.flatten/\All3 (Agk K B H n) ds xs Fs
  |.dict kds=>∃ p,∃ kvs:Nat×List (aP×V),∃ Fs,v=.ref p/\H p=aa (.dK kvs.1 kvs.2)/\F=p::Fs.flatten/\All3 (fun(kd:aA×aA) (kv:aP×V) f=>kd.1=kD kv.1/\Agk K B H n kd.2 kv.2 f) kds kvs.2 Fs
  |.tuple ds=>(n=0/\F=[]/\Abz K B (.tuple ds) v)\/(n≠0/\∃ p xs Fs,v=.ref p/\B p=aa (.tup xs)/\F=Fs.flatten/\All3 (Agk K B H n) ds xs Fs)
  |d=>F=[]/\Abz K B d v
theorem Agk.keep(xb:Ext B B'):∀ {n:Nat} {d:aA} {v:V} {F:List aD},(∀ a∈F,H' a=H a)->Agk K B H n d v F->Agk K B' H' n d v F
 |0,d,v,F,_,h=>⟨h.1,h.2.ext xb⟩
 |n+1,.list ds,v,F,kp,h=>by
  rw[15];refine⟨p,xs,Fs,e,(kp p cF).trans hp,rfl,q.imp fun a b c m r=>Agk.keep xb (fun z hz=>kp z (cS _ (sR.mpr ⟨c,m,hz⟩))) r⟩
 |n+1,.dict kds,v,F,kp,h=>by
  rw[15];refine⟨p,xs,Fs,e,(kp p cF).trans hp,rfl,q.imp fun a b c m r=>⟨r.1,Agk.keep xb (fun z hz=>kp z (cS _ (sR.mpr ⟨c,m,hz⟩))) r.2⟩⟩
 |n+1,.none,v,F,_,h=>⟨h.1,h.2.ext xb⟩
 |n+1,.bool _,v,F,_,h=>⟨h.1,h.2.ext xb⟩
 |n+1,.int _,v,F,_,h=>⟨h.1,h.2.ext xb⟩
 |n+1,.str _,v,F,_,h=>⟨h.1,h.2.ext xb⟩
 |n+1,.tuple ds,v,F,kp,h=>by
  rcases h with⟨h0,h1,h2⟩|⟨h0,p,xs,Fs,e,hp,rfl,q⟩
  ·exact .inl ⟨h0,h1,h2.ext xb⟩
  ·exact .inr ⟨h0,p,xs,Fs,e,xb _ _ hp,rfl,q.imp fun a b c m r=>Agk.keep xb (fun z hz=>kp z (sR.mpr ⟨c,m,hz⟩)) r⟩
theorem VT{R:aA->V->List aD->Prop}(f:∀ d v F,R d v F->Abz K B d v):∀ {ds:List aA} {xs:List V} {Fs:List (List aD)},All3 R ds xs Fs->Aax K B ds xs:=by
 intro ds xs Fs h;induction h with
 |nil=>exact Aat.mpr rfl
 |cons h _ ih=>exact Aal.mpr ⟨_,_,rfl,f _ _ _ h,ih⟩
theorem Yf{R:aA×aA->aP×V->List aD->Prop}(f:∀ d v F,R d v F->d.1=kD v.1/\Abz K B d.2 v.2):∀ {ds:List (aA×aA)} {xs:List (aP×V)} {Fs:List (List aD)},All3 R ds xs Fs->Aca K B ds xs:=by
 intro ds xs Fs h;induction h with
 |nil=>exact Acf.mpr rfl
 |@cons p q F ds xs Fs h _ ih=>
  obtain⟨k,d⟩:=p;obtain⟨k',v⟩:=q;exact Abf.mpr ⟨_,_,_,rfl,(f _ _ _ h).1,(f _ _ _ h).2,ih⟩
theorem Agk.share(xb:Ext B B'):∀ {n:Nat} {d:aA} {v:V} {F:List aD},(∀ a∈F,∀ o,H a=aa o->B' a=aa o)->Agk K B H n d v F->Abz K B' d v
 |0,d,v,F,_,h=>h.2.ext xb
 |n+1,.list ds,v,F,kp,h=>by
  rw[15];refine Abg.mpr ⟨p,xs,e,SqL.of (kp p cF _ hp),?_⟩;exact VT (fun d v F r=>r) (q.imp fun a b c m r=>Agk.share xb (fun z hz=>kp z (cS _ (sR.mpr ⟨c,m,hz⟩))) r)
 |n+1,.dict kds,v,F,kp,h=>by
  rw[15];refine Mw e (kp p cF _ hp) ?_;exact Yf (R:=fun kd kv _=>kd.1=kD kv.1/\Abz K B' kd.2 kv.2) (fun d v F r=>r) (q.imp fun a b c m r=>⟨r.1,Agk.share xb (fun z hz=>kp z (cS _ (sR.mpr ⟨c,m,hz⟩))) r.2⟩)
 |n+1,.none,v,F,_,h=>h.2.ext xb
 |n+1,.bool _,v,F,_,h=>h.2.ext xb
 |n+1,.int _,v,F,_,h=>h.2.ext xb
 |n+1,.str _,v,F,_,h=>h.2.ext xb
 |n+1,.tuple ds,v,F,kp,h=>by
  rcases h with⟨h0,h1,h2⟩|⟨h0,p,xs,Fs,e,hp,rfl,q⟩
  ·exact h2.ext xb
  ·refine Aa5.mpr ⟨p,xs,e,xb _ _ hp,?_⟩;exact VT (fun d v F r=>r) (q.imp fun a b c m r=>Agk.share xb (fun z hz=>kp z (sR.mpr ⟨c,m,hz⟩)) r)
def dY:Nat->aA->Bool
 |0,d=>cT d
 |n+1,.list ds=>ds.all (dY n)
 |n+1,.dict kds=>kds.all fun kd=>dY n kd.2
 |n+2,.tuple ds=>ds.all (dY (n+1))
 |n+1,d=>cT d
theorem Agk.flat(xb:∀ a xs,B a=aa (.tup xs)->B' a=aa (.tup xs)):∀ {n:Nat} {d:aA} {v:V} {F:List aD},dY n d=ae->Agk K B H n d v F->Agk K B' H n d v F
 |0,d,v,F,f,h=>⟨h.1,h.2.flat xb d f⟩
 |n+1,.list ds,v,F,f,h=>by
  rw[15];refine⟨p,xs,Fs,e,hp,rfl,?_⟩;have f':∀ d∈ds,dY n d=ae:=by simpa [dY] using f
  clear hp f e;induction q with
  |nil=>exact .nil
  |cons h t ih=>exact .cons (Agk.flat xb (f' _ cF) h) (ih fun d m=>f' d (cS _ m))
 |n+1,.dict kds,v,F,f,h=>by
  rw[15];refine⟨p,xs,Fs,e,hp,rfl,?_⟩;have f':∀ d∈kds,dY n d.2=ae:=fun d m=>by
   have:kds.all (fun kd=>dY n kd.2)=ae:=by simpa [dY] using f
   exact gQ.mp this d m
  clear hp f e;obtain⟨xe,xs⟩:=xs;replace q:All3 _ kds xs Fs:=q;show All3 _ kds xs Fs;induction q with
  |nil=>exact .nil
  |cons h t ih=>exact .cons ⟨h.1,Agk.flat xb (f' _ cF) h.2⟩ (ih fun d m=>f' d (cS _ m))
 |n+1,.none,v,F,f,h=>⟨h.1,h.2.flat xb _ f⟩
 |n+1,.bool _,v,F,f,h=>⟨h.1,h.2.flat xb _ f⟩
 |n+1,.int _,v,F,f,h=>⟨h.1,h.2.flat xb _ f⟩
 |n+1,.str _,v,F,f,h=>⟨h.1,h.2.flat xb _ f⟩
 |1,.tuple ds,v,F,f,h=>by
  rcases h with⟨h0,h1,h2⟩|⟨h0,_⟩
  ·exact .inl ⟨h0,h1,h2.flat xb _ f⟩
  ·exact absurd rfl h0
 |n+2,.tuple ds,v,F,f,h=>by
  rcases h with⟨h0,_⟩|⟨h0,p,xs,Fs,e,hp,rfl,q⟩
  ·exact absurd h0 (by omega)
  ·refine .inr ⟨h0,p,xs,Fs,e,xb _ _ hp,rfl,?_⟩;have f':∀ d∈ds,dY (n+1) d=ae:=by simpa [dY] using f
   clear hp f e;induction q with
   |nil=>exact .nil
   |cons h t ih=>exact .cons (Agk.flat xb (f' _ cF) h) (ih fun d m=>f' d (cS _ m))
theorem All3.of {α β γ:Type}{R:α->β->γ->Prop}:∀ {as:List α} {bs:List β} {cs:List γ},All3 R as bs cs->∀ c∈cs,∃ a b,R a b c:=by
 intro as bs cs h;induction h with
 |nil=>exact fun c m=>by simp at m
 |cons h _ ih=>
  intro c m;rw[16]
  ·exact⟨_,_,h⟩
  ·exact ih c m
mutual
def wq:aA->Bool
 |.dict _=>af
 |.list ds=>vG ds
 |.tuple ds=>vG ds
 |_=>ae
def vG:List aA->Bool
 |[]=>ae
 |d::r=>wq d&&vG r
end
def kU:Nat->aA->Bool
 |0,d=>wq d
 |n+1,.list ds=>ds.all (kU n)
 |n+1,.dict kds=>kds.all fun kd=>kU n kd.2
 |_,_=>af
theorem Hq (xs:List V):∀ q,HO.lst xs≠dO q:=fun q z=>by cases q<;>cases z
theorem Hj (xs:List V):∀ q,HO.tup xs≠dO q:=fun q z=>by cases q<;>cases z
theorem Gg (o:bJ)(u:HO):∀ q,HO.frz o u≠dO q:=fun q z=>by cases q<;>cases z
def D3 (H H':Hp):Prop:=∀ a o,H a=aa o->(∀ q,o≠dO q)->H' a=aa o
mutual
theorem Abz.nd(x:D3 H H'):∀ (d:aA) {v:V},wq d=ae->Abz K H d v->Abz K H' d v
 |.none,_,_,h=>Acj.mpr (Acj.mp h)
 |.bool _,_,_,h=>Aa3.mpr (Aa3.mp h)
 |.int _,_,_,h=>Aau.mpr (Aau.mp h)
 |.str _,_,_,h=>Aa2.mpr (Aa2.mp h)
 |.tuple ds,_,f,h=>by
  obtain⟨a,xs,e,s,r⟩:=Aa5.mp h;exact Aa5.mpr ⟨a,xs,e,x _ _ s (Hj _),Aax.nd x ds (by simpa [wq] using f) r⟩
 |.list ds,_,f,h=>by
  obtain⟨a,xs,e,s,r⟩:=Abg.mp h;refine Abg.mpr ⟨a,xs,e,s.imp (fun s=>?_) id,Aax.nd x ds (by simpa [wq] using f) r⟩
  rcases s with s|⟨o,s⟩
  ·exact .inl (x _ _ s (Hq _))
  ·exact .inr ⟨o,x _ _ s (Gg _ _)⟩
 |.dict _,_,f,_=>by simp[wq] at f
theorem Aax.nd(x:D3 H H'):∀ (ds:List aA) {vs:List V},vG ds=ae->Aax K H ds vs->Aax K H' ds vs
 |[],_,_,h=>Aat.mpr (Aat.mp h)
 |d::ds,_,f,h=>by
  have f':wq d=ae/\vG ds=ae:=by simpa [vG] using f
  obtain⟨y,r,e,h1,h2⟩:=Aal.mp h;exact Aal.mpr ⟨y,r,e,Abz.nd x d f'.1 h1,Aax.nd x ds f'.2 h2⟩
end
theorem Agk.mut:∀ {n:Nat} {d:aA} {v:V} {F:List aD},Agk K B H n d v F->∀ a∈F,(∃ xs,H a=aa (.lst xs))\/∃ q:DQ,H a=aa (dO q)
 |0,d,v,F,h,a,m=>by rw[h.1] at m;simp at m
 |n+1,.list ds,v,F,h,a,m=>by
  rw[15];rcases eD.mp m with e1|m2
  ·rw[e1];exact .inl ⟨xs,hp⟩
  ·obtain⟨f,hf,ha⟩:=sR.mp m2;obtain⟨_,_,r⟩:=q.of f hf;exact Agk.mut r a ha
 |n+1,.dict kds,v,F,h,a,m=>by
  rw[15];rcases eD.mp m with e1|m2
  ·rw[e1];exact .inr ⟨.inl xs,hp⟩
  ·obtain⟨f,hf,ha⟩:=sR.mp m2;obtain⟨_,_,r⟩:=q.of f hf;exact Agk.mut r.2 a ha
 |n+1,.none,v,F,h,a,m=>by rw[h.1] at m;simp at m
 |n+1,.bool _,v,F,h,a,m=>by rw[h.1] at m;simp at m
 |n+1,.int _,v,F,h,a,m=>by rw[h.1] at m;simp at m
 |n+1,.str _,v,F,h,a,m=>by rw[h.1] at m;simp at m
 |n+1,.tuple ds,v,F,h,a,m=>by
  rcases h with⟨_,h1,_⟩|⟨h0,p,xs,Fs,e,hp,rfl,q⟩
  ·rw[h1] at m;simp at m
  ·obtain⟨f,hf,ha⟩:=sR.mp m;obtain⟨_,_,r⟩:=q.of f hf;exact Agk.mut r a ha
theorem Agk.nd(xb:D3 B B'):∀ {n:Nat} {d:aA} {v:V} {F:List aD},kU n d=ae->Agk K B H n d v F->Agk K B' H n d v F
 |0,d,v,F,f,h=>⟨h.1,h.2.nd xb d f⟩
 |n+1,.list ds,v,F,f,h=>by
  rw[15];refine⟨p,xs,Fs,e,hp,rfl,?_⟩;have f':∀ d∈ds,kU n d=ae:=by simpa [kU] using f
  clear hp f e;induction q with
  |nil=>exact .nil
  |cons h t ih=>exact .cons (Agk.nd xb (f' _ cF) h) (ih fun d m=>f' d (cS _ m))
 |n+1,.dict kds,v,F,f,h=>by
  rw[15];refine⟨p,xs,Fs,e,hp,rfl,?_⟩;have f':∀ d∈kds,kU n d.2=ae:=fun d m=>by
   have:kds.all (fun kd=>kU n kd.2)=ae:=by simpa [kU] using f
   exact gQ.mp this d m
  clear hp f e;obtain⟨xe,xs⟩:=xs;replace q:All3 _ kds xs Fs:=q;show All3 _ kds xs Fs;induction q with
  |nil=>exact .nil
  |cons h t ih=>exact .cons ⟨h.1,Agk.nd xb (f' _ cF) h.2⟩ (ih fun d m=>f' d (cS _ m))
 |n+1,.none,v,F,f,h=>by simp[kU] at f
 |n+1,.bool _,v,F,f,h=>by simp[kU] at f
 |n+1,.int _,v,F,f,h=>by simp[kU] at f
 |n+1,.str _,v,F,f,h=>by simp[kU] at f
 |n+1,.tuple ds,v,F,f,h=>by simp[kU] at f
def FY (K:aM)(B H:Hp)(d:aA)(v:V)(F:List aD):Prop:=∃ kds p ts,d=.dict ((.none,.none)::kds)/\v=.ref p/\H p=aa (.dT ts)/\F=[p]/\(∀ kd∈kds,cT kd.2=ae)/\Adc K B kds ts
def Aj2 (K:aM)(B H:Hp)(n:Nat)(d:aA)(v:V)(F:List aD):Prop:=if n=9 then(d=.none/\v=.non/\F=[])\/FY K B H d v F else Agk K B H n d v F
theorem Adc.flat(xb:∀ a xs,B a=aa (.tup xs)->B' a=aa (.tup xs)):∀ {kds:List (aA×aA)} {ts:List (List aA×V)},(∀ kd∈kds,cT kd.2=ae)->Adc K B kds ts->Adc K B' kds ts
 |[],ts,_,h=>Aei.mpr (Aei.mp h)
 |(k,d)::r,ts,f,h=>by
  obtain⟨k',x,rr,e,ek,h1,h2⟩:=Aco.mp h;exact Aco.mpr ⟨k',x,rr,e,ek,h1.flat xb _ (f (k,d) cF),Adc.flat xb (fun kd m=>f kd (cS _ m)) h2⟩
section
variable {F:List aD}
theorem Aj2.keep (xb:Ext B B')(kp:∀ a∈F,H' a=H a)(h:Aj2 K B H n d v F):Aj2 K B' H' n d v F:=by
 unfold Aj2 at h ⊢;split at h
 ·rw[if_pos ‹_›];refine h.imp id fun h=>?_
  obtain⟨kds,p,ts,e1,e2,hp,rfl,f,r⟩:=h;exact⟨kds,p,ts,e1,e2,(kp p cF).trans hp,rfl,f,r.ext xb⟩
 ·rw[if_neg ‹_›];exact Agk.keep xb kp h
theorem Aj2.share (xb:Ext B B')(kp:∀ a∈F,∀ o,H a=aa o->B' a=aa o)(h:Aj2 K B H n d v F):Abz K B' d v:=by
 unfold Aj2 at h;split at h
 ·rcases h with⟨rfl,rfl,_⟩|⟨kds,p,ts,rfl,e2,hp,rfl,f,r⟩
  ·exact Acj.mpr rfl
  exact(LD).mpr ⟨p,ts,e2,kp p cF _ hp,r.ext xb⟩
 ·exact Agk.share xb kp h
theorem Aj2.flat (xb:∀ a xs,B a=aa (.tup xs)->B' a=aa (.tup xs))(f:dY n d=ae)(h:Aj2 K B H n d v F):Aj2 K B' H n d v F:=by
 unfold Aj2 at h ⊢;split at h
 ·rw[if_pos ‹_›];refine h.imp id fun h=>?_
  obtain⟨kds,p,ts,e1,e2,hp,rfl,f,r⟩:=h;exact⟨kds,p,ts,e1,e2,hp,rfl,f,r.flat xb f⟩
 ·rw[if_neg ‹_›];exact Agk.flat xb f h
theorem Aj2.nd (xb:D3 B B')(hn:n<9)(f:kU n d=ae)(h:Aj2 K B H n d v F):Aj2 K B' H n d v F:=by
 unfold Aj2 at h ⊢;rw[if_neg (by omega)] at h ⊢
 exact Agk.nd xb f h
theorem Aj2.mut (h:Aj2 K B H n d v F):∀ a∈F,(∃ xs,H a=aa (.lst xs))\/∃ q:DQ,H a=aa (dO q):=by
 unfold Aj2 at h;split at h
 ·rcases h with⟨_,_,rfl⟩|⟨kds,p,ts,e1,e2,hp,rfl,f,r⟩
  ·exact fun a m=>by simp at m
  intro a m;rw[eB.mp m];exact .inr ⟨.inr ts,hp⟩
 ·exact Agk.mut h
end
abbrev EF:=List (Option aA)->Option aA
abbrev BF:=List (Option aA)->Option Bool
abbrev AF:=List (Option aA)->Option (List aA)
def Amw (K:aM)(B:Hp)(ρ:List (Option aA))(σ:St):Prop:=∀ (i:Nat) d,ρ[i]?=aa (aa d)->∃ v,σ[i]?=aa (aa v)/\Abz K B d v
theorem Amw.ext(h:Amw K B ρ σ)(x:Ext B B'):Amw K B' ρ σ:=fun i d e=>let ⟨v,h1,h2⟩:=h i d e;⟨v,h1,h2.ext x⟩
def Res (K:aM)(P:aD->Prop)(n:Nat)(d:aA)(H:Hp)(Q:VK):Prop:=
 ∀ v H' Fr,Ext H H'->Fr.Nodup->(∀ a∈Fr,H a=ab/\∃ o,H' a=aa o)->Aj2 K (hid H' (iq P Fr)) H' n d v Fr->Q v H'
theorem Res.zero (h:Res K P 0 d H Q)(x:Ext H H')(r:Abz K (hid H' P) d v):Q v H':=
 h v H' [] x .nil (fun a m=>by simp at m) ⟨rfl,by rw[Ag];exact r⟩
theorem gF (h:∀ v H',Ext H H'->Abz K (hid H' P) d v->Q v H'):Res K P 0 d H Q:=fun v H' Fr x _ _ r=>by
 obtain⟨rfl,r⟩:=r;rw[Ag] at r;exact h v H' x r
theorem Res.mono (h:Res K P n d H Q)(x:Ext H H'):Res K P n d H' Q:=fun v H2 Fr x2 nd fr r=>
 h v H2 Fr (x.trans x2) nd (fun a m=>⟨x.none (fr a m).1,(fr a m).2⟩) r
theorem Res.of (hP:Hid P H)(h:Res K P 0 d H Q):Res K P n d H Q:=fun v H2 Fr x2 nd fr r=>
 h.zero x2 (r.share (lT fun a p=>.inl p) fun a m o e=>lO (hP.new (fr a m).1) e)
theorem Res.lst{p:aD}(hP:Hid P H)(h:Res K P 1 (.list ds) H Q)(n:H p=ab)(r:Aax K (hid H P) ds xs):Q (.ref p) (aq H p (.lst xs)):=by
 refine h (.ref p) _ [p] (Ext.new n) (mE.mpr ⟨by simp,.nil⟩) (fun a m=>?_) ⟨p,xs,xs.map fun _=>[],rfl,jK,?_,?_⟩
 ·have:a=p:=by simpa using m
  rw[25];exact⟨n,_,jK⟩
 ·have:∀ l:List V,(l.map fun _=>([]:List aD)).flatten=[]:=fun l=>by
   induction l with
   |nil=>rfl
   |cons a l ih=>rw[eF,uX,ih];rfl
  rw[this]
 ·have xe:Ext (hid H P) (hid (aq H p (.lst xs)) (iq P [p])):=fun b o e=>by
   obtain⟨nb,e⟩:=Afg.mp e;have hb:b≠p:=mQ e n;exact lO (fun q=>q.elim nb fun m=>hb (by simpa using m)) (by rw[fU hb];exact e)
  generalize hid (aq H p (.lst xs)) (iq P [p])=B at xe;generalize aq H p (.lst xs)=H1;clear h;have go:∀ (ds:List aA) (xs:List V),Aax K (hid H P) ds xs->All3 (Agk K B H1 0) ds xs (xs.map fun _=>[]):=by
   intro ds;induction ds with
   |nil=>intro xs r;rw[Aat.mp r];exact .nil
   |cons d ds ih=>
    intro xs r;obtain⟨y,t,rfl,h1,h2⟩:=Aal.mp r;exact .cons ⟨rfl,h1.ext xe⟩ (ih t h2)
  exact go ds xs r
theorem Res.tup{p:aD}(hP:Hid P H)(h:Res K P 0 (.tuple ds) H Q)(n:H p=ab)(r:Aax K (hid H P) ds xs):Q (.ref p) (aq H p (.tup xs)):=by
 refine h.zero (Ext.new n) (Aa5.mpr ⟨p,xs,rfl,lO (hP.new n) jK,r.ext fun b o e=>?_⟩)
 obtain⟨nb,e⟩:=Afg.mp e;exact lO nb (Ext.new n _ _ e)
def tF (K:aM)(n:Nat)(f:EF):TE:=fun σ H Q=>∃ P ρ d,Hid P H/\Amw K (hid H P) ρ σ/\f ρ=aa d/\Res K P n d H Q
def wt (K:aM)(f:BF):TT:=fun σ H Q=>∃ P ρ b,Hid P H/\Amw K (hid H P) ρ σ/\f ρ=aa b/\∀ H',Ext H H'->Q b H'
def tAF (K:aM)(f:AF):TA:=fun σ H Q=>∃ P ρ ds,Hid P H/\Amw K (hid H P) ρ σ/\f ρ=aa ds/\∀ vs H',Ext H H'->Aax K (hid H' P) ds vs->Q vs H'
abbrev DF (n:Nat)(X:Cx)(e:bF)(f:EF):Prop:=PE X e (tF X.K n f)
abbrev DE (X:Cx)(e:bF)(f:EF):Prop:=PE X e (tF X.K 0 f)
abbrev DT (X:Cx)(e:bF)(f:BF):Prop:=PT X e (wt X.K f)
abbrev DW (X:Cx)(e:bF)(f:BF):Prop:=PW X e (wt X.K f)
abbrev DA (X:Cx)(es:List bF)(f:AF):Prop:=PA X es (tAF X.K f)
section
variable {a:bF}
theorem PE.imp {t t':TE}(h:PE X e t)(w:∀ σ H Q,t' σ H Q->t σ H Q):PE X e t':=fun ad s σ H Q I q=>h ad s σ H Q I (w _ _ _ q)
theorem PT.imp {t t':TT}(h:PT X e t)(w:∀ σ H Q,t' σ H Q->t σ H Q):PT X e t':=fun ad s σ H Q I q=>h ad s σ H Q I (w _ _ _ q)
theorem PW.imp {t t':TT}(h:PW X e t)(w:∀ σ H Q,t' σ H Q->t σ H Q):PW X e t':=fun gy ad s σ H Q I q=>h gy ad s σ H Q I (w _ _ _ q)
theorem PA.imp {t t':TA}(h:PA X es t)(w:∀ σ H Q,t' σ H Q->t σ H Q):PA X es t':=fun pos ad s σ H Q I q=>h pos ad s σ H Q I (w _ _ _ q)
theorem eI {f:EF}(h:DF n X e f):DE X e f:=PE.imp h fun σ H Q ⟨P,ρ,d,hP,rs,ef,k⟩=>⟨P,ρ,d,hP,rs,ef,Res.of hP k⟩
def aB (i:Nat):EF:=fun ρ=>(ρ[i]?).join
theorem VI(h:aB i ρ=aa d):ρ[i]?=aa (aa d):=by
 unfold aB at h;cases e:ρ[i]? with
 |none=>rw[e] at h;simp at h
 |some o=>rw[e] at h;simp at h;rw[h]
theorem aI (i:Nat)(hN:X.N[i]?=aa x:=by rfl)(hv:oK X.env.scope x:=by first|exact bA rfl|exact bB (bA rfl)|exact bB (bB rfl))(hd:(x==("__debug__" : aE))=af:=by decide)
  (ic:(x==("__classdict__" : aE))=af:=by decide):DE X (.Name x pos) (aB i):=PE.imp (qP hN hv hd ic) fun σ H Q gh=>by
 rw[4];obtain⟨v,h1,h2⟩:=rs i d (VI ef);exact⟨v,h1,k.zero Ext.refl h2⟩
def eC (d:aA):EF:=fun _=>aa d
theorem yM(h:PE X e (tC v))(hr:∀ H,Abz X.K H d v):DE X e (eC d):=PE.imp h fun σ H Q gh=>by
 obtain⟨P,ρ,d',hP,rs,ef,k⟩:=gh;cases ef;exact k.zero Ext.refl (hr _)
theorem aT {i j}:DE X (.Constant (.int i) j pos) (eC (.int i)):=yM Hx fun _=>Aau.mpr rfl
theorem yT {i j}:DE X (.Constant (.bool i) j pos) (eC (.bool i)):=yM Fi fun _=>Aa3.mpr rfl
theorem Ij {j}:DE X (.Constant .none j pos) (eC .none):=yM ZR fun _=>Acj.mpr rfl
theorem MW {i j}(h:dS (.str i)=ae:=by rw[0]):DE X (.Constant (.str i) j pos) (eC (.str i)):=yM Ju fun _=>Aa2.mpr ⟨rfl,h⟩
theorem Vd{i:Int}{u:aC}(hg:Gl X x)(hm:X.mg x=aa u)(r:RelV (.int i) u)(hd:(x==("__debug__" : aE))=af:=by decide):DE X (.Name x pos) (eC (.int i)):=yM (Ke hg hm r hd) fun _=>Aau.mpr rfl
def aK:AF:=fun _=>aa []
def aG (f:EF)(g:AF):AF:=fun ρ=>(f ρ).bind fun d=>(g ρ).bind fun ds=>aa (d::ds)
theorem aU:DA X [] aK:=PA.imp qQ fun σ H Q gh=>by
 rw[4];cases ef;exact k [] H Ext.refl (Aat.mpr rfl)
theorem aL {f:EF}{g:AF}(h1:DE X e f)(h2:DA X es g)(hs:cH (e::es) X.env=(af,cE e X.env)::cH es X.env:=by rfl):DA X (e::es) (aG f g):=
 PA.imp (oW h1 h2 hs) fun σ H Q gh=>by
  obtain⟨P,ρ,ds,hP,rs,ef,k⟩:=gh;rw[21];obtain⟨r,e2,ef⟩:=av ef;cases ef;exact⟨P,ρ,d,hP,rs,e1,gF fun v H1 x1 r1=>⟨P,ρ,r,hP.ext x1,rs.ext (fD x1),e2,fun vs H2 x2 r2=>
   k _ _ (x1.trans x2) (Aal.mpr ⟨v,vs,rfl,r1.ext (fD x2),r2⟩)⟩⟩
def fR (g:AF):EF:=fun ρ=>(g ρ).bind fun ds=>if ds.length≤sizeLine then aa (.tuple ds) else ab
def dE (g:AF):EF:=fun ρ=>(g ρ).bind fun ds=>if ds.length≤sizeLine then aa (.list ds) else ab
theorem dX {α:Type}{c:Prop}[Decidable c]{x y:α}(h:(if c then aa x else ab)=aa y):c/\x=y:=by
 by_cases q:c
 ·rw[if_pos q] at h;exact⟨q,iH h⟩
 ·rw[if_neg q] at h;cases h
theorem MY {g:AF}{x1}(h:DA X es g):DE X (.Tuple es x1 pos) (fR g):=PE.imp (Ji h) fun σ H Q gh=>by
 rw[4];obtain⟨ds,e1,ef⟩:=av ef;obtain⟨hl,rfl⟩:=dX ef;exact⟨P,ρ,ds,hP,rs,e1,fun vs H1 x1 r1=>⟨by rw[r1.length];exact hl,fun p hp=>(k.mono x1).tup (hP.ext x1) hp r1⟩⟩
theorem jP {g:AF}(h:DA X es g):DF 1 X (.List es pos) (dE g):=PE.imp (Jc h) fun σ H Q gh=>by
 rw[4];obtain⟨ds,e1,ef⟩:=av ef;obtain⟨hl,rfl⟩:=dX ef;exact⟨P,ρ,ds,hP,rs,e1,fun vs H1 x1 r1=>⟨by rw[r1.length];exact hl,fun p hp=>(k.mono x1).lst (hP.ext x1) hp r1⟩⟩
def m5 (K:aM)(n:Nat)(r:R2)(g:aA->aA->Option aA):Prop:=
 ∀ (P:aD->Prop) (H:Hp) (x y:V) (a b d:aA) (Q:VK),Hid P H->Abz K (hid H P) a x->Abz K (hid H P) b y->g a b=aa d->Res K P n d H Q->r x y H Q
def ah (g:aA->aA->Option aA)(fa fb:EF):EF:=fun ρ=>(fa ρ).bind fun a=>(fb ρ).bind fun b=>g a b
theorem IJ{fa fb:EF}(hg:m5 K n r g):∀ σ H Q,tF K n (ah g fa fb) σ H Q->xj r (tF K 0 fa) (tF K 0 fb) σ H Q:=fun σ H Q gh=>by
 rw[4];obtain⟨d1,e1,ef⟩:=av ef;obtain⟨d2,e2,ef⟩:=av ef;exact⟨P,ρ,d1,hP,rs,e1,gF fun v H1 x1 r1=>⟨P,ρ,d2,hP.ext x1,rs.ext (fD x1),e2,gF fun u H2 x2 r2=>
  hg P H2 v u d1 d2 d Q (hP.ext (x1.trans x2)) (r1.ext (fD x2)) r2 ef (k.mono (x1.trans x2))⟩⟩
theorem sZ {op:Operator}{fa fb:EF}(ho:OpR X (mT op) r)(hg:m5 X.K n r g)(ha:DE X a fa)(hb:DE X b fb):DF n X (.BinOp a op b pos) (ah g fa fb):=PE.imp (Ft ho ha hb) (IJ hg)
theorem DD {op:CmpOp}{fa fb:EF}(ho:OpR X (kC op) r)(hg:m5 X.K 0 r g)(ha:DE X a fa)(hb:DE X b fb)(hm:BG op b=af):DE X (.Compare a [op] [b] pos) (ah g fa fb):=PE.imp (Tr ho ha hb hm) (IJ hg)
def b7 (g:aA->Option aA)(fa:EF):EF:=fun ρ=>(fa ρ).bind g
def CallD (K:aM)(n:Nat)(r:List V->Hp->VK->Prop)(g:List aA->Option aA):Prop:=
 ∀ (P:aD->Prop) (H:Hp) (xs:List V) (ds:List aA) (d:aA) (Q:VK),Hid P H->Aax K (hid H P) ds xs->g ds=aa d->Res K P n d H Q->r xs H Q
def aN (g:List aA->Option aA)(fa:AF):EF:=fun ρ=>(fa ρ).bind g
variable {r:List V->Hp->VK->Prop}{g:List aA->Option aA}{fa:AF}{id:String}
theorem iD (hc:Aet X (.builtin id) r)(hg:CallD X.K n r g)(yb:Gl X x)(hm:X.mg x=ab)(hv:qC x=aa (.builtin id))(ha:DA X (e::es) fa)(hn:x ≠ "__name__":=by decide)(n8:(x==("__debug__" : aE))=af:=by decide)
  (he:cH (e::es) X.env=(af,cE e X.env)::cH es X.env:=by rfl) (gs:(iJ pos (cH es X.env)).any (·.1)=af:=by rfl):DF n X (.Call (.Name x p) (e::es) [] pos) (aN g fa):=
 PE.imp (KI hc yb hm hv ha hn n8 he gs) fun σ H Q gh=>by
  rw[4];obtain⟨d1,e1,ef⟩:=av ef;exact⟨P,ρ,d1,hP,rs,e1,fun vs H1 x1 r1=>hg P H1 vs d1 d Q (hP.ext x1) r1 ef (k.mono x1)⟩
theorem mO (hc:Aet X (.type T) r)(hg:CallD X.K n r g)(yb:Gl X x)(hm:X.mg x=ab)(hv:qC x=aa (.type T))(ha:DA X (e::es) fa)(hn:x ≠ "__name__":=by decide)(n8:(x==("__debug__" : aE))=af:=by decide)
  (he:cH (e::es) X.env=(af,cE e X.env)::cH es X.env:=by rfl) (gs:(iJ pos (cH es X.env)).any (·.1)=af:=by rfl):DF n X (.Call (.Name x p) (e::es) [] pos) (aN g fa):=
 PE.imp (VN hc yb hm hv ha hn n8 he gs) fun σ H Q gh=>by
  rw[4];obtain⟨d1,e1,ef⟩:=av ef;exact⟨P,ρ,d1,hP,rs,e1,fun vs H1 x1 r1=>hg P H1 vs d1 d Q (hP.ext x1) r1 ef (k.mono x1)⟩
def c7:aA->Option Bool
 |.bool b=>aa b
 |_=>ab
theorem JW{b:Bool}(h:c7 d=aa b):d=.bool b:=by
 cases d<;>simp[c7] at h;rw[h]
def ao (f:EF):BF:=fun ρ=>(f ρ).bind c7
theorem tN {f:EF}(h:DE X e f)(he:∀ gy,isTrue e X.env gy=(do let v ← gy;standAt e.pos;pD [v] (truthy v)):=by intro _;rfl):DT X e (ao f):=PT.imp (Ht h he) fun σ H Q gh=>by
 obtain⟨P,ρ,b,hP,rs,ef,k⟩:=gh;rw[21];cases JW ef;exact⟨P,ρ,_,hP,rs,e1,gF fun v H1 x1 r1=>⟨b,Aa3.mp r1,k H1 x1⟩⟩
theorem gW {op:CmpOp}{r:R2}{g:aA->aA->Option aA}{fa fb:EF}(ho:OpR X (kC op) r)(hg:m5 X.K 0 r g)(ha:DE X a fa)(hb:DE X b fb)(hm:BG op b=af):DT X (.Compare a [op] [b] pos) (ao (ah g fa fb)):=
 PT.imp (Ml ho ha hb hm) fun σ H Q gh=>by
  obtain⟨P,ρ,c,hP,rs,ef,k⟩:=gh;rw[21];cases JW ef;exact IJ hg σ H _ ⟨P,ρ,_,hP,rs,e1,gF fun v H1 x1 r1=>⟨c,Aa3.mp r1,k H1 x1⟩⟩
def fH (f:BF):BF:=fun ρ=>(f ρ).bind fun b=>aa (!b)
def eT (f g:BF):BF:=fun ρ=>(f ρ).bind fun b=>if b=ae then g ρ else aa af
def f7 (f g:BF):BF:=fun ρ=>(f ρ).bind fun b=>if b=ae then aa ae else g ρ
variable {fB gB:BF}{rest:List bF}
theorem IL (h:DT X a fB):DT X (.UnaryOp .Not a pos) (fH fB):=PT.imp (Jw h) fun σ H Q gh=>by
 obtain⟨P,ρ,c,hP,rs,ef,k⟩:=gh;obtain⟨b,e1,ef⟩:=av ef;cases ef;exact⟨P,ρ,b,hP,rs,e1,fun H1 x1=>k H1 x1⟩
theorem yZ (h:DT X a fB):DW X (.BoolOp .And [a] pos) fB:=Ld h
theorem CU (h:DT X a fB):DW X (.BoolOp .Or [a] pos) fB:=Jx h
theorem vZ (h:DT X a fB)(h2:DW X (.BoolOp .And (b::rest) pos) gB):DW X (.BoolOp .And (a::b::rest) pos) (eT fB gB):=PW.imp (Ic h h2) fun σ H Q gh=>by
 obtain⟨P,ρ,c,hP,rs,ef,k⟩:=gh;obtain⟨b,e1,ef⟩:=av ef;refine⟨P,ρ,b,hP,rs,e1,fun H1 x1=>?_⟩
 cases b with
 |true=>exact vE ⟨P,ρ,c,hP.ext x1,rs.ext (fD x1),by simpa using ef,fun H2 x2=>k H2 (x1.trans x2)⟩
 |false=>
  have:af=c:=by simpa using ef
  rw[25];exact vI (k H1 x1)
theorem AU (h:DT X a fB)(h2:DW X (.BoolOp .Or (b::rest) pos) gB):DW X (.BoolOp .Or (a::b::rest) pos) (f7 fB gB):=PW.imp (Fk h h2) fun σ H Q gh=>by
 obtain⟨P,ρ,c,hP,rs,ef,k⟩:=gh;obtain⟨b,e1,ef⟩:=av ef;refine⟨P,ρ,b,hP,rs,e1,fun H1 x1=>?_⟩
 cases b with
 |true=>
  have:ae=c:=by simpa using ef
  rw[25];exact vE (k H1 x1)
 |false=>exact vI ⟨P,ρ,c,hP.ext x1,rs.ext (fD x1),by simpa using ef,fun H2 x2=>k H2 (x1.trans x2)⟩
theorem rA (h:DW X a fB):DT X a fB:=h.pt
def gZ (f:EF):EF:=fun ρ=>(f ρ).bind fun d=>(c7 d).bind fun b=>aa (.bool (!b))
def fZ (f g:EF):EF:=fun ρ=>(f ρ).bind fun d=>(c7 d).bind fun b=>if b=ae then g ρ else aa (.bool af)
def iz (f g:EF):EF:=fun ρ=>(f ρ).bind fun d=>(c7 d).bind fun b=>if b=ae then aa (.bool ae) else g ρ
variable {f1 f2:EF}
theorem Jh {op}(h:DE X a f1):DE X (.BoolOp op [a] pos) f1:=Jz h
theorem Hn (h:DE X a f1)(h2:DE X (.BoolOp .And (b::rest) pos) f2):DE X (.BoolOp .And (a::b::rest) pos) (fZ f1 f2):=PE.imp (Hf h h2) fun σ H Q gh=>by
 obtain⟨P,ρ,c,hP,rs,ef,k⟩:=gh;rw[21];obtain⟨b,e2,de⟩:=av ef;clear ef;have ef:=de;clear de;cases JW e2;refine⟨P,ρ,_,hP,rs,e1,gF fun v H1 x1 r1=>⟨b,Aa3.mp r1,?_⟩⟩
 cases b with
 |true=>exact vE ⟨P,ρ,c,hP.ext x1,rs.ext (fD x1),by simpa using ef,k.mono x1⟩
 |false=>
  have:qE af=c:=by simpa using ef
  rw[25];exact vI (k.zero x1 (Aa3.mpr rfl))
def iy (t:BF)(f g:EF):EF:=fun ρ=>(t ρ).bind fun b=>if b=ae then f ρ else g ρ
end
abbrev Slot:=Option (Nat×aA)
abbrev bM:=List Slot
def vS (ρ:bM):List (Option aA):=ρ.map fun s=>match s with|some (0,d)=>aa d|_=>ab
def vA (ρ:bM):List (Option aA):=ρ.map fun s=>s.map (·.2)
theorem Hc {ρ:bM}(h:(vS ρ)[i]?=aa (aa d)):ρ[i]?=aa (aa (0,d)):=by
 unfold vS at h;rw[fW] at h;cases e:ρ[i]? with
 |none=>rw[e] at h;simp at h
 |some s=>
  rw[e] at h;simp only[uR,GW] at h;cases s with
  |none=>simp at h
  |some q=>
   obtain⟨n,d'⟩:=q;cases n with
   |zero=>simp at h;rw[h]
   |succ n=>simp at h
theorem Hz {ρ:bM}(h:(vA ρ)[i]?=aa (aa d)):∃ n,ρ[i]?=aa (aa (n,d)):=by
 unfold vA at h;rw[fW] at h;cases e:ρ[i]? with
 |none=>rw[e] at h;simp at h
 |some s=>
  rw[e] at h;cases s with
  |none=>simp at h
  |some q=>
   obtain⟨n,d'⟩:=q;simp at h;exact⟨n,by rw[h]⟩
abbrev Hd (P0:aD->Prop)(fp:Nat->List aD):aD->Prop:=fun a=>P0 a\/∃ i,a∈fp i
structure Sta (K:aM)(H0:Hp)(P0:aD->Prop)(B0:Hp)(ρ:bM)(σ:St)(H:Hp)(fp:Nat->List aD):Prop where
 len:σ.length=ρ.length
 nd:∀ i,(fp i).Nodup
 dj:∀ i j a,a∈fp i->a∈fp j->i=j
 own:∀ i a,a∈fp i->H0 a=ab/\((∃ xs,H a=aa (.lst xs))\/∃ q:DQ,H a=aa (dO q))
 ext:Ext H0 H
 hd:Hid P0 H0
 base:Ext B0 (hid H (Hd P0 fp))
 slot:∀ (i:Nat) n d,ρ[i]?=aa (aa (n,d))->∃ v,σ[i]?=aa (aa v)/\Aj2 K (hid H (Hd P0 fp)) H n d v (fp i)
section
variable {ρ:bM}
theorem Sta.hid (S:Sta K H0 P0 B0 ρ σ H fp):Hid (Hd P0 fp) H:=fun a h=>by
 rcases h with h|⟨i,h⟩
 ·exact S.hd.ext S.ext a h
 ·exact(S.own i a h).2
theorem Sta.np (S:Sta K H0 P0 B0 ρ σ H fp)(m:a∈fp i):¬ P0 a:=S.hd.new (S.own i a m).1
theorem Sta.grow (S:Sta K H0 P0 B0 ρ σ H fp)(x:Ext H H'):Sta K H0 P0 B0 ρ σ H' fp:=by
 refine⟨S.len,S.nd,S.dj,fun i a m=>⟨(S.own i a m).1,(S.own i a m).2.imp (fun⟨xs,e⟩=>⟨xs,x _ _ e⟩) fun⟨xs,e⟩=>⟨xs,x _ _ e⟩⟩,S.ext.trans x,S.hd,S.base.trans (fD x),fun i n d e=>?_⟩
 obtain⟨v,h1,h2⟩:=S.slot i n d e;refine⟨v,h1,h2.keep (fD x) fun a m=>?_⟩
 rcases(S.own i a m).2 with⟨xs,e⟩|⟨xs,e⟩
 ·rw[e,x _ _ e]
 ·rw[e,x _ _ e]
theorem Sta.viewS (S:Sta K H0 P0 B0 ρ σ H fp):Amw K (L2.hid H (Hd P0 fp)) (vS ρ) σ:=fun i d e=>by
 obtain⟨v,h1,h2⟩:=S.slot i 0 d (Hc e);exact⟨v,h1,h2.2⟩
theorem Sta.viewA (S:Sta K H0 P0 B0 ρ σ H fp):Amw K (L2.hid H P0) (vA ρ) σ:=fun i d e=>by
 obtain⟨n,e⟩:=Hz e;obtain⟨v,h1,h2⟩:=S.slot i n d e;exact⟨v,h1,h2.share (lT fun a p=>.inl p) fun a m o e=>lO (S.np m) e⟩
def Tmp (K:aM)(H0:Hp)(P0:aD->Prop)(B0:Hp)(ρ:bM)(σ:St)(n:Nat)(d:aA)(v:V)(H:Hp):Prop:=
 ∃ fp,Sta K H0 P0 B0 ρ σ H fp/\Aj2 K (L2.hid H (Hd P0 fp)) H n d v (fp ρ.length)
inductive Md|s|a
def CN (ρ:bM):Bool:=ρ.all fun s=>match s with
 |some (0,_)=>ae
 |some (1,.dict _)=>ae
 |none=>ae
 |_=>af
def eV (n:Nat)(m:Md)(f:EF)(ρ:bM):Option aA:=match m with
 |.s=>f (vS ρ)
 |.a=>(f (vA ρ)).bind fun d=>if (dY n d||(CN ρ&&decide (n<9)&&kU n d))=ae then aa d else ab
def bV (m:Md)(f:BF)(ρ:bM):Option Bool:=match m with
 |.s=>f (vS ρ)
 |.a=>f (vA ρ)
def aV (m:Md)(f:AF)(ρ:bM):Option (List aA):=match m with
 |.s=>f (vS ρ)
 |.a=>f (vA ρ)
def tE (K:aM)(H0:Hp)(P0:aD->Prop)(n:Nat)(m:Md)(f:EF):TE:=fun σ H Q=>∃ B0 ρ fp d,Sta K H0 P0 B0 ρ σ H fp/\eV n m f ρ=aa d/\∀ v H',Tmp K H0 P0 B0 ρ σ n d v H'->Q v H'
end
theorem Sta.trim{ρ:bM}(S:Sta K H0 P0 B0 ρ σ H fp):∃ gu,Sta K H0 P0 B0 ρ σ H gu/\∀ i a,a∈gu i->a∈fp i/\∃ n d,ρ[i]?=aa (aa (n,d)):=by
 let gu:Nat->List aD:=fun i=>match ρ[i]? with
  |some (aa _)=>fp i
  |_=>[]
 have sub:∀ i a,a∈gu i->a∈fp i/\∃ n d,ρ[i]?=aa (aa (n,d)):=fun i a m=>by
  have m:a∈(match ρ[i]? with|some (aa _)=>fp i|_=>[]):=m
  split at m
  ·rename_i x e;exact⟨m,x.1,x.2,e⟩
  ·simp at m
 have same:∀ i n d,ρ[i]?=aa (aa (n,d))->gu i=fp i:=fun i n d e=>by
  show(match ρ[i]? with|some (aa _)=>fp i|_=>[])=fp i
  rw[e]
 have xb:Ext (L2.hid H (Hd P0 fp)) (L2.hid H (Hd P0 gu)):=lT fun a h=>h.imp id fun⟨i,m⟩=>⟨i,(sub i a m).1⟩
 refine⟨gu,⟨S.len,fun i=>?_,fun i j a h1 h2=>S.dj i j a (sub i a h1).1 (sub j a h2).1,fun i a m=>S.own i a (sub i a m).1,S.ext,S.hd,S.base.trans xb,fun i n d e=>?_⟩,sub⟩
 ·show(match ρ[i]? with|some (aa _)=>fp i|_=>[]).Nodup
  split
  ·exact S.nd i
  ·exact OD
 ·obtain⟨v,h1,h2⟩:=S.slot i n d e;rw[same i n d e];exact⟨v,h1,h2.keep xb fun a m=>rfl⟩
theorem Sta.dicts{ρ:bM}(S:Sta K H0 P0 B0 ρ σ H fp)(ho:CN ρ=ae){n:Nat}(m:a∈fp i)(e:ρ[i]?=aa (aa (n,d))):∃ q:DQ,H a=aa (dO q):=by
 have:=gQ.mp ho _ (gL e);obtain⟨v,h1,h2⟩:=S.slot i n d e;split at this
 ·rename_i z;cases z;rw[h2.1] at m;simp at m
 ·rename_i kds z;cases z;obtain⟨p,xs,Fs,_,hp,hF,h3⟩:=h2;have hn:∀ {ds:List (aA×aA)} {ys:List (aP×V)} {Gs:List (List aD)},All3 (fun(kd:aA×aA) (kv:aP×V) f=>kd.1=kD kv.1/\Agk K (L2.hid H (Hd P0 fp)) H 0 kd.2 kv.2 f) ds ys Gs->Gs.flatten=[]:=fun q=>by
   induction q with
   |nil=>rfl
   |cons h _ ih=>rw[uX,h.2.1,ih];rfl
  rw[hF,hn h3] at m;rw[eB.mp m];exact⟨.inl xs,hp⟩
 ·rename_i z;cases z
 ·cases this
theorem PV{f:EF}(m:Md):∀ σ H Q,tE K H0 P0 n m f σ H Q->tF K n f σ H Q:=fun σ H Q gh=>by
 obtain⟨B0,ρ,fp,d,S,ef,k⟩:=gh;cases m with
 |s=>
  refine⟨Hd P0 fp,vS ρ,d,S.hid,S.viewS,ef,fun v H' Fr x nd fr r=>k v H' ?_⟩
  have S':=S.grow x;have g8:∀ a,Hd P0 (fun i=>if i=ρ.length then Fr else fp i) a->iq (Hd P0 fp) Fr a:=fun a h=>by
   rcases h with h|⟨i,h⟩
   ·exact .inl (.inl h)
   ·by_cases hi:i=ρ.length
    ·simp only[hi,if_true] at h;exact .inr h
    ·simp only[hi,if_false] at h;exact .inl (.inr ⟨i,h⟩)
  have yc:∀ i a,a∈fp i->a∉Fr:=fun i a h1 h2=>by
   have:=(fr a h2).1;rcases(S.own i a h1).2 with⟨xs,e⟩|⟨xs,e⟩<;>rw[this] at e<;>first|cases e|(cases xs<;>simp[dO] at e)
  have xb:Ext (L2.hid H (Hd P0 fp)) (L2.hid H' (Hd P0 fun i=>if i=ρ.length then Fr else fp i)):=fun b o e=>by
   obtain⟨nb,e⟩:=Afg.mp e;refine lO (fun q=>?_) (x _ _ e)
   rcases q with q|⟨j,q⟩
   ·exact nb (.inl q)
   ·by_cases hj:j=ρ.length
    ·simp only[hj,if_true] at q;rw[(fr b q).1] at e;cases e
    ·simp only[hj,if_false] at q;exact nb (.inr ⟨j,q⟩)
  refine⟨fun i=>if i=ρ.length then Fr else fp i,⟨S.len,fun i=>?_,fun i j a hi hj=>?_,fun i a hi=>?_,S'.ext,S.hd,S.base.trans xb,fun i n' d' e'=>?_⟩,?_⟩
  ·by_cases hi:i=ρ.length
   ·simp only[hi,if_true];exact nd
   ·simp only[hi,if_false];exact S.nd i
  ·by_cases h1:i=ρ.length<;>by_cases h2:j=ρ.length
   ·rw[h1,h2]
   ·simp only[h1,if_true] at hi;simp only[h2,if_false] at hj;exact absurd hi (yc _ _ hj)
   ·simp only[h1,if_false] at hi;simp only[h2,if_true] at hj;exact absurd hj (yc _ _ hi)
   ·simp only[h1,if_false] at hi;simp only[h2,if_false] at hj;exact S.dj i j a hi hj
  ·by_cases h1:i=ρ.length
   ·simp only[h1,if_true] at hi;exact⟨S.ext.none (fr a hi).1,r.mut a hi⟩
   ·simp only[h1,if_false] at hi;exact S'.own i a hi
  ·have bg:i<ρ.length:=(dD.mp e').1;have h1:i≠ρ.length:=by omega
   obtain⟨v',q1,q2⟩:=S'.slot i n' d' e';refine⟨v',q1,?_⟩;simp only[h1,if_false];obtain⟨v2,p1,p2⟩:=S.slot i n' d' e';have ev:v2=v':=iH (iH (p1.symm.trans q1));subst ev;refine p2.keep xb fun a m=>?_
   rcases(S.own i a m).2 with⟨xs,e⟩|⟨xs,e⟩
   ·rw[e,x _ _ e]
   ·rw[e,x _ _ e]
  ·rw[20];exact r.keep (lT g8) fun a m=>rfl
 |a=>
  obtain⟨d',ed,ef⟩:=av ef;obtain⟨fl,rfl⟩:=dX ef;obtain⟨fp,S,W5⟩:=S.trim;refine⟨P0,vA ρ,d',S.hd.ext S.ext,S.viewA,ed,fun v H' Fr x nd fr r=>k v H' ?_⟩
  have S':=S.grow x;have yc:∀ i a,a∈fp i->a∉Fr:=fun i a h1 h2=>by
   have:=(fr a h2).1;rcases(S.own i a h1).2 with⟨xs,e⟩|⟨xs,e⟩<;>rw[this] at e<;>first|cases e|(cases xs<;>simp[dO] at e)
  have xb:Ext (L2.hid H (Hd P0 fp)) (L2.hid H' (Hd P0 fun i=>if i=ρ.length then Fr else fp i)):=fun b o e=>by
   obtain⟨nb,e⟩:=Afg.mp e;refine lO (fun q=>?_) (x _ _ e)
   rcases q with q|⟨j,q⟩
   ·exact nb (.inl q)
   ·by_cases hj:j=ρ.length
    ·simp only[hj,if_true] at q;rw[(fr b q).1] at e;cases e
    ·simp only[hj,if_false] at q;exact nb (.inr ⟨j,q⟩)
  refine⟨fun i=>if i=ρ.length then Fr else fp i,⟨S.len,fun i=>?_,fun i j a hi hj=>?_,fun i a hi=>?_,S'.ext,S.hd,S.base.trans xb,fun i n' d' e'=>?_⟩,?_⟩
  ·by_cases hi:i=ρ.length
   ·simp only[hi,if_true];exact nd
   ·simp only[hi,if_false];exact S.nd i
  ·by_cases h1:i=ρ.length<;>by_cases h2:j=ρ.length
   ·rw[h1,h2]
   ·simp only[h1,if_true] at hi;simp only[h2,if_false] at hj;exact absurd hi (yc _ _ hj)
   ·simp only[h1,if_false] at hi;simp only[h2,if_true] at hj;exact absurd hj (yc _ _ hi)
   ·simp only[h1,if_false] at hi;simp only[h2,if_false] at hj;exact S.dj i j a hi hj
  ·by_cases h1:i=ρ.length
   ·simp only[h1,if_true] at hi;exact⟨S.ext.none (fr a hi).1,r.mut a hi⟩
   ·simp only[h1,if_false] at hi;exact S'.own i a hi
  ·have bg:i<ρ.length:=(dD.mp e').1;have h1:i≠ρ.length:=by omega
   obtain⟨v2,p1,p2⟩:=S.slot i n' d' e';refine⟨v2,p1,?_⟩;simp only[h1,if_false];refine p2.keep xb fun a m=>?_
   rcases(S.own i a m).2 with⟨xs,e⟩|⟨xs,e⟩
   ·rw[e,x _ _ e]
   ·rw[e,x _ _ e]
  ·rw[20];have up:∀ a o,(L2.hid H' (iq P0 Fr)) a=aa o->((∃ xs,o=.tup xs)\/(CN ρ=ae/\∀ q,o≠dO q))->(L2.hid H' (Hd P0 fun i=>if i=ρ.length then Fr else fp i)) a=aa o:=fun a o e ho=>by
    obtain⟨na,e⟩:=Afg.mp e;refine lO (fun q=>?_) e
    rcases q with q|⟨j,q⟩
    ·exact na (.inl q)
    ·by_cases hj:j=ρ.length
     ·simp only[hj,if_true] at q;exact na (.inr q)
     ·simp only[hj,if_false] at q;rcases ho with⟨xs,rfl⟩|⟨ho,hq⟩
      ·rcases(S'.own j a q).2 with⟨ys,e2⟩|⟨ys,e2⟩<;>rw[e] at e2<;>first|cases e2|(cases ys<;>simp[dO] at e2)
      ·obtain⟨_,n',d',e'⟩:=W5 j a q;obtain⟨z,ez⟩:=S'.dicts ho q e';rw[e] at ez;injection ez with ez;exact hq z ez
   rcases Bool.or_eq_true_iff.mp fl with fl|fl
   ·exact r.flat (fun a xs e=>up a _ e (.inl ⟨xs,rfl⟩)) fl
   ·have fl:=kT.mp fl;have Q6:=kT.mp fl.1;exact r.nd (fun a o e hq=>up a o e (.inr ⟨Q6.1,hq⟩)) (of_decide_eq_true Q6.2) fl.2
theorem ev {f:EF}(m:Md)(h:DF n X e f):PE X e (tE X.K H0 P0 n m f):=PE.imp h (PV m)
def tB' (K:aM)(H0:Hp)(P0:aD->Prop)(m:Md)(f:BF):TT:=fun σ H Q=>∃ B0 ρ fp b,Sta K H0 P0 B0 ρ σ H fp/\bV m f ρ=aa b/\∀ H',Sta K H0 P0 B0 ρ σ H' fp->Q b H'
theorem V2 {f:BF}(m:Md)(h:DT X e f):PT X e (tB' X.K H0 P0 m f):=PT.imp h fun σ H Q gh=>by
 obtain⟨B0,ρ,fp,b,S,ef,k⟩:=gh;cases m with
 |s=>exact⟨Hd P0 fp,vS ρ,b,S.hid,S.viewS,ef,fun H' x=>k H' (S.grow x)⟩
 |a=>exact⟨P0,vA ρ,b,S.hd.ext S.ext,S.viewA,ef,fun H' x=>k H' (S.grow x)⟩
inductive Out where
 |nx (ρ:bM)|rt (d:aA)|bk (ρ:bM)|ct (ρ:bM)
abbrev SF:=bM->Option Out
def PD (K:aM)(H0:Hp)(P0:aD->Prop)(n0:Nat)(d:aA)(v:V)(H':Hp):Prop:=
 ∃ Fr,Ext H0 H'/\Fr.Nodup/\(∀ a∈Fr,H0 a=ab/\∃ o,H' a=aa o)/\Aj2 K (hid H' (iq P0 Fr)) H' n0 d v Fr
def Gb (K:aM)(H0:Hp)(P0:aD->Prop)(B0:Hp)(n0:Nat)(D:Ends):Out->Prop
 |.nx ρ=>∀ σ H fp,Sta K H0 P0 B0 ρ σ H fp->D.nx σ H
 |.bk ρ=>∀ σ H fp,Sta K H0 P0 B0 ρ σ H fp->D.bk σ H
 |.ct ρ=>∀ σ H fp,Sta K H0 P0 B0 ρ σ H fp->D.ct σ H
 |.rt d=>∀ v H',PD K H0 P0 n0 d v H'->D.rt v H'
def tS (K:aM)(H0:Hp)(P0:aD->Prop)(n0:Nat)(F:SF):TS:=fun D σ H=>∃ B0 ρ fp o,Sta K H0 P0 B0 ρ σ H fp/\F ρ=aa o/\Gb K H0 P0 B0 n0 D o
abbrev DS (X:Cx)(H0:Hp)(P0:aD->Prop)(n0:Nat)(s:cV)(F:SF):Prop:=PS X s (tS X.K H0 P0 n0 F)
abbrev o4 (X:Cx)(H0:Hp)(P0:aD->Prop)(n0:Nat)(s:List cV)(F:SF):Prop:=PSs X s (tS X.K H0 P0 n0 F)
section
variable {s:cV}{ss:List cV}{F G:SF}{f:EF}
theorem PS.imp {t t':TS}(h:PS X s t)(w:∀ D σ H,t' D σ H->t D σ H):PS X s t':=fun ad st σ H D I q=>h ad st σ H D I (w _ _ _ q)
theorem PSs.imp {t t':TS}(h:PSs X ss t)(w:∀ D σ H,t' D σ H->t D σ H):PSs X ss t':=fun ad st σ H D I q=>h ad st σ H D I (w _ _ _ q)
def dC:SF:=fun ρ=>aa (.nx ρ)
def aY (F G:SF):SF:=fun ρ=>(F ρ).bind fun o=>match o with
 |.nx ρ'=>G ρ'
 |o=>aa o
theorem jS:o4 X H0 P0 n0 [] dC:=PSs.imp Mm fun D σ H gh=>by
 rw[11];cases ef;exact k σ H fp S
theorem cB (h:DS X H0 P0 n0 s F):o4 X H0 P0 n0 [s] F:=Tp h
theorem bP (h:DS X H0 P0 n0 s F)(h2:o4 X H0 P0 n0 ss G):o4 X H0 P0 n0 (s::ss) (aY F G):=PSs.imp (Wh h h2) fun D σ H gh=>by
 rw[11];obtain⟨o1,e1,ef⟩:=av ef;refine⟨B0,ρ,fp,o1,S,e1,?_⟩;cases o1 with
 |nx ρ1=>exact fun σ1 H1 Q7 S1=>⟨B0,ρ1,Q7,o,S1,ef,k⟩
 |rt d=>cases ef;exact k
 |bk ρ1=>cases ef;exact k
 |ct ρ1=>cases ef;exact k
def bp (m:Md)(t:BF)(F G:SF):SF:=fun ρ=>(bV m t ρ).bind fun b=>if b=ae then F ρ else G ρ
theorem iS{a b:List cV}{t:BF}(m:Md)(hc:DT X c t)(ha:o4 X H0 P0 n0 a F)(hb:o4 X H0 P0 n0 b G):DS X H0 P0 n0 (.If c a b pos) (bp m t F G):=
 PS.imp (Fn (V2 (H0:=H0) (P0:=P0) m hc) ha hb) fun D σ H gh=>by
  rw[11];obtain⟨b,e1,ef⟩:=av ef;refine⟨B0,ρ,fp,b,S,e1,fun H1 S1=>?_⟩
  cases b with
  |true=>exact vE ⟨B0,ρ,fp,o,S1,by simpa using ef,k⟩
  |false=>exact vI ⟨B0,ρ,fp,o,S1,by simpa using ef,k⟩
def frz (i:Nat)(ρ:bM):bM:=match ρ[i]? with
 |some (aa (_,d))=>ρ.set i (aa (0,d))
 |_=>ρ
theorem Sta.frz{ρ:bM}(S:Sta K H0 P0 B0 ρ σ H fp)(i:Nat):∃ gu,Sta K H0 P0 B0 (L2.frz i ρ) σ H gu:=by
 unfold L2.frz;cases e:ρ[i]? with
 |none=>exact⟨fp,S⟩
 |some s=>
  cases s with
  |none=>exact⟨fp,S⟩
  |some q=>
   obtain⟨n,d⟩:=q;have hi:i<ρ.length:=(dD.mp e).1;have g8:∀ a,Hd P0 (fun j=>if j=i then [] else fp j) a->Hd P0 fp a:=fun a h=>by
    rcases h with h|⟨j,h⟩
    ·exact .inl h
    ·by_cases hj:j=i
     ·simp only[hj,if_true] at h;simp at h
     ·simp only[hj,if_false] at h;exact .inr ⟨j,h⟩
   refine⟨fun j=>if j=i then [] else fp j,⟨by simp[S.len],fun j=>?_,fun j k a h1 h2=>?_,fun j a h1=>?_,S.ext,S.hd,S.base.trans (lT g8),fun j n' d' e'=>?_⟩⟩
   ·by_cases hj:j=i
    ·simp only[hj,if_true];exact .nil
    ·simp only[hj,if_false];exact S.nd j
   ·by_cases hj:j=i
    ·simp only[hj,if_true] at h1;simp at h1
    ·by_cases hk:k=i
     ·simp only[hk,if_true] at h2;simp at h2
     ·simp only[hj,if_false] at h1;simp only[hk,if_false] at h2;exact S.dj j k a h1 h2
   ·by_cases hj:j=i
    ·simp only[hj,if_true] at h1;simp at h1
    ·simp only[hj,if_false] at h1;exact S.own j a h1
   ·by_cases hj:j=i
    ·subst hj;rw[rE hi] at e';cases e';obtain⟨v,h1,h2⟩:=S.slot j n d e;refine⟨v,h1,?_⟩;rw[20];refine⟨rfl,h2.share (lT g8) fun a m o q=>lO (fun z=>?_) q⟩
     rcases z with z|⟨k,z⟩
     ·exact S.np m z
     ·by_cases hk:k=j
      ·simp only[hk,if_true] at z;simp at z
      ·simp only[hk,if_false] at z;exact hk (S.dj k j a z m)
    ·rw[rF (fun z=>hj z.symm)] at e'
     obtain⟨v,h1,h2⟩:=S.slot j n' d' e';refine⟨v,h1,?_⟩;simp only[hj,if_false];exact h2.keep (lT g8) fun a m=>rfl
def eK (i:Nat)(F:SF):SF:=fun ρ=>F (frz i ρ)
theorem nP (i:Nat)(h:o4 X H0 P0 n0 ss F):o4 X H0 P0 n0 ss (eK i F):=PSs.imp h fun D σ H ⟨B0,ρ,fp,o,S,ef,k⟩=>let ⟨gu,S'⟩:=S.frz i;⟨B0,_,gu,o,S',ef,k⟩
theorem Tmp.set{ρ:bM}(t:Tmp K H0 P0 B0 ρ σ n d v H)(hi:i<ρ.length):∃ fp,Sta K H0 P0 B0 (ρ.set i (aa (n,d))) (σ.set i (aa v)) H fp:=by
 obtain⟨fp,S,r⟩:=t;have cf:ρ.length≠i:=by omega
 have g8:∀ a,Hd P0 (fun j=>if j=i then fp ρ.length else if j=ρ.length then [] else fp j) a->Hd P0 fp a:=fun a h=>by
  rcases h with h|⟨j,h⟩
  ·exact .inl h
  ·by_cases hj:j=i
   ·simp only[hj,if_true] at h;exact .inr ⟨_,h⟩
   ·by_cases hk:j=ρ.length
    ·simp only[hj,if_false,hk,if_true] at h;rw[if_neg cf] at h;simp at h
    ·simp only[hj,if_false,hk] at h;exact .inr ⟨j,h⟩
 have ye:∀ j a,a∈(if j=i then fp ρ.length else if j=ρ.length then [] else fp j)->(j=i/\a∈fp ρ.length)\/(j≠i/\j≠ρ.length/\a∈fp j):=fun j a h=>by
  by_cases hj:j=i
  ·simp only[hj,if_true] at h;exact .inl ⟨hj,h⟩
  ·by_cases hk:j=ρ.length
   ·rw[if_neg hj,if_pos hk] at h;simp at h
   ·rw[if_neg hj,if_neg hk] at h;exact .inr ⟨hj,hk,h⟩
 refine⟨fun j=>if j=i then fp ρ.length else if j=ρ.length then [] else fp j,⟨by simp[S.len],fun j=>?_,fun j k a h1 h2=>?_,fun j a h1=>?_,S.ext,S.hd,S.base.trans (lT g8),fun j n' d' e'=>?_⟩⟩
 ·by_cases hj:j=i
  ·rw[if_pos hj];exact S.nd _
  ·by_cases hk:j=ρ.length
   ·rw[if_neg hj,if_pos hk];exact .nil
   ·rw[if_neg hj,if_neg hk];exact S.nd _
 ·rcases ye j a h1 with⟨e1,m1⟩|⟨e1,l1,m1⟩<;>rcases ye k a h2 with⟨e2,m2⟩|⟨e2,l2,m2⟩
  ·rw[e1,e2]
  ·exact absurd (S.dj _ _ a m2 m1) l2
  ·exact absurd (S.dj _ _ a m1 m2) l1
  ·exact S.dj j k a m1 m2
 ·rcases ye j a h1 with⟨e1,m1⟩|⟨e1,l1,m1⟩
  ·exact S.own _ a m1
  ·exact S.own _ a m1
 ·by_cases hj:j=i
  ·subst hj;rw[rE hi] at e';cases e';refine⟨v,?_,?_⟩
   ·rw[rE (by rw[S.len];exact hi)]
   ·rw[if_pos rfl];exact r.keep (lT g8) fun a m=>rfl
  ·rw[rF (fun z=>hj z.symm)] at e'
   have bg:j<ρ.length:=(dD.mp e').1;have hk:j≠ρ.length:=by omega
   obtain⟨v',h1,h2⟩:=S.slot j n' d' e';refine⟨v',?_,?_⟩
   ·rw[rF (fun z=>hj z.symm)];exact h1
   ·rw[if_neg hj,if_neg hk];exact h2.keep (lT g8) fun a m=>rfl
def bE (i n:Nat)(m:Md)(f:EF):SF:=fun ρ=>(eV n m f ρ).bind fun d=>if i<ρ.length then aa (.nx (ρ.set i (aa (n,d)))) else ab
theorem cO{kj:dA}(n:Nat)(m:Md)(hN:X.N.Nodup)(hi:X.N[i]?=aa x)(hx:nD X.env.scope x)(he:DF n X e f)(hs:nY e (aa (.Name x kj)) pos.line X.env=pure af:=by rfl)(hf:X.fn x=ae\/X.env.scope.names.lookup x=aa .local:=by first|exact .inl rfl|exact .inr rfl|assumption) :
  DS X H0 P0 n0 (.Assign [.Name x kj] e pos) (bE i n m f):=PS.imp (ZS hN hi hx (ev (H0:=H0) (P0:=P0) m he) hs hf) fun D σ H gh=>by
 rw[11];rw[21];obtain⟨hl,rfl⟩:=dX ef;refine⟨B0,ρ,fp,d,S,e1,fun v H' t=>?_⟩
 obtain⟨gu,S'⟩:=t.set hl;exact k _ _ gu S'
theorem Tmp.ret{ρ:bM}(t:Tmp K H0 P0 B0 ρ σ n d v H):PD K H0 P0 n d v H:=by
 obtain⟨fp,S,r⟩:=t;refine⟨fp ρ.length,S.ext,S.nd _,fun a m=>⟨(S.own _ a m).1,?_⟩,r.keep (lT fun a h=>?_) fun a m=>rfl⟩
 ·rcases(S.own _ a m).2 with⟨xs,e⟩|⟨xs,e⟩
  ·exact⟨_,e⟩
  ·exact⟨_,e⟩
 ·rcases h with h|h
  ·exact .inl h
  ·exact .inr ⟨_,h⟩
def cQ (n:Nat)(m:Md)(f:EF):SF:=fun ρ=>(eV n m f ρ).bind fun d=>aa (.rt d)
theorem iI (m:Md)(he:DF n0 X e f):DS X H0 P0 n0 (.Return (aa e) pos) (cQ n0 m f):=PS.imp (ZT (ev (H0:=H0) (P0:=P0) m he)) fun D σ H gh=>by
 rw[11];rw[21];cases ef;exact⟨B0,ρ,fp,d,S,e1,fun v H' t=>k v H' t.ret⟩
def eU (i n0:Nat):SF:=fun ρ=>match ρ[i]? with
 |some (aa (n,d))=>if n=n0 then aa (.rt d) else ab
 |_=>ab
theorem rW (i:Nat)(hN:X.N[i]?=aa x:=by rfl)(hv:oK X.env.scope x:=by first|exact bA rfl|exact bB (bA rfl)|exact bB (bB rfl))(hd:(x==("__debug__" : aE))=af:=by decide)
  (ic:(x==("__classdict__" : aE))=af:=by decide):DS X H0 P0 n0 (.Return (aa (.Name x p)) pos) (eU i n0):=PS.imp (ZT (qP hN hv hd ic)) fun D σ H gh=>by
 rw[11];unfold eU at ef;cases e:ρ[i]? with
 |none=>rw[e] at ef;simp at ef
 |some q=>
  cases q with
  |none=>rw[e] at ef;simp at ef
  |some q=>
   obtain⟨n,d⟩:=q;rw[e] at ef;obtain⟨rfl,rfl⟩:=dX ef;obtain⟨v,h1,h2⟩:=S.slot i n d e;refine⟨v,h1,k v H ⟨fp i,S.ext,S.nd i,fun a m=>⟨(S.own i a m).1,?_⟩,h2.keep (lT fun a h=>?_) fun a m=>rfl⟩⟩
   ·rcases(S.own i a m).2 with⟨xs,e⟩|⟨xs,e⟩
    ·exact⟨_,e⟩
    ·exact⟨_,e⟩
   ·rcases h with h|h
    ·exact .inl h
    ·exact .inr ⟨_,h⟩
def rP (m:Md)(f:EF):SF:=fun ρ=>(eV 0 m f ρ).bind fun _=>aa (.nx ρ)
theorem IY (m:Md)(he:DE X e f)(hs:nY e ab pos.line X.env=pure af:=by rfl):DS X H0 P0 n0 (.Expr e pos) (rP m f):=PS.imp (ED (ev (H0:=H0) (P0:=P0) m he) hs) fun D σ H gh=>by
 rw[11];rw[21];cases ef;refine⟨B0,ρ,fp,d,S,e1,fun v H' ⟨gu,S',r⟩=>k _ _ gu S'⟩
end
theorem Qh:Aet X (.builtin "isinstance") (fun xs H Q=>∃ x T t b,xs=[x,.ty T]/\TyOf X.K H x t/\Bx X.K t (.type T)=aa b/\Q (.bl b) H):=by
 rw[5];obtain⟨x,T,t,b,rfl,ty,e,q⟩:=h;obtain⟨u,w',rfl,ru,kl⟩:=vals2 r;cases kl;exact Yu I ru ty e fun tk=>⟨.bl b,H,I.tok tk,rfl,q⟩
def CH (x:aE):It:=⟨fun i _=>i<x.cps.size,fun i H v H'=>H'=H/\∃ c,x.cps[i]?=aa c/\v=.str ⟨#[c]⟩,fun i _=>x.cps.size≤i⟩
theorem VE {P:bS}{it:aD}{F5:Tok}{ty:String}
  (W:∀ A':cD,A'.handled=ab->Walks P w A' it [it] [it] x.cps.size (SignAt x) (fun i h=>h.IsStrIter it ty x F5 i))
  (sf:∀ (A:cD) (i:Nat) (s:aH) (Q:aC->aH->Prop) (E:aC->aH->Prop),s.heap.IsStrIter it ty x F5 i->Q (.ref it) s->aJ (aO P w) A (pC (.ref it)) Q E s)
  (rp:["enumerate","zip","dict_itemiterator","dict_reverseitemiterator","odict_iterator","itertools.zip_longest","itertools.pairwise"].contains ty=af) :
  Turn P w K tg (CH x) [it] it (fun i h=>h.IsStrIter it ty x F5 i/\i≤x.cps.size) where
 mem:=by simp
 obj:=fun i h st b hb=>by
  have e:b=it:=by simpa using hb
  subst e;obtain⟨o,e,_,d⟩:=st.1;exact⟨o,e,fun v z=>by rw[d] at z;cases z⟩
 keep:=fun i h h' st k=>⟨let ⟨o,e,r⟩:=st.1;⟨o,k it (by simp) o e,r⟩,st.2⟩
 item:=by
  rw[1];rw[12];refine(W X.A (I.ok.hd hc)).item i s _ _ hg st.1 fun v h' tk hv ak kk=>?_
  obtain⟨c,u,W6,rfl⟩:=hv;have I1:Inv X ad σ H { s with heap:=h',toks:=tk }:=I.turned (fun b o hb e=>kk b o (by simpa using hb) e) f0 f1 f3 f4 f5
  obtain⟨o,e,F6,d⟩:=id ak;exact⟨_,rfl,AX (s:={ s with heap:=h',toks:=tk }) e F6 d rp ⟨.str ⟨#[c]⟩,H,I1,⟨u,rfl⟩,⟨rfl,c,W6,rfl⟩,⟨ak,hg⟩,fun b hb=>(hf b hb).1⟩⟩
 done:=by
  rw[1];rw[12];have hi:i=x.cps.size:=Nat.le_antisymm st.2 hg;subst hi;exact(W X.A (I.ok.hd hc)).done s _ _ st.1 fun h' tk kk=>⟨rfl,I.turned (fun b o hb e=>kk b o (by simpa using hb) e) f0 f1 f3 f4 f5⟩
 self:=fun A i s Q E st h=>sf A i s Q E st.1 h
def Dv (tl:TE):TI:=fun σ H R=>tl σ H fun v H1=>∃ x,v=.str x/\R (CH x) H1
theorem Jk {X:Cx}{l:bF}{tl:TE}(hl:PE X l tl):PI X tg l (Dv tl):=by
 intro ad s σ H R I h;refine a9 (hl ad s σ H _ I h) fun v s1 gh=>?_
 obtain⟨y,H1,I1,r1,q1⟩:=gh;obtain⟨x,rfl,q⟩:=q1;obtain⟨t,rfl⟩:=r1;have fin:∀ (o:bJ) (ty:String),Turn X.prog X.w X.K tg (CH x) [s1.heap.objs.size] s1.heap.objs.size (fun i h=>h.IsStrIter s1.heap.objs.size ty x t i/\i≤x.cps.size)->(s1.heap.push o).IsStrIter s1.heap.objs.size ty x t 0 ->
   N9 X ad σ tg R (.ref s1.heap.objs.size) { s1 with heap:=s1.heap.push o }:=fun o ty T st=>by
  refine⟨s1.heap.objs.size,[s1.heap.objs.size],_,_,H1,rfl,I1.kept (t':=s1.toks) fun b o e=>cL _ e,T,⟨st,dU _⟩,fun b hb=>?_,q⟩
  have e:b=s1.heap.objs.size:=by simpa using hb
  subst e;exact I1.fpOk (bZ _) (I1.hok.fresh (bZ _))
 cases ha:x.cps.all (· < 128)
 ·exact wpAny_pyIter_wide ha (fin _ "str_iterator" (VE (fun A' hA=>Walks.strWide hA _ x t) (fun A i s Q E st h=>wpAny_pyIter_striter_wide st h) (by decide)) ⟨_,eJ _ rfl,rfl,rfl⟩)
 ·exact wpAny_pyIter_ascii ha (fin _ "str_ascii_iterator" (VE (fun A' hA=>Walks.strAscii hA _ x t) (fun A i s Q E st h=>wpAny_pyIter_striter_ascii st h) (by decide)) ⟨_,eJ _ rfl,rfl,rfl⟩)
structure Def (P:bS)(w:bH)(K:aM)(mg:aE->Option aC)(base:aZ)(x:aE)(k:Nat)(ps:List aE)(sp:Sp):Prop where
 ex:∃ f fd,FnOk P w K mg base d9 k f fd ps sp/\mg x=aa (.ref f)/\uO K (.ref f)=ae/\Binds K fd ps []
section
variable {k:Nat}{t:TA}
theorem Io (D:Def X.prog X.w X.K X.mg X.base x k ps sp)(hr:Room k X.A)(hg:Gl X x)(ha:PA X (e::es) t)(n8:(x==("__debug__" : aE))=af:=by decide)(he:cH (e::es) X.env=(af,cE e X.env)::cH es X.env:=by rfl)
  (gs:(iJ pos (cH es X.env)).any (·.1)=af:=by rfl):PE X (.Call (.Name x p) (e::es) [] pos) (QL sp [] E0 t):=by
 obtain⟨f,fd,F,hm,hk,hb⟩:=D.ex;exact Lf F hr hg hm hk hb .nil Fb ha n8 he gs
end
def IB (a b:String):Option Bool:=if (jA a==jA b)=ae then aa ae else if PySem.W.kitMeta b=ae then(fastBuiltinMro a).map (·.contains (.type b)) else ab
theorem Amh{a b:String}:Bx K (.type a) (.type b)=IB a b:=rfl
def kinds:List String:=["NoneType","bool","int","str","list","tuple","dict"]
def gb (t T:String):Bool:=t==T||(t == "bool" && T == "int")
theorem Vx:(kinds.all fun t=>["int","bool","str","list","tuple","dict"].all fun T=>decide (IB t T=aa (gb t T)))=ae:=by rw[0]
theorem La {t:String}(ht:t∈kinds)(hT:T∈["int","bool","str","list","tuple","dict"]):IB t T=aa (gb t T):=by
 have h:=gQ.mp Vx t ht;have h:=gQ.mp h T hT;exact of_decide_eq_true h
def Kd (K:aM)(H:Hp)(x:V)(t:String):Prop:=TyOf K H x (.type t)/\t∈kinds
theorem Kd.int{x:V}(h:Kd K H x "int"):∃ i,x=.int i:=by
 obtain⟨h,_⟩:=h;generalize e:jA "int" = t at h;cases h<;>first|exact⟨_,rfl⟩|exact absurd (Value.type.inj e) (by decide)|cases e
theorem Kd.str{x:V}(h:Kd K H x "str"):∃ i,x=.str i:=by
 obtain⟨h,_⟩:=h;generalize e:jA "str" = t at h;cases h<;>first|exact⟨_,rfl⟩|exact absurd (Value.type.inj e) (by decide)|cases e
theorem Fl(hg:Gl X x)(hm:X.mg x=ab)(hv:qC x=aa (.type T))(hn:x ≠ "__name__":=by decide)(hd:(x==("__debug__" : aE))=af:=by decide):PE X (.Name x pos) (tC (.ty T)):=
 Tf hg hm hv rfl hn hd
theorem boot_isinstance:qC "isinstance" = aa (.builtin "isinstance"):=by rw[0]
theorem bits_le {i:Int}(h:i.natAbs<2^n):Builtin.Int.intBits i≤n:=by
 unfold Builtin.Int.intBits;split
 ·exact dU _
 ·rename_i cf;have h0:i.natAbs≠0:=by
   intro z;apply cf;simp[Int.natAbs_eq_zero.mp z]
  have:i.natAbs.log2<n:=(Nat.log2_lt h0).mpr h;omega
theorem Kh:OpR X (mT .Mult) (rI (fun i j=>i.natAbs<2^1000/\j.natAbs<2^1000) fun i j=>.int (i*j)):=A5 fun i j _ _ _ _ _ hc q=>
 mul_int q (PyProof.Rows.mulOk_of_bits (bits_le hc.1) (bits_le hc.2) (by decide))
theorem hU{k:Nat}(hr:Room k A):A.units+100<cLine:=by
 have:=hr.un;omega
theorem YE:∀ {xs:List V} {us:List aC},xs.length=us.length->(∀ (j:Nat) x u,xs[j]?=aa x->us[j]?=aa u->RelV x u)->Vals xs us
 |[],[],_,_=>.nil
 |[],_::_,h,_=>by simp at h
 |_::_,[],h,_=>by simp at h
 |x::xs,u::us,h,r=>.cons (r 0 x u rfl rfl) (YE (by simpa using h) fun j y w h1 h2=>r (j+1) y w (by simpa using h1) (by simpa using h2))
def rL (c:Nat):V:=.str ⟨#[c]⟩
theorem Oj (hc:X.calm=ae):Aet X (.type "list") (fun xs H Q=>∃ z:aE,xs=[.str z]/\z.length≤sizeLine/\∀ l,H l=ab->Q (.ref l) (aq H l (.lst (z.cps.toList.map rL)))):=by
 rw[5];obtain⟨z,rfl,hz,q⟩:=h;obtain⟨u,rfl,t,rfl⟩:=vals1 r;refine call_list_str (I.ok.hd hc) z t (fun h' tk al c' hk hS gc=>?_) hz
 have hv:Vals (z.cps.toList.map rL) al.toList:=by
  refine YE (by simp[gc.1]) fun j x u h1 h2=>?_
  obtain⟨c,t',F2,rfl⟩:=gc.2 j u (by simpa using h2)
  have:(z.cps.toList.map rL)[j]?=aa (rL c):=by simp[F2]
  rw[this] at h1;cases h1;exact⟨t',rfl⟩
 exact⟨.ref s.heap.objs.size,_,I.laid (o:=.lst (z.cps.toList.map rL)) hk (bZ _) (show Adl X.prog X.w _ h' _ (.lst (z.cps.toList.map rL)) from⟨by rw[eY,jE];exact hz,al.toList,c',hv,by simpa using hS⟩),rfl,q _ I.fresh⟩
theorem Ow {ys:List aE}:∀ {us:List aC},Vals (ys.map V.str) us->StrsAre us ys:=by
 induction ys with
 |nil=>intro us r;cases r;exact .nil
 |cons y r ih=>
  intro us h;cases h with
  |cons h1 h2=>
   obtain⟨t,rfl⟩:=h1;exact .cons y t (ih h2)
theorem Ua:D2 X "str.join" (fun x vs H Q=>∃ jj l ys,x=.str jj/\vs=[.ref l]/\SqL X.K H l (ys.map V.str)/\(ys.map (·.length)).sum+ys.length*jj.length≤16777216/\Q (.str (mV jj ys)) H):=by
 intro ad s σ H x xs v us Q I rx rv h;obtain⟨jj,l,ys,rfl,rfl,hs,hok,q⟩:=h;obtain⟨t,rfl⟩:=rx;obtain⟨u,rfl,ru⟩:=vals1 rv;cases ru;obtain⟨its,r,pl,hz⟩:=I.list hs;refine join_list pl.isList (by simpa using Ow r) hok fun t' k=>?_
 have e:Txt.join jj ys=mV jj ys:=StrLaws.glued_eq_join jj ys;rw[e];exact⟨.str _,H,I.tok k,⟨t',rfl⟩,q⟩
theorem WV:∀ cs:List Nat,mV ⟨#[]⟩ (cs.map fun c=>(⟨#[c]⟩:aE))=⟨cs.toArray⟩
 |[]=>rfl
 |c::r=>by
  rw[eF,join_nil_cons,WV r];show(⟨#[c]++r.toArray⟩:aE)=⟨(c::r).toArray⟩;simp
def qh (K:aM)(B:Hp)(J:It)(ds:List aA):Prop:=∀ (i:Nat) (H2:Hp),Ext B H2 ->
 (∀ d,ds[i]?=aa d->J.go i H2/\∀ x H3,J.yld i H2 x H3->Ext H2 H3/\∀ P2,Hid P2 H2->Ext B (hid H2 P2)->Abz K (hid H3 P2) d x)/\(ds.length=i->J.stop i H2)
def tI (K:aM)(f:AF):TI:=fun σ H R=>∃ P ρ ds,Hid P H/\Amw K (hid H P) ρ σ/\f ρ=aa ds/\∀ J H',Ext H H'->qh K (hid H' P) J ds->R J H'
def tI0 (K:aM)(f:AF):TI:=fun σ H R=>∃ P ρ ds,Hid P H/\Amw K (hid H P) ρ σ/\f ρ=aa ds/\∀ J H',Ext H H'->qh K (fun _=>ab) J ds->R J H'
abbrev DI (X:Cx)(tg e:bF)(f:AF):Prop:=PI X tg e (tI X.K f)
abbrev D0 (X:Cx)(tg e:bF)(f:AF):Prop:=PI X tg e (tI0 X.K f)
def itemsOf:aA->Option (List aA)
 |.list ds=>aa ds
 |.tuple ds=>aa ds
 |.str x=>aa (x.cps.toList.map fun c=>.str ⟨#[c]⟩)
 |_=>ab
def bo (f:EF):AF:=fun ρ=>(f ρ).bind itemsOf
section
variable {a:bF}
theorem PI.imp {t t':TI}(h:PI X tg e t)(w:∀ σ H R,t' σ H R->t σ H R):PI X tg e t':=fun ad s σ H R I q=>h ad s σ H R I (w _ _ _ q)
theorem PI.or {t t':TI}(h:PI X tg e t)(h':PI X tg e t'):PI X tg e (fun σ H R=>t σ H R\/t' σ H R):=fun ad s σ H R I q=>q.elim (h ad s σ H R I) (h' ad s σ H R I)
theorem Wq{a:aD}(h:SqL K B a xs)(r:Aax K B ds xs):qh K B (HW K a) ds:=fun i H2 x2=>by
 have h2:SqL K H2 a xs:=x2.sqL h;refine⟨fun d hd=>?_,fun e=>⟨xs,h2,by rw[r.length];omega⟩⟩
 obtain⟨v,h3,h4⟩:=r.get hd;refine⟨⟨xs,v,h2,h3⟩,?_⟩;rintro x H3 ⟨rfl,hx⟩;have:aa v=aa x:=h3.symm.trans (hx xs h2);cases this;exact⟨Ext.refl,fun P2 _ xb=>h4.ext xb⟩
theorem Kl{a:aD}(h:B a=aa (.tup xs))(r:Aax K B ds xs):qh K B (HV K a) ds:=fun i H2 x2=>by
 have h2:SqT K H2 a xs:=SqT.of (x2 _ _ h);refine⟨fun d hd=>?_,fun e=>⟨xs,h2,by rw[r.length];omega⟩⟩
 obtain⟨v,h3,h4⟩:=r.get hd;refine⟨⟨xs,v,h2,h3⟩,?_⟩;rintro x H3 ⟨rfl,hx⟩;have:aa v=aa x:=h3.symm.trans (hx xs h2);cases this;exact⟨Ext.refl,fun P2 _ xb=>h4.ext xb⟩
theorem KC {z:aE}{c:Nat}(h:dS (.str z)=ae)(hc:z.cps.toList[i]?=aa c):dS (.str ⟨#[c]⟩)=ae:=by
 have hz:∀ d∈z.cps,d<0x110000:=by
  have h':z.cps.all (· < 0x110000)=ae:=by simpa only[dS,NS] using h
  intro d hd;exact of_decide_eq_true (Array.all_eq_true'.mp h' d hd)
 have:=hz c (by simpa using gL hc)
 simp[dS,NS,this]
theorem Lp{z:aE}(hl:dS (.str z)=ae):qh K B (CH z) (z.cps.toList.map fun c=>.str ⟨#[c]⟩):=fun i H2 x2=>by
 refine⟨fun d hd=>?_,fun e=>?_⟩
 ·rw[fW] at hd;cases hc:z.cps.toList[i]? with
  |none=>rw[hc] at hd;simp at hd
  |some c=>
   rw[hc] at hd;have hd:bD ⟨#[c]⟩=d:=by simpa using hd
   subst hd;have bg:i<z.cps.size:=by simpa using(dD.mp hc).1
   refine⟨bg,?_⟩;rintro x H3 ⟨rfl,c',gx,rfl⟩;have:z.cps.toList[i]?=aa c':=by simpa using gx
   rw[hc] at this;cases this;exact⟨Ext.refl,fun P2 _ _=>Aa2.mpr ⟨rfl,KC hl hc⟩⟩
 ·have:z.cps.size=i:=by simpa using e
  exact NY this
theorem Xr{lo:Int}:qh K B (CI lo n) ((dP n).map fun(k:Nat)=>aR (lo+k)):=fun i H2 x2=>by
 refine⟨fun d hd=>?_,fun e=>?_⟩
 ·have bg:i<n:=by
   have:=(dD.mp hd).1;simpa using this
  have kg:aR (lo+i)=d:=by
   rw[fW,OK bg] at hd;simpa using hd
  subst kg;refine⟨bg,?_⟩;rintro x H3 ⟨rfl,rfl⟩;exact⟨Ext.refl,fun P2 _ _=>Aau.mpr rfl⟩
 ·have:n=i:=by simpa using e
  exact NY this
theorem iT {f:EF}(h:DE X e f):DI X tg e (bo f):=PI.imp (PI.or (Jr h) (PI.or (Gy h) (Jk h))) fun σ H R gh=>by
 obtain⟨P,ρ,ds,hP,rs,ef,k⟩:=gh;rw[21];cases d with
 |list ko=>
  have:ko=ds:=by simpa [itemsOf] using ef
  rw[25];refine .inl ⟨P,ρ,_,hP,rs,e1,gF fun v H1 x1 r1=>?_⟩
  obtain⟨a,xs,rfl,hr,rr⟩:=Abg.mp r1;exact⟨a,rfl,⟨xs,Aaz.sqL hr⟩,k _ H1 x1 (Wq hr rr)⟩
 |tuple ko=>
  have:ko=ds:=by simpa [itemsOf] using ef
  rw[25];refine .inr (.inl ⟨P,ρ,_,hP,rs,e1,gF fun v H1 x1 r1=>?_⟩)
  obtain⟨a,xs,rfl,hr,rr⟩:=Aa5.mp r1;exact⟨a,rfl,⟨xs,SqT.of (Aaz _ _ hr)⟩,k _ H1 x1 (Kl hr rr)⟩
 |str z=>
  have:z.cps.toList.map (fun c=>bD ⟨#[c]⟩)=ds:=by simpa [itemsOf] using ef
  rw[25];refine .inr (.inr ⟨P,ρ,_,hP,rs,e1,gF fun v H1 x1 r1=>?_⟩)
  exact⟨z,(Aa2.mp r1).1,k _ H1 x1 (Lp (Aa2.mp r1).2)⟩
 |_=>simp[itemsOf] at ef
def yN (lo hi:Int):Option (List aA):=if -(2^62)≤lo/\lo<2^62 /\ -(2^62)≤hi/\hi<2^62 then aa ((dP (hi-lo).toNat).map fun(k:Nat)=>aR (lo+k)) else ab
def jl (fa:AF):AF:=fun ρ=>(fa ρ).bind fun ds=>match ds with
 |[.int j]=>yN 0 j
 |_=>ab
def iR2 (fa:AF):AF:=fun ρ=>(fa ρ).bind fun ds=>match ds with
 |[.int i,.int j]=>yN i j
 |_=>ab
theorem mM {fa:AF}(hg:Gl X "range")(hm:X.mg "range" = ab)(ha:DA X [a] fa)(hs:cH [a] X.env=[(af,cE a X.env)]:=by rfl):D0 X tg (.Call (.Name "range" p) [a] [] pos) (jl fa):=PI.imp (Nf hg hm ha hs) fun σ H R gh=>by
 obtain⟨P,ρ,ds,hP,rs,ef,k⟩:=gh;obtain⟨as,e1,ef⟩:=av ef;refine⟨P,ρ,as,hP,rs,e1,fun vs H1 x1 r1=>?_⟩
 split at ef
 ·rename_i j;obtain⟨hb,rfl⟩:=dX ef;obtain⟨v,t,rfl,h1,h2⟩:=Aal.mp r1;obtain rfl:=Aat.mp h2;obtain rfl:=Aau.mp h1;have e0:(j-0).toNat=j.toNat:=by simp
  refine⟨j,rfl,hb.2.2.1,hb.2.2.2,k _ H1 x1 ?_⟩;rw[e0];exact Xr
 ·cases ef
theorem vY {f:AF}(h:D0 X tg e f):DI X tg e f:=PI.imp h fun σ H R ⟨P,ρ,ds,hP,rs,ef,k⟩=>⟨P,ρ,ds,hP,rs,ef,fun J H' x it=>k J H' x fun i H2 x2=>by
 obtain⟨h1,h2⟩:=it i H2 (fun _ _ e=>by cases e)
 exact⟨fun d hd=>⟨(h1 d hd).1,fun v H3 y=>⟨((h1 d hd).2 v H3 y).1,fun P2 hp _=>((h1 d hd).2 v H3 y).2 P2 hp fun _ _ e=>by cases e⟩⟩,h2⟩⟩
def tI' (K:aM)(H0:Hp)(P0:aD->Prop)(m:Md)(f:AF):TI:=fun σ H R=>∃ B0 ρ fp ds,Sta K H0 P0 B0 ρ σ H fp/\aV m f ρ=aa ds/\∀ J B1 H',Sta K H0 P0 B1 ρ σ H' fp->Ext B0 B1->qh K B1 J ds->R J H'
theorem Sta.rebase{B1:Hp}{ρ:bM}(S:Sta K H0 P0 B0 ρ σ H fp)(b:Ext B1 (L2.hid H (Hd P0 fp))):Sta K H0 P0 B1 ρ σ H fp:=⟨S.len,S.nd,S.dj,S.own,S.ext,S.hd,b,S.slot⟩
theorem evI {f:AF}(h:DI X tg e f):PI X tg e (tI' X.K H0 P0 .s f):=PI.imp h fun σ H R ⟨B0,ρ,fp,ds,S,ef,k⟩=>
 ⟨Hd P0 fp,vS ρ,ds,S.hid,S.viewS,ef,fun J H' x it=>k J _ H' ((S.grow x).rebase Ext.refl) (S.grow x).base it⟩
theorem Dt {f:AF}(m:Md)(h:D0 X tg e f):PI X tg e (tI' X.K H0 P0 m f):=PI.imp h fun σ H R gh=>by
 obtain⟨B0,ρ,fp,ds,S,ef,k⟩:=gh;have up:∀ {J:It} {B:Hp},qh X.K (fun _=>ab) J ds->qh X.K B J ds:=fun {J B} it i H2 x2=>by
  obtain⟨h1,h2⟩:=it i H2 (fun _ _ e=>by cases e)
  exact⟨fun d hd=>⟨(h1 d hd).1,fun v H3 y=>⟨((h1 d hd).2 v H3 y).1,fun P2 hp _=>((h1 d hd).2 v H3 y).2 P2 hp fun _ _ e=>by cases e⟩⟩,h2⟩
 cases m with
 |s=>exact⟨Hd P0 fp,vS ρ,ds,S.hid,S.viewS,ef,fun J H' x it=>k J _ H' (S.grow x) Ext.refl (up it)⟩
 |a=>exact⟨P0,vA ρ,ds,S.hd.ext S.ext,S.viewA,ef,fun J H' x it=>k J _ H' (S.grow x) Ext.refl (up it)⟩
end
def tG (K:aM)(H0:Hp)(P0:aD->Prop)(T:aA->bM->Option bM):TG:=fun v σ H Q=>∃ B0 ρ fp d ρ',Sta K H0 P0 B0 ρ σ H fp/\Abz K (hid H (Hd P0 fp)) d v/\T d ρ=aa ρ'/\∀ σ' gu,Sta K H0 P0 B0 ρ' σ' H gu->Q σ' H
abbrev DG (X:Cx)(H0:Hp)(P0:aD->Prop)(tg:bF)(T:aA->bM->Option bM):Prop:=PG X tg (tG X.K H0 P0 T)
theorem PG.imp{t t':TG}(h:PG X tg t)(w:∀ v σ H Q,t' v σ H Q->t v σ H Q):PG X tg t':=fun ad s σ H v u Q I r q=>h ad s σ H v u Q I r (w _ _ _ _ q)
theorem Sta.Am8{ρ:bM}(S:Sta K H0 P0 B0 ρ σ H fp)(r:Abz K (L2.hid H (Hd P0 fp)) d v)(hi:i<ρ.length):∃ gu,Sta K H0 P0 B0 (ρ.set i (aa (0,d))) (σ.set i (aa v)) H gu:=by
 have g8:∀ a,Hd P0 (fun j=>if j=ρ.length then [] else fp j) a->Hd P0 fp a:=fun a h=>by
  rcases h with h|⟨j,h⟩
  ·exact .inl h
  ·by_cases hj:j=ρ.length
   ·simp only[hj,if_true] at h;simp at h
   ·simp only[hj,if_false] at h;exact .inr ⟨j,h⟩
 have S2:Sta K H0 P0 B0 ρ σ H (fun j=>if j=ρ.length then [] else fp j):=by
  refine⟨S.len,fun j=>?_,fun j k a h1 h2=>?_,fun j a h1=>?_,S.ext,S.hd,S.base.trans (lT g8),fun j n d e=>?_⟩
  ·by_cases hj:j=ρ.length
   ·simp only[hj,if_true];exact .nil
   ·simp only[hj,if_false];exact S.nd j
  ·by_cases hj:j=ρ.length
   ·simp only[hj,if_true] at h1;simp at h1
   ·by_cases hk:k=ρ.length
    ·simp only[hk,if_true] at h2;simp at h2
    ·simp only[hj,if_false] at h1;simp only[hk,if_false] at h2;exact S.dj j k a h1 h2
  ·by_cases hj:j=ρ.length
   ·simp only[hj,if_true] at h1;simp at h1
   ·simp only[hj,if_false] at h1;exact S.own j a h1
  ·have bg:j<ρ.length:=(dD.mp e).1;have hj:j≠ρ.length:=by omega
   obtain⟨v',h1,h2⟩:=S.slot j n d e;refine⟨v',h1,?_⟩;simp only[hj,if_false];exact h2.keep (lT g8) fun a m=>rfl
 refine Tmp.set (n:=0) ⟨_,S2,?_⟩ hi;rw[20];exact⟨rfl,r.ext (lT g8)⟩
def bw (i:Nat):aA->bM->Option bM:=fun d ρ=>if i<ρ.length then aa (ρ.set i (aa (0,d))) else ab
theorem iW(hN:X.N.Nodup)(hi:X.N[i]?=aa x)(hx:nD X.env.scope x)(hf:X.fn x=ae\/X.env.scope.names.lookup x=aa .local:=by first|exact .inl rfl|exact .inr rfl|assumption):DG X H0 P0 (.Name x pos) (bw i):=
 PG.imp (EI hN hi hx hf) fun v σ H Q gh=>by
  obtain⟨B0,ρ,fp,d,ρ',S,r,ef,k⟩:=gh;obtain⟨hl,rfl⟩:=dX ef;obtain⟨gu,S'⟩:=S.Am8 r hl;exact k _ gu S'
def vU (i j:Nat):aA->bM->Option bM:=fun d ρ=>match d with
 |.tuple [a,b]=>(bw i a ρ).bind fun ρ'=>bw j b ρ'
 |_=>ab
theorem EB{y:aE}{p1 p2:dA}{k}(hc:X.calm=ae)(hN:X.N.Nodup)(hi:X.N[i]?=aa x)(hj:X.N[j]?=aa y)(hx:nD X.env.scope x)(hy:nD X.env.scope y)
  (hf:X.fn x=ae\/X.env.scope.names.lookup x=aa .local:=by first|exact .inl rfl|exact .inr rfl|assumption) (W7:X.fn y=ae\/X.env.scope.names.lookup y=aa .local:=by first|exact .inl rfl|exact .inr rfl|assumption)
  (hn:(oA [.Name x p1,.Name y p2] X.env).length=2:=by rfl) (ki:(oA [.Name x p1,.Name y p2] X.env).findIdx? (·.1)=ab:=by rfl)
  (h1:(oA [.Name x p1,.Name y p2] X.env).map (·.2)=mU (.Name x p1) X.env::(oA [.Name y p2] X.env).map (·.2):=by rfl) (h2:(oA [.Name y p2] X.env).map (·.2)=mU (.Name y p2) X.env::(oA [] X.env).map (·.2):=by rfl):DG X H0 P0 (.Tuple [.Name x p1,.Name y p2] k pos) (vU i j):=
 PG.imp (Iw hc (SY (EI hN hi hx hf) (SY (EI hN hj hy W7) Tn h2) h1) hn ki) fun v σ H Q gh=>by
  obtain⟨B0,ρ,fp,d,ρ',S,r,ef,k⟩:=gh;unfold vU at ef;split at ef
  ·rename_i a b;obtain⟨ρ1,e1,e2⟩:=av ef;obtain⟨l1,rfl⟩:=dX e1;obtain⟨l2,rfl⟩:=dX e2;obtain⟨p,xs,rfl,hp,rr⟩:=Aa5.mp r;obtain⟨v1,t1,rfl,r1,rr⟩:=Aal.mp rr;obtain⟨v2,t2,rfl,r2,rr⟩:=Aal.mp rr;obtain rfl:=Aat.mp rr;refine⟨p,_,rfl,SqT.of (Aaz _ _ hp),rfl,v1,_,rfl,v2,_,rfl,rfl,?_⟩;have Sb:=S.rebase (B1:=hid H (Hd P0 fp)) Ext.refl;obtain⟨Q7,S1⟩:=Sb.Am8 r1 l1;obtain⟨kr,S2⟩:=S1.Am8 (r2.ext S1.base) l2;exact k _ kr (S2.rebase (S.base.trans S2.base))
  ·cases ef
def lY (F:SF)(T:aA->bM->Option bM):List aA->SF
 |[],ρ=>aa (.nx ρ)
 |d::r,ρ=>(T d ρ).bind fun ρ1=>(F ρ1).bind fun o=>match o with
  |.nx ρ'=>lY F T r ρ'
  |.ct ρ'=>lY F T r ρ'
  |.bk ρ'=>aa (.nx ρ')
  |.rt d=>aa (.rt d)
def eP (m:Md)(fi:AF)(T:aA->bM->Option bM)(F:SF):SF:=fun ρ=>(aV m fi ρ).bind fun ds=>lY F T ds ρ
section
variable {body:List cV}{F:SF}{T:aA->bM->Option bM}{fi:AF}{m:Md}
theorem TL (hp:PassesOwn (aO X.prog X.w) X.A X.env X.xe)(hc:X.calm=ae)(hi:PI X tg a8 (tI' X.K H0 P0 m fi))(hg:DG X H0 P0 tg T)(hb:o4 X H0 P0 n0 body F)
  (hs:∀ x,uJ a8 X.env x=pure x:=by intro _;rfl):DS X H0 P0 n0 (.For tg a8 body [] pos) (eP m fi T F):=PS.imp (Gc hp hc hi hg hb hs) fun D σ H gh=>by
 rw[11];obtain⟨ds,e1,ef⟩:=av ef;refine⟨B0,ρ,fp,ds,S,e1,fun J B1 H' S1 xb it=>?_⟩
 refine⟨fun i m σ H=>m=ds.length-i/\i≤ds.length/\∃ ρ fp,Sta X.K H0 P0 B1 ρ σ H fp/\lY F T (ds.drop i) ρ=aa o,⟨ds.length,by simp,dU _,ρ,fp,S1,by simpa using ef⟩,?_⟩
 rintro i m σ2 H2 ⟨rfl,hi,ρ2,kr,S2,e2⟩;have x2:Ext B1 H2:=S2.base.trans Aaz;obtain⟨go,st⟩:=it i H2 x2;by_cases bg:i<ds.length
 ·have hd:ds[i]?=aa ds[i]:=eW bg;rw[CA bg] at e2;obtain⟨ρ3,e3,e2⟩:=av e2;obtain⟨o3,e4,e2⟩:=av e2;obtain⟨g1,g2⟩:=go _ hd;refine .inr ⟨g1,fun σ' H'=>i+1≤ds.length/\∃ ρ fp,Sta X.K H0 P0 B1 ρ σ' H' fp/\lY F T (ds.drop (i+1)) ρ=aa o,fun σ' H' ⟨h1,h2⟩=>⟨ds.length-(i+1),by omega,rfl,h1,h2⟩,fun x H3 y=>?_⟩
  obtain⟨x3,r3⟩:=g2 x H3 y;refine⟨B1,ρ2,kr,_,ρ3,S2.grow x3,r3 _ S2.hid S2.base,e3,fun σ4 W8 S4=>⟨B1,ρ3,W8,o3,S4,e4,?_⟩⟩
  cases o3 with
  |nx ρ5=>exact fun σ5 H5 yf S5=>⟨bg,ρ5,yf,S5,e2⟩
  |ct ρ5=>exact fun σ5 H5 yf S5=>⟨bg,ρ5,yf,S5,e2⟩
  |bk ρ5=>
   cases e2;exact fun σ5 H5 yf S5=>k σ5 H5 yf (S5.rebase (xb.trans S5.base))
  |rt d=>
   cases e2;exact k
 ·have e:i=ds.length:=by omega
  subst e;rw[List.drop_length] at e2;cases e2;exact .inl ⟨st rfl,k σ2 H2 kr (S2.rebase (xb.trans S2.base))⟩
theorem jR (hp:PassesOwn (aO X.prog X.w) X.A X.env X.xe)(hc:X.calm=ae)(hi:DI X tg a8 fi)(hg:DG X H0 P0 tg T)(hb:o4 X H0 P0 n0 body F)
  (hs:∀ x,uJ a8 X.env x=pure x:=by intro _;rfl):DS X H0 P0 n0 (.For tg a8 body [] pos) (eP .s fi T F):=TL hp hc (evI hi) hg hb hs
theorem tR (m:Md)(hp:PassesOwn (aO X.prog X.w) X.A X.env X.xe)(hc:X.calm=ae)(hi:D0 X tg a8 fi)(hg:DG X H0 P0 tg T)(hb:o4 X H0 P0 n0 body F)
  (hs:∀ x,uJ a8 X.env x=pure x:=by intro _;rfl):DS X H0 P0 n0 (.For tg a8 body [] pos) (eP m fi T F):=TL hp hc (Dt m hi) hg hb hs
end
def n5 (T:aA->List (Option aA)->Option (List (Option aA)))(t:BF)(f:EF)(ρ:List (Option aA)):List aA->Option (List aA)
 |[]=>aa []
 |d::r=>(T d ρ).bind fun ρ1=>(t ρ1).bind fun c=>if c=ae then(f ρ1).bind fun y=>(n5 T t f ρ r).bind fun ys=>aa (y::ys) else n5 T t f ρ r
def kZ (cap:List (Option Nat))(ρ:List (Option aA)):List (Option aA):=cap.map fun o=>o.bind fun j=>(ρ[j]?).join
def i8 (cap:List (Option Nat))(fi:AF)(T:aA->List (Option aA)->Option (List (Option aA)))(t:BF)(f:EF):EF:=fun ρ=>(fi ρ).bind fun ds=>(n5 T t f (kZ cap ρ) ds).bind fun ys=>if ds.length≤sizeLine then aa (.list ys) else ab
def D7 (K:aM)(T:aA->List (Option aA)->Option (List (Option aA))):TG:=fun v σ H Q=>∃ P ρ d ρ',Hid P H/\Amw K (hid H P) ρ σ/\Abz K (hid H P) d v/\T d ρ=aa ρ'/\∀ σ',Amw K (hid H P) ρ' σ'->Q σ' H
def D5 (T:aA->List (Option aA)->Option (List (Option aA))):Prop:=∀ d ρ ρ',T d ρ=aa ρ'->∀ (i:Nat) d',ρ[i]?=aa (aa d')->ρ'[i]?=aa (aa d')
def dF:BF:=fun _=>aa ae
def gB (j:Nat):aA->List (Option aA)->Option (List (Option aA)):=fun d ρ=>match ρ[j]? with
 |some ab=>aa (ρ.set j (aa d))
 |_=>ab
theorem An{ρ':List (Option aA)}(h:gB j d ρ=aa ρ'):ρ[j]?=aa ab/\ρ.set j (aa d)=ρ':=by
 unfold gB at h;split at h
 ·rename_i e;exact⟨e,iH h⟩
 ·cases h
theorem nG:D5 (gB j):=fun d ρ ρ' e i d' h=>by
 obtain⟨hj,rfl⟩:=An e;by_cases q:j=i
 ·subst q;rw[hj] at h;cases h
 ·rw[rF q];exact h
section
variable {fi:AF}{T:aA->List (Option aA)->Option (List (Option aA))}{t:BF}{f:EF}
theorem nN:CL X [] (wt X.K dF):=fun ad s σ H Q I gh=>by
 obtain⟨P,ρ,b,hP,rs,ef,k⟩:=gh;cases ef;exact Kk ad s σ H Q I (k H Ext.refl)
theorem Amw.set(h:Amw K B ρ σ)(r:Abz K B d v)(hl:j<σ.length):Amw K B (ρ.set j (aa d)) (σ.set j (aa v)):=fun i d' e=>by
 by_cases q:j=i
 ·subst q;have hj:j<ρ.length:=by
   have:=(dD.mp e).1;simpa using this
  rw[rE hj] at e;rw[30];exact⟨v,rE hl,r⟩
 ·rw[rF q] at e;obtain⟨w,h1,h2⟩:=h i d' e;exact⟨w,by rw[rF q];exact h1,h2⟩
def U8 (X:Cx)(tg:bF)(T:aA->List (Option aA)->Option (List (Option aA))):Prop:=
 ∀ (ad:List (aD×bJ)) (s:aH) (σ:St) (H:Hp) (v:V) (u:aC) (Q:St->Hp->Prop),Inv X ad σ H s->RelV v u->D7 X.K T v σ H Q ->
  aJ (aO X.prog X.w) X.A (mU tg X.env u) (fun _ s'=>∃ σ' H',Inv X ad σ' H' s'/\Q σ' H') X.xe s
theorem nU(hN:X.N.Nodup)(hi:X.N[j]?=aa x)(hx:nD X.env.scope x)(hf:X.fn x=ae\/X.env.scope.names.lookup x=aa .local:=by first|exact .inl rfl|exact .inr rfl|assumption):U8 X (.Name x pos) (gB j):=fun ad s σ H v u Q I r gh=>by
 obtain⟨P,ρ,d,ρ',hP,rs,rd,ef,k⟩:=gh;obtain⟨hj,rfl⟩:=An ef;have hl:j<σ.length:=by rw[I.len];exact(dD.mp hi).1
 exact EI hN hi hx hf ad s σ H v u Q I r (k _ (rs.set rd hl))
theorem Xh(h:Amw K B ρ σ):Amw K B (kZ cap ρ) (vF cap σ):=fun i d e=>by
 unfold kZ at e;unfold vF;rw[fW] at e ⊢;cases hc:cap[i]? with
 |none=>rw[hc] at e;simp at e
 |some o=>
  rw[hc] at e;cases o with
  |none=>simp at e
  |some j=>
   simp only[uR,dB,GW] at e ⊢;obtain⟨v,h1,h2⟩:=h j d (VI e);exact⟨v,by rw[h1];rfl,h2⟩
theorem QC(hT:D5 T):∀ σ H Q,tF K 1 (i8 cap fi T t f) σ H Q->O8 cap (tI K fi) (D7 K T) (wt K t) (tF K 0 f) σ H Q:=fun σ H Q gh=>by
 rw[4];obtain⟨ds,e1,ef⟩:=av ef;obtain⟨all,e2,ef⟩:=av ef;obtain⟨hz,rfl⟩:=dX ef;refine⟨P,ρ,ds,hP,rs,e1,fun J H1 x1 it A hA=>?_⟩
 have hPA:¬ P A:=(hP.ext x1).new hA;have back:∀ {H':Hp} {ys:List V},hid (aq H' A (.lst ys)) (iq P [A])=hid H' (iq P [A]):=fun {H' ys}=>by
  funext b;unfold hid;by_cases hb:iq P [A] b
  ·rw[if_pos hb,if_pos hb]
  ·rw[if_neg hb,if_neg hb];exact fU (fun z=>hb (.inr (by simp[z])))
 refine⟨fun i m ys σ' H'=>m=ds.length-i/\i≤ds.length/\H' A=aa (.lst ys)/\Ext H1 H'/\Ext (hid H1 P) (hid H' (iq P [A]))/\Amw K (hid H' (iq P [A])) (kZ cap ρ) σ'/\ys.length≤i /\
  ∃ done rest,Aax K (hid H' (iq P [A])) done ys/\n5 T t f (kZ cap ρ) (ds.drop i)=aa rest/\all=done++rest,⟨ds.length,?_⟩,?_⟩
 ·have xa:Ext (hid H1 P) (hid (aq H1 A (.lst [])) (iq P [A])):=fun b o e=>by
   obtain⟨nb,e⟩:=Afg.mp e;have hb:b≠A:=mQ e hA;exact lO (fun z=>z.elim nb fun m=>hb (by simpa using m)) (by rw[fU hb];exact e)
  exact⟨by simp,dU _,jK,Ext.new hA,xa,(Xh (rs.ext (fD x1))).ext xa,dU _,[],all,Aat.mpr rfl,by simpa using e2,rfl⟩
 ·rintro i m ys σ' H' ⟨rfl,hi,hD,x2,xb,W9,hl,done,rest,rd,e3,rfl⟩;refine⟨hD,?_⟩;obtain⟨go,st⟩:=it i H' (Aaz.trans x2);have rq:Hid (iq P [A]) H':=fun a h=>by
   rcases h with h|h
   ·exact(hP.ext (x1.trans x2)) a h
   ·have:a=A:=by simpa using h
    rw[25];exact .inl ⟨_,hD⟩
  by_cases bg:i<ds.length
  ·have hd:ds[i]?=aa ds[i]:=eW bg;rw[CA bg] at e3;obtain⟨ρ1,e4,e3⟩:=av e3;obtain⟨c,e5,e3⟩:=av e3;obtain⟨g1,g2⟩:=go _ hd;refine .inr ⟨g1,by omega,fun ys σ' H'=>i+1≤ds.length/\H' A=aa (.lst ys)/\Ext H1 H'/\Ext (hid H1 P) (hid H' (iq P [A]))/\Amw K (hid H' (iq P [A])) (kZ cap ρ) σ'/\ys.length≤i+1 /\
    ∃ d2 r2,Aax K (hid H' (iq P [A])) d2 ys/\n5 T t f (kZ cap ρ) (ds.drop (i+1))=aa r2/\done++rest=d2++r2,fun zs σ2 H2 h=>⟨ds.length-(i+1),by omega,rfl,h⟩,fun x H2 y=>?_⟩
   obtain⟨x3,r3⟩:=g2 x H2 y;refine⟨iq P [A],kZ cap ρ,_,ρ1,rq.ext x3,W9.ext (fD x3),r3 _ rq xb,e4,fun σ3 F7=>?_⟩
   refine⟨iq P [A],ρ1,c,rq.ext x3,F7,e5,fun H4 x4=>?_⟩
   have Q8:Amw K (hid H2 (iq P [A])) (kZ cap ρ) σ3:=fun j d' e=>F7 j d' (hT _ _ _ e4 j d' e)
   cases c with
   |false=>
    rw[if_neg oJ] at e3;refine vI ⟨bg,x4 _ _ (x3 _ _ hD),x2.trans (x3.trans x4),xb.trans (fD (x3.trans x4)),Q8.ext (fD x4),by omega,done,rest,rd.ext (fD (x3.trans x4)),e3,rfl⟩
   |true=>
    rw[if_pos rfl] at e3;obtain⟨yd,e6,e3⟩:=av e3;obtain⟨r2,e7,e3⟩:=av e3;cases e3;refine vE ⟨iq P [A],ρ1,yd,rq.ext (x3.trans x4),F7.ext (fD x4),e6,gF fun v H5 x5 r5=>⟨x5 _ _ (x4 _ _ (x3 _ _ hD)),bg,jK,?_,?_,?_,by simp;omega,done++[yd],r2,?_,e7,by simp⟩⟩
    ·intro b o e;rw[fU (mQ e hA)];exact x5 _ _ (x4 _ _ (x3 _ _ (x2 _ _ e)))
    ·rw[back];exact xb.trans (fD (x3.trans (x4.trans x5)))
    ·rw[back];exact Q8.ext (fD (x4.trans x5))
    ·rw[back];exact(rd.ext (fD (x3.trans (x4.trans x5)))).snoc r5
  ·have e:i=ds.length:=by omega
   subst e;rw[List.drop_length] at e3;cases e3;rw[rG] at k;refine .inl ⟨st rfl,?_⟩;refine k (.ref A) H' [A] (x1.trans x2) (mE.mpr ⟨by simp,.nil⟩) (fun a m=>?_) ⟨A,ys,ys.map fun _=>[],rfl,hD,?_,?_⟩
   ·have:a=A:=by simpa using m
    rw[25];exact⟨x1.none hA,_,hD⟩
   ·have:∀ l:List V,(l.map fun _=>([]:List aD)).flatten=[]:=fun l=>by
     induction l with
     |nil=>rfl
     |cons a l ih=>rw[eF,uX,ih];rfl
    rw[this]
   ·have go:∀ (ds:List aA) (xs:List V),Aax K (hid H' (iq P [A])) ds xs->All3 (Agk K (hid H' (iq P [A])) H' 0) ds xs (xs.map fun _=>[]):=by
     intro ds;induction ds with
     |nil=>intro xs r;rw[Aat.mp r];exact .nil
     |cons d ds ih=>
      intro xs r;obtain⟨y,t,rfl,h1,h2⟩:=Aal.mp r;exact .cons ⟨rfl,h1⟩ (ih t h2)
    exact go _ _ rd
def YZ (X:Cx)(N:List aE)(sc:kE)(tg jo:bF)(jd:List bF)(T:aA->List (Option aA)->Option (List (Option aA)))(t:BF)(f:EF):Prop:=
 ∀ (cl:List (aE×aD)) (C:aD) (s₀:aH) (H₀:Hp) (ex:List aD),U8 (jQ X N sc cl C s₀ H₀ ex) tg T/\CL (jQ X N sc cl C s₀ H₀ ex) jd (wt X.K t)/\DE (jQ X N sc cl C s₀ H₀ ex) jo f
theorem pO (hc:X.calm=ae)(S:CompScope X N cap sc)(hT:D5 T)(hi:DI X tg a8 fi)(hb:YZ X N sc tg jo jd T t f)(hs:∀ x,uJ a8 X.env x=pure x:=by intro _;rfl) :
  DF 1 X (.ListComp jo [⟨tg,a8,jd,0⟩] sc pos) (i8 cap fi T t f):=PE.imp (Gj hc S hi (g:=D7 X.K T) (tc:=wt X.K t) (te:=tF X.K 0 f) hb hs) (QC hT)
theorem UJ(m:Md)(hc:X.calm=ae)(hN:X.N.Nodup)(ni:X.N[i]?=aa x)(hx:nD X.env.scope x)(S:CompScope X N cap sc)(hT:D5 T)(hi:DI X tg a8 fi)(hb:YZ X N sc tg jo jd T t f)
  (pi:nY (.ListComp jo [⟨tg,a8,jd,0⟩] sc pos) (aa (.Name x px)) rn.line X.env=pure ae:=by rfl)
  (hs:∀ x,uJ a8 X.env x=pure x:=by intro _;rfl) (hf:X.fn x=ae\/X.env.scope.names.lookup x=aa .local:=by first|exact .inl rfl|exact .inr rfl|assumption) :
  DS X H0 P0 n0 (.Assign [.Name x px] (.ListComp jo [⟨tg,a8,jd,0⟩] sc pos) rn) (bE i 1 m (i8 cap fi T t f)):=PS.imp (Vy hc hN ni hx S hi (g:=D7 X.K T) (tc:=wt X.K t) (te:=tF X.K 0 f) hb pi hs hf) fun D σ H gh=>by
 rw[11];rw[21];obtain⟨hl,rfl⟩:=dX ef;refine QC hT σ H _ (PV m σ H _ ⟨B0,ρ,fp,d,S,e1,fun v H' t=>?_⟩)
 obtain⟨gu,S'⟩:=t.set hl;exact k _ _ gu S'
end
def outD:Option Out->Option aA
 |some (.rt d)=>aa d
 |some (.nx _)=>aa .none
 |_=>ab
def bh (np n:Nat)(body:SF):List aA->Option aA:=fun ds=>if ds.length=np then outD (body (ds.map (fun d=>aa (0,d))++xV (n-np) ab)) else ab
def ar (K:aM)(n0:Nat)(F:List aA->Option aA):Sp:=fun vs H Q _=>∃ P ds d,Hid P H/\Aax K (hid H P) ds vs/\F ds=aa d/\Res K P n0 d H Q
section
variable {P:bS}{base:aZ}
theorem hE{fd:jD}{k np:Nat}{body:SF}(F:Fun K x qual st f fd)(S:FnScope N ps (cX st))(W':np=ps.length)(hN:ps.length≤N.length)
  (hb:∀ (az:aC) (A:cD) (outer:List Env) (s:aH) (H:Hp) (E:XK) (P0:aD->Prop),Room k (A.deeper (rC qual (cX st) s.heap.objs.size f az))->o4 (sX d9 P w K mg base N qual (cX st) f az A outer s H E).nox H P0 n0 (lE st) body) :
  FnOk P w K mg base d9 (k+1) f fd ps (ar K n0 (bh np N.length body)):=by
 refine F.ok S (fun vs H Q E h=>?_) (fun az A outer s H vs Q E hr h=>?_)
 ·obtain⟨P,ds,d,_,r,ef,_⟩:=h;unfold bh at ef;by_cases hl:ds.length=np
  ·rw[r.length,hl,W']
  ·rw[if_neg hl] at ef;cases ef
 ·obtain⟨P0,ds,d,hP,r,ef,k⟩:=h;refine⟨_,hb az A outer s H E P0 hr,?_⟩;unfold bh at ef;by_cases hl:ds.length=np
  case neg=>rw[if_neg hl] at ef;cases ef
  rw[if_pos hl] at ef;rw[← hl] at ef;have ax:=r.length;have S0:Sta K H P0 (hid H P0) (ds.map (fun d=>aa (0,d))++xV (N.length-ds.length) ab) (start N vs) H (fun _=>[]):=by
   have eH:Hd P0 (fun _=>[])=P0:=by
    funext a;simp[Hd]
   refine⟨by simp[start,ax],fun _=>.nil,fun i j a h=>by simp at h,fun i a h=>by simp at h,Ext.refl,hP,by rw[eH];exact Ext.refl,fun i n' d' e=>?_⟩
   rw[eH];by_cases hi:i<ds.length
   ·rw[yA (by simpa using hi),fW] at e
    cases q:ds[i]? with
    |none=>rw[q] at e;simp at e
    |some d2=>
     rw[q] at e;have e':0=n'/\d2=d':=by simpa using e
     obtain⟨rfl,rfl⟩:=e';obtain⟨v,h1,h2⟩:=r.get q;refine⟨v,?_,rfl,h2⟩;unfold start;rw[yA (by rw[eY,ax];exact hi),fW,h1]
     rfl
   ·rw[uW (by simpa using hi)] at e
    have:=gL e;simp at this
  cases eb:body (ds.map (fun d=>aa (0,d))++xV (N.length-ds.length) ab) with
  |none=>rw[eb] at ef;cases ef
  |some o=>
   rw[eb] at ef;refine⟨_,_,_,o,S0,eb,?_⟩;cases o with
   |rt d'=>
    cases ef;exact fun v H' ⟨Fr,h1,h2,h3,h4⟩=>k v H' Fr h1 h2 h3 h4
   |nx ρ'=>
    cases ef;intro σ' H' gu S';refine k .non H' [] S'.ext .nil (fun a m=>by simp at m) ?_
    cases n0 with
    |zero=>exact⟨rfl,Acj.mpr rfl⟩
    |succ n=>
     unfold Aj2;split
     ·exact .inl ⟨rfl,rfl,rfl⟩
     ·exact⟨rfl,Acj.mpr rfl⟩
   |bk _=>cases ef
   |ct _=>cases ef
variable {k np:Nat}{F:List aA->Option aA}{fa:AF}
theorem cJ (D:Def X.prog X.w X.K X.mg X.base x k ps (ar X.K n0 F))(hr:Room k X.A)(hg:Gl X x)(ha:DA X (e::es) fa)(n8:(x==("__debug__" : aE))=af:=by decide)(he:cH (e::es) X.env=(af,cE e X.env)::cH es X.env:=by rfl)
  (gs:(iJ pos (cH es X.env)).any (·.1)=af:=by rfl):DF n0 X (.Call (.Name x p) (e::es) [] pos) (aN F fa):=
 PE.imp (Io D hr hg ha n8 he gs) fun σ H Q gh=>by
  rw[4];obtain⟨ds,e1,ef⟩:=av ef;refine⟨P,ρ,ds,hP,rs,e1,fun vs H1 x1 r1=>?_⟩
  show ar X.K n0 F (vs++[]) H1 Q E0;rw[rG];exact⟨P,ds,d,hP.ext x1,r1,ef,k.mono x1⟩
end
def eu (g:Int->Int->aA):aA->aA->Option aA
 |.int i,.int j=>aa (g i j)
 |_,_=>ab
def b8 (C:Int->Int->Prop)[∀ i j,Decidable (C i j)](g:Int->Int->aA):aA->aA->Option aA
 |.int i,.int j=>if C i j then aa (g i j) else ab
 |_,_=>ab
theorem ZY {g:Int->Int->V}{gd:Int->Int->aA}(h:∀ i j H,Abz K H (gd i j) (g i j)):m5 K 0 (ql g) (eu gd):=fun P H x y a b d Q hP ra rb e k=>by
 unfold eu at e;split at e
 ·rename_i i j;rw[30];exact⟨i,j,Aau.mp ra,Aau.mp rb,k.zero Ext.refl (h i j _)⟩
 ·rw[30]
theorem FV {C C':Int->Int->Prop}[∀ i j,Decidable (C' i j)]{g:Int->Int->V}{gd:Int->Int->aA}(hC:∀ i j,C' i j->C i j)(h:∀ i j H,Abz K H (gd i j) (g i j)):m5 K 0 (rI C g) (b8 C' gd):=fun P H x y a b d Q hP ra rb e k=>by
 unfold b8 at e;split at e
 ·rename_i i j;rw[28];exact⟨i,j,Aau.mp ra,Aau.mp rb,hC i j hc,k.zero Ext.refl (h i j _)⟩
 ·rw[30]
section
variable {a:bF}{fa fb fc:EF}
def fN:aA->aA->Option aA:=eu fun i j=>.int (i-j)
theorem yU (ha:DE X a fa)(hb:DE X b fb):DE X (.BinOp a .Sub b pos) (ah fN fa fb):=sZ Ho (ZY fun _ _ _=>Aau.mpr rfl) ha hb
def cW:aA->aA->Option aA:=b8 (fun i j=>(i.natAbs<2^64\/j.natAbs<2^64)\/(i.natAbs<2^1000/\j.natAbs<2^1000)) fun i j=>.int (i*j)
theorem Xz:OpR X (mT .Mult) (rI (fun i j=>(i.natAbs<2^64\/j.natAbs<2^64)\/(i.natAbs<2^1000/\j.natAbs<2^1000)) fun i j=>.int (i*j)):=by
 rw[3];obtain⟨i,j,ex,ey,hc,q⟩:=h;rcases hc with hc|hc
 ·refine Hh ad s σ H x y v u Q I rx ry ⟨i,j,ex,ey,?_,q⟩;rcases hc with hc|hc
  ·exact .inl ⟨by omega,by omega⟩
  ·exact .inr ⟨by omega,by omega⟩
 ·exact Kh ad s σ H x y v u Q I rx ry ⟨i,j,ex,ey,hc,q⟩
theorem jY (ha:DE X a fa)(hb:DE X b fb):DE X (.BinOp a .Mult b pos) (ah cW fa fb):=sZ Xz (FV (fun _ _ h=>h) fun _ _ _=>Aau.mpr rfl) ha hb
def eE:aA->aA->Option aA:=b8 (fun _ j=>0<j/\j<1073741824) fun i j=>.int (i/j)
theorem qR (ha:DE X a fa)(hb:DE X b fb):DE X (.BinOp a .FloorDiv b pos) (ah eE fa fb):=sZ Mo (FV (fun _ _ h=>h) fun _ _ _=>Aau.mpr rfl) ha hb
def bN:aA->aA->Option aA:=b8 (fun _ j=>0<j) fun i j=>.int (i%j)
theorem eS (ha:DE X a fa)(hb:DE X b fb):DE X (.BinOp a .Mod b pos) (ah bN fa fb):=sZ Hk (FV (fun _ _ h=>h) fun _ _ _=>Aau.mpr rfl) ha hb
def gA:aA->aA->Option aA:=b8 (fun i j=>0≤j/\j≤1000000/\i.natAbs<2^64) fun i j=>.int (i^j.toNat)
theorem MV (ha:DE X a fa)(hb:DE X b fb):DE X (.BinOp a .Pow b pos) (ah gA fa fb):=sZ Gx (FV (fun _ _ h=>h) fun _ _ _=>Aau.mpr rfl) ha hb
theorem LP {y:aE}(hx:dS (.str x)=ae)(hy:dS (.str y)=ae):dS (.str (x++y))=ae:=by
 have e:(x++y).cps=x.cps++y.cps:=rfl;simp only[dS,NS] at hx hy ⊢;rw[e,Array.all_append,hx,hy]
 rfl
def bL:aA->aA->Option aA
 |.int i,.int j=>aa (.int (i+j))
 |.str x,.str y=>if x.length+y.length≤sizeLine then aa (.str (x++y)) else ab
 |.tuple (x::xs),.tuple ys=>if (x::xs).length+ys.length≤sizeLine then aa (.tuple ((x::xs)++ys)) else ab
 |_,_=>ab
theorem Td:m5 K 0 (fun x y H Q=>ql (fun i j=>.int (i+j)) x y H Q\/(∃ i j,x=.str i/\y=.str j/\i.length+j.length≤sizeLine/\Q (.str (i++j)) H)\/QM K x y H Q) bL:=fun P H x y a b d Q hP ra rb e k=>by
 unfold bL at e;split at e
 ·rename_i i j;rw[30];exact .inl ⟨i,j,Aau.mp ra,Aau.mp rb,k.zero Ext.refl (Aau.mpr rfl)⟩
 ·rename_i i j;rw[28];exact .inr (.inl ⟨i,j,(Aa2.mp ra).1,(Aa2.mp rb).1,hc,k.zero Ext.refl (Aa2.mpr ⟨rfl,LP (Aa2.mp ra).2 (Aa2.mp rb).2⟩)⟩)
 ·rename_i z zs ys;rw[28];obtain⟨p,us,rfl,hp,r1⟩:=Aa5.mp ra;obtain⟨q,ws,rfl,hq,r2⟩:=Aa5.mp rb;have l1:=r1.length;have l2:=r2.length;refine .inr (.inr ⟨p,q,us,ws,rfl,rfl,SqT.of (Aaz _ _ hp),SqT.of (Aaz _ _ hq),fun z=>by rw[z] at l1;simp at l1,by rw[l1,l2];exact hc,fun z=>?_,fun z r hr=>?_⟩)
  ·subst z;have:ys=[]:=by simpa using l2.symm
   rw[25];refine k.zero Ext.refl ?_;rw[rG];exact ra
  ·exact k.tup hP hr (r1.append r2)
 ·rw[30]
theorem eR (ha:DE X a fa)(hb:DE X b fb):DE X (.BinOp a .Add b pos) (ah bL fa fb):=sZ (Bfh.or (Awr.or Mi)) Td ha hb
mutual
def noDict:aA->Bool
 |.dict _=>af
 |.list ds=>noDicts ds
 |.tuple ds=>noDicts ds
 |_=>ae
def noDicts:List aA->Bool
 |[]=>ae
 |d::r=>noDict d&&noDicts r
end
mutual
theorem pS {X:Cx}(I:Inv X ad σ H s):∀ {d:aA} {v:V} {u:aC},noDict d=ae->Abz X.K H d v->RelV v u->d.canLay0=ae/\∃ as,lH s.heap u d as
 |.none,v,u,_,h,r=>by
  obtain rfl:=Acj.mp h;cases r;exact⟨by simp[dS],_,.none⟩
 |.bool b,v,u,_,h,r=>by
  obtain rfl:=Aa3.mp h;cases r;exact⟨by simp[dS],_,.bool b⟩
 |.int i,v,u,_,h,r=>by
  obtain rfl:=Aau.mp h;obtain⟨t,rfl⟩:=r;exact⟨by simp[dS],_,.int i t⟩
 |.str x,v,u,_,h,r=>by
  obtain⟨rfl,hl⟩:=Aa2.mp h;obtain⟨t,rfl⟩:=r;exact⟨hl,_,.str x t⟩
 |.list ds,v,u,n,h,r=>by
  obtain⟨a,xs,rfl,hs,hr⟩:=Abg.mp h;cases r;obtain⟨its,rv,⟨o,m,e,hc,_,hd⟩,_⟩:=I.list hs;obtain⟨hl,as,ha⟩:=ME I (by simpa [noDict] using n) hr rv
  exact⟨by simpa [dS] using hl,_,.list e hc hd (by simpa using ha)⟩
 |.tuple ds,v,u,n,h,r=>by
  obtain⟨a,xs,rfl,hs,hr⟩:=Aa5.mp h;cases r;obtain⟨its,rv,⟨o,e,hc,m,hd⟩,_⟩:=I.tuple (SqT.of hs);obtain⟨hl,as,ha⟩:=ME I (by simpa [noDict] using n) hr rv
  exact⟨by simpa [dS] using hl,_,.tuple e hc hd (by simpa using ha)⟩
 |.dict _,_,_,n,h,_=>by simp[noDict] at n
theorem ME {X:Cx}(I:Inv X ad σ H s):∀ {ds:List aA} {vs:List V} {us:List aC},noDicts ds=ae->Aax X.K H ds vs->Vals vs us->BI ds=ae/\∃ as,mW s.heap us ds as
 |[],vs,us,_,h,r=>by
  obtain rfl:=Aat.mp h;cases r;exact⟨by simp[BI],_,.nil⟩
 |d::ds,vs,us,n,h,r=>by
  have n':noDict d=ae/\noDicts ds=ae:=by simpa [noDicts] using n
  obtain⟨x,rr,rfl,h1,h2⟩:=Aal.mp h;cases r with
  |cons r1 r2=>
   obtain⟨l1,as,ha⟩:=pS I n'.1 h1 r1;obtain⟨l2,bs,hb⟩:=ME I n'.2 h2 r2;exact⟨by simp[BI,l1,l2],_,.cons ha hb⟩
end
def cM (d:aA):Bool:=noDict d&&decide (d.depth≤60)
def cq:aA->aA->Option aA:=fun a b=>if (cM a&&cM b)=ae then aa (.bool (bQ a b)) else ab
def dg:aA->aA->Option aA:=fun a b=>if (cM a&&cM b)=ae then aa (.bool (!bQ a b)) else ab
def CJ (K:aM)(neg:Bool):R2:=fun x y H Q=>∃ da db,Abz K H da x/\Abz K H db y/\cM da=ae/\cM db=ae/\Q (.bl (neg != bQ da db)) H
theorem rR (hu:X.A.units+100<cLine):OpR X (kC .Eq) (CJ X.K af):=by
 rw[3];obtain⟨da,db,ra,rb,fa,fb,q⟩:=h;have t4:noDict da=ae/\da.depth≤60:=by simpa [cM] using fa
 have F8:noDict db=ae/\db.depth≤60:=by simpa [cM] using fb
 obtain⟨la,as,ra⟩:=pS I t4.1 ra rx;obtain⟨lb,bs,rb⟩:=pS I F8.1 rb ry;exact SeqAt.compareEq_reads ra rb la lb (by omega) ⟨.bl _,H,I,rfl,by simpa using q⟩
theorem CY (hu:X.A.units+100<cLine):OpR X (kC .NotEq) (CJ X.K ae):=by
 rw[3];obtain⟨da,db,ra,rb,fa,fb,q⟩:=h;have t4:noDict da=ae/\da.depth≤60:=by simpa [cM] using fa
 have F8:noDict db=ae/\db.depth≤60:=by simpa [cM] using fb
 obtain⟨la,as,ra⟩:=pS I t4.1 ra rx;obtain⟨lb,bs,rb⟩:=pS I F8.1 rb ry;exact SeqAt.compareNe_reads ra rb la lb (by omega) ⟨.bl _,H,I,rfl,by simpa using q⟩
theorem rT:m5 K 0 (CJ K af) cq:=fun P H x y a b d Q hP ra rb e k=>by
 rw[28];have gx:cM a=ae/\cM b=ae:=by simpa using hc
 exact⟨a,b,ra.ext Aaz,rb.ext Aaz,gx.1,gx.2,k.zero Ext.refl (Aa3.mpr (by simp))⟩
theorem CZ:m5 K 0 (CJ K ae) dg:=fun P H x y a b d Q hP ra rb e k=>by
 rw[28];have gx:cM a=ae/\cM b=ae:=by simpa using hc
 exact⟨a,b,ra.ext Aaz,rb.ext Aaz,gx.1,gx.2,k.zero Ext.refl (Aa3.mpr (by simp))⟩
def PN (K:aM)(neg:Bool):R2:=fun x y H Q=>∃ d ds,Abz K H d x/\(Abz K H (.list ds) y\/Abz K H (.tuple ds) y)/\cM d=ae/\noDicts ds=ae/\Q (.bl (neg != ds.any fun z=>bQ z d)) H
theorem Xt (hu:X.A.units+100<cLine):OpR X (kC .NotIn) (PN X.K ae):=by
 rw[3];obtain⟨d,ds,ra,rb,fa,fb,q⟩:=h;have t4:noDict d=ae/\d.depth≤60:=by simpa [cM] using fa
 obtain⟨la,as,ra⟩:=pS I t4.1 ra rx;rcases rb with rb|rb
 ·obtain⟨lb,bs,rb⟩:=pS I (by simpa [noDict] using fb) rb ry
  exact SeqAt.notIn_list_reads rb ra (by simpa [dS] using lb) la (by omega) ⟨.bl _,H,I,rfl,by simpa using q⟩
 ·obtain⟨lb,bs,rb⟩:=pS I (by simpa [noDict] using fb) rb ry
  exact SeqAt.notIn_tuple_reads rb ra (by simpa [dS] using lb) la (by omega) ⟨.bl _,H,I,rfl,by simpa using q⟩
end
theorem PE.or{t t':TE}(h:PE X e t)(h':PE X e t'):PE X e (fun σ H Q=>t σ H Q\/t' σ H Q):=fun ad s σ H Q I q=>q.elim (h ad s σ H Q I) (h' ad s σ H Q I)
def f9:aA->aA->Option aA
 |.int i,.int j=>aa (.bool (decide (i<j)))
 |.str i,.str j=>aa (.bool (decide (i.cps.toList<j.cps.toList)))
 |_,_=>ab
def i5:aA->aA->Option aA
 |.int i,.int j=>aa (.bool (decide (i≤j)))
 |.str i,.str j=>aa (.bool (!(decide (j.cps.toList<i.cps.toList))))
 |_,_=>ab
def bz:aA->aA->Option aA:=eu fun i j=>.bool (decide (j<i))
def i4:aA->aA->Option aA:=eu fun i j=>.bool (decide (j≤i))
theorem IW:m5 K 0 (fun x y H Q=>ql (fun i j=>.bl (decide (i<j))) x y H Q\/∃ i j,x=.str i/\y=.str j/\Q (.bl (decide (i.cps.toList<j.cps.toList))) H) f9:=fun P H x y a b d Q hP ra rb e k=>by
 unfold f9 at e;split at e
 ·rw[30];exact .inl ⟨_,_,Aau.mp ra,Aau.mp rb,k.zero Ext.refl (Aa3.mpr rfl)⟩
 ·rw[30];exact .inr ⟨_,_,(Aa2.mp ra).1,(Aa2.mp rb).1,k.zero Ext.refl (Aa3.mpr rfl)⟩
 ·rw[30]
theorem pP:m5 K 0 (ql fun i j=>.bl (decide (j<i))) bz:=ZY fun _ _ _=>Aa3.mpr rfl
def IK:aA->aA->Option aA
 |.none,.none=>aa (.bool af)
 |_,.none=>aa (.bool ae)
 |_,_=>ab
theorem Nh{a:aA}{x:V}(r:Abz K H a x):decide (x=.non)=(match a with|.none=>ae|_=>af):=by
 cases a with
 |none=>obtain rfl:=Acj.mp r;rfl
 |bool b=>obtain rfl:=Aa3.mp r;rfl
 |int b=>obtain rfl:=Aau.mp r;rfl
 |str b=>obtain⟨rfl,_⟩:=Aa2.mp r;rfl
 |list b=>obtain⟨_,_,rfl,_⟩:=Abg.mp r;rfl
 |tuple b=>obtain⟨_,_,rfl,_⟩:=Aa5.mp r;rfl
 |dict b=>obtain⟨_,rfl,_⟩:=Adt.mp r;rfl
theorem Vm:m5 K 0 (fun x y H Q=>y=.non/\Q (.bl (!decide (x=.non))) H) IK:=fun P H x y a b d Q hP ra rb e k=>by
 have q:=Nh ra;unfold IK at e;split at e
 ·rw[30];exact⟨Acj.mp rb,k.zero Ext.refl (Aa3.mpr (by rw[q];rfl))⟩
 ·rename_i h;rw[30];refine⟨Acj.mp rb,k.zero Ext.refl (Aa3.mpr ?_)⟩;rw[q];cases a<;>first|rfl|exact(h rfl).elim
 ·rw[30]
def dI:aA->Option aP
 |.int i=>aa (.inl i)
 |.str x=>aa (.inr x)
 |_=>ab
theorem LV(h:dI d=aa k):d=kD k:=by
 cases d<;>simp[dI] at h<;>subst h<;>rfl
def dH (kds:List (aA×aA))(k:aP):Option aA:=(kds.find? fun kd=>decide (dI kd.1=aa k)).map (·.2)
theorem Agx (k:aP):dI (kD k)=aa k:=by cases k<;>rfl
theorem wJ:∀ {kds:List (aA×aA)} {kvs:List (aP×V)},Aca K H kds kvs->(dH kds k=ab/\jH kvs k=ab)\/∃ d v,dH kds k=aa d/\jH kvs k=aa v/\Abz K H d v
 |[],kvs,h=>by rw[Acf.mp h];exact .inl ⟨rfl,rfl⟩
 |(k0,d)::r,kvs,h=>by
  obtain⟨k',x,rr,rfl,rfl,h1,h2⟩:=Abf.mp h;by_cases e:k'=k
  ·refine .inr ⟨d,x,?_,zN e,h1⟩;simp[dH,kF,Agx,e]
  ·have e1:dH ((kD k',d)::r) k=dH r k:=by simp[dH,kF,Agx,e]
   rw[e1,zO e];exact wJ h2
theorem YC:∀ {kds:List (aA×aA)} {kvs:List (List aA×V)},Adc K H kds kvs->dH kds k=ab
 |[],kvs,h=>rfl
 |(k0,d)::r,kvs,h=>by
  obtain⟨k',x,rr,rfl,⟨rfl,_⟩,h1,h2⟩:=Aco.mp h;have e1:dH ((.tuple k',d)::r) k=dH r k:=by simp[dH,kF,dI]
  rw[e1];exact YC h2
theorem Xf(h:Abz K H (.dict kds) v)(e:dH kds k=aa d):∃ a,∃ kvs:Nat×List (aP×V),v=.ref a/\H a=aa (.dK kvs.1 kvs.2)/\Aca K H kds kvs.2:=by
 obtain⟨a,ev,⟨kvs,h1,r⟩|⟨ts,h1,r⟩|⟨xs,h1,r⟩⟩:=Adt.mp h
 case inr.inr=>
  obtain⟨es,rfl,_⟩:=KZ r;rw[30]
 ·exact⟨a,kvs,ev,h1,r⟩
 ·cases kds with
  |nil=>simp[Ax5] at r
  |cons p q=>
   obtain⟨k0,m⟩:=p;obtain⟨rfl,r2⟩:=Af7.mp r;have e1:dH ((.none,m)::q) k=dH q k:=by simp[dH,kF,dI]
   rw[e1,YC r2] at e;rw[30]
def nH (kds:List (aA×aA))(k:List aA):Option aA:=(kds.find? fun kd=>bQ kd.1 (.tuple k)).map (·.2)
theorem Ar (a b:List aA):bQ (.tuple a) (.tuple b)=jO a b:=by simp[bQ]
theorem XY {a k:List aA}{r:List (aA×aA)}(ha:cA a=ae)(hk:cA k=ae):nH ((.tuple a,d)::r) k=if a=k then aa d else nH r k:=by
 have e:bQ (.tuple a) (.tuple k)=decide (a=k):=by rw[Ar,zT _ _ ha hk]
 unfold nH;rw[kF,e];by_cases h:a=k
 ·rw[if_pos h,decide_eq_true h];rfl
 ·rw[if_neg h,decide_eq_false h]
theorem LJ{k:List aA}(hk:cA k=ae):∀ {kds:List (aA×aA)} {kvs:List (List aA×V)},Adc K H kds kvs->(nH kds k=ab/\jH kvs k=ab)\/∃ d v,nH kds k=aa d/\jH kvs k=aa v/\Abz K H d v
 |[],kvs,h=>by rw[Aei.mp h];exact .inl ⟨rfl,rfl⟩
 |(k0,d)::r,kvs,h=>by
  obtain⟨k',x,rr,rfl,⟨rfl,dh⟩,h1,h2⟩:=Aco.mp h;rw[XY dh hk];by_cases e:k'=k
  ·rw[if_pos e];exact .inr ⟨d,x,rfl,zN e,h1⟩
  ·rw[if_neg e,zO e];exact LJ hk h2
def putD (kds:List (aA×aA))(k:aP)(d:aA):List (aA×aA):=
 if (kds.any fun kd=>decide (dI kd.1=aa k))=ae then kds.map fun kd=>if dI kd.1=aa k then(kd.1,d) else kd else kds++[(kD k,d)]
theorem RO:∀ {kds:List (aA×aA)} {kvs:List (aP×V)},Aca K H kds kvs->(kds.any fun kd=>decide (dI kd.1=aa k))=kvs.any fun kv=>decide (kv.1=k)
 |[],kvs,h=>by rw[Acf.mp h];rfl
 |(k0,d)::r,kvs,h=>by
  obtain⟨k',x,rr,rfl,rfl,h1,h2⟩:=Abf.mp h;rw[CC,CC,RO h2,Agx];simp
theorem KB(rv:Abz K H d v):∀ {kds:List (aA×aA)} {kvs:List (aP×V)},Aca K H kds kvs ->
  Aca K H (kds.map fun kd=>if dI kd.1=aa k then(kd.1,d) else kd) (kvs.map fun kv=>if kv.1=k then(kv.1,v) else kv)
 |[],kvs,h=>by rw[Acf.mp h];exact Acf.mpr rfl
 |(k0,d0)::r,kvs,h=>by
  obtain⟨k',x,rr,rfl,rfl,h1,h2⟩:=Abf.mp h;rw[eF,eF];by_cases e:k'=k
  ·rw[if_pos (show dI (kD k',d0).1=aa k by rw[Agx,e]),if_pos (show(k',x).1=k from e)]
   exact Abf.mpr ⟨k',v,_,rfl,rfl,rv,KB rv h2⟩
  ·rw[if_neg (show ¬ dI (kD k',d0).1=aa k by rw[Agx];simpa using e),if_neg (show ¬ (k',x).1=k from e)]
   exact Abf.mpr ⟨k',x,_,rfl,rfl,h1,KB rv h2⟩
theorem Aca.snoc(rv:Abz K H d v):∀ {kds:List (aA×aA)} {kvs:List (aP×V)},Aca K H kds kvs->Aca K H (kds++[(kD k,d)]) (kvs++[(k,v)])
 |[],kvs,h=>by rw[Acf.mp h];exact Abf.mpr ⟨k,v,[],rfl,rfl,rv,Acf.mpr rfl⟩
 |(k0,d0)::r,kvs,h=>by
  obtain⟨k',x,rr,rfl,rfl,h1,h2⟩:=Abf.mp h;exact Abf.mpr ⟨k',x,_,rfl,rfl,h1,Aca.snoc rv h2⟩
theorem JI{kvs:List (aP×V)}(h:Aca K H kds kvs)(rv:Abz K H d v):Aca K H (putD kds k d) (putK kvs k v):=by
 unfold putD putK;rw[RO h];by_cases q:(kvs.any fun kv=>decide (kv.1=k))=ae
 ·rw[if_pos q,if_pos q];exact KB rv h
 ·rw[if_neg q,if_neg q];exact Aca.snoc rv h
theorem Aca.length:∀ {kds:List (aA×aA)} {kvs:List (aP×V)},Aca K H kds kvs->kvs.length=kds.length
 |[],kvs,h=>by rw[Acf.mp h];rfl
 |(k0,d0)::r,kvs,h=>by
  obtain⟨k',x,rr,rfl,rfl,h1,h2⟩:=Abf.mp h;rw[iB,iB,Aca.length h2]
theorem rZ{x:V}(h:dI d=aa k)(r:Abz K H d x):x=kV k:=by
 rw[LV h] at r;exact Qe r
def a5:aA->aA->Option aA
 |.list ds,.int i=>gq ds i
 |.tuple ds,.int i=>gq ds i
 |.str z,.int i=>if z.length≤sizeLine then(gq z.cps.toList i).bind fun c=>aa (.str ⟨#[c]⟩) else ab
 |.dict kds,d=>(dI d).bind fun k=>dH kds k
 |_,_=>ab
theorem QV{i:Int}(r:Aax K H ds xs)(h:gq ds i=aa d):∃ v,gq xs i=aa v/\Abz K H d v:=by
 unfold gq at h ⊢;rw[r.length];obtain⟨j,h1,h2⟩:=av h;obtain⟨v,h3,h4⟩:=r.get h2;exact⟨v,by rw[h1];exact h3,h4⟩
theorem Kw {α:Type}{xs:List α}{i:Int}{x:α}(h:gq xs i=aa x):∃ j:Nat,xs[j]?=aa x:=by
 unfold gq at h;obtain⟨j,h1,h2⟩:=av h;exact⟨j,h2⟩
section
variable {a:bF}{fa fb f:EF}
theorem eQ (hu:X.A.units+40<cLine)(ha:DE X a fa)(hb:DE X b fb)(hs:Bf b):DE X (.Subscript a b pos) (ah a5 fa fb):=PE.imp (PE.or (Fz Ka ha hb hs) (To hu ha hb hs)) fun σ H Q h=>by
 obtain⟨P,ρ,d,hP,rs,ef,k⟩:=h;obtain⟨d1,e1,de⟩:=av ef;obtain⟨d2,e2,b9⟩:=av de;clear ef de;have seq:(∀ (H2:Hp) (v u:V),Ext H H2->Abz X.K (hid H2 P) d1 v->Abz X.K (hid H2 P) d2 u->O7 X.K v u H2 Q)->xj (O7 X.K) (tF X.K 0 fa) (tF X.K 0 fb) σ H Q:=fun z=>
  ⟨P,ρ,d1,hP,rs,e1,gF fun v H1 x1 r1=>⟨P,ρ,d2,hP.ext x1,rs.ext (fD x1),e2,gF fun u H2 x2 r2=>z H2 v u (x1.trans x2) (r1.ext (fD x2)) r2⟩⟩
 cases d1 with
 |list ds=>
  cases d2 with
  |int i=>
   refine .inl (seq fun H2 v u x r1 r2=>.inl ?_)
   obtain⟨q,xs,rfl,hq,rr⟩:=Abg.mp r1;obtain⟨w,h1,h2⟩:=QV rr (show gq ds i=aa d from b9)
   exact⟨q,xs,i,w,rfl,Aau.mp r2,Aaz.sqL hq,h1,k.zero x h2⟩
  |_=>cases b9
 |tuple ds=>
  cases d2 with
  |int i=>
   refine .inl (seq fun H2 v u x r1 r2=>.inr (.inl ?_))
   obtain⟨q,xs,rfl,hq,rr⟩:=Aa5.mp r1;obtain⟨w,h1,h2⟩:=QV rr (show gq ds i=aa d from b9)
   exact⟨q,xs,i,w,rfl,Aau.mp r2,SqT.of (Aaz _ _ hq),h1,k.zero x h2⟩
  |_=>cases b9
 |str z=>
  cases d2 with
  |int i=>
   have b9:(if z.length≤sizeLine then(gq z.cps.toList i).bind fun c=>aa (.str ⟨#[c]⟩) else ab)=aa d:=b9
   by_cases hz:z.length≤sizeLine
   ·rw[if_pos hz] at b9;obtain⟨c,h1,h2⟩:=av b9;cases h2;obtain⟨j,hj⟩:=Kw h1;refine .inl (seq fun H2 v u x r1 r2=>.inr (.inr ⟨z,i,c,(Aa2.mp r1).1,Aau.mp r2,hz,h1,k.zero x (Aa2.mpr ⟨rfl,KC (Aa2.mp r1).2 hj⟩)⟩))
   ·rw[if_neg hz] at b9;cases b9
  |_=>cases b9
 |dict kds=>
  obtain⟨kk,h1,h2⟩:=av (show((dI d2).bind fun k=>dH kds k)=aa d by cases d2<;>exact b9)
  refine .inr ⟨P,ρ,_,hP,rs,e1,gF fun v H1 x1 r1=>⟨P,ρ,d2,hP.ext x1,rs.ext (fD x1),e2,gF fun u H2 x2 r2=>?_⟩⟩
  obtain⟨q,kvs,rfl,hq,rr⟩:=Xf (r1.ext (fD x2)) h2;rcases wJ (k:=kk) rr with⟨n1,_⟩|⟨d',v',s1,s2,rd⟩
  ·rw[h2] at n1;cases n1
  ·rw[h2] at s1;cases s1;refine⟨q,v',rfl,.inl ⟨kvs.1,kvs.2,kk,.inl (Aaz _ _ hq),rZ h1 r2,s2.symm⟩,k.zero (x1.trans x2) rd⟩
 |_=>cases d2<;>cases b9
def PL (neg:Bool):aA->List (aA×aA)->Option aA
 |.tuple _,(_,.list _)::_=>ab
 |.tuple k,(_,_)::kds=>if (cA k&&decide (bX k≤6))=ae then aa (.bool (neg != (nH kds k).isSome)) else ab
 |_,_=>ab
def l4 (neg:Bool):aA->aA->Option aA
 |d,.list ds=>if (cM d&&noDicts ds)=ae then aa (.bool (neg != ds.any fun z=>bQ z d)) else ab
 |d,.tuple ds=>if (cM d&&noDicts ds)=ae then aa (.bool (neg != ds.any fun z=>bQ z d)) else ab
 |.str i,.str j=>aa (.bool (neg != !(Dj j i 0 j.length 1).isEmpty))
 |d,.dict kds=>if gw kds=ae then(dI d).bind fun k=>aa (.bool (neg != (dH kds k).isSome)) else PL neg d kds
 |_,_=>ab
def Ab (K:aM)(neg:Bool):R2:=fun x y H Q=>PN K neg x y H Q\/(∃ i j,x=.str i/\y=.str j/\Q (.bl (neg != !(Dj j i 0 j.length 1).isEmpty)) H)\/∃ a o,y=.ref a/\A7j H a x o/\Q (.bl (neg != o.isSome)) H
theorem FO (hu:X.A.units+100<cLine):OpR X (kC .NotIn) (Ab X.K ae):=by
 rw[3];rcases h with h|⟨i,j,ex,ey,q⟩|⟨a,o,rfl,g,q⟩
 ·exact Xt hu ad s σ H x y v u Q I rx ry h
 ·exact Rg ad s σ H x y v u Q I rx ry ⟨i,j,ex,ey,by simpa using q⟩
 ·cases ry;exact Ky (by omega) I g rx fun s' I'=>⟨.bl _,H,I',rfl,by simpa using q⟩
theorem CS{neg:Bool}:m5 K 0 (Ab K neg) (l4 neg):=fun P H x y a b d Q hP ra rb e k=>by
 unfold l4 at e;split at e
 ·rw[28];have gx:=kT.mp hc;exact .inl ⟨a,_,ra.ext Aaz,.inl (rb.ext Aaz),gx.1,gx.2,k.zero Ext.refl (Aa3.mpr rfl)⟩
 ·rw[28];have gx:=kT.mp hc;exact .inl ⟨a,_,ra.ext Aaz,.inr (rb.ext Aaz),gx.1,gx.2,k.zero Ext.refl (Aa3.mpr rfl)⟩
 ·rw[30];exact .inr (.inl ⟨_,_,(Aa2.mp ra).1,(Aa2.mp rb).1,k.zero Ext.refl (Aa3.mpr rfl)⟩)
 ·rename_i kds;by_cases pk:gw kds=ae
  case neg=>
   rw[if_neg pk] at e;have ek:∃ m r,kds=(.none,m)::r:=by
    cases kds with
    |nil=>simp[gw] at pk
    |cons p r=>
     obtain⟨k0,m⟩:=p;cases k0<;>simp[gw] at pk;exact⟨m,r,rfl⟩
   obtain⟨m,r,rfl⟩:=ek;cases a with
   |tuple kk=>
    have hm:∀ es,m ≠ .list es:=by
     rintro es rfl;rw[30]
    replace e:(if (cA kk&&decide (bX kk≤6))=ae then aa (qE (neg != (nH r kk).isSome)) else ab)=aa d:=by
     cases m with
     |list es=>exact absurd rfl (hm es)
     |_=>exact e
    rw[28];have gx:cA kk=ae/\bX kk≤6:=by simpa using hc
    obtain⟨q,ts,rfl,hq,rr⟩:=(LD hm).mp rb;obtain⟨b,xs,rfl,hb,rx⟩:=Aa5.mp (ra.ext Aaz);refine .inr (.inr ⟨q,jH ts kk,rfl,.inr ⟨ts,kk,b,.inl (Aaz _ _ hq),rfl,⟨gx.1,gx.2,xs,hb,Aax.keys kk gx.1 rx⟩,rfl⟩,k.zero Ext.refl (Aa3.mpr ?_)⟩);rcases LJ gx.1 rr with⟨n1,n2⟩|⟨d',v',s1,s2,rd⟩
    ·rw[n1,n2];rfl
    ·rw[s1,s2];rfl
   |_=>simp[PL] at e
  rw[if_pos pk] at e;obtain⟨kk,h1,h2⟩:=av e;cases h2;obtain⟨q,kvs,rfl,hq,rr⟩:=(rX pk).mp rb;refine .inr (.inr ⟨q,jH kvs.2 kk,rfl,.inl ⟨kvs.1,kvs.2,kk,.inl (Aaz _ _ hq),rZ h1 ra,rfl⟩,k.zero Ext.refl (Aa3.mpr ?_)⟩);rcases wJ (k:=kk) rr with⟨n1,n2⟩|⟨d',v',s1,s2,rd⟩
  ·rw[n1,n2];rfl
  ·rw[s1,s2];rfl
 ·rw[30]
end
def cI:List aA->Option aA
 |[.list ds]=>aa (.int ds.length)
 |[.tuple ds]=>aa (.int ds.length)
 |[.dict kds]=>if gw kds=ae then aa (.int kds.length) else ab
 |[.str z]=>if z.length≤sizeLine then aa (.int z.length) else ab
 |_=>ab
theorem jT(r:Aax K H [d] xs):∃ v,xs=[v]/\Abz K H d v:=by
 obtain⟨v,t,rfl,h1,h2⟩:=Aal.mp r;obtain rfl:=Aat.mp h2;exact⟨v,rfl,h1⟩
section
def PX (K:aM):List V->Hp->VK->Prop:=fun xs H Q=>(∃ p ys,xs=[.ref p]/\(SqL K H p ys\/SqT K H p ys)/\Q (.int ys.length) H)\/(∃ z,xs=[.str z]/\z.length≤sizeLine/\Q (.int z.length) H)\/∃ a ep kvs,xs=[V.ref a]/\H a=aa (.dK ep kvs)/\Q (.int kvs.length) H
theorem jM:Aet X (.builtin "len") (PX X.K):=Ar9.or (Arf.or Xv)
theorem jL:CallD K 0 (PX K) cI:=fun P H xs ds d Q hP r e k=>by
 unfold cI at e;split at e
 ·rw[30];rw[6];obtain⟨q,ys,rfl,hq,rr⟩:=Abg.mp r;exact .inl ⟨q,ys,rfl,.inl (Aaz.sqL hq),k.zero Ext.refl (Aau.mpr (by rw[rr.length]))⟩
 ·rw[30];rw[6];obtain⟨q,ys,rfl,hq,rr⟩:=Aa5.mp r;exact .inl ⟨q,ys,rfl,.inr (SqT.of (Aaz _ _ hq)),k.zero Ext.refl (Aau.mpr (by rw[rr.length]))⟩
 ·obtain⟨pk,rfl⟩:=dX e;rw[6];obtain⟨q,ys,rfl,hq,rr⟩:=(rX pk).mp r;exact .inr (.inr ⟨q,ys.1,ys.2,rfl,Aaz _ _ hq,k.zero Ext.refl (Aau.mpr (by rw[rr.length]))⟩)
 ·obtain⟨hz,rfl⟩:=dX e;rw[6];exact .inr (.inl ⟨_,by rw[(Aa2.mp r).1],hz,k.zero Ext.refl (Aau.mpr rfl)⟩)
 ·rw[30]
def fC:aA->String
 |.none=>"NoneType"
 |.bool _=>"bool"
 |.int _=>"int"
 |.str _=>"str"
 |.list _=>"list"
 |.tuple _=>"tuple"
 |.dict _=>"dict"
def SG:List String:=["int","bool","str","list","tuple","dict"]
theorem Nb (d:aA):fC d∈kinds:=by cases d<;>simp[fC,kinds]
theorem Yv:Aet X (.builtin "isinstance") (fun xs H Q=>∃ x T d,xs=[x,.ty T]/\Abz X.K H d x/\T∈SG/\Q (.bl (gb (fC d) T)) H):=by
 rw[5];obtain⟨x,T,d,rfl,rd,hT,q⟩:=h;have ek:=La (Nb d) hT;have by_ty:TyOf X.K H x (.type (fC d))->aJ (aO X.prog X.w) X.A (call (.builtin "isinstance") us) (EP X ad σ Q) X.xe s:=fun ty=>
  Qh ad s σ H _ us Q I r ⟨x,T,_,gb (fC d) T,rfl,ty,Amh.trans ek,q⟩
 cases d with
 |none=>obtain rfl:=Acj.mp rd;exact by_ty .non
 |bool b=>obtain rfl:=Aa3.mp rd;exact by_ty (.bl _)
 |int b=>obtain rfl:=Aau.mp rd;exact by_ty (.int _)
 |str b=>obtain⟨rfl,_⟩:=Aa2.mp rd;exact by_ty (.str _)
 |list b=>
  obtain⟨a,ys,rfl,h,_⟩:=Abg.mp rd;obtain⟨u,w',rfl,ru,kl⟩:=vals2 r;cases kl;cases ru;obtain⟨its,_,⟨o,n,e1,hc,_,_⟩,_⟩:=I.list h;exact oC Bv I.kIn ⟨o,e1,hc⟩ (Amh.trans ek) (fun z=>nomatch z) fun tk=>⟨.bl _,H,I.tok tk,rfl,q⟩
 |tuple b=>obtain⟨_,_,rfl,h,_⟩:=Aa5.mp rd;exact by_ty (.tup h)
 |dict b=>
  obtain⟨_,rfl,⟨_,h,_⟩|⟨_,h,_⟩|⟨_,h,_⟩⟩:=Adt.mp rd
  ·exact by_ty (.dK h)
  ·exact by_ty (.dT h)
  ·obtain⟨u,w',rfl,ru,kl⟩:=vals2 r;cases kl;cases ru;obtain⟨⟨_,o,_,_,e1,hc,_⟩,_⟩:=I.hok _ _ h;exact oC Bw I.kIn ⟨o,e1,hc.1⟩ (Amh.trans ek) (fun z=>nomatch z) fun tk=>⟨.bl _,H,I.tok tk,rfl,q⟩
def dG (T:String):aA->Option aA:=fun d=>aa (.bool (gb (fC d) T))
variable {a:bF}{f:EF}{fa:AF}{p2 ay au:dA}
theorem tM(yb:Gl X "isinstance")(hm:X.mg "isinstance" = ab)(hg:Gl X x)(XL:X.mg x=ab)(hv:qC x=aa (.type T))(hT:T∈SG)(he:DE X e f)
  (hn:x ≠ "__name__":=by decide) (hd:(x==("__debug__" : aE))=af:=by decide) (pq:cH (e::[.Name x p2]) X.env=(af,cE e X.env)::cH [.Name x p2] X.env:=by rfl)
  (j3:cH (.Name x p2::[]) X.env=(af,cE (.Name x p2) X.env)::cH [] X.env:=by rfl) (gs:(iJ pos (cH [.Name x p2] X.env)).any (·.1)=af:=by rfl):DE X (.Call (.Name "isinstance" p) [e,.Name x p2] [] pos) (b7 (dG T) f):=
 PE.imp (KI Yv yb hm boot_isinstance (oW he (oW (Fl hg XL hv hn hd) qQ j3) pq) (by decide) (by decide) pq gs) fun σ H Q gh=>by
  rw[4];obtain⟨d1,e1,ef⟩:=av ef;cases ef;exact⟨P,ρ,d1,hP,rs,e1,gF fun v H1 x1 r1=>⟨v,T,d1,rfl,r1.ext Aaz,hT,k.zero x1 (Aa3.mpr rfl)⟩⟩
def eZ:List aA->Option aA
 |[.list ds]=>aa (.tuple ds)
 |[.tuple ds]=>aa (.tuple ds)
 |_=>ab
theorem uC:CallD K 0 (fun xs H Q=>∃ p ys,xs=[.ref p]/\((SqL K H p ys/\∀ l,H l=ab->Q (.ref l) (aq H l (.tup ys)))\/(SqT K H p ys/\Q (.ref p) H))) eZ:=fun P H xs ds d Q hP r e k=>by
 unfold eZ at e;split at e
 ·rw[30];rw[6];obtain⟨q,ys,rfl,hq,rr⟩:=Abg.mp r;exact⟨q,ys,rfl,.inl ⟨Aaz.sqL hq,fun l hl=>k.tup hP hl rr⟩⟩
 ·rw[30];rw[6];obtain⟨q,ys,rfl,hq,rr⟩:=Aa5.mp r;exact⟨q,ys,rfl,.inr ⟨SqT.of (Aaz _ _ hq),k.zero Ext.refl r⟩⟩
 ·rw[30]
def gC:List aA->Option aA
 |[.list ds]=>aa (.list ds)
 |[.tuple ds]=>aa (.list ds)
 |[.str z]=>if z.length≤sizeLine then aa (.list (z.cps.toList.map fun c=>.str ⟨#[c]⟩)) else ab
 |_=>ab
def QQ (K:aM):List V->Hp->VK->Prop:=fun xs H Q=>(∃ p ys,xs=[.ref p]/\(SqL K H p ys\/SqT K H p ys)/\∀ l,H l=ab->Q (.ref l) (aq H l (.lst ys)))\/∃ z:aE,xs=[.str z]/\z.length≤sizeLine/\∀ l,H l=ab->Q (.ref l) (aq H l (.lst (z.cps.toList.map rL)))
theorem YL (hc:X.calm=ae):Aet X (.type "list") (QQ X.K):=Aqj.or (Oj hc)
theorem WZ:∀ {cs:List Nat},(∀ c∈cs,dS (.str ⟨#[c]⟩)=ae)->Aax K H (cs.map fun c=>.str ⟨#[c]⟩) (cs.map rL)
 |[],_=>Aat.mpr rfl
 |c::r,h=>Aal.mpr ⟨_,_,rfl,Aa2.mpr ⟨rfl,h c cF⟩,WZ fun c' m=>h c' (cS _ m)⟩
theorem XU:CallD K 1 (QQ K) gC:=fun P H xs ds d Q hP r e k=>by
 unfold gC at e;split at e
 ·rw[30];rw[6];obtain⟨q,ys,rfl,hq,rr⟩:=Abg.mp r;exact .inl ⟨q,ys,rfl,.inl (Aaz.sqL hq),fun l hl=>k.lst hP hl rr⟩
 ·rw[30];rw[6];obtain⟨q,ys,rfl,hq,rr⟩:=Aa5.mp r;exact .inl ⟨q,ys,rfl,.inr (SqT.of (Aaz _ _ hq)),fun l hl=>k.lst hP hl rr⟩
 ·obtain⟨hz,rfl⟩:=dX e;rw[6];refine .inr ⟨_,by rw[(Aa2.mp r).1],hz,fun l hl=>k.lst hP hl (WZ fun c m=>?_)⟩
  obtain⟨j,hj⟩:=List.mem_iff_getElem?.mp m;exact KC (Aa2.mp r).2 hj
 ·rw[30]
def fK:List aA->Option aA
 |[.int i]=>aa (.int i)
 |[.bool b]=>aa (.int (if b then 1 else 0))
 |_=>ab
theorem WG:CallD K 0 (fun xs H Q=>(∃ i,xs=[.int i]/\Q (.int i) H)\/∃ k,xs=[.bl k]/\Q (.int (if k then 1 else 0)) H) fK:=fun P H xs ds d Q hP r e k=>by
 unfold fK at e;split at e
 ·rw[30];rw[6];exact .inl ⟨_,by rw[Aau.mp r],k.zero Ext.refl (Aau.mpr rfl)⟩
 ·rw[30];rw[6];exact .inr ⟨_,by rw[Aa3.mp r],k.zero Ext.refl (Aau.mpr rfl)⟩
 ·rw[30]
def cutD (ds:List aA)(lo hi:Option Int):List aA:=(ds.drop (HT.sIx ds.length 0 lo)).take (HT.sIx ds.length ds.length hi-HT.sIx ds.length 0 lo)
abbrev OF:=List (Option aA)->Option (Option Int)
def tOF (K:aM)(f:OF):TO:=fun σ H Q=>∃ P ρ o,Hid P H/\Amw K (hid H P) ρ σ/\f ρ=aa o/\∀ H',Ext H H'->Q o H'
abbrev DO (X:Cx)(e:Option bF)(f:OF):Prop:=PO X e (tOF X.K f)
def oN:OF:=fun _=>aa ab
def oS (f:EF):OF:=fun ρ=>(f ρ).bind fun d=>match d with
 |.int i=>aa (aa i)
 |_=>ab
theorem PO.imp {o:Option bF}{t t':TO}(h:PO X o t)(w:∀ σ H Q,t' σ H Q->t σ H Q):PO X o t':=fun ad s σ H Q I q=>h ad s σ H Q I (w _ _ _ q)
theorem DL:DO X ab oN:=PO.imp Kq fun σ H Q gh=>by
 obtain⟨P,ρ,o,hP,rs,ef,k⟩:=gh;cases ef;exact k H Ext.refl
theorem DX (h:DE X e f):DO X (aa e) (oS f):=PO.imp (Mf h) fun σ H Q gh=>by
 obtain⟨P,ρ,o,hP,rs,ef,k⟩:=gh;rw[21];refine⟨P,ρ,d,hP,rs,e1,gF fun v H1 x1 r1=>?_⟩
 cases d with
 |int i=>cases ef;exact⟨i,Aau.mp r1,k H1 x1⟩
 |_=>cases ef
def kX (f:EF)(lo hi:OF):EF:=fun ρ=>(f ρ).bind fun d=>(lo ρ).bind fun l=>(hi ρ).bind fun h=>match d with
 |.list ds=>aa (.list (cutD ds l h))
 |_=>ab
theorem DC {lo hi:Option bF}{fl fh:OF}{pp:dA}(he:DE X e f)(hl:DO X lo fl)(hh:DO X hi fh):DF 1 X (.Subscript e (.Slice lo hi ab pp) pos) (kX f fl fh):=PE.imp (Vs Jn he hl hh) fun σ H Q gh=>by
 rw[4];obtain⟨d1,e1,de⟩:=av ef;obtain⟨l,e2,b9⟩:=av de;obtain⟨h,e3,ja⟩:=av b9;clear ef de b9;cases d1 with
 |list ds=>
  cases ja;refine⟨P,ρ,_,hP,rs,e1,gF fun v H1 x1 r1=>⟨P,ρ,l,hP.ext x1,rs.ext (fD x1),e2,fun H2 x2=>⟨P,ρ,h,hP.ext (x1.trans x2),rs.ext (fD (x1.trans x2)),e3,fun H3 x3=>?_⟩⟩⟩
  obtain⟨q,ys,rfl,hq,rr⟩:=Abg.mp (r1.ext (fD (x2.trans x3)));refine⟨q,ys,rfl,Aaz.sqL hq,fun p hp=>(k.mono ((x1.trans x2).trans x3)).lst (hP.ext ((x1.trans x2).trans x3)) hp ?_⟩
  unfold yL cutD;rw[rr.length];exact(rr.drop _).take _
 |_=>cases ja
def sF:List aA->Option (List aE)
 |[]=>aa []
 |.str x::r=>(sF r).bind fun xs=>aa (x::xs)
 |_::_=>ab
theorem UK:∀ {ds:List aA} {xs:List V} {bs:List aE},sF ds=aa bs->Aax K H ds xs->xs=bs.map V.str/\∀ b∈bs,dS (.str b)=ae
 |[],xs,bs,e,r=>by
  rw[30];rw[Aat.mp r];exact⟨rfl,fun b m=>by simp at m⟩
 |.str b::ds,xs,bs,e,r=>by
  obtain⟨t5,e1,e2⟩:=av (show((sF ds).bind fun bs=>aa (b::bs))=aa bs from e)
  cases e2;obtain⟨v,t,rfl,h1,h2⟩:=Aal.mp r;obtain⟨q1,q2⟩:=UK e1 h2;rw[(Aa2.mp h1).1,q1];refine⟨rfl,fun c m=>?_⟩
  rw[16]
  ·exact(Aa2.mp h1).2
  ·exact q2 c m
 |.none::_,_,_,e,_=>by cases e
 |.int _::_,_,_,e,_=>by cases e
 |.bool _::_,_,_,e,_=>by cases e
 |.list _::_,_,_,e,_=>by cases e
 |.tuple _::_,_,_,e,_=>by cases e
 |.dict _::_,_,_,e,_=>by cases e
theorem SJ {jj:aE}(hs:dS (.str jj)=ae):∀ {ys:List aE},(∀ b∈ys,dS (.str b)=ae)->dS (.str (mV jj ys))=ae
 |[],_=>by
  have:mV jj []=Str.empty:=by simp[mV]
  rw[this]
  decide +kernel
 |[x],h=>by
  have:mV jj [x]=x:=by simp[mV]
  rw[this];exact h x cF
 |x::y::r,h=>by
  have e:mV jj (x::y::r)=x++jj++mV jj (y::r):=by
   rw[mV];intro z;cases z
  rw[e];exact LP (LP (h x cF) hs) (SJ hs fun b m=>h b (cS _ m))
def vJ:aA->aA->Option aA
 |.str jj,.list ds=>(sF ds).bind fun ys=>if (ys.map (·.length)).sum+ys.length*jj.length≤16777216 then aa (.str (mV jj ys)) else ab
 |_,_=>ab
theorem Ae {g:EF}(ho:DE X a f)(he:DE X e g)(cg:sO a "join" X.env (cE a X.env)=cE a X.env:=by rfl)
  (gi:((iJ au (cH (e::[]) X.env)).all (fun x=>!x.1)&&(xP au (xN [] X.env)).all (fun x=>x.1.isSome)
   && decide ((e::[]).length+([]:List nA).length+(if ([]:List nA).isEmpty then 0 else 1)<30))=ae:=by rfl)
  (cj:(ay.endLine==au.line)=ae:=by rfl) (hs:cH (e::[]) X.env=(af,cE e X.env)::cH [] X.env:=by rfl) (ck:(iJ au (cH [] X.env)).any (·.1)=af:=by rfl):DE X (.Call (.Attribute a "join" ay) [e] [] au) (ah vJ f g):=
 PE.imp (AQ PySem.F.plainAttrs_str PySem.F.slot_str_join PySem.F.type_str_join Ua ho (oW he qQ hs) cg gi cj hs ck) fun σ H Q gh=>by
  rw[4];obtain⟨d1,e1,de⟩:=av ef;obtain⟨d2,e2,b9⟩:=av de;clear ef de;cases d1 with
  |str jj=>
   cases d2 with
   |list ds=>
    obtain⟨ys,h1,h2⟩:=av (show((sF ds).bind fun ys=>if (ys.map (·.length)).sum+ys.length*jj.length≤16777216 then aa (bD (mV jj ys)) else ab)=aa d from b9)
    obtain⟨hz,rfl⟩:=dX h2;refine⟨P,ρ,_,hP,rs,e1,gF fun v H1 x1 r1=>⟨by rw[(Aa2.mp r1).1];rfl,P,ρ,_,hP.ext x1,rs.ext (fD x1),e2,gF fun u H2 x2 r2=>?_⟩⟩
    obtain⟨q,zs,rfl,hq,rr⟩:=Abg.mp r2;obtain⟨rfl,hl⟩:=UK h1 rr;exact⟨jj,q,ys,(Aa2.mp r1).1,rfl,Aaz.sqL hq,hz,k.zero (x1.trans x2) (Aa2.mpr ⟨rfl,SJ (Aa2.mp r1).2 hl⟩)⟩
   |_=>cases b9
  |_=>cases d2<;>cases b9
theorem Lz {α:Type}{c:Prop}[Decidable c]{x:Option α}{y:α}(h:(if c then x else ab)=aa y):c/\x=aa y:=by
 by_cases e:c
 ·rw[if_pos e] at h;exact⟨e,h⟩
 ·rw[if_neg e] at h;cases h
def gR:aA->aA->aA->Option aA
 |.dict kds,k,x=>if gw kds=ae then(dI k).bind fun k=>aa ((dH kds k).getD x) else ab
 |_,_,_=>ab
def fI (fd fk fx:EF):EF:=fun ρ=>(fd ρ).bind fun d=>(fk ρ).bind fun k=>(fx ρ).bind fun x=>gR d k x
theorem Ax {o k z:bF}{fd fk fx:EF}(hu:X.A.units+40<cLine)(ho:DE X o fd)(hk:DE X k fk)(hz:DE X z fx)(m:M2 X o "get" ay k z au:=by exact⟨rfl,rfl,rfl,rfl⟩):DE X (.Call (.Attribute o "get" ay) [k,z] [] au) (fI fd fk fx):=
 PE.imp (Wu hu ho hk hz m) fun σ H Q gh=>by
  obtain⟨P,ρ,d,hP,rs,ef,kk⟩:=gh;obtain⟨d1,e1,de⟩:=av ef;obtain⟨d2,e2,b9⟩:=av de;obtain⟨d3,e3,ja⟩:=av b9;clear ef de b9;cases d1 with
  |dict kds=>
   obtain⟨pk,qr⟩:=Lz (show(if gw kds=ae then(dI d2).bind fun k=>aa ((dH kds k).getD d3) else ab)=aa d from ja)
   obtain⟨key,h1,h2⟩:=av qr;cases h2;refine⟨P,ρ,_,hP,rs,e1,gF fun v H1 x1 r1=>?_⟩
   obtain⟨q,kvs,rfl,hq,rr⟩:=(rX pk).mp r1;refine⟨q,rfl,.inl ⟨kvs.1,kvs.2,.inl (Aaz _ _ hq)⟩,P,ρ,d2,hP.ext x1,rs.ext (fD x1),e2,gF fun u H2 x2 r2=>⟨P,ρ,d3,hP.ext (x1.trans x2),rs.ext (fD (x1.trans x2)),e3,gF fun w H3 x3 r3=>?_⟩⟩
   refine⟨jH kvs.2 key,.inl ⟨kvs.1,kvs.2,key,.inl (x3 _ _ (x2 _ _ (Aaz _ _ hq))),rZ h1 r2,rfl⟩,kk.zero ((x1.trans x2).trans x3) ?_⟩;rcases wJ (k:=key) (rr.ext (fD (x2.trans x3))) with⟨n1,n2⟩|⟨d',v',s1,s2,rd⟩
   ·rw[n1,n2];exact r3
   ·rw[s1,s2];exact rd
  |_=>cases ja
theorem Res.dic{ep:Nat}{kvs:List (aP×V)}{q:aD}(hP:Hid P H)(h:Res K P 1 (.dict kds) H Q)(n:H q=ab)(r:Aca K (hid H P) kds kvs):Q (.ref q) (aq H q (.dK ep kvs)):=by
 refine h (.ref q) _ [q] (Ext.new n) (mE.mpr ⟨by simp,.nil⟩) (fun a m=>?_) ⟨q,(ep,kvs),kvs.map fun _=>[],rfl,jK,?_,?_⟩
 ·have:a=q:=by simpa using m
  rw[25];exact⟨n,_,jK⟩
 ·have:∀ l:List (aP×V),(l.map fun _=>([]:List aD)).flatten=[]:=fun l=>by
   induction l with
   |nil=>rfl
   |cons a l ih=>rw[eF,uX,ih];rfl
  rw[this]
 ·have xe:Ext (hid H P) (hid (aq H q (.dK ep kvs)) (iq P [q])):=fun b o e=>by
   obtain⟨nb,e⟩:=Afg.mp e;have hb:b≠q:=mQ e n;exact lO (fun z=>z.elim nb fun m=>hb (by simpa using m)) (by rw[fU hb];exact e)
  generalize hid (aq H q (.dK ep kvs)) (iq P [q])=B at xe;generalize aq H q (.dK ep kvs)=H1;clear h;have go:∀ (ds:List (aA×aA)) (xs:List (aP×V)),Aca K (hid H P) ds xs->All3 (fun(kd:aA×aA) (kv:aP×V) f=>kd.1=kD kv.1/\Aj2 K B H1 0 kd.2 kv.2 f) ds xs (xs.map fun _=>[]):=by
   intro ds;induction ds with
   |nil=>intro xs r;rw[Acf.mp r];exact .nil
   |cons d ds ih=>
    intro xs r;obtain⟨k',y,t,rfl,ek,h1,h2⟩:=Abf.mp (show Aca K (hid H P) ((d.1,d.2)::ds) xs from r)
    exact .cons ⟨ek,rfl,h1.ext xe⟩ (ih t h2)
  exact go kds kvs r
theorem DR:DF 1 X (.Dict [] [] pos) (eC (.dict [])):=PE.imp Wg fun σ H Q gh=>by
 rw[4];cases ef;exact fun q hq=>k.dic hP hq (Acf.mpr rfl)
def II:List aA->Option aA
 |[.dict kds]=>if gw kds=ae then aa (.dict kds) else ab
 |_=>ab
theorem Pa:Aet X (.type "dict") (fun xs H Q=>∃ a ep kvs,xs=[.ref a]/\H a=aa (.dK ep kvs)/\∀ p n,H p=ab->Q (.ref p) (aq H p (.dK n kvs))):=by
 rw[5];obtain⟨a,ep,kvs,rfl,ha,q⟩:=h;rw[18];exact Ui I (.inl ha) fun p n s' hp I'=>⟨.ref p,_,I',rfl,q p n hp⟩
theorem Ox:CallD K 1 (fun xs H Q=>∃ a ep kvs,xs=[.ref a]/\H a=aa (.dK ep kvs)/\∀ p n,H p=ab->Q (.ref p) (aq H p (.dK n kvs))) II:=fun P H xs ds d Q hP r e k=>by
 unfold II at e;split at e
 ·obtain⟨pk,rfl⟩:=dX e;rw[6];obtain⟨q,ys,rfl,hq,rr⟩:=(rX pk).mp r;exact⟨q,ys.1,ys.2,rfl,Aaz _ _ hq,fun l n hl=>k.dic hP hl rr⟩
 ·rw[30]
end
section
variable {ρ:bM}
theorem Za:∀ {ds:List aA} {xs:List V} {Fs:List (List aD)},All3 (Agk K B H 0) ds xs Fs->Aax K B ds xs/\Fs.flatten=[]:=by
 intro ds xs Fs h;induction h with
 |nil=>exact⟨Aat.mpr rfl,rfl⟩
 |cons h t ih=>
  obtain⟨rfl,r⟩:=h;exact⟨Aal.mpr ⟨_,_,rfl,r,ih.1⟩,by rw[uX,ih.2];rfl⟩
theorem On:∀ {ds:List (aA×aA)} {xs:List (aP×V)} {Fs:List (List aD)},All3 (fun(kd:aA×aA) (kv:aP×V) f=>kd.1=kD kv.1/\Agk K B H 0 kd.2 kv.2 f) ds xs Fs->Aca K B ds xs/\Fs.flatten=[]:=by
 intro ds xs Fs h;induction h with
 |nil=>exact⟨Acf.mpr rfl,rfl⟩
 |@cons p q F ds xs Fs h t ih=>
  obtain⟨k,d⟩:=p;obtain⟨k',v⟩:=q;obtain⟨ek,rfl,r⟩:=h;exact⟨Abf.mpr ⟨_,_,_,rfl,ek,r,ih.1⟩,by rw[uX,ih.2];rfl⟩
theorem WK:∀ {ds:List aA} {xs:List V},Aax K B ds xs->All3 (Agk K B H1 0) ds xs (xs.map fun _=>[])/\(xs.map fun _=>([]:List aD)).flatten=[]
 |[],xs,r=>by rw[Aat.mp r];exact⟨.nil,rfl⟩
 |d::ds,xs,r=>by
  obtain⟨y,t,rfl,h1,h2⟩:=Aal.mp r;obtain⟨q1,q2⟩:=WK h2;exact⟨.cons ⟨rfl,h1⟩ q1,by rw[eF,uX,q2];rfl⟩
theorem WU:∀ {ds:List (aA×aA)} {xs:List (aP×V)},Aca K B ds xs->All3 (fun(kd:aA×aA) (kv:aP×V) f=>kd.1=kD kv.1/\Agk K B H1 0 kd.2 kv.2 f) ds xs (xs.map fun _=>[])/\(xs.map fun _=>([]:List aD)).flatten=[]
 |[],xs,r=>by rw[Acf.mp r];exact⟨.nil,rfl⟩
 |(k,d)::ds,xs,r=>by
  obtain⟨k',y,t,rfl,ek,h1,h2⟩:=Abf.mp r;obtain⟨q1,q2⟩:=WU h2;exact⟨.cons ⟨ek,rfl,h1⟩ q1,by rw[eF,uX,q2];rfl⟩
theorem Sta.write {p:aD}{d':aA}(S:Sta K H0 P0 B0 ρ σ H fp)(hi:i<ρ.length)(hv:σ[i]?=aa (aa (.ref p)))(hp:p∈fp i)(ho:(∃ xs,o=.lst xs)\/∃ q:DQ,o=dO q)
  (new:Aj2 K (L2.hid H (Hd P0 fp)) (aq H p o) 1 d' (.ref p) (fp i)):Sta K H0 P0 B0 (ρ.set i (aa (1,d'))) σ (aq H p o) fp:=by
 have hb:L2.hid (aq H p o) (Hd P0 fp)=L2.hid H (Hd P0 fp):=by
  funext b;unfold L2.hid;by_cases q:Hd P0 fp b
  ·rw[if_pos q,if_pos q]
  ·rw[if_neg q,if_neg q];exact fU fun z=>q (.inr ⟨i,by rw[z];exact hp⟩)
 refine⟨by simp[S.len],S.nd,S.dj,fun j a m=>⟨(S.own j a m).1,?_⟩,fun b u e=>?_,S.hd,by rw[hb];exact S.base,fun j n d e=>?_⟩
 ·by_cases q:a=p
  ·subst q;rcases ho with⟨xs,rfl⟩|⟨xs,rfl⟩
   ·exact .inl ⟨xs,jK⟩
   ·exact .inr ⟨xs,jK⟩
  ·rw[fU q];exact(S.own j a m).2
 ·rw[fU (mQ e (S.own i p hp).1)];exact S.ext b u e
 ·by_cases q:j=i
  ·subst q;rw[rE hi] at e;rw[30];exact⟨_,hv,by rw[hb];exact new⟩
  ·rw[rF (fun z=>q z.symm)] at e
   obtain⟨v,h1,h2⟩:=S.slot j n d e;refine⟨v,h1,?_⟩;rw[hb];exact h2.keep Ext.refl fun a m=>fU fun z=>q (S.dj j i a m (by rw[z];exact hp))
theorem Sta.lst1(S:Sta K H0 P0 B0 ρ σ H fp)(e:ρ[i]?=aa (aa (1,.list ds))):∃ p xs,σ[i]?=aa (aa (.ref p))/\H p=aa (.lst xs)/\Aax K (L2.hid H (Hd P0 fp)) ds xs /\
  ∀ ko jk,Aax K (L2.hid H (Hd P0 fp)) ko jk->Sta K H0 P0 B0 (ρ.set i (aa (1,.list ko))) σ (aq H p (.lst jk)) fp:=by
 obtain⟨v,h1,h2⟩:=S.slot i 1 _ e;obtain⟨p,xs,Fs,rfl,hp,hF,h3⟩:=h2;obtain⟨r,hn⟩:=Za h3;rw[hn] at hF;refine⟨p,xs,h1,hp,r,fun ko jk r'=>S.write (dD.mp e).1 h1 (by rw[hF];exact cF) (.inl ⟨_,rfl⟩) ?_⟩
 obtain⟨q1,q2⟩:=WK (H1:=aq H p (.lst jk)) r';exact⟨p,jk,_,rfl,jK,by rw[hF,q2],q1⟩
theorem Sta.dic1 {ds:List (aA×aA)}(S:Sta K H0 P0 B0 ρ σ H fp)(e:ρ[i]?=aa (aa (1,.dict ds))):∃ p ep xs,σ[i]?=aa (aa (.ref p))/\H p=aa (.dK ep xs)/\Aca K (L2.hid H (Hd P0 fp)) ds xs /\
  ∀ n ko jk,Aca K (L2.hid H (Hd P0 fp)) ko jk->Sta K H0 P0 B0 (ρ.set i (aa (1,.dict ko))) σ (aq H p (.dK n jk)) fp:=by
 obtain⟨v,h1,h2⟩:=S.slot i 1 _ e;obtain⟨p,xs,Fs,rfl,hp,hF,h3⟩:=h2;obtain⟨r,hn⟩:=On h3;rw[hn] at hF;refine⟨p,xs.1,xs.2,h1,hp,r,fun n ko jk r'=>S.write (dD.mp e).1 h1 (by rw[hF];exact cF) (.inr ⟨.inl (n,jk),rfl⟩) ?_⟩
 obtain⟨q1,q2⟩:=WU (H1:=aq H p (.dK n jk)) r';exact⟨p,(n,jk),_,rfl,jK,by rw[hF,q2],q1⟩
end
def getL (i:Nat)(ρ:bM):Option (List aA):=match ρ[i]? with
 |some (aa (1,.list ds))=>aa ds
 |_=>ab
def fQ (i:Nat)(ρ:bM):Option (List (aA×aA)):=match ρ[i]? with
 |some (aa (1,.dict ds))=>aa ds
 |_=>ab
theorem tW{ρ:bM}(h:getL i ρ=aa ds):ρ[i]?=aa (aa (1,.list ds)):=by
 unfold getL at h;split at h
 ·rename_i e;cases h;exact e
 ·cases h
theorem FD{ρ:bM}{ds:List (aA×aA)}(h:fQ i ρ=aa ds):ρ[i]?=aa (aa (1,.dict ds)):=by
 unfold fQ at h;split at h
 ·rename_i e;cases h;exact e
 ·cases h
section
variable {k o:bF}{f g:EF}{ay au:dA}
def dR (i:Nat)(m:Md)(f:EF):SF:=fun ρ=>(eV 0 m f ρ).bind fun d=>(getL i ρ).bind fun ds=>if ds.length<sizeLine then aa (.nx (ρ.set i (aa (1,.list (ds++[d]))))) else ab
theorem mN (i:Nat)(m:Md)(he:DE X e f)(hN:X.N[i]?=aa x:=by rfl)(hv:oK X.env.scope x:=by first|exact bA rfl|exact bB (bA rfl)|exact bB (bB rfl))(hd:(x==("__debug__" : aE))=af:=by decide)
  (ic:(x==("__classdict__" : aE))=af:=by decide) (cg:sO (.Name x px) "append" X.env (cE (.Name x px) X.env)=cE (.Name x px) X.env:=by rfl)
  (gi:((iJ au (cH (e::[]) X.env)).all (fun x=>!x.1)&&(xP au (xN [] X.env)).all (fun x=>x.1.isSome)
   && decide ((e::[]).length+([]:List nA).length+(if ([]:List nA).isEmpty then 0 else 1)<30))=ae:=by rfl)
  (cj:(ay.endLine==au.line)=ae:=by rfl) (hs:cH (e::[]) X.env=(af,cE e X.env)::cH [] X.env:=by rfl) (ck:(iJ au (cH [] X.env)).any (·.1)=af:=by rfl)
  (pi:nY (.Call (.Attribute (.Name x px) "append" ay) [e] [] au) ab pos.line X.env=pure af:=by rfl):DS X H0 P0 n0 (.Expr (.Call (.Attribute (.Name x px) "append" ay) [e] [] au) pos) (dR i m f):=
 PS.imp (ED (AQ NQ PySem.F.slot_list_append PySem.F.type_list_append VC (qP hN hv hd ic) (oW (ev (H0:=H0) (P0:=P0) m he) qQ hs) cg gi cj hs ck) pi) fun D σ H gh=>by
  rw[11];obtain⟨d,e1,de⟩:=av ef;obtain⟨ds,e2,b9⟩:=av de;obtain⟨hl,rfl⟩:=dX b9;obtain⟨p,xs,h1,h2,_,_⟩:=S.lst1 (tW e2);refine⟨.ref p,h1,.inl ⟨rfl,xs,SqL.of h2⟩,B0,ρ,fp,d,S,e1,fun v H2 gh=>?_⟩
  obtain⟨kr,S2,r2⟩:=gh;obtain⟨p2,B4,q1,q2,q3,q4⟩:=S2.lst1 (tW e2);have:p2=p:=by rw[h1] at q1;cases q1;rfl
  rw[25];exact⟨p2,B4,v,rfl,rfl,q2,by rw[q3.length];exact hl,k _ _ kr (q4 _ _ (q3.snoc r2.2))⟩
def gM (i:Nat):SF:=fun ρ=>(getL i ρ).bind fun ds=>aa (.nx (ρ.set i (aa (1,.list []))))
theorem Vj (i:Nat)(hN:X.N[i]?=aa x:=by rfl)(hv:oK X.env.scope x:=by first|exact bA rfl|exact bB (bA rfl)|exact bB (bB rfl))(hd:(x==("__debug__" : aE))=af:=by decide)
  (ic:(x==("__classdict__" : aE))=af:=by decide) (cg:sO (.Name x px) "clear" X.env (cE (.Name x px) X.env)=cE (.Name x px) X.env:=by rfl) (cj:(ay.endLine==au.line)=ae:=by rfl)
  (pi:nY (.Call (.Attribute (.Name x px) "clear" ay) [] [] au) ab pos.line X.env=pure af:=by rfl):DS X H0 P0 n0 (.Expr (.Call (.Attribute (.Name x px) "clear" ay) [] [] au) pos) (gM i):=
 PS.imp (ED (Ia NQ PySem.F.slot_list_clear PySem.F.type_list_clear Wk (qP hN hv hd ic) cg cj) pi) fun D σ H gh=>by
  rw[11];obtain⟨ds,e2,b9⟩:=av ef;cases b9;obtain⟨p,xs,h1,h2,h3,h4⟩:=S.lst1 (tW e2);exact⟨.ref p,h1,.inl ⟨rfl,xs,SqL.of h2⟩,p,xs,rfl,rfl,h2,k _ _ fp (h4 [] [] (Aat.mpr rfl))⟩
def fM (i:Nat)(m:Md)(f:EF)(mk:Md)(g:EF):SF:=fun ρ=>(eV 0 m f ρ).bind fun d=>(getL i ρ).bind fun ds=>(eV 0 mk g ρ).bind fun k=>match k with
 |.int j=>(jt ds.length j).bind fun j=>aa (.nx (ρ.set i (aa (1,.list (ds.set j d)))))
 |_=>ab
theorem IG{m:Md}{ρ:bM}(S:Sta K H0 P0 B0 ρ σ H fp)(e:eV 0 m g ρ=aa d)(hd:cT d=ae)(k:∀ v H',Ext H H'->Abz K (hid H' (Hd P0 fp)) d v->Q v H'):tF K 0 g σ H Q:=by
 cases m with
 |s=>exact⟨Hd P0 fp,vS ρ,d,S.hid,S.viewS,e,gF k⟩
 |a=>
  obtain⟨d',ed,ef⟩:=av e;obtain⟨fl,rfl⟩:=dX ef;refine⟨P0,vA ρ,d',S.hd.ext S.ext,S.viewA,ed,gF fun v H' x r=>k v H' x (r.flat (fun a xs e=>?_) _ hd)⟩
  obtain⟨na,e⟩:=Afg.mp e;refine lO (fun q=>?_) e
  rcases q with q|⟨j,q⟩
  ·exact na q
  ·rcases((S.grow x).own j a q).2 with⟨ys,e2⟩|⟨ys,e2⟩<;>rw[e] at e2<;>first|cases e2|(cases ys<;>simp[dO] at e2)
theorem JN (i:Nat)(m mk:Md)(he:DE X e f)(hk:DE X k g)(hN:X.N[i]?=aa x:=by rfl)(hv:oK X.env.scope x:=by first|exact bA rfl|exact bB (bA rfl)|exact bB (bB rfl))(hd:(x==("__debug__" : aE))=af:=by decide)
  (ic:(x==("__classdict__" : aE))=af:=by decide)
  (ha:∀ v,mU (.Subscript (.Name x px) k ay) X.env v=(do
   let ov ← pD [v] (cE (.Name x px) X.env)
   let iv ← pD [v,ov] (cE k X.env)
   standAt ay
   pD [v,ov,iv] (setItem ov iv v)
   release [v,ov,iv] []):=by intro _;rfl)
  (hs:swapsWithSole [.Subscript (.Name x px) k ay] e pos.line X.env=pure af:=by rfl) (hw:swappedStores [.Subscript (.Name x px) k ay] e X.env=pure ab:=by rfl)
  (h1:(oA [.Subscript (.Name x px) k ay] X.env).map (·.2)=[mU (.Subscript (.Name x px) k ay) X.env]:=by rfl):DS X H0 P0 n0 (.Assign [.Subscript (.Name x px) k ay] e pos) (fM i m f mk g):=
 PS.imp (Ii (ev (H0:=H0) (P0:=P0) m he) (Im (qP hN hv hd ic) hk set_list ha) hs hw h1) fun D σ H gh=>by
  obtain⟨B0,ρ,fp,o,S,ef,kk⟩:=gh;obtain⟨d,e1,de⟩:=av ef;obtain⟨ds,e2,b9⟩:=av de;obtain⟨kd,e3,ja⟩:=av b9;clear ef de b9;cases kd with
  |int j=>
   obtain⟨jn,e5,qr⟩:=av (show((jt ds.length j).bind fun j=>aa (Out.nx (ρ.set i (aa (1,.list (ds.set j d))))))=aa o from ja)
   cases qr;refine⟨B0,ρ,fp,d,S,e1,fun v H2 gh=>?_⟩
   obtain⟨kr,S2,r2⟩:=gh;obtain⟨p,xs,h1,h2,_,_⟩:=S2.lst1 (tW e2);refine⟨.ref p,h1,IG S2 e3 (by simp[cT]) fun u H3 x3 r3=>?_⟩
   have S3:=S2.grow x3;obtain⟨p3,yg,q1,q2,q3,q4⟩:=S3.lst1 (tW e2);have:p3=p:=by rw[h1] at q1;cases q1;rfl
   rw[25];exact⟨p3,yg,j,jn,rfl,Aau.mp r3,q2,by rw[q3.length];exact e5,kk _ _ kr (q4 _ _ (q3.set (r2.2.ext (fD x3)) jn))⟩
  |_=>cases ja
def fT (i:Nat)(m:Md)(f:EF)(mk:Md)(g:EF):SF:=fun ρ=>(eV 0 m f ρ).bind fun d=>(fQ i ρ).bind fun kds=>(eV 0 mk g ρ).bind fun k=>(dI k).bind fun k=>if kds.length<sizeLine then aa (.nx (ρ.set i (aa (1,.dict (putD kds k d))))) else ab
theorem JF (i:Nat)(m mk:Md)(hu:X.A.units+40<cLine)(he:DE X e f)(hk:DE X k g)(hN:X.N[i]?=aa x:=by rfl)(hv:oK X.env.scope x:=by first|exact bA rfl|exact bB (bA rfl)|exact bB (bB rfl))(hd:(x==("__debug__" : aE))=af:=by decide)
  (ic:(x==("__classdict__" : aE))=af:=by decide) (hs:nY e (aa (.Subscript (.Name x px) k ay)) pos.line X.env=pure af:=by rfl):DS X H0 P0 n0 (.Assign [.Subscript (.Name x px) k ay] e pos) (fT i m f mk g):=
 PS.imp (Ay hu (qP hN hv hd ic) hk (ev (H0:=H0) (P0:=P0) m he) hs) fun D σ H gh=>by
  obtain⟨B0,ρ,fp,o,S,ef,kk⟩:=gh;obtain⟨d,e1,de⟩:=av ef;obtain⟨kds,e2,b9⟩:=av de;obtain⟨kd,e3,ja⟩:=av b9;obtain⟨key,e4,qr⟩:=av ja;obtain⟨hl,rfl⟩:=dX qr;clear ef de b9 ja;refine⟨B0,ρ,fp,d,S,e1,fun v H2 gh=>?_⟩
  obtain⟨kr,S2,r2⟩:=gh;obtain⟨p,ep,xs,h1,h2,_,_⟩:=S2.dic1 (FD e2);have hf:cT kd=ae:=by rw[LV e4];cases key<;>simp[kD,cT]
  refine⟨.ref p,h1,IG S2 e3 hf fun u H3 x3 r3=>?_⟩
  have S3:=S2.grow x3;obtain⟨p3,F9,yg,q1,q2,q3,q4⟩:=S3.dic1 (FD e2);have:p3=p:=by rw[h1] at q1;cases q1;rfl
  rw[25];refine⟨p3,_,rfl,.inl ⟨F9,yg,key,q2,rZ e4 r3,by rw[q3.length];exact hl,rfl⟩,fun n=>kk _ _ kr (q4 n _ _ (JI q3 (r2.2.ext (fD x3))))⟩
end
section
variable {a:bF}{fa fb fc:EF}
def oM:aA->aA->Option aA
 |.list xs,.list ys=>if xs.length+ys.length≤sizeLine then aa (.list (xs++ys)) else ab
 |_,_=>ab
theorem Mk:OpR X (mT .Add) (fun x y H Q=>∃ l b xs zs,x=.ref l/\y=.ref b/\SqL X.K H l xs/\SqL X.K H b zs/\xs.length+zs.length≤sizeLine/\∀ p,H p=ab->Q (.ref p) (aq H p (.lst (xs++zs)))):=by
 rw[3];obtain⟨l,b,xs,zs,rfl,rfl,hH,hB,hz,q⟩:=h;cases rx;cases ry;obtain⟨its,r,p1,z1⟩:=I.list hH;obtain⟨fj,r2,p2,z2⟩:=I.list hB;have l1:=r.length;have l2:=r2.length;obtain⟨⟨cls,dd,data,sl⟩,ho,hc,n,hd⟩:=p1.isList;obtain⟨⟨E5,A9,data2,BT⟩,uy,xr,n2,uz⟩:=p2.isList;simp only at hc hd xr uz;subst hc hd xr uz;refine concat_meets ⟨_,ho,rfl⟩ ⟨_,uy,rfl⟩ noFill_list_add seq_list_add PySem.F.slot_list_add PySem.F.entry_list_add (PySem.F.args_list_add_2 _ _) (list_addW l b its.toArray fj.toArray n n2 dd A9 sl BT (by simp only[fP];omega)) ⟨ho,uy,?_⟩
 have ea:its.toArray++fj.toArray=(its++fj).toArray:=by simp
 rw[ea];exact⟨.ref _,_,I.lnew (t':=s.toks) (r.append r2) (by rw[mZ];omega),rfl,q _ I.fresh⟩
theorem MU (ha:DE X a fa)(hb:DE X b fb):DF 1 X (.BinOp a .Add b pos) (ah oM fa fb):=sZ Mk (fun P H x y a b d Q hP ra rb e k=>by
 unfold oM at e;split at e
 ·obtain⟨hz,rfl⟩:=dX e;obtain⟨p,xs,rfl,hp,r1⟩:=Abg.mp ra;obtain⟨q,ys,rfl,hq,r2⟩:=Abg.mp rb;exact⟨p,q,xs,ys,rfl,rfl,Aaz.sqL hp,Aaz.sqL hq,by rw[r1.length,r2.length];exact hz,fun l hl=>k.lst hP hl (r1.append r2)⟩
 ·cases e) ha hb
end
variable {a:bF}{f fa fb:EF}
def CP:List aA->Option aA
 |[.int i,.int j]=>aa (.int (if j > i then j else i))
 |_=>ab
theorem Nc:CallD K 0 (fun xs H Q=>∃ i j,xs=[.int i,.int j]/\Q (.int (if j > i then j else i)) H) CP:=fun P H xs ds d Q hP r e k=>by
 unfold CP at e;split at e
 ·rw[30];obtain⟨v,t,rfl,h1,h2⟩:=Aal.mp r;obtain⟨v',rfl,h3⟩:=jT h2;rw[Aau.mp h1,Aau.mp h3];exact⟨_,_,rfl,k.zero Ext.refl (Aau.mpr rfl)⟩
 ·rw[30]
end L2
namespace L2
open PySem PySem.Spec PyProof.Rows
variable {h h' h0:aZ}{d:aA}{es:Array (Int×aC)}{ep e k n n0 j i mask per aw m g ia ib na nb:Nat}{s:aH}{Q E:aC->aH->Prop}{R:Result->aH->Prop}{P prog:bS}{w:bH}{a l z i1 i2:aD}{K:aM}{b b1 b2 a6:Bool}{vs:List aC}{H H0:Hp}{ks kss qs:List (List aA)}{v:V}{T:String}{ys:List V}{X:Cx}{P0:aD->Prop}{u x y:aC}{us:Array aC}{ds:List aA}{r xs arr out a₀:Array aW}{c:Prop}{B:List aA->aD->Prop}{kds:List (aA×aA)}{f:EF}{p:aW}{ow:Array (Option Nat)}{A:cD}{o:bJ}{ps:List Nat}{ad:List (aD×bJ)}{st st0:bT}{p2 ay pos:dA}{o1 o2:List aD}{S1 S2:Nat->aZ->Prop}{kd:oB}
def Axd (h:aZ)(d:aD)(es:Array rJ)(ep:Nat):Prop:=∃ o,h.get? d=aa o/\o.ExactDict/\o.data=.dict es ep
theorem Axd.keep{d:aD}{es:Array rJ}(x:Axd h d es ep)(k:∀ o,h.get? d=aa o->h'.get? d=aa o):Axd h' d es ep:=
 let ⟨o,e,r⟩:=x;⟨o,k o e,r⟩
theorem Axd.ty{d:aD}{es:Array rJ}(x:Axd s.heap d es ep):s.TypeIs (.ref d) "dict":=let ⟨o,e,c,_⟩:=x;⟨o,e,c.1⟩
section
variable {d it:aD}{es:Array rJ}
theorem Xb(nm:(d==kB)=af)(R:Axd s.heap d es ep)
  (q:Q (.ref s.heap.objs.size) { s with heap:=s.heap.push { cls:=.type "dict_keyiterator",data:=.fields #[.ref d,.int 0 0,.int es.size 0,.int ep 0] } }):aJ (aO prog w) A (pC (.ref d)) Q E s:=by
 have ty:=R.ty;obtain⟨o,eo,_,ed⟩:=R;refine GE ty F.slot_dict_iter (iY F.slot_dict_iter ty F.entry_dict_iter
  ?_ (F.args_dict_iter_1 _))
 unfold Builtin.«dict.__iter__»;rw[22];unfold Builtin.Dict.dictSlotNone;refine aF (wpAny_notOrdered_dict ty ?_);show aJ _ _ (pure (fO d)) _ _ s;refine aQ ?_;show aJ _ _ (Builtin.Dict.showsAll d>>=_) _ _ s;unfold Builtin.Dict.showsAll;rw[if_neg (show ¬ (d==kB)=ae by rw[nm];exact oJ)]
 refine aF (aQ ?_);refine aF (NK eo ed ?_);refine aF (wpAny_dictEpoch eo ed ?_);refine aF (mC (aQ ⟨_,rfl,"dict_keyiterator",_,
  ⟨_,eJ _ rfl,rfl⟩,HQ.lookup,?_⟩))
 simpa [dZ] using q
theorem Vl {e:rJ}{Q:Option aC->aH->Prop}(K:s.heap.IsKeyIter it d i es.size ep)(R:Axd s.heap d es ep)(x:es[i]?=aa e)
  (q:∀ h',h'.IsKeyIter it d (i+1) es.size ep->oH it s.heap h'->Q (aa e.key) { s with heap:=h' }):aJ (aO prog w) A (iA (.ref it)) Q E s:=by
 obtain⟨oi,ei,ci,di⟩:=id K;obtain⟨o,eo,_,ed⟩:=R;unfold iA;refine aF (pY (nX (name:=kM "__next__") K.typeIs
  HQ (iY HQ K.typeIs
   Zt ?_ (Zu _))))
 refine aF (aQ ?_);rw[22];rw[22]
 first
  |refine aF (NC K.typeIs (aQ ?_))
  |refine aF (NB K.typeIs (aQ ?_))
 refine aF (BA ei di ?_);have own:Builtin.Dict_items.ownsTuple "dict_keyiterator" = af:=by decide
 simp only[own,fA,if_false];show aJ _ _ (if (fO d==cZ)=ae then _ else _) _ _ s
 rw[if_neg (show ¬ (fO d==cZ)=ae from oJ)]
 refine aF (aQ ?_);refine aF (NK eo ed ?_);rw[if_neg (by simp)]
 refine aF (aQ ?_);refine aF (wpAny_dictEpoch eo ed ?_);rw[if_neg (by simp)]
 refine aQ ?_;simp only[show ¬ ((i:Int)<0) from by omega,if_false,mH,x]
 rw[22]
 first
  |refine aF (NC K.typeIs (aQ ?_))
  |refine aF (NB K.typeIs (aQ ?_))
 refine aF (wpAny_isOneOf_keyiter K.typeIs ?_);show aJ _ _ (BD (.ref it) 1 (dZ ((i:Int)+1))>>=_) _ _ s;refine aF (NF ei di (by simp) ?_)
 have K':(s.heap.update it (Obj.mapFields (·.setIfInBounds 1 (dZ ((i:Int)+1))))).IsKeyIter it d (i+1) es.size ep:=
  ⟨_,qK _ ei (Obj.isFreed_of_fields (NV di _)),(Obj.cls_mapFields ..).trans ci,by
   rw[NV di];simp[dZ]⟩
 refine aF (iX ?_);refine aF (wpAny_isOneOf_keyiter (s:={ s with heap:=s.heap.update it (Obj.mapFields (·.setIfInBounds 1 (dZ ((i:Int)+1)))) })
  K'.typeIs ?_)
 show aJ _ _ (pure e.key) _ _ _;exact aQ (aQ ⟨_,rfl,aQ (q _ K' (yC ..))⟩)
theorem Te {Q:Option aC->aH->Prop}(hh:A.handled=ab)(K:s.heap.IsKeyIter it d i es.size ep)(R:Axd s.heap d es ep)(x:es.size≤i)
  (q:∀ h',OQ it s.heap h'->Q ab { s with heap:=h' }):aJ (aO prog w) A (iA (.ref it)) Q E s:=by
 obtain⟨oi,ei,ci,di⟩:=id K;obtain⟨o,eo,_,ed⟩:=R;unfold iA;refine aF (pY (nX (name:=kM "__next__") K.typeIs
  HQ (iY HQ K.typeIs
   Zt ?_ (Zu _))))
 refine aF (aQ ?_);rw[22];rw[22]
 first
  |refine aF (NC K.typeIs (aQ ?_))
  |refine aF (NB K.typeIs (aQ ?_))
 refine aF (BA ei di ?_);have own:Builtin.Dict_items.ownsTuple "dict_keyiterator" = af:=by decide
 simp only[own,fA,if_false];show aJ _ _ (if (fO d==cZ)=ae then _ else _) _ _ s
 rw[if_neg (show ¬ (fO d==cZ)=ae from oJ)]
 refine aF (aQ ?_);refine aF (NK eo ed ?_);rw[if_neg (by simp)]
 refine aF (aQ ?_);refine aF (wpAny_dictEpoch eo ed ?_);rw[if_neg (by simp)]
 refine aQ ?_;simp only[show ¬ ((i:Int)<0) from by omega,if_false,mH,PC x]
 rw[22]
 first
  |refine aF (NC K.typeIs (aQ ?_))
  |refine aF (NB K.typeIs (aQ ?_))
 show aJ _ _ (BD (.ref it) 0 .none>>=_) _ _ s;refine aF (NF ei di (by simp) ?_)
 show aJ _ _ (newExc (.type "StopIteration") []>>=_) _ _ _;rw[22];simp only[newExc,newTuple];refine aF (mC ?_ (by size_fits))
 refine aF (m:=uK _ _) (GG (a:=cZ)
  (by first|rfl|(simp only[uK];rfl)) ?_)
 refine mC ?_ (by size_fits)
 simp only[raiseNew];refine aF (NJ ?_);rw[show A.in1.handled=ab from hh]
 refine aF (aQ (ND ?_));refine aF (sM (T:="StopIteration") (b:=ae)
  ⟨_,eJ _ rfl,rfl⟩ GM ?_)
 exact aQ (q _ (((yC ..).extBut.push _).push _))
theorem Xl (hh:A.handled=ab)(I d:aD)(ne:d≠I)(es:Array rJ)(ep:Nat) :
  Walks prog w A I [I,d] [I] es.size (fun i v=>∃ e,es[i]?=aa e/\v=e.key) (fun i h=>h.IsKeyIter I d i es.size ep/\Axd h d es ep) where
 sub:=fun b hb=>by simp at hb;simp[hb]
 frame:=fun _ _ _ st hk=>⟨st.1.at fun o e=>hk I (by simp) o e,st.2.keep fun o e=>hk d (by simp) o e⟩
 item:=fun i s Q E hi st hQ=>by
  have hx:es[i]?=aa es[i]:=lJ hi;refine Vl st.1 st.2 hx fun h' K' hs=>?_
  exact hQ _ h' s.toks ⟨_,hx,rfl⟩ ⟨K',st.2.keep fun o e=>hs.extBut d o ne e⟩ fun b o hb e=>hs.extBut b o (fun h=>hb (by simp[h])) e
 done:=fun s Q E st hQ=>Te hh st.1 st.2 (bZ _) fun h' he=>hQ h' s.toks fun b o hb e=>he b o (fun h=>hb (by simp[h])) e
 self:=fun _ _ _ _ st hQ=>wpAny_pyIter_keyiter st.1 hQ
theorem Rw:BC (.type "dict") "__len__" = pure (aa (.builtin "dict.__len__")):=by rw[GJ,GP];kernel_rfl
theorem Pd(hh:A.handled=ab)(nm:(d==kB)=af)(D:Axd s.heap d es ep)(S:aD)(res:aC)(c₀:Nat)(F':S≠d)
  (hS:s.heap.get? S=aa { cls:=.type "list",data:=.seq #[] c₀ }) (hn:es.size≤sizeLine)
  (q:∀ h' tk ai c',(∀ b o,b≠S->s.heap.get? b=aa o->h'.get? b=aa o)->h'.get? S=aa { cls:=.type "list",dict:=ab,data:=.seq ai c',slots:=#[] } ->
   ItemsOf (fun i v=>∃ e,es[i]?=aa e/\v=e.key) ai es.size->R (.ok (.ret res)) { s with heap:=h',toks:=tk }) :
  aJ (aO prog w) A.in1 (rK (.ref S) (.ref d) res)
   (fun fin s'=>match fin with|.done f=>R (.ok f) s'|.again c'=>c'.quiet=ae/\qB (aO prog w) A c' R s') (fun e s'=>R (.error e) s') s:=by
 have ty:=D.ty;unfold rK;refine aF (sL ty ?_);have h1:yG (.ref S) (.ref d)=af:=by
  simp[yG,F']
 have h2:(jA "dict" == jA "list")=af:=by decide
 have h3:(jA "dict" == jA "tuple")=af:=by decide
 simp only[h1,h2,h3,Bool.or_false,fA,if_false];refine aF (Xb nm D ?_);refine aF (iX ?_);have B5:d<s.heap.objs.size:=by obtain⟨o,e,_⟩:=D;exact cC e
 have Q9:S<s.heap.objs.size:=cC hS;have nj:∀ b o,s.heap.get? b=aa o->(s.heap.push { cls:=.type "dict_keyiterator",data:=.fields #[.ref d,.int 0 0,.int es.size 0,.int ep 0] }).get? b=aa o:=fun b o e=>cL _ e
 have D':Axd (s.heap.push { cls:=.type "dict_keyiterator",data:=.fields #[.ref d,.int 0 0,.int es.size 0,.int ep 0] }) d es ep:=D.keep fun o e=>nj d o e
 have Rs:(s.heap.push { cls:=.type "dict_keyiterator",data:=.fields #[.ref d,.int 0 0,.int es.size 0,.int ep 0] }).IsKeyIter s.heap.objs.size d 0 es.size ep:=⟨_,eJ _ rfl,rfl,rfl⟩;unfold HR;refine aF (xG (T:="dict") (v:=.ref d) (by obtain⟨o,e,c,_⟩:=D';exact⟨o,e,c.1⟩) Rw ?_)
 wp_delta
 refine aF (sM (T:="dict") (v:=.ref d) (b:=ae) (by obtain⟨o,e,c,_⟩:=D';exact⟨o,e,c.1⟩) (by rw[isSubtype_type];kernel_rfl) ?_)
 show aJ _ _ (typeOf (fO d)>>=_) _ _ _;refine aF (sL (T:="dict") (v:=.ref d) (by obtain⟨o,e,c,_⟩:=D';exact⟨o,e,c.1⟩) ?_)
 refine aQ ?_;rw[if_pos (by decide)]
 refine aF (lG ?_);rw[22];have S1:=nj _ _ hS;generalize(s.heap.push { cls:=.type "dict_keyiterator",data:=.fields #[.ref d,.int 0 0,.int es.size 0,.int ep 0] })=G at nj D' S1 Rs ⊢;show aJ _ _ (xI S (·.push .none)>>=fun _=>xI S (·.pop)) _ _ _
 refine aF (xF S1 rfl ?_);have S2:=qK (gK (·.push cZ)) S1 rfl;refine xF (hz:=by seq_fits) S2 rfl ?_
 have S3:=qK (gK (·.pop)) S2 rfl;have jv:∀ b o,b≠S->G.get? b=aa o->((G.update S (gK (·.push cZ))).update S (gK (·.pop))).get? b=aa o:=fun b o hb e=>
  (sT _ _ (kP hb)).trans ((sT _ _ (kP hb)).trans e)
 have cf:d≠s.heap.objs.size:=dM B5;have B6:S∉[s.heap.objs.size,d]:=fun hm=>by
  rcases eD.mp hm with z|z
  ·exact absurd Q9 (by rw[z];exact kQ _)
  ·exact F' (eB.mp z)
 refine aQ ⟨pZ De _,Br (Xl (A:=A.in1) hh s.heap.objs.size d cf es ep).toS hn _ B6 _ es.size 0 _ _ _ rfl (dU _)
  ⟨Rs.at fun o e=>jv _ o (jU Q9) e,D'.keep fun o e=>jv _ o (kP F') e⟩ S3 (ItemsOf.nil _) fun s' ai c' hm nk gc=>?_⟩
 rw[Moved.eq_with hm];refine q s'.heap s'.toks ai c' (fun b ob hb e=>hm.heap b ob (fun hmem=>?_) (jv b ob hb (nj _ _ e))) nk gc
 rcases eD.mp hmem with z|hmem
 ·exact hb z
 ·exact absurd (cC e) (by rw[eB.mp hmem];exact kQ _)
theorem Vc(hh:A.handled=ab)(nm:(d==kB)=af)(D:Axd s.heap d es ep)(hn:es.size≤sizeLine)
  (q:∀ h' tk ai c',(∀ b o,s.heap.get? b=aa o->h'.get? b=aa o)->h'.get? s.heap.objs.size=aa { cls:=.type "list",dict:=ab,data:=.seq ai c',slots:=#[] } ->
   ItemsOf (fun i v=>∃ e,es[i]?=aa e/\v=e.key) ai es.size->Q (.ref s.heap.objs.size) { s with heap:=h',toks:=tk }):aJ (aO prog w) A (call (.type "list") [.ref d]) Q E s:=by
 refine callType_codes (Q₁:=fun obj s₁=>obj=.ref s.heap.objs.size/\s₁={ s with heap:=s.heap.push { cls:=.type "list",data:=.seq #[] } })
  F.called_list (F.typeCall_list_1 _) F.entry_list_init (code_list_new _ ⟨rfl,rfl⟩) fun obj s₁ h₁=>?_
 obtain⟨rfl,rfl⟩:=h₁;have B5:d<s.heap.objs.size:=by obtain⟨o,e,_⟩:=D;exact cC e
 have N1:(s.heap.push { cls:=.type "list",data:=.seq #[] }).get? s.heap.objs.size=aa { cls:=.type "list",data:=.seq #[] }:=eJ _ rfl;refine⟨⟨_,N1,rfl⟩,F.args_list_init_2 _ _,?_⟩;show aJ _ _ (do
  let jw ← Builtin.List.listItems (.ref s.heap.objs.size)
  Builtin.List.listUpdate (.ref s.heap.objs.size) (fun _=>#[])
  letGo jw.toList.reverse
  rK (.ref s.heap.objs.size) (.ref d) .none) _ _ _
 rw[22];unfold Builtin.List.listItems;refine aF (lF N1 rfl (aQ ?_));show aJ _ _ (xI s.heap.objs.size (fun _=>#[])>>=fun _=>letGo (#[]:Array aC).toList.reverse>>=fun _=>
  rK (.ref s.heap.objs.size) (.ref d) .none) _ _ _
 refine aF (xF N1 rfl ?_);have N2:=qK (gK (fun _=>(#[]:Array aC))) N1 rfl
 have jv:∀ b o,b≠s.heap.objs.size->(s.heap.push { cls:=.type "list",data:=.seq #[] }).get? b=aa o ->
   ((s.heap.push { cls:=.type "list",data:=.seq #[] }).update s.heap.objs.size (gK (fun _=>(#[]:Array aC)))).get? b=aa o:=fun b o hb e=>(sT _ _ (kP hb)).trans e
 refine aF (GI ?_);refine Pd (A:=A.in1) hh nm (D.keep fun o e=>jv d o (dM B5) (cL _ e)) s.heap.objs.size .none _ (jU B5) N2 hn fun h' tk ai c' hk nk gc=>?_
 exact⟨rfl,q h' tk ai c' (fun b o e=>hk b o (dM (cC e)) (jv b o (dM (cC e)) (cL _ e))) nk gc⟩
end
section
variable {σ:St}
theorem LX:∀ {es:List rJ} {kvs:List (aP×V)} {vs:List (aP×aC)},KV kvs vs->PySem.Pairs (hW P w) es vs->Vals (kvs.map fun kv=>kV kv.1) (es.map (·.key))
 |[],kvs,vs,r,p=>by
  cases p;cases r;exact .nil
 |e::es,kvs,vs,r,p=>by
  cases p with
  |cons h hv t=>
   cases r with
   |cons h' t'=>
    refine .cons ?_ (LX t' t);show RelV (kV _) e.key;rw[h'.1];rcases pA h with⟨i,tk,e1,e2⟩|⟨x,tk,e1,e2⟩
    ·rw[e1,e2];exact⟨tk,rfl⟩
    ·rw[e1,e2];exact⟨tk,rfl⟩
theorem Oo {es:Array rJ}{ai:Array aC}(h:ItemsOf (fun i v=>∃ e,es[i]?=aa e/\v=e.key) ai es.size):ai.toList=es.toList.map (·.key):=by
 obtain⟨h1,h2⟩:=h;apply BY;intro i;rw[fW];by_cases hi:i<ai.size
 ·have ha:ai.toList[i]?=aa ai[i]:=by simp[hi]
  obtain⟨e,he,hv⟩:=h2 i ai[i] (by simp[hi])
  have Go:es.toList[i]?=aa e:=by simpa using he
  rw[ha,Go,hv]
  rfl
 ·have ha:ai.toList[i]?=ab:=by simp;omega
  have he:es.toList[i]?=ab:=by simp;omega
  rw[ha,he]
  rfl
theorem Hg {XV:Nat}{kvs:List (aP×V)}(I:Inv X ad σ H s)(ha:H a=aa (.dK XV kvs)):kvs.length≤sizeLine/\(a==kB)=af/\∃ es ep,Axd s.heap a es ep/\Vals (kvs.map fun kv=>kV kv.1) (es.toList.map (·.key))/\es.size=kvs.length:=by
 obtain⟨z,nm,vs,r,o,es,ep,e1,e2,e3,_,e5,_⟩:=AV I.hok ha;refine⟨z,nm,es,ep,⟨o,e1,e2,e3⟩,LX r e5,?_⟩;have l1:=(LX r e5).length;simp at l1;exact l1.symm
theorem Oz (hc:X.calm=ae):Aet X (.type "list") (fun xs H Q=>∃ a ep kvs,xs=[.ref a]/\H a=aa (.dK ep kvs)/\∀ l,H l=ab->Q (.ref l) (aq H l (.lst (kvs.map fun kv=>kV kv.1)))):=by
 rw[5];obtain⟨a,ep1,kvs,rfl,ha,q⟩:=h;rw[18];obtain⟨z,nm,es,ep,D,rv,el⟩:=Hg I ha;refine Vc (I.ok.hd hc) nm D (by omega) fun h' tk ai c' hk hS gc=>?_
 have ea:=Oo gc;rw[← ea] at rv;exact⟨.ref s.heap.objs.size,_,I.laid (o:=.lst (kvs.map fun kv=>kV kv.1)) hk (bZ _) (show Adl X.prog X.w _ h' _ (.lst _) from⟨by rw[eY];exact z,ai.toList,c',rv,by simpa using hS⟩),rfl,q _ I.fresh⟩
theorem VA:∀ {kds:List (aA×aA)} {kvs:List (aP×V)},Aca K H kds kvs->(∀ kd∈kds,dS kd.1=ae)->Aax K H (kds.map (·.1)) (kvs.map fun kv=>kV kv.1)
 |[],kvs,r,_=>by rw[Acf.mp r];exact Aat.mpr rfl
 |(k,d)::kds,kvs,r,h=>by
  obtain⟨k',x,rr,rfl,rfl,h1,h2⟩:=Abf.mp r;refine Aal.mpr ⟨_,_,rfl,?_,VA h2 fun kd m=>h kd (cS _ m)⟩
  have hl:=h (kD k',d) cF;cases k' with
  |inl i=>exact Aau.mpr rfl
  |inr z=>exact Aa2.mpr ⟨rfl,hl⟩
def IU:List aA->Option aA
 |[.dict kds]=>if (gw kds&&kds.all fun kd=>dS kd.1)=ae then aa (.list (kds.map (·.1))) else ab
 |_=>ab
theorem Pr:CallD K 1 (fun xs H Q=>∃ a ep kvs,xs=[.ref a]/\H a=aa (.dK ep kvs)/\∀ l,H l=ab->Q (.ref l) (aq H l (.lst (kvs.map fun kv=>kV kv.1)))) IU:=fun P H xs ds d Q hP r e k=>by
 unfold IU at e;split at e
 ·obtain⟨hl,rfl⟩:=dX e;obtain⟨v,rfl,r'⟩:=jT r;obtain⟨pk,hl⟩:=kT.mp hl;obtain⟨q,ys,rfl,hq,rr⟩:=(rX pk).mp r';exact⟨q,ys.1,ys.2,rfl,Aaz _ _ hq,fun l m7=>k.lst hP m7 (VA rr (gQ.mp hl))⟩
 ·rw[30]
def sH (b:List (aA×aA)):List (aA×aA)->Bool
 |[]=>ae
 |(k,d)::r=>match (dI k).bind (dH b) with
  |none=>af
  |some e=>bQ d e&&sH b r
def CQ (a b:List (aA×aA)):Bool:=a.length==b.length&&sH b a
def valsOk (a:List (aA×aA)):Bool:=a.all fun kd=>cM kd.2
theorem Va {b:List (aA×aA)}{k:aP}(h:valsOk b=ae)(e:dH b k=aa d):cM d=ae:=by
 unfold dH at e;cases q:b.find? fun kd=>decide (dI kd.1=aa k) with
 |none=>rw[q] at e;cases e
 |some kd=>
  rw[q] at e;have:kd.2=d:=by simpa using e
  rw[25];exact gQ.mp h kd (HC q)
theorem RT (hu:X.A.units+100<cLine)(I:Inv X ad σ H s){kb:List (aA×aA)}{vb:List (aP×V)}{ub:List (aP×aC)}(rb:Aca X.K H kb vb)(qb:KV vb ub)(fb:valsOk kb=ae) :
  ∀ {ka:List (aA×aA)} {va:List (aP×V)} {ua:List (aP×aC)},valsOk ka=ae->Aca X.K H ka va->KV va ua->PySem.W.KeqHits X.A.in1 s ub ua (sH kb ka)
 |[],va,ua,_,ra,qa=>by
  obtain rfl:=Acf.mp ra;cases qa;exact .nil
 |(k,d)::ka,va,ua,fa,ra,qa=>by
  obtain⟨k',x,rr,rfl,rfl,h1,h2⟩:=Abf.mp ra;have t4:cM d=ae/\valsOk ka=ae:=by simpa [valsOk] using fa
  cases qa with
  |@cons _ u _ us h' t'=>
  obtain⟨g1,g2⟩:=h';obtain⟨uk,uv⟩:=u;have e2:k'=uk:=g1;subst e2;have ff:=qb.val k';have eh:sH kb ((kD k',d)::ka)=(match dH kb k' with|none=>af|some e=>bQ d e&&sH kb ka):=by
   show(match (dI (kD k')).bind (dH kb) with|none=>af|some e=>bQ d e&&sH kb ka)=_
   rw[Agx]
   rfl
  rcases wJ (k:=k') rb with⟨n1,n2⟩|⟨d',v',s1,s2,rd⟩
  ·rw[n2] at ff;rw[eh,n1];exact .miss ff.none_of
  ·rw[s2] at ff;obtain⟨y,hy,ry⟩:=ff.some_of;have f1:noDict d=ae/\d.depth≤60:=by simpa [cM] using t4.1
   have f2:noDict d'=ae/\d'.depth≤60:=by simpa [cM] using Va fb s1
   obtain⟨l1,as,X0⟩:=pS I f1.1 h1 g2;obtain⟨l2,bs,X1⟩:=pS I f2.1 rd ry;have eq:=SeqAt.eqAt_reads d d' X.A.in1 s uv y as bs X0 X1 l1 l2 (by
    have:X.A.in1.units=X.A.units+1:=rfl;omega)
   rw[eh,s1];exact .hit hy eq (RT hu I rb qb fb t4.2 h2 t')
def PM (K:aM)(neg:Bool):R2:=fun x y H Q=>∃ ka kb,Abz K H (.dict ka) x/\Abz K H (.dict kb) y/\(gw ka=ae/\gw kb=ae)/\valsOk ka=ae/\valsOk kb=ae/\Q (.bl (neg != CQ ka kb)) H
theorem Il (hu:X.A.units+100<cLine):OpR X (kC .NotEq) (PM X.K ae):=by
 rw[3];obtain⟨ka,kb,ra,rb,pk,fa,fb,q⟩:=h;obtain⟨a,va,rfl,ha,ra⟩:=(rX pk.1).mp ra;obtain⟨b,vb,rfl,hb,rb⟩:=(rX pk.2).mp rb;cases rx;cases ry;obtain⟨_,na,ua,qa,da⟩:=AV I.hok ha;obtain⟨_,nb,ub,qb,db⟩:=AV I.hok hb;have l1:ka.length=ua.length:=(ra.length).symm.trans qa.length;have l2:kb.length=ub.length:=(rb.length).symm.trans qb.length;refine PySem.W.keq_ne na nb da db (by omega) (fun _=>RT hu I rb qb fb fa ra qa) ?_
 rw[← l1,← l2];exact⟨.bl _,H,I,rfl,by simpa [CQ] using q⟩
def vD (neg:Bool):aA->aA->Option aA
 |.dict a,.dict b=>if (valsOk a&&valsOk b&&(gw a&&gw b))=ae then aa (.bool (neg != CQ a b)) else ab
 |_,_=>ab
theorem Sz{neg:Bool}:m5 K 0 (PM K neg) (vD neg):=fun P H x y a b d Q hP ra rb e k=>by
 unfold vD at e;split at e
 ·rw[28];have gx:=kT.mp hc;have hv:=kT.mp gx.1;exact⟨_,_,ra.ext Aaz,rb.ext Aaz,kT.mp gx.2,hv.1,hv.2,k.zero Ext.refl (Aa3.mpr rfl)⟩
 ·rw[30]
end
open PySem PySem.W PyProof.Rows
structure Ord (lt:Nat->Nat->Bool):Prop where
 asym:∀ a b,lt a b=ae->lt b a=af
 tr:∀ a b c,lt b a=af->lt c b=af->lt c a=af
section
variable {lt:Nat->Nat->Bool}(O:Ord lt)
abbrev at' (p:Array Nat)(i:Nat):Nat:=p.getD i 0
def JQ (lt:Nat->Nat->Bool)(p:Array Nat)(m:Nat):Prop:=∀ i j,i≤j->j<m->lt (at' p j) (at' p i)=af
include O
end
abbrev Dq (a:aD)(h h':aZ):Prop:=∀ b o,b≠a->h.get? b=aa o->h'.get? b=aa o
abbrev lP (h:aZ)(a:aD)(vs:List aC):aZ:=((h.update a (gK fun _=>#[])).push (hX "tuple" vs.toArray 0)).push (hX "list" #[] 0)
theorem Bh:Dq a h (lP h a vs):=fun b o hb e=>
 cL _ (cL _ (((yC h a (gK fun _=>(#[]:Array aC))).2 b hb).trans e))
def jI:aA->List Int
 |.int i=>[0,i]
 |.str x=>1::x.cps.toList.map qI
 |_=>[2]
def cG (ks:List aA):List (List Int):=ks.map jI
theorem WL (a b:List (List Int))(h:a<b):¬ b<a:=List.lt_asymm h
theorem VL (a b c:List (List Int))(h1:¬ b<a)(h2:¬ c<b):¬ c<a:=by
 have h1:a≤b:=h1;have h2:b≤c:=h2;exact List.le_trans h1 h2
theorem KP {e:aA}(h1:(∃ i,d=.int i)\/∃ x,d=.str x)(h2:(∃ i,e=.int i)\/∃ x,e=.str x)(h:jI d=jI e):d=e:=by
 rcases h1 with⟨i,rfl⟩|⟨x,rfl⟩<;>rcases h2 with⟨j,rfl⟩|⟨y,rfl⟩
 ·simp[jI] at h;rw[h]
 ·simp[jI] at h
 ·simp[jI] at h
 ·have h':x.cps.toList.map qI=y.cps.toList.map qI:=by simpa [jI] using h
  have:x.cps.toList=y.cps.toList:=(List.map_inj_right (fun a b q=>Int.ofNat.inj q)).mp h'
  have:x=y:=by
   cases x;cases y;simp only at this;rw[Dn.mp this]
  rw[this]
def nE (kss:List (List aA))(i j:Nat):Bool:=decide (cG (kss.getD i [])<cG (kss.getD j []))
theorem ZP (kss:List (List aA)):Ord (nE kss):=by
 refine⟨fun a b h=>?_,fun a b c h1 h2=>?_⟩
 ·have:=WL _ _ (of_decide_eq_true h);exact decide_eq_false this
 ·exact decide_eq_false (VL _ _ _ (of_decide_eq_false h1) (of_decide_eq_false h2))
theorem Abz.tupK{ks:List aA}(r:Abz K H (.tuple ks) v)(h1:cA ks=ae)(h2:bX ks≤6):∃ a,v=.ref a/\Asj H ks a:=by
 obtain⟨a,xs,e,s,r⟩:=Aa5.mp r;exact⟨a,e,h1,h2,xs,s,Aax.keys ks h1 r⟩
def kW:List aA->Option (List (List aA))
 |[]=>aa []
 |.tuple ks::r=>if cA ks=ae/\bX ks≤6 then(kW r).bind fun kss=>aa (ks::kss) else ab
 |_::_=>ab
def nF (ai:List (List aA))(k:List aA):List (List aA):=if k∈ai then ai else ai++[k]
def gG (kss:List (List aA)):List (List aA):=kss.foldl nF []
theorem SA:∀ {ds:List aA} {kss:List (List aA)},kW ds=aa kss->ds=kss.map iF/\∀ ks∈kss,cA ks=ae/\bX ks≤6
 |[],kss,h=>by cases h;exact⟨rfl,fun _ m=>by simp at m⟩
 |.tuple ks::r,kss,h=>by
  by_cases c:cA ks=ae/\bX ks≤6
  ·have h':((kW r).bind fun kss=>aa (ks::kss))=aa kss:=by
    have:(if cA ks=ae/\bX ks≤6 then(kW r).bind fun kss=>aa (ks::kss) else ab)=aa kss:=h
    rw[if_pos c] at this;rw[29]
   obtain⟨k2,e1,e2⟩:=av h';cases e2;obtain⟨q1,q2⟩:=SA e1;refine⟨by rw[q1];rfl,fun x m=>?_⟩
   rw[16]
   ·exact c
   ·exact q2 x m
  ·have:(if cA ks=ae/\bX ks≤6 then(kW r).bind fun kss=>aa (ks::kss) else ab)=aa kss:=h
   rw[if_neg c] at this;cases this
 |.none::_,_,h=>by cases h
 |.bool _::_,_,h=>by cases h
 |.int _::_,_,h=>by cases h
 |.str _::_,_,h=>by cases h
 |.list _::_,_,h=>by cases h
 |.dict _::_,_,h=>by cases h
open PySem PySem.Spec PySem.W PyProof.Rows
def fL:List aA->List aA->Bool
 |[],[]=>ae
 |.int _::r,.int _::r'=>fL r r'
 |.str _::r,.str _::r'=>fL r r'
 |_,_=>af
theorem EG (i j:Int)(r r':List aA):(cG (.int i::r)<cG (.int j::r'))↔i<j\/i=j/\cG r<cG r':=by
 show(jI (.int i)::cG r<jI (.int j)::cG r')↔_;rw[CB];simp[jI,CB]
theorem map_lt (xs ys:List Nat):(xs.map qI<ys.map qI)↔xs<ys:=by
 induction xs generalizing ys with
 |nil=>cases ys<;>simp
 |cons x r ih=>
  cases ys with
  |nil=>simp
  |cons y r'=>
   rw[eF,eF,CB,CB,ih];have h1:(qI x<qI y)↔x<y:=Int.ofNat_lt;have h2:(qI x=qI y)↔x=y:=⟨fun e=>Int.ofNat.inj e,fun e=>by rw[e]⟩
   rw[h1,h2]
theorem DU (x y:aE)(r r':List aA):(cG (.str x::r)<cG (.str y::r'))↔x.cps.toList<y.cps.toList\/x=y/\cG r<cG r':=by
 show(jI (.str x)::cG r<jI (.str y)::cG r')↔_;rw[CB];have h1:(jI (.str x)<jI (.str y))↔x.cps.toList<y.cps.toList:=by
  show((1:Int)::x.cps.toList.map qI<(1:Int)::y.cps.toList.map qI)↔_;rw[CB,map_lt];simp
 have h2:(jI (.str x)=jI (.str y))↔x=y:=⟨fun e=>by
  have:=KP (.inr ⟨x,rfl⟩) (.inr ⟨y,rfl⟩) e;injection this,fun e=>by rw[e]⟩
 rw[h1,h2]
section
variable {Q:Bool->aH->Prop}
theorem DJ:∀ (ks ir:List aA) {vs yh:List aC} {as nn:List aD} (i:Nat),fL ks ir=ae->mW s.heap vs ks as->mW s.heap yh ir nn->Q (decide (cG ks<cG ir)) s->KatLex prog w A b af Q (vs.zip yh) i s
 |[],[],vs,yh,as,nn,i,_,r,r',h=>by
  cases r;cases r';exact kat_nil h
 |.int x::ks,.int y::ir,vs,yh,as,nn,i,hs,r,r',h=>by
  cases r with
  |cons r1 r2=>
   cases r' with
   |cons t6 wx=>
    cases r1 with
    |int _ t=>
     cases t6 with
     |int _ u=>
      rw[BP];refine kat_cons ((hW prog w).eqBool (a:=.inl x) (b:=.inl y) (AE _ _ x t) (AE _ _ y u) ?_);refine kat_go (fun e=>kat_yes ?_) fun e=>kat_no ?_
      ·have e':x=y:=by simpa using e
       subst e';refine DJ ks ir (i+1) (by simpa [fL] using hs) r2 wx ?_
       have:decide (cG (.int x::ks)<cG (.int x::ir))=decide (cG ks<cG ir):=decide_eq_decide.mpr (by rw[EG];simp)
       rw[← this];exact h
      ·have e':x≠y:=by simpa using e
       have:decide (cG (.int x::ks)<cG (.int y::ir))=decide (x<y):=decide_eq_decide.mpr (by rw[EG];simp[e'])
       rw[this] at h;cases(b&&i==0) with
       |true=>exact oneLt_int h
       |false=>exact kat_one _ _ (lt_int h)
 |.str x::ks,.str y::ir,vs,yh,as,nn,i,hs,r,r',h=>by
  cases r with
  |cons r1 r2=>
   cases r' with
   |cons t6 wx=>
    cases r1 with
    |str _ t=>
     cases t6 with
     |str _ u=>
      rw[BP];refine kat_cons ((hW prog w).eqBool (a:=.inr x) (b:=.inr y) (AA _ _ x t) (AA _ _ y u) ?_);refine kat_go (fun e=>kat_yes ?_) fun e=>kat_no ?_
      ·have e':x=y:=by simpa using e
       subst e';refine DJ ks ir (i+1) (by simpa [fL] using hs) r2 wx ?_
       have:decide (cG (.str x::ks)<cG (.str x::ir))=decide (cG ks<cG ir):=decide_eq_decide.mpr (by rw[DU];simp[List.lt_irrefl])
       rw[← this];exact h
      ·have e':x≠y:=by simpa using e
       have:decide (cG (.str x::ks)<cG (.str y::ir))=decide (x.cps.toList<y.cps.toList):=decide_eq_decide.mpr (by rw[DU];simp[e'])
       rw[this] at h;cases(b&&i==0) with
       |true=>exact oneLt_str h
       |false=>exact kat_one _ _ (lt_str h)
end
def lM:List aA->Option String
 |.int _::_=>aa "int"
 |.str _::_=>aa "str"
 |_=>ab
theorem Vb {M:Model}{k:List aA}{b:aD}(hd:Ac4 h k b)(hk:lM k=aa T) :
  ∃ o xs n f,h.get? b=aa o/\o.cls=.type "tuple" /\ o.data=.seq xs n/\xs[0]?=aa f/\Looks M h (typeOf f) (.type T):=by
 obtain⟨_,_,as,r⟩:=hd;obtain⟨a,o,xs,n,e,ho,hc,hd,hi⟩:=mP r;rw[30]
 match k,hk,hi with
 |.int i::r,hk,hi=>
  cases hk;generalize hx:xs.toList=l at hi;cases hi with
  |cons h1 _=>
   cases h1 with
   |int _ t=>exact⟨o,xs,n,.int i t,ho,hc,hd,by rw[← lX,hx];rfl,Looks.of_pure rfl⟩
 |.str x::r,hk,hi=>
  cases hk;generalize hx:xs.toList=l at hi;cases hi with
  |cons h1 _=>
   cases h1 with
   |str _ t=>exact⟨o,xs,n,.str x t,ho,hc,hd,by rw[← lX,hx];rfl,Looks.of_pure rfl⟩
abbrev Ahg (h:aZ)(vs:List aC)(kss:List (List aA)):Prop:=fE (fun v k=>∃ b,v=fO b/\Ac4 h k b) vs kss
theorem LO {M:Model}{h:aZ}{T:String}:∀ {vs:List aC} {kss:List (List aA)},Ahg h vs kss->(∀ k∈kss,lM k=aa T)->∃ fs,KatTups h vs fs/\fs.length=vs.length/\∀ f∈fs,Looks M h (typeOf f) (.type T)
 |_,_,.nil,_=>⟨[],KatTups.nil,rfl,fun _ m=>by simp at m⟩
 |_,_,.cons ⟨b,e,hd⟩ t,hk=>by
  obtain⟨fs,h1,h2,h3⟩:=LO (M:=M) t fun k m=>hk k (cS _ m)
  obtain⟨o,xs,n,f,q1,q2,q3,q4,q5⟩:=Vb (M:=M) hd (hk _ cF);subst e;refine⟨f::fs,KatTups.cons q1 q2 q3 q4 h1,by rw[iB,iB,h2],fun g m=>?_⟩
  rw[16]
  ·exact q5
  ·exact h3 g m
theorem Ahg.get:∀ {vs:List aC} {kss:List (List aA)},Ahg h vs kss->∀ i,i<vs.length->∃ b,vs.getD i cZ=.ref b/\Ac4 h (kss.getD i []) b/\kss.getD i []∈kss
 |_,_,.nil,i,hi=>absurd hi (by simp)
 |_,_,.cons ⟨b,e,hd⟩ t,0,_=>⟨b,e,hd,cF⟩
 |_,_,.cons _ t,i+1,hi=>by
  obtain⟨b,q1,q2,q3⟩:=Ahg.get t i (by simpa using hi)
  exact⟨b,by simpa using q1,by simpa using q2,by simpa using cS _ q3⟩
theorem Ahg.keep(k:∀ b o,h.get? b=aa o->h'.get? b=aa o):∀ {vs:List aC} {kss:List (List aA)},Ahg h vs kss->Ahg h' vs kss
 |_,_,.nil=>.nil
 |_,_,.cons ⟨b,e,hd⟩ t=>.cons ⟨b,e,hd.keep fun b o _ _ q _ _=>k b o q⟩ (Ahg.keep k t)
theorem zQ:∀ {k k':List aA},fL k k'=ae->k.length=k'.length
 |[],[],_=>rfl
 |.int _::r,.int _::r',h=>by rw[iB,iB,zQ (k:=r) (k':=r') (by simpa [fL] using h)]
 |.str _::r,.str _::r',h=>by rw[iB,iB,zQ (k:=r) (k':=r') (by simpa [fL] using h)]
theorem tZ:∀ {vs:List aC} {ks:List aA} {as:List aD},mW h vs ks as->vs.length=ks.length
 |_,_,_,.nil=>rfl
 |_,_,_,.cons _ t=>by rw[iB,iB,tZ t]
theorem SC{P:NP->aH->Prop}(ho:s.heap.get? a=aa (hX "list" vs.toArray n))(h2:vs.length<2)(h:P (.done (.ret .none)) { s with heap:=sortedHeap s.heap a vs vs.toArray }) :
  aJ (aO prog w) A (Builtin.«list.sort» ⟨[.ref a],[]⟩) P E s:=by
 have lz:vs.length≤sizeLine:=by rw[mS];omega
 obtain⟨e1,yi⟩:∃ e,(s.heap.update a (gK fun _=>(#[]:Array aC))).get? a=aa (hX "list" #[] e):=⟨_,get?_update_seq ho fun _=>#[]⟩
 have yj:(lP s.heap a vs).get? a=aa (hX "list" #[] e1):=cL _ (cL _ yi);rw[list_sort_plain];refine aF (listItems_at ho rfl (aF (GL ho rfl (aF (seqEpoch_at yi rfl (aF (NI (aF (GH (iX ?_) (dU _))) (by simpa using lz))))) (by rw[fP];exact lz) (dU _))))
 show aJ (aO prog w) A _ P E { s with heap:=lP s.heap a vs };rw[13];have few:vs.toArray.size<2:=by rw[fP];exact h2
 rw[if_pos few,if_pos few];refine aF (aQ ?_);rw[StateT.run_pure];refine aF (aQ ?_);rw[13];have l9:(bC (SortSt.mk' general' (vs.toArray.zip vs.toArray) #[] 7 ab)).map (·.2)=vs.toArray:=by
  show(vs.toArray.zip vs.toArray).map (·.2)=vs.toArray;apply Dn.mp;have:∀ l:List aC,BW (fun x=>x.snd) (l.zip l)=l:=fun l=>by
   induction l with
   |nil=>rfl
   |cons a l ih=>rw[BP,eF,ih]
  simpa using this vs
 rw[l9];refine aF (seqEpoch_at yj rfl (aF (GL yj rfl ?_ (dU _) (Nat.le_succ_of_le (by rw[fP];exact lz)))))
 simp only[bne_self_eq_false,fA,if_false];exact aQ h
theorem Os(hl:s.heap.IsList l vs.toArray)(h2:vs.length<2)(h:Q (.ref (s.heap.objs.size+1)) { s with heap:=sortedAll s.heap vs vs.toArray }) :
  aJ (aO prog w) A (call (.builtin "sorted") [.ref l]) Q E s:=by
 refine OY kind_sorted plain_sorted entry_sorted (args_sorted1 _) ?_;unfold Builtin.«sorted»;refine aF (m:=checkCount "sorted" 1 1 _) (aQ (aF (collect_list hl (aF (GH ?_)))));have z:((s.heap.push (hX "list" #[] 0)).update s.heap.objs.size (gK (· ++ vs.toArray))).objs.size=s.heap.objs.size+1:=by rw[Heap.size_update,size_push']
 have o9:(((s.heap.push (hX "list" #[] 0)).update s.heap.objs.size (gK (· ++ vs.toArray))).push (hX "list" vs.toArray 0)).get? (s.heap.objs.size+1)=aa (hX "list" vs.toArray 0):=z ▸ eJ _ rfl;show aJ _ _ _ _ _ { s with heap:=((s.heap.push (hX "list" #[] 0)).update s.heap.objs.size (gK (· ++ vs.toArray))).push (hX "list" vs.toArray 0) };rw[z];refine aF (iX (iY slot_list_sort ⟨_,o9,rfl⟩ entry_list_sort (SC (s:={ s with heap:=_ }) o9 h2 ⟨_,rfl,?_⟩) (args_list_sort _)));exact aQ ⟨_,rfl,h⟩
theorem DV:∀ {a b:List aA},fL a b=ae->cG a=cG b->a=b
 |[],[],_,_=>rfl
 |.int i::r,.int j::r',h,e=>by
  have h':fL r r'=ae:=by simpa [fL] using h
  have e':jI (.int i)=jI (.int j)/\cG r=cG r':=by simpa [cG] using e
  rw[KP (.inl ⟨i,rfl⟩) (.inl ⟨j,rfl⟩) e'.1,DV h' e'.2]
 |.str x::r,.str y::r',h,e=>by
  have h':fL r r'=ae:=by simpa [fL] using h
  have e':jI (.str x)=jI (.str y)/\cG r=cG r':=by simpa [cG] using e
  rw[KP (.inr ⟨x,rfl⟩) (.inr ⟨y,rfl⟩) e'.1,DV h' e'.2]
def leT (a b:List aA):Bool:=!decide (cG b<cG a)
theorem Ahw {a b:List aA}:leT a b=ae ↔ ¬ cG b<cG a:=by simp[leT]
theorem Yj (a b c:List aA)(h1:leT a b=ae)(h2:leT b c=ae):leT a c=ae:=Ahw.mpr (VL _ _ _ (Ahw.mp h1) (Ahw.mp h2))
theorem Yh (a b:List aA):(leT a b||leT b a)=ae:=by
 by_cases h:cG b<cG a
 ·have:=WL _ _ h;simp[leT,h,this]
 ·simp[leT,h]
theorem Vw {a b:List aA}(hs:fL a b=ae)(h1:leT a b=ae)(h2:leT b a=ae):a=b:=by
 have h1:cG a≤cG b:=Ahw.mp h1;have h2:cG b≤cG a:=Ahw.mp h2;exact DV hs (List.le_antisymm h1 h2)
def iR (kss:List (List aA)):List (List aA):=kss.mergeSort leT
def sameAll (kss:List (List aA)):Bool:=kss.all fun k=>kss.all fun k'=>fL k k'
def jm (kss:List (List aA)):Bool:=decide (kss.length<2)||(sameAll kss&&kss.all fun k=>(lM k).isSome)
theorem uB (kss:List (List aA)):(iR kss).Perm kss:=List.mergeSort_perm kss leT
theorem MD (kss:List (List aA)):(iR kss).Pairwise fun a b=>leT a b=ae:=List.pairwise_mergeSort Yj Yh kss
theorem zS(hs:jm kss=ae)(hp:qs.Perm kss)(hr:qs.Pairwise fun a b=>leT a b=ae):qs=iR kss:=by
 have jx:qs.Perm (iR kss):=hp.trans (uB kss).symm;by_cases h2:kss.length<2
 ·have l1:qs.length<2:=by rw[hp.length_eq];exact h2
  match qs,l1,jx with
  |[],_,jx=>exact(List.nil_perm.mp jx).symm
  |[q],_,jx=>exact List.singleton_perm.mp jx
 ·have ig:sameAll kss=ae:=by
   have:(sameAll kss&&kss.all fun k=>(lM k).isSome)=ae:=by simpa [jm,h2] using hs
   exact(kT.mp this).1
  refine List.Perm.eq_of_pairwise (fun a b ma mb h1 h2=>Vw ?_ h1 h2) hr (MD kss) jx
  have X2:=hp.mem_iff.mp ma;have X3:=(uB kss).mem_iff.mp mb;exact gQ.mp (gQ.mp ig a X2) b X3
theorem same_kind:∀ {k k':List aA},fL k k'=ae->lM k=lM k'
 |[],[],_=>rfl
 |.int _::_,.int _::_,_=>rfl
 |.str _::_,.str _::_,_=>rfl
theorem RP {k:List aA}(h:lM k=aa T):T = "int" \/ T = "str":=by
 unfold lM at h;split at h
 ·cases h;exact .inl rfl
 ·cases h;exact .inr rfl
 ·cases h
abbrev vK (H:Hp)(ys:List V)(kss:List (List aA)):Prop:=fE (fun y k=>∃ b,y=V.ref b/\Asj H k b) ys kss
theorem SZ:∀ {kss:List (List aA)} {ys:List V},(∀ ks∈kss,cA ks=ae/\bX ks≤6)->Aax K H (kss.map iF) ys->vK H ys kss
 |[],ys,_,r=>by rw[Aat.mp r];exact .nil
 |k::kss,ys,hk,r=>by
  obtain⟨v,t,rfl,r1,r2⟩:=Aal.mp r;obtain⟨b,rfl,tk⟩:=r1.tupK (hk k cF).1 (hk k cF).2;exact .cons ⟨b,rfl,tk⟩ (SZ (fun x m=>hk x (cS _ m)) r2)
theorem TY {H':Hp}(x:∀ c zs,H c=aa (.tup zs)->H' c=aa (.tup zs)):∀ {ys:List V} {kss:List (List aA)},vK H ys kss->vK H' ys kss
 |_,_,.nil=>.nil
 |_,_,.cons ⟨b,e,tk⟩ t=>.cons ⟨b,e,tk.keep x⟩ (TY x t)
theorem Bg(ok:HOk P w H h):∀ {ys:List V} {kss:List (List aA)} {vs:List aC},vK H ys kss->Vals ys vs->Ahg h vs kss
 |_,_,_,.nil,.nil=>.nil
 |_,_,_,.cons ⟨b,e,tk⟩ t,.cons r rr=>by
  subst e;cases r;exact .cons ⟨b,rfl,pR ok tk⟩ (Bg ok t rr)
def sY (p:List Nat)(ys:List V):List V:=p.map fun i=>ys.getD i .non
theorem UZ:∀ {ys:List V} {vs:List aC} (i:Nat),Vals ys vs->i<ys.length->RelV (ys.getD i .non) (vs.getD i cZ)
 |_,_,0,.cons r _,_=>r
 |_,_,i+1,.cons _ t,h=>UZ i t (by simpa using h)
theorem VW(r:Vals ys vs):∀ p:List Nat,(∀ i∈p,i<ys.length)->Vals (sY p ys) (p.map fun i=>vs.getD i cZ)
 |[],_=>.nil
 |i::p,h=>.cons (UZ i r (h i cF)) (VW r p fun j m=>h j (cS _ m))
theorem VV:∀ {kss:List (List aA)} {ys:List V} (i:Nat),Aax K H (kss.map iF) ys->i<ys.length->Abz K H (.tuple (kss.getD i [])) (ys.getD i .non)
 |[],ys,i,r,h=>by rw[Aat.mp r] at h;simp at h
 |k::kss,ys,0,r,h=>by
  obtain⟨v,t,rfl,r1,r2⟩:=Aal.mp r;exact r1
 |k::kss,ys,i+1,r,h=>by
  obtain⟨v,t,rfl,r1,r2⟩:=Aal.mp r;exact VV i r2 (by simpa using h)
theorem VR(r:Aax K H (kss.map iF) ys):∀ p:List Nat,(∀ i∈p,i<ys.length)->Aax K H ((p.map fun i=>kss.getD i []).map iF) (sY p ys)
 |[],_=>Aat.mpr rfl
 |i::p,h=>Aal.mpr ⟨_,_,rfl,VV i r (h i cF),VR r p fun j m=>h j (cS _ m)⟩
theorem QD:∀ {ns:List Int} {vs:List aC},Vals (ns.map V.int) vs->IntsAre vs ns
 |[],_,.nil=>.nil
 |n::ns,_,.cons ⟨t,e⟩ r=>by
  subst e;exact .cons n t (QD r)
def uF:List aA->Option (List Int)
 |[]=>aa []
 |.int i::r=>(uF r).bind fun is=>aa (i::is)
 |_::_=>ab
theorem Bi:∀ {ds:List aA} {is:List Int},uF ds=aa is->ds=is.map aR
 |[],is,e=>by cases e;rfl
 |.int i::ds,is,e=>by
  obtain⟨is',e1,e2⟩:=av (show((uF ds).bind fun is=>aa (i::is))=aa is from e)
  cases e2;rw[Bi e1]
  rfl
 |.none::_,_,e=>by cases e
 |.bool _::_,_,e=>by cases e
 |.str _::_,_,e=>by cases e
 |.list _::_,_,e=>by cases e
 |.tuple _::_,_,e=>by cases e
 |.dict _::_,_,e=>by cases e
theorem YI:∀ {is:List Int} {ys:List V},Aax K H (is.map aR) ys->ys=is.map V.int
 |[],ys,r=>Aat.mp r
 |i::is,ys,r=>by
  obtain⟨v,t,rfl,r1,r2⟩:=Aal.mp r;rw[Aau.mp r1,YI r2]
  rfl
def V3:SF:=fun _=>ab
theorem Fd{s:cV}:DS X H0 P0 n0 s V3:=fun ad st σ H D I q=>by
 obtain⟨B0,ρ,fp,o,S,ef,k⟩:=q;cases ef
theorem Lo {k k':aP}{v:aC}(r:RelV (kV k) u)(r':RelV (kV k') v):OB u v (decide (k=k')):=by
 intro prog w A E s Q q;cases k with
 |inl i=>
  obtain⟨t,rfl⟩:=(show ∃ t,u=uN i t from r)
  cases k' with
  |inl j=>
   obtain⟨t',rfl⟩:=(show ∃ t,v=uN j t from r')
   refine SeqAt.EqAt.int_int i t j t' prog w E Q ?_;have:(i==j)=decide ((sP i:aP)=sP j):=by
    rw[pK];simp
   rw[this];exact q
  |inr y=>
   obtain⟨t',rfl⟩:=(show ∃ t,v=uM y t from r')
   exact SeqAt.EqAt.int_str i t y t' prog w E Q (by simpa using q)
 |inr x=>
  obtain⟨t,rfl⟩:=(show ∃ t,u=uM x t from r)
  cases k' with
  |inl j=>
   obtain⟨t',rfl⟩:=(show ∃ t,v=uN j t from r')
   exact SeqAt.EqAt.str_int x t j t' prog w E Q (by simpa using q)
  |inr y=>
   obtain⟨t',rfl⟩:=(show ∃ t,v=uM y t from r')
   refine SeqAt.EqAt.str_str x t y t' prog w E Q ?_;have:(x==y)=decide ((iK x:aP)=iK y):=by
    rw[pK];simp
   rw[this];exact q
theorem Uq (l:aD)(us:Array aC)(n:Nat)(dd:Option aD)(sl:Array (Option aC))(x:aC)(e:aC->Bool)(he:∀ y,y∈us->OB y x (e y))(gf:Int)(j:Nat)(hj:j<us.size)(ht:(j:Int)<gf)(hit:e us[j]=ae) :
  ∀ (k i:Nat),j-i=k->i≤j->(∀ m (hm:m<us.size),i≤m->m<j->e us[m]=af)->Meets (Builtin.«list.index.loop» ⟨[.ref l,x,dZ i,dZ gf],[]⟩)
   (fun _ R s=>s.heap.get? l=aa { cls:=.type "list",dict:=dd,data:=.seq us n,slots:=sl }/\R (.ok (.ret (.int j s.toks))) { s with toks:=s.toks+1 }):=by
 intro k;induction k with
 |zero=>
  intro i hk r6 rp prog w A R s h;obtain⟨hp,g,d,tk,os⟩:=s;obtain⟨hl,h⟩:=h;obtain rfl:i=j:=by omega
  wp_walk using wpAny_loadPart' hl
  rw[show(if (i:Int)<gf then us[((i:Nat):Int).toNat]? else ab)=aa us[i] by simp[ht,hj]]
  refine aF (he _ (Array.getElem_mem hj) prog w _ _ _ _ ?_);rw[hit]
  wp_walk
  exact h
 |succ k ih=>
  intro i hk r6 rp prog w A R s h;obtain⟨hp,g,d,tk,os⟩:=s;obtain⟨hl,h⟩:=h;have lt:i<us.size:=by omega
  have lo:(i:Int)<gf:=by omega
  wp_walk using wpAny_loadPart' hl
  rw[show(if (i:Int)<gf then us[((i:Nat):Int).toNat]? else ab)=aa us[i] by simp[lo,lt]]
  refine aF (he _ (Array.getElem_mem lt) prog w _ _ _ _ ?_);rw[rp i lt (bZ _) (by omega)]
  wp_walk
  rw[show((i:Int)+1)=((i+1:Nat):Int) by push_cast;rfl]
  refine⟨pZ OA _,pE MeetsSeq.entry_index_loop ?_⟩;rw[qM OA _];exact ih (i+1) (by omega) (by omega) (fun m hm h1 h2=>rp m hm (by omega) h2) prog w A R _ ⟨hl,h⟩
theorem Ni (l:aD)(us:Array aC)(n:Nat)(dd:Option aD)(sl:Array (Option aC))(x:aC)(e:aC->Bool)(he:∀ y,y∈us->OB y x (e y))(j:Nat)(hj:j<us.size)(small:(j:Int)<2^63-1)(hit:e us[j]=ae)(rp:∀ m (hm:m<us.size),m<j->e us[m]=af) :
  Meets (Builtin.«list.index» ⟨[.ref l,x],[]⟩) (fun _ R s=>s.heap.get? l=aa { cls:=.type "list",dict:=dd,data:=.seq us n,slots:=sl }/\R (.ok (.ret (.int j s.toks))) { s with toks:=s.toks+1 }):=by
 intro prog w A R s h;obtain⟨hp,g,d,tk,os⟩:=s;obtain⟨hl,h⟩:=h
 wp_walk using wpAny_loadPart' hl
 rw[show((fun i:Int=>if i<0 then max 0 (i+(us.size:Int)) else i) ((ab:Option Int).getD 0))=((0:Nat):Int) by simp,show((fun i:Int=>if i<0 then max 0 (i+(us.size:Int)) else i) ((ab:Option Int).getD (2^63-1)))=2^63-1 by simp]
 refine⟨pZ OA _,pE MeetsSeq.entry_index_loop ?_⟩;rw[qM OA _];exact Uq l us n dd sl x e he (2^63-1) j hj small hit _ 0 rfl (dU _) (fun m hm _ h2=>rp m hm h2) prog w A R _ ⟨hl,h⟩
def ur (ks:List aP)(k:aP):Option Nat:=ks.findIdx? fun y=>decide (y=k)
theorem We {ks:List aP}{k:aP}(h:ur ks k=aa j):ks[j]?=aa k/\∀ m,m<j->ks[m]?≠aa k:=by
 obtain⟨hj,h1,h2⟩:=Zs.mp h;refine⟨by rw[eW hj,of_decide_eq_true h1],fun m hm e=>?_⟩
 have:=h2 m hm;have hl:m<ks.length:=by omega
 rw[eW hl] at e;exact this (decide_eq_true (iH e))
theorem EZ:∀ {ks:List aP} {us:List aC},Vals (ks.map kV) us->∀ (m:Nat) (hm:m<us.length),∃ k,ks[m]?=aa k/\RelV (kV k) us[m]
 |[],_,.nil,m,hm=>by simp at hm
 |k::ks,_::us,.cons h t,0,hm=>⟨k,rfl,h⟩
 |k::ks,_::us,.cons h t,m+1,hm=>by
  obtain⟨k',e,r⟩:=EZ t m (by simpa using hm)
  exact⟨k',by simpa using e,by simpa using r⟩
def qj (k:aP)(u:aC):Bool:=match k,u with
 |.inl i,.int j _=>decide (j=i)
 |.inr x,.str y _=>decide (y=x)
 |_,_=>af
theorem JM {k k':aP}(r:RelV (kV k) u):qj k' u=decide (k=k'):=by
 cases k with
 |inl i=>
  obtain⟨t,rfl⟩:=(show ∃ t,u=uN i t from r)
  cases k' with
  |inl j=>simp[qj]
  |inr y=>simp[qj]
 |inr x=>
  obtain⟨t,rfl⟩:=(show ∃ t,u=uM x t from r)
  cases k' with
  |inl j=>simp[qj]
  |inr y=>simp[qj]
def Ls (K:aM):V->List V->Hp->VK->Prop:=fun x vs H Q=>∃ p ks k j,x=.ref p/\vs=[kV k]/\SqL K H p (ks.map kV)/\ur ks k=aa j/\Q (.int j) H
theorem Ys {ks:List aP}{k:aP}{us:List aC}{v:aC}(r:Vals (ks.map kV) us)(rk:RelV (kV k) v)(h:ur ks k=aa j) :
  (∀ y,y∈us.toArray->OB y v (qj k y))/\∃ hj:j<us.toArray.size,qj k us.toArray[j]=ae/\∀ m (hm:m<us.toArray.size),m<j->qj k us.toArray[m]=af:=by
 obtain⟨h1,h2⟩:=We h;have hl:ks.length=us.length:=by simpa using r.length
 have hj:j<us.length:=by rw[← hl];exact(dD.mp h1).1
 refine⟨fun y m=>?_,by simpa using hj,?_,fun m hm bg=>?_⟩
 ·obtain⟨i,hi,rfl⟩:=Cr (show y∈us by simpa using m)
  obtain⟨k',e,rr⟩:=EZ r i hi;rw[JM rr];exact Lo rr rk
 ·obtain⟨k',e,rr⟩:=EZ r j hj;rw[h1] at e;rw[30];show qj k us[j]=ae;rw[JM rr];simp
 ·have o8:m<us.length:=by simpa using hm
  obtain⟨k',e,rr⟩:=EZ r m o8;show qj k us[m]=af;rw[JM rr];exact decide_eq_false fun q=>h2 m bg (q ▸ e)
theorem Zd:D2 X "list.index" (Ls X.K):=by
 intro ad s σ H x vs v us Q I rx rv h;obtain⟨p,ks,k,j,rfl,rfl,hp,hj,q⟩:=h;cases rx;obtain⟨u,rfl,ru⟩:=rv.one;obtain⟨its,r,pl,hz⟩:=I.list hp;obtain⟨he,bg,hit,rp⟩:=Ys r ru hj;obtain⟨⟨cls,dd,data,sl⟩,n,e,hc,_,hd⟩:=pl;simp only at hc hd;subst hc hd;have hn:=tP;have lz:its.toArray.size≤sizeLine:=by rw[fP,← r.length];exact hz
 refine call_meets Zf ⟨_,e,rfl⟩ PySem.F.entry_list_index (PySem.F.args_list_index_2 _ _) (Ni p its.toArray n dd sl u (qj k) he j bg (by omega) hit rp) ⟨e,⟨.int j,H,I.tok _,⟨_,rfl⟩,q⟩⟩
def tJ:List aA->Option (List aP)
 |[]=>aa []
 |d::r=>(dI d).bind fun k=>(tJ r).bind fun ks=>aa (k::ks)
theorem XH:∀ {ds:List aA} {xs:List V} {ks:List aP},tJ ds=aa ks->Aax K H ds xs->xs=ks.map kV
 |[],xs,ks,e,r=>by
  rw[30];exact Aat.mp r
 |d::ds,xs,ks,e,r=>by
  obtain⟨k,e1,e2⟩:=av (show((dI d).bind fun k=>(tJ ds).bind fun ks=>aa (k::ks))=aa ks from e)
  obtain⟨ir,e3,e4⟩:=av e2;cases e4;obtain⟨v,t,rfl,h1,h2⟩:=Aal.mp r;rw[rZ e1 h1,XH e3 h2]
  rfl
def yQ (ds:List aA)(d:aA):Option aA:=(tJ ds).bind fun ks=>(dI d).bind fun k=>(ur ks k).bind fun j=>aa (.int j)
section
variable {o k:bF}{fo fk:EF}{au:dA}
theorem Yd{r:aA}(h:yQ ds d=aa r):∃ ks kk j,tJ ds=aa ks/\dI d=aa kk/\ur ks kk=aa j/\r=.int j:=by
 obtain⟨ks,e1,h⟩:=av h;obtain⟨kk,e2,h⟩:=av h;obtain⟨j,e3,h⟩:=av h;cases h;exact⟨ks,kk,j,e1,e2,e3,rfl⟩
def zF:aA->aA->Option aA
 |.list ds,d=>yQ ds d
 |_,_=>ab
theorem UX (ho:DE X o fo)(hk:DE X k fk)(cg:sO o "index" X.env (cE o X.env)=cE o X.env:=by rfl)
  (gi:((iJ au (cH (k::[]) X.env)).all (fun x=>!x.1)&&(xP au (xN [] X.env)).all (fun x=>x.1.isSome)
   && decide ((k::[]).length+([]:List nA).length+(if ([]:List nA).isEmpty then 0 else 1)<30))=ae:=by rfl)
  (cj:(ay.endLine==au.line)=ae:=by rfl) (hs:cH (k::[]) X.env=(af,cE k X.env)::cH [] X.env:=by rfl) (ck:(iJ au (cH [] X.env)).any (·.1)=af:=by rfl) :
  DE X (.Call (.Attribute o "index" ay) [k] [] au) (ah zF fo fk):=
 PE.imp (AQ NQ Zf PySem.F.type_list_index Zd ho (oW hk qQ hs) cg gi cj hs ck) fun σ H Q gh=>by
  obtain⟨P,ρ,d,hP,rs,ef,kk⟩:=gh;obtain⟨d1,e1,de⟩:=av ef;obtain⟨d2,e2,b9⟩:=av de;cases d1 with
  |list ds=>
   obtain⟨ks,key,j,g1,g2,g3,rfl⟩:=Yd (show yQ ds d2=aa d from b9)
   refine⟨P,ρ,_,hP,rs,e1,gF fun v H1 x1 r1=>?_⟩
   obtain⟨q,ys,rfl,hq,rr⟩:=Abg.mp r1;obtain rfl:=XH g1 rr;refine⟨.inl ⟨rfl,_,Aaz.sqL hq⟩,P,ρ,d2,hP.ext x1,rs.ext (fD x1),e2,gF fun u H2 x2 r2=>?_⟩
   exact⟨q,ks,key,j,rfl,by rw[rZ g2 r2],x2.sqL (Aaz.sqL hq),g3,kk.zero (x1.trans x2) (Aau.mpr rfl)⟩
  |_=>cases b9
theorem SU {j pos}:DF 1 X (.Constant .none j pos) (eC .none):=PE.imp ZR fun σ H Q gh=>by
 rw[4];cases ef;exact k .non H [] Ext.refl .nil (fun a m=>by simp at m) ⟨rfl,Acj.mpr rfl⟩
end
open PySem
structure Sub (P:bS)(w:bH)(it:aD)(own:List aD)(St:Nat->aZ->Prop)(xs:Array aC):Prop where
 mem:it∈own
 obj:∀ k h,St k h->∀ c∈own,∃ o,h.get? c=aa o
 keep:∀ k h h',St k h->(∀ c∈own,∀ o,h.get? c=aa o->h'.get? c=aa o)->St k h'
 item:∀ (A:cD) (E:aC->aH->Prop) (s:aH) (Q:aC->aH->Prop) (k:Nat) (x:aC),St k s.heap->xs[k]?=aa x ->
  (∀ h',St (k+1) h'->oH it s.heap h'->Q x { s with heap:=h' })->aJ (aO P w) A (nB (.ref it)) Q E s
 done:∀ (A:cD) (E:aC->aH->Prop) (s:aH) (Q:aC->aH->Prop) (k:Nat),A.handled=ab->St k s.heap->xs[k]?=ab ->
  (∀ h' e,OQ it s.heap h'->(∃ o,h'.get? e=aa o/\o.cls=.type "StopIteration")->E (.ref e) { s with heap:=h' })->aJ (aO P w) A (nB (.ref it)) Q E s
section
theorem Xg {j t:aD}(hj:s.heap.IsTupleIter j t k)(ht:s.heap.IsTuple t us)(hu:us[k]?=aa u)
  (q:∀ h',h'.IsTupleIter j t (k+1)->oH j s.heap h'->Q u { s with heap:=h' }):aJ (aO P w) A (nB (.ref j)) Q E s:=by
 obtain⟨oj,g1,g2,g3⟩:=id hj;obtain⟨ot,t1,_,nt,t2⟩:=ht;unfold nB;refine aF (nX (name:=kM "__next__") hj.typeIs OR (iY OR hj.typeIs F.entry_tuple_iterator_next ?_ (F.args_tuple_iterator_next_1 _)));show aJ _ _ (nZ (.ref j) 0>>=_) _ _ s;refine aF (kK g1 g3 (x:=.ref t) rfl ?_);show aJ _ _ (if (fO t==cZ)=ae then _ else _) _ E s
 have ne:¬ (fO t==cZ)=ae:=oJ;rw[if_neg ne];show aJ _ _ (nZ (.ref j) 1>>=_) _ _ s;refine aF (kK g1 g3 (x:=.int k 0) rfl ?_);show aJ _ _ (BE (.ref t)>>=_) _ E s;refine aF (lF t1 t2 ?_);simp only[mH,hu];refine aF (NF g1 g3 (by simp) (aQ ⟨u,rfl,aQ (q _ ⟨_,qK _ g1 (Obj.isFreed_of_fields (NV g3 _)),(Obj.cls_mapFields ..).trans g2,?_⟩ (yC ..))⟩))
 rw[NV g3];simp[dZ]
theorem Vi {j t:aD}(hh:A.handled=ab)(hj:s.heap.IsTupleIter j t k)(ht:s.heap.IsTuple t us)(hu:us[k]?=ab)
  (q:∀ h' e,OQ j s.heap h'->(∃ o,h'.get? e=aa o/\o.cls=.type "StopIteration")->E (.ref e) { s with heap:=h' }):aJ (aO P w) A (nB (.ref j)) Q E s:=by
 obtain⟨oj,g1,g2,g3⟩:=id hj;obtain⟨ot,t1,_,nt,t2⟩:=ht;unfold nB;refine aF (nX (name:=kM "__next__") hj.typeIs OR (iY OR hj.typeIs F.entry_tuple_iterator_next ?_ (F.args_tuple_iterator_next_1 _)));show aJ _ _ (nZ (.ref j) 0>>=_) _ _ s;refine aF (kK g1 g3 (x:=.ref t) rfl ?_);show aJ _ _ (if (fO t==cZ)=ae then _ else _) _ E s
 have ne:¬ (fO t==cZ)=ae:=oJ;rw[if_neg ne];show aJ _ _ (nZ (.ref j) 1>>=_) _ _ s;refine aF (kK g1 g3 (x:=.int k 0) rfl ?_);show aJ _ _ (BE (.ref t)>>=_) _ E s;refine aF (lF t1 t2 ?_);simp only[mH,hu];refine aF (lG (aF (NF g1 g3 (by simp) ?_)))
 show aJ _ _ (newExc (.type "StopIteration") []>>=_) _ E _;rw[22];simp only[newExc,newTuple];refine aF (mC ?_ (by size_fits))
 refine aF (m:=uK _ _) (GG (a:=cZ) (by first|rfl|(simp only[uK];rfl)) ?_)
 refine mC ?_ (by size_fits)
 simp only[raiseNew];refine aF (NJ ?_)
 first|rw[show A.in1.handled=ab from hh]|rw[hh]
 refine aF (aQ (ND (q _ _ (((yC ..).extBut.push _).push _) ⟨_,eJ _ rfl,rfl⟩)))
theorem Lr (j t:aD)(us:Array aC)(ne:t≠j):Sub P w j [j,t] (fun k h=>h.IsTupleIter j t k/\h.IsTuple t us) us where
 mem:=cF
 obj:=fun k h ⟨⟨o,e,_⟩,⟨o',e',_⟩⟩ c hc=>by
  rcases eD.mp hc with rfl|hc
  ·exact⟨o,e⟩
  ·rw[eB.mp hc];exact⟨o',e'⟩
 keep:=fun k h h' ⟨⟨o,e,r⟩,⟨o',e',r'⟩⟩ kp=>⟨⟨o,kp j cF o e,r⟩,⟨o',kp t (by simp) o' e',r'⟩⟩
 item:=fun A E s Q k x ⟨a,b⟩ hx q=>Xg a b hx fun h' a' sb=>q h' ⟨a',b.extBut sb.extBut ne⟩ sb
 done:=fun A E s Q k hh ⟨a,b⟩ hx q=>Vi hh a b hx q
theorem Xe (j t:aD)(us:Array aC)(ne:t≠j):Sub P w j [j,t] (fun k h=>h.IsListIter j t k/\h.IsList t us) us where
 mem:=cF
 obj:=fun k h ⟨⟨o,e,_⟩,⟨o',e',_⟩⟩ c hc=>by
  rcases eD.mp hc with rfl|hc
  ·exact⟨o,e⟩
  ·rw[eB.mp hc];exact⟨o',e'⟩
 keep:=fun k h h' ⟨⟨o,e,r⟩,⟨o',e',r'⟩⟩ kp=>⟨⟨o,kp j cF o e,r⟩,⟨o',kp t (by simp) o' e',r'⟩⟩
 item:=fun A E s Q k x ⟨a,b⟩ hx q=>wpAny_nextOf_list_item a b hx fun h' a' sb=>q h' ⟨a',b.extBut sb.extBut ne⟩ sb
 done:=fun A E s Q k hh ⟨a,b⟩ hx q=>wpAny_nextOf_list_end hh a b hx q
structure ZApart (z TI TO i1 i2:aD)(o1 o2:List aD):Prop where
 TIz:TI≠z
 TOz:TO≠z
 TITO:TI≠TO
 TI1:TI≠i1
 TI2:TI≠i2
 i12:i1≠i2
 z1:z∉o1
 z2:z∉o2
 TO1:TO∉o1
 TO2:TO∉o2
 x12:i1∉o2
 x21:i2∉o1
variable {TI TO:aD}{xs ys:Array aC}
def o5 (z TI TO i1 i2:aD)(S1 S2:Nat->aZ->Prop)(f0:aC)(k:Nat)(h:aZ):Prop:=
 qH h z TI TO f0/\mG h TI (.ref i1) (.ref i2)/\(∃ a b,mG h TO a b)/\S1 k h/\S2 k h
theorem Sub.but {it c:aD}{own:List aD}{St:Nat->aZ->Prop}(U:Sub P w it own St us)(st:St k h)(hc:c∉own)(e:OQ c h h'):St k h':=
 U.keep k h h' st fun b hb o g=>e b o (fun q=>hc (q ▸ hb)) g
theorem Xk(D:ZApart z TI TO i1 i2 o1 o2)(U:Sub P w i1 o1 S1 xs)(V:Sub P w i2 o2 S2 ys)(st:o5 z TI TO i1 i2 S1 S2 .none k s.heap)(hx:xs[k]?=aa x)(hy:ys[k]?=aa y)
  (q:∀ h',o5 z TI TO i1 i2 S1 S2 (dZ s.heap.objs.size) (k+1) h'->mG h' s.heap.objs.size x y->h'.objs.size=s.heap.objs.size+1 ->
   (∀ c o,c≠z->c≠TO->c≠i1->c≠i2->s.heap.get? c=aa o->h'.get? c=aa o)->Q (.ref s.heap.objs.size) { s with heap:=h' }) :
  aJ (aO P w) A (Builtin.«zip.__next__» ⟨[.ref z],[]⟩) (fun fin s'=>∃ v,fin=.done (.ret v)/\Q v s') E s:=by
 obtain⟨gz,gI,⟨a,b,gO⟩,km,bt⟩:=st;have z1:i1≠z:=fun e=>D.z1 (e ▸ U.mem)
 have z2:i2≠z:=fun e=>D.z2 (e ▸ V.mem)
 have t1:TO≠i1:=fun e=>D.TO1 (e ▸ U.mem)
 have t2:TO≠i2:=fun e=>D.TO2 (e ▸ V.mem)
 show aJ _ _ (nZ (.ref z) 2>>=_) _ E s;refine aF (kK gz rfl (x:=.bool af) rfl ?_);show aJ _ _ (nZ (.ref z) 3>>=_) _ E s;refine aF (kK gz rfl (x:=.ref TI) rfl (aF (lF gI rfl ?_)));show aJ _ _ (vB (.ref z)>>=_) _ E s;rw[22];unfold vB;refine aF (kK gz rfl (x:=.none) rfl (aQ ?_));rw[20];refine aF (lG (aF (kK gz rfl (x:=.ref TO) rfl ?_)));refine aF (nW gz (by simp) fun ha pv sa=>?_)
 replace pv:qH ha z TI TO .ellipsis:=pv;rw[22];simp only[Cg,Cf,HJ,OL];refine aF (aF (NH ?_));show aJ _ _ (nB (.ref i1)>>=_) _ _ _;refine aF (U.item _ _ _ _ k x (U.but km D.z1 sa.extBut) hx fun hb py sb=>aQ ?_)
 have yk:mG hb TO a b:=sb.extBut _ _ t1 (sa.extBut _ _ D.TOz gO);refine aF (lF yk rfl (aF (Bm yk fun hc B7 sc=>?_)))
 replace B7:mG hc TO x b:=B7;refine aF (GI (aQ (aF (aF (NH ?_)))));show aJ _ _ (nB (.ref i2)>>=_) _ _ _;refine aF (V.item _ _ _ _ k y (V.but (V.but (V.but bt D.z2 sa.extBut) D.x12 sb.extBut) D.TO2 sc.extBut) hy fun hd vc sd=>aQ ?_)
 have R3:mG hd TO x b:=sd.extBut _ _ t2 B7;refine aF (lF R3 rfl (aF (Bm R3 fun he B9 se=>?_)))
 replace B9:mG he TO x y:=B9;refine aF (GI (aQ (aQ ?_)));refine aF (lF B9 rfl (aF (NI ?_)));have size:he.objs.size=s.heap.objs.size:=by rw[se.1,sd.1,sc.1,sb.1,sa.1]
 have R4:qH he z TI TO .ellipsis:=se.extBut _ _ D.TOz.symm (sd.extBut _ _ z2.symm (sc.extBut _ _ D.TOz.symm (sb.extBut _ _ z1.symm pv)));have jw:∀ c o,c≠z->c≠TO->c≠i1->c≠i2->s.heap.get? c=aa o->he.get? c=aa o:=fun c o n1 n2 n3 n4 g=>se.extBut _ _ n2 (sd.extBut _ _ n4 (sc.extBut _ _ n2 (sb.extBut _ _ n3 (sa.extBut _ _ n1 g))))
 have G0:S1 (k+1) he:=U.but (U.but (U.but py D.TO1 sc.extBut) D.x21 sd.extBut) D.TO1 se.extBut;have G1:S2 (k+1) he:=V.but vc D.TO2 se.extBut;have R5:z<he.objs.size:=cC R4;show aJ _ _ (Zw (.ref z) (.ref he.objs.size)>>=_) _ _ _;rw[22];unfold Zw;have X4:qH (he.push { cls:=.type "tuple",data:=.seq #[x,y] }) z TI TO .ellipsis:=cL _ R4;refine aF (nW X4 (by simp) fun hg G3 sg=>?_)
 replace G3:qH hg z TI TO (dZ he.objs.size):=G3;refine nW G3 (by simp) fun hi Ch si=>?_
 replace Ch:qH hi z TI TO (dZ he.objs.size):=Ch;have up:∀ c o,c≠z->he.get? c=aa o->hi.get? c=aa o:=fun c o n1 g=>si.extBut _ _ n1 (sg.extBut _ _ n1 (cL _ g))
 have gT:mG hi he.objs.size x y:=si.extBut _ _ (jU R5) (sg.extBut _ _ (jU R5) (eJ _ rfl));have sz:hi.objs.size=he.objs.size+1:=by rw[si.1,sg.1,qJ]
 have G4:S1 (k+1) hi:=U.keep _ _ _ G0 fun c hc o g=>up c o (fun e=>D.z1 (e ▸ hc)) g
 have G5:S2 (k+1) hi:=V.keep _ _ _ G1 fun c hc o g=>up c o (fun e=>D.z2 (e ▸ hc)) g
 rw[size] at Ch gT sz;refine aQ ⟨_,rfl,?_⟩;show Q (.ref he.objs.size) _;rw[size];exact q hi ⟨Ch,up _ _ D.TIz (jw _ _ D.TIz D.TITO D.TI1 D.TI2 gI),⟨x,y,up _ _ D.TOz B9⟩,G4,G5⟩ gT sz fun c o n1 n2 n3 n4 g=>up c o n1 (jw c o n1 n2 n3 n4 g)
theorem Vp {Q:Fin->aH->Prop}(hh:A.handled=ab)(D:ZApart z TI TO i1 i2 o1 o2)(U:Sub P w i1 o1 S1 xs)(V:Sub P w i2 o2 S2 ys)(st:o5 z TI TO i1 i2 S1 S2 .none k s.heap)(i6:xs[k]?=ab\/ys[k]?=ab)
  (q:∀ h' e,(∀ c o,c≠z->c≠TO->c≠i1->c≠i2->s.heap.get? c=aa o->h'.get? c=aa o)->(∃ o,h'.get? e=aa o/\o.cls=.type "StopIteration")->E (.ref e) { s with heap:=h' }) :
  aJ (aO P w) A (Builtin.«zip.__next__» ⟨[.ref z],[]⟩) Q E s:=by
 obtain⟨gz,gI,⟨a,b,gO⟩,km,bt⟩:=st;have z1:i1≠z:=fun e=>D.z1 (e ▸ U.mem)
 have z2:i2≠z:=fun e=>D.z2 (e ▸ V.mem)
 have t1:TO≠i1:=fun e=>D.TO1 (e ▸ U.mem)
 show aJ _ _ (nZ (.ref z) 2>>=_) _ E s;refine aF (kK gz rfl (x:=.bool af) rfl ?_);show aJ _ _ (nZ (.ref z) 3>>=_) _ E s;refine aF (kK gz rfl (x:=.ref TI) rfl (aF (lF gI rfl ?_)));show aJ _ _ (vB (.ref z)>>=_) _ E s;rw[22];unfold vB;refine aF (kK gz rfl (x:=.none) rfl (aQ ?_));rw[20];refine aF (lG (aF (kK gz rfl (x:=.ref TO) rfl ?_)));refine aF (nW gz (by simp) fun ha pv sa=>?_)
 replace pv:qH ha z TI TO .ellipsis:=pv;rw[22];simp only[Cg,Cf,HJ,OL];refine aF (aF (NH ?_));show aJ _ _ (nB (.ref i1)>>=_) _ _ _;have R6:∀ {h':aZ} {e:aD},qH h' z TI TO .ellipsis->(∃ o,h'.get? e=aa o/\o.cls=.type "StopIteration")->e≠z:=fun g ⟨o,g1,g2⟩ n=>by
  subst n;rw[g] at g1;cases g1;simp at g2
 cases hx:xs[k]? with
 |none=>
  refine aF (U.done _ _ _ _ k hh (U.but km D.z1 sa.extBut) hx fun hb e sb he=>?_)
  have R7:qH hb z TI TO .ellipsis:=sb _ _ z1.symm pv;have ne:=R6 R7 he;obtain⟨o,g1,g2⟩:=he;exact nW R7 (by simp) fun hc _ sc=>q hc e (fun c o n1 _ n3 _ g=>sc.extBut _ _ n1 (sb _ _ n3 (sa.extBut _ _ n1 g))) ⟨o,sc.extBut _ _ ne g1,g2⟩
 |some x=>
  have hy:ys[k]?=ab:=i6.resolve_left fun h=>by rw[hx] at h;cases h
  refine aF (U.item _ _ _ _ k x (U.but km D.z1 sa.extBut) hx fun hb py sb=>aQ ?_)
  have yk:mG hb TO a b:=sb.extBut _ _ t1 (sa.extBut _ _ D.TOz gO);refine aF (lF yk rfl (aF (Bm yk fun hc B7 sc=>?_)))
  refine aF (GI (aQ (aF (aF (NH ?_)))));show aJ _ _ (nB (.ref i2)>>=_) _ _ _;refine aF (V.done _ _ _ _ k hh (V.but (V.but (V.but bt D.z2 sa.extBut) D.x12 sb.extBut) D.TO2 sc.extBut) hy fun hd e sd he=>?_)
  have Cl:qH hd z TI TO .ellipsis:=sd _ _ z2.symm (sc.extBut _ _ D.TOz.symm (sb.extBut _ _ z1.symm pv));have ne:=R6 Cl he;obtain⟨o,g1,g2⟩:=he;exact nW Cl (by simp) fun hf _ sf=>q hf e (fun c o n1 n2 n3 n4 g=>sf.extBut _ _ n1 (sd _ _ n4 (sc.extBut _ _ n2 (sb.extBut _ _ n3 (sa.extBut _ _ n1 g))))) ⟨o,sf.extBut _ _ ne g1,g2⟩
theorem RV{Q:Option aC->aH->Prop}(D:ZApart z TI TO i1 i2 o1 o2)(U:Sub P w i1 o1 S1 xs)(V:Sub P w i2 o2 S2 ys)(st:o5 z TI TO i1 i2 S1 S2 .none k s.heap)(hx:xs[k]?=aa x)(hy:ys[k]?=aa y)
  (q:∀ h',o5 z TI TO i1 i2 S1 S2 (dZ s.heap.objs.size) (k+1) h'->mG h' s.heap.objs.size x y->h'.objs.size=s.heap.objs.size+1 ->
   (∀ c o,c≠z->c≠TO->c≠i1->c≠i2->s.heap.get? c=aa o->h'.get? c=aa o)->Q (aa (.ref s.heap.objs.size)) { s with heap:=h' }):aJ (aO P w) A (iA (.ref z)) Q E s:=by
 have ty:s.TypeIs (.ref z) "zip":=⟨_,st.1,rfl⟩;unfold iA;exact aF (pY (nX (name:=kM "__next__") ty uY (iY uY ty OU (Xk D U V st hx hy fun h' a1 a2 a3 a4=>aQ (q h' a1 a2 a3 a4)) (OV _))))
theorem SV {Q:Option aC->aH->Prop}(hh:A.handled=ab)(D:ZApart z TI TO i1 i2 o1 o2)(U:Sub P w i1 o1 S1 xs)(V:Sub P w i2 o2 S2 ys)(st:o5 z TI TO i1 i2 S1 S2 .none k s.heap)(i6:xs[k]?=ab\/ys[k]?=ab)
  (q:∀ h',(∀ c o,c≠z->c≠TO->c≠i1->c≠i2->s.heap.get? c=aa o->h'.get? c=aa o)->Q ab { s with heap:=h' }):aJ (aO P w) A (iA (.ref z)) Q E s:=by
 have ty:s.TypeIs (.ref z) "zip":=⟨_,st.1,rfl⟩;unfold iA;refine aF (pY (nX (name:=kM "__next__") ty uY (iY uY ty OU (Vp hh D U V st i6 fun h' e kp ⟨o,g1,g2⟩=>?_) (OV _))))
 exact aF (sM (T:="StopIteration") (b:=ae) ⟨o,g1,g2⟩ GM (aQ (q _ kp)))
end
def SqB (b:Bool)(h:aZ)(l:aD)(us:Array aC):Prop:=match b with
 |true=>h.IsList l us
 |false=>h.IsTuple l us
def wk (b:Bool)(l:aD):bJ:={ cls:=.type (match b with|true=>"list_iterator" | false=>"tuple_iterator"),data:=.fields #[.ref l,.int 0 0] }
def StB (b:Bool)(j l:aD)(us:Array aC)(k:Nat)(h:aZ):Prop:=match b with
 |true=>h.IsListIter j l k/\h.IsList l us
 |false=>h.IsTupleIter j l k/\h.IsTuple l us
theorem vV(b:Bool)(j l:aD)(us:Array aC)(ne:l≠j):Sub P w j [j,l] (StB b j l us) us:=by
 cases b with
 |true=>exact Xe j l us ne
 |false=>exact Lr j l us ne
theorem SqB.keep(q:SqB b h l us)(k:∀ o,h.get? l=aa o->h'.get? l=aa o):SqB b h' l us:=by
 cases b with
 |true=>
  obtain⟨o,e,r⟩:=q;exact⟨o,k o e,r⟩
 |false=>
  obtain⟨o,e,r⟩:=q;exact⟨o,k o e,r⟩
theorem StB.new{j:aD}(q:SqB b h l us)(e:h.get? j=aa (wk b l)):StB b j l us 0 h:=by
 cases b with
 |true=>exact⟨⟨_,e,rfl,rfl⟩,q⟩
 |false=>exact⟨⟨_,e,rfl,rfl⟩,q⟩
section
variable {l1 l2:aD}{xs ys:Array aC}
theorem ZX(h:SqB b s.heap l us)(q:Q (.ref s.heap.objs.size) { s with heap:=s.heap.push (wk b l) }):aJ (aO P w) A (pC (.ref l)) Q E s:=by
 cases b with
 |true=>exact NG h q
 |false=>exact wpAny_pyIter_tuple h q
abbrev zA (b1:Bool)(h:aZ)(l1:aD):aZ:=h.push (wk b1 l1)
abbrev zB (b1 b2:Bool)(h:aZ)(l1 l2:aD):aZ:=(zA b1 h l1).push (wk b2 l2)
abbrev zC (b1 b2:Bool)(h:aZ)(l1 l2:aD):aZ:=(zB b1 b2 h l1 l2).push { cls:=.type "tuple",data:=.seq #[.ref h.objs.size,.ref (zA b1 h l1).objs.size] }
abbrev zD (b1 b2:Bool)(h:aZ)(l1 l2:aD):aZ:=(zC b1 b2 h l1 l2).push { cls:=.type "tuple",data:=.seq #[.none,.none] }
abbrev zE (b1 b2:Bool)(h:aZ)(l1 l2:aD):aZ:=(zD b1 b2 h l1 l2).push { cls:=.type "zip",data:=.fields #[.none,.bool af,.bool af,.ref (zB b1 b2 h l1 l2).objs.size,.ref (zC b1 b2 h l1 l2).objs.size] }
theorem Uy (b1 b2:Bool)(l1 l2:aD)(xs ys:Array aC) :
  Meets (Builtin.«zip.__new__» ⟨[.type "zip",.ref l1,.ref l2],[]⟩) (fun _ R s=>SqB b1 s.heap l1 xs/\SqB b2 s.heap l2 ys /\
   R (.ok (.ret (.ref (zD b1 b2 s.heap l1 l2).objs.size))) { s with heap:=zE b1 b2 s.heap l1 l2 }):=
 .of_wp fun prog w A R s h=>by
  obtain⟨hp,g,d,tk,os⟩:=s;obtain⟨q1,q2,q⟩:=h;have sz:=sub_zip;have u1:SqB b1 (Shared.heap ⟨hp,g,d,tk,os⟩) l1 xs:=q1;have u2:SqB b2 (Shared.heap ⟨hp.push (wk b1 l1),g,d,tk,os⟩) l2 ys:=q2.keep fun o e=>cL _ e
  wp_walk using ZX u1,ZX u2
  exact⟨_,rfl,q⟩
theorem Ya {l1 l2:Nat}(h1:l1<n)(h2:l2<n):ZApart (n+4) (n+2) (n+3) n (n+1) [n,l1] [n+1,l2]:=by
 have wy:∀ {a b c:Nat},a≠b->a≠c->a∉[b,c]:=fun h h' m=>by
  rcases eD.mp m with m|m
  ·exact h m
  ·exact h' (eB.mp m)
 have ne:∀ {a b:Nat},a<b->a≠b:=dM;have en:∀ {a b:Nat},b<a->a≠b:=jU;exact⟨ne (by omega),ne (by omega),ne (by omega),en (by omega),en (by omega),ne (by omega),wy (en (by omega)) (en (by omega)),wy (en (by omega)) (en (by omega)),wy (en (by omega)) (en (by omega)),wy (en (by omega)) (en (by omega)),wy (ne (by omega)) (en h2),wy (en (by omega)) (en (by omega))⟩
theorem UI(h1:SqB b1 s.heap l1 xs)(h2:SqB b2 s.heap l2 ys)
  (q:∀ (z TI TO i1 i2:aD) (h':aZ),s.heap.objs.size≤z->s.heap.objs.size≤TI->s.heap.objs.size≤TO->s.heap.objs.size≤i1->s.heap.objs.size≤i2->ZApart z TI TO i1 i2 [i1,l1] [i2,l2]->o5 z TI TO i1 i2 (StB b1 i1 l1 xs) (StB b2 i2 l2 ys) .none 0 h' ->
   (∀ c o,s.heap.get? c=aa o->h'.get? c=aa o)->Q (.ref z) { s with heap:=h' }):aJ (aO P w) A (call (.type "zip") [.ref l1,.ref l2]) Q E s:=by
 refine callType_new F.called_zip (by decide) (F.typeCall_zip_2 _ _) (F.newCall_zip_2 _ _) (fun obj=>F.args_object_init_3 obj _ _) F.entry_zip_new (Uy b1 b2 l1 l2 xs ys) ⟨h1,h2,?_⟩
 have za:(zA b1 s.heap l1).objs.size=s.heap.objs.size+1:=qJ ..;have zb:(zB b1 b2 s.heap l1 l2).objs.size=s.heap.objs.size+2:=by rw[qJ,za]
 have zc:(zC b1 b2 s.heap l1 l2).objs.size=s.heap.objs.size+3:=by rw[qJ,zb]
 have zd:(zD b1 b2 s.heap l1 l2).objs.size=s.heap.objs.size+4:=by rw[qJ,zc]
 have g5:(zE b1 b2 s.heap l1 l2).get? (zD b1 b2 s.heap l1 l2).objs.size=aa _:=eJ _ rfl;have g4:(zE b1 b2 s.heap l1 l2).get? (zC b1 b2 s.heap l1 l2).objs.size=aa _:=cL _ (eJ _ rfl);have g3:(zE b1 b2 s.heap l1 l2).get? (zB b1 b2 s.heap l1 l2).objs.size=aa _:=cL _ (cL _ (eJ _ rfl));have g2:(zE b1 b2 s.heap l1 l2).get? (zA b1 s.heap l1).objs.size=aa (wk b2 l2):=cL _ (cL _ (cL _ (eJ _ (by cases b2<;>rfl))))
 have g1:(zE b1 b2 s.heap l1 l2).get? s.heap.objs.size=aa (wk b1 l1):=cL _ (cL _ (cL _ (cL _ (eJ _ (by cases b1<;>rfl)))))
 have all:∀ c o,s.heap.get? c=aa o->(zE b1 b2 s.heap l1 l2).get? c=aa o:=fun c o x=>cL _ (cL _ (cL _ (cL _ (cL _ x))))
 have X5:l1<s.heap.objs.size:=by
  cases b1 with
  |true=>obtain⟨o,e,_⟩:=h1;exact cC e
  |false=>obtain⟨o,e,_⟩:=h1;exact cC e
 have X6:l2<s.heap.objs.size:=by
  cases b2 with
  |true=>obtain⟨o,e,_⟩:=h2;exact cC e
  |false=>obtain⟨o,e,_⟩:=h2;exact cC e
 refine⟨⟨_,g5,rfl⟩,q _ (zB b1 b2 s.heap l1 l2).objs.size (zC b1 b2 s.heap l1 l2).objs.size s.heap.objs.size (zA b1 s.heap l1).objs.size _ (by omega) (by omega) (by omega) (by omega) (by omega) ?_ ⟨g5,g3,⟨_,_,g4⟩,StB.new (h1.keep (all l1)) g1,StB.new (h2.keep (all l2)) g2⟩ all⟩
 have ap:=Ya X5 X6;rw[← za,← zb,← zc,← zd] at ap;exact ap
end
def ItB (b:Bool)(j l:aD)(k:Nat)(h:aZ):Prop:=match b with
 |true=>h.IsListIter j l k
 |false=>h.IsTupleIter j l k
theorem Ahm{j:aD}:StB b j l us k h↔ItB b j l k h/\SqB b h l us:=by cases b<;>exact Iff.rfl
theorem ItB.get{j:aD}(q:ItB b j l k h):∃ o,h.get? j=aa o/\∀ v,o.data ≠ .cell v:=by
 cases b with
 |true=>
  obtain⟨o,e,_,d⟩:=q;exact⟨o,e,fun v z=>by rw[d] at z;cases z⟩
 |false=>
  obtain⟨o,e,_,d⟩:=q;exact⟨o,e,fun v z=>by rw[d] at z;cases z⟩
theorem ItB.keep{j:aD}(q:ItB b j l k h)(kp:∀ o,h.get? j=aa o->h'.get? j=aa o):ItB b j l k h':=by
 cases b with
 |true=>
  obtain⟨o,e,r⟩:=q;exact⟨o,kp o e,r⟩
 |false=>
  obtain⟨o,e,r⟩:=q;exact⟨o,kp o e,r⟩
def l0 (b:Bool)(K:aM)(H:Hp)(a:aD)(xs:List V):Prop:=match b with
 |true=>SqL K H a xs
 |false=>SqT K H a xs
section
variable {σ:St}
theorem Inv.sqB{xs:List V}(I:Inv X ad σ H s)(h:l0 b X.K H a xs):∃ its:List aC,Vals xs its/\SqB b s.heap a its.toArray:=by
 cases b with
 |true=>
  obtain⟨its,rv,p,_⟩:=I.list h;exact⟨its,rv,p.isList⟩
 |false=>
  obtain⟨its,rv,p,_⟩:=I.tuple h;exact⟨its,rv,p⟩
theorem Inv.sqV_inj{xs:List V}(I:Inv X ad σ H s)(h:l0 b X.K H a xs)(h':l0 b X.K H a ys):xs=ys:=by
 cases b with
 |true=>exact I.list_inj h h'
 |false=>exact I.tuple_inj h h'
theorem Inv.turnM {t':Nat}{fp:List aD}(I:Inv X ad σ H s)(hf:∀ b∈fp,lL X ad H b)(k:∀ b o,b∉fp->s.heap.get? b=aa o->h'.get? b=aa o):Inv X ad σ H { s with heap:=h',toks:=t' }:=by
 have out:∀ b u,H b=aa u->b∉fp:=fun b u e m=>by
  rw[(hf b m).1] at e;rw[30]
 have loc:X.env.locals∉fp:=fun m=>(hf _ m).2.1 rfl
 refine I.step (g':=s.gens) (d':=s.drawn) (ch:=fp) (fun b m=>⟨(hf b m).2.2.2.1,(hf b m).2.1,(hf b m).2.2.2.2.1,(hf b m).2.2.2.2.2⟩) (fun b o _ _ n e _=>k b o n e) (fun b o _ _ n e _=>⟨o.slots,k b o n e⟩) (fun _ _ _ _ n=>n)
  (fun b o n e=>⟨o,k b o n e⟩) (fun _ _ e=>e) (fun _ _ _ e=>e) (fun b ps e=>⟨#[],by rw[e];simp⟩) (fun m hm=>?_) (fun b u e=>?_) I.bare
 ·obtain⟨o,es,ep,ho,r⟩:=hm;exact⟨o,es,ep,k _ o loc ho,r⟩
 ·refine(I.hok b u e).stay (fun c v hc q=>k c v ?_ q) (fun _ q=>q) fun _ _ q=>q
  rcases hc with z|z
  ·rw[z];exact out b u e
  ·exact out c _ z
end
def HU (K:aM)(b1 b2:Bool)(a1 a2:aD):It:=
  ⟨fun i H=>∃ xs ys x y,l0 b1 K H a1 xs/\l0 b2 K H a2 ys/\xs[i]?=aa x/\ys[i]?=aa y,
   fun i H v H'=>∃ T x y,H T=ab/\v=.ref T/\(∀ xs,l0 b1 K H a1 xs->xs[i]?=aa x)/\(∀ ys,l0 b2 K H a2 ys->ys[i]?=aa y)/\H'=aq H T (.tup [x,y]),
   fun i H=>∃ xs ys,l0 b1 K H a1 xs/\l0 b2 K H a2 ys/\(xs.length≤i\/ys.length≤i)⟩
def tnZ (b1 b2:Bool)(a1 a2 z TI TO i1 i2:aD)(i:Nat)(h:aZ):Prop:=qH h z TI TO .none/\mG h TI (.ref i1) (.ref i2)/\(∃ a b,mG h TO a b)/\ItB b1 i1 a1 i h/\ItB b2 i2 a2 i h
theorem Ww{es:List bF}{cx}{pos:dA}{b1 b2:Bool}{a1 a2 z TI TO i1 i2:aD}(D:ZApart z TI TO i1 i2 [i1,a1] [i2,a2])(n1:a1≠i1)(n2:a2≠i2) :
  Turn P w K (.Tuple es cx pos) (HU K b1 b2 a1 a2) [z,TI,TO,i1,i2] z (tnZ b1 b2 a1 a2 z TI TO i1 i2) where
 mem:=by simp
 obj:=fun i h ⟨g1,g2,⟨a,b,g3⟩,g4,g5⟩ c hc=>by
  simp only[eD,HB,or_false] at hc;rcases hc with rfl|rfl|rfl|rfl|rfl
  ·exact⟨_,g1,fun v q=>by cases q⟩
  ·exact⟨_,g2,fun v q=>by cases q⟩
  ·exact⟨_,g3,fun v q=>by cases q⟩
  ·exact g4.get
  ·exact g5.get
 keep:=fun i h h' ⟨g1,g2,⟨a,b,g3⟩,g4,g5⟩ k=>⟨k z (by simp) _ g1,k TI (by simp) _ g2,⟨a,b,k TO (by simp) _ g3⟩,g4.keep (k i1 (by simp)),g5.keep (k i2 (by simp))⟩
 item:=by
  rw[1];obtain⟨xs,ys,x,y,q1,q2,hx,hy⟩:=hg;obtain⟨us,r1,s1⟩:=I.sqB q1;obtain⟨vs,r2,s2⟩:=I.sqB q2;obtain⟨u,hu,ru⟩:=r1.get hx;obtain⟨v,hv,rv⟩:=r2.get hy;obtain⟨g1,g2,⟨pa,pb,g3⟩,g4,g5⟩:=st;have oe:o5 z TI TO i1 i2 (StB b1 i1 a1 us.toArray) (StB b2 i2 a2 vs.toArray) .none i s.heap:=⟨g1,g2,⟨pa,pb,g3⟩,Ahm.mpr ⟨g4,s1⟩,Ahm.mpr ⟨g5,s2⟩⟩;have yl:∀ b∈[z,TI,TO,i1,i2],b<s.heap.objs.size:=fun b m=>by
   simp only[eD,HB,or_false] at m;rcases m with rfl|rfl|rfl|rfl|rfl
   ·exact cC g1
   ·exact cC g2
   ·exact cC g3
   ·obtain⟨o,e,_⟩:=g4.get;exact cC e
   ·obtain⟨o,e,_⟩:=g5.get;exact cC e
  refine RV D (vV b1 i1 a1 us.toArray n1) (vV b2 i2 a2 vs.toArray n2) oe (x:=u) (y:=v) (by simpa using hu) (by simpa using hv) fun h' zt pr sz jw=>?_
  have fr:H s.heap.objs.size=ab:=I.hok.fresh (bZ _);have I0:Inv X ad σ (aq H s.heap.objs.size (.tup [x,y])) { s with heap:=s.heap.push { cls:=.type "tuple",data:=.seq #[u,v] } }:=
   I.laid (t':=s.toks) (o:=.tup [x,y]) (fun b ob q=>cL _ q) (bZ _) ⟨by show 2≤sizeLine;decide,[u,v],.cons ru (.cons rv .nil),Bck.new _ _⟩
  have G6:∀ b∈[z,TI,TO,i1,i2],lL X ad (aq H s.heap.objs.size (.tup [x,y])) b:=fun b m=>⟨by rw[fU (dM (yl b m))];exact(hf b m).1,(hf b m).2⟩
  have I1:Inv X ad σ (aq H s.heap.objs.size (.tup [x,y])) { s with heap:=h' }:=I0.turnM (t':=s.toks) G6 fun b o n e=>by
   simp only[eD,HB,or_false,not_or] at n;by_cases hb:b=s.heap.objs.size
   ·subst hb;have e':(s.heap.push { cls:=.type "tuple",data:=.seq #[u,v] }).get? s.heap.objs.size=aa { cls:=.type "tuple",data:=.seq #[u,v] }:=eJ _ rfl;have:aa o=aa _:=e.symm.trans e';rw[this];exact pr
   ·exact jw b o n.1 n.2.2.1 n.2.2.2.1 n.2.2.2.2 ((Heap.get?_push_ne _ _ _ hb).symm.trans e)
  obtain⟨w1,w2,⟨wa,wb,w3⟩,w4,w5⟩:=zt;have z1:i1≠z:=fun e=>D.z1 (e ▸ cF)
  have z2:i2≠z:=fun e=>D.z2 (e ▸ cF)
  refine⟨_,rfl,wpAny_letOwnedTupleGo_zip w1 fun h2 gz sb=>?_⟩
  have I2:Inv X ad σ (aq H s.heap.objs.size (.tup [x,y])) { s with heap:=h2 }:=I1.turnM (t':=s.toks) G6 fun b o n e=>sb.extBut b o (fun q=>n (by simp[q])) e
  exact⟨.ref s.heap.objs.size,_,I2,rfl,⟨_,x,y,fr,rfl,fun jk h=>by rw[I.sqV_inj h q1];exact hx,fun ym h=>by rw[I.sqV_inj h q2];exact hy,rfl⟩,
   ⟨gz,sb.extBut _ _ D.TIz w2,⟨wa,wb,sb.extBut _ _ D.TOz w3⟩,(Ahm.mp w4).1.keep fun o e=>sb.extBut _ _ z1 e,(Ahm.mp w5).1.keep fun o e=>sb.extBut _ _ z2 e⟩,fun b m=>(G6 b m).1⟩
 done:=by
  rw[1];obtain⟨xs,ys,q1,q2,hl⟩:=hg;obtain⟨us,r1,s1⟩:=I.sqB q1;obtain⟨vs,r2,s2⟩:=I.sqB q2;obtain⟨g1,g2,g3,g4,g5⟩:=st;have oe:o5 z TI TO i1 i2 (StB b1 i1 a1 us.toArray) (StB b2 i2 a2 vs.toArray) .none i s.heap:=⟨g1,g2,g3,Ahm.mpr ⟨g4,s1⟩,Ahm.mpr ⟨g5,s2⟩⟩;have l1:=r1.length;have l2:=r2.length;refine SV (I.ok.hd hc) D (vV b1 i1 a1 us.toArray n1) (vV b2 i2 a2 vs.toArray n2) oe ?_ fun h' jw=>⟨rfl,I.turnM (t':=s.toks) hf fun b o n e=>?_⟩
  ·rcases hl with hl|hl
   ·exact .inl (by simp;omega)
   ·exact .inr (by simp;omega)
  ·simp only[eD,HB,or_false,not_or] at n;exact jw b o n.1 n.2.2.1 n.2.2.2.1 n.2.2.2.2 e
 self:=fun _ _ _ _ _ st h=>Bp st.1 h
section
variable {a b:bF}{p ux:dA}{es:List bF}{cx:Nat}
def Eo (K:aM)(ta:TA):TI:=fun σ H R=>ta σ H fun vs H1=>∃ a1 a2 b1 b2 xs ys,vs=[.ref a1,.ref a2]/\l0 b1 K H1 a1 xs/\l0 b2 K H1 a2 ys/\R (HU K b1 b2 a1 a2) H1
theorem Ih {ta:TA}(hg:Gl X "zip")(hm:X.mg "zip" = ab)(ha:PA X [a,b] ta)(hs:cH [a,b] X.env=[(af,cE a X.env),(af,cE b X.env)]:=by rfl)(j3:cH [b] X.env=[(af,cE b X.env)]:=by rfl) :
  PI X (.Tuple es cx ux) (.Call (.Name "zip" p) [a,b] [] pos) (Eo X.K ta):=by
 intro ad s σ H R I h;refine Call_ (tH I hg hm boot_zip (GU (a9 (ha pos ad s σ H _ I h) fun us s1 ⟨vs,H1,I1,r1,q1⟩=>?_) (by rw[hs,j3]) (by rw[j3];rfl)))
 obtain⟨a1,a2,b1,b2,xs,ys,rfl,k1,k2,q⟩:=q1;cases r1 with
 |cons r rr=>
  cases rr with
  |cons r' rr=>
   cases rr;cases r;cases r';obtain⟨u1,_,w1⟩:=I1.sqB k1;obtain⟨u2,_,w2⟩:=I1.sqB k2;have m1:a1<s1.heap.objs.size:=by
    cases b1 with
    |true=>obtain⟨o,e,_⟩:=w1;exact cC e
    |false=>obtain⟨o,e,_⟩:=w1;exact cC e
   have m2:a2<s1.heap.objs.size:=by
    cases b2 with
    |true=>obtain⟨o,e,_⟩:=w2;exact cC e
    |false=>obtain⟨o,e,_⟩:=w2;exact cC e
   refine UI w1 w2 fun z TI TO i1 i2 h' y0 y1 y2 y3 y4 D oe all=>Bp oe.1 ?_
   refine⟨z,[z,TI,TO,i1,i2],_,_,H1,rfl,I1.kept (t':=s1.toks) all,Ww D (fun e=>?_) (fun e=>?_),⟨oe.1,oe.2.1,oe.2.2.1,(Ahm.mp oe.2.2.2.1).1,(Ahm.mp oe.2.2.2.2).1⟩,fun b m=>?_,q⟩
   ·exact kQ _ (iL m1 (e ▸ y3))
   ·exact kQ _ (iL m2 (e ▸ y4))
   ·have le:s1.heap.objs.size≤b:=by
     simp only[eD,HB,or_false] at m;rcases m with rfl|rfl|rfl|rfl|rfl<;>assumption
    exact I1.fpOk le (I1.hok.fresh le)
def oU:aA->Option (List aA)
 |.list ds=>aa ds
 |.tuple ds=>aa ds
 |_=>ab
def pairD (x y:aA):aA:=.tuple [x,y]
def iZ (fa:AF):AF:=fun ρ=>(fa ρ).bind fun ds=>match ds with
 |[x,y]=>(oU x).bind fun xs=>(oU y).bind fun ys=>aa (xT pairD xs ys)
 |_=>ab
theorem FH{B:Hp}(e:oU d=aa ds)(r:Abz K B d v):∃ a b xs,v=.ref a/\(∀ H2,Ext B H2->l0 b K H2 a xs)/\Aax K B ds xs:=by
 cases d with
 |list es=>
  rw[30];obtain⟨a,xs,rfl,h,rr⟩:=Abg.mp r;exact⟨a,ae,xs,rfl,fun H2 x2=>x2.sqL h,rr⟩
 |tuple es=>
  rw[30];obtain⟨a,xs,rfl,h,rr⟩:=Aa5.mp r;exact⟨a,af,xs,rfl,fun H2 x2=>SqT.of (x2 _ _ h),rr⟩
 |_=>cases e
theorem Li{B:Hp}{a1 a2:aD}{xs:List V}{es:List aA}(h1:∀ H2,Ext B H2->l0 b1 K H2 a1 xs)(h2:∀ H2,Ext B H2->l0 b2 K H2 a2 ys)(r1:Aax K B ds xs)(r2:Aax K B es ys) :
  qh K B (HU K b1 b2 a1 a2) (xT pairD ds es):=fun i H2 x2=>by
 refine⟨fun d hd=>?_,fun e=>⟨xs,ys,h1 H2 x2,h2 H2 x2,?_⟩⟩
 ·rw[List.getElem?_zipWith] at hd;cases c1:ds[i]? with
  |none=>rw[c1] at hd;simp at hd
  |some d1=>
   cases c2:es[i]? with
   |none=>rw[c1,c2] at hd;simp at hd
   |some d2=>
    rw[c1,c2] at hd;have hd:pairD d1 d2=d:=by simpa using hd
    subst hd;obtain⟨v1,g1,g2⟩:=r1.get c1;obtain⟨v2,g3,g4⟩:=r2.get c2;refine⟨⟨xs,ys,v1,v2,h1 H2 x2,h2 H2 x2,g1,g3⟩,?_⟩;rintro x H3 ⟨T,x',y',fr,rfl,k1,k2,rfl⟩;obtain rfl:v1=x':=iH (g1.symm.trans (k1 xs (h1 H2 x2)));obtain rfl:v2=y':=iH (g3.symm.trans (k2 ys (h2 H2 x2)));have ext:Ext H2 (aq H2 T (.tup [v1,v2])):=fun b u e=>by rw[fU (mQ e fr)];exact e
    refine⟨ext,fun P2 X7 xb=>?_⟩
    have nT:¬ P2 T:=fun q=>by
     rcases X7 T q with⟨o,e⟩|⟨o,e⟩<;>rw[fr] at e<;>cases e
    have gT:hid (aq H2 T (.tup [v1,v2])) P2 T=aa (.tup [v1,v2]):=lO nT jK;have xx:Ext B (hid (aq H2 T (.tup [v1,v2])) P2):=xb.trans (fD ext);exact Aa5.mpr ⟨T,_,rfl,gT,Aal.mpr ⟨_,_,rfl,g2.ext xx,Aal.mpr ⟨_,_,rfl,g4.ext xx,Aat.mpr rfl⟩⟩⟩
 ·rw[List.length_zipWith] at e;rw[r1.length,r2.length];omega
theorem Aa {fa:AF}(hg:Gl X "zip")(hm:X.mg "zip" = ab)(ha:DA X [a,b] fa)(hs:cH [a,b] X.env=[(af,cE a X.env),(af,cE b X.env)]:=by rfl)(j3:cH [b] X.env=[(af,cE b X.env)]:=by rfl) :
  DI X (.Tuple es cx ux) (.Call (.Name "zip" p) [a,b] [] pos) (iZ fa):=PI.imp (Ih hg hm ha hs j3) fun σ H R gh=>by
 obtain⟨P,ρ,ds,hP,rs,ef,k⟩:=gh;obtain⟨as,e1,de⟩:=av ef;clear ef
 match as,e1,de with
 |[x,y],e1,de=>
  obtain⟨xs,e2,b9⟩:=av (show((oU x).bind fun xs=>(oU y).bind fun ys=>aa (xT pairD xs ys))=aa ds from de)
  obtain⟨ys,e3,ja⟩:=av b9;cases ja;refine⟨P,ρ,_,hP,rs,e1,fun vs H1 x1 r1=>?_⟩
  obtain⟨v,t,rfl,q1,q2⟩:=Aal.mp r1;obtain⟨v',rfl,q3⟩:=jT q2;obtain⟨a1,b1,us,rfl,k1,w1⟩:=FH e2 q1;obtain⟨a2,b2,G7,rfl,k2,w2⟩:=FH e3 q3;exact⟨a1,a2,b1,b2,us,G7,rfl,k1 _ Aaz,k2 _ Aaz,k _ H1 x1 (Li k1 k2 w1 w2)⟩
 |[],_,h=>cases h
 |[_],_,h=>cases h
 |_::_::_::_,_,h=>cases h
end
def Tu:V->List V->Hp->VK->Prop:=fun x vs H Q=>∃ d ep kvs k y,x=.ref d/\vs=[kV k,y]/\H d=aa (.dK ep kvs)/\kvs.length<sizeLine /\
 ((∃ u,jH kvs k=aa u/\Q u H)\/(jH kvs k=ab/\∀ n,Q y (aq H d (.dK n (putK kvs k y)))))
theorem Zb:D1 X "dict.setdefault" Tu:=by
 intro ad s σ H x vs v us Q I rx rv h;obtain⟨d,ep,kvs,k,y,rfl,rfl,e,l,q⟩:=h;cases rx;cases rv with
 |cons rk rr=>
  cases rr with
  |cons ry rr=>
   cases rr;obtain⟨z,hd,ws,ff,dd⟩:=AV I.hok e;refine NN Zg dd.typeIs PySem.F.entry_dict_setdefault (PySem.F.args_dict_setdefault_3 _ _ _) (kt_meets_setdefault (hW X.prog X.w) d (vN rk) hd _) ⟨ws,dd,by rw[← ff.length];exact z,fun w hw=>?_,fun hn h' rj sb=>?_⟩
   ·have rl:=ff.val k;rcases q with⟨u,hu,q⟩|⟨hu,q⟩
    ·rw[hu] at rl;obtain⟨w',e1,e2⟩:=rl.some_of;have e3:w'=w:=by rw[e1] at hw;exact iH hw
     subst e3;exact⟨u,H,I.tok _,e2,q⟩
    ·rw[hu] at rl;have:=rl.none_of;rw[this] at hw;cases hw
   ·have rl:=ff.val k;rcases q with⟨u,hu,q⟩|⟨hu,q⟩
    ·rw[hu] at rl;obtain⟨w',e1,e2⟩:=rl.some_of;rw[e1] at hn;cases hn
    ·have hl:(putK kvs k y).length≤sizeLine:=by have:=FI kvs k y;omega
     have he:∃ q,h'.get? d=aa q:=let ⟨q,_,_,hq,_⟩:=rj;⟨q,hq⟩;obtain⟨n,da⟩:=rj.dictAt;exact⟨y,_,JP I (by rw[e];exact rD) sb he (DB hl hd (ff.put k ry) da),ry,q n⟩
section
variable {c k v e2:bF}{fc:BF}{fk fv f2:EF}{x y:aE}{p1 p3 ap cp:dA}
def tf (i j:Nat)(mc:Md)(fc:BF)(mk:Md)(fk:EF)(mv:Md)(fv:EF)(m2:Md)(f2:EF):SF:=fun ρ=>(bV mc fc ρ).bind fun b=>if b=ae then
  (eV 0 mk fk ρ).bind fun kd=>(eV 0 mv fv ρ).bind fun d=>(dI kd).bind fun key=>(fQ j ρ).bind fun kds=>match d with
   | .int n=>if i<ρ.length/\kds.length<sizeLine then aa (.nx (match dH kds key with
    |some u=>ρ.set i (aa (0,u))
    | none=>(ρ.set j (aa (1,.dict (putD kds key (.int n))))).set i (aa (0,.int n)))) else ab
   |_=>ab
 else(eV 0 m2 f2 ρ).bind fun d=>if i<ρ.length then aa (.nx (ρ.set i (aa (0,d)))) else ab
theorem Gi (i j:Nat)(mc mk mv m2:Md)(hN:X.N.Nodup)(hc:DT X c fc)(hk:DE X k fk)(hv:DE X v fv)(he:DE X e2 f2)(hi:X.N[i]?=aa x:=by rfl)(hx:nD X.env.scope x:=by trivial)
  (hj:X.N[j]?=aa y:=by rfl) (hy:oK X.env.scope y:=by first|exact bA rfl|exact bB (bA rfl)|exact bB (bB rfl)) (hd:(y==("__debug__" : aE))=af:=by decide)
  (ic:(y==("__classdict__" : aE))=af:=by decide) (cg:sO (.Name y p2) "setdefault" X.env (cE (.Name y p2) X.env)=cE (.Name y p2) X.env:=by rfl)
  (gi:((iJ cp (cH (k::[v]) X.env)).all (fun x=>!x.1)&&(xP cp (xN [] X.env)).all (fun x=>x.1.isSome)
   && decide ((k::[v]).length+([]:List nA).length+(if ([]:List nA).isEmpty then 0 else 1)<30))=ae:=by rfl)
  (cj:(ap.endLine==cp.line)=ae:=by rfl) (hs:cH (k::[v]) X.env=(af,cE k X.env)::cH [v] X.env:=by rfl) (j3:cH (v::[]) X.env=(af,cE v X.env)::cH [] X.env:=by rfl) (ck:(iJ cp (cH [v] X.env)).any (·.1)=af:=by rfl)
  (pi:nY (.IfExp c (.Call (.Attribute (.Name y p2) "setdefault" ap) [k,v] [] cp) e2 p3) (aa (.Name x p1)) pos.line X.env=pure af:=by rfl) (hf:X.fn x=ae\/X.env.scope.names.lookup x=aa .local:=by first|exact .inl rfl|exact .inr rfl|assumption) :
  DS X H0 P0 n0 (.Assign [.Name x p1] (.IfExp c (.Call (.Attribute (.Name y p2) "setdefault" ap) [k,v] [] cp) e2 p3) pos) (tf i j mc fc mk fk mv fv m2 f2):=
 PS.imp (ZS hN hi hx (Wf (V2 (H0:=H0) (P0:=P0) mc hc) (AQ Zh Zg PySem.F.type_dict_setdefault Zb (qP hj hy hd ic) (oW (ev (H0:=H0) (P0:=P0) mk hk) (oW (ev (H0:=H0) (P0:=P0) mv hv) qQ j3) hs) cg gi cj hs ck) (ev (H0:=H0) (P0:=P0) m2 he)) pi hf) fun D σ H gh=>by
  obtain⟨B0,ρ,fp,o,S,ef,kk⟩:=gh;obtain⟨b,e1,de⟩:=av ef;refine⟨B0,ρ,fp,b,S,e1,fun H1 S1=>?_⟩
  cases b with
  |false=>
   refine vI ?_;obtain⟨d,g1,g2⟩:=av (show((eV 0 m2 f2 ρ).bind fun d=>if i<ρ.length then aa (Out.nx (ρ.set i (aa (0,d)))) else ab)=aa o from de)
   obtain⟨hl,rfl⟩:=dX g2;refine⟨B0,ρ,fp,d,S1,g1,fun u H2 t=>?_⟩
   obtain⟨gu,S'⟩:=t.set hl;exact kk _ _ gu S'
  |true=>
   refine vE ?_;obtain⟨kd,g1,b9⟩:=av (show((eV 0 mk fk ρ).bind fun kd=>(eV 0 mv fv ρ).bind fun d=>(dI kd).bind fun key=>(fQ j ρ).bind fun kds=>match d with
    | .int n=>if i<ρ.length/\kds.length<sizeLine then aa (Out.nx (match dH kds key with
     |some u=>ρ.set i (aa (0,u))
     | none=>(ρ.set j (aa (1,.dict (putD kds key (.int n))))).set i (aa (0,.int n)))) else ab
    | _=>ab)=aa o from de)
   obtain⟨d,g2,ja⟩:=av b9;obtain⟨key,g3,qr⟩:=av ja;obtain⟨kds,g4,R8⟩:=av qr;clear ef de b9 ja qr;cases d with
   |int n=>
    obtain⟨⟨hl,hz⟩,rfl⟩:=dX R8;obtain⟨p,ep,xs,h1,h2,_,_⟩:=S1.dic1 (FD g4);refine⟨.ref p,h1,.inr (.inr (.inl ⟨rfl,.inl ⟨ep,xs,h2⟩⟩)),B0,ρ,fp,kd,S1,g1,fun v1 H2 gh=>?_⟩
    obtain⟨kr,S2,r2⟩:=gh;have X8:v1=kV key:=rZ g3 r2.2;refine⟨B0,ρ,kr,.int n,S2,g2,fun v2 H3 gh=>?_⟩
    obtain⟨fp3,S3,r3⟩:=gh;have X9:v2=.int n:=Aau.mp r3.2;subst X8 X9;obtain⟨p3,F9,yg,q1,q2,q3,q4⟩:=S3.dic1 (FD g4);have:p3=p:=by rw[h1] at q1;cases q1;rfl
    rw[25];refine⟨p3,F9,yg,key,.int n,rfl,rfl,q2,by rw[q3.length];exact hz,?_⟩
    rcases wJ (k:=key) q3 with⟨n1,n2⟩|⟨d',v',s1,s2,rd⟩
    ·refine .inr ⟨n2,fun m=>?_⟩
     rw[n1] at kk;have S4:=q4 m _ _ (JI (k:=key) (d:=.int n) (v:=.int n) q3 (Aau.mpr rfl));obtain⟨gu,S'⟩:=S4.Am8 (i:=i) (d:=.int n) (v:=.int n) (Aau.mpr rfl) (by simpa using hl)
     exact kk _ _ gu S'
    ·refine .inl ⟨v',s2,?_⟩;rw[s1] at kk;obtain⟨gu,S'⟩:=S3.Am8 (i:=i) rd hl;exact kk _ _ gu S'
   |_=>cases R8
end
theorem Jq{k:aP}(h:(hW P w).is k u=ae):RelV (kV k) u:=by
 rcases pA h with⟨i,tk,e1,e2⟩|⟨x,tk,e1,e2⟩
 ·rw[e1,e2];exact⟨tk,rfl⟩
 ·rw[e1,e2];exact⟨tk,rfl⟩
theorem ZD:∀ {kvs:List (aP×V)} {vs:List (aP×aC)} {i:Nat} {kv:aP×V},KV kvs vs->kvs[i]?=aa kv->∃ u,vs[i]?=aa u/\kv.1=u.1/\RelV kv.2 u.2
 |_,_,0,_,.cons h _,e=>by
  rw[30];exact⟨_,rfl,h.1,h.2⟩
 |_,_,i+1,_,.cons _ t,e=>by
  obtain⟨u,g⟩:=ZD (i:=i) t (by simpa using e)
  exact⟨u,by simpa using g⟩
def HX (a:aD)(ep n:Nat):It:=
 ⟨fun i H=>∃ kvs kv,H a=aa (.dK ep kvs)/\kvs.length=n/\kvs[i]?=aa kv,fun i H x H'=>H'=H/\∀ kvs,H a=aa (.dK ep kvs)->∃ kv,kvs[i]?=aa kv/\x=kV kv.1,fun i H=>∃ kvs,H a=aa (.dK ep kvs)/\kvs.length=n/\n≤i⟩
theorem Xx{tg:bF}(a it:aD)(ep n:Nat):Turn P w K tg (HX a ep n) [it] it (fun i h=>h.IsKeyIter it a i n ep) where
 mem:=eB.mpr rfl
 obj:=fun i h ⟨o,e,_,d⟩ b hb=>by
  rw[eB.mp hb];exact⟨o,e,fun v z=>by rw[d] at z;cases z⟩
 keep:=fun i h h' st k=>st.at fun o e=>k it (eB.mpr rfl) o e
 item:=by
  rw[1];obtain⟨kvs,kv,ha,hn,hk⟩:=hg;subst hn;obtain⟨z,nm,vs,r,d⟩:=GD I.hok (.inl ha);have hl:kvs.length=vs.length:=r.length;obtain⟨u,hu,r1,r2⟩:=ZD r hk;obtain⟨uk,uv⟩:=u;rw[hl] at st;refine wpAny_pyNext_dict_item st d hu fun key h' gg ak sb=>?_
  have I1:Inv X ad σ H { s with heap:=h' }:=I.turnM (t':=s.toks) hf fun b o nb e=>sb.extBut b o (fun q=>nb (eB.mpr q)) e
  obtain⟨o,e,c,dd⟩:=id ak;have t6:kv.1=uk:=r1;refine⟨key,rfl,AX (s:={ s with heap:=h' }) e c dd (by decide) ⟨kV kv.1,H,I1,by rw[t6];exact Jq gg,⟨rfl,fun X' h2=>?_⟩,by rw[hl];exact ak,fun b hb=>(hf b hb).1⟩⟩
  rw[ha] at h2;cases h2;exact⟨kv,hk,rfl⟩
 done:=by
  rw[1];obtain⟨kvs,ha,hn,hi⟩:=hg;subst hn;obtain⟨z,nm,vs,r,d⟩:=GD I.hok (.inl ha);have hl:kvs.length=vs.length:=r.length;rw[hl] at st;exact wpAny_pyNext_dict_end (I.ok.hd hc) st d (by simp;omega) fun h' eb=>⟨rfl,I.turnM (t':=s.toks) hf fun b o nb e=>eb b o (fun q=>nb (eB.mpr q)) e⟩
 self:=fun _ _ _ _ _ st h=>wpAny_pyIter_keyiter st h
section
variable {tg l e:bF}
def Eg (tl:TE):TI:=fun σ H R=>tl σ H fun x H1=>∃ a ep kvs,x=.ref a/\H1 a=aa (.dK ep kvs)/\R (HX a ep kvs.length) H1
theorem Lk {tl:TE}(hl:PE X l tl):PI X tg l (Eg tl):=by
 intro ad s σ H R I h;refine a9 (hl ad s σ H _ I h) fun v s1 gh=>?_
 rw[24];obtain⟨a,ep,kvs,rfl,ha,q⟩:=q1;cases r1;obtain⟨z,nm,vs,r,d⟩:=GD I1.hok (.inl ha);have hn:kvs.length=vs.length:=r.length;refine wpAny_pyIter_dict nm d ?_;refine⟨s1.heap.objs.size,[s1.heap.objs.size],_,_,H1,rfl,I1.kept (t':=s1.toks) fun b o e=>cL _ e,Xx a _ ep kvs.length,⟨_,eJ _ rfl,rfl,by rw[hn];rfl⟩,fun b hb=>?_,q⟩
 rw[eB.mp hb];exact I1.fpOk (bZ _) (I1.hok.fresh (bZ _))
def D6 (f:EF):AF:=fun ρ=>(f ρ).bind fun d=>match d with
 |.dict kds=>if (gw kds&&kds.all fun kd=>dS kd.1)=ae then aa (kds.map (·.1)) else ab
 |_=>ab
theorem RZ {K:aM}{H:Hp}:∀ {kds:List (aA×aA)} {kvs:List (aP×V)} {i:Nat} {kd:aA×aA},Aca K H kds kvs->kds[i]?=aa kd->∃ kv,kvs[i]?=aa kv/\kd.1=kD kv.1/\Abz K H kd.2 kv.2
 |(k,d)::ds,kvs,0,kd,r,e=>by
  obtain⟨k',y,t,rfl,ek,h1,h2⟩:=Abf.mp r;rw[30];exact⟨(k',y),rfl,ek,h1⟩
 |(k,d)::ds,kvs,i+1,kd,r,e=>by
  obtain⟨k',y,t,rfl,ek,h1,h2⟩:=Abf.mp r;obtain⟨kv,g1,g2⟩:=RZ (i:=i) h2 (by simpa using e)
  exact⟨kv,by simpa using g1,g2⟩
theorem Th{k:aP}(h:dS (kD k)=ae):Abz K H (kD k) (kV k):=by
 cases k with
 |inl i=>exact Aau.mpr rfl
 |inr x=>exact Aa2.mpr ⟨rfl,h⟩
theorem Ve{B:Hp}{kvs:List (aP×V)}(h:B a=aa (.dK ep kvs))(r:Aca K B kds kvs)(hl:(kds.all fun kd=>dS kd.1)=ae):qh K B (HX a ep kvs.length) (kds.map (·.1)):=fun i H2 x2=>by
 have h2:=x2 _ _ h;refine⟨fun d hd=>?_,fun e=>⟨kvs,h2,rfl,by rw[← e,eY,r.length];exact bZ _⟩⟩
 rw[fW] at hd;obtain⟨kd,hk,rfl⟩:=kO.mp hd;obtain⟨kv,g1,g2,g3⟩:=RZ r hk;refine⟨⟨kvs,kv,h2,rfl,g1⟩,?_⟩;rintro x H3 ⟨rfl,hx⟩;obtain⟨Y0,q1,rfl⟩:=hx kvs h2;have:Y0=kv:=iH (q1.symm.trans g1);rw[25];refine⟨Ext.refl,fun P2 _ xb=>?_⟩
 show Abz K _ kd.1 _;rw[g2];have:=gQ.mp hl kd (gL hk);exact Th (by rw[← g2];exact this)
theorem Jo(h:DE X e f):DI X tg e (D6 f):=PI.imp (Lk h) fun σ H R gh=>by
 obtain⟨P,ρ,ds,hP,rs,ef,k⟩:=gh;rw[21];cases d with
 |dict kds=>
  obtain⟨hl,rfl⟩:=dX ef;refine⟨P,ρ,_,hP,rs,e1,gF fun v H1 x1 r1=>?_⟩
  obtain⟨pk,hl⟩:=kT.mp hl;obtain⟨a,kvs,rfl,hq,rr⟩:=(rX pk).mp r1;exact⟨a,kvs.1,kvs.2,rfl,Aaz _ _ hq,k _ H1 x1 (Ve hq rr hl)⟩
 |_=>cases ef
end
open PySem PySem.SetTable
def nC (xs:Array Nat):Prop:=∀ a b u v:Nat,a<b->xs[a]?=aa u->xs[b]?=aa v->u<v
theorem JX {xs:Array Nat}(hr:nC xs):∀ fuel lo hi,hi≤xs.size->lo≤hi->hi-lo≤fuel->(∀ k<lo,∀ v,xs[k]?=aa v->v<j)->(∀ k,hi≤k->∀ v,xs[k]?=aa v->j≤v) ->
  below.go xs j fuel lo hi≤xs.size/\(∀ k<below.go xs j fuel lo hi,∀ v,xs[k]?=aa v->v<j)/\∀ k,below.go xs j fuel lo hi≤k->∀ v,xs[k]?=aa v->j≤v
 |0,lo,hi,h1,h2,h3,hl,hh=>by
  have:lo=hi:=by omega
  rw[25];unfold below.go;exact⟨h1,hl,hh⟩
 |fuel+1,lo,hi,h1,h2,h3,hl,hh=>by
  unfold below.go;by_cases c:lo<hi
  ·rw[if_pos c];have hm:(lo+hi)/2<xs.size:=by omega
   have em:xs[(lo+hi)/2]?=aa xs[(lo+hi)/2]:=lJ hm;have eg:xs.getD ((lo+hi)/2) j=xs[(lo+hi)/2]:=by simp[Array.getD,hm]
   simp only[eg];by_cases d:xs[(lo+hi)/2]<j
   ·rw[if_pos d];refine JX hr fuel _ _ h1 (by omega) (by omega) (fun k hk v ev=>?_) hh
    by_cases q:k=(lo+hi)/2
    ·subst q;rw[em] at ev;cases ev;exact d
    ·have:=hr k ((lo+hi)/2) v _ (by omega) ev em
     omega
   ·rw[if_neg d];refine JX hr fuel _ _ (by omega) (by omega) (by omega) hl (fun k hk v ev=>?_)
    by_cases q:k=(lo+hi)/2
    ·subst q;rw[em] at ev;cases ev;omega
    ·have:=hr ((lo+hi)/2) k _ v (by omega) em ev
     omega
  ·rw[if_neg c];have:lo=hi:=by omega
   rw[25];exact⟨h1,hl,hh⟩
theorem FG {xs:Array Nat}(hr:nC xs)(j:Nat):below xs j≤xs.size/\(∀ k<below xs j,∀ v,xs[k]?=aa v->v<j)/\∀ k,below xs j≤k->∀ v,xs[k]?=aa v->j≤v:=
 JX hr xs.size 0 xs.size (bZ _) (dU _) (by omega) (fun k hk=>absurd hk (by omega)) (fun k hk v ev=>by
  have:=(vC.mp ev).1;omega)
theorem below_at {xs:Array Nat}(hr:nC xs)(h:xs[i]?=aa j):below xs j=i:=by
 obtain⟨h1,h2,h3⟩:=FG hr j;rcases GY (below xs j) i with q|q|q
 ·have hi:=(vC.mp h).1;have e:xs[below xs j]?=aa (xs[below xs j]'(by omega)):=lJ (by omega)
  have a:=h3 _ (bZ _) _ e;have b:=hr _ _ _ _ q e h;omega
 ·exact q
 ·have:=h2 i q j h;omega
theorem JG (j:Nat):has #[] j=af:=by simp[has]
theorem FC {t:fJ}(hd:t.dummies = #[])(hr:nC t.place):t.slot j=.live i↔t.place[i]?=aa j:=by
 unfold slot;rw[hd,JG];rw[13];constructor
 ·intro h;split at h
  ·rename_i c;cases h;simpa using c
  ·simp at h
 ·intro h;rw[below_at hr h,h];simp
theorem Pf {t:fJ}(hd:t.dummies = #[])(hr:nC t.place)(h:∀ i:Nat,t.place[i]?≠aa j):t.slot j=.empty:=by
 unfold slot;rw[hd,JG];rw[13];rw[if_neg (by simpa using h _)]
 rfl
def m6 (mask:Nat)(p:Probe):Probe:=if p.more > 0 then { p with j:=p.j+1,more:=p.more-1 } else
 { p with j:=(leap mask p.i p.perturb).1,more:=runEnd mask (leap mask p.i p.perturb).1-(leap mask p.i p.perturb).1,i:=(leap mask p.i p.perturb).1,perturb:=(leap mask p.i p.perturb).2 }
theorem MB (t:fJ)(p:Probe):t.advance p=m6 t.mask p:=by
 unfold advance m6
 rfl
def pN (mask:Nat)(p:Probe):Nat->Probe
 |0=>p
 |n+1=>m6 mask (pN mask p n)
theorem MX (mask:Nat)(p:Probe)(a:Nat):∀ b,pN mask (pN mask p a) b=pN mask p (a+b)
 |0=>rfl
 |b+1=>by
  show m6 mask (pN mask (pN mask p a) b)=m6 mask (pN mask p (a+b));rw[MX mask p a b]
def ny (mask i per:Nat):Probe:={ j:=i,more:=runEnd mask i-i,i,perturb:=per,dummy:=ab }
theorem Iz (mask i:Nat):runEnd mask i-i≤9:=by
 unfold runEnd;split<;>omega
theorem JS (mask i per:Nat):∀ k,k≤runEnd mask i-i->pN mask (ny mask i per) k={ j:=i+k,more:=runEnd mask i-i-k,i,perturb:=per,dummy:=ab }
 |0,_=>rfl
 |k+1,h=>by
  show m6 mask (pN mask (ny mask i per) k)=_;rw[JS mask i per k (by omega)]
  unfold m6;rw[if_pos (by show runEnd mask i-i-k > 0;omega)]
  rfl
theorem UN (mask i per:Nat):pN mask (ny mask i per) (runEnd mask i-i+1)=ny mask (leap mask i per).1 (leap mask i per).2:=by
 show m6 mask (pN mask (ny mask i per) (runEnd mask i-i))=_;rw[JS mask i per _ (bZ _)];unfold m6;rw[if_neg (by show ¬ (runEnd mask i-i-(runEnd mask i-i) > 0);omega)]
 rfl
def lp (mask:Nat)(s:Nat×Nat):Nat->Nat×Nat
 |0=>s
 |m+1=>leap mask (lp mask s m).1 (lp mask s m).2
theorem SM (mask i per:Nat):∀ m,∃ n,n≤10*m/\pN mask (ny mask i per) n=ny mask (lp mask (i,per) m).1 (lp mask (i,per) m).2
 |0=>⟨0,by omega,rfl⟩
 |m+1=>by
  obtain⟨n,hn,e⟩:=SM mask i per m;have b:=Iz mask (lp mask (i,per) m).1;refine⟨n+(runEnd mask (lp mask (i,per) m).1-(lp mask (i,per) m).1+1),by omega,?_⟩
  rw[← MX,e,UN]
  rfl
theorem ZA (mask i per:Nat):∀ m,(lp mask (i,per) m).2=per/32^m
 |0=>by simp[lp]
 |m+1=>by
  show(lp mask (i,per) m).2/32=_;rw[ZA mask i per m,Nat.div_div_eq_div_mul,BM]
def wm (mask:Nat)(i:Nat):Nat->Nat
 |0=>i
 |m+1=>(wm mask i m*5+1)%(mask+1)
def pT (mask:Nat):Prop:=mask=7\/mask=31\/mask=127\/mask=511\/mask=2047\/mask=8191
def gN (x:Nat):Nat->Nat
 |0=>x
 |m+1=>gN x m*5+1
theorem YY (x a:Nat):∀ b,gN (gN x a) b=gN x (a+b)
 |0=>rfl
 |b+1=>by
  show gN (gN x a) b*5+1=gN x (a+b)*5+1;rw[YY x a b]
theorem ZJ (x:Nat):∀ m,4*gN x m+1=5^m*(4*x+1)
 |0=>by simp[gN]
 |m+1=>by
  show 4*(gN x m*5+1)+1=5^(m+1)*(4*x+1);have:=ZJ x m;rw[BM,Nat.mul_comm (5^m) 5,BN,← this];omega
theorem SQ:∀ k,∃ q,5^2^k=1+2^k*(4*(2*q+1))
 |0=>⟨0,rfl⟩
 |k+1=>by
  obtain⟨q,e⟩:=SQ k;refine⟨q+2^k*((2*q+1)*(2*q+1)),?_⟩;rw[BM 2 k,Nat.mul_comm (2^k) 2,Nat.two_mul,Nat.pow_add,e];generalize 2^k=M;generalize hu:2*q+1=u;have e2:2*(q+M*(u*u))+1=u+2*(M*(u*u)):=by omega
  rw[e2];have h1:M*(4*u)*(M*(4*u))=16*(M*(M*(u*u))):=by
   rw[show M*(4*u)=4*(M*u) by rw[Cc],NX]
   rw[show M*u*(M*u)=M*(M*(u*u)) by rw[NX,BN]]
  have h2:(M+M)*(4*(u+2*(M*(u*u))))=8*(M*u)+16*(M*(M*(u*u))):=by
   rw[← Nat.two_mul,GX 4,GX];rw[show 2*M*(4*u)=8*(M*u) by rw[NX]]
   rw[show 4*(2*(M*(u*u)))=8*(M*(u*u)) by omega,NX]
  rw[Nat.add_mul,GX,GX,h1,h2,show M*(4*u)=4*(M*u) by rw[Cc]]
  omega
theorem Tt (x k:Nat):∃ q,gN x (2^k)=x+2^k*(2*q+1):=by
 obtain⟨q,e⟩:=SQ k;have h:=ZJ x (2^k);rw[e] at h;refine⟨q*(4*x+1)+2*x,?_⟩;have e2:2*(q*(4*x+1)+2*x)+1=(2*q+1)*(4*x+1):=by
  rw[Nat.add_mul,GX 2,← BN 2 q];omega
 rw[e2];generalize 2^k=M at h;generalize(2*q+1)=u at h;rw[Nat.add_mul,Nat.one_mul,show M*(4*u)*(4*x+1)=4*(M*(u*(4*x+1))) by rw[Cc M 4 u,BN,BN]] at h
 omega
theorem ZQ:∀ (k x e:Nat),∃ m,m<2^k/\gN x m%2^k=e%2^k
 |0,x,e=>⟨0,by simp,by simp[Nat.mod_one]⟩
 |k+1,x,e=>by
  obtain⟨m,hm,h⟩:=ZQ k x e;have hM:0<2^k:=Nat.two_pow_pos k;have sp:∀ y:Nat,y%2^(k+1)=y%2^k+2^k*(y/2^k%2):=fun y=>by rw[BM,Nat.mod_mul]
  have hp:2^(k+1)=2^k+2^k:=by rw[BM];omega
  by_cases c:gN x m/2^k%2=e/2^k%2
  ·exact⟨m,by omega,by rw[sp,sp,h,c]⟩
  ·obtain⟨q,hq⟩:=Tt (gN x m) k;refine⟨m+2^k,by omega,?_⟩
   rw[← YY,hq,sp,sp,Nat.add_mul_mod_self_left,Nat.add_mul_div_left _ _ hM,h]
   congr 2
   omega
theorem ZL (mask i:Nat)(hi:i≤mask):∀ m,wm mask i m=gN i m%(mask+1)
 |0=>by
  show i=i%(mask+1);exact(Nat.mod_eq_of_lt (by omega)).symm
 |m+1=>by
  show(wm mask i m*5+1)%(mask+1)=(gN i m*5+1)%(mask+1);rw[ZL mask i hi m];simp[Nat.add_mod,Nat.mul_mod]
theorem wB(hk:mask+1=2^k)(hi:i≤mask)(he:e≤mask):∃ m,m≤mask/\wm mask i m=e:=by
 obtain⟨m,h1,h2⟩:=ZQ k i e;refine⟨m,by omega,?_⟩
 rw[ZL mask i hi,hk,h2,← hk];exact Nat.mod_eq_of_lt (by omega)
theorem Jm(hm:pT mask)(hi:i≤mask)(he:e≤mask):∃ m,m≤mask/\wm mask i m=e:=by
 rcases hm with rfl|rfl|rfl|rfl|rfl|rfl
 ·exact wB (k:=3) rfl hi he
 ·exact wB (k:=5) rfl hi he
 ·exact wB (k:=7) rfl hi he
 ·exact wB (k:=9) rfl hi he
 ·exact wB (k:=11) rfl hi he
 ·exact wB (k:=13) rfl hi he
theorem RB (h:Int):bits h<2^64:=by
 unfold bits;have:=Int.emod_lt_of_pos h (show(0:Int)<2^64 by decide)
 have:=Int.emod_nonneg h (show(2^64:Int)≠0 by decide)
 omega
theorem ZI(hp:per<2^64):∀ m,(lp mask (i,per) (13+m)).1=wm mask (lp mask (i,per) 13).1 m
 |0=>rfl
 |m+1=>by
  show((lp mask (i,per) (13+m)).1*5+1+(lp mask (i,per) (13+m)).2/32)%(mask+1)=(wm mask (lp mask (i,per) 13).1 m*5+1)%(mask+1);rw[ZI hp m,ZA];have:per/32^(13+m)=0:=by
   apply Nat.div_eq_of_lt;refine iL hp ?_;rw[Nat.pow_add]
   calc 2^64≤32^13:=by decide
    _≤32^13*32^m:=Zm _ (Nat.pow_pos (by decide))
  rw[this]
theorem Fp:∀ m,0<m->(lp mask (i,per) m).1≤mask
 |0,h=>absurd h (by omega)
 |m+1,_=>by
  show((lp mask (i,per) m).1*5+1+(lp mask (i,per) m).2/32)%(mask+1)≤mask;have:=xQ ((lp mask (i,per) m).1*5+1+(lp mask (i,per) m).2/32) (show 0<mask+1 by omega)
  omega
theorem UE(hm:pT mask)(hp:per<2^64)(he:e≤mask):∃ m,m≤13+mask/\(lp mask (i,per) m).1=e:=by
 obtain⟨m,h1,h2⟩:=Jm hm (Fp (mask:=mask) (i:=i) (per:=per) 13 (by omega)) he
 exact⟨13+m,by omega,by rw[ZI hp];exact h2⟩
def rd (mask:Nat)(h:Int)(n:Nat):Probe:=pN mask (ny mask (bits h%(mask+1)) (bits h)) n
theorem UP(hm:pT mask)(h:Int)(he:e≤mask):∃ n,n<10*turns mask/\(rd mask h n).j=e:=by
 obtain⟨m,h1,h2⟩:=UE hm (i:=bits h%(mask+1)) (RB h) he;obtain⟨n,h3,h4⟩:=SM mask (bits h%(mask+1)) (bits h) m;refine⟨n,by unfold turns;omega,?_⟩
 unfold rd;rw[h4];exact h2
theorem Nv (mask:Nat)(p:Probe):(m6 mask p).dummy=p.dummy:=by
 unfold m6;split<;>rfl
theorem TR (mask:Nat)(h:Int):∀ n,(rd mask h n).dummy=ab
 |0=>rfl
 |n+1=>by
  show(m6 mask (rd mask h n)).dummy=ab;rw[Nv];exact TR mask h n
def kH (t:fJ)(j:Nat):Prop:=∃ i:Nat,t.place[i]?=aa j
structure Good (t:fJ)(es:Array (Int×aC)):Prop where
 small:pT t.mask
 nod:t.dummies = #[]
 ris:nC t.place
 len:t.place.size=es.size
 inb:∀ i j:Nat,t.place[i]?=aa j->j≤t.mask
 room:es.size≤t.mask
 reach:∀ (i j:Nat) (e:Int×aC),t.place[i]?=aa j->es[i]?=aa e->∃ n,(rd t.mask e.1 n).j=j/\∀ m<n,kH t (rd t.mask e.1 m).j
theorem rank {xs:Array Nat}(hr:nC xs):∀ e,(∀ v≤e,∃ i:Nat,xs[i]?=aa v)->∃ i:Nat,xs[i]?=aa e/\e≤i
 |0,h=>by
  obtain⟨i,q⟩:=h 0 (bZ _);exact⟨i,q,dU _⟩
 |e+1,h=>by
  obtain⟨i,q,hi⟩:=rank hr e fun v hv=>h v (by omega)
  obtain⟨k,qk⟩:=h (e+1) (bZ _);refine⟨k,qk,?_⟩;rcases GY i k with c|c|c
  ·omega
  ·subst c;rw[q] at qk;simp at qk
  ·have:=hr k i _ _ c qk q;omega
theorem Good.empty {t:fJ}(G:Good t es):∃ e,e≤t.mask/\¬ kH t e:=by
 apply yF;intro hn;have bx:∀ v≤t.mask,∃ i:Nat,t.place[i]?=aa v:=fun v hv=>yF fun q=>hn ⟨v,hv,q⟩
 obtain⟨i,q,hi⟩:=rank G.ris t.mask bx;have h1:=(vC.mp q).1;have h2:=G.len;have h3:=G.room;omega
theorem UO {t:fJ}(h:¬ kH t j):∀ i:Nat,t.place[i]?≠aa j:=fun i e=>h ⟨i,e⟩
section
variable {t:fJ}{hashAt:Nat->Int}{h:Int}
theorem UF (hd:t.dummies = #[])(hr:nC t.place):∀ k n fuel,k<fuel->(∀ m,n≤m->m<n+k->∃ i:Nat,t.place[i]?=aa (rd t.mask h m).j/\hashAt i≠h)->¬ kH t (rd t.mask h (n+k)).j ->
  probe.go t hashAt h fuel (rd t.mask h n)=aa (.empty (rd t.mask h (n+k)).j ab)
 |_,_,0,hf,_,_=>absurd hf (by omega)
 |0,n,fuel+1,_,_,he=>by
  rw[NZ] at he ⊢;unfold probe.go;rw[Pf hd hr (UO he),TR]
  rfl
 |k+1,n,fuel+1,hf,hm,he=>by
  obtain⟨i,e,cf⟩:=hm n (bZ _) (by omega)
  unfold probe.go;rw[(FC hd hr).mpr e];rw[13];rw[if_neg (by simpa using cf),MB]
  have:=UF hd hr k (n+1) fuel (by omega) (fun m a b=>hm m (by omega) (by omega)) (by rw[show n+1+k=n+(k+1) by omega];exact he)
  rw[show n+1+k=n+(k+1) by omega] at this
  rw[29]
theorem QS (hd:t.dummies = #[])(hr:nC t.place){i0:Nat}(h0:hashAt i0=h):∀ k n fuel,k<fuel->(∀ m,n≤m->m<n+k->∃ i:Nat,t.place[i]?=aa (rd t.mask h m).j/\hashAt i≠h)->t.place[i0]?=aa (rd t.mask h (n+k)).j ->
  probe.go t hashAt h fuel (rd t.mask h n)=aa (.candidate (rd t.mask h (n+k)).j i0 (rd t.mask h (n+k+1)))
 |_,_,0,hf,_,_=>absurd hf (by omega)
 |0,n,fuel+1,_,_,he=>by
  rw[NZ] at he ⊢;unfold probe.go;rw[(FC hd hr).mpr he];rw[13];rw[if_pos (by simpa using h0),MB]
  rfl
 |k+1,n,fuel+1,hf,hm,he=>by
  obtain⟨i,e,cf⟩:=hm n (bZ _) (by omega)
  unfold probe.go;rw[(FC hd hr).mpr e];rw[13];rw[if_neg (by simpa using cf),MB]
  have:=QS hd hr h0 k (n+1) fuel (by omega) (fun m a b=>hm m (by omega) (by omega)) (by rw[show n+1+k=n+(k+1) by omega];exact he)
  rw[show n+1+k=n+(k+1) by omega] at this
  rw[29]
theorem XD (S:Nat->Prop):∀ d n,S (n+d)->∃ k,k≤d/\(∀ m,n≤m->m<n+k->¬ S m)/\S (n+k)
 |0,n,h=>⟨0,bZ _,fun m a b=>absurd b (by omega),h⟩
 |d+1,n,h=>by
  by_cases c:S n
  ·exact⟨0,dU _,fun m a b=>absurd b (by omega),c⟩
  ·obtain⟨k,h1,h2,h3⟩:=XD S d (n+1) (by rw[show n+1+d=n+(d+1) by omega];exact h)
   refine⟨k+1,by omega,fun m a b=>?_,by rw[show n+(k+1)=n+1+k by omega];exact h3⟩
   by_cases q:m=n
   ·subst q;exact c
   ·exact h2 m (by omega) (by omega)
theorem Good.next(G:Good t es)(h:Int)(hv:∀ m<n,kH t (rd t.mask h m).j):∃ k,n+k<10*turns t.mask/\(∀ m,n≤m->m<n+k->∃ i:Nat,t.place[i]?=aa (rd t.mask h m).j/\hashAt i≠h) /\
  ((¬ kH t (rd t.mask h (n+k)).j/\t.probe hashAt h (rd t.mask h n)=aa (.empty (rd t.mask h (n+k)).j ab)) \/
   ∃ i:Nat,t.place[i]?=aa (rd t.mask h (n+k)).j/\hashAt i=h/\t.probe hashAt h (rd t.mask h n)=aa (.candidate (rd t.mask h (n+k)).j i (rd t.mask h (n+k+1)))):=by
 obtain⟨e,he,cf⟩:=G.empty;obtain⟨N,hN,eN⟩:=UP G.small h he;have R9:n≤N:=by
  rcases uS N n with c|c
  ·exact absurd (eN ▸ hv N c) cf
  ·exact c
 obtain⟨d,rfl⟩:=Nat.exists_eq_add_of_le R9;obtain⟨k,hk,h1,h2⟩:=XD (fun m=>¬ kH t (rd t.mask h m).j\/∃ i:Nat,t.place[i]?=aa (rd t.mask h m).j/\hashAt i=h) d n (.inl (by rw[eN];exact cf))
 have hm:∀ m,n≤m->m<n+k->∃ i:Nat,t.place[i]?=aa (rd t.mask h m).j/\hashAt i≠h:=fun m a b=>by
  have q:=h1 m a b;obtain⟨i,ei⟩:=yF fun z=>q (.inl z)
  exact⟨i,ei,fun z=>q (.inr ⟨i,ei,z⟩)⟩
 refine⟨k,by omega,hm,?_⟩
 rcases h2 with h2|⟨i,ei,hi⟩
 ·exact .inl ⟨h2,UF G.nod G.ris k n _ (by omega) hm h2⟩
 ·exact .inr ⟨i,ei,hi,QS G.nod G.ris hi k n _ (by omega) hm ei⟩
end
theorem QG (mask:Nat)(h:Int):∀ n,(rd mask h n).j+(rd mask h n).more≤mask
 |0=>by
  show bits h%(mask+1)+(runEnd mask (bits h%(mask+1))-bits h%(mask+1))≤mask;have:=xQ (bits h) (show 0<mask+1 by omega)
  unfold runEnd;split<;>omega
 |n+1=>by
  have ih:=QG mask h n;show(m6 mask (rd mask h n)).j+(m6 mask (rd mask h n)).more≤mask;unfold m6;split
  ·show(rd mask h n).j+1+((rd mask h n).more-1)≤mask;omega
  ·show(leap mask (rd mask h n).i (rd mask h n).perturb).1+(runEnd mask (leap mask (rd mask h n).i (rd mask h n).perturb).1-(leap mask (rd mask h n).i (rd mask h n).perturb).1)≤mask;have:(leap mask (rd mask h n).i (rd mask h n).perturb).1<mask+1:=xQ _ (by omega)
   unfold runEnd;split<;>omega
theorem Fx (mask:Nat)(h:Int)(n:Nat):(rd mask h n).j≤mask:=by
 have:=QG mask h n;omega
theorem wK {α:Type}(xs:Array α){p:Nat}(hp:p≤xs.size)(x:α)(k:Nat):(insertAt xs p x)[k]?=if k<p then xs[k]? else if k=p then aa x else xs[k-1]?:=by
 rw[← lX,toList_insertAt];by_cases c:k<p
 ·rw[if_pos c,yA (by rw[pI,jE];omega),Zq c,lX]
 ·rw[if_neg c,uW (by rw[pI,jE];omega),pI,jE,xR hp]
  by_cases d:k=p
  ·subst d;simp
  ·rw[if_neg d];obtain⟨r,rfl⟩:∃ r,k=p+1+r:=⟨k-p-1,by omega⟩
   rw[show p+1+r-p=r+1 by omega,pJ,HH,lX,show p+1+r-1=p+r by omega]
theorem Lx {xs:Array Nat}(hr:nC xs)(hj:∀ i:Nat,xs[i]?≠aa j):nC (insertAt xs (below xs j) j):=by
 obtain⟨h1,h2,h3⟩:=FG hr j;intro a b u v lm ea eb;rw[wK xs h1] at ea eb;have lt_of:∀ k w,below xs j≤k->xs[k]?=aa w->j<w:=fun k w hk e=>by
  have a:=h3 k hk w e;rcases uS j w with c|c
  ·exact c
  ·have:w=j:=by omega
   rw[25];exact absurd e (hj k)
 split at ea
 ·split at eb
  ·exact hr a b u v lm ea eb
  ·split at eb
   ·cases eb;exact h2 a (by omega) u ea
   ·exact Nat.lt_trans (h2 a (by omega) u ea) (lt_of _ v (by omega) eb)
 ·split at ea
  ·cases ea;rw[if_neg (by omega),if_neg (by omega)] at eb
   exact lt_of _ v (by omega) eb
  ·rw[if_neg (by omega),if_neg (by omega)] at eb
   exact hr (a-1) (b-1) u v (by omega) ea eb
theorem EM {α:Type}(xs:Array α)(p:Nat)(x:α):(insertAt xs p x).size=xs.size+1:=by
 rw[← jE,(insertAt_perm xs p x).length_eq,jE,Array.size_push]
theorem Ir {t:fJ}(hd:t.dummies = #[])(j:Nat):t.put j=({ t with place:=insertAt t.place (below t.place j) j },below t.place j):=by
 unfold put;rw[hd,JG];cases t;simp at hd;subst hd
 rfl
theorem Good.put {t:fJ}(G:Good t es){h:Int}(hv:∀ m<n,kH t (rd t.mask h m).j)(hn:¬ kH t (rd t.mask h n).j)  (no:es.size<t.mask)(pl:Bool) :
  Good { t with place:=insertAt t.place (below t.place (rd t.mask h n).j) (rd t.mask h n).j,plain:=pl } (insertAt es (below t.place (rd t.mask h n).j) (h,x)):=by
 have hb:=(FG G.ris (rd t.mask h n).j).1;have rh:below t.place (rd t.mask h n).j≤es.size:=by rw[← G.len];exact hb
 have mono:∀ j,kH t j->∃ i:Nat,(insertAt t.place (below t.place (rd t.mask h n).j) (rd t.mask h n).j)[i]?=aa j:=fun j gh=>by
  obtain⟨i,e⟩:=gh;by_cases c:i<below t.place (rd t.mask h n).j
  ·exact⟨i,by rw[wK _ hb,if_pos c];exact e⟩
  ·exact⟨i+1,by rw[wK _ hb,if_neg (by omega),if_neg (by omega)];exact e⟩
 refine⟨G.small,G.nod,Lx G.ris (UO hn),?_,fun i j e=>?_,?_,fun i j e ei ee=>?_⟩
 ·show(insertAt _ _ _).size=(insertAt _ _ _).size;rw[EM,EM,G.len]
 ·have e':(insertAt t.place (below t.place (rd t.mask h n).j) (rd t.mask h n).j)[i]?=aa j:=e;rw[wK _ hb] at e';split at e'
  ·exact G.inb i j e'
  ·split at e'
   ·cases e';exact Fx _ _ _
   ·exact G.inb _ j e'
 ·rw[EM];exact no
 ·have lq:(insertAt t.place (below t.place (rd t.mask h n).j) (rd t.mask h n).j)[i]?=aa j:=ei;rw[wK _ hb] at lq;rw[wK _ rh] at ee;by_cases c:i<below t.place (rd t.mask h n).j
  ·rw[if_pos c] at lq ee;obtain⟨m,h1,h2⟩:=G.reach i j e lq ee;exact⟨m,h1,fun q hq=>mono _ (h2 q hq)⟩
  ·rw[if_neg c] at lq ee;by_cases d:i=below t.place (rd t.mask h n).j
   ·rw[if_pos d] at lq ee;cases lq;cases ee;exact⟨n,rfl,fun q hq=>mono _ (hv q hq)⟩
   ·rw[if_neg d] at lq ee;obtain⟨m,h1,h2⟩:=G.reach _ j e lq ee;exact⟨m,h1,fun q hq=>mono _ (h2 q hq)⟩
structure Own (mask:Nat)(hs:List Int)(ow:Array (Option Nat)):Prop where
 size:ow.size=mask+1
 lt:∀ j i:Nat,ow[j]?=aa (aa i)->i<hs.length
 inj:∀ j j' i:Nat,ow[j]?=aa (aa i)->ow[j']?=aa (aa i)->j=j'
 all:∀ i<hs.length,∃ j:Nat,ow[j]?=aa (aa i)
 reach:∀ (j i:Nat) (h:Int),ow[j]?=aa (aa i)->hs[i]?=aa h->∃ n,(rd mask h n).j=j/\∀ m<n,∃ i':Nat,ow[(rd mask h m).j]?=aa (aa i')
theorem zL(hj:j<ow.size):ow[j]?=aa ab\/∃ i,ow[j]?=aa (aa i):=by
 rw[lJ hj];cases ow[j] with
 |none=>exact .inl rfl
 |some i=>exact .inr ⟨i,rfl⟩
theorem Own.free{hs:List Int}(O:Own mask hs ow)(hl:hs.length≤mask):∃ e,e≤mask/\ow[e]?=aa ab:=by
 apply yF;intro hn;have bx:∀ j≤mask,∃ i:Nat,ow[j]?=aa (aa i):=fun j hj=>by
  rcases zL (ow:=ow) (j:=j) (by rw[O.size];omega) with c|c
  ·exact absurd ⟨j,hj,c⟩ hn
  ·exact c
 have gj:((dP (mask+1)).map fun j=>((ow[j]?).join).getD 0).Nodup:=by
  unfold List.Nodup;rw[uU];refine Cz (R:=(· < ·)) ?_ List.pairwise_lt_range;intro a b ha hb lm e;obtain⟨i,ei⟩:=bx a (by have:=jB.mp ha;omega)
  obtain⟨i',lq⟩:=bx b (by have:=jB.mp hb;omega)
  rw[ei,lq] at e;have:i=i':=by simpa using e
  rw[25];have:=O.inj a b i ei lq;omega
 have:=Da (l₂:=dP hs.length) gj (fun v m=>by
  obtain⟨j,hj,rfl⟩:=cN.mp m;obtain⟨i,ei⟩:=bx j (by have:=jB.mp hj;omega)
  rw[ei];exact jB.mpr (O.lt j i ei))
 simp at this;omega
theorem TV (mask i per:Nat):∀ m,lp mask (i,per) (m+1)=lp mask (leap mask i per) m
 |0=>rfl
 |m+1=>by
  show leap mask (lp mask (i,per) (m+1)).1 (lp mask (i,per) (m+1)).2=_;rw[TV mask i per m]
  rfl
theorem WE(hz:ow.size=mask+1):∀ (fuel i per m:Nat),i≤mask->m<fuel->ow[(lp mask (i,per) m).1]?=aa ab ->
  ∃ n,layClean.free mask ow fuel i per=aa (pN mask (ny mask i per) n).j/\ow[(pN mask (ny mask i per) n).j]?=aa ab/\∀ q<n,∃ i':Nat,ow[(pN mask (ny mask i per) q).j]?=aa (aa i')
 |0,_,_,_,_,h,_=>absurd h (by omega)
 |fuel+1,i,per,m,hi,hm,he=>by
  have Y1:runEnd mask i≤mask/\i≤runEnd mask i:=by unfold runEnd;split<;>omega
  have t7:∀ k,k≤runEnd mask i-i->(pN mask (ny mask i per) k).j=i+k:=fun k hk=>by rw[JS mask i per k hk]
  have hg:∀ k,k≤runEnd mask i-i->((ow.getD (i+k) (aa 0)).isNone=ae↔ow[i+k]?=aa ab):=fun k hk=>by
   rw[Dp];rcases zL (ow:=ow) (j:=i+k) (by omega) with c|⟨x,c⟩<;>rw[c]<;>simp
  unfold layClean.free;cases ef:(dP (runEnd mask i+1-i)).find? fun k=>(ow.getD (i+k) (aa 0)).isNone with
  |some k=>
   obtain⟨h1,h2,h3⟩:=List.find?_range_eq_some.mp ef;have hk:k≤runEnd mask i-i:=by have:=jB.mp h2;omega
   refine⟨k,by rw[t7 k hk],by rw[t7 k hk];exact(hg k hk).mp h1,fun q hq=>?_⟩
   rw[t7 q (by omega)]
   rcases zL (ow:=ow) (j:=i+q) (by omega) with c|c
   ·have:=h3 q hq;rw[(hg q (by omega)).mpr c] at this
    exact absurd this (by decide)
   ·exact c
  |none=>
   have h3:=List.find?_range_eq_none.mp ef;have bx:∀ k,k≤runEnd mask i-i->∃ i':Nat,ow[i+k]?=aa (aa i'):=fun k hk=>by
    rcases zL (ow:=ow) (j:=i+k) (by omega) with c|c
    ·have:=h3 k (by omega)
     rw[(hg k hk).mpr c] at this;exact absurd this (by decide)
    ·exact c
   cases m with
   |zero=>
    obtain⟨i',e'⟩:=bx 0 (by omega)
    have Go:ow[i]?=aa ab:=he;rw[NZ,Go] at e';cases e'
   |succ m=>
    rw[TV] at he;have lr:(leap mask i per).1≤mask:=by
     have:(leap mask i per).1<mask+1:=xQ _ (by omega)
     omega
    obtain⟨n,e1,e2,e3⟩:=WE hz fuel (leap mask i per).1 (leap mask i per).2 m lr (by omega) he
    have hp:∀ q,pN mask (ny mask i per) (runEnd mask i-i+1+q)=pN mask (ny mask (leap mask i per).1 (leap mask i per).2) q:=fun q=>by
     rw[← MX,UN]
    refine⟨runEnd mask i-i+1+n,?_,by rw[hp];exact e2,fun q hq=>?_⟩
    ·rw[hp];exact e1
    ·by_cases c:q≤runEnd mask i-i
     ·rw[t7 q c];exact bx q c
     ·obtain⟨r,rfl⟩:∃ r,q=runEnd mask i-i+1+r:=⟨q-(runEnd mask i-i+1),by omega⟩
      rw[hp];exact e3 r (by omega)
theorem Own.add(hm:pT mask){hs:List Int}(O:Own mask hs ow)(hl:hs.length≤mask)(h:Int) :
  ∃ j,layClean.free mask ow (turns mask) (bits h%(mask+1)) (bits h)=aa j/\Own mask (hs++[h]) (ow.setIfInBounds j (aa hs.length)):=by
 obtain⟨e,he,cf⟩:=O.free hl;obtain⟨m,h1,h2⟩:=UE hm (i:=bits h%(mask+1)) (RB h) he;have hi:bits h%(mask+1)≤mask:=by
  have:=xQ (bits h) (show 0<mask+1 by omega)
  omega
 obtain⟨n,e1,e2,e3⟩:=WE O.size (turns mask) (bits h%(mask+1)) (bits h) m hi (by unfold turns;omega) (by rw[h2];exact cf)
 have lj:ow[(rd mask h n).j]?=aa ab:=e2;have Y2:(rd mask h n).j<ow.size:=(vC.mp lj).1;have get:∀ k:Nat,(ow.setIfInBounds (rd mask h n).j (aa hs.length))[k]?=if (rd mask h n).j=k then aa (aa hs.length) else ow[k]?:=fun k=>by
  rw[Zx];by_cases c:(rd mask h n).j=k
  ·subst c;simp[Y2]
  ·rw[if_neg c,if_neg c]
 have mono:∀ k i:Nat,ow[k]?=aa (aa i)->(ow.setIfInBounds (rd mask h n).j (aa hs.length))[k]?=aa (aa i):=fun k i q=>by
  rw[get,if_neg (by rintro rfl;rw[lj] at q;cases q)]
  exact q
 refine⟨_,e1,by simpa using O.size,fun j i q=>?_,fun j j' i q q'=>?_,fun i hi=>?_,fun j i x q qx=>?_⟩
 ·have q:(ow.setIfInBounds (rd mask h n).j (aa hs.length))[j]?=aa (aa i):=q;rw[get] at q;rw[mZ,OH];split at q
  ·cases q;omega
  ·have:=O.lt j i q;omega
 ·have q:(ow.setIfInBounds (rd mask h n).j (aa hs.length))[j]?=aa (aa i):=q;have q':(ow.setIfInBounds (rd mask h n).j (aa hs.length))[j']?=aa (aa i):=q';rw[get] at q q';split at q
  ·split at q'
   ·omega
   ·cases q;have:=O.lt j' _ q';omega
  ·split at q'
   ·cases q';have:=O.lt j _ q;omega
   ·exact O.inj j j' i q q'
 ·rw[mZ,OH] at hi;by_cases c:i=hs.length
  ·exact⟨(rd mask h n).j,by show(ow.setIfInBounds (rd mask h n).j (aa hs.length))[(rd mask h n).j]?=_;rw[get,if_pos rfl,c]⟩
  ·obtain⟨j,q⟩:=O.all i (by omega)
   exact⟨j,mono j i q⟩
 ·have q:(ow.setIfInBounds (rd mask h n).j (aa hs.length))[j]?=aa (aa i):=q;rw[get] at q;split at q
  ·rename_i hj;cases q;rw[uW (bZ _)] at qx;have:h=x:=by simpa using qx
   rw[25];refine⟨n,hj,fun q hq=>?_⟩
   obtain⟨i',w⟩:=e3 q hq;exact⟨i',mono _ i' w⟩
  ·have bg:=O.lt j i q;rw[yA bg] at qx;obtain⟨n',a,b⟩:=O.reach j i x q qx;refine⟨n',a,fun r hr=>?_⟩
   obtain⟨i',w⟩:=b r hr;exact⟨i',mono _ i' w⟩
theorem ZU(hm:pT mask):∀ (rest hs:List Int) (ow:Array (Option Nat)),Own mask hs ow->hs.length+rest.length≤mask+1 ->
  ∃ C0,rest.foldl (fun ai h=>do
   let (owner,k) ← ai
   let j ← layClean.free mask owner (turns mask) (bits h%(mask+1)) (bits h)
   pure (owner.setIfInBounds j (aa k),k+1)) (aa (ow,hs.length))=aa (C0,(hs++rest).length)/\Own mask (hs++rest) C0
 |[],hs,ow,O,_=>⟨ow,by simp,by simpa using O⟩
 |h::r,hs,ow,O,hl=>by
  rw[iB] at hl;obtain⟨j,e,O'⟩:=O.add hm (by omega) h
  obtain⟨C0,e2,O2⟩:=ZU hm r (hs++[h]) _ O' (by rw[mZ,OH];omega)
  refine⟨C0,?_,by simpa using O2⟩
  rw[oF];have:(do
   let (owner,k) ← aa (ow,hs.length)
   let j ← layClean.free mask owner (turns mask) (bits h%(mask+1)) (bits h)
   pure (owner.setIfInBounds j (aa k),k+1))=aa (ow.setIfInBounds j (aa hs.length),(hs++[h]).length):=by
   show((layClean.free mask ow (turns mask) (bits h%(mask+1)) (bits h)).bind fun j=>aa (ow.setIfInBounds j (aa hs.length),hs.length+1))=_
   rw[e];simp
  rw[this,e2];simp
theorem Lw (mask:Nat):Own mask [] (Array.replicate (mask+1) ab):=by
 have hn:∀ j i:Nat,(Array.replicate (mask+1) (ab:Option Nat))[j]?≠aa (aa i):=fun j i q=>by
  rw[Array.getElem?_replicate] at q;split at q<;>cases q
 exact⟨by simp,fun j i q=>absurd q (hn j i),fun j _ i q=>absurd q (hn j i),fun i hi=>absurd hi (by simp),fun j i _ q=>absurd q (hn j i)⟩
theorem Ms(hm:pT mask)(hs:Array Int)(hl:hs.size≤mask+1):∃ ow,layClean mask hs=aa ow/\Own mask hs.toList ow:=by
 obtain⟨ow,e,O⟩:=ZU hm hs.toList [] _ (Lw mask) (by simpa using hl)
 refine⟨ow,?_,by simpa using O⟩
 unfold layClean;rw[← Array.foldl_toList];have e':=congrArg (Option.map (·.1)) e;exact e'
theorem MZ {α β:Type}{f:α->Option β}:∀ (l:List α),(∀ k∈l,(f k).isSome=ae)->∀ i:Nat,(l.filterMap f)[i]?=(l[i]?).bind f
 |[],_,i=>by simp
 |a::r,h,i=>by
  obtain⟨b,e⟩:=NU.mp (h a cF);rw[List.filterMap_cons_some e];cases i with
  |zero=>simp[e]
  |succ i=>
   rw[pJ,pJ];exact MZ r (fun k m=>h k (cS _ m)) i
def iC (mask:Nat)(ow:Array (Option Nat)):List (Nat×Nat):=(dP (mask+1)).filterMap fun j=>(ow.getD j ab).map (j,·)
theorem oX(hz:ow.size=mask+1):(j,i)∈iC mask ow↔ow[j]?=aa (aa i):=by
 unfold iC;rw[uV];constructor
 ·rintro⟨j',hj,e⟩;obtain⟨i',e1,e2⟩:=kO.mp e;have e3:j'=j:=congrArg Prod.fst e2;have e4:i'=i:=congrArg Prod.snd e2;subst e3;subst e4;have bg:j'<ow.size:=by have:=jB.mp hj;omega
  rw[Dp] at e1;rcases zL bg with c|⟨x,c⟩
  ·rw[c] at e1;cases e1
  ·rw[c] at e1;cases e1;exact c
 ·intro e;have bg:=(vC.mp e).1;exact⟨j,jB.mpr (by omega),by rw[Dp,e];rfl⟩
theorem LG (mask:Nat)(ow:Array (Option Nat)):(iC mask ow).Pairwise (fun a b=>a.1<b.1):=by
 unfold iC;rw[Zn];refine List.Pairwise.imp ?_ List.pairwise_lt_range;intro a b lm x hx y hy;obtain⟨_,_,rfl⟩:=kO.mp hx;obtain⟨_,_,rfl⟩:=kO.mp hy;exact lm
theorem Mp(hm:pT mask)(es:Array (Int×aC))(hl:es.size≤mask)(fg mv:Nat)(led pl:Bool) :
  ∃ t' iu,laid mask fg mv led pl (es.map (·.1))=aa (t',iu)/\Good t' (iu.filterMap (es[·]?))/\(iu.filterMap (es[·]?)).toList.Perm es.toList/\t'.mask=mask/\t'.led=led/\t'.plain=pl/\t'.dummies = #[]:=by
 obtain⟨ow,e,O⟩:=Ms hm (es.map (·.1)) (by rw[Array.size_map];omega)
 have hz:=O.size;have ax:(es.map (·.1)).toList.length=es.size:=by simp
 refine⟨{ mask,place:=((iC mask ow).map (·.1)).toArray,dummies:=#[],finger:=fg,led,moves:=mv,plain:=pl },((iC mask ow).map (·.2)).toArray,?_,?_,?_,rfl,rfl,rfl,rfl⟩
 ·unfold laid;rw[e]
  rfl
 ·have t8:∀ k∈(iC mask ow).map (·.2),(es[k]?).isSome=ae:=fun k m=>by
   obtain⟨⟨j,i⟩,mm,rfl⟩:=cN.mp m;have:=O.lt j i ((oX hz).mp mm);rw[ax] at this;rw[lJ this]
   rfl
  have G8:∀ i:Nat,((((iC mask ow).map (·.2)).toArray).filterMap (es[·]?))[i]?=(((iC mask ow)[i]?).bind fun p=>es[p.2]?):=fun i=>by
   rw[← lX,PB,MZ _ t8,fW];cases(iC mask ow)[i]?<;>rfl
  have gs:∀ i:Nat,(((iC mask ow).map (·.1)).toArray)[i]?=((iC mask ow)[i]?).map (·.1):=fun i=>by simp
  refine⟨hm,rfl,?_,?_,?_,?_,?_⟩
  ·intro a b u v lm ea eb;have ea:(((iC mask ow).map (·.1)).toArray)[a]?=aa u:=ea;have eb:(((iC mask ow).map (·.1)).toArray)[b]?=aa v:=eb;rw[gs] at ea eb;obtain⟨x,hx,rfl⟩:=kO.mp ea;obtain⟨y,hy,rfl⟩:=kO.mp eb;obtain⟨ha,rfl⟩:=dD.mp hx;obtain⟨hb,rfl⟩:=dD.mp hy;exact xW.mp (LG mask ow) a b ha hb lm
  ·have:(List.filterMap (es[·]?) ((iC mask ow).map (·.2))).length=((iC mask ow).map (·.2)).length:=by
    rw[List.length_filterMap_eq_countP,List.countP_eq_length];exact t8
   show((iC mask ow).map (·.1)).toArray.size=_;rw[← jE (xs:=Array.filterMap _ _),PB,this];simp
  ·intro i j q;have q:(((iC mask ow).map (·.1)).toArray)[i]?=aa j:=q;rw[gs] at q;obtain⟨⟨j',i'⟩,hx,rfl⟩:=kO.mp q;have:=(oX hz).mp (gL hx);have:=(vC.mp this).1;show j'≤mask;omega
  ·have gj:((iC mask ow).map (·.2)).Nodup:=by
    unfold List.Nodup;rw[uU];refine Cz ?_ (LG mask ow);rintro⟨a,i⟩ ⟨b,i'⟩ ma mb lm e';have e':i=i':=e';subst e';have:=O.inj a b i ((oX hz).mp ma) ((oX hz).mp mb);have lm:a<b:=lm;omega
   have:=Da (l₂:=dP es.size) gj (fun v m=>by
    obtain⟨⟨j,i⟩,mm,rfl⟩:=cN.mp m;have:=O.lt j i ((oX hz).mp mm);rw[ax] at this;exact jB.mpr this)
   have h2:((((iC mask ow).map (·.2)).toArray).filterMap (es[·]?)).size≤((iC mask ow).map (·.2)).length:=by
    rw[← jE,PB];exact Cq _ _
   rw[HG] at this;show _≤mask;omega
  ·intro i j x q qx;have q:(((iC mask ow).map (·.1)).toArray)[i]?=aa j:=q;rw[gs] at q;obtain⟨⟨j',k⟩,hx,rfl⟩:=kO.mp q;rw[G8,hx,dB] at qx;have hw:=(oX hz).mp (gL hx);have hk:(es.map (·.1)).toList[k]?=aa x.1:=by
    have qx:es[k]?=aa x:=qx;rw[lX,Array.getElem?_map,qx]
    rfl
   obtain⟨n,a,b⟩:=O.reach j' k x.1 hw hk;refine⟨n,a,fun m o8=>?_⟩
   obtain⟨i',w⟩:=b m o8;obtain⟨r,hr,er⟩:=Co.mp ((oX hz).mpr w);refine⟨r,?_⟩;show(((iC mask ow).map (·.1)).toArray)[r]?=_;rw[gs,eW hr,er]
   rfl
 ·rw[PB];have gj:((iC mask ow).map (·.2)).Nodup:=by
   unfold List.Nodup;rw[uU];refine Cz ?_ (LG mask ow);rintro⟨a,i⟩ ⟨b,i'⟩ ma mb lm e';have e':i=i':=e';subst e';have:=O.inj a b i ((oX hz).mp ma) ((oX hz).mp mb);have lm:a<b:=lm;omega
  have hp:((iC mask ow).map (·.2)).Perm (dP es.size):=by
   rw[List.perm_ext_iff_of_nodup gj Cm];intro v;constructor
   ·intro m;obtain⟨⟨j,i⟩,mm,rfl⟩:=cN.mp m;have:=O.lt j i ((oX hz).mp mm);rw[ax] at this;exact jB.mpr this
   ·intro m;obtain⟨j,q⟩:=O.all v (by rw[ax];exact jB.mp m)
    exact cN.mpr ⟨(j,v),(oX hz).mpr q,rfl⟩
  exact(hp.filterMap _).trans (by rw[filterMap_getElem?_range])
structure Fine (t:fJ)(es:Array (Int×aC)):Prop where
 good:Good t es
 few:es.size*5<t.mask*3/\es.size≤4914
theorem Fine.fits {t:fJ}(F:Fine t es):t.fits es.size=ae:=by
 have h1:=F.good.len;have h2:=F.good.nod;have h3:=F.good.room;simp[SetTable.fits,NO,h1,h2,h3]
theorem Fine.odd {t:fJ}(F:Fine t es):t.gaveWay=af:=by
 rcases F.good.small with e|e|e|e|e|e<;>simp[SetTable.gaveWay,e]
theorem Oe (led:Bool):Fine (GQ 0 0 led) #[]:=
 ⟨⟨.inl rfl,rfl,fun a b u v _ h=>by simp[GQ] at h,rfl,fun i j h=>by simp[GQ] at h,by simp,fun i j e h=>by simp[GQ] at h⟩,by simp[GQ]⟩
theorem Mr {t:fJ}(hs:pT t.mask)(h1:(n-1)*5<t.mask*3)(h0:0<n)(hf:t.mask*3≤n*5)(hn:n≤4914):∃ M,pT M/\n*5<M*3/\SetTable.sizeAbove (SetTable.grown n)=M+1:=by
 rcases hs with e|e|e|e|e|e<;>rw[e] at h1 hf
 ·have h5:n=5:=by omega
  exact⟨31,.inr (.inl rfl),by omega,by rw[h5];decide⟩
 ·have h5:n=19:=by omega
  exact⟨127,.inr (.inr (.inl rfl)),by omega,by rw[h5];decide⟩
 ·have h5:n=77:=by omega
  exact⟨511,.inr (.inr (.inr (.inl rfl))),by omega,by rw[h5];decide⟩
 ·have h5:n=307:=by omega
  exact⟨2047,.inr (.inr (.inr (.inr (.inl rfl)))),by omega,by rw[h5];decide⟩
 ·have h5:n=1229:=by omega
  exact⟨8191,.inr (.inr (.inr (.inr (.inr rfl)))),by omega,by rw[h5];decide⟩
 ·omega
open PySem PySem.Spec PyProof.Rows PySem.SetTable
def hJ (w:bH):Bool:=w.params.followText "set-order"
abbrev Am8 (led:Bool):bJ:={ cls:=.type "set",dict:=ab,data:=.set #[] 0 (.fresh 0 0 led) }
theorem Re(v:aC){Q₁:aC->aH->Prop}(h:Q₁ (.ref s.heap.objs.size) { s with heap:=s.heap.push (Am8 (!hJ w)) }) :
  qB (aO prog w) A (.call (.builtin "set.__new__") ⟨[.type "set",v],[]⟩) (wants Q₁ E) s:=by
 refine codeAny_of_tree (show aJ _ A.in1 (do checkBuiltinCall "set.__new__" ⟨[.type "set",v],[]⟩;again (.builtin "set.__new__" ⟨[.type "set",v],[]⟩)) _ _ s from ?_)
 refine aF (GG (F.newCall_set_1 v) (aQ ⟨pZ F.plain_set_new _,pE F.entry_set_new ?_⟩));rw[qM F.plain_set_new _];unfold Builtin.«set.__new__» Builtin.Frozenset.newClass;have Y3:=sub_set_self;obtain⟨hp,g,d,tk,os⟩:=s;rw[13]
 wp_walk
 refine BB (aQ ?_);rw[13];simp only[newObj];exact aF (wpAny_alloc (aQ (aQ h)))
structure WSet (w:bH)(h:aZ)(a:aD)(o:bJ)(es:Array (Int×aC))(ep:Nat)(t:fJ):Prop where
 get:h.get? a=aa o
 exact:o.ExactSet
 data:o.data=.set es ep t
 fine:Fine t es
 led:t.led=!hJ w
mutual
theorem LL:∀ (d:aA) (n:Nat) {A:cD} {E:aC->aH->Prop} {s:aH} {v:aC} {as:List aD} {Q:Bool->aH->Prop},d.depth≤n->bO d=ae->lH s.heap v d as ->
  Q af s->aJ (aO prog w) A (GK n v) Q E s
 |.int i,n,A,E,s,v,as,Q,hu,hk,r,h=>by
  cases r with
  |int _ t=>
   unfold GK;exact aQ h
 |.str x,n,A,E,s,v,as,Q,hu,hk,r,h=>by
  cases r with
  |str _ t=>
   unfold GK;exact aQ h
 |.tuple ks,n,A,E,s,v,as,Q,hu,hk,r,h=>by
  obtain⟨a,o,ce,m,rfl,ho,hc,hd,hi⟩:=mP r;have hT:s.TypeIs (.ref a) "tuple":=⟨o,ho,hc⟩;have l5:bX ks+1≤n:=by simpa [dQ] using hu
  obtain⟨n,rfl⟩:∃ m,n=m+1:=⟨n-1,by omega⟩
  have dh:cA ks=ae:=by simpa [bO] using hk
  unfold GK;refine aF (sL hT ?_);rw[13];rw[if_pos (by decide)]
  refine aF (aQ ?_);rw[23];refine aF (lF ho hd ?_);rw[13];rw[22];show aJ _ _ (forIn ce _ _) _ _ s;rw[← CG];refine AZ _ (fun rest r s'=>r.1=ab/\s'=s/\∃ ds bs,mW s.heap rest ds bs/\∀ d∈ds,d∈ks) _ ?_ ?_ _ _ ⟨rfl,rfl,ks,as,hi,fun _ h=>h⟩
  ·rintro v rest r s' ⟨hr,rfl,ds,bs,hl,bx⟩;cases hl with
   |@cons _ _ d ds D9 tj h1 m7=>
    refine aF (WS ks (bx d cF) n (by omega) dh h1 ?_)
    rw[19];exact aQ ⟨rfl,rfl,ds,tj,m7,fun u xk=>bx u (cS _ xk)⟩
  ·rintro⟨r1,r2⟩ s' ⟨hr,rfl,_⟩;simp only at hr;subst hr;exact aQ h
 |.none,n,A,E,s,v,as,Q,hu,hk,r,h=>by simp[bO] at hk
 |.bool _,n,A,E,s,v,as,Q,hu,hk,r,h=>by simp[bO] at hk
 |.list _,n,A,E,s,v,as,Q,hu,hk,r,h=>by simp[bO] at hk
 |.dict _,n,A,E,s,v,as,Q,hu,hk,r,h=>by simp[bO] at hk
theorem WS:∀ (ks:List aA) {d:aA},d∈ks->∀ (n:Nat) {A:cD} {E:aC->aH->Prop} {s:aH} {v:aC} {as:List aD} {Q:Bool->aH->Prop},bX ks≤n->cA ks=ae->lH s.heap v d as ->
  Q af s->aJ (aO prog w) A (GK n v) Q E s
 |[],_,hm,_,_,_,_,_,_,_,_,_,_,_=>by simp at hm
 |k::ks,d,hm,n,A,E,s,v,as,Q,hu,hk,r,h=>by
  have dh:bO k=ae/\cA ks=ae:=by simpa [cA] using hk
  have l5:max k.depth (bX ks)≤n:=by simpa [bX] using hu
  by_cases e:d=k
  ·exact LL k n (by omega) dh.1 (e ▸ r) h
  ·have o8:d∈ks:=by
    rcases eD.mp hm with q|q
    ·exact absurd q e
    ·exact q
   exact WS ks o8 n (by omega) dh.2 r h
end
mutual
theorem WM:∀ (d:aA) (n:Nat) {A:cD} {E:aC->aH->Prop} {s:aH} {v:aC} {as:List aD} {Q:Bool->aH->Prop},d.depth≤n->bO d=ae->lH s.heap v d as ->
  (∀ b,Q b s)->aJ (aO prog w) A (GN n v) Q E s
 |.int i,n,A,E,s,v,as,Q,hu,hk,r,h=>by
  cases r with
  |int _ t=>
   cases n<;>(unfold GN;exact aQ (h _))
 |.str x,n,A,E,s,v,as,Q,hu,hk,r,h=>by
  cases r with
  |str _ t=>
   cases n<;>(unfold GN;exact aQ (h _))
 |.tuple ks,n,A,E,s,v,as,Q,hu,hk,r,h=>by
  obtain⟨a,o,ce,m,rfl,ho,hc,hd,hi⟩:=mP r;have hT:s.TypeIs (.ref a) "tuple":=⟨o,ho,hc⟩;have l5:bX ks+1≤n:=by simpa [dQ] using hu
  obtain⟨n,rfl⟩:∃ m,n=m+1:=⟨n-1,by omega⟩
  have dh:cA ks=ae:=by simpa [bO] using hk
  unfold GN;refine aF (xG hT HP.lookup ?_);show aJ _ _ (BE (.ref a)>>=_) _ _ s;refine aF (lF ho hd ?_);rw[22];show aJ _ _ (forIn ce _ _) _ _ s;rw[← CG];refine AZ _ (fun rest r s'=>s'=s/\∃ ds bs,mW s.heap rest ds bs/\∀ d∈ds,d∈ks) _ ?_ ?_ _ _ ⟨rfl,ks,as,hi,fun _ h=>h⟩
  ·rintro v rest r s' ⟨rfl,ds,bs,hl,bx⟩;cases hl with
   |@cons _ _ d ds D9 tj h1 m7=>
    refine aF (XM ks (bx d cF) n (by omega) dh h1 fun b=>?_)
    cases b
    ·simp only[Bool.not_false,if_true];exact aQ (aQ (h _))
    ·rw[23];exact aQ ⟨rfl,ds,tj,m7,fun u xk=>bx u (cS _ xk)⟩
  ·rintro⟨r1,r2⟩ s' ⟨rfl,_⟩;cases r1 with
   |none=>exact aQ (h _)
   |some b=>exact aQ (h _)
 |.none,n,A,E,s,v,as,Q,hu,hk,r,h=>by simp[bO] at hk
 |.bool _,n,A,E,s,v,as,Q,hu,hk,r,h=>by simp[bO] at hk
 |.list _,n,A,E,s,v,as,Q,hu,hk,r,h=>by simp[bO] at hk
 |.dict _,n,A,E,s,v,as,Q,hu,hk,r,h=>by simp[bO] at hk
theorem XM:∀ (ks:List aA) {d:aA},d∈ks->∀ (n:Nat) {A:cD} {E:aC->aH->Prop} {s:aH} {v:aC} {as:List aD} {Q:Bool->aH->Prop},bX ks≤n->cA ks=ae->lH s.heap v d as ->
  (∀ b,Q b s)->aJ (aO prog w) A (GN n v) Q E s
 |[],_,hm,_,_,_,_,_,_,_,_,_,_,_=>by simp at hm
 |k::ks,d,hm,n,A,E,s,v,as,Q,hu,hk,r,h=>by
  have dh:bO k=ae/\cA ks=ae:=by simpa [cA] using hk
  have l5:max k.depth (bX ks)≤n:=by simpa [bX] using hu
  by_cases e:d=k
  ·exact WM k n (by omega) dh.1 (e ▸ r) h
  ·have o8:d∈ks:=by
    rcases eD.mp hm with q|q
    ·exact absurd q e
    ·exact q
   exact XM ks o8 n (by omega) dh.2 r h
end
theorem Lq{k:List aA}{b:aD}{ys:List aC}{Q:Bool->aH->Prop}(hk:Ac4 s.heap k b)(hy:∀ y∈ys,∃ k' b',y=.ref b'/\Ac4 s.heap k' b')(h:Q af s) :
  aJ (aO prog w) A (searchCouldBeSeen (.ref b) ys) Q E s:=by
 unfold searchCouldBeSeen;rw[22];refine AZ _ (fun rest r s'=>r.1=ab/\s'=s/\∀ y∈rest,∃ k' b',y=.ref b'/\Ac4 s.heap k' b') _ ?_ ?_ _ _ ⟨rfl,rfl,hy⟩
 ·rintro v rest r s' ⟨hr,rfl,bx⟩;obtain⟨k',b',rfl,dh⟩:=bx v cF;have t9:∀ y∈rest,∃ k' b',y=.ref b'/\Ac4 s'.heap k' b':=fun y m=>bx y (cS _ m)
  rw[13];split
  ·exact aQ ⟨rfl,rfl,t9⟩
  ·obtain⟨a1,a2,as,ra⟩:=hk;obtain⟨b1,b2,bs,rb⟩:=dh;have ka:bO (.tuple k)=ae:=by simpa [bO] using a1
   have kb:bO (.tuple k')=ae:=by simpa [bO] using b1
   have da:(iF k).depth≤8:=by simp only[dQ];omega
   have db:(iF k').depth≤8:=by simp only[dQ];omega
   refine aF (EX (.tuple k) 8 da ka ra ?_);rw[23];refine aF (EX (.tuple k') 8 db kb rb ?_);rw[23];refine aF (LL (.tuple k) 8 da ka ra ?_);rw[19];refine aF (LL (.tuple k') 8 db kb rb ?_);rw[19];exact aQ ⟨rfl,rfl,t9⟩
 ·rintro⟨r1,r2⟩ s' ⟨hr,rfl,_⟩;simp only at hr;subst hr;exact aQ h
theorem vX {α β:Type}{R:α->β->Prop}:∀ {as:List α} {bs:List β},fE R as bs->∀ {i:Nat} {a:α},as[i]?=aa a->∃ b,bs[i]?=aa b/\R a b
 |_,_,.nil,i,a,h=>by simp at h
 |_,_,.cons h t,0,a,e=>⟨_,rfl,by simp at e;exact e ▸ h⟩
 |_,_,.cons h t,i+1,a,e=>vX t (by simpa using e)
theorem JH {α β:Type}{R:α->β->Prop}:∀ {as:List α} {bs:List β},fE R as bs->∀ {i:Nat} {b:β},bs[i]?=aa b->∃ a,as[i]?=aa a/\R a b
 |_,_,.nil,i,a,h=>by simp at h
 |_,_,.cons h t,0,a,e=>⟨_,rfl,by simp at e;exact e ▸ h⟩
 |_,_,.cons h t,i+1,a,e=>JH t (by simpa using e)
theorem Good.met {t:fJ}{f:Nat->Int}{h:Int}{r:Option Met}(G:Good t es)(hv:∀ m<n,kH t (rd t.mask h m).j)(wz:t.probe f h (rd t.mask h n)=r)(hf:∀ (i:Nat) e,es[i]?=aa e->f i=e.1) :
  ∃ N,n≤N/\N<10*turns t.mask/\(∀ m,n≤m->m<N->∃ (i:Nat) (e:Int×aC),t.place[i]?=aa (rd t.mask h m).j/\es[i]?=aa e/\e.1≠h) /\
   ((¬ kH t (rd t.mask h N).j/\r=aa (.empty (rd t.mask h N).j ab))\/∃ (i:Nat) (e:Int×aC),t.place[i]?=aa (rd t.mask h N).j/\es[i]?=aa e/\e.1=h/\r=aa (.candidate (rd t.mask h N).j i (rd t.mask h (N+1)))):=by
 obtain⟨k,h1,h2,h3⟩:=G.next (hashAt:=f) h hv;have el:∀ i j:Nat,t.place[i]?=aa j->∃ e,es[i]?=aa e:=fun i j q=>by
  have:=(vC.mp q).1;rw[G.len] at this;exact⟨es[i],lJ this⟩
 refine⟨n+k,by omega,h1,fun m a b=>?_,?_⟩
 ·obtain⟨i,e1,e2⟩:=h2 m a b;obtain⟨e,ee⟩:=el i _ e1;exact⟨i,e,e1,ee,by rw[← hf i e ee];exact e2⟩
 ·rcases h3 with⟨a,b⟩|⟨i,a,b,c⟩
  ·exact .inl ⟨a,wz.symm.trans b⟩
  ·obtain⟨e,ee⟩:=el i _ a;exact .inr ⟨i,e,a,ee,by rw[← hf i e ee];exact b,wz.symm.trans c⟩
theorem Good.nope {t:fJ}{f:Nat->Int}{h:Int}(G:Good t es)(hv:∀ m<n,kH t (rd t.mask h m).j)(hn:∀ met,t.probe f h (rd t.mask h n)=aa met->False):False:=by
 obtain⟨k,_,_,h3⟩:=G.next (hashAt:=f) h hv;rcases h3 with⟨_,q⟩|⟨_,_,_,q⟩
 ·exact hn _ q
 ·exact hn _ q
def v7 (w:bH)(B:List aA->aD->Prop)(h:aZ)(e:Int×aC)(k:List aA):Prop:=∃ b,e.2=.ref b/\e.1=eM w (.tuple k)/\Ac4 h k b/\B k b
structure SetAt (w:bH)(B:List aA->aD->Prop)(h:aZ)(a:aD)(o:bJ)(es:Array (Int×aC))(ep:Nat)(t:fJ)(ks:List (List aA)):Prop where
 get:h.get? a=aa o
 exact:o.ExactSet
 data:o.data=.set es ep t
 fine:Fine t es
 led:t.led=!hJ w
 els:fE (v7 w B h) es.toList ks
 nod:ks.Nodup
theorem VJ{b:aD}{t:fJ}{k:List aA}{Q:SetFound->aH->Prop}
  (S:SetAt w B s.heap a o es ep t ks) (hk:Ac4 s.heap k b) (hu:A.units+20<cLine) (h1:k∈ks->Q (.there ab) s)
  (h2:k∉ks->∀ N,(∀ m<N,kH t (rd t.mask (eM w (.tuple k)) m).j)->¬ kH t (rd t.mask (eM w (.tuple k)) N).j->Q (.free (rd t.mask (eM w (.tuple k)) N).j af) s) :
  ∀ fuel n nq,nq.getD (t.probeStart (eM w (.tuple k)))=rd t.mask (eM w (.tuple k)) n->(∀ m<n,∃ i:Nat,t.place[i]?=aa (rd t.mask (eM w (.tuple k)) m).j/\∀ k',ks[i]?=aa k'->k'≠k)->10*turns t.mask<fuel+n ->
   aJ (aO prog w) A (setSearchFrom a (.ref b) (eM w (.tuple k)) ae fuel nq) Q E s
 |0,n,nq,_,hv,hf=>by
  obtain⟨e,he,cf⟩:=S.fine.good.empty;obtain⟨N,hN,eN⟩:=UP S.fine.good.small (eM w (.tuple k)) he;obtain⟨i,q,_⟩:=hv N (by omega)
  exact absurd ⟨i,eN ▸ q⟩ cf
 |fuel+1,n,nq,ki,hv,hf=>by
  have G:=S.fine.good;have G9:∀ m<n,kH t (rd t.mask (eM w (.tuple k)) m).j:=fun m hm=>by
   obtain⟨i,q,_⟩:=hv m hm;exact⟨i,q⟩
  have uc:∀ (i:Nat) (e:Int×aC),es[i]?=aa e->∃ k',ks[i]?=aa k'/\v7 w B s.heap e k':=fun i e q=>vX S.els (by rw[lX];exact q)
  unfold setSearchFrom;rw[8];rw[S.fine.odd];rw[19];rw[ki];split
  ·rename_i met wz;obtain⟨N,R9,hN,hm,hc⟩:=G.met G9 wz (fun i e he=>by
    show(es[i]?.map (·.1)).getD 0=e.1;rw[he]
    rfl)
   have yn:∀ m<N,kH t (rd t.mask (eM w (.tuple k)) m).j:=fun m Sc=>by
    rcases uS m n with c|c
    ·exact G9 m c
    ·obtain⟨i,e,q,_⟩:=hm m c Sc;exact⟨i,q⟩
   rcases hc with⟨cf,hr⟩|⟨i,e,hp,vd,hh,hr⟩
   ·cases hr;rw[13];have Y4:k∉ks:=fun mem=>by
     obtain⟨i,hi,ei⟩:=Co.mp mem;have lq:ks[i]?=aa k:=by rw[eW hi,ei]
     obtain⟨e,q,b',_,hh,_⟩:=JH S.els lq;rw[lX] at q;have jc:=(vC.mp q).1;have xg:i<t.place.size:=by rw[G.len];exact jc
     have gs:t.place[i]?=aa t.place[i]:=lJ xg;obtain⟨M,hM,ST⟩:=G.reach i _ e gs q;rw[hh] at hM ST;rcases GY N M with c|c|c
     ·exact cf (ST N c)
     ·subst c;exact cf ⟨i,by rw[gs,hM]⟩
     ·have yo:∀ i':Nat,t.place[i']?=aa (rd t.mask (eM w (.tuple k)) M).j->i'=i:=fun i' q'=>by
       rw[hM] at q';rcases GY i' i with z|z|z
       ·have:=G.ris _ _ _ _ z q' gs;omega
       ·exact z
       ·have:=G.ris _ _ _ _ z gs q';omega
      rcases uS M n with z|z
      ·obtain⟨i',q',p4⟩:=hv M z;have:=yo i' q';rw[25];exact p4 k lq rfl
      ·obtain⟨i',e',q',qe,p4⟩:=hm M z c;have:=yo i' q';rw[25];rw[q] at qe;cases qe;exact p4 hh
    exact aQ (h2 Y4 N yn cf)
   ·cases hr;rw[13];obtain⟨k',dh,b',eb,eh,kg,_⟩:=uc i e vd;have yp:∀ y∈((es.filter (·.1==eM w (.tuple k))).toList.map (·.2)),∃ k' b',y=.ref b'/\Ac4 s.heap k' b':=fun y my=>by
     obtain⟨e',me,rfl⟩:=cN.mp my;rw[Array.toList_filter] at me;obtain⟨q1,_⟩:=OG.mp me;obtain⟨i',ni,lq⟩:=Co.mp q1;obtain⟨k2,_,b2,z1,_,z2,_⟩:=vX S.els (i:=i') (a:=e') (by rw[eW ni,lq])
     exact⟨k2,b2,z1,z2⟩
    obtain⟨Y5,ey⟩:=e;have eb:ey=.ref b':=eb;have hh:Y5=eM w (.tuple k):=hh;subst eb;have yq:k'≠k->aJ (aO prog w) A (setSearchFrom a (.ref b) (eM w (.tuple k)) ae fuel (aa (rd t.mask (eM w (.tuple k)) (N+1)))) Q E s:=fun cf=>by
     refine VJ S hk hu h1 h2 fuel (N+1) _ rfl (fun m Sc=>?_) (by omega)
     rcases uS m n with c|c
     ·exact hv m c
     ·rcases uS m N with c2|c2
      ·obtain⟨i',e',q',qe,p4⟩:=hm m c c2;refine⟨i',q',fun k2 ud e2=>?_⟩
       obtain⟨k3,wE,_,_,z,_⟩:=uc i' e' qe;rw[ud] at wE;cases wE;subst e2;exact p4 z
      ·have:m=N:=by omega
       rw[25];refine⟨i,hp,fun k2 ud e2=>?_⟩
       rw[dh] at ud;cases ud;exact cf e2
    have r9:t.sameMemory t.moves t.mask=aa ae:=by simp[sameMemory]
    split
    case' isTrue=>refine aF (Lq hk yp ?_);simp only[fA,if_false]
    all_goals
     rw[vd];rw[13];refine aF (iX ((oY prog w).eqBool hu kg hk ?_));rw[8];by_cases ek:k'=k
     ·rw[decide_eq_true ek];simp only[yH,if_true];exact aQ (h1 (by rw[← ek];exact gL dh))
     ·rw[decide_eq_false ek];simp only[Bool.and_false,fA,if_false];rw[r9];rw[13];rw[20];rw[(FC G.nod G.ris).mpr hp];rw[13];rw[vd];rw[13];refine aF (wpAny_isSame_ref_self (aF (aQ ?_)));rw[20];exact yq ek
  ·rename_i wz;exact(G.nope G9 wz).elim
theorem UD{t:fJ}(ho:h.get? a=aa o)(hd:o.data=.set es ep t)(hs:oH a h h'){k:List aA}{b:aD}(hk:Ac4 h k b):Ac4 h' k b:=
 hk.keep fun c oc vs n hc _ kg=>by
  have cf:c≠a:=by
   rintro rfl;rw[ho] at hc;cases hc;rw[hd] at kg;cases kg
  exact(hs.2 c cf).trans hc
theorem qO {α β:Type}{R R':α->β->Prop}(f:∀ a b,R a b->R' a b):∀ {as:List α} {bs:List β},fE R as bs->fE R' as bs
 |_,_,.nil=>.nil
 |_,_,.cons h t=>.cons (f _ _ h) (qO f t)
theorem IZ {α β:Type}{R:α->β->Prop}{as nn:List α}(p:nn.Perm as):∀ {bs:List β},fE R as bs->∃ t5,fE R nn t5/\t5.Perm bs:=by
 induction p with
 |nil=>intro bs h;exact⟨bs,h,.refl _⟩
 |cons x p ih=>
  intro bs h;cases h with
  |cons h t=>
   obtain⟨t5,h1,h2⟩:=ih t;exact⟨_,.cons h h1,h2.cons _⟩
 |swap x y l=>
  intro bs h;cases h with
  |cons h t=>
   cases t with
   |cons h' t'=>exact⟨_,.cons h' (.cons h t'),.swap _ _ _⟩
 |trans p q Id Is=>
  intro bs h;obtain⟨b1,h1,h2⟩:=Is h;obtain⟨b2,h3,h4⟩:=Id h1;exact⟨b2,h3,h4.trans h2⟩
theorem ZH {α β:Type}{R:α->β->Prop}{a:α}{b:β}(h:R a b):∀ {as:List α} {bs:List β},fE R as bs->fE R (as++[a]) (bs++[b])
 |_,_,.nil=>.cons h .nil
 |_,_,.cons h' t=>.cons h' (ZH h t)
def SetT (w:bH)(B:List aA->aD->Prop)(h:aZ)(a:aD)(ks:List (List aA)):Prop:=∃ o es ep t ir,SetAt w B h a o es ep t ir/\ir.Perm ks
theorem VX{t:fJ}(ho:h.get? a=aa o)(Y6:o.ExactSet)(hd:o.data=.set es ep t)(i9:Array (Int×aC))(t':fJ) :
  ∃ o',(h.update a (BL i9 t')).get? a=aa o'/\o'.ExactSet/\o'.data=.set i9 (ep+1) t'/\oH a h (h.update a (BL i9 t')):=by
 have hg:=qK (BL i9 t') ho (by rw[putSet_of i9 t' hd];rfl)
 rw[putSet_of i9 t' hd] at hg;exact⟨_,hg,Y6,rfl,yC h a _⟩
theorem Iq{b:aD}{t:fJ}{k:List aA}{Q:Bool->aH->Prop}{fuel:Nat}
  (S:SetAt w B s.heap a o es ep t ks) (hk:Ac4 s.heap k b) (hB:B k b) (hu:A.units+20<cLine) (no:es.size+1≤4914)
  (h:∀ h',oH a s.heap h'->SetT w B h' a (if k∈ks then ks else ks++[k])->Q (decide (k∉ks)) { s with heap:=h' }) :
  aJ (aO prog w) A (setAddHashedIn a (.ref b) (eM w (.tuple k)) (fuel+1)) Q E s:=by
 have G:=S.fine.good;have e0:s={ s with heap:=s.heap }:=by cases s;rfl
 unfold setAddHashedIn;rw[8];have Y7:byScan (.ref b) es=af:=by simp[byScan,Value.scannable]
 rw[Y7];rw[19];unfold setSearch;refine aF (VJ S hk hu (fun mem=>?_) (fun hn N hl cf=>?_) 100000 0 ab rfl (fun m hm=>absurd hm (by omega)) (by
  rcases G.small with e|e|e|e|e|e<;>rw[e]<;>decide))
 ·rw[13];refine aQ ?_;have:=h s.heap (Heap.SameBut.refl a s.heap) (by rw[if_pos mem];exact⟨o,es,ep,t,ks,S,.refl _⟩)
  rw[e0,show af=decide (k∉ks) from(decide_eq_false (fun z=>z mem)).symm]
  rw[29]
 ·rw[13];rw[8];rw[Ir G.nod];rw[13];have ve:es.size<t.mask:=by
   have:=S.fine.few;rcases G.small with e|e|e|e|e|e<;>rw[e] at this ⊢<;>omega
  have tail:∀ pl:Bool,aJ (aO prog w) A (do
    storeSet a (insertAt es (below t.place (rd t.mask (eM w (.tuple k)) N).j) (eM w (.tuple k),.ref b)) { t with place:=insertAt t.place (below t.place (rd t.mask (eM w (.tuple k)) N).j) (rd t.mask (eM w (.tuple k)) N).j,plain:=pl }
    if (!af&&({ t with place:=insertAt t.place (below t.place (rd t.mask (eM w (.tuple k)) N).j) (rd t.mask (eM w (.tuple k)) N).j,plain:=pl }:fJ).tooFull)=ae then do
      setRelay a (SetTable.grown (es.size+1))
      pure ae
     else pure ae) Q E s:=fun pl=>by
   have G':=G.put (x:=.ref b) hl cf ve pl;have ue:=insertAt_perm es (below t.place (rd t.mask (eM w (.tuple k)) N).j) (eM w (.tuple k),fO b);rw[CF] at ue;have hsz:=EM es (below t.place (rd t.mask (eM w (.tuple k)) N).j) (eM w (.tuple k),fO b);generalize insertAt es (below t.place (rd t.mask (eM w (.tuple k)) N).j) (eM w (.tuple k),fO b)=lu at *;generalize sh:({ t with place:=insertAt t.place (below t.place (rd t.mask (eM w (.tuple k)) N).j) (rd t.mask (eM w (.tuple k)) N).j,plain:=pl }:fJ)=t1 at *;have oy:t1.mask=t.mask:=by rw[← sh]
   have Ix:t1.led=!hJ w:=by rw[← sh];exact S.led
   obtain⟨o1,g1,x1,d1,p5⟩:=VX S.get S.exact S.data lu t1;have IN:fE (v7 w B s.heap) (es.toList++[(eM w (.tuple k),fO b)]) (ks++[k]):=ZH ⟨b,rfl,rfl,hk,hB⟩ S.els;obtain⟨S6,yr,p1⟩:=IZ ue IN;have yt:S6.Nodup:=p1.nodup_iff.mpr (BS.mpr ⟨S.nod,by simp,fun x hx y hy e=>hn (by rw[← eB.mp hy,← e];exact hx)⟩)
   have uf:∀ e k',v7 w B s.heap e k'->v7 w B (s.heap.update a (BL lu t1)) e k':=fun e k' ⟨b',q1,q2,q3,q4⟩=>⟨b',q1,q2,UD S.get S.data p5 q3,q4⟩
   refine aF (wpAny_storeSet_of S.get S.data ?_ (by have:sizeLine=sizeLine:=rfl;rw[mS];omega))
   have yu:t1.fits lu.size=ae:=by
    have a1:=G'.len;have a2:=G'.nod;have a3:=G'.room;simp[SetTable.fits,NO,a1,a2,a3]
   by_cases hf:t1.tooFull=ae
   ·rw[if_pos (by simpa using hf)]
    have a1:=G'.len;have a2:=G'.nod;have gi:=S.fine.few;have ug:t1.mask*3≤lu.size*5:=by
     simp[SetTable.tooFull,NO,a1,a2] at hf;exact hf
    obtain⟨M,hM,S7,yv⟩:=Mr (t:=t) (n:=es.size+1) G.small (by simpa using gi.1) (by omega) (by rw[oy,hsz] at ug;exact ug) no
    have yw:lu.size≤M:=by
     rcases hM with e|e|e|e|e|e<;>rw[e] at S7 ⊢<;>omega
    obtain⟨t2,iu,el,G2,p2,m2,S8,_,_⟩:=Mp (mask:=M) hM lu yw t1.finger (t1.movedTo M) t1.led t1.plain;have Y8:t1.relaid (lu.map (·.1)) (SetTable.grown (es.size+1))=aa (t2,iu):=by
     unfold SetTable.relaid;rw[yv];exact el
    have yx:(iu.filterMap (lu[·]?)).size=lu.size:=by
     rw[← jE,p2.length_eq,jE]
    rw[22];unfold setRelay;refine aF (rB g1 d1 yu ?_);rw[13];rw[if_neg (by rw[mS,yv];rcases hM with e|e|e|e|e|e<;>rw[e]<;>decide),Y8]
    refine aF (show aJ (aO prog w) A (do
     let i9:=iu.filterMap (lu[·]?)
     if i9.size != lu.size then unsupported "internal:set-table-lost-an-element"
     pure (i9,t2)) _ E _ from ?_)
    rw[13];rw[if_neg (by rw[yx];simp)]
    refine aQ ?_;generalize iu.filterMap (lu[·]?)=C1 at *;obtain⟨o2,g2,x2,d2,C2⟩:=VX g1 x1 d1 C1 t2;rw[13];refine wpAny_storeSet_of g1 d1 ?_ (by rw[mS];omega)
    refine aQ ?_;obtain⟨wP,IO,q2⟩:=IZ p2 yr;have yy:∀ e k',v7 w B s.heap e k'->v7 w B ((s.heap.update a (BL lu t1)).update a (BL C1 t2)) e k':=fun e k' z=>by
     obtain⟨b',z1,z2,z3,z4⟩:=uf e k' z;exact⟨b',z1,z2,UD g1 d1 C2 z3,z4⟩
    rw[show ae=decide (k∉ks) from(decide_eq_true hn).symm]
    exact h _ (p5.trans C2) (by rw[if_neg hn];exact⟨o2,C1,ep+1+1,t2,wP,⟨g2,x2,d2,⟨G2,by rw[yx,m2,hsz];exact S7,by omega⟩,S8.trans Ix,qO (fun e k'=>yy e k') IO,q2.nodup_iff.mpr yt⟩,q2.trans p1⟩)
   ·rw[if_neg (by simpa using hf)]
    have few:lu.size*5<t1.mask*3/\lu.size≤4914:=by
     have a1:=G'.len;have a2:=G'.nod;refine⟨?_,by omega⟩
     simp[SetTable.tooFull,NO,a1,a2] at hf;omega
    refine aQ ?_;rw[show ae=decide (k∉ks) from(decide_eq_true hn).symm]
    exact h _ p5 (by rw[if_neg hn];exact⟨o1,lu,ep+1,t1,S6,⟨g1,x1,d1,⟨G',few⟩,Ix,qO (fun e k'=>uf e k') yr,yt⟩,p1⟩)
  obtain⟨k1,k2,as,rk⟩:=id hk;split
  ·refine aF (WM (.tuple k) 8 (by simp only[dQ];omega) (by simpa [bO] using k1) rk fun bb=>?_)
   cases bb
   ·rw[19];exact tail af
   ·rw[20];exact tail t.plain
  ·refine aF (aQ ?_);rw[20];exact tail t.plain
theorem SetT.len(S:SetT w B h a ks):∃ o es ep t,h.get? a=aa o/\o.ExactSet/\o.data=.set es ep t/\t.fits es.size=ae/\es.size=ks.length:=by
 obtain⟨o,es,ep,t,ir,Z,p⟩:=S;refine⟨o,es,ep,t,Z.get,Z.exact,Z.data,Z.fine.fits,?_⟩;have:=mX Z.els;rw[jE] at this;rw[this,p.length_eq]
theorem SetT.keep(S:SetT w B h a ks)(k1:∀ o,h.get? a=aa o->h'.get? a=aa o)(k2:∀ b o vs n,h.get? b=aa o->o.cls=.type "tuple" -> o.data=.seq vs n->h'.get? b=aa o):SetT w B h' a ks:=by
 obtain⟨o,es,ep,t,ir,Z,p⟩:=S;exact⟨o,es,ep,t,ir,⟨k1 o Z.get,Z.exact,Z.data,Z.fine,Z.led,qO (fun e k ⟨b,q1,q2,q3,q4⟩=>⟨b,q1,q2,q3.keep k2,q4⟩) Z.els,Z.nod⟩,p⟩
theorem Vo {ls:List (List aA)}(p:ks.Perm ls)(k:List aA):(if k∈ks then ks else ks++[k]).Perm (nF ls k):=by
 unfold nF;by_cases m:k∈ks
 ·rw[if_pos m,if_pos (p.mem_iff.mp m)];exact p
 ·rw[if_neg m,if_neg (fun z=>m (p.mem_iff.mpr z))]
  exact p.append_right [k]
theorem Mb{b:aD}{k:List aA}{Q:Bool->aH->Prop}
  (S:SetT w B s.heap a ks) (hk:Ac4 s.heap k b) (hB:B k b) (hu:A.units+20<cLine) (no:ks.length+1≤4914)
  (h:∀ h' c,oH a s.heap h'->SetT w B h' a (nF ks k)->Q c { s with heap:=h',toks:=s.toks+qN (.tuple k) }) :
  aJ (aO prog w) A (setAdd a (.ref b)) Q E s:=by
 obtain⟨o,es,ep,t,ir,Z,p⟩:=S;unfold setAdd;refine iX (aF ((oY prog w).pyHash hu hk ?_));unfold setAddHashed;have vd:es.size=ks.length:=by
  have:=mX Z.els;rw[jE] at this;rw[this,p.length_eq]
 refine iX (Iq (s:={ s with toks:=s.toks+qN (.tuple k) }) (fuel:=99999) Z hk hB hu (by omega) fun h' sb S'=>h h' _ sb ?_)
 obtain⟨o',i9,kf,t',wP,Z',p'⟩:=S';exact⟨o',i9,kf,t',wP,Z',p'.trans (Vo p k)⟩
theorem Yb (ai:List (List aA))(k:List aA):ai.length≤(nF ai k).length:=by
 unfold nF;split
 ·exact bZ _
 ·simp
theorem XQ:∀ (kss ai:List (List aA)),ai.length≤(kss.foldl nF ai).length
 |[],ai=>bZ _
 |k::r,ai=>jV (Yb ai k) (XQ r (nF ai k))
theorem Pn (kss:List (List aA))(i:Nat):(gG (kss.take i)).length≤(gG kss).length:=by
 have e:gG kss=(kss.drop i).foldl nF (gG (kss.take i)):=by
  unfold gG;rw[← HK,mY]
 rw[e];exact XQ _ _
theorem Xd{I:aD}{fp wr:List aD}{G:Array GenState->Array GenState->Prop}{P:Nat->aC->Prop}{St:Nat->aH->Prop}
  (W:WalksS prog w A.in1 I fp wr G n P St) (hu:A.units+30<cLine) (S:aD) (B6:S∉fp) (kss:List (List aA)) (hn:(gG kss).length≤4900)
  (hT:∀ i s,St i s->∀ c∈wr,∀ o,s.heap.get? c=aa o->o.cls ≠ .type "tuple") :
  ∀ (k i:Nat) (s:aH),n-i=k->i≤n->St i s->SetT w B s.heap S (gG (kss.take i))->(∀ j v,P j v->∃ b q,v=.ref b/\kss[j]?=aa q/\Ac4 s.heap q b/\B q b) ->
   (∀ s',Moved (S::wr) G s s'->SetT w B s'.heap S (gG (kss.take n))->R (.ok (.ret .none)) s') ->
   qB (aO prog w) A (.builtin "set.update.loop" ⟨[.ref S,.ref I],[]⟩) R s:=by
 have S9:S∉wr:=fun z=>B6 (W.sub _ z)
 have more:∀ b∈wr,b∈S::wr:=fun b z=>cS _ z
 have nr:∀ {i s s'},St i s->Moved wr G s s'->∀ b o vs m,s.heap.get? b=aa o->o.cls=.type "tuple" -> o.data=.seq vs m->s'.heap.get? b=aa o:=fun {i s s'} st hm b o vs m q c _=>
  hm.heap b o (fun z=>hT i s st b z o q c) q
 intro k;induction k with
 |zero=>
  intro i s hk hi ki hS hP hR;obtain rfl:i=n:=by omega
  refine pE F.entry_set_update_loop ?_;rw[qM Dd _];show aJ _ A.in1 (iA (.ref I)>>=_) _ _ s;refine aF (W.done s _ _ ki fun s' hm=>?_)
  show aJ _ A.in1 (ret cZ) _ _ s';exact aQ (hR s' (hm.mono more) (hS.keep (fun o q=>hm.heap S o S9 q) (nr ki hm)))
 |succ k ih=>
  intro i s hk hi ki hS hP hR;have bg:i<n:=by omega
  refine pE F.entry_set_update_loop ?_;rw[qM Dd _];show aJ _ A.in1 (iA (.ref I)>>=_) _ _ s;refine aF (W.item i s _ _ bg ki fun v s' Y9 J0 hm=>?_)
  obtain⟨b,q,rfl,hq,hd,hB⟩:=hP i v Y9;have nk:SetT w B s'.heap S (gG (kss.take i)):=hS.keep (fun o z=>hm.heap S o S9 z) (nr ki hm)
  have p6:gG (kss.take (i+1))=nF (gG (kss.take i)) q:=by
   rw[xU,hq];simp[gG,HK]
  have ax:(gG (kss.take i)).length≤4900:=jV (Pn kss i) hn;show aJ _ A.in1 (pD [fO b] (setAdd S (.ref b))>>=_) _ _ s';refine aF (iX (Mb (A:=A.in1) nk (hd.keep (nr ki hm)) hB (by show A.units+1+20<cLine;omega) (by omega) fun h' c sb S2=>?_))
  obtain⟨o2,C1,ep2,t2,g2,_,d2,_⟩:=nk.len;have kt:∀ b o vs m,s'.heap.get? b=aa o->o.cls=.type "tuple" -> o.data=.seq vs m->h'.get? b=aa o:=fun b o vs m z _ z'=>by
   have cf:b≠S:=by
    rintro rfl;rw[g2] at z;cases z;rw[d2] at z';cases z'
   exact(sb.2 b cf).trans z
  refine aQ ⟨pZ Dd _,ih (i+1) _ (by omega) bg (W.frame _ s' _ _ J0 (HA _ _) fun c hc o e=>?_) (by rw[p6];exact S2) (fun j v z=>?_) fun xp J1 S3=>?_⟩
  ·exact(sb.2 c (fun z=>B6 (z ▸ hc))).trans e
  ·obtain⟨b',q',e1,e2,e3,e4⟩:=hP j v z;exact⟨b',q',e1,e2,(e3.keep (nr ki hm)).keep kt,e4⟩
  ·exact hR xp (Moved.trans W.gtrans ((hm.mono more).then_heap (HA _ _) fun c o hc e=>(sb.2 c (fun z=>hc (z ▸ cF))).trans e) J1) S3
theorem Wn(e:h.get? a=aa (Am8 (!hJ w))):SetT w B h a []:=
 ⟨Am8 (!hJ w),#[],0,.fresh 0 0 (!hJ w),[],⟨e,⟨rfl,rfl,rfl⟩,rfl,Oe _,rfl,.nil,.nil⟩,.refl _⟩
set_option maxHeartbeats 4000000 in
theorem Nk{ce:Array aC}(hh:A.handled=ab)(hu:A.units+40<cLine)(hl:s.heap.IsList l ce)
  (hd:∀ (j:Nat) v,ce[j]?=aa v->∃ b q,v=.ref b/\kss[j]?=aa q/\Ac4 s.heap q b/\B q b) (ax:(gG kss).length≤4900) (Y':kss.length=ce.size)
  (h:∀ (h':aZ) (tk:Nat),s.toks≤tk->SetT w B h' s.heap.objs.size (gG kss)->(∀ b o,b<s.heap.objs.size->s.heap.get? b=aa o->h'.get? b=aa o)->Q (.ref s.heap.objs.size) { s with heap:=h',toks:=tk }) :
  aJ (aO prog w) A (call (.type "set") [.ref l]) Q E s:=by
 obtain⟨c,tl,Zy⟩:=uZ.mro;have Tk:=uZ.made;have g8:=uZ.sub;refine wpAny_call (codeAny_of_tree (show aJ _ _ (callAny (.type "set") _) _ _ _ from ?_))
 refine aQ ⟨Code.quiet_builtin _ (by rw[0]),pE F.entry_type_call ?_⟩
 rw[Around.under_plain (weight_type_call_type "set" [.ref l] []) rfl];have z1:=uZ.notType;have z2:=uZ.canCreate;have z3:=F.typeCall_set_1 (.ref l)
 repeat (any_goals (first|assumption|wp_step))
 refine GO (Re (.ref l) (E:=E) (Q₁:=fun u s₁=>u=.ref s.heap.objs.size/\s₁={ s with heap:=s.heap.push (Am8 (!hJ w)) }) ⟨rfl,rfl⟩) fun r s₁ hr=>?_
 match r,hr with
 |.error e,hr=>exact hr
 |.ok (.ret u),hr=>
  obtain⟨rfl,rfl⟩:=hr;generalize J2:(!hJ w)=led;have gS:(s.heap.push (Am8 led)).get? s.heap.objs.size=aa (Am8 led):=eJ _ rfl;have hT:Shared.TypeIs { s with heap:=s.heap.push (Am8 led) } (.ref s.heap.objs.size) "set":=⟨_,gS,rfl⟩;have y1:=uZ.init.lookup;have y2:=uZ.init.bind (.ref s.heap.objs.size)
  repeat (any_goals (first|assumption|wp_step))
  refine GO (codeAny_call_builtin (R:=wants (fun r s₂=>r=.none/\∃ h' tk,s.toks≤tk/\s₂={ s with heap:=h',toks:=tk }/\SetT w B h' s.heap.objs.size (gG kss)/\(∀ b o,b<s.heap.objs.size->s.heap.get? b=aa o->h'.get? b=aa o)) E) uZ.init.plain F.entry_set_init (check_set_init_1 hT ?_)) fun r₂ s₂ ku=>?_
  ·obtain⟨ol,gl,cl,nl,dl⟩:=hl;obtain⟨Zz,yz,Tm,vf⟩:=ol;simp only at cl dl;subst cl;subst dl;have ZB:(s.heap.push (Am8 led)).get? l=aa { cls:=.type "list",dict:=yz,data:=.seq ce nl,slots:=vf }:=cL _ gl;have x1:=F.sub_list_set;have x2:=F.sub_list_frozenset;have x3:(jA "list" == jA "dict")=af:=by decide
   have L1:(s.heap.push (Am8 led)).IsList l ce:=⟨_,ZB,rfl,nl,rfl⟩;unfold Builtin.«set.__init__» noKeywords Builtin.Frozenset.updateFrom;generalize Z0:pC=PI
   wp_walk
   subst Z0;refine NG L1 (aF (wpAny_runValue ?_));have lS:l<s.heap.objs.size:=cC gl;have hI:(s.heap.push (Am8 led)).objs.size=s.heap.objs.size+1:=qJ _ _;have nI:l≠(s.heap.push (Am8 led)).objs.size:=by rw[hI];exact dM (pF lS)
   have nS:s.heap.objs.size∉[(s.heap.push (Am8 led)).objs.size,l]:=by
    intro z;rw[hI] at z;rcases eD.mp z with z|z
    ·exact absurd z (dM (xS _))
    ·exact absurd (eB.mp z) (jU lS)
   have gI:((s.heap.push (Am8 led)).push { cls:=.type "list_iterator",data:=.fields #[.ref l,.int 0 0] }).get? s.heap.objs.size=aa (Am8 led):=cL _ gS;refine Xd (w:=w) (B:=B) ((Walks.list (by simp[hh]) _ l nI ce).toS) (by show A.units+1+1+30<cLine;omega) s.heap.objs.size nS kss ax (fun i s1 st c hc o e z=>?_) (ce.size-0) 0 _ rfl (dU _) ⟨⟨_,eJ _ rfl,rfl,rfl⟩,L1.push _⟩ (Wn (by rw[J2];exact gI)) (fun j v e=>?_) fun s' hm S'=>?_
   ·obtain⟨⟨o',g',c',_⟩,_⟩:=st;rw[eB.mp hc,g'] at e;rw[30];rw[c'] at z;exact absurd z (by decide)
   ·obtain⟨b,q,q1,q2,q3,q4⟩:=hd j v e;exact⟨b,q,q1,q2,q3.keep fun b o vs m z _ _=>cL _ (cL _ z),q4⟩
   ·obtain⟨h',g',d',qt,uw⟩:=s';obtain rfl:g'=s.gens:=hm.gens;obtain rfl:d'=s.drawn:=hm.drawn;obtain rfl:uw=s.os:=hm.os;show aJ _ _ _ _ _ _;refine aQ ?_;show aJ _ _ (ret cZ) _ _ _;refine aQ ⟨rfl,h',qt,hm.toks,rfl,by rw[← Ci (l:=kss),Y'];exact S',fun b o hb e=>?_⟩
    refine hm.heap b o (fun z=>?_) (cL _ (cL _ e))
    rw[hI] at z;rcases eD.mp z with z|z
    ·exact absurd z (dM hb)
    ·exact absurd (eB.mp z) (dM (pF hb))
  ·match r₂,ku with
   |.error e,ku=>exact ku
   |.ok (.ret v),ku=>
    obtain⟨rfl,h',tk,ht,rfl,S',dh⟩:=ku
    repeat (any_goals (first|assumption|wp_step))
    exact h _ _ ht S' dh
abbrev O0 (a:aD)(o:bJ):HO:=.ext fun h=>h.get? a=aa o
abbrev Refs (H:Hp)(ys:List V)(kss:List (List aA)):Prop:=fE (fun y k=>∃ b,y=V.ref b/\Asj H k b) ys kss
theorem RQ:∀ {kss:List (List aA)} {ys:List V},(∀ ks∈kss,cA ks=ae/\bX ks≤6)->Aax K H (kss.map iF) ys->Refs H ys kss
 |[],ys,_,r=>by rw[Aat.mp r];exact .nil
 |k::kss,ys,hk,r=>by
  obtain⟨v,t,rfl,r1,r2⟩:=Aal.mp r;obtain⟨b,rfl,tk⟩:=r1.tupK (hk k cF).1 (hk k cF).2;exact .cons ⟨b,rfl,tk⟩ (RQ (fun x m=>hk x (cS _ m)) r2)
theorem Refs.le {H':Hp}(x:∀ c zs,H c=aa (.tup zs)->H' c=aa (.tup zs))(r:Refs H ys kss):Refs H' ys kss:=qO (fun y k ⟨b,e,t⟩=>⟨b,e,t.keep x⟩) r
instance memK (k:aP)(ai:List aP):Decidable (k∈ai):=decidable_of_iff (ai.any (fun x=>decide (x=k))=ae) (by simp[HN])
theorem RH {α:Type}{l:List α}(h:i<l.length):(l[i]::l.eraseIdx i).Perm l:=by
 rw[List.eraseIdx_eq_take_drop_succ];refine List.perm_middle.symm.trans ?_;have:l.take i++l[i]::l.drop (i+1)=l:=by
  rw[← CA h,mY]
 rw[this]
theorem Bd {α:Type}(f:Nat->Nat):∀ (n k:Nat) (l:List α) (out:Array α),l.length=n->(pickOrder.go f n k l out).toList.Perm (out.toList++l)
 |0,k,l,out,h=>by
  have:l=[]:=Zp.mp h;rw[25];show out.toList.Perm _;simp
 |n+1,k,l,out,h=>by
  have hi:f k%l.length<l.length:=xQ _ (by omega)
  unfold pickOrder.go;rw[eW hi];rw[13];refine(Bd f n (k+1) _ _ (by rw[Zo hi];omega)).trans ?_
  rw[CF,mF];exact(RH hi).append_left _
theorem Yl {α:Type}(f:Nat->Nat)(xs:Array α):(pickOrder f xs).toList.Perm xs.toList:=by
 have:=Bd f xs.size 0 xs.toList #[] (by simp)
 simpa [pickOrder] using this
def n6 (w:bH)(a:aD)(ep:Nat)(es:Array (Int×aC)):List (Int×aC):=if hJ w=ae then(pickOrder (w.params.setOrder a ep) es).toList else es.toList
theorem UA (w:bH)(a:aD)(ep:Nat)(es:Array (Int×aC)):(n6 w a ep es).Perm es.toList:=by
 unfold n6;split
 ·exact Yl _ _
 ·exact .refl _
theorem DZ (w:bH)(a:aD)(ep:Nat)(es:Array (Int×aC)):(n6 w a ep es).length=es.size:=by
 rw[(UA w a ep es).length_eq,jE]
def slotAt (w:bH)(t:fJ):Nat->Nat
 |0=>0
 |i+1=>if hJ w=ae then 0 else t.place.getD i 0+1
theorem KY (w:bH)(t:fJ)(i:Nat):slotAt w t (i+1)=if hJ w=ae then 0 else t.place.getD i 0+1:=rfl
theorem Nx{t:fJ}(hr:nC t.place)(hb:hJ w=af)(hi:i≤t.place.size):below t.place (slotAt w t i)=i:=by
 obtain⟨b1,b2,b3⟩:=FG hr (slotAt w t i);cases i with
 |zero=>
  rcases Nat.eq_zero_or_pos (below t.place (slotAt w t 0)) with e|e
  ·exact e
  ·have:=b2 0 e (t.place[0]'(by omega)) (lJ _)
   exact absurd this (by simp[slotAt])
 |succ i=>
  have hv:t.place[i]?=aa (t.place[i]'(by omega)):=lJ _
  have es:slotAt w t (i+1)=t.place[i]'(by omega)+1:=by
   rw[KY,if_neg (by rw[hb];simp)]
   simp[Array.getD,show i<t.place.size by omega]
  rw[es] at b1 b2 b3 ⊢;rcases GY (below t.place (t.place[i]'(by omega)+1)) (i+1) with c|c|c
  ·have:=b3 i (by omega) _ hv
   omega
  ·exact c
  ·have Ty:t.place[i+1]?=aa (t.place[i+1]'(by omega)):=lJ _
   have h1:=b2 (i+1) c _ Ty;have h2:=hr i (i+1) _ _ (by omega) hv Ty
   omega
section
variable {r:aD}{t:fJ}
theorem SK (S:WSet w s.heap a o es ep t)(gj:hJ w=af->(!t.plain&&decide (es.size > 1))=af)(hi:i≤es.size){Q:Option (aC×Nat)->aH->Prop}
  (q:Q (((n6 w a ep es)[i]?).map fun e=>(e.2,slotAt w t (i+1))) s):aJ (aO prog w) A (setNext a (slotAt w t i) i ep) Q E s:=by
 unfold setNext;rw[8];unfold setsByText;refine aF (aF (BB (aQ ?_)));by_cases hb:hJ w=ae
 ·refine pB (fun _=>?_) (fun z=>absurd hb z)
  rw[if_neg (by simp)]
  rw[22];unfold setWalk;rw[8];unfold setsByText;refine aF (aF (BB (aQ ?_)));refine pB (fun _=>?_) (fun z=>absurd hb z)
  refine aF (BB (aQ (aQ ?_)));have e1:n6 w a ep es=(pickOrder (w.params.setOrder a ep) es).toList:=by unfold n6;rw[if_pos hb]
  have e2:∀ j,slotAt w t j=0:=fun j=>by
   cases j with
   |zero=>rfl
   |succ j=>rw[KY,if_pos hb]
  rw[e1,e2 (i+1),lX] at q;rw[e2 i];exact q
 ·refine pB (fun z=>absurd z hb) (fun _=>?_)
  have qu:hJ w=af:=by simpa using hb
  refine pB (fun z=>?_) (fun _=>?_)
  ·have z':(!t.plain&&decide (es.size > 1))=ae:=z;rw[gj qu] at z';cases z'
  ·refine aF (show aJ _ _ (if (!t.led&&!es.isEmpty)=ae then unsupported "set:maker-not-led" else pure ()) _ _ _ from ?_)
   rw[if_neg (by rw[S.led,qu];simp)]
   refine aQ (aQ ?_);have e1:n6 w a ep es=es.toList:=by unfold n6;rw[if_neg hb]
   have hz:=S.fine.good.len;have e3:below t.place (slotAt w t i)=i:=Nx S.fine.good.ris qu (by omega)
   rw[e1,lX] at q;rw[e3];by_cases c:i<es.size
   ·have p1:es[i]?=aa (es[i]'c):=lJ _;have p2:t.place[i]?=aa (t.place[i]'(by omega)):=lJ _
    have p3:slotAt w t (i+1)=t.place[i]'(by omega)+1:=by
     rw[KY,if_neg hb];simp[Array.getD,show i<t.place.size by omega]
    rw[p1,p3] at q;rw[p1,p2];exact q
   ·have p1:es[i]?=ab:=PC (by omega)
    rw[p1] at q;rw[p1];exact q
abbrev vL (h:aZ)(r a:aD)(k i n ep:Nat):Prop:=h.get? r=aa { cls:=.type "set_iterator",dict:=ab,data:=.fields #[dZ k,dZ i,.ref a,dZ n,dZ ep],slots:=#[] }
end
theorem Abb:PySem.Slot "set_iterator" "__next__" "set_iterator.__next__":=
 .of (owner:="set_iterator") (n:="__next__") (by rw[GJ,GP];kernel_rfl) (by rw[0]) (by rw[0]) (by rw[0])
  (by first|exact .inl (by rw[0])|exact .inr (by rw[0])) (by rw[isSubtype_type];kernel_rfl)
theorem FT:entryFor table "set_iterator.__next__" = aa Builtin.«set_iterator.__next__»:=entryFor_of_tree (by kernel_rfl)
theorem UT:Manifest.owners.lookup (String.ofList "set_iterator".toList.reverse.reverse)=aa Manifest.sig_set_iterator:=by kernel_rfl
theorem FS (a:aC):argsOk "set_iterator.__next__" ⟨[a],[]⟩:=by
 unfold argsOk;rw[signature?_of (id:="set_iterator.__next__") (n:="__next__".toList.reverse) (o:="set_iterator".toList.reverse) (by kernel_rfl) UT]
 kernel_rfl
theorem FP:PySem.Slot "set_iterator" "__iter__" "set_iterator.__iter__":=
 .of (owner:="set_iterator") (n:="__iter__") (by rw[GJ,GP];kernel_rfl) (by rw[0]) (by rw[0]) (by rw[0])
  (by first|exact .inl (by rw[0])|exact .inr (by rw[0])) (by rw[isSubtype_type];kernel_rfl)
theorem YU:entryFor table "set_iterator.__iter__" = aa Builtin.«dict_keyiterator.__iter__»:=
 entryFor_alias (id':="dict_keyiterator.__iter__") (by kernel_rfl) (by first|rfl|decide +kernel|(unfold String.splitOn;simp +decide [String.splitOnAux])) (by rw[0]) (by kernel_rfl)
theorem YT (a:aC):argsOk "set_iterator.__iter__" ⟨[a],[]⟩:=by
 unfold argsOk;rw[signature?_of (id:="set_iterator.__iter__") (n:="__iter__".toList.reverse) (o:="set_iterator".toList.reverse) (by kernel_rfl) UT]
 kernel_rfl
theorem YS:entryFor table "set.__iter__" = aa Builtin.«frozenset.__iter__»:=
 entryFor_alias (id':="frozenset.__iter__") (by kernel_rfl) (by first|rfl|decide +kernel|(unfold String.splitOn;simp +decide [String.splitOnAux])) (by rw[0]) (by kernel_rfl)
section
variable {r:aD}{t:fJ}
theorem Xi (S:WSet w s.heap a o es ep t)(gj:hJ w=af->(!t.plain&&decide (es.size > 1))=af)(hr:vL s.heap r a (slotAt w t i) i es.size ep){e:Int×aC}(he:(n6 w a ep es)[i]?=aa e){Q:Option aC->aH->Prop}
  (q:∀ h',vL h' r a (slotAt w t (i+1)) (i+1) es.size ep->oH r s.heap h'->Q (aa e.2) { s with heap:=h' }):aJ (aO prog w) A (iA (.ref r)) Q E s:=by
 have ty:s.TypeIs (.ref r) "set_iterator":=⟨_,hr,rfl⟩;have hi:i<es.size:=by
  rw[← DZ w a ep es];exact(dD.mp he).1
 unfold iA;refine aF (pY (nX (name:=kM "__next__") ty Abb (iY Abb ty FT ?_ (FS _))));show aJ _ _ (fieldsOf (.ref r)>>=_) _ _ s;refine aF (BA hr rfl ?_);show aJ _ _ (setEntries a>>=_) _ _ s;refine aF (AY S.get S.data S.fine.fits ?_);show aJ _ _ (if ((es.size:Int) != (es.size:Int))=ae then _ else _) _ _ s
 rw[if_neg (by simp)]
 show aJ _ _ (setNext a ((slotAt w t i:Int)).toNat ((i:Int)).toNat ((ep:Int)).toNat>>=_) _ _ s;rw[mH,mH,mH];refine aF (SK S gj (by omega) ?_)
 rw[he];show aJ _ _ (BD (.ref r) 0 (dZ (slotAt w t (i+1):Nat))>>=_) _ _ s;refine aF (nW hr (by simp) fun h1 g1 p5=>?_)
 refine aF (nW g1 (by simp) fun h2 g2 C2=>aQ ⟨e.2,rfl,aQ (q h2 ?_ (p5.trans C2))⟩)
 exact g2
theorem Ws (hh:A.handled=ab)(S:WSet w s.heap a o es ep t)(gj:hJ w=af->(!t.plain&&decide (es.size > 1))=af)(hr:vL s.heap r a (slotAt w t es.size) es.size es.size ep){Q:Option aC->aH->Prop}
  (q:∀ h',(∀ b ob,b≠r->s.heap.get? b=aa ob->h'.get? b=aa ob)->Q ab { s with heap:=h' }):aJ (aO prog w) A (iA (.ref r)) Q E s:=by
 have ty:s.TypeIs (.ref r) "set_iterator":=⟨_,hr,rfl⟩;unfold iA;refine aF (pY (nX (name:=kM "__next__") ty Abb (iY Abb ty FT ?_ (FS _))));show aJ _ _ (fieldsOf (.ref r)>>=_) _ _ s;refine aF (BA hr rfl ?_);show aJ _ _ (setEntries a>>=_) _ _ s;refine aF (AY S.get S.data S.fine.fits ?_);show aJ _ _ (if ((es.size:Int) != (es.size:Int))=ae then _ else _) _ _ s
 rw[if_neg (by simp)]
 show aJ _ _ (setNext a ((slotAt w t es.size:Int)).toNat ((es.size:Int)).toNat ((ep:Int)).toNat>>=_) _ _ s;rw[mH,mH,mH];refine aF (SK S gj (bZ _) ?_);rw[xY (by rw[DZ];exact bZ _)]
 show aJ _ _ (BD (.ref r) 2 cZ>>=_) _ _ s;refine aF (nW hr (by simp) fun h1 g1 p5=>?_)
 rw[22];simp only[newExc,newTuple];refine aF (mC ?_ (by size_fits))
 refine aF (m:=uK _ _) (GG (a:=cZ) (by first|rfl|(simp only[uK];rfl)) ?_)
 refine mC ?_ (by size_fits)
 simp only[raiseNew];refine aF (NJ ?_)
 first|rw[show A.in1.handled=ab from hh]|rw[hh]
 refine aF (aQ (ND ?_));refine aF (sM (T:="StopIteration") (b:=ae) ⟨_,eJ _ rfl,rfl⟩ GM ?_);exact aQ (q _ fun b ob ne e=>cL _ (cL _ ((p5.2 b ne).trans e)))
theorem Wx(hr:vL s.heap r a k i n ep)(q:Q (.ref r) s):aJ (aO prog w) A (pC (.ref r)) Q E s:=by
 have ty:s.TypeIs (.ref r) "set_iterator":=⟨_,hr,rfl⟩;refine GE ty FP (iY FP ty YU ?_ (YT _));show aJ _ _ (ret (.ref r)) _ _ s;exact aQ ⟨_,rfl,"set_iterator",_,ty,Abb.lookup,q⟩
theorem Us (S:WSet w s.heap a o es ep t)(gj:hJ w=af->(!t.plain&&decide (es.size > 1))=af)
  (q:Q (.ref s.heap.objs.size) { s with heap:=s.heap.push { cls:=.type "set_iterator",data:=.fields #[dZ (0:Nat),dZ (0:Nat),.ref a,dZ (es.size:Nat),dZ (ep:Nat)] } }):aJ (aO prog w) A (pC (.ref a)) Q E s:=by
 have ty:s.TypeIs (.ref a) "set":=⟨_,S.get,S.exact.1⟩;refine GE ty OS (iY OS ty YS ?_ (F.args_set_iter_1 _));show aJ _ _ (OZ a>>=_) _ _ s;unfold OZ;refine aF (aF (AY S.get S.data S.fine.fits (aQ ?_)));rw[22];unfold setDrawn;rw[8];unfold setsByText;refine aF (aF (BB (aQ ?_)));refine aQ ?_;refine pB (fun z=>?_) (fun _=>aF (aQ ?_))
 ·have z':(!(w.params.followText "set-order")&&(!t.plain&&decide (es.size > 1)))=ae:=z;cases hb:hJ w with
  |true=>
   have qu:w.params.followText "set-order" = ae:=hb;rw[qu] at z';cases z'
  |false=>
   rw[gj hb] at z';simp at z'
 ·refine aF (wpAny_setEpoch_of S.get S.data S.fine.fits ?_);exact aF (mC (aQ ⟨_,rfl,"set_iterator",_,⟨_,eJ _ rfl,rfl⟩,Abb.lookup,q⟩) (by size_fits))
theorem Na (hh:A.handled=ab)(r a:aD)(ne:a≠r)(S:WSet w h0 a o es ep t)(gj:hJ w=af->(!t.plain&&decide (es.size > 1))=af) :
  Walks prog w A r [r,a] [r] es.size (fun i v=>∃ e,(n6 w a ep es)[i]?=aa e/\v=e.2) (fun i h=>vL h r a (slotAt w t i) i es.size ep/\h.get? a=aa o) where
 sub:=fun b hb=>by rw[eB.mp hb];exact cF
 frame:=fun _ _ _ st hk=>⟨hk r cF _ st.1,hk a (cS _ cF) _ st.2⟩
 item:=fun i s Q E hi st hQ=>by
  have S':WSet w s.heap a o es ep t:=⟨st.2,S.exact,S.data,S.fine,S.led⟩;have hx:(n6 w a ep es)[i]?=aa ((n6 w a ep es)[i]'(by rw[DZ];exact hi)):=eW _
  exact Xi S' gj st.1 hx fun h' ak sb=>hQ _ h' s.toks ⟨_,hx,rfl⟩ ⟨ak,(sb.2 a ne).trans st.2⟩ fun b o hb e=>(sb.2 b (fun z=>hb (eB.mpr z))).trans e
 done:=fun s Q E st hQ=>by
  have S':WSet w s.heap a o es ep t:=⟨st.2,S.exact,S.data,S.fine,S.led⟩;exact Ws hh S' gj st.1 fun h' he=>hQ h' s.toks fun b ob hb e=>he b ob (fun z=>hb (eB.mpr z)) e
 self:=fun _ _ _ _ st hQ=>Wx st.1 hQ
end
theorem RY{Q:Bool->aH->Prop}(ty:s.TypeIs (.ref a) "set")(q:Q af s):aJ (aO prog w) A (HR (.ref a)) Q E s:=by
 unfold HR;refine aF (xG ty F.slot_set_len.lookup ?_);generalize hid:("set.__len__" : String)=id0
 wp_delta
 rw[show splitId id0=aa ("set","__len__") from by subst hid;decide +kernel]
 subst hid;refine aF (sM (T:="set") (b:=ae) ty sub_set_self ?_);refine pB (fun lm=>absurd lm (by decide)) (fun _=>?_)
 refine pB (fun _=>?_) (fun lm=>absurd (by rw[0]) lm)
 refine aF (sL ty ?_);exact aQ q
set_option maxHeartbeats 4000000 in
theorem Pw{t:fJ}(hh:A.handled=ab)(S:WSet w s.heap a o es ep t)(gj:hJ w=af->(!t.plain&&decide (es.size > 1))=af){Q:List aC->aH->Prop}
  (q:∀ h' tk,s.toks≤tk->s.heap.objs.size<h'.objs.size->(∀ b ob,s.heap.get? b=aa ob->h'.get? b=aa ob)->Q ((n6 w a ep es).map (·.2)) { s with heap:=h',toks:=tk }):aJ (aO prog w) A (collect (.ref a)) Q E s:=by
 have aS:a<s.heap.objs.size:=cC S.get;unfold collect;refine aF (wpAny_runValue (pE F.entry_proto_collect ?_));rw[qM F.plain_proto_collect _];refine aF (show aJ _ A.in1 (newList []) _ _ s from mC ?_)
 refine aQ ⟨pZ OT _,pE F.entry_list_iadd ?_⟩;rw[qM OT _];generalize vg:s.heap.push { cls:=.type "list",data:=.seq ([]:List aC).toArray }=h1;have k1:∀ b ob,s.heap.get? b=aa ob->h1.get? b=aa ob:=fun b ob e=>by rw[← vg];exact cL _ e
 have z1:h1.objs.size=s.heap.objs.size+1:=by rw[← vg];exact qJ _ _
 have g1:h1.get? s.heap.objs.size=aa { cls:=.type "list",data:=.seq ([]:List aC).toArray }:=by rw[← vg];exact eJ _ rfl
 have S1:WSet w h1 a o es ep t:=⟨k1 _ _ S.get,S.exact,S.data,S.fine,S.led⟩;show aJ _ A.in1 (rK (.ref s.heap.objs.size) (.ref a) (.ref s.heap.objs.size)) _ _ _;unfold rK;refine aF (sL (T:="set") ⟨_,S1.get,S1.exact.1⟩ ?_);have n1:yG (.ref s.heap.objs.size) (.ref a)=af:=by simp[yG,jU aS]
 rw[if_neg (by rw[n1];decide)]
 refine aF (Us (s:={ s with heap:=h1 }) S1 gj ?_);show aJ _ _ _ _ _ { s with heap:=h1.push _ };generalize wS:h1.push { cls:=.type "set_iterator",data:=.fields #[dZ (0:Nat),dZ (0:Nat),.ref a,dZ (es.size:Nat),dZ (ep:Nat)] }=h2;have k2:∀ b ob,h1.get? b=aa ob->h2.get? b=aa ob:=fun b ob e=>by rw[← wS];exact cL _ e
 have gr:vL h2 h1.objs.size a (slotAt w t 0) 0 es.size ep:=by rw[← wS];exact eJ _ rfl
 have S2:WSet w h2 a o es ep t:=⟨k2 _ _ S1.get,S.exact,S.data,S.fine,S.led⟩;have ne:a≠h1.objs.size:=by rw[z1];exact dM (pF aS)
 show aJ _ _ (pD [.ref h1.objs.size] (HR (.ref a))>>=_) _ _ _;refine aF (iX (RY ⟨_,S2.get,S2.exact.1⟩ ?_));refine pB (fun _=>?_) (fun z=>absurd (by rw[0]) z)
 refine aF (lG ?_);refine aF (show aJ _ A.in1 (xI s.heap.objs.size (·.push .none)>>=fun _=>xI s.heap.objs.size (·.pop)) _ _ _ from ?_)
 refine aF (xF (k2 _ _ g1) rfl ?_);have y6:=qK (gK (·.push cZ)) (k2 _ _ g1) rfl;refine xF y6 rfl ?_;have J3:=qK (gK (·.pop)) y6 rfl;have uh:∀ b ob,b≠s.heap.objs.size->h2.get? b=aa ob->((h2.update s.heap.objs.size (gK (·.push cZ))).update s.heap.objs.size (gK (·.pop))).get? b=aa ob:=
  fun b ob hb e=>(sT _ _ (kP hb)).trans ((sT _ _ (kP hb)).trans e)
 have nS:s.heap.objs.size∉[h1.objs.size,a]:=by
  intro z;rcases eD.mp z with z|z
  ·rw[z1] at z;exact absurd z (dM (xS _))
  ·exact absurd (eB.mp z) (jU aS)
 have few:=S.fine.few;refine aQ ⟨pZ De _,Br ((Na (A:=A.in1) (by simp[hh]) h1.objs.size a ne S2 gj).toS) (by rw[mS];omega) _ nS _ es.size 0 _ _ _ rfl (dU _) ⟨uh _ _ (by rw[z1];exact Nat.succ_ne_self _) gr,uh _ _ (dM aS) S2.get⟩ J3 (ItemsOf.nil _) fun s' al c' hm nk gc=>?_⟩
 show aJ _ A (load s.heap.objs.size>>=_) _ _ s';refine aF (wpAny_load nk (aQ ?_));obtain⟨h',g',d',qt,uw⟩:=s';obtain rfl:g'=s.gens:=hm.gens;obtain rfl:d'=s.drawn:=hm.drawn;obtain rfl:uw=s.os:=hm.os;have vh:al.toList=(n6 w a ep es).map (·.2):=by
  apply BY;intro j;rw[fW,lX];by_cases hj:j<es.size
  ·have e1:al[j]?=aa (al[j]'(by rw[gc.1];exact hj)):=lJ _
   obtain⟨e,he,ev⟩:=gc.2 j _ e1;rw[e1,he,ev]
   rfl
  ·rw[PC (by rw[gc.1];omega),xY (by rw[DZ];omega)]
   rfl
 rw[vh];refine q h' qt hm.toks (cC nk) fun b ob e=>?_
 have hb:b<s.heap.objs.size:=cC e;refine hm.heap b ob (fun z=>?_) (uh b ob (dM hb) (k2 _ _ (k1 _ _ e)))
 rcases eD.mp z with z|z
 ·exact absurd z (dM hb)
 ·have z2:=eB.mp z;rw[z1] at z2;exact absurd z2 (dM (pF hb))
section
variable {r T:aD}{t:fJ}
theorem Ku {ye:Source}{Q:Nat->aH->Prop}(h0:n≠0)(q:∀ i d,i<n->Q i { s with drawn:=d }):aJ (aO prog w) A (choose ye n) Q E s:=fun Γ p hΓ=>by
 unfold choose;rw[Sem.wp_choose];exact⟨h0,q _ _ (xQ _ (Nat.pos_of_ne_zero h0))⟩
theorem Ot {α:Type}(n:Nat):∀ (xs:List α) {s:aH} {Q:List α->aH->Prop},xs.length=n->(∀ ys d,ys.Perm xs->Q ys { s with drawn:=d })->aJ (aO prog w) A (drawOrder n xs) Q E s:=by
 induction n with
 |zero=>
  intro xs s Q h q;have:xs=[]:=Zp.mp h;rw[25];unfold drawOrder;have:=q [] s.drawn (.refl _);exact aQ this
 |succ n ih=>
  intro xs s Q h q;cases xs with
  |nil=>simp at h
  |cons x xs=>
   unfold drawOrder;refine aF (Ku (by simp) fun i d hi=>?_)
   rw[eW hi];rw[13];refine aF (ih ((x::xs).eraseIdx i) (by rw[Zo hi];simp at h ⊢;omega) fun ys d' p=>aQ ?_)
   exact q _ d' ((p.cons _).trans (RH hi))
abbrev vT (h:aZ)(r T a:aD)(i n ep:Nat):Prop:=h.get? r=aa { cls:=.type "set_iterator",dict:=ab,data:=.fields #[.ref T,dZ i,.ref a,dZ n,dZ ep],slots:=#[] }
def wg (es:Array (Int×aC))(ps:List Nat):List (Int×aC):=ps.filterMap (es[·]?)
theorem SE(h:ps.Perm (dP es.size)):(wg es ps).Perm es.toList:=(h.filterMap _).trans (by rw[filterMap_getElem?_range])
theorem Mg(h:∀ p∈ps,p<es.size):∀ {i:Nat} {p:Nat},ps[i]?=aa p->(wg es ps)[i]?=es[p]?:=by
 intro i p hp;unfold wg;rw[MZ _ (fun k hk=>by rw[lJ (h k hk)];rfl),hp]
 rfl
theorem Ud (S:WSet w s.heap a o es ep t)(hT:∃ oT n,s.heap.get? T=aa oT/\oT.data=.seq (ps.map fun(i:Nat)=>dZ i).toArray n)(hr:vT s.heap r T a i es.size ep){p:Nat}(hp:ps[i]?=aa p){e:Int×aC}(he:es[p]?=aa e){Q:Option aC->aH->Prop}
  (q:∀ h',vT h' r T a (i+1) es.size ep->oH r s.heap h'->Q (aa e.2) { s with heap:=h' }):aJ (aO prog w) A (iA (.ref r)) Q E s:=by
 have ty:s.TypeIs (.ref r) "set_iterator":=⟨_,hr,rfl⟩;obtain⟨oT,nT,gT,dT⟩:=hT;unfold iA;refine aF (pY (nX (name:=kM "__next__") ty Abb (iY Abb ty FT ?_ (FS _))));show aJ _ _ (fieldsOf (.ref r)>>=_) _ _ s;refine aF (BA hr rfl ?_);show aJ _ _ (setEntries a>>=_) _ _ s;refine aF (AY S.get S.data S.fine.fits ?_);show aJ _ _ (if ((es.size:Int) != (es.size:Int))=ae then _ else _) _ _ s
 rw[if_neg (by simp)]
 show aJ _ _ (BE (.ref T)>>=_) _ _ s;refine aF (lF gT dT ?_);rw[13];rw[show((i:Int)).toNat=i from mH i]
 have e1:(ps.map fun(i:Nat)=>dZ i).toArray[i]?=aa (dZ p):=by simp[hp]
 rw[e1];show aJ _ _ (setNextDrawn a ((p:Int)).toNat ((ep:Int)).toNat>>=_) _ _ s;rw[mH,mH];unfold setNextDrawn;refine aF (aF (rB S.get S.data S.fine.fits ?_));rw[13];rw[if_neg (by simp),he]
 refine aQ ?_;refine aF (nW hr (by simp) fun h1 g1 p5=>aQ ⟨e.2,rfl,aQ (q h1 g1 p5)⟩)
theorem Wd (hh:A.handled=ab)(S:WSet w s.heap a o es ep t)(hT:∃ oT n,s.heap.get? T=aa oT/\oT.data=.seq (ps.map fun(i:Nat)=>dZ i).toArray n)(hl:ps.length=es.size)(hr:vT s.heap r T a es.size es.size ep){Q:Option aC->aH->Prop}
  (q:∀ h',(∀ b ob,b≠r->s.heap.get? b=aa ob->h'.get? b=aa ob)->Q ab { s with heap:=h' }):aJ (aO prog w) A (iA (.ref r)) Q E s:=by
 have ty:s.TypeIs (.ref r) "set_iterator":=⟨_,hr,rfl⟩;obtain⟨oT,nT,gT,dT⟩:=hT;unfold iA;refine aF (pY (nX (name:=kM "__next__") ty Abb (iY Abb ty FT ?_ (FS _))));show aJ _ _ (fieldsOf (.ref r)>>=_) _ _ s;refine aF (BA hr rfl ?_);show aJ _ _ (setEntries a>>=_) _ _ s;refine aF (AY S.get S.data S.fine.fits ?_);show aJ _ _ (if ((es.size:Int) != (es.size:Int))=ae then _ else _) _ _ s
 rw[if_neg (by simp)]
 show aJ _ _ (BE (.ref T)>>=_) _ _ s;refine aF (lF gT dT ?_);rw[13];rw[show((es.size:Int)).toNat=es.size from mH _]
 have e1:(ps.map fun(i:Nat)=>dZ i).toArray[es.size]?=ab:=by simp[hl]
 rw[e1];show aJ _ _ (BD (.ref r) 0 (dZ 0)>>=_) _ _ s;refine aF (nW hr (by simp) fun h0 g0 Z1=>?_)
 refine aF (nW g0 (by simp) fun h1 g1 p5=>?_)
 rw[22];simp only[newExc,newTuple];refine aF (mC ?_ (by size_fits))
 refine aF (m:=uK _ _) (GG (a:=cZ) (by first|rfl|(simp only[uK];rfl)) ?_)
 refine mC ?_ (by size_fits)
 simp only[raiseNew];refine aF (NJ ?_)
 first|rw[show A.in1.handled=ab from hh]|rw[hh]
 refine aF (aQ (ND ?_));refine aF (sM (T:="StopIteration") (b:=ae) ⟨_,eJ _ rfl,rfl⟩ GM ?_);exact aQ (q _ fun b ob ne e=>cL _ (cL _ ((p5.2 b ne).trans ((Z1.2 b ne).trans e))))
theorem Wt(hr:vT s.heap r T a i n ep)(q:Q (.ref r) s):aJ (aO prog w) A (pC (.ref r)) Q E s:=by
 have ty:s.TypeIs (.ref r) "set_iterator":=⟨_,hr,rfl⟩;refine GE ty FP (iY FP ty YU ?_ (YT _));show aJ _ _ (ret (.ref r)) _ _ s;exact aQ ⟨_,rfl,"set_iterator",_,ty,Abb.lookup,q⟩
abbrev qX (ps:List Nat):bJ:={ cls:=.type "tuple",data:=.seq (ps.map fun(i:Nat)=>dZ i).toArray }
theorem Nj (S:WSet w s.heap a o es ep t)(hb:hJ w=af)(hd:(!t.plain&&decide (es.size > 1))=ae)
  (q:∀ ps d,ps.Perm (dP es.size)->Q (.ref (s.heap.objs.size+1)) { s with heap:=(s.heap.push (qX ps)).push { cls:=.type "set_iterator",data:=.fields #[.ref s.heap.objs.size,dZ (0:Nat),.ref a,dZ (es.size:Nat),dZ (ep:Nat)] },drawn:=d }):aJ (aO prog w) A (pC (.ref a)) Q E s:=by
 have ty:s.TypeIs (.ref a) "set":=⟨_,S.get,S.exact.1⟩;refine GE ty OS (iY OS ty YS ?_ (F.args_set_iter_1 _));show aJ _ _ (OZ a>>=_) _ _ s;unfold OZ;refine aF (aF (AY S.get S.data S.fine.fits (aQ ?_)));rw[22];unfold setDrawn;rw[8];unfold setsByText;refine aF (aF (BB (aQ ?_)));refine aQ ?_;have qu:w.params.followText "set-order" = af:=hb;refine pB (fun _=>?_) (fun z=>absurd (show(!(w.params.followText "set-order")&&(!t.plain&&decide (es.size > 1)))=ae by rw[qu,hd];rfl) z)
 have few:=S.fine.few;refine aF (Ot es.size (dP es.size) (by simp) fun ps d hp=>?_)
 have hz:(ps.map fun(i:Nat)=>dZ i).toArray.size≤sizeLine:=by
  have:=hp.length_eq;rw[mS];simp at this ⊢;omega
 rw[22];simp only[newTuple];refine mC ?_ hz;have S1:WSet w (s.heap.push (qX ps)) a o es ep t:=⟨cL _ S.get,S.exact,S.data,S.fine,S.led⟩;refine aF (wpAny_setEpoch_of (s:={ s with heap:=s.heap.push (qX ps),drawn:=d }) S1.get S.data S.fine.fits ?_);refine aF (mC (aQ ⟨_,rfl,"set_iterator",_,⟨_,eJ _ rfl,rfl⟩,Abb.lookup,?_⟩) (by size_fits))
 have z1:(s.heap.push (qX ps)).objs.size=s.heap.objs.size+1:=qJ _ _;have:=q ps d hp;rw[← z1] at this;rw[29]
end
theorem Mj(h:ps.Perm (dP es.size)):(wg es ps).length=es.size:=by
 rw[(SE h).length_eq,jE]
theorem Nn{t:fJ}(hh:A.handled=ab)(r T a:aD)(ne:a≠r)(nT:T≠r)(S:WSet w h0 a o es ep t)(hp:ps.Perm (dP es.size)) :
  Walks prog w A r [r,a,T] [r] es.size (fun i v=>∃ e,(wg es ps)[i]?=aa e/\v=e.2) (fun i h=>vT h r T a i es.size ep/\h.get? a=aa o/\h.get? T=aa (qX ps)) where
 sub:=fun b hb=>by rw[eB.mp hb];exact cF
 frame:=fun _ _ _ st hk=>⟨hk r cF _ st.1,hk a (cS _ cF) _ st.2.1,hk T (cS _ (cS _ cF)) _ st.2.2⟩
 item:=fun i s Q E hi st hQ=>by
  have S':WSet w s.heap a o es ep t:=⟨st.2.1,S.exact,S.data,S.fine,S.led⟩;have hl:ps.length=es.size:=by simpa using hp.length_eq
  have hx:ps[i]?=aa (ps[i]'(by omega)):=eW _
  have bg:∀ p∈ps,p<es.size:=fun p m=>jB.mp (hp.mem_iff.mp m)
  have hy:es[ps[i]'(by omega)]?=aa (es[ps[i]'(by omega)]'(bg _ (qG _))):=lJ _
  exact Ud S' ⟨_,_,st.2.2,rfl⟩ st.1 hx hy fun h' ak sb=>hQ _ h' s.toks ⟨_,(Mg bg hx).trans hy,rfl⟩ ⟨ak,(sb.2 a ne).trans st.2.1,(sb.2 T nT).trans st.2.2⟩ fun b o hb e=>(sb.2 b (fun z=>hb (eB.mpr z))).trans e
 done:=fun s Q E st hQ=>by
  have S':WSet w s.heap a o es ep t:=⟨st.2.1,S.exact,S.data,S.fine,S.led⟩;exact Wd hh S' ⟨_,_,st.2.2,rfl⟩ (by simpa using hp.length_eq) st.1 fun h' he=>hQ h' s.toks fun b ob hb e=>he b ob (fun z=>hb (eB.mpr z)) e
 self:=fun _ _ _ _ st hQ=>Wt st.1 hQ
set_option maxHeartbeats 4000000 in
theorem Qy{t:fJ}(hh:A.handled=ab)(S:WSet w s.heap a o es ep t)(hb:hJ w=af)(hd:(!t.plain&&decide (es.size > 1))=ae){Q:List aC->aH->Prop}
  (q:∀ h' tk d ps,ps.Perm (dP es.size)->s.toks≤tk->s.heap.objs.size<h'.objs.size->(∀ b ob,s.heap.get? b=aa ob->h'.get? b=aa ob)->Q ((wg es ps).map (·.2)) { s with heap:=h',toks:=tk,drawn:=d }):aJ (aO prog w) A (collect (.ref a)) Q E s:=by
 have aS:a<s.heap.objs.size:=cC S.get;unfold collect;refine aF (wpAny_runValue (pE F.entry_proto_collect ?_));rw[qM F.plain_proto_collect _];refine aF (show aJ _ A.in1 (newList []) _ _ s from mC ?_)
 refine aQ ⟨pZ OT _,pE F.entry_list_iadd ?_⟩;rw[qM OT _];generalize vg:s.heap.push { cls:=.type "list",data:=.seq ([]:List aC).toArray }=h1;have k1:∀ b ob,s.heap.get? b=aa ob->h1.get? b=aa ob:=fun b ob e=>by rw[← vg];exact cL _ e
 have z1:h1.objs.size=s.heap.objs.size+1:=by rw[← vg];exact qJ _ _
 have g1:h1.get? s.heap.objs.size=aa { cls:=.type "list",data:=.seq ([]:List aC).toArray }:=by rw[← vg];exact eJ _ rfl
 have S1:WSet w h1 a o es ep t:=⟨k1 _ _ S.get,S.exact,S.data,S.fine,S.led⟩;show aJ _ A.in1 (rK (.ref s.heap.objs.size) (.ref a) (.ref s.heap.objs.size)) _ _ _;unfold rK;refine aF (sL (T:="set") ⟨_,S1.get,S1.exact.1⟩ ?_);have n1:yG (.ref s.heap.objs.size) (.ref a)=af:=by simp[yG,jU aS]
 rw[if_neg (by rw[n1];decide)]
 refine aF (Nj (s:={ s with heap:=h1 }) S1 hb hd fun ps d C3=>?_)
 show aJ _ _ _ _ _ { s with heap:=(h1.push (qX ps)).push _,drawn:=d };generalize wS:(h1.push (qX ps)).push { cls:=.type "set_iterator",data:=.fields #[.ref h1.objs.size,dZ (0:Nat),.ref a,dZ (es.size:Nat),dZ (ep:Nat)] }=h2;have k2:∀ b ob,h1.get? b=aa ob->h2.get? b=aa ob:=fun b ob e=>by rw[← wS];exact cL _ (cL _ e)
 have z2:(h1.push (qX ps)).objs.size=h1.objs.size+1:=qJ _ _;have gr:vT h2 (h1.objs.size+1) h1.objs.size a 0 es.size ep:=by rw[← wS,← z2];exact eJ _ rfl
 have gT:h2.get? h1.objs.size=aa (qX ps):=by rw[← wS];exact cL _ (eJ _ rfl)
 have gs:ps.length=es.size:=by simpa using C3.length_eq
 have S2:WSet w h2 a o es ep t:=⟨k2 _ _ S1.get,S.exact,S.data,S.fine,S.led⟩;have ne:a≠h1.objs.size+1:=by rw[z1];exact dM (pF (pF aS))
 show aJ _ _ (pD [.ref (h1.objs.size+1)] (HR (.ref a))>>=_) _ _ _;refine aF (iX (RY ⟨_,S2.get,S2.exact.1⟩ ?_));refine pB (fun _=>?_) (fun z=>absurd (by rw[0]) z)
 refine aF (lG ?_);refine aF (show aJ _ A.in1 (xI s.heap.objs.size (·.push .none)>>=fun _=>xI s.heap.objs.size (·.pop)) _ _ _ from ?_)
 refine aF (xF (k2 _ _ g1) rfl ?_);have y6:=qK (gK (·.push cZ)) (k2 _ _ g1) rfl;refine xF y6 rfl ?_;have J3:=qK (gK (·.pop)) y6 rfl;have uh:∀ b ob,b≠s.heap.objs.size->h2.get? b=aa ob->((h2.update s.heap.objs.size (gK (·.push cZ))).update s.heap.objs.size (gK (·.pop))).get? b=aa ob:=
  fun b ob hb e=>(sT _ _ (kP hb)).trans ((sT _ _ (kP hb)).trans e)
 have nS:s.heap.objs.size∉[h1.objs.size+1,a,h1.objs.size]:=by
  intro z;rcases eD.mp z with z|z
  ·rw[z1] at z;exact absurd z (dM (pF (xS _)))
  ·rcases eD.mp z with z|z
   ·exact absurd z (jU aS)
   ·have z3:=eB.mp z;rw[z1] at z3;exact absurd z3 (dM (xS _))
 have few:=S.fine.few;refine aQ ⟨pZ De _,Br ((Nn (A:=A.in1) (by simp[hh]) (h1.objs.size+1) h1.objs.size a ne (dM (xS _)) S2 C3).toS) (by rw[mS];omega) _ nS _ es.size 0 _ _ _ rfl (dU _) ⟨uh _ _ (by rw[z1];exact jU (pF (xS _))) gr,uh _ _ (dM aS) S2.get,uh _ _ (by rw[z1];exact Nat.succ_ne_self _) gT⟩ J3 (ItemsOf.nil _) fun s' al c' hm nk gc=>?_⟩
 show aJ _ A (load s.heap.objs.size>>=_) _ _ s';refine aF (wpAny_load nk (aQ ?_));obtain⟨h',g',d',qt,uw⟩:=s';obtain rfl:g'=s.gens:=hm.gens;obtain rfl:d'=d:=hm.drawn;obtain rfl:uw=s.os:=hm.os;have vh:al.toList=(wg es ps).map (·.2):=by
  apply BY;intro j;rw[fW,lX];by_cases hj:j<es.size
  ·have e1:al[j]?=aa (al[j]'(by rw[gc.1];exact hj)):=lJ _
   obtain⟨e,he,ev⟩:=gc.2 j _ e1;rw[e1,he,ev]
   rfl
  ·rw[PC (by rw[gc.1];omega),xY (by rw[Mj C3];omega)]
   rfl
 rw[vh];refine q h' qt d' ps C3 hm.toks (cC nk) fun b ob e=>?_
 have xv:b<s.heap.objs.size:=cC e;refine hm.heap b ob (fun z=>?_) (uh b ob (dM xv) (k2 _ _ (k1 _ _ e)))
 rcases eD.mp z with z|z
 ·exact absurd z (dM xv)
 ·have z2:=eB.mp z;rw[z1] at z2;exact absurd z2 (dM (pF (pF xv)))
theorem Qo{t:fJ}(hh:A.handled=ab)(S:WSet w s.heap a o es ep t){Q:List aC->aH->Prop}
  (q:∀ h' tk d (i9:List (Int×aC)),i9.Perm es.toList->s.toks≤tk->s.heap.objs.size<h'.objs.size->(∀ b ob,s.heap.get? b=aa ob->h'.get? b=aa ob)->Q (i9.map (·.2)) { s with heap:=h',toks:=tk,drawn:=d }):aJ (aO prog w) A (collect (.ref a)) Q E s:=by
 by_cases c:hJ w=af/\(!t.plain&&decide (es.size > 1))=ae
 ·exact Qy hh S c.1 c.2 fun h' tk d ps hp h1 h2 h3=>q h' tk d _ (SE hp) h1 h2 h3
 ·refine Pw hh S (fun hb=>?_) fun h' tk h1 h2 h3=>q h' tk s.drawn _ (UA w a ep es) h1 h2 h3
  cases hz:(!t.plain&&decide (es.size > 1)) with
  |false=>rfl
  |true=>exact absurd ⟨hb,hz⟩ c
open PySem PySem.Spec PySem.W PyProof.Rows PySem.SetTable
theorem JU {α:Type}(xs:List α)(d:α):(dP xs.length).map (fun i=>xs.getD i d)=xs:=by
 apply Cv
 ·simp
 ·intro i h1 h2;simp at h1;simp[h1]
theorem Vz(p:qs.Perm kss)(h:jm kss=ae):jm qs=ae:=by
 unfold jm at h ⊢;rw[p.length_eq];by_cases h2:kss.length<2
 ·simp[h2]
 ·have h':(sameAll kss&&kss.all fun k=>(lM k).isSome)=ae:=by simpa [h2] using h
  obtain⟨h3,h4⟩:=kT.mp h';have h5:sameAll qs=ae:=gQ.mpr fun k m=>gQ.mpr fun k' m'=>gQ.mp (gQ.mp h3 k (p.mem_iff.mp m)) k' (p.mem_iff.mp m')
  have h6:(qs.all fun k=>(lM k).isSome)=ae:=gQ.mpr fun k m=>gQ.mp h4 k (p.mem_iff.mp m)
  rw[h5,h6];simp
theorem Ob(p:qs.Perm kss)(h:jm kss=ae):iR qs=iR kss:=zS h ((uB qs).trans p) (MD qs)
theorem Af {α β:Type}{R:α->β->Prop}{as:List α}{bs:List β}(h:fE R as bs)(x:α)(y:β):∀ p:List Nat,(∀ i∈p,i<as.length)->fE R (p.map fun i=>as.getD i x) (p.map fun i=>bs.getD i y)
 |[],_=>.nil
 |i::p,hi=>by
  refine .cons ?_ (Af h x y p fun j m=>hi j (cS _ m))
  have bg:=hi i cF;obtain⟨b,hb,r⟩:=vX h (eW bg);have e1:as.getD i x=as[i]:=by simp[bg]
  have e2:bs.getD i y=b:=by simp[hb]
  show R (as.getD i x) (bs.getD i y);rw[e1,e2];exact r
def v8 (kss:List (List aA))(ys:List V)(k:List aA)(b:aD):Prop:=∃ i:Nat,kss[i]?=aa k/\ys[i]?=aa (V.ref b)
def QN (w:bH)(kss:List (List aA))(ys:List V)(o:bJ)(ls:List (List aA)):Prop:=∃ es ep t ks,o.ExactSet/\o.data=.set es ep t/\Fine t es/\t.led=(!hJ w)/\fE (fun(e:Int×aC) k=>∃ b,e.2=.ref b/\e.1=eM w (.tuple k)/\v8 kss ys k b) es.toList ks/\ks.Nodup/\ks.Perm ls
theorem Zc{σ:List (Option V)}{d:Drawn}(I:Inv X ad σ H s):Inv X ad σ H { s with drawn:=d }:=⟨I.ok,I.os,I.bare,I.base,I.loc,I.cell,I.free,I.freeC,I.pin,I.hok,I.len⟩
theorem Pj (hc:X.calm=ae)(hu:X.A.units+40<cLine):Aet X (.type "set") (fun xs H Q=>∃ p ys kss,xs=[.ref p]/\SqL X.K H p ys/\Refs H ys kss/\(gG kss).length≤4900/\∀ a o,H a=ab->QN X.w kss ys o (gG kss)->Q (.ref a) (aq H a (O0 a o))):=by
 rw[5];obtain⟨p,ys,kss,rfl,hp,rf,hl,q⟩:=h;rw[18];obtain⟨its,rv,pl,_⟩:=I.list hp;have e1:=rv.length;have e2:=mX rf;refine Nk (B:=v8 kss ys) (kss:=kss) (I.ok.hd hc) hu pl.isList (fun j v ev=>?_) hl (by rw[fP];omega) fun h' tk ht S' hk=>?_
 ·have TD:its[j]?=aa v:=by simpa using ev
  obtain⟨y,hy,ry⟩:=JH rv TD;obtain⟨k,hk,b,rfl,tk⟩:=vX rf hy;cases ry;exact⟨b,k,rfl,hk,pR I.hok tk,j,hk,hy⟩
 ·obtain⟨o,es,ep,t,ir,Z,pm⟩:=S';have I':=I.laid (t':=tk) (h':=h') (o:=O0 s.heap.objs.size o) (fun b u e=>hk b u (cC e) e) (bZ _) (show Adl X.prog X.w _ _ _ (.ext _) from⟨Z.get,⟨o,Z.get⟩,fun _ _ e k=>k _ e⟩)
  exact⟨.ref s.heap.objs.size,_,I',rfl,q _ o I.fresh ⟨es,ep,t,ir,Z.exact,Z.data,Z.fine,Z.led,qO (fun e k ⟨b,q1,q2,_,q4⟩=>⟨b,q1,q2,q4⟩) Z.els,Z.nod,pm⟩⟩
theorem Bb:∀ {ds:List aA} {kss:List (List aA)},kW ds=aa kss->ds=kss.map iF/\∀ k∈kss,cA k=ae/\bX k≤6
 |[],kss,e=>by cases e;exact⟨rfl,by simp⟩
 |d::ds,kss,e=>by
  cases d with
  |tuple ks=>
   have e:(if cA ks=ae/\bX ks≤6 then(kW ds).bind fun kss=>aa (ks::kss) else ab)=aa kss:=e
   by_cases hk:cA ks=ae/\bX ks≤6
   case neg=>rw[if_neg hk] at e;cases e
   rw[if_pos hk] at e;obtain⟨Z3,e1,e2⟩:=av e;cases e2;obtain⟨h1,h2⟩:=Bb e1;refine⟨by rw[h1];rfl,fun k m=>?_⟩
   rw[16]
   ·exact hk
   ·exact h2 k m
  |_=>cases e
theorem Bc(r:Aax K H (kss.map iF) ys):∀ {zs:List V} {qs:List (List aA)},fE (fun z k=>∃ b,z=V.ref b/\v8 kss ys k b) zs qs->Aax K H (qs.map iF) zs
 |_,_,.nil=>Aat.mpr rfl
 |_,k::_,.cons ⟨b,e,i,h1,h2⟩ t=>by
  refine Aal.mpr ⟨_,_,rfl,?_,Bc r t⟩;have h3:(kss.map iF)[i]?=aa (.tuple k):=by rw[fW,h1];rfl
  obtain⟨v,hv,rv⟩:=r.get h3;rw[h2] at hv;cases hv;rw[e];exact rv
theorem Qj {k k':List aA}{b:aD}{as nn:List aD}{P:NP->aH->Prop}(ra:lH s.heap (.ref a) (.tuple k) as)(rb:lH s.heap (.ref b) (.tuple k') nn)(hs:fL k k'=ae)(h:P (.done (.ret (.bool (decide (cG k<cG k'))))) s) :
  aJ (aO prog w) A (Builtin.«tuple.__lt__» ⟨[.ref a,.ref b],[]⟩) P E s:=by
 obtain⟨_,o,xs,n,z,ho,hc,hd,hr⟩:=mP ra;cases z;obtain⟨_,o',ys,n',z,m8,gx,kg,ui⟩:=mP rb;cases z;have hsz:xs.size=ys.size:=by
  have l1:=tZ hr;have l2:=tZ ui;have ll:=zQ hs;simp only[jE] at l1 l2;omega
 have ty:s.TypeIs (.ref b) "tuple":=⟨_,m8,gx⟩;show aJ _ _ (isInstance (.ref b) (.type "tuple")>>=_) _ _ s;refine aF (sM ty isSubtype_tuple_tuple ?_);rw[23];refine aF (Bn ho hd ?_);refine aF (Bn m8 kg ?_);rw[22];refine AZ _
  (fun rest r s'=>r.1=ab/\s'=s/\∃ q q' jk ym bs t5,rest=List.zip jk ym/\mW s.heap jk q bs/\mW s.heap ym q' t5/\fL q q'=ae/\decide (cG q<cG q')=decide (cG k<cG k'))
  _ ?_ ?_ _ _ ⟨rfl,rfl,k,k',xs.toList,ys.toList,_,_,rfl,hr,ui,hs,rfl⟩
 ·rintro⟨u,v⟩ rest r s' ⟨J4,rfl,q,q',jk,ym,bs,t5,hz,h1,h2,hq,og⟩;cases h1 with
  |nil=>simp at hz
  |cons r1 r2=>
   cases h2 with
   |nil=>simp at hz
   |cons t6 wx=>
    simp only[BP,List.cons.injEq,Prod.mk.injEq] at hz;obtain⟨⟨rfl,rfl⟩,rfl⟩:=hz;cases r1 with
    |int x t=>
     cases t6 with
     |int y t'=>
      refine aF ((hW prog w).eqBool (a:=.inl x) (b:=.inl y) (AE _ _ x t) (AE _ _ y t') ?_);refine pB (fun z=>?_) fun z=>?_
      ·have e:x≠y:=fun q=>by simp[q] at z
       refine aF (lG (aF (show aJ _ _ (kC .Lt (.int x t) (.int y t')) _ _ _ from lt_int ?_)))
       have:decide (cG k<cG k')=decide (x<y):=by
        rw[← og,decide_eq_decide,EG];simp[e]
       rw[this] at h;exact aF (aQ (aQ (aQ h)))
      ·have e:x=y:=by simpa using z
       subst e;refine aQ ⟨rfl,rfl,_,_,_,_,_,_,rfl,r2,wx,by simpa [fL] using hq,?_⟩
       rw[← og,decide_eq_decide,EG];simp
     |_=>simp[fL] at hq
    |str x t=>
     cases t6 with
     |str y t'=>
      refine aF ((hW prog w).eqBool (a:=.inr x) (b:=.inr y) (AA _ _ x t) (AA _ _ y t') ?_);refine pB (fun z=>?_) fun z=>?_
      ·have e:x≠y:=fun q=>by simp[q] at z
       refine aF (lG (aF (show aJ _ _ (kC .Lt (.str x t) (.str y t')) _ _ _ from lt_str ?_)))
       have:decide (cG k<cG k')=decide (x.cps.toList<y.cps.toList):=by
        rw[← og,decide_eq_decide,DU];simp[e]
       rw[this] at h;exact aF (aQ (aQ (aQ h)))
      ·have e:x=y:=by simpa using z
       subst e;refine aQ ⟨rfl,rfl,_,_,_,_,_,_,rfl,r2,wx,by simpa [fL] using hq,?_⟩
       rw[← og,decide_eq_decide,DU];have:¬ x.cps.toList<x.cps.toList:=List.lt_irrefl _;simp[this]
     |_=>simp[fL] at hq
    |_=>simp[fL] at hq
 ·rintro⟨r1,r2⟩ s' ⟨J4,rfl,q,q',jk,ym,bs,t5,hz,h1,h2,hq,og⟩;simp only at J4;subst J4;refine aQ ?_;have hf:decide (cG k<cG k')=af:=by
   rw[← og];cases h1 with
   |nil=>
    cases h2 with
    |nil=>rfl
    |cons _ _=>simp[fL] at hq
   |cons _ _=>
    cases h2 with
    |nil=>simp[fL] at hq
    |cons _ _=>simp at hz
  rw[hf] at h;show P (.done (.ret (.bool (decide (xs.size<ys.size))))) s';rw[decide_eq_false (by omega)]
  exact h
theorem Gu {k k':List aA}{b:aD}(hu:A.units<cLine)(ha:Ac4 s.heap k a)(hb:Ac4 s.heap k' b)(hs:fL k k'=ae)(h:Q (.bool (decide (cG k<cG k'))) s) :
  aJ (aO prog w) A (kC .Lt (.ref a) (.ref b)) Q E s:=by
 obtain⟨_,_,as,ra⟩:=ha;obtain⟨_,_,nn,rb⟩:=hb;show aJ _ _ (richCompare .Lt (.ref a) (.ref b)) Q E s;exact wpAny_richCompare_same_room (op:=.Lt) (MO ra) (MO rb) PySem.F.slot_tuple_lt (iY PySem.F.slot_tuple_lt (MO ra) PySem.F.entry_tuple_lt (Qj ra rb hs ⟨_,rfl,(fun e=>nomatch e),h⟩) (PySem.F.args_tuple_lt_2 _ _)) hu
abbrev QA:R2:=fun x y H Q=>∃ a b k k',x=.ref a/\y=.ref b/\Asj H k a/\Asj H k' b/\fL k k'=ae/\Q (.bl (decide (cG k<cG k'))) H
theorem Gz (hu:X.A.units<cLine):OpR X (kC .Lt) QA:=by
 rw[3];obtain⟨a,b,k,k',rfl,rfl,ta,tb,hs,q⟩:=h;cases rx;cases ry;exact Gu hu (pR I.hok ta) (pR I.hok tb) hs (IQ I q rfl)
def yK:aA->aA->Option aA
 |.tuple k,.tuple k'=>if (cA k=ae/\bX k≤6)/\(cA k'=ae/\bX k'≤6)/\fL k k'=ae then aa (.bool (decide (cG k<cG k'))) else ab
 |d,d'=>f9 d d'
theorem Kp:m5 K 0 (fun x y H Q=>(ql (fun i j=>.bl (decide (i<j))) x y H Q\/∃ i j,x=.str i/\y=.str j/\Q (.bl (decide (i.cps.toList<j.cps.toList))) H)\/QA x y H Q) yK:=fun P H x y a b d Q hP ra rb e k=>by
 unfold yK at e;split at e
 ·obtain⟨⟨h1,h2,h3⟩,rfl⟩:=dX e;obtain⟨p,rfl,tp⟩:=ra.tupK h1.1 h1.2;obtain⟨q,rfl,tq⟩:=rb.tupK h2.1 h2.2;exact .inr ⟨p,q,_,_,rfl,rfl,tp.keep fun c zs e=>Aaz _ _ e,tq.keep fun c zs e=>Aaz _ _ e,h3,k.zero Ext.refl (Aa3.mpr rfl)⟩
 ·exact .inl (IW P H x y a b d Q hP ra rb e k)
open PySem PyProof.Rows
section
variable {κ:gX}
def iQ (prog:bS)(w:bH)(A:cD)(s:aH)(κ:gX)(kd:oB):Prop:=
 ∀ (x y:aC) (a b:κ.α) (E:aC->aH->Prop) (Q:Bool->aH->Prop),κ.keyOf x=aa a->κ.keyOf y=aa b->Q (κ.blt a b) s->aJ (aO prog w) A (keyLt' kd x y) Q E s
structure TB (kd:oB)(a₀:Array aW)(st:bT):Prop where
 perm:(bC st).Perm a₀
 kind:kindOf st=kd
 failed:sN st=ab
theorem TB.size(h:TB kd a₀ st):(bC st).size=a₀.size:=h.perm.size_eq
theorem TB.setArr(h:TB kd a₀ st)(hp:xs.Perm (bC st)):TB kd a₀ (GT st xs):=⟨hp.trans h.perm,h.kind,h.failed⟩
def ky (κ:gX)(p:aW):κ.α:=(κ.keyOf p.1).getD κ.dflt
theorem AS(h:xs[i]?=aa p):KK κ xs i=ky κ p:=by unfold KK;rw[h];rfl
theorem IR (h0:KeysOf κ a₀)(m:p∈a₀.toList):κ.keyOf p.1=aa (ky κ p):=by
 obtain⟨a,e⟩:=h0 p m;unfold ky;rw[e]
 rfl
theorem zI {x y:aW}{Q:Option Bool->bT->Prop}(hC:iQ prog w A s κ kd)(hk:kindOf st=kd)(hx:κ.keyOf x.1=aa (ky κ x))(hy:κ.keyOf y.1=aa (ky κ y))(h:Q (aa (κ.blt (ky κ x) (ky κ y))) st) :
  cP (aO prog w) A E s (lt' x y) Q st:=by
 rw[lt'_eq];refine bK (pW ?_);rw[hk];refine bK (uH (pY (hC _ _ _ _ _ _ hx hy ⟨rfl,?_⟩)));exact cK h
theorem iN{Q:aW->bT->Prop}(e:arr[i]?=aa p)(h:Q p st):cP (aO prog w) A E s (kL arr i) Q st:=by
 rw[elem'_eq,e];exact cK h
theorem TB.mem(h:TB kd a₀ st)(hi:i<a₀.size):∃ p,(bC st)[i]?=aa p/\p∈a₀.toList:=by
 have ni:i<(bC st).size:=by rw[h.size];exact hi
 exact⟨(bC st)[i],getElem?_pos _ i ni,(yI.mp h.perm).mem_iff.mp (by simp)⟩
theorem zK{Q:Option Bool->bT->Prop}(hC:iQ prog w A s κ kd)(h0:KeysOf κ a₀)(hB:TB kd a₀ st)(hi:i<a₀.size)(hj:j<a₀.size)
  (h:Q (aa (κ.blt (KK κ (bC st) i) (KK κ (bC st) j))) st):cP (aO prog w) A E s (ltAt' i j) Q st:=by
 obtain⟨p,ep,mp⟩:=hB.mem hi;obtain⟨q,eq,mq⟩:=hB.mem hj;rw[AS ep,AS eq] at h;rw[ltAt'_eq];refine bK (pW ?_);exact bK (iN ep (bK (iN eq (zI hC hB.kind (IR h0 mp) (IR h0 mq) h))))
def fY (κ:gX)(xs:Array aW)(lo hi:Nat):Prop:=∀ i j,lo≤i->i≤j->j<hi->κ.kle (KK κ xs i) (KK κ xs j)
def mJ (κ:gX)(xs:Array aW)(lo hi:Nat):Prop:=∀ i j,lo≤i->i≤j->j<hi->κ.kle (KK κ xs j) (KK κ xs i)
structure Mv (kd:oB)(a₀:Array aW)(lo hi:Nat)(st ak:bT):Prop where
 tb:TB kd a₀ ak
 pend:cY ak=cY st
 out:∀ k,k<lo\/hi≤k->(bC ak)[k]?=(bC st)[k]?
theorem Mv.refl {lo hi:Nat}(h:TB kd a₀ st):Mv kd a₀ lo hi st st:=⟨h,rfl,fun _ _=>rfl⟩
theorem Mv.trans {lo hi:Nat}{s1 s2 s3:bT}(h:Mv kd a₀ lo hi s1 s2)(h':Mv kd a₀ lo hi s2 s3):Mv kd a₀ lo hi s1 s3:=⟨h'.tb,h'.pend.trans h.pend,fun k hk=>(h'.out k hk).trans (h.out k hk)⟩
theorem Mv.rev {lo hi:Nat}(h:TB kd a₀ st)(ni:lo≤i)(hj:j≤hi)(hh:hi≤a₀.size):Mv kd a₀ lo hi st (GT st (mirror (bC st) i j ((j-i)/2))):=by
 refine⟨h.setArr (mirror_perm _ _ _ _),rfl,fun k hk=>?_⟩
 show(mirror (bC st) i j ((j-i)/2))[k]?=_;rw[getElem?_mirror_all (by rw[h.size];omega),if_neg (by omega)]
theorem zG{Q:Unit->bT->Prop}(h:Q () (GT st (mirror (bC st) i j ((j-i)/2)))):cP (aO prog w) A E s (xK i j) Q st:=by
 rw[reverseSlice'_eq];exact uG h
theorem Wz{lo x:Nat}(h:fY κ xs lo x)(hx:lo<x)(hn:κ.kle (KK κ xs (x-1)) (KK κ xs x)):fY κ xs lo (x+1):=fun i j h1 h2 h3=>by
 by_cases hj:j<x
 ·exact h i j h1 h2 hj
 ·have sj:j=x:=by omega
  subst sj;by_cases hi:i=j
  ·subst hi;exact sS _
  ·exact kG (h i (j-1) h1 (by omega) (by omega)) hn
theorem EO{lo x:Nat}(h:mJ κ xs lo x)(hx:lo<x)(hn:κ.kle (KK κ xs x) (KK κ xs (x-1))):mJ κ xs lo (x+1):=fun i j h1 h2 h3=>by
 by_cases hj:j<x
 ·exact h i j h1 h2 hj
 ·have sj:j=x:=by omega
  subst sj;by_cases hi:i=j
  ·subst hi;exact sS _
  ·exact kG hn (h i (j-1) h1 (by omega) (by omega))
def sG (lo a aw:Nat):StateT bT fV AscSt:=
 forIn [a:aw] ((ab,a):AscSt) fun _ c=>do
  let x ← ltAt' (lo+c.snd) (lo+c.snd-1)
  match x with
  |some b=>if b=ae then pure (yD (ab,c.snd)) else pure (oI (ab,c.snd+1))
  |_=>pure (yD (aa ab,c.snd))
theorem SD{lo a:Nat}{Q:AscSt->bT->Prop}(hC:iQ prog w A s κ kd)(h0:KeysOf κ a₀)(hB:TB kd a₀ st)(hn:lo+aw≤a₀.size)(ha:1≤a)(Z4:a≤aw)(hs:fY κ (bC st) lo (lo+a))
  (h:∀ n,a≤n->n≤aw->fY κ (bC st) lo (lo+n)->(n=aw\/κ.klt (KK κ (bC st) (lo+n)) (KK κ (bC st) (lo+n-1)))->Q (ab,n) st):cP (aO prog w) A E s (sG lo a aw) Q st:=by
 unfold sG;refine pX (I:=fun x c ak=>ak=st/\c=(ab,x)/\fY κ (bC st) lo (lo+x)) ?step ?fin ⟨rfl,rfl,hs⟩
 case fin=>
  rintro c ak ⟨rfl,rfl,hs⟩;have e:max a aw=aw:=by omega
  rw[e] at hs ⊢;exact h aw Z4 (bZ _) hs (.inl rfl)
 case step=>
  rintro x c ak Z5 hx2 ⟨rfl,rfl,hs⟩;rw[13];refine bK (zK hC h0 hB (by omega) (by omega) ?_)
  cases hb:κ.blt (KK κ (bC ak) (lo+x)) (KK κ (bC ak) (lo+x-1)) with
  |true=>
   rw[20];exact cK (h x Z5 (by omega) hs (.inr hb))
  |false=>
   rw[19];exact cK ⟨rfl,rfl,Wz (x:=lo+x) hs (by omega) hb⟩
theorem ET{lo:Nat}{f:AscSt->StateT bT fV (Option Nat)}{Q:Option Nat->bT->Prop}(hC:iQ prog w A s κ kd)(h0:KeysOf κ a₀)(hM:Mv kd a₀ lo (lo+aw) st0 st)(hn:lo+aw≤a₀.size)(h1:1≤n)(wT:n≤aw)(hs:mJ κ (bC st) lo (lo+n))
  (h:∀ m ak,Mv kd a₀ lo (lo+aw) st0 ak->1≤m->m≤aw->fY κ (bC ak) lo (lo+m)->cP (aO prog w) A E s (f (ab,m)) Q ak):cP (aO prog w) A E s (xK lo (lo+n)>>=fun _=>sG lo n aw>>=f) Q st:=by
 have hB:=hM.tb;have hsz:lo+n≤(bC st).size:=by rw[hB.size];omega
 refine bK (zG ?_);have jy:=hM.trans (Mv.rev (lo:=lo) (hi:=lo+aw) (i:=lo) (j:=lo+n) hB (bZ _) (by omega) hn)
 refine bK (SD hC h0 jy.tb hn h1 wT ?_ fun m oy oz r9 _=>h m _ jy (by omega) oz r9)
 intro i j h1 h2 h3;show κ.kle (KK κ (mirror (bC st) lo (lo+n) ((lo+n-lo)/2)) i) (KK κ (mirror (bC st) lo (lo+n) ((lo+n-lo)/2)) j);rw[KK_mirror hsz,KK_mirror hsz,if_pos (by omega),if_pos (by omega)]
 exact hs _ _ (by omega) (by omega) (by omega)
def CO (lo n aw:Nat):StateT bT fV DescSt:=
 forIn [n:aw] ((ab,n,0):DescSt) fun _ c=>do
  let x ← ltAt' (lo+c.snd.fst) (lo+c.snd.fst-1)
  match x with
  |some b=>
   if b=ae then
    if c.snd.snd > 0 then do
     xK (lo+c.snd.fst-(c.snd.snd+1)) (lo+c.snd.fst)
     pure (oI (ab,c.snd.fst+1,0))
    else pure (oI (ab,c.snd.fst+1,0))
   else do
    let x ← ltAt' (lo+c.snd.fst-1) (lo+c.snd.fst)
    match x with
    |some b=>
     if b=ae then pure (yD (ab,c.snd.fst,c.snd.snd))
     else pure (oI (ab,c.snd.fst+1,c.snd.snd+1))
    |_=>pure (yD (aa ab,c.snd.fst,c.snd.snd))
  |_=>pure (yD (aa ab,c.snd.fst,c.snd.snd))
theorem CW {ys:Array aW}{lo hi:Nat}(e:∀ k,KK κ ys k=KK κ xs k)(h:mJ κ xs lo hi):mJ κ ys lo hi:=fun i j a b c=>by rw[e,e];exact h i j a b c
theorem TM{lo:Nat}{Q:DescSt->bT->Prop}(hC:iQ prog w A s κ kd)(h0:KeysOf κ a₀)(hM:Mv kd a₀ lo (lo+aw) st0 st)(hn:lo+aw≤a₀.size)(h1:1≤n)(wT:n≤aw)(hs:mJ κ (bC st) lo (lo+n))
  (h:∀ m q ak,Mv kd a₀ lo (lo+aw) st0 ak->1≤m->m≤aw->mJ κ (bC ak) lo (lo+m)->q+1≤m->(∀ i,lo+m-(q+1)≤i->i<lo+m->KK κ (bC ak) i=KK κ (bC ak) (lo+m-1))->Q (ab,m,q) ak):cP (aO prog w) A E s (CO lo n aw) Q st:=by
 unfold CO;refine pX (I:=fun x c ak=>∃ q,c=(ab,x,q)/\Mv kd a₀ lo (lo+aw) st0 ak/\mJ κ (bC ak) lo (lo+x)/\q+1≤x /\
   (∀ i,lo+x-(q+1)≤i->i<lo+x->KK κ (bC ak) i=KK κ (bC ak) (lo+x-1))) ?step ?fin ⟨0,rfl,hM,hs,by omega,fun i h1 h2=>by congr 1;omega⟩
 case fin=>
  rintro c ak ⟨q,rfl,jy,ig,hq,he⟩;rw[show max n aw=aw by omega] at ig hq he ⊢
  exact h aw q ak jy (by omega) (bZ _) ig hq he
 case step=>
  rintro x c ak hax hxn ⟨q,rfl,jy,ig,hq,he⟩;rw[13];have kw:=jy.tb;have hsz:lo+x≤(bC ak).size:=by rw[kw.size];omega
  refine bK (zK hC h0 kw (by omega) (by omega) ?_)
  cases kz:κ.blt (KK κ (bC ak) (lo+x)) (KK κ (bC ak) (lo+x-1))
  case true=>
   rw[20];have uj:mJ κ (bC ak) lo (lo+x+1):=EO ig (by omega) (oG kz)
   by_cases k4:q > 0
   ·rw[if_pos k4];exact bK (zG (cK ⟨0,rfl,jy.trans (Mv.rev kw (by omega) (by omega) hn),CW (OP hsz he) uj,by omega,fun i h1 h2=>by congr 1;omega⟩))
   ·rw[if_neg k4];exact cK ⟨0,rfl,jy,uj,by omega,fun i h1 h2=>by congr 1;omega⟩
  case false=>
   rw[19];refine bK (zK hC h0 kw (by omega) (by omega) ?_)
   cases sk:κ.blt (KK κ (bC ak) (lo+x-1)) (KK κ (bC ak) (lo+x))
   case true=>
    rw[20];exact cK (h x q ak jy (by omega) (by omega) ig hq he)
   case false=>
    rw[19];have y7:KK κ (bC ak) (lo+x)=KK κ (bC ak) (lo+x-1):=KeyOrd.kle_antisymm sk kz;refine cK ⟨q+1,rfl,jy,EO (x:=lo+x) ig (by omega) (by rw[y7];exact sS _),by omega,fun i h1 h2=>?_⟩
    rw[show lo+(x+1)-1=lo+x by omega]
    by_cases vi:i=lo+x
    ·subst vi;rfl
    ·rw[y7];exact he i (by omega) (by omega)
theorem Ry{lo:Nat}{Q:Option Nat->bT->Prop}(hC:iQ prog w A s κ kd)(h0:KeysOf κ a₀)(hB:TB kd a₀ st)(hn:lo+aw≤a₀.size)(h1:1≤aw)
  (h:∀ m ak,Mv kd a₀ lo (lo+aw) st ak->1≤m->m≤aw->fY κ (bC ak) lo (lo+m)->Q (aa m) ak):cP (aO prog w) A E s (countRun' lo aw) Q st:=by
 rw[countRun'_eq];refine bK ?_
 change cP _ _ _ _ (sG lo 1 aw) _ _
 refine SD hC h0 hB hn (bZ 1) h1 (fun i j a b c=>by have:i=j:=(by omega);subst this;exact sS _) fun n ze B3 C4 J5=>?_
 rw[13];by_cases wT:n=aw
 ·rw[if_pos (by simpa using wT)]
  exact cK (h n st (.refl hB) ze B3 C4)
 ·rw[if_neg (by simpa using wT)]
  have bg:κ.klt (KK κ (bC st) (lo+n)) (KK κ (bC st) (lo+n-1)):=J5.resolve_left wT;by_cases C5:n > 1
  ·rw[if_pos C5];refine bK (zK hC h0 hB (by omega) (by omega) ?_)
   cases zf:κ.blt (KK κ (bC st) lo) (KK κ (bC st) (lo+n-1))
   case true=>
    rw[20];exact cK (h n st (.refl hB) ze B3 C4)
   case false=>
    rw[19];have hsz:lo+n≤(bC st).size:=by rw[hB.size];omega
    have bx:∀ k,lo≤k->k<lo+n->KK κ (bC st) k=KK κ (bC st) (lo+n-1):=by
     intro k TW hk;have a1:=C4 lo k (by omega) (by omega) hk
     have a2:=C4 k (lo+n-1) (by omega) (by omega) (by omega)
     exact KeyOrd.kle_antisymm a2 (kG zf a1)
    refine bK (zG ?_);have d1:mJ κ (bC st) lo (lo+n):=fun i j a b c=>by rw[bx i (by omega) (by omega),bx j (by omega) c];exact sS _
    have d2:mJ κ (bC st) lo (lo+n+1):=EO d1 (by omega) (oG bg)
    have hM:Mv kd a₀ lo (lo+aw) st (GT st (mirror (bC st) lo (lo+n) ((lo+n-lo)/2))):=Mv.rev hB (bZ _) (by omega) hn
    have d3:=CW (ys:=mirror (bC st) lo (lo+n) ((lo+n-lo)/2)) (OP hsz bx) d2;refine bK (uH (lG ⟨rfl,?_⟩));refine bK ?_
    change cP _ _ _ _ (CO lo (n+1) aw) _ _
    refine TM hC h0 hM hn (by omega) (by omega) d3 fun m q ak jy oy oz ig hq he=>?_
    rw[13];have vj:lo+m≤(bC ak).size:=by rw[jy.tb.size];omega
    by_cases k4:q > 0
    ·rw[if_pos k4];refine bK (zG ?_)
     change cP _ _ _ _ (xK lo (lo+m)>>=fun _=>sG lo m aw>>=_) _ _
     exact ET hC h0 (jy.trans (Mv.rev jy.tb (by omega) (by omega) hn)) hn oy oz (CW (OP vj he) ig) fun k bt a b c d=>cK (h k bt a b c d)
    ·rw[if_neg k4]
     change cP _ _ _ _ (xK lo (lo+m)>>=fun _=>sG lo m aw>>=_) _ _
     exact ET hC h0 jy hn oy oz ig fun k bt a b c d=>cK (h k bt a b c d)
  ·rw[if_neg C5];have J6:n=1:=by omega
   subst J6;have d1:mJ κ (bC st) lo (lo+1):=fun i j a b c=>by have:i=j:=(by omega);subst this;exact sS _
   have d2:mJ κ (bC st) lo (lo+1+1):=EO d1 (by omega) (oG bg)
   have hM:Mv kd a₀ lo (lo+aw) st st:=.refl hB;have d3:=d2;refine bK (uH (lG ⟨rfl,?_⟩));refine bK ?_
   change cP _ _ _ _ (CO lo (1+1) aw) _ _
   refine TM hC h0 hM hn (by omega) (by omega) d3 fun m q ak jy oy oz ig hq he=>?_
   rw[13];have vj:lo+m≤(bC ak).size:=by rw[jy.tb.size];omega
   by_cases k4:q > 0
   ·rw[if_pos k4];refine bK (zG ?_)
    change cP _ _ _ _ (xK lo (lo+m)>>=fun _=>sG lo m aw>>=_) _ _
    exact ET hC h0 (jy.trans (Mv.rev jy.tb (by omega) (by omega) hn)) hn oy oz (CW (OP vj he) ig) fun k bt a b c d=>cK (h k bt a b c d)
   ·rw[if_neg k4]
    change cP _ _ _ _ (xK lo (lo+m)>>=fun _=>sG lo m aw>>=_) _ _
    exact ET hC h0 jy hn oy oz ig fun k bt a b c d=>cK (h k bt a b c d)
end
section
variable {κ:gX}
theorem Sm{lo ok:Nat}{Q:Bool->bT->Prop}(hC:iQ prog w A s κ kd)(h0:KeysOf κ a₀)(hB:TB kd a₀ st)(hn:lo+n≤a₀.size)(hok:ok≤n)(hs:fY κ (bC st) lo (lo+ok))
  (h:∀ ak,Mv kd a₀ lo (lo+n) st ak->fY κ (bC ak) lo (lo+n)->Q ae ak):cP (aO prog w) A E s (binarySort' lo n ok) Q st:=by
 rw[binarySort'_eq];refine bK (sJ (pX (I:=fun k c ak=>c=(ab,())/\Mv kd a₀ lo (lo+n) st ak/\fY κ (bC ak) lo (lo+min k n))
  (Q:=fun c ak=>c=(ab,())/\Mv kd a₀ lo (lo+n) st ak/\fY κ (bC ak) lo (lo+n)) ?step ?fin ?init) ?post)
 case post=>
  rintro c ak ⟨rfl,hM,ig⟩;exact cK (h ak hM ig)
 case init=>
  refine⟨rfl,.refl hB,fun i j h1 h2 h3=>?_⟩
  by_cases hz:ok=0
  ·have:i=j:=by omega
   subst this;exact sS _
  ·exact hs i j h1 h2 (by omega)
 case fin=>
  rintro c ak ⟨hc,hM,ig⟩;refine⟨hc,hM,?_⟩
  rwa [show min (max (max ok 1) n) n=n by omega] at ig
 case step=>
  rintro k c ak hak w6 ⟨rfl,hM,ig⟩;rw[show min k n=k by omega] at ig
  have kw:=hM.tb;refine bK (sJ (pX (I:=fun x c ge=>ge=ak/\∃ l r,c=(ab,l,r)/\l≤r/\r≤k/\r-l≤k-x /\
    (∀ i,i<l->κ.kle (KK κ (bC ak) (lo+i)) (KK κ (bC ak) (lo+k)))/\(∀ i,r≤i->i<k->κ.klt (KK κ (bC ak) (lo+k)) (KK κ (bC ak) (lo+i))))
   (Q:=fun c ge=>ge=ak/\∃ l r,c=(ab,l,r)/\l≤k /\
    (∀ i,i<l->κ.kle (KK κ (bC ak) (lo+i)) (KK κ (bC ak) (lo+k)))/\(∀ i,l≤i->i<k->κ.klt (KK κ (bC ak) (lo+k)) (KK κ (bC ak) (lo+i)))) ?istep ?ifin ?iinit) ?ipost)
  case iinit=>exact⟨rfl,0,k,rfl,by omega,by omega,by omega,fun i hi=>by omega,fun i h1 h2=>by omega⟩
  case ifin=>
   rintro c ge ⟨rfl,l,r,rfl,Z6,J7,hm,rm,oh⟩;have:l=r:=by omega
   rw[25];exact⟨rfl,l,l,rfl,J7,rm,oh⟩
  case istep=>
   rintro x c ge _ hxk ⟨rfl,l,r,rfl,Z6,J7,hm,rm,oh⟩;rw[13];by_cases lv:l ≥ r
   ·rw[if_pos lv];have:l=r:=by omega
    rw[25];exact cK ⟨rfl,l,l,rfl,J7,rm,oh⟩
   ·rw[if_neg lv];refine bK (zK hC h0 kw (by omega) (by omega) ?_)
    cases kz:κ.blt (KK κ (bC ge) (lo+k)) (KK κ (bC ge) (lo+(l+r)/2))
    case true=>
     rw[20];refine cK ⟨rfl,l,(l+r)/2,rfl,by omega,by omega,by omega,rm,fun i h1 h2=>?_⟩
     exact KeyOrd.klt_of_klt_of_kle kz (ig _ _ (by omega) (by omega) (by omega))
    case false=>
     rw[19];refine cK ⟨rfl,(l+r)/2+1,r,rfl,by omega,by omega,by omega,fun i h1=>?_,oh⟩
     exact kG (ig (lo+i) (lo+(l+r)/2) (by omega) (by omega) (by omega)) (show κ.kle _ _ from kz)
  case ipost=>
   rintro c ge ⟨rfl,l,r,rfl,Q2,rm,oh⟩;show cP _ _ _ _ (do moveDown' (lo+k) (lo+l);pure (oI (ab,()))) _ _
   rw[moveDown'_eq];have J8:lo+k<(bC ge).size:=by rw[kw.size];omega
   have hd:lo+k-(lo+l)≤lo+k:=by omega
   refine bK (uG (cK ⟨rfl,hM.trans ⟨kw.setArr (bubble_perm _ _ _),rfl,fun q hq=>?_⟩,?_⟩))
   ·show(bubble (bC ge) (lo+k) (lo+k-(lo+l)))[q]?=_;rw[getElem?_bubble J8 _ hd,if_neg (by omega),if_neg (by omega)]
   rw[show min (k+1) n=k+1 by omega]
   intro i j h1 h2 h3;show κ.kle (KK κ (bubble (bC ge) (lo+k) (lo+k-(lo+l))) i) (KK κ (bubble (bC ge) (lo+k) (lo+k-(lo+l))) j);rw[KK_bubble J8 hd,KK_bubble J8 hd,show lo+k-(lo+k-(lo+l))=lo+l by omega]
   have J9:∀ i,lo≤i->i<lo+l->κ.kle (KK κ (bC ge) i) (KK κ (bC ge) (lo+k)):=fun i a b=>by
    have:=rm (i-lo) (by omega)
    rwa [show lo+(i-lo)=i by omega] at this
   have J':∀ i,lo+l≤i->i<lo+k->κ.klt (KK κ (bC ge) (lo+k)) (KK κ (bC ge) i):=fun i a b=>by
    have:=oh (i-lo) (by omega) (by omega)
    rwa [show lo+(i-lo)=i by omega] at this
   repeat' split
   all_goals first
    |(exfalso;omega)
    |exact sS _
    |exact J9 _ (by omega) (by omega)
    |exact oG (J' _ (by omega) (by omega))
    |exact ig _ _ (by omega) (by omega) (by omega)
def tT:Bool->aW->Array aW->Nat->Nat->Nat->StateT bT fV (Option Nat):=sortPriv% PySem.Builtin.gallop
def gv (κ:gX)(a6:Bool)(k x:κ.α):Bool:=if a6=ae then κ.blt x k else !κ.blt k x
theorem KA{k x y:κ.α}(h:κ.kle x y)(hb:gv κ a6 k y=ae):gv κ a6 k x=ae:=by
 unfold gv at *;cases a6 with
 |true=>exact KeyOrd.klt_of_kle_of_klt h hb
 |false=>
  have hb:κ.blt k y=af:=by simpa using hb
  have:κ.blt k x=af:=kG h hb;simp[this]
def vH (a6:Bool)(key:aW)(arr:Array aW)(i:Nat):StateT bT fV (Option Bool):=do
 let x ← kL arr i
 if a6=ae then lt' x key else do
  let r ← lt' key x
  pure (Option.map (fun x=>!x) r)
theorem EK{key:aW}{Q:Option Bool->bT->Prop}(hC:iQ prog w A s κ kd)(hk:kindOf st=kd)(hd:∀ p∈arr.toList,κ.keyOf p.1=aa (ky κ p))(hy:κ.keyOf key.1=aa (ky κ key))(hi:i<arr.size)
  (h:Q (aa (gv κ a6 (ky κ key) (KK κ arr i))) st):cP (aO prog w) A E s (vH a6 key arr i) Q st:=by
 have e:arr[i]?=aa arr[i]:=getElem?_pos _ i hi;have m:arr[i]∈arr.toList:=by simp
 rw[AS e] at h;unfold vH;refine bK (iN e ?_);cases a6 with
 |true=>
  rw[20];exact zI hC hk (hd _ m) hy h
 |false=>
  rw[19];exact bK (zI hC hk hy (hd _ m) (cK h))
def CM (a6:Bool)(key:aW)(arr:Array aW)(base n lo hi:Nat):StateT bT fV (Option (Option Nat)×Nat×Nat):=
 forIn [:n] ((ab,lo,hi):Option (Option Nat)×Nat×Nat) fun _ c=>
  if c.snd.fst ≥ c.snd.snd then pure (yD (ab,c.snd.fst,c.snd.snd))
  else do
   let x ← vH a6 key arr (base+(c.snd.fst+(c.snd.snd-c.snd.fst)/2))
   match x with
   |some b=>if b=ae then pure (oI (ab,c.snd.fst+(c.snd.snd-c.snd.fst)/2+1,c.snd.snd)) else pure (oI (ab,c.snd.fst,c.snd.fst+(c.snd.snd-c.snd.fst)/2))
   |_=>pure (yD (aa ab,c.snd.fst,c.snd.snd))
section
variable {key:aW}{base:Nat}
theorem TX {lo hi:Nat}{Q:Option (Option Nat)×Nat×Nat->bT->Prop}(hC:iQ prog w A s κ kd)(hk:kindOf st=kd)(hd:∀ p∈arr.toList,κ.keyOf p.1=aa (ky κ p))(hy:κ.keyOf key.1=aa (ky κ key))(hs:fY κ arr base (base+n))(hn:base+n≤arr.size)(hl:lo≤hi)(hh:hi≤n)
  (rm:∀ i,i<lo->gv κ a6 (ky κ key) (KK κ arr (base+i))=ae) (oh:∀ i,hi≤i->i<n->gv κ a6 (ky κ key) (KK κ arr (base+i))=af)
  (h:∀ r,r≤n->(∀ i,i<r->gv κ a6 (ky κ key) (KK κ arr (base+i))=ae)->(∀ i,r≤i->i<n->gv κ a6 (ky κ key) (KK κ arr (base+i))=af)->Q (ab,r,r) st):cP (aO prog w) A E s (CM a6 key arr base n lo hi) Q st:=by
 unfold CM;refine pX (I:=fun x c ak=>ak=st/\∃ l r,c=(ab,l,r)/\l≤r/\r≤n/\r-l≤n-x/\(∀ i,i<l->gv κ a6 (ky κ key) (KK κ arr (base+i))=ae)/\(∀ i,r≤i->i<n->gv κ a6 (ky κ key) (KK κ arr (base+i))=af)) ?step ?fin ⟨rfl,lo,hi,rfl,hl,hh,by omega,rm,oh⟩
 case fin=>
  rintro c ak ⟨rfl,l,r,rfl,h1,h2,h3,h4,h5⟩;have:l=r:=by omega
  rw[25];exact h l h2 h4 h5
 case step=>
  rintro x c ak _ hx ⟨rfl,l,r,rfl,h1,h2,h3,h4,h5⟩;rw[13];by_cases lv:l ≥ r
  ·rw[if_pos lv];have:l=r:=by omega
   rw[25];exact cK (h l h2 h4 h5)
  ·rw[if_neg lv];refine bK (EK hC hk hd hy (by omega) ?_)
   cases hb:gv κ a6 (ky κ key) (KK κ arr (base+(l+(r-l)/2)))
   case true=>
    rw[20];refine cK ⟨rfl,_,r,rfl,by omega,h2,by omega,fun i hi=>?_,h5⟩
    exact KA (hs _ _ (by omega) (by omega) (by omega)) hb
   case false=>
    rw[19];refine cK ⟨rfl,l,_,rfl,by omega,by omega,by omega,h4,fun i ha hb2=>?_⟩
    cases hq:gv κ a6 (ky κ key) (KK κ arr (base+i)) with
    |false=>rfl
    |true=>
     have:=KA (hs (base+(l+(r-l)/2)) (base+i) (by omega) (by omega) (by omega)) hq
     rw[hb] at this;cases this
theorem wQ {bd:Nat}{Q:Option Nat->bT->Prop}(hC:iQ prog w A s κ kd)(hk:kindOf st=kd)(hd:∀ p∈arr.toList,κ.keyOf p.1=aa (ky κ p))(hy:κ.keyOf key.1=aa (ky κ key))(hs:fY κ arr base (base+n))(hn:base+n≤arr.size)(hh:bd<n)
  (h:∀ r,r≤n->(∀ i,i<r->gv κ a6 (ky κ key) (KK κ arr (base+i))=ae)->(∀ i,r≤i->i<n->gv κ a6 (ky κ key) (KK κ arr (base+i))=af)->Q (aa r) st):cP (aO prog w) A E s (tT a6 key arr base n bd) Q st:=by
 let P:Nat->Bool:=fun i=>gv κ a6 (ky κ key) (KK κ arr (base+i))
 have mono:∀ i j,i≤j->j<n->P j=ae->P i=ae:=fun i j a b c=>KA (hs _ _ (by omega) (by omega) (by omega)) c
 have ul:∀ i j,i≤j->j<n->P i=af->P j=af:=fun i j a b c=>by
  cases hq:P j with
  |false=>rfl
  |true=>rw[mono i j a b hq] at c;cases c
 show cP _ _ _ _ (_>>=_) _ _;refine bK ?_
 change cP _ _ _ _ (vH a6 key arr (base+bd)) _ _
 refine EK hC hk hd hy (by omega) ?_
 cases hr:gv κ a6 (ky κ key) (KK κ arr (base+bd))
 case true=>
  rw[13];rw[20];refine bK (sJ (pX (I:=fun x c ak=>ak=st/\∃ l o,c=(ab,l,o)/\l<o/\x+1≤o/\l<n-bd/\P (bd+l)=ae) (Q:=fun c ak=>ak=st/\∃ l o,c=(ab,l,o)/\l<o/\l<n-bd/\P (bd+l)=ae/\(n-bd≤o\/(o<n-bd/\P (bd+o)=af))) ?step ?fin ⟨rfl,0,1,rfl,by omega,by omega,by omega,hr⟩) ?post)
  case fin=>
   rintro c ak ⟨rfl,l,o,rfl,h1,h2,h3,h4⟩;exact⟨rfl,l,o,rfl,h1,h3,h4,.inl (by omega)⟩
  case step=>
   rintro x c ak _ hx ⟨rfl,l,o,rfl,h1,h2,h3,h4⟩;rw[13];by_cases lv:o ≥ n-bd
   ·rw[if_pos lv];exact cK ⟨rfl,l,o,rfl,h1,h3,h4,.inl lv⟩
   ·rw[if_neg lv];refine bK ?_
    change cP _ _ _ _ (vH a6 key arr (base+(bd+o))) _ _
    refine EK hC hk hd hy (by omega) ?_
    cases hb:gv κ a6 (ky κ key) (KK κ arr (base+(bd+o)))
    case true=>
     rw[23];exact cK ⟨rfl,o,2*o+1,rfl,by omega,by omega,by omega,hb⟩
    case false=>
     simp only[Bool.not_false,if_true];exact cK ⟨rfl,l,o,rfl,h1,h3,h4,.inr ⟨by omega,hb⟩⟩
  case post=>
   rintro c ak ⟨rfl,l,o,rfl,h1,h3,h4,h5⟩;rw[13];refine bK ?_
   change cP _ _ _ _ (CM a6 key arr base n (bd+l+1) (bd+min o (n-bd))) _ _
   refine TX hC hk hd hy hs hn (by omega) (by omega) (fun i hi=>mono i (bd+l) (by omega) (by omega) h4) (fun i ha hb=>?_) fun r a b c=>cK (h r a b c)
   rcases h5 with h5|⟨h5,h6⟩
   ·omega
   ·exact ul (bd+o) i (by omega) hb h6
 case false=>
  rw[13];rw[19];refine bK (sJ (pX (I:=fun x c ak=>ak=st/\∃ l o,c=(ab,l,o)/\l<o/\x+1≤o/\l≤bd/\P (bd-l)=af) (Q:=fun c ak=>ak=st/\∃ l o,c=(ab,l,o)/\l<o/\l≤bd/\P (bd-l)=af/\(bd+1≤o\/(o≤bd/\P (bd-o)=ae))) ?step ?fin ⟨rfl,0,1,rfl,by omega,by omega,by omega,hr⟩) ?post)
  case fin=>
   rintro c ak ⟨rfl,l,o,rfl,h1,h2,h3,h4⟩;exact⟨rfl,l,o,rfl,h1,h3,h4,.inl (by omega)⟩
  case step=>
   rintro x c ak _ hx ⟨rfl,l,o,rfl,h1,h2,h3,h4⟩;rw[13];by_cases lv:o ≥ bd+1
   ·rw[if_pos lv];exact cK ⟨rfl,l,o,rfl,h1,h3,h4,.inl lv⟩
   ·rw[if_neg lv];refine bK ?_
    change cP _ _ _ _ (vH a6 key arr (base+(bd-o))) _ _
    refine EK hC hk hd hy (by omega) ?_
    cases hb:gv κ a6 (ky κ key) (KK κ arr (base+(bd-o)))
    case true=>
     rw[20];exact cK ⟨rfl,l,o,rfl,h1,h3,h4,.inr ⟨by omega,hb⟩⟩
    case false=>
     rw[19];exact cK ⟨rfl,o,2*o+1,rfl,by omega,by omega,by omega,hb⟩
  case post=>
   rintro c ak ⟨rfl,l,o,rfl,h1,h3,h4,h5⟩;rw[13];refine bK ?_
   change cP _ _ _ _ (CM a6 key arr base n (bd+1-min o (bd+1)) (bd-l)) _ _
   refine TX hC hk hd hy hs hn (by omega) (by omega) (fun i hi=>?_) (fun i ha hb=>ul (bd-l) i ha hb h4) fun r a b c=>cK (h r a b c)
   rcases h5 with h5|⟨h5,h6⟩
   ·omega
   ·exact mono i (bd-o) (by omega) (by omega) h6
end
end
section
variable {κ:gX}
def Le (κ:gX)(p q:aW):Prop:=κ.kle (ky κ p) (ky κ q)
abbrev Sd (κ:gX)(l:List aW):Prop:=l.Pairwise (Le κ)
theorem KU (a:Array aW)(i k:Nat):(a.extract i (i+k)).toList=(a.toList.drop i).take k:=by
 rw[Do,Cu]
 congr 1
 omega
theorem wD (a:Array aW)(i:Nat):(a.extract i).toList=a.toList.drop i:=by
 rw[Do,Cu,uT (by simp)]
structure LoI (κ:gX)(A B O:List aW)(ia ib:Nat):Prop where
 perm:O.Perm (A.take ia++B.take ib)
 pa:Sd κ (O++A.drop ia)
 pb:Sd κ (O++B.drop ib)
variable {A B O T:List aW}
theorem LoI.swap (h:LoI κ A B O ia ib):LoI κ B A O ib ia:=⟨h.perm.trans BQ,h.pb,h.pa⟩
theorem LoI.extA (h:LoI κ A B O ia ib)(k:Nat)(hx:∀ x∈(A.drop ia).take k,∀ y∈B.drop ib,Le κ x y):LoI κ A B (O++(A.drop ia).take k) (ia+k) ib:=by
 have e:A.drop ia=(A.drop ia).take k++A.drop (ia+k):=by rw[← Cw,mY]
 have e2:A.take (ia+k)=A.take ia++(A.drop ia).take k:=List.take_add;refine⟨?_,?_,?_⟩
 ·rw[e2];refine(h.perm.append_right _).trans ?_;rw[mF,mF];exact BQ.append_left _
 ·rw[mF,← e];exact h.pa
 ·have pa:=h.pa;rw[e,← mF] at pa;have p1:=(BR.mp pa).1;have p2:=BR.mp h.pb;refine BR.mpr ⟨p1,p2.2.1,fun x mx y my=>?_⟩
  rcases kR.mp mx with mx|mx
  ·exact p2.2.2 x mx y my
  ·exact hx x mx y my
theorem LoI.extB (h:LoI κ A B O ia ib)(k:Nat)(hx:∀ x∈(B.drop ib).take k,∀ y∈A.drop ia,Le κ x y):LoI κ A B (O++(B.drop ib).take k) ia (ib+k):=(h.swap.extA k hx).swap
theorem LoI.endB (h:LoI κ A B O ia ib)(hb:B.drop ib=[]):(O++A.drop ia).Perm (A++B)/\Sd κ (O++A.drop ia):=by
 refine⟨?_,h.pa⟩;have e:B.take ib=B:=by
  have:=mY ib B;rw[hb] at this;simpa using this
 have p:=h.perm;rw[e] at p;refine(p.append_right _).trans ?_;rw[mF];refine(BQ.append_left _).trans ?_;rw[← mF,mY]
theorem LoI.endA (h:LoI κ A B O ia ib)(ha:A.drop ia=[]):(O++B.drop ib).Perm (A++B)/\Sd κ (O++B.drop ib):=⟨(h.swap.endB ha).1.trans BQ,h.pb⟩
structure HiI (κ:gX)(A B T:List aW)(na nb:Nat):Prop where
 perm:T.Perm (A.drop na++B.drop nb)
 pa:Sd κ (A.take na++T)
 pb:Sd κ (B.take nb++T)
theorem HiI.swap (h:HiI κ A B T na nb):HiI κ B A T nb na:=⟨h.perm.trans BQ,h.pb,h.pa⟩
theorem HiI.extA (h:HiI κ A B T na nb)(m:Nat)(hm:m≤na)(hx:∀ x∈(A.take na).drop m,∀ y∈B.take nb,Le κ y x):HiI κ A B ((A.take na).drop m++T) m nb:=by
 have e:A.take na=A.take m++(A.take na).drop m:=by
  have:=(mY m (A.take na)).symm
  rwa [List.take_take,xR hm] at this
 have e2:A.drop m=(A.take na).drop m++A.drop na:=by
  have h1:=congrArg (List.drop m) (mY na A).symm;rw[h1,List.drop_append];by_cases hl:na≤A.length
  ·rw[pI,xR hl,show m-na=0 by omega,HM]
  ·rw[BZ (show A.length≤na by omega)]
   simp
 refine⟨?_,?_,?_⟩
 ·rw[e2,mF];exact h.perm.append_left _
 ·rw[← mF,← e];exact h.pa
 ·have pa:=h.pa;rw[e,mF] at pa;have p1:=(BR.mp pa).2.1;have p2:=BR.mp h.pb;refine BR.mpr ⟨p2.1,p1,fun y my x mx=>?_⟩
  rcases kR.mp mx with mx|mx
  ·exact hx x mx y my
  ·exact p2.2.2 y my x mx
theorem HiI.endB (h:HiI κ A B T na nb)(hb:B.take nb=[]):(A.take na++T).Perm (A++B)/\Sd κ (A.take na++T):=by
 refine⟨?_,h.pa⟩;have e:B.drop nb=B:=by
  have:=mY nb B;rw[hb] at this;simpa using this
 have p:=h.perm;rw[e] at p;refine(p.append_left _).trans ?_;rw[← mF,mY]
theorem HiI.endA (h:HiI κ A B T na nb)(ha:A.take na=[]):(B.take nb++T).Perm (A++B)/\Sd κ (B.take nb++T):=⟨(h.swap.endB ha).1.trans BQ,h.pb⟩
theorem drop_cons {l:List aW}(h:l[i]?=aa p):(l.drop i).take 1=[p]/\l.drop i=p::l.drop (i+1):=by
 obtain⟨hi,e⟩:=dD.mp h;have:l.drop i=p::l.drop (i+1):=by rw[← e];exact CA hi
 exact⟨by rw[this];rfl,this⟩
theorem KN {l:List aW}{x:aW}(h:x∈l.drop i):∃ j,i≤j/\l[j]?=aa x:=by
 obtain⟨j,hj⟩:=xX h;rw[HH] at hj;exact⟨i+j,by omega,hj⟩
theorem ZF {l:List aW}{x:aW}(h:x∈(l.drop i).take k):∃ j,j<k/\l[i+j]?=aa x:=by
 obtain⟨j,hj⟩:=xX h;rw[OJ] at hj;split at hj
 ·rename_i hk;rw[HH] at hj;exact⟨j,hk,hj⟩
 ·cases hj
theorem KM {l:List aW}{x:aW}(h:x∈l.take n):∃ j,j<n/\l[j]?=aa x:=by
 obtain⟨j,hj⟩:=xX h;rw[OJ] at hj;split at hj
 ·rename_i hk;exact⟨j,hk,hj⟩
 ·cases hj
theorem ZV {l:List aW}{x:aW}(h:x∈(l.take n).drop m):∃ j,m≤j/\j<n/\l[j]?=aa x:=by
 obtain⟨j,hj⟩:=xX h;rw[HH,OJ] at hj;split at hj
 ·rename_i hk;exact⟨m+j,by omega,hk,hj⟩
 ·cases hj
theorem lx(h:xs.toList[i]?=aa p):KK κ xs i=ky κ p:=AS (by simpa using h)
theorem FW(h:fY κ xs 0 xs.size):Sd κ xs.toList:=by
 rw[Sd,xW];intro i j hi hj r6;have:=h i j (dU _) (by omega) (by simpa using hj)
 rwa [lx (eW hi),lx (eW hj)] at this
theorem Gw(h:Sd κ xs.toList):fY κ xs 0 xs.size:=fun i j _ r6 hj=>by
 have sj:j<xs.toList.length:=by simpa using hj
 have ni:i<xs.toList.length:=by omega
 rw[lx (eW ni),lx (eW sj)];rcases uS i j with h1|h1
 ·exact xW.mp h i j ni sj h1
 ·have:i=j:=by omega
  rw[25];exact sS _
end
def TK:Array aW->Array aW->StateT bT fV (Array aW):=sortPriv% PySem.Builtin.mergeLo
def MS:Nat->StateT bT fV Unit:=sortPriv% PySem.Builtin.setMinGallop
section
variable {κ:gX}
structure SameG (st ak:bT):Prop where
 kind:kindOf ak=kindOf st
 arr:bC ak=bC st
 pend:cY ak=cY st
 failed:sN ak=sN st
theorem SameG.refl (st:bT):SameG st st:=⟨rfl,rfl,rfl,rfl⟩
theorem EN{Q:Unit->bT->Prop}(hG:SameG st0 st)(h:∀ ak,SameG st0 ak->Q () ak):cP (aO prog w) A E s (MS g) Q st:=by
 show cP _ _ _ _ (modify _) _ _;exact uG (h _ ⟨hG.kind,hG.arr,hG.pend,hG.failed⟩)
def m4 (κ:gX)(a b r:Array aW):Prop:=r.toList.Perm (a.toList++b.toList)/\Sd κ r.toList
structure MPre (κ:gX)(a b:Array aW):Prop where
 ka:∀ p∈a.toList,κ.keyOf p.1=aa (ky κ p)
 kb:∀ p∈b.toList,κ.keyOf p.1=aa (ky κ p)
 sa:fY κ a 0 a.size
 sb:fY κ b 0 b.size
 na:0<a.size
 nb:0<b.size
 first:κ.klt (KK κ b 0) (KK κ a 0)
 last:∀ j,j<b.size->κ.kle (KK κ b j) (KK κ a (a.size-1))
section
variable {a b:Array aW}
abbrev LI (κ:gX)(a b:Array aW)(out:Array aW)(ia ib:Nat):Prop:=LoI κ a.toList b.toList out.toList ia ib
theorem at_ (xs:Array aW)(h:i<xs.size):∃ p,xs[i]?=aa p/\xs.toList[i]?=aa p/\p∈xs.toList/\KK κ xs i=ky κ p:=by
 have e:xs[i]?=aa xs[i]:=getElem?_pos _ i h;exact⟨xs[i],e,by simpa using e,by simp,AS e⟩
theorem DP(h:LI κ a b out ia ib)(hb:b.size≤ib):m4 κ a b (out++a.extract ia++b.extract ib):=by
 have e:b.toList.drop ib=[]:=BZ (by simpa using hb)
 have:=h.endB e;unfold m4;rw[pL,pL,wD,wD,e,rG];rw[29]
theorem Lv(h:LI κ a b out ia ib)(ha:a.size≤ia):m4 κ a b (out++a.extract ia++b.extract ib):=by
 have e:a.toList.drop ia=[]:=BZ (by simpa using ha)
 have:=h.endA e;unfold m4;rw[pL,pL,wD,wD,e,rG];rw[29]
theorem DM(P:MPre κ a b)(h:LI κ a b out ia ib)(ha:ia+1=a.size):m4 κ a b (out++b.extract ib++a.extract ia):=by
 have h2:=h.extB b.size fun x mx y my=>by
  obtain⟨j,hj,ej⟩:=ZF mx;obtain⟨i,hi,ei⟩:=KN my;have hil:i<a.size:=by simpa using(dD.mp ei).1
  have Z7:ib+j<b.size:=by simpa using(dD.mp ej).1
  have:=P.last (ib+j) Z7;rw[show a.size-1=i by omega,lx ej,lx ei] at this
  rw[29]
 have e:b.toList.drop (ib+b.size)=[]:=BZ (by simp)
 have:=h2.endB e;have e2:(b.toList.drop ib).take b.size=b.toList.drop ib:=uT (by simp)
 rw[e2] at this;unfold m4;rw[pL,pL,wD,wD];rw[29]
theorem EU(h:LI κ a b out ia ib)(e:b.toList[ib]?=aa p)(hx:∀ i,ia≤i->i<a.size->κ.kle (ky κ p) (KK κ a i)):LI κ a b (out.push p) ia (ib+1):=by
 have:=h.extB 1 fun x mx y my=>by
  rw[(drop_cons e).1] at mx;rw[eB.mp mx];obtain⟨i,hi,ei⟩:=KN my;have:=hx i hi (by simpa using(dD.mp ei).1)
  rw[lx ei] at this;rw[29]
 rw[(drop_cons e).1] at this;show LoI κ _ _ (out.push p).toList _ _;rw[CF];rw[29]
theorem SL(h:LI κ a b out ia ib)(e:a.toList[ia]?=aa p)(hx:∀ j,ib≤j->j<b.size->κ.kle (ky κ p) (KK κ b j)):LI κ a b (out.push p) (ia+1) ib:=(EU (a:=b) (b:=a) h.swap e hx).swap
theorem Aj(h:LI κ a b out ia ib)(hx:∀ j,j<k->ib+j<b.size->∀ i,ia≤i->i<a.size->κ.kle (KK κ b (ib+j)) (KK κ a i)):LI κ a b (out++b.extract ib (ib+k)) ia (ib+k):=by
 have:=h.extB k fun x mx y my=>by
  obtain⟨j,hj,ej⟩:=ZF mx;obtain⟨i,hi,ei⟩:=KN my;have:=hx j hj (by simpa using(dD.mp ej).1) i hi (by simpa using(dD.mp ei).1)
  rw[lx ej,lx ei] at this;rw[29]
 show LoI κ _ _ (out++b.extract ib (ib+k)).toList _ _;rw[pL,KU];rw[29]
theorem Lc(h:LI κ a b out ia ib)(hx:∀ i,i<k->ia+i<a.size->∀ j,ib≤j->j<b.size->κ.kle (KK κ a (ia+i)) (KK κ b j)):LI κ a b (out++a.extract ia (ia+k)) (ia+k) ib:=(Aj (a:=b) (b:=a) h.swap hx).swap
def wo (a b out:Array aW)(ia ib:Nat):Array aW:=out++a.extract ia++b.extract ib
def O4 (a b out:Array aW)(ia ib:Nat):Array aW:=out++b.extract ib++a.extract ia
abbrev q9 (ρ:Type):=Option (Array aW)×ρ
abbrev A4 (τ:Type):=q9 (Array aW×Nat×Nat×τ)
def loA (a b:Array aW)(g:Nat)(out:Array aW)(ia ib ac bc:Nat):StateT bT fV (ForInStep (A4 (Nat×Nat))):=
 kL b ib>>=fun p=>kL a ia>>=fun q=>lt' p q>>=fun x=>match x with
 |some v=>if v=ae then kL b ib>>=fun p=>if (ib+1==b.size)=ae then pure (.done (aa (wo a b (out.push p) ia (ib+1)),out.push p,ia,ib+1,0,bc+1)) else if bc+1 ≥ g then pure (.done (ab,out.push p,ia,ib+1,0,bc+1)) else pure (.yield (ab,out.push p,ia,ib+1,0,bc+1))
  else kL a ia>>=fun q=>if (ia+1+1==a.size)=ae then pure (.done (aa (O4 a b (out.push q) (ia+1) ib),out.push q,ia+1,ib,ac+1,0)) else if ac+1 ≥ g then pure (.done (ab,out.push q,ia+1,ib,ac+1,0)) else pure (.yield (ab,out.push q,ia+1,ib,ac+1,0))
 |_=>pure (.done (aa (wo a b out ia ib),out,ia,ib,ac,bc))
def O3 (a b:Array aW)(g ac bc:Nat)(out:Array aW)(ia ib:Nat):StateT bT fV (ForInStep (A4 (Nat×Nat×Nat))):=
 kL a ia>>=fun q=>if (ia+1+1==a.size)=ae then pure (.done (aa (O4 a b (out.push q) (ia+1) ib),out.push q,ia+1,ib,g,ac,bc)) else if (decide (ac<7)&&decide (bc<7))=ae then pure (.done (ab,out.push q,ia+1,ib,g,ac,bc)) else pure (.yield (ab,out.push q,ia+1,ib,g,ac,bc))
def O1 (a b:Array aW)(g ac bc:Nat)(out:Array aW)(ia ib:Nat):StateT bT fV (ForInStep (A4 (Nat×Nat×Nat))):=
 kL b ib>>=fun p=>if (ib+1==b.size)=ae then pure (.done (aa (wo a b (out.push p) ia (ib+1)),out.push p,ia,ib+1,g,ac,bc)) else kL a ia>>=fun q=>tT ae q b (ib+1) (b.size-(ib+1)) 0>>=fun x=>match x with
 |some k=>if k > 0 then(if (ib+1+k==b.size)=ae then pure (.done (aa (wo a b (out.push p++b.extract (ib+1) (ib+1+k)) ia (ib+1+k)),out.push p++b.extract (ib+1) (ib+1+k),ia,ib+1+k,g,ac,k)) else O3 a b g ac k (out.push p++b.extract (ib+1) (ib+1+k)) ia (ib+1+k)) else O3 a b g ac k (out.push p) ia (ib+1)
 |_=>pure (.done (aa (wo a b (out.push p) ia (ib+1)),out.push p,ia,ib+1,g,ac,bc))
def lo1 (a b out:Array aW)(ia ib ac bc g:Nat):StateT bT fV (ForInStep (A4 (Nat×Nat×Nat))):=
 MS g>>=fun _=>kL b ib>>=fun p=>tT af p a ia (a.size-ia) 0>>=fun x=>match x with
 |some k=>if k > 0 then(if (ia+k+1==a.size)=ae then pure (.done (aa (O4 a b (out++a.extract ia (ia+k)) (ia+k) ib),out++a.extract ia (ia+k),ia+k,ib,g,k,bc)) else if (ia+k==a.size)=ae then pure (.done (aa (wo a b (out++a.extract ia (ia+k)) (ia+k) ib),out++a.extract ia (ia+k),ia+k,ib,g,k,bc)) else O1 a b g k bc (out++a.extract ia (ia+k)) (ia+k) ib) else O1 a b g k bc out ia ib
 |_=>pure (.done (aa (wo a b out ia ib),out,ia,ib,g,ac,bc))
def N8 (κ:gX)(a b:Array aW){ρ:Type}(c:q9 ρ):Prop:=∃ r,c.1=aa r/\m4 κ a b r
abbrev v9 (ρ:Type):=ρ->Nat->Prop
def xf {ρ:Type}(I:v9 ρ)(n:Nat)(c:q9 ρ):Prop:=c.1=ab/\I c.2 n
def MgT (κ:gX)(a b:Array aW){ρ:Type}(I:v9 ρ)(st0:bT)(n m:Nat)(r:ForInStep (q9 ρ))(st:bT):Prop:=
 SameG st0 st/\match r with
 |.done c=>N8 κ a b c\/xf I n c
 |.yield c=>xf I m c
theorem MgT.rd {ρ:Type}{I:v9 ρ}{c:ρ}(hG:SameG st0 st)(h:m4 κ a b r):MgT κ a b I st0 n m (.done (aa r,c)) st:=⟨hG,.inl ⟨r,rfl,h⟩⟩
theorem MgT.if_[Decidable c]{ρ:Type}{I:v9 ρ}{n m:Nat}{st:bT}{x:ρ}(hG:SameG st0 st)(h1:I x n)(h2:I x m):cP (aO prog w) A E s (if c then pure (.done (ab,x)) else pure (.yield (ab,x)):StateT bT fV (ForInStep (q9 ρ))) (MgT κ a b I st0 n m) st:=by
 split
 ·exact cK ⟨hG,.inr ⟨rfl,h1⟩⟩
 ·exact cK ⟨hG,rfl,h2⟩
theorem qS {α:Type}[Decidable c]{t e:StateT bT fV α}{Q:α->bT->Prop}{st:bT}(ht:c->cP (aO prog w) A E s t Q st)(he:¬ c->cP (aO prog w) A E s e Q st):cP (aO prog w) A E s (if c then t else e) Q st:=by
 split
 ·exact ht ‹_›
 ·exact he ‹_›
theorem jZ {α:Type}{t e:StateT bT fV α}{Q:α->bT->Prop}(ht:m=n->cP (aO prog w) A E s t Q st)(he:¬ m=n->cP (aO prog w) A E s e Q st):cP (aO prog w) A E s (if (m==n)=ae then t else e) Q st:=
 qS (fun h=>ht (by simpa using h)) fun h=>he (by simpa using h)
theorem wM {ρ:Type}{I:v9 ρ}{f:Nat->q9 ρ->StateT bT fV (ForInStep (q9 ρ))}{N:Nat}{n0:Nat->Nat}{c:q9 ρ}{Q:q9 ρ->bT->Prop}(hN:∀ {o},I o (n0 N)->I o k)
  (hf:∀ x c st,x<N->SameG st0 st->I c.2 (n0 x)->cP (aO prog w) A E s (f x c) (MgT κ a b I st0 k (n0 (x+1))) st)
  (hG:SameG st0 st) (hI:xf I (n0 0) c) (h:∀ c ak,SameG st0 ak->N8 κ a b c\/xf I k c->Q c ak):cP (aO prog w) A E s (forIn [:N] c f) Q st:=by
 refine sJ (pX (I:=fun x c st=>SameG st0 st/\xf I (n0 x) c) (Q:=fun c st=>SameG st0 st/\(N8 κ a b c\/xf I k c)) (fun x c st _ hx hc=>sJ (hf x c st hx hc.1 hc.2.2) ?_) ?_ ⟨hG,hI⟩) fun c st h'=>h c st h'.1 h'.2
 ·intro r ak h;cases r with
  |done c=>exact h
  |yield c=>exact h
 ·rw[Nat.max_eq_right (dU _)];exact fun c st h=>⟨h.1,.inr ⟨h.2.1,hN h.2.2⟩⟩
def N7 (κ:gX)(a b out:Array aW)(ia ib n:Nat):Prop:=LI κ a b out ia ib/\ia+1<a.size/\ib<b.size/\n≤ia+ib
def LoN (κ:gX)(a b:Array aW){τ:Type}:v9 (Array aW×Nat×Nat×τ):=fun c n=>N7 κ a b c.1 c.2.1 c.2.2.1 n
section
variable {ac bc:Nat}
theorem MgT.lo[Decidable c]{τ:Type}{x:τ}(hG:SameG st0 st)(L:LI κ a b out ia ib)(h1:ia+1<a.size)(h2:ib<b.size)(h3:n≤ia+ib)(h4:m≤ia+ib):cP (aO prog w) A E s (if c then pure (.done (ab,out,ia,ib,x)) else pure (.yield (ab,out,ia,ib,x)):StateT bT fV (ForInStep (A4 τ))) (MgT κ a b (LoN κ a b) st0 n m) st:=MgT.if_ hG ⟨L,h1,h2,h3⟩ ⟨L,h1,h2,h4⟩
theorem Ly (hC:iQ prog w A s κ kd)(P:MPre κ a b)(hk:kindOf st0=kd)(hG:SameG st0 st)(h:N7 κ a b out ia ib n)(hm:m≤n+1):cP (aO prog w) A E s (loA a b g out ia ib ac bc) (MgT κ a b (LoN κ a b) st0 m (n+1)) st:=by
 obtain⟨L,h1,h2,h3⟩:=h;obtain⟨p,ep,kf,mp,kp⟩:=at_ (κ:=κ) b h2;obtain⟨q,eq,qv,mq,kq⟩:=at_ (κ:=κ) a (show ia<a.size by omega)
 refine bK (iN ep (bK (iN eq (bK (zI hC (hG.kind.trans hk) (P.kb p mp) (P.ka q mq) ?_)))));refine qS (fun hb=>?_) fun hb=>?_
 ·refine bK (iN ep ?_);have L':=EU L kf fun i hi1 jc=>by
   refine kG (oG hb) ?_;rw[← kq];exact P.sa ia i (dU _) hi1 jc
  exact jZ (fun d1=>cK (.rd hG (DP L' (by omega)))) fun d1=>MgT.lo hG L' h1 (by omega) (by omega) (by omega)
 ·refine bK (iN eq ?_);have L':=SL L qv fun j qw sn=>by
   refine kG (show κ.kle (ky κ q) (ky κ p) from Bool.of_not_eq_true hb) ?_
   rw[← kp];exact P.sb ib j (dU _) qw sn
  exact jZ (fun d1=>cK (.rd hG (DM P L' d1))) fun d1=>MgT.lo hG L' (by omega) h2 (by omega) (by omega)
theorem RK (P:MPre κ a b)(hG:SameG st0 st)(L:LI κ a b out ia ib)(h1:ia+1<a.size)(h2:ib<b.size)(hx:∀ j,ib≤j->j<b.size->κ.kle (KK κ a ia) (KK κ b j))(h3:n≤ia+ib):cP (aO prog w) A E s (O3 a b g ac bc out ia ib) (MgT κ a b (LoN κ a b) st0 n n) st:=by
 obtain⟨q,eq,qv,mq,kq⟩:=at_ (κ:=κ) a (show ia<a.size by omega)
 rw[kq] at hx;have M3:=SL L qv hx;exact bK (iN eq (jZ (fun d=>cK (.rd hG (DM P M3 d))) fun d=>MgT.lo hG M3 (by omega) h2 (by omega) (by omega)))
theorem Aq (hC:iQ prog w A s κ kd)(P:MPre κ a b)(hk:kindOf st0=kd)(hG:SameG st0 st)(L:LI κ a b out ia ib)(h1:ia+1<a.size)(h2:ib<b.size)(hx:∀ i,ia≤i->i<a.size->κ.kle (KK κ b ib) (KK κ a i))(h3:n≤ia+ib):cP (aO prog w) A E s (O1 a b g ac bc out ia ib) (MgT κ a b (LoN κ a b) st0 n n) st:=by
 obtain⟨p,ep,kf,mp,kp⟩:=at_ (κ:=κ) b h2;obtain⟨q,eq,qv,mq,kq⟩:=at_ (κ:=κ) a (show ia<a.size by omega)
 rw[kp] at hx;have L3:=EU L kf hx;refine bK (iN ep (jZ (fun d=>cK (.rd hG (DP L3 (by omega)))) fun d=>bK (iN eq (bK (wQ (κ:=κ) hC (hG.kind.trans hk) P.kb (P.ka q mq) (fun i j a1 a2 a3=>P.sb i j (dU _) a2 (by omega)) (by omega) (by omega) fun k T0 qy C6=>?_)))))
 have f2:∀ j,ib+1+k≤j->j<b.size->κ.kle (KK κ a ia) (KK κ b j):=fun j qw sn=>by
  have:=C6 (j-(ib+1)) (by omega) (by omega)
  rw[show ib+1+(j-(ib+1))=j by omega] at this
  rw[kq];exact(show κ.blt (KK κ b j) (ky κ q)=af by simpa [gv] using this)
 refine qS (fun vk=>?_) fun vk=>?_
 ·have L4:=Aj (k:=k) L3 fun j qw sn i hi1 jc=>by
   have:=qy j qw;refine kG (oG (show κ.blt (KK κ b (ib+1+j)) (ky κ q)=ae by simpa [gv] using this)) ?_
   rw[← kq];exact P.sa ia i (dU _) hi1 jc
  exact jZ (fun d=>cK (.rd hG (DP L4 (by omega)))) fun d=>RK P hG L4 h1 (by omega) f2 (by omega)
 ·have:k=0:=by omega
  rw[25];exact RK P hG L3 h1 (by omega) f2 (by omega)
theorem Am (hC:iQ prog w A s κ kd)(P:MPre κ a b)(hk:kindOf st0=kd)(hG:SameG st0 st)(h:N7 κ a b out ia ib n):cP (aO prog w) A E s (lo1 a b out ia ib ac bc g) (MgT κ a b (LoN κ a b) st0 n n) st:=by
 obtain⟨L,h1,h2,h3⟩:=h;obtain⟨p,ep,kf,mp,kp⟩:=at_ (κ:=κ) b h2;refine bK (EN hG fun j2 hG=>bK (iN ep (bK (wQ (κ:=κ) hC (hG.kind.trans hk) P.ka (P.kb p mp) (fun i j a1 a2 a3=>P.sa i j (dU _) a2 (by omega)) (by omega) (by omega) fun k TW ud wE=>?_))))
 have g2:∀ i,ia+k≤i->i<a.size->κ.kle (KK κ b ib) (KK κ a i):=fun i hi1 jc=>by
  have:=wE (i-ia) (by omega) (by omega)
  rw[show ia+(i-ia)=i by omega] at this
  rw[kp];exact oG (show κ.klt _ _ by simpa [gv,KeyOrd.klt] using this)
 refine qS (fun vk=>?_) fun vk=>?_
 ·have L1:=Lc (k:=k) L fun i hi1 jc j qw sn=>by
   have:=ud i hi1;refine kG (show κ.blt (ky κ p) (KK κ a (ia+i))=af by simpa [gv] using this) ?_
   rw[← kp];exact P.sb ib j (dU _) qw sn
  exact jZ (fun d=>cK (.rd hG (DM P L1 d))) fun d1=>jZ (fun d=>cK (.rd hG (Lv L1 (by omega)))) fun d=>Aq hC P hk hG L1 (by omega) h2 g2 (by omega)
 ·have:k=0:=by omega
  rw[25];exact Aq hC P hk hG L h1 h2 g2 (by omega)
theorem LoN.up {n n':Nat}{τ:Type}(q:n'≤n){o:Array aW×Nat×Nat×τ}(h:LoN κ a b o n):LoN κ a b o n':=⟨h.1,h.2.1,h.2.2.1,jV q h.2.2.2⟩
end
theorem Pv{Q:Array aW->bT->Prop}(hC:iQ prog w A s κ kd)(P:MPre κ a b)(hk:kindOf st=kd)(h:∀ r ak,SameG st ak->m4 κ a b r->Q r ak):cP (aO prog w) A E s (TK a b) Q st:=by
 have na:=P.na;have nb:=P.nb;obtain⟨p0,e0,K0,m0,k0⟩:=at_ (κ:=κ) b nb;have L0:LI κ a b #[p0] 0 1:=by
  have h0:LI κ a b #[] 0 0:=⟨by simp,by simpa using FW P.sa,by simpa using FW P.sb⟩
  refine EU h0 K0 fun i _ hi=>?_
  rw[← k0];exact kG (oG P.first) (P.sa 0 i (dU _) (dU _) hi)
 show cP _ _ _ _ (_>>=_) _ _;refine bK (uH (lG ⟨rfl,?_⟩));refine bK (iN e0 ?_);refine jZ (fun c=>cK (h _ st (.refl st) (DP L0 (by omega)))) fun c1=>?_
 refine jZ (fun c=>cK (h _ st (.refl st) (DM P L0 c))) fun c2=>?_
 refine bK (pW ?_);have z1:0+1<a.size:=by omega
 have z2:1<b.size:=by omega
 refine bK (wM (κ:=κ) (a:=a) (b:=b) (I:=LoN κ a b) (st0:=st) (k:=a.size+b.size) (n0:=fun x=>x) id (fun n c ak _ hG hc=>?_) (.refl st) ⟨rfl,L0,z1,z2,dU _⟩ fun c ak hG hd=>?_)
 ·refine bK (wM (κ:=κ) (a:=a) (b:=b) (I:=LoN κ a b) (st0:=st) (k:=n+1) (n0:=fun x=>n+x) (LoN.up (by omega)) (fun x c st hx hG h=>Ly hC P hk hG h (Nat.succ_le_succ (HA n x))) hG ⟨rfl,hc⟩ fun d st hG hd=>?_)
  rcases d with⟨_|r,d⟩
  ·rw[7]
   ·rw[30]
   refine bK (uH (lG ⟨rfl,?_⟩));refine bK (wM (κ:=κ) (a:=a) (b:=b) (I:=LoN κ a b) (k:=n+1) (n0:=fun _=>n+1) id (fun x c st hx hG h=>qS (fun _=>Am hC P hk hG h) fun _=>Am hC P hk hG h) hG ⟨rfl,hd⟩ fun d st hG hd=>?_)
   rcases d with⟨_|r,d⟩
   ·rw[7]
    ·rw[30]
    refine bK (EN hG fun st hG=>cK ⟨hG,rfl,hd⟩)
   ·rw[7]
    ·rw[30];exact cK (.rd hG hr)
    ·rw[30]
  ·rw[7]
   ·rw[30];exact cK (.rd hG hr)
   ·rw[30]
 ·rcases c with⟨_|r,c⟩
  ·rw[7]
   ·rw[30]
   obtain⟨_,d1,d2,d3⟩:=hd;omega
  ·rw[7]
   ·rw[30];exact cK (h _ ak hG hr)
   ·rw[30]
end
end
def SH:Array aW->Array aW->StateT bT fV (Array aW):=sortPriv% PySem.Builtin.mergeHi
section
variable {κ:gX}
section
variable {a b:Array aW}
abbrev HI (κ:gX)(a b:Array aW)(out:Array aW)(na nb:Nat):Prop:=HiI κ a.toList b.toList out.toList.reverse na nb
theorem tL (a:Array aW)(m n:Nat):(a.extract m n).toList=(a.toList.take n).drop m:=by
 rw[Do,Cu,List.drop_take]
theorem zJ(h:HI κ a b out na nb)(hz:na=0\/nb=0):m4 κ a b (a.extract 0 na++b.extract 0 nb++out.reverse):=by
 unfold m4;rw[pL,pL,tL,tL,Dm,HM,HM];rcases hz with rfl|rfl
 ·have:=h.endA (by simp)
  rw[List.take_zero,BU];rw[29]
 ·have:=h.endB (by simp)
  rw[List.take_zero,rG];rw[29]
theorem EL(P:MPre κ a b)(h:HI κ a b out na nb)(hb:nb=1):m4 κ a b (b.extract 0 nb++a.extract 0 na++out.reverse):=by
 subst hb;have h2:=h.extA 0 (dU _) fun x mx y my=>by
  obtain⟨i,_,_,ei⟩:=ZV mx;obtain⟨j,hj,ej⟩:=KM my;have:j=0:=by omega
  rw[25];have hi:i<a.size:=by simpa using(dD.mp ei).1
  have:=kG (oG P.first) (P.sa 0 i (dU _) (dU _) hi)
  rw[lx ej,lx ei] at this;rw[29]
 have:=h2.endA (by simp)
 unfold m4;rw[pL,pL,tL,tL,Dm,HM,mF];rw[29]
theorem WC {l:List aW}(h:l[n]?=aa p):(l.take (n+1)).drop n=[p]:=by
 obtain⟨hn,e⟩:=dD.mp h;rw[List.drop_take,(drop_cons h).2,show n+1-n=1 by omega]
 rfl
theorem KF(h:HI κ a b out (na+1) nb)(e:a.toList[na]?=aa p)(hx:∀ j,j<nb->j<b.size->κ.kle (KK κ b j) (ky κ p)):HI κ a b (out.push p) na nb:=by
 have:=h.extA na (GZ _) fun x mx y my=>by
  rw[WC e] at mx;rw[eB.mp mx];obtain⟨j,hj,ej⟩:=KM my;have:=hx j hj (by simpa using(dD.mp ej).1)
  rw[lx ej] at this;rw[29]
 rw[WC e] at this;show HiI κ _ _ (out.push p).toList.reverse _ _;rw[CF,List.reverse_append];rw[29]
theorem Wp(h:HI κ a b out na (nb+1))(e:b.toList[nb]?=aa p)(hx:∀ i,i<na->i<a.size->κ.kle (KK κ a i) (ky κ p)):HI κ a b (out.push p) na nb:=(KF (a:=b) (b:=a) h.swap e hx).swap
theorem Bl(h:HI κ a b out na nb)(hm:m≤na)(hx:∀ i,m≤i->i<na->i<a.size->∀ j,j<nb->j<b.size->κ.kle (KK κ b j) (KK κ a i)):HI κ a b (out++(a.extract m na).reverse) m nb:=by
 have:=h.extA m hm fun x mx y my=>by
  obtain⟨i,hi1,jc,ei⟩:=ZV mx;obtain⟨j,hj,ej⟩:=KM my;have:=hx i hi1 jc (by simpa using(dD.mp ei).1) j hj (by simpa using(dD.mp ej).1)
  rw[lx ej,lx ei] at this;rw[29]
 show HiI κ _ _ (out++(a.extract m na).reverse).toList.reverse _ _;rw[pL,List.reverse_append,Dm,List.reverse_reverse,tL];rw[29]
theorem Js(h:HI κ a b out na nb)(hm:m≤nb)(hx:∀ j,m≤j->j<nb->j<b.size->∀ i,i<na->i<a.size->κ.kle (KK κ a i) (KK κ b j)):HI κ a b (out++(b.extract m nb).reverse) na m:=(Bl (a:=b) (b:=a) h.swap hm hx).swap
theorem Ba(h:HI κ a b out na nb)(h0:0<na)(e:a.toList[na-1]?=aa p)(hx:∀ j,j<nb->j<b.size->κ.kle (KK κ b j) (ky κ p)):HI κ a b (out.push p) (na-1) nb:=KF (by rw[Nat.sub_add_cancel h0];exact h) e hx
theorem Ap(h:HI κ a b out na nb)(h0:0<nb)(e:b.toList[nb-1]?=aa p)(hx:∀ i,i<na->i<a.size->κ.kle (KK κ a i) (ky κ p)):HI κ a b (out.push p) na (nb-1):=Wp (by rw[Nat.sub_add_cancel h0];exact h) e hx
def wj (a b out:Array aW)(na nb:Nat):Array aW:=a.extract 0 na++b.extract 0 nb++out.reverse
def N' (a b out:Array aW)(na nb:Nat):Array aW:=b.extract 0 nb++a.extract 0 na++out.reverse
abbrev A3 (τ:Type):=q9 (Nat×Nat×Array aW×τ)
def hiA (a b:Array aW)(g:Nat)(na nb:Nat)(out:Array aW)(ac bc:Nat):StateT bT fV (ForInStep (A3 (Nat×Nat))):=
 kL b (nb-1)>>=fun p=>kL a (na-1)>>=fun q=>lt' p q>>=fun x=>match x with
 |some v=>if v=ae then kL a (na-1)>>=fun q=>if (na-1==0)=ae then pure (.done (aa (wj a b (out.push q) (na-1) nb),na-1,nb,out.push q,ac+1,0)) else if ac+1 ≥ g then pure (.done (ab,na-1,nb,out.push q,ac+1,0)) else pure (.yield (ab,na-1,nb,out.push q,ac+1,0))
  else kL b (nb-1)>>=fun p=>if (nb-1==1)=ae then pure (.done (aa (N' a b (out.push p) na (nb-1)),na,nb-1,out.push p,0,bc+1)) else if bc+1 ≥ g then pure (.done (ab,na,nb-1,out.push p,0,bc+1)) else pure (.yield (ab,na,nb-1,out.push p,0,bc+1))
 |_=>pure (.done (aa (wj a b out na nb),na,nb,out,ac,bc))
def xg (a b:Array aW)(g ac bc na nb:Nat)(out:Array aW):StateT bT fV (ForInStep (A3 (Nat×Nat×Nat))):=
 kL a (na-1)>>=fun q=>if (na-1==0)=ae then pure (.done (aa (wj a b (out.push q) (na-1) nb),na-1,nb,out.push q,g,ac,bc)) else if (decide (ac<7)&&decide (bc<7))=ae then pure (.done (ab,na-1,nb,out.push q,g,ac,bc)) else pure (.yield (ab,na-1,nb,out.push q,g,ac,bc))
def jc (a b:Array aW)(g ac bc na nb:Nat)(out:Array aW):StateT bT fV (ForInStep (A3 (Nat×Nat×Nat))):=
 kL b (nb-1)>>=fun p=>if (nb-1==1)=ae then pure (.done (aa (N' a b (out.push p) na (nb-1)),na,nb-1,out.push p,g,ac,bc)) else kL a (na-1)>>=fun q=>tT ae q b 0 (nb-1) (nb-1-1)>>=fun x=>match x with
 |some r=>if nb-1-r > 0 then(if (r==1)=ae then pure (.done (aa (N' a b (out.push p++(b.extract r (nb-1)).reverse) na r),na,r,out.push p++(b.extract r (nb-1)).reverse,g,ac,nb-1-r)) else if (r==0)=ae then pure (.done (aa (wj a b (out.push p++(b.extract r (nb-1)).reverse) na r),na,r,out.push p++(b.extract r (nb-1)).reverse,g,ac,nb-1-r)) else xg a b g ac (nb-1-r) na r (out.push p++(b.extract r (nb-1)).reverse)) else xg a b g ac (nb-1-r) na (nb-1) (out.push p)
 |_=>pure (.done (aa (wj a b (out.push p) na (nb-1)),na,nb-1,out.push p,g,ac,bc))
def hi1 (a b:Array aW)(na nb:Nat)(out:Array aW)(ac bc g:Nat):StateT bT fV (ForInStep (A3 (Nat×Nat×Nat))):=
 MS g>>=fun _=>kL b (nb-1)>>=fun p=>tT af p a 0 na (na-1)>>=fun x=>match x with
 |some r=>if na-r > 0 then(if (r==0)=ae then pure (.done (aa (wj a b (out++(a.extract r na).reverse) r nb),r,nb,out++(a.extract r na).reverse,g,na-r,bc)) else jc a b g (na-r) bc r nb (out++(a.extract r na).reverse)) else jc a b g (na-r) bc na nb out
 |_=>pure (.done (aa (wj a b out na nb),na,nb,out,g,ac,bc))
def N5 (κ:gX)(a b:Array aW)(na nb:Nat)(out:Array aW)(n:Nat):Prop:=HI κ a b out na nb/\0<na/\na≤a.size/\1<nb/\nb≤b.size/\n+na+nb≤a.size+b.size
def HiN (κ:gX)(a b:Array aW){τ:Type}:v9 (Nat×Nat×Array aW×τ):=fun c n=>N5 κ a b c.1 c.2.1 c.2.2.1 n
section
variable {ac bc:Nat}
theorem MgT.hi[Decidable c]{τ:Type}{x:τ}(hG:SameG st0 st)(L:HI κ a b out na nb)(h1:0<na/\na≤a.size)(h2:1<nb/\nb≤b.size)(h3:n+na+nb≤a.size+b.size/\m+na+nb≤a.size+b.size):cP (aO prog w) A E s (if c then pure (.done (ab,na,nb,out,x)) else pure (.yield (ab,na,nb,out,x)):StateT bT fV (ForInStep (A3 τ))) (MgT κ a b (HiN κ a b) st0 n m) st:=MgT.if_ hG ⟨L,h1.1,h1.2,h2.1,h2.2,h3.1⟩ ⟨L,h1.1,h1.2,h2.1,h2.2,h3.2⟩
theorem Tz (hC:iQ prog w A s κ kd)(P:MPre κ a b)(hk:kindOf st0=kd)(hG:SameG st0 st)(h:N5 κ a b na nb out n)(hm:m≤n+1):cP (aO prog w) A E s (hiA a b g na nb out ac bc) (MgT κ a b (HiN κ a b) st0 m (n+1)) st:=by
 obtain⟨L,h1,h2,h3,h4,h5⟩:=h;obtain⟨p,ep,kf,mp,kp⟩:=at_ (κ:=κ) b (show nb-1<b.size by omega)
 obtain⟨q,eq,qv,mq,kq⟩:=at_ (κ:=κ) a (show na-1<a.size by omega)
 refine bK (iN ep (bK (iN eq (bK (zI hC (hG.kind.trans hk) (P.kb p mp) (P.ka q mq) ?_)))));refine qS (fun hb=>?_) fun hb=>?_
 ·refine bK (iN eq ?_);have L':=Ba L h1 qv fun j qw sn=>by
   refine kG ?_ (oG hb);rw[← kp];exact P.sb j (nb-1) (dU _) (by omega) (by omega)
  exact jZ (fun d=>cK (.rd hG (zJ L' (.inl d)))) fun d=>MgT.hi hG L' (by omega) (by omega) (by omega)
 ·refine bK (iN ep ?_);have L':=Ap L (by omega) kf fun i hi1 jc=>by
   refine kG ?_ (show κ.kle (ky κ q) (ky κ p) from Bool.of_not_eq_true hb)
   rw[← kq];exact P.sa i (na-1) (dU _) (by omega) (by omega)
  exact jZ (fun d=>cK (.rd hG (EL P L' d))) fun d=>MgT.hi hG L' (by omega) (by omega) (by omega)
theorem As (hG:SameG st0 st)(L:HI κ a b out na nb)(h1:0<na/\na≤a.size)(h2:1<nb/\nb≤b.size)(hx:∀ j,j<nb->κ.kle (KK κ b j) (KK κ a (na-1)))(h3:n+na+nb≤a.size+b.size):cP (aO prog w) A E s (xg a b g ac bc na nb out) (MgT κ a b (HiN κ a b) st0 n n) st:=by
 obtain⟨q,eq,qv,mq,kq⟩:=at_ (κ:=κ) a (show na-1<a.size by omega)
 rw[kq] at hx;have M3:=Ba L h1.1 qv fun j hj _=>hx j hj
 exact bK (iN eq (jZ (fun d=>cK (.rd hG (zJ M3 (.inl d)))) fun d=>MgT.hi hG M3 (by omega) h2 (by omega)))
theorem RE (hC:iQ prog w A s κ kd)(P:MPre κ a b)(hk:kindOf st0=kd)(hG:SameG st0 st)(L:HI κ a b out na nb)(h1:0<na/\na≤a.size)(h2:1<nb/\nb≤b.size)(hx:∀ i,i<na->κ.kle (KK κ a i) (KK κ b (nb-1)))(h3:n+na+nb≤a.size+b.size):cP (aO prog w) A E s (jc a b g ac bc na nb out) (MgT κ a b (HiN κ a b) st0 n n) st:=by
 obtain⟨p,ep,kf,mp,kp⟩:=at_ (κ:=κ) b (show nb-1<b.size by omega)
 obtain⟨q,eq,qv,mq,kq⟩:=at_ (κ:=κ) a (show na-1<a.size by omega)
 rw[kp] at hx;have L3:=Ap L (by omega) kf fun i hi _=>hx i hi
 refine bK (iN ep (jZ (fun d=>cK (.rd hG (EL P L3 d))) fun d=>bK (iN eq (bK (wQ (κ:=κ) hC (hG.kind.trans hk) P.kb (P.ka q mq) (fun i j a1 a2 a3=>P.sb i j (dU _) a2 (by omega)) (by omega) (by omega) fun r T0 qy C6=>?_)))))
 have f1:∀ j,j<r->κ.kle (KK κ b j) (KK κ a (na-1)):=fun j hj=>by
  have:=qy j hj;rw[NW] at this;rw[kq];exact oG (show κ.blt (KK κ b j) (ky κ q)=ae by simpa [gv] using this)
 refine qS (fun vk=>?_) fun vk=>?_
 ·have L4:=Js (m:=r) L3 T0 fun j qw sn hj3 i hi1 jc=>by
   have:=C6 j qw sn;rw[NW] at this;refine kG ?_ (show κ.blt (KK κ b j) (ky κ q)=af by simpa [gv] using this)
   rw[← kq];exact P.sa i (na-1) (dU _) (by omega) (by omega)
  exact jZ (fun d=>cK (.rd hG (EL P L4 d))) fun d1=>jZ (fun d=>cK (.rd hG (zJ L4 (.inr d)))) fun d=>As hG L4 h1 (by omega) f1 (by omega)
 ·have:r=nb-1:=by omega
  rw[this] at f1;exact As hG L3 h1 (by omega) f1 (by omega)
theorem Be (hC:iQ prog w A s κ kd)(P:MPre κ a b)(hk:kindOf st0=kd)(hG:SameG st0 st)(h:N5 κ a b na nb out n):cP (aO prog w) A E s (hi1 a b na nb out ac bc g) (MgT κ a b (HiN κ a b) st0 n n) st:=by
 obtain⟨L,h1,h2,h3,h4,h5⟩:=h;obtain⟨p,ep,kf,mp,kp⟩:=at_ (κ:=κ) b (show nb-1<b.size by omega)
 refine bK (EN hG fun j2 hG=>bK (iN ep (bK (wQ (κ:=κ) hC (hG.kind.trans hk) P.ka (P.kb p mp) (fun i j a1 a2 a3=>P.sa i j (dU _) a2 (by omega)) (by omega) (by omega) fun r oy oz K1=>?_))))
 have g1:∀ i,i<r->κ.kle (KK κ a i) (KK κ b (nb-1)):=fun i hi=>by
  have:=oz i hi;rw[NW] at this;rw[kp];exact(show κ.blt (ky κ p) (KK κ a i)=af by simpa [gv] using this)
 refine qS (fun vk=>?_) fun vk=>?_
 ·have L1:=Bl (m:=r) L oy fun i hi1 jc xg j qw sn=>by
   have:=K1 i hi1 jc;rw[NW] at this;refine kG ?_ (oG (show κ.blt (ky κ p) (KK κ a i)=ae by simpa [gv] using this))
   rw[← kp];exact P.sb j (nb-1) (dU _) (by omega) (by omega)
  exact jZ (fun d=>cK (.rd hG (zJ L1 (.inl d)))) fun d=>RE hC P hk hG L1 (by omega) ⟨h3,h4⟩ g1 (by omega)
 ·have:r=na:=by omega
  rw[this] at g1;exact RE hC P hk hG L ⟨h1,h2⟩ ⟨h3,h4⟩ g1 h5
theorem HiN.up {n n':Nat}{τ:Type}(q:n'≤n){o:Nat×Nat×Array aW×τ}(h:HiN κ a b o n):HiN κ a b o n':=⟨h.1,h.2.1,h.2.2.1,h.2.2.2.1,h.2.2.2.2.1,jV (Nat.add_le_add_right (Nat.add_le_add_right q _) _) h.2.2.2.2.2⟩
end
theorem Pu{Q:Array aW->bT->Prop}(hC:iQ prog w A s κ kd)(P:MPre κ a b)(hk:kindOf st=kd)(h:∀ r ak,SameG st ak->m4 κ a b r->Q r ak):cP (aO prog w) A E s (SH a b) Q st:=by
 have na0:=P.na;have nb0:=P.nb;obtain⟨p0,e0,K0,m0,k0⟩:=at_ (κ:=κ) a (show a.size-1<a.size by omega)
 have L0:HI κ a b #[p0] (a.size-1) b.size:=by
  have h0:HI κ a b #[] (a.size-1+1) b.size:=by
   refine⟨?_,?_,?_⟩
   ·rw[show a.size-1+1=a.size by omega,BZ (by simp),BZ (by simp)]
    simp
   ·rw[show a.size-1+1=a.size by omega,uT (by simp)]
    simpa using FW P.sa
   ·rw[uT (by simp)]
    simpa using FW P.sb
  refine KF h0 K0 fun j _ hj=>?_
  rw[← k0];exact P.last j hj
 show cP _ _ _ _ (_>>=_) _ _;refine bK (uH (lG ⟨rfl,?_⟩));refine bK (iN e0 ?_);refine jZ (fun c=>cK (h _ st (.refl st) (zJ L0 (.inl c)))) fun c1=>?_
 refine jZ (fun c=>cK (h _ st (.refl st) (EL P L0 c))) fun c2=>?_
 refine bK (pW ?_);have z1:0<a.size-1:=by omega
 have z2:a.size-1≤a.size:=by omega
 have z3:1<b.size:=by omega
 have z4:0+(a.size-1)+b.size≤a.size+b.size:=by omega
 refine bK (wM (κ:=κ) (a:=a) (b:=b) (I:=HiN κ a b) (st0:=st) (k:=a.size+b.size) (n0:=fun x=>x) id (fun n c ak _ hG hc=>?_) (.refl st) ⟨rfl,L0,z1,z2,z3,bZ _,z4⟩ fun c ak hG hd=>?_)
 ·refine bK (wM (κ:=κ) (a:=a) (b:=b) (I:=HiN κ a b) (st0:=st) (k:=n+1) (n0:=fun x=>n+x) (HiN.up (by omega)) (fun x c st hx hG h=>Tz hC P hk hG h (Nat.succ_le_succ (HA n x))) hG ⟨rfl,hc⟩ fun d st hG hd=>?_)
  rcases d with⟨_|r,d⟩
  ·rw[7]
   ·rw[30]
   refine bK (uH (lG ⟨rfl,?_⟩));refine bK (wM (κ:=κ) (a:=a) (b:=b) (I:=HiN κ a b) (k:=n+1) (n0:=fun _=>n+1) id (fun x c st hx hG h=>qS (fun _=>Be hC P hk hG h) fun _=>Be hC P hk hG h) hG ⟨rfl,hd⟩ fun d st hG hd=>?_)
   rcases d with⟨_|r,d⟩
   ·rw[7]
    ·rw[30]
    refine bK (EN hG fun st hG=>cK ⟨hG,rfl,hd⟩)
   ·rw[7]
    ·rw[30];exact cK (.rd hG hr)
    ·rw[30]
  ·rw[7]
   ·rw[30];exact cK (.rd hG hr)
   ·rw[30]
 ·rcases c with⟨_|r,c⟩
  ·rw[7]
   ·rw[30]
   obtain⟨_,d1,d2,d3,d4,d5⟩:=hd;omega
  ·rw[7]
   ·rw[30];exact cK (h _ ak hG hr)
   ·rw[30]
end
end
section
variable {κ:gX}
theorem Tj {ak:bT}{Q:PUnit->bT->Prop}(h:Q ⟨⟩ ak):cP (aO prog w) A E s (set ak:StateT bT fV PUnit) Q st:=by
 unfold cP;rw[StateT.run_set];exact aQ ⟨rfl,h⟩
def qm (xs:Array aW)(p:Nat)(r:Array aW):Array aW:=r.toList.zipIdx.foldl (fun a (q,j)=>a.setIfInBounds (p+j) q) xs
theorem QX (p:Nat):∀ (R:List aW) (j0:Nat) (xs:Array aW),p+j0+R.length≤xs.size->∀ t:Nat,((R.zipIdx j0).foldl (fun(a:Array aW) (q,j)=>a.setIfInBounds (p+j) q) xs)[t]?=if p+j0≤t/\t<p+j0+R.length then R[t-(p+j0)]? else xs[t]?
 |[],j0,xs,_,t=>by
  rw[Cf,List.foldl_nil,if_neg (by simp)]
 |x::R,j0,xs,h,t=>by
  rw[Cg,oF,QX p R (j0+1) _ (by simp at h ⊢;omega)]
  simp only[iB] at h ⊢;by_cases h1:p+(j0+1)≤t/\t<p+(j0+1)+R.length
  ·rw[if_pos h1,if_pos (by omega),show t-(p+j0)=(t-(p+(j0+1)))+1 by omega,pJ]
  ·rw[if_neg h1,Zx];by_cases h2:p+j0=t
   ·rw[if_pos h2,if_pos (by omega),if_pos (by omega),show t-(p+j0)=0 by omega]
    rfl
   ·rw[if_neg h2,if_neg (by omega)]
theorem CV{p:Nat}(h:p+r.size≤xs.size)(t:Nat):(qm xs p r)[t]?=if p≤t/\t<p+r.size then r[t-p]? else xs[t]?:=by
 have:=QX p r.toList 0 xs (by simpa using h) t
 unfold qm;rw[this];simp
theorem Xa{p:Nat}(h:p+r.size≤xs.size)(hp:r.toList.Perm ((xs.toList.drop p).take r.size)):(qm xs p r).Perm xs:=by
 rw[yI];have e:(qm xs p r).toList=xs.toList.take p++(r.toList++xs.toList.drop (p+r.size)):=by
  refine BY fun t=>?_
  have:=CV h t;rw[lX,this];by_cases h1:t<p
  ·rw[if_neg (by omega),yA (by simp;omega),OJ,if_pos h1]
   simp
  ·rw[uW (by simp;omega),pI,xR (by simp;omega)]
   by_cases h2:t<p+r.size
   ·rw[if_pos ⟨by omega,h2⟩,yA (by simp;omega)]
    simp
   ·rw[if_neg (by omega),uW (by simp;omega),HH]
    simp only[jE];rw[show p+r.size+(t-p-r.size)=t by omega]
    simp
 have e2:xs.toList=xs.toList.take p++((xs.toList.drop p).take r.size++xs.toList.drop (p+r.size)):=by
  rw[← Cw,mY,mY]
 rw[e]
 conv=>rhs;rw[e2]
 exact(hp.append_right _).append_left _
theorem ZK(h:i+k<j)(hj:j≤xs.size):KK κ (xs.extract i j) k=KK κ xs (i+k):=KK_congr (by
 rw[Array.getElem?_extract,if_pos (by omega)])
theorem Qb{sa sb p1 p2:Nat}{Q:Bool->bT->Prop}(hC:iQ prog w A s κ kd)(h0:KeysOf κ a₀)(hB:TB kd a₀ st)(e1:(cY st)[i]?=aa (sa,na,p1))(e2:(cY st)[i+1]?=aa (sb,nb,p2))(hs:sb=sa+na)(hn:sb+nb≤a₀.size)(ha:0<na)(hb:0<nb)
  (sA:fY κ (bC st) sa (sa+na)) (sB:fY κ (bC st) sb (sb+nb))
  (h:∀ ak,TB kd a₀ ak->cY ak=((cY st).setIfInBounds i (sa,na+nb,p1)).eraseIdxIfInBounds (i+1)->(∀ k,k<sa\/sb+nb≤k->(bC ak)[k]?=(bC st)[k]?)->fY κ (bC ak) sa (sb+nb)->Q ae ak):cP (aO prog w) A E s (mergeAt' i) Q st:=by
 show cP _ _ _ _ (_>>=_) _ _;refine bK (pW ?_);rw[show(sortPriv% PySem.Builtin.SortState.pending) st=cY st from rfl,e1,e2]
 rw[13]
 let arr:=bC st
 have hsz:arr.size=a₀.size:=hB.size;have gg:∀ p∈arr.toList,κ.keyOf p.1=aa (ky κ p):=fun p m=>IR h0 ((yI.mp hB.perm).mem_iff.mp m)
 refine bK (Tj ?_);obtain⟨p,ep,kf,mp,kp⟩:=at_ (κ:=κ) arr (show sb<arr.size by omega)
 refine bK (iN ep ?_);refine bK ?_
 change cP _ _ _ _ (tT af p arr sa na 0) _ _
 refine wQ (κ:=κ) hC hB.kind gg (gg p mp) sA (by omega) (by omega) fun k TW ud wE=>?_
 rw[13];have g1:∀ t,sa≤t->t<sa+k->κ.kle (KK κ arr t) (KK κ arr sb):=fun t sh K2=>by
  have:=ud (t-sa) (by omega)
  rw[show sa+(t-sa)=t by omega,← kp] at this
  exact(show κ.blt (KK κ arr sb) (KK κ arr t)=af by simpa [gv] using this)
 have g2:∀ t,sa+k≤t->t<sb->κ.klt (KK κ arr sb) (KK κ arr t):=fun t sh K2=>by
  have:=wE (t-sa) (by omega) (by omega)
  rw[show sa+(t-sa)=t by omega,← kp] at this
  exact(show κ.blt (KK κ arr sb) (KK κ arr t)=ae by simpa [gv] using this)
 by_cases c1:na-k=0
 ·rw[if_pos (by simpa using c1)]
  refine cK (h _ ⟨hB.perm,hB.kind,hB.failed⟩ rfl (fun _ _=>rfl) fun i j i1 i2 i3=>?_)
  show κ.kle (KK κ arr i) (KK κ arr j);by_cases hj:j<sb
  ·exact sA i j i1 i2 (by omega)
  ·by_cases hi:i<sb
   ·exact kG (g1 i i1 (by omega)) (sB sb j (bZ _) (by omega) i3)
   ·exact sB i j (by omega) i2 i3
 rw[if_neg (by simpa using c1)]
 obtain⟨q,eq,qv,mq,kq⟩:=at_ (κ:=κ) arr (show sa+k+(na-k)-1<arr.size by omega)
 rw[show sa+k+(na-k)-1=sb-1 by omega] at kq
 refine bK (iN eq ?_);refine bK ?_
 change cP _ _ _ _ (tT ae q arr sb nb (nb-1)) _ _
 refine wQ (κ:=κ) hC hB.kind gg (gg q mq) sB (by omega) (by omega) fun m oy oz K1=>?_
 rw[13];have f1:∀ t,sb≤t->t<sb+m->κ.klt (KK κ arr t) (KK κ arr (sb-1)):=fun t sh K2=>by
  have:=oz (t-sb) (by omega)
  rw[show sb+(t-sb)=t by omega,← kq] at this
  exact(show κ.blt (KK κ arr t) (KK κ arr (sb-1))=ae by simpa [gv] using this)
 have f2:∀ t,sb+m≤t->t<sb+nb->κ.kle (KK κ arr (sb-1)) (KK κ arr t):=fun t sh K2=>by
  have:=K1 (t-sb) (by omega) (by omega)
  rw[show sb+(t-sb)=t by omega,← kq] at this
  exact(show κ.blt (KK κ arr t) (KK κ arr (sb-1))=af by simpa [gv] using this)
 by_cases c2:m=0
 ·rw[if_pos (by simpa using c2)]
  refine cK (h _ ⟨hB.perm,hB.kind,hB.failed⟩ rfl (fun _ _=>rfl) fun i j i1 i2 i3=>?_)
  show κ.kle (KK κ arr i) (KK κ arr j);by_cases hj:j<sb
  ·exact sA i j i1 i2 (by omega)
  ·by_cases hi:i<sb
   ·exact kG (sA i (sb-1) i1 (by omega) (by omega)) (f2 j (by omega) i3)
   ·exact sB i j (by omega) i2 i3
 rw[if_neg (by simpa using c2)]
 let x:=arr.extract (sa+k) sb
 let y:=arr.extract sb (sb+m)
 have xs:x.size=sb-(sa+k):=by simp[x];omega
 have ys:y.size=m:=by simp[y];omega
 have kx:∀ t,t<x.size->KK κ x t=KK κ arr (sa+k+t):=fun t ht=>ZK (by omega) (by omega)
 have kY:∀ t,t<y.size->KK κ y t=KK κ arr (sb+t):=fun t ht=>ZK (by omega) (by omega)
 have Z8:∀ p∈x.toList,p∈arr.toList:=fun p m=>by
  have e:x.toList=(arr.toList.take sb).drop (sa+k):=tL arr _ _;rw[e] at m;exact OE (List.mem_of_mem_drop m)
 have Z9:∀ p∈y.toList,p∈arr.toList:=fun p m'=>by
  have e:y.toList=(arr.toList.take (sb+m)).drop sb:=tL arr _ _;rw[e] at m';exact OE (List.mem_of_mem_drop m')
 have P:MPre κ x y:=by
  refine⟨fun p m=>gg p (Z8 p m),fun p m=>gg p (Z9 p m),fun i j _ i2 i3=>?_,fun i j _ i2 i3=>?_,by omega,by omega,?_,fun j hj=>?_⟩
  ·rw[kx i (by omega),kx j i3]
   exact sA _ _ (by omega) (by omega) (by omega)
  ·rw[kY i (by omega),kY j i3]
   exact sB _ _ (by omega) (by omega) (by omega)
  ·rw[kY 0 (by omega),kx 0 (by omega)]
   exact g2 _ (by omega) (by omega)
  ·rw[kY j hj,kx (x.size-1) (by omega),show sa+k+(x.size-1)=sb-1 by omega]
   exact oG (f1 _ (by omega) (by omega))
 have fin:∀ (r:Array aW) (d8:bT),SameG (SortSt.mk' (kindOf st) arr (((cY st).setIfInBounds i (sa,na+nb,p1)).eraseIdxIfInBounds (i+1)) (gallopOf st) (sN st)) d8->m4 κ x y r->Q ae (GT d8 (qm (bC d8) (sa+k) r))/\sN d8=ab:=by
  intro r d8 hG hm;have ea:bC d8=arr:=hG.arr;have rs:r.size=x.size+y.size:=by
   have:=hm.1.length_eq;simpa using this
  have lr:sa+k+r.size≤arr.size:=by omega
  have K3:(arr.toList.drop (sa+k)).take r.size=x.toList++y.toList:=by
   have ex:x.toList=(arr.toList.drop (sa+k)).take x.size:=by
    have:=KU arr (sa+k) x.size;rw[show sa+k+x.size=sb by omega] at this
    rw[29]
   have ey:y.toList=(arr.toList.drop sb).take y.size:=by
    have:=KU arr sb y.size;rw[show sb+y.size=sb+m by omega] at this
    rw[29]
   rw[ex,ey,rs,List.take_add,Cw,show sa+k+x.size=sb by omega]
  have hp:(qm arr (sa+k) r).Perm arr:=Xa lr (by rw[K3];exact hm.1)
  refine⟨h _ ⟨?_,hG.kind.trans hB.kind,hG.failed.trans hB.failed⟩ hG.pend (fun t ht=>?_) ?_,hG.failed.trans hB.failed⟩
  ·show(qm (bC d8) (sa+k) r).Perm a₀;rw[ea];exact hp.trans hB.perm
  ·show(qm (bC d8) (sa+k) r)[t]?=arr[t]?;rw[ea,CV lr,if_neg (by omega)]
  ·show fY κ (qm (bC d8) (sa+k) r) sa (sb+nb);rw[ea];have out:∀ t,¬ (sa+k≤t/\t<sa+k+r.size)->KK κ (qm arr (sa+k) r) t=KK κ arr t:=fun t ht=>KK_congr (by rw[CV lr,if_neg ht])
   have ins:∀ t,sa+k≤t->t<sa+k+r.size->KK κ (qm arr (sa+k) r) t=KK κ r (t-(sa+k)):=fun t h1 h2=>KK_congr (by rw[CV lr,if_pos ⟨h1,h2⟩])
   have sr:=Gw hm.2;have from_:∀ u,u<r.size->∃ t,KK κ r u=KK κ arr t/\sa+k≤t/\t<sb+m:=fun u hu=>by
    obtain⟨v,ev,TD,mv,kv⟩:=at_ (κ:=κ) r hu;have mv:=hm.1.mem_iff.mp mv;rcases kR.mp mv with mv|mv
    ·obtain⟨t,et⟩:=xX mv;have ht:t<x.size:=by simpa using(dD.mp et).1
     exact⟨sa+k+t,by rw[kv,← kx t ht,lx et],by omega,by omega⟩
    ·obtain⟨t,et⟩:=xX mv;have ht:t<y.size:=by simpa using(dD.mp et).1
     exact⟨sb+t,by rw[kv,← kY t ht,lx et],by omega,by omega⟩
   intro i j i1 i2 i3;by_cases hi1:i<sa+k
   ·rw[out i (by omega)]
    have T6:∀ t,i≤t->t<sb+nb->κ.kle (KK κ arr i) (KK κ arr t):=fun t t1 t2=>by
     by_cases ht:t<sb
     ·exact sA i t i1 t1 (by omega)
     ·exact kG (g1 i i1 hi1) (sB sb t (bZ _) (by omega) t2)
    by_cases hj:sa+k≤j/\j<sa+k+r.size
    ·rw[ins j hj.1 hj.2];obtain⟨t,et,t1,t2⟩:=from_ (j-(sa+k)) (by omega)
     rw[et];exact T6 t (by omega) (by omega)
    ·rw[out j hj];exact T6 j i2 i3
   ·by_cases jc:i<sa+k+r.size
    ·rw[ins i (by omega) jc]
     by_cases hj:j<sa+k+r.size
     ·rw[ins j (by omega) hj]
      exact sr _ _ (dU _) (by omega) (by omega)
     ·rw[out j (by omega)]
      obtain⟨t,et,t1,t2⟩:=from_ (i-(sa+k)) (by omega)
      rw[et];by_cases ht:t<sb
      ·exact kG (sA t (sb-1) (by omega) (by omega) (by omega)) (f2 j (by omega) i3)
      ·exact sB t j (by omega) (by omega) i3
    ·rw[out i (by omega),out j (by omega)]
     exact sB i j (by omega) i2 i3
 by_cases c3:na-k≤m
 ·rw[if_pos c3];refine bK ?_
  change cP _ _ _ _ (TK x y) _ _
  refine Pv hC P hB.kind fun r d8 hG hm=>?_
  obtain⟨q1,q2⟩:=fin r d8 hG hm;refine bK (uG (bK (pW (cK ?_))));show Q (sN d8).isNone _;rw[q2];exact q1
 ·rw[if_neg c3];refine bK ?_
  change cP _ _ _ _ (SH x y) _ _
  refine Pu hC P hB.kind fun r d8 hG hm=>?_
  obtain⟨q1,q2⟩:=fin r d8 hG hm;refine bK (uG (bK (pW (cK ?_))));show Q (sN d8).isNone _;rw[q2];exact q1
end
abbrev Rn:=Nat×Nat×Nat
section
variable {κ:gX}
def Tl (κ:gX)(xs:Array aW):Nat->List Rn->Nat->Prop
 |b,[],e=>b=e
 |b,r::rs,e=>r.1=b/\0<r.2.1/\fY κ xs b (b+r.2.1)/\Tl κ xs (b+r.2.1) rs e
theorem Tl.le:∀ {rs:List Rn} {b e:Nat},Tl κ xs b rs e->b+rs.length≤e
 |[],b,e,h=>by simp[Tl] at h;simp;omega
 |r::rs,b,e,h=>by
  have:=Tl.le h.2.2.2;have:=h.2.1;simp;omega
theorem VY {ys:Array aW}{lo hi:Nat}(e:∀ k,lo≤k->k<hi->ys[k]?=xs[k]?)(h:fY κ xs lo hi):fY κ ys lo hi:=fun i j a b c=>by
 rw[KK_congr (e i a (by omega)),KK_congr (e j (by omega) c)]
 exact h i j a b c
theorem Tl.congr {ys:Array aW}:∀ {rs:List Rn} {b e:Nat},(∀ k,b≤k->k<e->ys[k]?=xs[k]?)->Tl κ xs b rs e->Tl κ ys b rs e
 |[],_,_,_,h=>h
 |r::rs,b,e,hc,h=>by
  have:=Tl.le h.2.2.2;exact⟨h.1,h.2.1,VY (fun k a c=>hc k a (by omega)) h.2.2.1,Tl.congr (fun k a c=>hc k (by omega) c) h.2.2.2⟩
theorem Tl.app:∀ {r1 r2:List Rn} {b e:Nat},Tl κ xs b (r1++r2) e ↔ ∃ m,Tl κ xs b r1 m/\Tl κ xs m r2 e
 |[],r2,b,e=>⟨fun h=>⟨b,rfl,h⟩,fun⟨m,h1,h2⟩=>by cases h1;exact h2⟩
 |r::r1,r2,b,e=>by
  constructor
  ·intro h;obtain⟨m,h1,h2⟩:=Tl.app.mp h.2.2.2;exact⟨m,⟨h.1,h.2.1,h.2.2.1,h1⟩,h2⟩
  ·rintro⟨m,h1,h2⟩;exact⟨h1.1,h1.2.1,h1.2.2.1,Tl.app.mpr ⟨m,h1.2.2.2,h2⟩⟩
theorem Tl.mod(f:Rn->Rn)(hf:∀ r,(f r).1=r.1/\(f r).2.1=r.2.1):∀ {rs:List Rn} {b e:Nat} (i:Nat),Tl κ xs b rs e->Tl κ xs b (rs.modify i f) e
 |[],_,_,i,h=>by cases i<;>exact h
 |r::rs,b,e,0,h=>by
  have:=hf r;refine⟨this.1.trans h.1,by rw[this.2];exact h.2.1,by rw[this.2];exact h.2.2.1,?_⟩
  rw[this.2];exact h.2.2.2
 |r::rs,b,e,i+1,h=>⟨h.1,h.2.1,h.2.2.1,Tl.mod f hf i h.2.2.2⟩
theorem Hy {l:List Rn}(h:i+1<l.length):∃ l1 x y l2,l=l1++x::y::l2/\l1.length=i:=by
 refine⟨l.take i,l[i],l[i+1],l.drop (i+2),?_,by simp;omega⟩
 rw[← CA,← CA,mY]
theorem WR{lo:Nat}{Q:Bool->bT->Prop}(hC:iQ prog w A s κ kd)(h0:KeysOf κ a₀)(hB:TB kd a₀ st)(hT:Tl κ (bC st) 0 (cY st).toList lo)(hl:lo≤a₀.size)(hi:i+1<(cY st).size)
  (h:∀ ak,TB kd a₀ ak->Tl κ (bC ak) 0 (cY ak).toList lo->(cY ak).size+1=(cY st).size->(∀ k,lo≤k->(bC ak)[k]?=(bC st)[k]?)->Q ae ak):cP (aO prog w) A E s (mergeAt' i) Q st:=by
 obtain⟨l1,⟨sa,na,p1⟩,⟨sb,nb,p2⟩,l2,el,e1⟩:=Hy (l:=(cY st).toList) (i:=i) (by simpa using hi)
 rw[el] at hT;obtain⟨m,t1,t2⟩:=Tl.app.mp hT;obtain⟨q1,q2,q3,q4,q5,q6,q7⟩:=t2;simp only at q1 q2 q3 q4 q5 q6 q7;subst q1 q4;have Ix:=Tl.le t1;have S8:=Tl.le q7;have g1:(cY st)[i]?=aa (sa,na,p1):=by
  rw[← lX,el,uW (by omega),e1]
  simp
 have g2:(cY st)[i+1]?=aa (sa+na,nb,p2):=by
  rw[← lX,el,uW (by omega),e1]
  simp
 refine Qb hC h0 hB g1 g2 rfl (by omega) q2 q5 q3 q6 fun ak kw hp l9 hs=>?_
 have ep:(cY ak).toList=l1++(sa,na+nb,p1)::l2:=by
  rw[hp,Array.toList_eraseIdxIfInBounds,Array.toList_setIfInBounds,el,← e1];simp[List.eraseIdx_append_of_length_le]
 refine h ak kw ?_ ?_ fun k hk=>l9 k (.inr (by omega))
 ·rw[ep];refine Tl.app.mpr ⟨sa,t1.congr fun k _ hk=>l9 k (.inl hk),rfl,by show 0<na+nb;omega,?_,?_⟩
  ·show fY κ _ sa (sa+(na+nb));rw[← BO];exact hs
  ·show Tl κ _ (sa+(na+nb)) l2 lo;rw[← BO];exact q7.congr fun k hk _=>l9 k (.inr hk)
 ·have e1:=congrArg OI ep;have e2:=congrArg OI el;simp at e1 e2;omega
theorem Sh{Q:Unit->bT->Prop}(hC:iQ prog w A s κ kd)(h0:KeysOf κ a₀)(hB:TB kd a₀ st)(hp:cY st = #[])(h2:0<a₀.size)
    (h:∀ ak,(bC ak).Perm a₀->sN ak=ab->fY κ (bC ak) 0 a₀.size->Q () ak):cP (aO prog w) A E s sortRuns' Q st:=by
  rw[sortRuns'_eq];refine bK (pW ?_);rw[13];simp only[hB.size];generalize minRun' a₀.size a₀.size 0=mr;refine bK (sJ (pX
    (I:=fun x c ak=>∃ lo,c=(ab,lo)/\TB kd a₀ ak/\Tl κ (bC ak) 0 (cY ak).toList lo/\lo≤a₀.size/\x≤lo)
    (Q:=fun c ak=>c=(ab,a₀.size)/\TB kd a₀ ak/\Tl κ (bC ak) 0 (cY ak).toList a₀.size) ?step ?fin ⟨0,rfl,hB,by rw[hp];rfl,by omega,by omega⟩) ?post)
  case fin=>
    rintro c ak ⟨lo,rfl,kw,hT,h1,h2⟩;have:lo=a₀.size:=by omega
    rw[25];exact⟨rfl,kw,hT⟩
  case step=>
    rintro x c ak _ hx ⟨lo,rfl,kw,hT,h1,h3⟩;rw[13];by_cases lv:lo ≥ a₀.size
    · rw[if_pos lv]
      have:lo=a₀.size:=by omega
      rw[25];exact cK ⟨rfl,kw,hT⟩
    rw[if_neg lv];refine bK (Ry hC h0 kw (by omega) (by omega) fun m bt hM oy oz j3=>?_)
    rw[13];have T2:Tl κ (bC bt) 0 (cY bt).toList lo:=by
      rw[hM.pend];exact hT.congr fun k _ hk=>hM.out k (.inl hk)
    have S:∃ n,0<n/\lo+n≤a₀.size/\((m<mr/\n=min (a₀.size-lo) mr)\/(¬ m<mr/\n=m)):=by
      by_cases bg:m<mr
      · exact⟨_,by omega,by omega,.inl ⟨bg,rfl⟩⟩
      · exact⟨_,by omega,by omega,.inr ⟨bg,rfl⟩⟩
    obtain⟨n,T7,ze,J5⟩:=S;rcases J5 with⟨bg,en⟩|⟨bg,en⟩
    all_goals
      first|rw[if_pos bg]|rw[if_neg bg]
      first
        | (refine bK (uH (lG ⟨rfl,?_⟩))
           rw[← en];refine bK (Sm (n:=n) hC h0 hM.tb (by omega) (by omega) j3 fun j2 yw um=>?_)
           rw[23];have vm:=yw.tb;have T3:Tl κ (bC j2) 0 (cY j2).toList lo:=by
             rw[yw.pend];exact T2.congr fun k _ hk=>yw.out k (.inl hk))
        | (obtain⟨j2,e3⟩:∃ q,q=bt:=⟨_,rfl⟩
           rw[← e3] at j3 T2 hM ⊢;have vm:=hM.tb;have T3:=T2;have um:fY κ (bC j2) lo (lo+n):=by rw[en];exact j3
           rw[← en])
      refine bK (pW ?_);cases T8:(cY j2).back? with
      |none=>
        rw[13];have he:(cY j2).toList=[]:=by
          have:(cY j2).size=0:=by
            rcases Nat.eq_zero_or_pos (cY j2).size with q|q
            · exact q
            · rw[Array.back?_eq_getElem?,lJ (by omega)] at T8
              cases T8
          simpa using this
        refine bK (uG (cK ⟨lo+n,rfl,⟨vm.perm,vm.kind,vm.failed⟩,?_,ze,by omega⟩))
        show Tl κ (bC j2) 0 ((cY j2).push (lo,n,0)).toList (lo+n);rw[CF];exact Tl.app.mpr ⟨lo,T3,rfl,T7,um,rfl⟩
      |some v=>
        obtain⟨s1,n1,q1⟩:=v;rw[13];generalize power' a₀.size (2*s1+n1) (2*s1+n1+n1+n) a₀.size=pw;refine bK (sJ (pX (I:=fun _ c d8=>c=(ab,())/\TB kd a₀ d8/\Tl κ (bC d8) 0 (cY d8).toList lo/\fY κ (bC d8) lo (lo+n)) (Q:=fun c d8=>c=(ab,())/\TB kd a₀ d8/\Tl κ (bC d8) 0 (cY d8).toList lo/\fY κ (bC d8) lo (lo+n)) ?_ (fun _ _ q=>q) ⟨rfl,vm,T3,um⟩) ?_)
        · rintro x2 c d8 _ _ ⟨rfl,vn,T4,zg⟩
          refine bK (pW ?_);by_cases hz:(cY d8).size > 1
          · rw[if_pos hz]
            have eq:(cY d8)[(cY d8).size-2]?=aa (cY d8)[(cY d8).size-2]:=getElem?_pos _ _ (by omega)
            rw[eq];rw[13];by_cases ho:((cY d8)[(cY d8).size-2]).2.2≤pw
            · rw[if_pos ho]
              exact cK ⟨rfl,vn,T4,zg⟩
            · rw[if_neg ho]
              refine bK (WR hC h0 vn T4 (by omega) (by omega) fun tw hB5 T5 _ K4=>?_)
              rw[23];exact cK ⟨rfl,hB5,T5,VY (fun k a _=>K4 k a) zg⟩
          · rw[if_neg hz]
            exact cK ⟨rfl,vn,T4,zg⟩
        · rintro c d8 ⟨rfl,vn,T4,zg⟩
          rw[13];refine bK (uG (bK (uG (cK ⟨lo+n,rfl,⟨vn.perm,vn.kind,vn.failed⟩,?_,ze,by omega⟩))))
          show Tl κ (bC d8) 0 (((cY d8).modify ((cY d8).size-1) fun(r:Rn)=>(r.1,r.2.1,pw)).push (lo,n,0)).toList (lo+n)
          rw[CF,Array.toList_modify];exact Tl.app.mpr ⟨lo,T4.mod (fun(r:Rn)=>(r.1,r.2.1,pw)) (fun _=>⟨rfl,rfl⟩) _,rfl,T7,zg,rfl⟩
  case post=>
    rintro c ak ⟨rfl,kw,hT⟩;rw[13];refine bK (sJ (pX (I:=fun x c bt=>c=(ab,())/\TB kd a₀ bt/\Tl κ (bC bt) 0 (cY bt).toList a₀.size/\((cY bt).size+x≤a₀.size\/(cY bt).size≤1)) (Q:=fun c bt=>c=(ab,())/\TB kd a₀ bt/\Tl κ (bC bt) 0 (cY bt).toList a₀.size/\(cY bt).size≤1) ?_ ?_ ⟨rfl,kw,hT,.inl (by have:=Tl.le hT;simp at this;omega)⟩) ?_)
    · rintro x c bt _ hx ⟨rfl,vo,T2,hz⟩
      refine bK (pW ?_);by_cases h1:(cY bt).size≤1
      · rw[if_pos h1]
        exact cK ⟨rfl,vo,T2,h1⟩
      rw[if_neg h1];have hi:∃ i,i+1<(cY bt).size/\i=(if ((if (cY bt).size-2 > 0 then((cY bt)[(cY bt).size-2-1]?).map (·.2.1) else ab).any fun q=>decide (q<((cY bt)[(cY bt).size-2+1]?).elim 0 (·.2.1)))=ae then(cY bt).size-2-1 else(cY bt).size-2):=by
        refine⟨_,?_,rfl⟩;have:∀ q:Bool,(if q=ae then(cY bt).size-2-1 else(cY bt).size-2)+1<(cY bt).size:=fun q=>by cases q<;>simp<;>omega
        exact this _
      obtain⟨i,hi1,jc⟩:=hi;rw[← jc];refine bK (WR hC h0 vo T2 (bZ _) hi1 fun j2 vm T3 sz _=>?_)
      rw[23];exact cK ⟨rfl,vm,T3,by omega⟩
    · rintro c bt ⟨rfl,vo,T2,hz⟩
      have:=Tl.le T2;simp at this;exact⟨rfl,vo,T2,by omega⟩
    · rintro c bt ⟨rfl,vo,T2,hz⟩
      refine cK (h bt vo.perm vo.failed ?_);have ax:(cY bt).toList.length≤1:=by simpa using hz
      generalize(cY bt).toList=L at T2 ax;cases L with
      |nil=>
        have:0=a₀.size:=T2;omega
      |cons r L=>
        cases L with
        |cons _ _=>simp at ax
        |nil=>
          obtain⟨q1,q2,q3,q4⟩:=T2;have q4:0+r.2.1=a₀.size:=q4;rw[q4] at q3;exact q3
end
theorem Wv {α:Type}(d:α){xs ys:List α}(h:xs.Perm ys):∃ is:List Nat,is.Perm (dP ys.length)/\xs=is.map fun i=>ys.getD i d:=by
 induction h with
 |nil=>exact⟨[],by simp,rfl⟩
 |@cons x l1 l2 _ ih=>
  obtain⟨is,h1,h2⟩:=ih;refine⟨0::is.map (· + 1),?_,?_⟩
  ·rw[iB,Cj];exact .cons 0 (h1.map _)
  ·rw[eF,gY,h2]
   rfl
 |swap x y l=>
  refine⟨1::0::(dP l.length).map (· + 2),?_,?_⟩
  ·rw[iB,iB,Cj,Cj,eF,gY];exact .swap 0 1 _
  ·rw[eF,eF,gY];show y::x::l=y::x::(dP l.length).map fun i=>l.getD i d
   congr 2
   refine BY fun i=>?_
   rw[fW];by_cases hi:i<l.length
   ·rw[OK hi,eW hi];simp[hi]
   ·rw[xY (by omega),xY (by simp;omega)]
    rfl
 |@trans l1 l2 l3 h12 h23 Id Is=>
  obtain⟨is,a1,a2⟩:=Id;obtain⟨js,b1,b2⟩:=Is;have hl:l2.length=js.length:=by rw[b2];simp
  refine⟨is.map fun i=>js.getD i 0,?_,?_⟩
  ·refine(a1.map _).trans ?_;have:(dP l2.length).map (fun i=>js.getD i 0)=js:=by
    rw[hl];refine BY fun i=>?_
    rw[fW];by_cases hi:i<js.length
    ·rw[OK hi,eW hi];simp[hi]
    ·rw[xY (by simp;omega),xY (by omega)]
     rfl
   rw[this];exact b1
  ·rw[gY,a2];refine HD fun i m=>?_
   have hi:i<js.length:=by
    have:=jB.mp (a1.mem_iff.mp m);omega
   show l2.getD i d=l3.getD (js.getD i 0) d;rw[b2];simp[hi]
section
variable {lt:Nat->Nat->Bool}
def oP (lt:Nat->Nat->Bool)(n i:Nat):Nat:=((dP n).filter fun k=>lt k i).length
theorem QZ (O:Ord lt)(hi:i<n):decide (oP lt n i<oP lt n j)=lt i j:=by
 cases h:lt i j with
 |true=>
  refine decide_eq_true ?_;have sub:∀ k,lt k i=ae->lt k j=ae:=fun k hk=>by
   cases hq:lt k j with
   |true=>rfl
   |false=>
    have:=O.tr j k i hq (O.asym k i hk);rw[h] at this;cases this
  have e:(dP n).filter (fun k=>lt k i)=((dP n).filter fun k=>lt k j).filter fun k=>lt k i:=by
   rw[List.filter_filter];refine List.filter_congr fun k _=>?_
   cases hk:lt k i with
   |false=>rfl
   |true=>rw[sub k hk];rfl
  unfold oP;rw[e,List.length_filter_lt_length_iff_exists];have ii:lt i i=af:=by
   cases q:lt i i with
   |false=>rfl
   |true=>have:=O.asym i i q;rw[q] at this;cases this
  exact⟨i,OG.mpr ⟨jB.mpr hi,h⟩,by simp[ii]⟩
 |false=>
  refine decide_eq_false (Nat.not_lt.mpr ?_);have sub:∀ k,lt k j=ae->lt k i=ae:=fun k hk=>by
   cases hq:lt k i with
   |true=>rfl
   |false=>
    have:=O.tr j i k h hq;rw[hk] at this;cases this
  have e:(dP n).filter (fun k=>lt k j)=((dP n).filter fun k=>lt k i).filter fun k=>lt k j:=by
   rw[List.filter_filter];refine List.filter_congr fun k _=>?_
   cases hk:lt k j with
   |false=>rfl
   |true=>rw[sub k hk];rfl
  unfold oP;rw[e];exact List.length_filter_le _ _
end
def yS (lt:Nat->Nat->Bool)(vs:List aC):gX where
 α:=Nat
 blt:=fun a b=>decide (a<b)
 irrefl:=fun a=>by simp
 trans:=fun a b c h1 h2=>by simp at *;omega
 negTrans:=fun a b c h=>by simp at *;omega
 total:=fun a b h1 h2=>by simp at *;omega
 keyOf:=fun v=>by
  classical
  exact if h:∃ i,i<vs.length/\vs.getD i cZ=v then aa (oP lt vs.length h.choose) else ab
 dflt:=0
theorem LH {lt:Nat->Nat->Bool}{v:aC}{a:Nat}(h:(yS lt vs).keyOf v=aa a):∃ i,i<vs.length/\vs.getD i cZ=v/\a=oP lt vs.length i:=by
 unfold yS at h;simp only at h;split at h
 ·rename_i q;exact⟨q.choose,q.choose_spec.1,q.choose_spec.2,(iH h).symm⟩
 ·cases h
theorem WO {lt:Nat->Nat->Bool}{v:aC}(h:v∈vs):∃ a,(yS lt vs).keyOf v=aa a:=by
 obtain⟨i,e⟩:=xX h;have hi:=(dD.mp e).1;have q:∃ i,i<vs.length/\vs.getD i cZ=v:=⟨i,hi,by rw[Zr,e];rfl⟩
 unfold yS;simp only;rw[dif_pos q];exact⟨_,rfl⟩
theorem UC{κ:oB}{lt:Nat->Nat->Bool}{P:NP->aH->Prop}(O:Ord lt)(ho:s.heap.get? a=aa (hX "list" vs.toArray n))(h2:2≤vs.length)(lz:vs.length≤sizeLine)
  (hu:∀ i j,i<vs.length->j<vs.length->vs.getD i cZ=vs.getD j cZ->∀ k,lt i k=lt j k/\lt k i=lt k j)
  (hk:∀ (Q:oB->aH->Prop),Q κ { s with heap:=lP s.heap a vs }->aJ (aO prog w) A (keyKind' vs.toArray) Q E { s with heap:=lP s.heap a vs })
  (hc:∀ i j (C:Bool->aH->Prop),i<vs.length->j<vs.length->C (lt i j) { s with heap:=lP s.heap a vs }->aJ (aO prog w) A (keyLt' κ (vs.getD i cZ) (vs.getD j cZ)) C (fun _ _=>False) { s with heap:=lP s.heap a vs })
  (h:∀ p:Array Nat,p.Perm (pG (dP vs.length))->JQ lt p vs.length->P (.done (.ret .none)) { s with heap:=sortedHeap s.heap a vs (pG (p.toList.map fun i=>vs.getD i cZ)) }) :
  aJ (aO prog w) A (Builtin.«list.sort» ⟨[.ref a],[]⟩) P E s:=by
 have ha:a<s.heap.objs.size:=cC ho;obtain⟨e1,yi⟩:∃ e,(s.heap.update a (gK fun _=>(#[]:Array aC))).get? a=aa (hX "list" #[] e):=⟨_,get?_update_seq ho fun _=>#[]⟩
 have yj:(lP s.heap a vs).get? a=aa (hX "list" #[] e1):=cL _ (cL _ yi);rw[list_sort_plain];refine aF (listItems_at ho rfl (aF (GL ho rfl (aF (seqEpoch_at yi rfl (aF (NI (aF (GH (iX ?_) (dU _))) (by simpa using lz))))) (by rw[fP];exact lz) (dU _))))
 show aJ (aO prog w) A _ P E { s with heap:=lP s.heap a vs };rw[13];have big:¬ vs.toArray.size<2:=by rw[fP];omega
 rw[if_neg big,if_neg big];refine aF (hk _ ?_)
 let κ':=yS lt vs
 have hC:iQ prog w A { s with heap:=lP s.heap a vs } κ' κ:=fun x y a b E Q hx hy q=>by
  obtain⟨i,hi,rfl,rfl⟩:=LH hx;obtain⟨j,hj,rfl,rfl⟩:=LH hy;refine mD (hc i j Q hi hj ?_) (fun _ _ q=>q) fun _ _ z=>z.elim
  have:κ'.blt (oP lt vs.length i) (oP lt vs.length j)=lt i j:=QZ O hi;rw[← this];exact q
 have h0:KeysOf κ' (pairsOf vs):=fun p mp=>by
  rw[pairsOf_toList] at mp;exact WO (mem_zip_self mp).2
 have run:=Sh (prog:=prog) (w:=w) (A:=A) (E:=E) (s:={ s with heap:=lP s.heap a vs }) (κ:=κ') (kd:=κ) (a₀:=pairsOf vs) (st:=SortSt.mk' κ (vs.toArray.zip vs.toArray) #[] 7 ab) (Q:=fun _ ak=>(bC ak).Perm (pairsOf vs)/\sN ak=ab/\fY κ' (bC ak) 0 (pairsOf vs).size) hC h0 ⟨Array.Perm.refl _,rfl,rfl⟩ rfl (by rw[pairsOf_size];omega) fun ak a b c=>⟨a,b,c⟩
 refine aF (mD run ?_ fun _ _ e=>e)
 rintro⟨⟨⟩,ak⟩ s' ⟨rfl,hp,hf,hs⟩;rw[13];have hl:(bC ak).toList.Perm (vs.zip vs):=by rw[← pairsOf_toList];exact yI.mp hp
 have hmem:∀ p,p∈(bC ak).toList->p.1=p.2/\p.1∈vs:=fun p jx=>mem_zip_self (hl.mem_iff.mp jx)
 have hv:((bC ak).map (·.2)).toList.Perm vs:=by
  rw[Array.toList_map];have:=hl.map Prod.snd
  rwa [List.map_snd_zip (bZ _)] at this
 obtain⟨is,hi1,jc⟩:=Wv cZ hv;have ax:(bC ak).size=vs.length:=by rw[hp.size_eq,pairsOf_size]
 have il:is.length=vs.length:=by rw[hi1.length_eq,HG]
 have l9:(bC ak).map (·.2)=pG (is.toArray.toList.map fun i=>vs.getD i cZ):=by
  apply Dn.mp;rw[jc]
 have hsz:(pG (is.toArray.toList.map fun i=>vs.getD i cZ)).size≤sizeLine:=by
  rw[fP,eY];show is.length≤sizeLine;omega
 rw[l9];refine aF (seqEpoch_at yj rfl (aF (GL yj rfl ?_ (dU _) (Nat.le_succ_of_le hsz))));rw[hf];simp only[bne_self_eq_false,fA,if_false];refine aQ (h is.toArray (by rw[yI];exact hi1) fun i j r6 hj=>?_)
 have T9:∀ t,t<vs.length->∃ u,u<vs.length/\vs.getD u cZ=vs.getD (at' is.toArray t) cZ/\KK κ' (bC ak) t=oP lt vs.length u/\at' is.toArray t<vs.length:=fun t ht=>by
  obtain⟨p,ep,kf,mp,kp⟩:=at_ (κ:=κ') (bC ak) (show t<(bC ak).size by omega)
  obtain⟨a',nu⟩:=WO (lt:=lt) (hmem p mp).2;obtain⟨u,hu1,hu2,T'⟩:=LH nu;have p7:t<is.length:=by omega
  have e3:p.2=vs.getD (at' is.toArray t) cZ:=by
   have:=congrArg (fun l=>l[t]?) jc
   simp only[Array.toList_map,fW] at this;rw[kf,eW p7] at this;have:=iH this;simpa [at',p7] using this
  refine⟨u,hu1,by rw[hu2,(hmem p mp).1,e3],?_,?_⟩
  ·rw[kp,← T'];unfold ky;rw[nu]
   rfl
  ·have m:at' is.toArray t∈is:=by
    have:at' is.toArray t=is[t]:=by simp[at',p7]
    rw[this];exact qG p7
   exact jB.mp (hi1.mem_iff.mp m)
 obtain⟨u,u1,u2,u3,u4⟩:=T9 i (by omega)
 obtain⟨v,v1,v2,v3,v4⟩:=T9 j hj;have:=hs i j (dU _) r6 (by rw[pairsOf_size];exact hj)
 rw[u3,v3] at this;have this:decide (oP lt vs.length v<oP lt vs.length u)=af:=this;rw[QZ O v1] at this;rw[← (hu v _ v1 v4 v2 (at' is.toArray i)).1,← (hu u _ u1 u4 u2 v).2];rw[29]
theorem Pc{κ:oB}{lt:Nat->Nat->Bool}(O:Ord lt)(hl:s.heap.IsList l vs.toArray)(h2:2≤vs.length)(lz:vs.length≤sizeLine)
  (hu:∀ i j,i<vs.length->j<vs.length->vs.getD i cZ=vs.getD j cZ->∀ k,lt i k=lt j k/\lt k i=lt k j)
  (hk:∀ h',(∀ b o,s.heap.get? b=aa o->h'.get? b=aa o)->∀ (A':cD) (E':aC->aH->Prop) (R:oB->aH->Prop),R κ { s with heap:=h' }->aJ (aO prog w) A' (keyKind' vs.toArray) R E' { s with heap:=h' })
  (hc:∀ h',(∀ b o,s.heap.get? b=aa o->h'.get? b=aa o)->∀ (A':cD),A'.units≤A.units+4->∀ i j (C:Bool->aH->Prop),i<vs.length->j<vs.length->C (lt i j) { s with heap:=h' }->aJ (aO prog w) A' (keyLt' κ (vs.getD i cZ) (vs.getD j cZ)) C (fun _ _=>False) { s with heap:=h' })
  (h:∀ p:Array Nat,p.Perm (pG (dP vs.length))->JQ lt p vs.length->Q (.ref (s.heap.objs.size+1)) { s with heap:=sortedAll s.heap vs (pG (p.toList.map fun i=>vs.getD i cZ)) }) :
  aJ (aO prog w) A (call (.builtin "sorted") [.ref l]) Q E s:=by
 refine OY kind_sorted plain_sorted entry_sorted (args_sorted1 _) ?_;unfold Builtin.«sorted»;refine aF (m:=checkCount "sorted" 1 1 _) (aQ (aF (collect_list hl (aF (GH ?_)))));have z:((s.heap.push (hX "list" #[] 0)).update s.heap.objs.size (gK (· ++ vs.toArray))).objs.size=s.heap.objs.size+1:=by rw[Heap.size_update,size_push']
 have o9:(((s.heap.push (hX "list" #[] 0)).update s.heap.objs.size (gK (· ++ vs.toArray))).push (hX "list" vs.toArray 0)).get? (s.heap.objs.size+1)=aa (hX "list" vs.toArray 0):=z ▸ eJ _ rfl;have kept:∀ b o,s.heap.get? b=aa o->(lP (((s.heap.push (hX "list" #[] 0)).update s.heap.objs.size (gK (· ++ vs.toArray))).push (hX "list" vs.toArray 0)) (s.heap.objs.size+1) vs).get? b=aa o:=fun b o e=>by
  have hb:=cC e;refine Bh b o (fun q=>?_) (cL _ (((yC _ s.heap.objs.size _).2 b (fun q=>?_)).trans (cL _ e)))
  ·exact absurd hb (by rw[q];exact Nat.not_lt.mpr (GZ _))
  ·exact absurd hb (by rw[q];exact kQ _)
 show aJ _ _ _ _ _ { s with heap:=((s.heap.push (hX "list" #[] 0)).update s.heap.objs.size (gK (· ++ vs.toArray))).push (hX "list" vs.toArray 0) };rw[z];refine aF (iX (iY slot_list_sort ⟨_,o9,rfl⟩ entry_list_sort (UC (s:={ s with heap:=_ }) O o9 h2 lz hu (fun R q=>hk _ kept _ _ R q) (fun i j C hi hj q=>hc _ kept _ ?_ i j C hi hj q) fun p b1 b2=>⟨_,rfl,?_⟩) (args_list_sort _)))
 ·first|(show A.units+1≤A.units+4;omega)|(show A.units+1+1≤A.units+4;omega)|(show A.units+1+1+1≤A.units+4;omega)
 ·exact aQ ⟨_,rfl,h p b1 b2⟩
theorem Rt(hl:s.heap.IsList l vs.toArray)(ht:Ahg s.heap vs kss)(hT:T = "int" \/ T = "str")(hk:∀ k∈kss,lM k=aa T)(hs:∀ k∈kss,∀ k'∈kss,fL k k'=ae)(h2:2≤vs.length)(lz:vs.length≤sizeLine)
  (h:∀ p:Array Nat,p.Perm (pG (dP vs.length))->JQ (nE kss) p vs.length->Q (.ref (s.heap.objs.size+1)) { s with heap:=sortedAll s.heap vs (pG (p.toList.map fun i=>vs.getD i cZ)) }) :
  aJ (aO prog w) A (call (.builtin "sorted") [.ref l]) Q E s:=by
 have hu:∀ i j,i<vs.length->j<vs.length->vs.getD i cZ=vs.getD j cZ->∀ k,nE kss i k=nE kss j k/\nE kss k i=nE kss k j:=fun i j hi hj e k=>by
  obtain⟨b,e1,⟨_,_,as,r1⟩,_⟩:=ht.get i hi;obtain⟨b',e2,⟨_,_,nn,r2⟩,_⟩:=ht.get j hj;rw[e1,e2] at e;rw[30];have:=uQ (reads_det (fun _ _ e _=>e) r2 r1).1
  unfold nE;rw[this];exact⟨rfl,rfl⟩
 refine Pc (κ:=tuples' (jA T != jA "tuple")) (ZP kss) hl h2 lz hu (fun h' kp A' E' R q=>?_) (fun h' kp A' _ i j C hi hj q=>?_) h
 ·obtain⟨fs,f1,f2,f3⟩:=LO (M:=aO prog w) (ht.keep kp) hk;exact kat_kind (s:={ s with heap:=h' }) f1 (by omega) f3 (by rcases hT with rfl|rfl<;>decide) q
 ·have p7:=ht.keep kp;obtain⟨b,e1,⟨_,_,as,r1⟩,m1⟩:=p7.get i hi;obtain⟨b',e2,⟨_,_,nn,r2⟩,m2⟩:=p7.get j hj;rw[e1,e2];obtain⟨_,o,xs,n,z,ho,_,hd,hr⟩:=mP r1;cases z;obtain⟨_,o',jk,n',z,m8,_,kg,ui⟩:=mP r2;cases z;have r9:=hs _ m1 _ m2;have l1:=tZ hr;have l2:=tZ ui;have ll:=zQ r9;have:decide (xs.size<jk.size)=af:=decide_eq_false (by simp only[jE] at l1 l2;omega)
  refine kat_lt (s:={ s with heap:=h' }) ho hd m8 kg ?_;rw[this];exact DJ _ _ 0 r9 hr ui q
theorem Qf(hl:s.heap.IsList l vs.toArray)(ht:Ahg s.heap vs kss)(ok:jm kss=ae)(lz:vs.length≤sizeLine)
  (h:∀ p:List Nat,p.Perm (dP vs.length)->p.map (fun i=>kss.getD i [])=iR kss->Q (.ref (s.heap.objs.size+1)) { s with heap:=sortedAll s.heap vs (pG (p.map fun i=>vs.getD i cZ)) }) :
  aJ (aO prog w) A (call (.builtin "sorted") [.ref l]) Q E s:=by
 have ln:vs.length=kss.length:=mX ht;have K5:∀ {α:Type} (xs:List α) (d:α),(dP xs.length).map (fun i=>xs.getD i d)=xs:=fun xs d=>by
  apply Cv
  ·simp
  ·intro i h1 h2;simp at h1;simp[h1]
 by_cases h2:vs.length<2
 ·refine Os hl h2 ?_;have:=h (dP vs.length) (OO _) (by
   rw[ln,K5 kss];refine zS ok (OO _) ?_
   match kss,ln with
   |[],_=>exact .nil
   |[k],_=>simp
   | _::_::_,ln=>simp at ln;omega)
  rw[K5 vs] at this;rw[29]
 ·have hs:sameAll kss=ae/\(kss.all fun k=>(lM k).isSome)=ae:=by
   have wu:¬ kss.length<2:=by omega
   have:(sameAll kss&&kss.all fun k=>(lM k).isSome)=ae:=by simpa [jm,wu] using ok
   exact kT.mp this
  obtain⟨k0,m0⟩:∃ k0,k0∈kss:=by
   cases hk:kss with
   |nil=>rw[hk] at ln;exact absurd ln (by simp;intro e;rw[e] at h2;simp at h2)
   |cons k r=>exact⟨k,cF⟩
  obtain⟨T,hT⟩:=NU.mp (gQ.mp hs.2 k0 m0);have sm:∀ k∈kss,∀ k'∈kss,fL k k'=ae:=fun k m k' m'=>gQ.mp (gQ.mp hs.1 k m) k' m'
  refine Rt hl ht (RP hT) (fun k m=>(same_kind (sm k m k0 m0)).trans hT) sm (by omega) lz fun p hp ha=>?_
  have jx:p.toList.Perm (dP vs.length):=by simpa using yI.mp hp
  have pl:p.toList.length=vs.length:=by rw[jx.length_eq,HG]
  refine h p.toList jx (zS ok ?_ ?_)
  ·have:=jx.map (fun i=>kss.getD i [])
   rw[ln,K5 kss] at this;rw[29]
  ·rw[uU,xW];intro i j hi hj r6;refine Ahw.mpr ?_;have:=ha i j (sQ r6) (by omega)
   have e1:at' p i=p.toList[i]:=by simp at hi;simp[at',hi]
   have e2:at' p j=p.toList[j]:=by simp at hj;simp[at',hj]
   rw[e1,e2] at this;exact of_decide_eq_false this
theorem Sa:Aet X (.builtin "sorted") (fun xs H Q=>∃ p ys kss,xs=[.ref p]/\SqL X.K H p ys/\vK H ys kss/\jm kss=ae/\kss.length≤4096 /\
  ∀ l q,H l=ab->q.Perm (dP ys.length)->q.map (fun i=>kss.getD i [])=iR kss->Q (.ref l) (aq H l (.lst (sY q ys)))):=by
 rw[5];obtain⟨p,ys,kss,rfl,hp,rf,ok,hl,q⟩:=h;rw[18];obtain⟨its,rv,pl,hz⟩:=I.list hp;have e1:ys.length=its.length:=rv.length;have e2:ys.length=kss.length:=mX rf;refine Qf pl.isList (Bg I.hok rf rv) ok (by rw[mS];omega) fun q' jx hs=>?_
 have hq:∀ i∈q',i<ys.length:=fun i m=>by
  have:=jB.mp (jx.mem_iff.mp m);omega
 obtain⟨e,he⟩:=sortedAll_at s.heap its (pG (q'.map fun i=>its.getD i cZ))
 have hn:H (s.heap.objs.size+1)=ab:=I.hok.fresh (GZ _);have lz:(sY q' ys).length≤sizeLine:=by
  unfold sY;rw[eY,jx.length_eq,HG];omega
 exact⟨.ref (s.heap.objs.size+1),_,I.laid (t':=s.toks) (o:=.lst (sY q' ys)) (fun b ob g=>sortedAll_old g) (GZ _) ⟨lz,_,e,VW rv q' hq,he⟩,rfl,q _ q' hn (by rw[e1];exact jx) hs⟩
def EE:List aA->Option aA
 |[.list ds]=>(kW ds).bind fun kss=>if jm kss=ae/\kss.length≤4096 then aa (.list ((iR kss).map iF)) else ab
 |_=>ab
theorem Qz:CallD K 1 (fun xs H Q=>∃ p ys kss,xs=[.ref p]/\SqL K H p ys/\vK H ys kss/\jm kss=ae/\kss.length≤4096 /\
  ∀ l q,H l=ab->q.Perm (dP ys.length)->q.map (fun i=>kss.getD i [])=iR kss->Q (.ref l) (aq H l (.lst (sY q ys)))) EE:=fun P H xs ds d Q hP r e k=>by
 unfold EE at e;split at e
 ·obtain⟨kss,e1,e2⟩:=av e;obtain⟨⟨ok,hl⟩,rfl⟩:=dX e2;obtain⟨rfl,hk⟩:=SA e1;obtain⟨v,rfl,r'⟩:=jT r;obtain⟨q,ys,rfl,hq,rr⟩:=Abg.mp r';refine⟨q,ys,kss,rfl,Aaz.sqL hq,?_,ok,hl,fun l p hn hp hs=>?_⟩
  ·exact TY (fun c zs g=>Aaz _ _ g) (SZ hk rr)
  ·have hi:∀ i∈p,i<ys.length:=fun i m=>jB.mp (hp.mem_iff.mp m)
   have:=VR rr p hi;rw[hs] at this;exact k.lst hP hn this
 ·rw[30]
theorem Ym{P:NP->aH->Prop}(ho:s.heap.get? a=aa (hX "list" vs.toArray n))(ht:Ahg h0 vs kss)(kp:∀ b o,h0.get? b=aa o->(lP s.heap a vs).get? b=aa o)(ok:jm kss=ae)(lz:vs.length≤sizeLine)
  (h:∀ p:List Nat,p.Perm (dP vs.length)->p.map (fun i=>kss.getD i [])=iR kss->P (.done (.ret .none)) { s with heap:=sortedHeap s.heap a vs (pG (p.map fun i=>vs.getD i cZ)) }) :
  aJ (aO prog w) A (Builtin.«list.sort» ⟨[.ref a],[]⟩) P E s:=by
 have ln:vs.length=kss.length:=mX ht;by_cases h2:vs.length<2
 ·refine SC ho h2 ?_;have:=h (dP vs.length) (OO _) (by
   rw[ln,JU kss];refine zS ok (OO _) ?_
   match kss,ln with
   |[],_=>exact .nil
   |[k],_=>simp
   | _::_::_,ln=>simp at ln;omega)
  rw[JU vs] at this;rw[29]
 ·have hs:sameAll kss=ae/\(kss.all fun k=>(lM k).isSome)=ae:=by
   have wu:¬ kss.length<2:=by omega
   have:(sameAll kss&&kss.all fun k=>(lM k).isSome)=ae:=by simpa [jm,wu] using ok
   exact kT.mp this
  obtain⟨k0,m0⟩:∃ k0,k0∈kss:=by
   cases hk:kss with
   |nil=>rw[hk] at ln;exact absurd ln (by simp;intro e;rw[e] at h2;simp at h2)
   |cons k r=>exact⟨k,cF⟩
  obtain⟨T,hT⟩:=NU.mp (gQ.mp hs.2 k0 m0);have sm:∀ k∈kss,∀ k'∈kss,fL k k'=ae:=fun k m k' m'=>gQ.mp (gQ.mp hs.1 k m) k' m'
  have p7:=ht.keep kp;have hu:∀ i j,i<vs.length->j<vs.length->vs.getD i cZ=vs.getD j cZ->∀ k,nE kss i k=nE kss j k/\nE kss k i=nE kss k j:=fun i j hi hj e k=>by
   obtain⟨b,e1,⟨_,_,as,r1⟩,_⟩:=ht.get i hi;obtain⟨b',e2,⟨_,_,nn,r2⟩,_⟩:=ht.get j hj;rw[e1,e2] at e;rw[30];have:=uQ (reads_det (fun _ _ e _=>e) r2 r1).1
   unfold nE;rw[this];exact⟨rfl,rfl⟩
  refine UC (κ:=tuples' (jA T != jA "tuple")) (ZP kss) ho (by omega) lz hu (fun R q=>?_) (fun i j C hi hj q=>?_) fun p hp ha=>?_
  ·obtain⟨fs,f1,f2,f3⟩:=LO (M:=aO prog w) p7 fun k m=>(same_kind (sm k m k0 m0)).trans hT
   exact kat_kind (s:={ s with heap:=lP s.heap a vs }) f1 (by omega) f3 (by rcases RP hT with rfl|rfl<;>decide) q
  ·obtain⟨b,e1,⟨_,_,as,r1⟩,m1⟩:=p7.get i hi;obtain⟨b',e2,⟨_,_,nn,r2⟩,m2⟩:=p7.get j hj;rw[e1,e2];obtain⟨_,o,xs,n,z,ho,_,hd,hr⟩:=mP r1;cases z;obtain⟨_,o',jk,n',z,m8,_,kg,ui⟩:=mP r2;cases z;have r9:=sm _ m1 _ m2;have l1:=tZ hr;have l2:=tZ ui;have ll:=zQ r9;have:decide (xs.size<jk.size)=af:=decide_eq_false (by simp only[jE] at l1 l2;omega)
   refine kat_lt (s:={ s with heap:=lP s.heap a vs }) ho hd m8 kg ?_;rw[this];exact DJ _ _ 0 r9 hr ui q
  ·have jx:p.toList.Perm (dP vs.length):=by simpa using yI.mp hp
   have pl:p.toList.length=vs.length:=by rw[jx.length_eq,HG]
   refine h p.toList jx (zS ok ?_ ?_)
   ·have:=jx.map (fun i=>kss.getD i [])
    rw[ln,JU kss] at this;rw[29]
   ·rw[uU,xW];intro i j hi hj r6;refine Ahw.mpr ?_;have:=ha i j (sQ r6) (by omega)
    have e1:at' p i=p.toList[i]:=by simp at hi;simp[at',hi]
    have e2:at' p j=p.toList[j]:=by simp at hj;simp[at',hj]
    rw[e1,e2] at this;exact of_decide_eq_false this
theorem Rb(hh:A.handled=ab)(S:SetT w B s.heap a kss)(ok:jm kss=ae)(C7:kss.length≤4900)
  (q:∀ h' tk d l e (out:List aC),s.toks≤tk->(∀ b ob,s.heap.get? b=aa ob->h'.get? b=aa ob)->s.heap.objs.size≤l->fE (fun v k=>∃ b,v=fO b/\B k b) out (iR kss)->h'.get? l=aa (hX "list" out.toArray e)->Q (.ref l) { s with heap:=h',toks:=tk,drawn:=d }) :
  aJ (aO prog w) A (call (.builtin "sorted") [.ref a]) Q E s:=by
 obtain⟨o,es,ep,t,ks,S,pm⟩:=S;have W:WSet w s.heap a o es ep t:=⟨S.get,S.exact,S.data,S.fine,S.led⟩;refine OY kind_sorted plain_sorted entry_sorted (args_sorted1 _) ?_;unfold Builtin.«sorted»;have vd:es.size=kss.length:=by
  have:=mX S.els;rw[jE] at this;rw[this,pm.length_eq]
 refine aF (m:=checkCount "sorted" 1 1 _) (aQ (aF (Qo (A:=A.in1) (by simp[hh]) W fun h1 tk d i9 pe ox hsz k1=>aF (GH ?_ (by rw[mS,eY,pe.length_eq,jE];omega)))))
 obtain⟨wP,p2,Uf⟩:=IZ pe S.els;have pk:wP.Perm kss:=Uf.trans pm;have tv:fE (fun v k=>∃ b,v=fO b/\Ac4 s.heap k b/\B k b) (i9.map (·.2)) wP:=by
  clear pe Uf pk;induction p2 with
  |nil=>exact .nil
  |cons h t ih=>
   obtain⟨b,e1,_,e3,e4⟩:=h;exact .cons ⟨b,e1,e3,e4⟩ ih
 have ax:(i9.map (·.2)).length≤sizeLine:=by rw[eY,pe.length_eq,jE,mS];omega
 generalize i9.map (·.2)=vs at tv ax;have o9:(h1.push (hX "list" vs.toArray 0)).get? h1.objs.size=aa (hX "list" vs.toArray 0):=eJ _ rfl;show aJ _ _ _ _ _ { s with heap:=h1.push (hX "list" vs.toArray 0),toks:=tk,drawn:=d };refine aF (iX (iY slot_list_sort ⟨_,o9,rfl⟩ entry_list_sort (Ym (s:={ s with heap:=_,toks:=tk,drawn:=d }) (h0:=s.heap) o9 (qO (fun v k ⟨b,e1,e2,_⟩=>⟨b,e1,e2⟩) tv) (fun b ob eb=>?_) (Vz pk ok) ax fun p hp hs=>⟨_,rfl,?_⟩) (args_list_sort _)))
 ·have hb:=cC (k1 b ob eb);exact Bh b ob (dM hb) (cL _ (k1 b ob eb))
 refine aQ ⟨_,rfl,?_⟩;obtain⟨e,he⟩:=sortedHeap_at (out:=pG (p.map fun i=>vs.getD i cZ)) o9
 refine q _ tk d h1.objs.size e (p.map fun i=>vs.getD i cZ) ox (fun b ob eb=>?_) (sQ hsz) ?_ he
 ·have hb:=cC (k1 b ob eb);rw[sortedHeap_old (dM hb) (by rw[size_push'];exact pF hb),Heap.get?_push_ne _ _ _ (dM hb)]
  exact k1 b ob eb
 ·have:=Af tv cZ [] p fun i m=>jB.mp (hp.mem_iff.mp m)
  rw[hs,Ob pk ok] at this;exact qO (fun v k ⟨b,e1,_,e3⟩=>⟨b,e1,e3⟩) this
theorem Ri (hc:X.calm=ae):Aet X (.builtin "sorted") (fun xs H Q=>∃ a o ys kss ls,xs=[.ref a]/\H a=aa (O0 a o)/\QN X.w kss ys o ls/\Refs H ys kss/\jm ls=ae/\ls.length≤4900 /\
  ∀ l zs,H l=ab->fE (fun z k=>∃ b,z=V.ref b/\v8 kss ys k b) zs (iR ls)->Q (.ref l) (aq H l (.lst zs))):=by
 rw[5];obtain⟨a,o,ys,kss,ls,rfl,ha,⟨es,ep,t,ks,hx,hd,hf,hl,he,hn,pm⟩,rf,ok,C7,q⟩:=h;rw[18];obtain⟨g,_,_⟩:=(show Adl X.prog X.w H s.heap a (.ext _) from I.hok a _ ha)
 have K6:∀ k b,v8 kss ys k b->Ac4 s.heap k b:=fun k b gh=>by
  obtain⟨i,h1,h2⟩:=gh;obtain⟨k',dh,b',eb,tk⟩:=vX rf h2;rw[h1] at dh;cases dh;cases eb;exact pR I.hok tk
 refine Rb (B:=v8 kss ys) (I.ok.hd hc) (kss:=ls) ⟨o,es,ep,t,ks,⟨g,hx,hd,hf,hl,qO (fun e k ⟨b,q1,q2,q3⟩=>⟨b,q1,q2,K6 k b q3,q3⟩) he,hn⟩,pm⟩ ok C7 fun h' tk d l e out ox kept lr pr zh=>?_
 have K7:H l=ab:=I.hok.fresh lr
 let zs:List V:=out.map fun v=>match v with|.ref b=>V.ref b|_=>V.non
 have pz:fE (fun z k=>∃ b,z=V.ref b/\v8 kss ys k b) zs (iR ls)/\Vals zs out:=by
  show fE _ (out.map _) _/\Vals (out.map _) out;generalize iR ls=qs at pr;clear zh;induction pr with
  |nil=>exact⟨.nil,.nil⟩
  |cons h t ih=>
   obtain⟨b,rfl,hb⟩:=h;exact⟨.cons ⟨b,rfl,hb⟩ ih.1,.cons rfl ih.2⟩
 have lz:zs.length≤sizeLine:=by
  have h1:=mX pz.1;rw[h1,(uB ls).length_eq,mS];omega
 exact⟨.ref l,_,Zc (I.laid (t':=tk) (o:=.lst zs) (fun b ob g=>kept b ob g) lr ⟨lz,out,e,pz.2,zh⟩),rfl,q _ zs K7 pz.1⟩
def LW:List aA->Option aA
 |[.list ds]=>(kW ds).bind fun kss=>if (gG kss).length≤4900/\jm (gG kss)=ae then aa (.list ((iR (gG kss)).map iF)) else ab
 |_=>ab
theorem Qv {e:bF}{fe:EF}{p1 zi g9:dA}(hc:X.calm=ae)(hu:X.A.units+40<cLine)(g1:Gl X "sorted")(m1:X.mg "sorted" = ab)(g2:Gl X "set")(m2:X.mg "set" = ab)(he:DE X e fe)
  (pq:cH [yE (.Name "set" p2) [e] [] g9] X.env=[(af,cE (yE (.Name "set" p2) [e] [] g9) X.env)]:=by rfl) (j3:cH [e] X.env=[(af,cE e X.env)]:=by rfl) :
  DF 1 X (.Call (.Name "sorted" p1) [.Call (.Name "set" p2) [e] [] g9] [] zi) (aN LW (aG fe aK)):=by
 have h1:PE X (.Call (.Name "set" p2) [e] [] g9) _:=VN (Pj hc hu) g2 m2 rfl (oW he qQ j3) (by decide) (by decide) j3 rfl
 have h2:PE X (.Call (.Name "sorted" p1) [.Call (.Name "set" p2) [e] [] g9] [] zi) _:=KI (Ri hc) g1 m1 Zl (oW h1 qQ pq) (by decide) (by decide) pq rfl
 refine PE.imp h2 fun σ H Q gh=>?_
 rw[4];obtain⟨ds0,e0,ef⟩:=av ef;obtain⟨d1,e1,e0⟩:=av e0;have e0:[d1]=ds0:=by simpa [aK] using e0
 subst e0;cases d1 with
 |list ds=>
  obtain⟨kss,e2,ef⟩:=av (show((kW ds).bind fun kss=>if (gG kss).length≤4900/\jm (gG kss)=ae then aa (kN ((iR (gG kss)).map iF)) else ab)=aa d from ef)
  obtain⟨⟨hl,ok⟩,rfl⟩:=dX ef;obtain⟨rfl,hk⟩:=Bb e2;refine⟨P,ρ,.list (kss.map iF),hP,rs,e1,gF fun v H1 x1 r1=>?_⟩
  obtain⟨q,ys,rfl,hq,rr⟩:=Abg.mp r1;have rf:Refs H1 ys kss:=Refs.le (fun c zs e=>Aaz _ _ e) (RQ hk rr)
  refine⟨q,ys,kss,rfl,Aaz.sqL hq,rf,by omega,fun a o hn S=>⟨a,o,ys,kss,gG kss,rfl,jK,S,Refs.le (fun c zs e=>(Ext.new hn) _ _ e) rf,ok,hl,fun l zs K7 pz=>?_⟩⟩
  exact(k.mono (x1.trans (Ext.new hn))).lst (hP.ext (x1.trans (Ext.new hn))) K7 (Bc (rr.ext (fD (Ext.new hn))) pz)
 |_=>cases ef
theorem XS:entryFor table "dict.update.loop" = aa Builtin.«dict.update.loop»:=entryFor_of_tree (by kernel_rfl)
theorem FJ:plainId "dict.update.loop" = ae:=by rw[0]
theorem XW:∀ (more kvs:List (aP×aC)),(qA kvs more).length≤kvs.length+more.length
 |[],kvs=>bZ _
 |p::r,kvs=>by
  have h1:=XW r (uI kvs p.1 p.2);have h2:(uI kvs p.1 p.2).length≤kvs.length+1:=by
   unfold uI;split<;>simp
  show(qA (uI kvs p.1 p.2) r).length≤_;rw[iB];omega
def tQ (ps:List (aP×aA))(kds:List (aA×aA)):List (aA×aA):=ps.foldl (fun ai p=>putD ai p.1 p.2) kds
theorem Xm:∀ {ps:List (aP×aA)} {qs:List (aP×V)},fE (fun(p:aP×aA) (q:aP×V)=>p.1=q.1/\Abz K H p.2 q.2) ps qs->∀ {kds:List (aA×aA)} {kvs:List (aP×V)},Aca K H kds kvs->Aca K H (tQ ps kds) (rS kvs qs):=by
 intro ps qs hp;induction hp with
 |nil=>exact fun r=>r
 |@cons p q ps qs hq t ih=>
  intro kds kvs r;have:=ih (JI (k:=p.1) r hq.2);show Aca K H (tQ _ (putD kds p.1 p.2)) (rS (putK kvs q.1 q.2) _);rw[← hq.1];rw[29]
section
theorem Ug{Q:Option bJ->aH->Prop}(ho:s.heap.get? a=aa o)(h:Q (aa o) s):aJ (aO P w) A (loadIfAlive a) Q E s:=fun Γ p _=>by
 show Q (s.heap.get? a) s;rw[ho];exact h
abbrev GA (h:aZ)(z TI TO:aD)(T:Nat)(c:Bool):Prop:=
 h.get? z=aa { cls:=.type "zip",dict:=ab,data:=.fields #[dZ T,.bool c,.bool af,.ref TI,.ref TO],slots:=#[] }
variable {C TI TO:aD}{xs ys:Array aC}{T:Nat}{c:Bool}
def we (D z TI TO i1 i2:aD)(S1 S2:Nat->aZ->Prop)(k:Nat)(h:aZ):Prop:=
 (∃ T c,GA h z TI TO T c/\(∃ o,h.get? T=aa o)/\T≠z/\T≠i1/\T≠i2/\T≠D)/\mG h TI (.ref i1) (.ref i2)/\S1 k h/\S2 k h
theorem QR {Q:Bool->aH->Prop}(gz:GA s.heap z TI TO T c)(ha:∃ o,s.heap.get? T=aa o)(q:∀ h' c',GA h' z TI TO T c'->oH z s.heap h'->Q af { s with heap:=h' }):aJ (aO P w) A (vB (.ref z)) Q E s:=by
 obtain⟨o,ha⟩:=ha;unfold vB;refine aF (kK gz rfl (x:=dZ T) rfl ?_);show aJ _ _ (loadIfAlive (T:Int).toNat>>=_) _ E s;refine aF (Ug (by simpa using ha) ?_)
 show aJ _ _ (nZ (.ref z) 1>>=_) _ E s;refine aF (kK gz rfl (x:=.bool c) rfl ?_);cases c with
 |true=>
  show aJ _ _ (pure PUnit.unit>>=fun _=>pure af) _ E s
  exact aF (aQ (aQ (q _ _ gz (Heap.SameBut.refl _ _))))
 |false=>
  show aJ _ _ (BD (.ref z) 1 (.bool ae)>>=fun _=>pure af) _ E s
  exact aF (nW gz (by simp) fun h' g' sb=>aQ (q h' ae g' sb))
theorem Vk(D:ZApart z TI TO i1 i2 o1 o2)(U:Sub P w i1 o1 S1 xs)(V:Sub P w i2 o2 S2 ys)(st:we C z TI TO i1 i2 S1 S2 k s.heap)(hx:xs[k]?=aa x)(hy:ys[k]?=aa y)
  (q:∀ h' T,we C z TI TO i1 i2 S1 S2 (k+1) h'->mG h' T x y->s.heap.objs.size≤T ->
   (∀ c o,c≠z->c≠TO->c≠i1->c≠i2->s.heap.get? c=aa o->h'.get? c=aa o)->Q (.ref T) { s with heap:=h' }) :
  aJ (aO P w) A (Builtin.«zip.__next__» ⟨[.ref z],[]⟩) (fun fin s'=>∃ v,fin=.done (.ret v)/\Q v s') E s:=by
 obtain⟨⟨T,c,gz,⟨oT,gT⟩,T1,T2,T3,T4⟩,gI,km,bt⟩:=st;have z1:i1≠z:=fun e=>D.z1 (e ▸ U.mem)
 have z2:i2≠z:=fun e=>D.z2 (e ▸ V.mem)
 show aJ _ _ (nZ (.ref z) 2>>=_) _ E s;refine aF (kK gz rfl (x:=.bool af) rfl ?_);show aJ _ _ (nZ (.ref z) 3>>=_) _ E s;refine aF (kK gz rfl (x:=.ref TI) rfl (aF (lF gI rfl ?_)));show aJ _ _ (vB (.ref z)>>=_) _ E s;refine aF (QR gz ⟨oT,gT⟩ fun ha c' pv sa=>?_)
 simp only[fA,if_false,pure_bind];rw[22];rw[← CG];simp only[HJ,OL];refine aF (aF (iX ?_));show aJ _ _ (nB (.ref i1)>>=_) _ _ _;refine aF (U.item _ _ _ _ k x (U.but km D.z1 sa.extBut) hx fun hb py sb=>aQ ?_)
 refine aQ (aF (aF (iX ?_)));show aJ _ _ (nB (.ref i2)>>=_) _ _ _;refine aF (V.item _ _ _ _ k y (V.but (V.but bt D.z2 sa.extBut) D.x12 sb.extBut) hy fun hd vc sd=>aQ ?_)
 refine aQ (aQ ?_);refine aF (NI (hsz:=by show 2≤sizeLine;decide) ?_)
 have up:∀ c o,c≠z->c≠i1->c≠i2->s.heap.get? c=aa o->hd.get? c=aa o:=fun c o n1 n3 n4 g=>sd.extBut _ _ n4 (sb.extBut _ _ n3 (sa.extBut _ _ n1 g))
 have size:hd.objs.size=s.heap.objs.size:=by rw[sd.1,sb.1,sa.1]
 have Cl:GA hd z TI TO T c':=sd.extBut _ _ z2.symm (sb.extBut _ _ z1.symm pv);have K8:S1 (k+1) hd:=U.but py D.x21 sd.extBut;have pu:∀ (c:aD) o,hd.get? c=aa o->(hd.push { cls:=.type "tuple",data:=.seq #[x,y] }).get? c=aa o:=fun c o g=>cL _ g
 refine aQ ⟨_,rfl,q _ hd.objs.size ⟨⟨T,c',pu _ _ Cl,⟨oT,pu _ _ (up _ _ T1 T2 T3 gT)⟩,T1,T2,T3,T4⟩,pu _ _ (up _ _ D.TIz D.TI1 D.TI2 gI),U.keep _ _ _ K8 fun c _ o g=>pu _ _ g,V.keep _ _ _ vc fun c _ o g=>pu _ _ g⟩ (eJ _ rfl) (NY size.symm) fun c o n1 n2 n3 n4 g=>pu _ _ (up c o n1 n3 n4 g)⟩
theorem Vg {Q:Fin->aH->Prop}(hh:A.handled=ab)(D:ZApart z TI TO i1 i2 o1 o2)(U:Sub P w i1 o1 S1 xs)(V:Sub P w i2 o2 S2 ys)(st:we C z TI TO i1 i2 S1 S2 k s.heap)(i6:xs[k]?=ab\/ys[k]?=ab)
  (q:∀ h' e,(∀ c o,c≠z->c≠TO->c≠i1->c≠i2->s.heap.get? c=aa o->h'.get? c=aa o)->(∃ o,h'.get? e=aa o/\o.cls=.type "StopIteration")->E (.ref e) { s with heap:=h' }) :
  aJ (aO P w) A (Builtin.«zip.__next__» ⟨[.ref z],[]⟩) Q E s:=by
 obtain⟨⟨T,c,gz,⟨oT,gT⟩,T1,T2,T3,T4⟩,gI,km,bt⟩:=st;show aJ _ _ (nZ (.ref z) 2>>=_) _ E s;refine aF (kK gz rfl (x:=.bool af) rfl ?_);show aJ _ _ (nZ (.ref z) 3>>=_) _ E s;refine aF (kK gz rfl (x:=.ref TI) rfl (aF (lF gI rfl ?_)));show aJ _ _ (vB (.ref z)>>=_) _ E s;refine aF (QR gz ⟨oT,gT⟩ fun ha c' pv sa=>?_)
 simp only[fA,if_false,pure_bind];rw[22];rw[← CG];simp only[HJ,OL];refine aF (aF (iX ?_));show aJ _ _ (nB (.ref i1)>>=_) _ _ _;cases hx:xs[k]? with
 |none=>
  refine aF (U.done _ _ _ _ k hh (U.but km D.z1 sa.extBut) hx fun hb e sb he=>?_)
  exact q hb e (fun c o n1 _ n3 _ g=>sb _ _ n3 (sa.extBut _ _ n1 g)) he
 |some x=>
  have hy:ys[k]?=ab:=i6.resolve_left fun h=>by rw[hx] at h;cases h
  refine aF (U.item _ _ _ _ k x (U.but km D.z1 sa.extBut) hx fun hb py sb=>aQ ?_)
  refine aQ (aF (aF (iX ?_)));show aJ _ _ (nB (.ref i2)>>=_) _ _ _;refine aF (V.done _ _ _ _ k hh (V.but (V.but bt D.z2 sa.extBut) D.x12 sb.extBut) hy fun hd e sd he=>?_)
  exact q hd e (fun c o n1 _ n3 n4 g=>sd _ _ n4 (sb.extBut _ _ n3 (sa.extBut _ _ n1 g))) he
def Bd2 (C z TI TO i1 i2:aD)(S1 S2:Nat->aZ->Prop)(k:Nat)(h:aZ):Prop:=o5 z TI TO i1 i2 S1 S2 .none k h\/we C z TI TO i1 i2 S1 S2 k h
theorem Xs{Q:Option aC->aH->Prop}(D:ZApart z TI TO i1 i2 o1 o2)(U:Sub P w i1 o1 S1 xs)(V:Sub P w i2 o2 S2 ys)(st:Bd2 C z TI TO i1 i2 S1 S2 k s.heap)(hx:xs[k]?=aa x)(hy:ys[k]?=aa y)(lC:C<s.heap.objs.size)
  (q:∀ h' T,we C z TI TO i1 i2 S1 S2 (k+1) h'->mG h' T x y->s.heap.objs.size≤T ->
   (∀ c o,c≠z->c≠TO->c≠i1->c≠i2->s.heap.get? c=aa o->h'.get? c=aa o)->Q (aa (.ref T)) { s with heap:=h' }):aJ (aO P w) A (iA (.ref z)) Q E s:=by
 rcases st with st|st
 ·have lz:z<s.heap.objs.size:=cC st.1;have l1:i1<s.heap.objs.size:=by obtain⟨o,e⟩:=U.obj _ _ st.2.2.2.1 _ U.mem;exact cC e
  have l2:i2<s.heap.objs.size:=by obtain⟨o,e⟩:=V.obj _ _ st.2.2.2.2 _ V.mem;exact cC e
  refine RV D U V st hx hy fun h' ⟨g1,g2,g3,g4,g5⟩ pr sz jw=>q h' _ ⟨⟨_,af,g1,⟨_,pr⟩,jU lz,jU l1,jU l2,jU lC⟩,g2,g4,g5⟩ pr (bZ _) jw
 ·have ty:s.TypeIs (.ref z) "zip":=by
   obtain⟨⟨T,c,gz,_⟩,_⟩:=st;exact⟨_,gz,rfl⟩
  unfold iA;exact aF (pY (nX (name:=kM "__next__") ty uY (iY uY ty OU (Vk D U V st hx hy fun h' T a1 a2 a3 a4=>aQ (q h' T a1 a2 a3 a4)) (OV _))))
theorem Yx {Q:Option aC->aH->Prop}(hh:A.handled=ab)(D:ZApart z TI TO i1 i2 o1 o2)(U:Sub P w i1 o1 S1 xs)(V:Sub P w i2 o2 S2 ys)(st:Bd2 C z TI TO i1 i2 S1 S2 k s.heap)(i6:xs[k]?=ab\/ys[k]?=ab)
  (q:∀ h',(∀ c o,c≠z->c≠TO->c≠i1->c≠i2->s.heap.get? c=aa o->h'.get? c=aa o)->Q ab { s with heap:=h' }):aJ (aO P w) A (iA (.ref z)) Q E s:=by
 rcases st with st|st
 ·exact SV hh D U V st i6 q
 ·have ty:s.TypeIs (.ref z) "zip":=by
   obtain⟨⟨T,c,gz,_⟩,_⟩:=st;exact⟨_,gz,rfl⟩
  unfold iA;refine aF (pY (nX (name:=kM "__next__") ty uY (iY uY ty OU (Vg hh D U V st i6 fun h' e kp ⟨o,g1,g2⟩=>?_) (OV _))))
  exact aF (sM (T:="StopIteration") (b:=ae) ⟨o,g1,g2⟩ GM (aQ (q _ kp)))
end
theorem Pp:BC (.type "zip") "keys" = pure ab:=by rw[GJ,GP];kernel_rfl
section
variable {TI TO:aD}{xs ys:Array aC}
theorem Bd2.keep{D:aD}(U:Sub P w i1 o1 S1 xs)(V:Sub P w i2 o2 S2 ys)(nz:D≠z)(nI:D≠TI)(n1:D∉o1)(n2:D∉o2)(st:we D z TI TO i1 i2 S1 S2 k h)(kp:∀ c o,c≠D->h.get? c=aa o->h'.get? c=aa o):we D z TI TO i1 i2 S1 S2 k h':=by
 obtain⟨⟨T,c,gz,⟨oT,gT⟩,T1,T2,T3,T4⟩,gI,km,bt⟩:=st;exact⟨⟨T,c,kp _ _ nz.symm gz,⟨oT,kp _ _ T4 gT⟩,T1,T2,T3,T4⟩,kp _ _ nI.symm gI,U.keep _ _ _ km fun c hc o g=>kp _ _ (fun e=>n1 (e ▸ hc)) g,V.keep _ _ _ bt fun c hc o g=>kp _ _ (fun e=>n2 (e ▸ hc)) g⟩
theorem Mt(hh:A.handled=ab)(Z:ZApart z TI TO i1 i2 o1 o2)(U:Sub prog w i1 o1 S1 xs)(V:Sub prog w i2 o2 S2 ys)(D:aD)(nz:D≠z)(nI:D≠TI)(nO:D≠TO)(n1:D∉o1)(n2:D∉o2)(kvs:List (aP×aC))(hn:kvs.length≤sizeLine)
  (i6:xs[kvs.length]?=ab\/ys[kvs.length]?=ab) (K9:∀ (j:Nat) p,kvs[j]?=aa p->∃ kv,xs[j]?=aa kv/\ys[j]?=aa p.2/\(hW prog w).is p.1 kv=ae) :
  ∀ (k i:Nat) (s:aH),kvs.length-i=k->i≤kvs.length->Bd2 D z TI TO i1 i2 S1 S2 i s.heap->s.heap.DictOf (hW prog w) D (qA [] (kvs.take i)) ->
   (∀ h' tk,(∀ c o,c≠D->c≠z->c≠TO->c≠i1->c≠i2->s.heap.get? c=aa o->h'.get? c=aa o)->h'.DictOf (hW prog w) D (qA [] kvs)->R (.ok (.ret .none)) { s with heap:=h',toks:=tk }) ->
   qB (aO prog w) A (.builtin "dict.update.loop" ⟨[.ref D,.ref z,dZ (i:Int),.none],[]⟩) R s:=by
 have e1:D≠i1:=fun e=>n1 (e ▸ U.mem)
 have e2:D≠i2:=fun e=>n2 (e ▸ V.mem)
 intro k;induction k with
 |zero=>
  intro i s hk hi ki hS hR;obtain rfl:i=kvs.length:=by omega
  refine pE XS ?_;rw[qM FJ _];show aJ _ A.in1 (iA (.ref z)>>=_) _ _ s;refine aF (Yx (by simp[hh]) Z U V ki i6 fun h' kp=>?_)
  show aJ _ A.in1 (Builtin.Dict.addKeywords D []>>=fun _=>ret cZ) _ _ _
  refine aF (aQ (aQ (hR h' _ (fun c o _ a b c' d g=>kp c o a b c' d g) ?_)))
  obtain⟨o,es,ep,ho,r⟩:=hS;rw[Ci] at r;exact⟨o,es,ep,kp D o nz nO e1 e2 ho,r⟩
 |succ k ih=>
  intro i s hk hi ki hS hR;have bg:i<kvs.length:=by omega
  obtain⟨p,hp⟩:∃ p,kvs[i]?=aa p:=⟨_,eW bg⟩;obtain⟨kv,hx,hy,hkk⟩:=K9 i p hp;have lD:D<s.heap.objs.size:=by
   obtain⟨o,es,ep,ho,r⟩:=hS;exact cC ho
  refine pE XS ?_;rw[qM FJ _];show aJ _ A.in1 (iA (.ref z)>>=_) _ _ s;refine aF (Xs Z U V ki hx hy lD fun h' T ak pr hT1 jw=>?_)
  have nk:h'.DictOf (hW prog w) D (qA [] (kvs.take i)):=by
   obtain⟨o,es,ep,ho,r⟩:=hS;exact⟨o,es,ep,jw D o nz nO e1 e2 ho,r⟩
  have p6:qA [] (kvs.take (i+1))=uI (qA [] (kvs.take i)) p.1 p.2:=by
   rw[xU,hp];simp[qA,HK]
  have ax:(qA [] (kvs.take i)).length≤sizeLine:=by
   have:=XW (kvs.take i) [];rw[pI] at this;simp at this;omega
  refine aF (iX (aF (wpAny_tryCatch ?_)));unfold Builtin.Dict.pairItems;have tb:(Shared.heap { s with heap:=h' }).IsTuple T #[kv,p.2]:=⟨_,pr,rfl,0,rfl⟩;refine aF (sL tb.typeIs ?_);show aJ _ _ (BE (.ref T)>>=_) _ _ _;refine aF (lF pr rfl (aQ ?_));show aJ _ _ (pD [kv,p.2] (dictSet D kv p.2)) _ _ _;refine iX (wpAny_dictSet_pairs (knd:=hW prog w) hkk nk (fun h2 d' sb=>?_) ax)
  refine aQ ⟨pZ FJ _,?_⟩;have U0:∀ c o,c≠D->h'.get? c=aa o->h2.get? c=aa o:=fun c o n g=>(sb.2 c n).trans g
  refine ih (i+1) _ (by omega) bg (.inr (Bd2.keep U V nz nI n1 n2 ak U0)) (by rw[p6];exact d') fun h3 tk kp3 S4=>?_
  exact hR h3 tk (fun c o a b c' d e g=>kp3 c o a b c' d e (U0 c o a (jw c o b c' d e g))) S4
theorem Sj:BC (.type "zip") "__getattr__" = pure ab:=by rw[GJ,GP];kernel_rfl
theorem Qu:entryFor table "zip.__getattribute__" = aa Builtin.«object.__getattribute__»:=
 entryFor_alias (id':="object.__getattribute__") (by kernel_rfl) (by rw[0]) (by rw[0]) (by kernel_rfl)
theorem Ur (a:aD)(fs:Array aC)(name:aE)(u:Tok)(U1:BC (.type "zip") name=pure ab)(zj:(["__module__","__name__","__qualname__","__doc__","__annotations__"]:List aE).contains name=af)(hsz:name.length+100≤sizeLine:=by size_fits) :
  Meets (Builtin.«object.__getattribute__» ⟨[.ref a,.str name u],[]⟩) (fun A R s=>s.heap.get? a=aa { cls:=.type "zip",dict:=ab,data:=.fields fs,slots:=#[] }/\raisesAttr (.ref a) name A R s):=
 Meets.of_wp fun prog w A R s hs=>by
  obtain⟨hp,g,d,tk,os⟩:=s;obtain⟨hx,hs⟩:=hs;have hT:(⟨hp,g,d,tk,os⟩:aH).TypeIs (.ref a) "zip":=⟨_,hx,rfl⟩;unfold Builtin.«object.__getattribute__»
  repeat (any_goals (first|assumption|wp_step))
  simp only[zj,fA,if_false]
  repeat (any_goals (first|assumption|wp_step))
  exact wpAny_raiseAttrError hs.1 hs.2 (attrMsg_fits (by rw[0]) hsz)
set_option maxHeartbeats 4000000 in
theorem Qa{fs:Array aC}{Q:Option aC->aH->Prop}(hx:s.heap.get? a=aa { cls:=.type "zip",dict:=ab,data:=.fields fs,slots:=#[] })(hA:A.handled=ab)
  (h:∀ h' tk,(∀ b o,s.heap.get? b=aa o->h'.get? b=aa o)->Q ab { s with heap:=h',toks:=tk }):aJ (aO prog w) A (getAttr? (.ref a) "keys") Q E s:=by
 obtain⟨hp,g,d,tk,os⟩:=s;have hT:∀ qt,(⟨hp,g,d,qt,os⟩:aH).TypeIs (.ref a) "zip":=fun _=>⟨_,hx,rfl⟩
 have f1:=sub_AttributeError;have f3:=Dc.lookup;have f4:=Dc.bind (.ref a);have f5:=Sj;unfold getAttr? getAttrBy? getAttrBy
 repeat (any_goals (first|assumption|exact hT _|((with_reducible show aJ _ _ (call (Value.builtin "zip.__getattribute__") _ _) _ _ _);refine call_meets Dc (hT _) Qu (F.args_zip_getattribute_2 _ _) (Ur a fs _ _ Pp (by rw[0])) ⟨hx,hA,fun h' qt e U2=>?_⟩)|wp_step))
 obtain⟨t',u',he⟩:=U2.there;show aJ _ _ (getattributeRaised _ _ _ _ _ _ _) _ _ _;unfold getattributeRaised
 repeat (any_goals (first|assumption|wp_step))
 exact h _ _ U2.keeps
theorem Pm{l1 l2:aD}{kvs:List (aP×aC)}(hh:A.handled=ab)(ap:ZApart z TI TO i1 i2 [i1,l1] [i2,l2])(ne1:l1≠i1)(ne2:l2≠i2)(st:o5 z TI TO i1 i2 (StB b1 i1 l1 xs) (StB b2 i2 l2 ys) .none 0 s.heap)
  (hn:kvs.length≤sizeLine) (i6:xs[kvs.length]?=ab\/ys[kvs.length]?=ab) (K9:∀ (j:Nat) p,kvs[j]?=aa p->∃ kv,xs[j]?=aa kv/\ys[j]?=aa p.2/\(hW prog w).is p.1 kv=ae)
  (h:∀ h' tk,h'.DictOf (hW prog w) s.heap.objs.size (qA [] kvs)->(∀ b o,b≠z->b≠TO->b≠i1->b≠i2->s.heap.get? b=aa o->h'.get? b=aa o)->Q (.ref s.heap.objs.size) { s with heap:=h',toks:=tk }) :
  aJ (aO prog w) A (call (.type "dict") [.ref z]) Q E s:=by
 have U:Sub prog w i1 [i1,l1] (StB b1 i1 l1 xs) xs:=vV b1 i1 l1 xs ne1;have V:Sub prog w i2 [i2,l2] (StB b2 i2 l2 ys) ys:=vV b2 i2 l2 ys ne2;refine callType_codes (Q₁:=fun obj s₁=>obj=.ref s.heap.objs.size/\s₁={ s with heap:=s.heap.push { cls:=.type "dict",data:=.dict #[] } }) F.kt_called_dict (F.kt_typeCall_dict_1 _) F.entry_dict_init (kt_code_dict_new _ ⟨rfl,rfl⟩) ?_
 rintro obj s₁ ⟨rfl,rfl⟩;have dn:(s.heap.push { cls:=.type "dict",data:=.dict #[] }).DictOf (hW prog w) s.heap.objs.size []:=Heap.DictOf.new s.heap;refine⟨dn.typeIs,F.args_dict_init_2 _ _,?_⟩;unfold Builtin.«dict.__init__»;rw[22];unfold Builtin.Dict.selfAndRest;refine aF (wpAny_notOrdered_dict dn.typeIs (aQ ?_));show aJ _ _ (Builtin.Dict.updateFrom "dict.__init__" s.heap.objs.size (.ref z) [] .none) _ _ _;unfold Builtin.Dict.updateFrom;have pz:(s.heap.push { cls:=.type "dict",data:=.dict #[] }).get? z=aa _:=cL _ st.1;refine aF (sL (T:="zip") ⟨_,pz,rfl⟩ ?_);rw[if_pos (by decide)]
 refine aF (Qa pz (by simp[hh]) fun h1 tk k1=>?_)
 show aJ _ _ (rule _>>=fun _=>pC (.ref z)>>=_) _ _ _
 have jw:∀ b o,s.heap.get? b=aa o->h1.get? b=aa o:=fun b o e=>k1 _ _ (cL _ e)
 have km:o5 z TI TO i1 i2 (StB b1 i1 l1 xs) (StB b2 i2 l2 ys) .none 0 h1:=by
  obtain⟨g1,g2,⟨a,b,g3⟩,g4,g5⟩:=st;exact⟨jw _ _ g1,jw _ _ g2,⟨a,b,jw _ _ g3⟩,U.keep _ _ _ g4 fun c _ o g=>jw _ _ g,V.keep _ _ _ g5 fun c _ o g=>jw _ _ g⟩
 refine aF (lG (aF (Bp km.1 (aQ ⟨pZ FJ _,?_⟩))));have d1:h1.DictOf (hW prog w) s.heap.objs.size []:=by
  obtain⟨o,es,ep,ho,r⟩:=dn;exact⟨o,es,ep,k1 _ _ ho,r⟩
 have ne:∀ {b:aD},(∃ o,s.heap.get? b=aa o)->s.heap.objs.size≠b:=fun⟨o,e⟩=>jU (cC e)
 obtain⟨g1,g2,⟨a,b,g3⟩,g4,g5⟩:=st;have m1:=U.obj _ _ g4;have m2:=V.obj _ _ g5;refine Mt (w:=w) (by simp[hh]) ap U V s.heap.objs.size (ne ⟨_,g1⟩) (ne ⟨_,g2⟩) (ne ⟨_,g3⟩) (fun q=>ne (m1 _ q) rfl) (fun q=>ne (m2 _ q) rfl) kvs hn i6 K9 (kvs.length-0) 0 _ rfl (dU _) (.inl km) d1 fun h' qt kp S'=>⟨rfl,h h' qt S' fun b o n1 n2 n3 n4 e=>kp b o (dM (cC e)) n1 n2 n3 n4 (jw b o e)⟩
end
section
variable {a b:bF}{p g9:dA}
abbrev N6 (xs:List V)(ks:List aP):Prop:=fE (fun x k=>x=kV k) xs ks
def tDz (K:aM)(ta:TA):TE:=fun σ H Q=>ta σ H fun vs H1=>∃ a1 a2 b1 b2 xs ys ks,vs=[.ref a1,.ref a2]/\l0 b1 K H1 a1 xs/\l0 b2 K H1 a2 ys/\N6 xs ks/\xs.length≤sizeLine/\∀ q n,H1 q=ab->Q (.ref q) (aq H1 q (.dK n (rS [] (ks.zip ys))))
theorem Ge {X:Cx}:∀ {xs:List V} {ks:List aP} {ys:List V} {us vs:List aC},N6 xs ks->Vals xs us->Vals ys vs->∃ kvs:List (aP×aC),KV (ks.zip ys) kvs/\(us[kvs.length]?=ab\/vs[kvs.length]?=ab)/\kvs.length≤xs.length/\∀ (j:Nat) p,kvs[j]?=aa p->∃ kv,us[j]?=aa kv/\vs[j]?=aa p.2/\(hW X.prog X.w).is p.1 kv=ae:=by
 intro xs ks ys us vs h;induction h generalizing ys us vs with
 |nil=>
  intro r q;cases r;exact⟨[],.nil,.inl rfl,bZ _,fun j p e=>by simp at e⟩
 |@cons x k xs ks e t ih=>
  intro r q;cases r with
  |cons r rr=>
   cases q with
   |nil=>exact⟨[],.nil,.inr rfl,dU _,fun j p e=>by simp at e⟩
   |@cons y v ys vs q qq=>
    obtain⟨kvs,h1,h2,h3,h4⟩:=ih rr qq;subst e;refine⟨(k,v)::kvs,.cons ⟨rfl,q⟩ h1,by simpa using h2,by simpa using h3,fun j p e=>?_⟩
    cases j with
    |zero=>
     rw[30];exact⟨_,rfl,rfl,vN r⟩
    |succ j=>exact h4 j p (by simpa using e)
theorem Um {ta:TA}(hc:X.calm=ae)(g1:Gl X "dict")(m1:X.mg "dict" = ab)(g2:Gl X "zip")(m2:X.mg "zip" = ab)(ha:PA X [a,b] ta)
  (pq:cH [yE (.Name "zip" p2) [a,b] [] g9] X.env=[(af,cE (yE (.Name "zip" p2) [a,b] [] g9) X.env)]:=by rfl) (j3:cH [a,b] X.env=[(af,cE a X.env),(af,cE b X.env)]:=by rfl) (um:cH [b] X.env=[(af,cE b X.env)]:=by rfl) :
  PE X (.Call (.Name "dict" p) [.Call (.Name "zip" p2) [a,b] [] g9] [] pos) (tDz X.K ta):=by
 rw[9];refine Call_ (tH I g1 m1 boot_dict (GU ?_ pq rfl));rw[pq];show aJ _ _ (spliced ((af,cE (yE (.Name "zip" p2) [a,b] [] g9) X.env)::[])) _ _ s;refine OX ?_;refine Call_ (tH I g2 m2 boot_zip (GU (a9 (ha g9 ad s σ H _ I h) fun us s1 ⟨vs,H1,I1,r1,q1⟩=>?_) (by rw[j3,um]) (by rw[um];rfl)))
 obtain⟨a1,a2,b1,b2,xs,ys,ks,rfl,k1,k2,kk,hz,q⟩:=q1;cases r1 with
 |cons r rr=>
  cases rr with
  |cons r' rr=>
   cases rr;cases r;cases r';obtain⟨u1,v1,w1⟩:=I1.sqB k1;obtain⟨u2,v2,w2⟩:=I1.sqB k2;have mm:∀ {b:Bool} {l:aD} {us:Array aC},SqB b s1.heap l us->l<s1.heap.objs.size:=fun {b l us} w=>by
    cases b with
    |true=>obtain⟨o,e,_⟩:=w;exact cC e
    |false=>obtain⟨o,e,_⟩:=w;exact cC e
   refine UI w1 w2 fun z TI TO i1 i2 h' y0 y1 y2 y3 y4 D oe all=>Dh ?_
   obtain⟨kvs,e1,e2,e3,e4⟩:=Ge (X:=X) kk v1 v2;refine Pm (s:={ s1 with heap:=h' }) (kvs:=kvs) (I1.ok.hd hc) D (fun e=>?_) (fun e=>?_) oe (by omega) (by simpa using e2) (fun j p e=>by simpa using e4 j p e) fun h2 tk dd hk=>?_
   ·exact kQ _ (iL (mm w1) (e ▸ y3))
   ·exact kQ _ (iL (mm w2) (e ▸ y4))
   obtain⟨m,da⟩:=dd.dictAt;have lz:(rS [] (ks.zip ys)).length≤sizeLine:=by
    have l1:=YQ (ks.zip ys) [];have l2:(ks.zip ys).length=kvs.length:=mX e1;simp at l1 l2;omega
   have le:s1.heap.objs.size≤h'.objs.size:=by
    rcases uS z h'.objs.size with hl|hl
    ·omega
    ·exact absurd (cC oe.1) (Nat.not_lt.mpr hl)
   have kp:∀ c o,s1.heap.get? c=aa o->h2.get? c=aa o:=fun c o e=>by
    have lc:=cC e;exact hk c o (dM (iL lc y0)) (dM (iL lc y2)) (dM (iL lc y3)) (dM (iL lc y4)) (all c o e)
   exact⟨.ref h'.objs.size,_,I1.laid (a:=h'.objs.size) (o:=.dK m (rS [] (ks.zip ys))) (t':=tk) kp le (DB lz (beq_eq_false_iff_ne.mpr (kP (dM (iL I1.big le)))) (e1.merge .nil) da),rfl,q _ m (I1.hok.fresh le)⟩
def sV:List aA->Option (List aP)
 |[]=>aa []
 |k::r=>(dI k).bind fun k=>(sV r).bind fun ks=>aa (k::ks)
def yV:List aA->Option aA
 |[x,y]=>(oU x).bind fun xs=>(oU y).bind fun ys=>(sV xs).bind fun ks=>if xs.length≤sizeLine then aa (.dict (tQ (ks.zip ys) [])) else ab
 |_=>ab
theorem SW:∀ {ds:List aA} {ks:List aP} {xs:List V},sV ds=aa ks->Aax K H ds xs->N6 xs ks
 |[],ks,xs,e,r=>by
  rw[30];rw[Aat.mp r];exact .nil
 |d::ds,ks,xs,e,r=>by
  obtain⟨k,e1,e⟩:=av (show((dI d).bind fun k=>(sV ds).bind fun ks=>aa (k::ks))=aa ks from e)
  obtain⟨ir,e2,e⟩:=av e;rw[30];obtain⟨v,t,rfl,r1,r2⟩:=Aal.mp r;exact .cons (rZ e1 r1) (SW e2 r2)
theorem UB:∀ {ks:List aP} {es:List aA} {ys:List V},Aax K H es ys->fE (fun(p:aP×aA) (q:aP×V)=>p.1=q.1/\Abz K H p.2 q.2) (ks.zip es) (ks.zip ys)
 |[],_,_,_=>.nil
 |_::_,[],ys,r=>by
  rw[Aat.mp r];exact .nil
 |k::ks,e::es,ys,r=>by
  obtain⟨v,t,rfl,r1,r2⟩:=Aal.mp r;exact .cons ⟨rfl,r1⟩ (UB r2)
theorem Xc {fa:AF}(hc:X.calm=ae)(g1:Gl X "dict")(m1:X.mg "dict" = ab)(g2:Gl X "zip")(m2:X.mg "zip" = ab)(ha:DA X [a,b] fa)
  (pq:cH [yE (.Name "zip" p2) [a,b] [] g9] X.env=[(af,cE (yE (.Name "zip" p2) [a,b] [] g9) X.env)]:=by rfl) (j3:cH [a,b] X.env=[(af,cE a X.env),(af,cE b X.env)]:=by rfl) (um:cH [b] X.env=[(af,cE b X.env)]:=by rfl) :
  DF 1 X (.Call (.Name "dict" p) [.Call (.Name "zip" p2) [a,b] [] g9] [] pos) (aN yV fa):=PE.imp (Um hc g1 m1 g2 m2 ha pq j3 um) fun σ H Q gh=>by
 rw[4];obtain⟨as,e1,de⟩:=av ef;clear ef;unfold yV at de;split at de
 ·obtain⟨xs,e2,b9⟩:=av de;obtain⟨ys,e3,ja⟩:=av b9;obtain⟨ks,e4,qr⟩:=av ja;obtain⟨hz,rfl⟩:=dX qr;refine⟨P,ρ,_,hP,rs,e1,fun vs H1 x1 r1=>?_⟩
  obtain⟨v,t,rfl,q1,q2⟩:=Aal.mp r1;obtain⟨v',rfl,q3⟩:=jT q2;obtain⟨a1,b1,us,rfl,k1,w1⟩:=FH e2 q1;obtain⟨a2,b2,G7,rfl,k2,w2⟩:=FH e3 q3;exact⟨a1,a2,b1,b2,us,G7,ks,rfl,k1 _ Aaz,k2 _ Aaz,SW e4 w1,by rw[w1.length];exact hz,fun l n hn=>(k.mono x1).dic (hP.ext x1) hn (Xm (UB w2) (Acf.mpr rfl))⟩
 ·cases de
end
abbrev TE3:=List aA×aD×aC
def qY (kds:List (aA×aA))(k:List aA)(d:aA):List (aA×aA):=if (nH kds k).isSome=ae then kds.map fun kd=>if bQ kd.1 (.tuple k)=ae then(kd.1,d) else kd else kds++[(.tuple k,d)]
theorem LA{k:List aA}(hk:cA k=ae)(rv:Abz K H d v):∀ {kds:List (aA×aA)} {kvs:List (List aA×V)},Adc K H kds kvs ->
  Adc K H (kds.map fun kd=>if bQ kd.1 (.tuple k)=ae then(kd.1,d) else kd) (kvs.map fun kv=>if kv.1=k then(kv.1,v) else kv)
 |[],kvs,h=>by rw[Aei.mp h];exact Aei.mpr rfl
 |(k0,d0)::r,kvs,h=>by
  obtain⟨k',x,rr,rfl,⟨rfl,dh⟩,h1,h2⟩:=Aco.mp h;have e:bQ (.tuple k') (.tuple k)=decide (k'=k):=by rw[Ar,zT _ _ dh hk]
  rw[eF,eF];by_cases q:k'=k
  ·rw[if_pos q,if_pos (by rw[e];exact decide_eq_true q)]
   exact Aco.mpr ⟨k',v,_,rfl,⟨rfl,dh⟩,rv,LA hk rv h2⟩
  ·rw[if_neg q,if_neg (by rw[e,decide_eq_false q];simp)]
   exact Aco.mpr ⟨k',x,_,rfl,⟨rfl,dh⟩,h1,LA hk rv h2⟩
theorem Adc.snoc{k:List aA}(hk:cA k=ae)(rv:Abz K H d v):∀ {kds:List (aA×aA)} {kvs:List (List aA×V)},Adc K H kds kvs->Adc K H (kds++[(.tuple k,d)]) (kvs++[(k,v)])
 |[],kvs,h=>by rw[Aei.mp h];exact Aco.mpr ⟨k,v,[],rfl,⟨rfl,hk⟩,rv,Aei.mpr rfl⟩
 |(k0,d0)::r,kvs,h=>by
  obtain⟨k',x,rr,rfl,e,h1,h2⟩:=Aco.mp h;exact Aco.mpr ⟨k',x,_,rfl,e,h1,Adc.snoc hk rv h2⟩
theorem Vh{k:List aA}{kvs:List (List aA×V)}(hk:cA k=ae)(h:Adc K H kds kvs)(rv:Abz K H d v):Adc K H (qY kds k d) (putK kvs k v):=by
 unfold qY putK;rw[KQ];rcases LJ hk h with⟨n1,n2⟩|⟨d',v',s1,s2,_⟩
 ·rw[n1,n2,if_neg (by simp),if_neg (by simp)]
  exact Adc.snoc hk rv h
 ·rw[s1,s2,if_pos (show(aa d').isSome=ae from rfl),if_pos (show(aa v').isSome=ae from rfl)]
  exact LA hk rv h
def keyed (kds:List (aA×aA)):Prop:=∀ kd∈kds,∃ k,kd.1=.tuple k/\cA k=ae
theorem WW {k:List aA}(hk:cA k=ae):∀ {kds:List (aA×aA)},keyed kds->((nH kds k).isSome=ae↔iF k∈kds.map (·.1))
 |[],_=>by simp[nH]
 |(k0,d)::r,h=>by
  obtain⟨k',e,dh⟩:=h (k0,d) cF;have e:k0=.tuple k':=e;subst e;rw[XY dh hk];by_cases q:k'=k
  ·rw[if_pos q,q];simp
  ·rw[if_neg q,WW hk fun kd m=>h kd (cS _ m)]
   have:iF k ≠ .tuple k':=fun z=>q (uQ z).symm
   simp[this]
section
variable {B0:Hp}{ρ:bM}{σ:St}{fp:Nat->List aD}
theorem Sta.writeN{p:aD}{o:HO}{d':aA}(S:Sta K H0 P0 B0 ρ σ H fp)(hi:i<ρ.length)(hv:σ[i]?=aa (aa v))(hp:p∈fp i)(ho:(∃ xs,o=.lst xs)\/∃ q:DQ,o=dO q)
  (new:Aj2 K (L2.hid H (Hd P0 fp)) (aq H p o) n d' v (fp i)):Sta K H0 P0 B0 (ρ.set i (aa (n,d'))) σ (aq H p o) fp:=by
 have same:L2.hid (aq H p o) (Hd P0 fp)=L2.hid H (Hd P0 fp):=by
  funext b;unfold L2.hid;by_cases q:Hd P0 fp b
  ·rw[if_pos q,if_pos q]
  ·rw[if_neg q,if_neg q];exact fU fun z=>q (.inr ⟨i,by rw[z];exact hp⟩)
 refine⟨by simp[S.len],S.nd,S.dj,fun j a m=>⟨(S.own j a m).1,?_⟩,fun b u e=>?_,S.hd,by rw[same];exact S.base,fun j n' d e=>?_⟩
 ·by_cases q:a=p
  ·subst q;rcases ho with⟨xs,rfl⟩|⟨xs,rfl⟩
   ·exact .inl ⟨xs,jK⟩
   ·exact .inr ⟨xs,jK⟩
  ·rw[fU q];exact(S.own j a m).2
 ·rw[fU (mQ e (S.own i p hp).1)];exact S.ext b u e
 ·by_cases q:j=i
  ·subst q;rw[rE hi] at e;rw[30];exact⟨_,hv,by rw[same];exact new⟩
  ·rw[rF (fun z=>q z.symm)] at e
   obtain⟨u,h1,h2⟩:=S.slot j n' d e;refine⟨u,h1,?_⟩;rw[same];exact h2.keep Ext.refl fun a m=>fU fun z=>q (S.dj j i a m (by rw[z];exact hp))
end
theorem Adc.length:∀ {kds:List (aA×aA)} {ts:List (List aA×V)},Adc K H kds ts->ts.length=kds.length
 |[],ts,h=>by rw[Aei.mp h];rfl
 |(k,d)::r,ts,h=>by
  obtain⟨k',x,rr,rfl,_,_,h2⟩:=Aco.mp h;simp[Adc.length h2]
mutual
theorem My:∀ d:aA,bO d=ae->cT d=ae
 |.int _,_=>by simp[cT]
 |.str _,_=>by simp[cT]
 |.tuple ds,h=>by
  simp only[cT];exact LQ ds (by simpa [bO] using h)
 |.none,h=>by simp[bO] at h
 |.bool _,h=>by simp[bO] at h
 |.list _,h=>by simp[bO] at h
 |.dict _,h=>by simp[bO] at h
theorem LQ:∀ ds:List aA,cA ds=ae->pQ ds=ae
 |[],_=>rfl
 |d::r,h=>by
  have h:bO d=ae/\cA r=ae:=by simpa [cA] using h
  simp[pQ,My d h.1,LQ r h.2]
end
def FX (i:Nat)(ρ:bM):Option (List (aA×aA)):=match ρ[i]? with
 |some (aa (9,.dict ((.none,.none)::kds)))=>aa kds
 |_=>ab
theorem XF{ρ:bM}{ds:List (aA×aA)}(h:FX i ρ=aa ds):ρ[i]?=aa (aa (9,.dict ((.none,.none)::ds))):=by
 unfold FX at h;split at h
 ·rename_i e;cases h;exact e
 ·cases h
theorem Ze{k:List aA}(h:∀ kd∈kds,cT kd.2=ae)(hd:cT d=ae):∀ kd∈qY kds k d,cT kd.2=ae:=fun kd m=>by
 unfold qY at m;split at m
 ·obtain⟨y,my,rfl⟩:=cN.mp m;split
  ·exact hd
  ·exact h y my
 ·rcases kR.mp m with m|m
  ·exact h kd m
  ·rw[eB.mp m];exact hd
section
variable {B0:Hp}{ρ:bM}{σ:St}{fp:Nat->List aD}
theorem Sta.dicT {ds:List (aA×aA)}(S:Sta K H0 P0 B0 ρ σ H fp)(e:ρ[i]?=aa (aa (9,.dict ((.none,.none)::ds)))):∃ p ts,σ[i]?=aa (aa (.ref p))/\H p=aa (.dT ts)/\(∀ kd∈ds,cT kd.2=ae)/\Adc K (L2.hid H (Hd P0 fp)) ds ts /\
  ∀ ko zk,(∀ kd∈ko,cT kd.2=ae)->Adc K (L2.hid H (Hd P0 fp)) ko zk->Sta K H0 P0 B0 (ρ.set i (aa (9,.dict ((.none,.none)::ko)))) σ (aq H p (.dT zk)) fp:=by
 obtain⟨v,h1,h2⟩:=S.slot i 9 _ e;rcases(show _\/FY _ _ _ _ _ _ from h2) with⟨z,_⟩|⟨kds,p,ts,ed,rfl,hp,hF,f,r⟩
 ·cases z
 cases ed;refine⟨p,ts,h1,hp,f,r,fun ko zk f' r'=>S.writeN (dD.mp e).1 h1 (by rw[hF];exact cF) (.inr ⟨.inr zk,rfl⟩) ?_⟩
 exact(bB ⟨ko,p,zk,rfl,rfl,jK,hF,f',r'⟩:_\/FY _ _ _ _ _ _)
end
section
variable {x:aE}{e k:bF}{g:EF}{px:dA}
theorem Vu:DF 9 X (.Dict [] [] pos) (eC (.dict [(.none,.none)])):=PE.imp Ut fun σ H Q gh=>by
 rw[4];cases ef;refine fun q hq=>k (.ref q) (aq H q (.dT [])) [q] (Ext.new hq) (mE.mpr ⟨by simp,.nil⟩) (fun a m=>?_) (bB ⟨[],q,[],rfl,rfl,jK,rfl,fun kd m=>by simp at m,Aei.mpr rfl⟩:_\/FY _ _ _ _ _ _)
 rw[eB.mp m];exact⟨hq,_,jK⟩
def FZ (i:Nat)(m:Md)(f:EF)(mk:Md)(g:EF):SF:=fun ρ=>(eV 0 m f ρ).bind fun d=>(FX i ρ).bind fun kds=>(eV 0 mk g ρ).bind fun k=>match k with
 |.tuple k=>if ((cA k=ae/\bX k≤6)/\cT d=ae)/\kds.length<sizeLine then aa (.nx (ρ.set i (aa (9,.dict ((.none,.none)::qY kds k d))))) else ab
 |_=>ab
theorem Ta (i:Nat)(m mk:Md)(hu:X.A.units+40<cLine)(he:DE X e f)(hk:DE X k g)(hN:X.N[i]?=aa x:=by rfl)(hv:oK X.env.scope x:=by first|exact bA rfl|exact bB (bA rfl)|exact bB (bB rfl))(hd:(x==("__debug__" : aE))=af:=by decide)
  (ic:(x==("__classdict__" : aE))=af:=by decide) (hs:nY e (aa (.Subscript (.Name x px) k ay)) pos.line X.env=pure af:=by rfl):DS X H0 P0 n0 (.Assign [.Subscript (.Name x px) k ay] e pos) (FZ i m f mk g):=
 PS.imp (Ay hu (qP hN hv hd ic) hk (ev (H0:=H0) (P0:=P0) m he) hs) fun D σ H gh=>by
  obtain⟨B0,ρ,fp,o,S,ef,kk⟩:=gh;obtain⟨d,e1,de⟩:=av ef;obtain⟨kds,e2,b9⟩:=av de;obtain⟨kd,e3,ja⟩:=av b9;cases kd with
  |tuple key=>
   obtain⟨⟨⟨gg,hfd⟩,hl⟩,rfl⟩:=dX ja;clear ef de b9 ja;refine⟨B0,ρ,fp,d,S,e1,fun v H2 gh=>?_⟩
   obtain⟨kr,S2,r2⟩:=gh;obtain⟨p,ts,h1,h2,_⟩:=S2.dicT (XF e2);have hf:cT (.tuple key)=ae:=by simp only[cT];exact LQ _ gg.1
   refine⟨.ref p,h1,IG S2 e3 hf fun u H3 x3 r3=>?_⟩
   have S3:=S2.grow x3;obtain⟨p3,ts3,q1,q2,qf,q3,q4⟩:=S3.dicT (XF e2);have:p3=p:=by rw[h1] at q1;cases q1;rfl
   rw[25];obtain⟨b,rfl,tb⟩:=r3.tupK gg.1 gg.2;refine⟨p3,_,rfl,.inr ⟨ts3,key,b,q2,rfl,tb.keep fun c zs e=>Aaz _ _ e,by rw[q3.length];exact hl,rfl⟩,fun n=>kk _ _ kr (q4 _ _ (Ze qf hfd) (Vh gg.1 q3 (r2.2.ext (fD x3))))⟩
  |_=>cases ja
theorem Oc(d:aD)(hd:(d==kB)=af) :
  MeetsIn prog w (Builtin.«dict.__len__» ⟨[.ref d],[]⟩) (fun _ R s=>∃ xs,s.heap.DictOfH (oY prog w) d xs/\R (.ok (.ret (.int xs.length s.toks))) { s with toks:=s.toks+1 }):=
 .of_wp fun A R s gh=>by
  obtain⟨xs,hm,h⟩:=gh;obtain⟨o,es,ep,ho,hc,LE,vd,_,_⟩:=hm;show aJ _ _ (dictSize d>>=_) _ _ s;unfold dictSize;refine aF (aF (NK ho LE (aQ ?_)));refine aF (wpAny_pendingCount_other hd (wpAny_ret_mkInt ?_));have:es.size=xs.length:=size_of_entries vd;rw[NZ,this];exact h
theorem Et{d:aD}{xs:List TE3}(hd:(d==kB)=af)(hm:s.heap.DictOfH (oY prog w) d xs)(hz:(xs.length:Int)<2^63)(h:∀ t s',s'={ s with toks:=s.toks+1+1 }->Q (.int xs.length t) s') :
  aJ (aO prog w) A (call (.builtin "len") [.ref d]) Q E s:=by
 refine OY kind_len plain_len entry_len (args_len1 _) ?_;unfold Builtin.«len»;refine aF (m:=oneArg "len" _) (aQ ?_);refine aF (m:=callSpecial? (.ref d) (kM "__len__")) (nX (name:=kM "__len__") hm.typeIs F.slot_dict_len (NN F.slot_dict_len hm.typeIs F.entry_dict_len (F.args_dict_len_1 _) (Oc d hd) ⟨xs,hm,?_⟩));show aJ _ _ _ _ _ { s with toks:=s.toks+1 };refine aF (iX (aQ ?_));refine aF (GI ?_);show aJ _ _ (if ((xs.length:Nat):Int)<0 then _ else _) _ _ _
 rw[if_neg (by omega)]
 show aJ _ _ (if ((xs.length:Nat):Int) ≥ 2^63 then _ else _) _ _ _
 rw[if_neg (by omega)]
 exact aF (wpAny_mkInt (aQ ⟨_,rfl,h _ _ rfl⟩))
theorem WB:Aet X (.builtin "len") (fun xs H Q=>∃ a ts,xs=[V.ref a]/\H a=aa (.dT ts)/\Q (.int ts.length) H):=by
 rw[5];obtain⟨a,ts,rfl,ha,q⟩:=h;rw[18];obtain⟨z,hd,ys,kt,dd⟩:=QI I.hok ha;have e:ts.length=ys.length:=mX kt;refine Et hd dd (by rw[← e];rw[mS] at z;omega) fun t s' es=>?_
 subst es;exact⟨.int ts.length,H,I.tok _,⟨t,by rw[e]⟩,q⟩
def AR:List aA->Option aA
 |[.dict ((.none,.none)::kds)]=>aa (.int kds.length)
 |_=>ab
theorem WX:CallD K 0 (fun xs H Q=>∃ a ts,xs=[V.ref a]/\H a=aa (.dT ts)/\Q (.int ts.length) H) AR:=fun P H xs ds d Q hP r e k=>by
 unfold AR at e;split at e
 ·rw[30];obtain⟨v,rfl,r'⟩:=jT r;obtain⟨a,ts,rfl,ha,rr⟩:=(LD).mp r';exact⟨a,ts,rfl,Aaz _ _ ha,k.zero Ext.refl (Aau.mpr (by rw[rr.length]))⟩
 ·rw[30]
end
def Fq (K:aM):V->List V->Hp->VK->Prop:=fun x vs H Q=>∃ l b xs zs,x=.ref l/\vs=[.ref b]/\H l=aa (.lst xs)/\(SqL K H b zs\/SqT K H b zs)/\xs.length+zs.length≤sizeLine/\Q .non (aq H l (.lst (xs++zs)))
theorem Pe:D1 X "list.extend" (Fq X.K):=by
 intro ad s σ H x vs v us Q I rx rv h;obtain⟨l,b,xs,zs,rfl,rfl,hH,hB,hz,q⟩:=h;cases rx;obtain⟨u,rfl,ru⟩:=rv.one;cases ru;obtain⟨z,its,n,r,hl,e⟩:=I.lstM hH;obtain⟨fj,r2,T,o2,n2,g1,g2,g3,hT⟩:∃ (fj:List aC),Vals zs fj/\∃ (T:String) (o2:bJ) (n2:Nat),s.heap.get? b=aa o2/\o2.cls=.type T/\o2.data=.seq fj.toArray n2/\(T = "list" \/ T = "tuple"):=by
  rcases hB with hB|hB
  ·obtain⟨fj,r2,pl,_⟩:=I.list hB;obtain⟨o2,g1,g2,n2,g3⟩:=pl.isList;exact⟨fj,r2,"list",o2,n2,g1,g2,g3,.inl rfl⟩
  ·obtain⟨fj,r2,pl,_⟩:=I.tuple hB;obtain⟨o2,g1,g2,n2,g3⟩:=pl;exact⟨fj,r2,"tuple",o2,n2,g1,g2,g3,.inr rfl⟩
 have qy:=r2.length;have hsz:its.toArray.size+fj.toArray.size≤sizeLine:=by rw[fP,fP];omega
 have zl:¬ (!its.toArray.isEmpty&&Dk (its.toArray.size+fj.toArray.size))=ae:=by
  rw[Uc hsz,Bool.and_false];exact oJ
 refine iY F.slot_list_extend ⟨_,e,rfl⟩ F.entry_list_extend ?_ (F.args_list_extend_2 _ _);unfold Builtin.«list.extend»;refine aF (m:=selfAndOne "list.extend" _) (aQ ?_);show aJ _ _ (rK (.ref l) (.ref b) .none) _ _ _;unfold rK;refine aF (sL (T:=T) ⟨o2,g1,g2⟩ ?_);have yes:(yG (.ref l) (.ref b)||jA T==jA "list" || jA T==jA "tuple")=ae:=by
  rcases hT with rfl|rfl
  ·rw[show(jA "list" == jA "list")=ae from rfl];simp
  ·rw[show(jA "tuple" == jA "tuple")=ae from rfl];simp
 rw[if_pos yes];refine aF (listItems_at g1 g3 (aF (listItems_at e rfl ?_)));rw[if_neg zl];refine aF (GL e rfl (aQ ⟨.none,rfl,?_⟩) (by rw[fP];omega) (by show(its.toArray++fj.toArray).size≤sizeLine+1;rw[Array.size_append];omega))
 refine⟨.non,_,I.lset (t':=s.toks) (f:=fun a=>a++fj.toArray) (its':=its++fj) hH e (by simp) (r.append r2) (by rw[mZ];omega),rfl,q⟩
section
variable {e:bF}{x:aE}{px au:dA}
def Eu:aA->Option (List aA)
 |.list es=>aa es
 |.tuple es=>aa es
 |_=>ab
def tD (i:Nat)(m:Md)(f:EF):SF:=fun ρ=>(eV 0 m f ρ).bind fun d=>(getL i ρ).bind fun ds=>(Eu d).bind fun es=>if ds.length+es.length≤sizeLine then aa (.nx (ρ.set i (aa (1,.list (ds++es))))) else ab
theorem UH{es:List aA}{xs:List V}(h1:Aax K H ds xs)(h2:Aax K H es ys):Aax K H (ds++es) (xs++ys):=h1.append h2
theorem XA (i:Nat)(m:Md)(he:DE X e f)(hN:X.N[i]?=aa x:=by rfl)(hv:oK X.env.scope x:=by first|exact bA rfl|exact bB (bA rfl)|exact bB (bB rfl))(hd:(x==("__debug__" : aE))=af:=by decide)
  (ic:(x==("__classdict__" : aE))=af:=by decide) (cg:sO (.Name x px) "extend" X.env (cE (.Name x px) X.env)=cE (.Name x px) X.env:=by rfl)
  (gi:((iJ au (cH (e::[]) X.env)).all (fun x=>!x.1)&&(xP au (xN [] X.env)).all (fun x=>x.1.isSome)
   && decide ((e::[]).length+([]:List nA).length+(if ([]:List nA).isEmpty then 0 else 1)<30))=ae:=by rfl)
  (cj:(ay.endLine==au.line)=ae:=by rfl) (hs:cH (e::[]) X.env=(af,cE e X.env)::cH [] X.env:=by rfl) (ck:(iJ au (cH [] X.env)).any (·.1)=af:=by rfl)
  (pi:nY (.Call (.Attribute (.Name x px) "extend" ay) [e] [] au) ab pos.line X.env=pure af:=by rfl):DS X H0 P0 n0 (.Expr (.Call (.Attribute (.Name x px) "extend" ay) [e] [] au) pos) (tD i m f):=
 PS.imp (ED (AQ NQ PySem.F.slot_list_extend PySem.F.type_list_extend Pe (qP hN hv hd ic) (oW (ev (H0:=H0) (P0:=P0) m he) qQ hs) cg gi cj hs ck) pi) fun D σ H gh=>by
  rw[11];obtain⟨d,e1,de⟩:=av ef;obtain⟨ds,e2,b9⟩:=av de;obtain⟨es,e3,ja⟩:=av b9;obtain⟨hl,rfl⟩:=dX ja;obtain⟨p,xs,h1,h2,_,_⟩:=S.lst1 (tW e2);refine⟨.ref p,h1,.inl ⟨rfl,xs,SqL.of h2⟩,B0,ρ,fp,d,S,e1,fun v H2 gh=>?_⟩
  obtain⟨kr,S2,r2⟩:=gh;obtain⟨p2,B4,q1,q2,q3,q4⟩:=S2.lst1 (tW e2);have:p2=p:=by rw[h1] at q1;cases q1;rfl
  rw[25];cases d with
  |list i9=>
   cases e3;obtain⟨b,ys,rfl,hb,rr⟩:=Abg.mp r2.2;exact⟨p2,b,B4,ys,rfl,rfl,q2,.inl (Aaz.sqL hb),by rw[q3.length,rr.length];exact hl,k _ _ kr (q4 _ _ (UH q3 rr))⟩
  |tuple i9=>
   cases e3;obtain⟨b,ys,rfl,hb,rr⟩:=Aa5.mp r2.2;exact⟨p2,b,B4,ys,rfl,rfl,q2,.inr (SqT.of (Aaz _ _ hb)),by rw[q3.length,rr.length];exact hl,k _ _ kr (q4 _ _ (UH q3 rr))⟩
  |_=>cases e3
end
def jW:List Int->Int
 |[]=>0
 |[i]=>i
 |i::j::r=>max i (jW (j::r))
theorem JT:∀ {is:List Int} {i:Int},i∈is->i≤jW is
 |[a],i,m=>by rw[eB.mp m];exact Int.le_refl _
 |a::b::r,i,m=>by
  show i≤max a (jW (b::r));rw[16]
  ·omega
  ·have:=JT m;omega
theorem UQ:∀ {is:List Int},is≠[]->jW is∈is
 |[a],_=>eB.mpr rfl
 |a::b::r,_=>by
  show max a (jW (b::r))∈a::b::r;have h:=UQ (is:=b::r) (by simp)
  rcases Int.le_total a (jW (b::r)) with q|q
  ·rw[Int.max_eq_right q];exact cS _ h
  ·rw[Int.max_eq_left q];exact cF
theorem Tq{is:List Int}(hh:A.handled=ab)(hl:s.heap.IsList l vs.toArray)(hi:IntsAre vs is)(cf:is≠[])
  (h:∀ t h' tk,(∀ b o,s.heap.get? b=aa o->h'.get? b=aa o)->Q (.int (jW is) t) { s with heap:=h',toks:=tk }) :
  aJ (aO P w) A (call (.builtin "max") [.ref l]) Q E s:=by
 have bg:l<s.heap.objs.size:=by obtain⟨_,e,_⟩:=hl;exact cC e
 have ax:vs.length=is.length:=hi.length;have t7:∀ (i:Nat) v,vs.toArray[i]?=aa v->∃ t,v=.int (is.getD i 0) t:=fun i v e=>by
  have e':vs[i]?=aa v:=by simpa using e
  clear h hl cf ax e;induction hi generalizing i with
  |nil=>simp at e'
  |cons n t r ih=>
   cases i with
   |zero=>exact⟨t,by simpa using e'.symm⟩
   |succ i=>
    obtain⟨t',et⟩:=ih i (by simpa using e')
    exact⟨t',by simpa using et⟩
 have so:0<is.length:=List.length_pos_iff.mpr cf;refine call_max_walk (NG hl ?_);refine⟨_,_,_,_,_,_,_,rfl,Walks.list (A:=A.in1) hh s.heap.objs.size l (dM bg) vs.toArray,⟨⟨_,eJ _ rfl,rfl,rfl⟩,?_⟩,fun b hb=>?_,by rw[fP];omega,CmpOf.ints_gt (fun i=>is.getD i 0) t7,fun v h' tk hP hk=>?_⟩
 ·obtain⟨o,e,r⟩:=hl;exact⟨o,cL _ e,r⟩
 ·show b<(s.heap.push _).objs.size;rw[qJ];rcases eD.mp hb with rfl|hb
  ·exact xS _
  ·rw[eB.mp hb];exact pF bg
 ·obtain⟨b1,b2⟩:=argBest_gt (fun i=>is.getD i 0) (vs.toArray.size-1)
  obtain⟨t,rfl⟩:=t7 _ _ hP;generalize argBest (fun i j=>decide (is.getD i 0 > is.getD j 0)) (vs.toArray.size-1)=m at b1 b2 hP
  rw[fP] at b1 b2;have em:is.getD m 0=jW is:=by
   have hm:m<is.length:=by omega
   have g:∀ {j:Nat} (hj:j<is.length),is.getD j 0=is[j]:=fun hj=>by rw[Zr,eW hj];rfl
   refine Int.le_antisymm (JT (by rw[g hm];exact qG hm)) ?_
   obtain⟨j,hj,ej⟩:=Cr (UQ cf);rw[← ej,← g hj];exact b2 j (by omega)
  rw[em];refine h t h' tk fun b o e=>?_
  refine hk b o (fun hm=>?_) (cL _ e)
  rw[eB.mp hm] at e;exact absurd (cC e) (kQ _)
theorem Oq (hc:X.calm=ae):Aet X (.builtin "max") (fun xs H Q=>∃ p,∃ is:List Int,xs=[.ref p]/\SqL X.K H p (is.map V.int)/\is≠[]/\Q (.int (jW is)) H):=by
 rw[5];obtain⟨p,is,rfl,hp,cf,q⟩:=h;rw[18];obtain⟨its,rv,pl,_⟩:=I.list hp;refine Tq (I.ok.hd hc) pl.isList (QD rv) cf fun t h' tk hk=>?_
 exact⟨.int (jW is),H,I.kept (t':=tk) fun b o e=>hk b o e,⟨t,rfl⟩,q⟩
def yR:List aA->Option aA
 |[.list ds]=>(uF ds).bind fun is=>if is≠[] then aa (.int (jW is)) else ab
 |_=>ab
theorem Om:CallD K 0 (fun xs H Q=>∃ p,∃ is:List Int,xs=[.ref p]/\SqL K H p (is.map V.int)/\is≠[]/\Q (.int (jW is)) H) yR:=fun P H xs ds d Q hP r e k=>by
 unfold yR at e;split at e
 ·obtain⟨is,e1,e2⟩:=av e;obtain⟨hl,rfl⟩:=dX e2;obtain rfl:=Bi e1;obtain⟨v,rfl,r'⟩:=jT r;obtain⟨q,ys,rfl,hq,rr⟩:=Abg.mp r';obtain rfl:=YI rr;exact⟨q,is,rfl,Aaz.sqL hq,hl,k.zero Ext.refl (Aau.mpr rfl)⟩
 ·rw[30]
end L2
namespace Aw
open PySem L2
def gf (i:Nat):cV:=PySem.Challenge.pw_askwithin_k17_answers_of_alternatives.main.body.getD i (.Pass ⟨0,0,0,0⟩)
abbrev LR:cV:=gf 4
abbrev Ny:List aE:=["lines","names","line","term"]
abbrev wO:List aE:=["lines"]
theorem Alx:FnScope Ny wO (cX LR):=by rw[900]
abbrev EV:cV:=gf 5
abbrev TC:List aE:=["terms","known"]
abbrev wH:List aE:=["terms","known"]
theorem Arn:FnScope TC wH (cX EV):=by rw[900]
abbrev IM:cV:=gf 8
abbrev Ja:List aE:=["line","row","known","found","term","number","wanted"]
abbrev yY:List aE:=["line","row","known"]
theorem Ayd:FnScope Ja yY (cX IM):=by rw[900]
abbrev LC:cV:=gf 9
abbrev Nu:List aE:=["book","line"]
abbrev wI:List aE:=["book","line"]
theorem Ant:FnScope Nu wI (cX LC):=by rw[900]
abbrev LM:cV:=gf 10
abbrev Xn:List aE:=["rows","number","own"]
abbrev zR:List aE:=["rows"]
theorem Anj:FnScope Xn zR (cX LM):=by rw[900]
abbrev MP:cV:=gf 11
abbrev Rp:List aE:=["rows"]
abbrev AG:List aE:=["rows"]
theorem Aih:FnScope Rp AG (cX MP):=by rw[900]
abbrev FQ:cV:=gf 12
abbrev YX:List aE:=["book","lines"]
abbrev wY:List aE:=["book","lines"]
theorem Aij:FnScope YX wY (cX FQ):=by rw[900]
abbrev MA:cV:=gf 13
abbrev Nz:List aE:=["found","line","rows","told","known","row","more"]
abbrev zU:List aE:=["found","line","rows"]
theorem Alz:FnScope Nz zU (cX MA):=by rw[900]
abbrev JY:cV:=gf 14
abbrev Vf:List aE:=["lines","rows","found","line","own"]
abbrev zM:List aE:=["lines","rows"]
theorem Aqa:FnScope Vf zM (cX JY):=by rw[900]
abbrev FN:cV:=gf 15
abbrev YJ:List aE:=["lines","found","names"]
abbrev AJ:List aE:=["lines","found"]
theorem Ajq:FnScope YJ AJ (cX FN):=by rw[900]
abbrev FA:cV:=gf 16
abbrev WA:List aE:=["book","lines"]
abbrev wL:List aE:=["book","lines"]
theorem Anm:FnScope WA wL (cX FA):=by rw[900]
abbrev FM:cV:=gf 17
abbrev YM:List aE:=["alternative","found","names"]
abbrev AK:List aE:=["alternative","found"]
theorem Ai2:FnScope YM AK (cX FM):=by rw[900]
abbrev LN:cV:=gf 18
abbrev Ng:List aE:=["book","question","alternative","told"]
abbrev zP:List aE:=["book","question"]
theorem An6:FnScope Ng zP (cX LN):=by rw[900]
abbrev MG:cV:=gf 20
abbrev Px:List aE:=["_law_script","_law_k","_law_number"]
abbrev sC:List aE:=["_law_script","_law_k"]
theorem Akr:FnScope Px sC (cX MG):=by rw[900]
abbrev LY:cV:=gf 21
abbrev Ph:List aE:=["_law_cell_here","_law_k","_law_number"]
abbrev mR:List aE:=["_law_cell_here","_law_k"]
theorem Al2:FnScope Ph mR (cX LY):=by rw[900]
abbrev xB:cV:=gf 22
abbrev FL:List aE:=["_law_cell_here","_law_count","_law_signs","_law_size","_law_base","_law_at","_law_found","_law_k"]
abbrev xD:List aE:=["_law_cell_here","_law_count"]
theorem Ajn:FnScope FL xD (cX xB):=by rw[900]
abbrev MH:cV:=gf 23
abbrev Ql:List aE:=["_law_cell_here","_law_far","_law_big"]
abbrev AD:List aE:=["_law_cell_here"]
theorem Akp:FnScope Ql AD (cX MH):=by rw[900]
abbrev MQ:cV:=gf 24
abbrev Rl:List aE:=["_law_cell_here","_law_count","_law_found","_law_name","_law_number","_law_wide"]
abbrev AI:List aE:=["_law_cell_here","_law_count"]
theorem Aic:FnScope Rl AI (cX MQ):=by rw[900]
abbrev MI:cV:=gf 25
abbrev Qg:List aE:=["_law_cell_here","_law_names_here","_law_pool_here","_law_number"]
abbrev AB:List aE:=["_law_cell_here","_law_names_here","_law_pool_here"]
theorem Akf:FnScope Qg AB (cX MI):=by rw[900]
abbrev AL:cV:=gf 26
abbrev MK:List aE:=["_law_script","_law_start","_law_tables_here","_law_names_here","_law_pool_here","_law_count","_law_lines_here","_law_at","_law_k","_law_number","_law_table","_law_terms"]
abbrev zY:List aE:=["_law_script","_law_start","_law_tables_here","_law_names_here","_law_pool_here","_law_count"]
theorem Ai5:FnScope MK zY (cX AL):=by rw[900]
abbrev MN:cV:=gf 27
abbrev So:List aE:=["_law_cell_here","_law_line","_law_names_here","_law_pool_here","_law_row","_law_term_here"]
abbrev AM:List aE:=["_law_cell_here","_law_line","_law_names_here","_law_pool_here"]
theorem Ahl:FnScope So AM (cX MN):=by rw[900]
abbrev FE:cV:=gf 28
abbrev YH:List aE:=["_law_script","_law_start","_law_tables_here","_law_lines_here","_law_names_here","_law_pool_here","_law_most","_law_book_here","_law_table","_law_wide","_law_rows","_law_j","_law_cell_here","_law_row","_law_k","_law_at"]
abbrev AC:List aE:=["_law_script","_law_start","_law_tables_here","_law_lines_here","_law_names_here","_law_pool_here","_law_most"]
theorem Akn:FnScope YH AC (cX FE):=by rw[900]
abbrev MM:cV:=gf 29
abbrev Qq:List aE:=["_law_lines_here","_law_found","_law_line","_law_term_here"]
abbrev wZ:List aE:=["_law_lines_here"]
theorem Aiz:FnScope Qq wZ (cX MM):=by rw[900]
abbrev MT:cV:=gf 30
abbrev Su:List aE:=["_law_script","_law_tables_here","_law_names_here","_law_pool_here","_law_size","_law_question_here","_law_k","_law_cell_here","_law_lines_here","_law_order_here","_law_head","_law_j"]
abbrev AN:List aE:=["_law_script","_law_tables_here","_law_names_here","_law_pool_here"]
theorem Ahe:FnScope Su AN (cX MT):=by rw[900]
abbrev MJ:cV:=gf 31
abbrev Qc:List aE:=["_law_book_here","_law_question_here","_law_owed_here","_law_head","_law_lines_here","_law_order_here","_law_match","_law_row","_law_term_here"]
abbrev zV:List aE:=["_law_book_here","_law_question_here"]
theorem Akm:FnScope Qc zV (cX MJ):=by rw[900]
abbrev rM:cV:=gf 32
abbrev QH:List aE:=["_law_script","_law_tables_here","_law_names_here","_law_pool_here","_law_question_here","_law_lines_here","_law_one","_law_most","_law_book_here","_law_kept","_law_copied","_law_table","_law_owed_here","_law_found","_law_k"]
abbrev QO:List aE:=["_law_script"]
theorem A8w:FnScope QH QO (cX rM):=by rw[900]
structure Blt (mg:aE->Option aC):Prop where
 «isinstance» : mg "isinstance" = ab
 «int» : mg "int" = ab
 «bool» : mg "bool" = ab
 «abs» : mg "abs" = ab
 «range» : mg "range" = ab
 «len» : mg "len" = ab
 «str» : mg "str" = ab
 «all» : mg "all" = ab
 «any» : mg "any" = ab
 «list» : mg "list" = ab
 «tuple» : mg "tuple" = ab
 «dict» : mg "dict" = ab
 «set» : mg "set" = ab
 «sorted» : mg "sorted" = ab
 «sum» : mg "sum" = ab
 «min» : mg "min" = ab
 «max» : mg "max" = ab
 «enumerate» : mg "enumerate" = ab
 «zip» : mg "zip" = ab
 «reversed» : mg "reversed" = ab
 «ValueError» : mg "ValueError" = ab
structure Cst (mg:aE->Option aC):Prop where
 MOST_WAYS:∃ t,mg "MOST_WAYS" = aa (.int 4096 t)
set_option maxHeartbeats 4000000
variable {P:bS}{w:bH}{K:aM}{mg:aE->Option aC}{base:aZ}{f:aD}{fd:jD}
def Oi:SF:=(aY (bE 1 1 .s (eC (.dict [])))
 (aY (eP .s (bo (aB 0)) (bw 2) (eP .s (bo (ah a5 (aB 2) (eC (.int 1)))) (bw 3) (bp .s (ao (b7 (dG "str") (aB 3))) (fT 1 .s (eC (.bool ae)) .s (aB 3)) dC)))
 (eK 1 (cQ 1 .s (aN IU (aG (aB 1) aK))))))
def sD:List aA->Option aA:=bh 1 4 Oi
theorem Pt (F:Fun K "names_of" "names_of" LR f fd)(B:Blt mg)(C:Cst mg):FnOk P w K mg base d9 1 f fd wO (ar K 1 sD):=by
 have nd:=Alx.nd;exact hE F Alx rfl (by decide) fun az A outer s H E P0 hr=>by
  rw[2];exact(bP (cO (i:=1) 1 .s nd rfl (by trivial) DR)
   (bP (jR iG rfl (iT (aI 0)) (iW (i:=2) nd rfl (by trivial)) (cB (jR iG rfl (iT (eQ hv (aI 2) aT (fun _ _=>rfl))) (iW (i:=3) nd rfl (by trivial)) (cB (iS .s (tN (tM (T:="str") rfl B.isinstance rfl B.str GV (by decide) (aI 3))) (cB (JF 1 .s .s hv yT (aI 3))) jS)))))
   (nP 1 (cB (iI .s (mO (Oz rfl) Pr rfl B.list NR (aL (aI 1) aU)))))))
def Vr:SF:=(cQ 0 .s (aN eZ (aG (i8 [ab,aa 1] (bo (aB 0)) (gB 0) dF (fI (aB 1) (aB 0) (aB 0))) aK)))
def nR:List aA->Option aA:=bh 2 2 Vr
theorem Nq (F:Fun K "put_in" "put_in" EV f fd)(B:Blt mg)(C:Cst mg):FnOk P w K mg base d9 1 f fd wH (ar K 0 nR):=by
 have nd:=Arn.nd;exact hE F Arn rfl (by decide) fun az A outer s H E P0 hr=>by
  rw[2];exact(cB (iI .s (mO uD uC rfl B.tuple uP (aL (eI (n:=1) (pO rfl (nV (N:=["term","known"]) (cap:=[ab,aa 1]) (out:=(cX EV).names) (XN:=TC) rfl rfl (by rw[0]) rfl) nG (iT (aI 0)) (fun cl C s₀ H₀ ex=>⟨nU (j:=0) (show(["term","known"]:List aE).Nodup by rw[0]) rfl (bA rfl),nN,(Ax hv (aI 1) (aI 0) (aI 0))⟩))) aU))))
def Iu:SF:=(aY (bp .s (ao (ah dg (aN cI (aG (aB 1) aK)) (aN cI (aG (ah a5 (aB 0) (eC (.int 1))) aK)))) (cQ 1 .s (eC .none)) dC)
 (aY (bE 3 1 .s (aN II (aG (aB 2) aK)))
 (aY (eP .s (iZ (aG (ah a5 (aB 0) (eC (.int 1))) (aG (aB 1) aK))) (vU 4 5) (aY (tf 6 3 .s (ao (b7 (dG "str") (aB 4))) .s (aB 4) .s (aB 5) .s (aB 4))
 (bp .s (ao (ah dg (aB 5) (aB 6))) (cQ 1 .s (eC .none)) dC)))
 (eU 3 1))))
def vW:List aA->Option aA:=bh 3 7 Iu
theorem Lg (F:Fun K "fits" "fits" IM f fd)(B:Blt mg)(C:Cst mg):FnOk P w K mg base d9 1 f fd yY (ar K 1 vW):=by
 have nd:=Ayd.nd;exact hE F Ayd rfl (by decide) fun az A outer s H E P0 hr=>by
  rw[2];exact(bP (iS .s (gW (CY hu) CZ (iD jM jL rfl B.len jG (aL (aI 1) aU)) (iD jM jL rfl B.len jG (aL (eQ hv (aI 0) aT (fun _ _=>rfl)) aU)) (gU _)) (cB (iI .s SU)) jS)
   (bP (cO (i:=3) 1 .s nd rfl (by trivial) (mO Pa Ox rfl B.dict PyProof.Rows.boot_dict (aL (aI 2) aU)))
   (bP (jR iG rfl (Aa rfl B.zip (aL (eQ hv (aI 0) aT (fun _ _=>rfl)) (aL (aI 1) aU))) (EB (i:=4) (j:=5) rfl nd rfl rfl (by trivial) (by trivial)) (bP (Gi 6 3 .s .s .s .s nd (tN (tM (T:="str") rfl B.isinstance rfl B.str GV (by decide) (aI 4))) (aI 4) (aI 5) (aI 4))
   (cB (iS .s (gW (CY hu) CZ (aI 5) (aI 6) (gU _)) (cB (iI .s SU)) jS))))
   (cB (rW 3)))))
def Yy:SF:=(cQ 0 .s (fI (aB 0) (ah a5 (aB 1) (eC (.int 0))) (dE aK)))
def oZ:List aA->Option aA:=bh 2 2 Yy
theorem Pg (F:Fun K "rows_of" "rows_of" LC f fd)(B:Blt mg)(C:Cst mg):FnOk P w K mg base d9 1 f fd wI (ar K 0 oZ):=by
 have nd:=Ant.nd;exact hE F Ant rfl (by decide) fun az A outer s H E P0 hr=>by
  rw[2];exact(cB (iI .s (Ax hv (aI 0) (eQ hv (aI 1) aT (fun _ _=>rfl)) (eI (n:=1) (jP aU)))))
def Yr:SF:=(aY (bE 1 0 .s (eC (.int 1)))
 (aY (eP .s (bo (aB 0)) (bw 2) (bE 1 0 .s (ah cW (aB 1) (aN CP (aG (eC (.int 1)) (aG (aN cI (aG (aB 2) aK)) aK))))))
 (cQ 0 .s (aB 1))))
def tV:List aA->Option aA:=bh 1 3 Yr
theorem Of (F:Fun K "ways_of" "ways_of" LM f fd)(B:Blt mg)(C:Cst mg):FnOk P w K mg base d9 1 f fd zR (ar K 0 tV):=by
 have nd:=Anj.nd;exact hE F Anj rfl (by decide) fun az A outer s H E P0 hr=>by
  rw[2];exact(bP (cO (i:=1) 0 .s nd rfl (by trivial) aT)
   (bP (jR iG rfl (iT (aI 0)) (iW (i:=2) nd rfl (by trivial)) (cB (cO (i:=1) 0 .s nd rfl (by trivial) (jY (aI 1) (iD (Yg rfl) Nc rfl B.max PyProof.Rows.boot_max (aL aT (aL (iD jM jL rfl B.len jG (aL (aI 2) aU)) aU)))))))
   (cB (iI .s (aI 1)))))
def FK:SF:=(aY (bp .s (ao (ah f9 (aB 1) (aN cI (aG (aB 0) aK)))) (cQ 0 .s (ah a5 (aB 0) (aB 1))) dC)
 (aY (bE 2 0 .s (ah bL (ah cW (aB 1) (eC (.int 7919))) (eC (.int 5))))
 (aY (bp .s (ao (ah bz (aN cI (aG (aB 0) aK)) (eC (.int 0)))) (bE 2 0 .s (ah bN (ah bL (ah cW (ah a5 (aB 0) (ah bN (ah cW (aB 1) (eC (.int 7))) (aN cI (aG (aB 0) aK)))) (eC (.int 48271))) (ah cW (aB 1) (eC (.int 7919)))) (eC (.int 2147483647)))) dC)
 (cQ 0 .s (ah bN (ah cW (aB 2) (aB 2)) (eC (.int 2147483629)))))))
def gE:List aA->Option aA:=bh 2 3 FK
theorem Ru (F:Fun K "_law_cell" "_law_cell" MG f fd)(B:Blt mg)(C:Cst mg):FnOk P w K mg base d9 1 f fd sC (ar K 0 gE):=by
 have nd:=Akr.nd;exact hE F Akr rfl (by decide) fun az A outer s H E P0 hr=>by
  rw[2];exact(bP (iS .s (gW (A9r.or LK) IW (aI 1) (iD jM jL rfl B.len jG (aL (aI 0) aU)) (gU _)) (cB (iI .s (eQ hv (aI 0) (aI 1) (fun _ _=>rfl)))) jS)
   (bP (cO (i:=2) 0 .s nd rfl (by trivial) (eR (jY (aI 1) aT) aT))
   (bP (iS .s (gW pM pP (iD jM jL rfl B.len jG (aL (aI 0) aU)) aT (gU _)) (cB (cO (i:=2) 0 .s nd rfl (by trivial) (eS (eR (jY (eQ hv (aI 0) (eS (jY (aI 1) aT) (iD jM jL rfl B.len jG (aL (aI 0) aU))) (fun _ _=>rfl)) aT) (jY (aI 1) aT)) aT))) jS)
   (cB (iI .s (eS (jY (aI 2) (aI 2)) aT))))))
def XE:SF:=(aY (bE 2 0 .s (ah bN (ah bL (ah bL (ah bL (ah cW (ah bN (aB 0) (eC (.int 2147483647))) (eC (.int 48271))) (ah cW (ah cW (aB 1) (aB 1)) (eC (.int 69621)))) (aB 1)) (eC (.int 11))) (eC (.int 2147483629))))
 (cQ 0 .s (ah bN (ah cW (aB 2) (aB 2)) (eC (.int 2147483587)))))
def dJ:List aA->Option aA:=bh 2 3 XE
theorem Py (F:Fun K "_law_mix" "_law_mix" LY f fd)(B:Blt mg)(C:Cst mg):FnOk P w K mg base d9 1 f fd mR (ar K 0 dJ):=by
 have nd:=Al2.nd;exact hE F Al2 rfl (by decide) fun az A outer s H E P0 hr=>by
  rw[2];exact(bP (cO (i:=2) 0 .s nd rfl (by trivial) (eS (eR (eR (eR (jY (eS (aI 0) aT) aT) (jY (jY (aI 1) (aI 1)) aT)) (aI 1)) aT) aT))
   (cB (iI .s (eS (jY (aI 2) (aI 2)) aT))))
def Rc:SF:=(aY (bE 1 1 .s (dE aK))
 (aY (eP .s (bo (aB 0)) (bw 2) (eP .s (bo (ah a5 (aB 2) (eC (.int 1)))) (bw 3) (bp .a (eT (ao (b7 (dG "str") (aB 3))) (ao (ah (l4 ae) (aB 3) (aB 1)))) (dR 1 .s (aB 3)) dC)))
 (eU 1 1)))
def pU:List aA->Option aA:=bh 1 4 Rc
theorem Rz (F:Fun K "_law_order" "_law_order" MM f fd)(B:Blt mg)(C:Cst mg):FnOk P w K mg base d9 1 f fd wZ (ar K 1 pU):=by
 have nd:=Aiz.nd;exact hE F Aiz rfl (by decide) fun az A outer s H E P0 hr=>by
  rw[2];exact(bP (cO (i:=1) 1 .s nd rfl (by trivial) (jP aU))
   (bP (jR iG rfl (iT (aI 0)) (iW (i:=2) nd rfl (by trivial)) (cB (jR iG rfl (iT (eQ hv (aI 2) aT (fun _ _=>rfl))) (iW (i:=3) nd rfl (by trivial)) (cB (iS .a (rA (vZ (tN (tM (T:="str") rfl B.isinstance rfl B.str GV (by decide) (aI 3))) (yZ (gW (FO hu) CS (aI 3) (aI 1) (by with_unfolding_all rfl))))) (cB (mN 1 .s (aI 3))) jS)))))
   (cB (rW 1))))
def ML:SF:=(bp .s (ao (ah bz (aN tV (aG (aB 0) aK)) (eC (.int 4096)))) V3 dC)
def wX:List aA->Option aA:=bh 1 1 ML
theorem Sk (F:Fun K "refuse_rows" "refuse_rows" MP f fd)(B:Blt mg)(C:Cst mg)(ij:Def P w K mg base "ways_of" 1 zR (ar K 0 tV)):FnOk P w K mg base d9 2 f fd AG (ar K 0 wX):=by
 obtain⟨_,k5⟩:=C.MOST_WAYS;have nd:=Aih.nd;exact hE F Aih rfl (by decide) fun az A outer s H E P0 hr=>by
  rw[2];exact(cB (iS .s (gW pM pP (cJ ij (by rw[00]) rfl (aL (aI 0) aU)) (Vd (i:=4096) rfl k5 ⟨_,rfl⟩) (gU _)) (cB Fd) jS))
def Oh:SF:=(aY (bE 3 1 .s (dE aK))
 (aY (eP .s (bo (aB 0)) (bw 4) (eP .s (bo (aB 2)) (bw 5) (aY (bE 6 0 .s (aN vW (aG (aB 1) (aG (aB 5) (aG (aB 4) aK)))))
 (bp .s (ao (ah IK (aB 6) (eC .none))) (dR 3 .s (aB 6)) dC))))
 (eU 3 1)))
def wR:List aA->Option aA:=bh 3 7 Oh
theorem Pz (F:Fun K "extended" "extended" MA f fd)(B:Blt mg)(C:Cst mg)(mf:Def P w K mg base "fits" 1 yY (ar K 1 vW)):FnOk P w K mg base d9 2 f fd zU (ar K 1 wR):=by
 have nd:=Alz.nd;exact hE F Alz rfl (by decide) fun az A outer s H E P0 hr=>by
  rw[2];exact(bP (cO (i:=3) 1 .s nd rfl (by trivial) (jP aU))
   (bP (jR iG rfl (iT (aI 0)) (iW (i:=4) nd rfl (by trivial)) (cB (jR iG rfl (iT (aI 2)) (iW (i:=5) nd rfl (by trivial)) (bP (cO (i:=6) 0 .s nd rfl (by trivial) (eI (n:=1) (cJ mf (by rw[00]) rfl (aL (aI 1) (aL (aI 5) (aL (aI 4) aU))))))
   (cB (iS .s (gW Ll Vm (aI 6) Ij (gU _)) (cB (mN 3 .s (aI 6))) jS))))))
   (cB (rW 3))))
def Ra:SF:=(aY (bE 2 0 .s (aN sD (aG (aB 0) aK)))
 (cQ 1 .s (aN EE (aG (i8 [ab,aa 2] (bo (aB 1)) (gB 0) dF (aN nR (aG (aB 1) (aG (aB 0) aK)))) aK))))
def xC:List aA->Option aA:=bh 2 3 Ra
theorem Rv (F:Fun K "matches_of" "matches_of" FN f fd)(B:Blt mg)(C:Cst mg)(bu:Def P w K mg base "names_of" 1 wO (ar K 1 sD))(dm:Def P w K mg base "put_in" 1 wH (ar K 0 nR)):FnOk P w K mg base d9 2 f fd AJ (ar K 1 xC):=by
 have nd:=Ajq.nd;exact hE F Ajq rfl (by decide) fun az A outer s H E P0 hr=>by
  rw[2];exact(bP (cO (i:=2) 0 .s nd rfl (by trivial) (eI (n:=1) (cJ bu (by rw[00]) rfl (aL (aI 0) aU))))
   (cB (iI .s (iD Sa Qz rfl B.sorted Zl (aL (eI (n:=1) (pO rfl (nV (N:=["known","names"]) (cap:=[ab,aa 2]) (out:=(cX FN).names) (XN:=YJ) rfl rfl (by rw[0]) rfl) nG (iT (aI 1)) (fun cl C s₀ H₀ ex=>⟨nU (j:=0) (show(["known","names"]:List aE).Nodup by rw[0]) rfl (bA rfl),nN,(cJ dm (by rw[00]) rfl (aL (aI 1) (aL (aI 0) aU)))⟩))) aU)))))
def Rj:SF:=(aY (bE 2 0 .s (aN sD (aG (ah a5 (aB 0) (eC (.int 1))) aK)))
 (cQ 1 .s (i8 [ab,aa 0,aa 2] (bo (aB 1)) (gB 0) dF (aN nR (aG (ah a5 (aB 1) (eC (.int 0))) (aG (aN yV (aG (aB 2) (aG (aB 0) aK))) aK))))))
def xA:List aA->Option aA:=bh 2 3 Rj
theorem Ro (F:Fun K "answers_of" "answers_of" FM f fd)(B:Blt mg)(C:Cst mg)(bu:Def P w K mg base "names_of" 1 wO (ar K 1 sD))(dm:Def P w K mg base "put_in" 1 wH (ar K 0 nR)):FnOk P w K mg base d9 2 f fd AK (ar K 1 xA):=by
 have nd:=Ai2.nd;exact hE F Ai2 rfl (by decide) fun az A outer s H E P0 hr=>by
  rw[2];exact(bP (cO (i:=2) 0 .s nd rfl (by trivial) (eI (n:=1) (cJ bu (by rw[00]) rfl (aL (eQ hv (aI 0) aT (fun _ _=>rfl)) aU))))
   (cB (iI .s (pO rfl (nV (N:=["numbers","alternative","names"]) (cap:=[ab,aa 0,aa 2]) (out:=(cX FM).names) (XN:=YM) rfl rfl (by rw[0]) rfl) nG (iT (aI 1)) (fun cl C s₀ H₀ ex=>⟨nU (j:=0) (show(["numbers","alternative","names"]:List aE).Nodup by rw[0]) rfl (bA rfl),nN,(cJ dm (by rw[00]) rfl (aL (eQ hv (aI 1) aT (fun _ _=>rfl)) (aL (eI (n:=1) (Xc rfl rfl B.dict rfl B.zip (aL (aI 2) (aL (aI 0) aU)))) aU)))⟩)))))
end Aw
namespace Aw
open PySem L2
set_option maxHeartbeats 4000000
variable {P:bS}{w:bH}{K:aM}{mg:aE->Option aC}{base:aZ}{f:aD}{fd:jD}
def Rf:SF:=(aY (bE 2 0 .s (eC (.str "abcdefghijklmnopqrstuvwxyz0123456789")))
 (aY (bE 3 0 .s (ah bL (eC (.int 1)) (ah bN (aN dJ (aG (aB 0) (aG (eC (.int 1)) aK))) (eC (.int 12)))))
 (aY (bp .s (ao (ah cq (ah bN (aN dJ (aG (aB 0) (aG (eC (.int 2)) aK))) (eC (.int 3))) (eC (.int 0)))) (bE 3 0 .s (eC (.int 12))) dC)
 (aY (bE 4 1 .s (i8 [ab,aa 2,aa 0] (jl (aG (aB 3) aK)) (gB 0) dF (ah a5 (aB 1) (ah bN (aN dJ (aG (aB 2) (aG (ah bL (eC (.int 30)) (aB 0)) aK))) (eC (.int 36))))))
 (aY (fM 4 .s (ah a5 (aB 2) (ah bN (aN dJ (aG (aB 0) (aG (eC (.int 50)) aK))) (eC (.int 26)))) .s (eC (.int 0)))
 (aY (bp .s (ao (ah cq (ah bN (aN dJ (aG (aB 0) (aG (eC (.int 2)) aK))) (eC (.int 3))) (eC (.int 0)))) (cQ 1 .a (i8 [ab,aa 4] (jl (aG (aB 1) aK)) (gB 0) dF (ah vJ (eC (.str "")) (kX (aB 1) oN (oS (ah bL (aB 0) (eC (.int 1)))))))) dC)
 (aY (bE 5 0 .s (ah bN (aN dJ (aG (aB 0) (aG (eC (.int 3)) aK))) (aB 3)))
 (aY (bE 6 1 .s (dE aK))
 (aY (eP .s (jl (aG (aB 1) aK)) (bw 7) (aY (fM 4 .s (ah a5 (aB 2) (ah bN (ah bL (aN dJ (aG (aB 0) (aG (eC (.int 4)) aK))) (aB 7)) (ah bL (eC (.int 26)) (ah cW (eC (.int 10)) (aN fK (aG (ah bz (aB 5) (eC (.int 0))) aK)))))) .s (aB 5))
 (dR 6 .a (ah vJ (eC (.str "")) (aB 4)))))
 (eK 4 (eU 6 1)))))))))))
def sE:List aA->Option aA:=bh 2 8 Rf
theorem Sg (F:Fun K "_law_names" "_law_names" xB f fd)(B:Blt mg)(C:Cst mg)(ag:Def P w K mg base "_law_mix" 1 mR (ar K 0 dJ)):FnOk P w K mg base d9 2 f fd xD (ar K 1 sE):=by
 have nd:=Ajn.nd;exact hE F Ajn rfl (by decide) fun az A outer s H E P0 hr=>by
  rw[2];exact(bP (cO (i:=2) 0 .s nd rfl (by trivial) MW)
   (bP (cO (i:=3) 0 .s nd rfl (by trivial) (eR aT (eS (cJ ag (by rw[00]) rfl (aL (aI 0) (aL aT aU))) aT)))
   (bP (iS .s (gW (rR hu) rT (eS (cJ ag (by rw[00]) rfl (aL (aI 0) (aL aT aU))) aT) aT (gU _)) (cB (cO (i:=3) 0 .s nd rfl (by trivial) aT)) jS)
   (bP (by first|exact(UJ (i:=4) .s rfl nd rfl (by trivial) (nV (N:=["_law_k","_law_signs","_law_cell_here"]) (cap:=[ab,aa 2,aa 0]) (out:=(cX xB).names) (XN:=FL) rfl rfl (by rw[0]) rfl) nG (vY (mM rfl B.range (aL (aI 3) aU))) (fun cl C s₀ H₀ ex=>⟨nU (j:=0) (show(["_law_k","_law_signs","_law_cell_here"]:List aE).Nodup by rw[0]) rfl (bA rfl),nN,(eQ hv (aI 1) (eS (cJ ag (by rw[00]) rfl (aL (aI 2) (aL (eR aT (aI 0)) aU))) aT) (fun _ _=>rfl))⟩))|exact(cO (i:=4) 1 .s nd rfl (by trivial) (pO rfl (nV (N:=["_law_k","_law_signs","_law_cell_here"]) (cap:=[ab,aa 2,aa 0]) (out:=(cX xB).names) (XN:=FL) rfl rfl (by rw[0]) rfl) nG (vY (mM rfl B.range (aL (aI 3) aU))) (fun cl C s₀ H₀ ex=>⟨nU (j:=0) (show(["_law_k","_law_signs","_law_cell_here"]:List aE).Nodup by rw[0]) rfl (bA rfl),nN,(eQ hv (aI 1) (eS (cJ ag (by rw[00]) rfl (aL (aI 2) (aL (eR aT (aI 0)) aU))) aT) (fun _ _=>rfl))⟩))))
   (bP (JN 4 .s .s (eQ hv (aI 2) (eS (cJ ag (by rw[00]) rfl (aL (aI 0) (aL aT aU))) aT) (fun _ _=>rfl)) aT)
   (bP (iS .s (gW (rR hu) rT (eS (cJ ag (by rw[00]) rfl (aL (aI 0) (aL aT aU))) aT) aT (gU _)) (cB (iI .a (pO rfl (nV (N:=["_law_k","_law_base"]) (cap:=[ab,aa 4]) (out:=(cX xB).names) (XN:=FL) rfl rfl (by rw[0]) rfl) nG (vY (mM rfl B.range (aL (aI 1) aU))) (fun cl C s₀ H₀ ex=>⟨nU (j:=0) (show(["_law_k","_law_base"]:List aE).Nodup by rw[0]) rfl (bA rfl),nN,(Ae MW (eI (n:=1) (DC (aI 1) DL (DX (eR (aI 0) aT)))))⟩)))) jS)
   (bP (cO (i:=5) 0 .s nd rfl (by trivial) (eS (cJ ag (by rw[00]) rfl (aL (aI 0) (aL aT aU))) (aI 3)))
   (bP (cO (i:=6) 1 .s nd rfl (by trivial) (jP aU))
   (bP (tR .s iG rfl (mM rfl B.range (aL (aI 1) aU)) (iW (i:=7) nd rfl (by trivial)) (bP (JN 4 .s .s (eQ hv (aI 2) (eS (eR (cJ ag (by rw[00]) rfl (aL (aI 0) (aL aT aU))) (aI 7)) (eR aT (jY aT (mO VH WG rfl B.int PyProof.Rows.boot_int (aL (DD pM pP (aI 5) aT (gU _)) aU))))) (fun _ _=>rfl)) (aI 5))
   (cB (mN 6 .a (Ae MW (aI 4))))))
   (nP 4 (cB (rW 6))))))))))))
def YB:SF:=(aY (bE 1 0 .s (ah bN (aB 0) (ah gA (eC (.int 10)) (eC (.int 59)))))
 (aY (bE 2 0 .s (ah bL (ah cW (ah gA (eC (.int 10)) (eC (.int 35))) (ah gA (eC (.int 10)) (eC (.int 34)))) (aB 1)))
 (cQ 1 .s (dE (aG (aB 1) (aG (ah fN (ah fN (eC (.int 0)) (aB 1)) (eC (.int 1))) (aG (ah bN (aN dJ (aG (aB 0) (aG (eC (.int 31)) aK))) (eC (.int 3))) (aG (eC (.int 7)) (aG (aB 2) (aG (ah fN (eC (.int 0)) (aB 2)) aK))))))))))
def wW:List aA->Option aA:=bh 1 3 YB
theorem Qw (F:Fun K "_law_pool" "_law_pool" MH f fd)(B:Blt mg)(C:Cst mg)(ag:Def P w K mg base "_law_mix" 1 mR (ar K 0 dJ)):FnOk P w K mg base d9 2 f fd AD (ar K 1 wW):=by
 have nd:=Akp.nd;exact hE F Akp rfl (by decide) fun az A outer s H E P0 hr=>by
  rw[2];exact(bP (cO (i:=1) 0 .s nd rfl (by trivial) (eS (aI 0) (MV aT aT)))
   (bP (cO (i:=2) 0 .s nd rfl (by trivial) (eR (jY (MV aT aT) (MV aT aT)) (aI 1)))
   (cB (iI .s (jP (aL (aI 1) (aL (yU (yU aT (aI 1)) aT) (aL (eS (cJ ag (by rw[00]) rfl (aL (aI 0) (aL aT aU))) aT) (aL aT (aL (aI 2) (aL (yU aT (aI 2)) aU)))))))))))
def Qn:SF:=(aY (bE 3 0 .s (aN dJ (aG (aB 0) (aG (eC (.int 7)) aK))))
 (aY (bp .s (ao (ah f9 (ah bN (aB 3) (eC (.int 5))) (eC (.int 4)))) (cQ 0 .s (ah a5 (aB 1) (ah bN (ah eE (aB 3) (eC (.int 5))) (aN cI (aG (aB 1) aK))))) dC)
 (cQ 0 .s (ah a5 (aB 2) (ah bN (ah eE (aB 3) (eC (.int 5))) (eC (.int 4)))))))
def wV:List aA->Option aA:=bh 3 4 Qn
theorem Rq (F:Fun K "_law_term" "_law_term" MI f fd)(B:Blt mg)(C:Cst mg)(ag:Def P w K mg base "_law_mix" 1 mR (ar K 0 dJ)):FnOk P w K mg base d9 2 f fd AB (ar K 0 wV):=by
 have nd:=Akf.nd;exact hE F Akf rfl (by decide) fun az A outer s H E P0 hr=>by
  rw[2];exact(bP (cO (i:=3) 0 .s nd rfl (by trivial) (cJ ag (by rw[00]) rfl (aL (aI 0) (aL aT aU))))
   (bP (iS .s (gW (A9r.or LK) IW (eS (aI 3) aT) aT (gU _)) (cB (iI .s (eQ hv (aI 1) (eS (qR (aI 3) aT) (iD jM jL rfl B.len jG (aL (aI 1) aU))) (fun _ _=>rfl)))) jS)
   (cB (iI .s (eQ hv (aI 2) (eS (qR (aI 3) aT) aT) (fun _ _=>rfl))))))
def Si:SF:=(aY (bE 4 1 .s (dE aK))
 (aY (eP .s (bo (ah a5 (aB 1) (eC (.int 1)))) (bw 5) (bp .s (ao (b7 (dG "str") (aB 5))) (dR 4 .s (ah a5 (aB 3) (ah bN (aN dJ (aG (aB 0) (aG (ah bL (eC (.int 34)) (ah zF (aB 2) (aB 5))) aK))) (eC (.int 6))))) (dR 4 .s (aB 5))))
 (eK 4 (cQ 0 .s (aN eZ (aG (aB 4) aK))))))
def uE:List aA->Option aA:=bh 4 6 Si
theorem Sq (F:Fun K "_law_planted" "_law_planted" MN f fd)(B:Blt mg)(C:Cst mg)(ag:Def P w K mg base "_law_mix" 1 mR (ar K 0 dJ)):FnOk P w K mg base d9 2 f fd AM (ar K 0 uE):=by
 have nd:=Ahl.nd;exact hE F Ahl rfl (by decide) fun az A outer s H E P0 hr=>by
  rw[2];exact(bP (cO (i:=4) 1 .s nd rfl (by trivial) (jP aU))
   (bP (jR iG rfl (iT (eQ hv (aI 1) aT (fun _ _=>rfl))) (iW (i:=5) nd rfl (by trivial)) (cB (iS .s (tN (tM (T:="str") rfl B.isinstance rfl B.str GV (by decide) (aI 5))) (cB (mN 4 .s (eQ hv (aI 3) (eS (cJ ag (by rw[00]) rfl (aL (aI 0) (aL (eR aT (UX (aI 2) (aI 5))) aU))) aT) (fun _ _=>rfl)))) (cB (mN 4 .s (aI 5))))))
   (nP 4 (cB (iI .s (mO uD uC rfl B.tuple uP (aL (aI 4) aU)))))))
def MR:SF:=(rP .s (aN wX (aG (i8 [ab,aa 0] (bo (aB 1)) (gB 0) dF (aN oZ (aG (aB 1) (aG (aB 0) aK)))) aK)))
def qW:List aA->Option aA:=bh 2 2 MR
theorem Sl (F:Fun K "refuse_ways" "refuse_ways" FQ f fd)(B:Blt mg)(C:Cst mg)(ca:Def P w K mg base "rows_of" 1 wI (ar K 0 oZ))(cu:Def P w K mg base "refuse_rows" 2 AG (ar K 0 wX)):FnOk P w K mg base d9 3 f fd wY (ar K 0 qW):=by
 have nd:=Aij.nd;exact hE F Aij rfl (by decide) fun az A outer s H E P0 hr=>by
  rw[2];exact(cB (IY .s (cJ cu (by rw[00]) rfl (aL (eI (n:=1) (pO rfl (nV (N:=["line","book"]) (cap:=[ab,aa 0]) (out:=(cX FQ).names) (XN:=YX) rfl rfl (by rw[0]) rfl) nG (iT (aI 1)) (fun cl C s₀ H₀ ex=>⟨nU (j:=0) (show(["line","book"]:List aE).Nodup by rw[0]) rfl (bA rfl),nN,(cJ ca (by rw[00]) rfl (aL (aI 1) (aL (aI 0) aU)))⟩))) aU))))
def Wy:SF:=(aY (bE 2 0 .s (dE (aG (eC (.dict [])) aK)))
 (aY (eP .s (iZ (aG (aB 0) (aG (aB 1) aK))) (vU 3 4) (bE 2 0 .s (aN wR (aG (aB 2) (aG (aB 3) (aG (aB 4) aK))))))
 (cQ 0 .s (aB 2))))
def wG:List aA->Option aA:=bh 2 5 Wy
theorem Yn (F:Fun K "walked" "walked" JY f fd)(B:Blt mg)(C:Cst mg)(gk:Def P w K mg base "extended" 2 zU (ar K 1 wR)):FnOk P w K mg base d9 3 f fd zM (ar K 0 wG):=by
 have nd:=Aqa.nd;exact hE F Aqa rfl (by decide) fun az A outer s H E P0 hr=>by
  rw[2];exact(bP (cO (i:=2) 0 .s nd rfl (by trivial) (eI (n:=1) (jP (aL (eI (n:=1) DR) aU))))
   (bP (jR iG rfl (Aa rfl B.zip (aL (aI 0) (aL (aI 1) aU))) (EB (i:=3) (j:=4) rfl nd rfl rfl (by trivial) (by trivial)) (cB (cO (i:=2) 0 .s nd rfl (by trivial) (eI (n:=1) (cJ gk (by rw[00]) rfl (aL (aI 2) (aL (aI 3) (aL (aI 4) aU))))))))
   (cB (iI .s (aI 2)))))
def Sf:SF:=(aY (bE 2 1 .s (dE aK))
 (aY (eP .s (bo (aN sE (aG (aB 0) (aG (aB 1) aK)))) (bw 3) (aY (bE 4 0 .a (aN dJ (aG (aB 0) (aG (ah bL (eC (.int 60)) (aN cI (aG (aB 2) aK))) aK))))
 (aY (bE 5 0 .s (ah bL (eC (.int 1)) (ah bN (ah eE (aB 4) (eC (.int 4))) (eC (.int 3)))))
 (aY (bp .s (ao (ah cq (ah bN (aB 4) (eC (.int 4))) (eC (.int 0)))) (bE 5 0 .s (ah bL (eC (.int 1)) (ah bN (ah eE (aB 4) (eC (.int 4))) (eC (.int 6))))) dC)
 (dR 2 .s (fR (aG (aB 3) (aG (aB 5) aK))))))))
 (eU 2 1)))
def AH:List aA->Option aA:=bh 2 6 Sf
theorem Sn (F:Fun K "_law_tables" "_law_tables" MQ f fd)(B:Blt mg)(C:Cst mg)(ag:Def P w K mg base "_law_mix" 1 mR (ar K 0 dJ))(be:Def P w K mg base "_law_names" 2 xD (ar K 1 sE)):FnOk P w K mg base d9 3 f fd AI (ar K 1 AH):=by
 have nd:=Aic.nd;exact hE F Aic rfl (by decide) fun az A outer s H E P0 hr=>by
  rw[2];exact(bP (cO (i:=2) 1 .s nd rfl (by trivial) (jP aU))
   (bP (jR iG rfl (iT (eI (n:=1) (cJ be (by rw[00]) rfl (aL (aI 0) (aL (aI 1) aU))))) (iW (i:=3) nd rfl (by trivial)) (bP (cO (i:=4) 0 .a nd rfl (by trivial) (cJ ag (by rw[00]) rfl (aL (aI 0) (aL (eR aT (iD jM jL rfl B.len jG (aL (aI 2) aU))) aU))))
   (bP (cO (i:=5) 0 .s nd rfl (by trivial) (eR aT (eS (qR (aI 4) aT) aT)))
   (bP (iS .s (gW (rR hu) rT (eS (aI 4) aT) aT (gU _)) (cB (cO (i:=5) 0 .s nd rfl (by trivial) (eR aT (eS (qR (aI 4) aT) aT)))) jS)
   (cB (mN 2 .s (MY (aL (aI 3) (aL (aI 5) aU)))))))))
   (cB (rW 2))))
def Qx:SF:=(aY (bE 6 1 .s (dE aK))
 (aY (bE 7 0 .s (aB 1))
 (aY (eP .s (jl (aG (aB 5) aK)) (bw 8) (aY (bE 9 0 .s (aN dJ (aG (aN gE (aG (aB 0) (aG (aB 7) aK))) (aG (eC (.int 8)) aK))))
 (aY (bE 10 0 .s (ah a5 (aB 2) (ah bN (aB 9) (aN cI (aG (aB 2) aK)))))
 (aY (bE 11 1 .s (i8 [ab,aa 3,aa 4,aa 0,aa 7] (jl (aG (ah a5 (aB 10) (eC (.int 1))) aK)) (gB 0) dF (aN wV (aG (aN gE (aG (aB 3) (aG (ah bL (ah bL (aB 4) (eC (.int 1))) (aB 0)) aK))) (aG (aB 1) (aG (aB 2) aK))))))
 (eK 11 (aY (dR 6 .s (fR (aG (ah a5 (aB 10) (eC (.int 0))) (aG (aN eZ (aG (aB 11) aK)) aK))))
 (aY (bp .s (eT (ao (ah bz (aB 8) (eC (.int 0)))) (ao (ah cq (ah bN (ah eE (aB 9) (eC (.int 8))) (eC (.int 9))) (eC (.int 0))))) (fM 6 .a (ah a5 (aB 6) (ah bN (ah eE (aB 9) (eC (.int 72))) (aB 8))) .s (aB 8)) dC)
 (bE 7 0 .s (ah bL (ah bL (aB 7) (eC (.int 1))) (ah a5 (aB 10) (eC (.int 1))))))))))))
 (eU 6 1))))
def zZ:List aA->Option aA:=bh 6 12 Qx
theorem Se (F:Fun K "_law_lines" "_law_lines" AL f fd)(B:Blt mg)(C:Cst mg)(aj:Def P w K mg base "_law_cell" 1 sC (ar K 0 gE))(ag:Def P w K mg base "_law_mix" 1 mR (ar K 0 dJ))(cr:Def P w K mg base "_law_term" 2 AB (ar K 0 wV)):FnOk P w K mg base d9 3 f fd zY (ar K 1 zZ):=by
 have nd:=Ai5.nd;exact hE F Ai5 rfl (by decide) fun az A outer s H E P0 hr=>by
  rw[2];exact(bP (cO (i:=6) 1 .s nd rfl (by trivial) (jP aU))
   (bP (cO (i:=7) 0 .s nd rfl (by trivial) (aI 1))
   (bP (tR .s iG rfl (mM rfl B.range (aL (aI 5) aU)) (iW (i:=8) nd rfl (by trivial)) (bP (cO (i:=9) 0 .s nd rfl (by trivial) (cJ ag (by rw[00]) rfl (aL (cJ aj (by rw[00]) rfl (aL (aI 0) (aL (aI 7) aU))) (aL aT aU))))
   (bP (cO (i:=10) 0 .s nd rfl (by trivial) (eQ hv (aI 2) (eS (aI 9) (iD jM jL rfl B.len jG (aL (aI 2) aU))) (fun _ _=>rfl)))
   (bP (by first|exact(UJ (i:=11) .s rfl nd rfl (by trivial) (nV (N:=["_law_j","_law_names_here","_law_pool_here","_law_script","_law_at"]) (cap:=[ab,aa 3,aa 4,aa 0,aa 7]) (out:=(cX AL).names) (XN:=MK) rfl rfl (by rw[0]) rfl) nG (vY (mM rfl B.range (aL (eQ hv (aI 10) aT (fun _ _=>rfl)) aU))) (fun cl C s₀ H₀ ex=>⟨nU (j:=0) (show(["_law_j","_law_names_here","_law_pool_here","_law_script","_law_at"]:List aE).Nodup by rw[0]) rfl (bA rfl),nN,(cJ cr (by rw[00]) rfl (aL (cJ aj (by rw[00]) rfl (aL (aI 3) (aL (eR (eR (aI 4) aT) (aI 0)) aU))) (aL (aI 1) (aL (aI 2) aU))))⟩))|exact(cO (i:=11) 1 .s nd rfl (by trivial) (pO rfl (nV (N:=["_law_j","_law_names_here","_law_pool_here","_law_script","_law_at"]) (cap:=[ab,aa 3,aa 4,aa 0,aa 7]) (out:=(cX AL).names) (XN:=MK) rfl rfl (by rw[0]) rfl) nG (vY (mM rfl B.range (aL (eQ hv (aI 10) aT (fun _ _=>rfl)) aU))) (fun cl C s₀ H₀ ex=>⟨nU (j:=0) (show(["_law_j","_law_names_here","_law_pool_here","_law_script","_law_at"]:List aE).Nodup by rw[0]) rfl (bA rfl),nN,(cJ cr (by rw[00]) rfl (aL (cJ aj (by rw[00]) rfl (aL (aI 3) (aL (eR (eR (aI 4) aT) (aI 0)) aU))) (aL (aI 1) (aL (aI 2) aU))))⟩))))
   (nP 11 (bP (mN 6 .s (MY (aL (eQ hv (aI 10) aT (fun _ _=>rfl)) (aL (mO uD uC rfl B.tuple uP (aL (aI 11) aU)) aU))))
   (bP (iS .s (rA (vZ (gW pM pP (aI 8) aT (gU _)) (yZ (gW (rR hu) rT (eS (qR (aI 9) aT) aT) aT (gU _))))) (cB (JN 6 .a .s (eQ hv (aI 6) (eS (qR (aI 9) aT) (aI 8)) (fun _ _=>rfl)) (aI 8))) jS)
   (cB (cO (i:=7) 0 .s nd rfl (by trivial) (eR (eR (aI 7) aT) (eQ hv (aI 10) aT (fun _ _=>rfl))))))))))))
   (cB (rW 6)))))
def Qk:SF:=(aY (bE 7 1 .s (eC (.dict [])))
 (aY (eP .s (bo (aB 2)) (vU 8 9) (aY (bE 10 1 .s (dE aK))
 (aY (eP .a (jl (aG (ah bN (aN dJ (aG (aN gE (aG (aB 0) (aG (ah bL (aB 1) (aN cI (aG (aB 7) aK))) aK))) (aG (eC (.int 32)) aK))) (ah bL (aB 6) (eC (.int 1)))) aK)) (bw 11) (aY (bE 12 0 .a (ah bL (aN gE (aG (aB 0) (aG (ah bL (ah bL (ah bL (aB 1) (eC (.int 3))) (ah cW (eC (.int 5)) (aN cI (aG (aB 7) aK)))) (aB 11)) aK))) (aB 11)))
 (aY (bE 13 0 .s (aN eZ (aG (i8 [ab,aa 5,aa 12] (jl (aG (aB 9) aK)) (gB 0) dF (ah a5 (aB 1) (ah bN (aN dJ (aG (aB 2) (aG (ah bL (eC (.int 40)) (aB 0)) aK))) (eC (.int 3))))) aK)))
 (bp .a (ao (ah (l4 ae) (aB 13) (aB 10))) (dR 10 .s (aB 13)) dC))))
 (eK 10 (aY (eP .s (jl (aG (ah cW (eC (.int 2)) (aN cI (aG (aB 3) aK))) aK)) (bw 14) (aY (bE 12 0 .s (aN gE (aG (aB 0) (aG (ah bL (ah bL (aB 1) (eC (.int 1))) (ah bN (aB 14) (eC (.int 2)))) aK))))
 (aY (bE 13 0 .s (aN uE (aG (aB 12) (aG (ah a5 (aB 3) (ah eE (aB 14) (eC (.int 2)))) (aG (aB 4) (aG (aB 5) aK))))))
 (bp .s (eT (ao (ah cq (ah a5 (ah a5 (aB 3) (ah eE (aB 14) (eC (.int 2)))) (eC (.int 0))) (aB 8))) (eT (ao (ah (l4 ae) (aB 13) (aB 10))) (ao (ah bz (ah bN (aN dJ (aG (aB 12) (aG (ah bL (eC (.int 54)) (aB 14)) aK))) (eC (.int 5))) (eC (.int 0)))))) (aY (bE 15 0 .s (ah bN (aN dJ (aG (aB 12) (aG (eC (.int 52)) aK))) (ah bL (aN cI (aG (aB 10) aK)) (eC (.int 1)))))
 (bE 10 0 .s (kX (ah oM (ah oM (kX (aB 10) oN (oS (aB 15))) (dE (aG (aB 13) aK))) (kX (aB 10) (oS (aB 15)) oN)) oN (oS (aB 6))))) dC))))
 (bp .s (f7 (ao (ah bz (aN cI (aG (aB 10) aK)) (eC (.int 0)))) (ao (ah cq (ah bN (aN dJ (aG (aN gE (aG (aB 0) (aG (aB 1) aK))) (aG (eC (.int 53)) aK))) (eC (.int 2))) (eC (.int 0))))) (fT 7 .s (aB 10) .s (aB 8)) dC))))))
 (eU 7 1)))
def wU:List aA->Option aA:=bh 7 16 Qk
theorem Rh (F:Fun K "_law_book" "_law_book" FE f fd)(B:Blt mg)(C:Cst mg)(aj:Def P w K mg base "_law_cell" 1 sC (ar K 0 gE))(ag:Def P w K mg base "_law_mix" 1 mR (ar K 0 dJ))(cm:Def P w K mg base "_law_planted" 2 AM (ar K 0 uE)):FnOk P w K mg base d9 3 f fd AC (ar K 1 wU):=by
 have nd:=Akn.nd;exact hE F Akn rfl (by decide) fun az A outer s H E P0 hr=>by
  rw[2];exact(bP (cO (i:=7) 1 .s nd rfl (by trivial) DR)
   (bP (jR iG rfl (iT (aI 2)) (EB (i:=8) (j:=9) rfl nd rfl rfl (by trivial) (by trivial)) (bP (cO (i:=10) 1 .s nd rfl (by trivial) (jP aU))
   (bP (tR .a iG rfl (mM rfl B.range (aL (eS (cJ ag (by rw[00]) rfl (aL (cJ aj (by rw[00]) rfl (aL (aI 0) (aL (eR (aI 1) (iD jM jL rfl B.len jG (aL (aI 7) aU))) aU))) (aL aT aU))) (eR (aI 6) aT)) aU)) (iW (i:=11) nd rfl (by trivial)) (bP (cO (i:=12) 0 .a nd rfl (by trivial) (eR (cJ aj (by rw[00]) rfl (aL (aI 0) (aL (eR (eR (eR (aI 1) aT) (jY aT (iD jM jL rfl B.len jG (aL (aI 7) aU)))) (aI 11)) aU))) (aI 11)))
   (bP (cO (i:=13) 0 .s nd rfl (by trivial) (mO uD uC rfl B.tuple uP (aL (eI (n:=1) (pO rfl (nV (N:=["_law_i","_law_pool_here","_law_cell_here"]) (cap:=[ab,aa 5,aa 12]) (out:=(cX FE).names) (XN:=YH) rfl rfl (by rw[0]) rfl) nG (vY (mM rfl B.range (aL (aI 9) aU))) (fun cl C s₀ H₀ ex=>⟨nU (j:=0) (show(["_law_i","_law_pool_here","_law_cell_here"]:List aE).Nodup by rw[0]) rfl (bA rfl),nN,(eQ hv (aI 1) (eS (cJ ag (by rw[00]) rfl (aL (aI 2) (aL (eR aT (aI 0)) aU))) aT) (fun _ _=>rfl))⟩))) aU)))
   (cB (iS .a (gW (FO hu) CS (aI 13) (aI 10) (by with_unfolding_all rfl)) (cB (mN 10 .s (aI 13))) jS)))))
   (nP 10 (bP (tR .s iG rfl (mM rfl B.range (aL (jY aT (iD jM jL rfl B.len jG (aL (aI 3) aU))) aU)) (iW (i:=14) nd rfl (by trivial)) (bP (cO (i:=12) 0 .s nd rfl (by trivial) (cJ aj (by rw[00]) rfl (aL (aI 0) (aL (eR (eR (aI 1) aT) (eS (aI 14) aT)) aU))))
   (bP (cO (i:=13) 0 .s nd rfl (by trivial) (cJ cm (by rw[00]) rfl (aL (aI 12) (aL (eQ hv (aI 3) (qR (aI 14) aT) (fun _ _=>rfl)) (aL (aI 4) (aL (aI 5) aU))))))
   (cB (iS .s (rA (vZ (gW (rR hu) rT (eQ hv (eQ hv (aI 3) (qR (aI 14) aT) (fun _ _=>rfl)) aT (fun _ _=>rfl)) (aI 8) (gU _)) (vZ (gW (FO hu) CS (aI 13) (aI 10) (by with_unfolding_all rfl)) (yZ (gW pM pP (eS (cJ ag (by rw[00]) rfl (aL (aI 12) (aL (eR aT (aI 14)) aU))) aT) aT (gU _)))))) (bP (cO (i:=15) 0 .s nd rfl (by trivial) (eS (cJ ag (by rw[00]) rfl (aL (aI 12) (aL aT aU))) (eR (iD jM jL rfl B.len jG (aL (aI 10) aU)) aT)))
   (cB (cO (i:=10) 0 .s nd rfl (by trivial) (eI (n:=1) (DC (eI (n:=1) (MU (eI (n:=1) (MU (eI (n:=1) (DC (aI 10) DL (DX (aI 15)))) (eI (n:=1) (jP (aL (aI 13) aU))))) (eI (n:=1) (DC (aI 10) (DX (aI 15)) DL)))) DL (DX (aI 6))))))) jS)))))
   (cB (iS .s (rA (AU (gW pM pP (iD jM jL rfl B.len jG (aL (aI 10) aU)) aT (gU _)) (CU (gW (rR hu) rT (eS (cJ ag (by rw[00]) rfl (aL (cJ aj (by rw[00]) rfl (aL (aI 0) (aL (aI 1) aU))) (aL aT aU))) aT) aT (gU _))))) (cB (JF 7 .s .s hv (aI 10) (aI 8))) jS)))))))
   (cB (rW 7))))
def Xu:SF:=(aY (rP .s (aN qW (aG (aB 0) (aG (aB 1) aK))))
 (cQ 1 .s (aN xC (aG (aB 1) (aG (aN wG (aG (aB 1) (aG (i8 [ab,aa 0] (bo (aB 1)) (gB 0) dF (aN oZ (aG (aB 1) (aG (aB 0) aK)))) aK))) aK)))))
def qV:List aA->Option aA:=bh 2 2 Xu
theorem Og (F:Fun K "matches" "matches" FA f fd)(B:Blt mg)(C:Cst mg)(ca:Def P w K mg base "rows_of" 1 wI (ar K 0 oZ))(dr:Def P w K mg base "matches_of" 2 AJ (ar K 1 xC))(a7:Def P w K mg base "refuse_ways" 3 wY (ar K 0 qW))(je:Def P w K mg base "walked" 3 zM (ar K 0 wG)):FnOk P w K mg base d9 4 f fd wL (ar K 1 qV):=by
 have nd:=Anm.nd;exact hE F Anm rfl (by decide) fun az A outer s H E P0 hr=>by
  rw[2];exact(bP (IY .s (cJ a7 (by rw[00]) rfl (aL (aI 0) (aL (aI 1) aU))))
   (cB (iI .s (cJ dr (by rw[00]) rfl (aL (aI 1) (aL (cJ je (by rw[00]) rfl (aL (aI 1) (aL (eI (n:=1) (pO rfl (nV (N:=["line","book"]) (cap:=[ab,aa 0]) (out:=(cX FA).names) (XN:=WA) rfl rfl (by rw[0]) rfl) nG (iT (aI 1)) (fun cl C s₀ H₀ ex=>⟨nU (j:=0) (show(["line","book"]:List aE).Nodup by rw[0]) rfl (bA rfl),nN,(cJ ca (by rw[00]) rfl (aL (aI 1) (aL (aI 0) aU)))⟩))) aU))) aU))))))
def Sr:SF:=(aY (bE 4 0 .s (ah bN (aN dJ (aG (aN gE (aG (aB 0) (aG (eC (.int 3)) aK))) (aG (eC (.int 9)) aK))) (eC (.int 5))))
 (aY (bE 5 1 .s (dE aK))
 (aY (eP .s (jl (aG (ah bN (aN dJ (aG (aN gE (aG (aB 0) (aG (eC (.int 3)) aK))) (aG (eC (.int 10)) aK))) (eC (.int 4))) aK)) (bw 6) (aY (bE 7 0 .s (aN gE (aG (aB 0) (aG (ah bL (eC (.int 4)) (ah cW (eC (.int 14)) (aB 6))) aK))))
 (aY (bE 8 0 .s (aN zZ (aG (aB 0) (aG (ah bL (eC (.int 5)) (ah cW (eC (.int 14)) (aB 6))) (aG (aB 1) (aG (aB 2) (aG (aB 3) (aG (ah bN (aN dJ (aG (aB 7) (aG (eC (.int 11)) aK))) (eC (.int 5))) aK))))))))
 (aY (bE 9 0 .s (aN pU (aG (aB 8) aK)))
 (aY (bE 10 1 .s (dE aK))
 (aY (eP .s (jl (aG (aB 4) aK)) (bw 11) (bp .s (eT (ao (ah bz (aN cI (aG (aB 9) aK)) (eC (.int 0)))) (ao (ah bz (ah bN (aN dJ (aG (aB 7) (aG (ah bL (eC (.int 12)) (aB 11)) aK))) (eC (.int 4))) (eC (.int 0))))) (dR 10 .s (ah a5 (aB 9) (ah bN (aN dJ (aG (aB 7) (aG (ah bL (eC (.int 16)) (aB 11)) aK))) (aN cI (aG (aB 9) aK))))) (dR 10 .s (ah a5 (aB 3) (ah bN (aN dJ (aG (aB 7) (aG (ah bL (eC (.int 20)) (aB 11)) aK))) (eC (.int 4)))))))
 (eK 10 (dR 5 .s (fR (aG (aN eZ (aG (aB 10) aK)) (aG (aN eZ (aG (aB 8) aK)) aK)))))))))))
 (eU 5 1))))
def xE:List aA->Option aA:=bh 4 12 Sr
theorem Sv (F:Fun K "_law_question" "_law_question" MT f fd)(B:Blt mg)(C:Cst mg)(aj:Def P w K mg base "_law_cell" 1 sC (ar K 0 gE))(ag:Def P w K mg base "_law_mix" 1 mR (ar K 0 dJ))(bf:Def P w K mg base "_law_order" 1 wZ (ar K 1 pU))(du:Def P w K mg base "_law_lines" 3 zY (ar K 1 zZ)):FnOk P w K mg base d9 4 f fd AN (ar K 1 xE):=by
 have nd:=Ahe.nd;exact hE F Ahe rfl (by decide) fun az A outer s H E P0 hr=>by
  rw[2];exact(bP (cO (i:=4) 0 .s nd rfl (by trivial) (eS (cJ ag (by rw[00]) rfl (aL (cJ aj (by rw[00]) rfl (aL (aI 0) (aL aT aU))) (aL aT aU))) aT))
   (bP (cO (i:=5) 1 .s nd rfl (by trivial) (jP aU))
   (bP (tR .s iG rfl (mM rfl B.range (aL (eS (cJ ag (by rw[00]) rfl (aL (cJ aj (by rw[00]) rfl (aL (aI 0) (aL aT aU))) (aL aT aU))) aT) aU)) (iW (i:=6) nd rfl (by trivial)) (bP (cO (i:=7) 0 .s nd rfl (by trivial) (cJ aj (by rw[00]) rfl (aL (aI 0) (aL (eR aT (jY aT (aI 6))) aU))))
   (bP (cO (i:=8) 0 .s nd rfl (by trivial) (eI (n:=1) (cJ du (by rw[00]) rfl (aL (aI 0) (aL (eR aT (jY aT (aI 6))) (aL (aI 1) (aL (aI 2) (aL (aI 3) (aL (eS (cJ ag (by rw[00]) rfl (aL (aI 7) (aL aT aU))) aT) aU)))))))))
   (bP (cO (i:=9) 0 .s nd rfl (by trivial) (eI (n:=1) (cJ bf (by rw[00]) rfl (aL (aI 8) aU))))
   (bP (cO (i:=10) 1 .s nd rfl (by trivial) (jP aU))
   (bP (tR .s iG rfl (mM rfl B.range (aL (aI 4) aU)) (iW (i:=11) nd rfl (by trivial)) (cB (iS .s (rA (vZ (gW pM pP (iD jM jL rfl B.len jG (aL (aI 9) aU)) aT (gU _)) (yZ (gW pM pP (eS (cJ ag (by rw[00]) rfl (aL (aI 7) (aL (eR aT (aI 11)) aU))) aT) aT (gU _))))) (cB (mN 10 .s (eQ hv (aI 9) (eS (cJ ag (by rw[00]) rfl (aL (aI 7) (aL (eR aT (aI 11)) aU))) (iD jM jL rfl B.len jG (aL (aI 9) aU))) (fun _ _=>rfl)))) (cB (mN 10 .s (eQ hv (aI 3) (eS (cJ ag (by rw[00]) rfl (aL (aI 7) (aL (eR aT (aI 11)) aU))) aT) (fun _ _=>rfl)))))))
   (nP 10 (cB (mN 5 .s (MY (aL (mO uD uC rfl B.tuple uP (aL (aI 10) aU)) (aL (mO uD uC rfl B.tuple uP (aL (aI 8) aU)) aU))))))))))))
   (cB (rW 5)))))
def Mu:SF:=(aY (eP .s (bo (aB 1)) (bw 2) (rP .s (aN qW (aG (aB 0) (aG (ah a5 (aB 2) (eC (.int 1))) aK)))))
 (aY (bE 3 1 .s (dE aK))
 (aY (eP .s (bo (aB 1)) (bw 2) (tD 3 .s (aN xA (aG (aB 2) (aG (aN qV (aG (aB 0) (aG (ah a5 (aB 2) (eC (.int 1))) aK))) aK)))))
 (eK 3 (cQ 1 .s (aN LW (aG (aB 3) aK)))))))
def rY:List aA->Option aA:=bh 2 4 Mu
theorem Pl (F:Fun K "answers" "answers" LN f fd)(B:Blt mg)(C:Cst mg)(dv:Def P w K mg base "answers_of" 2 AK (ar K 1 xA))(a7:Def P w K mg base "refuse_ways" 3 wY (ar K 0 qW))(cb:Def P w K mg base "matches" 4 wL (ar K 1 qV)):FnOk P w K mg base d9 5 f fd zP (ar K 1 rY):=by
 have nd:=An6.nd;exact hE F An6 rfl (by decide) fun az A outer s H E P0 hr=>by
  rw[2];exact(bP (jR iG rfl (iT (aI 1)) (iW (i:=2) nd rfl (by trivial)) (cB (IY .s (cJ a7 (by rw[00]) rfl (aL (aI 0) (aL (eQ hv (aI 2) aT (fun _ _=>rfl)) aU))))))
   (bP (cO (i:=3) 1 .s nd rfl (by trivial) (jP aU))
   (bP (jR iG rfl (iT (aI 1)) (iW (i:=2) nd rfl (by trivial)) (cB (XA 3 .s (eI (n:=1) (cJ dv (by rw[00]) rfl (aL (aI 2) (aL (eI (n:=1) (cJ cb (by rw[00]) rfl (aL (aI 0) (aL (eQ hv (aI 2) aT (fun _ _=>rfl)) aU)))) aU)))))))
   (nP 3 (cB (iI .s (Qv rfl hv rfl B.sorted rfl B.set (aI 3))))))))
def Pq:SF:=(aY (bE 2 9 .s (eC (.dict [(.none,.none)])))
 (aY (eP .s (bo (aB 1)) (vU 3 4) (aY (bE 5 0 .s (aN pU (aG (aB 4) aK)))
 (eP .s (bo (aN qV (aG (aB 0) (aG (aB 4) aK)))) (bw 6) (aY (bE 7 1 .s (dE aK))
 (aY (eP .s (bo (aB 3)) (bw 8) (bp .s (ao (b7 (dG "str") (aB 8))) (dR 7 .s (ah a5 (aB 6) (ah zF (aB 5) (aB 8)))) (dR 7 .s (aB 8))))
 (eK 7 (FZ 2 .s (eC (.bool ae)) .s (aN eZ (aG (aB 7) aK)))))))))
 (eK 2 (cQ 0 .s (aB 2)))))
def zW:List aA->Option aA:=bh 2 9 Pq
theorem Qr (F:Fun K "_law_owed" "_law_owed" MJ f fd)(B:Blt mg)(C:Cst mg)(bf:Def P w K mg base "_law_order" 1 wZ (ar K 1 pU))(cb:Def P w K mg base "matches" 4 wL (ar K 1 qV)):FnOk P w K mg base d9 5 f fd zV (ar K 0 zW):=by
 have nd:=Akm.nd;exact hE F Akm rfl (by decide) fun az A outer s H E P0 hr=>by
  rw[2];exact(bP (cO (i:=2) 9 .s nd rfl (by trivial) Vu)
   (bP (jR iG rfl (iT (aI 1)) (EB (i:=3) (j:=4) rfl nd rfl rfl (by trivial) (by trivial)) (bP (cO (i:=5) 0 .s nd rfl (by trivial) (eI (n:=1) (cJ bf (by rw[00]) rfl (aL (aI 4) aU))))
   (cB (jR iG rfl (iT (eI (n:=1) (cJ cb (by rw[00]) rfl (aL (aI 0) (aL (aI 4) aU))))) (iW (i:=6) nd rfl (by trivial)) (bP (cO (i:=7) 1 .s nd rfl (by trivial) (jP aU))
   (bP (jR iG rfl (iT (aI 3)) (iW (i:=8) nd rfl (by trivial)) (cB (iS .s (tN (tM (T:="str") rfl B.isinstance rfl B.str GV (by decide) (aI 8))) (cB (mN 7 .s (eQ hv (aI 6) (UX (aI 5) (aI 8)) (fun _ _=>rfl)))) (cB (mN 7 .s (aI 8))))))
   (nP 7 (cB (Ta 2 .s .s hv yT (mO uD uC rfl B.tuple uP (aL (aI 7) aU)))))))))))
   (nP 2 (cB (iI .s (aI 2))))))
end Aw
namespace Aw
open PySem L2
set_option maxHeartbeats 4000000
variable {P:bS}{w:bH}{K:aM}{mg:aE->Option aC}{base:aZ}{f:aD}{fd:jD}
def Fy:SF:=(aY (bE 1 0 .s (aN AH (aG (aN gE (aG (aB 0) (aG (eC (.int 0)) aK))) (aG (eC (.int 3)) aK))))
 (aY (bE 2 0 .s (aN sE (aG (aN gE (aG (aB 0) (aG (eC (.int 1)) aK))) (aG (ah bL (eC (.int 4)) (ah cW (eC (.int 3)) (ah eE (ah bN (aN dJ (aG (aN gE (aG (aB 0) (aG (eC (.int 3)) aK))) (aG (eC (.int 8)) aK))) (eC (.int 3))) (eC (.int 2))))) aK))))
 (aY (bE 3 0 .s (aN wW (aG (aN gE (aG (aB 0) (aG (eC (.int 2)) aK))) aK)))
 (aY (bE 4 0 .s (aN xE (aG (aB 0) (aG (aB 1) (aG (aB 2) (aG (aB 3) aK))))))
 (aY (bE 5 1 .s (dE aK))
 (aY (eP .s (bo (aB 4)) (bw 6) (tD 5 .s (ah a5 (aB 6) (eC (.int 1)))))
 (eK 5 (aY (bE 7 0 .s (ah fN (eC (.int 12)) (ah cW (eC (.int 7)) (aN fK (aG (ah bz (aN yR (aG (ah oM (dE (aG (eC (.int 0)) aK)) (i8 [ab] (bo (aB 4)) (gB 0) dF (aN cI (aG (ah a5 (aB 0) (eC (.int 1))) aK)))) aK)) (eC (.int 2))) aK)))))
 (aY (bE 8 0 .s (aN wU (aG (aB 0) (aG (eC (.int 47)) (aG (aB 1) (aG (aB 5) (aG (aB 2) (aG (aB 3) (aG (aB 7) aK)))))))))
 (aY (bE 9 0 .s (aN gC (aG (aB 4) aK)))
 (aY (bE 10 1 .s (eC (.dict [])))
 (aY (eP .s (D6 (aB 8)) (bw 11) (fT 10 .s (aN gC (aG (ah a5 (aB 8) (aB 11)) aK)) .s (aB 11)))
 (eK 10 (aY (bE 12 0 .s (aN zW (aG (aB 8) (aG (aB 4) aK))))
 (aY (bE 13 1 .s (aN rY (aG (aB 8) (aG (aB 4) aK))))
 (aY (bp .a (f7 (fH (ao (b7 (dG "list") (aB 13)))) (ao (ah dg (aN cI (aG (aB 13) aK)) (aN AR (aG (aB 12) aK))))) (cQ 0 .s (eC (.bool af))) dC)
 (aY (eP .a (jl (aG (aN cI (aG (aB 13) aK)) aK)) (bw 14) (bp .a (f7 (fH (ao (b7 (dG "tuple") (ah a5 (aB 13) (aB 14))))) (f7 (ao (ah (l4 ae) (ah a5 (aB 13) (aB 14)) (aB 12))) (eT (ao (ah bz (aB 14) (eC (.int 0)))) (fH (ao (ah yK (ah a5 (aB 13) (ah fN (aB 14) (eC (.int 1)))) (ah a5 (aB 13) (aB 14)))))))) (cQ 0 .s (eC (.bool af))) dC))
 (aY (gM 13)
 (eK 13 (aY (bp .s (f7 (ao (ah dg (aB 4) (aB 9))) (ao (ah (vD ae) (aB 8) (aB 10)))) (cQ 0 .s (eC (.bool af))) dC)
 (cQ 0 .s (fZ (ah cq (aN cI (aG (aN rY (aG (aB 8) (aG (aB 4) aK))) aK)) (aN AR (aG (aB 12) aK))) (ah cq (aN rY (aG (aB 8) (aG (dE aK) aK))) (dE aK))))))))))))))))))))))))
def IE:List aA->Option aA:=bh 1 15 Fy
theorem Ib (F:Fun K "law" "law" rM f fd)(B:Blt mg)(C:Cst mg)(aj:Def P w K mg base "_law_cell" 1 sC (ar K 0 gE))(ag:Def P w K mg base "_law_mix" 1 mR (ar K 0 dJ))(be:Def P w K mg base "_law_names" 2 xD (ar K 1 sE))(fm:Def P w K mg base "_law_pool" 2 AD (ar K 1 wW))(cv:Def P w K mg base "_law_tables" 3 AI (ar K 1 AH))(fq:Def P w K mg base "_law_book" 3 AC (ar K 1 wU))(b5:Def P w K mg base "_law_question" 4 AN (ar K 1 xE))(dq:Def P w K mg base "answers" 5 zP (ar K 1 rY))(ft:Def P w K mg base "_law_owed" 5 zV (ar K 0 zW)):FnOk P w K mg base d9 6 f fd QO (ar K 0 IE):=by
 have nd:=A8w.nd;exact hE F A8w rfl (by decide) fun az A outer s H E P0 hr=>by
  rw[2];exact(bP (cO (i:=1) 0 .s nd rfl (by trivial) (eI (n:=1) (cJ cv (by rw[00]) rfl (aL (cJ aj (by rw[00]) rfl (aL (aI 0) (aL aT aU))) (aL aT aU)))))
   (bP (cO (i:=2) 0 .s nd rfl (by trivial) (eI (n:=1) (cJ be (by rw[00]) rfl (aL (cJ aj (by rw[00]) rfl (aL (aI 0) (aL aT aU))) (aL (eR aT (jY aT (qR (eS (cJ ag (by rw[00]) rfl (aL (cJ aj (by rw[00]) rfl (aL (aI 0) (aL aT aU))) (aL aT aU))) aT) aT))) aU)))))
   (bP (cO (i:=3) 0 .s nd rfl (by trivial) (eI (n:=1) (cJ fm (by rw[00]) rfl (aL (cJ aj (by rw[00]) rfl (aL (aI 0) (aL aT aU))) aU))))
   (bP (cO (i:=4) 0 .s nd rfl (by trivial) (eI (n:=1) (cJ b5 (by rw[00]) rfl (aL (aI 0) (aL (aI 1) (aL (aI 2) (aL (aI 3) aU)))))))
   (bP (cO (i:=5) 1 .s nd rfl (by trivial) (jP aU))
   (bP (jR iG rfl (iT (aI 4)) (iW (i:=6) nd rfl (by trivial)) (cB (XA 5 .s (eQ hv (aI 6) aT (fun _ _=>rfl)))))
   (nP 5 (bP (cO (i:=7) 0 .s nd rfl (by trivial) (yU aT (jY aT (mO VH WG rfl B.int PyProof.Rows.boot_int (aL (DD pM pP (iD (Oq rfl) Om rfl B.max PyProof.Rows.boot_max (aL (eI (n:=1) (MU (eI (n:=1) (jP (aL aT aU))) (eI (n:=1) (pO rfl (nV (N:=["_law_one"]) (cap:=[ab]) (out:=(cX rM).names) (XN:=QH) rfl rfl (by rw[0]) rfl) nG (iT (aI 4)) (fun cl C s₀ H₀ ex=>⟨nU (j:=0) (show(["_law_one"]:List aE).Nodup by rw[0]) rfl (bA rfl),nN,(iD jM jL rfl B.len jG (aL (eQ hv (aI 0) aT (fun _ _=>rfl)) aU))⟩))))) aU)) aT (gU _)) aU)))))
   (bP (cO (i:=8) 0 .s nd rfl (by trivial) (eI (n:=1) (cJ fq (by rw[00]) rfl (aL (aI 0) (aL aT (aL (aI 1) (aL (aI 5) (aL (aI 2) (aL (aI 3) (aL (aI 7) aU))))))))))
   (bP (cO (i:=9) 0 .s nd rfl (by trivial) (eI (n:=1) (mO (YL rfl) XU rfl B.list NR (aL (aI 4) aU))))
   (bP (cO (i:=10) 1 .s nd rfl (by trivial) DR)
   (bP (jR iG rfl (Jo (aI 8)) (iW (i:=11) nd rfl (by trivial)) (cB (JF 10 .s .s hv (eI (n:=1) (mO (YL rfl) XU rfl B.list NR (aL (eQ hv (aI 8) (aI 11) (fun _ _=>rfl)) aU))) (aI 11))))
   (nP 10 (bP (cO (i:=12) 0 .s nd rfl (by trivial) (cJ ft (by rw[00]) rfl (aL (aI 8) (aL (aI 4) aU))))
   (bP (cO (i:=13) 1 .s nd rfl (by trivial) (cJ dq (by rw[00]) rfl (aL (aI 8) (aL (aI 4) aU))))
   (bP (iS .a (rA (AU (IL (tN (tM (T:="list") rfl B.isinstance rfl B.list NR (by decide) (aI 13)))) (CU (gW (CY hu) CZ (iD jM jL rfl B.len jG (aL (aI 13) aU)) (iD WB WX rfl B.len jG (aL (aI 12) aU)) (gU _))))) (cB (iI .s yT)) jS)
   (bP (tR .a iG rfl (mM rfl B.range (aL (iD jM jL rfl B.len jG (aL (aI 13) aU)) aU)) (iW (i:=14) nd rfl (by trivial)) (cB (iS .a (rA (AU (IL (tN (tM (T:="tuple") rfl B.isinstance rfl B.tuple uP (by decide) (eQ hv (aI 13) (aI 14) (fun _ _=>rfl))))) (AU (gW (FO hu) CS (eQ hv (aI 13) (aI 14) (fun _ _=>rfl)) (aI 12) (by with_unfolding_all rfl)) (CU (rA (vZ (gW pM pP (aI 14) aT (gU _)) (yZ (IL (gW ((A9r.or LK).or (Gz (Ce (HA _ _) hv))) Kp (eQ hv (aI 13) (yU (aI 14) aT) (fun _ _=>rfl)) (eQ hv (aI 13) (aI 14) (fun _ _=>rfl)) (gU _)))))))))) (cB (iI .s yT)) jS)))
   (bP (Vj 13)
   (nP 13 (bP (iS .s (rA (AU (gW (CY hu) CZ (aI 4) (aI 9) (gU _)) (CU (gW (Il hu) Sz (aI 8) (aI 10) (gU _))))) (cB (iI .s yT)) jS)
   (cB (iI .s (Hn (DD (rR hu) rT (iD jM jL rfl B.len jG (aL (eI (n:=1) (cJ dq (by rw[00]) rfl (aL (aI 8) (aL (aI 4) aU)))) aU)) (iD WB WX rfl B.len jG (aL (aI 12) aU)) (gU _)) (Jh (DD (rR hu) rT (eI (n:=1) (cJ dq (by rw[00]) rfl (aL (aI 8) (aL (eI (n:=1) (jP aU)) aU)))) (eI (n:=1) (jP aU)) (gU _))))))))))))))))))))))))))
end Aw
namespace L2
open PySem PySem.Spec PyProof.Rows
variable {F G:SF}{T:aA->List (Option aA)->Option (List (Option aA))}{ds:List aA}{ρ ρ':bM}{f:EF}{d:aA}{fi:AF}{n i:Nat}{cap:List (Option Nat)}
theorem Wl{T:aA->bM->Option bM}(P:Nat->bM->Prop)(h0:P 0 ρ)
  (step:∀ i d ρ,ds[i]?=aa d->P i ρ->∃ ρ1 ρ2,T d ρ=aa ρ1/\(F ρ1=aa (.nx ρ2)\/F ρ1=aa (.ct ρ2))/\P (i+1) ρ2):∃ ρ',lY F T ds ρ=aa (.nx ρ')/\P ds.length ρ':=by
 have go:∀ (rest:List aA) (i:Nat) (ρ:bM),ds.drop i=rest->i+rest.length=ds.length->P i ρ->∃ ρ',lY F T rest ρ=aa (.nx ρ')/\P ds.length ρ':=by
  intro rest;induction rest with
  |nil=>
   intro i ρ _ hl p;simp at hl;subst hl;exact⟨ρ,rfl,p⟩
  |cons d r ih=>
   intro i ρ hd hl p;have hi:ds[i]?=aa d:=by
    have:=congrArg (·[0]?) hd;simpa using this
   obtain⟨ρ1,ρ2,e1,e2,p2⟩:=step i d ρ hi p;have uz:ds.drop (i+1)=r:=by
    have:=congrArg List.tail hd;simpa using this
   obtain⟨ρ',e3,p3⟩:=ih (i+1) ρ2 uz (by simp at hl;omega) p2
   refine⟨ρ',?_,p3⟩;show((T d ρ).bind fun ρ1=>(F ρ1).bind fun o=>match o with
    |.nx ρ'=>lY F T r ρ'
    |.ct ρ'=>lY F T r ρ'
    |.bk ρ'=>aa (.nx ρ')
    | .rt d=>aa (.rt d))=aa (.nx ρ')
   rw[e1];rcases e2 with e2|e2
   ·simp only[dB,e2];exact e3
   ·simp only[dB,e2];exact e3
 exact go ds 0 ρ (by simp) (by simp) h0
theorem Av{t:BF}{ρ:List (Option aA)}(R:aA->aA->Prop):∀ (ds:List aA),(∀ d∈ds,∃ ρ1 y,T d ρ=aa ρ1/\t ρ1=aa ae/\f ρ1=aa y/\R d y) ->
  ∃ ys,n5 T t f ρ ds=aa ys/\fE R ds ys
 |[],_=>⟨[],rfl,.nil⟩
 |d::r,h=>by
  obtain⟨ρ1,y,e1,e2,e3,hr⟩:=h d cF;obtain⟨ys,e4,hp⟩:=Av R r fun d' m=>h d' (cS _ m)
  refine⟨y::ys,?_,.cons hr hp⟩;show((T d ρ).bind fun ρ1=>(t ρ1).bind fun c=>if c=ae then(f ρ1).bind fun y=>(n5 T t f ρ r).bind fun ys=>aa (y::ys) else n5 T t f ρ r)=aa (y::ys)
  simp[e1,e2,e3,e4]
theorem RF{t:BF}{ρ:List (Option aA)}(g:aA->aA):∀ (ds:List aA),(∀ d∈ds,∃ ρ1,T d ρ=aa ρ1/\t ρ1=aa ae/\f ρ1=aa (g d))->n5 T t f ρ ds=aa (ds.map g)
 |[],_=>rfl
 |d::r,h=>by
  obtain⟨ρ1,e1,e2,e3⟩:=h d cF;have e4:=RF g r fun d' m=>h d' (cS _ m)
  show((T d ρ).bind fun ρ1=>(t ρ1).bind fun c=>if c=ae then(f ρ1).bind fun y=>(n5 T t f ρ r).bind fun ys=>aa (y::ys) else n5 T t f ρ r)=aa (g d::r.map g)
  simp[e1,e2,e3,e4]
theorem Paired.mem_right {α β:Type}{R:α->β->Prop}:∀ {as:List α} {bs:List β},fE R as bs->∀ b∈bs,∃ a∈as,R a b:=by
 intro as bs h;induction h with
 |nil=>exact fun b m=>by simp at m
 |cons h _ ih=>
  intro b m;rw[16]
  ·exact⟨_,cF,h⟩
  ·obtain⟨a,ha,hr⟩:=ih b m;exact⟨a,cS _ ha,hr⟩
theorem Gf(h:F ρ=aa (.nx ρ')):aY F G ρ=G ρ':=by
 unfold aY;rw[h]
 rfl
theorem Ik(h:F ρ=aa (.rt d)):aY F G ρ=aa (.rt d):=by
 unfold aY;rw[h]
 rfl
theorem Ah {m:Md}{T:aA->bM->Option bM}{o:Out}(h:aV m fi ρ=aa ds)(h2:lY F T ds ρ=aa o):eP m fi T F ρ=aa o:=by
 unfold eP;rw[h];exact h2
theorem QE {np:Nat}{body:SF}(hl:ds.length=np)(h:body (ds.map (fun d=>aa (0,d))++xV (n-np) ab)=aa (.rt d)):bh np n body ds=aa d:=by
 unfold bh;rw[if_pos hl,h]
 rfl
theorem Pb {α β:Type}{R:α->β->Prop}{as:List α}{bs:List β}(h:fE R as bs):bs.length=as.length:=(mX h).symm
theorem Ad {β:Type}{g:β->aA}{R:β->Prop}:∀ (ys:List aA),(∀ y∈ys,∃ c,y=g c/\R c)->∃ cs:List β,ys=cs.map g/\∀ c∈cs,R c
 |[],_=>⟨[],rfl,fun _ m=>by simp at m⟩
 |y::r,h=>by
  obtain⟨c,e,hc⟩:=h y cF;obtain⟨cs,e2,h2⟩:=Ad r fun z m=>h z (cS _ m)
  refine⟨c::cs,by rw[e,e2];rfl,fun x m=>?_⟩
  rw[16]
  ·exact hc
  ·exact h2 x m
theorem Ac{k:Nat}(h:k≤ds.length):cutD ds ab (aa (k:Int))=ds.take k:=by
 unfold cutD;rw[HT.Apu,HT.Aty];simp[xR h]
theorem nQ(h:n≤100000):n≤sizeLine:=jV h (by decide)
theorem zH(h:n≤100000):n<sizeLine:=Ce h (by decide)
def letter (c:Nat):Bool:=decide (97≤c)&&decide (c≤122)
def figure (c:Nat):Bool:=decide (48≤c)&&decide (c≤57)
def nL (c:Nat):Bool:=letter c||figure c
theorem Nw {c:Nat}(h:nL c=ae):c<128:=by
 simp[nL,letter,figure] at h;omega
def Gp (cs:List Nat):Prop:=∃ c r,cs=c::r/\letter c=ae/\(∀ x∈cs,nL x=ae)/\cs.length≤12
abbrev lK (cs:List Nat):aE:=⟨cs.toArray⟩
def nameS (z:aE):Prop:=Gp z.cps.toList
theorem Gd {z:aE}(h:∀ c∈z.cps.toList,nL c=ae):dS (.str z)=ae:=by
 have:z.cps.all (fun x=>decide (x<1114112))=ae:=by
  rw[Array.all_eq_true'];intro x hx;have:=Nw (h x (by simpa using hx))
  simp;omega
 simpa [dS,NS] using this
theorem nameS.lay {z:aE}(h:nameS z):dS (.str z)=ae:=by
 obtain⟨c,r,_,_,h,_⟩:=h;exact Gd h
def fS (c:Nat):aA:=.str ⟨#[c]⟩
def SIGNS:aE:="abcdefghijklmnopqrstuvwxyz0123456789"
theorem signs_at:∀ j<36,∃ c,SIGNS.cps.toList[j]?=aa c/\nL c=ae/\(j<26->letter c=ae):=by rw[0]
theorem SR {i:Int}(h0:0≤i)(h1:i<36):∃ c,a5 (.str SIGNS) (.int i)=aa (fS c)/\nL c=ae/\(i<26->letter c=ae):=by
 obtain⟨j,rfl⟩:=kS h0;obtain⟨c,e,h2,h3⟩:=signs_at j (by omega)
 refine⟨c,?_,h2,fun h=>h3 (by omega)⟩
 show(if SIGNS.length≤sizeLine then(gq SIGNS.cps.toList (j:Int)).bind fun c=>aa (bD ⟨#[c]⟩) else ab)=_
 rw[if_pos (by rw[0]),rU e]
 rfl
theorem WY:∀ cs:List Nat,sF (cs.map fS)=aa (cs.map fun c=>(⟨#[c]⟩:aE))
 |[]=>rfl
 |c::r=>by
  show((sF (r.map fS)).bind fun xs=>aa ((⟨#[c]⟩:aE)::xs))=_
  rw[WY r]
  rfl
theorem TZ:∀ cs:List Nat,((cs.map fun c=>(⟨#[c]⟩:aE)).map (·.length)).sum=cs.length
 |[]=>rfl
 |c::r=>by
  rw[eF,eF,List.sum_cons,TZ r,iB];show 1+r.length=r.length+1;omega
theorem RJ {cs:List Nat}(h:cs.length≤1000):vJ (.str "") (.list (cs.map fS))=aa (.str (lK cs)):=by
 show((sF (cs.map fS)).bind fun ys=>if (ys.map (·.length)).sum+ys.length*(kM "").length≤16777216 then aa (bD (mV (kM "") ys)) else ab)=_
 rw[WY];simp only[dB,TZ,eY];rw[if_pos (by
  have:(kM "").length=0:=by rw[0]
  rw[this];omega)]
 have:=WV cs;have e:(kM "")=(⟨#[]⟩:aE):=by rw[0]
 rw[e,this]
def bY (c k:Int):Int:=(c%2147483647*48271+k*k*69621+k+11)%2147483629*((c%2147483647*48271+k*k*69621+k+11)%2147483629)%2147483587
theorem gD (a:Int){b:Int}(h:0<b):0≤a%b/\a%b<b:=⟨Int.emod_nonneg _ (by omega),Int.emod_lt_of_pos _ h⟩
def Goes (F:SF)(ρ:bM)(P:Out->Prop):Prop:=∃ o,F ρ=aa o/\P o
variable {P:Out->Prop}{m:Md}
theorem Goes.mono {P':Out->Prop}(h:Goes F ρ P)(k:∀ o,P o->P' o):Goes F ρ P':=by
 obtain⟨o,e,p⟩:=h;exact⟨o,e,k o p⟩
theorem vM(h:F ρ=aa (.nx ρ'))(k:P (.nx ρ')):Goes F ρ P:=⟨_,h,k⟩
theorem eG(h:F ρ=aa (.nx ρ'))(k:Goes G ρ' P):Goes (aY F G) ρ P:=by
 obtain⟨o,e,p⟩:=k;exact⟨o,by rw[Gf h];exact e,p⟩
theorem gJ (I:bM->Prop)(h:Goes F ρ fun o=>∃ ρ',o=.nx ρ'/\I ρ')(k:∀ ρ',I ρ'->Goes G ρ' P):Goes (aY F G) ρ P:=by
 obtain⟨o,e,ρ',rfl,i⟩:=h;exact eG e (k ρ' i)
theorem Au(h:F ρ=aa (.rt d))(k:P (.rt d)):Goes (aY F G) ρ P:=⟨_,Ik h,k⟩
theorem GC {t:BF}{b:Bool}(h:bV m t ρ=aa b)(k:Goes (if b=ae then F else G) ρ P):Goes (bp m t F G) ρ P:=by
 obtain⟨o,e,p⟩:=k;refine⟨o,?_,p⟩;show((bV m t ρ).bind fun b=>if b=ae then F ρ else G ρ)=aa o
 rw[h];cases b
 ·exact e
 ·exact e
theorem lN {t:BF}(h:bV m t ρ=aa ae)(k:Goes F ρ P):Goes (bp m t F G) ρ P:=GC h k
theorem lB {t:BF}(h:bV m t ρ=aa af)(k:Goes G ρ P):Goes (bp m t F G) ρ P:=GC h k
theorem lQ (k:P (.nx ρ)):Goes dC ρ P:=⟨_,rfl,k⟩
theorem vO {t:BF}(h:bV m t ρ=aa af):bp m t F dC ρ=aa (.nx ρ):=by
 unfold bp;rw[h]
 rfl
theorem JE (h:Goes F ρ fun o=>∃ d,o=.rt d/\P o):Goes (aY F G) ρ P:=by
 obtain⟨o,e,d,rfl,p⟩:=h;exact Au e p
theorem Kx(h:f (vA ρ)=aa d)(hf:dY n d=ae)(k:P (.rt d)):Goes (cQ n .a f) ρ P:=⟨_,by
 unfold cQ eV;simp only[h,dB,hf,Bool.true_or,if_true],k⟩
theorem kA(h:f (vS ρ)=aa d)(k:P (.rt d)):Goes (cQ n .s f) ρ P:=⟨_,by
 unfold cQ eV;simp only[h,dB],k⟩
theorem ZG(h:eV n m f ρ=aa d)(hl:i<ρ.length)(k:P (.nx (ρ.set i (aa (n,d))))):Goes (bE i n m f) ρ P:=
 ⟨_,by unfold bE;rw[h];simp only[dB,if_pos hl],k⟩
theorem wC(h:f (vS ρ)=aa d)(hl:i<ρ.length)(k:P (.nx (ρ.set i (aa (n,d))))):Goes (bE i n .s f) ρ P:=ZG h hl k
theorem oR(h:Goes F (frz i ρ) P):Goes (eK i F) ρ P:=h
theorem Jd(h:n≤1000000):yN 0 (n:Int)=aa ((dP n).map fun(k:Nat)=>aR k):=by
 unfold yN;rw[if_pos (by omega)]
 simp
theorem oV {fa:AF}{ρ:List (Option aA)}(h:fa ρ=aa [.int n])(hn:n≤1000000):jl fa ρ=aa ((dP n).map fun(k:Nat)=>aR k):=by
 have e:=Jd hn;generalize aa ((dP n).map fun(k:Nat)=>aR k)=y at e ⊢
 rw[← e];unfold jl;rw[h,dB]
theorem ix(h:fi (vS ρ)=aa ds):aV .s fi ρ=aa ds:=h
theorem V1(h:fi (vA ρ)=aa ds):aV .a fi ρ=aa ds:=h
theorem tO{T:aA->bM->Option bM}(I:Nat->bM->Prop)(h:aV m fi ρ=aa ds)(h0:I 0 ρ)
  (step:∀ i d ρ,ds[i]?=aa d->I i ρ->∃ ρ1,T d ρ=aa ρ1/\Goes F ρ1 fun o=>∃ ρ2,(o=.nx ρ2\/o=.ct ρ2)/\I (i+1) ρ2) (k:∀ ρ',I ds.length ρ'->P (.nx ρ')):Goes (eP m fi T F) ρ P:=by
 obtain⟨ρ',e,i⟩:=Wl (F:=F) (T:=T) I h0 fun i d ρ hd p=>by
  obtain⟨ρ1,e1,o,e2,ρ2,e3,p2⟩:=step i d ρ hd p;refine⟨ρ1,ρ2,e1,?_,p2⟩;rcases e3 with rfl|rfl
  ·exact .inl e2
  ·exact .inr e2
 exact⟨_,Ah h e,k ρ' i⟩
theorem tU{T:aA->bM->Option bM}(I:Nat->bM->Prop)(h:aV m fi ρ=aa ((dP n).map fun(k:Nat)=>aR k))(h0:I 0 ρ)
  (step:∀ (i:Nat) ρ,i<n->I i ρ->∃ ρ1,T (.int i) ρ=aa ρ1/\Goes F ρ1 fun o=>∃ ρ2,(o=.nx ρ2\/o=.ct ρ2)/\I (i+1) ρ2) (k:∀ ρ',I n ρ'->P (.nx ρ')):Goes (eP m fi T F) ρ P:=by
 refine tO I h h0 (fun i d ρ hd p=>?_) (by simpa using k)
 have bg:i<n:=by
  have:=(dD.mp hd).1;simpa using this
 rw[fW,OK bg] at hd;have:aR (i:Int)=d:=by simpa using hd
 rw[25];exact step i ρ bg p
theorem jJ {np:Nat}{body:SF}{Q:aA->Prop}(hl:ds.length=np)(h:Goes body (ds.map (fun d=>aa (0,d))++xV (n-np) ab) fun o=>∃ d,o=.rt d/\Q d):∃ d,bh np n body ds=aa d/\Q d:=by
 obtain⟨o,e,d,rfl,q⟩:=h;exact⟨d,QE hl e,q⟩
theorem Gk{t:BF}{ρ:List (Option aA)}(R:aA->aA->Prop)(h1:fi ρ=aa ds)(h2:ds.length≤100000)
  (h:∀ d∈ds,∃ ρ1 y,T d (kZ cap ρ)=aa ρ1/\t ρ1=aa ae/\f ρ1=aa y/\R d y):∃ ys,i8 cap fi T t f ρ=aa (.list ys)/\fE R ds ys:=by
 obtain⟨ys,e,hp⟩:=Av R ds h;refine⟨ys,?_,hp⟩;unfold i8;rw[h1,dB,e,dB,if_pos (nQ h2)]
theorem NA{t:BF}{ρ:List (Option aA)}(g:aA->aA)(h1:fi ρ=aa ds)(h2:ds.length≤100000)
  (h:∀ d∈ds,∃ ρ1,T d (kZ cap ρ)=aa ρ1/\t ρ1=aa ae/\f ρ1=aa (g d)):i8 cap fi T t f ρ=aa (.list (ds.map g)):=by
 unfold i8;rw[h1,dB,RF g ds h,dB,if_pos (nQ h2)]
theorem JC{t:BF}{ρ:List (Option aA)}{β:Type}(g:β->aA)(R:β->Prop)(h1:fi ρ=aa ((dP n).map fun(k:Nat)=>aR k))(h2:n≤100000)
  (h:∀ k<n,∃ ρ1 y,T (.int (k:Nat)) (kZ cap ρ)=aa ρ1/\t ρ1=aa ae/\f ρ1=aa (g y)/\R y):∃ ys:List β,i8 cap fi T t f ρ=aa (.list (ys.map g))/\ys.length=n/\∀ y∈ys,R y:=by
 obtain⟨ys,e,hp⟩:=Gk (cap:=cap) (T:=T) (t:=t) (f:=f) (fun _ y=>∃ x,y=g x/\R x) h1 (by simpa using h2) fun d m=>by
  obtain⟨k,hk,rfl⟩:=cN.mp m;obtain⟨ρ1,y,a1,a2,a3,a4⟩:=h k (by simpa using hk)
  exact⟨ρ1,g y,a1,a2,a3,y,rfl,a4⟩
 obtain⟨xs,rfl,hx⟩:=Ad (g:=g) (R:=R) ys fun y m=>by
  obtain⟨_,_,x,e,hx⟩:=L2.Paired.mem_right hp y m;exact⟨x,e,hx⟩
 have:=Pb hp;exact⟨xs,e,by simpa using this,hx⟩
end L2
namespace L2
open PySem PySem.Spec PyProof.Rows
variable {f:EF}{ds:List aA}{d:aA}{kds:List (aA×aA)}
variable {F G:SF}{ρ:bM}{P:Out->Prop}{m:Md}
theorem lV{ρ:List (Option aA)}(h:f ρ=aa (.list ds)):bo f ρ=aa ds:=by
 unfold bo;rw[h]
 rfl
theorem qT{ρ:List (Option aA)}(h:f ρ=aa (.tuple ds)):bo f ρ=aa ds:=by
 unfold bo;rw[h]
 rfl
theorem bU {fa:AF}{g:List aA->Option aA}{ρ:List (Option aA)}(h:fa ρ=aa ds)(h2:g ds=aa d):aN g fa ρ=aa d:=by
 unfold aN;rw[h];exact h2
theorem bW {fa fb:EF}{g:aA->aA->Option aA}{ρ:List (Option aA)}{a b:aA}(h:fa ρ=aa a)(h2:fb ρ=aa b)(h3:g a b=aa d):ah g fa fb ρ=aa d:=by
 unfold ah;rw[h,h2];exact h3
theorem IT(i:Int)(h:0<ds.length):∃ (j:Nat) (d:aA),ds[j]?=aa d/\gq ds (i%(ds.length:Int))=aa d:=by
 have b:=gD i (show(0:Int)<ds.length by omega)
 obtain⟨j,e⟩:=kS b.1;have hj:j<ds.length:=by omega
 exact⟨j,ds[j],eW hj,by rw[e];exact rU (eW hj)⟩
theorem mL {i:Nat}(h:f (vS ρ)=aa d)(hg:getL i ρ=aa ds)(hl:ds.length<100000)(k:P (.nx (ρ.set i (aa (1,.list (ds++[d])))))):Goes (dR i .s f) ρ P:=⟨_,by
 unfold dR eV;simp only[h,dB,hg,if_pos (zH (sQ hl))],k⟩
theorem JK {i:Nat}{g:EF}{kd:aA}{key:aP}(h:f (vS ρ)=aa d)(hg:fQ i ρ=aa kds)(hk:g (vS ρ)=aa kd)(ha:dI kd=aa key)(hl:kds.length<100000)(k:P (.nx (ρ.set i (aa (1,.dict (putD kds key d)))))):Goes (fT i .s f .s g) ρ P:=⟨_,by
 unfold fT eV;simp only[h,dB,hg,hk,ha,if_pos (zH (sQ hl))],k⟩
def Ez (d:aA):Prop:=(∃ z,d=.str z/\nameS z)\/∃ i,d=.int i
theorem EJ:∀ {ts:List aA},(∀ t∈ts,bO t=ae)->cA ts=ae
 |[],_=>by simp[cA]
 |t::r,h=>by
  simp only[cA,HS];exact⟨h t cF,EJ fun x m=>h x (cS _ m)⟩
theorem tY {n:Nat}:∀ {ts:List aA},(∀ t∈ts,t.depth≤n)->bX ts≤n
 |[],_=>by simp[bX]
 |t::r,h=>by
  simp only[bX];exact Nat.max_le.mpr ⟨h t cF,tY fun x m=>h x (cS _ m)⟩
theorem uA:∀ {ts:List aA},(∀ t∈ts,noDict t=ae)->noDicts ts=ae
 |[],_=>by simp[noDicts]
 |t::r,h=>by
  simp only[noDicts,HS];exact⟨h t cF,uA fun x m=>h x (cS _ m)⟩
structure Kn (kds:List (aA×aA)):Prop where
 fit:∀ kd∈kds,(∃ z,kd.1=.str z)/\Ez kd.2
 once:(kds.map (·.1)).Nodup
theorem Kn.int(h:Kn kds)(i:Int):dH kds (.inl i)=ab:=by
 have:(kds.find? fun kd=>decide (dI kd.1=aa (.inl i)))=ab:=by
  rw[HL];intro kd m;obtain⟨⟨z,e⟩,_⟩:=h.fit kd m;simp[e,dI]
 unfold dH;rw[this]
 rfl
theorem DH(h:∀ kd∈kds,kd.1 ≠ .none):gw kds=ae:=by
 cases kds with
 |nil=>rfl
 |cons p r=>
  obtain⟨k,d⟩:=p;have:=h (k,d) cF;cases k<;>first|rfl|exact absurd rfl this
theorem Al:∀ {kss:List (List aA)},(∀ k∈kss,cA k=ae/\bX k≤6)->kW (kss.map iF)=aa kss
 |[],_=>rfl
 |k::r,h=>by
  show(if cA k=ae/\bX k≤6 then(kW (r.map iF)).bind fun kss=>aa (k::kss) else ab)=_
  rw[if_pos (h k cF),Al fun x m=>h x (cS _ m)]
  rfl
end L2
namespace L2
open PySem PySem.Spec PyProof.Rows
variable {f:EF}{i n:Nat}{d:aA}
variable {F G:SF}{ρ:bM}{P:Out->Prop}{m:Md}
theorem lR {α β:Type}{fi:AF}{T:aA->bM->Option bM}{xs:List α}{q:α->aA}(g:β->α->β)(I:Nat->β->bM->Prop){b0:β}(h:aV m fi ρ=aa (xs.map q))(h0:I 0 b0 ρ)
  (step:∀ i x b ρ,xs[i]?=aa x->I i b ρ->∃ ρ1,T (q x) ρ=aa ρ1/\Goes F ρ1 fun o=>∃ ρ2,(o=.nx ρ2\/o=.ct ρ2)/\I (i+1) (g b x) ρ2) (k:∀ ρ',I xs.length (xs.foldl g b0) ρ'->P (.nx ρ')):Goes (eP m fi T F) ρ P:=by
 refine tO (fun i ρ=>I i ((xs.take i).foldl g b0) ρ) h h0 (fun i d ρ hd p=>?_) (fun ρ' p=>k ρ' (by simpa using p))
 rw[fW] at hd;obtain⟨x,hx,rfl⟩:=kO.mp hd;obtain⟨ρ1,e1,g1⟩:=step i x _ ρ hx p;refine⟨ρ1,e1,g1.mono fun o ⟨ρ2,e,q⟩=>⟨ρ2,e,?_⟩⟩
 have:xs.take (i+1)=xs.take i++[x]:=by rw[xU,hx];rfl
 rw[this,HK];exact q
def V0 (F:SF)(T:aA->bM->Option bM)(ds:List aA):Out->Option Out
 |.nx ρ=>lY F T ds ρ
 |.ct ρ=>lY F T ds ρ
 |.bk ρ=>aa (.nx ρ)
 |.rt d=>aa (.rt d)
theorem RX {T:aA->List (Option aA)->Option (List (Option aA))}{t:BF}{ρ:List (Option aA)}{α:Type}{q:α->aA}(p:α->Bool)(g:α->aA):∀ (xs:List α),
  (∀ x∈xs,∃ ρ1,T (q x) ρ=aa ρ1/\t ρ1=aa (p x)/\(p x=ae->f ρ1=aa (g x)))->n5 T t f ρ (xs.map q)=aa ((xs.filter p).map g)
 |[],_=>rfl
 |x::xs,h=>by
  obtain⟨ρ1,e1,e2,e3⟩:=h x cF;have ih:=RX p g xs fun y m=>h y (cS _ m)
  show((T (q x) ρ).bind fun ρ1=>(t ρ1).bind fun c=>if c=ae then(f ρ1).bind fun y=>(n5 T t f ρ (xs.map q)).bind fun ys=>aa (y::ys) else n5 T t f ρ (xs.map q))=_
  rw[e1,dB,e2,dB,ih];cases hp:p x with
  |true=>rw[if_pos rfl,e3 hp,List.filter_cons_of_pos hp];rfl
  |false=>rw[if_neg (by simp),List.filter_cons_of_neg (by simp[hp])]
theorem DK {cap:List (Option Nat)}{fi:AF}{T:aA->List (Option aA)->Option (List (Option aA))}{t:BF}{ρ:List (Option aA)}{α:Type}{xs:List α}{q:α->aA}(p:α->Bool)(g:α->aA)(h1:fi ρ=aa (xs.map q))(h2:xs.length≤100000)
  (h:∀ x∈xs,∃ ρ1,T (q x) (kZ cap ρ)=aa ρ1/\t ρ1=aa (p x)/\(p x=ae->f ρ1=aa (g x))):i8 cap fi T t f ρ=aa (.list ((xs.filter p).map g)):=by
 unfold i8;rw[h1,dB,RX p g xs h,dB,if_pos (nQ (by simpa using h2))]
theorem lA(h:eV n m f ρ=aa d)(hl:i<ρ.length):bE i n m f ρ=aa (.nx (ρ.set i (aa (n,d)))):=by
 obtain⟨o,e,q⟩:=ZG (P:=fun o=>o=.nx (ρ.set i (aa (n,d)))) h hl rfl
 rw[e,q]
theorem iV(h:f (vS ρ)=aa d)(hl:i<ρ.length)(k:Goes G (ρ.set i (aa (n,d))) P):Goes (aY (bE i n .s f) G) ρ P:=eG (lA h hl) k
theorem Ai(h:f (vA ρ)=aa d)(hf:dY n d=ae)(hl:i<ρ.length)(k:Goes G (ρ.set i (aa (n,d))) P):Goes (aY (bE i n .a f) G) ρ P:=
 eG (lA (m:=.a) (by show((f (vA ρ)).bind fun d=>if (dY n d||(CN ρ&&decide (n<9)&&kU n d))=ae then aa d else ab)=_;rw[h,dB,hf,Bool.true_or,if_pos rfl]) hl) k
theorem rQ {fa:EF}{g:aA->Option aA}{ρ:List (Option aA)}{a:aA}(h:fa ρ=aa a)(h3:g a=aa d):b7 g fa ρ=aa d:=by
 unfold b7;rw[h];exact h3
theorem cU{g:AF}{ρ:List (Option aA)}{ds:List aA}(h:f ρ=aa d)(h2:g ρ=aa ds):aG f g ρ=aa (d::ds):=by
 unfold aG;rw[h,h2]
 rfl
end L2
namespace L2
def fF {α:Type}[DecidableEq α](ai:List α)(z:α):List α:=if z∈ai then ai else ai++[z]
def gP {α:Type}[DecidableEq α](zs:List α):List α:=zs.foldl fF []
section
variable {α:Type}[DecidableEq α]
theorem Awe {ai:List α}{z x:α}:x∈fF ai z↔x∈ai\/x=z:=by
 unfold fF;split
 ·rename_i h;exact⟨.inl,fun q=>q.elim id fun e=>e ▸ h⟩
 ·simp
theorem VU {x:α}:∀ (zs ai:List α),x∈zs.foldl fF ai↔x∈ai\/x∈zs
 |[],ai=>by simp
 |z::zs,ai=>by
  rw[oF,VU zs,Awe];simp only[eD];constructor
  ·rintro((h|h)|h)
   ·exact .inl h
   ·exact .inr (.inl h)
   ·exact .inr (.inr h)
  ·rintro(h|h|h)
   ·exact .inl (.inl h)
   ·exact .inl (.inr h)
   ·exact .inr h
theorem Aju {x:α}{zs:List α}:x∈gP zs↔x∈zs:=by
 unfold gP;rw[VU];simp
theorem ER (ai:List α)(z:α):(fF ai z).length≤ai.length+1:=by
 unfold fF;split<;>simp
theorem EY:∀ (zs ai:List α),(zs.foldl fF ai).length≤ai.length+zs.length
 |[],ai=>by simp
 |z::zs,ai=>by
  have h1:=EY zs (fF ai z);have h2:=ER ai z;rw[oF,iB];omega
end
open PySem PySem.Spec PyProof.Rows
structure KnR (R:aA->Prop)(kds:List (aA×aA)):Prop where
 fit:∀ kd∈kds,(∃ z,kd.1=.str z)/\R kd.2
 once:(kds.map (·.1)).Nodup
variable {R:aA->Prop}{kds:List (aA×aA)}
theorem KnR.look (h:KnR R kds):∀ kd∈kds,∃ z,kd.1=.str z/\dH kds (.inr z)=aa kd.2:=by
 obtain⟨hf,ho⟩:=h;induction kds with
 |nil=>intro _ m;simp at m
 |cons a r ih=>
  rw[eF,mE] at ho;intro kd m;obtain⟨z,ez⟩:=(hf kd m).1;refine⟨z,ez,?_⟩;rw[16]
  ·simp[dH,kF,ez,dI]
  ·obtain⟨z',e1,e2⟩:=ih (fun x m=>hf x (cS _ m)) ho.2 kd m
   obtain rfl:z'=z:=by
    have q:=e1.symm.trans ez;injection q
   have cf:¬ dI a.1=aa (.inr z'):=fun q=>ho.1 (cN.mpr ⟨kd,m,by rw[e1];exact(LV q).symm⟩)
   have e3:dH (a::r) (.inr z')=dH r (.inr z'):=by simp[dH,kF,cf]
   rw[e3];exact e2
theorem KnR.hit (h:KnR R kds)(hs:∀ d,R d->bQ d d=ae):∀ {r:List (aA×aA)},(∀ kd∈r,kd∈kds)->sH kds r=ae
 |[],_=>rfl
 |(k,d)::r,hr=>by
  have m:=hr (k,d) cF;obtain⟨z,e,q⟩:=h.look (k,d) m;have e':k=.str z:=e;have q':dH kds (.inr z)=aa d:=q;subst e';simp only[sH,dI,dB,q',hs d (h.fit (bD z,d) m).2,Dl];exact h.hit hs fun kd mm=>hr kd (cS _ mm)
theorem KnR.pl (h:KnR R kds):gw kds=ae:=DH fun kd m=>by
 obtain⟨⟨z,e⟩,_⟩:=h.fit kd m;rw[e];exact fun q=>nomatch q
theorem KnR.eqK (h:KnR R kds)(hs:∀ d,R d->bQ d d=ae)(ho:∀ d,R d->cM d=ae)(neg:Bool):vD neg (.dict kds) (.dict kds)=aa (.bool (neg != ae)):=by
 have h1:valsOk kds=ae:=gQ.mpr fun kd m=>ho _ (h.fit kd m).2
 have h2:=h.hit hs (r:=kds) fun _ m=>m
 simp[vD,h1,CQ,h2,h.pl]
def bI (r:List Int):aA:=.tuple (r.map aR)
def bG (rs:List (List Int)):aA:=.list (rs.map bI)
theorem KD (r:List Int):bO (bI r)=ae:=by
 show cA (r.map aR)=ae;refine EJ fun t m=>?_
 obtain⟨i,_,rfl⟩:=cN.mp m
 rfl
theorem SN (rs:List (List Int)):cA (rs.map bI)=ae:=EJ fun t m=>by
 obtain⟨r,_,rfl⟩:=cN.mp m;exact KD r
theorem Ye (rs:List (List Int)):bQ (bG rs) (bG rs)=ae:=by
 have:=zT _ _ (SN rs) (SN rs);simp[bG,bQ,this]
theorem IV {ds:List aA}{f:EF}{lo hi:OF}{ρ:List (Option aA)}{l u:Option Int}(e1:f ρ=aa (.list ds))(e2:lo ρ=aa l)(e3:hi ρ=aa u):kX f lo hi ρ=aa (.list (cutD ds l u)):=by
 unfold kX;rw[e1,dB,e2,dB,e3,dB]
theorem JO {fd fk fx:EF}{ρ:List (Option aA)}{kds:List (aA×aA)}{kd x:aA}{key:aP}(h1:fd ρ=aa (.dict kds))(h2:fk ρ=aa kd)(ha:dI kd=aa key)(h3:fx ρ=aa x)(hp:gw kds=ae:=by first|assumption|rfl|simp):fI fd fk fx ρ=aa ((dH kds key).getD x):=by
 unfold fI;rw[h1,dB,h2,dB,h3,dB];show(if gw kds=ae then(dI kd).bind fun k=>aa ((dH kds k).getD x) else ab)=_
 rw[if_pos hp,ha]
 rfl
end L2
namespace L2
open PySem PySem.Spec PyProof.Rows
variable {F G:SF}{ρ:bM}{P:Out->Prop}{m:Md}
def jX {α β:Type}(g:β->α->Option β):β->List α->Option β
 |b,[]=>aa b
 |b,x::xs=>(g b x).bind fun b'=>jX g b' xs
def CK {β:Type}(I:β->bM->Prop)(r:aA)(t:Option β)(o:Out):Prop:=match t with
 |none=>o=.rt r
 |some b=>∃ ρ2,o=.nx ρ2/\I b ρ2
def AO {β:Type}(I:β->bM->Prop)(r:aA)(t:Option β)(o:Out):Prop:=match t with
 |none=>o=.rt r
 |some b=>∃ ρ2,(o=.nx ρ2\/o=.ct ρ2)/\I b ρ2
theorem XG {α β:Type}(g:β->α->Option β)(x:α):∀ (xs:List α) (b:β),jX g b (xs++[x])=(jX g b xs).bind fun b'=>g b' x
 |[],b=>by
  show((g b x).bind fun b'=>aa b')=g b x
  cases g b x<;>rfl
 |y::ys,b=>by
  show((g b y).bind fun b'=>jX g b' (ys++[x]))=((g b y).bind fun b'=>jX g b' ys).bind _
  cases g b y with
  |none=>rfl
  |some b'=>exact XG g x ys b'
theorem ZO {T:aA->bM->Option bM}{α β:Type}{q:α->aA}(g:β->α->Option β)(I:β->bM->Prop)(r:aA){all:List α}{b0:β}
  (step:∀ pre x post b ρ,all=pre++x::post->jX g b0 pre=aa b->I b ρ->∃ ρ1,T (q x) ρ=aa ρ1/\Goes F ρ1 (AO I r (g b x))):∀ {xs pre:List α} {b:β} {ρ:bM},all=pre++xs->jX g b0 pre=aa b->I b ρ->∃ o,lY F T (xs.map q) ρ=aa o/\CK I r (jX g b xs) o
 |[],pre,b,ρ,_,_,h0=>⟨_,rfl,ρ,rfl,h0⟩
 |x::xs,pre,b,ρ,ha,hb,h0=>by
  obtain⟨ρ1,e1,o,e2,h⟩:=step pre x xs b ρ ha hb h0;have e:lY F T ((x::xs).map q) ρ=V0 F T (xs.map q) o:=by
   show((T (q x) ρ).bind fun ρ1=>(F ρ1).bind fun o=>_)=_
   rw[e1,dB,e2,dB];cases o<;>rfl
  rw[e];show ∃ o',V0 F T (xs.map q) o=aa o'/\CK I r ((g b x).bind fun b'=>jX g b' xs) o'
  cases hg:g b x with
  |none=>
   rw[hg] at h;have h:o=.rt r:=h;subst h;exact⟨_,rfl,rfl⟩
  |some b'=>
   rw[hg] at h;obtain⟨ρ2,ho,i2⟩:=h;obtain⟨o',e',h'⟩:=ZO g I r step (pre:=pre++[x]) (xs:=xs) (by simpa using ha) (by rw[XG,hb];exact hg) i2
   rcases ho with rfl|rfl
   ·exact⟨o',e',h'⟩
   ·exact⟨o',e',h'⟩
theorem Ma {α β:Type}{fi:AF}{T:aA->bM->Option bM}{xs:List α}{q:α->aA}{b0:β}(g:β->α->Option β)(I:β->bM->Prop)(r:aA)(h:aV m fi ρ=aa (xs.map q))(h0:I b0 ρ)
  (step:∀ pre x post b ρ,xs=pre++x::post->jX g b0 pre=aa b->I b ρ->∃ ρ1,T (q x) ρ=aa ρ1/\Goes F ρ1 (AO I r (g b x))):Goes (eP m fi T F) ρ (CK I r (jX g b0 xs)):=by
 obtain⟨o,e,h'⟩:=ZO g I r step (xs:=xs) (pre:=[]) (by simp) rfl h0
 exact⟨o,Ah h e,h'⟩
theorem Tc {β:Type}(I:β->bM->Prop)(r:aA)(t:Option β)(h:Goes F ρ (CK I r t))(k1:t=ab->P (.rt r))(k2:∀ b,t=aa b->∀ ρ',I b ρ'->Goes G ρ' P):Goes (aY F G) ρ P:=by
 obtain⟨o,e,h⟩:=h;cases t with
 |none=>
  have h:o=.rt r:=h;subst h;exact Au e (k1 rfl)
 |some b=>
  obtain⟨ρ2,rfl,i2⟩:=h;exact eG e (k2 b rfl ρ2 i2)
def dN (p:aE×Int):aA×aA:=(.str p.1,.int p.2)
def DN (kn:List (aE×Int)):List (aA×aA):=kn.map dN
def dW (kn:List (aE×Int))(z:aE):Option Int:=(kn.find? fun p=>decide (p.1=z)).map (·.2)
theorem DY (kn:List (aE×Int))(z:aE):dH (DN kn) (.inr z)=(dW kn z).map aR:=by
 unfold dH dW DN;induction kn with
 |nil=>rfl
 |cons p r ih=>
  rw[eF,kF,kF];have e:dI (dN p).1=aa (.inr p.1):=rfl;rw[e];by_cases h:p.1=z
  ·simp[h,dN]
  ·have h':¬ (aa (iK p.1:aP)=aa (iK z)):=fun q=>h (by injection q with q;injection q)
   rw[decide_eq_false h',decide_eq_false h];exact ih
theorem Tw {kn:List (aE×Int)}{z:aE}(h:dW kn z=ab)(v:Int):putD (DN kn) (.inr z) (.int v)=DN (kn++[(z,v)]):=by
 unfold putD DN;have hn:¬ ((kn.map dN).any fun kd=>decide (dI kd.1=aa (.inr z)))=ae:=fun q=>by
  obtain⟨kd,m,e⟩:=HN.mp q;obtain⟨p,mp,rfl⟩:=cN.mp m;have e':p.1=z:=by
   have:=of_decide_eq_true e;have:aa (iK p.1:aP)=aa (iK z):=this;injection this with this;injection this
  unfold dW at h;have h2:=Option.map_eq_none_iff.mp h;have:=HL.mp h2 p mp;exact this (decide_eq_true e')
 rw[if_neg hn,jC]
 rfl
theorem LF {kn:List (aE×Int)}{z:aE}(h:dW kn z=ab)(v:Int)(y:aE):dW (kn++[(z,v)]) y=if y=z then aa v else dW kn y:=by
 unfold dW at *;rw[List.find?_append];by_cases e:y=z
 ·subst e;rw[if_pos rfl,Option.map_eq_none_iff.mp h];simp
 ·rw[if_neg e];have e':¬ z=y:=fun q=>e q.symm
  cases q:kn.find? fun p=>decide (p.1=y) with
  |none=>simp[e']
  |some p=>rfl
def lU (kn:List (aE×Int))(p:aP×Int):Option (List (aE×Int)):=match p.1 with
 |.inl i=>if p.2=i then aa kn else ab
 |.inr z=>match dW kn z with
  |some u=>if p.2=u then aa kn else ab
  |none=>aa (kn++[(z,p.2)])
theorem LB:∀ {ps:List (aP×Int)} {kn d7:List (aE×Int)},jX lU kn ps=aa d7 ->
  (∀ z u,dW kn z=aa u->dW d7 z=aa u)/\(∀ p∈ps,(∀ i,p.1=.inl i->p.2=i)/\∀ z,p.1=.inr z->dW d7 z=aa p.2)/\(∀ z u,dW d7 z=aa u->dW kn z=aa u\/∃ p∈ps,p.1=.inr z)
 |[],kn,d7,h=>by
  cases h;exact⟨fun _ _ e=>e,fun _ m=>by simp at m,fun _ _ e=>.inl e⟩
 |(.inl i,v)::ps,kn,d7,h=>by
  obtain⟨k1,e1,e2⟩:=av (show((lU kn (.inl i,v)).bind fun b'=>jX lU b' ps)=aa d7 from h)
  have e1:(if v=i then aa kn else ab)=aa k1:=e1
  obtain⟨hv,rfl⟩:=dX e1;obtain⟨a,b,c⟩:=LB e2;refine⟨a,fun p m=>?_,fun z u e=>(c z u e).imp id fun⟨p,m,q⟩=>⟨p,cS _ m,q⟩⟩
  rw[16]
  ·exact⟨fun i' q=>(by cases q;exact hv),fun z q=>(by cases q)⟩
  ·exact b p m
 |(.inr z,v)::ps,kn,d7,h=>by
  obtain⟨k1,e1,e2⟩:=av (show((lU kn (.inr z,v)).bind fun b'=>jX lU b' ps)=aa d7 from h)
  obtain⟨a,b,c⟩:=LB e2;cases hl:dW kn z with
  |some u=>
   have e1:(match dW kn z with|some u=>if v=u then aa kn else ab|none=>aa (kn++[(z,v)]))=aa k1:=e1
   rw[hl] at e1;obtain⟨hv,rfl⟩:=dX e1;refine⟨a,fun p m=>?_,fun z' u' e=>(c z' u' e).imp id fun⟨p,m,q⟩=>⟨p,cS _ m,q⟩⟩
   rw[16]
   ·exact⟨fun i' q=>(by cases q),fun z' q=>(by cases q;rw[a z u hl,hv])⟩
   ·exact b p m
  |none=>
   have e1:(match dW kn z with|some u=>if v=u then aa kn else ab|none=>aa (kn++[(z,v)]))=aa k1:=e1
   rw[hl] at e1;cases e1;refine⟨fun y u e=>a y u (by rw[LF hl,if_neg fun q=>by rw[q,hl] at e;cases e];exact e),fun p m=>?_,fun y u e=>?_⟩
   ·rw[16]
    ·exact⟨fun i' q=>(by cases q),fun z' q=>(by cases q;exact a z v (by rw[LF hl,if_pos rfl]))⟩
    ·exact b p m
   ·rcases c y u e with q|⟨p,m,q⟩
    ·rw[LF hl] at q;by_cases hy:y=z
     ·exact .inr ⟨_,cF,by rw[hy]⟩
     ·rw[if_neg hy] at q;exact .inl q
    ·exact .inr ⟨p,cS _ m,q⟩
end L2
namespace Aw
open PySem L2
variable {ρ:List (Option aA)}{cs:List Nat}{s:Nat}
abbrev s0 (d:aA):L2.Slot:=aa (0,d)
abbrev lI (ms:List Int):aA:=.list (ms.map aR)
theorem Ao (a b:Int):cq (.int a) (.int b)=aa (.bool (decide (a=b))):=by
 show aa (qE (bQ (.int a) (.int b)))=_
 congr 2
theorem wF {α:Type}{q:α->aA}{xs:List α}{j:Nat}{x:α}(h:xs[j]?=aa x):a5 (.list (xs.map q)) (.int j)=aa (q x):=rU (by rw[fW,h];rfl)
abbrev tK (ks:List aP):aA:=.tuple (ks.map kD)
abbrev tI (row:List Int):aA:=.tuple (row.map aR)
def yP:Option (List (aE×Int))->aA
 |none=>.none
 |some kn=>.dict (DN kn)
def QP (p:aP×Int):aA:=pairD (kD p.1) (.int p.2)
theorem Uz (ks:List aP)(row:List Int):xT pairD (ks.map kD) (row.map aR)=(ks.zip row).map QP:=by
 rw[List.zipWith_map,List.zip,List.map_zipWith]
 rfl
theorem wA (k:aP):dG "str" (kD k)=aa (.bool (match k with|.inr _=>ae|.inl _=>af)):=by
 cases k<;>simp[dG,fC,gb,kD]
theorem ne_int (a b:Int):dg (.int a) (.int b)=aa (.bool (decide (a≠b))):=by
 have:bQ (.int a) (.int b)=decide (a=b):=by
  rw[show bQ (.int a) (.int b)=(a==b) by simp[bQ],pK]
  simp
 simp[dg,cM,noDict,dQ,this]
def kJ (ks:List aP)(row:List Int)(kn:List (aE×Int)):Option (List (aE×Int)):=if row.length=ks.length then jX lU kn (ks.zip row) else ab
theorem JL (ds:List aA):cI [.tuple ds]=aa (.int ds.length):=by simp[cI]
theorem Jy {ks:List aP}{row:List Int}{f g:EF}(h1:f ρ=aa (tI row))(h2:g ρ=aa (tK ks)) :
  ah dg (aN cI (aG f aK)) (aN cI (aG g aK)) ρ=aa (.bool (decide (row.length≠ks.length))):=by
 refine bW (a:=.int row.length) (b:=.int ks.length) (bU (cU h1 rfl) (by rw[JL,eY])) (bU (cU h2 rfl) (by rw[JL,eY])) ?_
 rw[ne_int]
 congr 2
 rw[pK];simp;omega
theorem gH {f:EF}{b:Bool}(h:f ρ=aa (.bool b)):ao f ρ=aa b:=by
 unfold ao;rw[h]
 rfl
theorem Yz (L:L2.Slot)(R K:L2.Slot)(kn:List (aE×Int))(w6:kn.length≤1000)(p:aP×Int)(x6:L2.Slot) :
  Goes (aY (tf 6 3 .s (ao (b7 (dG "str") (aB 4))) .s (aB 4) .s (aB 5) .s (aB 4)) (bp .s (ao (ah dg (aB 5) (aB 6))) (cQ 1 .s (eC .none)) dC)) [L,R,K,aa (1,.dict (DN kn)),aa (0,kD p.1),aa (0,.int p.2),x6]
   (AO (fun d7 ρ'=>∃ x4 x5 x6:L2.Slot,ρ'=[L,R,K,aa (1,.dict (DN d7)),x4,x5,x6]) .none (lU kn p)):=by
 have lz:(DN kn).length<sizeLine:=zH (by simp[DN];omega)
 obtain⟨t,v⟩:=p;cases t with
 |inl i=>
  have e1:tf 6 3 .s (ao (b7 (dG "str") (aB 4))) .s (aB 4) .s (aB 5) .s (aB 4) [L,R,K,aa (1,.dict (DN kn)),aa (0,.int i),aa (0,.int v),x6]=aa (.nx [L,R,K,aa (1,.dict (DN kn)),aa (0,.int i),aa (0,.int v),aa (0,.int i)]):=by
   have b:bV .s (ao (b7 (dG "str") (aB 4))) [L,R,K,aa (1,.dict (DN kn)),aa (0,.int i),aa (0,.int v),x6]=aa af:=gH (rQ (a:=.int i) rfl (wA (.inl i)));unfold tf;rw[b,dB,if_neg oJ]
   rfl
  refine eG e1 ?_;have e2:bV .s (ao (ah dg (aB 5) (aB 6))) [L,R,K,aa (1,.dict (DN kn)),aa (0,.int i),aa (0,.int v),aa (0,.int i)]=aa (decide (v≠i)):=gH (bW (a:=.int v) (b:=.int i) rfl rfl (ne_int v i));by_cases h:v=i
  ·refine lB (e2.trans (by simp[h])) (lQ ?_)
   show AO _ _ (if v=i then aa kn else ab) _
   rw[if_pos h];exact⟨_,.inl rfl,_,_,_,rfl⟩
  ·refine lN (e2.trans (by simp[h])) (kA (d:=.none) rfl ?_)
   show AO _ _ (if v=i then aa kn else ab) _
   rw[if_neg h]
   rfl
 |inr z=>
  have b:bV .s (ao (b7 (dG "str") (aB 4))) [L,R,K,aa (1,.dict (DN kn)),aa (0,.str z),aa (0,.int v),x6]=aa ae:=gH (rQ (a:=.str z) rfl (wA (.inr z)));cases hl:dW kn z with
  |some u=>
   have e1:tf 6 3 .s (ao (b7 (dG "str") (aB 4))) .s (aB 4) .s (aB 5) .s (aB 4) [L,R,K,aa (1,.dict (DN kn)),aa (0,.str z),aa (0,.int v),x6]=aa (.nx [L,R,K,aa (1,.dict (DN kn)),aa (0,.str z),aa (0,.int v),aa (0,.int u)]):=by
    unfold tf;rw[b,dB,if_pos rfl];show(if 6<7/\(DN kn).length<sizeLine then aa (Out.nx (match dH (DN kn) (.inr z) with
     |some u=>[L,R,K,aa (1,.dict (DN kn)),aa (0,.str z),aa (0,.int v),aa (0,u)]
     | none=>[L,R,K,aa (1,.dict (putD (DN kn) (.inr z) (.int v))),aa (0,.str z),aa (0,.int v),aa (0,.int v)])) else ab)=_
    rw[if_pos ⟨by omega,lz⟩,DY,hl]
    rfl
   refine eG e1 ?_;have e2:bV .s (ao (ah dg (aB 5) (aB 6))) [L,R,K,aa (1,.dict (DN kn)),aa (0,.str z),aa (0,.int v),aa (0,.int u)]=aa (decide (v≠u)):=gH (bW (a:=.int v) (b:=.int u) rfl rfl (ne_int v u));have ef:lU kn (.inr z,v)=if v=u then aa kn else ab:=by
    show(match dW kn z with|some u=>if v=u then aa kn else ab|none=>aa (kn++[(z,v)]))=_
    rw[hl]
   rw[ef];by_cases h:v=u
   ·refine lB (e2.trans (by simp[h])) (lQ ?_)
    rw[if_pos h];exact⟨_,.inl rfl,_,_,_,rfl⟩
   ·refine lN (e2.trans (by simp[h])) (kA (d:=.none) rfl ?_)
    rw[if_neg h]
    rfl
  |none=>
   have e1:tf 6 3 .s (ao (b7 (dG "str") (aB 4))) .s (aB 4) .s (aB 5) .s (aB 4) [L,R,K,aa (1,.dict (DN kn)),aa (0,.str z),aa (0,.int v),x6]=aa (.nx [L,R,K,aa (1,.dict (DN (kn++[(z,v)]))),aa (0,.str z),aa (0,.int v),aa (0,.int v)]):=by
    unfold tf;rw[b,dB,if_pos rfl];show(if 6<7/\(DN kn).length<sizeLine then aa (Out.nx (match dH (DN kn) (.inr z) with
     |some u=>[L,R,K,aa (1,.dict (DN kn)),aa (0,.str z),aa (0,.int v),aa (0,u)]
     | none=>[L,R,K,aa (1,.dict (putD (DN kn) (.inr z) (.int v))),aa (0,.str z),aa (0,.int v),aa (0,.int v)])) else ab)=_
    rw[if_pos ⟨by omega,lz⟩,DY,hl,Tw hl]
    rfl
   refine eG e1 ?_;have e2:bV .s (ao (ah dg (aB 5) (aB 6))) [L,R,K,aa (1,.dict (DN (kn++[(z,v)]))),aa (0,.str z),aa (0,.int v),aa (0,.int v)]=aa (decide (v≠v)):=gH (bW (a:=.int v) (b:=.int v) rfl rfl (ne_int v v));have ef:lU kn (.inr z,v)=aa (kn++[(z,v)]):=by
    show(match dW kn z with|some u=>if v=u then aa kn else ab|none=>aa (kn++[(z,v)]))=_
    rw[hl]
   rw[ef];exact lB (e2.trans (by simp)) (lQ ⟨_,.inl rfl,_,_,_,rfl⟩)
theorem KL:∀ {ps:List (aP×Int)} {kn d7:List (aE×Int)},jX lU kn ps=aa d7->d7.length≤kn.length+ps.length
 |[],kn,d7,h=>by cases h;simp
 |p::ps,kn,d7,h=>by
  obtain⟨k1,e1,e2⟩:=av (show((lU kn p).bind fun b'=>jX lU b' ps)=aa d7 from h)
  have h1:=KL e2;have h2:k1.length≤kn.length+1:=by
   unfold lU at e1;split at e1
   ·obtain⟨_,rfl⟩:=dX e1;omega
   ·split at e1
    ·obtain⟨_,rfl⟩:=dX e1;omega
    ·cases e1;simp
  rw[iB];omega
theorem KW (a b:aP):bQ (kD a) (kD b)=decide (a=b):=by
 cases a with
 |inl i=>cases b with
  |inl j=>
   rw[show bQ (kD (.inl i)) (kD (.inl j))=(i==j) by simp[kD,bQ],pK]
   simp
  |inr y=>simp[kD,bQ]
 |inr x=>cases b with
  |inl j=>simp[kD,bQ]
  |inr y=>
   rw[show bQ (kD (.inr x)) (kD (.inr y))=(x==y) by simp[kD,bQ],pK]
   simp
theorem Jt (a b:aP):cq (kD a) (kD b)=aa (.bool (decide (a=b))):=by
 have h1:∀ k:aP,cM (kD k)=ae:=fun k=>by cases k<;>rfl
 unfold cq;rw[h1 a,h1 b,KW]
 rfl
def uu:aP->Bool
 |.inr _=>ae
 |.inl _=>af
theorem O6 (kn:List (aE×Int)):gw (DN kn)=ae:=DH fun kd m=>by
 obtain⟨p,_,rfl⟩:=cN.mp m;exact fun q=>nomatch q
theorem Bj {c:Prop}[Decidable c]{α:Type}{a:Option α}{b:α}(h:(if c then a else ab)=aa b):c/\a=aa b:=by
 by_cases q:c
 ·rw[if_pos q] at h;exact⟨q,h⟩
 ·rw[if_neg q] at h;cases h
theorem Kz {a b:EF}{x y:Bool}(h:a ρ=aa (.bool x))(h2:x=ae->b ρ=aa (.bool y)):fZ a b ρ=aa (.bool (x&&y)):=by
 unfold fZ;cases x with
 |true=>rw[h,dB,show c7 (.bool ae)=aa ae from rfl,dB,if_pos rfl,h2 rfl];rfl
 |false=>rw[h,dB,show c7 (.bool af)=aa af from rfl,dB,if_neg (by simp)];rfl
theorem Jj {fa:AF}{ds:List aA}(h:fa ρ=aa ds)(hl:ds.length≤1000:=by simp):fR fa ρ=aa (.tuple ds):=by
 unfold fR;rw[h,dB,if_pos (nQ (by omega))]
theorem IP {fa:AF}{ds:List aA}(h:fa ρ=aa ds)(hl:ds.length≤1000:=by simp):dE fa ρ=aa (.list ds):=by
 unfold dE;rw[h,dB,if_pos (nQ (by omega))]
abbrev Ln:=aE×List aP
def aX (l:Ln):aA:=.tuple [.str l.1,.tuple (l.2.map kD)]
theorem Ki (a b:aE):cq (.str a) (.str b)=aa (.bool (decide (a=b))):=(Jt (.inr a) (.inr b)).trans (by simp)
theorem MF:∀ (xs ys:List aP),jO (xs.map kD) (ys.map kD)=decide (xs=ys)
 |[],[]=>by simp[jO]
 |[],y::ys=>by simp[jO]
 |x::xs,[]=>by simp[jO]
 |x::xs,y::ys=>by
  rw[eF,eF];simp only[jO,KW,MF xs ys];rw[pK];simp
theorem YD (xs:List aP):noDicts (xs.map kD)=ae:=uA fun t m=>by
 obtain⟨x,_,rfl⟩:=cN.mp m;cases x<;>rfl
theorem XZ (xs:List aP):bX (xs.map kD)≤1:=tY fun t m=>by
 obtain⟨x,_,rfl⟩:=cN.mp m;cases x<;>simp[kD,dQ]
theorem jF (c k:Int)(h0:0≤k)(h1:k≤1000000):dJ [.int c,.int k]=aa (.int (bY c k)):=by
 have b:=gD (c%2147483647*48271+k*k*69621+k+11) (show(0:Int)<2147483629 by decide)
 have hk:k.natAbs<18446744073709551616:=by omega
 have hn:((c%2147483647*48271+k*k*69621+k+11)%2147483629).natAbs<18446744073709551616:=by omega
 simp[dJ,XE,bh,aY,bE,cQ,eV,vS,ah,aB,eC,outD,bL,cW,bN,b8,hk,hn,bY]
theorem nM {ns:List Int}{k:Int}(h0:0≤k)(h1:k≤1000000):∃ c,gE [.list (ns.map aR),.int k]=aa (.int c):=by
 have hk:k.natAbs<18446744073709551616:=by omega
 have at_:∀ i:Int,0≤i->i<ns.length->∃ c,a5 (.list (ns.map aR)) (.int i)=aa (.int c):=fun i a b=>by
  obtain⟨j,rfl⟩:=kS a;have hj:j<ns.length:=by omega
  exact⟨ns[j],rU (by rw[fW,eW hj];rfl)⟩
 by_cases hl:k<(ns.length:Int)
 ·obtain⟨c,e⟩:=at_ k h0 hl;exact⟨c,by simp[gE,FK,bh,aY,bE,cQ,bp,dC,eV,bV,vS,ah,aB,eC,aN,aG,aK,ao,c7,outD,bL,cW,bN,eu,b8,f9,bz,cI,hl,e]⟩
 ·by_cases hz:(0:Int)<ns.length
  ·obtain⟨c,e⟩:=at_ (k*7%(ns.length:Int)) (gD _ hz).1 (gD _ hz).2;have b:=gD (c*48271+k*7919) (show(0:Int)<2147483647 by decide)
   have hn:((c*48271+k*7919)%2147483647).natAbs<18446744073709551616:=by omega
   have zm:0<ns.length:=by omega
   exact⟨_,by simp[gE,FK,bh,aY,bE,cQ,bp,dC,eV,bV,vS,ah,aB,eC,aN,aG,aK,ao,c7,outD,bL,cW,bN,eu,b8,f9,bz,cI,hl,zm,hk,e,hn];rfl⟩
  ·have zm:ns=[]:=by
    cases ns with
    |nil=>rfl
    |cons a r=>exact absurd (by simp) hz
   have hn:(k*7919+5).natAbs<18446744073709551616:=by omega
   have m7:¬ k<0:=by omega
   subst zm;exact⟨_,by simp[gE,FK,bh,aY,bE,cQ,bp,dC,eV,bV,vS,ah,aB,eC,aN,aG,aK,ao,c7,outD,bL,cW,bN,eu,b8,f9,bz,cI,m7,hk,hn];rfl⟩
def baseOk (cs:List Nat)(s:Nat):Prop:=cs.length=s/\(∀ c∈cs,nL c=ae)/\∃ c r,cs=c::r/\letter c=ae
theorem baseOk.set{j c:Nat}(h:baseOk cs s)(hc:nL c=ae)(hl:j=0->letter c=ae):baseOk (cs.set j c) s:=by
 obtain⟨h1,h2,c0,r,e,h3⟩:=h;refine⟨by simpa using h1,fun x m=>?_,?_⟩
 ·rcases Cn m with q|q
  ·exact h2 x q
  ·rw[q];exact hc
 ·subst e;cases j with
  |zero=>exact⟨c,r,rfl,hl rfl⟩
  |succ j=>exact⟨c0,r.set j c,rfl,h3⟩
theorem baseOk.name(h:baseOk cs s)(hs:s≤12):nameS (lK cs):=by
 obtain⟨h1,h2,c0,r,e,h3⟩:=h;exact⟨c0,r,e,h3,h2,by show cs.length≤12;omega⟩
theorem UW (cs:List Nat)(j c:Nat):(cs.map fS).set j (fS c)=(cs.set j c).map fS:=by rw[List.map_set]
theorem KH {α β:Type}{f:α->β}:∀ {l:List α},(∀ a∈l,∀ b∈l,f a=f b->a=b)->l.Nodup->(l.map f).Nodup
 |[],_,_=>by simp
 |x::l,h,nd=>by
  rw[mE] at nd;rw[eF,mE];refine⟨fun m=>?_,KH (fun a ma b mb=>h a (cS _ ma) b (cS _ mb)) nd.2⟩
  obtain⟨y,my,e⟩:=cN.mp m;exact nd.1 (h y (cS _ my) x cF e ▸ my)
def rg (j:Nat):Nat:=SIGNS.cps.toList.getD j 0
theorem JJ:∀ j<36,SIGNS.cps.toList[j]?=aa (rg j)/\nL (rg j)=ae/\(j<26->letter (rg j)=ae):=by rw[0]
theorem Kt:∀ i<36,∀ j<36,rg i=rg j->i=j:=by rw[0]
theorem Hm {i:Int}(h0:0≤i)(h1:i<36):a5 (.str SIGNS) (.int i)=aa (fS (rg i.toNat)):=by
 obtain⟨j,rfl⟩:=kS h0;obtain⟨e,_,_⟩:=JJ j (by omega)
 show(if SIGNS.length≤sizeLine then(gq SIGNS.cps.toList (j:Int)).bind fun c=>aa (bD ⟨#[c]⟩) else ab)=_
 rw[if_pos (by rw[0]),rU e]
 rfl
theorem UM {a b:List Nat}(h:lK a=lK b):a=b:=by
 have h:a.toArray=b.toArray:=by injection h
 simpa using h
theorem Yt{k:Nat}(h:baseOk cs s)(hs:s≤12):nameS (lK (cs.take (k+1))):=by
 obtain⟨h1,h2,c0,r,e,h3⟩:=h;refine⟨c0,r.take k,by subst e;rfl,h3,fun x m=>h2 x (OE m),?_⟩
 show(cs.take (k+1)).length≤12;rw[pI];omega
theorem Nt (zs:List aE):dY 1 (.list (zs.map bD))=ae:=by
 simp[dY,cT]
theorem TF (c:Int){n:Nat}(hn:n≤12):∃ zs:List aE,sE [.int c,.int n]=aa (.list (zs.map bD))/\zs.length=n/\(∀ z∈zs,nameS z)/\zs.Nodup:=by
 suffices h:∃ d,sE [.int c,.int n]=aa d/\∃ zs:List aE,d=.list (zs.map bD)/\zs.length=n/\(∀ z∈zs,nameS z)/\zs.Nodup by
  obtain⟨_,e,zs,rfl,h⟩:=h;exact⟨zs,e,h⟩
 rw[26];refine eG (ρ':=[s0 (.int c),s0 (.int n),s0 (.str SIGNS),ab,ab,ab,ab,ab]) (by simp[bE,eV,eC,SIGNS]) ?_
 refine eG (ρ':=[s0 (.int c),s0 (.int n),s0 (.str SIGNS),s0 (.int (1+bY c 1%12)),ab,ab,ab,ab]) (by simp[bE,eV,vS,ah,aB,eC,aN,aG,aK,bL,bN,b8,jF]) ?_
 have b1:=gD (bY c 1) (show(0:Int)<12 by decide)
 refine gJ (fun ρ'=>∃ s:Nat,1≤s/\s≤12/\(bY c 2%3=0->s=12)/\ρ'=[s0 (.int c),s0 (.int n),s0 (.str SIGNS),s0 (.int s),ab,ab,ab,ab]) ?_ ?_
 ·by_cases h3:bY c 2%3=0
  ·refine vM (ρ':=[s0 (.int c),s0 (.int n),s0 (.str SIGNS),s0 (.int 12),ab,ab,ab,ab]) (by simp[bE,bp,dC,eV,bV,vS,ah,aB,eC,aN,aG,aK,ao,c7,bN,b8,cq,cM,noDict,dQ,bQ,jF,h3]) ⟨_,rfl,12,by omega,by omega,fun _=>rfl,rfl⟩
  ·refine vM (ρ':=[s0 (.int c),s0 (.int n),s0 (.str SIGNS),s0 (.int (1+bY c 1%12)),ab,ab,ab,ab]) (by simp[bE,bp,dC,eV,bV,vS,ah,aB,eC,aN,aG,aK,ao,c7,bN,b8,cq,cM,noDict,dQ,bQ,jF,h3]) ⟨_,rfl,(1+bY c 1%12).toNat,by omega,by omega,fun h=>absurd h h3,?_⟩
   have e:((1+bY c 1%12).toNat:Int)=1+bY c 1%12:=by omega
   rw[e]
 rintro _ ⟨s,pq,LT,qp,rfl⟩;refine gJ (fun ρ'=>∃ cs:List Nat,cs.length=s/\(∀ x∈cs,nL x=ae)/\ρ'=[s0 (.int c),s0 (.int n),s0 (.str SIGNS),s0 (.int s),aa (1,.list (cs.map fS)),ab,ab,ab]) ?_ ?_
 ·obtain⟨cs,e,hl,ho⟩:=JC (cap:=[ab,aa 2,aa 0]) (fi:=jl (aG (aB 3) aK)) (T:=gB 0) (t:=dF) (f:=(ah a5 (aB 1) (ah bN (aN dJ (aG (aB 2) (aG (ah bL (eC (.int 30)) (aB 0)) aK))) (eC (.int 36)))))
    (ρ:=vS [s0 (.int c),s0 (.int n),s0 (.str SIGNS),s0 (.int s),ab,ab,ab,ab]) (n:=s) fS (fun x=>nL x=ae) (oV rfl (by omega)) (by omega) (fun k hk=>by
    have b:=gD (bY c (30+k)) (show(0:Int)<36 by decide)
    obtain⟨x,e,h1,_⟩:=SR b.1 b.2;have e2:=jF c (30+(k:Int)) (by omega) (by omega)
    refine⟨[aa (.int k),aa (.str SIGNS),aa (.int c)],x,rfl,rfl,?_,h1⟩;simp only[ah,aB,eC,aN,aG,aK,bL,bN,b8,dB,xZ,pJ,BJ,e2,if_pos (show(0:Int)<36 by decide),e])
  exact wC e (by simp) ⟨_,rfl,cs,hl,ho,rfl⟩
 rintro _ ⟨C8,hl,ho,rfl⟩;refine gJ (fun ρ'=>∃ cs:List Nat,baseOk cs s/\ρ'=[s0 (.int c),s0 (.int n),s0 (.str SIGNS),s0 (.int s),aa (1,.list (cs.map fS)),ab,ab,ab]) ?_ ?_
 ·have b:=gD (bY c 50) (show(0:Int)<26 by decide)
  obtain⟨x,e,h1,h2⟩:=SR b.1 (by omega)
  have hb:baseOk (C8.set 0 x) s:=by
   refine⟨by simpa using hl,fun y m=>?_,?_⟩
   ·rcases Cn m with q|q
    ·exact ho y q
    ·rw[q];exact h1
   ·cases C8 with
    |nil=>simp at hl;omega
    |cons a r=>exact⟨x,r,rfl,h2 b.2⟩
  have vi:jt (C8.map fS).length 0=aa 0:=by
   unfold jt;rw[if_pos (by decide),if_pos (by rw[eY];omega)]
   rfl
  refine vM (ρ':=[s0 (.int c),s0 (.int n),s0 (.str SIGNS),s0 (.int s),aa (1,.list ((C8.set 0 x).map fS)),ab,ab,ab]) ?_ ⟨_,rfl,_,hb,rfl⟩;simp only[fM,eV,vS,ah,aB,eC,aN,aG,aK,bN,b8,getL,eF,xZ,pJ,BJ,dB,jF c 50 (by omega) (by omega),if_pos (show(0:Int)<26 by decide),e,vi]
  rw[← UW]
  rfl
 rintro _ ⟨cs,hb,rfl⟩;by_cases h3:bY c 2%3=0
 ·have hs:=qp h3;subst hs;have e:=NA (cap:=[ab,aa 4]) (fi:=jl (aG (aB 1) aK)) (T:=gB 0) (t:=dF) (f:=(ah vJ (eC (.str "")) (kX (aB 1) oN (oS (ah bL (aB 0) (eC (.int 1)))))))
    (ρ:=vA [s0 (.int c),s0 (.int n),s0 (.str SIGNS),s0 (.int (12:Nat)),aa (1,.list (cs.map fS)),ab,ab,ab]) (ds:=(dP n).map fun(k:Nat)=>aR k) (fun d=>match d with|.int k=>.str (lK (cs.take (k.toNat+1)))|d=>d) (oV rfl (by omega)) (by simp;omega) (fun d md=>by
    obtain⟨k,mk,rfl⟩:=cN.mp md;have hk:=jB.mp mk;have e1:=Ac (ds:=cs.map fS) (k:=k+1) (by have:=hb.1;simp;omega)
    have e2:=RJ (cs:=cs.take (k+1)) (by have:=hb.1;simp;omega)
    refine⟨[aa (.int k),aa (.list (cs.map fS))],rfl,rfl,?_⟩;have e3:((k:Int)+1)=((k+1:Nat):Int):=by omega
    simp only[ah,aB,eC,kX,oN,oS,bL,dB,xZ,pJ,BJ,e3,e1];rw[← Cp,e2]
    rfl)
  rw[gY] at e;have e':((dP n).map ((fun d=>match d with|.int k=>bD (lK (cs.take (k.toNat+1)))|d=>d)∘fun(k:Nat)=>aR k))=(((dP n).map fun k=>lK (cs.take (k+1))).map bD):=by
   rw[gY]
   rfl
  rw[e'] at e;refine JE (lN ?_ (Kx e (Nt _) ⟨_,rfl,_,rfl,_,rfl,by simp,fun z m=>?_,?_⟩))
  ·simp[bV,vS,ah,aB,eC,aN,aG,aK,ao,c7,bN,b8,cq,cM,noDict,dQ,bQ,jF,h3]
  ·obtain⟨k,_,rfl⟩:=cN.mp m;exact Yt hb (by omega)
  ·refine KH (fun a ma b mb q=>?_) Cm
   have ha:=jB.mp ma;have qu:=jB.mp mb;have:=congrArg OI (UM q);rw[pI,pI,hb.1] at this;omega
 ·refine eG (ρ':=[s0 (.int c),s0 (.int n),s0 (.str SIGNS),s0 (.int s),aa (1,.list (cs.map fS)),ab,ab,ab]) (vO (by simp[bV,vS,ah,aB,eC,aN,aG,aK,ao,c7,bN,b8,cq,cM,noDict,dQ,bQ,jF,h3])) ?_
  have ww:(0:Int)<s:=by omega
  have ba:=gD (bY c 3) ww;obtain⟨a,ha⟩:=kS ba.1;have nu:a<s:=by omega
  refine eG (ρ':=[s0 (.int c),s0 (.int n),s0 (.str SIGNS),s0 (.int s),aa (1,.list (cs.map fS)),s0 (.int a),ab,ab]) (by
   have:0<s:=by omega
   simp[bE,eV,vS,ah,aB,eC,aN,aG,aK,bN,b8,jF,this,ha]) ?_
  refine eG (ρ':=[s0 (.int c),s0 (.int n),s0 (.str SIGNS),s0 (.int s),aa (1,.list (cs.map fS)),s0 (.int a),aa (1,.list []),ab]) rfl ?_;obtain⟨w,hw⟩:∃ w:Nat,w=if a=0 then 26 else 36:=⟨_,rfl⟩
  have hw1:26≤w/\w≤36:=by subst hw;split<;>omega
  let sg:Nat->Nat:=fun k=>rg ((bY c 4+k)%(w:Int)).toNat
  have zn:∀ k:Nat,((bY c 4+k)%(w:Int)).toNat<w:=fun k=>by
   have:=gD (bY c 4+k) (show(0:Int)<w by omega)
   omega
  have U3:∀ k,nL (sg k)=ae:=fun k=>(JJ _ (by have:=zn k;omega)).2.1
  have U4:∀ k,a=0->letter (sg k)=ae:=fun k h0=>(JJ _ (by have:=zn k;omega)).2.2 (by have:=zn k;rw[if_pos h0] at hw;omega)
  refine gJ (fun ρ'=>∃ (ds:List Nat) (x:L2.Slot),ρ'=[s0 (.int c),s0 (.int n),s0 (.str SIGNS),s0 (.int s),aa (1,.list (ds.map fS)),s0 (.int a),aa (1,.list (((dP n).map fun k=>lK (cs.set a (sg k))).map bD)),x]) ?_ ?_
  ·refine tU (n:=n) (fun i ρ'=>∃ (ds:List Nat) (x:L2.Slot),baseOk ds s/\(∀ y,ds.set a y=cs.set a y)/\ρ'=[s0 (.int c),s0 (.int n),s0 (.str SIGNS),s0 (.int s),aa (1,.list (ds.map fS)),s0 (.int a),aa (1,.list (((dP i).map fun k=>lK (cs.set a (sg k))).map bD)),x]) ?_ ⟨cs,ab,hb,fun _=>rfl,rfl⟩ ?_ ?_
   ·exact ix (oV rfl (by omega))
   ·rintro i _ hi ⟨ds,x,hd,L6,rfl⟩;generalize hZ:((dP i).map fun k=>lK (cs.set a (sg k)))=zs
    have hzl:zs.length=i:=by rw[← hZ];simp
    refine⟨[s0 (.int c),s0 (.int n),s0 (.str SIGNS),s0 (.int s),aa (1,.list (ds.map fS)),s0 (.int a),aa (1,.list (zs.map bD)),s0 (.int i)],rfl,?_⟩;have F6:=hd.1;have vi:jt (ds.map fS).length (a:Int)=aa a:=by
     unfold jt;rw[if_pos (by omega),if_pos (by rw[eY];omega)]
     simp
    have ey:eV 0 .s (ah a5 (aB 2) (ah bN (ah bL (aN dJ (aG (aB 0) (aG (eC (.int 4)) aK))) (aB 7)) (ah bL (eC (.int 26)) (ah cW (eC (.int 10)) (aN fK (aG (ah bz (aB 5) (eC (.int 0))) aK)))))) [s0 (.int c),s0 (.int n),s0 (.str SIGNS),s0 (.int s),aa (1,.list (ds.map fS)),s0 (.int a),aa (1,.list (zs.map bD)),s0 (.int i)]=aa (fS (sg i)):=by
     have hb1:=gD (bY c 4+i) (show(0:Int)<w by omega)
     have e:=Hm hb1.1 (by omega)
     show _=aa (fS (rg ((bY c 4+i)%(w:Int)).toNat));by_cases h0:a=0
     ·rw[if_pos h0] at hw;subst hw;have e:a5 (.str SIGNS) (.int ((bY c 4+i)%26))=aa (fS (rg ((bY c 4+i)%26).toNat)):=e;simp[eV,vS,ah,aB,eC,aN,aG,aK,bL,cW,bN,eu,b8,bz,fK,jF,h0,e]
     ·rw[if_neg h0] at hw;subst hw;have e:a5 (.str SIGNS) (.int ((bY c 4+i)%36))=aa (fS (rg ((bY c 4+i)%36).toNat)):=e;have h1:0<a:=by omega
      simp[eV,vS,ah,aB,eC,aN,aG,aK,bL,cW,bN,eu,b8,bz,fK,jF,h1,e]
    refine eG (ρ':=[s0 (.int c),s0 (.int n),s0 (.str SIGNS),s0 (.int s),aa (1,.list ((cs.set a (sg i)).map fS)),s0 (.int a),aa (1,.list (zs.map bD)),s0 (.int i)]) ?_ ?_
    ·unfold fM;rw[ey,← L6,← UW];simp only[eV,vS,aB,getL,eF,xZ,pJ,BJ,dB,vi]
     rfl
    ·have qu:=hb.set (j:=a) (U3 i) (U4 i);have ej:=RJ (cs:=cs.set a (sg i)) (by have:=hb.1;simp;omega)
     refine vM (ρ':=[s0 (.int c),s0 (.int n),s0 (.str SIGNS),s0 (.int s),aa (1,.list ((cs.set a (sg i)).map fS)),s0 (.int a),aa (1,.list ((zs++[lK (cs.set a (sg i))]).map bD)),s0 (.int i)]) ?_ ⟨_,.inl rfl,cs.set a (sg i),s0 (.int i),qu,fun y=>by rw[List.set_set],?_⟩
     ·have hz:(zs.map bD).length<sizeLine:=zH (by simp;omega)
      have ee:ah vJ (eC (.str "")) (aB 4) (vA [s0 (.int c),s0 (.int n),s0 (.str SIGNS),s0 (.int s),aa (1,.list ((cs.set a (sg i)).map fS)),s0 (.int a),aa (1,.list (zs.map bD)),s0 (.int i)])=aa (.str (lK (cs.set a (sg i)))):=by
       simp only[ah,eC,aB,vA,eF,uR,xZ,pJ,BJ,dB,ej]
      unfold dR eV;simp only[ee,dB,dY,cT,if_true,getL,xZ,pJ,if_pos hz];simp
     ·have e:((dP (i+1)).map fun k=>lK (cs.set a (sg k)))=zs++[lK (cs.set a (sg i))]:=by
       rw[List.range_succ,jC,hZ]
       rfl
      rw[e]
   ·rintro _ ⟨ds,x,_,_,rfl⟩;exact⟨_,rfl,ds,x,rfl⟩
  rintro _ ⟨ds,x,rfl⟩;refine⟨_,rfl,_,rfl,_,rfl,by simp,fun z m=>?_,?_⟩
  ·obtain⟨k,_,rfl⟩:=cN.mp m;exact(hb.set (U3 k) (U4 k)).name LT
  ·refine KH (fun k mk k' mk' q=>?_) Cm
   have hk:=jB.mp mk;have dh:=jB.mp mk';have e:=congrArg (fun l=>l[a]?) (UM q)
   have F6:=hb.1;simp only[rE (show a<cs.length by omega)] at e
   have e:=Kt _ (by have:=zn k;omega) _ (by have:=zn k';omega) (iH e)
   have b1:=gD (bY c 4+k) (show(0:Int)<w by omega)
   have b2:=gD (bY c 4+k') (show(0:Int)<w by omega)
   have e:(bY c 4+k)%(w:Int)=(bY c 4+k')%(w:Int):=by omega
   by_cases h0:a=0
   ·rw[if_pos h0] at hw;subst hw;omega
   ·rw[if_neg h0] at hw;subst hw;omega
def fG (t:aE×Nat):aA:=.tuple [.str t.1,.int t.2]
theorem Mc (c:Int):∃ ps:List Int,wW [.int c]=aa (.list (ps.map aR))/\ps.length=6:=by
 have h6:(6:Nat)≤sizeLine:=nQ (by omega)
 refine⟨[c%10^59,0-c%10^59-1,bY c 31%3,7,10^35*10^34+c%10^59,0-(10^35*10^34+c%10^59)],?_,rfl⟩;simp[wW,YB,bh,aY,bE,cQ,eU,bp,eP,dR,gM,fM,fT,eK,frz,dC,eV,bV,aV,vS,vA,ah,b7,aB,eC,aN,fR,dE,aG,aK,ao,fH,eT,f7,c7,fZ,iz,gZ,fI,gR,iy,bw,getL,fQ,outD,bo,jl,iR2,yN,itemsOf,bL,fN,cW,bN,eE,gA,eu,b8,f9,i5,bz,i4,cI,dG,fC,gb,eZ,gC,fK,cq,dg,cM,noDict,noDicts,dQ,bX,bQ,dY,cT,i8,kZ,dF,gB,jF,h6]
theorem Mz (c:Int){n:Nat}(hn:n≤12):∃ d,AH [.int c,.int n]=aa d/\∃ ts:List (aE×Nat),d=.list (ts.map fG)/\ts.length=n/\(∀ t∈ts,nameS t.1/\1≤t.2/\t.2≤6)/\(ts.map (·.1)).Nodup:=by
 obtain⟨zs,e,hl,hz,gj⟩:=TF c hn;rw[26];rw[14];refine gJ (fun ρ'=>∃ (ts:List (aE×Nat)) (x3 x4 x5:L2.Slot),ts.length=n/\((∀ t∈ts,nameS t.1/\1≤t.2/\t.2≤6)/\ts.map (·.1)=zs)/\ρ'=[s0 (.int c),s0 (.int n),aa (1,.list (ts.map fG)),x3,x4,x5]) ?_ ?_
 ·refine tO (ds:=zs.map bD) (fun i ρ'=>∃ (ts:List (aE×Nat)) (x3 x4 x5:L2.Slot),ts.length=i/\((∀ t∈ts,nameS t.1/\1≤t.2/\t.2≤6)/\ts.map (·.1)=zs.take i)/\ρ'=[s0 (.int c),s0 (.int n),aa (1,.list (ts.map fG)),x3,x4,x5]) (ix (lV (bU (ds:=[.int c,.int n]) rfl e))) ⟨[],ab,ab,ab,rfl,⟨fun _ m=>by simp at m,rfl⟩,rfl⟩ ?_ ?_
  ·rintro i d _ hd ⟨ts,x3,x4,x5,qy,⟨ht,htz⟩,rfl⟩;rw[fW] at hd;obtain⟨z,qz,rfl⟩:=kO.mp hd;have hi:i<n:=by rw[← hl];exact(dD.mp qz).1
   refine⟨[s0 (.int c),s0 (.int n),aa (1,.list (ts.map fG)),s0 (.str z),x4,x5],rfl,?_⟩;have em:=jF c (60+(i:Int)) (by omega) (by omega)
   refine Ai (d:=.int (bY c (60+(i:Int)))) (by simp[bh,aY,bE,cQ,eU,bp,dR,gM,fM,fT,eK,frz,dC,eV,bV,aV,vS,vA,ah,b7,aB,eC,aN,fR,dE,aG,aK,ao,fH,eT,f7,c7,fZ,iz,gZ,fI,gR,iy,bw,getL,fQ,outD,bo,itemsOf,bL,fN,cW,bN,eE,gA,eu,b8,f9,i5,bz,i4,cI,dG,fC,gb,eZ,gC,fK,cq,dg,cM,noDict,noDicts,dQ,bX,bQ,dY,cT,dF,gB,qy,em]) rfl (by simp) ?_
   generalize bY c (60+(i:Int))=m;refine iV (d:=.int (1+m/4%3)) (by simp[bh,aY,bE,cQ,eU,bp,dR,gM,fM,fT,eK,frz,dC,eV,bV,aV,vS,vA,ah,b7,aB,eC,aN,fR,dE,aG,aK,ao,fH,eT,f7,c7,fZ,iz,gZ,fI,gR,iy,bw,getL,fQ,outD,bo,itemsOf,bL,fN,cW,bN,eE,gA,eu,b8,f9,i5,bz,i4,cI,dG,fC,gb,eZ,gC,fK,cq,dg,cM,noDict,noDicts,dQ,bX,bQ,dY,cT,dF,gB]) (by simp) ?_
   refine gJ (fun ρ'=>∃ q:Nat,1≤q/\q≤6/\ρ'=[s0 (.int c),s0 (.int n),aa (1,.list (ts.map fG)),s0 (.str z),s0 (.int m),s0 (.int q)]) ?_ ?_
   ·by_cases h4:m%4=0
    ·have b:=gD (m/4) (show(0:Int)<6 by decide)
     obtain⟨q,hq⟩:=kS b.1;exact lN (by simp[bh,aY,bE,cQ,eU,bp,dR,gM,fM,fT,eK,frz,dC,eV,bV,aV,vS,vA,ah,b7,aB,eC,aN,fR,dE,aG,aK,ao,fH,eT,f7,c7,fZ,iz,gZ,fI,gR,iy,bw,getL,fQ,outD,bo,itemsOf,bL,fN,cW,bN,eE,gA,eu,b8,f9,i5,bz,i4,cI,dG,fC,gb,eZ,gC,fK,cq,dg,cM,noDict,noDicts,dQ,bX,bQ,dY,cT,dF,gB,h4]) (wC (d:=.int ((1+q:Nat):Int)) (by simp[bh,aY,bE,cQ,eU,bp,dR,gM,fM,fT,eK,frz,dC,eV,bV,aV,vS,vA,ah,b7,aB,eC,aN,fR,dE,aG,aK,ao,fH,eT,f7,c7,fZ,iz,gZ,fI,gR,iy,bw,getL,fQ,outD,bo,itemsOf,bL,fN,cW,bN,eE,gA,eu,b8,f9,i5,bz,i4,cI,dG,fC,gb,eZ,gC,fK,cq,dg,cM,noDict,noDicts,dQ,bX,bQ,dY,cT,dF,gB,hq]) (by simp) ⟨_,rfl,1+q,by omega,by omega,rfl⟩)
    ·have b:=gD (m/4) (show(0:Int)<3 by decide)
     obtain⟨q,hq⟩:=kS b.1;refine lB (by simp[bh,aY,bE,cQ,eU,bp,dR,gM,fM,fT,eK,frz,dC,eV,bV,aV,vS,vA,ah,b7,aB,eC,aN,fR,dE,aG,aK,ao,fH,eT,f7,c7,fZ,iz,gZ,fI,gR,iy,bw,getL,fQ,outD,bo,itemsOf,bL,fN,cW,bN,eE,gA,eu,b8,f9,i5,bz,i4,cI,dG,fC,gb,eZ,gC,fK,cq,dg,cM,noDict,noDicts,dQ,bX,bQ,dY,cT,dF,gB,h4]) (lQ ⟨_,rfl,1+q,by omega,by omega,?_⟩)
     rw[hq]
     rfl
   rintro _ ⟨q,q1,q6,rfl⟩;have h2:(2:Nat)≤sizeLine:=nQ (by omega)
   refine mL (d:=fG (z,q)) (ds:=ts.map fG) (by simp[bh,aY,bE,cQ,eU,bp,dR,gM,fM,fT,eK,frz,dC,eV,bV,aV,vS,vA,ah,b7,aB,eC,aN,fR,dE,aG,aK,ao,fH,eT,f7,c7,fZ,iz,gZ,fI,gR,iy,bw,getL,fQ,outD,bo,itemsOf,bL,fN,cW,bN,eE,gA,eu,b8,f9,i5,bz,i4,cI,dG,fC,gb,eZ,gC,fK,cq,dg,cM,noDict,noDicts,dQ,bX,bQ,dY,cT,dF,gB,fG,h2]) rfl (by simp;omega) ⟨_,.inl rfl,ts++[(z,q)],s0 (.str z),s0 (.int m),s0 (.int q),by simp[qy],⟨fun t m=>?_,by rw[jC,htz,xU,qz];rfl⟩,by simp⟩
   rcases kR.mp m with m|m
   ·exact ht t m
   ·rw[eB.mp m];exact⟨hz z (gL qz),q1,q6⟩
  ·rintro _ ⟨ts,x3,x4,x5,h1,h2,rfl⟩;exact⟨_,rfl,ts,_,_,_,by simpa [hl] using h1,⟨h2.1,by simpa [← hl] using h2.2⟩,rfl⟩
 rintro _ ⟨ts,x3,x4,x5,h1,h2,rfl⟩;exact⟨_,rfl,_,rfl,ts,rfl,h1,h2.1,by rw[h2.2];exact gj⟩
theorem Sx (c:Int){zs:List aE}{ps:List Int}(h0:0<zs.length)(hp:ps.length=6):∃ d,wV [.int c,.list (zs.map bD),.list (ps.map aR)]=aa d/\∃ k:aP,d=kD k/\∀ z,k=.inr z->z∈zs:=by
 rw[26];refine iV (d:=.int (bY c 7)) (by simp[bh,aY,bE,cQ,eU,bp,dR,gM,fM,fT,eK,frz,dC,eV,bV,aV,vS,vA,ah,b7,aB,eC,aN,fR,dE,aG,aK,ao,fH,eT,f7,c7,fZ,iz,gZ,fI,gR,iy,bw,getL,fQ,outD,bo,itemsOf,bL,fN,cW,bN,eE,gA,eu,b8,f9,i5,bz,i4,cI,dG,fC,gb,eZ,gC,fK,cq,dg,cM,noDict,noDicts,dQ,bX,bQ,dY,cT,dF,gB,jF]) (by simp) ?_
 generalize bY c 7=m;by_cases h3:m%5<4
 ·obtain⟨j,d,hj,e⟩:=IT (ds:=zs.map bD) (m/5) (by simpa using h0)
  rw[fW] at hj;obtain⟨z,qz,rfl⟩:=kO.mp hj;have e':gq (zs.map bD) (m/5%(zs.length:Int))=aa (.str z):=by simpa using e
  refine JE (lN (by simp[bh,aY,bE,cQ,eU,bp,dR,gM,fM,fT,eK,frz,dC,eV,bV,aV,vS,vA,ah,b7,aB,eC,aN,fR,dE,aG,aK,ao,fH,eT,f7,c7,fZ,iz,gZ,fI,gR,iy,bw,getL,fQ,outD,bo,itemsOf,bL,fN,cW,bN,eE,gA,eu,b8,f9,i5,bz,i4,cI,dG,fC,gb,eZ,gC,fK,cq,dg,cM,noDict,noDicts,dQ,bX,bQ,dY,cT,dF,gB,h3]) (kA (d:=.str z) ?_ ⟨_,rfl,_,rfl,.inr z,rfl,fun y e=>by cases e;exact gL qz⟩))
  simp[bh,aY,bE,cQ,eU,bp,dR,gM,fM,fT,eK,frz,dC,eV,bV,aV,vS,vA,ah,b7,aB,eC,aN,fR,dE,aG,aK,ao,fH,eT,f7,c7,fZ,iz,gZ,fI,gR,iy,bw,getL,fQ,outD,bo,itemsOf,bL,fN,cW,bN,eE,gA,eu,b8,f9,i5,bz,i4,cI,dG,fC,gb,eZ,gC,fK,cq,dg,cM,noDict,noDicts,dQ,bX,bQ,dY,cT,dF,gB,h0,a5,e']
 ·refine eG (vO (by simp[bh,aY,bE,cQ,eU,bp,dR,gM,fM,fT,eK,frz,dC,eV,bV,aV,vS,vA,ah,b7,aB,eC,aN,fR,dE,aG,aK,ao,fH,eT,f7,c7,fZ,iz,gZ,fI,gR,iy,bw,getL,fQ,outD,bo,itemsOf,bL,fN,cW,bN,eE,gA,eu,b8,f9,i5,bz,i4,cI,dG,fC,gb,eZ,gC,fK,cq,dg,cM,noDict,noDicts,dQ,bX,bQ,dY,cT,dF,gB,h3])) ?_
  have b:=gD (m/5) (show(0:Int)<4 by decide)
  obtain⟨j,ej⟩:=kS b.1;have hj:j<ps.length:=by omega
  have e':gq (ps.map aR) (m/5%4)=aa (.int ps[j]):=by rw[ej];exact rU (by rw[fW,eW hj];rfl)
  refine kA (d:=.int ps[j]) ?_ ⟨_,rfl,.inl ps[j],rfl,fun y e=>by cases e⟩
  simp[bh,aY,bE,cQ,eU,bp,dR,gM,fM,fT,eK,frz,dC,eV,bV,aV,vS,vA,ah,b7,aB,eC,aN,fR,dE,aG,aK,ao,fH,eT,f7,c7,fZ,iz,gZ,fI,gR,iy,bw,getL,fQ,outD,bo,itemsOf,bL,fN,cW,bN,eE,gA,eu,b8,f9,i5,bz,i4,cI,dG,fC,gb,eZ,gC,fK,cq,dg,cM,noDict,noDicts,dQ,bX,bQ,dY,cT,dF,gB,a5,e']
def o7 (ts:List (aE×Nat))(zs:List aE)(l:Ln):Prop:=(l.1,l.2.length)∈ts/\∀ z,.inr z∈l.2->z∈zs
theorem Od (l:Ln):cT (aX l)=ae:=by
 have:∀ ks:List aP,pQ (ks.map kD)=ae:=fun ks=>by
  induction ks with
  |nil=>rfl
  |cons k r ih=>cases k<;>simp[kD,pQ,cT,ih]
 simp[aX,cT,pQ,this]
theorem Uh {ns:List Int}{ts:List (aE×Nat)}{zs:List aE}{ps:List Int}{st cnt:Nat}(hs:st≤1000)(hc:cnt≤1000)(h0:0<ts.length)(ht:∀ t∈ts,nameS t.1/\1≤t.2/\t.2≤6)(L7:0<zs.length)(hp:ps.length=6) :
  ∃ d,zZ [.list (ns.map aR),.int st,.list (ts.map fG),.list (zs.map bD),.list (ps.map aR),.int cnt]=aa d/\∃ ls:List Ln,d=.list (ls.map aX)/\ls.length=cnt/\∀ l∈ls,o7 ts zs l:=by
 let pre:List L2.Slot:=[s0 (.list (ns.map aR)),s0 (.int st),s0 (.list (ts.map fG)),s0 (.list (zs.map bD)),s0 (.list (ps.map aR)),s0 (.int cnt)]
 rw[26];refine eG (ρ':=pre++[aa (1,.list []),ab,ab,ab,ab,ab]) rfl ?_;refine eG (ρ':=pre++[aa (1,.list []),s0 (.int st),ab,ab,ab,ab]) rfl ?_;refine gJ (fun ρ'=>∃ (ls:List Ln) (x6 x7 x8 x9 iw:L2.Slot),ls.length=cnt/\(∀ l∈ls,o7 ts zs l)/\ρ'=pre++[aa (1,.list (ls.map aX)),x6,x7,x8,x9,iw]) ?_ ?_
 ·refine tU (n:=cnt) (fun i ρ'=>∃ (ls:List Ln) (at_:Nat) (x7 x8 x9 iw:L2.Slot),ls.length=i/\(∀ l∈ls,o7 ts zs l)/\at_≤1000+7*i/\ρ'=pre++[aa (1,.list (ls.map aX)),s0 (.int at_),x7,x8,x9,iw]) (ix (oV rfl (by omega))) ⟨[],st,ab,ab,ab,ab,rfl,fun _ m=>by simp at m,by omega,rfl⟩ ?_ ?_
  ·rintro i _ hi ⟨ls,at_,x7,x8,x9,iw,hl,uo,t7,rfl⟩;refine⟨pre++[aa (1,.list (ls.map aX)),s0 (.int at_),s0 (.int i),x8,x9,iw],rfl,?_⟩;obtain⟨c,ec⟩:=nM (ns:=ns) (k:=(at_:Int)) (by omega) (by omega)
   have e8:∀ y9 y10:L2.Slot,aN dJ (aG (aN gE (aG (aB 0) (aG (aB 7) aK))) (aG (eC (.int 8)) aK)) (vS (pre++[aa (1,.list (ls.map aX)),s0 (.int at_),s0 (.int i),x8,y9,y10]))=aa (.int (bY c 8)):=fun _ _=>by
    simp[bh,aY,bE,cQ,eU,bp,dR,gM,fM,fT,eK,frz,dC,eV,bV,aV,vS,vA,ah,b7,aB,eC,aN,fR,dE,aG,aK,ao,fH,eT,f7,c7,fZ,iz,gZ,fI,gR,iy,bw,getL,fQ,outD,bo,itemsOf,bL,fN,cW,bN,eE,gA,eu,b8,f9,i5,bz,i4,cI,dG,fC,gb,eZ,gC,fK,cq,dg,cM,noDict,noDicts,dQ,bX,bQ,dY,cT,dF,gB,pre,ec,jF]
   refine eG (ρ':=pre++[aa (1,.list (ls.map aX)),s0 (.int at_),s0 (.int i),s0 (.int (bY c 8)),x9,iw]) ?_ ?_
   ·unfold bE eV;rw[e8]
    rfl
   obtain⟨j,d,hj,e⟩:=IT (ds:=ts.map fG) (bY c 8) (by simpa using h0)
   rw[fW] at hj;obtain⟨t,sh,rfl⟩:=kO.mp hj;have e':gq (ts.map fG) (bY c 8%(ts.length:Int))=aa (fG t):=by simpa using e
   obtain⟨t1,t2,t3⟩:=ht t (gL sh);refine eG (ρ':=pre++[aa (1,.list (ls.map aX)),s0 (.int at_),s0 (.int i),s0 (.int (bY c 8)),s0 (fG t),iw]) ?_ ?_
   ·simp[bh,aY,bE,cQ,eU,bp,dR,gM,fM,fT,eK,frz,dC,eV,bV,aV,vS,vA,ah,b7,aB,eC,aN,fR,dE,aG,aK,ao,fH,eT,f7,c7,fZ,iz,gZ,fI,gR,iy,bw,getL,fQ,outD,bo,itemsOf,bL,fN,cW,bN,eE,gA,eu,b8,f9,i5,bz,i4,cI,dG,fC,gb,eZ,gC,fK,cq,dg,cM,noDict,noDicts,dQ,bX,bQ,dY,cT,dF,gB,pre,h0,a5,e']
   obtain⟨tm,et,bg,htm⟩:=JC (cap:=[ab,aa 3,aa 4,aa 0,aa 7]) (fi:=jl (aG (ah a5 (aB 10) (eC (.int 1))) aK)) (T:=gB 0) (t:=dF) (f:=aN wV (aG (aN gE (aG (aB 3) (aG (ah bL (ah bL (aB 4) (eC (.int 1))) (aB 0)) aK))) (aG (aB 1) (aG (aB 2) aK))))
    (ρ:=vS (pre++[aa (1,.list (ls.map aX)),s0 (.int at_),s0 (.int i),s0 (.int (bY c 8)),s0 (fG t),iw])) (n:=t.2) kD (fun k:aP=>∀ z,k=.inr z->z∈zs) (oV rfl (by omega)) (by omega) (fun k hk=>by
     obtain⟨c2,zo⟩:=nM (ns:=ns) (k:=(at_:Int)+1+(k:Int)) (by omega) (by omega)
     obtain⟨d,ed,kk,rfl,hd⟩:=Sx c2 L7 hp;refine⟨[aa (.int k),aa (.list (zs.map bD)),aa (.list (ps.map aR)),aa (.list (ns.map aR)),aa (.int at_)],kk,rfl,rfl,?_,hd⟩;simp[bh,aY,bE,cQ,eU,bp,dR,gM,fM,fT,eK,frz,dC,eV,bV,aV,vS,vA,ah,b7,aB,eC,aN,fR,dE,aG,aK,ao,fH,eT,f7,c7,fZ,iz,gZ,fI,gR,iy,bw,getL,fQ,outD,bo,itemsOf,bL,fN,cW,bN,eE,gA,eu,b8,f9,i5,bz,i4,cI,dG,fC,gb,eZ,gC,fK,cq,dg,cM,noDict,noDicts,dQ,bX,bQ,dY,cT,dF,gB,zo,ed])
   refine gJ (fun ρ'=>ρ'=pre++[aa (1,.list (ls.map aX)),s0 (.int at_),s0 (.int i),s0 (.int (bY c 8)),s0 (fG t),aa (1,.list (tm.map kD))]) (wC et (by simp[pre]) ⟨_,rfl,rfl⟩) ?_
   rintro _ rfl;refine oR ?_;have hln:o7 ts zs (t.1,tm):=⟨by show(t.1,tm.length)∈ts;rw[bg];exact gL sh,fun z m=>htm _ m z rfl⟩
   refine gJ (fun ρ'=>ρ'=pre++[aa (1,.list ((ls++[(t.1,tm)]).map aX)),s0 (.int at_),s0 (.int i),s0 (.int (bY c 8)),s0 (fG t),s0 (.list (tm.map kD))]) (mL (d:=aX (t.1,tm)) (ds:=ls.map aX) ?_ rfl (by simp;omega) ⟨_,rfl,by rw[jC];rfl⟩) ?_
   ·have h2:(2:Nat)≤sizeLine:=nQ (by omega)
    simp[bh,aY,bE,cQ,eU,bp,dR,gM,fM,fT,eK,frz,dC,eV,bV,aV,vS,vA,ah,b7,aB,eC,aN,fR,dE,aG,aK,ao,fH,eT,f7,c7,fZ,iz,gZ,fI,gR,iy,bw,getL,fQ,outD,bo,itemsOf,bL,fN,cW,bN,eE,gA,eu,b8,f9,i5,bz,i4,cI,dG,fC,gb,eZ,gC,fK,cq,dg,cM,noDict,noDicts,dQ,bX,bQ,dY,cT,dF,gB,pre,a5,fG,gq,jt,h2,aX]
   rintro _ rfl;refine gJ (fun ρ'=>∃ w9:List Ln,w9.length=i+1/\(∀ l∈w9,o7 ts zs l)/\ρ'=pre++[aa (1,.list (w9.map aX)),s0 (.int at_),s0 (.int i),s0 (.int (bY c 8)),s0 (fG t),s0 (.list (tm.map kD))]) ?_ ?_
   ·have sq:∀ l∈ls++[(t.1,tm)],o7 ts zs l:=fun l m=>by
     rcases kR.mp m with m|m
     ·exact uo l m
     ·rw[eB.mp m];exact hln
    generalize hg:ls++[(t.1,tm)]=nv at sq ⊢;have qy:nv.length=i+1:=by rw[← hg];simp[hl]
    by_cases hb:0<i/\bY c 8/8%9=0
    ·have b:=gD (bY c 8/72) (show(0:Int)<i by omega)
     obtain⟨j,ej⟩:=kS b.1;have hj:j<nv.length:=by omega
     have hx:=sq nv[j] (qG hj);have ea:gq (nv.map aX) (bY c 8/72%(i:Int))=aa (aX nv[j]):=by rw[ej];exact rU (by rw[fW,eW hj];rfl)
     have vi:jt (nv.map aX).length (i:Int)=aa i:=by
      unfold jt;rw[if_pos (by omega),if_pos (by rw[eY];omega)]
      simp
     have h0i:=hb.1;refine lN (by simp[bh,aY,bE,cQ,eU,bp,dR,gM,fM,fT,eK,frz,dC,eV,bV,aV,vS,vA,ah,b7,aB,eC,aN,fR,dE,aG,aK,ao,fH,eT,f7,c7,fZ,iz,gZ,fI,gR,iy,bw,getL,fQ,outD,bo,itemsOf,bL,fN,cW,bN,eE,gA,eu,b8,f9,i5,bz,i4,cI,dG,fC,gb,eZ,gC,fK,cq,dg,cM,noDict,noDicts,dQ,bX,bQ,dY,cT,dF,gB,pre,hb]) (vM (ρ':=pre++[aa (1,.list ((nv.set i nv[j]).map aX)),s0 (.int at_),s0 (.int i),s0 (.int (bY c 8)),s0 (fG t),s0 (.list (tm.map kD))]) ?_ ⟨_,rfl,nv.set i nv[j],by simp[qy],fun l m=>?_,rfl⟩)
     ·have hfl:=Od nv[j];have ee:eV 0 .a (ah a5 (aB 6) (ah bN (ah eE (aB 9) (eC (.int 72))) (aB 8))) (pre++[aa (1,.list (nv.map aX)),s0 (.int at_),s0 (.int i),s0 (.int (bY c 8)),s0 (fG t),s0 (.list (tm.map kD))])=aa (aX nv[j]):=by
       simp[bh,aY,bE,cQ,eU,bp,dR,gM,fM,fT,eK,frz,dC,eV,bV,aV,vS,vA,ah,b7,aB,eC,aN,fR,dE,aG,aK,ao,fH,eT,f7,c7,fZ,iz,gZ,fI,gR,iy,bw,getL,fQ,outD,bo,itemsOf,bL,fN,cW,bN,eE,gA,eu,b8,f9,i5,bz,i4,cI,dG,fC,gb,eZ,gC,fK,cq,dg,cM,noDict,noDicts,dQ,bX,bQ,dY,cT,dF,gB,pre,a5,ea,h0i,hfl]
      unfold fM;rw[ee];simp only[pre,Cy,BU,eV,vS,aB,getL,eF,xZ,pJ,BJ,dB,vi,List.map_set]
      rfl
     ·rcases Cn m with q|q
      ·exact sq l q
      ·rw[q];exact hx
    ·refine lB ?_ (lQ ⟨_,rfl,nv,qy,sq,rfl⟩);by_cases h1:0<i
     ·have h2:¬ bY c 8/8%9=0:=fun h=>hb ⟨h1,h⟩
      simp[bh,aY,bE,cQ,eU,bp,dR,gM,fM,fT,eK,frz,dC,eV,bV,aV,vS,vA,ah,b7,aB,eC,aN,fR,dE,aG,aK,ao,fH,eT,f7,c7,fZ,iz,gZ,fI,gR,iy,bw,getL,fQ,outD,bo,itemsOf,bL,fN,cW,bN,eE,gA,eu,b8,f9,i5,bz,i4,cI,dG,fC,gb,eZ,gC,fK,cq,dg,cM,noDict,noDicts,dQ,bX,bQ,dY,cT,dF,gB,pre,h1,h2]
     ·simp[bh,aY,bE,cQ,eU,bp,dR,gM,fM,fT,eK,frz,dC,eV,bV,aV,vS,vA,ah,b7,aB,eC,aN,fR,dE,aG,aK,ao,fH,eT,f7,c7,fZ,iz,gZ,fI,gR,iy,bw,getL,fQ,outD,bo,itemsOf,bL,fN,cW,bN,eE,gA,eu,b8,f9,i5,bz,i4,cI,dG,fC,gb,eZ,gC,fK,cq,dg,cM,noDict,noDicts,dQ,bX,bQ,dY,cT,dF,gB,pre,h1]
   rintro _ ⟨w9,m7,L9,rfl⟩;refine vM (ρ':=pre++[aa (1,.list (w9.map aX)),s0 (.int ((at_+1+t.2:Nat):Int)),s0 (.int i),s0 (.int (bY c 8)),s0 (fG t),s0 (.list (tm.map kD))]) ?_ ⟨_,.inl rfl,w9,at_+1+t.2,_,_,_,_,m7,L9,by omega,rfl⟩
   simp[bh,aY,bE,cQ,eU,bp,dR,gM,fM,fT,eK,frz,dC,eV,bV,aV,vS,vA,ah,b7,aB,eC,aN,fR,dE,aG,aK,ao,fH,eT,f7,c7,fZ,iz,gZ,fI,gR,iy,bw,getL,fQ,outD,bo,itemsOf,bL,fN,cW,bN,eE,gA,eu,b8,f9,i5,bz,i4,cI,dG,fC,gb,eZ,gC,fK,cq,dg,cM,noDict,noDicts,dQ,bX,bQ,dY,cT,dF,gB,pre,a5,fG,gq,jt]
  ·rintro _ ⟨ls,at_,x7,x8,x9,iw,h1,h2,_,rfl⟩;exact⟨_,rfl,ls,_,_,_,_,_,h1,h2,rfl⟩
 rintro _ ⟨ls,x6,x7,x8,x9,iw,h1,h2,rfl⟩;exact⟨_,rfl,_,rfl,ls,rfl,h1,h2⟩
end Aw
namespace L2
open PySem PySem.Spec PyProof.Rows
section
variable {K:aM}{H0 H B0:Hp}{P0:aD->Prop}{ρ:bM}{σ:St}{fp:Nat->List aD}{i:Nat}
abbrev R1 (K:aM)(B H:Hp):aA×aA->aP×V->List aD->Prop:=fun kd kv f=>kd.1=kD kv.1/\Aj2 K B H 1 kd.2 kv.2 f
theorem Pk (k0 d0:aA)(r:List (aA×aA))(k:aP):dH ((k0,d0)::r) k=if dI k0=aa k then aa d0 else dH r k:=by
 unfold dH;rw[kF];by_cases h:dI k0=aa k
 ·rw[if_pos h];simp[h]
 ·rw[if_neg h];simp[h]
end
end L2
namespace Aw
open PySem L2
variable {a b:Int}{R:List (List Int)}{r ns m:List Int}{kds:List (aA×aA)}{B:aE->List (List Int)}{wd:aE->Nat}{ρ:List (Option aA)}{P:Out->Prop}{i n k w most:Nat}{f g:EF}{ds:List aA}{ts:List (aE×Nat)}{x z qual:aE}{d:aA}{ls:List Ln}{α β:Type}{ks:List aP}{zs ps:List aE}{st:cV}{K:aM}
def qi:aA->Int
 |.int i=>i
 |_=>0
theorem qU (r:List Int):(r.map aR).map qi=r:=by
 rw[gY];have:(qi∘aR)=id:=rfl;rw[this,List.map_id]
theorem tX (r:List Int):cA (r.map aR)=ae:=EJ fun t m=>by
 obtain⟨i,_,rfl⟩:=cN.mp m
 rfl
theorem wN (r:List Int):bX (r.map aR)≤1:=tY fun t m=>by
 obtain⟨i,_,rfl⟩:=cN.mp m;simp[dQ]
theorem UR (r:List Int):cM (bI r)=ae:=by
 have h1:noDicts (r.map aR)=ae:=uA fun t m=>by
  obtain⟨i,_,rfl⟩:=cN.mp m
  rfl
 have h2:bX (r.map aR)≤1:=tY fun t m=>by
  obtain⟨i,_,rfl⟩:=cN.mp m;simp[dQ]
 simp[cM,bI,noDict,h1,dQ];omega
theorem Tv {a b:List Int}(h:bI a=bI b):a=b:=by
 have h:=uQ h;exact(qU a).symm.trans ((congrArg (BW qi) h).trans (qU b))
theorem RD (a b:List Int):bQ (bI a) (bI b)=decide (a=b):=by
 rw[KG _ _ (KD a) (KD b),decide_eq_decide];exact⟨Tv,fun e=>by rw[e]⟩
def h9 (R:List (List Int)):List (List Int):=(iR (R.map fun r=>r.map aR)).map fun k=>k.map qi
theorem ES (R:List (List Int)):(h9 R).Perm R:=by
 have h:=(uB (R.map fun r=>r.map aR)).map fun k=>k.map qi
 rw[gY] at h;have e:(R.map ((fun k=>k.map qi)∘fun r=>r.map aR))=R:=by
  have:((fun k=>k.map qi)∘fun r=>r.map aR)=(id:List Int->List Int):=by funext r;exact qU r
  rw[this,List.map_id]
 rw[e] at h;exact h
theorem Amg:r∈h9 R↔r∈R:=(ES R).mem_iff
theorem EC (R:List (List Int)):(h9 R).length=R.length:=(ES R).length_eq
theorem VG (R:List (List Int)):kW (R.map bI)=aa (R.map fun r=>r.map aR):=by
 have:=Al (kss:=R.map fun r=>r.map aR) fun k m=>by
  obtain⟨r,_,rfl⟩:=cN.mp m;have:=wN r;exact⟨tX r,by omega⟩
 rw[gY] at this;rw[29]
theorem EW:∀ (a b:List Int),a.length=b.length->fL (a.map aR) (b.map aR)=ae
 |[],[],_=>rfl
 |x::a,y::b,h=>EW a b (by simpa using h)
 |[],_::_,h=>by simp at h
 |_::_,[],h=>by simp at h
structure Bk (kds:List (aA×aA))(B:aE->List (List Int))(wd:aE->Nat):Prop where
 pl:gw kds=ae
 at_:∀ t,(dH kds (.inr t)).getD (.list [])=bG (B t)
 few:∀ t,(B t).length<64
 pos:∀ t,1≤wd t
 wid:∀ t,∀ r∈B t,r.length=wd t
theorem Bk.get(b:Bk kds B wd){fd fk:EF}{t:aE}(h1:fd ρ=aa (.dict kds))(h2:fk ρ=aa (.str t)):fI fd fk (dE aK) ρ=aa (bG (B t)):=by
 rw[JO h1 h2 (key:=.inr t) rfl (x:=.list []) rfl b.pl,b.at_]
theorem Me {ρ:bM}{ts:List aA}(h:f (vS ρ)=aa (.list ts))(hg:getL i ρ=aa ds)(hl:ds.length+ts.length≤100000)(k:P (.nx (ρ.set i (aa (1,.list (ds++ts)))))):Goes (tD i .s f) ρ P:=⟨_,by
 have h':eV 0 .s f ρ=aa (.list ts):=h;unfold tD;rw[h',dB,hg,dB];show(if ds.length+ts.length≤sizeLine then aa (Out.nx (ρ.set i (aa (1,.list (ds++ts))))) else ab)=_
 rw[if_pos (nQ hl)],k⟩
theorem Fm (c:Int)(n:Nat)(h:0<n):bN (.int c) (.int n)=aa (.int (c%n)):=by
 show(if 0<(n:Int) then aa (aR (c%(n:Int))) else ab)=_
 rw[if_pos (by omega)]
theorem QF(h:a.natAbs<2^64):cW (.int a) (.int b)=aa (.int (a*b)):=by
 show(if (a.natAbs<2^64\/b.natAbs<2^64)\/(a.natAbs<2^1000/\b.natAbs<2^1000) then aa (aR (a*b)) else ab)=_
 rw[if_pos (.inl (.inl h))]
theorem mul_r(h:b.natAbs<2^64):cW (.int a) (.int b)=aa (.int (a*b)):=by
 show(if (a.natAbs<2^64\/b.natAbs<2^64)\/(a.natAbs<2^1000/\b.natAbs<2^1000) then aa (aR (a*b)) else ab)=_
 rw[if_pos (.inl (.inr h))]
theorem rV {a b:BF}{x y:Bool}(h:a ρ=aa x)(h2:x=ae->b ρ=aa y):eT a b ρ=aa (x&&y):=by
 unfold eT;rw[h];cases x with
 |true=>exact h2 rfl
 |false=>rfl
theorem yX {a b:BF}{x y:Bool}(h:a ρ=aa x)(h2:x=af->b ρ=aa y):f7 a b ρ=aa (x||y):=by
 unfold f7;rw[h];cases x with
 |true=>rfl
 |false=>exact h2 rfl
theorem JA{x:Bool}(h:f ρ=aa (.bool x)):fH (ao f) ρ=aa (!x):=by
 unfold fH;rw[gH h]
 rfl
theorem YG (R:List (List Int)):noDicts (R.map bI)=ae:=uA fun t m=>by
 obtain⟨r,_,rfl⟩:=cN.mp m;have:=UR r;unfold cM at this;exact(kT.mp this).1
theorem RG (neg:Bool)(r:List Int)(R:List (List Int)):l4 neg (bI r) (bG R)=aa (.bool (neg != decide (r∈R))):=by
 show(if (cM (bI r)&&noDicts (R.map bI))=ae then aa (qE (neg != (R.map bI).any fun z=>bQ z (bI r))) else ab)=_
 rw[UR,YG,yH,if_pos rfl];have:((R.map bI).any fun z=>bQ z (bI r))=decide (r∈R):=by
  rw[List.any_map];by_cases h:r∈R
  ·rw[decide_eq_true h];exact HN.mpr ⟨r,h,by simp[RD]⟩
  ·rw[decide_eq_false h,List.any_eq_false];intro x mx;simp only[Function.comp,RD,decide_eq_true_eq];exact fun e=>h (e ▸ mx)
 rw[this]
theorem Gq {fa:AF}{x y:aA}{xs ys:List aA}(h:fa ρ=aa [x,y])(hx:oU x=aa xs)(hy:oU y=aa ys):iZ fa ρ=aa (xT pairD xs ys):=by
 unfold iZ;rw[h];show((oU x).bind fun xs=>(oU y).bind fun ys=>aa (xT pairD xs ys))=_
 rw[hx,hy]
 rfl
abbrev Tb:=aE×List (List Int)
def bq (L:List Tb):List (aA×aA):=L.map fun p=>(bD p.1,bG p.2)
theorem EH {ρ:bM}(h:ρ[i]?=aa (aa (n,d)))(k:P (.rt d)):Goes (eU i n) ρ P:=⟨_,by
 unfold eU;rw[h];show(if n=n then aa (Out.rt d) else ab)=_
 rw[if_pos rfl],k⟩
theorem Vq (a:List Int):(bI a).depth≤2:=by
 have:=wN a;show bX (a.map aR)+1≤2;omega
theorem Jp (R:List (List Int)):cM (bG R)=ae:=by
 have h2:bX (R.map bI)≤2:=tY fun t m=>by
  obtain⟨r,_,rfl⟩:=cN.mp m;exact Vq r
 unfold cM;show(noDicts (R.map bI)&&decide (bX (R.map bI)+1≤60))=ae;rw[YG,decide_eq_true (by omega)]
 rfl
def jb (L:List Tb)(t:aE):List (List Int):=((L.find? fun p=>decide (p.1=t)).map (·.2)).getD []
theorem RW (t:aE):∀ L:List Tb,dH (bq L) (.inr t)=(L.find? fun p=>decide (p.1=t)).map fun p=>bG p.2
 |[]=>rfl
 |p::L=>by
  show dH ((.str p.1,bG p.2)::bq L) (.inr t)=_;rw[Pk,kF];by_cases h:p.1=t
  ·rw[if_pos (by rw[h];rfl),decide_eq_true h];rfl
  ·rw[if_neg (fun e=>h (by injection e with e;injection e)),decide_eq_false h,RW t L]
theorem Hw (L:List Tb)(t:aE):(dH (bq L) (.inr t)).getD (.list [])=bG (jb L t):=by
 rw[RW];unfold jb;cases L.find? fun p=>decide (p.1=t)<;>rfl
theorem CT (L:List Tb):gw (bq L)=ae:=DH fun kd m=>by
 obtain⟨p,_,rfl⟩:=cN.mp m;exact fun q=>nomatch q
theorem QU {L:List Tb}{t:aE}(h:r∈jb L t):∃ p∈L,p.1=t/\p.2=jb L t:=by
 unfold jb at h ⊢;cases e:L.find? fun p=>decide (p.1=t) with
 |none=>rw[e] at h;simp at h
 |some p=>
  have h2:=Ct (p:=fun(p:Tb)=>decide (p.1=t)) e
  exact⟨p,HC e,by simpa using h2,rfl⟩
theorem Jl {L:List Tb}{t:aE}(h:t∉L.map (·.1)):jb L t=[]:=by
 unfold jb;rw[HL.mpr fun p m=>by
  simp only[decide_eq_true_eq];exact fun e=>h (cN.mpr ⟨p,m,e⟩)]
 rfl
theorem bkL {L:List Tb}(h1:∀ t,1≤wd t)(hL:∀ p∈L,p.2.length<64/\∀ r∈p.2,r.length=wd p.1):Bk (bq L) (jb L) wd:=by
 refine⟨CT L,Hw L,fun t=>?_,h1,fun t r m=>?_⟩
 ·by_cases h:∃ r,r∈jb L t
  ·obtain⟨r,m⟩:=h;obtain⟨p,mp,_,e⟩:=QU m;rw[← e];exact(hL p mp).1
  ·have:jb L t=[]:=List.eq_nil_iff_forall_not_mem.mpr fun r m=>h ⟨r,m⟩
   rw[this];simp
 ·obtain⟨p,mp,e1,e2⟩:=QU m;rw[← e2] at m;rw[← e1];exact(hL p mp).2 r m
theorem ZM {L:List Tb}(nd:(L.map (·.1)).Nodup):KnR (fun d=>∃ T:List (List Int),d=bG T) (bq L):=by
 refine⟨fun kd m=>?_,?_⟩
 ·obtain⟨p,_,rfl⟩:=cN.mp m;exact⟨⟨_,rfl⟩,_,rfl⟩
 ·unfold bq;rw[gY,show((fun x=>x.1)∘fun(p:Tb)=>(bD p.1,bG p.2))=bD∘(·.1) from rfl,← gY]
  exact(uU.mpr (nd.imp fun h e=>h (by injection e)))
theorem Jb {L:List Tb}(nd:(L.map (·.1)).Nodup):vD ae (.dict (bq L)) (.dict (bq L))=aa (.bool af):=
 (ZM nd).eqK (fun d ⟨T,e⟩=>by rw[e];exact Ye T) (fun d ⟨T,e⟩=>by rw[e];exact Jp T) ae
theorem Kj {L:List Tb}(nd:(L.map (·.1)).Nodup){p:Tb}(m:p∈L):dH (bq L) (.inr p.1)=aa (bG p.2):=by
 obtain⟨z,e1,e2⟩:=(ZM nd).look (bD p.1,bG p.2) (cN.mpr ⟨p,m,rfl⟩);injection e1 with e1;rw[e1];exact e2
theorem find_key {L:List Tb}{t:aE}(h:t∈L.map (·.1)):∃ p,(L.find? fun p=>decide (p.1=t))=aa p:=by
 cases e:L.find? fun p=>decide (p.1=t) with
 |some p=>exact⟨p,rfl⟩
 |none=>
  obtain⟨p,mp,ep⟩:=cN.mp h;have:=HL.mp e p mp;simp[ep] at this
def nK (l:Ln):Prop:=l.2.length≤6/\∀ k∈l.2,dS (kD k)=ae
def Ek:aP->Option aE
 |.inr z=>aa z
 |.inl _=>ab
def rN (ks:List aP):List aE:=ks.filterMap Ek
def bR (ls:List (aE×List aP)):List aE:=gP (ls.flatMap fun l=>rN l.2)
def kt (z:aE):aA×aA:=(.str z,.bool ae)
theorem Ha (ai:List aE)(z:aE):((ai.map kt).any fun kd=>decide (dI kd.1=aa (.inr z)))=decide (z∈ai):=by
 induction ai with
 |nil=>rfl
 |cons y r ih=>
  rw[eF,CC,ih];have:dI (kt y).1=aa (.inr y):=rfl;rw[this];by_cases h:z=y
  ·subst h;simp
  ·have h':¬ y=z:=fun e=>h e.symm
   simp[h,h']
theorem Tg (ai:List aE)(z:aE):putD (ai.map kt) (.inr z) (.bool ae)=(fF ai z).map kt:=by
 unfold putD fF;rw[Ha];by_cases h:z∈ai
 ·rw[if_pos (by simpa using h),if_pos h,gY]
  refine HD fun y _=>?_
  show(if dI (kt y).1=aa (.inr z) then((kt y).1,qE ae) else kt y)=kt y
  split<;>rfl
 ·rw[if_neg (by simpa using h),if_neg h,jC]
  rfl
def gN (ai:List aE)(k:aP):List aE:=match k with
 |.inr z=>fF ai z
 |.inl _=>ai
theorem AW:∀ (ks:List aP) (ai:List aE),ks.foldl gN ai=(rN ks).foldl fF ai
 |[],_=>rfl
 |.inl i::ks,ai=>AW ks ai
 |.inr z::ks,ai=>AW ks (fF ai z)
theorem IS (ai:List aE)(k:aP):(gN ai k).length≤ai.length+1:=by
 cases k with
 |inl i=>exact GZ _
 |inr z=>exact ER ai z
theorem Kb {ai:List aE}{k:aP}(h:∀ z∈ai,dS (.str z)=ae)(hk:dS (kD k)=ae):∀ z∈gN ai k,dS (.str z)=ae:=by
 cases k with
 |inl i=>exact h
 |inr z=>exact fun y m=>(Awe.mp m).elim (h y) fun e=>e ▸ hk
theorem XC {ls:List (aE×List aP)}(h:∀ l∈ls,nK l)(hn:ls.length≤100):sD [.tuple (ls.map aX)]=aa (.list ((bR ls).map bD)):=by
 have:∃ d,sD [.tuple (ls.map aX)]=aa d/\d=.list ((bR ls).map bD):=by
  rw[26];refine iV (n:=1) (d:=.dict []) rfl (by simp) ?_
  refine gJ (fun ρ'=>∃ x2 x3:L2.Slot,(∀ z∈bR ls,dS (.str z)=ae)/\ρ'=[s0 (.tuple (ls.map aX)),aa (1,.dict ((bR ls).map kt)),x2,x3]) ?_ ?_
  ·refine lR (xs:=ls) (q:=aX) (b0:=[]) (fun ai l=>l.2.foldl gN ai) (fun i ai ρ'=>∃ x2 x3:L2.Slot,ai.length≤6*i/\(∀ z∈ai,dS (.str z)=ae)/\ρ'=[s0 (.tuple (ls.map aX)),aa (1,.dict (ai.map kt)),x2,x3]) (ix (qT rfl)) ⟨ab,ab,bZ _,fun _ m=>by simp at m,rfl⟩ ?_ ?_
   ·rintro i l ai _ hx ⟨x2,x3,ha,hy,rfl⟩;have hl:=h l (gL hx);have hi:i<ls.length:=(dD.mp hx).1;refine⟨[s0 (.tuple (ls.map aX)),aa (1,.dict (ai.map kt)),s0 (aX l),x3],rfl,?_⟩;refine lR (xs:=l.2) (q:=kD) (b0:=ai) gN (fun j al ρ'=>∃ x3:L2.Slot,al.length≤6*i+j/\(∀ z∈al,dS (.str z)=ae)/\ρ'=[s0 (.tuple (ls.map aX)),aa (1,.dict (al.map kt)),s0 (aX l),x3]) (ix (qT (by simp[vS,ah,aB,eC,aX,a5,gq,jt]))) ⟨x3,ha,hy,rfl⟩ ?_ ?_
    ·rintro j k al _ hk ⟨x3,nu,oa,rfl⟩;have hj:j<l.2.length:=(dD.mp hk).1;have h6:=hl.1;refine⟨[s0 (.tuple (ls.map aX)),aa (1,.dict (al.map kt)),s0 (aX l),s0 (kD k)],rfl,?_⟩;have g1:=IS al k;have g2:=Kb oa (hl.2 k (gL hk));cases k with
     |inl v=>exact lB (by simp[bV,vS,b7,aB,ao,c7,dG,fC,gb,kD]) (lQ ⟨_,.inl rfl,_,by omega,g2,rfl⟩)
     |inr z=>
      refine lN (by simp[bV,vS,b7,aB,ao,c7,dG,fC,gb,kD]) (JK (d:=.bool ae) (kd:=.str z) (key:=.inr z) (kds:=al.map kt) rfl rfl rfl rfl (by simp;omega) ⟨_,.inl rfl,s0 (.str z),by omega,g2,?_⟩)
      rw[Tg]
      rfl
    ·rintro _ ⟨x3,nu,oa,rfl⟩;have h6:=hl.1;exact⟨_,.inl rfl,_,_,by omega,oa,rfl⟩
   ·rintro _ ⟨x2,x3,ha,hy,rfl⟩;have e:ls.foldl (fun ai l=>l.2.foldl gN ai) []=bR ls:=by
     unfold bR gP;rw[Cs]
     congr 1
     funext ai l;exact AW l.2 ai
    rw[e] at hy ⊢;exact⟨_,rfl,x2,x3,hy,rfl⟩
  rintro _ ⟨x2,x3,hy,rfl⟩;refine oR (kA (d:=.list ((bR ls).map bD)) (bU (ds:=[.dict ((bR ls).map kt)]) rfl ?_) ⟨_,rfl,rfl⟩);have hp:gw ((bR ls).map kt)=ae:=DH fun kd m=>by
   obtain⟨z,_,rfl⟩:=cN.mp m;exact fun q=>nomatch q
  show(if (gw ((bR ls).map kt)&&((bR ls).map kt).all (fun kd=>dS kd.1))=ae then aa (kN (((bR ls).map kt).map (·.1))) else ab)=_
  rw[hp,Dl,if_pos (gQ.mpr fun kd m=>by
   obtain⟨z,mz,rfl⟩:=cN.mp m;exact hy z mz),gY]
  rfl
 rw[10]
theorem Kf (y z:aE):bQ (.str y) (.str z)=decide (y=z):=by
 rw[show bQ (.str y) (.str z)=(y==z) by simp[bQ],pK]
 simp
theorem Mh (zs:List aE)(z:aE):((zs.map bD).any fun d=>bQ d (.str z))=decide (z∈zs):=by
 rw[List.any_map,pK];simp[Kf]
theorem Qd (zs:List aE):noDicts (zs.map bD)=ae:=uA fun t m=>by
 obtain⟨z,_,rfl⟩:=cN.mp m
 rfl
theorem QT (neg:Bool)(zs:List aE)(z:aE):l4 neg (.str z) (.list (zs.map bD))=aa (.bool (neg != decide (z∈zs))):=by
 show(if (cM (.str z)&&noDicts (zs.map bD))=ae then aa (qE (neg != (zs.map bD).any fun d=>bQ d (.str z))) else ab)=_
 rw[Qd,Mh,show cM (.str z)=ae from rfl,yH,if_pos rfl]
theorem Lb (T:aA)(ks:List aP)(row:List Int)(kn:List (aE×Int))(hk:ks.length≤100)(hn:kn.length≤100):vW [.tuple [T,tK ks],tI row,.dict (DN kn)]=aa (yP (kJ ks row kn)):=by
 have:∃ d,vW [.tuple [T,tK ks],tI row,.dict (DN kn)]=aa d/\d=yP (kJ ks row kn):=by
  rw[26];have e1:bV .s (ao (ah dg (aN cI (aG (aB 1) aK)) (aN cI (aG (ah a5 (aB 0) (eC (.int 1))) aK)))) [aa (0,.tuple [T,tK ks]),aa (0,tI row),aa (0,.dict (DN kn)),ab,ab,ab,ab]=aa (decide (row.length≠ks.length)):=gH (Jy (ks:=ks) (row:=row) rfl rfl);by_cases hl:row.length=ks.length
  ·refine eG (vO (e1.trans (by simp[hl]))) ?_
   refine iV (n:=1) (d:=.dict (DN kn)) (bU (ds:=[.dict (DN kn)]) rfl (by show(if gw (DN kn)=ae then aa (NT (DN kn)) else ab)=_;rw[O6];rfl)) (by simp) ?_
   have lz:(ks.zip row).length≤100:=by rw[HF];omega
   refine Tc (fun d7 ρ'=>∃ x4 x5 x6:L2.Slot,ρ'=[aa (0,.tuple [T,tK ks]),aa (0,tI row),aa (0,.dict (DN kn)),aa (1,.dict (DN d7)),x4,x5,x6]) .none (jX lU kn (ks.zip row)) (Ma (xs:=ks.zip row) (q:=QP) (b0:=kn) lU _ .none (ix ?_) ⟨ab,ab,ab,rfl⟩ ?_) ?_ ?_
   ·show iZ (aG (ah a5 (aB 0) (eC (.int 1))) (aG (aB 1) aK)) (vS [aa (0,.tuple [T,tK ks]),aa (0,tI row),aa (0,.dict (DN kn)),aa (1,.dict (DN kn)),ab,ab,ab])=_;unfold iZ;rw[show aG (ah a5 (aB 0) (eC (.int 1))) (aG (aB 1) aK) (vS [aa (0,.tuple [T,tK ks]),aa (0,tI row),aa (0,.dict (DN kn)),aa (1,.dict (DN kn)),ab,ab,ab])=aa [tK ks,tI row] from rfl,← Uz]
    rfl
   ·rintro pre p post d7 _ n9 hf ⟨x4,x5,x6,rfl⟩;have lr:d7.length≤1000:=by
     have h1:=KL hf;have h2:pre.length≤(ks.zip row).length:=by rw[n9];simp
     omega
    exact⟨[aa (0,.tuple [T,tK ks]),aa (0,tI row),aa (0,.dict (DN kn)),aa (1,.dict (DN d7)),aa (0,kD p.1),aa (0,.int p.2),x6],rfl,Yz _ _ _ d7 lr p x6⟩
   ·intro hf;refine⟨_,rfl,?_⟩;unfold kJ;rw[if_pos hl,hf]
    rfl
   ·rintro d7 hf _ ⟨x4,x5,x6,rfl⟩;refine⟨_,rfl,_,rfl,?_⟩;unfold kJ;rw[if_pos hl,hf]
    rfl
  ·refine JE (lN (e1.trans (by simp[hl])) (kA (d:=.none) rfl ⟨_,rfl,_,rfl,?_⟩))
   unfold kJ;rw[if_neg hl]
   rfl
 rw[10]
theorem Yp(b:Bk kds B wd)(t:aE)(K:aA):oZ [.dict kds,.tuple [.str t,K]]=aa (bG (B t)):=by
 have:∃ d,oZ [.dict kds,.tuple [.str t,K]]=aa d/\d=bG (B t):=by
  refine jJ rfl (kA (d:=bG (B t)) (b.get (t:=t) rfl rfl) ⟨_,rfl,rfl⟩)
 rw[10]
theorem Xj(h:∀ l∈ls,nK l)(hn:ls.length≤100):pU [.list (ls.map aX)]=aa (.list ((bR ls).map bD)):=by
 have:∃ d,pU [.list (ls.map aX)]=aa d/\d=.list ((bR ls).map bD):=by
  rw[26];rw[14];refine gJ (fun ρ'=>∃ x2 x3:L2.Slot,ρ'=[s0 (.list (ls.map aX)),aa (1,.list ((bR ls).map bD)),x2,x3]) ?_ ?_
  ·refine lR (xs:=ls) (q:=aX) (b0:=[]) (fun ai l=>l.2.foldl gN ai) (fun i ai ρ'=>∃ x2 x3:L2.Slot,ai.length≤6*i/\ρ'=[s0 (.list (ls.map aX)),aa (1,.list (ai.map bD)),x2,x3]) (ix (lV rfl)) ⟨ab,ab,bZ _,rfl⟩ ?_ ?_
   ·rintro i l ai _ hx ⟨x2,x3,ha,rfl⟩;have hl:=h l (gL hx);have hi:i<ls.length:=(dD.mp hx).1;refine⟨[s0 (.list (ls.map aX)),aa (1,.list (ai.map bD)),s0 (aX l),x3],rfl,?_⟩;refine lR (xs:=l.2) (q:=kD) (b0:=ai) gN (fun j al ρ'=>∃ x3:L2.Slot,al.length≤6*i+j/\ρ'=[s0 (.list (ls.map aX)),aa (1,.list (al.map bD)),s0 (aX l),x3]) (ix (qT (by simp[bh,aY,bE,cQ,eU,bp,dR,gM,fM,fT,eK,frz,dC,eV,bV,aV,vS,vA,ah,b7,aB,eC,aN,fR,dE,aG,aK,ao,fH,eT,f7,c7,fZ,iz,gZ,fI,gR,iy,bw,getL,fQ,outD,bo,itemsOf,bL,fN,cW,bN,eE,gA,eu,b8,f9,i5,bz,i4,cI,dG,fC,gb,eZ,gC,fK,cq,dg,cM,noDict,noDicts,dQ,bX,bQ,dY,cT,dF,gB,aX,a5,gq,jt]))) ⟨x3,ha,rfl⟩ ?_ ?_
    ·rintro j k al _ hk ⟨x3,nu,rfl⟩;have hj:j<l.2.length:=(dD.mp hk).1;have h6:=hl.1;refine⟨[s0 (.list (ls.map aX)),aa (1,.list (al.map bD)),s0 (aX l),s0 (kD k)],rfl,?_⟩;have g1:=IS al k;have b1:ao (b7 (dG "str") (aB 3)) (vA [s0 (.list (ls.map aX)),aa (1,.list (al.map bD)),s0 (aX l),s0 (kD k)])=aa (uu k):=gH (rQ (a:=kD k) rfl ((wA k).trans (by cases k<;>rfl)))
     cases k with
     |inl v=>exact lB (rV (y:=ae) b1 fun e=>by cases e) (lQ ⟨_,.inl rfl,_,by omega,rfl⟩)
     |inr z=>
      have b2:ao (ah (l4 ae) (aB 3) (aB 1)) (vA [s0 (.list (ls.map aX)),aa (1,.list (al.map bD)),s0 (aX l),s0 (.str z)])=aa (ae != decide (z∈al)):=gH (bW rfl rfl (QT ae al z));have bb:=rV b1 fun _=>b2
      by_cases hz:z∈al
      ·refine lB (bb.trans (by simp[hz,uu])) (lQ ⟨_,.inl rfl,s0 (.str z),by omega,?_⟩)
       show _=[_,aa (1,kN ((fF al z).map bD)),_,_];unfold fF;rw[if_pos hz]
       rfl
      ·refine lN (bb.trans (by simp[hz,uu])) (mL (d:=.str z) (ds:=al.map bD) rfl rfl (by simp;omega) ⟨_,.inl rfl,s0 (.str z),by omega,?_⟩)
       show _=[_,aa (1,kN ((fF al z).map bD)),_,_];unfold fF;rw[if_neg hz,jC]
       rfl
    ·rintro _ ⟨x3,nu,rfl⟩;have h6:=hl.1;exact⟨_,.inl rfl,_,_,by omega,rfl⟩
   ·rintro _ ⟨x2,x3,ha,rfl⟩;have e:ls.foldl (fun ai l=>l.2.foldl gN ai) []=bR ls:=by
     unfold bR gP;rw[Cs]
     congr 1
     funext ai l;exact AW l.2 ai
    rw[e];exact⟨_,rfl,x2,x3,rfl⟩
  rintro _ ⟨x2,x3,rfl⟩;exact EH rfl ⟨_,rfl,rfl⟩
 rw[10]
abbrev Kn:=List (aE×Int)
def c8 (kn:Kn):aA:=.dict (DN kn)
def pV (bv:List Kn)(ks:List aP)(cw:List (List Int)):List Kn:=bv.flatMap fun kn=>cw.filterMap fun r=>kJ ks r kn
theorem JV(f:α->Option β):∀ (xs:List α) (ai:List β),xs.foldl (fun a x=>a++(f x).toList) ai=ai++xs.filterMap f
 |[],ai=>by simp
 |x::xs,ai=>by
  rw[oF,JV f xs,ON];cases f x<;>simp
theorem FB(f:α->List β):∀ (xs:List α) (ai:List β),xs.foldl (fun a x=>a++f x) ai=ai++xs.flatMap f
 |[],ai=>by simp
 |x::xs,ai=>by
  rw[oF,FB f xs,BX,mF]
theorem Qp (t:aE)(ks:List aP)(cw:List (List Int))(bv:List Kn)(hk:ks.length≤100)(hn:∀ kn∈bv,kn.length≤100)(hm:bv.length*cw.length≤90000) :
  wR [.list (bv.map c8),aX (t,ks),bG cw]=aa (.list ((pV bv ks cw).map c8)):=by
 have:∃ d,wR [.list (bv.map c8),aX (t,ks),bG cw]=aa d/\d=.list ((pV bv ks cw).map c8):=by
  rw[26];rw[14]
  let A:List L2.Slot:=[s0 (.list (bv.map c8)),s0 (aX (t,ks)),s0 (bG cw)]
  refine gJ (fun ρ'=>∃ x4 x5 x6:L2.Slot,ρ'=A++[aa (1,.list ((pV bv ks cw).map c8)),x4,x5,x6]) ?_ ?_
  ·refine lR (xs:=bv) (q:=c8) (b0:=[]) (fun ai kn=>ai++cw.filterMap fun r=>kJ ks r kn) (fun i ai ρ'=>∃ x4 x5 x6:L2.Slot,ai.length≤i*cw.length/\ρ'=A++[aa (1,.list (ai.map c8)),x4,x5,x6]) (ix (lV rfl)) ⟨ab,ab,ab,dU _,rfl⟩ ?_ ?_
   ·rintro i kn ai _ hx ⟨x4,x5,x6,ha,rfl⟩;have hi:i<bv.length:=(dD.mp hx).1;have w6:=hn kn (gL hx);have lr:(i+1)*cw.length≤90000:=jV (Nat.mul_le_mul_right _ hi) hm;have hs:(i+1)*cw.length=i*cw.length+cw.length:=Nat.succ_mul _ _;refine⟨A++[aa (1,.list (ai.map c8)),s0 (c8 kn),x5,x6],rfl,?_⟩;refine lR (xs:=cw) (q:=bI) (b0:=ai) (fun ai r=>ai++(kJ ks r kn).toList) (fun j al ρ'=>∃ x5 x6:L2.Slot,al.length≤ai.length+j/\ρ'=A++[aa (1,.list (al.map c8)),s0 (c8 kn),x5,x6]) (ix (lV rfl)) ⟨x5,x6,bZ _,rfl⟩ ?_ ?_
    ·rintro j r al _ hr ⟨x5,x6,nu,rfl⟩;have hj:j<cw.length:=(dD.mp hr).1;refine⟨A++[aa (1,.list (al.map c8)),s0 (c8 kn),s0 (bI r),x6],rfl,?_⟩;have hf:=Lb (.str t) ks r kn hk w6;refine iV (d:=yP (kJ ks r kn)) (bU (ds:=[.tuple [.str t,tK ks],tI r,.dict (DN kn)]) rfl hf) (by simp[A]) ?_
     cases U5:kJ ks r kn with
     |none=>exact lB (gH (bW (a:=yP ab) (b:=.none) rfl rfl rfl)) (lQ ⟨_,.inl rfl,_,_,by simpa using(by omega:al.length≤ai.length+(j+1)),by rw[Option.toList_none,rG];rfl⟩)
     |some d7=>
      refine lN (gH (bW (a:=yP (aa d7)) (b:=.none) rfl rfl rfl)) (mL (d:=c8 d7) (ds:=al.map c8) rfl rfl (by simp;omega) ⟨_,.inl rfl,_,_,by simp;omega,by rw[Option.toList_some,jC];rfl⟩)
    ·rintro _ ⟨x5,x6,nu,rfl⟩;refine⟨_,.inl rfl,_,_,_,?_,by rw[JV]⟩
     rw[JV] at nu;omega
   ·rintro _ ⟨x4,x5,x6,ha,rfl⟩;rw[FB];exact⟨_,rfl,_,_,_,rfl⟩
  rintro _ ⟨x4,x5,x6,rfl⟩;exact EH rfl ⟨_,rfl,rfl⟩
 rw[10]
def fX (B:aE->List (List Int)):List Ln->Nat
 |[]=>1
 |l::r=>max 1 (B l.1).length*fX B r
theorem QW (B:aE->List (List Int)):∀ ls,1≤fX B ls
 |[]=>bZ _
 |l::r=>by
  have h1:=QW B r;have h2:1≤max 1 (B l.1).length:=Nat.le_max_left _ _;exact Cd h2 h1
theorem JR (B:aE->List (List Int)):∀ xs ys,fX B (xs++ys)=fX B xs*fX B ys
 |[],ys=>by rw[BU];exact(Nat.one_mul _).symm
 |l::r,ys=>by
  show max 1 (B l.1).length*fX B (r++ys)=max 1 (B l.1).length*fX B r*fX B ys;rw[JR B r ys,BN]
theorem Uv (B:aE->List (List Int))(ls:List Ln)(i:Nat):fX B (ls.take i)≤fX B ls:=by
 have e:=JR B (ls.take i) (ls.drop i);rw[mY] at e;rw[e];exact Zm _ (QW B _)
theorem UG (B:aE->List (List Int)):∀ (ls:List Ln) (a:Int),ls.foldl (fun a l=>a*((max 1 (B l.1).length:Nat):Int)) a=a*(fX B ls:Int)
 |[],a=>by simp[fX]
 |l::r,a=>by
  rw[oF,UG B r];show _=a*((max 1 (B l.1).length*fX B r:Nat):Int);rw[Int.natCast_mul,Int.mul_assoc]
theorem vR (ds:List aA):cI [.list ds]=aa (.int ds.length):=by simp[cI]
theorem Pi(hB:∀ t,(B t).length<64)(ls:List Ln):tV [.list (ls.map fun l=>bG (B l.1))]=aa (.int (fX B ls)):=by
 have:∃ d,tV [.list (ls.map fun l=>bG (B l.1))]=aa d/\d=.int (fX B ls):=by
  rw[26];refine iV (d:=.int 1) rfl (by simp) ?_
  refine gJ (fun ρ'=>∃ x3:L2.Slot,ρ'=[s0 (.list (ls.map fun l=>bG (B l.1))),s0 (.int (fX B ls)),x3]) ?_ ?_
  ·refine lR (xs:=ls) (q:=fun l=>bG (B l.1)) (b0:=(1:Int)) (fun a l=>a*((max 1 (B l.1).length:Nat):Int)) (fun i a ρ'=>∃ x3:L2.Slot,ρ'=[s0 (.list (ls.map fun l=>bG (B l.1))),s0 (.int a),x3]) (ix (lV rfl)) ⟨ab,rfl⟩ ?_ ?_
   ·rintro i l a _ hx ⟨x3,rfl⟩;refine⟨[s0 (.list (ls.map fun l=>bG (B l.1))),s0 (.int a),s0 (bG (B l.1))],rfl,?_⟩
    have C7:=hB l.1;generalize hr:B l.1=R at C7 ⊢;have em:CP [.int 1,.int (R.map bI).length]=aa (.int ((max 1 R.length:Nat):Int)):=by
     show aa (aR (if ((R.map bI).length:Int) > 1 then((R.map bI).length:Int) else 1))=_
     rw[eY]
     congr 2
     split<;>omega
    have hf:(((max 1 R.length:Nat):Int)).natAbs<2^64:=by omega
    exact wC (d:=.int (a*((max 1 R.length:Nat):Int))) (bW (a:=.int a) (b:=.int ((max 1 R.length:Nat):Int)) rfl (bU (ds:=[.int 1,.int (R.map bI).length]) (cU rfl (cU (bU (ds:=[bG R]) rfl (vR _)) rfl)) em) (mul_r hf)) (by simp) ⟨_,.inl rfl,_,rfl⟩
   ·rintro _ ⟨x3,rfl⟩;rw[UG,Int.one_mul];exact⟨_,rfl,x3,rfl⟩
  rintro _ ⟨x3,rfl⟩;exact kA rfl ⟨_,rfl,rfl⟩
 rw[10]
theorem Az(b:Bk kds B wd)(ls:List Ln)(hl:ls.length≤1000)(e1:ρ[0]?.join=aa (.dict kds))(e2:ρ[1]?.join=aa (.tuple (ls.map aX))) :
  i8 [ab,aa 0] (bo (aB 1)) (gB 0) dF (aN oZ (aG (aB 1) (aG (aB 0) aK))) ρ=aa (.list (ls.map fun l=>bG (B l.1))):=by
 have e:=NA (cap:=[ab,aa 0]) (fi:=bo (aB 1)) (T:=gB 0) (t:=dF) (f:=aN oZ (aG (aB 1) (aG (aB 0) aK))) (ρ:=ρ) (ds:=ls.map aX) (fun d=>match d with|.tuple [.str t,_]=>bG (B t)|d=>d) (qT e2) (by rw[eY];omega) (fun d m=>by
  obtain⟨l,_,rfl⟩:=cN.mp m;refine⟨[aa (aX l),aa (.dict kds)],?_,rfl,bU (ds:=[.dict kds,aX l]) rfl (Yp b l.1 _)⟩;show aa ((kZ [ab,aa 0] ρ).set 0 (aa (aX l)))=_;simp[kZ,e1])
 rw[e,gY]
 rfl
theorem TU(hn:1≤n\/R.length<2)(hw:∀ r∈R,r.length=n)(hl:R.length≤4096):EE [bG R]=aa (bG (h9 R)):=by
 show((kW (R.map bI)).bind fun kss=>if jm kss=ae/\kss.length≤4096 then aa (kN ((iR kss).map iF)) else ab)=_
 rw[VG,dB];have ok:jm (R.map fun r=>r.map aR)=ae:=by
  unfold jm;rw[Bool.or_eq_true_iff];rcases hn with hn|hn
  ·refine .inr (kT.mpr ⟨gQ.mpr fun k mk=>gQ.mpr fun k' mk'=>?_,gQ.mpr fun k mk=>?_⟩)
   ·obtain⟨a,ma,rfl⟩:=cN.mp mk;obtain⟨b,mb,rfl⟩:=cN.mp mk';exact EW a b ((hw a ma).trans (hw b mb).symm)
   ·obtain⟨a,ma,rfl⟩:=cN.mp mk;have:=hw a ma;cases a with
    |nil=>simp at this;omega
    |cons x r=>rfl
  ·exact .inl (decide_eq_true (by rw[eY];exact hn))
 rw[if_pos ⟨ok,by rw[eY];exact hl⟩]
 unfold bG h9;rw[gY]
 congr 2
 refine HD fun k mk=>?_
 obtain⟨a,_,rfl⟩:=cN.mp ((uB _).mem_iff.mp mk);show _=iF (((a.map aR).map qi).map aR);rw[qU]
theorem VZ(b:Bk kds B wd)(ls:List Ln)(hl:ls.length≤1000)(hw:fX B ls≤4096):qW [.dict kds,.tuple (ls.map aX)]=aa .none:=by
 have e1:wX [.list (ls.map fun l=>bG (B l.1))]=aa .none:=by
  have c:bV .s (ao (ah bz (aN tV (aG (aB 0) aK)) (eC (.int 4096)))) [s0 (.list (ls.map fun l=>bG (B l.1)))]=aa af:=gH (bW (a:=.int (fX B ls)) (b:=.int 4096) (bU (ds:=[.list (ls.map fun l=>bG (B l.1))]) rfl (Pi b.few ls)) rfl (by
   show aa (qE (decide ((fX B ls:Int) > 4096)))=_;rw[decide_eq_false (by omega)]))
  show outD (ML [s0 (.list (ls.map fun l=>bG (B l.1)))])=_
  unfold ML;rw[vO c]
  rfl
 show outD (MR [s0 (.dict kds),s0 (.tuple (ls.map aX))])=_;have e2:eV 0 .s (aN wX (aG (i8 [ab,aa 0] (bo (aB 1)) (gB 0) dF (aN oZ (aG (aB 1) (aG (aB 0) aK)))) aK)) [s0 (.dict kds),s0 (.tuple (ls.map aX))]=aa .none:=
  bU (cU (Az b ls hl rfl rfl) rfl) e1
 unfold MR rP;rw[e2]
 rfl
def lZ (B:aE->List (List Int))(ls:List Ln):List Kn:=ls.foldl (fun bv l=>pV bv l.2 (B l.1)) [[]]
theorem Lh (bv:List Kn)(ks:List aP)(cw:List (List Int)):(pV bv ks cw).length≤bv.length*cw.length:=by
 unfold pV;induction bv with
 |nil=>simp
 |cons kn r ih=>
  rw[BX,mZ,iB,Nat.succ_mul];have:=Cq (fun r=>kJ ks r kn) cw
  omega
theorem Ts{kn d7:Kn}(h:kJ ks r kn=aa d7):d7.length≤kn.length+ks.length:=by
 unfold kJ at h;obtain⟨h1,h2⟩:=Bj h;have:=KL h2;rw[HF] at this;omega
theorem SO (f:Ln->aA)(g:Ln->aA):∀ ls:List Ln,xT pairD (ls.map f) (ls.map g)=ls.map fun l=>pairD (f l) (g l)
 |[]=>rfl
 |l::r=>by
  rw[eF,eF,List.zipWith_cons_cons,SO f g r,eF]
theorem UU(ls:List Ln)(hl:ls.length≤16)(h6:∀ l∈ls,l.2.length≤6)(hw:fX B ls≤4096) :
  wG [.tuple (ls.map aX),.list (ls.map fun l=>bG (B l.1))]=aa (.list ((lZ B ls).map c8))/\(lZ B ls).length≤fX B ls/\∀ kn∈lZ B ls,kn.length≤96:=by
 have:∃ d,wG [.tuple (ls.map aX),.list (ls.map fun l=>bG (B l.1))]=aa d/\d=.list ((lZ B ls).map c8)/\(lZ B ls).length≤fX B ls/\∀ kn∈lZ B ls,kn.length≤96:=by
  rw[26];refine iV (d:=.list ([[]].map c8)) (IP (ds:=[.dict []]) rfl) (by simp) ?_
  let A:List L2.Slot:=[s0 (.tuple (ls.map aX)),s0 (.list (ls.map fun l=>bG (B l.1)))]
  refine gJ (fun ρ'=>∃ x3 x4:L2.Slot,(lZ B ls).length≤fX B ls/\(∀ kn∈lZ B ls,kn.length≤96)/\ρ'=A++[s0 (.list ((lZ B ls).map c8)),x3,x4]) ?_ ?_
  ·refine lR (xs:=ls) (q:=fun l=>pairD (aX l) (bG (B l.1))) (b0:=[[]]) (fun bv l=>pV bv l.2 (B l.1)) (fun i bv ρ'=>∃ x3 x4:L2.Slot,bv.length≤fX B (ls.take i)/\(∀ kn∈bv,kn.length≤6*i)/\ρ'=A++[s0 (.list (bv.map c8)),x3,x4]) (ix ?_) ⟨ab,ab,bZ _,fun kn m=>by rw[eB.mp m];simp,rfl⟩ ?_ ?_
   ·rw[← SO];exact Gq rfl rfl rfl
   ·rintro i l bv _ hx ⟨x3,x4,hk,w6,rfl⟩;have hi:i<ls.length:=(dD.mp hx).1;have h6':=h6 l (gL hx);have ht:ls.take (i+1)=ls.take i++[l]:=by rw[xU,hx];rfl
    have M0:fX B (ls.take (i+1))=fX B (ls.take i)*max 1 (B l.1).length:=by
     rw[ht,JR];show _*(max 1 (B l.1).length*1)=_;rw[Nat.mul_one]
    have hm:bv.length*(B l.1).length≤fX B (ls.take (i+1)):=by
     rw[M0];exact Cd hk (Nat.le_max_right _ _)
    have lr:=Uv B ls (i+1);refine⟨A++[s0 (.list (bv.map c8)),s0 (aX l),s0 (bG (B l.1))],rfl,?_⟩;refine wC (d:=.list ((pV bv l.2 (B l.1)).map c8)) (bU (ds:=[.list (bv.map c8),aX (l.1,l.2),bG (B l.1)]) rfl (Qp l.1 l.2 (B l.1) bv (by omega) (fun kn m=>by have:=w6 kn m;omega) (by omega))) (by simp[A]) ⟨_,.inl rfl,_,_,jV (Lh _ _ _) hm,fun d7 m=>?_,rfl⟩
    obtain⟨kn,mk,m⟩:=BV.mp m;obtain⟨r,_,e⟩:=uV.mp m;have:=Ts e;have:=w6 kn mk;omega
   ·rintro _ ⟨x3,x4,h1,h2,rfl⟩;rw[Ci] at h1;exact⟨_,rfl,_,_,h1,fun kn m=>by have:=h2 kn m;omega,rfl⟩
  rintro _ ⟨x3,x4,h1,h2,rfl⟩;exact kA rfl ⟨_,rfl,rfl,h1,h2⟩
 obtain⟨d,e,rfl,h1,h2⟩:=this;exact⟨e,h1,h2⟩
def rowOf (zs:List aE)(kn:Kn):List Int:=zs.map fun z=>(dW kn z).getD 0
theorem Yi{kn:Kn}(hl:zs.length≤1000)(h:∀ z∈zs,∃ v,dW kn z=aa v):nR [.list (zs.map bD),c8 kn]=aa (bI (rowOf zs kn)):=by
 have:∃ d,nR [.list (zs.map bD),c8 kn]=aa d/\d=bI (rowOf zs kn):=by
  rw[26];have e:=NA (cap:=[ab,aa 1]) (fi:=bo (aB 0)) (T:=gB 0) (t:=dF) (f:=fI (aB 1) (aB 0) (aB 0)) (ρ:=vS [s0 (.list (zs.map bD)),s0 (c8 kn)]) (ds:=zs.map bD) (fun d=>match d with|.str z=>.int ((dW kn z).getD 0)|d=>d) (lV rfl) (by rw[eY];omega) (fun d m=>by
   obtain⟨z,mz,rfl⟩:=cN.mp m;obtain⟨v,hv⟩:=h z mz;refine⟨[aa (.str z),aa (c8 kn)],rfl,rfl,?_⟩;have:=JO (fd:=aB 1) (fk:=aB 0) (fx:=aB 0) (ρ:=[aa (.str z),aa (c8 kn)]) (kds:=DN kn) (kd:=.str z) (x:=.str z) (key:=.inr z) rfl rfl rfl rfl (O6 kn);rw[this,DY];show _=aa (aR ((dW kn z).getD 0));rw[hv]
   rfl)
  rw[gY] at e;have e':zs.map ((fun d=>match d with|.str z=>aR ((dW kn z).getD 0)|d=>d)∘bD)=(rowOf zs kn).map aR:=by
   unfold rowOf;rw[gY]
   rfl
  rw[e'] at e;exact kA (d:=bI (rowOf zs kn)) (bU (cU e rfl) rfl) ⟨_,rfl,rfl⟩
 rw[10]
theorem Rm{bv:List Kn}(h:∀ l∈ls,nK l)(hl:ls.length≤16)(hz:(bR ls).length≤1000)(hk:bv.length≤4096)(hn:∀ kn∈bv,∀ z∈bR ls,∃ v,dW kn z=aa v)(h2:1≤(bR ls).length\/bv.length<2) :
  xC [.tuple (ls.map aX),.list (bv.map c8)]=aa (bG (h9 (bv.map (rowOf (bR ls))))):=by
 have:∃ d,xC [.tuple (ls.map aX),.list (bv.map c8)]=aa d/\d=bG (h9 (bv.map (rowOf (bR ls)))):=by
  rw[26];refine iV (d:=.list ((bR ls).map bD)) (bU (ds:=[.tuple (ls.map aX)]) rfl (XC h (by omega))) (by simp) ?_
  have e:=DK (cap:=[ab,aa 2]) (fi:=bo (aB 1)) (T:=gB 0) (t:=dF) (f:=aN nR (aG (aB 1) (aG (aB 0) aK))) (ρ:=vS [s0 (.tuple (ls.map aX)),s0 (.list (bv.map c8)),s0 (.list ((bR ls).map bD))]) (xs:=bv) (q:=c8) (fun _=>ae) (fun kn=>bI (rowOf (bR ls) kn)) (lV rfl) (by omega) (fun kn m=>by
   refine⟨[aa (c8 kn),aa (.list ((bR ls).map bD))],rfl,rfl,fun _=>?_⟩
   exact bU (ds:=[.list ((bR ls).map bD),c8 kn]) rfl (Yi hz (hn kn m)))
  rw[OM.mpr fun _ _=>rfl] at e
  have e':bv.map (fun kn=>bI (rowOf (bR ls) kn))=(bv.map (rowOf (bR ls))).map bI:=by rw[gY];rfl
  rw[e'] at e;refine kA (d:=bG (h9 (bv.map (rowOf (bR ls))))) (bU (cU e rfl) (TU (n:=(bR ls).length) (by rw[eY];exact h2) (fun r m=>?_) (by rw[eY];exact hk))) ⟨_,rfl,rfl⟩
  obtain⟨kn,_,rfl⟩:=cN.mp m;simp[rowOf]
 rw[10]
def Sat (B:aE->List (List Int))(ls:List Ln)(kn:Kn):Prop:=∀ l∈ls,∃ r∈B l.1,r.length=l.2.length/\∀ p∈l.2.zip r,(∀ i,p.1=.inl i->p.2=i)/\∀ z,p.1=.inr z->dW kn z=aa p.2
def xh (ls:List Ln)(z:aE):Prop:=∃ l∈ls,(.inr z:aP)∈l.2
def Df (ls:List Ln)(a b:Kn):Prop:=∃ z,xh ls z/\dW a z≠dW b z
theorem Sat.look{kn:Kn}(h:Sat B ls kn)(hz:xh ls z):∃ v,dW kn z=aa v:=by
 obtain⟨l,ml,mz⟩:=hz;obtain⟨r,_,hr,hp⟩:=h l ml;obtain⟨j,hj,ej⟩:=Cr mz;have sj:j<(l.2.zip r).length:=by rw[HF];omega
 have:=(hp (l.2.zip r)[j] (qG sj)).2 z (by rw[List.getElem_zip];exact ej)
 exact⟨_,this⟩
theorem Sat.up{kn d7:Kn}(h:Sat B ls kn)(k:∀ z u,dW kn z=aa u->dW d7 z=aa u):Sat B ls d7:=fun l ml=>by
 obtain⟨r,mr,hr,hp⟩:=h l ml;exact⟨r,mr,hr,fun p mp=>⟨(hp p mp).1,fun z e=>k z _ ((hp p mp).2 z e)⟩⟩
theorem zX{kn d7:Kn}(h:kJ ks r kn=aa d7):r.length=ks.length/\(∀ z u,dW kn z=aa u->dW d7 z=aa u)/\∀ p∈ks.zip r,(∀ i,p.1=.inl i->p.2=i)/\∀ z,p.1=.inr z->dW d7 z=aa p.2:=by
 unfold kJ at h;obtain⟨h1,h2⟩:=Bj h;obtain⟨a,b,_⟩:=LB h2;exact⟨h1,a,b⟩
theorem Ko{r':List Int}{kn x y:Kn}(hx:kJ ks r kn=aa x)(hy:kJ ks r' kn=aa y)(h:∀ z,(.inr z:aP)∈ks->dW x z=dW y z):r=r':=by
 obtain⟨l1,_,p1⟩:=zX hx;obtain⟨l2,_,p2⟩:=zX hy;refine Cv (l1.trans l2.symm) fun j h1 h2=>?_
 have hk:j<ks.length:=by omega
 have z1:j<(ks.zip r).length:=by rw[HF];omega
 have z2:j<(ks.zip r').length:=by rw[HF];omega
 have a:=p1 (ks.zip r)[j] (qG z1);have b:=p2 (ks.zip r')[j] (qG z2);rw[List.getElem_zip] at a b;cases zp:ks[j] with
 |inl i=>exact(a.1 i zp).trans (b.1 i zp).symm
 |inr z=>
  have e1:=a.2 z zp;have e2:=b.2 z zp;rw[h z (zp ▸ qG hk)] at e1;exact iH (e1.symm.trans e2)
theorem TJ(hB:∀ t,(B t).Nodup):∀ (rest p8:List Ln) (bv:List Kn),(∀ kn∈bv,Sat B p8 kn)->bv.Pairwise (Df p8) ->
  (∀ kn∈rest.foldl (fun bv l=>pV bv l.2 (B l.1)) bv,Sat B (p8++rest) kn)/\(rest.foldl (fun bv l=>pV bv l.2 (B l.1)) bv).Pairwise (Df (p8++rest))
 |[],p8,bv,h1,h2=>by rw[rG];exact⟨h1,h2⟩
 |l::rest,p8,bv,h1,h2=>by
  have e:p8++l::rest=(p8++[l])++rest:=by simp
  rw[e,oF];have mono:∀ z,xh p8 z->xh (p8++[l]) z:=fun z ⟨l',m,q⟩=>⟨l',kR.mpr (.inl m),q⟩
  refine TJ hB rest (p8++[l]) _ (fun kn m=>?_) ?_
  ·obtain⟨k0,mk,m⟩:=BV.mp m;obtain⟨r,mr,ef⟩:=uV.mp m;obtain⟨a,b,c⟩:=zX ef;intro l' m';rcases kR.mp m' with m'|m'
   ·exact(h1 k0 mk).up b l' m'
   ·rw[eB.mp m'];exact⟨r,mr,a,c⟩
  ·refine List.pairwise_flatMap.mpr ⟨fun k0 mk=>?_,?_⟩
   ·refine Zn.mpr ((hB l.1).imp fun {r r'} cf x hx y hy=>?_)
    refine yF fun hn=>cf (Ko hx hy fun z mz=>yF fun hz=>hn ⟨z,⟨l,kR.mpr (.inr (eB.mpr rfl)),mz⟩,hz⟩)
   ·refine(List.Pairwise.and_mem.mp h2).imp ?_;rintro a b ⟨ma,mb,z,hz,cf⟩ x hx y hy;obtain⟨r,_,ex⟩:=uV.mp hx;obtain⟨r',_,ey⟩:=uV.mp hy;obtain⟨u,hu⟩:=(h1 a ma).look hz;obtain⟨v,hv⟩:=(h1 b mb).look hz;refine⟨z,mono z hz,?_⟩;rw[(zX ex).2.1 z u hu,(zX ey).2.1 z v hv];rw[hu,hv] at cf;exact cf
theorem Uw(hB:∀ t,(B t).Nodup)(ls:List Ln):(∀ kn∈lZ B ls,Sat B ls kn)/\(lZ B ls).Pairwise (Df ls):=by
 have:=TJ hB ls [] [[]] (fun kn _ l m=>by simp at m) (by simp)
 rwa [BU] at this
theorem Awd:z∈rN ks↔(.inr z:aP)∈ks:=by
 unfold rN;rw[uV];constructor
 ·rintro⟨k,m,e⟩;cases k with
  |inl i=>cases e
  |inr y=>cases e;exact m
 ·exact fun m=>⟨_,m,rfl⟩
theorem Ap8:z∈bR ls↔xh ls z:=by
 unfold bR xh;rw[Aju,BV];exact⟨fun⟨l,m,h⟩=>⟨l,m,Awd.mp h⟩,fun⟨l,m,h⟩=>⟨l,m,Awd.mpr h⟩⟩
def nJ (B:aE->List (List Int))(ls:List Ln):List (List Int):=(lZ B ls).map (rowOf (bR ls))
theorem Ou(b:Bk kds B wd)(hB:∀ t,(B t).Nodup)(h:∀ l∈ls,nK l)(hl:ls.length≤16)(hw:fX B ls≤4096)(hz:(bR ls).length≤1000) :
  qV [.dict kds,.tuple (ls.map aX)]=aa (bG (h9 (nJ B ls))):=by
 obtain⟨h1,h2⟩:=Uw hB ls;obtain⟨e,l1,l2⟩:=UU (B:=B) ls hl (fun l m=>(h l m).1) hw
 have:∃ d,qV [.dict kds,.tuple (ls.map aX)]=aa d/\d=bG (h9 (nJ B ls)):=by
  rw[26];refine eG (ρ':=[s0 (.dict kds),s0 (.tuple (ls.map aX))]) ?_ ?_
  ·have e0:eV 0 .s (aN qW (aG (aB 0) (aG (aB 1) aK))) [s0 (.dict kds),s0 (.tuple (ls.map aX))]=aa .none:=bU (ds:=[.dict kds,.tuple (ls.map aX)]) rfl (VZ b ls (by omega) hw)
   unfold rP;show(eV 0 .s (aN qW (aG (aB 0) (aG (aB 1) aK))) [s0 (.dict kds),s0 (.tuple (ls.map aX))]).bind _=_;rw[e0]
   rfl
  refine kA (d:=bG (h9 (nJ B ls))) (bU (ds:=[.tuple (ls.map aX),.list ((lZ B ls).map c8)]) (cU rfl (cU (bU (ds:=[.tuple (ls.map aX),.list (ls.map fun l=>bG (B l.1))]) (cU rfl (cU (Az b ls (by omega) rfl rfl) rfl)) e) rfl)) (Rm h hl hz (by omega) (fun kn m z mz=>(h1 kn m).look (Ap8.mp mz)) ?_)) ⟨_,rfl,rfl⟩
  by_cases hn:1≤(bR ls).length
  ·exact .inl hn
  ·refine .inr (Nat.lt_of_not_le fun hc=>?_)
   have M1:1<(lZ B ls).length:=hc;obtain⟨z,zm,_⟩:=xW.mp h2 0 1 (by omega) M1 (by omega)
   have:=List.length_pos_of_mem (Ap8.mpr zm);omega
 rw[10]
theorem Gv(hw:∀ r∈R,r.length=n)(hn:R.Nodup):(h9 R).Pairwise fun a b=>cG (a.map aR)<cG (b.map aR):=by
 have nd:(h9 R).Nodup:=(ES R).nodup_iff.mpr hn;have h:=MD (R.map fun r=>r.map aR)
 have e:iR (R.map fun r=>r.map aR)=(h9 R).map fun r=>r.map aR:=by
  unfold h9;rw[gY];refine(List.map_id' _).symm.trans (HD fun k mk=>?_)
  obtain⟨a,_,rfl⟩:=cN.mp ((uB _).mem_iff.mp mk);show _=((a.map aR).map qi).map aR;rw[qU]
 rw[e] at h;have h:=uU.mp h;refine((List.Pairwise.and_mem.mp h).and nd).imp ?_;rintro a b ⟨⟨ma,mb,lr⟩,cf⟩;have h1:cG (a.map aR)≤cG (b.map aR):=Ahw.mp lr;refine yF fun hc=>cf ?_
 have h2:cG (b.map aR)≤cG (a.map aR):=hc;have e:=DV (EW a b ((hw a (Amg.mp ma)).trans (hw b (Amg.mp mb)).symm)) (List.le_antisymm h1 h2);have:=congrArg (BW qi) e
 rwa [qU,qU] at this
theorem YA:∀ zs:List aE,tJ (zs.map bD)=aa (zs.map iK)
 |[]=>rfl
 |z::zs=>by
  show((dI (.str z)).bind fun k=>(tJ (zs.map bD)).bind fun ks=>aa (k::ks))=_
  rw[YA zs]
  rfl
theorem EA (ai:List Int)(v:Int):kN (ai.map aR++[.int v])=lI (ai++[v]):=by
 rw[lI,jC]
 rfl
theorem SX(h:z∈zs):∃ j:Nat,zF (.list (zs.map bD)) (.str z)=aa (.int j)/\zs[j]?=aa z:=by
 obtain⟨j,e,hj⟩:∃ j,ur (zs.map iK) (.inr z)=aa j/\zs[j]?=aa z:=by
  unfold ur;cases e:(zs.map (iK:aE->aP)).findIdx? fun y=>decide (y=.inr z) with
  |some j=>
   obtain⟨h1,h2,_⟩:=Zs.mp e;refine⟨j,rfl,?_⟩;have A6:j<zs.length:=by simpa using h1
   have h2:=of_decide_eq_true h2;rw[List.getElem_map] at h2;injection h2 with h2;rw[eW A6,h2]
  |none=>
   have:=List.findIdx?_eq_none_iff.mp e (.inr z) (cN.mpr ⟨z,h,rfl⟩);simp at this
 refine⟨j,?_,hj⟩;show yQ (zs.map bD) (.str z)=_;unfold yQ;rw[YA,dB];show((ur (zs.map iK) (.inr z)).bind fun j=>aa (aR j))=_
 rw[e]
 rfl
def sI (kn:Kn):aP->Int
 |.inl i=>i
 |.inr z=>(dW kn z).getD 0
theorem Ol (c:Int){l:Ln}{ps:List Int}(hz:∀ z,(.inr z:aP)∈l.2->z∈zs)(qz:zs.length≤1000)(hp:ps.length=6)(h6:l.2.length≤6) :
  ∃ r:List Int,uE [.int c,aX l,.list (zs.map bD),.list (ps.map aR)]=aa (bI r)/\r.length=l.2.length:=by
 have:∃ d,uE [.int c,aX l,.list (zs.map bD),.list (ps.map aR)]=aa d/\∃ r:List Int,d=bI r/\r.length=l.2.length:=by
  rw[26];rw[14]
  let A:List L2.Slot:=[s0 (.int c),s0 (aX l),s0 (.list (zs.map bD)),s0 (.list (ps.map aR))]
  refine gJ (fun ρ'=>∃ (r:List Int) (x:L2.Slot),r.length=l.2.length/\ρ'=A++[aa (1,lI r),x]) ?_ ?_
  ·refine tO (ds:=l.2.map kD) (fun i ρ'=>∃ (r:List Int) (x:L2.Slot),r.length=i/\ρ'=A++[aa (1,lI r),x]) (ix (qT (by simp[bh,aY,bE,cQ,eU,bp,dR,gM,fM,fT,eK,frz,dC,eV,bV,aV,vS,vA,ah,b7,aB,eC,aN,fR,dE,aG,aK,ao,fH,eT,f7,c7,fZ,iz,gZ,fI,gR,iy,bw,getL,fQ,outD,bo,itemsOf,bL,fN,cW,bN,eE,gA,eu,b8,f9,i5,bz,i4,cI,dG,fC,gb,eZ,gC,fK,cq,dg,cM,noDict,noDicts,dQ,bX,bQ,dY,cT,dF,gB,aX,a5,gq,jt]))) ⟨[],ab,rfl,rfl⟩ ?_ ?_
   ·rintro i d _ hd ⟨r,x,hr,rfl⟩;rw[fW] at hd;obtain⟨k,hx,rfl⟩:=kO.mp hd;have hi:i<l.2.length:=(dD.mp hx).1;refine⟨A++[aa (1,lI r),s0 (kD k)],rfl,?_⟩;have b1:ao (b7 (dG "str") (aB 5)) (vS (A++[aa (1,lI r),s0 (kD k)]))=aa (uu k):=gH (rQ (a:=kD k) rfl ((wA k).trans (by cases k<;>rfl)))
    cases k with
    |inl v=>exact lB b1 (mL (d:=.int v) (ds:=r.map aR) rfl rfl (by simp;omega) ⟨_,.inl rfl,r++[v],_,by simp[hr],by rw[EA];rfl⟩)
    |inr z=>
     obtain⟨j,ej,hj⟩:=SX (hz z (gL hx));have sj:j<zs.length:=(dD.mp hj).1;have em:=jF c (34+(j:Int)) (by omega) (by omega)
     have bm:=gD (bY c (34+(j:Int))) (show(0:Int)<6 by decide)
     obtain⟨u,hu⟩:=kS bm.1;have M4:u<ps.length:=by omega
     refine lN b1 (mL (d:=.int ps[u]) (ds:=r.map aR) (bW (a:=.list (ps.map aR)) (b:=.int u) rfl (bW (a:=.int (bY c (34+(j:Int)))) (b:=.int 6) (bU (ds:=[.int c,.int (34+(j:Int))]) (cU rfl (cU (bW (a:=.int 34) (b:=.int j) rfl (bW (a:=.list (zs.map bD)) (b:=.str z) rfl rfl ej) rfl) rfl)) em) rfl (by rw[← hu];rfl)) (wF (eW M4))) rfl (by simp;omega) ⟨_,.inl rfl,r++[ps[u]],_,by simp[hr],by rw[EA];rfl⟩)
   ·rintro _ ⟨r,x,hr,rfl⟩;exact⟨_,rfl,r,x,by simpa using hr,rfl⟩
  rintro _ ⟨r,x,hr,rfl⟩;exact oR (kA (d:=bI r) (bU (ds:=[lI r]) rfl rfl) ⟨_,rfl,r,rfl,hr⟩)
 obtain⟨d,e,r,rfl,h⟩:=this;exact⟨r,e,h⟩
theorem RN {A:List Tb}{t:aE}(h:t∉A.map (·.1))(R:List (List Int)):putD (bq A) (.inr t) (bG R)=bq (A++[(t,R)]):=by
 unfold putD;have hn:¬ ((bq A).any fun kd=>decide (dI kd.1=aa (.inr t)))=ae:=fun q=>by
  obtain⟨kd,m,e⟩:=HN.mp q;obtain⟨p,mp,rfl⟩:=cN.mp m;have e:=of_decide_eq_true e;have e:aa (iK p.1:aP)=aa (iK t):=e;injection e with e;injection e with e;exact h (cN.mpr ⟨p,mp,e⟩)
 rw[if_neg hn];unfold bq;rw[jC]
 rfl
def Aia (w most:Nat)(R:List (List Int)):Prop:=R.Nodup/\R.length≤most/\∀ r∈R,r.length=w
theorem Aia.add(h:Aia w most R)(hl:R.length<most)(hr:r∉R)(hw:r.length=w):Aia w most (R++[r]):=by
 refine⟨?_,by simp;omega,fun x m=>?_⟩
 ·refine BS.mpr ⟨h.1,by simp,fun a ma b mb e=>?_⟩
  rw[eB.mp mb] at e;exact hr (e ▸ ma)
 ·rcases kR.mp m with m|m
  ·exact h.2.2 x m
  ·rw[eB.mp m];exact hw
theorem Aia.put(h:Aia w most R)(hr:r∉R)(hw:r.length=w)(j:Nat):Aia w most ((R.take j++[r]++R.drop j).take most):=by
 have hp:(R.take j++[r]++R.drop j).Perm (r::R):=by
  rw[mF];refine(List.perm_middle (a:=r) (l₁:=R.take j) (l₂:=R.drop j)).trans ?_;rw[mY]
 refine⟨(hp.nodup_iff.mpr (mE.mpr ⟨hr,h.1⟩)).sublist (OC _ _),by rw[pI];omega,fun x m=>?_⟩
 rcases eD.mp (hp.mem_iff.mp (OE m)) with e|m
 ·rw[e];exact hw
 ·exact h.2.2 x m
theorem QB (kds:List (aA×aA))(h:gw kds=ae):cI [.dict kds]=aa (.int kds.length):=by simp[cI,h]
theorem Uu(h:k≤ds.length):cutD ds (aa (k:Int)) ab=ds.drop k:=by
 unfold cutD;rw[HT.Apu,HT.Aty,xR h];exact uT (by simp)
theorem Ub:cutD ds ab (aa (k:Int))=ds.take k:=by
 unfold cutD;rw[HT.Apu,HT.Aty,HM,Nat.sub_zero];rcases Nat.le_total k ds.length with h|h
 ·rw[xR h]
 ·rw[Nat.min_eq_right h,uT (bZ _),uT h]
section
variable {st:Nat}{ps:List Int}
abbrev ji (ns:List Int)(st most:Nat)(ts:List (aE×Nat))(ls:List Ln)(zs:List aE)(ps:List Int):List L2.Slot:=[s0 (.list (ns.map aR)),s0 (.int st),s0 (.list (ts.map fG)),s0 (.list (ls.map aX)),s0 (.list (zs.map bD)),s0 (.list (ps.map aR)),s0 (.int most)]
theorem Wa (hs:st≤1000)(hm:most≤63)(hp:ps.length=6){L:List Tb}(hL:L.length≤100){t:aE}(hw:w≤6)(br x12 nw h8 jz:L2.Slot) :
  Goes (eP .a (jl (aG (ah bN (aN dJ (aG (aN gE (aG (aB 0) (aG (ah bL (aB 1) (aN cI (aG (aB 7) aK))) aK))) (aG (eC (.int 32)) aK))) (ah bL (aB 6) (eC (.int 1)))) aK)) (bw 11) (aY (bE 12 0 .a (ah bL (aN gE (aG (aB 0) (aG (ah bL (ah bL (ah bL (aB 1) (eC (.int 3))) (ah cW (eC (.int 5)) (aN cI (aG (aB 7) aK)))) (aB 11)) aK))) (aB 11)))
 (aY (bE 13 0 .s (aN eZ (aG (i8 [ab,aa 5,aa 12] (jl (aG (aB 9) aK)) (gB 0) dF (ah a5 (aB 1) (ah bN (aN dJ (aG (aB 2) (aG (ah bL (eC (.int 40)) (aB 0)) aK))) (eC (.int 3))))) aK)))
 (bp .a (ao (ah (l4 ae) (aB 13) (aB 10))) (dR 10 .s (aB 13)) dC))))
   (ji ns st most ts ls zs ps++[aa (1,.dict (bq L)),s0 (.str t),s0 (.int w),aa (1,.list []),br,x12,nw,h8,jz])
   (fun o=>∃ ρ',o=.nx ρ'/\∃ (R:List (List Int)) (q0 lw k6:L2.Slot),Aia w most R/\ρ'=ji ns st most ts ls zs ps++[aa (1,.dict (bq L)),s0 (.str t),s0 (.int w),aa (1,bG R),q0,lw,k6,h8,jz]):=by
 have ld:(bq L).length=L.length:=by simp[bq]
 obtain⟨c,ec⟩:=nM (ns:=ns) (k:=(st:Int)+(L.length:Int)) (by omega) (by omega)
 have bm:=gD (bY c 32) (show(0:Int)<(most:Int)+1 by omega)
 obtain⟨n,hn⟩:=kS bm.1;have hnm:n≤most:=by omega
 refine tU (n:=n) (fun i ρ'=>∃ (R:List (List Int)) (q0 lw k6:L2.Slot),(Aia w most R/\R.length≤i)/\ρ'=ji ns st most ts ls zs ps++[aa (1,.dict (bq L)),s0 (.str t),s0 (.int w),aa (1,bG R),q0,lw,k6,h8,jz]) (V1 (oV (cU ?_ rfl) (by omega))) ⟨[],br,x12,nw,⟨⟨by simp,by simp,fun _ m=>by simp at m⟩,bZ _⟩,rfl⟩ ?_ ?_
 ·refine bW (a:=.int (bY c 32)) (b:=.int ((most:Int)+1)) (bU (ds:=[.int c,.int 32]) (cU (bU (ds:=[.list (ns.map aR),.int ((st:Int)+(L.length:Int))]) (cU rfl (cU (bW (a:=.int st) (b:=.int (bq L).length) rfl (bU (ds:=[.dict (bq L)]) rfl (QB _ (CT L))) (by rw[ld];rfl)) rfl)) ec) rfl) (jF c 32 (by decide) (by decide))) (bW (a:=.int most) (b:=.int 1) rfl rfl rfl) ?_
  show(if 0<(most:Int)+1 then aa (aR (bY c 32%((most:Int)+1))) else ab)=_
  rw[if_pos (by omega),hn]
 ·rintro i _ hi ⟨R,q0,lw,k6,⟨hR,hRi⟩,rfl⟩;refine⟨ji ns st most ts ls zs ps++[aa (1,.dict (bq L)),s0 (.str t),s0 (.int w),aa (1,bG R),s0 (.int i),lw,k6,h8,jz],rfl,?_⟩;obtain⟨c2,zo⟩:=nM (ns:=ns) (k:=(st:Int)+3+5*(L.length:Int)+(i:Int)) (by omega) (by omega)
  have e2:ah bL (aN gE (aG (aB 0) (aG (ah bL (ah bL (ah bL (aB 1) (eC (.int 3))) (ah cW (eC (.int 5)) (aN cI (aG (aB 7) aK)))) (aB 11)) aK))) (aB 11) (vA (ji ns st most ts ls zs ps++[aa (1,.dict (bq L)),s0 (.str t),s0 (.int w),aa (1,bG R),s0 (.int i),lw,k6,h8,jz]))=aa (.int (c2+i)):=
   bW (a:=.int c2) (b:=.int i) (bU (ds:=[.list (ns.map aR),.int ((st:Int)+3+5*(L.length:Int)+(i:Int))]) (cU rfl (cU (bW (a:=.int ((st:Int)+3+5*(L.length:Int))) (b:=.int i) (bW (a:=.int ((st:Int)+3)) (b:=.int (5*(L.length:Int))) (bW (a:=.int st) (b:=.int 3) rfl rfl rfl) (bW (a:=.int 5) (b:=.int (L.length:Int)) rfl (bU (ds:=[.dict (bq L)]) rfl ((QB _ (CT L)).trans (by rw[ld]))) (QF (by decide))) rfl) rfl rfl) rfl)) zo) rfl rfl
  refine Ai e2 rfl (by simp) ?_
  obtain⟨r,er,hrl,_⟩:=JC (cap:=[ab,aa 5,aa 12]) (fi:=jl (aG (aB 9) aK)) (T:=gB 0) (t:=dF) (f:=ah a5 (aB 1) (ah bN (aN dJ (aG (aB 2) (aG (ah bL (eC (.int 40)) (aB 0)) aK))) (eC (.int 3))))
   (ρ:=vS (ji ns st most ts ls zs ps++[aa (1,.dict (bq L)),s0 (.str t),s0 (.int w),aa (1,bG R),s0 (.int i),s0 (.int (c2+i)),k6,h8,jz])) (n:=w) aR (fun _=>True) (oV rfl (by omega)) (by omega) (fun k hk=>by
    have em:=jF (c2+i) (40+(k:Int)) (by omega) (by omega)
    have b3:=gD (bY (c2+i) (40+(k:Int))) (show(0:Int)<3 by decide)
    obtain⟨u,hu⟩:=kS b3.1;have M4:u<ps.length:=by omega
    refine⟨[aa (.int k),aa (.list (ps.map aR)),aa (.int (c2+i))],ps[u],rfl,rfl,?_,trivial⟩;exact bW (a:=.list (ps.map aR)) (b:=.int u) rfl (bW (a:=.int (bY (c2+i) (40+(k:Int)))) (b:=.int 3) (bU (ds:=[.int (c2+i),.int (40+(k:Int))]) rfl em) rfl (by rw[← hu];rfl)) (wF (eW M4)))
  refine iV (d:=bI r) (bU (cU er rfl) rfl) (by simp) ?_
  have b1:ao (ah (l4 ae) (aB 13) (aB 10)) (vA (ji ns st most ts ls zs ps++[aa (1,.dict (bq L)),s0 (.str t),s0 (.int w),aa (1,bG R),s0 (.int i),s0 (.int (c2+i)),s0 (bI r),h8,jz]))=aa (ae != decide (r∈R)):=gH (bW (a:=bI r) (b:=bG R) rfl rfl (RG ae r R));by_cases hr:r∈R
  ·exact lB (b1.trans (by simp[hr])) (lQ ⟨_,.inl rfl,R,_,_,_,⟨hR,by omega⟩,rfl⟩)
  ·refine lN (b1.trans (by simp[hr])) (mL (d:=bI r) (ds:=R.map bI) rfl rfl (by simp;omega) ⟨_,.inl rfl,R++[r],s0 (.int i),s0 (.int (c2+i)),s0 (bI r),⟨hR.add (by omega) hr hrl,by simp;omega⟩,?_⟩)
   rw[show kN (R.map bI++[bI r])=bG (R++[r]) by rw[bG,jC];rfl]
   rfl
 ·rintro _ ⟨R,q0,lw,k6,⟨hR,_⟩,rfl⟩;exact⟨_,rfl,R,_,_,_,hR,rfl⟩
end
section
variable {st:Nat}{ps:List Int}
theorem XO {ts:List (aE×Nat)}(h:(ts.map (·.1)).Nodup){a b:Nat}(ha:(z,a)∈ts)(hb:(z,b)∈ts):a=b:=by
 induction ts with
 |nil=>simp at ha
 |cons t r ih=>
  rw[eF,mE] at h;rcases eD.mp ha with e|ma
  ·rcases eD.mp hb with e'|mb
   ·rw[← e] at e';exact(Prod.mk.inj e').2.symm
   ·exact absurd (cN.mpr ⟨_,mb,by rw[← e]⟩) h.1
  ·rcases eD.mp hb with e'|mb
   ·exact absurd (cN.mpr ⟨_,ma,by rw[← e']⟩) h.1
   ·exact ih h.2 ma mb
theorem IF {xs ys:List aA}(h:xs.length+ys.length≤100000):oM (.list xs) (.list ys)=aa (.list (xs++ys)):=by
 show(if xs.length+ys.length≤sizeLine then aa (kN (xs++ys)) else ab)=_
 rw[if_pos (nQ h)]
theorem half:eE (.int k) (.int 2)=aa (.int ((k/2:Nat):Int)):=by
 show(if (0:Int)<2/\(2:Int)<1073741824 then aa (aR ((k:Int)/2)) else ab)=_
 rw[if_pos (by decide)]
 rfl
theorem Wi (hs:st≤1000)(hm:most≤63)(hp:ps.length=6)(gj:(ts.map (·.1)).Nodup)(uo:∀ l∈ls,o7 ts zs l/\l.2.length≤6)(qz:zs.length≤1000)(hl:ls.length≤16){BK:L2.Slot}{t:aE}(ht:(t,w)∈ts){R0:List (List Int)}(h0:Aia w most R0)(br x12 nw h8 jz:L2.Slot) :
  Goes (eP .s (jl (aG (ah cW (eC (.int 2)) (aN cI (aG (aB 3) aK))) aK)) (bw 14) (aY (bE 12 0 .s (aN gE (aG (aB 0) (aG (ah bL (ah bL (aB 1) (eC (.int 1))) (ah bN (aB 14) (eC (.int 2)))) aK))))
 (aY (bE 13 0 .s (aN uE (aG (aB 12) (aG (ah a5 (aB 3) (ah eE (aB 14) (eC (.int 2)))) (aG (aB 4) (aG (aB 5) aK))))))
 (bp .s (eT (ao (ah cq (ah a5 (ah a5 (aB 3) (ah eE (aB 14) (eC (.int 2)))) (eC (.int 0))) (aB 8))) (eT (ao (ah (l4 ae) (aB 13) (aB 10))) (ao (ah bz (ah bN (aN dJ (aG (aB 12) (aG (ah bL (eC (.int 54)) (aB 14)) aK))) (eC (.int 5))) (eC (.int 0)))))) (aY (bE 15 0 .s (ah bN (aN dJ (aG (aB 12) (aG (eC (.int 52)) aK))) (ah bL (aN cI (aG (aB 10) aK)) (eC (.int 1)))))
 (bE 10 0 .s (kX (ah oM (ah oM (kX (aB 10) oN (oS (aB 15))) (dE (aG (aB 13) aK))) (kX (aB 10) (oS (aB 15)) oN)) oN (oS (aB 6))))) dC))))
   (ji ns st most ts ls zs ps++[BK,s0 (.str t),s0 (.int w),s0 (bG R0),br,x12,nw,h8,jz])
   (fun o=>∃ ρ',o=.nx ρ'/\∃ (R:List (List Int)) (lw k6 zq su:L2.Slot),Aia w most R/\ρ'=ji ns st most ts ls zs ps++[BK,s0 (.str t),s0 (.int w),s0 (bG R),br,lw,k6,zq,su]):=by
 refine tU (n:=2*ls.length) (fun i ρ'=>∃ (R:List (List Int)) (lw k6 zq su:L2.Slot),Aia w most R/\ρ'=ji ns st most ts ls zs ps++[BK,s0 (.str t),s0 (.int w),s0 (bG R),br,lw,k6,zq,su]) (ix (oV (cU ?_ rfl) (by omega))) ⟨R0,x12,nw,h8,jz,h0,rfl⟩ ?_ ?_
 ·refine bW (a:=.int 2) (b:=.int (ls.map aX).length) rfl (bU (ds:=[.list (ls.map aX)]) rfl (vR _)) ((QF (by decide)).trans ?_)
  rw[eY]
  congr 2
 ·rintro i _ hi ⟨R,lw,k6,zq,su,hR,rfl⟩;refine⟨ji ns st most ts ls zs ps++[BK,s0 (.str t),s0 (.int w),s0 (bG R),br,lw,k6,s0 (.int i),su],rfl,?_⟩;obtain⟨c,ec⟩:=nM (ns:=ns) (k:=(st:Int)+1+(i:Int)%2) (by omega) (by omega)
  refine iV (d:=.int c) (bU (ds:=[.list (ns.map aR),.int ((st:Int)+1+(i:Int)%2)]) (cU rfl (cU (bW (a:=.int ((st:Int)+1)) (b:=.int ((i:Int)%2)) (bW (a:=.int st) (b:=.int 1) rfl rfl rfl) (bW (a:=.int i) (b:=.int 2) rfl rfl (Fm i 2 (by decide))) rfl) rfl)) ec) (by simp) ?_
  have hj:i/2<ls.length:=by omega
  have ex:∀ a b c d:L2.Slot,ah a5 (aB 3) (ah eE (aB 14) (eC (.int 2))) (vS (ji ns st most ts ls zs ps++[BK,s0 (.str t),s0 (.int w),s0 (bG R),a,b,c,s0 (.int i),d]))=aa (aX ls[i/2]):=fun a b c d=>bW (a:=.list (ls.map aX)) (b:=.int ((i/2:Nat):Int)) rfl (bW (a:=.int i) (b:=.int 2) rfl rfl half) (wF (eW hj))
  have ml:ls[i/2]∈ls:=qG hj;generalize ls[i/2]=l at ex ml;obtain⟨⟨bg,hlz⟩,hl6⟩:=uo l ml;obtain⟨r,er,hr⟩:=Ol c (l:=l) hlz qz hp hl6;refine iV (d:=bI r) (bU (ds:=[.int c,aX l,.list (zs.map bD),.list (ps.map aR)]) (cU rfl (cU (ex _ _ _ _) rfl)) er) (by simp) ?_
  have em:=jF c (54+(i:Int)) (by omega) (by omega)
  have c1:ao (ah cq (ah a5 (ah a5 (aB 3) (ah eE (aB 14) (eC (.int 2)))) (eC (.int 0))) (aB 8)) (vS (ji ns st most ts ls zs ps++[BK,s0 (.str t),s0 (.int w),s0 (bG R),br,s0 (.int c),s0 (bI r),s0 (.int i),su]))=aa (decide (l.1=t)):=gH (bW (a:=.str l.1) (b:=.str t) (bW (a:=aX l) (b:=.int 0) (ex _ _ _ _) rfl rfl) rfl (Ki l.1 t));have c2:ao (ah (l4 ae) (aB 13) (aB 10)) (vS (ji ns st most ts ls zs ps++[BK,s0 (.str t),s0 (.int w),s0 (bG R),br,s0 (.int c),s0 (bI r),s0 (.int i),su]))=aa (ae != decide (r∈R)):=gH (bW (a:=bI r) (b:=bG R) rfl rfl (RG ae r R));have c3:ao (ah bz (ah bN (aN dJ (aG (aB 12) (aG (ah bL (eC (.int 54)) (aB 14)) aK))) (eC (.int 5))) (eC (.int 0))) (vS (ji ns st most ts ls zs ps++[BK,s0 (.str t),s0 (.int w),s0 (bG R),br,s0 (.int c),s0 (bI r),s0 (.int i),su]))=aa (decide (bY c (54+(i:Int))%5 > 0)):=gH (bW (a:=.int (bY c (54+(i:Int))%5)) (b:=.int 0) (bW (a:=.int (bY c (54+(i:Int)))) (b:=.int 5) (bU (ds:=[.int c,.int (54+(i:Int))]) rfl em) rfl rfl) rfl rfl);have cc:=rV c1 fun _=>rV c2 fun _=>c3
  refine GC cc ?_;split
  ·rename_i hc;have gx:l.1=t/\r∉R:=by
    have:=kT.mp hc;exact⟨of_decide_eq_true this.1,fun q=>by have:=(kT.mp this.2).1;simp[q] at this⟩
   have hrw:r.length=w:=by
    have e1:=XO gj bg (show(l.1,w)∈ts by rw[gx.1];exact ht)
    rw[hr];exact e1
   have hR63:=hR.2.1;have bj:=gD (bY c 52) (show(0:Int)<(R.length:Int)+1 by omega)
   obtain⟨u,hu⟩:=kS bj.1;have huR:u≤R.length:=by omega
   refine iV (d:=.int u) (bW (a:=.int (bY c 52)) (b:=.int ((R.length:Int)+1)) (bU (ds:=[.int c,.int 52]) rfl (jF c 52 (by decide) (by decide))) (bW (a:=.int (R.length:Int)) (b:=.int 1) (bU (ds:=[bG R]) rfl ((vR _).trans (by rw[eY]))) rfl rfl) ?_) (by simp) ?_
   ·show(if 0<(R.length:Int)+1 then aa (aR (bY c 52%((R.length:Int)+1))) else ab)=_
    rw[if_pos (by omega),hu]
   have el:(R.map bI).length=R.length:=eY ..;refine wC (d:=bG ((R.take u++[r]++R.drop u).take most)) ?_ (by simp) ⟨_,.inl rfl,(R.take u++[r]++R.drop u).take most,s0 (.int c),s0 (bI r),s0 (.int i),s0 (.int u),hR.put gx.2 hrw u,rfl⟩
   have s1:kX (aB 10) oN (oS (aB 15)) (vS (ji ns st most ts ls zs ps++[BK,s0 (.str t),s0 (.int w),s0 (bG R),br,s0 (.int c),s0 (bI r),s0 (.int i),s0 (.int u)]))=aa (.list ((R.take u).map bI)):=(IV (ds:=R.map bI) (l:=ab) (u:=aa (u:Int)) rfl rfl rfl).trans (by rw[Ac (by omega),Cp])
   have s2:kX (aB 10) (oS (aB 15)) oN (vS (ji ns st most ts ls zs ps++[BK,s0 (.str t),s0 (.int w),s0 (bG R),br,s0 (.int c),s0 (bI r),s0 (.int i),s0 (.int u)]))=aa (.list ((R.drop u).map bI)):=(IV (ds:=R.map bI) (l:=aa (u:Int)) (u:=ab) rfl rfl rfl).trans (by rw[Uu (by omega),List.map_drop])
   have s3:ah oM (ah oM (kX (aB 10) oN (oS (aB 15))) (dE (aG (aB 13) aK))) (kX (aB 10) (oS (aB 15)) oN) (vS (ji ns st most ts ls zs ps++[BK,s0 (.str t),s0 (.int w),s0 (bG R),br,s0 (.int c),s0 (bI r),s0 (.int i),s0 (.int u)]))=aa (.list ((R.take u++[r]++R.drop u).map bI)):=by
    refine bW (a:=.list ((R.take u++[r]).map bI)) (b:=.list ((R.drop u).map bI)) (bW (a:=.list ((R.take u).map bI)) (b:=.list [bI r]) s1 (IP rfl) ?_) s2 ?_
    ·rw[IF (by simp;omega),jC]
     rfl
    ·rw[IF (by simp;omega),← jC]
   refine(IV (l:=ab) (u:=aa (most:Int)) s3 rfl rfl).trans ?_;rw[Ub,bG,Cp]
  ·exact lQ ⟨_,.inl rfl,R,_,_,_,_,hR,rfl⟩
 ·rintro _ ⟨R,lw,k6,zq,su,hR,rfl⟩;exact⟨_,rfl,R,_,_,_,_,hR,rfl⟩
end
theorem Tx{st:Nat}{ps:List Int}(hs:st≤1000)(hm:most≤63)(hp:ps.length=6)(vp:∀ t∈ts,t.2≤6)(C6:ts.length≤100)(gj:(ts.map (·.1)).Nodup)(uo:∀ l∈ls,o7 ts zs l/\l.2.length≤6)(qz:zs.length≤1000)(hl:ls.length≤16) :
  ∃ L:List Tb,wU [.list (ns.map aR),.int st,.list (ts.map fG),.list (ls.map aX),.list (zs.map bD),.list (ps.map aR),.int most]=aa (.dict (bq L))/\(L.map (·.1)).Nodup/\∀ p∈L,∃ w,(p.1,w)∈ts/\Aia w most p.2:=by
 have:∃ d,wU [.list (ns.map aR),.int st,.list (ts.map fG),.list (ls.map aX),.list (zs.map bD),.list (ps.map aR),.int most]=aa d/\∃ L:List Tb,d=.dict (bq L)/\(L.map (·.1)).Nodup/\∀ p∈L,∃ w,(p.1,w)∈ts/\Aia w most p.2:=by
  rw[26];refine iV (n:=1) (d:=.dict []) rfl (by simp) ?_
  refine gJ (fun ρ'=>∃ (L:List Tb) (x8 x9 iw br x12 nw h8 jz:L2.Slot),((L.map (·.1)).Nodup/\∀ p∈L,∃ w,(p.1,w)∈ts/\Aia w most p.2)/\ρ'=ji ns st most ts ls zs ps++[aa (1,.dict (bq L)),x8,x9,iw,br,x12,nw,h8,jz]) ?_ ?_
  ·refine tO (ds:=ts.map fG) (fun i ρ'=>∃ (L:List Tb) (x8 x9 iw br x12 nw h8 jz:L2.Slot),((L.map (·.1)).Nodup/\L.length≤i/\∀ p∈L,p.1∈(ts.take i).map (·.1)/\∃ w,(p.1,w)∈ts/\Aia w most p.2)/\ρ'=ji ns st most ts ls zs ps++[aa (1,.dict (bq L)),x8,x9,iw,br,x12,nw,h8,jz]) (ix (lV rfl)) ⟨[],ab,ab,ab,ab,ab,ab,ab,ab,⟨by simp,bZ _,fun _ m=>by simp at m⟩,rfl⟩ ?_ ?_
   ·rintro i d _ hd ⟨L,x8,x9,iw,br,x12,nw,h8,jz,⟨h1,h2,h3⟩,rfl⟩;rw[fW] at hd;obtain⟨⟨t,w⟩,hx,rfl⟩:=kO.mp hd;have mt:=gL hx;have hi:i<ts.length:=(dD.mp hx).1;have ox:ts.take (i+1)=ts.take i++[(t,w)]:=by rw[xU,hx];rfl
    have sv:t∉L.map (·.1):=fun m=>by
     obtain⟨p,mp,e⟩:=cN.mp m;have n2:((ts.take (i+1)).map (·.1)).Nodup:=gj.sublist ((OC _ _).map _);rw[ox,jC] at n2;exact(BS.mp n2).2.2 p.1 (h3 p mp).1 t (by simp) e
    have keep:∀ p∈L,p.1∈(ts.take (i+1)).map (·.1)/\∃ w,(p.1,w)∈ts/\Aia w most p.2:=fun p mp=>⟨by rw[ox,jC];exact kR.mpr (.inl (h3 p mp).1),(h3 p mp).2⟩
    refine⟨ji ns st most ts ls zs ps++[aa (1,.dict (bq L)),s0 (.str t),s0 (.int w),iw,br,x12,nw,h8,jz],rfl,?_⟩;rw[14];refine gJ _ (Wa hs hm hp (L:=L) (by omega) (vp _ mt) br x12 nw h8 jz) ?_
    rintro _ ⟨R1,q0,lw,k6,hR1,rfl⟩;refine oR ?_;refine gJ _ (Wi hs hm hp gj uo qz hl mt hR1 q0 lw k6 h8 jz) ?_;rintro _ ⟨R,M5,M6,M8,M9,hR,rfl⟩;obtain⟨c,ec⟩:=nM (ns:=ns) (k:=(st:Int)) (by omega) (by omega)
    have c1:ao (ah bz (aN cI (aG (aB 10) aK)) (eC (.int 0))) (vS (ji ns st most ts ls zs ps++[aa (1,.dict (bq L)),s0 (.str t),s0 (.int w),s0 (bG R),q0,M5,M6,M8,M9]))=aa (decide (((R.map bI).length:Int) > 0)):=gH (bW (a:=.int (R.map bI).length) (b:=.int 0) (bU (ds:=[bG R]) rfl (vR _)) rfl rfl);have c2:ao (ah cq (ah bN (aN dJ (aG (aN gE (aG (aB 0) (aG (aB 1) aK))) (aG (eC (.int 53)) aK))) (eC (.int 2))) (eC (.int 0))) (vS (ji ns st most ts ls zs ps++[aa (1,.dict (bq L)),s0 (.str t),s0 (.int w),s0 (bG R),q0,M5,M6,M8,M9]))=aa (decide (bY c 53%2=0)):=gH (bW (a:=.int (bY c 53%2)) (b:=.int 0) (bW (a:=.int (bY c 53)) (b:=.int 2) (bU (ds:=[.int c,.int 53]) (cU (bU (ds:=[.list (ns.map aR),.int st]) rfl ec) rfl) (jF c 53 (by decide) (by decide))) rfl rfl) rfl (Ao _ _))
    refine GC (yX c1 fun _=>c2) ?_
    split
    ·refine JK (d:=bG R) (kd:=.str t) (key:=.inr t) (kds:=bq L) rfl rfl rfl rfl (by simp[bq];omega) ⟨_,.inl rfl,L++[(t,R)],s0 (.str t),s0 (.int w),s0 (bG R),q0,M5,M6,M8,M9,⟨?_,by simp;omega,fun p mp=>?_⟩,?_⟩
     ·rw[jC];refine BS.mpr ⟨h1,by simp,fun a ma b mb e=>?_⟩
      have:b=t:=by simpa using mb
      exact sv (this ▸ e ▸ ma)
     ·rcases kR.mp mp with mp|mp
      ·exact keep p mp
      ·rw[eB.mp mp];exact⟨by rw[ox];simp,w,mt,hR⟩
     ·rw[RN sv]
      rfl
    ·exact lQ ⟨_,.inl rfl,L,_,_,_,_,_,_,_,_,⟨h1,by omega,keep⟩,rfl⟩
   ·rintro _ ⟨L,x8,x9,iw,br,x12,nw,h8,jz,⟨h1,h2,h3⟩,rfl⟩;exact⟨_,rfl,L,_,_,_,_,_,_,_,_,⟨h1,fun p mp=>(h3 p mp).2⟩,rfl⟩
  rintro _ ⟨L,x8,x9,iw,br,x12,nw,h8,jz,h,rfl⟩;exact EH rfl ⟨_,rfl,L,rfl,h.1,h.2⟩
 obtain⟨d,e,L,rfl,h⟩:=this;exact⟨L,e,h⟩
theorem XT[DecidableEq α]:∀ (zs ai:List α),ai.Nodup->(zs.foldl fF ai).Nodup
 |[],ai,h=>h
 |z::zs,ai,h=>by
  rw[oF];refine XT zs _ ?_;unfold fF;split
  ·exact h
  ·rename_i hz;exact BS.mpr ⟨h,by simp,fun a ha b hb e=>hz (by rw[eB] at hb;rw[← hb,← e];exact ha)⟩
theorem JD[DecidableEq α](zs:List α):(gP zs).Nodup:=XT zs [] OD
theorem Up[DecidableEq α]{zs ys:List α}(h:∀ z∈zs,z∈ys):(gP zs).length≤ys.length:=Da (JD zs) fun z m=>h z (Aju.mp m)
theorem Ak {a b:List Int}(h:a.map aR=b.map aR):a=b:=by
 have:=congrArg (BW qi) h
 rwa [qU,qU] at this
theorem Xo (R:List (List Int)):gG (R.map fun r=>r.map aR)=(gP R).map fun r=>r.map aR:=by
 have go:∀ (R ai:List (List Int)),(R.map fun r=>r.map aR).foldl nF (ai.map fun r=>r.map aR)=(R.foldl fF ai).map fun r=>r.map aR:=by
  intro R;induction R with
  |nil=>intro ai;rfl
  |cons r R ih=>
   intro ai;rw[eF,oF,oF,← ih]
   congr 1
   unfold nF fF;by_cases h:r∈ai
   ·rw[if_pos h,if_pos (cN.mpr ⟨r,h,rfl⟩)]
   ·rw[if_neg h,if_neg fun m=>by
     obtain⟨x,mx,e⟩:=cN.mp m;exact h ((Ak e) ▸ mx),jC]
    rfl
 exact go R []
def ou (r:List Int):aA×aA:=(.tuple (r.map aR),.bool ae)
theorem Yq (ai:List (List Int)):keyed (ai.map ou):=fun kd m=>by
 obtain⟨r,_,rfl⟩:=cN.mp m;exact⟨_,rfl,tX r⟩
theorem TQ (ai:List (List Int))(r:List Int):(nH (ai.map ou) (r.map aR)).isSome=decide (r∈ai):=by
 rw[pK,WW (tX r) (Yq ai),gY,decide_eq_true_eq,cN];constructor
 ·rintro⟨a,ma,e⟩;exact Ak (uQ e) ▸ ma
 ·exact fun m=>⟨r,m,rfl⟩
theorem Ux (ai:List (List Int))(r:List Int):qY (ai.map ou) (r.map aR) (.bool ae)=(fF ai r).map ou:=by
 unfold qY fF;rw[TQ];by_cases h:r∈ai
 ·rw[if_pos (decide_eq_true h),if_pos h,gY];refine HD fun a _=>?_
  show(if bQ (ou a).1 (.tuple (r.map aR))=ae then((ou a).1,qE ae) else ou a)=ou a
  split<;>rfl
 ·rw[if_neg (by simpa using h),if_neg h]
  simp[ou]
theorem Sy {ρ:bM}{k:List aA}(h:f (vS ρ)=aa d)(hg:FX i ρ=aa kds)(hk:g (vS ρ)=aa (.tuple k))(h1:cA k=ae)(h2:bX k≤6)(h3:cT d=ae)(hl:kds.length<100000)(kk:P (.nx (ρ.set i (aa (9,.dict ((.none,.none)::qY kds k d)))))):Goes (FZ i .s f .s g) ρ P:=⟨_,by
 have e1:eV 0 .s f ρ=aa d:=h;have e2:eV 0 .s g ρ=aa (.tuple k):=hk;unfold FZ;rw[e1,dB,hg,dB,e2,dB];show(if ((cA k=ae/\bX k≤6)/\cT d=ae)/\kds.length<sizeLine then aa (Out.nx (ρ.set i (aa (9,.dict ((.none,.none)::qY kds k d))))) else ab)=_
 rw[if_pos ⟨⟨⟨h1,h2⟩,h3⟩,zH (sQ hl)⟩],kk⟩
theorem TN(hm:m∈nJ B ls):m.length=(bR ls).length:=by
 obtain⟨kn,_,rfl⟩:=cN.mp hm;simp[rowOf]
theorem Sw {a b:List Int}(h:a.length=b.length):yK (bI a) (bI b)=aa (.bool (decide (cG (a.map aR)<cG (b.map aR)))):=by
 show(if (cA (a.map aR)=ae/\bX (a.map aR)≤6)/\(cA (b.map aR)=ae/\bX (b.map aR)≤6)/\fL (a.map aR) (b.map aR)=ae then aa (qE (decide (cG (a.map aR)<cG (b.map aR)))) else ab)=_
 have h1:=wN a;have h2:=wN b;rw[if_pos ⟨⟨tX a,by omega⟩,⟨tX b,by omega⟩,EW a b h⟩]
theorem YF:∀ (ps:List (aP×aA)) (ai:List (aA×aA)),(ps.map (·.1)).Nodup->(∀ p∈ps,∀ kd∈ai,dI kd.1≠aa p.1)->tQ ps ai=ai++ps.map fun p=>(kD p.1,p.2)
 |[],ai,_,_=>by simp[tQ]
 |p::ps,ai,nd,h=>by
  rw[eF,mE] at nd;have e:putD ai p.1 p.2=ai++[(kD p.1,p.2)]:=by
   unfold putD;rw[if_neg];intro q;obtain⟨kd,m,hk⟩:=HN.mp q;exact h p cF kd m (of_decide_eq_true hk)
  show tQ ps (putD ai p.1 p.2)=_;rw[e,YF ps _ nd.2]
  ·simp
  ·intro q mq kd m;rcases kR.mp m with m|m
   ·exact h q (cS _ mq) kd m
   ·rw[eB.mp m];show dI (kD p.1)≠_;rw[L2.Agx];exact fun e=>nd.1 (cN.mpr ⟨q,mq,(iH e).symm⟩)
theorem Oy(hn:1≤n\/(gP R).length<2)(hw:∀ r∈R,r.length=n)(hl:(gP R).length≤4096):LW [bG R]=aa (bG (h9 (gP R))):=by
 have e:=TU (R:=gP R) hn (fun r m=>hw r (Aju.mp m)) hl
 have e:((kW ((gP R).map bI)).bind fun kss=>if jm kss=ae/\kss.length≤4096 then aa (kN ((iR kss).map iF)) else ab)=aa (bG (h9 (gP R))):=e
 show((kW (R.map bI)).bind fun kss=>if (gG kss).length≤4900/\jm (gG kss)=ae then aa (kN ((iR (gG kss)).map iF)) else ab)=_
 rw[VG,dB] at e ⊢;rw[Xo];obtain⟨⟨a,b⟩,c⟩:=dX e;rw[if_pos ⟨jV b (by decide),a⟩,c]
theorem VO:∀ zs:List aE,sV (zs.map bD)=aa (zs.map iK)
 |[]=>rfl
 |z::zs=>by
  show((sV (zs.map bD)).bind fun ks=>aa (.inr z::ks))=_
  rw[VO zs]
  rfl
theorem RL:∀ (as:List α) (bs:List β),as.length=bs.length->(as.zip bs).map (·.1)=as
 |[],[],_=>rfl
 |a::as,b::bs,h=>by
  rw[BP,eF,RL as bs (by simpa using h)]
 |[],_::_,h=>by simp at h
 |_::_,[],h=>by simp at h
theorem UL {γ δ:Type}(f:α->γ)(g:β->δ):∀ (as:List α) (bs:List β),(as.map f).zip (bs.map g)=(as.zip bs).map fun p=>(f p.1,g p.2)
 |[],_=>by simp
 |_::_,[]=>by simp
 |a::as,b::bs=>by simp[UL f g as bs]
theorem Mn(hz:zs.Nodup)(hl:zs.length=m.length)(h1:zs.length≤1000):yV [.list (zs.map bD),bI m]=aa (c8 (zs.zip m)):=by
 show((sV (zs.map bD)).bind fun ks=>if (zs.map bD).length≤sizeLine then aa (NT (tQ (ks.zip (m.map aR)) [])) else ab)=_
 rw[VO,dB,if_pos (nQ (by simp;omega)),UL,YF]
 ·show aa (NT _)=aa (NT ((zs.zip m).map dN));rw[BU,gY]
  rfl
 ·rw[gY];show((zs.zip m).map fun p=>(iK p.1:aP)).Nodup
  have:((zs.zip m).map fun p=>(iK p.1:aP))=zs.map iK:=by
   have:=congrArg (BW (iK:aE->aP)) (RL zs m hl);rw[gY] at this;rw[29]
  rw[this];exact uU.mpr (hz.imp fun h e=>h (Sum.inr.inj e))
 ·intro p _ kd mk;simp at mk
theorem JZ:∀ {zs:List aE} {m:List Int},zs.Nodup->zs.length=m.length->∀ {j:Nat} {z:aE},zs[j]?=aa z->dW (zs.zip m) z=m[j]?
 |[],_,_,_,j,z,h=>by simp at h
 |y::zs,[],_,hl,_,_,_=>by simp at hl
 |y::zs,v::m,nd,hl,j,z,h=>by
  rw[mE] at nd;cases j with
  |zero=>
   have:y=z:=by simpa using h
   rw[25];simp[dW]
  |succ j=>
   have h:zs[j]?=aa z:=by simpa using h
   have ne:y≠z:=fun e=>nd.1 (e ▸ gL h)
   have:=JZ (zs:=zs) (m:=m) nd.2 (by simpa using hl) h
   rw[pJ,← this];unfold dW;rw[BP,kF];simp[ne]
theorem Wc (kn:Kn)(i:Int):dH (DN kn) (.inl i)=ab:=by
 unfold dH DN;induction kn with
 |nil=>rfl
 |cons p r ih=>
  rw[eF,kF];have e:decide (dI (dN p).1=aa (.inl i))=af:=decide_eq_false (by show ¬ (aa (iK p.1:aP)=aa (.inl i));simp)
  rw[e];exact ih
theorem Vv {hd:List aP}{kn:Kn}(hl:hd.length≤1000)(h:∀ z,(.inr z:aP)∈hd->∃ v,dW kn z=aa v):nR [tK hd,c8 kn]=aa (bI (hd.map (sI kn))):=by
 have:∃ d,nR [tK hd,c8 kn]=aa d/\d=bI (hd.map (sI kn)):=by
  rw[26];have e:=DK (cap:=[ab,aa 1]) (fi:=bo (aB 0)) (T:=gB 0) (t:=dF) (f:=fI (aB 1) (aB 0) (aB 0)) (ρ:=vS [s0 (tK hd),s0 (c8 kn)]) (xs:=hd) (q:=kD) (fun _=>ae) (fun k=>.int (sI kn k)) (qT rfl) (by omega) (fun k m=>by
   refine⟨[aa (kD k),aa (c8 kn)],rfl,rfl,fun _=>?_⟩
   have:=JO (fd:=aB 1) (fk:=aB 0) (fx:=aB 0) (ρ:=[aa (kD k),aa (c8 kn)]) (kds:=DN kn) (kd:=kD k) (x:=kD k) (key:=k) rfl rfl (by cases k<;>rfl) rfl (O6 kn)
   rw[this];cases k with
   |inl i=>rw[Wc];rfl
   |inr z=>
    obtain⟨v,hv⟩:=h z m;rw[DY,hv];show _=aa (aR ((dW kn z).getD 0));rw[hv]
    rfl)
  rw[OM.mpr fun _ _=>rfl] at e
  have e':hd.map (fun k=>aR (sI kn k))=(hd.map (sI kn)).map aR:=by rw[gY];rfl
  rw[e'] at e;exact kA (d:=bI (hd.map (sI kn))) (bU (cU e rfl) rfl) ⟨_,rfl,rfl⟩
 rw[10]
abbrev iM:=List aP×List Ln
def cR (q:iM):aA:=.tuple [tK q.1,.tuple (q.2.map aX)]
def kI (q:iM)(m:List Int):List Int:=q.1.map (sI ((bR q.2).zip m))
theorem KO (ls:List Ln):(bR ls).Nodup:=JD _
theorem Ue {q:iM}(hl:m.length=(bR q.2).length)(hz:z∈bR q.2):∃ (j:Nat) (v:Int),(bR q.2)[j]?=aa z/\m[j]?=aa v/\dW ((bR q.2).zip m) z=aa v:=by
 obtain⟨j,hj⟩:=List.mem_iff_getElem?.mp hz;have bg:j<(bR q.2).length:=(dD.mp hj).1;have e:m[j]?=aa (m[j]'(by omega)):=eW (by omega)
 exact⟨j,_,hj,e,(JZ (KO q.2) hl.symm hj).trans e⟩
theorem Rx {q:iM}{M:List (List Int)}(hq:∀ l∈q.2,nK l)(hl:q.2.length≤16)(hz:(bR q.2).length≤1000)(hh:q.1.length≤1000)(hn:∀ z,(.inr z:aP)∈q.1->z∈bR q.2)(hM:∀ m∈M,m.length=(bR q.2).length)(hc:M.length≤4096) :
  xA [cR q,bG M]=aa (bG (M.map (kI q))):=by
 have:∃ d,xA [cR q,bG M]=aa d/\d=bG (M.map (kI q)):=by
  rw[26];refine iV (d:=.list ((bR q.2).map bD)) (bU (ds:=[.tuple (q.2.map aX)]) (cU (bW (a:=cR q) (b:=.int 1) rfl rfl rfl) rfl) (XC hq (by omega))) (by simp) ?_
  have e:=DK (cap:=[ab,aa 0,aa 2]) (fi:=bo (aB 1)) (T:=gB 0) (t:=dF) (f:=aN nR (aG (ah a5 (aB 1) (eC (.int 0))) (aG (aN yV (aG (aB 2) (aG (aB 0) aK))) aK))) (ρ:=vS [s0 (cR q),s0 (bG M),s0 (.list ((bR q.2).map bD))]) (xs:=M) (q:=bI) (fun _=>ae) (fun m=>bI (kI q m)) (lV rfl) (by omega) (fun m mm=>by
   refine⟨[aa (bI m),aa (cR q),aa (.list ((bR q.2).map bD))],rfl,rfl,fun _=>?_⟩
   exact bU (ds:=[tK q.1,c8 ((bR q.2).zip m)]) (cU (bW (a:=cR q) (b:=.int 0) rfl rfl rfl) (cU (bU (ds:=[.list ((bR q.2).map bD),bI m]) rfl (Mn (KO _) (hM m mm).symm hz)) rfl)) (Vv hh fun z mz=>by
    obtain⟨j,v,_,_,h⟩:=Ue (hM m mm) (hn z mz);exact⟨v,h⟩))
  rw[OM.mpr fun _ _=>rfl] at e
  have e':M.map (fun m=>bI (kI q m))=(M.map (kI q)).map bI:=by rw[gY];rfl
  rw[e'] at e;exact kA (d:=bG (M.map (kI q))) e ⟨_,rfl,rfl⟩
 rw[10]
theorem Nd(h:∀ l∈ls,nK l)(hn:ls.length≤100):pU [.tuple (ls.map aX)]=aa (.list ((bR ls).map bD)):=by
 have:∃ d,pU [.tuple (ls.map aX)]=aa d/\d=.list ((bR ls).map bD):=by
  rw[26];rw[14];refine gJ (fun ρ'=>∃ x2 x3:L2.Slot,ρ'=[s0 (.tuple (ls.map aX)),aa (1,.list ((bR ls).map bD)),x2,x3]) ?_ ?_
  ·refine lR (xs:=ls) (q:=aX) (b0:=[]) (fun ai l=>l.2.foldl gN ai) (fun i ai ρ'=>∃ x2 x3:L2.Slot,ai.length≤6*i/\ρ'=[s0 (.tuple (ls.map aX)),aa (1,.list (ai.map bD)),x2,x3]) (ix (qT rfl)) ⟨ab,ab,bZ _,rfl⟩ ?_ ?_
   ·rintro i l ai _ hx ⟨x2,x3,ha,rfl⟩;have hl:=h l (gL hx);have hi:i<ls.length:=(dD.mp hx).1;refine⟨[s0 (.tuple (ls.map aX)),aa (1,.list (ai.map bD)),s0 (aX l),x3],rfl,?_⟩;refine lR (xs:=l.2) (q:=kD) (b0:=ai) gN (fun j al ρ'=>∃ x3:L2.Slot,al.length≤6*i+j/\ρ'=[s0 (.tuple (ls.map aX)),aa (1,.list (al.map bD)),s0 (aX l),x3]) (ix (qT (by simp[bh,aY,bE,cQ,eU,bp,dR,gM,fM,fT,eK,frz,dC,eV,bV,aV,vS,vA,ah,b7,aB,eC,aN,fR,dE,aG,aK,ao,fH,eT,f7,c7,fZ,iz,gZ,fI,gR,iy,bw,getL,fQ,outD,bo,itemsOf,bL,fN,cW,bN,eE,gA,eu,b8,f9,i5,bz,i4,cI,dG,fC,gb,eZ,gC,fK,cq,dg,cM,noDict,noDicts,dQ,bX,bQ,dY,cT,dF,gB,aX,a5,gq,jt]))) ⟨x3,ha,rfl⟩ ?_ ?_
    ·rintro j k al _ hk ⟨x3,nu,rfl⟩;have hj:j<l.2.length:=(dD.mp hk).1;have h6:=hl.1;refine⟨[s0 (.tuple (ls.map aX)),aa (1,.list (al.map bD)),s0 (aX l),s0 (kD k)],rfl,?_⟩;have g1:=IS al k;have b1:ao (b7 (dG "str") (aB 3)) (vA [s0 (.tuple (ls.map aX)),aa (1,.list (al.map bD)),s0 (aX l),s0 (kD k)])=aa (uu k):=gH (rQ (a:=kD k) rfl ((wA k).trans (by cases k<;>rfl)))
     cases k with
     |inl v=>exact lB (rV (y:=ae) b1 fun e=>by cases e) (lQ ⟨_,.inl rfl,_,by omega,rfl⟩)
     |inr z=>
      have b2:ao (ah (l4 ae) (aB 3) (aB 1)) (vA [s0 (.tuple (ls.map aX)),aa (1,.list (al.map bD)),s0 (aX l),s0 (.str z)])=aa (ae != decide (z∈al)):=gH (bW rfl rfl (QT ae al z));have bb:=rV b1 fun _=>b2
      by_cases hz:z∈al
      ·refine lB (bb.trans (by simp[hz,uu])) (lQ ⟨_,.inl rfl,s0 (.str z),by omega,?_⟩)
       show _=[_,aa (1,kN ((fF al z).map bD)),_,_];unfold fF;rw[if_pos hz]
       rfl
      ·refine lN (bb.trans (by simp[hz,uu])) (mL (d:=.str z) (ds:=al.map bD) rfl rfl (by simp;omega) ⟨_,.inl rfl,s0 (.str z),by omega,?_⟩)
       show _=[_,aa (1,kN ((fF al z).map bD)),_,_];unfold fF;rw[if_neg hz,jC]
       rfl
    ·rintro _ ⟨x3,nu,rfl⟩;have h6:=hl.1;exact⟨_,.inl rfl,_,_,by omega,rfl⟩
   ·rintro _ ⟨x2,x3,ha,rfl⟩;have e:ls.foldl (fun ai l=>l.2.foldl gN ai) []=bR ls:=by
     unfold bR gP;rw[Cs]
     congr 1
     funext ai l;exact AW l.2 ai
    rw[e];exact⟨_,rfl,x2,x3,rfl⟩
  rintro _ ⟨x2,x3,rfl⟩;exact EH rfl ⟨_,rfl,rfl⟩
 rw[10]
theorem IH {np:Nat}{body:SF}(hl:ds.length=np)(h:Goes body (ds.map (fun d=>aa (0,d))++xV (n-np) ab) fun o=>o=.rt d):bh np n body ds=aa d:=by
 obtain⟨o,e,rfl⟩:=h;exact QE hl e
theorem Wr {ρ:bM}(h:f (vS ρ)=aa d)(k:P (.nx ρ)):Goes (rP .s f) ρ P:=⟨_,by
 have h':eV 0 .s f ρ=aa d:=h;unfold rP;rw[h',dB],k⟩
structure QOk (B:aE->List (List Int))(n:Nat)(q:iM):Prop where
 ok:∀ l∈q.2,nK l
 few:q.2.length≤16
 way:fX B q.2≤700
 nms:(bR q.2).length≤1000
 hd:q.1.length=n
 inn:∀ z,(.inr z:aP)∈q.1->z∈bR q.2
def oO (B:aE->List (List Int))(q:iM):List (List Int):=(h9 (nJ B q.2)).map (kI q)
def iU (B:aE->List (List Int))(qs:List iM):List (List Int):=qs.flatMap (oO B)
section
variable {qs:List iM}
theorem KR {q:iM}(h:QOk B n q):(nJ B q.2).length≤700:=by
 have:=(UU (B:=B) q.2 h.few (fun l m=>(h.ok l m).1) (by have:=h.way;omega)).2.1
 have h2:=h.way;unfold nJ;rw[eY];omega
theorem WN {q:iM}(h:QOk B n q):(oO B q).length≤700:=by
 unfold oO;rw[eY,EC];exact KR h
theorem XB {q:iM}(h:QOk B n q)(m:r∈oO B q):r.length=n:=by
 obtain⟨x,_,rfl⟩:=cN.mp m;unfold kI;rw[eY,h.hd]
theorem MC:∀ {qs:List iM},(∀ q∈qs,QOk B n q)->(iU B qs).length≤700*qs.length
 |[],_=>bZ _
 |q::qs,h=>by
  have h1:=WN (h q cF);have h2:=MC (qs:=qs) fun x m=>h x (cS _ m)
  unfold iU at h2 ⊢;rw[BX,mZ,iB];omega
theorem Ul(h:∀ r∈R,r.length=0):(gP R).length<2:=by
 have:=Up (zs:=R) (ys:=[[]]) fun r m=>by
  rw[yB (h r m)];exact cF
 simp at this;omega
theorem ZN (b:Bk kds B wd)(hB:∀ t,(B t).Nodup){q:iM}(h:QOk B n q):qV [.dict kds,.tuple (q.2.map aX)]=aa (bG (h9 (nJ B q.2))):=Ou b hB h.ok h.few (by have:=h.way;omega) h.nms
theorem WT (b:Bk kds B wd)(hB:∀ t,(B t).Nodup)(hq:∀ q∈qs,QOk B n q)(hl:qs.length≤5)(hn:n≤1000):rY [.dict kds,.list (qs.map cR)]=aa (bG (h9 (gP (iU B qs)))):=by
 refine IH rfl ?_
 let BK:L2.Slot:=s0 (.dict kds)
 let Q:L2.Slot:=s0 (.list (qs.map cR))
 refine gJ (fun ρ'=>∃ x2:L2.Slot,ρ'=[BK,Q,x2,ab]) ?_ ?_
 ·refine tO (ds:=qs.map cR) (fun k ρ'=>∃ x2:L2.Slot,ρ'=[BK,Q,x2,ab]) (ix (lV rfl)) ⟨ab,rfl⟩ ?_ ?_
  ·rintro k d _ hx ⟨x2,rfl⟩;rw[fW] at hx;obtain⟨q,hq',rfl⟩:=kO.mp hx;have H:=hq q (gL hq');refine⟨[BK,Q,s0 (cR q),ab],rfl,?_⟩;exact Wr (bU (ds:=[.dict kds,.tuple (q.2.map aX)]) (cU rfl (cU (bW (a:=cR q) (b:=.int 1) rfl rfl rfl) rfl)) (VZ b q.2 (by have:=H.few;omega) (by have:=H.way;omega))) ⟨_,.inl rfl,s0 (cR q),rfl⟩
  ·rintro _ ⟨x2,rfl⟩;exact⟨_,rfl,x2,rfl⟩
 rintro _ ⟨x2,rfl⟩;rw[14];refine gJ (fun ρ'=>∃ x2:L2.Slot,ρ'=[BK,Q,x2,aa (1,bG (iU B qs))]) ?_ ?_
 ·refine lR (xs:=qs) (q:=cR) (b0:=([]:List (List Int))) (fun ai q=>ai++oO B q) (fun k ai ρ'=>∃ x2:L2.Slot,ai.length≤700*k/\ρ'=[BK,Q,x2,aa (1,bG ai)]) (ix (lV rfl)) ⟨x2,by simp,rfl⟩ ?_ ?_
  ·rintro k q ai _ hx ⟨x2,ha,rfl⟩;have H:=hq q (gL hx);have hk:k<qs.length:=(dD.mp hx).1;have h7:=WN H;refine⟨[BK,Q,s0 (cR q),aa (1,bG ai)],rfl,?_⟩;refine Me (ds:=ai.map bI) (ts:=(oO B q).map bI) (bU (ds:=[cR q,bG (h9 (nJ B q.2))]) (cU rfl (cU (bU (ds:=[.dict kds,.tuple (q.2.map aX)]) (cU rfl (cU (bW (a:=cR q) (b:=.int 1) rfl rfl rfl) rfl)) (ZN b hB H)) rfl)) (Rx H.ok H.few H.nms (by rw[H.hd];exact hn) H.inn (fun m mm=>TN (Amg.mp mm)) (by rw[EC];have:=KR H;omega))) rfl (by simp;omega) ⟨_,.inl rfl,s0 (cR q),?_,?_⟩
   ·rw[mZ];omega
   ·show [BK,Q,s0 (cR q),aa (1,kN (ai.map bI++(oO B q).map bI))]=_;rw[← jC]
    rfl
  ·rintro _ ⟨x2,_,rfl⟩;refine⟨_,rfl,x2,?_⟩;rw[FB]
   rfl
 rintro _ ⟨x2,rfl⟩;refine oR ?_;have hw:∀ r∈iU B qs,r.length=n:=fun r m=>by
  obtain⟨q,mq,mr⟩:=BV.mp m;exact XB (hq q mq) mr
 have ax:=MC hq;have M':(gP (iU B qs)).length≤4096:=by
  have:=EY (iU B qs) [];have e:(gP (iU B qs)).length=((iU B qs).foldl fF []).length:=rfl;simp at this;omega
 refine kA (ρ:=[BK,Q,x2,s0 (bG (iU B qs))]) (bU (ds:=[bG (iU B qs)]) rfl (Oy (n:=n) ?_ hw M')) rfl;by_cases h0:1≤n
 ·exact .inl h0
 ·exact .inr (Ul fun r m=>by rw[hw r m];omega)
end
theorem WJ(f:α->β):∀ (xs:List α) (ai:List β),xs.foldl (fun a x=>a++[f x]) ai=ai++xs.map f
 |[],ai=>by simp
 |x::xs,ai=>by rw[oF,WJ f xs,eF,mF];rfl
theorem RS {γ:Type}(g:γ->β->γ)(f:α->List β):∀ (xs:List α) (ai:γ),xs.foldl (fun a x=>(f x).foldl g a) ai=(xs.flatMap f).foldl g ai
 |[],_=>rfl
 |x::xs,ai=>by rw[oF,RS g f xs,BX,HK]
theorem ER[DecidableEq α](ai:List α)(x:α):(fF ai x).length≤ai.length+1:=by
 unfold fF;split
 ·omega
 ·simp
abbrev j1 (ai:List (List Int)):aA:=.dict ((.none,.none)::ai.map ou)
section
variable {qs:List iM}
theorem Vt {q:iM}(hl:m.length=(bR q.2).length)(hn:∀ z,(.inr z:aP)∈q.1->z∈bR q.2)(h4:q.1.length≤1000)(A:List L2.Slot)(hA:A.length=3)(L4 y8:L2.Slot) :
  Goes (eP .s (bo (aB 3)) (bw 8) (bp .s (ao (b7 (dG "str") (aB 8))) (dR 7 .s (ah a5 (aB 6) (ah zF (aB 5) (aB 8)))) (dR 7 .s (aB 8)))) (A++[s0 (tK q.1),L4,s0 (.list ((bR q.2).map bD)),s0 (bI m),aa (1,.list []),y8]) fun o=>∃ x8:L2.Slot,o=.nx (A++[s0 (tK q.1),L4,s0 (.list ((bR q.2).map bD)),s0 (bI m),aa (1,lI (kI q m)),x8]):=by
 obtain⟨a0,a1,a2,rfl⟩:∃ a0 a1 a2,A=[a0,a1,a2]:=by
  match A,hA with
  |[a0,a1,a2],_=>exact⟨a0,a1,a2,rfl⟩
 refine lR (xs:=q.1) (q:=kD) (b0:=([]:List Int)) (fun ai k=>ai++[sI ((bR q.2).zip m) k]) (fun j ai ρ'=>∃ x8:L2.Slot,ai.length≤j/\ρ'=[a0,a1,a2,s0 (tK q.1),L4,s0 (.list ((bR q.2).map bD)),s0 (bI m),aa (1,lI ai),x8]) (ix (qT rfl)) ⟨y8,by simp,rfl⟩ ?_ ?_
 ·rintro j k ai _ hx ⟨x8,ha,rfl⟩;have hj:j<q.1.length:=(dD.mp hx).1;have mk:=gL hx;refine⟨[a0,a1,a2,s0 (tK q.1),L4,s0 (.list ((bR q.2).map bD)),s0 (bI m),aa (1,lI ai),s0 (kD k)],rfl,?_⟩;have t:bV .s (ao (b7 (dG "str") (aB 8))) [a0,a1,a2,s0 (tK q.1),L4,s0 (.list ((bR q.2).map bD)),s0 (bI m),aa (1,lI ai),s0 (kD k)]=aa (uu k):=gH (rQ (a:=kD k) rfl ((wA k).trans (by cases k<;>rfl)))
  cases k with
  |inl i=>
   refine lB t (mL (d:=.int i) (ds:=ai.map aR) rfl rfl (by simp;omega) ⟨_,.inl rfl,s0 (.int i),by simp;omega,?_⟩)
   show [a0,a1,a2,s0 (tK q.1),L4,s0 (.list ((bR q.2).map bD)),s0 (bI m),aa (1,kN (ai.map aR++[.int i])),s0 (.int i)]=_;rw[EA]
   rfl
  |inr z=>
   obtain⟨j',e1,e2⟩:=SX (hn z mk);have bg:j'<(bR q.2).length:=(dD.mp e2).1;have e3:m[j']?=aa (m[j']'(by omega)):=eW (by omega)
   have e4:=(JZ (KO q.2) hl.symm e2).trans e3;refine lN t (mL (d:=.int (m[j']'(by omega))) (ds:=ai.map aR) (bW (a:=bI m) (b:=.int j') rfl (bW (a:=.list ((bR q.2).map bD)) (b:=.str z) rfl rfl e1) (rU (by rw[fW,e3];rfl))) rfl (by simp;omega) ⟨_,.inl rfl,s0 (.str z),by simp;omega,?_⟩)
   show [a0,a1,a2,s0 (tK q.1),L4,s0 (.list ((bR q.2).map bD)),s0 (bI m),aa (1,kN (ai.map aR++[.int _])),s0 (.str z)]=_;rw[EA];show _=[a0,a1,a2,s0 (tK q.1),L4,s0 (.list ((bR q.2).map bD)),s0 (bI m),aa (1,lI (ai++[(dW ((bR q.2).zip m) z).getD 0])),s0 (.str z)];rw[e4]
   rfl
 ·rintro _ ⟨x8,_,rfl⟩;refine⟨x8,?_⟩;rw[WJ,BU]
  rfl
theorem Ks (b:Bk kds B wd)(hB:∀ t,(B t).Nodup)(hq:∀ q∈qs,QOk B n q)(hl:qs.length≤5)(hn:n≤1000):zW [.dict kds,.list (qs.map cR)]=aa (j1 (gP (iU B qs))):=by
 refine IH rfl ?_
 let BK:L2.Slot:=s0 (.dict kds)
 let Q:L2.Slot:=s0 (.list (qs.map cR))
 refine iV (n:=9) (d:=j1 []) rfl (by simp) ?_
 refine gJ (fun ρ'=>∃ x3 x4 x5 x6 x7 x8:L2.Slot,ρ'=[BK,Q,aa (9,j1 (gP (iU B qs))),x3,x4,x5,x6,x7,x8]) ?_ ?_
 ·refine lR (xs:=qs) (q:=cR) (b0:=([]:List (List Int))) (fun ai q=>(oO B q).foldl fF ai) (fun k ai ρ'=>∃ x3 x4 x5 x6 x7 x8:L2.Slot,ai.length≤700*k/\ρ'=[BK,Q,aa (9,j1 ai),x3,x4,x5,x6,x7,x8]) (ix (lV rfl)) ⟨ab,ab,ab,ab,ab,ab,by simp,rfl⟩ ?_ ?_
  ·rintro k q ai _ hx ⟨x3,x4,x5,x6,x7,x8,ha,rfl⟩;have H:=hq q (gL hx);have hk:k<qs.length:=(dD.mp hx).1
   let L4:L2.Slot:=s0 (.tuple (q.2.map aX))
   let O5:L2.Slot:=s0 (.list ((bR q.2).map bD))
   refine⟨[BK,Q,aa (9,j1 ai),s0 (tK q.1),L4,x5,x6,x7,x8],rfl,?_⟩;refine eG (ρ':=[BK,Q,aa (9,j1 ai),s0 (tK q.1),L4,O5,x6,x7,x8]) (lA (m:=.s) (bU (ds:=[.tuple (q.2.map aX)]) rfl (Nd H.ok (by have:=H.few;omega))) (by simp)) ?_
   have hsl:(h9 (nJ B q.2)).length≤700:=by rw[EC];exact KR H
   refine lR (xs:=h9 (nJ B q.2)) (q:=bI) (b0:=ai) (fun ai m=>fF ai (kI q m)) (fun j al ρ'=>∃ x6 x7 x8:L2.Slot,al.length≤700*k+j/\ρ'=[BK,Q,aa (9,j1 al),s0 (tK q.1),L4,O5,x6,x7,x8]) (ix (lV (bU (ds:=[.dict kds,.tuple (q.2.map aX)]) rfl (ZN b hB H)))) ⟨x6,x7,x8,by omega,rfl⟩ ?_ ?_
   ·rintro j m al _ hm ⟨x6,x7,x8,nu,rfl⟩;have hj:j<(h9 (nJ B q.2)).length:=(dD.mp hm).1;have hml:=TN (Amg.mp (gL hm));refine⟨[BK,Q,aa (9,j1 al),s0 (tK q.1),L4,O5,s0 (bI m),x7,x8],rfl,?_⟩;refine eG (ρ':=[BK,Q,aa (9,j1 al),s0 (tK q.1),L4,O5,s0 (bI m),aa (1,.list []),x8]) rfl ?_;refine gJ (fun ρ'=>∃ x8:L2.Slot,ρ'=[BK,Q,aa (9,j1 al),s0 (tK q.1),L4,O5,s0 (bI m),aa (1,lI (kI q m)),x8]) ?_ ?_
    ·exact(Vt hml H.inn (by rw[H.hd];exact hn) [BK,Q,aa (9,j1 al)] rfl L4 x8).mono fun o ⟨x8,e⟩=>⟨_,e,x8,rfl⟩
    ·rintro _ ⟨x8,rfl⟩;refine oR ?_;refine Sy (ρ:=[BK,Q,aa (9,j1 al),s0 (tK q.1),L4,O5,s0 (bI m),s0 (lI (kI q m)),x8]) (d:=.bool ae) (k:=(kI q m).map aR) (kds:=al.map ou) rfl rfl (bU (ds:=[lI (kI q m)]) rfl rfl) (tX _) (by have:=wN (kI q m);omega) rfl (by simp;omega) ⟨_,.inl rfl,s0 (bI m),s0 (lI (kI q m)),x8,?_,?_⟩
     ·have:=ER al (kI q m);omega
     ·rw[Ux]
      rfl
   ·rintro _ ⟨x6,x7,x8,nu,rfl⟩;refine⟨_,.inl rfl,s0 (tK q.1),L4,O5,x6,x7,x8,?_,?_⟩
    ·show((oO B q).foldl fF ai).length≤700*(k+1);unfold oO;rw[List.foldl_map];omega
    ·unfold oO;rw[List.foldl_map]
  ·rintro _ ⟨x3,x4,x5,x6,x7,x8,_,rfl⟩;refine⟨_,rfl,x3,x4,x5,x6,x7,x8,?_⟩;rw[RS]
   rfl
 rintro _ ⟨x3,x4,x5,x6,x7,x8,rfl⟩;refine oR ?_;exact kA (ρ:=[BK,Q,s0 (j1 (gP (iU B qs))),x3,x4,x5,x6,x7,x8]) (d:=j1 (gP (iU B qs))) rfl rfl
end
theorem Jv(h:f ρ=aa (.int a))(h2:g ρ=aa (.int b))(hb:0<b):ah bN f g ρ=aa (.int (a%b)):=by
 refine bW h h2 ?_;simp[bN,b8,hb]
theorem Kc(h:f ρ=aa (.int a))(b:Nat)(hb:0<b/\b<1000000):ah eE f (eC (.int b)) ρ=aa (.int (a/b)):=by
 refine bW (b:=.int b) h rfl ?_;have h1:0<b/\(b:Int)<1073741824:=by omega
 simp[eE,b8];omega
theorem Hb (n:Nat):bz (.int n) (.int 0)=aa (.bool (decide (0<n))):=by
 show aa (qE (decide ((0:Int)<(n:Int))))=_
 congr 2
 rw[pK];simp
abbrev xi (ks:List aP):aA:=.list (ks.map kD)
def ID (ts:List (aE×Nat))(zs:List aE)(n:Nat)(q:iM):Prop:=q.1.length=n/\q.2.length≤4/\(∀ l∈q.2,o7 ts zs l)/\∀ z,(.inr z:aP)∈q.1->z∈bR q.2
theorem sW {c k:Int}(h0:0≤k)(h1:k≤1000000){fc fk:EF}(ec:fc ρ=aa (.int c))(ek:fk ρ=aa (.int k))(hg:g ρ=aa (.int b))(hb:0<b):ah bN (aN dJ (aG fc (aG fk aK))) g ρ=aa (.int (bY c k%b)):=
 Jv (bU (ds:=[.int c,.int k]) (cU ec (cU ek rfl)) (jF c k h0 h1)) hg hb
section
variable {ps:List Int}
theorem QJ (ht:∀ t∈ts,nameS t.1/\1≤t.2/\t.2≤6)(xc:∀ z∈zs,nameS z){l:Ln}(h:o7 ts zs l):nK l:=⟨(ht _ h.1).2.2,fun k mk=>by
 cases k with
 |inl i=>simp[kD,dS]
 |inr z=>exact(xc z (h.2 z mk)).lay⟩
theorem Qi (h0:0<ts.length)(ht:∀ t∈ts,nameS t.1/\1≤t.2/\t.2≤6)(L7:0<zs.length)(xc:∀ z∈zs,nameS z)(hp:ps.length=6) :
  ∃ (qs:List iM) (n:Nat),xE [.list (ns.map aR),.list (ts.map fG),.list (zs.map bD),.list (ps.map aR)]=aa (.list (qs.map cR))/\qs.length≤3/\n≤4/\∀ q∈qs,ID ts zs n q:=by
 suffices h:∃ d,xE [.list (ns.map aR),.list (ts.map fG),.list (zs.map bD),.list (ps.map aR)]=aa d/\∃ (qs:List iM) (n:Nat),d=.list (qs.map cR)/\qs.length≤3/\n≤4/\∀ q∈qs,ID ts zs n q by
  obtain⟨_,e,qs,n,rfl,q⟩:=h;exact⟨qs,n,e,q⟩
 rw[26]
 let sc:aA:=.list (ns.map aR)
 obtain⟨c3,e3⟩:=nM (ns:=ns) (k:=3) (by decide) (by decide)
 obtain⟨n,en⟩:=kS (gD (bY c3 9) (show(0:Int)<5 by decide)).1
 have hn:n≤4:=by have:=(gD (bY c3 9) (show(0:Int)<5 by decide)).2;omega
 obtain⟨cnt,No⟩:=kS (gD (bY c3 10) (show(0:Int)<4 by decide)).1
 have hcnt:cnt≤3:=by have:=(gD (bY c3 10) (show(0:Int)<4 by decide)).2;omega
 let S:L2.Slot:=s0 sc
 let T1:L2.Slot:=s0 (.list (ts.map fG))
 let Z2:L2.Slot:=s0 (.list (zs.map bD))
 let P3:L2.Slot:=s0 (.list (ps.map aR))
 let N4:L2.Slot:=s0 (.int n)
 refine eG (ρ':=[S,T1,Z2,P3,N4,ab,ab,ab,ab,ab,ab,ab]) (lA (m:=.s) ((sW (c:=c3) (k:=9) (by decide) (by decide) (bU (ds:=[sc,.int 3]) rfl e3) rfl (b:=5) rfl (by decide)).trans (by rw[en])) (by simp)) ?_
 refine eG (ρ':=[S,T1,Z2,P3,N4,aa (1,.list []),ab,ab,ab,ab,ab,ab]) rfl ?_
 let I:Nat->bM->Prop:=fun k ρ'=>∃ (qs:List iM) (x6 x7 x8 x9 iw br:L2.Slot),qs.length=k/\(∀ q∈qs,ID ts zs n q)/\ρ'=[S,T1,Z2,P3,N4,aa (1,.list (qs.map cR)),x6,x7,x8,x9,iw,br]
 refine gJ (I cnt) ?_ ?_
 ·refine tU (n:=cnt) I (ix (oV (cU ((sW (c:=c3) (k:=10) (by decide) (by decide) (bU (ds:=[sc,.int 3]) rfl e3) rfl (b:=4) rfl (by decide)).trans (by rw[No])) rfl) (by omega))) ⟨[],ab,ab,ab,ab,ab,ab,rfl,by simp,rfl⟩ ?_ (fun ρ' h=>⟨_,rfl,h⟩)
  rintro k _ hk ⟨qs,x6,x7,x8,x9,iw,br,hl,hq,rfl⟩
  let Q5:L2.Slot:=aa (1,.list (qs.map cR))
  refine⟨[S,T1,Z2,P3,N4,Q5,s0 (.int k),x7,x8,x9,iw,br],rfl,?_⟩;obtain⟨c,ec⟩:=nM (ns:=ns) (k:=4+14*(k:Int)) (by omega) (by omega)
  refine eG (ρ':=[S,T1,Z2,P3,N4,Q5,s0 (.int k),s0 (.int c),x8,x9,iw,br]) (lA (m:=.s) (bU (ds:=[sc,.int (4+14*(k:Int))]) (cU rfl (cU (bW (a:=.int 4) (b:=.int (14*(k:Int))) rfl (by simp[bh,aY,bE,cQ,eU,bp,dR,gM,fM,fT,eK,frz,dC,eV,bV,aV,vS,vA,ah,b7,aB,eC,aN,fR,dE,aG,aK,ao,fH,eT,f7,c7,fZ,iz,gZ,fI,gR,iy,bw,getL,fQ,outD,bo,itemsOf,bL,fN,cW,bN,eE,gA,eu,b8,f9,i5,bz,i4,cI,dG,fC,gb,eZ,gC,fK,cq,dg,cM,noDict,noDicts,dQ,bX,bQ,dY,cT,dF,gB]) rfl) rfl)) ec) (by simp)) ?_
  obtain⟨lc,elc⟩:=kS (gD (bY c 11) (show(0:Int)<5 by decide)).1
  have hlc:lc≤4:=by have:=(gD (bY c 11) (show(0:Int)<5 by decide)).2;omega
  obtain⟨_,el,ls,rfl,hll,uo⟩:=Uh (ns:=ns) (ts:=ts) (zs:=zs) (ps:=ps) (st:=5+14*k) (cnt:=lc) (by omega) (by omega) h0 ht L7 hp
  have hok:∀ l∈ls,nK l:=fun l m=>QJ ht xc (uo l m)
  refine eG (ρ':=[S,T1,Z2,P3,N4,Q5,s0 (.int k),s0 (.int c),s0 (.list (ls.map aX)),x9,iw,br]) (lA (m:=.s) (bU (ds:=[sc,.int ((5+14*k:Nat):Int),.list (ts.map fG),.list (zs.map bD),.list (ps.map aR),.int lc]) (cU rfl (cU ((bW (a:=.int 5) (b:=.int (14*(k:Int))) rfl (by simp[bh,aY,bE,cQ,eU,bp,dR,gM,fM,fT,eK,frz,dC,eV,bV,aV,vS,vA,ah,b7,aB,eC,aN,fR,dE,aG,aK,ao,fH,eT,f7,c7,fZ,iz,gZ,fI,gR,iy,bw,getL,fQ,outD,bo,itemsOf,bL,fN,cW,bN,eE,gA,eu,b8,f9,i5,bz,i4,cI,dG,fC,gb,eZ,gC,fK,cq,dg,cM,noDict,noDicts,dQ,bX,bQ,dY,cT,dF,gB]) rfl).trans (by rw[show((5+14*k:Nat):Int)=5+14*(k:Int) by omega])) (cU rfl (cU rfl (cU rfl (cU (g:=aK) ((sW (c:=c) (k:=11) (by decide) (by decide) rfl rfl (b:=5) rfl (by decide)).trans (by rw[elc])) rfl)))))) el) (by simp)) ?_
  let L8:L2.Slot:=s0 (.list (ls.map aX))
  let O9:L2.Slot:=s0 (.list ((bR ls).map bD))
  refine eG (ρ':=[S,T1,Z2,P3,N4,Q5,s0 (.int k),s0 (.int c),L8,O9,iw,br]) (lA (m:=.s) (bU (ds:=[.list (ls.map aX)]) rfl (Xj hok (by omega))) (by simp)) ?_
  refine eG (ρ':=[S,T1,Z2,P3,N4,Q5,s0 (.int k),s0 (.int c),L8,O9,aa (1,xi []),br]) rfl ?_
  let J:Nat->bM->Prop:=fun j ρ'=>∃ (hd:List aP) (br:L2.Slot),hd.length=j/\(∀ z,(.inr z:aP)∈hd->z∈bR ls)/\ρ'=[S,T1,Z2,P3,N4,Q5,s0 (.int k),s0 (.int c),L8,O9,aa (1,xi hd),br]
  refine gJ (J n) ?_ ?_
  ·refine tU (n:=n) J (ix (oV rfl (by omega))) ⟨[],br,rfl,by simp,rfl⟩ ?_ (fun ρ' h=>⟨_,rfl,h⟩)
   rintro j _ hj ⟨hd,br,C9,oh,rfl⟩
   let R:bM:=[S,T1,Z2,P3,N4,Q5,s0 (.int k),s0 (.int c),L8,O9,aa (1,xi hd),s0 (.int j)]
   refine⟨R,rfl,?_⟩;have t1:ao (ah bz (aN cI (aG (aB 9) aK)) (eC (.int 0))) (vS R)=aa (decide (0<(bR ls).length)):=gH (bW (a:=.int (bR ls).length) (b:=.int 0) (bU (ds:=[.list ((bR ls).map bD)]) rfl (by simp[cI])) rfl (Hb _))
   have t2:ao (ah bz (ah bN (aN dJ (aG (aB 7) (aG (ah bL (eC (.int 12)) (aB 11)) aK))) (eC (.int 4))) (eC (.int 0))) (vS R)=aa (decide (bY c (12+(j:Int))%4 > 0)):=gH (bW (a:=.int (bY c (12+(j:Int))%4)) (b:=.int 0) (sW (c:=c) (k:=12+(j:Int)) (by omega) (by omega) rfl (bW (a:=.int 12) (b:=.int j) rfl rfl rfl) (b:=4) rfl (by decide)) rfl rfl)
   have tb:=rV t1 fun _=>t2
   by_cases q:(decide (0<(bR ls).length)&&decide (bY c (12+(j:Int))%4 > 0))=ae
   ·have so:0<(bR ls).length:=of_decide_eq_true (kT.mp q).1;obtain⟨i,d,hi,e⟩:=IT (ds:=(bR ls).map bD) (bY c (16+(j:Int))) (by simpa using so)
    rw[fW] at hi;obtain⟨z,hz,rfl⟩:=kO.mp hi;refine lN (tb.trans (by rw[q])) (mL (d:=.str z) (ds:=hd.map kD) (bW (a:=.list ((bR ls).map bD)) (b:=.int (bY c (16+(j:Int))%(bR ls).length)) rfl (sW (c:=c) (k:=16+(j:Int)) (by omega) (by omega) rfl (bW (a:=.int 16) (b:=.int j) rfl rfl rfl) (b:=(bR ls).length) (bU (ds:=[.list ((bR ls).map bD)]) rfl (by simp[cI])) (by omega)) (by simpa [a5] using e)) rfl (by simp;omega) ⟨_,.inl rfl,hd++[.inr z],s0 (.int j),by simp[C9],fun y my=>?_,?_⟩)
    ·rcases kR.mp my with my|my
     ·exact oh y my
     ·have:y=z:=by simpa using my
      rw[this];exact gL hz
    ·show [S,T1,Z2,P3,N4,Q5,s0 (.int k),s0 (.int c),L8,O9,aa (1,kN (hd.map kD++[.str z])),s0 (.int j)]=_;rw[show hd.map kD++[bD z]=(hd++[(.inr z:aP)]).map kD by rw[jC];rfl]
   ·have b4:=gD (bY c (20+(j:Int))) (show(0:Int)<4 by decide)
    obtain⟨i,ei⟩:=kS b4.1;have hi:i<ps.length:=by omega
    refine lB (tb.trans (by rw[Bool.eq_false_iff.mpr q])) (mL (d:=.int (ps[i])) (ds:=hd.map kD) (bW (a:=.list (ps.map aR)) (b:=.int i) rfl ((sW (c:=c) (k:=20+(j:Int)) (by omega) (by omega) rfl (bW (a:=.int 20) (b:=.int j) rfl rfl rfl) (b:=4) rfl (by decide)).trans (by rw[ei])) (wF (q:=aR) (eW hi))) rfl (by simp;omega) ⟨_,.inl rfl,hd++[.inl ps[i]],s0 (.int j),by simp[C9],fun y my=>?_,?_⟩)
    ·rcases kR.mp my with my|my
     ·exact oh y my
     ·simp at my
    ·show [S,T1,Z2,P3,N4,Q5,s0 (.int k),s0 (.int c),L8,O9,aa (1,kN (hd.map kD++[.int ps[i]])),s0 (.int j)]=_;rw[show hd.map kD++[aR ps[i]]=(hd++[(.inl ps[i]:aP)]).map kD by rw[jC];rfl]
  rintro _ ⟨hd,br,C9,oh,rfl⟩;refine oR ?_;refine mL (ρ:=[S,T1,Z2,P3,N4,Q5,s0 (.int k),s0 (.int c),L8,O9,s0 (xi hd),br]) (d:=cR (hd,ls)) (ds:=qs.map cR) (Jj (ds:=[tK hd,.tuple (ls.map aX)]) (cU (bU (ds:=[xi hd]) rfl rfl) (cU (bU (ds:=[.list (ls.map aX)]) rfl rfl) rfl))) rfl (by simp;omega) ⟨_,.inl rfl,qs++[(hd,ls)],s0 (.int k),s0 (.int c),L8,O9,s0 (xi hd),br,by simp[hl],fun q mq=>?_,?_⟩
  ·rcases kR.mp mq with mq|mq
   ·exact hq q mq
   ·rw[eB.mp mq];exact⟨C9,by show ls.length≤4;omega,uo,oh⟩
  ·rw[jC]
   rfl
 rintro _ ⟨qs,x6,x7,x8,x9,iw,br,hl,hq,rfl⟩;exact⟨_,rfl,_,rfl,qs,n,rfl,by omega,hn,hq⟩
end
theorem Kg {L:List Tb}(ly:∀ p∈L,dS (.str p.1)=ae)(e:f ρ=aa (.dict (bq L))):D6 f ρ=aa ((bq L).map (·.1)):=by
 unfold D6;rw[e];show(if (gw (bq L)&&(bq L).all fun kd=>dS kd.1)=ae then aa ((bq L).map (·.1)) else ab)=_
 rw[CT,Dl,if_pos (gQ.mpr fun kd m=>by
  obtain⟨p,mp,rfl⟩:=cN.mp m;exact ly p mp)]
theorem take_all (L:List Tb):L.take ((bq L).map (·.1)).length=L:=uT (by simp[bq])
theorem ZW{m:Nat}(h1:1≤m)(h:∀ t,(B t).length≤m):∀ ls:List Ln,fX B ls≤m^ls.length
 |[]=>bZ _
 |l::r=>by
  show max 1 (B l.1).length*fX B r≤m^(r.length+1);rw[BM,Nat.mul_comm];exact Cd (ZW h1 h r) (Nat.max_le.mpr ⟨h1,h l.1⟩)
theorem VS:∀ {ls:List Ln},(∀ l∈ls,nK l)->(ls.flatMap fun l=>rN l.2).length≤6*ls.length
 |[],_=>by simp
 |l::r,h=>by
  rw[BX,mZ,iB];have h1:=VS fun l m=>h l (cS _ m)
  have h2:=(h l cF).1;have h3:(rN l.2).length≤l.2.length:=Cq _ _;omega
theorem ZC (L:List Tb)(t:aE):jb L t=[]\/∃ p∈L,p.1=t/\jb L t=p.2:=by
 by_cases h:t∈L.map (·.1)
 ·obtain⟨p,hp⟩:=find_key h;refine .inr ⟨p,HC hp,by simpa using Ct hp,?_⟩
  unfold jb;rw[hp]
  rfl
 ·exact .inl (Jl h)
theorem Yc (l l':Ln):bQ (aX l) (aX l')=decide (l=l'):=by
 have e1:=KW (.inr l.1) (.inr l'.1);have e1:bQ (.str l.1) (.str l'.1)=decide (l.1=l'.1):=e1.trans (by simp)
 have e2:=MF l.2 l'.2;have:bQ (aX l) (aX l')=(bQ (.str l.1) (.str l'.1)&&jO (l.2.map kD) (l'.2.map kD)):=by
  simp[aX,bQ,jO]
 rw[this,e1,e2,pK];simp[Prod.ext_iff]
theorem RI (l:Ln):noDict (aX l)=ae/\(aX l).depth≤5:=by
 have h1:=YD l.2;have h2:=XZ l.2;constructor
 ·simp[aX,noDict,noDicts,h1]
 ·simp[aX,dQ,bX];omega
instance memLn (a:Ln)(xs:List Ln):Decidable (a∈xs):=Zv _
theorem XJ:∀ ls:List Ln,jO (ls.map aX) (ls.map aX)=ae
 |[]=>by simp[jO]
 |l::ls=>by
  rw[eF];have h1:=Yc l l;have h2:=XJ ls;simp only[jO,h1,h2];simp
theorem KS (q:iM):noDict (cR q)=ae/\(cR q).depth≤10/\bQ (cR q) (cR q)=ae:=by
 obtain⟨hd,ls⟩:=q;have k1:=XZ hd;have k2:=YD hd;have k3:=MF hd hd;have l1:noDicts (ls.map aX)=ae:=uA fun t m=>by
  obtain⟨x,_,rfl⟩:=cN.mp m;exact(RI x).1
 have l2:bX (ls.map aX)≤5:=tY fun t m=>by
  obtain⟨x,_,rfl⟩:=cN.mp m;exact(RI x).2
 have l3:=XJ ls;refine⟨?_,?_,?_⟩
 ·simp[cR,noDict,noDicts,k2,l1]
 ·simp[cR,dQ,bX];omega
 ·simp[cR,bQ,jO,k3,l3]
theorem WH:∀ qs:List iM,jO (qs.map cR) (qs.map cR)=ae
 |[]=>by simp[jO]
 |q::qs=>by
  rw[eF];simp only[jO,(KS q).2.2,WH qs,yH]
theorem Kr (qs:List iM):dg (.list (qs.map cR)) (.list (qs.map cR))=aa (.bool af):=by
 have h1:noDicts (qs.map cR)=ae:=uA fun t m=>by
  obtain⟨x,_,rfl⟩:=cN.mp m;exact(KS x).1
 have h2:bX (qs.map cR)≤10:=tY fun t m=>by
  obtain⟨x,_,rfl⟩:=cN.mp m;exact(KS x).2.1
 have ok:cM (.list (qs.map cR))=ae:=by
  simp[cM,noDict,h1,dQ];omega
 have e:bQ (.list (qs.map cR)) (.list (qs.map cR))=jO (qs.map cR) (qs.map cR):=by simp only[bQ]
 unfold dg;rw[ok,yH,if_pos rfl,e,WH]
 rfl
theorem Uo {ρ:bM}{ts:List aA}(h:f (vS ρ)=aa (.tuple ts))(hg:getL i ρ=aa ds)(hl:ds.length+ts.length≤100000)(k:P (.nx (ρ.set i (aa (1,.list (ds++ts)))))):Goes (tD i .s f) ρ P:=⟨_,by
 have h':eV 0 .s f ρ=aa (.tuple ts):=h;unfold tD;rw[h',dB,hg,dB];show(if ds.length+ts.length≤sizeLine then aa (Out.nx (ρ.set i (aa (1,.list (ds++ts))))) else ab)=_
 rw[if_pos (nQ hl)],k⟩
theorem US:∀ is:List Int,uF (is.map aR)=aa is
 |[]=>rfl
 |i::is=>by
  show((uF (is.map aR)).bind fun r=>aa (i::r))=_
  rw[US is]
  rfl
theorem RC (ai:List (List Int)):AR [j1 ai]=aa (.int ai.length):=by
 show aa (aR ((ai.map ou).length:Int))=_;rw[eY]
theorem Ew (ai:List (List Int))(r:List Int):l4 ae (bI r) (j1 ai)=aa (.bool (ae != decide (r∈ai))):=by
 show(if (cA (r.map aR)&&decide (bX (r.map aR)≤6))=ae then aa (qE (ae != (nH (ai.map ou) (r.map aR)).isSome)) else ab)=_
 rw[tX,decide_eq_true (by have:=wN r;omega),yH,if_pos rfl,TQ]
theorem Ie (ns:List Int)(E8:ns.length≤63):IE [.list (ns.map aR)]=aa (.bool ae):=by
 refine IH rfl ?_
 let sc:aA:=.list (ns.map aR)
 obtain⟨c0,ec0⟩:=nM (ns:=ns) (k:=0) (by decide) (by decide)
 obtain⟨c1,ec1⟩:=nM (ns:=ns) (k:=1) (by decide) (by decide)
 obtain⟨c2,zo⟩:=nM (ns:=ns) (k:=2) (by decide) (by decide)
 obtain⟨c3,ec3⟩:=nM (ns:=ns) (k:=3) (by decide) (by decide)
 obtain⟨dt,et,ts,rfl,htl,vp,U6⟩:=Mz c0 (n:=3) (by decide)
 obtain⟨u,hu⟩:=kS (gD (bY c3 8) (show(0:Int)<3 by decide)).1
 have T':u≤2:=by have:=(gD (bY c3 8) (show(0:Int)<3 by decide)).2;omega
 obtain⟨zs,ez,hzl,xc,_⟩:=TF c1 (n:=4+3*(u/2)) (by omega)
 obtain⟨ps,ep,gs⟩:=Mc c2;obtain⟨qs,n,eq,hql,hn4,zr⟩:=Qi (ns:=ns) (ts:=ts) (zs:=zs) (ps:=ps) (by omega) vp (by omega) xc gs
 let LS:List Ln:=qs.flatMap (·.2)
 have U7:∀ l∈LS,o7 ts zs l:=fun l m=>by
  obtain⟨q,mq,ml⟩:=BV.mp m;exact(zr q mq).2.2.1 l ml
 have hok:∀ {l:Ln},o7 ts zs l->nK l:=fun h=>QJ vp xc h
 have sw:∀ xs:List iM,(∀ q∈xs,q.2.length≤4)->(xs.flatMap (·.2)).length≤4*xs.length:=fun xs=>by
  induction xs with
  |nil=>intro _;simp
  |cons x xs ih=>
   intro h;have a:=h x cF;have b:=ih fun q m=>h q (cS _ m)
   rw[BX,mZ,iB];omega
 have hLl:LS.length≤12:=by have:=sw qs fun q m=>(zr q m).2.1;show(qs.flatMap (·.2)).length≤12;omega
 let j4:List Int:=0::qs.map fun q=>(q.2.length:Int)
 let big:Bool:=decide (jW j4 > 2)
 let most:Nat:=if big=ae then 5 else 12
 have uq:most≤63/\1≤most:=by
  show(if big=ae then 5 else 12)≤63/\1≤(if big=ae then 5 else 12)
  split<;>omega
 have NE:∀ q∈qs,most^q.2.length≤700:=fun q mq=>by
  have h4:=(zr q mq).2.1;show(if big=ae then 5 else 12)^q.2.length≤700
  split
  ·exact jV (Nat.pow_le_pow_right (by omega) h4) (by decide)
  ·rename_i hb;have lr:(q.2.length:Int)≤jW j4:=JT (cS _ (cN.mpr ⟨q,mq,rfl⟩));have:¬ jW j4 > 2:=fun z=>hb (decide_eq_true z)
   exact jV (Nat.pow_le_pow_right (by omega) (show q.2.length≤2 by omega)) (by decide)
 obtain⟨L,eL,gj,hL⟩:=Tx (ns:=ns) (st:=47) (most:=most) (ts:=ts) (ls:=LS) (zs:=zs) (ps:=ps) (by decide) uq.1 gs (fun t m=>(vp t m).2.2) (by omega) U6 (fun l m=>⟨U7 l m,(hok (U7 l m)).1⟩) (by omega) (by omega)
 have ly:∀ p∈L,dS (.str p.1)=ae:=fun p mp=>by
  obtain⟨w,mw,_⟩:=hL p mp;exact(vp _ mw).1.lay
 let wd:aE->Nat:=fun t=>((ts.find? fun q=>decide (q.1=t)).map (·.2)).getD 1
 have hwd:∀ t w,(t,w)∈ts->wd t=w:=fun t w m=>by
  show((ts.find? fun q=>decide (q.1=t)).map (·.2)).getD 1=w
  cases hf:ts.find? fun q=>decide (q.1=t) with
  |none=>
   have:=HL.mp hf _ m;simp at this
  |some q=>
   have hq:q.1=t:=by simpa using Ct hf
   have mq:=HC hf;exact XO U6 (show(t,q.2)∈ts by rw[← hq];exact mq) m
 have so:∀ t,1≤wd t:=fun t=>by
  show 1≤((ts.find? fun q=>decide (q.1=t)).map (·.2)).getD 1
  cases hf:ts.find? fun q=>decide (q.1=t) with
  |none=>exact bZ _
  |some q=>exact(vp q (HC hf)).2.1
 have bk:Bk (bq L) (jb L) wd:=bkL so fun p mp=>by
  obtain⟨w,mw,g1,g2,g3⟩:=hL p mp;exact⟨by omega,fun r mr=>by rw[hwd p.1 w mw];exact g3 r mr⟩
 have hB:∀ t,(jb L t).Nodup:=fun t=>by
  rcases ZC L t with e|⟨p,mp,_,e⟩
  ·rw[e];simp
  ·rw[e];obtain⟨w,_,g1,_⟩:=hL p mp;exact g1
 have gi:∀ t,(jb L t).length≤most:=fun t=>by
  rcases ZC L t with e|⟨p,mp,_,e⟩
  ·rw[e];simp
  ·rw[e];obtain⟨w,_,_,g2,_⟩:=hL p mp;exact g2
 have hQ:∀ q∈qs,QOk (jb L) n q:=fun q mq=>by
  obtain⟨g1,g2,g3,g4⟩:=zr q mq;have ok:∀ l∈q.2,nK l:=fun l m=>hok (g3 l m)
  refine⟨ok,by omega,jV (ZW uq.2 gi q.2) (NE q mq),?_,g1,g4⟩
  have h1:=EY (q.2.flatMap fun l=>rN l.2) []
  have h2:=VS ok;have h3:(bR q.2).length≤([]:List aE).length+(q.2.flatMap fun l=>rN l.2).length:=h1
  simp only[List.length_nil] at h3;omega
 have eO:=Ks bk hB hQ (by omega) (by omega)
 have eA:=WT bk hB hQ (by omega) (by omega)
 have eA0:rY [.dict (bq L),.list []]=aa (bG []):=(WT (qs:=[]) (n:=0) bk hB (fun _ m=>by simp at m) (by simp) (by omega)).trans (by rw[show h9 (gP (iU (jb L) []))=[] from List.perm_nil.mp (ES _)])
 have M':(gP (iU (jb L) qs)).length≤4096:=by
  have h1:=EY (iU (jb L) qs) [];have h2:=MC hQ;have e:(gP (iU (jb L) qs)).length=((iU (jb L) qs).foldl fF []).length:=rfl;simp at h1;omega
 have Db:∀ r∈gP (iU (jb L) qs),r.length=n:=fun r m=>by
  obtain⟨q,mq,mr⟩:=BV.mp (Aju.mp m);exact XB (hQ q mq) mr
 have up:=Gv Db (JD _);generalize gP (iU (jb L) qs)=OW at eO eA M' Db up;have N0:(h9 OW).length=OW.length:=EC ..;have N3:∀ r∈h9 OW,r∈OW:=fun r m=>Amg.mp m
 generalize h9 OW=SS at eA up N0 N3
 let N:L2.Slot:=ab
 let S:L2.Slot:=s0 sc
 let T1:L2.Slot:=s0 (.list (ts.map fG))
 let Z2:L2.Slot:=s0 (.list (zs.map bD))
 let P3:L2.Slot:=s0 (.list (ps.map aR))
 let Q4:L2.Slot:=s0 (.list (qs.map cR))
 let L5:L2.Slot:=s0 (.list (LS.map aX))
 let M7:L2.Slot:=s0 (.int most)
 let B8:L2.Slot:=s0 (.dict (bq L))
 refine eG (ρ':=[S,T1,N,N,N,N,N,N,N,N,N,N,N,N,N]) (lA (m:=.s) (bU (ds:=[.int c0,.int 3]) (cU (bU (ds:=[sc,.int 0]) rfl ec0) rfl) et) (by simp)) ?_
 refine eG (ρ':=[S,T1,Z2,N,N,N,N,N,N,N,N,N,N,N,N]) (lA (m:=.s) (bU (ds:=[.int c1,.int ((4+3*(u/2):Nat):Int)]) (cU (bU (ds:=[sc,.int 1]) rfl ec1) (cU ((bW (a:=.int 4) (b:=.int (3*((u:Int)/2))) rfl (bW (a:=.int 3) (b:=.int ((u:Int)/2)) rfl ((Kc (a:=u) ((sW (c:=c3) (k:=8) (by decide) (by decide) (bU (ds:=[sc,.int 3]) rfl ec3) rfl (b:=3) rfl (by decide)).trans (by rw[hu])) 2 (by omega))) (by simp[cW,b8])) rfl).trans (by
  rw[show((4+3*(u/2):Nat):Int)=4+3*((u:Int)/2) by omega])) rfl)) ez) (by simp)) ?_
 refine eG (ρ':=[S,T1,Z2,P3,N,N,N,N,N,N,N,N,N,N,N]) (lA (m:=.s) (bU (ds:=[.int c2]) (cU (bU (ds:=[sc,.int 2]) rfl zo) rfl) ep) (by simp)) ?_
 refine eG (ρ':=[S,T1,Z2,P3,Q4,N,N,N,N,N,N,N,N,N,N]) (lA (m:=.s) (bU (ds:=[sc,.list (ts.map fG),.list (zs.map bD),.list (ps.map aR)]) rfl eq) (by simp)) ?_
 refine eG (ρ':=[S,T1,Z2,P3,Q4,aa (1,.list []),N,N,N,N,N,N,N,N,N]) rfl ?_;refine gJ (fun ρ'=>∃ x6:L2.Slot,ρ'=[S,T1,Z2,P3,Q4,aa (1,.list (LS.map aX)),x6,N,N,N,N,N,N,N,N]) ?_ ?_
 ·refine lR (xs:=qs) (q:=cR) (b0:=([]:List Ln)) (fun ai q=>ai++q.2) (fun k ai ρ'=>∃ x6:L2.Slot,ai.length≤4*k/\ρ'=[S,T1,Z2,P3,Q4,aa (1,.list (ai.map aX)),x6,N,N,N,N,N,N,N,N]) (ix (lV rfl)) ⟨N,by simp,rfl⟩ ?_ ?_
  ·rintro k q ai _ hx ⟨x6,ha,rfl⟩;have h4:=(zr q (gL hx)).2.1;have hk:k<qs.length:=(dD.mp hx).1;refine⟨[S,T1,Z2,P3,Q4,aa (1,.list (ai.map aX)),s0 (cR q),N,N,N,N,N,N,N,N],rfl,?_⟩;refine Uo (ds:=ai.map aX) (ts:=q.2.map aX) (bW (a:=cR q) (b:=.int 1) rfl rfl rfl) rfl (by simp;omega) ⟨_,.inl rfl,s0 (cR q),by simp;omega,?_⟩
   show [S,T1,Z2,P3,Q4,aa (1,kN (ai.map aX++q.2.map aX)),s0 (cR q),N,N,N,N,N,N,N,N]=_;rw[← jC]
  ·rintro _ ⟨x6,_,rfl⟩;refine⟨_,rfl,x6,?_⟩;rw[FB]
   rfl
 rintro _ ⟨x6,rfl⟩;refine oR ?_;show Goes _ [S,T1,Z2,P3,Q4,L5,x6,N,N,N,N,N,N,N,N] _;refine eG (ρ':=[S,T1,Z2,P3,Q4,L5,x6,M7,N,N,N,N,N,N,N]) (lA (m:=.s) ?_ (by simp)) ?_
 ·have lc:=DK (cap:=[ab]) (fi:=bo (aB 4)) (T:=gB 0) (t:=dF) (f:=aN cI (aG (ah a5 (aB 0) (eC (.int 1))) aK)) (ρ:=vS [S,T1,Z2,P3,Q4,L5,x6,N,N,N,N,N,N,N,N]) (xs:=qs) (q:=cR) (fun _=>ae) (fun q=>.int (q.2.length:Int)) (lV rfl) (by omega) (fun q m=>⟨[aa (cR q)],rfl,rfl,fun _=>bU (ds:=[.tuple (q.2.map aX)]) (cU (bW (a:=cR q) (b:=.int 1) rfl rfl rfl) rfl) (by rw[JL,eY])⟩)
  rw[OM.mpr fun _ _=>rfl] at lc
  have e1:qs.map (fun q=>aR (q.2.length:Int))=(qs.map fun q=>(q.2.length:Int)).map aR:=by rw[gY];rfl
  rw[e1] at lc;have mx:yR [.list (j4.map aR)]=aa (.int (jW j4)):=by
   show((uF (j4.map aR)).bind fun is=>if is≠[] then aa (aR (jW is)) else ab)=_
   rw[US,dB,if_pos (by simp[j4])]
  have gt:ah bz (aN yR (aG (ah oM (dE (aG (eC (.int 0)) aK)) (i8 [ab] (bo (aB 4)) (gB 0) dF (aN cI (aG (ah a5 (aB 0) (eC (.int 1))) aK)))) aK)) (eC (.int 2)) (vS [S,T1,Z2,P3,Q4,L5,x6,N,N,N,N,N,N,N,N])=aa (.bool big):=bW (a:=.int (jW j4)) (b:=.int 2) (bU (ds:=[.list (j4.map aR)]) (cU (bW (a:=.list [.int 0]) (b:=.list ((qs.map fun q=>(q.2.length:Int)).map aR)) (IP (ds:=[.int 0]) rfl) lc ((IF (by simp;omega)).trans rfl)) rfl) mx) rfl rfl
  refine bW (a:=.int 12) (b:=.int (7*(if big=ae then 1 else 0))) rfl (bW (a:=.int 7) (b:=.int (if big=ae then 1 else 0)) rfl (bU (ds:=[.bool big]) (cU gt rfl) ?_) ?_) ?_
  ·cases big<;>rfl
  ·cases big<;>rfl
  ·show aa (aR (12-7*(if big=ae then 1 else 0)))=aa (aR (((if big=ae then 5 else 12:Nat)):Int))
   cases big<;>rfl
 refine eG (ρ':=[S,T1,Z2,P3,Q4,L5,x6,M7,B8,N,N,N,N,N,N]) (lA (m:=.s) (bU (ds:=[sc,.int ((47:Nat):Int),.list (ts.map fG),.list (LS.map aX),.list (zs.map bD),.list (ps.map aR),.int most]) rfl eL) (by simp)) ?_
 refine eG (ρ':=[S,T1,Z2,P3,Q4,L5,x6,M7,B8,Q4,N,N,N,N,N]) (lA (m:=.s) (bU (ds:=[.list (qs.map cR)]) rfl rfl) (by simp)) ?_
 refine eG (ρ':=[S,T1,Z2,P3,Q4,L5,x6,M7,B8,Q4,aa (1,.dict (bq [])),N,N,N,N]) rfl ?_;refine gJ (fun ρ'=>∃ br:L2.Slot,ρ'=[S,T1,Z2,P3,Q4,L5,x6,M7,B8,Q4,aa (1,.dict (bq L)),br,N,N,N]) ?_ ?_
 ·refine tO (fun i ρ'=>∃ br:L2.Slot,ρ'=[S,T1,Z2,P3,Q4,L5,x6,M7,B8,Q4,aa (1,.dict (bq (L.take i))),br,N,N,N]) (ix (Kg ly rfl)) ⟨N,rfl⟩ ?_ ?_
  ·rintro i d _ hid ⟨br,rfl⟩;unfold bq at hid;rw[gY,fW] at hid;obtain⟨p,hp,rfl⟩:=kO.mp hid;have mp:=gL hp;have ox:L.take (i+1)=L.take i++[(p.1,p.2)]:=by rw[xU,hp];rfl
   have sv:p.1∉(L.take i).map (·.1):=fun m=>by
    obtain⟨q,mq,e⟩:=cN.mp m;have n2:((L.take (i+1)).map (·.1)).Nodup:=gj.sublist ((OC _ _).map _);rw[ox,jC] at n2;exact(BS.mp n2).2.2 q.1 (cN.mpr ⟨q,mq,rfl⟩) p.1 (by simp) e
   have hLl:L.length≤100000:=by
    have h1:L.length=(L.map (·.1)).length:=(eY ..).symm;have h2:(L.map (·.1)).length≤(ts.map (·.1)).length:=gj.length_le_of_subset fun z mz=>by
     obtain⟨q,mq,rfl⟩:=cN.mp mz;obtain⟨w,mw,_⟩:=hL q mq;exact cN.mpr ⟨_,mw,rfl⟩
    simp only[eY] at h2;omega
   have hi:i<L.length:=(dD.mp hp).1;refine⟨[S,T1,Z2,P3,Q4,L5,x6,M7,B8,Q4,aa (1,.dict (bq (L.take i))),s0 (.str p.1),N,N,N],rfl,?_⟩;refine JK (d:=bG p.2) (kd:=.str p.1) (key:=.inr p.1) (kds:=bq (L.take i)) (bU (ds:=[bG p.2]) (cU (bW (a:=.dict (bq L)) (b:=.str p.1) rfl rfl (Kj gj mp)) rfl) rfl) rfl rfl rfl (by simp[bq];omega) ⟨_,.inl rfl,s0 (.str p.1),?_⟩
   rw[RN sv,ox]
   rfl
  ·rintro _ ⟨br,rfl⟩;exact⟨_,rfl,br,by rw[take_all]⟩
 rintro _ ⟨br,rfl⟩;refine oR ?_
 let q8:L2.Slot:=s0 (j1 OW)
 show Goes _ [S,T1,Z2,P3,Q4,L5,x6,M7,B8,Q4,B8,br,N,N,N] _;refine eG (ρ':=[S,T1,Z2,P3,Q4,L5,x6,M7,B8,Q4,B8,br,q8,N,N]) (lA (m:=.s) (bU (ds:=[.dict (bq L),.list (qs.map cR)]) rfl eO) (by simp)) ?_
 refine eG (ρ':=[S,T1,Z2,P3,Q4,L5,x6,M7,B8,Q4,B8,br,q8,aa (1,bG SS),N]) (lA (m:=.s) (bU (ds:=[.dict (bq L),.list (qs.map cR)]) rfl eA) (by simp)) ?_
 have sw:∀ (x:L2.Slot),aN cI (aG (aB 13) aK) (vA [S,T1,Z2,P3,Q4,L5,x6,M7,B8,Q4,B8,br,q8,aa (1,bG SS),x])=aa (.int SS.length):=fun x=>bU (ds:=[bG SS]) rfl ((vR _).trans (by rw[eY]))
 have ne0:∀ a:Int,dg (.int a) (.int a)=aa (.bool af):=fun a=>by rw[ne_int];simp
 refine eG (ρ':=[S,T1,Z2,P3,Q4,L5,x6,M7,B8,Q4,B8,br,q8,aa (1,bG SS),N]) (vO (yX (x:=af) (y:=af) (JA (x:=ae) (rQ (a:=bG SS) rfl rfl)) fun _=>gH (bW (a:=.int SS.length) (b:=.int SS.length) (sw N) (bU (ds:=[j1 OW]) rfl ((RC OW).trans (by rw[N0]))) (ne0 _)))) ?_
 refine gJ (fun ρ'=>∃ h8:L2.Slot,ρ'=[S,T1,Z2,P3,Q4,L5,x6,M7,B8,Q4,B8,br,q8,aa (1,bG SS),h8]) ?_ ?_
 ·refine tU (n:=SS.length) (fun i ρ'=>∃ h8:L2.Slot,ρ'=[S,T1,Z2,P3,Q4,L5,x6,M7,B8,Q4,B8,br,q8,aa (1,bG SS),h8]) (V1 (oV (cU (sw N) rfl) (by omega))) ⟨N,rfl⟩ ?_ (fun ρ' h=>⟨_,rfl,h⟩)
  rintro i _ hi ⟨h8,rfl⟩
  let R:bM:=[S,T1,Z2,P3,Q4,L5,x6,M7,B8,Q4,B8,br,q8,aa (1,bG SS),s0 (.int i)]
  refine⟨R,rfl,?_⟩;have ef:ah a5 (aB 13) (aB 14) (vA R)=aa (bI SS[i]):=bW (a:=bG SS) (b:=.int i) rfl rfl (wF (eW hi));have mi:SS[i]∈OW:=N3 _ (qG hi);have c1:fH (ao (b7 (dG "tuple") (ah a5 (aB 13) (aB 14)))) (vA R)=aa (!ae):=JA (rQ (a:=bI SS[i]) ef rfl);have c2:ao (ah (l4 ae) (ah a5 (aB 13) (aB 14)) (aB 12)) (vA R)=aa (ae != decide (SS[i]∈OW)):=gH (bW (a:=bI SS[i]) (b:=j1 OW) ef rfl (Ew OW _));have c3:eT (ao (ah bz (aB 14) (eC (.int 0)))) (fH (ao (ah yK (ah a5 (aB 13) (ah fN (aB 14) (eC (.int 1)))) (ah a5 (aB 13) (aB 14))))) (vA R)=aa (decide ((i:Int) > 0)&&!ae):=rV (gH (bW (a:=.int i) (b:=.int 0) rfl rfl rfl)) fun C5=>by
   have h0:0<i:=by have:=of_decide_eq_true C5;omega
   have hi1:i-1<SS.length:=by omega
   have bg:=xW.mp up (i-1) i hi1 hi (by omega)
   refine JA (bW (a:=bI SS[i-1]) (b:=bI SS[i]) (bW (a:=bG SS) (b:=.int ((i-1:Nat):Int)) rfl (bW (a:=.int i) (b:=.int 1) rfl rfl ?_) (wF (eW hi1))) ef ?_)
   ·show aa (aR ((i:Int)-1))=_
    congr 2
    omega
   ·rw[Sw ((Db _ (N3 _ (qG hi1))).trans (Db _ mi).symm),decide_eq_true bg]
  have cc:=yX c1 fun _=>yX c2 fun _=>c3
  exact lB (cc.trans (by simp[mi])) (lQ ⟨_,.inl rfl,s0 (.int i),rfl⟩)
 rintro _ ⟨h8,rfl⟩;refine eG (ρ':=[S,T1,Z2,P3,Q4,L5,x6,M7,B8,Q4,B8,br,q8,aa (1,.list []),h8]) rfl ?_;refine oR ?_
 let E13:L2.Slot:=s0 (.list [])
 show Goes _ [S,T1,Z2,P3,Q4,L5,x6,M7,B8,Q4,B8,br,q8,E13,h8] _;refine eG (ρ':=[S,T1,Z2,P3,Q4,L5,x6,M7,B8,Q4,B8,br,q8,E13,h8]) (vO (yX (x:=af) (y:=af) (gH (bW (a:=.list (qs.map cR)) (b:=.list (qs.map cR)) rfl rfl (Kr qs))) fun _=>gH (bW (a:=.dict (bq L)) (b:=.dict (bq L)) rfl rfl (Jb gj)))) ?_
 have eqi:∀ a:Int,cq (.int a) (.int a)=aa (.bool ae):=fun a=>by rw[Ao];simp
 refine kA (d:=.bool ae) (Kz (x:=ae) (y:=ae) (bW (a:=.int SS.length) (b:=.int SS.length) (bU (ds:=[bG SS]) (cU (bU (ds:=[.dict (bq L),.list (qs.map cR)]) rfl eA) rfl) ((vR _).trans (by rw[eY]))) (bU (ds:=[j1 OW]) rfl ((RC OW).trans (by rw[N0]))) (eqi _)) fun _=>bW (a:=.list []) (b:=.list []) (bU (ds:=[.dict (bq L),.list []]) rfl eA0) rfl rfl) rfl
def FU (K:aM):Sp:=fun vs H Q _=>∃ (a:aD) (ns:List Int),vs=[.ref a]/\SqL K H a (ns.map V.int)/\ns.length≤63/\∀ H',Q (.bl ae) H'
theorem Hi:∀ vs H Q E,FU K vs H Q E->ar K 0 IE vs H Q E:=fun vs H Q E gh=>by
 obtain⟨a,ns,ev,hS,hl,k⟩:=gh;subst ev;have e0:hid H (fun _=>False)=H:=by
  funext b;unfold hid;rw[if_neg (fun z=>z)]
 refine⟨fun _=>False,[.list (ns.map aR)],.bool ae,fun _ z=>z.elim,?_,Ie ns hl,gF fun v H' _ r=>?_⟩
 ·rw[e0];exact Aal.mpr ⟨_,_,rfl,Abg.mpr ⟨a,_,rfl,hS,VF ns⟩,Aat.mpr rfl⟩
 ·rw[Aa3.mp r];exact k H'
def Hl (K:aM)(n:aE)(st:cV)(f:aD):Prop:=∃ (od an:Option aD) (sl:Array (Option aC)) (oc kV dc pm cd ct:aC),iE K eX n=aa (aa (.ref f))/\K.lookup f=aa ⟨oc,od,.func (lW n n (mB st) (lE st) (cX st) .none kV dc pm an cd ct),sl⟩/\BH K cd n=ae/\uO K (.ref f)=ae
def Hs (K:aM)(n:aE)(st:cV)(f:aD):Prop:=∃ fd,Fun K n n st f fd/\iE K eX n=aa (aa (.ref f))/\uO K (.ref f)=ae
section
variable {n:aE}{f:aD}
theorem Bgo {od an:Option aD}{sl:Array (Option aC)}{oc kV dc pm cd ct:aC}(a:iE K eX n=aa (aa (.ref f)))(l:K.lookup f=aa ⟨oc,od,.func (lW n n (mB st) (lE st) (cX st) .none kV dc pm an cd ct),sl⟩)(c:BH K cd n=ae)(k:uO K (.ref f)=ae):Hl K n st f:=⟨_,_,_,_,_,_,_,_,_,a,l,c,k⟩
theorem Afh {od an:Option aD}{sl:Array (Option aC)}{oc kV dc pm cd ct:aC}(a:iE K eX n=aa (aa (.ref f)))(l:K.lookup f=aa ⟨oc,od,.func (lW n n (mB st) (lE st) (cX st) .none kV dc pm an cd ct),sl⟩)(c:BH K cd n=ae)(k:uO K (.ref f)=ae):Hs K n st f:=⟨_,ZZ (st:=st) l c k,a,k⟩
def Hs.fd (h:Hs K n st f):jD:=Classical.choose h
theorem Hs.fn (h:Hs K n st f):Fun K n n st f h.fd:=(Dg h).1
theorem Hs.df {P:bS}{w:bH}{mg:aE->Option aC}{h base:aZ}{sp:Sp}(X:K.In h)(G:h.Ns eX mg)(H:Hs K n st f)(ok:FnOk P w K mg base d9 k f H.fd ps sp)(b:Binds K H.fd ps []):Def P w K mg base n k ps sp:=⟨_,_,ok,Bs X G (Dg H).2.1,(Dg H).2.2,b⟩
end
theorem iO {us:List aC}(h:us.length=n+1):∃ a r,us=a::r/\r.length=n:=by
 cases us with
 |nil=>exact absurd h (by simp)
 |cons a r=>exact⟨a,r,rfl,Nat.succ.inj h⟩
theorem yO{f:aD}{fd:jD}(F:Fun K x qual st f fd)(hp:ps.length=1)(h:∀ (kV c9 pm:aC) (an:Option aD) (az ct:aC) a,uL (lW x qual (mB st) (lE st) (cX st) .none kV c9 pm an az ct) ⟨[a],[]⟩=pure (ps.zip [a])):Binds K fd ps []:=F.binds fun kV c9 pm an az ct u0 hl=>by
 have g0:=hl.trans hp;clear hl;obtain⟨a,u1,rfl,g1⟩:=iO g0;cases yB g1;exact h kV c9 pm an az ct a
theorem mI{f:aD}{fd:jD}(F:Fun K x qual st f fd)(hp:ps.length=2)(h:∀ (kV c9 pm:aC) (an:Option aD) (az ct:aC) a b,uL (lW x qual (mB st) (lE st) (cX st) .none kV c9 pm an az ct) ⟨[a,b],[]⟩=pure (ps.zip [a,b])):Binds K fd ps []:=F.binds fun kV c9 pm an az ct u0 hl=>by
 have g0:=hl.trans hp;clear hl;obtain⟨a,u1,rfl,g1⟩:=iO g0;obtain⟨b,u2,rfl,g2⟩:=iO g1;cases yB g2;exact h kV c9 pm an az ct a b
theorem HY{f:aD}{fd:jD}(F:Fun K x qual st f fd)(hp:ps.length=3)(h:∀ (kV c9 pm:aC) (an:Option aD) (az ct:aC) a b c,uL (lW x qual (mB st) (lE st) (cX st) .none kV c9 pm an az ct) ⟨[a,b,c],[]⟩=pure (ps.zip [a,b,c])):Binds K fd ps []:=F.binds fun kV c9 pm an az ct u0 hl=>by
 have g0:=hl.trans hp;clear hl;obtain⟨a,u1,rfl,g1⟩:=iO g0;obtain⟨b,u2,rfl,g2⟩:=iO g1;obtain⟨c,u3,rfl,g3⟩:=iO g2;cases yB g3;exact h kV c9 pm an az ct a b c
theorem PP{f:aD}{fd:jD}(F:Fun K x qual st f fd)(hp:ps.length=4)(h:∀ (kV c9 pm:aC) (an:Option aD) (az ct:aC) a b c d,uL (lW x qual (mB st) (lE st) (cX st) .none kV c9 pm an az ct) ⟨[a,b,c,d],[]⟩=pure (ps.zip [a,b,c,d])):Binds K fd ps []:=F.binds fun kV c9 pm an az ct u0 hl=>by
 have g0:=hl.trans hp;clear hl;obtain⟨a,u1,rfl,g1⟩:=iO g0;obtain⟨b,u2,rfl,g2⟩:=iO g1;obtain⟨c,u3,rfl,g3⟩:=iO g2;obtain⟨d,u4,rfl,g4⟩:=iO g3;cases yB g4;exact h kV c9 pm an az ct a b c d
theorem Eh{f:aD}{fd:jD}(F:Fun K x qual st f fd)(hp:ps.length=6)(h:∀ (kV c9 pm:aC) (an:Option aD) (az ct:aC) a b c d e f,uL (lW x qual (mB st) (lE st) (cX st) .none kV c9 pm an az ct) ⟨[a,b,c,d,e,f],[]⟩=pure (ps.zip [a,b,c,d,e,f])):Binds K fd ps []:=F.binds fun kV c9 pm an az ct u0 hl=>by
 have g0:=hl.trans hp;clear hl;obtain⟨a,u1,rfl,g1⟩:=iO g0;obtain⟨b,u2,rfl,g2⟩:=iO g1;obtain⟨c,u3,rfl,g3⟩:=iO g2;obtain⟨d,u4,rfl,g4⟩:=iO g3;obtain⟨e,u5,rfl,g5⟩:=iO g4;obtain⟨f,u6,rfl,g6⟩:=iO g5;cases yB g6;exact h kV c9 pm an az ct a b c d e f
theorem Dr{f:aD}{fd:jD}(F:Fun K x qual st f fd)(hp:ps.length=7)(h:∀ (kV c9 pm:aC) (an:Option aD) (az ct:aC) a b c d e f g,uL (lW x qual (mB st) (lE st) (cX st) .none kV c9 pm an az ct) ⟨[a,b,c,d,e,f,g],[]⟩=pure (ps.zip [a,b,c,d,e,f,g])):Binds K fd ps []:=F.binds fun kV c9 pm an az ct u0 hl=>by
 have g0:=hl.trans hp;clear hl;obtain⟨a,u1,rfl,g1⟩:=iO g0;obtain⟨b,u2,rfl,g2⟩:=iO g1;obtain⟨c,u3,rfl,g3⟩:=iO g2;obtain⟨d,u4,rfl,g4⟩:=iO g3;obtain⟨e,u5,rfl,g5⟩:=iO g4;obtain⟨f,u6,rfl,g6⟩:=iO g5;obtain⟨g,u7,rfl,g7⟩:=iO g6;cases yB g7;exact h kV c9 pm an az ct a b c d e f g
set_option maxHeartbeats 4000000 in
theorem all_mk {l:Bz}{w:bH}{h:aZ}{mg:aE->Option aC}{fa mh p9 vq om on k7 mj j5 jp mn j6 j7 j8 k8 k9 jf jq qc jr j9 lf oo i7 oq lg zu:aD}(X:K.In h)(G:h.Ns eX mg)(U5:mg "law" = aa (.ref fa)){lh:Tok}
  (gm:Hs K "names_of" LR mh) (jg:Hs K "put_in" EV p9) (mo:Hs K "fits" IM vq) (ik:Hs K "rows_of" LC om) (im:Hs K "ways_of" LM on) (fu:Hs K "_law_cell" MG k7) (gn:Hs K "_law_mix" LY mj) (dw:Hs K "_law_order" MM j5) (cy:Hs K "refuse_rows" MP jp) (gp:Hs K "extended" MA mn) (dy:Hs K "matches_of" FN j6) (dz:Hs K "answers_of" FM j7) (dL:Hs K "_law_names" xB j8) (fw:Hs K "_law_pool" MH k8) (fy:Hs K "_law_term" MI k9) (cn:Hs K "_law_planted" MN jf) (cz:Hs K "refuse_ways" FQ jq) (jh:Hs K "walked" JY qc) (c6:Hs K "_law_tables" MQ jr) (d6:Hs K "_law_lines" AL j9) (fz:Hs K "_law_book" FE lf) (io:Hs K "matches" FA oo) (b6:Hs K "_law_question" MT i7) (ip:Hs K "answers" LN oq) (f6:Hs K "_law_owed" MJ lg) (zv:Hl K "law" rM zu)
  (kc:iE K eX "isinstance" = aa ab) (zw:iE K eX "int" = aa ab) (vt:iE K eX "bool" = aa ab) (zx:iE K eX "abs" = aa ab) (sx:iE K eX "range" = aa ab) (zy:iE K eX "len" = aa ab) (zz:iE K eX "str" = aa ab) (z0:iE K eX "all" = aa ab) (z5:iE K eX "any" = aa ab) (vv:iE K eX "list" = aa ab) (sy:iE K eX "tuple" = aa ab) (vw:iE K eX "dict" = aa ab) (z6:iE K eX "set" = aa ab) (qd:iE K eX "sorted" = aa ab) (z7:iE K eX "sum" = aa ab) (z8:iE K eX "min" = aa ab) (z9:iE K eX "max" = aa ab) (li:iE K eX "enumerate" = aa ab) (At:iE K eX "zip" = aa ab) (m3:iE K eX "reversed" = aa ab) (ke:iE K eX "ValueError" = aa ab) (g_MOST_WAYS:iE K eX "MOST_WAYS" = aa (aa (.int 4096 lh))) :
  ∃ fd:jD,(∀ (s:aH) (v:aC),BindsTo s fd ⟨[v],[]⟩ [("_law_script",v)])/\∀ base:aZ,K.In base->base.Ns eX mg->FnOk l.prog w K mg base d9 6 fa fd ["_law_script"] (FU K):=by
 obtain⟨_,vx,_,_,vy,vz,v0,v5,v6,AT,A0,A1,A2⟩:=zv;have e:=U5.symm.trans (Bs X G AT);rw[30];have B:Blt mg:=⟨jN X G kc,jN X G zw,jN X G vt,jN X G zx,jN X G sx,jN X G zy,jN X G zz,jN X G z0,jN X G z5,jN X G vv,jN X G sy,jN X G vw,jN X G z6,jN X G qd,jN X G z7,jN X G z8,jN X G z9,jN X G li,jN X G At,jN X G m3,jN X G ke⟩;have C:Cst mg:=⟨⟨_,Bs X G g_MOST_WAYS⟩⟩;refine⟨lW "law" "law" (mB rM) (lE rM) (cX rM) .none vy vz v0 vx v5 v6,fun s v=>.of_eq rfl,fun base _ _=>?_⟩
 have QQ{n st f}(H:Hs K n st f){k ps sp}(ok:FnOk l.prog w K mg base d9 k f H.fd ps sp)(b:Binds K H.fd ps []):=H.df X G ok b
 have bu:=QQ gm (Pt gm.fn B C ) (yO gm.fn rfl fun _ _ _ _ _ _ _=>rfl)
 have dm:=QQ jg (Nq jg.fn B C ) (mI jg.fn rfl fun _ _ _ _ _ _ _ _=>rfl)
 have mf:=QQ mo (Lg mo.fn B C ) (HY mo.fn rfl fun _ _ _ _ _ _ _ _ _=>rfl)
 have ca:=QQ ik (Pg ik.fn B C ) (mI ik.fn rfl fun _ _ _ _ _ _ _ _=>rfl)
 have ij:=QQ im (Of im.fn B C ) (yO im.fn rfl fun _ _ _ _ _ _ _=>rfl)
 have aj:=QQ fu (Ru fu.fn B C ) (mI fu.fn rfl fun _ _ _ _ _ _ _ _=>rfl)
 have ag:=QQ gn (Py gn.fn B C ) (mI gn.fn rfl fun _ _ _ _ _ _ _ _=>rfl)
 have bf:=QQ dw (Rz dw.fn B C ) (yO dw.fn rfl fun _ _ _ _ _ _ _=>rfl)
 have cu:=QQ cy (Sk cy.fn B C ij) (yO cy.fn rfl fun _ _ _ _ _ _ _=>rfl)
 have gk:=QQ gp (Pz gp.fn B C mf) (HY gp.fn rfl fun _ _ _ _ _ _ _ _ _=>rfl)
 have dr:=QQ dy (Rv dy.fn B C bu dm) (mI dy.fn rfl fun _ _ _ _ _ _ _ _=>rfl)
 have dv:=QQ dz (Ro dz.fn B C bu dm) (mI dz.fn rfl fun _ _ _ _ _ _ _ _=>rfl)
 have be:=QQ dL (Sg dL.fn B C ag) (mI dL.fn rfl fun _ _ _ _ _ _ _ _=>rfl)
 have fm:=QQ fw (Qw fw.fn B C ag) (yO fw.fn rfl fun _ _ _ _ _ _ _=>rfl)
 have cr:=QQ fy (Rq fy.fn B C ag) (HY fy.fn rfl fun _ _ _ _ _ _ _ _ _=>rfl)
 have cm:=QQ cn (Sq cn.fn B C ag) (PP cn.fn rfl fun _ _ _ _ _ _ _ _ _ _=>rfl)
 have a7:=QQ cz (Sl cz.fn B C ca cu) (mI cz.fn rfl fun _ _ _ _ _ _ _ _=>rfl)
 have je:=QQ jh (Yn jh.fn B C gk) (mI jh.fn rfl fun _ _ _ _ _ _ _ _=>rfl)
 have cv:=QQ c6 (Sn c6.fn B C ag be) (mI c6.fn rfl fun _ _ _ _ _ _ _ _=>rfl)
 have du:=QQ d6 (Se d6.fn B C aj ag cr) (Eh d6.fn rfl fun _ _ _ _ _ _ _ _ _ _ _ _=>rfl)
 have fq:=QQ fz (Rh fz.fn B C aj ag cm) (Dr fz.fn rfl fun _ _ _ _ _ _ _ _ _ _ _ _ _=>rfl)
 have cb:=QQ io (Og io.fn B C ca dr a7 je) (mI io.fn rfl fun _ _ _ _ _ _ _ _=>rfl)
 have b5:=QQ b6 (Sv b6.fn B C aj ag bf du) (PP b6.fn rfl fun _ _ _ _ _ _ _ _ _ _=>rfl)
 have dq:=QQ ip (Pl ip.fn B C dv a7 cb) (mI ip.fn rfl fun _ _ _ _ _ _ _ _=>rfl)
 have ft:=QQ f6 (Qr f6.fn B C bf cb) (mI f6.fn rfl fun _ _ _ _ _ _ _ _=>rfl)
 exact(Ib (ZZ (st:=rM) A0 A1 A2) B C aj ag be fm cv fq b5 dq ft).imp Hi
theorem walk {l:Bz}{q:bS}{ju:List aE}{XP:(aE->Option aC)->aZ->Prop}{YP:bH->aZ->Prop}{d:DefRec}{K:Params->aM}(hn:l.most=aa 63)(xt:d.params.defaults=[])
  (hY:∀ (w:bH) (h:aZ),YP w h->(K w.params).In h)
  (F:∀ (w:bH) (mg:aE->Option aC) (fa:aD) (h:aZ),(K w.params).In h->h.Ns eX mg->mg d.name=aa (.ref fa) ->
   ∃ fd:jD,(∀ (s:aH) (u:aC),BindsTo s fd ⟨[u],[]⟩ [("_law_script",u)])/\∀ base:aZ,(K w.params).In base->base.Ns eX mg->FnOk l.prog w (K w.params) mg base d9 6 fa fd ["_law_script"] (FU (K w.params))) :
  PySem.W.WalkO q ju XP YP l.row.toRowW d [] (fun f vs=>PySem.call f vs):=
 L2.Bbp (n:=63) (k:=6) (x:="_law_script") (CX:=fun _=>d9) (sp:=fun w=>FU (K w.params)) hn (by decide) xt ⟨rfl,by decide,by decide⟩ hY F (fun _ _ a ns hl _ hS=>⟨a,ns,rfl,hS,hl,fun _=>rfl⟩) fun _ _ _ _ _ z=>z
end Aw
namespace PySem.W.Fast
def tw13093464356135572199:=0
def tw1986725905032217745:=0
def tw16199118884335658544:=0
def tw6500713366504385090:=0
def tw7297167750297226439:=0
def tw2732035015075293743:=0
def tw9529965477832475669:=0
def tw7985283494954808194:=0
def tw13698699131157377267:=0
def tw14875537697553410395:=0
def tw14456091972574988048:=0
def tw16852419594253231874:=0
def tw3704404221362071961:=0
def tw4983558848569639063:=0
def tw8584297293032284824:=0
def tw18076727320878736969:=0
def tw10463986092748242484:=0
def tw15031188278505541899:=0
def tw6178113967652890921:=0
def tw15068540994067676101:=0
def tw7724554772416226116:=0
def tw2993524122755290004:=0
def tw6279062935247271427:=0
def tw4932730073964321074:=0
def tw11330883784454483591:=0
def tw7824328198054994234:=0
def tw3734214721559554789:=0
def tw13358926115390212384:=0
def tw14185104564933109196:=0
def tw10790885009437937235:=0
def tw8899383653710155183:=0
def tw12042286107452560268:=0
def tw14377954031455068881:=0
def tw15835687426935970394:=0
def tw9429552599912586581:=0
def tw438647449223882039:=0
def tw13851760753246523215:=0
def tw3610051040388347215:=0
def tw7481244223157916338:=0
def tw9286406806548993803:=0
def tw13891370977676495024:=0
def tw10275274532245204055:=0
def tw4131184869392189247:=0
def tw13756706429357400888:=0
def tw1693849448620830952:=0
def tw5453804768178602742:=0
def tw16710090077167565558:=0
def tw17138284351490594768:=0
def tw3076475945724453853:=0
def tw6665145284783606517:=0
def tw1250158638559882259:=0
def tw6254942864562953665:=0
def tw11293882397922293585:=0
def tw11547108431231018248:=0
def tw6520926776220895310:=0
def tw8306322118073409426:=0
def tw15483219811313365679:=0
def tw11960033014818482178:=0
def tw15208532932366189050:=0
def tw665058230070813020:=0
def tw15310245654140337201:=0
def tw16903146898338642771:=0
def tw10095764245919227366:=0
def tw2660638055621287039:=0
def tw1864720699708151427:=0
def tw7157571610213100588:=0
def tw8257618683119374107:=0
def tw13551807559174997284:=0
def tw3441942742030586885:=0
def tw10255012426787820194:=0
def tw4910958796606280883:=0
def tw1046088026587179509:=0
def tw11444590569134442233:=0
def tw3343334170154200566:=0
def tw14299248880639366250:=0
def tw5738796101876084264:=0
def tw819263196881758599:=0
def tw1054660740926764710:=0
def tw8205631558759865275:=0
def tw15650686299595569457:=0
def tw1023103277136574140:=0
def tw1723947093204142604:=0
def tw5089620530083281367:=0
def tw14010732675600716926:=0
def tw6204181382832344453:=0
def tw586931744661390442:=0
def tw11560020253852205710:=0
def tw4942573458744481300:=0
def tw10991987839525434125:=0
def tw7995722822893413886:=0
def tw7808954731663915807:=0
def tw6488320055115630320:=0
def tw10088328942406391503:=0
def tw2669638144131362300:=0
def tw17213759955846372073:=0
def tw3111660818307182816:=0
def tw705268117935273734:=0
def tw11350479106548059542:=0
def tw5376327293009563582:=0
def tw7957343080395723779:=0
def tw2761440406930090079:=0
def tw7700101304371905767:=0
def tw797533703623440992:=0
def tw1668278872151564805:=0
def tw6744047180865345098:=0
def tw2649501761618599700:=0
def tw13159108246252767984:=0
def tw13653971692137473059:=0
def tw5024055623727643388:=0
def tw16282558015596073446:=0
def tw7544561592780012515:=0
def tw7661130241950733311:=0
def tw6588610988052639564:=0
def tw14028561438484104408:=0
def tw476705114398486840:=0
def tw17719944485842759460:=0
def tw10835737271107751516:=0
def tw146118034797297976:=0
def tw9120639287549598022:=0
def tw11598430215735160867:=0
def tw10205740981423170941:=0
def tw16837945679263695610:=0
def tw2804991478908270150:=0
def tw1899733992275939613:=0
def tw9255089445343707654:=0
def tw7118377053998906535:=0
def tw2778241948095868169:=0
def tw1613915261871181104:=0
def tw17202443338639977933:=0
def tw12464139053931612346:=0
def tw3024841805729385301:=0
def tw5260870490187701983:=0
def tw896831813160562279:=0
def tw17586968494317843937:=0
def tw5768922991825406709:=0
def tw10988763603238089409:=0
def tw5890179465280954779:=0
def tw12610514114809608039:=0
def tw12148151944878792710:=0
def tw4496884916432213814:=0
def tw9636931175845140567:=0
def tw11865285276068992557:=0
def tw149744690854525226:=0
def tw11971077044477969804:=0
def tw17316222632810756305:=0
def tw9368470144787997865:=0
def tw17789549364150791293:=0
def tw17116279282613159692:=0
def tw18104791243880386867:=0
def tw16897368391420998130:=0
def tw1019415079117978162:=0
def tw17466932762809917865:=0
def tw17314993567281192593:=0
end PySem.W.Fast
open PySem PySem.W PyProof.Rows
set_option maxRecDepth 100000 in
set_option maxHeartbeats 0 in
theorem PySem.Challenge.cw_askwithin_k17_answers_of_alternatives_holds : PySem.Challenge.rw_askwithin_k17_answers_of_alternatives.Holds := by
 w_on;o_law;k_head;(case hw=>w_witness2)
 k_fill
 refine Aw.walk (l:=PySem.Challenge.rw_askwithin_k17_answers_of_alternatives) rfl rfl (fun w h Y=>PySem.W.kIn_of Y) ?F
 case F=>
  intro w mg fa h KX G xu;refine' Aw.all_mk KX G xu (Aw.Afh ?_ ?_ ?_ ?_) (Aw.Afh ?_ ?_ ?_ ?_) (Aw.Afh ?_ ?_ ?_ ?_) (Aw.Afh ?_ ?_ ?_ ?_) (Aw.Afh ?_ ?_ ?_ ?_) (Aw.Afh ?_ ?_ ?_ ?_) (Aw.Afh ?_ ?_ ?_ ?_) (Aw.Afh ?_ ?_ ?_ ?_) (Aw.Afh ?_ ?_ ?_ ?_) (Aw.Afh ?_ ?_ ?_ ?_) (Aw.Afh ?_ ?_ ?_ ?_) (Aw.Afh ?_ ?_ ?_ ?_) (Aw.Afh ?_ ?_ ?_ ?_) (Aw.Afh ?_ ?_ ?_ ?_) (Aw.Afh ?_ ?_ ?_ ?_) (Aw.Afh ?_ ?_ ?_ ?_) (Aw.Afh ?_ ?_ ?_ ?_) (Aw.Afh ?_ ?_ ?_ ?_) (Aw.Afh ?_ ?_ ?_ ?_) (Aw.Afh ?_ ?_ ?_ ?_) (Aw.Afh ?_ ?_ ?_ ?_) (Aw.Afh ?_ ?_ ?_ ?_) (Aw.Afh ?_ ?_ ?_ ?_) (Aw.Afh ?_ ?_ ?_ ?_) (Aw.Afh ?_ ?_ ?_ ?_) (Aw.Bgo ?_ ?_ ?_ ?_)  ?_ ?_ ?_ ?_ ?_ ?_ ?_ ?_ ?_ ?_ ?_ ?_ ?_ ?_ ?_ ?_ ?_ ?_ ?_ ?_ ?_ ?_
  any_goals k_is
