import PyProof.Rows.All
import Wide.All
import OpenK.AllK
import Wide.FinOn
import Lean
import PyProof.EqAt
import PyProof.EqKinds
import PyProof.TupleCall
import PyProof.TupleOfStr
import PyProof.ListStr
import PyProof.ZipIter
import PyProof.TupleIter
import PyProof.EnumMake
import PyProof.ListRange
import PyProof.AttrMissHeap
import KE.KSortTup
import PyProof.Rows.SortShellK
import PyProof.SetKind
import PyProof.Rows.SetFrom
import PyProof.AutoListH
import PyProof.ListNew
import PyProof.FactsAll.list_2
import PyProof.CollectWalk
import PyProof.MeetsSeq2
import PyProof.FactsAll.list_4
import PyProof.AutoSeq1
import PyProof.ConsumeWalk
import PyProof.IsRules
import PyProof.DictItemsLoops
import PySem.Builtin.SmallTypes.W2All
import PyProof.ListMulRoad
import PyProof.Rows.SeqMore
import PyProof.FactsAll.tuple_2
import PyProof.StrOps2
import PyProof.WalksMore
import KE.KMinKey
import PyProof.Rows.CallKwBuiltin
import PyProof.FactsAll.zip_1
import PyProof.MeetsDictList
import PySem.Challenge.RW_askwithin_k35_why_an_answer
open PySem renaming PyData->aA,Addr->aC,Value->aD,Str->aE,wpAny_bind->aF,Shared->aH,wpAny->aM,wpAny_pure->aN,model->aP,Heap->aQ,Expr->aU,World->bA,Obj->bC,Pos->bK,Program->bN,Around->bS,eval->bT,starEach->bW,Paired->cQ,rawInt->cY,SetTable->eJ,wpAny_field->eK,wpAny_holding->eP,Stmt->eW,pyNext->eY,wpAny_call_entry->fE,compareOp->fZ,assignEach->gU,Scope->gV,wpAny_seqItems->hZ,merged->iH,codeAny->iR,sysModules->jB,mainGlobals->jC,codeAny_builtin->jD,wpAny_setField_rec->jP,wpAny_newObj_type->jQ,wpAny_callSpecial?_slot->jR,plainId_quiet->jS,binaryOp->jT,backTo->jU,wpAny_rule->kO,swapsWith->kP,assign->kQ,Reads->kR,NameKind->kS,wpAny_mono->lV,ReadsAll->lW,Spec->lX,IsPair->mD,wpAny_typeOf->mN,bootBuiltins->mO,argBest->mP,FuncData->mU,wpAny_attempt->nQ,sizeLine_eq->nU,pyIter->nV,holding->nW,field->nX,wpAny_isInstance->oQ,atKey->oR,Result->oV,wpAny_ite_split->qA,storedH->qB,getItem->qC,foldedSetIterable->qE,argsOk->qF,IsPart->qI,IsEnum->qJ,DictEntry->qN,wpAny_letGo->rR,typeLookup_type->rS,stored->rT,entryFor->rV,builtinLookup_eq_fast->rW,wpAny_updateSeq->tX,wpAny_setState_of->tY,typeLookup->tZ,isSubtype_type->uA,behindInMarks->uB,GenState->uJ,wpAny_specialOf->wD,wpAny_passesOwn->wF,wpAny_of_eq->wG,valueAt->wH,sliceBounds->wI,relabel->wJ,callerA->wK,wpAny_tryCatch->zR,wpAny_truthy_bool->zS,wpAny_pyIter_list->zT,wpAny_newList->zU,wpAny_forIn_list->zV,updateSeq->zW,isSubtype_stop->zX,codeAny_mono->zY,call_meets->zZ,PassesOwn->AE,wpAny_pyIter_slot->EZ,wpAny_newTuple->FA,wpAny_askSetting->FB,ofAClassStatement->FC,entryFor_alias->FD,attributeBase->FE,mem_of_lookup->FG,wpAny_typeNameOf_keyiter->NS,wpAny_typeNameOfWhole_keyiter->NT,wpAny_throw->NU,wpAny_setField->NV,wpAny_onRaise->NW,wpAny_handled->NX,wpAny_fieldsOf->NY,wpAny_execs_nil->NZ,swapsWithSole->OA,swappedStores->OB,subscripted->OC,signature?_of->OE,richCompare->OG,letOwnedTupleGo->OH,firstArgMember->OI,entryFor_of_tree->OJ,concat_meets->OK,call_meetsIn->OL,Slot->OO,Fin->OP,wpAny_updateSeq_pair->He,wpAny_tupleItemsOf->Hf,wpAny_setEntries_of->Hg,wpAny_pyIter_zip->Hi,wpAny_notOrdered_dict->Hj,wpAny_dictEntries->Hk,wpAny_Call_Name_kw->Hl,noFill_tuple_add->Hm,codeAny_call_builtin->Hn,SetTable->Hz
open PySem.W renaming Frag->aK,kia_one->mQ,fnOf->wM,nsIn->AA,keepIn->FH,codeIn->ON,mg_of->Hr,methodObj->Ht,lookIn->Hu,kitx_list->Hv,kitx_dict->Hw,kitOne->Hx,instObj->Hy
open PySem.PyData renaming int->aY,str->bZ,eqv->cF,canLay0->cR,depthAll->cT,tuple->cW,bool->jW,depth->mR,eqvAll->wO,list->AC,canLayAll0->AD,dict->FL
open Nat renaming le_refl->bB,ne_of_lt->cH,le_trans->dG,zero_le->dW,lt_of_lt_of_le->gH,ne_of_gt->iS,lt_irrefl->lY,le_of_lt->oX,le_succ->uE,pow_succ->wR,lt_trichotomy->wU,mod_lt->AH,mul_le_mul->FN,lt_succ_of_lt->FO,lt_of_le_of_lt->FP,le_of_eq->FQ,add_assoc->FR,lt_or_ge->OT,le_add_right->OU,lt_succ_self->Im,lt_succ_iff_lt_or_eq->Io
open List renaming mem_cons_self->bE,mem_cons_of_mem->bL,mem_map->bO,length_map->cC,mem_singleton->cE,range->cG,getElem?_eq_some_iff->cJ,mem_cons->cX,map_cons->dC,all_eq_true->dQ,size_toArray->dX,map_map->dY,mem_of_getElem?->eM,getElem?_map->eZ,length_cons->fM,getElem?_eq_getElem->fN,map_append->gJ,find?_cons->gK,toArray->gW,getD_eq_getElem?_getD->gX,mem_range->iI,mem_flatten->iJ,foldl_cons->iT,map_congr_left->jG,nodup_cons->jZ,mem_filter->kA,mem_append->kT,filter_eq_self->kU,getElem?_set_self->mC,append_nil->mS,mem_append_right->oY,getElem_mem->oZ,getElem?_set_ne->pA,length_append->qH,nodup_append->rX,foldl_append->rY,flatten_cons->rZ,not_mem_nil->uF,mem_filterMap->uG,length_set->uH,getElem_of_mem->uI,nodup_nil->wV,length_filterMap_le->wW,flatMap_cons->wX,eraseIdx_cons_succ->wY,any_cons->wZ,zipWith->AI,take_length->AJ,take_add_one->AK,replicate->AL,pairwise_map->AM,length_zip->AN,filterMap_cons->AO,cons_lt_cons_iff->AQ,mem_flatMap->FS,length_range->FT,length_filter_le->FU,length_eq_zero_iff->FV,getElem?_range->FW,forIn_cons->FX,findSome?_cons->FY,ext_getElem->FZ,cons_append->GA,any_eq_true->GB,zip_cons_cons->OX,pairwise_iff_getElem->OY,map_take->OZ,map_set->PB,length_take->PC,forIn_nil->PD,find?_eq_none->PF,filter_sublist->PH,filter_cons->PJ,take_append_drop->Ip,of_mem_zip->Iq,nodup_range->Ir,mem_of_mem_drop->Iu,mem_of_find?_eq_some->Iv,mem_iff_getElem?->Iw,mem_iff_getElem->Iy,map_drop->Iz,lt_irrefl->Ja,length_singleton->Jb,length_nil->Jc,getElem?_append_left->Jd,find?_append->Je,filter_nil->Jf,filter_append->Jg,ext_getElem?->Jh,eraseIdx_eq_take_drop_succ->Ji,drop_eq_getElem_cons->Jj,append_assoc->Jl,take_succ_eq_append_getElem->K1,length_erase_of_mem->K2,getElem?_cons_succ->K3,getElem?_append_right->K4,exists_of_findSome?_eq_some->K5
open PySem.Heap renaming get?_push_of_some->bG,lt_size->bI,get?_push_size->cL,SameBut->mT,size_push->qK,get?_update_other->qL,get?_update_self->sA,ExtBut->GC,get?_push_ne->PP
open Option renaming bind_some->bQ,map_eq_some_iff->jF,isSome_iff_exists->wQ,map_some->FM,map_eq_none_iff->OR,isSome_map->Il
open PySem.Value renaming none->eE,ref->eI,type->jV,str->uC,int->uD
open Option.some renaming inj->fF
open PySem.Obj renaming mapSeq->fG,putSet->AG,data_mapFields->OS
open Ne renaming symm->fL
open PyProof.Rows renaming seqObj->fY,AllBare->sC,callWith_type1->wN,boot_list->AB,boot_dict->FK,slot_tuple_getitem->OD,slot_tuple_getitem->Ih,envOfC->Ii,boot_tuple->Ij,mulOk_of_bits->J9,boot_sorted->K0
open Bool renaming false_eq_true->gA,and_eq_true_iff->iK,false_ne_true->kB,eq_iff_iff->nY,not_true->AY,true_and->GG,and_eq_true->GH,or_eq_true_iff->Jz,eq_false_iff->Ka,and_self->Kb
open Sum renaming inr->jE,inl->wL
open PySem.Paired renaming length->jX
open Or renaming inl->jY,inr->oW
open Array renaming length_toList->kW,getElem?_eq_getElem->mW,getElem?_toList->pD,getElem?_eq_some_iff->uN,forIn_toList->AZ,toList_filterMap->QE,getD_eq_getD_getElem?->QF,toList_inj->Kc,getElem?_eq_none->Kd,perm_iff_toList_perm->K9
open PySem.Around renaming under_plainId->kX
open PySem.NameKind renaming free->mB
open PySem.Builtin.Int renaming intBits->mV
open True renaming intro->oU
open Int renaming toNat_natCast->pB,ofNat->pC,natCast_mul->PN,lt_irrefl->Jn,eq_ofNat_of_zero_le->Jo
open PySem.PassesOwn renaming never->qG
open False renaming elim->qM
open PySem.F renaming slot_zip_next->uK,called_set->uL,plain_min_loop->AS,plainAttrs_list->FI,plainAttrs_dict->FJ,slot_tuple_hash->GD,slot_dict_keyiterator_next->GE,slot_dict_setdefault->OQ,slot_tuple_iterator_next->PQ,slot_list_reversed->PR,slot_enumerate_next->PU,entry_zip_next->PV,args_zip_next_1->PX,type_dict_setdefault->Ia,slot_tuple_add->Ib,slot_dict_get->Ic,entry_tuple_add->Ie,args_tuple_add_2->Ig,slot_zip_getattribute->Jp,slot_list_getattribute->Jq,type_list_append->J4,slot_list_index->J5,slot_list_append->J6,slot_dict_update->J7,args_dict_get_3->J8,slot_dict_itemiterator_iter->K6,entry_dict_keyiterator_next->K7,args_dict_keyiterator_next_1->K8
open PySem.Expr renaming Call->uM
open PySem.Heap.SameBut renaming update->xA
open ForInStep renaming yield->AR
open PySem.Builtin.Tuple renaming tupleHashOf->AU,tupleExact->PZ,tupleItemsOf->Ju
open PySem.Builtin.SmallTypes renaming ownedTupleIsFree->AV,nextOf->AW,ownedTupleHandOut->Jv
open PySem.Builtin.List renaming listExtendWith->AX,listSameRef->QC,listLengthHint->Jx
open PySem.SetTable renaming fresh->FF,fill->OM
open Classical renaming byContradiction->GF
open Array.Perm renaming refl->GI
open PySem.MeetsSeq renaming plain_index_loop->OV,EqGives->OW
open List.Sublist renaming refl->PK
open List.Perm renaming refl->PL
open List.Nodup renaming length_le_of_subset->PM
open PySem.Calls renaming spliced_cons->PY,spliced_nil->Js,call_function_entry->Jt
open PySem.Builtin.Str renaming occurrences->QA
open PySem.Builtin.Slice renaming slicePlaces->QB,sliceAdjust->Jw
open PySem.Builtin.Dict renaming updateFrom->QD,pairItems->Jy
open String renaming splitOnAux->Ho,splitOn->Hq
open PySem.PyData.tuple renaming inj->Ik
open List.cons renaming injEq->Jk
open List.Pairwise renaming imp_of_mem->Jm
open PyProof.Rows.F renaming plain_set_update_loop->Jr
theorem ak {α β:Type}{x:Option α}{f:α->Option β}{b:β}(h:x.bind f=some b) : ∃ a,x=some a/\f a=some b:=Option.bind_eq_some_iff.1 h
set_option Elab.async false
set_option compiler.extract_closed false
set_option bootstrap.genMatcherCode false
set_option genSizeOfSpec false
set_option linter.all false
set_option maxRecDepth 100000
set_option exponentiation.threshold 2000
noncomputable section
local macro_rules|`(())=>`(by lia)
local macro_rules|`(nofun)=>`(by decide)
set_option hygiene false in
local macro_rules|`(tactic|rw[0])=>`(tactic|decide +kernel)
set_option hygiene false in
local macro_rules
|`(tactic|rw[1])=>`(tactic|(
 intro X hP hw hK hc i ac s Z H E I hf st hg;subst hP hw hK))
|`(tactic|rw[2])=>`(tactic|(
 obtain⟨d,e,rfl⟩:=this;exact e))
|`(tactic|rw[3])=>`(tactic|intro ac s Z H x y v u Q I rx ry h)
|`(tactic|rw[4])=>`(tactic|obtain⟨P,Y,d,hP,rs,ef,k⟩:=gh)
|`(tactic|rw[5])=>`(tactic|intro ac s Z H xs us Q I r h)
|`(tactic|rw[6])=>`(tactic|obtain⟨B0,Y,fp,o,S,ef,k⟩:=gh)
|`(tactic|rw[7])=>`(tactic|refine cU rfl ?_)
|`(tactic|rw[8])=>`(tactic|intro ac s Z H Q I h)
|`(tactic|rw[9])=>`(tactic|obtain⟨v,rfl,r'⟩:=fT r)
|`(tactic|rw[10])=>`(tactic|rcases cX.1 m with rfl|m)
|`(tactic|rw[11])=>`(tactic|refine aF ?_)
|`(tactic|rw[12])=>`(tactic|dsimp only)
set_option hygiene false in
local macro_rules
|`(tactic|rw[13])=>`(tactic|subst this)
|`(tactic|rw[14])=>`(tactic|sleep 0)
open Option renaming some->aa,none->ab
open Bool renaming true->ae,false->af
namespace L2
open PySem PySem.Spec PyProof.Rows
variable {h h' base:aQ}{ks:List aA}{s s':aH}{a b C dx:aC}{xs:List (List aA×aC×aD)}{us:List aD}{x:aE}{u:aD}{o:bC}{t' i k ep:Nat}{ch fp:List aC}{e c tg:aU}{M:Model}{A:bS}{E Q:aD->aH->Prop}{pos p:bK}{ac:List (aC×bC)}{K:aK}{f:aD->aD->Sem aD}{es:List aU}{body:List eW}{op:CmpOp}{mg:aE->Option aD}{fd:mU}{ps:List aE}{prog:bN}
instance decEqData:DecidableEq aA:=λa b=>Classical.propDecidable (a=b)
mutual
def bP:aA->Bool
 |.int _=>ae
 |.str x=>cR (.str x)
 |.tuple ds=>bR ds
 |_=>af
def bR:List aA->Bool
 |[]=>ae
 |d::r=>bP d&&bR r
end
mutual
theorem KD:∀ d:aA,bP d=ae->d.canLay0=ae
 |.int _,_=>by simp[cR]
 |.str x,h=>by simpa [bP] using h
 |.tuple ds,h=>by
  simp only[cR];exact Ad ds (by simpa [bP] using h)
 |.none,h=>by simp[bP] at h
 |.bool _,h=>by simp[bP] at h
 |.list _,h=>by simp[bP] at h
 |.dict _,h=>by simp[bP] at h
theorem Ad:∀ ds:List aA,bR ds=ae->AD ds=ae
 |[],_=>by simp[AD]
 |d::r,h=>by
  have h':bP d=ae/\bR r=ae:=by simpa [bR] using h
  simp only[AD,KD d h'.1,Ad r h'.2,Kb]
end
mutual
theorem JY:∀ x y:aA,bP x=ae->bP y=ae->cF x y=decide (x=y)
 |.int i,.int j,_,_=>by
  by_cases e:i=j
  .subst e;simp[cF]
  .have:¬ aY i=.int j:=λq=>e (PyData.int.inj q)
   simp[cF,e]
 |.str i,.str j,_,_=>by
  by_cases e:i=j
  .subst e;simp[cF]
  .simp[cF,e]
 |.tuple xs,.tuple ys,h1,h2=>by
  have e:=yQ xs ys (by simpa [bP] using h1) (by simpa [bP] using h2)
  simp only[cF,e]
  grind
 |.int _,.str _,_,_=>by simp[cF]
 |.int _,.tuple _,_,_=>by simp[cF]
 |.str _,.int _,_,_=>by simp[cF]
 |.str _,.tuple _,_,_=>by simp[cF]
 |.tuple _,.int _,_,_=>by simp[cF]
 |.tuple _,.str _,_,_=>by simp[cF]
 |.none,_,h,_=>by simp[bP] at h
 |.bool _,_,h,_=>by simp[bP] at h
 |.list _,_,h,_=>by simp[bP] at h
 |.dict _,_,h,_=>by simp[bP] at h
 |.int _,.none,_,h=>by simp[bP] at h
 |.int _,.bool _,_,h=>by simp[bP] at h
 |.int _,.list _,_,h=>by simp[bP] at h
 |.int _,.dict _,_,h=>by simp[bP] at h
 |.str _,.none,_,h=>by simp[bP] at h
 |.str _,.bool _,_,h=>by simp[bP] at h
 |.str _,.list _,_,h=>by simp[bP] at h
 |.str _,.dict _,_,h=>by simp[bP] at h
 |.tuple _,.none,_,h=>by simp[bP] at h
 |.tuple _,.bool _,_,h=>by simp[bP] at h
 |.tuple _,.list _,_,h=>by simp[bP] at h
 |.tuple _,.dict _,_,h=>by simp[bP] at h
theorem yQ:∀ xs ys:List aA,bR xs=ae->bR ys=ae->wO xs ys=decide (xs=ys)
 |[],[],_,_=>by simp[wO]
 |[],_::_,_,_=>by simp[wO]
 |_::_,[],_,_=>by simp[wO]
 |x::xs,y::ys,h1,h2=>by
  have WF:bP x=ae/\bR xs=ae:=by simpa [bR] using h1
  have xi:bP y=ae/\bR ys=ae:=by simpa [bR] using h2
  simp only[wO,JY x y WF.1 xi.1,yQ xs ys WF.2 xi.2]
  grind
end
mutual
def dF (w:bA):aA->Int
 |.int i=>hashInt i
 |.str x=>hashStr w x
 |.tuple ds=>reduceHash (AU (lG w ds))
 |_=>0
def lG (w:bA):List aA->List Int
 |[]=>[]
 |d::r=>dF w d::lG w r
end
mutual
def rC:aA->Nat
 |.tuple ds=>oF ds+1
 |_=>1
def oF:List aA->Nat
 |[]=>0
 |d::r=>rC d+oF r
end
theorem Da (a b:List aA):oF (a++b)=oF a+oF b:=by
 induction a with
 |nil=>simp[oF]
 |cons x r ih=>simp only[GA,oF,ih];lia
theorem Dm (w:bA)(a b:List aA):lG w (a++b)=lG w a++lG w b:=by
 induction a with
 |nil=>rfl
 |cons x r ih=>simp only[GA,lG,ih]
section
variable {w:bA}
theorem lT{v:aD}{as:List aC}(r:kR h v (.tuple ks) as):∃ a o vs n,v=.ref a/\h.get? a=aa o/\o.cls=.type "tuple" /\ o.data=.seq vs n/\lW h vs.toList ks as:=by
 cases r with
 |tuple h1 h2 h3 h4=>exact⟨_,_,_,_,rfl,h1,h2,h3,h4⟩
theorem MT{as:List aC}(r:kR s.heap (.ref a) (.tuple ks) as):s.TypeIs (.ref a) "tuple":=by
 obtain⟨a',o,vs,n,e,h1,h2,_⟩:=lT r;cases e;exact⟨o,h1,h2⟩
mutual
theorem Bj:∀ (d:aA) {A:bS} {E:aD->aH->Prop} {s:aH} {v:aD} {as:List aC} {Q:Int->aH->Prop},A.units+d.depth<cLine->bP d=ae->kR s.heap v d as ->
  Q (dF w d) { s with toks:=s.toks+rC d }->aM (aP prog w) A (pyHash v) Q E s
 |.int i,A,E,s,v,as,Q,hu,hk,r,h=>by
  cases r with
  |int _ t=>exact wpAny_pyHash_int (by simpa [dF,rC] using h)
 |.str x,A,E,s,v,as,Q,hu,hk,r,h=>by
  cases r with
  |str _ t=>exact wpAny_pyHash_str (by simpa [dF,rC] using h)
 |.tuple ks,A,E,s,v,as,Q,hu,hk,r,h=>by
  obtain⟨a,o,ai,n,rfl,ho,hc,hd,hi⟩:=lT r;have hT:s.TypeIs (.ref a) "tuple":=⟨o,ho,hc⟩;have pv:A.units+(cT ks+1)<cLine:=by simpa [mR] using hu
  unfold pyHash
  first|unfold pyHashByItsType|skip
  first|refine aF (wpAny_cRoomFor_or (.inr ()) ?_)|skip
  refine aF (wD hT GD.lookup ?_);rw[if_neg (by rw[beq_builtin_none];exact kB)]
  refine aF (wD hT GD.lookup ?_);refine aF (wpAny_callSpecialIfBoundUnlessNone?_slot hT GD (fE GD hT F.entry_tuple_hash ?_ (F.args_tuple_hash_1 _)));show aM _ _ (Ju (.ref a)>>=_) _ _ s;refine aF (Hf ho hd ?_);rw[11];rw[<-AZ];refine zV _
   (λrest (b:Array Int) s'=>∃ done tp bs,ks=done++tp/\lW s.heap rest tp bs/\b.toList=lG w done/\s'={ s with toks:=s.toks+oF done })
   _ ?_ ?_ _ _ ⟨[],ks,as,rfl,hi,rfl,rfl⟩
  .rintro x rest b s' ⟨done,tp,bs,e,hl,hb,rfl⟩;cases hl with
   |@cons _ _ d ds O8 ui h1 rp=>
    have hm:d∈ks:=by rw[e];exact oY _ bE
    have bz:bR ks=ae:=by simpa [bP] using hk
    refine aF (Cc ks hm (by
     have:A.in1.units=A.units+1:=rfl
     lia) bz h1 ?_)
    first
     |exact aN ⟨done++[d],ds,ui,by simp[e],rp,by simp[hb,Dm,lG],by simp[Da,oF,FR]⟩
     |exact aF (aN (aN ⟨done++[d],ds,ui,by simp[e],rp,by simp[hb,Dm,lG],by simp[Da,oF,FR]⟩))
  .rintro b s' ⟨done,tp,bs,e,hl,hb,rfl⟩;cases hl;rw[mS] at e;subst e;show aM _ _ (retInt (AU b.toList)) _ _ _;rw[hb];refine wpAny_ret_mkInt ?_;show aM _ _ (if (decide (-(2:Int)^63<=AU (lG w ks))&&decide (AU (lG w ks)<2^63))=ae then _ else _) Q E _
   simp only[dF,rC] at h;unfold reduceHash at h;by_cases hr:(decide (-(2:Int)^63<=AU (lG w ks))&&decide (AU (lG w ks)<2^63))=ae
   .rw[if_pos hr];rw[if_pos hr] at h;exact aN (by simpa [FR] using h)
   .rw[if_neg hr];rw[if_neg hr] at h;exact aF (kO (aN (by simpa [FR] using h)))
 |.none,A,E,s,v,as,Q,hu,hk,r,h=>by simp[bP] at hk
 |.bool _,A,E,s,v,as,Q,hu,hk,r,h=>by simp[bP] at hk
 |.list _,A,E,s,v,as,Q,hu,hk,r,h=>by simp[bP] at hk
 |.dict _,A,E,s,v,as,Q,hu,hk,r,h=>by simp[bP] at hk
theorem Cc:∀ (ks:List aA) {d:aA},d∈ks->∀ {A:bS} {E:aD->aH->Prop} {s:aH} {v:aD} {as:List aC} {Q:Int->aH->Prop},A.units+cT ks<cLine->bR ks=ae->kR s.heap v d as ->
  Q (dF w d) { s with toks:=s.toks+rC d }->aM (aP prog w) A (pyHash v) Q E s
 |[],_,hm,_,_,_,_,_,_,_,_,_,_=>by simp at hm
 |k::ks,d,hm,A,E,s,v,as,Q,hu,hk,r,h=>by
  have bz:bP k=ae/\bR ks=ae:=by simpa [bR] using hk
  have pv:A.units+max k.depth (cT ks)<cLine:=by simpa [cT] using hu
  by_cases e:d=k
  .exact Bj k () bz.1 (e ▸ r) (by rw[<-e];exact h)
  .have tq:d∈ks:=by
    grind
   exact Cc ks tq () bz.2 r h
end
end
section
variable {w:bA}
mutual
theorem DV:∀ (d:aA) (n:Nat) {A:bS} {E:aD->aH->Prop} {s:aH} {v:aD} {as:List aC} {Q:Bool->aH->Prop},d.depth<=n->bP d=ae->kR s.heap v d as ->
  Q ae s->aM (aP prog w) A (eqIsQuiet n v) Q E s
 |.int i,n,A,E,s,v,as,Q,hu,hk,r,h=>by
  cases r with
  |int _ t=>
   rw[eqIsQuiet_byValue n (by rfl)]
   exact aN h
 |.str x,n,A,E,s,v,as,Q,hu,hk,r,h=>by
  cases r with
  |str _ t=>
   rw[eqIsQuiet_byValue n (by rfl)]
   exact aN h
 |.tuple ks,n,A,E,s,v,as,Q,hu,hk,r,h=>by
  obtain⟨a,o,ai,m,rfl,ho,hc,hd,hi⟩:=lT r;have hT:s.TypeIs (.ref a) "tuple":=⟨o,ho,hc⟩;have pv:cT ks+1<=n:=by simpa [mR] using hu
  obtain⟨n,rfl⟩:∃ m,n=m+1:=⟨n-1,by omega⟩
  have bz:bR ks=ae:=by simpa [bP] using hk
  unfold eqIsQuiet;refine aF (wD hT F.slot_tuple_eq.lookup ?_);refine aF (oQ hT isSubtype_tuple_tuple ?_);simp only[AY,gA,if_false];refine aF (hZ ho hd ?_);rw[11];rw[<-AZ];refine zV _ (λrest r s'=>r.1=ab/\s'=s/\∃ ds bs,lW s.heap rest ds bs/\∀ d∈ds,d∈ks) _ ?_ ?_ _ _ ⟨rfl,rfl,ks,as,hi,λ_ h=>h⟩
  .rintro v rest r s' ⟨hr,rfl,ds,bs,hl,ca⟩;cases hl with
   |@cons _ _ d ds O8 ui h1 rp=>
    refine aF (An ks (ca d bE) n (by omega) bz h1 ?_)
    simp only[AY,gA,if_false];exact aN ⟨rfl,rfl,ds,ui,rp,λu ye=>ca u (bL _ ye)⟩
  .rintro⟨r1,r2⟩ s' ⟨hr,rfl,_⟩;simp only at hr;subst hr;exact aN h
 |.none,n,A,E,s,v,as,Q,hu,hk,r,h=>by simp[bP] at hk
 |.bool _,n,A,E,s,v,as,Q,hu,hk,r,h=>by simp[bP] at hk
 |.list _,n,A,E,s,v,as,Q,hu,hk,r,h=>by simp[bP] at hk
 |.dict _,n,A,E,s,v,as,Q,hu,hk,r,h=>by simp[bP] at hk
theorem An:∀ (ks:List aA) {d:aA},d∈ks->∀ (n:Nat) {A:bS} {E:aD->aH->Prop} {s:aH} {v:aD} {as:List aC} {Q:Bool->aH->Prop},cT ks<=n->bR ks=ae->kR s.heap v d as ->
  Q ae s->aM (aP prog w) A (eqIsQuiet n v) Q E s
 |[],_,hm,_,_,_,_,_,_,_,_,_,_,_=>by simp at hm
 |k::ks,d,hm,n,A,E,s,v,as,Q,hu,hk,r,h=>by
  have bz:bP k=ae/\bR ks=ae:=by simpa [bR] using hk
  have pv:max k.depth (cT ks)<=n:=by simpa [cT] using hu
  by_cases e:d=k
  .exact DV k n (by omega) bz.1 (e ▸ r) h
  .have tq:d∈ks:=by
    grind
   exact An ks tq n (by omega) bz.2 r h
end
mutual
theorem Ag(kp:∀ b o vs n,h.get? b=aa o->o.cls=.type "tuple" -> o.data=.seq vs n->h'.get? b=aa o):∀ (d:aA) {v:aD} {as:List aC},bP d=ae->kR h v d as->kR h' v d as
 |.int i,v,as,hk,r=>by
  cases r with
  |int _ t=>exact .int i t
 |.str x,v,as,hk,r=>by
  cases r with
  |str _ t=>exact .str x t
 |.tuple ks,v,as,hk,r=>by
  obtain⟨a,o,ai,m,rfl,ho,hc,hd,hi⟩:=lT r;exact .tuple (kp _ _ _ _ ho hc hd) hc hd (Df kp ks (by simpa [bP] using hk) hi)
 |.none,v,as,hk,r=>by simp[bP] at hk
 |.bool _,v,as,hk,r=>by simp[bP] at hk
 |.list _,v,as,hk,r=>by simp[bP] at hk
 |.dict _,v,as,hk,r=>by simp[bP] at hk
theorem Df(kp:∀ b o vs n,h.get? b=aa o->o.cls=.type "tuple" -> o.data=.seq vs n->h'.get? b=aa o):∀ (ds:List aA) {vs:List aD} {as:List aC},bR ds=ae->lW h vs ds as->lW h' vs ds as
 |[],vs,as,hk,r=>by
  cases r with
  |nil=>exact .nil
 |d::ds,vs,as,hk,r=>by
  have bz:bP d=ae/\bR ds=ae:=by simpa [bR] using hk
  cases r with
  |cons r1 r2=>exact .cons (Ag kp d bz.1 r1) (Df kp ds bz.2 r2)
end
def Abn (h:aQ)(ks:List aA)(a:aC):Prop:=bR ks=ae/\cT ks<=6/\∃ as,kR h (.ref a) (.tuple ks) as
theorem Abn.keep(kp:∀ b o vs n,h.get? b=aa o->o.cls=.type "tuple" -> o.data=.seq vs n->h'.get? b=aa o)(k:Abn h ks a):Abn h' ks a:=
 ⟨k.1,k.2.1,k.2.2.choose,Ag kp (.tuple ks) (by simpa [bP] using k.1) k.2.2.choose_spec⟩
def jO (prog:bN)(w:bA):HeapKind prog w (List aA) where
 is:=Abn
 hash:=λks=>dF w (.tuple ks)
 draws:=λks=>rC (.tuple ks)
 room:=λA=>A.units+20<cLine
 inj:=λ{h a x y} hx hy=>by
  obtain⟨k1,_,as,r1⟩:=hx;obtain⟨k2,_,bs,r2⟩:=hy;exact Ik (reads_det (λ_ _ e _=>e) r2 r1).1
 keeps:=λ{h h' k a d o es ep} x ho hd hs=>x.keep λb ob vs n hb _ ko=>by
  have dg:b≠d:=by
   rintro rfl;rw[ho] at hb;cases hb;rw[hd] at ko;cases ko
  exact(hs.2 b dg).trans hb
 pyHash:=λ{A E s k a Q} hu hk h=>by
  obtain⟨k1,k2,as,r⟩:=hk;exact Bj (.tuple k) (by simp only[mR];omega) (by simpa [bP] using k1) r h
 eqBool:=λ{A E s x y a b Q} hu hx hy h=>by
  obtain⟨k1,d1,as,r1⟩:=hx;obtain⟨k2,d2,bs,r2⟩:=hy;have e:=JY (.tuple x) (.tuple y) (by simpa [bP] using k1) (by simpa [bP] using k2)
  have e2:decide ((cW x)=.tuple y)=decide (x=y):=by
   by_cases q:x=y
   .subst q;simp
   .rw[decide_eq_false q,decide_eq_false (λz=>q (Ik z))]
  have:=SeqAt.eqAt_reads (.tuple x) (.tuple y) A s (.ref a) (.ref b) as bs r1 r2 (KD _ (by simpa [bP] using k1)) (KD _ (by simpa [bP] using k2)) (by simp only[mR];omega)
  rw[e,e2] at this;exact this prog w E Q h
 quiet:=λ{A E s k a Q} hk h=>by
  obtain⟨k1,k2,as,r⟩:=hk;exact DV (.tuple k) 8 (by simp only[mR];omega) (by simpa [bP] using k1) r h
end
abbrev aI:=Sum Int aE
def uT:aI->aD->Bool
 |.inl k,v=>Value.isInt k v
 |.inr x,v=>Value.isStrOf x v
def Kp (w:bA):aI->Int
 |.inl k=>hashInt k
 |.inr x=>hashStr w x
theorem nK:∀ {k:aI} {v:aD},uT k v=ae->(∃ i t,k=wL i/\v=uD i t)\/(∃ x t,k=jE x/\v=uC x t)
 |.inl i,v,h=>by
  obtain⟨t,e⟩:=Value.isInt_shape (k:=i) (v:=v) h
  grind
 |.inr x,v,h=>by
  obtain⟨t,e⟩:=Value.isStrOf_shape (x:=x) (v:=v) h
  grind
theorem G7 (i:Int)(t:Tok):uT (.inl i) (.int i t)=ae:=by simp[uT,Value.isInt]
theorem G5 (x:aE)(t:Tok):uT (.inr x) (.str x t)=ae:=by simp[uT,Value.isStrOf]
theorem Qb (a b:Int):decide ((wL a:aI)=wL b)=(a==b):=by
 grind
theorem Na (a b:aE):decide ((jE a:aI)=jE b)=decide (a=b):=by
 grind
theorem Pf (a:Int)(b:aE):decide ((wL a:aI)=jE b)=af:=decide_eq_false (λq=>nomatch q)
theorem Pc (a:aE)(b:Int):decide ((jE a:aI)=wL b)=af:=decide_eq_false (λq=>nomatch q)
def dP (prog:bN)(w:bA):PySem.KeyKind prog w aI where
 is:=uT
 hash:=Kp w
 inj:=λv a b ha hb=>by
  rcases nK ha with⟨i,t,rfl,rfl⟩|⟨x,t,rfl,rfl⟩
  .rcases nK hb with⟨j,u,rfl,e⟩|⟨y,u,rfl,e⟩
   .injection e with e1 _;rw[e1]
   .exact nomatch e
  .rcases nK hb with⟨j,u,rfl,e⟩|⟨y,u,rfl,e⟩
   .exact nomatch e
   .injection e with e1 _;rw[e1]
 byValue:=λk v h=>by
  rcases nK h with⟨i,t,rfl,rfl⟩|⟨x,t,rfl,rfl⟩<;>rfl
 pyHash:=λhv h=>by
  rcases nK hv with⟨i,t,rfl,rfl⟩|⟨x,t,rfl,rfl⟩
  .exact wpAny_pyHash_int h
  .exact wpAny_pyHash_str h
 eqBool:=λhu hv h=>by
  rcases nK hu with⟨i,t,rfl,rfl⟩|⟨x,t,rfl,rfl⟩
  .rcases nK hv with⟨j,u,rfl,rfl⟩|⟨y,u,rfl,rfl⟩
   .rw[Qb] at h;exact wpAny_eqBool_int h
   .rw[Pf] at h;exact SeqAt.EqAt.int_str i t y u _ _ _ _ h
  .rcases nK hv with⟨j,u,rfl,rfl⟩|⟨y,u,rfl,rfl⟩
   .rw[Pc] at h;exact SeqAt.EqAt.str_int x t j u _ _ _ _ h
   .rw[Na] at h;exact wpAny_eqBool_str h
 «strs»:=λk x t v h=>by
  rcases nK h with⟨i,u,rfl,e⟩|⟨y,u,rfl,e⟩
  .exact nomatch e
  .injection e with e1 _;subst e1;cases v<;>rfl
theorem yV (prog:bN)(w:bA)(i:Int)(t:Tok):(dP prog w).is (.inl i) (.int i t)=ae:=G7 i t
theorem zH (prog:bN)(w:bA)(x:aE)(t:Tok):(dP prog w).is (.inr x) (.str x t)=ae:=G5 x t
inductive V where
 |non|bl (b:Bool)|int (i:Int)|str (x:aE)|byt (b:Array UInt8)|flt (b:UInt64)|ref (a:aC)|ty (n:String)
 deriving DecidableEq
def RelV:V->aD->Prop
 |.non,u=>u=eE
 |.bl b,u=>u=Value.bool b
 |.int i,u=>∃ t,u=uD i t
 |.str x,u=>∃ t,u=uC x t
 |.byt b,u=>∃ t,u=Value.bytes b t
 |.flt b,u=>∃ t,u=Value.float b t
 |.ref a,u=>u=eI a
 |.ty n,u=>u=jV n
abbrev Vals:List V->List aD->Prop:=cQ RelV
theorem Vals.length {xs:List V}(r:Vals xs us):xs.length=us.length:=jX r
theorem Vals.get:∀ {xs:List V} {us:List aD} {i:Nat} {x:V},Vals xs us->xs[i]?=aa x->∃ u,us[i]?=aa u/\RelV x u
 |_,_,_,_,.nil,e=>by simp at e
 |_,_,0,_,.cons r _,e=>by simp at e;subst e;exact⟨_,rfl,r⟩
 |_,_,i+1,x,.cons _ t,e=>by
  obtain⟨u,h1,h2⟩:=Vals.get (i:=i) (x:=x) t (by simpa using e)
  grind
theorem Vals.set {x:V}(r:RelV x u):∀ {xs:List V} {us:List aD} (i:Nat),Vals xs us->Vals (xs.set i x) (us.set i u)
 |_,_,_,.nil=>.nil
 |_,_,0,.cons _ t=>.cons r t
 |_,_,i+1,.cons q t=>.cons q (Vals.set r i t)
theorem Vals.append:∀ {xs ys:List V} {us ws:List aD},Vals xs us->Vals ys ws->Vals (xs++ys) (us++ws)
 |_,_,_,_,.nil,s=>s
 |_,_,_,_,.cons r t,s=>.cons r (Vals.append t s)
theorem Vals.take:∀ {xs:List V} {us:List aD} (n:Nat),Vals xs us->Vals (xs.take n) (us.take n)
 |_,_,0,_=>.nil
 |_,_,_+1,.nil=>.nil
 |_,_,n+1,.cons r t=>.cons r (Vals.take n t)
theorem Vals.drop:∀ {xs:List V} {us:List aD} (n:Nat),Vals xs us->Vals (xs.drop n) (us.drop n)
 |_,_,0,r=>r
 |_,_,_+1,.nil=>.nil
 |_,_,n+1,.cons _ t=>Vals.drop n t
def Auy:Option V->Option aD->Prop
 |some v,aa u=>RelV v u
 |none,ab=>True
 |_,_=>False
def KV {κ:Type}:List (κ×V)->List (κ×aD)->Prop:=cQ λ(p:κ×V) (q:κ×aD)=>p.1=q.1/\RelV p.2 q.2
def kV:aI->V
 |.inl i=>.int i
 |.inr x=>.str x
inductive HO where
 |lst (xs:List V)
 |tup (xs:List V)
 |dK (ep:Nat) (kvs:List (aI×V))|dT (ep:Nat) (kvs:List (List aA×V))
 |set (S:Int->Bool) (n:Nat)
 |ins (C dx:aC) (fs:List (aE×V))
 |own (x:aC)
 |xd (fs:List (aE×V))
 |met (f x:aC)
 |rng (lo hi:Int)
 |frz (o:bC) (u:HO)
 |tbl (ps:Array aD)
 |ext (φ:aQ->Prop)
abbrev Hp:=aC->Option HO
def upd (H:Hp)(a:aC)(o:HO):Hp:=λb=>if b=a then aa o else H b
theorem dZ {H:Hp}{o:HO}:upd H a o a=aa o:=by unfold upd;rw[if_pos rfl]
theorem cK {H:Hp}{o:HO}(h:b≠a):upd H a o b=H b:=by unfold upd;rw[if_neg h]
theorem Lu {H:Hp}{o u:HO}(h:H a=aa o)(h':H b=aa u)(d:o≠u):a≠b:=by
 grind
theorem iQ {H:Hp}{o:HO}(h:H a=aa o)(h':H b=ab):a≠b:=by
 intro e;subst e;rw[h] at h';cases h'
mutual
def Aj6 (H:Hp):aA->V->Prop
 |.int i,v=>v=.int i
 |.str x,v=>v=.str x
 |.tuple ds,v=>∃ a xs,v=.ref a/\H a=aa (.tup xs)/\Ags H ds xs
 |_,_=>False
def Ags (H:Hp):List aA->List V->Prop
 |[],vs=>vs=[]
 |d::r,vs=>∃ x rr,vs=x::rr/\Aj6 H d x/\Ags H r rr
end
mutual
theorem Aj6.keep {H H':Hp}(ht:∀ b xs,H b=aa (.tup xs)->H' b=aa (.tup xs)):∀ {d:aA} {v:V},Aj6 H d v->Aj6 H' d v
 |.int _,_,k=>by simpa [Aj6] using k
 |.str _,_,k=>by simpa [Aj6] using k
 |.tuple ds,_,k=>by
  simp only[Aj6] at k ⊢;obtain⟨a,xs,e,h,ks⟩:=k;exact⟨a,xs,e,ht _ _ h,Ags.keep ht ks⟩
 |.none,_,k=>by simp[Aj6] at k
 |.bool _,_,k=>by simp[Aj6] at k
 |.list _,_,k=>by simp[Aj6] at k
 |.dict _,_,k=>by simp[Aj6] at k
theorem Ags.keep {H H':Hp}(ht:∀ b xs,H b=aa (.tup xs)->H' b=aa (.tup xs)):∀ {ds:List aA} {vs:List V},Ags H ds vs->Ags H' ds vs
 |[],_,k=>by simpa [Ags] using k
 |d::ds,_,k=>by
  simp only[Ags] at k ⊢;obtain⟨x,r,e,k1,k2⟩:=k;exact⟨x,r,e,Aj6.keep ht k1,Ags.keep ht k2⟩
end
def Arp (H:Hp)(ks:List aA)(a:aC):Prop:=bR ks=ae/\cT ks<=6/\∃ xs,H a=aa (.tup xs)/\Ags H ks xs
theorem Arp.keep {H H':Hp}(k:Arp H ks a)(ht:∀ b xs,H b=aa (.tup xs)->H' b=aa (.tup xs)):Arp H' ks a:=
 ⟨k.1,k.2.1,k.2.2.choose,ht _ _ k.2.2.choose_spec.1,k.2.2.choose_spec.2.keep ht⟩
def A8t (h:aQ)(a:aC)(its:Array aD):Prop:=IsTup h a its/\∃ o,h.get? a=aa o/\o.dict=ab
theorem A8t.new (h:aQ)(its:Array aD):A8t (h.push { cls:=.type "tuple",data:=.seq its }) h.objs.size its:=⟨IsTup.new _ _,_,cL _ rfl,rfl⟩
section
variable (P:bN)(w:bA)
def Acn (H:Hp)(h:aQ)(a:aC):HO->Prop
 |.lst xs=>xs.length<=sizeLine/\∃ (its:List aD) (n:Nat),Vals xs its/\h.get? a=aa { cls:=.type "list",data:=.seq its.toArray n }
 |.tup xs=>xs.length<=sizeLine/\∃ its:List aD,Vals xs its/\A8t h a its.toArray
 |.dK ep kvs=>kvs.length<=sizeLine/\(a==jB)=af/\∃ vs,KV kvs vs/\h.DictAt (dP P w) a vs ep
 |.dT ep kvs=>kvs.length<=sizeLine/\(a==jB)=af/\∃ xs:List (List aA×aC×aD),
   cQ (λ(p:List aA×V) (q:List aA×aC×aD)=>p.1=q.1/\Arp H p.1 q.2.1/\RelV p.2 q.2.2) kvs xs /\
   ∃ o es,h.get? a=aa o/\o.ExactDict/\o.data=.dict es ep/\es.toList=xs.map (entryOfKey (jO P w))/\(xs.map (·.1)).Nodup
 |.set S n=>h.SetOf (intKind P w) a S n
 |.ins C dx fs=>H dx=aa (.own a)/\fs.length<=1000/\dx≠a/\h.get? a=aa (Hy C dx) /\
   ∃ mA,h.Ns1 dx mA/\(∀ f,Auy (fs.lookup f) (mA f))/\PySem.Within mA (fs.map (·.1))
 |.own _=>∃ o,h.get? a=aa o
 |.xd fs=>∃ mA,h.Ns1 a mA/\∀ f,Auy (fs.lookup f) (mA f)
 |.rng lo hi=>∃ t u v,h.get? a=aa { cls:=.type "range",data:=.fields #[.int lo t,.int hi u,.int 1 v] }
 |.frz o u=>h.get? a=aa o/\Acn H h a u
 |.tbl ps=>h.get? a=aa { cls:=.none,data:=.fields ps }
 |.met f x=>h.get? a=aa (Ht (.ref f) (.ref x))
 |.ext φ=>φ h/\(∃ o,h.get? a=aa o)/\∀ h1 h2:aQ,φ h1->(∀ o,h1.get? a=aa o->h2.get? a=aa o)->φ h2
def HOk (H:Hp)(h:aQ):Prop:=∀ a o,H a=aa o->Acn P w H h a o
end
section
variable {P:bN}{w:bA}{H H':Hp}{o:HO}
theorem Acn.lt (x:Acn P w H h a o):a<h.objs.size:=by
 cases o with
 |lst xs=>obtain⟨_,_,_,_,e⟩:=x;exact bI e
 |tup xs=>obtain⟨_,_,_,p⟩:=x;exact p.1.lt
 |dK ep kvs=>obtain⟨_,_,_,_,o,_,e,_⟩:=x;exact bI e
 |dT ep kvs=>obtain⟨_,_,_,_,o,_,e,_⟩:=x;exact bI e
 |set S n=>obtain⟨o,_,_,_,e,_⟩:=x;exact bI e
 |ins C dx fs=>obtain⟨_,_,_,e,_⟩:=x;exact bI e
 |own y=>obtain⟨_,e⟩:=x;exact bI e
 |xd fs=>obtain⟨_,⟨_,_,_,e,_⟩,_⟩:=x;exact bI e
 |rng lo hi=>obtain⟨_,_,_,e⟩:=x;exact bI e
 |frz ob u=>obtain⟨e,_⟩:=x;exact bI e
 |tbl ps=>exact bI (show h.get? a=aa _ from x)
 |met f y=>exact bI (show h.get? a=aa _ from x)
 |ext φ=>obtain⟨_,⟨_,e⟩,_⟩:=x;exact bI e
theorem Paired.mapP {α β:Type}{F G:α->β->Prop}:∀ {l₁:List α} {l₂:List β},cQ F l₁ l₂->(∀ a b,F a b->G a b)->cQ G l₁ l₂:=by
 intro l₁ l₂ h;induction h with
 |nil=>exact λ_=>.nil
 |cons r _ ih=>exact λf=>.cons (f _ _ r) (ih f)
theorem Paired.imp' {α β:Type}{F G:α->β->Prop}(f:∀ a b,F a b->G a b){l₁:List α}{l₂:List β}(r:cQ F l₁ l₂):cQ G l₁ l₂:=Paired.mapP r f
theorem Acn.stay (x:Acn P w H h a o)(k:∀ b u,(b=a\/H b=aa (.own a))->h.get? b=aa u->h'.get? b=aa u)
  (ho:∀ b,H b=aa (.own a)->H' b=aa (.own a)) (ht:∀ b xs,H b=aa (.tup xs)->H' b=aa (.tup xs)):Acn P w H' h' a o:=by
 induction o with
 |lst xs=>obtain⟨z,its,n,r,e⟩:=x;exact⟨z,its,n,r,k _ _ (.inl rfl) e⟩
 |tup xs=>obtain⟨z,its,r,⟨ob,e,c⟩,ob2,e2,c2⟩:=x;exact⟨z,its,r,⟨ob,k _ _ (.inl rfl) e,c⟩,ob2,k _ _ (.inl rfl) e2,c2⟩
 |dK ep kvs=>obtain⟨z,y,vs,r,ob,es,e,c⟩:=x;exact⟨z,y,vs,r,ob,es,k _ _ (.inl rfl) e,c⟩
 |dT ep kvs=>
  obtain⟨z,y,xs,r,ob,es,e,c⟩:=x;exact⟨z,y,xs,Paired.mapP r λp q z=>⟨z.1,z.2.1.keep ht,z.2.2⟩,ob,es,k _ _ (.inl rfl) e,c⟩
 |set S n=>obtain⟨ob,es,ep,t,e,c⟩:=x;exact⟨ob,es,ep,t,k _ _ (.inl rfl) e,c⟩
 |ins C dx fs=>
  obtain⟨d,z,ne,e,mA,⟨od,es,ep,e2,c⟩,r⟩:=x;exact⟨ho _ d,z,ne,k _ _ (.inl rfl) e,mA,⟨od,es,ep,k _ _ (.inr d) e2,c⟩,r⟩
 |own y=>obtain⟨ob,e⟩:=x;exact⟨ob,k _ _ (.inl rfl) e⟩
 |xd fs=>obtain⟨mA,⟨od,es,ep,e,c⟩,r⟩:=x;exact⟨mA,⟨od,es,ep,k _ _ (.inl rfl) e,c⟩,r⟩
 |rng lo hi=>obtain⟨t,u,v,e⟩:=x;exact⟨t,u,v,k _ _ (.inl rfl) e⟩
 |frz ob u ih=>obtain⟨e,q⟩:=x;exact⟨k _ _ (.inl rfl) e,ih q⟩
 |tbl ps=>
  have e:h.get? a=aa { cls:=.none,data:=.fields ps }:=x;show h'.get? a=aa { cls:=.none,data:=.fields ps };exact k a _ (.inl rfl) e
 |met f y=>
  have e:h.get? a=aa (Ht (.ref f) (.ref y)):=x;show h'.get? a=aa (Ht (.ref f) (.ref y));exact k a _ (.inl rfl) e
 |ext φ=>obtain⟨p,⟨o,e⟩,st⟩:=x;exact⟨st _ _ p λo q=>k _ _ (.inl rfl) q,⟨o,k _ _ (.inl rfl) e⟩,st⟩
theorem HOk.lt (x:HOk P w H h)(e:H a=aa o):a<h.objs.size:=(x a o e).lt
theorem HOk.fresh (x:HOk P w H h)(e:h.objs.size<=a):H a=ab:=by
 cases q:H a with
 |none=>rfl
 |some u=>exact absurd (gH (x.lt q) e) (lY _)
theorem HOk.kept (x:HOk P w H h)(k:∀ b u,h.get? b=aa u->h'.get? b=aa u):HOk P w H h':=λa o e=>
 (x a o e).stay (λb u _ q=>k b u q) (λ_ q=>q) λ_ _ q=>q
theorem HOk.laid (x:HOk P w H h)(k:∀ b u,h.get? b=aa u->h'.get? b=aa u)(hp:h.objs.size<=a)(new:Acn P w (upd H a o) h' a o):HOk P w (upd H a o) h':=λb u e=>by
 have hn:=x.fresh hp;by_cases hb:b=a
 .subst hb;rw[dZ] at e;cases e;exact new
 .rw[cK hb] at e;exact(x b u e).stay (λc v _ q=>k c v q) (λc q=>by rw[cK (iQ q hn)];exact q) λc xs q=>by rw[cK (iQ q hn)];exact q
end
def Rd (H:Hp)(a:aC)(u:HO):Prop:=H a=aa u\/∃ o,H a=aa (.frz o u)
theorem Rd.ok {P:bN}{w:bA}{H:Hp}{u:HO}(r:Rd H a u)(x:HOk P w H h):Acn P w H h a u:=by
 rcases r with r|⟨o,r⟩
 .exact x a u r
 .obtain⟨_,q⟩:=x a _ r;exact q
def xC:Option HO->Prop
 |some (.lst _)=>True
 |some (.dK _ _)=>True
 |some (.dT _ _)=>True
 |some (.set _ _)=>True
 |some (.ins _ _ _)=>True
 |some (.ext _)=>True
 |_=>False
section
variable {P:bN}{w:bA}{H:Hp}{x e:aC}{o':HO}
theorem HOk.write (ok:HOk P w H h)(mu:xC (H x))(he:e=x\/H e=aa (.own x))(k:∀ b u,b≠e->h.get? b=aa u->h'.get? b=aa u)(yf:∃ u,h'.get? e=aa u)
  (new:Acn P w (upd H x o') h' x o'):HOk P w (upd H x o') h':=λb u q=>by
 have O9:∀ c y,H c=aa (.own y)->c≠x:=λc y r z=>by subst z;rw[r] at mu;exact mu
 have Ps:∀ c xs,H c=aa (.tup xs)->c≠x:=λc xs r z=>by subst z;rw[r] at mu;exact mu
 by_cases hb:b=x
 .subst hb;rw[dZ] at q;cases q;exact new
 .rw[cK hb] at q;by_cases P1:b=e
  .have q':H b=aa (.own x):=by
    grind
   rw[q] at q';cases q';obtain⟨v,hv⟩:=yf;exact⟨v,by rw[P1];exact hv⟩
  .refine(ok b u q).stay (λc v hc r=>k c v ?_ r) (λc r=>by rw[cK (O9 c b r)];exact r) λc xs r=>by rw[cK (Ps c xs r)];exact r
   grind
end
structure Un (fs ex:List aC)(H H':Hp)(h h':aQ):Prop where
 keep:∀ b o,h.get? b=aa o->H b=ab->b∉fs->b∉ex->h'.get? b=aa o
 slot:∀ b o,h.get? b=aa o->H b=ab->b∈fs->b∉ex->∃ sl,h'.get? b=aa { o with slots:=sl }
 free:∀ b o,h.get? b=aa o->H b=ab->b∉ex->H' b=ab
 there:∀ b o,h.get? b=aa o->b∉ex->∃ o',h'.get? b=aa o'
 tups:∀ b xs,H b=aa (.tup xs)->H' b=aa (.tup xs)
 frzs:∀ b o u,H b=aa (.frz o u)->H' b=aa (.frz o u)
 tbls:∀ b ps,H b=aa (.tbl ps)->∃ more,H' b=aa (.tbl (ps++more))
section
variable {fs fs' ex ex':List aC}{H H1 H2:Hp}{h1 h2:aQ}{x e:aC}{o:HO}
theorem Un.any (u:Un fs ex H H1 h h1){ob:bC}(q:h.get? b=aa ob)(n:H b=ab)(hx:b∉ex):∃ sl,h1.get? b=aa { ob with slots:=sl }:=by
 by_cases hb:b∈fs
 .exact u.slot b ob q n hb hx
 .exact⟨ob.slots,u.keep b ob q n hb hx⟩
theorem Un.kept (k:∀ b u,h.get? b=aa u->h'.get? b=aa u):Un fs ex H H h h':=
 ⟨λb ob q _ _ _=>k b ob q,λb ob q _ _ _=>⟨ob.slots,k b ob q⟩,λ_ _ _ n _=>n,λb ob q _=>⟨ob,k b ob q⟩,λ_ _ q=>q,λ_ _ _ q=>q,λ_ ps q=>⟨#[],by rw[q];simp⟩⟩
theorem Un.refl:Un fs ex H H h h:=Un.kept λ_ _ q=>q
theorem Un.laid (k:∀ b u,h.get? b=aa u->h'.get? b=aa u)(hp:h.objs.size<=a)(hn:H a=ab):Un fs ex H (upd H a o) h h' where
 keep:=λb u q _ _ _=>k b u q
 slot:=λb u q _ _ _=>⟨u.slots,k b u q⟩
 free:=λb u q n _=>by rw[cK (cH (gH (bI q) hp))];exact n
 there:=λb u q _=>⟨u,k b u q⟩
 tups:=λb xs q=>by rw[cK (iQ q hn)];exact q
 frzs:=λb u xs q=>by rw[cK (iQ q hn)];exact q
 tbls:=λb ps q=>⟨#[],by rw[cK (iQ q hn),q];simp⟩
theorem Un.write (mu:xC (H x))(he:e=x\/H e=aa (.own x))(k:∀ b u,b≠e->h.get? b=aa u->h'.get? b=aa u)(yf:∃ u,h'.get? e=aa u):Un fs ex H (upd H x o) h h':=by
 have hx:∀ b,H b=ab->b≠x:=λb n z=>by subst z;rw[n] at mu;exact mu
 have hb:∀ b,H b=ab->b≠e:=λb n z=>by
  grind
 have hm:∀ b u,H b=aa u->¬ xC (aa u)->b≠x:=λb u q nm z=>by subst z;rw[q] at mu;exact nm mu
 refine⟨λb u q n _ _=>k b u (hb b n) q,λb u q n _ _=>⟨u.slots,k b u (hb b n) q⟩,λb u q n _=>by rw[cK (hx b n)];exact n,λb u q _=>?_,
  λb xs q=>by rw[cK (hm b _ q λz=>z)];exact q,λb u xs q=>by rw[cK (hm b _ q λz=>z)];exact q,λb ps q=>⟨#[],by rw[cK (hm b _ q λz=>z),q];simp⟩⟩
 grind
end
def O7 (h:aQ)(H:Hp):List aC:=(cG h.objs.size).filter λa=>(H a).isSome
def pF (h:aQ)(H:Hp):aQ:=PySem.W.hideAll h (O7 h H)
theorem A2 (h:aQ)(H:Hp):(pF h H).objs.size=h.objs.size:=PySem.W.hideAll_size _ _
theorem Vc{H:Hp}(e:h.get? b=aa o)(n:H b=ab):(pF h H).get? b=aa o:=
 PySem.W.hideAll_get _ e λhm=>by
  have q:(H b).isSome=ae:=(kA.1 hm).2;rw[n] at q;simp at q
theorem Sr{H:Hp}(e:(pF h H).get? b=aa o):h.get? b=aa o/\H b=ab:=by
 have e':h.get? b=aa o:=PySem.W.of_hideAll (O7 h H) e;refine⟨e',?_⟩;cases q:H b with
 |none=>rfl
 |some x=>
  have hm:b∈O7 h H:=kA.2 ⟨iI.2 (bI e'),by simp[q]⟩
  have z:(pF h H).get? b=ab:=PySem.W.hideAll_none (O7 h H) hm;rw[z] at e;cases e
def Qq (g h:aQ)(L:aC):List (aC×bC):=(cG h.objs.size).filterMap λa=>if a=L\/(g.get? a).isSome=ae then ab else(h.get? a).map λo=>(a,o)
def rest (g h:aQ)(L d:aC):List (aC×bC):=(Qq g h L).filter λp=>decide (p.1≠d)
structure Mod (K:aK)(mg:aE->Option aD)(base:aQ):Prop where
 kin:K.In base
 glob:base.Ns jC mg
 blt:∃ mb,base.Ns builtinsNs mb/\∀ x:aE,x ≠ "__name__" -> mb x=mO x
 nolimit:base.NoLimit
structure Cx where
 prog:bN
 w:bA
 K:aK
 mg:aE->Option aD
 base:aQ
 A:bS
 N:List aE
 s₀:aH
 H₀:Hp
 env:Env
 outer:List Env
 stack:List Env
 ex:List aC
 fn:aE->Bool
 calm:Bool
 pn:List (aC×bC)
 xe:aD->aH->Prop
def ph (l:List Env):List aC:=l.filterMap (·.frame)
abbrev Cx.fs (X:Cx):List aC:=ph X.outer
def BA (sc:gV)(x:aE):Prop:=sc.names.lookup x=aa .local\/sc.names.lookup x=aa .cell\/sc.names.lookup x=aa .free
def jH (sc:gV)(x:aE):Prop:=sc.names.lookup x=aa .local\/sc.names.lookup x=aa .cell
def Look (env:Env)(h:aQ)(m:aE->Option aD)(x:aE)(u:aD):Prop:=
 (env.kindOf x=aa .local/\m x=aa u)\/((env.kindOf x=aa .cell\/env.kindOf x=aa .free)/\∃ c,env.cells.lookup x=aa c/\h.IsCell c (aa u))
structure Cx.Ok (X:Cx):Prop where
 mod:Mod X.K X.mg X.base
 kind:X.env.scope.kind=.function
 glob:X.env.globals=jC
 blt:X.env.builtins=builtinsNs
 above:X.s₀.heap.objs.size<=X.env.locals
 inj:∀ x y c,X.env.cells.lookup x=aa c->X.env.cells.lookup y=aa c->x=y
 has:∀ x,(X.env.kindOf x=aa .cell\/X.env.kindOf x=aa .free)->∃ c,X.env.cells.lookup x=aa c
 cab:∀ x c,X.fn x=ae->X.env.cells.lookup x=aa c->X.s₀.heap.objs.size<=c
 hd:X.calm=ae->X.A.handled=ab
 frames:X.A.frames=aa X.stack
 stk:X.stack=X.outer\/(X.stack=X.env::X.outer/\X.env.frame=aa X.env.locals)
 exf:∀ b∈X.ex,b≠X.env.locals/\∀ x c,X.env.cells.lookup x=aa c->c≠b
 bs:∀ b o,X.base.get? b=aa o->X.s₀.heap.get? b=aa o/\X.H₀ b=ab
 bsz:X.base.objs.size<=X.s₀.heap.objs.size
 noex:∀ b o,X.base.get? b=aa o->b∉X.ex
 exfs:∀ b∈X.ex,b∉X.fs
 funs:X.s₀.heap.FunFrames X.base X.outer
 frf:∀ b∈X.fs,X.H₀ b=ab
structure Inv (X:Cx)(ac:List (aC×bC))(Z:List (Option V))(H:Hp)(s:aH):Prop where
 ok:X.Ok
 os:s.os=X.s₀.os
 bare:sC s.gens
 base:Un X.fs X.ex X.H₀ H X.s₀.heap s.heap
 loc:∃ m,s.heap.Ns X.env.locals m/\∀ (i:Nat) (x:aE) (v:V),X.N[i]?=aa x->Z[i]?=aa (aa v)->BA X.env.scope x->∃ u,RelV v u/\Look X.env s.heap m x u
 cell:∀ x c,X.env.cells.lookup x=aa c->∃ v,s.heap.IsCell c v
 free:H X.env.locals=ab
 freeC:∀ x c,X.env.cells.lookup x=aa c->H c=ab
 pin:∀ p∈X.pn++ac,s.heap.get? p.1=aa p.2/\H p.1=ab/\p.1≠X.env.locals/\p.1∉X.fs/\∀ v,p.2.data ≠ .cell v
 hok:HOk X.prog X.w H s.heap
 len:Z.length=X.N.length
section
variable {X:Cx}{Z:List (Option V)}{H H':Hp}
theorem Cx.Ok.nofr (ok:X.Ok)(e:X.base.get? b=aa o):b∉X.fs:=λhb=>by
 have:=(ok.funs.mem hb).1;rw[e] at this;cases this
theorem Inv.bs (I:Inv X ac Z H s):∀ b o,X.base.get? b=aa o->s.heap.get? b=aa o/\H b=ab:=λb o e=>
 ⟨I.base.keep b o (I.ok.bs b o e).1 (I.ok.bs b o e).2 (I.ok.nofr e) (I.ok.noex b o e),I.base.free b o (I.ok.bs b o e).1 (I.ok.bs b o e).2 (I.ok.noex b o e)⟩
theorem Inv.bk (I:Inv X ac Z H s):∀ b o,X.base.get? b=aa o->s.heap.get? b=aa o:=λb o e=>(I.bs b o e).1
theorem Inv.mod (I:Inv X ac Z H s):Mod X.K X.mg X.base:=I.ok.mod
theorem Inv.kIn (I:Inv X ac Z H s):X.K.In s.heap:=I.ok.mod.kin.keeps I.bk
theorem Inv.lt (I:Inv X ac Z H s):X.env.locals<s.heap.objs.size:=let ⟨_,hn,_⟩:=I.loc;hn.lt
theorem Inv.sz (I:Inv X ac Z H s):X.s₀.heap.objs.size<=s.heap.objs.size:=dG I.ok.above (oX I.lt)
theorem Inv.nofs (I:Inv X ac Z H s)(h:s.heap.objs.size<=a):a∉X.fs:=λhb=>by
 obtain⟨_,o,ho,_⟩:=I.ok.funs.mem hb;exact absurd (gH (bI ho) (dG I.sz h)) (lY _)
theorem Inv.cne (I:Inv X ac Z H s):∀ x c,X.env.cells.lookup x=aa c->c≠X.env.locals:=λx c e z=>by
 obtain⟨v,o,ho,hd⟩:=I.cell x c e;obtain⟨m,⟨o',es,ep,mi,ko,_⟩,_⟩:=I.loc
 grind
theorem Inv.funs (I:Inv X ac Z H s):s.heap.FunFrames X.base X.outer:=by
 have all:∀ (l:List Env),(∀ b∈ph l,b∈X.fs)->X.s₀.heap.FunFrames X.base l->s.heap.FunFrames X.base l:=by
  intro l;induction l with
  |nil=>intro _ _;trivial
  |cons env r ih=>
   intro hs hl;obtain⟨hk,⟨L,o,hf,hn,ho,hd⟩,hr⟩:=hl;have hL:L∈X.fs:=hs L (by unfold ph;rw[AO,hf];exact bE)
   obtain⟨sl,e⟩:=I.base.slot L o ho (I.ok.frf L hL) hL λz=>I.ok.exfs L z hL
   exact⟨hk,⟨L,_,hf,hn,e,hd⟩,ih (λb hb=>hs b (by unfold ph;rw[AO,hf];exact bL _ hb)) hr⟩
 exact all X.outer (λ_ hb=>hb) I.ok.funs
theorem Inv.stack (I:Inv X ac Z H s):s.heap.FunFrames X.base X.stack:=by
 rcases I.ok.stk with e|⟨e,hf⟩
 .rw[e];exact I.funs
 .rw[e];obtain⟨m,hn,_⟩:=I.loc;refine .cons (by rw[I.ok.kind];decide) hf hn ?_ I.funs
  exact Heap.get?_none_of_le (dG I.ok.bsz I.ok.above)
theorem Inv.stkSub (I:Inv X ac Z H s):∀ b∈ph X.stack,b∈X.env.locals::X.fs:=λb hb=>by
 rcases I.ok.stk with e|⟨e,hf⟩
 .rw[e] at hb;exact bL _ hb
 .rw[e] at hb;unfold ph at hb;rw[AO,hf] at hb;exact hb
theorem Inv.stkFree (I:Inv X ac Z H s):∀ b∈ph X.stack,H b=ab:=λb hb=>by
 rcases cX.1 (I.stkSub b hb) with e|hb
 .rw[e];exact I.free
 .obtain⟨_,o,ho,_⟩:=I.ok.funs.mem hb;exact I.base.free b o ho (I.ok.frf b hb) λz=>I.ok.exfs b z hb
theorem Inv.step {g':Array uJ}{d':Drawn}(I:Inv X ac Z H s)
  (tu:∀ b∈ch,(b∈X.ex\/X.s₀.heap.objs.size<=b)/\b≠X.env.locals/\(∀ x c,X.env.cells.lookup x=aa c->c≠b)/\∀ p∈X.pn++ac,p.1≠b)
  (keep:∀ b o,b≠X.env.locals->b∉X.fs->b∉ch->s.heap.get? b=aa o->H b=ab->h'.get? b=aa o)
  (slot:∀ b o,b≠X.env.locals->b∈X.fs->b∉ch->s.heap.get? b=aa o->H b=ab->∃ sl,h'.get? b=aa { o with slots:=sl }) (free:∀ b o,b∉ch->s.heap.get? b=aa o->H b=ab->H' b=ab)
  (there:∀ b o,b∉ch->s.heap.get? b=aa o->∃ o',h'.get? b=aa o')
  (tups:∀ b xs,H b=aa (.tup xs)->H' b=aa (.tup xs)) (frzs:∀ b o u,H b=aa (.frz o u)->H' b=aa (.frz o u)) (tbls:∀ b ps,H b=aa (.tbl ps)->∃ more,H' b=aa (.tbl (ps++more)))
  (ns:∀ m,s.heap.Ns X.env.locals m->h'.Ns X.env.locals m) (hok:HOk X.prog X.w H' h') (hg:sC g') :
  Inv X ac Z H' { s with heap:=h',gens:=g',drawn:=d',toks:=t' }:=by
 have WP:∀ b o,X.s₀.heap.get? b=aa o->b≠X.env.locals:=λb o e=>cH (gH (bI e) I.ok.above)
 have L9:∀ b o,X.s₀.heap.get? b=aa o->b∉X.ex->b∉ch:=λb o e hx hb=>by
  rcases(tu b hb).1 with z|z
  .exact hx z
  .exact absurd (gH (bI e) z) (lY _)
 have uj:∀ x c,X.env.cells.lookup x=aa c->∀ v,s.heap.IsCell c v->h'.IsCell c v:=λx c e v gh=>by
  obtain⟨o,ho,hd⟩:=gh;have W0:c∉ch:=λz=>(tu c z).2.2.1 x c e rfl
  by_cases hc:c∈X.fs
  .obtain⟨sl,q⟩:=slot c o (I.cne x c e) hc W0 ho (I.freeC x c e);exact⟨_,q,hd⟩
  .exact⟨o,keep c o (I.cne x c e) hc W0 ho (I.freeC x c e),hd⟩
 refine⟨I.ok,I.os,hg,⟨λb o e n hb hx=>?_,λb o e n hb hx=>?_,λb o e n hx=>?_,λb o e hx=>?_,λb xs e=>tups b xs (I.base.tups b xs e),λb o xs e=>frzs b o xs (I.base.frzs b o xs e),λb ps e=>?_⟩,?_,λx c e=>?_,?_,λx c e=>?_,λp hp=>?_,hok,I.len⟩
 .exact keep b o (WP b o e) hb (L9 b o e hx) (I.base.keep b o e n hb hx) (I.base.free b o e n hx)
 .obtain⟨sl,e1⟩:=I.base.slot b o e n hb hx;obtain⟨sl',e2⟩:=slot b _ (WP b o e) hb (L9 b o e hx) e1 (I.base.free b o e n hx);exact⟨sl',e2⟩
 .obtain⟨o',e1⟩:=I.base.there b o e hx;exact free b o' (L9 b o e hx) e1 (I.base.free b o e n hx)
 .obtain⟨o',e1⟩:=I.base.there b o e hx;exact there b o' (L9 b o e hx) e1
 .obtain⟨m1,e1⟩:=I.base.tbls b ps e
  grind
 .obtain⟨m,hn,hl⟩:=I.loc;refine⟨m,ns m hn,λi x v e1 e2 e3=>?_⟩
  obtain⟨u,r,l⟩:=hl i x v e1 e2 e3;refine⟨u,r,?_⟩;rcases l with l|⟨k,c,e,z⟩
  .exact .inl l
  .exact .inr ⟨k,c,e,uj x c e _ z⟩
 .obtain⟨v,z⟩:=I.cell x c e;exact⟨v,uj x c e v z⟩
 .obtain⟨m,⟨o,_,_,ho,_⟩,_⟩:=I.loc;exact free _ o (λz=>(tu _ z).2.1 rfl) ho I.free
 .obtain⟨v,o,ho,hd⟩:=I.cell x c e;exact free c o (λz=>(tu c z).2.2.1 x c e rfl) ho (I.freeC x c e)
 .obtain⟨e,n,ne,nf,d⟩:=I.pin p hp
  grind
theorem Inv.un(I:Inv X ac Z H s)(u:Un X.fs [] H H' s.heap h')(hok:HOk X.prog X.w H' h'):Inv X ac Z H' { s with heap:=h',toks:=t' }:=by
 obtain⟨m,⟨o,es,ep,ho,r⟩,_⟩:=id I.loc;obtain⟨sl,hL⟩:=u.any ho I.free (by simp)
 exact I.step (g':=s.gens) (d':=s.drawn) (ch:=[]) (λ_ z=>nomatch z) (λb o _ hb _ e n=>u.keep b o e n hb (by simp)) (λb o _ hb _ e n=>u.slot b o e n hb (by simp)) (λb o _ e n=>u.free b o e n (by simp)) (λb o _ e=>u.there b o e (by simp)) u.tups u.frzs u.tbls (λm' hm=>by
  obtain⟨o',gc,qc,mi,r'⟩:=hm;rw[ho] at mi;cases mi;exact⟨_,gc,qc,hL,r'⟩) hok I.bare
theorem Inv.call {g':Array uJ}{d':Drawn}(I:Inv X ac Z H s)(u:Un (ph X.stack) ch H H' s.heap h')(hok:HOk X.prog X.w H' h')(hg:sC g')
  (tu:∀ b∈ch,(b∈X.ex\/X.s₀.heap.objs.size<=b)/\b≠X.env.locals/\(∀ x c,X.env.cells.lookup x=aa c->c≠b)/\∀ p∈X.pn++ac,p.1≠b) :
  Inv X ac Z H' { s with heap:=h',gens:=g',drawn:=d',toks:=t' }:=by
 obtain⟨m,⟨o,es,ep,ho,r⟩,_⟩:=id I.loc;obtain⟨sl,hL⟩:=u.any ho I.free λz=>(tu _ z).2.1 rfl
 exact I.step (ch:=ch) tu (λb o hL hb hc e n=>u.keep b o e n (λz=>(cX.1 (I.stkSub b z)).elim hL hb) hc) (λb o _ _ hc e n=>u.any e n hc) (λb o hc e n=>u.free b o e n hc) (λb o hc e=>u.there b o e hc) u.tups u.frzs u.tbls (λm' hm=>by
  obtain⟨o',gc,qc,mi,r'⟩:=hm;rw[ho] at mi;cases mi;exact⟨_,gc,qc,hL,r'⟩) hok hg
theorem Inv.turned{it:aC}(I:Inv X ac Z H s)(k:∀ b o,b≠it->s.heap.get? b=aa o->h'.get? b=aa o)(hn:H it=ab)(hL:it≠X.env.locals)
  (h1:it∈X.ex\/X.s₀.heap.objs.size<=it) (h2:∀ x c,X.env.cells.lookup x=aa c->c≠it) (h3:∀ p∈X.pn++ac,p.1≠it):Inv X ac Z H { s with heap:=h',toks:=t' }:=by
 have nit:∀ b u,H b=aa u->b≠it:=λb u e z=>by rw[z,hn] at e;cases e
 refine I.step (g':=s.gens) (d':=s.drawn) (ch:=[it]) (λb hb=>?_) (λb o _ _ hc e _=>k b o (λz=>hc (by simp[z])) e) (λb o _ _ hc e _=>⟨o.slots,k b o (λz=>hc (by simp[z])) e⟩) (λ_ _ _ _ n=>n)
  (λb o hc e=>⟨o,k b o (λz=>hc (by simp[z])) e⟩) (λ_ _ e=>e) (λ_ _ _ e=>e) (λb ps e=>⟨#[],by rw[e];simp⟩) (λm hm=>?_) (λb u e=>?_) I.bare
 .grind
 .obtain⟨o,es,ep,ho,r⟩:=hm;exact⟨o,es,ep,k _ o (fL hL) ho,r⟩
 .refine(I.hok b u e).stay (λc v hc q=>k c v ?_ q) (λ_ q=>q) λ_ _ q=>q
  grind
theorem Inv.tok (I:Inv X ac Z H s)(t:Nat):Inv X ac Z H { s with toks:=t }:=I.un (h':=s.heap) (t':=t) Un.refl I.hok
theorem Inv.kept(I:Inv X ac Z H s)(k:∀ b u,s.heap.get? b=aa u->h'.get? b=aa u):Inv X ac Z H { s with heap:=h',toks:=t' }:=I.un (Un.kept k) (I.hok.kept k)
theorem Inv.laid{o:HO}(I:Inv X ac Z H s)(k:∀ b u,s.heap.get? b=aa u->h'.get? b=aa u)(hp:s.heap.objs.size<=a)(new:Acn X.prog X.w (upd H a o) h' a o) :
  Inv X ac Z (upd H a o) { s with heap:=h',toks:=t' }:=I.un (Un.laid k hp (I.hok.fresh hp)) (I.hok.laid k hp new)
theorem Inv.write {x e:aC}{o:HO}(I:Inv X ac Z H s)(mu:xC (H x))(he:e=x\/H e=aa (.own x))(k:∀ b u,b≠e->s.heap.get? b=aa u->h'.get? b=aa u)(yf:∃ u,h'.get? e=aa u)
  (new:Acn X.prog X.w (upd H x o) h' x o):Inv X ac Z (upd H x o) { s with heap:=h',toks:=t' }:=I.un (Un.write mu he k yf) (I.hok.write mu he k yf new)
theorem Inv.pins_of {ul:List (aC×bC)}(I:Inv X ac Z H s)(h:∀ p∈ul,s.heap.get? p.1=aa p.2/\H p.1=ab/\p.1≠X.env.locals/\p.1∉X.fs/\∀ v,p.2.data ≠ .cell v):Inv X ul Z H s:=
 ⟨I.ok,I.os,I.bare,I.base,I.loc,I.cell,I.free,I.freeC,λp hp=>(kT.1 hp).elim (λz=>I.pin p (List.mem_append_left _ z)) (h p),I.hok,I.len⟩
theorem XJ {N:List aE}(hN:N.Nodup){j:Nat}(a:N[i]?=aa x)(b:N[j]?=aa x):i=j:=by
 obtain⟨h1,e1⟩:=cJ.1 a;obtain⟨h2,e2⟩:=cJ.1 b;exact(List.getElem_inj hN).1 (e1.trans e2.symm)
abbrev Fn (X:Cx)(x:aE):Prop:=X.fn x=ae\/X.env.scope.names.lookup x=aa .local
theorem jL {X:Cx}(h:X.fn x=ae\/X.env.scope.names.lookup x=aa .local:=by first|exact .inl rfl|exact .inr rfl|assumption):Fn X x:=h
theorem YM{v:V}{Q:Unit->aH->Prop}(I:Inv X ac Z H s)(hN:X.N.Nodup)(hi:X.N[i]?=aa x)(hx:jH X.env.scope x)(r:RelV v u)
  (h:∀ s',Inv X ac (Z.set i (aa v)) H s'->(∃ a,mT a s.heap s'.heap/\(a=X.env.locals\/X.env.cells.lookup x=aa a))->Q Unit.unit s') (hf:Fn X x:=by exact jL):aM M A (storeName X.env x u) Q E s:=by
 obtain⟨m,hn,hl⟩:=id I.loc;have P3:(X.env.scope.kind==.class||(X.env.scope.kind==.module&&X.env.locals != X.env.globals))=af:=by rw[I.ok.kind];rfl
 have yg:i<Z.length:=by rw[I.len];exact(cJ.1 hi).1
 have cne:=I.cne;have kq:∀ {a:aC} {h':aQ},(∃ o,s.heap.get? a=aa o/\H a=ab)->mT a s.heap h'->HOk X.prog X.w H h':=λ{a h'} ha hs b ob e=>by
  obtain⟨_,_,iu⟩:=ha;refine(I.hok b ob e).stay (λc w' hc q=>(hs.2 c ?_).trans q) (λ_ q=>q) λ_ _ q=>q
  rintro rfl;rcases hc with rfl|hc
  .rw[iu] at e;cases e
  .rw[iu] at hc;cases hc
 rcases hx with hk|hk
 .refine wpAny_storeName_local hk hn (λh' P4 hs=>?_) P3
  obtain⟨oL,_,_,qd,_⟩:=id hn;refine h _ ⟨I.ok,I.os,I.bare,⟨λb o e n hb hx=>?_,λb o e n hb hx=>?_,I.base.free,λb o e hx=>?_,I.base.tups,I.base.frzs,I.base.tbls⟩,⟨_,P4,λj y v' e1 e2 e3=>?_⟩,λy c e=>?_,I.free,I.freeC,λp hp=>?_,kq ⟨oL,qd,I.free⟩ hs,by simpa using I.len⟩ ⟨_,hs,.inl rfl⟩
  .exact(hs.2 b (cH (gH (bI e) I.ok.above))).trans (I.base.keep b o e n hb hx)
  .obtain⟨sl,e1⟩:=I.base.slot b o e n hb hx;exact⟨sl,(hs.2 b (cH (gH (bI e) I.ok.above))).trans e1⟩
  .obtain⟨o',e1⟩:=I.base.there b o e hx;exact⟨o',(hs.2 b (cH (gH (bI e) I.ok.above))).trans e1⟩
  .by_cases hj:j=i
   .subst hj;rw[hi] at e1;cases e1;rw[mC yg] at e2;cases e2;exact⟨u,r,.inl ⟨hk,by simp⟩⟩
   .rw[pA (fL hj)] at e2;obtain⟨u',r',q⟩:=hl j y v' e1 e2 e3;refine⟨u',r',?_⟩;rcases q with⟨k,e⟩|⟨k,c,e,z⟩
    .refine .inl ⟨k,?_⟩;have:y≠x:=λe=>hj (XJ hN e1 (e ▸ hi))
     simp[this,e]
    .exact .inr ⟨k,c,e,z.sameBut hs (cne y c e)⟩
  .obtain⟨w',z⟩:=I.cell y c e;exact⟨w',z.sameBut hs (cne y c e)⟩
  .obtain⟨e,n,ne,nf,d⟩:=I.pin p hp;exact⟨(hs.2 p.1 ne).trans e,n,ne,nf,d⟩
 .have P5:X.fn x=ae:=by
   rcases hf with z|z
   .exact z
   .rw[z] at hk;cases hk
  obtain⟨c,hc⟩:=I.ok.has x (.inl hk);obtain⟨w',z⟩:=I.cell x c hc;refine wpAny_storeName_cell I.ok.kind hk hc z (λh' de hs=>?_)
  obtain⟨oc,W1,P6⟩:=id z;refine h { s with heap:=h' } ⟨I.ok,I.os,I.bare,⟨λb o e n hb hx=>?_,λb o e n hb hx=>?_,I.base.free,λb o e hx=>?_,I.base.tups,I.base.frzs,I.base.tbls⟩,⟨m,hn.sameBut hs (fL (cne x c hc)),λj y v' e1 e2 e3=>?_⟩,λy c' e=>?_,I.free,I.freeC,λp hp=>?_,kq ⟨oc,W1,I.freeC x c hc⟩ hs,by simpa using I.len⟩ ⟨c,hs,.inr hc⟩
  .exact(hs.2 b (cH (gH (bI e) (I.ok.cab x c P5 hc)))).trans (I.base.keep b o e n hb hx)
  .obtain⟨sl,e1⟩:=I.base.slot b o e n hb hx;exact⟨sl,(hs.2 b (cH (gH (bI e) (I.ok.cab x c P5 hc)))).trans e1⟩
  .obtain⟨o',e1⟩:=I.base.there b o e hx;exact⟨o',(hs.2 b (cH (gH (bI e) (I.ok.cab x c P5 hc)))).trans e1⟩
  .by_cases hj:j=i
   .subst hj;rw[hi] at e1;cases e1;rw[mC yg] at e2;cases e2;exact⟨u,r,.inr ⟨.inl hk,c,hc,de⟩⟩
   .rw[pA (fL hj)] at e2;obtain⟨u',r',q⟩:=hl j y v' e1 e2 e3;refine⟨u',r',?_⟩;rcases q with q|⟨k,c',e,z'⟩
    .exact .inl q
    .refine .inr ⟨k,c',e,z'.sameBut hs ?_⟩;rintro rfl;exact hj (XJ hN e1 (I.ok.inj _ _ _ e hc ▸ hi))
  .by_cases W2:c'=c
   .subst W2;exact⟨_,de⟩
   .obtain⟨w2,z2⟩:=I.cell y c' e;exact⟨w2,z2.sameBut hs W2⟩
  .obtain⟨e,n,ne,nf,d⟩:=I.pin p hp;refine⟨(hs.2 p.1 ?_).trans e,n,ne,nf,d⟩;intro q;rw[q,W1] at e;have q':oc=p.2:=fF e;exact d w' (by rw[<-q'];exact P6)
theorem VZ{v:V}{Q:Unit->aH->Prop}(I:Inv X ac Z H s)(hN:X.N.Nodup)(hi:X.N[i]?=aa x)(hx:jH X.env.scope x)(r:RelV v u)
  (h:∀ s',Inv X ac (Z.set i (aa v)) H s'->Q Unit.unit s') (hf:Fn X x:=by exact jL):aM M A (storeName X.env x u) Q E s:=
 YM I hN hi hx r (λs' I' _=>h s' I') hf
theorem Inv.call'(I:Inv X ac Z H s)(ho:s'.os=s.os)(u:Un (ph X.stack) ch H H' s.heap s'.heap)(hok:HOk X.prog X.w H' s'.heap)(hg:sC s'.gens)
  (tu:∀ b∈ch,(b∈X.ex\/X.s₀.heap.objs.size<=b)/\b≠X.env.locals/\(∀ x c,X.env.cells.lookup x=aa c->c≠b)/\∀ p∈X.pn++ac,p.1≠b):Inv X ac Z H' s':=by
 obtain⟨h',g',d',t',o'⟩:=s';have e:o'=s.os:=ho;subst e;exact I.call (g':=g') (t':=t') (d':=d') u hok hg tu
end
abbrev XK:=aD->Option aC->Hp->Prop
abbrev St:=List (Option V)
abbrev VK:=V->Hp->Prop
abbrev TE:=St->Hp->VK->Prop
abbrev TT:=St->Hp->(Bool->Hp->Prop)->Prop
abbrev TA:=St->Hp->(List V->Hp->Prop)->Prop
structure Ends where
 nx:St->Hp->Prop
 rt:VK
 bk:St->Hp->Prop:=λ_ _=>False
 ct:St->Hp->Prop:=λ_ _=>False
abbrev TS:=Ends->St->Hp->Prop
def EP (X:Cx)(ac:List (aC×bC))(Z:St)(Q:VK)(u:aD)(s':aH):Prop:=∃ v H',Inv X ac Z H' s'/\RelV v u/\Q v H'
def TP (X:Cx)(ac:List (aC×bC))(Z:St)(Q:Bool->Hp->Prop)(b:Bool)(s':aH):Prop:=∃ H',Inv X ac Z H' s'/\Q b H'
def AP (X:Cx)(ac:List (aC×bC))(Z:St)(Q:List V->Hp->Prop)(us:List aD)(s':aH):Prop:=∃ vs H',Inv X ac Z H' s'/\Vals vs us/\Q vs H'
def SP (X:Cx)(ac:List (aC×bC))(D:Ends)(f:Flow)(s':aH):Prop:=
 match f with
 |.next=>∃ σ' H',Inv X ac σ' H' s'/\D.nx σ' H'
 |.brk=>∃ σ' H',Inv X ac σ' H' s'/\D.bk σ' H'
 |.cont=>∃ σ' H',Inv X ac σ' H' s'/\D.ct σ' H'
 |.ret u=>∃ v σ' H',Inv X ac σ' H' s'/\RelV v u/\D.rt v H'
def PE (X:Cx)(e:aU)(t:TE):Prop:=
 ∀ (ac:List (aC×bC)) (s:aH) (Z:St) (H:Hp) (Q:VK),Inv X ac Z H s->t Z H Q->aM (aP X.prog X.w) X.A (bT e X.env) (EP X ac Z Q) X.xe s
def PT (X:Cx)(e:aU)(t:TT):Prop:=
 ∀ (ac:List (aC×bC)) (s:aH) (Z:St) (H:Hp) (Q:Bool->Hp->Prop),Inv X ac Z H s->t Z H Q->aM (aP X.prog X.w) X.A (isTrue e X.env (bT e X.env)) (TP X ac Z Q) X.xe s
def PW (X:Cx)(e:aU)(t:TT):Prop:=
 ∀ (dw:Sem aD) (ac:List (aC×bC)) (s:aH) (Z:St) (H:Hp) (Q:Bool->Hp->Prop),Inv X ac Z H s->t Z H Q->aM (aP X.prog X.w) X.A (isTrue e X.env dw) (TP X ac Z Q) X.xe s
theorem PW.pt {X:Cx}{t:TT}(h:PW X e t):PT X e t:=h _
def PA (X:Cx)(es:List aU)(t:TA):Prop:=
 ∀ (pos:bK) (ac:List (aC×bC)) (s:aH) (Z:St) (H:Hp) (Q:List V->Hp->Prop),Inv X ac Z H s->t Z H Q->aM (aP X.prog X.w) X.A (spliced (jU pos (bW es X.env))) (AP X ac Z Q) X.xe s
def PS (X:Cx)(st:eW)(t:TS):Prop:=
 ∀ (ac:List (aC×bC)) (s:aH) (Z:St) (H:Hp) (D:Ends),Inv X ac Z H s->t D Z H->aM (aP X.prog X.w) X.A (exec st X.env) (SP X ac D) X.xe s
def PSs (X:Cx)(st:List eW)(t:TS):Prop:=
 ∀ (ac:List (aC×bC)) (s:aH) (Z:St) (H:Hp) (D:Ends),Inv X ac Z H s->t D Z H->aM (aP X.prog X.w) X.A (execs st X.env) (SP X ac D) X.xe s
theorem bb {α:Type}{t:Sem α}{Q Q':α->aH->Prop}(h:aM M A t Q E s)(hQ:∀ a s,Q a s->Q' a s):aM M A t Q' E s:=lV h hQ λ_ _ x=>x
section
variable {X:Cx}
abbrev xE (i:Nat):TE:=λZ H Q=>∃ v,Z[i]?=aa (aa v)/\Q v H
abbrev tC (v:V):TE:=λ_ H Q=>Q v H
theorem HM(hN:X.N[i]?=aa x)(hv:BA X.env.scope x)(hd:(x==("__debug__" : aE))=af:=by decide)(qf:(x==("__classdict__" : aE))=af:=by decide):PE X (.Name x pos) (xE i):=by
 rw[8];obtain⟨v,e,h⟩:=h;obtain⟨m,hn,hl⟩:=I.loc;obtain⟨u,r,l⟩:=hl i x v hN e hv;have fin:EP X ac Z Q u s:=⟨v,H,I,r,h⟩;rcases l with⟨hk,hm⟩|⟨hk,c,hc,kr⟩
 .exact wpAny_Name (wpAny_loadName_local I.ok.kind hk hn hm fin) hd
 .rcases hk with hk|hk
  .exact wpAny_Name (wpAny_loadName_cell I.ok.kind hk hc kr fin) hd
  .exact wpAny_Name (wpAny_loadName_free I.ok.kind hk hc kr fin qf) hd
structure Nm (X:Cx)(i:Nat)(x:aE):Prop where
 a:X.N[i]?=aa x
 v:BA X.env.scope x
 d:(x==("__debug__" : aE))=af
 c:(x==("__classdict__" : aE))=af
theorem iO(hN:X.N[i]?=aa x:=by rfl)(hv:BA X.env.scope x:=by first|exact jY rfl|exact oW (jY rfl)|exact oW (oW rfl))(hd:(x==("__debug__" : aE))=af:=by decide)(qf:(x==("__classdict__" : aE))=af:=by decide):Nm X i x:=⟨hN,hv,hd,qf⟩
theorem Nm.pe(h:Nm X i x):PE X (.Name x pos) (xE i):=HM h.a h.v h.d h.c
theorem TF {i j pos}:PE X (.Constant (.int i) j pos) (tC (.int i)):=λ_ _ _ H _ I h=>wpAny_Constant_int ⟨.int i,H,I.tok _,⟨_,rfl⟩,h⟩
theorem Mo {b j pos}:PE X (.Constant (.bool b) j pos) (tC (.bl b)):=λ_ _ _ H _ I h=>Constant_bool ⟨.bl b,H,I,rfl,h⟩
theorem TX {j pos}:PE X (.Constant .none j pos) (tC .non):=λ_ _ _ H _ I h=>Constant_none ⟨.non,H,I,rfl,h⟩
theorem Pg {x j pos}:PE X (.Constant (.str x) j pos) (tC (.str x)):=λ_ _ _ H _ I h=>Calls.Constant_str ⟨.str x,H,I.tok _,⟨_,rfl⟩,h⟩
def Gl (X:Cx)(x:aE):Prop:=X.env.kindOf x=aa .globalImplicit
theorem VA{Z:St}{H:Hp}(I:Inv X ac Z H s)(hg:Gl X x)(hm:X.mg x=aa u)(h:Q u s)
  (hd:(x==("__debug__" : aE))=af:=by decide):aM (aP X.prog X.w) X.A (bT (.Name x pos) X.env) Q E s:=
 Calls.Name_function_global I.ok.kind hg (Calls.loadGlobal_global (by rw[I.ok.glob];exact I.mod.glob.keeps I.bk) hm h) hd
theorem pP{Z:St}{H:Hp}(I:Inv X ac Z H s)(hg:Gl X x)(hm:X.mg x=ab)(hv:mO x=aa u)(h:Q u s)
  (hn:x ≠ "__name__":=by decide) (hd:(x==("__debug__" : aE))=af:=by decide):aM (aP X.prog X.w) X.A (bT (.Name x pos) X.env) Q E s:=by
 obtain⟨mb,h1,h2⟩:=I.mod.blt;exact Calls.Name_function_global I.ok.kind hg (Calls.loadGlobal_builtin (by rw[I.ok.glob];exact I.mod.glob.keeps I.bk) hm (by rw[I.ok.blt];exact h1.keeps I.bk) ((h2 x hn).trans hv) h) hd
theorem Ue{v:V}(hg:Gl X x)(hm:X.mg x=aa u)(r:RelV v u)(hd:(x==("__debug__" : aE))=af:=by decide):PE X (.Name x pos) (tC v):=
 λ_ _ _ H _ I h=>VA I hg hm ⟨v,H,I,r,h⟩ hd
theorem Tq{v:V}(hg:Gl X x)(hm:X.mg x=ab)(hv:mO x=aa u)(r:RelV v u)(hn:x ≠ "__name__":=by decide)(hd:(x==("__debug__" : aE))=af:=by decide):PE X (.Name x pos) (tC v):=
 λ_ _ _ H _ I h=>pP I hg hm hv ⟨v,H,I,r,h⟩ hn hd
variable {a b:aU}{ta tb:TE}
def tB (t:TE):TT:=λZ H Q=>t Z H λx H1=>∃ c,x=.bl c/\Q c H1
theorem Qa{t:TE}(h:PE X e t)(he:∀ dw,isTrue e X.env dw=(do let v <-dw;standAt e.pos;nW [v] (truthy v)):=by intro _;rfl):PT X e (tB t):=by
 intro ac s Z H Q I hw;refine isTrue_plain (bb (h ac s Z H _ I hw) λv s1 ⟨x,H1,I1,r1,q1⟩=>?_) (he _)
 obtain⟨d,rfl,q⟩:=q1;cases r1;exact zS ⟨H1,I1,q⟩
variable {tA tB':TT}{rest:List aU}
def Kl (t u:TT):TT:=λZ H Q=>t Z H λc H1=>if c=ae then u Z H1 Q else Q af H1
def tOr (t u:TT):TT:=λZ H Q=>t Z H λc H1=>if c=ae then Q ae H1 else u Z H1 Q
def Kj (t:TT):TT:=λZ H Q=>t Z H λc H1=>Q (!c) H1
theorem Gm (ha:PT X a tA):PW X (.BoolOp .And [a] pos) tA:=by
 intro wh ac s Z H Q I h;refine isTrue_and (bb (ha ac s Z H Q I h) λc s1 e=>?_)
 cases c with
 |true=>exact isTrue_and_nil e
 |false=>exact e
theorem Mv (ha:PT X a tA):PW X (.BoolOp .Or [a] pos) tA:=by
 intro wh ac s Z H Q I h;refine isTrue_or (bb (ha ac s Z H Q I h) λc s1 e=>?_)
 cases c with
 |false=>exact isTrue_or_nil e
 |true=>exact e
theorem UN (ha:PT X a tA)(hb:PW X (.BoolOp .And (b::rest) pos) tB'):PW X (.BoolOp .And (a::b::rest) pos) (Kl tA tB'):=by
 intro wh ac s Z H Q I h;refine isTrue_and (bb (ha ac s Z H _ I h) λc s1 gh=>?_)
 obtain⟨H1,I1,q1⟩:=gh;cases c with
 |true=>exact hb wh ac s1 Z H1 Q I1 q1
 |false=>exact⟨H1,I1,q1⟩
theorem Mb (ha:PT X a tA)(hb:PW X (.BoolOp .Or (b::rest) pos) tB'):PW X (.BoolOp .Or (a::b::rest) pos) (tOr tA tB'):=by
 intro wh ac s Z H Q I h;refine isTrue_or (bb (ha ac s Z H _ I h) λc s1 gh=>?_)
 obtain⟨H1,I1,q1⟩:=gh;cases c with
 |true=>exact⟨H1,I1,q1⟩
 |false=>exact hb wh ac s1 Z H1 Q I1 q1
theorem Oz (ha:PT X a tA):PT X (.UnaryOp .Not a pos) (Kj tA):=by
 rw[8];exact isTrue_not (ha ac s Z H (λc H1=>Q (!c) H1) I h)
def Lh (ta tb:TE):TE:=λZ H Q=>ta Z H λx H1=>∃ c,x=.bl c/\if c=ae then tb Z H1 Q else Q (.bl af) H1
def Lx (ta:TE):TE:=λZ H Q=>ta Z H λx H1=>∃ c,x=.bl c/\Q (.bl (!c)) H1
theorem UJ {op}{t:TE}(h:PE X a t):PE X (.BoolOp op [a] pos) t:=λac s Z H Q I hw=>BoolOp_one (h ac s Z H Q I hw)
theorem SR (ha:PE X a ta)(hb:PE X (.BoolOp .And (b::rest) pos) tb):PE X (.BoolOp .And (a::b::rest) pos) (Lh ta tb):=by
 rw[8];refine BoolOp_and (bb (ha ac s Z H _ I h) λv s1 gh=>?_)
 obtain⟨x,H1,I1,r1,q1⟩:=gh;obtain⟨c,rfl,q1⟩:=q1;cases r1;refine zS ?_;cases c with
 |true=>exact hb ac s1 Z H1 Q I1 q1
 |false=>exact⟨.bl af,H1,I1,rfl,q1⟩
theorem Py (ha:PE X a ta):PE X (.UnaryOp .Not a pos) (Lx ta):=by
 rw[8];refine UnaryOp_ (bb (ha ac s Z H _ I h) λv s1 gh=>?_)
 obtain⟨x,H1,I1,r1,q1⟩:=gh;obtain⟨c,rfl,q1⟩:=q1;cases r1;exact not_of (zS ⟨.bl (!c),H1,I1,rfl,q1⟩)
def tIf (t:TT)(ta tb:TE):TE:=λZ H Q=>t Z H λc H1=>if c=ae then ta Z H1 Q else tb Z H1 Q
theorem VJ(hc:PT X c tA)(ha:PE X a ta)(hb:PE X b tb):PE X (.IfExp c a b pos) (tIf tA ta tb):=by
 rw[8];refine wpAny_IfExp (bb (hc ac s Z H _ I h) λd s1 gh=>?_)
 obtain⟨H1,I1,q1⟩:=gh;cases d with
 |true=>exact ha ac s1 Z H1 Q I1 q1
 |false=>exact hb ac s1 Z H1 Q I1 q1
end
def SqL (K:aK)(H:Hp)(a:aC)(xs:List V):Prop:=
 Rd H a (.lst xs) \/
  ∃ (o:bC) (its:Array aD) (n:Nat),K.lookup a=aa o/\o.cls=.type "list" /\ o.dict=ab/\o.data=.seq its n/\its.size<=sizeLine/\Vals xs its.toList
def SqT (K:aK)(H:Hp)(a:aC)(xs:List V):Prop:=
 Rd H a (.tup xs) \/
  ∃ (o:bC) (its:Array aD) (n:Nat),K.lookup a=aa o/\o.cls=.type "tuple" /\ o.data=.seq its n/\its.size<=sizeLine/\Vals xs its.toList
def Ki:aD->Option V
 |.none=>aa .non
 |.bool b=>aa (.bl b)
 |.int i _=>aa (.int i)
 |.str x _=>aa (.str x)
 |.bytes b _=>aa (.byt b)
 |.float b _=>aa (.flt b)
 |.ref a=>aa (.ref a)
 |.type n=>aa (.ty n)
 |_=>ab
theorem RelV.abs {x:V}(r:RelV x u):Ki u=aa x:=by
 cases x with
 |non=>cases r;rfl
 |bl _=>cases r;rfl
 |int _=>obtain⟨t,rfl⟩:=r;rfl
 |str _=>obtain⟨t,rfl⟩:=r;rfl
 |byt _=>obtain⟨t,rfl⟩:=r;rfl
 |flt _=>obtain⟨t,rfl⟩:=r;rfl
 |ref _=>cases r;rfl
 |ty _=>cases r;rfl
theorem RelV.inj {x y:V}(r:RelV x u)(q:RelV y u):x=y:=fF (r.abs.symm.trans q.abs)
theorem Vals.inj:∀ {xs ys:List V} {us:List aD},Vals xs us->Vals ys us->xs=ys:=by
 intro xs ys us h;induction h generalizing ys with
 |nil=>intro h;cases h;rfl
 |cons r _ ih=>
  intro h;cases h with
  |cons r' t'=>rw[r.inj r',ih t']
section
variable {X:Cx}{Z:St}{H:Hp}{xs ys:List V}
theorem SqL.of(h:H a=aa (.lst xs)):SqL K H a xs:=.inl (.inl h)
theorem SqT.of(h:H a=aa (.tup xs)):SqT K H a xs:=.inl (.inl h)
theorem Inv.list (I:Inv X ac Z H s)(h:SqL X.K H a xs):∃ its:List aD,Vals xs its/\PlainL s.heap a its.toArray/\xs.length<=sizeLine:=by
 rcases h with h|⟨o,its,n,hk,hc,hd,hs,hz,r⟩
 .obtain⟨z,its,n,r,e⟩:=h.ok I.hok;exact⟨its,r,⟨_,n,e,rfl,rfl,rfl⟩,z⟩
 .refine⟨its.toList,r,⟨o,n,I.kIn a o hk,hc,hd,by simpa using hs⟩,?_⟩
  have e:=r.length
  grind
theorem Inv.tuple (I:Inv X ac Z H s)(h:SqT X.K H a xs):∃ its:List aD,Vals xs its/\IsTup s.heap a its.toArray/\xs.length<=sizeLine:=by
 rcases h with h|⟨o,its,n,hk,hc,hs,hz,r⟩
 .obtain⟨z,its,r,p⟩:=h.ok I.hok;exact⟨its,r,p.1,z⟩
 .refine⟨its.toList,r,⟨o,I.kIn a o hk,hc,n,by simpa using hs⟩,?_⟩
  have e:=r.length
  grind
theorem Inv.list_inj (I:Inv X ac Z H s)(h:SqL X.K H a xs)(h':SqL X.K H a ys):xs=ys:=by
 obtain⟨its,r,⟨o,n,e,_,_,d⟩,_⟩:=I.list h;obtain⟨its',r',⟨o',n',e',_,_,d'⟩,_⟩:=I.list h';rw[e] at e';cases e';rw[d] at d';injection d' with d1 _;have:its=its':=by simpa using congrArg Array.toList d1
 rw[13];exact r.inj r'
theorem Inv.tuple_inj (I:Inv X ac Z H s)(h:SqT X.K H a xs)(h':SqT X.K H a ys):xs=ys:=by
 obtain⟨its,r,⟨o,e,_,n,d⟩,_⟩:=I.tuple h;obtain⟨its',r',⟨o',e',_,n',d'⟩,_⟩:=I.tuple h';rw[e] at e';cases e';rw[d] at d';injection d' with d1 _;have:its=its':=by simpa using congrArg Array.toList d1
 rw[13];exact r.inj r'
end
abbrev Cx.wish (X:Cx)(E:aD->aH->Prop):Cx:={ X with xe:=E }
abbrev Cx.nox (X:Cx):Cx:=X.wish λ_ _=>False
theorem Cx.Ok.wish {X:Cx}(ok:X.Ok)(E:aD->aH->Prop):(X.wish E).Ok:=
 ⟨ok.mod,ok.kind,ok.glob,ok.blt,ok.above,ok.inj,ok.has,ok.cab,ok.hd,ok.frames,ok.stk,ok.exf,ok.bs,ok.bsz,ok.noex,ok.exfs,ok.funs,ok.frf⟩
theorem Cx.Ok.unwish {X:Cx}(ok:(X.wish E).Ok):X.Ok:=
 ⟨ok.mod,ok.kind,ok.glob,ok.blt,ok.above,ok.inj,ok.has,ok.cab,ok.hd,ok.frames,ok.stk,ok.exf,ok.bs,ok.bsz,ok.noex,ok.exfs,ok.funs,ok.frf⟩
section
variable {X:Cx}{Z:St}{H:Hp}
theorem Inv.wish (I:Inv X ac Z H s)(E:aD->aH->Prop):Inv (X.wish E) ac Z H s:=⟨I.ok.wish E,I.os,I.bare,I.base,I.loc,I.cell,I.free,I.freeC,I.pin,I.hok,I.len⟩
theorem Inv.unwish (I:Inv (X.wish E) ac Z H s):Inv X ac Z H s:=⟨I.ok.unwish,I.os,I.bare,I.base,I.loc,I.cell,I.free,I.freeC,I.pin,I.hok,I.len⟩
theorem SP.unwish {D:Ends}{f:Flow}(h:SP (X.wish E) ac D f s'):SP X ac D f s':=by
 cases f with
 |next=>obtain⟨σ',H',I,q⟩:=h;exact⟨σ',H',I.unwish,q⟩
 |brk=>obtain⟨σ',H',I,q⟩:=h;exact⟨σ',H',I.unwish,q⟩
 |cont=>obtain⟨σ',H',I,q⟩:=h;exact⟨σ',H',I.unwish,q⟩
 |ret u=>obtain⟨v,σ',H',I,r,q⟩:=h;exact⟨v,σ',H',I.unwish,r,q⟩
theorem PSs.nox {st:List eW}{t:TS}(h:PSs X.nox st t):PSs X st t:=λac s Z H D I hw=>
 lV (h ac s Z H D (I.wish _) hw) (λ_ _ q=>q.unwish) λ_ _ z=>qM z
end
section
variable {X:Cx}{st:eW}{rest:List eW}{t u:TS}{te:TE}
def Ml:TS:=λD Z H=>D.nx Z H
def Kg (t u:TS):TS:=λD Z H=>t { D with nx:=u D } Z H
theorem UW:PSs X [] Ml:=λ_ _ Z H _ I h=>NZ ⟨Z,H,I,h⟩
theorem o9 (h1:PS X st t)(h2:PSs X rest u):PSs X (st::rest) (Kg t u):=by
 intro ac s Z H D I h;refine wpAny_execs_cons (bb (h1 ac s Z H { D with nx:=u D } I h) λf s1 q=>?_)
 cases f with
 |next=>
  obtain⟨σ',H',I',q⟩:=q;exact h2 ac s1 σ' H' D I' q
 |ret v=>exact q
 |brk=>exact q
 |cont=>exact q
theorem Ry (h1:PS X st t):PSs X [st] t:=by
 intro ac s Z H D I h;refine wpAny_execs_cons (bb (h1 ac s Z H D I h) λf s1 q=>?_)
 cases f with
 |next=>exact NZ q
 |ret v=>exact q
 |brk=>exact q
 |cont=>exact q
theorem Inv.quiet{Z:St}{H:Hp}(I:Inv X ac Z H s):interactive X.env=af:=by simp[interactive,I.ok.kind]
def Lj (te:TE):TS:=λD Z H=>te Z H λ_ H1=>D.nx Z H1
theorem vE (he:PE X e te)(hs:kP e ab pos.line X.env=pure af:=by rfl):PS X (.Expr e pos) (Lj te):=by
 intro ac s Z H D I h;exact wpAny_Expr_any (bb (he ac s Z H _ I h) λv s1 ⟨x,H1,I1,r1,q1⟩=>⟨Z,H1,I1,q1⟩) I.quiet hs
def Kx (te:TE):TS:=λD Z H=>te Z H D.rt
theorem xT (he:PE X e te):PS X (.Return (aa e) pos) (Kx te):=by
 intro ac s Z H D I h;exact wpAny_Return_some (bb (he ac s Z H _ I h) λv s1 ⟨x,H1,I1,r1,q1⟩=>⟨x,Z,H1,I1,r1,q1⟩)
def Ko (c:TT)(t u:TS):TS:=λD Z H=>c Z H λb H1=>if b=ae then t D Z H1 else u D Z H1
theorem RL{a b:List eW}{tc:TT}(hc:PT X c tc)(ha:PSs X a t)(hb:PSs X b u):PS X (.If c a b pos) (Ko tc t u):=by
 intro ac s Z H D I h;refine wpAny_If (bb (hc ac s Z H _ I h) λd s1 gh=>?_)
 obtain⟨H1,I1,q1⟩:=gh;cases d with
 |true=>exact ha ac s1 Z H1 D I1 q1
 |false=>exact hb ac s1 Z H1 D I1 q1
end
abbrev TG:=V->St->Hp->(St->Hp->Prop)->Prop
abbrev wy:=List V->St->Hp->(St->Hp->Prop)->Prop
def PG (X:Cx)(gf:aU)(t:TG):Prop:=
 ∀ (ac:List (aC×bC)) (s:aH) (Z:St) (H:Hp) (v:V) (u:aD) (Q:St->Hp->Prop),Inv X ac Z H s->RelV v u->t v Z H Q ->
  aM (aP X.prog X.w) X.A (kQ gf X.env u) (λ_ s'=>∃ σ' H',Inv X ac σ' H' s'/\Q σ' H') X.xe s
def O0 (X:Cx)(ts:List aU)(t:wy):Prop:=
 ∀ (ac:List (aC×bC)) (s:aH) (Z:St) (H:Hp) (vs:List V) (us:List aD) (Q:St->Hp->Prop),Inv X ac Z H s->Vals vs us->t vs Z H Q ->
  aM (aP X.prog X.w) X.A (assignInOrder ((gU ts X.env).map (·.2)) us) (λ_ s'=>∃ σ' H',Inv X ac σ' H' s'/\Q σ' H') X.xe s
abbrev GW:=V->V->V->Hp->(Hp->Prop)->Prop
def QH (X:Cx)(t:GW):Prop:=
 ∀ (ac:List (aC×bC)) (s:aH) (Z:St) (H:Hp) (o i v:V) (ov iv u:aD) (Q:Hp->Prop),Inv X ac Z H s->RelV o ov->RelV i iv->RelV v u->t o i v H Q ->
  aM (aP X.prog X.w) X.A (setItem ov iv u) (λ_ s'=>∃ H',Inv X ac Z H' s'/\Q H') X.xe s
section
variable {X:Cx}
def zN (i:Nat):TG:=λv Z H Q=>Q (Z.set i (aa v)) H
theorem rJ(hN:X.N.Nodup)(hi:X.N[i]?=aa x)(hx:jH X.env.scope x)(hf:Fn X x:=by exact jL):PG X (.Name x pos) (zN i):=by
 intro ac s Z H v u Q I r h;exact wpAny_assign_Name (VZ I hN hi hx r (λs' I'=>⟨_,H,I',h⟩) hf)
def QT:wy:=λvs Z H Q=>vs=[]/\Q Z H
def HG (t:TG)(u:wy):wy:=λvs Z H Q=>∃ v r,vs=v::r/\t v Z H λσ' H'=>u r σ' H' Q
theorem IQ:O0 X [] QT:=by
 intro ac s Z H vs us Q I r h;obtain⟨e,h⟩:=h;subst e;cases r;exact assignInOrder_nil ⟨Z,H,I,h⟩
theorem vR{t:TG}{u:wy}(h1:PG X e t)(h2:O0 X es u)
  (hs:(gU (e::es) X.env).map (·.2)=kQ e X.env::(gU es X.env).map (·.2):=by rfl):O0 X (e::es) (HG t u):=by
 intro ac s Z H vs us Q I r h;obtain⟨v,vr,e1,h⟩:=h;subst e1;cases r with
 |cons r rr=>
  rw[hs];refine assignInOrder_cons (bb (h1 ac s Z H _ _ _ I r h) λ_ s1 gh=>?_)
  obtain⟨σ1,H1,I1,q1⟩:=gh;exact h2 ac s1 σ1 H1 _ _ Q I1 rr q1
def QZ (K:aK)(n:Nat)(t:wy):TG:=λv Z H Q=>∃ a xs,v=.ref a/\SqT K H a xs/\xs.length=n/\t xs Z H Q
theorem NM{t:wy}{n:Nat}(hc:X.calm=ae)(h:O0 X es t)
  (hn:(gU es X.env).length=n:=by rfl) (dq:(gU es X.env).findIdx? (·.1)=ab:=by rfl):PG X (.Tuple es k pos) (QZ X.K n t):=by
 intro ac s Z H v u Q I r hw;obtain⟨a,xs,e1,hq,hl,hw⟩:=hw;subst e1;cases r;obtain⟨its,rv,ht,hz⟩:=I.tuple hq;refine assign_Tuple_tuple (I.ok.hd hc) ht (by simp[hn,<-hl,rv.length]) dq λh' hx=>?_
 have I1:Inv X ac Z H { s with heap:=h' }:=I.kept (t':=s.toks) λb o e=>hx b o (cH (bI e)) e
 exact h ac _ Z H xs _ Q I1 (by simpa using rv) hw
def Kk (to ti:TE)(t:GW):TG:=λv Z H Q=>to Z H λo H1=>ti Z H1 λi H2=>t o i v H2 λH3=>Q Z H3
theorem SK {o i:aU}{to ti:TE}{t:GW}(ho:PE X o to)(hi:PE X i ti)(hs:QH X t)
  (ha:∀ v,kQ (.Subscript o i pos) X.env v=(do
   let ov <-nW [v] (bT o X.env)
   let iv <-nW [v,ov] (bT i X.env)
   standAt pos
   nW [v,ov,iv] (setItem ov iv v)
   release [v,ov,iv] []):=by intro _;rfl):PG X (.Subscript o i pos) (Kk to ti t):=by
 intro ac s Z H v u Q I r h;rw[ha];refine aF (eP (bb (ho ac s Z H _ I h) λov s1 gh=>?_))
 obtain⟨x,H1,I1,r1,q1⟩:=gh;refine aF (eP (bb (hi ac s1 Z H1 _ I1 q1) λiv s2 gh=>?_))
 obtain⟨y,H2,I2,r2,q2⟩:=gh;refine aF (wpAny_standAt (aF (eP (bb (hs ac s2 Z H2 x y v ov iv u _ I2 r1 r2 r q2) λ_ s3 gh=>?_))))
 obtain⟨H3,I3,q3⟩:=gh;exact wpAny_release ⟨Z,H3,I3,q3⟩
def GR (te:TE)(g:TG):TS:=λD Z H=>te Z H λx H1=>g x Z H1 D.nx
theorem HN{te:TE}{g:TG}(he:PE X e te)(hg:PG X tg g)(hs:OA [tg] e pos.line X.env=pure af:=by rfl)(hw:OB [tg] e X.env=pure ab:=by rfl)
  (h1:(gU [tg] X.env).map (·.2)=[kQ tg X.env]:=by rfl):PS X (.Assign [tg] e pos) (GR te g):=by
 intro ac s Z H D I h;refine wpAny_Assign_stores (bb (he ac s Z H _ I h) λv s1 ⟨x,H1,I1,r1,q1⟩=>?_) hs hw
 rw[h1];exact bb (hg ac s1 Z H1 x v _ I1 r1 q1) λ_ s2 q=>q
theorem NR{te:TE}{gg:bK}(hN:X.N.Nodup)(hi:X.N[i]?=aa x)(hx:jH X.env.scope x)(he:PE X e te)(hs:kP e (aa (.Name x gg)) pos.line X.env=pure af:=by rfl)(hf:Fn X x:=by exact jL) :
  PS X (.Assign [.Name x gg] e pos) (GR te (zN i)):=by
 intro ac s Z H D I h;refine wpAny_Assign_Name (bb (he ac s Z H _ I h) λv s1 ⟨y,H1,I1,r1,q1⟩=>?_) hs
 exact VZ I1 hN hi hx r1 (λs2 I2=>⟨_,H1,I2,q1⟩) hf
end
section
variable {X:Cx}
def Ob (c:TT)(tb:TS):TS:=λD Z H=>∃ W:Nat->St->Hp->Prop,(∃ m,W m Z H)/\∀ m Z H,W m Z H ->
 c Z H λb H1=>if b=ae then ∃ N:St->Hp->Prop,(∀ σ' H',N σ' H'->∃ m',m'<m/\W m' σ' H')/\tb { D with nx:=N,ct:=N,bk:=D.nx } Z H1 else D.nx Z H1
theorem l7{tc:TT}{tb:TS}(hp:AE (aP X.prog X.w) X.A X.env X.xe)(hc:PT X c tc)(hb:PSs X body tb):PS X (.While c body [] pos) (Ob tc tb):=by
 intro ac s Z H D I h;obtain⟨W,⟨m0,w0⟩,jp⟩:=h;refine wpAny_While (codeAny_whileLoop (λn s'=>∃ σ' H',Inv X ac σ' H' s'/\W n σ' H') ?_ m0 ⟨Z,H,I,w0⟩)
 rintro n s1 ⟨σ1,H1,I1,w1⟩;refine wF hp (bb (hc ac s1 σ1 H1 _ I1 (jp n σ1 H1 w1)) λb s2 gh=>?_)
 obtain⟨H2,I2,q2⟩:=gh;cases b with
 |true=>
  obtain⟨N,hN,q2⟩:=q2;rw[if_pos rfl];refine wF hp (bb (hb ac s2 σ1 H2 _ I2 q2) λf s3 q3=>?_)
  cases f with
  |next=>
   obtain⟨σ3,H3,I3,n3⟩:=q3
   grind
  |cont=>
   obtain⟨σ3,H3,I3,n3⟩:=q3
   grind
  |brk=>exact q3
  |ret v=>exact q3
 |false=>
  rw[if_neg kB];exact NZ ⟨σ1,H2,I2,q2⟩
end
structure It where
 go:Nat->Hp->Prop
 yld:Nat->Hp->V->Hp->Prop
 stop:Nat->Hp->Prop
def iL (X:Cx)(ac:List (aC×bC))(H:Hp)(b:aC):Prop:=
 H b=ab/\b≠X.env.locals/\b∉X.fs/\(b∈X.ex\/X.s₀.heap.objs.size<=b)/\(∀ x c,X.env.cells.lookup x=aa c->c≠b)/\∀ p∈X.pn++ac,p.1≠b
theorem Inv.fpOk {X:Cx}{Z:St}{H H':Hp}(I:Inv X ac Z H s)(hb:s.heap.objs.size<=b)(hn:H' b=ab):iL X ac H' b:=by
 refine⟨hn,iS (gH I.lt hb),I.nofs hb,.inr (dG I.sz hb),λx c e z=>?_,λp hp z=>?_⟩
 .obtain⟨v,q⟩:=I.cell x c e;exact absurd (gH q.lt (by rw[z];exact hb)) (lY _)
 .exact absurd (gH (bI (I.pin p hp).1) (by rw[z];exact hb)) (lY _)
structure Turn (P:bN)(w:bA)(K:aK)(tg:aU)(J:It)(fp:List aC)(it:aC)(tn:Nat->aQ->Prop):Prop where
 mem:it∈fp
 obj:∀ i h,tn i h->∀ b∈fp,∃ o,h.get? b=aa o/\∀ v,o.data ≠ .cell v
 keep:∀ i h h',tn i h->(∀ b∈fp,∀ o,h.get? b=aa o->h'.get? b=aa o)->tn i h'
 item:∀ (X:Cx),X.prog=P->X.w=w->X.K=K->X.calm=ae->∀ (i:Nat) (ac:List (aC×bC)) (s:aH) (Z:St) (H:Hp) (E:aD->aH->Prop),Inv X ac Z H s->(∀ b∈fp,iL X ac H b)->tn i s.heap->J.go i H ->
  aM (aP P w) X.A (eY (.ref it)) (λr s1=>∃ u,r=aa u /\
   aM (aP P w) X.A (OH tg (.ref it) u) (λ_ s2=>∃ x H',Inv X ac Z H' s2/\RelV x u/\J.yld i H x H'/\tn (i+1) s2.heap/\∀ b∈fp,H' b=ab) E s1) E s
 done:∀ (X:Cx),X.prog=P->X.w=w->X.K=K->X.calm=ae->∀ (i:Nat) (ac:List (aC×bC)) (s:aH) (Z:St) (H:Hp) (E:aD->aH->Prop),Inv X ac Z H s->(∀ b∈fp,iL X ac H b)->tn i s.heap->J.stop i H ->
  aM (aP P w) X.A (eY (.ref it)) (λr s1=>r=ab/\Inv X ac Z H s1) E s
 self:∀ (A:bS) (i:Nat) (s:aH) (Q:aD->aH->Prop) (E:aD->aH->Prop),tn i s.heap->Q (.ref it) s->aM (aP P w) A (nV (.ref it)) Q E s
abbrev TI:=St->Hp->(It->Hp->Prop)->Prop
def V6 (X:Cx)(ac:List (aC×bC))(Z:St)(tg:aU)(R:It->Hp->Prop)(M0:aD)(s2:aH):Prop:=
 ∃ (it:aC) (fp:List aC) (tn:Nat->aQ->Prop) (J:It) (H':Hp),M0=.ref it/\Inv X ac Z H' s2/\Turn X.prog X.w X.K tg J fp it tn/\tn 0 s2.heap/\(∀ b∈fp,iL X ac H' b)/\R J H'
def PI (X:Cx)(tg be:aU)(wi:TI):Prop:=
 ∀ (ac:List (aC×bC)) (s:aH) (Z:St) (H:Hp) (R:It->Hp->Prop),Inv X ac Z H s->wi Z H R ->
  aM (aP X.prog X.w) X.A (bT be X.env) (λv s1=>aM (aP X.prog X.w) X.A (nV v) (V6 X ac Z tg R) X.xe s1) X.xe s
theorem zO{it:aC}{n:String}{vs:Array aD}{Q:Unit->aH->Prop}(ho:s.heap.get? it=aa o)(hc:o.cls=.type n)(hd:o.data=.fields vs)
    (hn:["enumerate","zip","dict_itemiterator","dict_reverseitemiterator","odict_iterator","itertools.zip_longest","itertools.pairwise"].contains n=af) (hQ:Q Unit.unit s):aM M A (OH tg (.ref it) u) Q E s:=by
  unfold OH;cases tg<;>first
    |exact aN hQ
    | (cases u<;>first
        |exact aN hQ
        | (refine aF (wpAny_load ho ?_)
           rw[hc,hd];show aM M A (if (["enumerate","zip","dict_itemiterator","dict_reverseitemiterator","odict_iterator","itertools.zip_longest","itertools.pairwise"].contains n&&vs[0]?==aa (cY _))=ae then _ else _) Q E s
           rw[if_neg (by intro h;rw[hn,Bool.false_and] at h;cases h)]
           exact aN hQ))
def GN (K:aK)(a:aC):It:=
 ⟨λi H=>∃ xs x,SqL K H a xs/\xs[i]?=aa x,λi H x H'=>H'=H/\∀ xs,SqL K H a xs->xs[i]?=aa x,λi H=>∃ xs,SqL K H a xs/\xs.length<=i⟩
def GL (K:aK)(a:aC):It:=
 ⟨λi H=>∃ xs x,SqT K H a xs/\xs[i]?=aa x,λi H x H'=>H'=H/\∀ xs,SqT K H a xs->xs[i]?=aa x,λi H=>∃ xs,SqT K H a xs/\xs.length<=i⟩
def BD (lo:Int)(n:Nat):It:=⟨λi _=>i<n,λi H x H'=>H'=H/\x=.int (lo+i),λi _=>n<=i⟩
theorem Xk {P:bN}{w:bA}(a it:aC):Turn P w K tg (GN K a) [it] it (λi h=>h.IsListIter it a i) where
 mem:=by simp
 obj:=λi h st b hb=>by
  have e:b=it:=by simpa using hb
  subst e;obtain⟨o,e,c,d⟩:=st
  grind
 keep:=λi h h' st k=>st.at λo e=>k it (by simp) o e
 item:=by
  rw[1];obtain⟨xs,x,hq,hx⟩:=hg;obtain⟨its,rv,p,hz⟩:=I.list hq;obtain⟨u,hu,ru⟩:=rv.get hx;obtain⟨f0,f1,f2,f3,f4,f5⟩:=hf it (by simp)
  refine wpAny_pyNext_list_item st p.isList (x:=u) (by simpa using hu) λh' gi sb=>?_
  have I1:Inv X ac Z H { s with heap:=h' }:=I.turned (t':=s.toks) (λb o hb e=>(sb.2 b hb).trans e) f0 f1 f3 f4 f5
  obtain⟨o,e,c,d⟩:=id gi;exact⟨u,rfl,zO (s:={ s with heap:=h' }) e c d nofun ⟨x,H,I1,ru,⟨rfl,λys hy=>by rw[I.list_inj hy hq];exact hx⟩,gi,λb hb=>(hf b hb).1⟩⟩
 done:=by
  rw[1];obtain⟨xs,hq,hx⟩:=hg;obtain⟨its,rv,p,hz⟩:=I.list hq;obtain⟨f0,f1,f2,f3,f4,f5⟩:=hf it (by simp)
  have hl:=rv.length;exact wpAny_pyNext_list_end (I.ok.hd hc) st p.isList (by simp;lia) λh' eb=>⟨rfl,I.turned (t':=s.toks) (λb o hb e=>eb b o hb e) f0 f1 f3 f4 f5⟩
 self:=λ_ _ _ _ _ st h=>wpAny_pyIter_listiter st h
theorem Xf {P:bN}{w:bA}(a it:aC):Turn P w K tg (GL K a) [it] it (λi h=>h.IsTupleIter it a i) where
 mem:=by simp
 obj:=λi h st b hb=>by
  have e:b=it:=by simpa using hb
  subst e;obtain⟨o,e,c,d⟩:=st
  grind
 keep:=λi h h' st k=>st.at λo e=>k it (by simp) o e
 item:=by
  rw[1];obtain⟨xs,x,hq,hx⟩:=hg;obtain⟨its,rv,p,hz⟩:=I.tuple hq;obtain⟨u,hu,ru⟩:=rv.get hx;obtain⟨f0,f1,f2,f3,f4,f5⟩:=hf it (by simp)
  refine wpAny_pyNext_tuple_item st (show s.heap.IsTuple a its.toArray from p) (x:=u) (by simpa using hu) λh' gi sb=>?_
  have I1:Inv X ac Z H { s with heap:=h' }:=I.turned (t':=s.toks) (λb o hb e=>(sb.2 b hb).trans e) f0 f1 f3 f4 f5
  obtain⟨o,e,c,d⟩:=id gi;exact⟨u,rfl,zO (s:={ s with heap:=h' }) e c d nofun ⟨x,H,I1,ru,⟨rfl,λys hy=>by rw[I.tuple_inj hy hq];exact hx⟩,gi,λb hb=>(hf b hb).1⟩⟩
 done:=by
  rw[1];obtain⟨xs,hq,hx⟩:=hg;obtain⟨its,rv,p,hz⟩:=I.tuple hq;obtain⟨f0,f1,f2,f3,f4,f5⟩:=hf it (by simp)
  have hl:=rv.length;exact wpAny_pyNext_tuple_end (I.ok.hd hc) st (show s.heap.IsTuple a its.toArray from p) (by simp;lia) λh' eb=>⟨rfl,I.turned (t':=s.toks) (λb o hb e=>eb b o hb e) f0 f1 f3 f4 f5⟩
 self:=λ_ _ _ _ _ st h=>wpAny_pyIter_tupleiter st h
theorem Wt {P:bN}{w:bA}(it:aC)(lo:Int)(n:Nat):Turn P w K tg (BD lo n) [it] it (λi h=>IsRangeIter h it (lo+(i:Nat)*1) ((n:Int)-(i:Nat)) 1) where
 mem:=by simp
 obj:=λi h st b hb=>by
  grind
 keep:=λi h h' st k=>k it (by simp) _ st
 item:=by
  rw[1];obtain⟨f0,f1,f2,f3,f4,f5⟩:=hf it (by simp)
  have W:=Walks.range (prog:=X.prog) (w:=X.w) (I.ok.hd hc) it lo 1 n;refine W.item i s _ _ hg st λv h' tk hv gi kk=>?_
  obtain⟨t,rfl⟩:=hv;have I1:Inv X ac Z H { s with heap:=h',toks:=tk }:=I.turned (λb o hb e=>kk b o (by simpa using hb) e) f0 f1 f3 f4 f5
  refine⟨_,rfl,zO (s:={ s with heap:=h',toks:=tk }) (n:="range_iterator") gi rfl rfl nofun ⟨.int (lo+i),H,I1,⟨t,?_⟩,⟨rfl,rfl⟩,gi,λb hb=>(hf b hb).1⟩⟩
  rw[Int.mul_one]
 done:=by
  rw[1];obtain⟨f0,f1,f2,f3,f4,f5⟩:=hf it (by simp)
  exact wpAny_pyNext_range_end (I.ok.hd hc) st (by have:n<=i:=hg;lia) λh' eb=>⟨rfl,I.turned (t':=s.toks) (λb o hb e=>eb b o hb e) f0 f1 f3 f4 f5⟩
 self:=λ_ _ _ _ _ st h=>wpAny_pyIter_rangeiter st h
section
variable {X:Cx}
def Mj (K:aK)(tl:TE):TI:=λZ H R=>tl Z H λx H1=>∃ a,x=.ref a/\(∃ xs,SqL K H1 a xs)/\R (GN K a) H1
def Kz (K:aK)(tl:TE):TI:=λZ H R=>tl Z H λx H1=>∃ a,x=.ref a/\(∃ xs,SqT K H1 a xs)/\R (GL K a) H1
theorem Rv {l:aU}{tl:TE}(hl:PE X l tl):PI X tg l (Mj X.K tl):=by
 intro ac s Z H R I h;refine bb (hl ac s Z H _ I h) λv s1 gh=>?_
 obtain⟨x,H1,I1,r1,q1⟩:=gh;obtain⟨a,e,⟨xs,hq⟩,q⟩:=q1;subst e;cases r1;obtain⟨its,rv,p,hz⟩:=I1.list hq;refine zT p.isList ?_;refine⟨s1.heap.objs.size,[s1.heap.objs.size],_,_,H1,rfl,I1.kept (t':=s1.toks) λb o e=>bG _ e,Xk a _,⟨_,cL _ rfl,rfl,rfl⟩,λb hb=>?_,q⟩
 have e:b=s1.heap.objs.size:=by simpa using hb
 subst e;exact I1.fpOk (bB _) (I1.hok.fresh (bB _))
theorem On {l:aU}{tl:TE}(hl:PE X l tl):PI X tg l (Kz X.K tl):=by
 intro ac s Z H R I h;refine bb (hl ac s Z H _ I h) λv s1 gh=>?_
 obtain⟨x,H1,I1,r1,q1⟩:=gh;obtain⟨a,e,⟨xs,hq⟩,q⟩:=q1;subst e;cases r1;obtain⟨its,rv,p,hz⟩:=I1.tuple hq;refine wpAny_pyIter_tuple (show s1.heap.IsTuple a its.toArray from p) ?_
 refine⟨s1.heap.objs.size,[s1.heap.objs.size],_,_,H1,rfl,I1.kept (t':=s1.toks) λb o e=>bG _ e,Xf a _,⟨_,cL _ rfl,rfl,rfl⟩,λb hb=>?_,q⟩
 have e:b=s1.heap.objs.size:=by simpa using hb
 subst e;exact I1.fpOk (bB _) (I1.hok.fresh (bB _))
theorem u5{Z:St}{H:Hp}{R:It->Hp->Prop}{lo hi:Int}{t u v:Tok}{tk:Nat}(I:Inv X ac Z H s)(h1 : -(2^62)<=lo)(h2:lo<2^62)(h3 : -(2^62)<=hi)(h4:hi<2^62)
  (q:R (BD lo (hi-lo).toNat) H):aM (aP X.prog X.w) X.A (nV (.ref s.heap.objs.size)) (V6 X ac Z tg R) E { s with heap:=s.heap.push { cls:=.type "range",data:=.fields #[.int lo t,.int hi u,.int 1 v] },toks:=tk }:=by
 refine wpAny_pyIter_range (IsRange.new ..) (small_one h1 h2 h3 h4) ?_;have I1:Inv X ac Z H { s with heap:=s.heap.push { cls:=.type "range",data:=.fields #[.int lo t,.int hi u,.int 1 v] },toks:=tk }:=I.kept λb o e=>bG _ e
 refine⟨(s.heap.push { cls:=.type "range",data:=.fields #[.int lo t,.int hi u,.int 1 v] }).objs.size,[(s.heap.push { cls:=.type "range",data:=.fields #[.int lo t,.int hi u,.int 1 v] }).objs.size],_,_,H,rfl,
  I1.kept (t':=tk) λb o e=>bG _ e,Wt _ lo (hi-lo).toNat,?_,λb hb=>?_,q⟩
 .have e1:lo+((0:Nat):Int)*1=lo:=by simp
  have e2:(((hi-lo).toNat:Nat):Int)-((0:Nat):Int)=Builtin.Range.rangeSize lo hi 1:=by rw[rangeSize_one];split<;>lia
  show IsRangeIter _ _ (lo+((0:Nat):Int)*1) ((((hi-lo).toNat:Nat):Int)-((0:Nat):Int)) 1;rw[e1,e2];exact cL _ rfl
 .have e:b=(s.heap.push { cls:=.type "range",data:=.fields #[.int lo t,.int hi u,.int 1 v] }).objs.size:=by simpa using hb
  subst e;exact I1.fpOk (bB _) (I1.hok.fresh (bB _))
def Li (ta:TA):TI:=λZ H R=>ta Z H λvs H1=>∃ j:Int,vs=[.int j] /\ -(2^62)<=j/\j<2^62/\R (BD 0 j.toNat) H1
theorem A7 {a:aU}{ta:TA}(hg:Gl X "range")(hm:X.mg "range" = ab)(ha:PA X [a] ta)(hs:bW [a] X.env=[(af,bT a X.env)]:=by rfl):PI X tg (.Call (.Name "range" p) [a] [] pos) (Li ta):=by
 intro ac s Z H R I h;refine Call_ (pP I hg hm boot_range (wN (bb (ha pos ac s Z H _ I h) λus s1 ⟨vs,H1,I1,r1,q1⟩=>?_) hs rfl))
 obtain⟨j,e,q1,q2,q⟩:=q1;subst e;cases r1 with
 |cons r rr=>
  cases rr;obtain⟨t,rfl⟩:=r;exact call_range_1 (u5 I1 () () q1 q2 (by simpa using q))
def Kf (wi:TI)(g:TG)(tb:TS):TS:=λD Z H=>wi Z H λJ H1=>∃ W:Nat->Nat->St->Hp->Prop,(∃ m,W 0 m Z H1)/\∀ i m Z H,W i m Z H ->
 (J.stop i H/\D.nx Z H)\/(J.go i H/\∃ N:St->Hp->Prop,(∀ σ' H',N σ' H'->∃ m',m'<m/\W (i+1) m' σ' H')/\∀ x H',J.yld i H x H'->g x Z H' λσ2 H2=>tb { D with nx:=N,ct:=N,bk:=D.nx } σ2 H2)
def xO (fp:List aC)(h:aQ):List (aC×bC):=fp.filterMap λb=>(h.get? b).map λo=>(b,o)
theorem EB(hb:b∈fp)(e:h.get? b=aa o):(b,o)∈xO fp h:=uG.2 ⟨b,hb,by rw[e];rfl⟩
theorem Wg{p:aC×bC}(hp:p∈xO fp h):p.1∈fp/\h.get? p.1=aa p.2:=by
 obtain⟨b,hb,e⟩:=uG.1 hp;cases q:h.get? b with
 |none=>rw[q] at e;cases e
 |some o=>
  grind
theorem Inv.pinned{Z:St}{H:Hp}(I:Inv X ac Z H s)(hf:∀ b∈fp,iL X ac H b)(ho:∀ b∈fp,∃ o,s.heap.get? b=aa o/\∀ v,o.data ≠ .cell v):Inv X (ac++xO fp s.heap) Z H s:=
 I.pins_of λp hp=>(kT.1 hp).elim (λz=>I.pin p (oY _ z)) λz=>by
  obtain⟨hb,e⟩:=Wg z;obtain⟨f0,f1,f2,_⟩:=hf p.1 hb
  grind
theorem Inv.unpinned {pl:List (aC×bC)}{Z:St}{H:Hp}(I:Inv X (ac++pl) Z H s):Inv X ac Z H s:=I.pins_of λp hp=>I.pin p (oY _ (List.mem_append_left _ hp))
theorem Pv {be:aU}{wi:TI}{g:TG}{tb:TS}(hp:AE (aP X.prog X.w) X.A X.env X.xe)(hc:X.calm=ae)(hi:PI X tg be wi)(hg:PG X tg g)(hb:PSs X body tb)
  (hs:∀ x,qE be X.env x=pure x:=by intro _;rfl):PS X (.For tg be body [] pos) (Kf wi g tb):=by
 intro ac s Z H D I h;refine wpAny_For (bb (hi ac s Z H _ I h) λv s1 h1=>bb h1 λM0 s2 h2=>?_) hs
 obtain⟨it,fp,tn,J,H2,e,I2,T,il,f2,W,⟨m0,w0⟩,jp⟩:=h2;subst e;have jq:∀ {H':Hp},(∀ b∈fp,H' b=ab)->∀ b∈fp,iL X ac H' b:=λhn b hb=>⟨hn b hb,(f2 b hb).2⟩
 refine codeAny_forLoop_any (λn s'=>∃ i σ' H',Inv X ac σ' H' s'/\tn i s'.heap/\(∀ b∈fp,H' b=ab)/\W i n σ' H') ?_ m0 ⟨0,Z,H2,I2,il,λb hb=>(f2 b hb).1,w0⟩
 rintro n s3 ⟨i,σ3,H3,I3,yh,yi,w3⟩;rcases jp i n σ3 H3 w3 with⟨stop,qn⟩|⟨go,N,hN,step⟩
 .refine wF hp (bb (T.done X rfl rfl rfl hc i ac s3 σ3 H3 X.xe I3 (jq yi) yh stop) λr s4 gh=>?_)
  obtain⟨hr,I4⟩:=gh;subst hr;exact NZ ⟨σ3,H3,I4,qn⟩
 .refine wF hp (bb (T.item X rfl rfl rfl hc i ac s3 σ3 H3 X.xe I3 (jq yi) yh go) λr s4 gh=>?_)
  obtain⟨u,hr,h4⟩:=gh;subst hr;refine wF hp (bb h4 λ_ s5 gh=>?_)
  obtain⟨x,H5,I5,r5,y5,vz,P7⟩:=gh;have P8:=I5.pinned (jq P7) (T.obj _ _ vz);refine wF hp (bb (hg _ s5 σ3 H5 x u _ P8 r5 (step x H5 y5)) λ_ s6 gh=>?_)
  obtain⟨σ6,H6,I6,q6⟩:=gh;refine wF hp (bb (hb _ s6 σ6 H6 _ I6 q6) λf s7 q7=>?_)
  have again:∀ {σ7:St} {H7:Hp},Inv X (ac++xO fp s5.heap) σ7 H7 s7->N σ7 H7->∃ m,m<n/\∃ i σ' H',Inv X ac σ' H' s7/\tn i s7.heap/\(∀ b∈fp,H' b=ab)/\W i m σ' H':=λ{σ7 H7} I7 n7=>by
   obtain⟨m',hm,w7⟩:=hN σ7 H7 n7;refine⟨m',hm,i+1,σ7,H7,I7.unpinned,T.keep _ _ _ vz λb hb o e=>(I7.pin (b,o) (oY _ (oY _ (EB hb e)))).1,λb hb=>?_,w7⟩
   obtain⟨o,e,d⟩:=T.obj _ _ vz b hb;exact(I7.pin (b,o) (oY _ (oY _ (EB hb e)))).2.1
  cases f with
  |next=>obtain⟨σ7,H7,I7,n7⟩:=q7;exact again I7 n7
  |cont=>obtain⟨σ7,H7,I7,n7⟩:=q7;exact again I7 n7
  |brk=>obtain⟨σ7,H7,I7,q7⟩:=q7;exact⟨σ7,H7,I7.unpinned,q7⟩
  |ret v=>obtain⟨x7,σ7,H7,I7,r7,q7⟩:=q7;exact⟨x7,σ7,H7,I7.unpinned,r7,q7⟩
end
abbrev R2:=V->V->Hp->VK->Prop
def OpR (X:Cx)(f:aD->aD->Sem aD)(r:R2):Prop:=
 ∀ (ac:List (aC×bC)) (s:aH) (Z:St) (H:Hp) (x y:V) (v u:aD) (Q:VK),Inv X ac Z H s->RelV x v->RelV y u->r x y H Q ->
  aM (aP X.prog X.w) X.A (f v u) (EP X ac Z Q) X.xe s
def O1 (X:Cx)(f:aD->Sem aD)(r:V->Hp->VK->Prop):Prop:=
 ∀ (ac:List (aC×bC)) (s:aH) (Z:St) (H:Hp) (x:V) (v:aD) (Q:VK),Inv X ac Z H s->RelV x v->r x H Q ->
  aM (aP X.prog X.w) X.A (f v) (EP X ac Z Q) X.xe s
def Ac1 (X:Cx)(f:aD)(r:List V->Hp->VK->Prop):Prop:=
 ∀ (ac:List (aC×bC)) (s:aH) (Z:St) (H:Hp) (xs:List V) (us:List aD) (Q:VK),Inv X ac Z H s->Vals xs us->r xs H Q ->
  aM (aP X.prog X.w) X.A (call f us) (EP X ac Z Q) X.xe s
def yc (r:R2)(ta tb:TE):TE:=λZ H Q=>ta Z H λx H1=>tb Z H1 λy H2=>r x y H2 Q
def tUn (r:V->Hp->VK->Prop)(ta:TE):TE:=λZ H Q=>ta Z H λx H1=>r x H1 Q
def rI (C:Int->Int->Prop)(g:Int->Int->V):R2:=λx y H Q=>∃ i j,x=.int i/\y=.int j/\C i j/\Q (g i j) H
def sx (g:Int->Int->V):R2:=λx y H Q=>∃ i j,x=.int i/\y=.int j/\Q (g i j) H
def rU (g:Int->V):V->Hp->VK->Prop:=λx H Q=>∃ i,x=.int i/\Q (g i) H
section
variable {X:Cx}{a b:aU}{ta tb tc:TE}
theorem GV (ha:PE X a ta)(hb:PE X b tb){Z:St}{H:Hp}{R:V->V->Hp->Prop}(I:Inv X ac Z H s)
  (h:ta Z H λx H1=>tb Z H1 λy H2=>R x y H2) {Q:aD->aH->Prop} {f:aD->aD->Sem aD}
  (hf:∀ v u s2 x y H2,Inv X ac Z H2 s2->RelV x v->RelV y u->R x y H2->aM (aP X.prog X.w) X.A (f v u) Q X.xe s2) :
  aM (aP X.prog X.w) X.A (bT a X.env) (λv s₁=>aM (aP X.prog X.w) X.A (bT b X.env) (λu s₂=>aM (aP X.prog X.w) X.A (f v u) Q X.xe s₂) X.xe s₁) X.xe s:=by
 refine bb (ha ac s Z H _ I h) λv s1 gh=>?_
 obtain⟨x,H1,I1,r1,q1⟩:=gh;refine bb (hb ac s1 Z H1 _ I1 q1) λu s2 gh=>?_
 obtain⟨y,H2,I2,r2,q2⟩:=gh;exact hf v u s2 x y H2 I2 r1 r2 q2
theorem Ll {op:Operator}{r:R2}(ho:OpR X (jT op) r)(ha:PE X a ta)(hb:PE X b tb):PE X (.BinOp a op b pos) (yc r ta tb):=by
 rw[8];exact wpAny_BinOp (GV ha hb I h λv u s2 x y H2 I2 rx ry q=>ho ac s2 Z H2 x y v u Q I2 rx ry q)
theorem Mc {op:UnaryOp}{r:V->Hp->VK->Prop}(ho:O1 X (unaryOp op) r)(ha:PE X a ta):PE X (.UnaryOp op a pos) (tUn r ta):=by
 rw[8];exact UnaryOp_ (bb (ha ac s Z H _ I h) λv s1 ⟨x,H1,I1,r1,q1⟩=>ho ac s1 Z H1 x v Q I1 r1 q1)
theorem yb{C:Int->Int->Prop}{g:Int->Int->Int}
  (rule:∀ (i j:Int) (t u:Tok) (s:aH) (Q:aD->aH->Prop) (E:aD->aH->Prop),C i j->Q (.int (g i j) s.toks) { s with toks:=s.toks+1 }->aM (aP X.prog X.w) X.A (f (.int i t) (.int j u)) Q E s) :
  OpR X f (rI C λi j=>.int (g i j)):=by
 rw[3];obtain⟨i,j,rfl,rfl,hc,q⟩:=h;obtain⟨t,rfl⟩:=rx;obtain⟨t',rfl⟩:=ry;exact rule i j t t' s _ _ hc ⟨.int (g i j),H,I.tok _,⟨_,rfl⟩,q⟩
theorem QM{g:Int->Int->Int}
  (rule:∀ (i j:Int) (t u:Tok) (s:aH) (Q:aD->aH->Prop) (E:aD->aH->Prop),Q (.int (g i j) s.toks) { s with toks:=s.toks+1 }->aM (aP X.prog X.w) X.A (f (.int i t) (.int j u)) Q E s) :
  OpR X f (sx λi j=>.int (g i j)):=by
 rw[3];obtain⟨i,j,rfl,rfl,q⟩:=h;obtain⟨t,rfl⟩:=rx;obtain⟨t',rfl⟩:=ry;exact rule i j t t' s _ _ ⟨.int (g i j),H,I.tok _,⟨_,rfl⟩,q⟩
theorem QL{g:Int->Int->Bool}
  (rule:∀ (i j:Int) (t u:Tok) (s:aH) (Q:aD->aH->Prop) (E:aD->aH->Prop),Q (.bool (g i j)) s->aM (aP X.prog X.w) X.A (f (.int i t) (.int j u)) Q E s) :
  OpR X f (sx λi j=>.bl (g i j)):=by
 rw[3];obtain⟨i,j,rfl,rfl,q⟩:=h;obtain⟨t,rfl⟩:=rx;obtain⟨t',rfl⟩:=ry;exact rule i j t t' s _ _ ⟨.bl (g i j),H,I,rfl,q⟩
def Kr (i j:Int):Prop:=0<j/\j<1073741824
def Lb (i j:Int):Prop:=0<=j/\j<=1000000/\i.natAbs<2^64
def Bk4 (i j:Int):Prop:=(-(2^64)<i/\i<2^64)\/(-(2^64)<j/\j<2^64)
theorem Bk4.ok {i j:Int}(h:Bk4 i j):IntMulOk i j:=by
 rcases h with⟨h1,h2⟩|⟨h1,h2⟩
 .exact .of_left (intBits_le_64 h1 h2)
 .exact .of_right (intBits_le_64 h1 h2)
theorem Bh1:OpR X (jT .Add) (sx λi j=>.int (i+j)):=QM λ_ _ _ _ _ _ _ q=>add_int q
theorem Nb:OpR X (jT .Sub) (sx λi j=>.int (i-j)):=QM λ_ _ _ _ _ _ _ q=>sub_int q
theorem Od:OpR X (jT .Mult) (rI Bk4 λi j=>.int (i*j)):=yb λ_ _ _ _ _ _ _ hc q=>mul_int q hc.ok
theorem Tv:OpR X (jT .FloorDiv) (rI Kr λi j=>.int (i/j)):=yb λi j _ _ _ _ _ hc q=>by
 have h1:(0:Int)<j:=hc.1;have h2:j<1073741824:=hc.2;exact floordiv_int () (by rw[Int.fdiv_eq_ediv_of_nonneg i ()];exact q) (.inl (PyProof.noPylong_small ()))
theorem Nr:OpR X (jT .Mod) (rI (λ_ j=>0<j) λi j=>.int (i%j)):=yb λi j _ _ _ _ _ hc q=>by
 have h1:(0:Int)<j:=hc;exact mod_int' () (by rw[Int.fmod_eq_emod_of_nonneg i ()];exact q)
theorem Ow:OpR X (jT .Pow) (rI Lb λi j=>.int (i^j.toNat)):=yb λ_ _ _ _ _ _ _ hc q=>pow_int_small hc.1 hc.2.1 hc.2.2 q
theorem unI {f:aD->Sem aD}{g:Int->Int}
  (rule:∀ (i:Int) (t:Tok) (s:aH) (Q:aD->aH->Prop) (E:aD->aH->Prop),Q (.int (g i) s.toks) { s with toks:=s.toks+1 }->aM (aP X.prog X.w) X.A (f (.int i t)) Q E s) :
  O1 X f (rU λi=>.int (g i)):=by
 intro ac s Z H x v Q I rx h;obtain⟨i,rfl,q⟩:=h;obtain⟨t,rfl⟩:=rx;exact rule i t s _ _ ⟨.int (g i),H,I.tok _,⟨_,rfl⟩,q⟩
theorem Ny:O1 X (unaryOp .USub) (rU λi=>.int (-i)):=unI λ_ _ _ _ _ q=>neg_int q
end
section
variable {X:Cx}{a b:aU}{ta tb tc:TE}
theorem BV{Z:St}{H:Hp}{Q:VK}{k k':Bool}(I:Inv X ac Z H s)(q:Q (.bl k) H)(e:k=k'):EP X ac Z Q (.bool k') s:=by
 subst e;exact⟨.bl k,H,I,rfl,q⟩
theorem Bky:OpR X (fZ .Lt) (sx λi j=>.bl (decide (i<j))):=QL λ_ _ _ _ _ _ _ q=>lt_int q
theorem RP:OpR X (fZ .Gt) (sx λi j=>.bl (decide (j<i))):=QL λ_ _ _ _ _ _ _ q=>gt_int q
theorem C9:OpR X (fZ .Lt) (λx y H Q=>∃ i j,x=.str i/\y=.str j/\Q (.bl (decide (i.cps.toList<j.cps.toList))) H):=by
 rw[3];obtain⟨i,j,rfl,rfl,q⟩:=h;obtain⟨t,rfl⟩:=rx;obtain⟨t',rfl⟩:=ry;exact lt_str (BV I q rfl)
theorem E8:OpR X (fZ .In) (λx y H Q=>∃ i j,x=.str i/\y=.str j/\Q (.bl (!(QA j i 0 j.length 1).isEmpty)) H):=by
 rw[3];obtain⟨i,j,rfl,rfl,q⟩:=h;obtain⟨t,rfl⟩:=rx;obtain⟨t',rfl⟩:=ry;exact in_str (BV I q rfl)
theorem SN:OpR X (fZ .Is) (λx y H Q=>y=.non/\Q (.bl (decide (x=.non))) H):=by
 rw[3];obtain⟨rfl,q⟩:=h;cases ry;refine is_none_gen (BV I q ?_);cases x<;>first
  |(cases rx;rfl)
  |(obtain⟨t,rfl⟩:=rx;rfl)
theorem Ug:OpR X (fZ .IsNot) (λx y H Q=>y=.non/\Q (.bl (!decide (x=.non))) H):=by
 rw[3];obtain⟨rfl,q⟩:=h;cases ry;refine isnot_none_gen (BV I q ?_);cases x<;>first
  |(cases rx;rfl)
  |(obtain⟨t,rfl⟩:=rx;rfl)
theorem OpR.or{r r':R2}(h:OpR X f r)(h':OpR X f r'):OpR X f (λx y H Q=>r x y H Q\/r' x y H Q):=by
 intro ac s Z H x y v u Q I rx ry q;rcases q with q|q
 .exact h ac s Z H x y v u Q I rx ry q
 .exact h' ac s Z H x y v u Q I rx ry q
theorem mK (b:aU)(h:op ≠ .In:=by decide)(h2:op ≠ .NotIn:=by decide):uB op b=af:=by
 have e1:(op==CmpOp.In)=af:=by cases op<;>first|rfl|exact absurd rfl h
 have e2:(op==CmpOp.NotIn)=af:=by cases op<;>first|rfl|exact absurd rfl h2
 cases b<;>simp[uB,e1,e2]
theorem Em{r:R2}(ho:OpR X (fZ op) r)(ha:PE X a ta)(hb:PE X b tb)(hm:uB op b=af):PE X (.Compare a [op] [b] pos) (yc r ta tb):=by
 rw[8];exact wpAny_Compare1 (GV ha hb I h λv u s2 x y H2 I2 rx ry q=>ho ac s2 Z H2 x y v u Q I2 rx ry q) hm
def Mp (t:TE):TT:=λZ H Q=>t Z H λx H'=>∃ k,x=.bl k/\Q k H'
theorem Fo{r:R2}(ho:OpR X (fZ op) r)(ha:PE X a ta)(hb:PE X b tb)(hm:uB op b=af):PT X (.Compare a [op] [b] pos) (Mp (yc r ta tb)):=by
 rw[8];refine wpAny_isTrue_Compare1 (bb (ha ac s Z H _ I h) λv s1 ⟨x,H1,I1,r1,q1⟩=>bb (hb ac s1 Z H1 _ I1 q1) λu s2 ⟨y,H2,I2,r2,q2⟩=>
  bb (ho ac s2 Z H2 x y v u _ I2 r1 r2 q2) λc s3 ⟨z,H3,I3,r3,k,e,q3⟩=>?_) hm
 subst e;cases r3;exact zS ⟨H3,I3,q3⟩
theorem rG:(sizeLine:Nat)<2^63:=by rw[nU];decide
theorem Axo:OpR X (jT .Add) (λx y H Q=>∃ i j,x=.str i/\y=.str j/\i.length+j.length<=sizeLine/\Q (.str (i++j)) H):=by
 rw[3];obtain⟨i,j,rfl,rfl,hz,q⟩:=h;obtain⟨t,rfl⟩:=rx;obtain⟨t',rfl⟩:=ry;exact add_str (λt' tk=>⟨.str (i++j),H,I.tok _,⟨_,rfl⟩,q⟩) hz
theorem vals1 {x:V}(r:Vals [x] us):∃ u,us=[u]/\RelV x u:=by
 cases r with
 |cons r1 r2=>cases r2;exact⟨_,rfl,r1⟩
theorem vals2 {x y:V}(r:Vals [x,y] us):∃ u w',us=[u,w']/\RelV x u/\RelV y w':=by
 cases r with
 |cons r1 r2=>
  cases r2 with
  |cons r3 r4=>cases r4;exact⟨_,_,rfl,r1,r3⟩
theorem C3 (hc:X.calm=ae):Ac1 X (.builtin "max") (λxs H Q=>∃ i j,xs=[.int i,.int j]/\Q (.int (if j > i then j else i)) H):=by
 rw[5];obtain⟨i,j,rfl,q⟩:=h;obtain⟨u,w',rfl,⟨t,rfl⟩,⟨t',rfl⟩⟩:=vals2 r;refine max_two_ints (I.ok.hd hc) λh' tk k=>⟨_,H,I.kept k,?_,q⟩
 by_cases hj:j > i
 .rw[if_pos hj,if_pos hj];exact⟨_,rfl⟩
 .rw[if_neg hj,if_neg hj];exact⟨_,rfl⟩
end
structure ObjM (h:aQ)(x dx C:aC)(mA:aE->Option aD):Prop where
 obj:h.get? x=aa (Hy C dx)
 ns:h.Ns1 dx mA
 ne:dx≠x
theorem D3{mA:aE->Option aD}(n:h.Ns1 dx mA):∃ od,h.get? dx=aa od/\∀ name,Hu name od=aa (mA name):=by
 obtain⟨o,es,ep,ho,hd,hk,_,hm⟩:=n;refine⟨o,ho,λname=>?_⟩
 have e:=hm name;unfold nsFind findBy at e;rw[<-Array.find?_toList] at e;unfold Hu;rw[hd];rw[12];split
 .rename_i y q;rw[q] at e;exact congrArg aa e
 .rename_i q;rw[q] at e;have a:es.toList.any (·.refKey)=af:=by
   rw[List.any_eq_false];intro y hy;obtain⟨z,t,qg⟩:=hk y (Array.mem_toList_iff.1 hy);simp[DictEntry.refKey,qg]
  grind
theorem ObjM.look{x:aC}{mA:aE->Option aD}(I:ObjM h x dx C mA):∃ od,PySem.W.InstAt h x (Hy C dx) C (aa od)/\∀ name,Hu name od=aa (mA name):=
 let ⟨od,ho,hl⟩:=D3 I.ns
 ⟨od,⟨I.obj,rfl,rfl,ho⟩,hl⟩
theorem Auy.some_of {v:V}{o:Option aD}(r:Auy (aa v) o):∃ u,o=aa u/\RelV v u:=by
 cases o with
 |none=>exact(show False from r).elim
 |some u=>exact⟨u,rfl,r⟩
theorem Auy.none_of {o:Option aD}(r:Auy ab o):o=ab:=by
 cases o with
 |none=>rfl
 |some u=>exact(show False from r).elim
section
variable {P:bN}{w:bA}{H H':Hp}{fs fs':List (aE×V)}
theorem Ux (hok:HOk P w H h)(e:H a=aa (.ins C dx fs)):∃ mA,ObjM h a dx C mA/\(∀ f,Auy (fs.lookup f) (mA f))/\PySem.Within mA (fs.map (·.1))/\fs.length<=1000/\H dx=aa (.own a):=by
 obtain⟨d,z,ne,ob,mA,n,r,q⟩:=(show Acn P w H h a (.ins C dx fs) from hok a _ e)
 exact⟨mA,⟨ob,n,ne⟩,r,q,z,d⟩
end
structure Cls (K:aK)(C:aC):Prop where
 pg:PySem.W.plainGet K C Str.empty=ae
 hd:PySem.W.hasDictIn K C=ae
 po:PySem.W.plainOver K C=ae
 sa:PySem.W.findIn K (.ref C) "__setattr__" = aa (aa (.builtin "object.__setattr__"))
theorem Cls.get(c:Cls K C)(f:aE):PySem.W.plainGet K C f=ae:=c.pg
section
variable {X:Cx}{Z:St}{H:Hp}{c:aD}{b:Bool}
inductive TyOf (K:aK)(H:Hp):V->aD->Prop where
 |non:TyOf K H .non (.type "NoneType")
 |bl (x:Bool):TyOf K H (.bl x) (.type "bool")
 |int (i:Int):TyOf K H (.int i) (.type "int")
 |str (x:aE):TyOf K H (.str x) (.type "str")
 |flt (x:UInt64):TyOf K H (.flt x) (.type "float")
 |lst {a:aC} {xs:List V} (e:H a=aa (.lst xs)):TyOf K H (.ref a) (.type "list")
 |frz {a:aC} {o:bC} {xs:List V} (e:H a=aa (.frz o (.lst xs))):TyOf K H (.ref a) (.type "list")
 |tup {a:aC} {xs:List V} (e:H a=aa (.tup xs)):TyOf K H (.ref a) (.type "tuple")
 |dK {a:aC} {ep:Nat} {kvs:List (aI×V)} (e:H a=aa (.dK ep kvs)):TyOf K H (.ref a) (.type "dict")
 |dT {a:aC} {ep:Nat} {kvs:List (List aA×V)} (e:H a=aa (.dT ep kvs)):TyOf K H (.ref a) (.type "dict")
 |ins {a C dx:aC} {fs:List (aE×V)} (e:H a=aa (.ins C dx fs)) (cl:Cls K C) (ha:PySem.W.findIn K (.ref C) "__class__" = aa (aa (.builtin "object.__class__")))
   (hn:PySem.W.specialIn K (.builtin "object.__class__") "__get__" = aa (aa (.builtin "getset_descriptor.__get__"))) (yj:PySem.W.takesIn K (.builtin "object.__class__")=aa ae)
   (hm:PySem.W.mroIn K C (.type "object")=aa ae):TyOf K H (.ref a) (.ref C)
theorem A4 {x:V}{t:aD}(I:Inv X ac Z H s)(rx:RelV x u)(ty:TyOf X.K H x t)(e:Hx X.K t c=aa b)(h:∀ tk,Q (.bool b) { s with toks:=tk }) :
  aM (aP X.prog X.w) A (call (.builtin "isinstance") [u,c]) Q E s:=by
 cases ty with
 |non=>cases(show u=eE from rx);exact mQ PySem.W.kitx_none I.kIn oU e (λz=>nomatch z) h
 |bl y=>cases(show u=Value.bool y from rx);exact mQ PySem.W.kitx_bool I.kIn oU e (λz=>nomatch z) h
 |int i=>obtain⟨t,q⟩:=(show ∃ t,u=uD i t from rx);cases q;exact mQ PySem.W.kitx_int I.kIn oU e (λz=>nomatch z) h
 |str y=>obtain⟨t,q⟩:=(show ∃ t,u=uC y t from rx);cases q;exact mQ PySem.W.kitx_str I.kIn oU e (λz=>nomatch z) h
 |flt y=>obtain⟨t,q⟩:=(show ∃ t,u=Value.float y t from rx);cases q;exact mQ PySem.W.kitx_float I.kIn oU e (λz=>nomatch z) h
 |@lst a xs ea=>
  cases(show u=eI a from rx)
  obtain⟨_,_,n,_,h1⟩:=(show Acn X.prog X.w H s.heap a (.lst xs) from I.hok a _ ea)
  exact mQ Hv I.kIn ⟨_,h1,rfl⟩ e (λz=>nomatch z) h
 |@frz a ob xs ea=>
  cases(show u=eI a from rx)
  obtain⟨_,_,_,n,_,h1⟩:=(show Acn X.prog X.w H s.heap a (.frz ob (.lst xs)) from I.hok a _ ea)
  exact mQ Hv I.kIn ⟨_,h1,rfl⟩ e (λz=>nomatch z) h
 |@tup a xs ea=>
  cases(show u=eI a from rx)
  obtain⟨_,_,_,p⟩:=(show Acn X.prog X.w H s.heap a (.tup xs) from I.hok a _ ea)
  obtain⟨o,h1,h2,_⟩:=p.1;exact mQ PySem.W.kitx_tuple I.kIn ⟨o,h1,h2⟩ e (λz=>nomatch z) h
 |@dK a ep kvs ea=>
  cases(show u=eI a from rx)
  obtain⟨_,_,vs,_,p⟩:=(show Acn X.prog X.w H s.heap a (.dK ep kvs) from I.hok a _ ea)
  obtain⟨o,es,h1,h2,_⟩:=p;exact mQ Hw I.kIn ⟨o,h1,h2.1⟩ e (λz=>nomatch z) h
 |@dT a ep kvs ea=>
  cases(show u=eI a from rx)
  obtain⟨_,_,xs,_,o,es,h1,h2,_⟩:=(show Acn X.prog X.w H s.heap a (.dT ep kvs) from I.hok a _ ea)
  exact mQ Hw I.kIn ⟨o,h1,h2.1⟩ e (λz=>nomatch z) h
 |@ins a C dx fs ea cl ha hn yj hm=>
  cases(show u=eI a from rx)
  obtain⟨mA,O,_⟩:=Ux I.hok ea;obtain⟨od,J,_⟩:=O.look;exact mQ (PySem.W.kitx_own (cl.get _) cl.hd ha hn yj hm) I.kIn J e (λz=>nomatch z) h
end
structure Room (k:Nat)(A:bS):Prop where
 hd:A.handled=ab
 dp:A.depth+3*k+5<recursionLimit
 un:A.units+16*k+200<cLine
theorem Room.mono {j:Nat}(r:Room k A)(h:j<=k):Room j A:=⟨r.hd,by have:=r.dp;lia,by have:=r.un;lia⟩
theorem Room.deeper(r:Room (k+1) A)(env:Env):Room k (A.deeper env):=
 ⟨r.hd,by have:=r.dp;show A.depth+1+3*k+5<_;lia,by have:=r.un;show A.units+3+16*k+200<_;lia⟩
theorem Room.depth(r:Room k A):A.depth<recursionLimit:=by have:=r.dp;lia
theorem Room.units(r:Room k A):A.units+64<cLine:=by have:=r.un;lia
abbrev GX:TA:=λ_ H Q=>Q [] H
abbrev zL (ta:TE)(tr:TA):TA:=λZ H Q=>ta Z H λx H1=>tr Z H1 λxs H2=>Q (x::xs) H2
section
variable {X:Cx}{te:TE}{t:TA}
theorem iE:PA X [] GX:=λ_ _ _ _ H Q I h=>Js ⟨[],H,I,.nil,h⟩
theorem fK (ha:PE X e te)(hr:PA X es t)(hs:bW (e::es) X.env=(af,bT e X.env)::bW es X.env:=by rfl):PA X (e::es) (zL te t):=by
 intro pos ac s Z H Q I h;rw[hs];show aM _ _ (spliced ((af,bT e X.env)::jU pos (bW es X.env))) _ _ s;refine PY (bb (ha ac s Z H _ I h) λu s1 gh=>?_)
 obtain⟨x,H1,I1,r1,q1⟩:=gh;exact bb (hr pos ac s1 Z H1 _ I1 q1) λus s2 ⟨xs,H2,I2,r2,q2⟩=>⟨x::xs,H2,I2,.cons r1 r2,q2⟩
def QI (t:TA):TE:=λZ H Q=>t Z H λxs H1=>xs.length<=sizeLine/\∀ p,H1 p=ab->Q (.ref p) (upd H1 p (.tup xs))
def Kv (t:TA):TE:=λZ H Q=>t Z H λxs H1=>xs.length<=sizeLine/\∀ p,H1 p=ab->Q (.ref p) (upd H1 p (.lst xs))
theorem NK {x1}(h:PA X es t):PE X (.Tuple es x1 pos) (QI t):=by
 intro ac s Z H Q I hq;refine wpAny_Tuple_spliced (bb (h pos ac s Z H _ I hq) λus s1 ⟨xs,H1,I1,r,z,q⟩=>⟨by rw[<-r.length];exact z,?_⟩)
 have hf:H1 s1.heap.objs.size=ab:=I1.hok.fresh (bB _);refine⟨.ref s1.heap.objs.size,upd H1 s1.heap.objs.size (.tup xs),I1.laid (t':=s1.toks) (λb u e=>bG _ e) (bB _) ?_,rfl,q _ hf⟩
 exact⟨z,us,r,⟨_,cL _ rfl,rfl,_,rfl⟩,_,cL _ rfl,rfl⟩
theorem Pl (h:PA X es t):PE X (.List es pos) (Kv t):=by
 intro ac s Z H Q I hq;refine wpAny_List_spliced (bb (h pos ac s Z H _ I hq) λus s1 ⟨xs,H1,I1,r,z,q⟩=>⟨by rw[<-r.length];exact z,?_⟩)
 have hf:H1 s1.heap.objs.size=ab:=I1.hok.fresh (bB _);refine⟨.ref s1.heap.objs.size,upd H1 s1.heap.objs.size (.lst xs),I1.laid (t':=s1.toks) (λb u e=>bG _ e) (bB _) ?_,rfl,q _ hf⟩
 exact⟨z,us,0,r,cL _ rfl⟩
end
abbrev Sp:=List V->Hp->VK->XK->Prop
abbrev rh:=List Env->Hp->aH->XK->aD->aH->Prop
structure Env0 (P:bN)(w:bA)(K:aK)(mg:aE->Option aD)(base:aQ)(A:bS)(outer:List Env)(s:aH)(H:Hp):Prop where
 frames:A.frames=aa outer
 mod:Mod K mg base
 bs:∀ b o,base.get? b=aa o->s.heap.get? b=aa o/\H b=ab
 bsz:base.objs.size<=s.heap.objs.size
 funs:s.heap.FunFrames base outer
 frf:∀ b∈ph outer,H b=ab
 hok:HOk P w H s.heap
 bare:sC s.gens
def CE (outer:List Env)(P:bN)(w:bA)(H:Hp)(s:aH)(Q:VK)(u:aD)(s':aH):Prop:=
 ∃ v H',s'.os=s.os/\sC s'.gens/\Un (ph outer) [] H H' s.heap s'.heap/\HOk P w H' s'.heap/\RelV v u/\Q v H'
def CR (CX:rh)(outer:List Env)(P:bN)(w:bA)(H:Hp)(s:aH)(Q:VK)(E:XK)(r:oV)(s':aH):Prop:=
 match r with
 |.ok (.ret u)=>CE outer P w H s Q u s'
 |.ok _=>False
 |.error e=>CX outer H s E e s'
structure FnOk (P:bN)(w:bA)(K:aK)(mg:aE->Option aD)(base:aQ)(CX:rh)(k:Nat)(f:aC)(fd:mU)(ps:List aE)(sp:Sp):Prop where
 len:∀ vs H Q E,sp vs H Q E->vs.length=ps.length
 run:∀ (A:bS) (outer:List Env) (s:aH) (H:Hp) (args:Args) (us:List aD) (vs:List V) (Q:VK) (E:XK),Room k A->Env0 P w K mg base A outer s H->BindsTo s fd args (ps.zip us)->Vals vs us->sp vs H Q E ->
  iR (aP P w) A (.call (.ref f) args) (CR CX outer P w H s Q E) s
theorem FnOk.imp {P:bN}{w:bA}{CX:rh}{f:aC}{sp W3:Sp}(F:FnOk P w K mg base CX k f fd ps sp)
  (h:∀ vs H Q E,W3 vs H Q E->sp vs H Q E):FnOk P w K mg base CX k f fd ps W3:=
 ⟨λvs H Q E q=>F.len vs H Q E (h _ _ _ _ q),λA outer s H args us vs Q E hr he hb hv hs=>F.run A outer s H args us vs Q E hr he hb hv (h _ _ _ _ hs)⟩
section
variable {X:Cx}{Z:St}{H:Hp}
theorem Inv.env0 (I:Inv X ac Z H s):Env0 X.prog X.w X.K X.mg X.base X.A X.stack s H:=
 ⟨I.ok.frames,I.ok.mod,I.bs,dG I.ok.bsz I.sz,I.stack,I.stkFree,I.hok,I.bare⟩
theorem Inv.after {Q:VK}(I:Inv X ac Z H s)(h:CE X.stack X.prog X.w H s Q u s'):EP X ac Z Q u s':=by
 obtain⟨v,H',os,bare,un,hok,r,q⟩:=h;obtain⟨hh,g,d,t,v4⟩:=s';obtain rfl:v4=s.os:=os;exact⟨v,H',I.call (h':=hh) (g':=g) (d':=d) (t':=t) (ch:=[]) un hok bare (λb z=>absurd z (by simp)),r,q⟩
end
def RU (sp:Sp)(um:List V)(E:XK)(t:TA):TE:=λZ H Q=>t Z H λvs H1=>sp (vs++um) H1 Q E
def Binds (K:aK)(fd:mU)(ps:List aE)(ds:List aD):Prop:=
 ∀ (s:aH) (us:List aD),K.In s.heap->(us++ds).length=ps.length->BindsTo s fd ⟨us,[]⟩ (ps.zip (us++ds))
theorem Binds.all(h:∀ us:List aD,us.length=ps.length->bindArgs fd ⟨us,[]⟩=pure (ps.zip us)):Binds K fd ps []:=λs us _ hl=>by
 rw[mS] at hl ⊢;exact .of_eq (h us hl)
def Passes (CX:rh)(X:Cx)(E:XK):Prop:=∀ (ac:List (aC×bC)) (Z:St) (H:Hp) (s:aH) (e:aD) (s':aH),Inv X ac Z H s->CX X.stack H s E e s'->X.xe e s'
section
variable {X:Cx}{CX:rh}{f:aC}{sp:Sp}{um:List V}{ds:List aD}{E:XK}{m:aE}{av:bK}{o:aU}{ta:TE}{t:TA}
theorem Pw{Z:St}{H:Hp}{Q:VK}{vs:List V}(F:FnOk X.prog X.w X.K X.mg X.base CX k f fd ps sp)(hr:Room k X.A)(hb:Binds X.K fd ps ds)(hd:Vals um ds)(hx:Passes CX X E)
  (I:Inv X ac Z H s) (r:Vals vs us) (h:sp (vs++um) H Q E):aM (aP X.prog X.w) X.A (call (.ref f) us) (EP X ac Z Q) X.xe s:=by
 have r2:Vals (vs++um) (us++ds):=r.append hd;have hl:(us++ds).length=ps.length:=by rw[<-r2.length];exact F.len _ _ _ _ h
 refine wpAny_call (zY (F.run X.A X.stack s H ⟨us,[]⟩ (us++ds) (vs++um) Q E hr I.env0 (hb s us I.kIn hl) r2 h) λr s' hq=>?_)
 cases r with
 |error e=>exact hx ac Z H s e s' I hq
 |ok fl=>
  cases fl with
  |ret u=>exact I.after hq
  |next=>exact qM hq
  |brk=>exact qM hq
  |cont=>exact qM hq
theorem Ud (F:FnOk X.prog X.w X.K X.mg X.base CX k f fd ps sp)(hr:Room k X.A)(hg:Gl X x)(hm:X.mg x=aa (.ref f))(hk:FH X.K (.ref f)=ae)(hb:Binds X.K fd ps ds)(hd:Vals um ds)(hx:Passes CX X E)
  (ha:PA X (e::es) t) (jr:(x==("__debug__" : aE))=af:=by decide) (he:bW (e::es) X.env=(af,bT e X.env)::bW es X.env:=by rfl) (dt:(jU pos (bW es X.env)).any (·.1)=af:=by rfl) :
  PE X (.Call (.Name x p) (e::es) [] pos) (RU sp um E t):=by
 rw[8];refine Hl (VA I hg hm ?_ jr);refine PySem.W.callWith_K (h₀:=X.base) I.ok.mod.kin hk (bb (ha pos ac s Z H _ I h) λus s1 ⟨vs,H1,I1,r,q⟩=>⟨I1.kIn,?_⟩) he dt
 exact Pw F hr hb hd hx I1 r q
end
structure FnScope (N P:List aE)(sc:gV):Prop where
 kind:sc.kind=.function
 co:sc.isCoroutine=af
 gen:sc.isGenerator=af
 nd:N.Nodup
 pre:N.take P.length=P
 par:∀ x∈P,sc.names.lookup x=aa .local\/sc.names.lookup x=aa .cell
 nofree:∀ y∈sc.names,y.2 ≠ .free
theorem ZR {kindOf:aE->Option kS}:∀ {binds:List (aE×aD)} {m:aE->Option aD},(∀ v,(x,v)∉binds)->bindL kindOf binds m x=m x
 |[],_,_=>rfl
 |(n,v)::r,m,h=>by
  unfold bindL;rw[ZR λw hw=>h w (bL _ hw)]
  split
  all_goals grind
theorem YU {kindOf:aE->Option kS}:∀ {binds:List (aE×aD)} {m:aE->Option aD},(∀ v,(x,v)∉binds)->bindC kindOf binds m x=m x
 |[],_,_=>rfl
 |(n,v)::r,m,h=>by
  unfold bindC;rw[YU λw hw=>h w (bL _ hw)]
  split
  all_goals grind
theorem YI {kindOf:aE->Option kS}{x:aE}{v:aD}:∀ {P:List aE} {vs:List aD} {i:Nat} {m:aE->Option aD},P.Nodup->P[i]?=aa x->vs[i]?=aa v->kindOf x=aa .local ->
  bindL kindOf (P.zip vs) m x=aa v
 |[],_,_,_,_,h,_,_=>by simp at h
 |_::_,[],_,_,_,_,h,_=>by simp at h
 |p::P,w::vs,0,m,nd,h1,h2,hk=>by
  simp at h1 h2;subst h1;subst h2;show bindL kindOf ((p,w)::P.zip vs) m p=_;unfold bindL;rw[ZR λv hv=>(jZ.1 nd).1 (Iq hv).1,if_pos hk]
  simp
 |p::P,w::vs,i+1,m,nd,h1,h2,hk=>by
  show bindL kindOf ((p,w)::P.zip vs) m x=_;unfold bindL;exact YI (i:=i) (jZ.1 nd).2 (by simpa using h1) (by simpa using h2) hk
theorem ZK {kindOf:aE->Option kS}{x:aE}{v:aD}:∀ {P:List aE} {vs:List aD} {i:Nat} {m:aE->Option aD},P.Nodup->P[i]?=aa x->vs[i]?=aa v->kindOf x≠aa .local ->
  bindC kindOf (P.zip vs) m x=aa v
 |[],_,_,_,_,h,_,_=>by simp at h
 |_::_,[],_,_,_,_,h,_=>by simp at h
 |p::P,w::vs,0,m,nd,h1,h2,hk=>by
  simp at h1 h2;subst h1;subst h2;show bindC kindOf ((p,w)::P.zip vs) m p=_;unfold bindC;rw[YU λv hv=>(jZ.1 nd).1 (Iq hv).1,if_neg hk]
  simp
 |p::P,w::vs,i+1,m,nd,h1,h2,hk=>by
  show bindC kindOf ((p,w)::P.zip vs) m x=_;unfold bindC;exact ZK (i:=i) (jZ.1 nd).2 (by simpa using h1) (by simpa using h2) hk
def start (N:List aE)(vs:List V):St:=vs.map aa++AL (N.length-vs.length) ab
def qW (CX:rh)(P:bN)(w:bA)(K:aK)(mg:aE->Option aD)(base:aQ)(N:List aE)(qual:aE)(scope:gV)(f:aC)(cd:aD)(A:bS)(outer:List Env)(s:aH)(H:Hp)(E:XK):Cx where
 prog:=P
 w:=w
 K:=K
 mg:=mg
 base:=base
 A:=A.deeper (envOfC qual scope s.heap.objs.size f cd)
 N:=N
 s₀:=s
 H₀:=H
 env:=envOfC qual scope s.heap.objs.size f cd
 outer:=outer
 stack:=envOfC qual scope s.heap.objs.size f cd::outer
 ex:=[]
 calm:=ae
 fn:=λ_=>ae
 pn:=[]
 xe:=λe s'=>aM (aP P w) (A.deeper (envOfC qual scope s.heap.objs.size f cd)) (leaving (envOfC qual scope s.heap.objs.size f cd) e) (λ_ tw=>CX outer H s E e tw) (λe' tw=>CX outer H s E e' tw) s'
theorem XA {sc:gV}{n:Nat}(h:sc.names.lookup x=aa .cell):∃ c,(cellsFrom n sc.names []).lookup x=aa c:=by
 have q:=PySem.W.cellsFrom_some sc.names n [] (.inl h);exact wQ.1 q
theorem J1 {CX:rh}{P:bN}{w:bA}{N:List aE}{qual:aE}{scope:gV}{f:aC}{cd:aD}{outer:List Env}{s1:aH}{H:Hp}{E:XK}{vs:List V}
  (S:FnScope N ps scope) (hd:A.handled=ab) (e0:Env0 P w K mg base A outer s H) (hl:vs.length=ps.length) (r:Vals vs us)
  (x:InCallC s s.heap.objs.size (bindL (envOfC qual scope s.heap.objs.size f cd).kindOf (ps.zip us) λ_=>ab) (cellsFrom (s.heap.objs.size+1) scope.names []) (bindC (envOfC qual scope s.heap.objs.size f cd).kindOf (ps.zip us) λ_=>ab) s1) :
  Inv (qW CX P w K mg base N qual scope f cd A outer s H E) [] (start N vs) H s1:=by
 have dt:ps.length<=N.length:=by have:=congrArg List.length S.pre;rw[PC] at this;lia
 obtain⟨h1,tk,rfl,hk⟩:=x.done;have yk:∀ b:aC,b∉(qW CX P w K mg base N qual scope f cd A outer s H E).ex:=λb z=>absurd (show b∈([]:List aC) from z) (by simp)
 refine⟨⟨e0.mod,S.kind,rfl,rfl,bB _,λy z c h1 h2=>?_,λy hy=>?_,λy c _ h=>?_,λ_=>hd,Around.frames_deeper e0.frames,.inr ⟨rfl,rfl⟩,λb z=>absurd z (yk b),e0.bs,e0.bsz,λb _ _=>yk b,λb z=>absurd z (yk b),e0.funs,e0.frf⟩,
  rfl,e0.bare,Un.kept hk,⟨_,x.toInCall.ns,λi y v h1 h2 h3=>?_⟩,λy c h=>⟨_,x.cell y c h⟩,e0.hok.fresh (bB _),λy c h=>?_,λp hp=>absurd (show p∈([]:List (aC×bC)) from hp) (by simp),e0.hok.kept hk,?_⟩
 .exact name_of_addr x.apart (FG h1) (FG h2)
 .have hy:scope.names.lookup y=aa .cell\/scope.names.lookup y=aa .free:=hy;rcases hy with hy|hy
  .exact XA hy
  .exact absurd rfl (S.nofree _ (FG hy))
 .exact oX (x.above y c (FG h))
 .have hi:i<vs.length:=by
   unfold start at h2;by_cases hi:i<vs.length
   all_goals grind
  have ha:vs[i]?=aa v:=by
   unfold start at h2
   grind
  obtain⟨u,hu,rv⟩:=r.get ha;have hp:ps[i]?=aa y:=by
   rw[<-S.pre,List.getElem?_take_of_lt ()];exact h1
  have W4:ps.Nodup:=by rw[<-S.pre];exact S.nd.sublist (List.take_sublist _ _)
  refine⟨u,rv,?_⟩;rcases S.par y (eM hp) with k|k
  .exact .inl ⟨k,YI W4 hp hu k⟩
  .obtain⟨c,e⟩:=XA (n:=s.heap.objs.size+1) k;refine .inr ⟨.inl k,c,e,?_⟩;have q:=x.cell y c e;rw[ZK W4 hp hu (by show scope.names.lookup y≠_;rw[k];decide)] at q
   exact q
 .exact e0.hok.fresh (oX (x.above y c (FG h)))
 .unfold start;show _=N.length;rw[qH,cC,List.length_replicate]
  lia
theorem Lv {CX:rh}{P:bN}{w:bA}{f:aC}{name qual:aE}{params:Arguments}{scope:gV}{dV kV im pm cv ct oc:aD}{an od:Option aC}
  {uo:Array (Option aD)} {N ps:List aE} {sp:Sp} (lk:K.lookup f=aa ⟨oc,od,.func (wM name qual params body scope dV kV im pm an cv ct),uo⟩) (qf:ON K cv qual=ae) (S:FnScope N ps scope)
  (len:∀ vs H Q E,sp vs H Q E->vs.length=ps.length)
  (qh:∀ (A:bS) (outer:List Env) (s:aH) (H:Hp) (vs:List V) (Q:VK) (E:XK),Room k (A.deeper (envOfC qual scope s.heap.objs.size f cv))->sp vs H Q E ->
   ∃ t,PSs (qW CX P w K mg base N qual scope f cv A outer s H E) body t/\t { nx:=λ_ H'=>Q .non H',rt:=Q } (start N vs) H) :
  FnOk P w K mg base CX (k+1) f (wM name qual params body scope dV kV im pm an cv ct) ps sp:=by
 refine⟨len,λA outer s H args us vs Q E hr e0 hb r uq=>?_⟩
 have hl:=len _ _ _ _ uq;have KX:K.In s.heap:=e0.mod.kin.keeps λb o e=>(e0.bs b o e).1
 have lim:s.heap.NoLimit:=e0.mod.nolimit.keeps λb o e=>(e0.bs b o e).1
 have qi:∀ y∈ps.zip us,scope.names.lookup y.1=aa .local\/(scope.names.lookup y.1=aa .cell/\((cellsFrom (s.heap.objs.size+1) scope.names []).lookup y.1).isSome=ae):=λ⟨n,v⟩ hy=>by
  rcases S.par n (Iq hy).1 with q|q
  .exact .inl q
  .exact .inr ⟨q,PySem.W.cellsFrom_some _ _ _ (.inl q)⟩
 refine codeAny_call_function hr.depth (KX _ _ lk) rfl S.co S.gen rfl (PySem.W.codeRec_of KX qf) (hb _ _ _ _ ?_);refine wpAny_newFunctionEnv_cells S.kind qi λenv he s1 x=>?_
 subst he;refine⟨lim.keeps x.toInCall.keep,codeAny_func ?_⟩;obtain⟨t,ht,hq⟩:=qh A outer s H vs Q E (hr.deeper _) uq;have I:Inv (qW CX P w K mg base N qual scope f cv A outer s H E) [] (start N vs) H s1:=J1 S hr.hd e0 hl r x;refine lV (ht [] s1 (start N vs) H _ I hq) (λfl s' hs=>?_) λe s' hs=>hs
 have fin:∀ {σ':St} {H':Hp} {v:V} {u:aD},Inv (qW CX P w K mg base N qual scope f cv A outer s H E) [] σ' H' s'->RelV v u->Q v H'->CE outer P w H s Q u s':=
  λ{σ' H' v u} J rv q=>⟨v,H',J.os,J.bare,J.base,J.hok,rv,q⟩
 cases fl with
 |ret u=>
  obtain⟨v,σ',H',J,rv,q⟩:=hs;exact fin J rv q
 |next=>
  obtain⟨σ',H',J,q⟩:=hs;exact fin (v:=V.non) (u:=eE) J rfl q
 |brk=>
  obtain⟨_,_,_,q⟩:=hs;exact qM q
 |cont=>
  obtain⟨_,_,_,q⟩:=hs;exact qM q
section
variable {X:Cx}{t:TA}{id T:String}{r:List V->Hp->VK->Prop}
def tCB (r:List V->Hp->VK->Prop)(t:TA):TE:=λZ H Q=>t Z H λvs H1=>r vs H1 Q
theorem JO (hc:Ac1 X (.builtin id) r)(hg:Gl X x)(hm:X.mg x=ab)(hv:mO x=aa (.builtin id))(ha:PA X (e::es) t)(hn:x ≠ "__name__":=by decide)(jr:(x==("__debug__" : aE))=af:=by decide)
  (he:bW (e::es) X.env=(af,bT e X.env)::bW es X.env:=by rfl) (dt:(jU pos (bW es X.env)).any (·.1)=af:=by rfl):PE X (.Call (.Name x p) (e::es) [] pos) (tCB r t):=by
 rw[8];refine Hl (pP I hg hm hv ?_ hn jr);exact PyProof.Rows.callWith_builtin1 (bb (ha pos ac s Z H _ I h) λus s1 ⟨vs,H1,I1,r1,q1⟩=>hc ac s1 Z H1 vs us Q I1 r1 q1) he dt
theorem yT (hc:Ac1 X (.type T) r)(hg:Gl X x)(hm:X.mg x=ab)(hv:mO x=aa (.type T))(ha:PA X (e::es) t)(hn:x ≠ "__name__":=by decide)(jr:(x==("__debug__" : aE))=af:=by decide)
  (he:bW (e::es) X.env=(af,bT e X.env)::bW es X.env:=by rfl) (dt:(jU pos (bW es X.env)).any (·.1)=af:=by rfl):PE X (.Call (.Name x p) (e::es) [] pos) (tCB r t):=by
 rw[8];refine Hl (pP I hg hm hv ?_ hn jr);exact wN (bb (ha pos ac s Z H _ I h) λus s1 ⟨vs,H1,I1,r1,q1⟩=>hc ac s1 Z H1 vs us Q I1 r1 q1) he dt
end
section
variable {κ:Type}[DecidableEq κ]
def dR (kvs:List (κ×V))(k:κ):Option V:=(kvs.find? λkv=>decide (kv.1=k)).map (·.2)
def putK (kvs:List (κ×V))(k:κ)(v:V):List (κ×V):=
 if (kvs.any λkv=>decide (kv.1=k))=ae then kvs.map (λkv=>if kv.1=k then(kv.1,v) else kv) else kvs++[(k,v)]
theorem kK {p:κ×V}{r:List (κ×V)}{k:κ}(e:p.1=k):dR (p::r) k=aa p.2:=by simp[dR,gK,e]
theorem jN {p:κ×V}{r:List (κ×V)}{k:κ}(e:¬ p.1=k):dR (p::r) k=dR r k:=by simp[dR,gK,e]
theorem rM (k:κ):∀ kvs:List (κ×V),(kvs.any λkv=>decide (kv.1=k))=(dR kvs k).isSome
 |[]=>rfl
 |p::r=>by
  rw[wZ];by_cases e:p.1=k
  .simp only[kK e,decide_eq_true e,Bool.true_or,Option.isSome_some]
  .rw[jN e,decide_eq_false e,Bool.false_or];exact rM k r
theorem VT (k j:κ)(y:V):∀ kvs:List (κ×V),dR (kvs.map λkv=>if kv.1=k then(kv.1,y) else kv) j=(dR kvs j).map λx=>if j=k then y else x
 |[]=>rfl
 |p::r=>by
  have ih:=VT k j y r;rw[dC];by_cases h:p.1=k
  .rw[if_pos h];by_cases e:p.1=j
   .rw[kK (p:=(p.1,y)) e,kK e,FM,if_pos (e.symm.trans h)]
   .rw[jN (p:=(p.1,y)) e,jN e,ih]
  .rw[if_neg h];by_cases e:p.1=j
   .rw[kK (p:=p) e,kK e,FM,if_neg (λz=>h (e.trans z))]
   .rw[jN (p:=p) e,jN e,ih]
theorem ZZ (k j:κ)(y:V):∀ kvs:List (κ×V),dR kvs k=ab->dR (kvs++[(k,y)]) j=if j=k then aa y else dR kvs j
 |[],_=>by
  by_cases e:k=j
  .rw[if_pos e.symm];exact kK (p:=(k,y)) e
  .rw[if_neg (λz=>e z.symm)];exact jN (p:=(k,y)) e
 |p::r,hn=>by
  rw[GA];have hk:¬ p.1=k:=λz=>by rw[kK z] at hn;cases hn
  rw[jN hk] at hn;have ih:=ZZ k j y r hn;by_cases e:p.1=j
  .rw[kK e,kK e,if_neg (λz=>hk (e.trans z))]
  .rw[jN e,jN e,ih]
theorem l6 (kvs:List (κ×V))(k j:κ)(y:V):dR (putK kvs k y) j=if j=k then aa y else dR kvs j:=by
 unfold putK;by_cases a:(kvs.any λkv=>decide (kv.1=k))=ae
 .rw[if_pos a,VT];rw[rM] at a;by_cases e:j=k
  .obtain⟨x,hx⟩:=wQ.1 a
   grind
  .rw[if_neg e];cases dR kvs j with
   |none=>rfl
   |some x=>rw[FM,if_neg e]
 .rw[if_neg a];refine ZZ k j y kvs ?_;rw[rM] at a;cases q:dR kvs k with
  |none=>rfl
  |some x=>rw[q] at a;exact(a rfl).elim
theorem yW (kvs:List (κ×V))(k:κ)(v:V):(putK kvs k v).length<=kvs.length+1:=by
 unfold putK
 grind
theorem Auy.isSome_eq {o:Option V}{u:Option aD}(r:Auy o u):o.isSome=u.isSome:=by
 cases o with
 |none=>cases u with
  |none=>rfl
  |some _=>exact(show False from r).elim
 |some _=>cases u with
  |none=>exact(show False from r).elim
  |some _=>rfl
theorem Auy.getD {o:Option V}{u:Option aD}{d:V}{d':aD}(r:Auy o u)(rd:RelV d d'):RelV (o.getD d) (u.getD d'):=by
 cases o with
 |none=>cases u with
  |none=>exact rd
  |some _=>exact(show False from r).elim
 |some _=>cases u with
  |none=>exact(show False from r).elim
  |some _=>exact r
theorem KV.val {kvs:List (κ×V)}{vs:List (κ×aD)}(r:KV kvs vs)(k:κ):Auy (dR kvs k) (wH vs k):=by
 unfold KV at r;induction r with
 |nil=>exact oU
 |@cons p q ps qs h t ih=>
  obtain⟨h1,h2⟩:=h;by_cases e:p.1=k
  .have e':q.1=k:=h1.symm.trans e;have b:wH (q::qs) k=aa q.2:=by simp[wH,gK,e']
   rw[kK e,b];exact h2
  .have e':¬ q.1=k:=λz=>e (h1.trans z)
   have b:wH (q::qs) k=wH qs k:=by simp[wH,gK,e']
   rw[jN e,b];exact ih
theorem KV.any {kvs:List (κ×V)}{vs:List (κ×aD)}(r:KV kvs vs)(k:κ):(kvs.any λkv=>decide (kv.1=k))=vs.any λkv=>decide (kv.1=k):=by
 unfold KV at r;induction r with
 |nil=>rfl
 |cons h t ih=>rw[wZ,wZ,ih,h.1]
theorem KV.repl {kvs:List (κ×V)}{vs:List (κ×aD)}(r:KV kvs vs)(k:κ){y:V}(ry:RelV y u) :
  KV (kvs.map λkv=>if kv.1=k then(kv.1,y) else kv) (vs.map λkv=>if kv.1=k then(kv.1,u) else kv):=by
 unfold KV at r ⊢;induction r with
 |nil=>exact .nil
 |@cons p q ps qs h t ih=>
  rw[dC,dC];refine .cons ?_ ih
  grind
theorem KV.put {kvs:List (κ×V)}{vs:List (κ×aD)}(r:KV kvs vs)(k:κ){y:V}(ry:RelV y u):KV (putK kvs k y) (rT vs k u):=by
 unfold putK rT;rw[r.any k];by_cases e:(vs.any λkv=>decide (kv.1=k))=ae
 .rw[if_pos e,if_pos e];exact r.repl k ry
 .rw[if_neg e,if_neg e];exact Paired.snoc r ⟨rfl,ry⟩
theorem KV.length {kvs:List (κ×V)}{vs:List (κ×aD)}(r:KV kvs vs):kvs.length=vs.length:=jX r
end
theorem rA {P:bN}{w:bA}{k:aI}(r:RelV (kV k) u):(dP P w).is k u=ae:=by
 cases k with
 |inl i=>obtain⟨t,e⟩:=(show ∃ t,u=uD i t from r);subst e;exact yV P w i t
 |inr x=>obtain⟨t,e⟩:=(show ∃ t,u=uC x t from r);subst e;exact zH P w x t
abbrev KT (H:Hp):List (List aA×V)->List (List aA×aC×aD)->Prop:=cQ λp q=>p.1=q.1/\Arp H p.1 q.2.1/\RelV p.2 q.2.2
theorem KT.val {H:Hp}{kvs:List (List aA×V)}(r:KT H kvs xs)(k:List aA):Auy (dR kvs k) ((oR xs k).map (·.2)):=by
 induction r with
 |nil=>exact oU
 |@cons p q ps qs h t ih=>
  obtain⟨h1,_,h2⟩:=h;by_cases e:p.1=k
  .have e':q.1=k:=h1.symm.trans e;have b:oR (q::qs) k=aa q.2:=by simp[oR,gK,e']
   rw[kK e,b];exact h2
  .have e':¬ q.1=k:=λz=>e (h1.trans z)
   have b:oR (q::qs) k=oR qs k:=by simp[oR,gK,e']
   rw[jN e,b];exact ih
theorem KT.repl {H:Hp}{kvs:List (List aA×V)}(r:KT H kvs xs)(k:List aA){y:V}(ry:RelV y u) :
  KT H (kvs.map λkv=>if kv.1=k then(kv.1,y) else kv) (xs.map (putAt k u)):=by
 induction r with
 |nil=>exact .nil
 |@cons p q ps qs h t ih=>
  rw[dC,dC];refine .cons ?_ ih;obtain⟨h1,h2,h3⟩:=h;unfold putAt
  grind
theorem KT.put {H:Hp}{kvs:List (List aA×V)}(r:KT H kvs xs)(k:List aA){y:V}(hb:Arp H k b)(ry:RelV y u) :
  KT H (putK kvs k y) (qB xs k b u):=by
 have e:(kvs.any λkv=>decide (kv.1=k))=(oR xs k).isSome:=by
  rw[rM,(r.val k).isSome_eq,Il]
 unfold putK qB;rw[e];by_cases q:(oR xs k).isSome=ae
 .rw[if_pos q,if_pos q];exact r.repl k ry
 .rw[if_neg q,if_neg q];exact Paired.snoc r ⟨rfl,hb,ry⟩
theorem KT.keeps {H H':Hp}{kvs:List (List aA×V)}(r:KT H kvs xs)(ht:∀ b ys,H b=aa (.tup ys)->H' b=aa (.tup ys)):KT H' kvs xs:=
 Paired.mapP r λ_ _ z=>⟨z.1,z.2.1.keep ht,z.2.2⟩
section
variable {P:bN}{w:bA}{H:Hp}
theorem RI {u:HO}(ok:HOk P w H h)(e:Rd H a u):Acn P w H h a u:=e.ok ok
theorem EO{kvs:List (aI×V)}(ok:HOk P w H h)(e:Rd H a (.dK ep kvs)):kvs.length<=sizeLine/\(a==jB)=af/\∃ vs,KV kvs vs/\h.DictAt (dP P w) a vs ep:=
 show Acn P w H h a (.dK ep kvs) from RI ok e
theorem pG{kvs:List (aI×V)}(ok:HOk P w H h)(e:Rd H a (.dK ep kvs)):kvs.length<=sizeLine/\(a==jB)=af/\∃ vs,KV kvs vs/\h.DictOf (dP P w) a vs:=
 let ⟨z,y,vs,r,d⟩:=EO ok e;⟨z,y,vs,r,d.dictOf⟩
theorem rB{kvs:List (aI×V)}(ok:HOk P w H h)(e:H a=aa (.dK ep kvs)):kvs.length<=sizeLine/\(a==jB)=af/\∃ vs,KV kvs vs/\h.DictOf (dP P w) a vs:=pG ok (.inl e)
theorem zI {P:bN}{w:bA}(hu:A.units+40<cLine):(jO P w).room A.in1:=by
 show A.in1.units+20<cLine
 grind
mutual
theorem YX (ok:HOk P w H h):∀ (d:aA) {v:V} {u:aD},Aj6 H d v->RelV v u->∃ as,kR h u d as
 |.int i,v,u,k,r=>by
  have e:v=.int i:=by simpa [Aj6] using k
  subst e;obtain⟨t,rfl⟩:=r;exact⟨_,.int i t⟩
 |.str x,v,u,k,r=>by
  have e:v=.str x:=by simpa [Aj6] using k
  subst e;obtain⟨t,rfl⟩:=r;exact⟨_,.str x t⟩
 |.tuple ds,v,u,k,r=>by
  simp only[Aj6] at k;obtain⟨a,xs,rfl,e,ks⟩:=k;cases r;obtain⟨_,its,rv,⟨o,h1,h2,n,h3⟩,_⟩:=(show Acn P w H h a (.tup xs) from ok a _ e)
  obtain⟨as,ra⟩:=Aa ok ds ks rv;exact⟨as,.tuple h1 h2 h3 (by simpa using ra)⟩
 |.none,v,u,k,r=>by simp[Aj6] at k
 |.bool _,v,u,k,r=>by simp[Aj6] at k
 |.list _,v,u,k,r=>by simp[Aj6] at k
 |.dict _,v,u,k,r=>by simp[Aj6] at k
theorem Aa (ok:HOk P w H h):∀ (ds:List aA) {vs:List V} {us:List aD},Ags H ds vs->Vals vs us->∃ as,lW h us ds as
 |[],vs,us,k,r=>by
  have e:vs=[]:=by simpa [Ags] using k
  subst e;cases r;exact⟨_,.nil⟩
 |d::ds,vs,us,k,r=>by
  simp only[Ags] at k;obtain⟨x,rr,rfl,k1,k2⟩:=k;cases r with
  |cons r1 r2=>
   obtain⟨as,ra⟩:=YX ok d k1 r1;obtain⟨bs,rb⟩:=Aa ok ds k2 r2;exact⟨_,.cons ra rb⟩
end
theorem key_of(ok:HOk P w H h)(e:Arp H ks a):(jO P w).is h ks a:=by
 obtain⟨k1,k2,xs,e,fw⟩:=e;refine⟨k1,k2,?_⟩;exact YX ok (.tuple ks) (v:=.ref a) (u:=.ref a) (by simp only[Aj6];exact⟨a,xs,rfl,e,fw⟩) rfl
theorem sS {kvs:List (List aA×V)}(ok:HOk P w H h)(e:∃ ep,Rd H a (.dT ep kvs)):kvs.length<=sizeLine/\(a==jB)=af /\
  ∃ xs,KT H kvs xs/\h.DictOfH (jO P w) a xs:=by
 obtain⟨ep,e⟩:=e;obtain⟨z,y,xs,r,o,es,h1,h2,h3,h4,h5⟩:=(show Acn P w H h a (.dT ep kvs) from RI ok e)
 refine⟨z,y,xs,r,o,es,ep,h1,h2,h3,h4,λx hx=>?_,h5⟩
 have all:∀ {l:List (List aA×V)} {m:List (List aA×aC×aD)},KT H l m->∀ x∈m,(jO P w).is h x.1 x.2.1:=by
  intro l m q;induction q with
  |nil=>intro x hx;exact nomatch hx
  |@cons p q ps qs hq t ih=>
   intro x hx;rcases cX.1 hx with e|hx
   .subst e;exact key_of ok (by rw[<-hq.1];exact hq.2.1)
   .exact ih x hx
 exact all r x hx
theorem Nc{kvs:List (List aA×V)}(ok:HOk P w H h)(e:H a=aa (.dT ep kvs)):kvs.length<=sizeLine/\(a==jB)=af /\
  ∃ xs,KT H kvs xs/\h.DictOfH (jO P w) a xs:=sS ok ⟨ep,.inl e⟩
end
def qP (H:Hp)(a:aC)(y:V)(r:Option V):Prop:=
 (∃ ep kvs k,Rd H a (.dK ep kvs)/\y=kV k/\r=dR kvs k)\/∃ kvs k b,(∃ ep,Rd H a (.dT ep kvs))/\y=.ref b/\Arp H k b/\r=dR kvs k
def QX (H:Hp)(a:aC)(y v:V)(H':Nat->Hp):Prop:=
 (∃ ep kvs k,H a=aa (.dK ep kvs)/\y=kV k/\kvs.length<sizeLine/\H'=λn=>upd H a (.dK n (putK kvs k v))) \/
 ∃ kvs k b,(∃ ep,H a=aa (.dT ep kvs))/\y=.ref b/\Arp H k b/\kvs.length<sizeLine/\H'=λn=>upd H a (.dT n (putK kvs k v))
section
variable {X:Cx}{Z:St}{H:Hp}{y v:V}{r:aD}{o:Option V}
theorem Inv.big (I:Inv X ac Z H s):jB<s.heap.objs.size:=by
 have h:jC<s.heap.objs.size:=(I.mod.glob.keeps I.bk).lt;exact Nat.lt_trans nofun h
theorem G1(hu:A.units+40<cLine)(I:Inv X ac Z H s)(g:qP H a y (aa v))(ry:RelV y u)(h:∀ w' s',Inv X ac Z H s'->RelV v w'->Q w' s') :
  aM (aP X.prog X.w) A (qC (.ref a) u) Q E s:=by
 rcases g with⟨ep,kvs,k,e,ey,l⟩|⟨kvs,k,b,e,ey,eb,l⟩
 .subst ey;obtain⟨z,hd,vs,cc,dd⟩:=pG I.hok e;obtain⟨w',hw,ic⟩:=Auy.some_of (v:=v) (o:=wH vs k) (by rw[l];exact cc.val k)
  exact wpAny_getItem_of (rA ry) dd.mapOf hw (h w' _ (I.tok _) ic)
 .subst ey;cases(show u=eI b from ry)
  obtain⟨z,hd,xs,cc,dd⟩:=sS I.hok e;obtain⟨w',hw,ic⟩:=Auy.some_of (v:=v) (o:=(oR xs k).map (·.2)) (by rw[l];exact cc.val k)
  obtain⟨p,hp,P9⟩:=jF.1 hw;refine wpAny_getItem_heap (zI hu) (key_of I.hok eb) dd hp ?_;rw[P9];exact h w' _ (I.tok _) ic
theorem Km(hu:A.units+40<cLine)(I:Inv X ac Z H s)(g:qP H a y o)(ry:RelV y u)(h:∀ s',Inv X ac Z H s'->Q (.bool o.isSome) s') :
  aM (aP X.prog X.w) A (fZ .In u (.ref a)) Q E s:=by
 rcases g with⟨ep,kvs,k,e,ey,l⟩|⟨kvs,k,b,e,ey,eb,l⟩
 .subst ey;obtain⟨z,hd,vs,cc,dd⟩:=pG I.hok e;refine wpAny_in_of (rA ry) hd dd.mapOf ?_;rw[<-(cc.val k).isSome_eq,<-l];exact h _ (I.tok _)
 .subst ey;cases(show u=eI b from ry)
  obtain⟨z,hd,xs,cc,dd⟩:=sS I.hok e;refine wpAny_in_heap (zI hu) (key_of I.hok eb) hd dd ?_;have q:=(cc.val k).isSome_eq;rw[Il] at q;rw[<-q,<-l];exact h _ (I.tok _)
theorem Rr(hu:A.units+40<cLine)(I:Inv X ac Z H s)(g:qP H a y o)(ry:RelV y u)(h:∀ s',Inv X ac Z H s'->Q (.bool (!o.isSome)) s') :
  aM (aP X.prog X.w) A (fZ .NotIn u (.ref a)) Q E s:=by
 rcases g with⟨ep,kvs,k,e,ey,l⟩|⟨kvs,k,b,e,ey,eb,l⟩
 .subst ey;obtain⟨z,hd,vs,cc,dd⟩:=pG I.hok e;refine wpAny_notIn_of (rA ry) hd dd.mapOf ?_;rw[<-(cc.val k).isSome_eq,<-l];exact h _ (I.tok _)
 .subst ey;cases(show u=eI b from ry)
  obtain⟨z,hd,xs,cc,dd⟩:=sS I.hok e;refine wpAny_notIn_heap (zI hu) (key_of I.hok eb) hd dd ?_;have q:=(cc.val k).isSome_eq;rw[Il] at q;rw[<-q,<-l];exact h _ (I.tok _)
theorem CQ{ob:HO}(I:Inv X ac Z H s)(mu:xC (H a))(hs:mT a s.heap h')(he:∃ q,h'.get? a=aa q)(new:Acn X.prog X.w (upd H a ob) h' a ob) :
  Inv X ac Z (upd H a ob) { s with heap:=h',toks:=t' }:=
 I.write (x:=a) (e:=a) mu (.inl rfl) (λb q hb z=>(hs.2 b hb).trans z) he new
theorem vB {P:bN}{w:bA}{H':Hp}{kvs:List (aI×V)}{vs:List (aI×aD)}(z:kvs.length<=sizeLine)(hd:(a==jB)=af)(cc:KV kvs vs)(dd:h'.DictAt (dP P w) a vs ep) :
  Acn P w H' h' a (.dK ep kvs):=⟨z,hd,vs,cc,dd⟩
theorem C7 {H':Nat->Hp}{Q:Unit->aH->Prop}(hu:A.units+40<cLine)(I:Inv X ac Z H s)(g:QX H a y v H')(ry:RelV y u)(rv:RelV v r)(h:∀ n s',Inv X ac Z (H' n) s'->Q Unit.unit s') :
  aM (aP X.prog X.w) A (setItem (.ref a) u r) Q E s:=by
 rcases g with⟨ep,kvs,k,e,ey,l,eH⟩|⟨kvs,k,b,e,ey,eb,l,eH⟩
 .subst ey eH;obtain⟨z,hd,vs,cc,dd⟩:=rB I.hok e;have hz:vs.length<=sizeLine:=by rw[<-cc.length];exact z
  have hl:(putK kvs k v).length<=sizeLine:=by have:=yW kvs k v;lia
  refine wpAny_setItem_pairs (hsz:=hz) (rA ry) dd λh' ou hs=>?_
  have he:∃ q,h'.get? a=aa q:=let ⟨q,_,_,hq,_⟩:=ou;⟨q,hq⟩;obtain⟨n,da⟩:=ou.dictAt;exact h n _ (CQ I (by rw[e];exact oU) hs he (vB hl hd (cc.put k rv) da))
 .subst ey eH;cases(show u=eI b from ry)
  obtain⟨W5,e⟩:=e;obtain⟨z,hd,xs,cc,dd⟩:=Nc I.hok e;have hz:xs.length<=sizeLine:=by rw[<-jX cc];exact z
  have hl:(putK kvs k v).length<=sizeLine:=by have:=yW kvs k v;lia
  refine wpAny_setItem_heap (hsz:=hz) (zI hu) (key_of I.hok eb) dd λh' ou hs=>?_
  obtain⟨q,es,ep,hq,h2,h3,h4,_,h5⟩:=ou;refine h ep _ ?_;refine CQ I (by rw[e];exact oU) hs ⟨q,hq⟩ ⟨hl,hd,_,(cc.put k eb rv).keeps λc ys ec=>?_,q,es,hq,h2,h3,h4,h5⟩
  rw[cK (Lu ec e (λz=>nomatch z))]
  exact ec
end
section
variable {X:Cx}{Z:St}{H:Hp}{kvs:List (aI×V)}{k:aI}
theorem Ng(I:Inv X ac Z H s)(e:Rd H a (.dK ep kvs))(h:∀ t s',Inv X ac Z H s'->Q (.int kvs.length t) s'):aM (aP X.prog X.w) A (call (.builtin "len") [.ref a]) Q E s:=by
 obtain⟨z,hd,vs,cc,dd⟩:=pG I.hok e;refine call_len_dict hd dd (by rw[<-cc.length];rw[nU] at z;lia) ?_
 rw[<-cc.length];exact h _ _ (I.tok _)
end
def BE (i:aU):Prop:=∀ ov iv,OC i af ov iv=operate [ov,iv] (qC ov iv)
theorem Ub{w:bA}{env:Env}{value cg:aU}{T id:String}
  (hl:tZ (.type T) "__getitem__" = pure (aa (.builtin id))) (hs:BE cg)
  (h:aM (aP prog w) A (bT value env) (λo s₁=>aM (aP prog w) A (bT cg env) (λi s₂=>s₂.TypeIs o T/\aM (aP prog w) A (qC o i) Q E s₂) E s₁) E s) :
  aM (aP prog w) A (bT (.Subscript value cg pos) env) Q E s:=by
 refine Subscript_ (lV h (λo s₁ h₁=>lV h₁ (λi s₂ h₂=>?_) λ_ _ x=>x) λ_ _ x=>x)
 obtain⟨hT,h₂⟩:=h₂;unfold subscriptTail;rw[11];rw[getitemInPython_of_ne hT.not_modules];refine aF (wD hT hl ?_);have fin:aM (aP prog w) A (OC cg af o i) (λr s₃=>aM (aP prog w) A (letTemporaryGo value o r>>=λ_=>pure r) Q E s₃) E s₂:=by
  rw[hs o i];exact wpAny_operating (lV h₂ (λr s₃ h₃=>aF (wpAny_letTemporaryGo (aN h₃))) λ_ _ x=>x)
 first
  |exact aN (aF fin)
  |exact aF (aN (aF fin))
  |exact aF fin
theorem Zn {X:Cx}{Z:St}{H:Hp}{y:V}{o:Option V}(I:Inv X ac Z H s)(g:qP H a y o):s.TypeIs (.ref a) "dict":=by
 rcases g with⟨ep,kvs,k,e,_,_⟩|⟨kvs,k,b,e,_,_,_⟩
 .obtain⟨_,_,vs,_,dd⟩:=pG I.hok e;exact dd.typeIs
 .obtain⟨_,_,xs,_,dd⟩:=sS I.hok e;exact dd.typeIs
def Ma (td ty:TE):TE:=λZ H Q=>td Z H λx H1=>ty Z H1 λy H2=>∃ a v,x=.ref a/\qP H2 a y (aa v)/\Q v H2
def Me (td ty tv:TE):TS:=λD Z H=>tv Z H λv H1=>td Z H1 λx H2=>ty Z H2 λy H3=>∃ a H4,x=.ref a/\QX H3 a y v H4/\∀ n,D.nx Z (H4 n)
section
variable {X:Cx}{o i value:aU}{gg iw:bK}{td ty tv:TE}
theorem JG (hu:X.A.units+40<cLine)(ho:PE X o td)(hi:PE X i ty)(hs:BE i):PE X (.Subscript o i pos) (Ma td ty):=by
 rw[8];refine Ub PySem.F.slot_dict_getitem.lookup hs (bb (ho ac s Z H _ I h) λu s1 ⟨x,H1,I1,rx,q1⟩=>bb (hi ac s1 Z H1 _ I1 q1) λiv s2 gh=>?_)
 obtain⟨y,H2,I2,ry,a,v,ex,g,q2⟩:=gh;subst ex;obtain rfl:u=eI a:=rx;exact⟨Zn I2 g,G1 hu I2 g ry λw' s3 I3 ic=>⟨v,H2,I3,ic,q2⟩⟩
theorem Uh (hu:X.A.units+40<cLine)(ho:PE X o td)(hi:PE X i ty)(hv:PE X value tv)(hs:kP value (aa (.Subscript o i gg)) pos.line X.env=pure af) :
  PS X (.Assign [.Subscript o i gg] value pos) (Me td ty tv):=by
 intro ac s Z H D I h;refine wpAny_Assign_Subscript (bb (hv ac s Z H _ I h) λr s1 ⟨v,H1,I1,rv,q1⟩=>bb (ho ac s1 Z H1 _ I1 q1) λu s2 ⟨x,H2,I2,rx,q2⟩=>bb (hi ac s2 Z H2 _ I2 q2) λiv s3 ⟨y,H3,I3,ry,a,H4,ex,g,q3⟩=>?_) hs
 subst ex;obtain rfl:u=eI a:=rx;exact C7 hu I3 g ry rv λn s4 I4=>⟨Z,H4 n,I4,q3 n⟩
end
theorem u9 {P:bN}{w:bA}{H:Hp}(h:aQ)(hb:jB<h.objs.size):Acn P w H (h.push { cls:=.type "dict",data:=.dict #[] }) h.objs.size (.dK 0 []):=
 ⟨dW _,beq_eq_false_iff_ne.2 (fL (cH hb)),[],.nil,_,#[],cL _ rfl,⟨rfl,rfl,rfl⟩,rfl,λ_ he=>by simp at he,Pairs.nil,wV⟩
def Qf:TE:=λ_ H Q=>∀ p,H p=ab->Q (.ref p) (upd H p (.dK 0 []))
section
variable {X:Cx}
theorem WG:PE X (.Dict [] [] pos) Qf:=λac s Z H Q I h=>
 wpAny_Dict_empty ⟨.ref s.heap.objs.size,_,I.laid (a:=s.heap.objs.size) (o:=.dK 0 []) (t':=s.toks) (λ_ _ q=>bG _ q) (bB _) (u9 s.heap I.big),rfl,h _ (I.hok.fresh (bB _))⟩
end
def kJ (kvs more:List (aI×V)):List (aI×V):=more.foldl (λaj kv=>putK aj kv.1 kv.2) kvs
theorem KV.merge:∀ {more:List (aI×V)} {rs:List (aI×aD)} {kvs:List (aI×V)} {vs:List (aI×aD)},KV more rs->KV kvs vs->KV (kJ kvs more) (iH vs rs):=by
 intro more rs kvs vs r;unfold KV at r;induction r generalizing kvs vs with
 |nil=>intro q;exact q
 |@cons p q ps qs h t ih=>
  intro r0;have e:KV (putK kvs p.1 p.2) (rT vs q.1 q.2):=by
   have:=r0.put p.1 h.2;rw[<-h.1];exact this
  exact ih e
theorem EE:∀ (more kvs:List (aI×V)),(kJ kvs more).length<=kvs.length+more.length
 |[],kvs=>by show kvs.length<=kvs.length+0;lia
 |p::r,kvs=>by
  have h1:=EE r (putK kvs p.1 p.2);have h2:=yW kvs p.1 p.2;show(kJ (putK kvs p.1 p.2) r).length<=_;rw[fM];lia
structure M2 (X:Cx)(o:aU)(m:aE)(av:bK)(e f:aU)(ay:bK):Prop where
 base:FE o m X.env (bT o X.env)=bT o X.env
 few:((jU ay (bW [e,f] X.env)).all (λx=>!x.1)&&(backToKw ay (keywordEach [] X.env)).all (λx=>x.1.isSome)
  && decide (([e,f]:List aU).length+([]:List Keyword).length+(if ([]:List Keyword).isEmpty then 0 else 1)<30))=ae
 line:(av.endLine==ay.line)=ae
 trees:jU ay (bW [e,f] X.env)=[(af,bT e X.env),(af,bT f X.env)]
def IsD (H:Hp)(a:aC):Prop:=(∃ ep kvs,Rd H a (.dK ep kvs))\/∃ kvs,∃ ep,Rd H a (.dT ep kvs)
theorem Pt {X:Cx}{Z:St}{H:Hp}(I:Inv X ac Z H s)(d:IsD H a) :
  s.TypeIs (.ref a) "dict" /\ (∀ b,eI a=.ref b->∃ ob,s.heap.get? b=aa ob/\ob.dict=ab)/\(a==jB)=af:=by
 rcases d with⟨ep,kvs,e⟩|⟨kvs,e⟩
 .obtain⟨_,hd,vs,_,dd⟩:=pG I.hok e;refine⟨dd.typeIs,λb q=>?_,hd⟩
  cases q;obtain⟨ob,_,_,h1,h2,_⟩:=dd;exact⟨ob,h1,h2.2.1⟩
 .obtain⟨_,hd,xs,_,dd⟩:=sS I.hok e;refine⟨dd.typeIs,λb q=>?_,hd⟩
  cases q;obtain⟨ob,_,_,h1,h2,_⟩:=dd;exact⟨ob,h1,h2.2.1⟩
section
variable {X:Cx}{Z:St}{H:Hp}{y d:V}{r:aD}{o:Option V}
theorem Oe(hu:A.units+40<cLine)(I:Inv X ac Z H s)(g:qP H a y o)(ry:RelV y u)(rd:RelV d r)(h:∀ w' s',Inv X ac Z H s'->RelV (o.getD d) w'->Q w' s') :
  aM (aP X.prog X.w) A (call (.builtin "dict.get") [.ref a,u,r]) Q E s:=by
 rcases g with⟨ep,kvs,k,e,ey,l⟩|⟨kvs,k,b,e,ey,eb,l⟩
 .subst ey;obtain⟨z,hd,vs,cc,dd⟩:=pG I.hok e;refine OL Ic dd.typeIs PySem.F.entry_dict_get (J8 _ _ _) (meets_dict_get_default (dP X.prog X.w) a (rA ry) hd r) ⟨_,dd.mapOf,h _ _ (I.tok _) ?_⟩;rw[l];exact(cc.val k).getD rd
 .subst ey;cases(show u=eI b from ry)
  obtain⟨z,hd,xs,cc,dd⟩:=sS I.hok e;refine OL Ic dd.typeIs PySem.F.entry_dict_get (J8 _ _ _) (meetsH_dict_get_default (jO X.prog X.w) a b hd r) ⟨zI hu,k,xs,key_of I.hok eb,dd,h _ _ (I.tok _) ?_⟩;rw[l];exact(cc.val k).getD rd
end
def Pj (td ty tx:TE):TE:=λZ H Q=>td Z H λx H1=>∃ a,x=.ref a/\IsD H1 a/\ty Z H1 λy H2=>tx Z H2 λz H3=>∃ o,qP H3 a y o/\Q (o.getD z) H3
section
variable {X:Cx}{o f:aU}{av ay:bK}{td ty tx:TE}
theorem m7 (hu:X.A.units+40<cLine)(ho:PE X o td)(he:PE X e ty)(hf:PE X f tx)(m:M2 X o "get" av e f ay):PE X (.Call (.Attribute o "get" av) [e,f] [] ay) (Pj td ty tx):=by
 rw[8];refine wpAny_Call_method m.base m.few m.line FJ Ic PySem.F.type_dict_get (bb (ho ac s Z H _ I h) λu s1 gh=>?_)
 obtain⟨x,H1,I1,rx,a,ex,d,q1⟩:=gh;subst ex;obtain rfl:u=eI a:=rx;obtain⟨t1,t2,_⟩:=Pt I1 d;refine⟨t1,t2,?_⟩;rw[m.trees];refine Calls.callWith_builtin rfl (Calls.evalArgs_plain (PY (bb (he ac s1 Z H1 _ I1 q1) λiv s2 ⟨y,H2,I2,ry,q2⟩=>
  PY (bb (hf ac s2 Z H2 _ I2 q2) λfv s3 ⟨z,H3,I3,rz,ov,g,q3⟩=>Js ?_))))
 exact Oe hu I3 g ry rz λw' s4 I4 ic=>⟨_,H3,I4,ic,q3⟩
end
section
variable {X:Cx}{Z:St}{H:Hp}{kvs:List (aI×V)}
theorem r9(I:Inv X ac Z H s)(e:Rd H a (.dK ep kvs))(h:∀ p n s',H p=ab->Inv X ac Z (upd H p (.dK n kvs)) s'->Q (.ref p) s'):aM (aP X.prog X.w) A (call (.type "dict") [.ref a]) Q E s:=by
 obtain⟨z,hd,vs,cc,dd⟩:=pG I.hok e;refine kt_call_dict hd dd (by rw[<-cc.length];exact z) λh' ou hs=>?_
 obtain⟨n,da⟩:=ou.dictAt;refine h _ n _ (I.hok.fresh (bB _)) (I.laid (a:=s.heap.objs.size) (o:=.dK n kvs) (t':=s.toks) (λb q hq=>?_) (bB _) (vB z (beq_eq_false_iff_ne.2 (fL (cH I.big))) cc da))
 exact(hs.2 b (cH (bI hq))).trans (bG _ hq)
end
end L2
namespace HT
open PySem PyProof.Rows
section
variable {prog:bN}{w:bA}{A:bS}{E:aD->aH->Prop}{s:aH}
theorem Beq {t b:aC}{vs ws:List aD}{Q:aD->aH->Prop}(ht:IsTup s.heap t vs.toArray)(hb:IsTup s.heap b ws.toArray)(hv:vs≠[])
  (h1:ws=[]->Q (.ref t) s) (h2:ws≠[]->Q (.ref s.heap.objs.size) { s with heap:=s.heap.push { cls:=.type "tuple",data:=.seq (vs++ws).toArray } })
  (hsz:vs.length+ws.length<=sizeLine):aM (aP prog w) A (jT .Add (.ref t) (.ref b)) Q E s:=by
 obtain⟨⟨cls,dd,data,sl⟩,ho,hc,n,hd⟩:=id ht;obtain⟨⟨yl,ur,data2,xj⟩,rq,iy,n2,ox⟩:=id hb;simp only at hc hd iy ox;subst hc hd iy ox;have e:vs.toArray++ws.toArray=(vs++ws).toArray:=by simp
 by_cases hw:ws=[]
 .exact OK ⟨_,ho,rfl⟩ ⟨_,rq,rfl⟩ Hm seq_tuple_add Ib Ie (Ig _ _)
   (tuple_addW1 t b vs.toArray ws.toArray n n2 dd ur sl xj (by simpa using hv) (by simp[hw])) ⟨ho,rq,h1 hw⟩
 .refine OK ⟨_,ho,rfl⟩ ⟨_,rq,rfl⟩ Hm seq_tuple_add Ib Ie (Ig _ _)
   (tuple_addW2 t b vs.toArray ws.toArray n n2 dd ur sl xj (by simpa using hv) (by simpa using hw) (by rw[dX,dX];exact hsz)) ⟨ho,rq,?_⟩
  rw[e];exact h2 hw
def sIx (n d:Nat):Option Int->Nat
 |none=>d
 |some v=>if v<0 then(v+(n:Int)).toNat else min v.toNat n
theorem Av5 (n d:Nat):sIx n d ab=d:=rfl
theorem A3l (n d k:Nat):sIx n d (aa (k:Int))=min k n:=by
 show(if (k:Int)<0 then((k:Int)+(n:Int)).toNat else min (k:Int).toNat n)=min k n
 grind
theorem Qo (n d:Nat)(hd:d<=n)(o:Option Int):sIx n d o<=n:=by
 cases o with
 |none=>exact hd
 |some v=>
  show(if v<0 then(v+(n:Int)).toNat else min v.toNat n)<=n
  grind
theorem VB (v:Int)(n d:Nat):(if v<0 then max (v+(n:Int)) 0 else min v (n:Int))=((sIx n d (aa v):Nat):Int):=by
 show(if v<0 then max (v+(n:Int)) 0 else min v (n:Int))=(((if v<0 then(v+(n:Int)).toNat else min v.toNat n):Nat):Int)
 grind
theorem Wu (lo hi:Option Int)(n:Nat):Jw lo hi 1 (n:Int)=(((sIx n 0 lo:Nat):Int),((sIx n n hi:Nat):Int)):=by
 have h1:¬ ((1:Int)<0):=()
 unfold Jw;simp only[h1,if_false];refine Prod.ext ?_ ?_
 .cases lo with
  |none=>rfl
  |some v=>exact VB v n 0
 .cases hi with
  |none=>rfl
  |some v=>exact VB v n n
theorem Xx (i j:Nat):QB (i:Int) (j:Int) 1=j-i:=by
 unfold QB
 grind
theorem Ak {v:aD}{o:Option Int}{Q:Option Int->aH->Prop}(p:qI v o)(h:Q o s):aM (aP prog w) A (Builtin.Slice.slicePartIndex v) Q E s:=by
 cases p with
 |none=>exact slicePart_none h
 |int i t=>exact slicePart_int h
theorem Aft {sl:aC}{vl vu:aD}{lo hi:Option Int}{n:Nat}{Q:Int×Int×Nat->aH->Prop}(hs:s.heap.IsSliceOf sl vl vu .none)(pl:qI vl lo)(pu:qI vu hi)
  (h:Q (((sIx n 0 lo:Nat):Int),1,sIx n n hi-sIx n 0 lo) s):aM (aP prog w) A (Builtin.Slice.sliceApplied (.ref sl) (pure (n:Int))) Q E s:=by
 obtain⟨os,ym,W6,ku⟩:=id hs;unfold Builtin.Slice.sliceApplied Builtin.Slice.sliceFields;refine aF (aF (eK ym ku (x:=vl) rfl (aF (eK ym ku (x:=vu) rfl (aF (eK ym ku (x:=.none) rfl (aN ?_)))))));refine aF (slicePart_none ?_);show aM _ _ (if ((1:Int)==0)=ae then _ else _) _ _ s
 rw[if_neg nofun]
 refine aF (Ak pl (aF (Ak pu (aF (aN ?_)))));show aM _ _ (match Jw lo hi 1 (n:Int) with|(lo,hi)=>pure (lo,(1:Int),QB lo hi 1)) _ _ s
 rw[Wu lo hi n];show aM _ _ (pure (((sIx n 0 lo:Nat):Int),(1:Int),QB ((sIx n 0 lo:Nat):Int) ((sIx n n hi:Nat):Int) 1)) _ _ s;rw[Xx];exact aN h
theorem m6 (xs:Array aD)(i k:Nat):((cG k).filterMap λ(m:Nat)=>xs[((i:Int)+(m:Int)*1).toNat]?).toArray=((xs.toList.drop i).take k).toArray:=by
 have e:(λ(m:Nat)=>xs[((i:Int)+(m:Int)*1).toNat]?)=λm=>xs[i+m]?:=by
  grind
 rw[e];have:=pick_run xs i k;rw[List.filterMap_map] at this;have e2:((λx=>xs[x]?)∘λx=>i+x)=λm=>xs[i+m]?:=rfl
 rw[e2] at this;rw[this]
theorem Ajk {t sl:aC}{ai:Array aD}{vl vu:aD}{lo hi:Option Int}{Q:aD->aH->Prop}(ht:IsTup s.heap t ai)(hs:s.heap.IsSliceOf sl vl vu .none)(pl:qI vl lo)(pu:qI vu hi)
  (hw:¬ (sIx ai.size 0 lo=0/\sIx ai.size ai.size hi=ai.size))
  (h:Q (.ref s.heap.objs.size) { s with heap:=s.heap.push { cls:=.type "tuple",data:=.seq ((ai.toList.drop (sIx ai.size 0 lo)).take (sIx ai.size ai.size hi-sIx ai.size 0 lo)).toArray } })
  (hsz:ai.size<=sizeLine):aM (aP prog w) A (qC (.ref t) (.ref sl)) Q E s:=by
 have kx:sizeOk (.seq ((ai.toList.drop (sIx ai.size 0 lo)).take (sIx ai.size ai.size hi-sIx ai.size 0 lo)).toArray):=by
  show((ai.toList.drop (sIx ai.size 0 lo)).take (sIx ai.size ai.size hi-sIx ai.size 0 lo)).toArray.size<=sizeLine
  grind
 have hj:sIx ai.size ai.size hi<=ai.size:=Qo _ _ (bB _) hi;obtain⟨os,ym,W6,ku⟩:=id hs;have hTs:s.TypeIs (.ref sl) "slice":=⟨os,ym,W6⟩;unfold qC
 try with_reducible refine eP ?_
 first|refine aF (aN ?_)|skip
 refine aF (wpAny_sequenceKey ht.typeIs nofun ?_)
 refine aF (jR (name:=Str.ofString "__getitem__") ht.typeIs Ih
  (fE Ih ht.typeIs entry_tuple_getitem ?_ (args_tuple_getitem _ _)))
 show aM _ _ (Ju (.ref t)>>=_) _ _ s;refine aF (tupleItemsOf_ ht ?_);refine aF (mN hTs ?_);rw[if_pos nofun]
 refine aF (Aft hs pl pu ?_);have js:¬ ((((sIx ai.size 0 lo:Nat):Int)==0&&(1:Int)==1&&(sIx ai.size ai.size hi-sIx ai.size 0 lo)==ai.size)=ae):=by
  grind
 show aM _ _ (if (((sIx ai.size 0 lo:Nat):Int)==0&&(1:Int)==1&&(sIx ai.size ai.size hi-sIx ai.size 0 lo)==ai.size)=ae then _ else _) _ _ s
 rw[if_neg js,m6]
 first
  |exact aF (m:=PZ _) (jQ (aN ⟨_,rfl,aN h⟩) kx)
  |exact aF (m:=PZ _) (jQ (aF (aN (aN ⟨_,rfl,aN h⟩))) kx)
  |exact aF (aF (m:=PZ _) (jQ (aN (aN ⟨_,rfl,aN h⟩)) kx))
  |exact aF (aF (m:=PZ _) (jQ (aN ⟨_,rfl,aN h⟩) kx))
end
end HT
namespace L2
open PySem PySem.Spec PyProof.Rows
variable {xs:List V}{n:Nat}{ac:List (aC×bC)}{Z:St}{H:Hp}{s:aH}{its:List aD}{X:Cx}
abbrev TO:=St->Hp->(Option Int->Hp->Prop)->Prop
def PO (X:Cx)(e:Option aU)(t:TO):Prop:=
 ∀ (ac:List (aC×bC)) (s:aH) (Z:St) (H:Hp) (Q:Option Int->Hp->Prop),Inv X ac Z H s->t Z H Q ->
  aM (aP X.prog X.w) X.A (evalPart e X.env) (λu s'=>∃ o H',Inv X ac Z H' s'/\qI u o/\Q o H') X.xe s
def Ra:TO:=λ_ H Q=>Q ab H
def Lq (t:TE):TO:=λZ H Q=>t Z H λx H1=>∃ i,x=.int i/\Q (aa i) H1
section
variable {e:aU}{te:TE}{lo hi:Option aU}{tl th:TO}{pos p2:bK}
theorem Ua:PO X ab Ra:=by
 rw[8];rw[evalPart_none];exact aN ⟨ab,H,I,.none,h⟩
theorem Tt (h:PE X e te):PO X (aa e) (Lq te):=by
 intro ac s Z H Q I hw;rw[evalPart_some];refine bb (h ac s Z H _ I hw) λu s1 gh=>?_
 obtain⟨x,H1,I1,r1,q1⟩:=gh;obtain⟨i,rfl,q⟩:=q1;obtain⟨t,rfl⟩:=r1;exact⟨aa i,H1,I1,.int i t,q⟩
def SlR (X:Cx)(r:V->Option Int->Option Int->Hp->VK->Prop):Prop:=
 ∀ (ac:List (aC×bC)) (s:aH) (Z:St) (H:Hp) (x:V) (v vl vu:aD) (lo hi:Option Int) (sl:aC) (Q:VK),Inv X ac Z H s->RelV x v->s.heap.IsSliceOf sl vl vu .none->qI vl lo->qI vu hi->r x lo hi H Q ->
  ∃ T id,tZ (.type T) "__getitem__" = pure (aa (.builtin id))/\s.TypeIs v T/\aM (aP X.prog X.w) X.A (qC v (.ref sl)) (EP X ac Z Q) X.xe s
theorem SlR.or {r r':V->Option Int->Option Int->Hp->VK->Prop}(h:SlR X r)(h':SlR X r'):SlR X (λx lo hi H Q=>r x lo hi H Q\/r' x lo hi H Q):=by
 intro ac s Z H x v vl vu lo hi sl Q I rx hs pl pu q;rcases q with q|q
 .exact h ac s Z H x v vl vu lo hi sl Q I rx hs pl pu q
 .exact h' ac s Z H x v vl vu lo hi sl Q I rx hs pl pu q
def tSl (r:V->Option Int->Option Int->Hp->VK->Prop)(te:TE)(tl th:TO):TE:=λZ H Q=>te Z H λx H1=>tl Z H1 λl H2=>th Z H2 λu H3=>r x l u H3 Q
theorem XI {r:V->Option Int->Option Int->Hp->VK->Prop}(hr:SlR X r)(he:PE X e te)(hl:PO X lo tl)(hu:PO X hi th):PE X (.Subscript e (.Slice lo hi ab p2) pos) (tSl r te tl th):=by
 rw[8];refine Subscript_ (bb (he ac s Z H _ I h) λv s1 gh=>?_)
 obtain⟨x,H1,I1,r1,q1⟩:=gh;refine wpAny_Slice (bb (hl ac s1 Z H1 _ I1 q1) λvl s2 ⟨l,H2,I2,pl,q2⟩=>bb (hu ac s2 Z H2 _ I2 q2) λvu s3 gh=>?_)
 obtain⟨u,H3,I3,pu,q3⟩:=gh;rw[evalPart_none];refine aN ?_;have I4:Inv X ac Z H3 { s3 with heap:=s3.heap.push { cls:=.type "slice",data:=.fields #[vl,vu,.none] } }:=I3.kept (t':=s3.toks) λb ob q=>bG _ q
 obtain⟨T,id,hT,ht,hg⟩:=hr ac { s3 with heap:=s3.heap.push { cls:=.type "slice",data:=.fields #[vl,vu,.none] } } Z H3 x v vl vu l u s3.heap.objs.size Q I4 r1 (Heap.IsSliceOf.new ..) pl pu q3;show aM (aP X.prog X.w) X.A (subscriptTail e (.Slice lo hi ab p2) v (.ref s3.heap.objs.size)) (EP X ac Z Q) X.xe { s3 with heap:=s3.heap.push { cls:=.type "slice",data:=.fields #[vl,vu,.none] } };exact tail_any (ops:=[.ref s3.heap.objs.size,v]) ht hT hg (by with_unfolding_all rfl)
def qS (xs:List V)(lo hi:Option Int):List V:=(xs.drop (HT.sIx xs.length 0 lo)).take (HT.sIx xs.length xs.length hi-HT.sIx xs.length 0 lo)
theorem Ca (xs:List V)(lo hi:Option Int):(qS xs lo hi).length<=xs.length:=by
 unfold qS;rw[PC,List.length_drop]
 lia
def Kt (K:aK):V->Option Int->Option Int->Hp->VK->Prop:=λx lo hi H Q=>∃ a xs,x=.ref a/\SqT K H a xs /\
 ¬ (HT.sIx xs.length 0 lo=0/\HT.sIx xs.length xs.length hi=xs.length)/\∀ p,H p=ab->Q (.ref p) (upd H p (.tup (qS xs lo hi)))
theorem Pu:SlR X (Kt X.K):=by
 intro ac s Z H x v vl vu lo hi sl Q I rx hs pl pu h;obtain⟨a,xs,rfl,hx,hw,q⟩:=h;cases rx;obtain⟨its,r,ht,hz⟩:=I.tuple hx;have aw:its.toArray.size=xs.length:=by rw[dX];exact r.length.symm
 refine⟨"tuple",_,Ih.lookup,ht.typeIs,?_⟩;refine HT.Ajk ht hs pl pu (by rw[aw];exact hw) ?_ (by rw[aw];exact hz)
 rw[aw];refine⟨.ref s.heap.objs.size,_,I.laid (t':=s.toks) (o:=.tup (qS xs lo hi)) (λb ob q=>bG _ q) (bB _) ?_,rfl,q _ (I.hok.fresh (bB _))⟩
 exact⟨dG (Ca xs lo hi) hz,_,(r.drop (HT.sIx xs.length 0 lo)).take (HT.sIx xs.length xs.length hi-HT.sIx xs.length 0 lo),A8t.new _ _⟩
def HK (K:aK):R2:=λx y H Q=>∃ a b xs ys,x=.ref a/\y=.ref b/\SqT K H a xs/\SqT K H b ys/\xs≠[]/\xs.length+ys.length<=sizeLine /\
 (ys=[]->Q (.ref a) H)/\(ys≠[]->∀ p,H p=ab->Q (.ref p) (upd H p (.tup (xs++ys))))
theorem Vals.nil_iff{us:List aD}(r:Vals xs us):us=[]↔xs=[]:=by
 cases r with
 |nil=>simp
 |cons _ _=>simp
theorem Az3:OpR X (jT .Add) (HK X.K):=by
 rw[3];obtain⟨a,b,xs,ys,rfl,rfl,ha,hb,hx,hz,q1,q2⟩:=h;cases rx;cases ry;obtain⟨its,r1,p1,_⟩:=I.tuple ha;obtain⟨qj,r2,p2,_⟩:=I.tuple hb;refine HT.Beq p1 p2 (λz=>hx (r1.nil_iff.1 z)) (λz=>⟨.ref a,H,I,rfl,q1 (r2.nil_iff.1 z)⟩) (λz=>?_) (by rw[<-r1.length,<-r2.length];exact hz)
 refine⟨.ref s.heap.objs.size,_,I.laid (t':=s.toks) (o:=.tup (xs++ys)) (λb ob q=>bG _ q) (bB _) ?_,rfl,q2 (λw=>z (r2.nil_iff.2 w)) _ (I.hok.fresh (bB _))⟩
 exact⟨by rw[qH];exact hz,_,r1.append r2,A8t.new _ _⟩
end
noncomputable def gb (n:Nat)(i:Int):Option Nat:=if 0<=i then(if i<n then aa i.toNat else ab) else if -(n:Int)<=i then aa (i+n).toNat else ab
def ij {α:Type}(xs:List α)(i:Int):Option α:=(gb xs.length i).bind λj=>xs[j]?
theorem ID{i:Int}{j:Nat}(h:gb n i=aa j):seqIndex? i n=aa j/\j<n /\ -(n:Int)<=i/\i<n:=by
 unfold gb at h;by_cases h0:0<=i
 .rw[if_pos h0] at h;by_cases h1:i<n
  .rw[if_pos h1] at h;have e:i.toNat=j:=fF h;exact⟨by rw[seqIndex_of h0 h1,e],(),(),h1⟩
  all_goals grind
 .rw[if_neg h0] at h;by_cases h1 : -(n:Int)<=i
  .rw[if_pos h1] at h;have e:(i+n).toNat=j:=fF h;exact⟨by rw[seqIndex_neg () h1,e],(),h1,()⟩
  all_goals grind
theorem IJ {α:Type}{xs:List α}{i:Int}{v:α}(h:ij xs i=aa v):∃ j,seqIndex? i xs.length=aa j/\xs[j]?=aa v/\j<xs.length /\ -(xs.length:Int)<=i/\i<xs.length:=by
 unfold ij at h;cases e:gb xs.length i with
 |none=>rw[e] at h;cases h
 |some j=>
  rw[e] at h;obtain⟨h1,h2,h3,h4⟩:=ID e
  grind
theorem vO {α:Type}{xs:List α}{j:Nat}{v:α}(h:xs[j]?=aa v):ij xs (j:Int)=aa v:=by
 have hj:j<xs.length:=(cJ.1 h).1;have e:gb xs.length (j:Int)=aa j:=by
  unfold gb;rw[if_pos (),if_pos ()];simp
 unfold ij;rw[e];exact h
def IC (b:aU):Prop:=∀ o i,OC b af o i=operate [o,i] (qC o i)
def IxR (X:Cx)(r:R2):Prop:=
 ∀ (value cg:aU) (ac:List (aC×bC)) (s:aH) (Z:St) (H:Hp) (x y:V) (v u:aD) (Q:VK),Inv X ac Z H s->RelV x v->RelV y u->r x y H Q ->
  OC cg af v u=operate [v,u] (qC v u)->aM (aP X.prog X.w) X.A (subscriptTail value cg v u) (EP X ac Z Q) X.xe s
def MtR (X:Cx)(id:String)(r:V->List V->Hp->VK->Prop):Prop:=
 ∀ (ac:List (aC×bC)) (s:aH) (Z:St) (H:Hp) (x:V) (xs:List V) (v:aD) (us:List aD) (Q:VK),Inv X ac Z H s->RelV x v->Vals xs us->r x xs H Q ->
  aM (aP X.prog X.w) X.A (call (.builtin id) (v::us)) (EP X ac Z Q) X.xe s
section
variable {a b:aU}{ta tb:TE}{pos:bK}
theorem IxR.or {r r':R2}(h:IxR X r)(h':IxR X r'):IxR X (λx y H Q=>r x y H Q\/r' x y H Q):=by
 intro value cg ac s Z H x y v u Q I rx ry q hs;rcases q with q|q
 .exact h value cg ac s Z H x y v u Q I rx ry q hs
 .exact h' value cg ac s Z H x y v u Q I rx ry q hs
theorem SA {r:R2}(hr:IxR X r)(ha:PE X a ta)(hb:PE X b tb)(hs:IC b):PE X (.Subscript a b pos) (yc r ta tb):=by
 rw[8];exact Subscript_ (GV ha hb I h λv u s2 x y H2 I2 rx ry q=>hr a b ac s2 Z H2 x y v u Q I2 rx ry q (hs _ _))
def QV (K:aK):R2:=λx y H Q=>∃ p xs i v,x=.ref p/\y=.int i/\SqL K H p xs/\ij xs i=aa v/\Q v H
def QS (K:aK):R2:=λx y H Q=>∃ p xs i v,x=.ref p/\y=.int i/\SqT K H p xs/\ij xs i=aa v/\Q v H
def QJ:R2:=λx y H Q=>∃ z i c,x=.str z/\y=.int i/\z.length<=sizeLine/\ij z.cps.toList i=aa c/\Q (.str ⟨#[c]⟩) H
theorem Bdp:IxR X (QV X.K):=by
 intro value cg ac s Z H x y v u Q I rx ry h hs;obtain⟨p,xs,i,z,rfl,rfl,hq,he,q⟩:=h;cases rx;obtain⟨t,rfl⟩:=ry;obtain⟨its,r,pl,hz⟩:=I.list hq;obtain⟨j,h1,h2,h3,h4,h5⟩:=IJ he;obtain⟨w,ew,ic⟩:=r.get h2;have hl:=r.length;have hn:=rG;have fin:EP X ac Z Q w s:=⟨z,H,I,ic,q⟩;by_cases h0:0<=i
 .have hj:i.toNat=j:=by
   rw[seqIndex_of h0 h5] at h1;exact fF h1
  exact item_listR pl.isList h0 () (by rw[hj];simpa using ew) fin hs
 .have hj:(i+(its.toArray.size:Int)).toNat=j:=by
   rw[seqIndex_neg () h4] at h1
   grind
  exact subscriptTail_builtinR (x:=w) pl.isList.typeIs slot_list_getitem.lookup
   (wpAny_getItem_list_neg (Q:=λr s'=>r=w/\EP X ac Z Q r s') pl.isList () (by rw[dX]<;>lia) () (by rw[hj];simpa using ew) ⟨rfl,fin⟩) hs
theorem Bgp:IxR X (QS X.K):=by
 intro value cg ac s Z H x y v u Q I rx ry h hs;obtain⟨p,xs,i,z,rfl,rfl,hq,he,q⟩:=h;cases rx;obtain⟨t,rfl⟩:=ry;obtain⟨its,r,pl,hz⟩:=I.tuple hq;obtain⟨j,h1,h2,h3,h4,h5⟩:=IJ he;obtain⟨w,ew,ic⟩:=r.get h2;have hl:=r.length;have hn:=rG;have fin:EP X ac Z Q w s:=⟨z,H,I,ic,q⟩;exact subscriptTail_builtinR (x:=w) pl.typeIs OD.lookup
  (getItem_tuple (j:=j) (Q:=λr s'=>r=w/\EP X ac Z Q r s') pl () () (by rw[dX,<-hl];exact h1) (by simpa using ew) ⟨rfl,fin⟩) hs
theorem Qm:IxR X QJ:=by
 intro value cg ac s Z H x y v u Q I rx ry h hs;obtain⟨z,i,c,rfl,rfl,hz,he,q⟩:=h;obtain⟨t,rfl⟩:=rx;obtain⟨t',rfl⟩:=ry;obtain⟨j,h1,h2,h3,h4,h5⟩:=IJ he;have hl:z.cps.toList.length=z.length:=by simp[Str.length]
 rw[hl] at h1 h4 h5;have hn:=rG;exact tail_any (typeIs_str s z t) slot_str_getitem.lookup (getItem_str (c:=c) (by
  have e1:decide (i < -(2^63:Int))=af:=decide_eq_false ()
  have e2:decide (i ≥ 2^63)=af:=decide_eq_false ()
  rw[e1,e2,Bool.or_false]) (by rw[h1];simpa using h2) ⟨.str ⟨#[c]⟩,H,I.tok _,⟨_,rfl⟩,q⟩) hs
def V9 (K:aK):R2:=λx y H Q=>QV K x y H Q\/QS K x y H Q\/QJ x y H Q
theorem TK:IxR X (V9 X.K):=Bdp.or (Bgp.or Qm)
theorem Xy (its:List aD)(n j:Nat)(u:aD):fG (·.setIfInBounds j u) { cls:=.type "list",data:=.seq its.toArray n }={ cls:=.type "list",data:=.seq (its.set j u).toArray n }:=by
 simp[fG]
theorem Inv.lst{p:aC}(I:Inv X ac Z H s)(h:H p=aa (.lst xs)) :
  ∃ (its:List aD) (n:Nat),Vals xs its/\s.heap.get? p=aa { cls:=.type "list",data:=.seq its.toArray n }/\xs.length<=sizeLine:=by
 obtain⟨z,its,n,r,e⟩:=I.hok p _ h;exact⟨its,n,r,e,z⟩
theorem Inv.lstUpd{p:aC}{ys:List V}{its':List aD}{n':Nat}{f:bC->bC}(I:Inv X ac Z H s)(h:H p=aa (.lst xs))
  (ho:s.heap.get? p=aa { cls:=.type "list",data:=.seq its.toArray n }) (hf:f { cls:=.type "list",data:=.seq its.toArray n }={ cls:=.type "list",data:=.seq its'.toArray n' }) (r:Vals ys its') (hz:ys.length<=sizeLine) (t:Nat) :
  Inv X ac Z (upd H p (.lst ys)) { s with heap:=s.heap.update p f,toks:=t }:=by
 have e:(s.heap.update p f).get? p=aa { cls:=.type "list",data:=.seq its'.toArray n' }:=by
  rw[sA f ho (by rw[hf]<;>rfl),hf]
 refine I.write (x:=p) (e:=p) (by rw[h];trivial) (.inl rfl) (λb u hb q=>(qL _ _ (fL hb)).trans q) ⟨_,e⟩ ?_
 exact⟨hz,its',n',r,e⟩
def Lm:V->V->V->Hp->(Hp->Prop)->Prop:=λo i v H Q=>∃ p xs k j,o=.ref p/\i=.int k/\H p=aa (.lst xs)/\gb xs.length k=aa j/\Q (upd H p (.lst (xs.set j v)))
theorem set_list:QH X Lm:=by
 intro ac s Z H o i v ov iv u Q I ro ri rv h;obtain⟨p,xs,k,j,rfl,rfl,hp,hj,q⟩:=h;cases ro;obtain⟨t,rfl⟩:=ri;obtain⟨its,n,r,ho,hz⟩:=I.lst hp;obtain⟨h1,h2,h3,h4⟩:=ID hj;have hl:=r.length;have hn:=rG;have I':Inv X ac Z (upd H p (.lst (xs.set j v))) { s with heap:=s.heap.update p (fG (·.setIfInBounds j u)) }:=
  I.lstUpd hp ho (Xy its n j u) (r.set rv j) (by rw[uH];exact hz) s.toks
 by_cases h0:0<=k
 .have hk:k.toNat=j:=by
   rw[seqIndex_of h0 h4] at h1;exact fF h1
  exact PySem.W.ki_setAt ho h0 () (by rw[dX,<-hl];exact h4) (by rw[hk];exact⟨_,I',q⟩)
 .have hk:(k+(its.toArray.size:Int)).toNat=j:=by
   rw[seqIndex_neg () h3] at h1
   grind
  exact PySem.W.ki_setBack ho () (by rw[dX,<-hl];exact h3) () (by rw[hk];exact⟨_,I',q⟩)
theorem Zq (lo hi:Option Int)(n:Nat):(wI lo hi ab n).1=((HT.sIx n 0 lo:Nat):Int)/\(wI lo hi ab n).2.1=((HT.sIx n n hi:Nat):Int)/\(wI lo hi ab n).2.2=1:=by
 refine⟨?_,?_,rfl⟩
 .cases lo with
  |none=>simp[wI,HT.sIx]
  |some i=>
   simp only[wI,HT.sIx,Option.getD_none,show(1:Int) > 0 by decide,if_true]
   grind
 .cases hi with
  |none=>simp[wI,HT.sIx]
  |some i=>
   simp only[wI,HT.sIx,Option.getD_none,show(1:Int) > 0 by decide,if_true]
   grind
theorem b7 (its:List aD)(lo hi:Option Int):slicePick its.toArray lo hi ab=((its.drop (HT.sIx its.length 0 lo)).take (HT.sIx its.length its.length hi-HT.sIx its.length 0 lo)).toArray:=by
 obtain⟨h1,h2,h3⟩:=Zq lo hi its.toArray.size;unfold slicePick;rw[h1,h2,h3];simp only[sliceRange_one,pick_run,dX]<;>rfl
def Ky (K:aK):V->Option Int->Option Int->Hp->VK->Prop:=λx lo hi H Q=>∃ a xs,x=.ref a/\SqL K H a xs/\∀ p,H p=ab->Q (.ref p) (upd H p (.lst (qS xs lo hi)))
theorem Sh:SlR X (Ky X.K):=by
 intro ac s Z H x v vl vu lo hi sl Q I rx hs pl pu h;obtain⟨a,xs,rfl,hx,q⟩:=h;cases rx;obtain⟨its,r,ht,hz⟩:=I.list hx;have aw:=r.length;refine⟨"list",_,slot_list_getitem.lookup,ht.isList.typeIs,?_⟩;refine wpAny_getItem_list_slice ht.isList hs pl pu .none (by simp) ?_ (by rw[dX]<;>lia)
 rw[b7,<-aw];refine⟨.ref s.heap.objs.size,_,I.laid (t':=s.toks) (o:=.lst (qS xs lo hi)) (λb ob q=>bG _ q) (bB _) ?_,rfl,q _ (I.hok.fresh (bB _))⟩
 exact⟨dG (Ca xs lo hi) hz,_,0,(r.drop (HT.sIx xs.length 0 lo)).take (HT.sIx xs.length xs.length hi-HT.sIx xs.length 0 lo),cL _ rfl⟩
theorem Zv:OpR X (fZ .NotIn) (λx y H Q=>∃ i j,x=.str i/\y=.str j/\Q (.bl (!(!(QA j i 0 j.length 1).isEmpty))) H):=by
 rw[3];obtain⟨i,j,rfl,rfl,q⟩:=h;obtain⟨t,rfl⟩:=rx;obtain⟨t',rfl⟩:=ry;exact notIn_str ⟨.bl _,H,I,rfl,q⟩
theorem Arc:Ac1 X (.builtin "len") (λxs H Q=>∃ p ys,xs=[.ref p]/\(SqL X.K H p ys\/SqT X.K H p ys)/\Q (.int ys.length) H):=by
 rw[5];obtain⟨p,ys,rfl,hq,q⟩:=h;obtain⟨u,rfl,rx⟩:=vals1 r;cases rx;have hn:=rG;rcases hq with hq|hq
 .obtain⟨its,r',pl,hz⟩:=I.list hq;have aw:=r'.length;exact Calls.call_len_list pl.isList (by simp only[dX]<;>lia) ⟨.int ys.length,H,I.tok _,⟨s.toks+1,by rw[dX,aw]⟩,q⟩
 .obtain⟨its,r',pl,hz⟩:=I.tuple hq;have aw:=r'.length;exact len_tuple pl (by simp only[dX]<;>lia) ⟨.int ys.length,H,I.tok _,⟨s.toks+1,by rw[dX,aw]⟩,q⟩
theorem Aqo:Ac1 X (.builtin "len") (λxs H Q=>∃ z,xs=[.str z]/\z.length<=sizeLine/\Q (.int z.length) H):=by
 rw[5];obtain⟨z,rfl,hz,q⟩:=h;obtain⟨u,rfl,t,rfl⟩:=vals1 r;have hn:=rG;exact len_str () ⟨.int z.length,H,I.tok _,⟨_,rfl⟩,q⟩
theorem Ac1.or {f:aD}{r r':List V->Hp->VK->Prop}(h:Ac1 X f r)(h':Ac1 X f r'):Ac1 X f (λxs H Q=>r xs H Q\/r' xs H Q):=by
 intro ac s Z H xs us Q I rs q;rcases q with q|q
 .exact h ac s Z H xs us Q I rs q
 .exact h' ac s Z H xs us Q I rs q
theorem Aql:Ac1 X (.type "list") (λxs H Q=>∃ p ys,xs=[.ref p]/\(SqL X.K H p ys\/SqT X.K H p ys)/\∀ l,H l=ab->Q (.ref l) (upd H l (.lst ys))):=by
 rw[5];obtain⟨p,ys,rfl,hq,q⟩:=h;obtain⟨u,rfl,rx⟩:=vals1 r;cases rx;have fin:∀ (its:List aD),Vals ys its->ys.length<=sizeLine->∀ (h':aQ) (c':Nat),(∀ b o',s.heap.get? b=aa o'->h'.get? b=aa o') ->
   h'.get? s.heap.objs.size=aa { cls:=.type "list",dict:=ab,data:=.seq its.toArray c',slots:=#[] }->EP X ac Z Q (.ref s.heap.objs.size) { s with heap:=h' }:=λits r' hz h' c' kp e=>
  ⟨.ref s.heap.objs.size,_,I.laid (t':=s.toks) kp (bB _) (show Acn X.prog X.w _ h' _ (.lst ys) from⟨hz,its,c',r',e⟩),rfl,q _ (I.hok.fresh (bB _))⟩
 rcases hq with hq|hq
 .obtain⟨its,r',pl,hz⟩:=I.list hq;have aw:=r'.length;obtain⟨o,ho,hc,n,hd⟩:=pl.isList;exact call_list_seq p (.inl rfl) ho hc hd (λh' c' kp e=>fin its r' hz h' c' kp e) (by simp only[dX]<;>lia)
 .obtain⟨its,r',pl,hz⟩:=I.tuple hq;have aw:=r'.length;obtain⟨o,ho,hc,n,hd⟩:=pl;exact call_list_seq p (.inr rfl) ho hc hd (λh' c' kp e=>fin its r' hz h' c' kp e) (by simp only[dX]<;>lia)
theorem c8:Ac1 X (.type "tuple") (λxs H Q=>∃ p ys,xs=[.ref p]/\((SqL X.K H p ys/\∀ l,H l=ab->Q (.ref l) (upd H l (.tup ys)))\/(SqT X.K H p ys/\Q (.ref p) H))):=by
 rw[5];obtain⟨p,ys,rfl,h⟩:=h;obtain⟨u,rfl,rx⟩:=vals1 r;cases rx;rcases h with⟨hq,q⟩|⟨hq,q⟩
 .obtain⟨its,r',pl,hz⟩:=I.list hq;have aw:=r'.length;refine call_tuple_list pl.isList (λh' kp=>?_) (by simp only[dX]<;>lia)
  have I1:Inv X ac Z H { s with heap:=h' }:=I.kept (t':=s.toks) kp;have I2:Inv X ac Z (upd H h'.objs.size (.tup ys)) { s with heap:=h'.push { cls:=.type "tuple",data:=.seq its.toArray } }:=
   I1.laid (t':=s.toks) (λb o e=>bG _ e) (bB _) (show Acn X.prog X.w _ _ _ (.tup ys) from⟨hz,its,r',A8t.new _ _⟩)
  exact⟨.ref h'.objs.size,_,I2,rfl,q _ (I1.hok.fresh (bB _))⟩
 .obtain⟨its,r',pl,hz⟩:=I.tuple hq;exact call_tuple_same pl ⟨.ref p,H,I,rfl,q⟩
def tyV (K:aK)(T:String)(x:V)(H:Hp):Prop:=match x with
 |.str _=>T = "str"
 |.int _=>T = "int"
 |.ref p=>(T = "list" /\ ∃ xs,SqL K H p xs)\/(T = "tuple" /\ ((∃ o,K.lookup p=aa o/\o.cls=.type "tuple" /\ o.dict=ab)\/∃ xs,H p=aa (.tup xs))) \/
   (T = "dict" /\ ((∃ ep kvs,H p=aa (.dK ep kvs))\/∃ kvs,∃ ep,H p=aa (.dT ep kvs)))\/(T = "set" /\ ∃ S n,H p=aa (.set S n))
 |_=>False
theorem Pa{T:String}{x:V}{v:aD}(I:Inv X ac Z H s)(r:RelV x v)(ty:tyV X.K T x H) :
  s.TypeIs v T/\∀ a,v=.ref a->∃ ob,s.heap.get? a=aa ob/\ob.dict=ab:=by
 cases x with
 |str z=>
  obtain⟨t,rfl⟩:=r;cases(show T = "str" from ty)
  exact⟨typeIs_str s z t,λ_ e=>nomatch e⟩
 |int i=>
  obtain⟨t,rfl⟩:=r;cases(show T = "int" from ty)
  exact⟨typeIs_int s i t,λ_ e=>nomatch e⟩
 |ref p=>
  cases r;rcases ty with⟨rfl,xs,hq⟩|⟨rfl,⟨o,hk,hc,hd⟩|⟨xs,hx⟩⟩|⟨rfl,hk⟩|⟨rfl,S,n,hk⟩
  .obtain⟨its,_,pl,_⟩:=I.list hq;refine⟨pl.isList.typeIs,λa e=>?_⟩
   cases e;obtain⟨o,n,e,c,hd,_⟩:=pl;exact⟨o,e,hd⟩
  .refine⟨⟨o,I.kIn p o hk,hc⟩,λa e=>?_⟩
   cases e;exact⟨o,I.kIn _ o hk,hd⟩
  .obtain⟨_,_,_,⟨o,e,c,_⟩,n⟩:=(show Acn X.prog X.w H s.heap p (.tup xs) from I.hok p _ hx)
   refine⟨⟨o,e,c⟩,λa e=>?_⟩
   cases e;exact n
  .have z:∃ o,s.heap.get? p=aa o/\o.ExactDict:=by
    rcases hk with⟨ep,kvs,hk⟩|⟨kvs,ep,hk⟩
    .obtain⟨_,_,_,_,o,_,e,ex,_⟩:=I.hok p _ hk;exact⟨o,e,ex⟩
    .obtain⟨_,_,_,_,o,_,e,ex,_⟩:=I.hok p _ hk;exact⟨o,e,ex⟩
   obtain⟨o,e,ex⟩:=z;refine⟨⟨o,e,ex.1⟩,λa e2=>?_⟩
   cases e2;exact⟨o,e,ex.2.1⟩
  .obtain⟨o,_,_,_,e,ex,_⟩:=I.hok p _ hk;refine⟨⟨o,e,ex.1⟩,λa e2=>?_⟩
   cases e2;exact⟨o,e,ex.2.1⟩
 |_=>exact qM ty
def tBM (K:aK)(T:String)(r:V->List V->Hp->VK->Prop)(to:TE)(t:TA):TE:=λZ H Q=>to Z H λx H1=>tyV K T x H1/\t Z H1 λxs H2=>r x xs H2 Q
variable {o e:aU}{es:List aU}{to:TE}{t:TA}{name:aE}{av ay:bK}{T id:String}{r:V->List V->Hp->VK->Prop}
structure Bm (X:Cx)(o e:aU)(es:List aU)(name:aE)(av ay:bK):Prop where
 b:FE o name X.env (bT o X.env)=bT o X.env
 f:((jU ay (bW (e::es) X.env)).all (λx=>!x.1)&&(backToKw ay (keywordEach [] X.env)).all (λx=>x.1.isSome)&&decide ((e::es).length+([]:List Keyword).length+(if ([]:List Keyword).isEmpty then 0 else 1)<30))=ae
 l:(av.endLine==ay.line)=ae
 s:bW (e::es) X.env=(af,bT e X.env)::bW es X.env
 p:(jU ay (bW es X.env)).any (·.1)=af
theorem pK (pa:PlainAttrs T)(slot:Slot T name id)(hty:typeOf (.builtin id)=pure (.type "method_descriptor"))(hm:MtR X id r)(ho:PE X o to)(ha:PA X (e::es) t)
  (q5:Bm X o e es name av ay:=by exact⟨rfl,rfl,rfl,rfl,rfl⟩) :
  PE X (.Call (.Attribute o name av) (e::es) [] ay) (tBM X.K T r to t):=by
 rw[8];refine wpAny_Call_method_late q5.b q5.f q5.l rfl (bb (ho ac s Z H _ I h) λv s1 gh=>?_)
 obtain⟨x,H1,I1,r1,ty,q1⟩:=gh;obtain⟨h1,h2⟩:=Pa I1 r1 ty;refine⟨T,id,pa,slot,hty,h1,h2,?_⟩;have hA:=ha ay ac s1 Z H1 _ I1 q1;rw[q5.s] at hA ⊢;refine Calls.callWith_builtin (by show(af||(jU ay (bW es X.env)).any (·.1))=af;rw[q5.p]<;>rfl) (Calls.evalArgs_plain ?_)
 exact bb hA λus s2 ⟨vs,H2,I2,r2,q2⟩=>hm ac s2 Z H2 x vs v us Q I2 r1 r2 q2
end
def J' (X:Cx)(id:String)(r:V->List V->Hp->VK->Prop):Prop:=
 ∀ (ac:List (aC×bC)) (s:aH) (Z:St) (H:Hp) (x:V) (xs:List V) (v:aD) (us:List aD) (Q:VK),Inv X ac Z H s->RelV x v->Vals xs us->r x xs H Q ->
  aM (aP X.prog X.w) X.A (call (.builtin id) (v::us)) (EP X ac Z Q) X.xe s
theorem Vals.one:∀ {x:V} {us:List aD},Vals [x] us->∃ u,us=[u]/\RelV x u:=by
 intro x us h;cases h with
 |cons r t=>cases t;exact⟨_,rfl,r⟩
theorem Vals.eraseIdx:∀ {xs:List V} {us:List aD} (i:Nat),Vals xs us->Vals (xs.eraseIdx i) (us.eraseIdx i)
 |_,_,_,.nil=>.nil
 |_,_,0,.cons _ t=>t
 |_,_,i+1,.cons r t=>.cons r (Vals.eraseIdx i t)
theorem Ac {α:Type}:∀ (l:List α) (i:Nat),(l.eraseIdx i).length<=l.length
 |[],_=>bB _
 |_::_,0=>uE _
 |_::r,i+1=>Nat.succ_le_succ (Ac r i)
section
variable {l b:aC}{ys zs:List V}
theorem Inv.lset {its':List aD}{f:Array aD->Array aD}{t':Nat}(I:Inv X ac Z H s)(hH:H l=aa (.lst xs))
  (e:s.heap.get? l=aa { cls:=.type "list",data:=.seq its.toArray n }) (hf:f its.toArray=its'.toArray) (hv:Vals ys its') (hz:ys.length<=sizeLine) :
  Inv X ac Z (upd H l (.lst ys)) { s with heap:=s.heap.update l (fG f),toks:=t' }:=by
 have q:=PySem.IsL.update e f;rw[hf] at q;refine I.write (x:=l) (e:=l) (by rw[hH];exact trivial) (.inl rfl) (λb' u hb hu=>(qL s.heap (fG f) (fL hb)).trans hu) ⟨_,q⟩ ?_
 exact⟨hz,its',_,hv,q⟩
theorem Inv.lnew{t':Nat}(I:Inv X ac Z H s)(hv:Vals ys its)(hz:ys.length<=sizeLine) :
  Inv X ac Z (upd H s.heap.objs.size (.lst ys)) { s with heap:=s.heap.push { cls:=.type "list",data:=.seq its.toArray },toks:=t' }:=
 I.laid (λ_ _ q=>bG _ q) (bB _) ⟨hz,its,0,hv,cL _ rfl⟩
theorem Inv.fresh (I:Inv X ac Z H s):H s.heap.objs.size=ab:=I.hok.fresh (bB _)
theorem Inv.lstM (I:Inv X ac Z H s)(hH:H l=aa (.lst xs)):xs.length<=sizeLine/\∃ (its:List aD) (n:Nat),Vals xs its/\xs.length=its.length/\s.heap.get? l=aa { cls:=.type "list",data:=.seq its.toArray n }:=by
 obtain⟨z,its,n,r,e⟩:=I.hok l _ hH;exact⟨z,its,n,r,r.length,e⟩
end
def Rl:V->List V->Hp->VK->Prop:=λx vs H Q=>∃ l xs y,x=.ref l/\vs=[y]/\H l=aa (.lst xs)/\xs.length<sizeLine/\Q .non (upd H l (.lst (xs++[y])))
theorem LJ:J' X "list.append" Rl:=by
 intro ac s Z H x vs v us Q I rx rv h;obtain⟨l,xs,y,rfl,rfl,hH,hz,q⟩:=h;cases rx;obtain⟨u,rfl,ru⟩:=rv.one;obtain⟨z,its,n,r,hl,e⟩:=I.lstM hH;refine zZ F.slot_list_append ⟨_,e,rfl⟩ F.entry_list_append (F.args_list_append_2 _ _) (PySem.list_append l its.toArray n u (by rw[dX];lia)) ⟨e,?_⟩
 refine⟨.non,_,I.lset (its':=its++[u]) hH e (by simp) (r.append (.cons ru .nil)) ?_,rfl,q⟩
 grind
def Pk:V->List V->Hp->VK->Prop:=λx vs H Q=>∃ l xs i k y,x=.ref l/\vs=[.int i]/\H l=aa (.lst xs) /\ -(2^63)<=i/\i<2^63/\seqIndex? i xs.length=aa k/\xs[k]?=aa y/\Q y (upd H l (.lst (xs.eraseIdx k)))
theorem Vt:J' X "list.pop" Pk:=by
 intro ac s Z H x vs v us Q I rx rv h;obtain⟨l,xs,i,k,y,rfl,rfl,hH,h1,h2,hk,hy,q⟩:=h;cases rx;obtain⟨u,rfl,ru⟩:=rv.one;obtain⟨t,rfl⟩:=ru;obtain⟨z,its,n,r,hl,e⟩:=I.lstM hH;obtain⟨w,hw,ic⟩:=r.get hy;refine zZ F.slot_list_pop ⟨_,e,rfl⟩ F.entry_list_pop (F.args_list_pop_2 _ _)
  (MeetsSeq.list_pop_at l its.toArray n i t k w (fitsIndex_both h1 h2) (by rw[dX,<-hl];exact hk) (by rw[<-pD];exact hw) (by rw[dX];lia)) ⟨e,?_⟩
 refine⟨y,_,I.lset (its':=its.eraseIdx k) hH e ?_ (r.eraseIdx k) ?_,ic,q⟩
 all_goals grind
end L2
namespace Att
open PySem PySem.W PySem.Calls PyProof.Rows
theorem i6 {P:Params}{h:aQ}:∀ (ns:List Int) (vs:List aD),WellAll P h vs (ns.map WData.int)->IntsAre vs ns:=by
 intro ns;induction ns with
 |nil=>
  intro vs w;rw[List.map_nil] at w;cases w;exact .nil
 |cons n ns ih=>
  intro vs w;rw[dC] at w;cases w with
  |cons a b=>
   cases a;exact .cons _ _ (ih _ b)
theorem Wd {l:OpenLaw}{n:Nat}(hn:l.most=aa n){P:Params}{h:aQ}{args:List WData}{v6:List aD}
  (mn:l.row.toRowW.claim.pre args=ae) (M1:WellAll P h v6 args) :
  ∃ a vs ns,v6=[eI a]/\args=[WData.list (ns.map WData.int)]/\h.get? a=aa { cls:=.type "list",data:=.seq vs.toArray }/\IntsAre vs ns/\ns.length<=n:=by
 have hsh:WShape.hasAll [] args [.list .int]=ae:=(pre_splitW mn).1;have hc:l.pre.holds [] { args:=args }=ae:=(pre_splitW mn).2;obtain⟨d,r,rfl,h1,h2⟩:=hasAllW_cons hsh;obtain rfl:=hasAllW_nil h2;obtain⟨xs,rfl,h3⟩:=hasW_list h1;obtain⟨ns,rfl⟩:=items_int h3;have aw:ns.length<=n:=by
  unfold OpenLaw.pre at hc;have h4:(WTm.not (.lt (.lit (.int (n:Int))) (.len (.arg 0)))).holds [] { args:=[.list (ns.map .int)] }=ae:=by
   have h4:=(holds_andW hc).1;rw[hn] at h4;exact h4
  have h5:=condW_of h4 (w_not (w_lt w_lit (w_len_list (w_arg rfl))))
  grind
 cases M1 with
 |cons w1 w2=>
  cases w2;cases w1 with
  |list ho ca=>exact⟨_,_,ns,rfl,rfl,ho,i6 ns _ ca,aw⟩
theorem z8 (l:OpenLaw)(args:List WData):l.row.toRowW.claim.post args (.bool ae) args=ae:=
 postW_of (r:=l.row.toRowW) (X:=(ae==ae))
  (show WShape.has [] (.bool ae) .bool=ae by first|rfl|decide|simp[WShape.has,WShape.arms,WShape.armsAll])
  (show(WTm.eq .res (.lit (.bool ae))).value [] { args:=args,res:=aa (.bool ae),after:=args }=aa (.bool (ae==ae)) from w_eq_bool (w_res rfl) w_lit) rfl
end Att
namespace L2
open PySem PySem.Spec PyProof.Rows
variable {w:bA}{K:aK}{mg:aE->Option aD}{k:aI}{a f:aC}{fd:mU}{x qual y:aE}{sp:Sp}{X:Cx}{st:eW}{N ps:List aE}{A:bS}{v:V}{fq be c b tg e:aU}{dy es:List aU}{pos px gj p p2:bK}{env:Env}{n i j n0:Nat}{sc:gV}{t:TT}{fp:Nat->List aC}{H' H H1 B' B0 H0:Hp}{ac:List (aC×bC)}{Z:St}{s:aH}{cap:List (Option Nat)}{o:HO}{xs:List V}{ds:List aA}{m d:aA}{Y:List (Option aA)}{g:aA->aA->Option aA}{r:R2}{T:String}{P0:aC->Prop}{kds:List (aA×aA)}{Q:VK}
theorem YW:∀ {vs:List aD} {ns:List Int},IntsAre vs ns->Vals (ns.map V.int) vs
 |_,_,.nil=>.nil
 |_,_,.cons n t h=>.cons ⟨t,rfl⟩ (YW h)
def Only (H:Hp):Prop:=∀ b,H b=ab\/∃ o xs,H b=aa (.frz o (.lst xs))
theorem q8 {P:bN}{mb:aE->Option aD}{CX:rh}{k:Nat}{fa:aC}{s₁:aH}{vs:List aD}{ns:List Int}
  (KX:K.In s₁.heap) (xk:s₁.heap.Ns jC mg) (hb:s₁.heap.Ns builtinsNs mb) (hbb:∀ x:aE,x ≠ "__name__" -> mb x=mO x) (Q0:s₁.heap.NoLimit) (hg:s₁.gens = #[])
  (ha:s₁.heap.get? a=aa { cls:=.type "list",data:=.seq vs.toArray }) (hi:IntsAre vs ns) (hl:ns.length<=sizeLine) (hr:Room k wK)
  (F:∀ base:aQ,K.In base->base.Ns jC mg->FnOk P w K mg base CX k fa fd [x] sp) (yn:∀ (s:aH) (u:aD),BindsTo s fd ⟨[u],[]⟩ [(x,u)])
  (uq:∀ H:Hp,Only H->SqL K H a (ns.map V.int)->sp [.ref a] H (λv _=>v=.bl ae) λ_ _ _=>False)
  (Q1:∀ H e s',CX [] H s₁ (λ_ _ _=>False) e s'->False) :
  iR (aP P w) wK (.call (.ref fa) ⟨[.ref a],[]⟩) (λr s'=>r=.ok (.ret (.bool ae))/\OldK s₁.heap s'.heap/\s'.os=s₁.os/\sC s'.gens) s₁:=by
 have rv:=YW hi;have Q2:=hi.length;have yo:∀ H:Hp,Only H->SqL K H a (ns.map V.int)->HOk P w H s₁.heap->(∀ b,H b≠ab->b=a)->(H a≠ab->K.lookup a=ab) ->
   iR (aP P w) wK (.call (.ref fa) ⟨[.ref a],[]⟩) (λr s'=>r=.ok (.ret (.bool ae))/\OldK s₁.heap s'.heap/\s'.os=s₁.os/\sC s'.gens) s₁:=by
  intro H hO hS hok hA hK;have base_of:∀ {b:aC} {o:bC},s₁.heap.get? b=aa o->H b=ab->(pF s₁.heap H).get? b=aa o:=λe n=>Vc e n
  have yk:∀ {b:aC} {o:bC} {es:Array qN} {ep:Nat},s₁.heap.get? b=aa o->o.data=.dict es ep->H b=ab:=λ{b o es ep} e d=>by
   cases q:H b with
   |none=>rfl
   |some u=>
    have e':b=a:=hA b (by rw[q];simp)
    subst e';rw[ha] at e;cases e;have d':Data.seq vs.toArray _=Data.dict es ep:=d;cases d'
  have M3:∀ {b:aC} {m:aE->Option aD},s₁.heap.Ns b m->(pF s₁.heap H).Ns b m:=λ{b m} ⟨o,es,ep,e,d,r⟩=>⟨o,es,ep,base_of e (yk e d),d,r⟩
  have W7:K.In (pF s₁.heap H):=λb o e=>base_of (KX b o e) (by
   cases q:H b with
   |none=>rfl
   |some u=>
    have e':b=a:=hA b (by rw[q];simp)
    subst e';rw[hK (by rw[q];simp)] at e;cases e)
  have hM:Mod K mg (pF s₁.heap H):=⟨W7,M3 xk,⟨mb,M3 hb,hbb⟩,let ⟨mc,h1,h2⟩:=Q0;⟨mc,M3 h1,h2⟩⟩;have e0:Env0 P w K mg (pF s₁.heap H) wK [] s₁ H:=⟨rfl,hM,λb o e=>Sr e,FQ (A2 _ _),trivial,λb hb=>absurd (show b∈([]:List aC) from hb) (by simp),hok,.of_eq hg⟩
  refine zY ((F _ W7 (M3 xk)).run wK [] s₁ H ⟨[.ref a],[]⟩ [.ref a] [.ref a] _ _ hr e0 (yn s₁ (.ref a)) (.cons rfl .nil) (uq H hO hS)) λr s' h=>?_
  cases r with
  |error e=>exact(Q1 H e s' h).elim
  |ok fl=>
   cases fl with
   |next=>exact qM h
   |brk=>exact qM h
   |cont=>exact qM h
   |ret u=>
    obtain⟨v,H',os,bare,un,tz,r',q⟩:=h;have q':v=.bl ae:=q;subst q';obtain rfl:u=Value.bool ae:=r';refine⟨rfl,OldK.of_keep λb o e=>?_,os,bare⟩
    cases q:H b with
    |none=>exact un.keep b o e q (by intro z;exact absurd (show b∈([]:List aC) from z) (by simp)) (by simp)
    |some u=>
     rcases hO b with z|⟨ob,xs,z⟩
     .rw[q] at z;cases z
     .have z2:=un.frzs b ob _ z;obtain⟨e1,_⟩:=hok b _ z;obtain⟨e2,_⟩:=tz b _ z2;rw[e] at e1;cases e1;exact e2
 cases hk:K.lookup a with
 |some o=>
  have e:=KX a o hk;rw[ha] at e;cases e;refine yo (λ_=>ab) (λ_=>.inl rfl) (.inr ⟨_,vs.toArray,_,hk,rfl,rfl,rfl,by rw[dX,Q2];exact hl,by simpa using rv⟩) (λb u z=>by have z':(ab:Option HO)=aa u:=z;cases z') (λb z=>absurd rfl z) λz=>absurd rfl z
 |none=>
  refine yo (λb=>if b=a then aa (.frz { cls:=.type "list",data:=.seq vs.toArray } (.lst (ns.map V.int))) else ab) (λb=>?_) (.inl (.inr ⟨{ cls:=.type "list",data:=.seq vs.toArray },if_pos rfl⟩)) (λb u z=>?_) (λb z=>?_) λ_=>hk
  .by_cases hb:b=a
   .exact .inr ⟨_,_,if_pos hb⟩
   .exact .inl (if_neg hb)
  .by_cases hb:b=a
   .have z':=(if_pos hb).symm.trans z;cases z';subst hb;exact⟨ha,by rw[cC];exact hl,vs,_,rv,ha⟩
   all_goals grind
  all_goals grind
def xY (s:eW):Arguments:=match s with
 |.FunctionDef _ a _ _ _ _ _ _ _ _=>a
 |_=>{ posonlyargs:=[],args:=[],vararg:=ab,kwonlyargs:=[],kw_defaults:=[],kwarg:=ab,defaults:=[] }
def rH (s:eW):List eW:=match s with
 |.FunctionDef _ _ b _ _ _ _ _ _ _=>b
 |_=>[]
def gG (s:eW):gV:=match s with
 |.FunctionDef _ _ _ _ _ _ sc _ _ _=>sc
 |_=>{ kind:=.function,names:=[],isGenerator:=af,isCoroutine:=af }
abbrev sq:rh:=λ_ _ _ _ _ _=>False
abbrev E0:XK:=λ_ _ _=>False
theorem Ly:Passes sq X E0:=λ_ _ _ _ _ _ _ h=>h.elim
structure Fun (K:aK)(x qual:aE)(st:eW)(f:aC)(fd:mU):Prop where
 ex:∃ (oc:aD) (od:Option aC) (kV im pm:aD) (an:Option aC) (cv ct:aD) (uo:Array (Option aD)),
  fd=wM x qual (xY st) (rH st) (gG st) .none kV im pm an cv ct/\K.lookup f=aa ⟨oc,od,.func fd,uo⟩/\ON K cv qual=ae
 kp:FH K (.ref f)=ae
section
variable {P:bN}{base:aQ}
theorem Fun.ok{k:Nat}(F:Fun K x qual st f fd)(S:FnScope N ps (gG st))(len:∀ vs H Q E,sp vs H Q E->vs.length=ps.length)
  (qh:∀ (cv:aD) (A:bS) (outer:List Env) (s:aH) (H:Hp) (vs:List V) (Q:VK) (E:XK),Room k (A.deeper (envOfC qual (gG st) s.heap.objs.size f cv))->sp vs H Q E ->
   ∃ t,PSs (qW sq P w K mg base N qual (gG st) f cv A outer s H E).nox (rH st) t/\t { nx:=λ_ H'=>Q .non H',rt:=Q } (start N vs) H):FnOk P w K mg base sq (k+1) f fd ps sp:=by
 obtain⟨oc,od,kV,im,pm,an,cv,ct,uo,rfl,lk,qf⟩:=F.ex;refine Lv lk qf S len λA outer s H vs Q E hr uq=>?_
 obtain⟨t,h,q⟩:=qh cv A outer s H vs Q E hr uq;exact⟨t,h.nox,q⟩
theorem Fun.binds(F:Fun K x qual st f fd)
  (h:∀ (kV im pm:aD) (an:Option aC) (cv ct:aD) (us:List aD),us.length=ps.length->bindArgs (wM x qual (xY st) (rH st) (gG st) .none kV im pm an cv ct) ⟨us,[]⟩=pure (ps.zip us)):Binds K fd ps []:=by
 obtain⟨oc,od,kV,im,pm,an,cv,ct,uo,rfl,lk,qf⟩:=F.ex;exact .all (h kV im pm an cv ct)
theorem My{oc:aD}{od an:Option aC}{uo:Array (Option aD)}{kV im pm cv ct:aD}(l:K.lookup f=aa ⟨oc,od,.func (wM x qual (xY st) (rH st) (gG st) .none kV im pm an cv ct),uo⟩)
  (c:ON K cv qual=ae) (k:FH K (.ref f)=ae):Fun K x qual st f (wM x qual (xY st) (rH st) (gG st) .none kV im pm an cv ct):=⟨⟨oc,od,kV,im,pm,an,cv,ct,uo,rfl,l,c⟩,k⟩
end
theorem SC{k:Nat}(hr:Room k A):A.units+40<cLine:=FP (Nat.add_le_add_left (by decide:40<=64) _) hr.units
theorem A9:Ac1 X (.builtin "len") (λxs H Q=>∃ a ep kvs,xs=[V.ref a]/\H a=aa (.dK ep kvs)/\Q (.int kvs.length) H):=by
 rw[5];obtain⟨a,ep,kvs,rfl,ha,q⟩:=h;obtain⟨u,rfl,ru⟩:=vals1 r;cases ru;exact Ng I (.inl ha) λt s' I'=>⟨.int kvs.length,H,I',⟨t,rfl⟩,q⟩
theorem nM {A B:Prop}(h:B):if af=ae then A else B:=by
 rw[if_neg kB];exact h
theorem nP {A B:Prop}(h:A):if ae=ae then A else B:=by
 rw[if_pos rfl];exact h
section
variable {κ:Type}[DecidableEq κ]
theorem Sd {kvs:List (κ×V)}{k:κ}(h:dR kvs k=aa v):k∈kvs.map (·.1):=by
 have q:(kvs.any λkv=>decide (kv.1=k))=ae:=by
  rw[rM,h]
  all_goals rfl
 grind
end
section
variable {prog:bN}{R:oV->aH->Prop}
theorem Yw {gf:aU}{scope:gV}{it aj:aD}(I:Nat->aH->Prop)
  (jp:∀ n s,I n s->aM (aP prog w) A (eY it) (λr s₁=>match r with
   |none=>R (.ok .next) s₁
   | some v=>aM (aP prog w) A (OH gf it v) (λ_ s₂=>aM (aP prog w) A (kQ gf env v) (λ_ s₃=>
     aM (aP prog w) A (forIn dy ae λc r=>if r=ae then do let ok <-isTrue c env (bT c env);pure (AR ok) else pure (AR r)) (λok s₄=>
      if ok=ae then aM (aP prog w) A (bT fq env) (λx s₅=>
       aM (aP prog w) A (call (.builtin "list.append") [aj,x]) (λ_ s₆=>∃ m,m<n/\I m s₆) (λ_ _=>False) s₅) (λ_ _=>False) s₄
      else ∃ m,m<n/\I m s₄) (λ_ _=>False) s₃) (λ_ _=>False) s₂) (λ_ _=>False) s₁) (λ_ _=>False) s)
  (n:Nat) (h:I n s):iR (aP prog w) A (.compLoop (.ListComp fq [⟨gf,be,dy,0⟩] scope pos) 0 it aj env) R s:=by
 refine codeAny_loop rfl I (λn s hI=>?_) n h
 refine wpAny_noted ?_;rw[compTurn_list];refine aF (wpAny_standAt (aF (lV (jp n s hI) (λr s₁ h₁=>?_) λ_ _ h'=>h'.elim)))
 cases r with
 |none=>exact aN h₁
 |some v=>
  refine aF (lV h₁ (λ_ s₂ h₂=>?_) λ_ _ h'=>h'.elim)
  refine aF (lV h₂ (λ_ s₃ h₃=>aF (lV h₃ (λok s₄ h₄=>?_) λ_ _ h'=>h'.elim)) λ_ _ h'=>h'.elim)
  cases ok with
  |false=>exact aN ⟨rfl,h₄⟩
  |true=>
   exact aF (aF (lV h₄ (λx s₅ h₅=>aF (lV h₅ (λ_ s₆ h₆=>aN (aN ⟨rfl,h₆⟩)) λ_ _ h'=>h'.elim)) λ_ _ h'=>h'.elim))
end
theorem cellOf_eq{n:aE}{c:aC}(h:env.cells.lookup n=aa c):cellOf env n=pure c:=by
 unfold cellOf;rw[h]
def eT (env:Env):List (aE×kS)->List (aE×aC)->List (aE×aC)
 |[],cs=>cs
 |(n,k)::r,cs=>eT env r (if (k==mB)=ae then(match env.cells.lookup n with|some c=>(n,c)::cs|none=>cs) else cs)
theorem Do(h:∀ n,(n,mB)∈sc.names->∃ c,env.cells.lookup n=aa c):closureFor sc env=pure (eT env sc.names []):=by
 unfold closureFor;generalize sc.names=l at h;have go:∀ (l:List (aE×kS)) (cs:List (aE×aC)),(∀ n,(n,mB)∈l->∃ c,env.cells.lookup n=aa c) ->
   (forIn l cs (λ(x:aE×kS) (r:List (aE×aC))=>if (x.2==mB)=ae then(do let c <-cellOf env x.1;pure (AR ((x.1,c)::r))) else pure (AR r)):Sem (List (aE×aC)))=pure (eT env l cs):=by
  intro l;induction l with
  |nil=>intro cs _;rfl
  |cons p r ih=>
   intro cs hl;obtain⟨n,k⟩:=p;rw[FX];have hr:∀ n,(n,mB)∈r->∃ c,env.cells.lookup n=aa c:=λn hn=>hl n (bL _ hn)
   cases hk:(k==mB) with
   |true=>
    have ek:k=mB:=by simpa using hk
    subst ek;obtain⟨c,hc⟩:=hl n bE;have e1:eT env ((n,mB)::r) cs=eT env r ((n,c)::cs):=by
     show eT env r (if (mB==mB)=ae then(match env.cells.lookup n with|some c=>(n,c)::cs|none=>cs) else cs)=_
     rw[hc];rfl
    rw[e1];simp only[cellOf_eq hc,hk,if_true];exact ih ((n,c)::cs) hr
   |false=>
    have e1:eT env ((n,k)::r) cs=eT env r cs:=by
     show eT env r (if (k==mB)=ae then(match env.cells.lookup n with|some c=>(n,c)::cs|none=>cs) else cs)=_
     rw[hk];rfl
    grind
 grind
theorem MD:∀ (l:List (aE×kS)) (cs:List (aE×aC)),(∀ x c,cs.lookup x=aa c->env.cells.lookup x=aa c)->∀ x c,(eT env l cs).lookup x=aa c->env.cells.lookup x=aa c
 |[],cs,h,x,c,e=>h x c e
 |(n,k)::r,cs,h,x,c,e=>by
  refine MD r _ ?_ x c e
  grind
theorem Bs{c:aC}(hx:env.cells.lookup x=aa c):∀ (l:List (aE×kS)) (cs:List (aE×aC)),cs.lookup x=aa c->(eT env l cs).lookup x=aa c
 |[],cs,h=>h
 |(n,k)::r,cs,h=>by
  refine Bs hx r _ ?_
  grind
theorem LQ{c:aC}(hx:env.cells.lookup x=aa c):∀ (l:List (aE×kS)) (cs:List (aE×aC)),(x,mB)∈l->(eT env l cs).lookup x=aa c
 |[],cs,h=>by simp at h
 |(n,k)::r,cs,h=>by
  rcases cX.1 h with e|h
  .cases e;refine Bs hx r _ ?_
   grind
  .exact LQ hx r _ h
theorem Cr(x:aE):(wJ sc env).names.lookup x=(sc.names.lookup x).map λk=>if (k==mB&&env.scope.kind==.function&&env.kindOf x==aa .cell)=ae then NameKind.cell else k:=by
 unfold wJ;induction sc.names with
 |nil=>rfl
 |cons p r ih=>
  grind
theorem lookup_mem {α:Type}{v:α}:∀ {l:List (aE×α)},l.lookup x=aa v->(x,v)∈l
 |[],h=>by simp at h
 |(n,k)::r,h=>by
  by_cases hy:(x==n)=ae
  .grind
  .have ut:(x==n)=af:=by simpa using hy
   simp only[List.lookup_cons,ut] at h;exact bL _ (lookup_mem h)
def fW (X:Cx)(N:List aE)(sc:gV)(cl:List (aE×aC))(C:aC)(s₀:aH)(H₀:Hp)(ex:List aC):Cx:=
 { X with N:=N,s₀:=s₀,H₀:=H₀,env:=compEnvC sc cl C X.env,outer:=X.stack,ex:=ex,fn:=λ_=>af,pn:=[],xe:=λ_ _=>False }
structure CompScope (X:Cx)(N:List aE)(cap:List (Option Nat))(sc:gV):Prop where
 kind:sc.kind=.function
 nocell:∀ y∈sc.names,y.2 ≠ .cell
 nm:∀ y∈sc.names,y.2=.local->sc.names.lookup y.1=aa .local
 fre:∀ y∈sc.names,y.2=.free->X.env.scope.names.lookup y.1=aa .cell\/X.env.scope.names.lookup y.1=aa .free
 len:cap.length=N.length
 cap:∀ (i j:Nat),cap[i]?=aa (aa j)->∃ x,N[i]?=aa x/\X.N[j]?=aa x/\sc.names.lookup x=aa .free
def uQ (cap:List (Option Nat))(Z:St):St:=cap.map λo=>o.bind λj=>(Z[j]?).join
def sI (X:Cx)(dy:List aU)(t:TT):Prop:=
 ∀ (ac:List (aC×bC)) (s:aH) (Z:St) (H:Hp) (Q:Bool->Hp->Prop),Inv X ac Z H s->t Z H Q ->
  aM (aP X.prog X.w) X.A (forIn dy ae λc r=>if r=ae then do let ok <-isTrue c X.env (bT c X.env);pure (AR ok) else pure (AR r)) (TP X ac Z Q) X.xe s
def Lk:TT:=λ_ H Q=>Q ae H
theorem Uw:sI X [] Lk:=λ_ _ _ H _ I h=>wpAny_tests_nil ⟨H,I,h⟩
theorem Qy(h:PT X c t):sI X [c] t:=λac s Z H Q I hw=>wpAny_tests_one (h ac s Z H Q I hw)
def RA (cap:List (Option Nat))(J:It)(g:TG)(tc:TT)(te:TE)(Z:St)(H1:Hp)(Q:VK):Prop:=∀ D,H1 D=ab ->
 ∃ W:Nat->Nat->List V->St->Hp->Prop,(∃ m,W 0 m [] (uQ cap Z) (upd H1 D (.lst []))) /\
  ∀ i m ys σ' H',W i m ys σ' H'->H' D=aa (.lst ys)/\((J.stop i H'/\Q (.ref D) H') \/
   (J.go i H'/\ys.length<sizeLine/\∃ M:List V->St->Hp->Prop,(∀ zs σ2 H2,M zs σ2 H2->∃ m',m'<m/\W (i+1) m' zs σ2 H2)/\∀ x H2,J.yld i H' x H2->g x σ' H2 λσ3 H3=>tc σ3 H3 λb H4=>
    if b=ae then te σ3 H4 λy H5=>H5 D=aa (.lst ys)/\M (ys++[y]) σ3 (upd H5 D (.lst (ys++[y]))) else M ys σ3 H4))
def V' (cap:List (Option Nat))(wi:TI)(g:TG)(tc:TT)(te:TE):TE:=λZ H Q=>wi Z H λJ H1=>RA cap J g tc te Z H1 Q
theorem CompScope.cells (S:CompScope X N cap sc)(ok:X.Ok):∀ n,(n,mB)∈sc.names->∃ c,X.env.cells.lookup n=aa c:=λn hn=>ok.has n (S.fre _ hn rfl)
theorem J3 (S:CompScope X N cap sc){fp:List aC}(I:Inv X ac Z H s)(hf:∀ b∈fp,iL X ac H b)(hl:∀ b∈fp,b<s.heap.objs.size) :
  (fW X N sc (eT X.env sc.names []) s.heap.objs.size s H fp).Ok:=by
 have sub:∀ x c,(eT X.env sc.names []).lookup x=aa c->X.env.cells.lookup x=aa c:=MD sc.names [] (λx c e=>by simp at e)
 refine⟨I.ok.mod,?_,I.ok.glob,I.ok.blt,bB _,?_,?_,?_,I.ok.hd,I.ok.frames,.inl rfl,?_,I.bs,dG I.ok.bsz I.sz,?_,?_,I.stack,I.stkFree⟩
 .exact S.kind
 .intro x y c h1 h2;exact I.ok.inj x y c (sub x c h1) (sub y c h2)
 .intro x hx;have hk:(wJ sc X.env).names.lookup x=aa .cell\/(wJ sc X.env).names.lookup x=aa .free:=hx;have iu:sc.names.lookup x=aa .free:=by
   rw[Cr] at hk;cases e:sc.names.lookup x with
   |none=>rw[e] at hk;simp at hk
   |some k=>
    rw[e] at hk;have hm:=lookup_mem e;have nc:=S.nocell _ hm
    grind
  obtain⟨c,hc⟩:=S.cells I.ok x (lookup_mem iu);exact⟨c,LQ hc _ _ (lookup_mem iu)⟩
 .intro x c h1 _;exact absurd (show af=ae from h1) kB
 .intro b hb;refine⟨cH (hl b hb),λx c e=>(hf b hb).2.2.2.2.1 x c (sub x c e)⟩
 .intro b o e hb;rcases(hf b hb).2.2.2.1 with z|z
  .exact I.ok.noex b o e z
  .exact absurd (gH (bI e) (dG I.ok.bsz z)) (lY _)
 .intro b hb hz;obtain⟨_,h1,h2,_⟩:=hf b hb;rcases cX.1 (I.stkSub b hz) with e|e
  .exact h1 e
  .exact h2 e
theorem t6 (S:CompScope X N cap sc){fp:List aC}{h':aQ}{tk:Nat}(I:Inv X ac Z H s)(hf:∀ b∈fp,iL X ac H b)(hl:∀ b∈fp,b<s.heap.objs.size)
  (hn:h'.Ns s.heap.objs.size λ_=>ab) (hk:∀ b o,s.heap.get? b=aa o->h'.get? b=aa o) :
  Inv (fW X N sc (eT X.env sc.names []) s.heap.objs.size s H fp) [] (uQ cap Z) H { s with heap:=h',toks:=tk }:=by
 have sub:∀ x c,(eT X.env sc.names []).lookup x=aa c->X.env.cells.lookup x=aa c:=MD sc.names [] (λx c e=>by simp at e)
 have fr:=I.hok.fresh (bB _);refine⟨J3 S I hf hl,rfl,I.bare,Un.kept hk,⟨_,hn,λi x v e1 e2 e3=>?_⟩,λx c e=>?_,fr,λx c e=>I.freeC x c (sub x c e),λp hp=>by simp[fW] at hp,I.hok.kept hk,?_⟩
 .have ql:(cap.map λo=>o.bind λj=>(Z[j]?).join)[i]?=aa (aa v):=e2
  rw[eZ] at ql;cases hc:cap[i]? with
  |none=>rw[hc] at ql;simp at ql
  |some o=>
   rw[hc] at ql;simp only[FM,Option.some.injEq] at ql;cases o with
   |none=>simp at ql
   |some j=>
    have ql:(Z[j]?).join=aa v:=ql;have ej:Z[j]?=aa (aa v):=by
     grind
    obtain⟨y,n1,n2,W8⟩:=S.cap i j hc;have exy:=fF (e1.symm.trans n1);subst exy;have hmem:=lookup_mem W8;have qi:=S.fre _ hmem rfl;obtain⟨m,_,hlk⟩:=I.loc;obtain⟨u,r,l⟩:=hlk j x v n2 ej (.inr qi);refine⟨u,r,.inr ⟨?_,?_⟩⟩
    .show(wJ sc X.env).names.lookup x=aa .cell\/(wJ sc X.env).names.lookup x=aa .free;rw[Cr,W8]
     grind
    .rcases l with⟨k1,_⟩|⟨_,c,oy,kr⟩
     .exfalso;have k1':X.env.scope.names.lookup x=aa .local:=k1
      grind
     .obtain⟨oc,h1,h2⟩:=kr;exact⟨c,LQ oy _ _ hmem,oc,hk _ _ h1,h2⟩
 .obtain⟨v,oc,h1,h2⟩:=I.cell x c (sub x c e);exact⟨v,oc,hk _ _ h1,h2⟩
 .show(cap.map _).length=N.length;rw[cC,S.len]
theorem comp_back {fp:List aC}{cl:List (aE×aC)}{σ':St}{s':aH}{pl:List (aC×bC)}(I:Inv X ac Z H s)(hf:∀ b∈fp,iL X ac H b)
  (I':Inv (fW X N sc cl s.heap.objs.size s H fp) pl σ' H' s'):Inv X ac Z H' s':=
 I.call' I'.os (show Un (ph X.stack) fp H H' s.heap s'.heap from I'.base) I'.hok I'.bare λb hb=>⟨(hf b hb).2.2.2.1,(hf b hb).2.1,(hf b hb).2.2.2.2.1,(hf b hb).2.2.2.2.2⟩
section
variable {wi:TI}{g:TG}{tc:TT}{te:TE}
def Block (X:Cx)(N:List aE)(sc:gV)(tg fq:aU)(dy:List aU)(g:TG)(tc:TT)(te:TE):Prop:=
 ∀ (cl:List (aE×aC)) (C:aC) (s₀:aH) (H₀:Hp) (ex:List aC),PG (fW X N sc cl C s₀ H₀ ex) tg g/\sI (fW X N sc cl C s₀ H₀ ex) dy tc/\PE (fW X N sc cl C s₀ H₀ ex) fq te
theorem Ew{RR:aD->aC->oV->aH->Prop}{E:aD->aH->Prop}(hc:X.calm=ae)(S:CompScope X N cap sc)(hb:Block X N sc tg fq dy g tc te)
  {it:aC} {fp:List aC} {tn:Nat->aQ->Prop} {J:It} {Q:VK} (I:Inv X ac Z H s) (T:Turn X.prog X.w X.K tg J fp it tn) (st:tn 0 s.heap) (hf:∀ b∈fp,iL X ac H b)
  (q:RA cap J g tc te Z H Q)
  (hRR:∀ (D:aC) (s₀:aH) (H₀:Hp) (σ':St) (H':Hp) (s':aH),Inv X ac Z H₀ s₀->(∀ b∈fp,iL X ac H₀ b)->Inv (fW X N sc (eT X.env sc.names []) s₀.heap.objs.size s₀ H₀ fp) [] σ' H' s'->Q (.ref D) H' ->
   RR (.ref D) s₀.heap.objs.size (.ok .next) s') :
  aM (aP X.prog X.w) X.A (newList []) (λaj s₃=>aM (aP X.prog X.w) X.A (newFunctionEnv sc X.env.globals (eT X.env sc.names []) [] X.env.qual ab .none (aa X.env)) (λyp s₄=>
   iR (aP X.prog X.w) X.A (.compStart (.ListComp fq [⟨tg,be,dy,0⟩] sc pos) 0 (.ref it) aj { yp with scope:=wJ sc X.env }) (RR aj yp.locals) s₄) E s₃) E s:=by
 have hl:∀ b∈fp,b<s.heap.objs.size:=λb hb=>by
  obtain⟨o,e,_⟩:=T.obj 0 _ st b hb;exact bI e
 refine jQ (wpAny_newFunctionEnv S.nocell (by intro y hy;simp at hy) (λh₁ jt ju=>?_) S.kind)
 dsimp only at jt ju ⊢;have I0:Inv X ac Z (upd H s.heap.objs.size (.lst [])) { s with heap:=s.heap.push { cls:=.type "list",data:=.seq ([]:List aD).toArray },toks:=s.toks }:=I.lnew .nil (by simp)
 obtain⟨W,⟨m0,w0⟩,jp⟩:=q s.heap.objs.size I.fresh;generalize M4:({ s with heap:=s.heap.push { cls:=.type "list",data:=.seq ([]:List aD).toArray },toks:=s.toks }:aH)=s0 at I0;have hh:s.heap.push { cls:=.type "list",dict:=ab,data:=.seq ([]:List aD).toArray }=s0.heap:=by rw[<-M4]
 have ht0:s0.toks=s.toks:=by rw[<-M4]
 have hg0:s0.gens=s.gens/\s0.drawn=s.drawn/\s0.os=s.os:=by rw[<-M4];exact⟨rfl,rfl,rfl⟩
 rw[hh] at jt ju ⊢;have yq:∀ b o,s.heap.get? b=aa o->s0.heap.get? b=aa o:=λb o e=>by rw[<-hh];exact bG _ e
 have yr:∀ b o,s0.heap.get? b=aa o->h₁.get? b=aa o:=λb o e=>ju.extBut b o (cH (bI e)) (bG _ e)
 have hl0:∀ b∈fp,b<s0.heap.objs.size:=λb hb=>by
  obtain⟨o,e,_⟩:=T.obj 0 _ st b hb;exact bI (yq b o e)
 have Q3:∀ b∈fp,iL X ac (upd H s.heap.objs.size (.lst [])) b:=λb hb=>by
  refine⟨?_,(hf b hb).2⟩;rw[cK (cH (hl b hb))];exact(hf b hb).1
 have I1:Inv (fW X N sc (eT X.env sc.names []) s0.heap.objs.size s0 (upd H s.heap.objs.size (.lst [])) fp) [] (uQ cap Z) (upd H s.heap.objs.size (.lst [])) { s0 with heap:=h₁,toks:=s.toks+0 }:=
  t6 S I0 Q3 hl0 jt yr
 obtain⟨pg,pf,pe⟩:=hb (eT X.env sc.names []) s0.heap.objs.size s0 (upd H s.heap.objs.size (.lst [])) fp;have iz:=T.keep _ _ _ st λb hb o e=>yr b o (yq b o e)
 have jq:∀ {H':Hp},(∀ b∈fp,H' b=ab)->∀ b∈fp,iL (fW X N sc (eT X.env sc.names []) s0.heap.objs.size s0 (upd H s.heap.objs.size (.lst [])) fp) [] H' b:=λhn b hb=>
  ⟨hn b hb,(I1.ok.exf b hb).1,I1.ok.exfs b hb,.inl hb,(I1.ok.exf b hb).2,λp hp=>by simp[fW] at hp⟩
 have yt:∀ s3:aH,s3={ s0 with heap:=h₁,toks:=s.toks+0 } ->
   iR (aP X.prog X.w) X.A (.compLoop (.ListComp fq [⟨tg,be,dy,0⟩] sc pos) 0 (.ref it) (.ref s.heap.objs.size) (compEnvC sc (eT X.env sc.names []) s0.heap.objs.size X.env)) (RR (.ref s.heap.objs.size) s0.heap.objs.size) s3:=by
  rintro s3 rfl;refine Yw (λn s'=>∃ i ys σ' H',Inv (fW X N sc (eT X.env sc.names []) s0.heap.objs.size s0 (upd H s.heap.objs.size (.lst [])) fp) [] σ' H' s'/\tn i s'.heap/\(∀ b∈fp,H' b=ab)/\W i n ys σ' H') ?_ m0
   ⟨0,[],uQ cap Z,_,I1,iz,λb hb=>(Q3 b hb).1,w0⟩
  rintro n s3 ⟨i,ys,σ3,H3,I3,yh,yi,w3⟩;obtain⟨hD,h3⟩:=jp i n ys σ3 H3 w3;rcases h3 with⟨stop,qn⟩|⟨go,aw,M,hM,step⟩
  .refine bb (T.done (fW X N sc (eT X.env sc.names []) s0.heap.objs.size s0 (upd H s.heap.objs.size (.lst [])) fp) rfl rfl rfl hc i [] s3 σ3 H3 (λ_ _=>False) I3 (jq yi) yh stop) λr s4 gh=>?_
   obtain⟨hr,I4⟩:=gh;subst hr;exact hRR _ s0 _ σ3 H3 s4 I0 Q3 I4 qn
  .refine bb (T.item (fW X N sc (eT X.env sc.names []) s0.heap.objs.size s0 (upd H s.heap.objs.size (.lst [])) fp) rfl rfl rfl hc i [] s3 σ3 H3 (λ_ _=>False) I3 (jq yi) yh go) λr s4 gh=>?_
   obtain⟨u,hr,h4⟩:=gh;subst hr;refine bb h4 λ_ s5 gh=>?_
   obtain⟨x,H5,I5,r5,y5,vz,P7⟩:=gh;have P8:=I5.pinned (jq P7) (T.obj _ _ vz);refine bb (pg _ s5 σ3 H5 x u _ P8 r5 (step x H5 y5)) λ_ s6 gh=>?_
   obtain⟨σ6,H6,I6,q6⟩:=gh;refine bb (pf _ s6 σ6 H6 _ I6 q6) λb s7 gh=>?_
   obtain⟨H7,I7,q7⟩:=gh;have again:∀ {s8:aH} {H8:Hp} {zs:List V},Inv (fW X N sc (eT X.env sc.names []) s0.heap.objs.size s0 (upd H s.heap.objs.size (.lst [])) fp) ([]++xO fp s5.heap) σ6 H8 s8->M zs σ6 H8 ->
     ∃ m,m<n/\∃ i ys σ' H',Inv (fW X N sc (eT X.env sc.names []) s0.heap.objs.size s0 (upd H s.heap.objs.size (.lst [])) fp) [] σ' H' s8/\tn i s8.heap/\(∀ b∈fp,H' b=ab)/\W i m ys σ' H':=λ{s8 H8 zs} I8 w8=>by
    obtain⟨m',hm,w8⟩:=hM _ _ _ w8;refine⟨m',hm,i+1,zs,σ6,H8,I8.unpinned,T.keep _ _ _ vz λb hb o e=>(I8.pin (b,o) (oY _ (oY _ (EB hb e)))).1,λb hb=>?_,w8⟩
    obtain⟨o,e,d⟩:=T.obj _ _ vz b hb;exact(I8.pin (b,o) (oY _ (oY _ (EB hb e)))).2.1
   cases b with
   |false=>
    rw[if_neg kB] at q7 ⊢;exact again I7 q7
   |true=>
    rw[if_pos rfl] at q7 ⊢;refine bb (pe _ s7 σ6 H7 _ I7 q7) λv s8 gh=>?_
    obtain⟨y,H8,I8,r8,hD8,w8⟩:=gh;refine bb (LJ _ s8 σ6 H8 (.ref s.heap.objs.size) [y] (.ref s.heap.objs.size) [v] (λ_ H9=>H9=upd H8 s.heap.objs.size (.lst (ys++[y]))) I8 rfl (.cons r8 .nil) ⟨_,ys,y,rfl,rfl,hD8,aw,rfl⟩) λ_ s9 gh=>?_
    obtain⟨_,H9,I9,_,e9⟩:=gh;subst e9;exact again I9 w8
 have e3:({ s with heap:=h₁,toks:=s.toks+([]:List (aE×aD)).length }:aH)={ s0 with heap:=h₁,toks:=s.toks+0 }:=by
  rw[<-M4];rfl
 have fin:=codeAny_compStart_list (yt _ rfl) (T.self X.A 0 _ _ _ iz (yt _ rfl));rw[<-e3] at fin;exact fin
theorem RJ (hc:X.calm=ae)(S:CompScope X N cap sc)(hi:PI X tg be wi)(hb:Block X N sc tg fq dy g tc te)(hs:∀ x,qE be X.env x=pure x:=by intro _;rfl) :
  PE X (.ListComp fq [⟨tg,be,dy,0⟩] sc pos) (V' cap wi g tc te):=by
 rw[8];rw[eval_ListComp];refine wpAny_comprehension_free rfl hs (Do (S.cells I.ok)) S.kind S.nm (bb (hi ac s Z H _ I h) λv s1 h1=>bb h1 λM0 s2 h2=>?_)
 obtain⟨it,fp,tn,J,H2,e,I2,T,il,f2,q2⟩:=h2;subst e;refine Ew hc S hb I2 T il f2 q2 ?_;intro D s₀ H₀ σ' H' s' I0 f0 I' qD;obtain⟨m,hn,_⟩:=id I'.loc;have IX:=comp_back I0 f0 I';refine⟨m,hn,λh' yu=>⟨.ref D,H',?_,rfl,qD⟩⟩
 exact IX.turned (λb o hb e=>(yu.2 b hb).trans e) I'.free (iS I0.lt) (.inr I0.sz) (λx c e z=>by
  obtain⟨v,oc,h1,_⟩:=I0.cell x c e;exact absurd (bI h1) (by rw[z];exact lY _)) λp hp z=>by
   have h1:=(I0.pin p hp).1;exact absurd (bI h1) (by rw[z];exact lY _)
theorem l5(hc:X.calm=ae)(hN:X.N.Nodup)(uu:X.N[i]?=aa x)(hx:jH X.env.scope x)(S:CompScope X N cap sc)(hi:PI X tg be wi)(hb:Block X N sc tg fq dy g tc te)
  (ja:kP (.ListComp fq [⟨tg,be,dy,0⟩] sc pos) (aa (.Name x px)) gj.line X.env=pure ae:=by rfl)
  (hs:∀ x,qE be X.env x=pure x:=by intro _;rfl) (hf:Fn X x:=by exact jL) :
  PS X (.Assign [.Name x px] (.ListComp fq [⟨tg,be,dy,0⟩] sc pos) gj) (GR (V' cap wi g tc te) (zN i)):=by
 intro ac s Z H D I h;rw[exec_Assign_Name_used _ _ _ _ ja];refine aF (wpAny_standAt (aF ?_));refine aF (lV (wpAny_comprehension_free rfl hs (Do (S.cells I.ok)) S.kind S.nm
  (bb (hi ac s Z H _ I h) λv s1 h1=>bb h1 λM0 s2 h2=>?_)) (λ_ s' hq=>aN (aN hq)) λ_ _ e=>e)
 obtain⟨it,fp,tn,J,H2,e,I2,T,il,f2,q2⟩:=h2;subst e;refine Ew hc S hb I2 T il f2 q2 ?_;intro D' s₀ H₀ σ' H' s' I0 f0 I' qD;obtain⟨m,hn,_⟩:=id I'.loc;have IX:=comp_back I0 f0 I';have qm:∀ x c,X.env.cells.lookup x=aa c->c≠s₀.heap.objs.size:=λx c e z=>by
  obtain⟨v,oc,h1,_⟩:=I0.cell x c e;exact absurd (bI h1) (by rw[z];exact lY _)
 refine wpAny_assign_Name (YM IX hN uu hx (show RelV (.ref D') (.ref D') from rfl) (λs3 I3 ch=>?_) hf)
 obtain⟨a,sb,ha⟩:=ch;have dg:s₀.heap.objs.size≠a:=by
  rcases ha with z|z
  .rw[z];exact iS I0.lt
  .exact λq=>qm x a z q.symm
 refine⟨m,Heap.Ns.sameBut hn sb dg,λh' yu=>⟨_,H',?_,qD⟩⟩
 exact I3.turned (λb o hb e=>(yu.2 b hb).trans e) I'.free (iS I0.lt) (.inr I0.sz) qm λp hp z=>by
  have h1:=(I0.pin p hp).1;exact absurd (bI h1) (by rw[z];exact lY _)
end
def IM (out:List (aE×kS))(XN N:List aE)(cap:List (Option Nat))(ns:List (aE×kS)):Bool:=
 ns.all (λy=>y.2 != .cell)&&ns.all (λy=>y.2 != .local||ns.lookup y.1==aa .local)&&ns.all (λy=>y.2 != .free||out.lookup y.1==aa .cell||out.lookup y.1==aa .free) &&
 cap.length==N.length&&(cap.zip N).all (λp=>match p.1 with|none=>ae|some j=>XN[j]?==aa p.2&&ns.lookup p.2==aa .free)
theorem ED{out:List (aE×kS)}{XN:List aE}(h1:X.env.scope.names=out)(h2:X.N=XN)(yv:IM out XN N cap sc.names=ae)(hk:sc.kind=.function):CompScope X N cap sc:=by
 unfold IM at yv;simp only[GH,dQ,bne_iff_ne,ne_eq,Bool.or_eq_true,beq_iff_eq] at yv;obtain⟨⟨⟨⟨c1,c2⟩,c3⟩,c4⟩,c5⟩:=yv;refine⟨hk,c1,λy hy e=>?_,λy hy e=>?_,c4,λi j e=>?_⟩
 .rcases c2 y hy with q|q
  .exact absurd e q
  .exact q
 .rw[h1];rcases c3 y hy with(q|q)|q
  .exact absurd e q
  .exact .inl q
  .exact .inr q
 .have hi:=(cJ.1 e).1;have uu:i<N.length:=()
  have hm:(cap[i],N[i])∈cap.zip N:=by
   have:(cap.zip N)[i]?=aa (cap[i],N[i]):=by
    rw[List.getElem?_zip_eq_some];exact⟨fN hi,fN uu⟩
   exact eM this
  have q:=c5 _ hm;have ec:cap[i]=aa j:=by
   rw[fN hi] at e;exact fF e
  rw[ec] at q;simp only[GH,beq_iff_eq] at q;exact⟨N[i],fN uu,by rw[h2];exact q.1,q.2⟩
abbrev Ext (H H':Hp):Prop:=∀ b o,H b=aa o->H' b=aa o
theorem Ext.refl:Ext H H:=λ_ _ e=>e
theorem Ext.trans {H2:Hp}(a:Ext H H1)(b:Ext H1 H2):Ext H H2:=λx o e=>b x o (a x o e)
theorem Ext.new{p:aC}(n:H p=ab):Ext H (upd H p o):=λb u e=>by
 rw[cK (iQ e n)];exact e
theorem Ext.rd(x:Ext H H'){u:HO}(r:Rd H a u):Rd H' a u:=by
 rcases r with r|⟨o,r⟩
 .exact .inl (x _ _ r)
 .exact .inr ⟨o,x _ _ r⟩
theorem Ext.sqL(x:Ext H H')(h:SqL K H a xs):SqL K H' a xs:=h.imp x.rd id
theorem Ext.none(x:Ext H H')(h:H' a=Option.none):H a=Option.none:=by
 cases e:H a with
 |none=>rfl
 |some o=>rw[x a o e] at h;cases h
open Classical in
def hid (H:Hp)(P:aC->Prop):Hp:=λa=>if P a then ab else H a
theorem Abx{P:aC->Prop}:hid H P a=aa o ↔ ¬ P a/\H a=aa o:=by
 unfold hid;by_cases h:P a<;>simp[h]
theorem fR{P:aC->Prop}(n:¬ P a)(e:H a=aa o):hid H P a=aa o:=Abx.2 ⟨n,e⟩
theorem Aam{P:aC->Prop}:Ext (hid H P) H:=λ_ _ e=>(Abx.1 e).2
theorem dB{P:aC->Prop}(x:Ext H H'):Ext (hid H P) (hid H' P):=λb o e=>by
 obtain⟨n,e⟩:=Abx.1 e;exact fR n (x b o e)
theorem fX{P P':aC->Prop}(s:∀ a,P' a->P a):Ext (hid H P) (hid H P'):=λb o e=>by
 obtain⟨n,e⟩:=Abx.1 e;exact fR (λq=>n (s b q)) e
abbrev DQ:=(Nat×List (aI×V)) ⊕ (Nat×List (List aA×V))
def dO:DQ->HO
 |.inl kvs=>.dK kvs.1 kvs.2
 |.inr ts=>.dT ts.1 ts.2
def Hid (P:aC->Prop)(H:Hp):Prop:=∀ a,P a->(∃ xs,H a=aa (.lst xs))\/∃ q:DQ,H a=aa (dO q)
theorem Hid.ext {P:aC->Prop}(h:Hid P H)(x:Ext H H'):Hid P H':=λa p=>(h a p).imp (λ⟨xs,e⟩=>⟨xs,x _ _ e⟩) λ⟨xs,e⟩=>⟨xs,x _ _ e⟩
theorem Hid.new {P:aC->Prop}(h:Hid P H)(n:H a=ab):¬ P a:=λp=>by
 rcases h a p with⟨xs,e⟩|⟨xs,e⟩<;>rw[n] at e<;>cases e
abbrev fu (P:aC->Prop)(F:List aC):aC->Prop:=λa=>P a\/a∈F
theorem Eg {P:aC->Prop}:fu P []=P:=by
 funext a;simp[fu]
noncomputable def kD:aI->aA
 |.inl i=>.int i
 |.inr x=>.str x
def QU (a:aC)(kvs:Nat×List (V×V)):HO:=.ext λh=>kvs.2.length<=sizeLine/\(a==jB)=af/\∃ o es,h.get? a=aa o/\o.ExactDict/\o.data=.dict es kvs.1/\cQ (λ(p:V×V) (e:qN)=>RelV p.1 e.key/\RelV p.2 e.val) kvs.2 es.toList
mutual
def Abj (K:aK)(H:Hp):aA->V->Prop
 |.none,v=>v=.non
 |.bool b,v=>v=.bl b
 |.int i,v=>v=.int i
 |.str x,v=>v=.str x/\cR (.str x)=ae
 |.list ds,v=>∃ a xs,v=.ref a/\SqL K H a xs/\Aal K H ds xs
 |.tuple ds,v=>∃ a xs,v=.ref a/\H a=aa (.tup xs)/\Aal K H ds xs
 |.dict kds,v=>∃ a,v=.ref a/\((∃ kvs:Nat×List (aI×V),H a=aa (.dK kvs.1 kvs.2)/\Abq K H kds kvs.2)\/(∃ ts:Nat×List (List aA×V),H a=aa (.dT ts.1 ts.2)/\Ay2 K H kds ts.2)\/∃ xs,H a=aa (QU a xs)/\A2q K H kds xs.2)
def Aal (K:aK)(H:Hp):List aA->List V->Prop
 |[],xs=>xs=[]
 |d::ds,xs=>∃ x r,xs=x::r/\Abj K H d x/\Aal K H ds r
def Abq (K:aK)(H:Hp):List (aA×aA)->List (aI×V)->Prop
 |[],xs=>xs=[]
 |(k,d)::ds,xs=>∃ k' x r,xs=(k',x)::r/\k=kD k'/\Abj K H d x/\Abq K H ds r
def Acm (K:aK)(H:Hp):List (aA×aA)->List (List aA×V)->Prop
 |[],xs=>xs=[]
 |(k,d)::ds,xs=>∃ k' x r,xs=(k',x)::r/\(k=.tuple k'/\bR k'=ae)/\Abj K H d x/\Acm K H ds r
def Ay2 (K:aK)(H:Hp):List (aA×aA)->List (List aA×V)->Prop
 |[],_=>False
 |(k,_)::ds,xs=>k=.none/\Acm K H ds xs
def A2q (K:aK)(H:Hp):List (aA×aA)->List (V×V)->Prop
 |[],_=>False
 |(k,m)::ds,xs=>k=.none/\ds=[(.none,.none)]/\Asu K H m xs
def Asu (K:aK)(H:Hp):aA->List (V×V)->Prop
 |.list es,xs=>Aio K H es xs
 |_,_=>False
def Aio (K:aK)(H:Hp):List aA->List (V×V)->Prop
 |[],xs=>xs=[]
 |d::ds,xs=>∃ x r,xs=x::r/\Ayb K H d x/\Aio K H ds r
def Ayb (K:aK)(H:Hp):aA->V×V->Prop
 |.tuple ds,x=>Aal K H ds [x.1,x.2]
 |_,_=>False
end
noncomputable def dh:List (aA×aA)->Bool
 |(.none,_)::_=>af
 |_=>ae
theorem Abr:Abj K H .none v↔v=.non:=by simp[Abj]
theorem Aar {b:Bool}:Abj K H (.bool b) v↔v=.bl b:=by simp[Abj]
theorem Aak {b:Int}:Abj K H (.int b) v↔v=.int b:=by simp[Abj]
theorem Aa8 {b:aE}:Abj K H (.str b) v↔v=.str b/\cR (.str b)=ae:=by simp only[Abj]
theorem Aa7:Abj K H (.list ds) v ↔ ∃ a xs,v=.ref a/\SqL K H a xs/\Aal K H ds xs:=by simp only[Abj]
theorem Aaq:Abj K H (.tuple ds) v ↔ ∃ a xs,v=.ref a/\H a=aa (.tup xs)/\Aal K H ds xs:=by simp only[Abj]
theorem Acw {ds:List (aA×aA)}:Abj K H (.dict ds) v ↔ ∃ a,v=.ref a/\((∃ kvs:Nat×List (aI×V),H a=aa (.dK kvs.1 kvs.2)/\Abq K H ds kvs.2)\/(∃ ts:Nat×List (List aA×V),H a=aa (.dT ts.1 ts.2)/\Ay2 K H ds ts.2)\/∃ xs,H a=aa (QU a xs)/\A2q K H ds xs.2):=by simp only[Abj]
theorem Af1 {k:aA}{ds:List (aA×aA)}{xs:List (V×V)}:A2q K H ((k,m)::ds) xs↔k=.none/\ds=[(.none,.none)]/\Asu K H m xs:=by simp only[A2q]
theorem Wh{xs:List (V×V)}(h:Asu K H m xs):∃ es,m=.list es/\Aio K H es xs:=by
 cases m with
 |list es=>exact⟨es,rfl,by simpa only[Asu] using h⟩
 |_=>simp[Asu] at h
theorem Avs {xs:List (V×V)}:Aio K H [] xs↔xs=[]:=by simp[Aio]
theorem Ar0{xs:List (V×V)}:Aio K H (d::ds) xs ↔ ∃ x r,xs=x::r/\Ayb K H d x/\Aio K H ds r:=by simp only[Aio]
theorem LH {ds:List (aA×aA)}{xs:List (V×V)}(h:A2q K H ds xs):∃ es,ds=[(.none,.list es),(.none,.none)]/\Aio K H es xs:=by
 cases ds with
 |nil=>simp[A2q] at h
 |cons p r=>
  obtain⟨k,m⟩:=p;obtain⟨rfl,rfl,h1⟩:=Af1.1 h;obtain⟨es,rfl,h2⟩:=Wh h1;exact⟨es,rfl,h2⟩
theorem Ado {xs:List (List aA×V)}:Acm K H [] xs↔xs=[]:=by simp[Acm]
theorem Aca {k:aA}{ds:List (aA×aA)}{xs:List (List aA×V)}:Acm K H ((k,d)::ds) xs ↔ ∃ k' x r,xs=(k',x)::r/\(k=.tuple k'/\bR k'=ae)/\Abj K H d x/\Acm K H ds r:=by simp only[Acm]
theorem Aei {k:aA}{ds:List (aA×aA)}{xs:List (List aA×V)}:Ay2 K H ((k,m)::ds) xs↔k=.none/\Acm K H ds xs:=by simp only[Ay2]
theorem Vg {ds:List (aA×aA)}{xs:List (List aA×V)}(hk:dh ds=ae):¬ Ay2 K H ds xs:=by
 cases ds with
 |nil=>simp[Ay2]
 |cons p r=>
  obtain⟨k,d⟩:=p;intro h;rw[(Aei.1 h).1] at hk;simp[dh] at hk
theorem pW {ds:List (aA×aA)}(hk:dh ds=ae):Abj K H (.dict ds) v ↔ ∃ a,∃ kvs:Nat×List (aI×V),v=.ref a/\H a=aa (.dK kvs.1 kvs.2)/\Abq K H ds kvs.2:=by
 rw[Acw];constructor
 .rintro⟨a,e,⟨kvs,h,r⟩|⟨ts,h,r⟩|⟨xs,h,r⟩⟩
  .exact⟨a,kvs,e,h,r⟩
  .exact absurd r (Vg hk)
  .obtain⟨es,rfl,_⟩:=LH r;simp[dh] at hk
 .rintro⟨a,kvs,e,h,r⟩;exact⟨a,e,.inl ⟨kvs,h,r⟩⟩
theorem ZO {ds:List (aA×aA)}{kvs:Nat×List (aI×V)}(e:v=.ref a)(h:H a=aa (.dK kvs.1 kvs.2))(r:Abq K H ds kvs.2):Abj K H (.dict ds) v:=Acw.2 ⟨a,e,.inl ⟨kvs,h,r⟩⟩
theorem Aaj:Aal K H [] xs↔xs=[]:=by simp[Aal]
theorem Aaf:Aal K H (d::ds) xs ↔ ∃ x r,xs=x::r/\Abj K H d x/\Aal K H ds r:=by simp only[Aal]
theorem Abh {xs:List (aI×V)}:Abq K H [] xs↔xs=[]:=by simp[Abq]
theorem Aa3 {k:aA}{ds:List (aA×aA)}{xs:List (aI×V)}:Abq K H ((k,d)::ds) xs ↔ ∃ k' x r,xs=(k',x)::r/\k=kD k'/\Abj K H d x/\Abq K H ds r:=by simp only[Abq]
theorem KO{ds:List (aA×aA)}(hm:∀ es,m ≠ .list es:=by intro _ z;cases z):Abj K H (.dict ((.none,m)::ds)) v ↔ ∃ a,∃ ts:Nat×List (List aA×V),v=.ref a/\H a=aa (.dT ts.1 ts.2)/\Acm K H ds ts.2:=by
 rw[Acw];constructor
 .rintro⟨a,e,⟨kvs,h,r⟩|⟨ts,h,r⟩|⟨xs,h,r⟩⟩
  .obtain⟨k',_,_,_,ek,_⟩:=Aa3.1 r;cases k'<;>simp[kD] at ek
  .exact⟨a,ts,e,h,(Aei.1 r).2⟩
  .obtain⟨es,z,_⟩:=LH r;cases z;exact absurd rfl (hm es)
 .rintro⟨a,ts,e,h,r⟩;exact⟨a,e,.inr (.inl ⟨ts,h,Aei.2 ⟨rfl,r⟩⟩)⟩
mutual
theorem Abj.ext(x:Ext H H'):∀ {d:aA} {v:V},Abj K H d v->Abj K H' d v
 |.none,_,h=>Abr.2 (Abr.1 h)
 |.bool _,_,h=>Aar.2 (Aar.1 h)
 |.int _,_,h=>Aak.2 (Aak.1 h)
 |.str _,_,h=>Aa8.2 (Aa8.1 h)
 |.list ds,_,h=>by
  obtain⟨a,xs,e,s,r⟩:=Aa7.1 h;exact Aa7.2 ⟨a,xs,e,x.sqL s,Aal.ext x r⟩
 |.tuple ds,_,h=>by
  obtain⟨a,xs,e,s,r⟩:=Aaq.1 h;exact Aaq.2 ⟨a,xs,e,x _ _ s,Aal.ext x r⟩
 |.dict ds,_,h=>by
  obtain⟨a,e,⟨kvs,r,q⟩|⟨ts,r,q⟩|⟨xs,r,q⟩⟩:=Acw.1 h
  .exact Acw.2 ⟨a,e,.inl ⟨kvs,x _ _ r,Abq.ext x q⟩⟩
  .exact Acw.2 ⟨a,e,.inr (.inl ⟨ts,x _ _ r,Ay2.ext x q⟩)⟩
  .exact Acw.2 ⟨a,e,.inr (.inr ⟨xs,x _ _ r,A2q.ext x q⟩)⟩
theorem Aal.ext(x:Ext H H'):∀ {ds:List aA} {vs:List V},Aal K H ds vs->Aal K H' ds vs
 |[],_,h=>Aaj.2 (Aaj.1 h)
 |d::ds,_,h=>by
  obtain⟨y,r,e,h1,h2⟩:=Aaf.1 h;exact Aaf.2 ⟨y,r,e,Abj.ext x h1,Aal.ext x h2⟩
theorem Abq.ext(x:Ext H H'):∀ {ds:List (aA×aA)} {vs:List (aI×V)},Abq K H ds vs->Abq K H' ds vs
 |[],_,h=>Abh.2 (Abh.1 h)
 |(k,d)::ds,_,h=>by
  obtain⟨k',y,r,e,ek,h1,h2⟩:=Aa3.1 h;exact Aa3.2 ⟨k',y,r,e,ek,Abj.ext x h1,Abq.ext x h2⟩
theorem Acm.ext(x:Ext H H'):∀ {ds:List (aA×aA)} {vs:List (List aA×V)},Acm K H ds vs->Acm K H' ds vs
 |[],_,h=>Ado.2 (Ado.1 h)
 |(k,d)::ds,_,h=>by
  obtain⟨k',y,r,e,ek,h1,h2⟩:=Aca.1 h;exact Aca.2 ⟨k',y,r,e,ek,Abj.ext x h1,Acm.ext x h2⟩
theorem Ay2.ext(x:Ext H H'):∀ {ds:List (aA×aA)} {vs:List (List aA×V)},Ay2 K H ds vs->Ay2 K H' ds vs
 |[],_,h=>absurd h (by simp[Ay2])
 |(k,d)::ds,_,h=>Aei.2 ⟨(Aei.1 h).1,Acm.ext x (Aei.1 h).2⟩
theorem A2q.ext(x:Ext H H'):∀ {ds:List (aA×aA)} {vs:List (V×V)},A2q K H ds vs->A2q K H' ds vs
 |[],_,h=>absurd h (by simp[A2q])
 |(k,d)::ds,_,h=>Af1.2 ⟨(Af1.1 h).1,(Af1.1 h).2.1,Asu.ext x (Af1.1 h).2.2⟩
theorem Asu.ext(x:Ext H H'):∀ {d:aA} {vs:List (V×V)},Asu K H d vs->Asu K H' d vs
 |.list es,_,h=>by
  rw[Asu] at h ⊢;exact Aio.ext x h
 |.none,_,h=>absurd h (by simp[Asu])
 |.bool _,_,h=>absurd h (by simp[Asu])
 |.int _,_,h=>absurd h (by simp[Asu])
 |.str _,_,h=>absurd h (by simp[Asu])
 |.tuple _,_,h=>absurd h (by simp[Asu])
 |.dict _,_,h=>absurd h (by simp[Asu])
theorem Aio.ext(x:Ext H H'):∀ {ds:List aA} {vs:List (V×V)},Aio K H ds vs->Aio K H' ds vs
 |[],_,h=>Avs.2 (Avs.1 h)
 |d::ds,_,h=>by
  obtain⟨y,r,e,h1,h2⟩:=Ar0.1 h;exact Ar0.2 ⟨y,r,e,Ayb.ext x h1,Aio.ext x h2⟩
theorem Ayb.ext(x:Ext H H'):∀ {d:aA} {y:V×V},Ayb K H d y->Ayb K H' d y
 |.tuple ds,_,h=>by
  rw[Ayb] at h ⊢;exact Aal.ext x h
 |.none,_,h=>absurd h (by simp[Ayb])
 |.bool _,_,h=>absurd h (by simp[Ayb])
 |.int _,_,h=>absurd h (by simp[Ayb])
 |.str _,_,h=>absurd h (by simp[Ayb])
 |.list _,_,h=>absurd h (by simp[Ayb])
 |.dict _,_,h=>absurd h (by simp[Ayb])
end
theorem Aal.length:∀ {ds:List aA} {vs:List V},Aal K H ds vs->vs.length=ds.length
 |[],_,h=>by rw[Aaj.1 h];rfl
 |d::ds,_,h=>by
  obtain⟨y,r,e,h1,h2⟩:=Aaf.1 h;rw[e,fM,fM,Aal.length h2]
theorem Aal.get:∀ {ds:List aA} {vs:List V} {i:Nat} {d:aA},Aal K H ds vs->ds[i]?=aa d->∃ v,vs[i]?=aa v/\Abj K H d v
 |[],_,_,_,h,e=>by simp at e
 |d::ds,_,0,d',h,e=>by
  obtain⟨y,r,rfl,h1,h2⟩:=Aaf.1 h;have:d=d':=by simpa using e
  rw[13];exact⟨y,rfl,h1⟩
 |d::ds,_,i+1,d',h,e=>by
  obtain⟨y,r,rfl,h1,h2⟩:=Aaf.1 h;obtain⟨v,h3,h4⟩:=Aal.get h2 (by simpa using e)
  exact⟨v,by simpa using h3,h4⟩
theorem Aal.append:∀ {ds es:List aA} {vs ws:List V},Aal K H ds vs->Aal K H es ws->Aal K H (ds++es) (vs++ws)
 |[],es,_,_,h,g=>by rw[Aaj.1 h];exact g
 |d::ds,es,_,_,h,g=>by
  obtain⟨y,r,rfl,h1,h2⟩:=Aaf.1 h;exact Aaf.2 ⟨y,_,rfl,h1,Aal.append h2 g⟩
theorem Aal.snoc{vs:List V}(h:Aal K H ds vs)(g:Abj K H d v):Aal K H (ds++[d]) (vs++[v]):=
 h.append (Aaf.2 ⟨v,[],rfl,g,Aaj.2 rfl⟩)
theorem Aal.drop:∀ {ds:List aA} {vs:List V} (n:Nat),Aal K H ds vs->Aal K H (ds.drop n) (vs.drop n)
 |_,_,0,h=>h
 |[],_,n+1,h=>by rw[Aaj.1 h];exact Aaj.2 rfl
 |d::ds,_,n+1,h=>by
  obtain⟨y,r,rfl,h1,h2⟩:=Aaf.1 h;exact Aal.drop n h2
theorem Aal.take:∀ {ds:List aA} {vs:List V} (n:Nat),Aal K H ds vs->Aal K H (ds.take n) (vs.take n)
 |_,_,0,h=>Aaj.2 rfl
 |[],_,n+1,h=>by rw[Aaj.1 h];exact Aaj.2 rfl
 |d::ds,_,n+1,h=>by
  obtain⟨y,r,rfl,h1,h2⟩:=Aaf.1 h;exact Aaf.2 ⟨y,_,rfl,h1,Aal.take n h2⟩
theorem Aal.set(g:Abj K H d v):∀ {ds:List aA} {vs:List V} (n:Nat),Aal K H ds vs->Aal K H (ds.set n d) (vs.set n v)
 |[],_,n,h=>by rw[Aaj.1 h];exact Aaj.2 rfl
 |e::ds,_,0,h=>by
  obtain⟨y,r,rfl,h1,h2⟩:=Aaf.1 h;exact Aaf.2 ⟨v,r,rfl,g,h2⟩
 |e::ds,_,n+1,h=>by
  obtain⟨y,r,rfl,h1,h2⟩:=Aaf.1 h;exact Aaf.2 ⟨y,_,rfl,h1,Aal.set g n h2⟩
theorem YR:∀ ns:List Int,Aal K H (ns.map aY) (ns.map V.int)
 |[]=>Aaj.2 rfl
 |n::r=>Aaf.2 ⟨_,_,rfl,Aak.2 rfl,YR r⟩
theorem Yj(h:Abj K H (kD k) v):v=kV k:=by
 cases k with
 |inl i=>exact Aak.1 h
 |inr x=>exact(Aa8.1 h).1
mutual
theorem Abj.key {K:aK}{H:Hp}:∀ (d:aA) {v:V},bP d=ae->Abj K H d v->Aj6 H d v
 |.int i,v,_,h=>by simpa [Aj6] using Aak.1 h
 |.str i,v,_,h=>by simpa [Aj6] using(Aa8.1 h).1
 |.tuple ds,v,k,h=>by
  obtain⟨a,xs,e,s,r⟩:=Aaq.1 h;simp only[Aj6];exact⟨a,xs,e,s,Aal.keys ds (by simpa [bP] using k) r⟩
 |.none,v,k,_=>by simp[bP] at k
 |.bool _,v,k,_=>by simp[bP] at k
 |.list _,v,k,_=>by simp[bP] at k
 |.dict _,v,k,_=>by simp[bP] at k
theorem Aal.keys {K:aK}{H:Hp}:∀ (ds:List aA) {vs:List V},bR ds=ae->Aal K H ds vs->Ags H ds vs
 |[],vs,_,h=>by simpa [Ags] using Aaj.1 h
 |d::ds,vs,k,h=>by
  have k':bP d=ae/\bR ds=ae:=by simpa [bR] using k
  obtain⟨y,r,e,h1,h2⟩:=Aaf.1 h;simp only[Ags];exact⟨y,r,e,Abj.key d k'.1 h1,Aal.keys ds k'.2 h2⟩
end
mutual
def fD:aA->Bool
 |.list _=>af
 |.dict _=>af
 |.tuple ds=>lL ds
 |_=>ae
def lL:List aA->Bool
 |[]=>ae
 |d::r=>fD d&&lL r
end
theorem Aj:∀ ds:List aA,lL ds=ds.all fD
 |[]=>by simp[lL]
 |d::r=>by simp[lL,Aj r]
mutual
theorem Abj.flat(x:∀ a xs,H a=aa (.tup xs)->H' a=aa (.tup xs)):∀ (d:aA) {v:V},fD d=ae->Abj K H d v->Abj K H' d v
 |.none,_,_,h=>Abr.2 (Abr.1 h)
 |.bool _,_,_,h=>Aar.2 (Aar.1 h)
 |.int _,_,_,h=>Aak.2 (Aak.1 h)
 |.str _,_,_,h=>Aa8.2 (Aa8.1 h)
 |.tuple ds,_,f,h=>by
  obtain⟨a,xs,e,s,r⟩:=Aaq.1 h;exact Aaq.2 ⟨a,xs,e,x _ _ s,Aal.flat x ds (by simpa [fD] using f) r⟩
 |.list _,_,f,_=>by simp[fD] at f
 |.dict _,_,f,_=>by simp[fD] at f
theorem Aal.flat(x:∀ a xs,H a=aa (.tup xs)->H' a=aa (.tup xs)):∀ (ds:List aA) {vs:List V},lL ds=ae->Aal K H ds vs->Aal K H' ds vs
 |[],_,_,h=>Aaj.2 (Aaj.1 h)
 |d::ds,_,f,h=>by
  have f':fD d=ae/\lL ds=ae:=by simpa [lL] using f
  obtain⟨y,r,e,h1,h2⟩:=Aaf.1 h;exact Aaf.2 ⟨y,r,e,Abj.flat x d f'.1 h1,Aal.flat x ds f'.2 h2⟩
end
inductive All3 {α β γ:Type}(R:α->β->γ->Prop):List α->List β->List γ->Prop
 |nil:All3 R [] [] []
 |cons {a b c as bs cs}:R a b c->All3 R as bs cs->All3 R (a::as) (b::bs) (c::cs)
theorem All3.imp {α β γ:Type}{R S:α->β->γ->Prop}:∀ {as:List α} {bs:List β} {cs:List γ},All3 R as bs cs->(∀ a b c,c∈cs->R a b c->S a b c)->All3 S as bs cs:=by
 intro as bs cs h;induction h with
 |nil=>exact λ_=>.nil
 |cons h _ ih=>exact λf=>.cons (f _ _ _ bE h) (ih λa b c m=>f a b c (bL _ m))
def Afr (K:aK)(B H:Hp):Nat->aA->V->List aC->Prop
 |0,d,v,F=>F=[]/\Abj K B d v
 |n+1,d,v,F=>match d with
  |.list ds=>∃ p xs Fs,v=.ref p/\H p=aa (.lst xs)/\F=p::Fs.flatten/\All3 (Afr K B H n) ds xs Fs
  |.dict kds=>∃ p,∃ kvs:Nat×List (aI×V),∃ Fs,v=.ref p/\H p=aa (.dK kvs.1 kvs.2)/\F=p::Fs.flatten/\All3 (λ(kd:aA×aA) (kv:aI×V) f=>kd.1=kD kv.1/\Afr K B H n kd.2 kv.2 f) kds kvs.2 Fs
  |.tuple ds=>(n=0/\F=[]/\Abj K B (.tuple ds) v)\/(n≠0/\∃ p xs Fs,v=.ref p/\B p=aa (.tup xs)/\F=Fs.flatten/\All3 (Afr K B H n) ds xs Fs)
  |d=>F=[]/\Abj K B d v
theorem Afr.keep{B:Hp}(xb:Ext B B'):∀ {n:Nat} {d:aA} {v:V} {F:List aC},(∀ a∈F,H' a=H a)->Afr K B H n d v F->Afr K B' H' n d v F
 |0,d,v,F,_,h=>⟨h.1,h.2.ext xb⟩
 |n+1,.list ds,v,F,kp,h=>by
  obtain⟨p,xs,Fs,e,hp,rfl,q⟩:=h;refine⟨p,xs,Fs,e,(kp p bE).trans hp,rfl,q.imp λa b c m r=>Afr.keep xb (λz hz=>kp z (bL _ (iJ.2 ⟨c,m,hz⟩))) r⟩
 |n+1,.dict kds,v,F,kp,h=>by
  obtain⟨p,xs,Fs,e,hp,rfl,q⟩:=h;refine⟨p,xs,Fs,e,(kp p bE).trans hp,rfl,q.imp λa b c m r=>⟨r.1,Afr.keep xb (λz hz=>kp z (bL _ (iJ.2 ⟨c,m,hz⟩))) r.2⟩⟩
 |n+1,.none,v,F,_,h=>⟨h.1,h.2.ext xb⟩
 |n+1,.bool _,v,F,_,h=>⟨h.1,h.2.ext xb⟩
 |n+1,.int _,v,F,_,h=>⟨h.1,h.2.ext xb⟩
 |n+1,.str _,v,F,_,h=>⟨h.1,h.2.ext xb⟩
 |n+1,.tuple ds,v,F,kp,h=>by
  rcases h with⟨h0,h1,h2⟩|⟨h0,p,xs,Fs,e,hp,rfl,q⟩
  .exact .inl ⟨h0,h1,h2.ext xb⟩
  .exact .inr ⟨h0,p,xs,Fs,e,xb _ _ hp,rfl,q.imp λa b c m r=>Afr.keep xb (λz hz=>kp z (iJ.2 ⟨c,m,hz⟩)) r⟩
theorem YG{B:Hp}{R:aA->V->List aC->Prop}(f:∀ d v F,R d v F->Abj K B d v):∀ {ds:List aA} {xs:List V} {Fs:List (List aC)},All3 R ds xs Fs->Aal K B ds xs:=by
 intro ds xs Fs h;induction h with
 |nil=>exact Aaj.2 rfl
 |cons h _ ih=>exact Aaf.2 ⟨_,_,rfl,f _ _ _ h,ih⟩
theorem Xj{B:Hp}{R:aA×aA->aI×V->List aC->Prop}(f:∀ d v F,R d v F->d.1=kD v.1/\Abj K B d.2 v.2):∀ {ds:List (aA×aA)} {xs:List (aI×V)} {Fs:List (List aC)},All3 R ds xs Fs->Abq K B ds xs:=by
 intro ds xs Fs h;induction h with
 |nil=>exact Abh.2 rfl
 |@cons p q F ds xs Fs h _ ih=>
  obtain⟨k,d⟩:=p;obtain⟨k',v⟩:=q;exact Aa3.2 ⟨_,_,_,rfl,(f _ _ _ h).1,(f _ _ _ h).2,ih⟩
theorem Afr.share{B:Hp}(xb:Ext B B'):∀ {n:Nat} {d:aA} {v:V} {F:List aC},(∀ a∈F,∀ o,H a=aa o->B' a=aa o)->Afr K B H n d v F->Abj K B' d v
 |0,d,v,F,_,h=>h.2.ext xb
 |n+1,.list ds,v,F,kp,h=>by
  obtain⟨p,xs,Fs,e,hp,rfl,q⟩:=h;refine Aa7.2 ⟨p,xs,e,SqL.of (kp p bE _ hp),?_⟩;exact YG (λd v F r=>r) (q.imp λa b c m r=>Afr.share xb (λz hz=>kp z (bL _ (iJ.2 ⟨c,m,hz⟩))) r)
 |n+1,.dict kds,v,F,kp,h=>by
  obtain⟨p,xs,Fs,e,hp,rfl,q⟩:=h;refine ZO e (kp p bE _ hp) ?_;exact Xj (λd v F r=>r) (q.imp λa b c m r=>⟨r.1,Afr.share xb (λz hz=>kp z (bL _ (iJ.2 ⟨c,m,hz⟩))) r.2⟩)
 |n+1,.none,v,F,_,h=>h.2.ext xb
 |n+1,.bool _,v,F,_,h=>h.2.ext xb
 |n+1,.int _,v,F,_,h=>h.2.ext xb
 |n+1,.str _,v,F,_,h=>h.2.ext xb
 |n+1,.tuple ds,v,F,kp,h=>by
  rcases h with⟨h0,h1,h2⟩|⟨h0,p,xs,Fs,e,hp,rfl,q⟩
  .exact h2.ext xb
  .refine Aaq.2 ⟨p,xs,e,xb _ _ hp,?_⟩;exact YG (λd v F r=>r) (q.imp λa b c m r=>Afr.share xb (λz hz=>kp z (iJ.2 ⟨c,m,hz⟩)) r)
def gE:Nat->aA->Bool
 |0,d=>fD d
 |n+1,.list ds=>ds.all (gE n)
 |n+1,.dict kds=>kds.all λkd=>gE n kd.2
 |n+2,.tuple ds=>ds.all (gE (n+1))
 |n+1,d=>fD d
theorem Afr.flat{B:Hp}(xb:∀ a xs,B a=aa (.tup xs)->B' a=aa (.tup xs)):∀ {n:Nat} {d:aA} {v:V} {F:List aC},gE n d=ae->Afr K B H n d v F->Afr K B' H n d v F
 |0,d,v,F,f,h=>⟨h.1,h.2.flat xb d f⟩
 |n+1,.list ds,v,F,f,h=>by
  obtain⟨p,xs,Fs,e,hp,rfl,q⟩:=h;refine⟨p,xs,Fs,e,hp,rfl,?_⟩;have f':∀ d∈ds,gE n d=ae:=by simpa [gE] using f
  clear hp f e;induction q with
  |nil=>exact .nil
  |cons h t ih=>exact .cons (Afr.flat xb (f' _ bE) h) (ih λd m=>f' d (bL _ m))
 |n+1,.dict kds,v,F,f,h=>by
  obtain⟨p,xs,Fs,e,hp,rfl,q⟩:=h;refine⟨p,xs,Fs,e,hp,rfl,?_⟩;have f':∀ d∈kds,gE n d.2=ae:=λd m=>by
   have:kds.all (λkd=>gE n kd.2)=ae:=by simpa [gE] using f
   exact dQ.1 this d m
  clear hp f e;obtain⟨xe,xs⟩:=xs;replace q:All3 _ kds xs Fs:=q;induction q with
  |nil=>exact .nil
  |cons h t ih=>exact .cons ⟨h.1,Afr.flat xb (f' _ bE) h.2⟩ (ih λd m=>f' d (bL _ m))
 |n+1,.none,v,F,f,h=>⟨h.1,h.2.flat xb _ f⟩
 |n+1,.bool _,v,F,f,h=>⟨h.1,h.2.flat xb _ f⟩
 |n+1,.int _,v,F,f,h=>⟨h.1,h.2.flat xb _ f⟩
 |n+1,.str _,v,F,f,h=>⟨h.1,h.2.flat xb _ f⟩
 |1,.tuple ds,v,F,f,h=>by
  rcases h with⟨h0,h1,h2⟩|⟨h0,_⟩
  .exact .inl ⟨h0,h1,h2.flat xb _ f⟩
  .exact absurd rfl h0
 |n+2,.tuple ds,v,F,f,h=>by
  rcases h with⟨h0,_⟩|⟨h0,p,xs,Fs,e,hp,rfl,q⟩
  .exact absurd h0 ()
  .refine .inr ⟨h0,p,xs,Fs,e,xb _ _ hp,rfl,?_⟩;have f':∀ d∈ds,gE (n+1) d=ae:=by simpa [gE] using f
   clear hp f e;induction q with
   |nil=>exact .nil
   |cons h t ih=>exact .cons (Afr.flat xb (f' _ bE) h) (ih λd m=>f' d (bL _ m))
theorem All3.of {α β γ:Type}{R:α->β->γ->Prop}:∀ {as:List α} {bs:List β} {cs:List γ},All3 R as bs cs->∀ c∈cs,∃ a b,R a b c:=by
 intro as bs cs h;induction h with
 |nil=>exact λc m=>by simp at m
 |cons h _ ih=>
  intro c m;rw[10]
  .exact⟨_,_,h⟩
  .exact ih c m
theorem Afr.mut1{B:Hp}:∀ {n:Nat} {d:aA} {v:V} {F:List aC},Afr K B H n d v F->∀ a∈F,(∃ xs,H a=aa (.lst xs))\/∃ q,H a=aa (dO (.inl q))
 |0,d,v,F,h,a,m=>by rw[h.1] at m;simp at m
 |n+1,.list ds,v,F,h,a,m=>by
  obtain⟨p,xs,Fs,e,hp,rfl,q⟩:=h;rcases cX.1 m with e1|m2
  .rw[e1];exact .inl ⟨xs,hp⟩
  .obtain⟨f,hf,ha⟩:=iJ.1 m2;obtain⟨_,_,r⟩:=q.of f hf;exact Afr.mut1 r a ha
 |n+1,.dict kds,v,F,h,a,m=>by
  obtain⟨p,xs,Fs,e,hp,rfl,q⟩:=h;rcases cX.1 m with e1|m2
  .rw[e1];exact .inr ⟨xs,hp⟩
  .obtain⟨f,hf,ha⟩:=iJ.1 m2;obtain⟨_,_,r⟩:=q.of f hf;exact Afr.mut1 r.2 a ha
 |n+1,.none,v,F,h,a,m=>by rw[h.1] at m;simp at m
 |n+1,.bool _,v,F,h,a,m=>by rw[h.1] at m;simp at m
 |n+1,.int _,v,F,h,a,m=>by rw[h.1] at m;simp at m
 |n+1,.str _,v,F,h,a,m=>by rw[h.1] at m;simp at m
 |n+1,.tuple ds,v,F,h,a,m=>by
  rcases h with⟨_,h1,_⟩|⟨h0,p,xs,Fs,e,hp,rfl,q⟩
  .rw[h1] at m;simp at m
  .obtain⟨f,hf,ha⟩:=iJ.1 m;obtain⟨_,_,r⟩:=q.of f hf;exact Afr.mut1 r a ha
theorem Afr.mut{B:Hp}{F:List aC}(h:Afr K B H n d v F):∀ a∈F,(∃ xs,H a=aa (.lst xs))\/∃ q:DQ,H a=aa (dO q):=λa m=>(h.mut1 a m).imp id λ⟨q,e⟩=>⟨.inl q,e⟩
def Nd (K:aK)(B H:Hp)(d:aA)(v:V)(F:List aC):Prop:=∃ kds p,∃ ts:Nat×List (List aA×V),d=.dict ((.none,.none)::kds)/\v=.ref p/\H p=aa (.dT ts.1 ts.2)/\F=[p]/\(∀ kd∈kds,fD kd.2=ae)/\Acm K B kds ts.2
def Ay3 (K:aK)(B H:Hp)(d:aA)(v:V)(F:List aC):Prop:=(d=.none/\v=.non/\F=[])\/Nd K B H d v F
def Bj1 (K:aK)(B H:Hp)(d:aA)(v:V)(F:List aC):Prop:=∃ ku q Fs,∃ qp:Nat×List (aI×V),d=.dict ku/\v=.ref q/\H q=aa (.dK qp.1 qp.2)/\F=q::Fs.flatten/\All3 (λkd kv f=>kd.1=kD kv.1/\Ay3 K B H kd.2 kv.2 f) ku qp.2 Fs
def Af3 (K:aK)(B H:Hp)(n:Nat)(d:aA)(v:V)(F:List aC):Prop:=if n=9 then Ay3 K B H d v F else if n=10 then(d=.none/\v=.non/\F=[])\/Bj1 K B H d v F else Afr K B H n d v F
theorem Acm.flat{B:Hp}(xb:∀ a xs,B a=aa (.tup xs)->B' a=aa (.tup xs)):∀ {kds:List (aA×aA)} {ts:List (List aA×V)},(∀ kd∈kds,fD kd.2=ae)->Acm K B kds ts->Acm K B' kds ts
 |[],ts,_,h=>Ado.2 (Ado.1 h)
 |(k,d)::r,ts,f,h=>by
  obtain⟨k',x,rr,e,ek,h1,h2⟩:=Aca.1 h;exact Aca.2 ⟨k',x,rr,e,ek,h1.flat xb _ (f (k,d) bE),Acm.flat xb (λkd m=>f kd (bL _ m)) h2⟩
section
variable {B:Hp}{F:List aC}
theorem Ay3.keep (xb:Ext B B')(kp:∀ a∈F,H' a=H a)(h:Ay3 K B H d v F):Ay3 K B' H' d v F:=h.imp id λh=>by
 obtain⟨kds,p,ts,e1,e2,hp,rfl,f,r⟩:=h;exact⟨kds,p,ts,e1,e2,(kp p bE).trans hp,rfl,f,r.ext xb⟩
theorem Ay3.flat (xb:∀ a xs,B a=aa (.tup xs)->B' a=aa (.tup xs))(h:Ay3 K B H d v F):Ay3 K B' H d v F:=h.imp id λh=>by
 obtain⟨kds,p,ts,e1,e2,hp,rfl,f,r⟩:=h;exact⟨kds,p,ts,e1,e2,hp,rfl,f,r.flat xb f⟩
theorem Ay3.share (xb:Ext B B')(kp:∀ a∈F,∀ o,H a=aa o->B' a=aa o)(h:Ay3 K B H d v F):Abj K B' d v:=by
 rcases h with⟨rfl,rfl,_⟩|⟨kds,p,ts,rfl,e2,hp,rfl,f,r⟩
 .exact Abr.2 rfl
 exact(KO).2 ⟨p,ts,e2,kp p bE _ hp,r.ext xb⟩
theorem Ay3.mut (h:Ay3 K B H d v F):∀ a∈F,(∃ xs,H a=aa (.lst xs))\/∃ q:DQ,H a=aa (dO q):=by
 rcases h with⟨_,_,rfl⟩|⟨kds,p,ts,e1,e2,hp,rfl,f,r⟩
 .exact λa m=>by simp at m
 intro a m;rw[cE.1 m];exact .inr ⟨.inr ts,hp⟩
theorem Bj1.share (xb:Ext B B')(kp:∀ a∈F,∀ o,H a=aa o->B' a=aa o)(h:Bj1 K B H d v F):Abj K B' d v:=by
 obtain⟨ku,q,Fs,⟨xe,qp⟩,rfl,rfl,hq,rfl,h3⟩:=h;refine ZO (kvs:=(xe,qp)) rfl (kp q (by simp) _ hq) ?_
 have yw:∀ f∈Fs,∀ p∈f,∀ o,H p=aa o->B' p=aa o:=λf mf p m=>kp p (bL _ (iJ.2 ⟨f,mf,m⟩))
 clear hq kp;replace h3:All3 _ ku qp Fs:=h3;induction h3 with
 |nil=>exact Abh.2 rfl
 |cons h t ih=>exact Aa3.2 ⟨_,_,_,rfl,h.1,h.2.share xb (yw _ bE),ih λf m=>yw f (bL _ m)⟩
theorem Af3.keep (xb:Ext B B')(kp:∀ a∈F,H' a=H a)(h:Af3 K B H n d v F):Af3 K B' H' n d v F:=by
 unfold Af3 at h ⊢;split at h
 .rw[if_pos ‹_›];exact h.keep xb kp
 .rw[if_neg ‹_›];split at h
  .rw[if_pos ‹_›];refine h.imp id λh=>?_
   obtain⟨ku,q,Fs,qp,e1,e2,hq,rfl,h3⟩:=h;exact⟨ku,q,Fs,qp,e1,e2,(kp q bE).trans hq,rfl,h3.imp λkd kv f m r=>⟨r.1,r.2.keep xb λb hb=>kp b (bL _ (iJ.2 ⟨f,m,hb⟩))⟩⟩
  .rw[if_neg ‹_›];exact Afr.keep xb kp h
theorem Af3.share (xb:Ext B B')(kp:∀ a∈F,∀ o,H a=aa o->B' a=aa o)(h:Af3 K B H n d v F):Abj K B' d v:=by
 unfold Af3 at h;split at h
 .exact h.share xb kp
 .split at h
  .rcases h with⟨rfl,rfl,_⟩|h
   .exact Abr.2 rfl
   .exact h.share xb kp
  .exact Afr.share xb kp h
theorem Af3.flat (xb:∀ a xs,B a=aa (.tup xs)->B' a=aa (.tup xs))(f:gE n d=ae)(h:Af3 K B H n d v F):Af3 K B' H n d v F:=by
 unfold Af3 at h ⊢;split at h
 .rw[if_pos ‹_›];exact h.flat xb
 .rw[if_neg ‹_›];split at h
  .rw[if_pos ‹_›];refine h.imp id λh=>?_
   obtain⟨ku,q,Fs,qp,e1,e2,hq,eF,h3⟩:=h;exact⟨ku,q,Fs,qp,e1,e2,hq,eF,h3.imp λkd kv p m r=>⟨r.1,r.2.flat xb⟩⟩
  .rw[if_neg ‹_›];exact Afr.flat xb f h
theorem Af3.mut (h:Af3 K B H n d v F):∀ a∈F,(∃ xs,H a=aa (.lst xs))\/∃ q:DQ,H a=aa (dO q):=by
 unfold Af3 at h;split at h
 .exact h.mut
 .split at h
  .rcases h with⟨_,_,rfl⟩|⟨ku,q,Fs,qp,_,_,hq,rfl,h3⟩
   .exact λa m=>by simp at m
   intro b m;rw[10]
   .exact .inr ⟨.inl _,hq⟩
   .obtain⟨f,mf,m⟩:=iJ.1 m;obtain⟨_,_,r⟩:=h3.of f mf;exact r.2.mut b m
  .exact Afr.mut h
end
abbrev EF:=List (Option aA)->Option aA
abbrev BF:=List (Option aA)->Option Bool
abbrev AF:=List (Option aA)->Option (List aA)
def Amr (K:aK)(B:Hp)(Y:List (Option aA))(Z:St):Prop:=∀ (i:Nat) d,Y[i]?=aa (aa d)->∃ v,Z[i]?=aa (aa v)/\Abj K B d v
theorem Amr.ext{B:Hp}(h:Amr K B Y Z)(x:Ext B B'):Amr K B' Y Z:=λi d e=>let ⟨v,h1,h2⟩:=h i d e;⟨v,h1,h2.ext x⟩
def Res (K:aK)(P:aC->Prop)(n:Nat)(d:aA)(H:Hp)(Q:VK):Prop:=
 ∀ v H' Fr,Ext H H'->Fr.Nodup->(∀ a∈Fr,H a=ab/\∃ o,H' a=aa o)->Af3 K (hid H' (fu P Fr)) H' n d v Fr->Q v H'
section
variable {P:aC->Prop}
theorem Res.zero (h:Res K P 0 d H Q)(x:Ext H H')(r:Abj K (hid H' P) d v):Q v H':=
 h v H' [] x .nil (λa m=>by simp at m) ⟨rfl,by rw[Eg];exact r⟩
theorem eB (h:∀ v H',Ext H H'->Abj K (hid H' P) d v->Q v H'):Res K P 0 d H Q:=λv H' Fr x _ _ r=>by
 obtain⟨rfl,r⟩:=r;rw[Eg] at r;exact h v H' x r
theorem Res.mono (h:Res K P n d H Q)(x:Ext H H'):Res K P n d H' Q:=λv H2 Fr x2 nd fr r=>
 h v H2 Fr (x.trans x2) nd (λa m=>⟨x.none (fr a m).1,(fr a m).2⟩) r
theorem Res.of (hP:Hid P H)(h:Res K P 0 d H Q):Res K P n d H Q:=λv H2 Fr x2 nd fr r=>
 h.zero x2 (r.share (fX λa p=>.inl p) λa m o e=>fR (hP.new (fr a m).1) e)
theorem Res.lst{p:aC}(hP:Hid P H)(h:Res K P 1 (.list ds) H Q)(n:H p=ab)(r:Aal K (hid H P) ds xs):Q (.ref p) (upd H p (.lst xs)):=by
 refine h (.ref p) _ [p] (Ext.new n) (jZ.2 ⟨by simp,.nil⟩) (λa m=>?_) ⟨p,xs,xs.map λ_=>[],rfl,dZ,?_,?_⟩
 .have:a=p:=by simpa using m
  rw[13];exact⟨n,_,dZ⟩
 .have:∀ l:List V,(l.map λ_=>([]:List aC)).flatten=[]:=λl=>by
   induction l with
   |nil=>rfl
   |cons a l ih=>rw[dC,rZ,ih];rfl
  rw[this]
 .have xe:Ext (hid H P) (hid (upd H p (.lst xs)) (fu P [p])):=λb o e=>by
   obtain⟨nb,e⟩:=Abx.1 e;have hb:=iQ e n;exact fR (λq=>q.elim nb λm=>hb (by simpa using m)) (by rw[cK hb];exact e)
  generalize hid (upd H p (.lst xs)) (fu P [p])=B at xe;generalize upd H p (.lst xs)=H1;clear h;have go:∀ (ds:List aA) (xs:List V),Aal K (hid H P) ds xs->All3 (Afr K B H1 0) ds xs (xs.map λ_=>[]):=by
   intro ds;induction ds with
   |nil=>intro xs r;rw[Aaj.1 r];exact .nil
   |cons d ds ih=>
    intro xs r;obtain⟨y,t,rfl,h1,h2⟩:=Aaf.1 r;exact .cons ⟨rfl,h1.ext xe⟩ (ih t h2)
  exact go ds xs r
theorem Res.tup{p:aC}(hP:Hid P H)(h:Res K P 0 (.tuple ds) H Q)(n:H p=ab)(r:Aal K (hid H P) ds xs):Q (.ref p) (upd H p (.tup xs)):=by
 refine h.zero (Ext.new n) (Aaq.2 ⟨p,xs,rfl,fR (hP.new n) dZ,r.ext λb o e=>?_⟩)
 obtain⟨nb,e⟩:=Abx.1 e;exact fR nb (Ext.new n _ _ e)
end
def tF (K:aK)(n:Nat)(f:EF):TE:=λZ H Q=>∃ P Y d,Hid P H/\Amr K (hid H P) Y Z/\f Y=aa d/\Res K P n d H Q
def sy (K:aK)(f:BF):TT:=λZ H Q=>∃ P Y b,Hid P H/\Amr K (hid H P) Y Z/\f Y=aa b/\∀ H',Ext H H'->Q b H'
def tAF (K:aK)(f:AF):TA:=λZ H Q=>∃ P Y ds,Hid P H/\Amr K (hid H P) Y Z/\f Y=aa ds/\∀ vs H',Ext H H'->Aal K (hid H' P) ds vs->Q vs H'
abbrev DF (n:Nat)(X:Cx)(e:aU)(f:EF):Prop:=PE X e (tF X.K n f)
abbrev DE (X:Cx)(e:aU)(f:EF):Prop:=PE X e (tF X.K 0 f)
abbrev DT (X:Cx)(e:aU)(f:BF):Prop:=PT X e (sy X.K f)
abbrev DW (X:Cx)(e:aU)(f:BF):Prop:=PW X e (sy X.K f)
abbrev DA (X:Cx)(es:List aU)(f:AF):Prop:=PA X es (tAF X.K f)
section
variable {a:aU}
theorem PE.imp {t t':TE}(h:PE X e t)(w:∀ Z H Q,t' Z H Q->t Z H Q):PE X e t':=λac s Z H Q I q=>h ac s Z H Q I (w _ _ _ q)
theorem PT.imp {t':TT}(h:PT X e t)(w:∀ Z H Q,t' Z H Q->t Z H Q):PT X e t':=λac s Z H Q I q=>h ac s Z H Q I (w _ _ _ q)
theorem PW.imp {t':TT}(h:PW X e t)(w:∀ Z H Q,t' Z H Q->t Z H Q):PW X e t':=λdw ac s Z H Q I q=>h dw ac s Z H Q I (w _ _ _ q)
theorem PA.imp {t t':TA}(h:PA X es t)(w:∀ Z H Q,t' Z H Q->t Z H Q):PA X es t':=λpos ac s Z H Q I q=>h pos ac s Z H Q I (w _ _ _ q)
theorem kL {f:EF}(h:DF n X e f):DE X e f:=PE.imp h λZ H Q ⟨P,Y,d,hP,rs,ef,k⟩=>⟨P,Y,d,hP,rs,ef,Res.of hP k⟩
noncomputable def aB (i:Nat):EF:=λY=>(Y[i]?).join
theorem YJ(h:aB i Y=aa d):Y[i]?=aa (aa d):=by
 unfold aB at h
 grind
theorem oE (i:Nat)(hN:Nm X i x:=by exact iO):DE X (.Name x pos) (aB i):=PE.imp (hN.pe) λZ H Q gh=>by
 rw[4];obtain⟨v,h1,h2⟩:=rs i d (YJ ef);exact⟨v,h1,k.zero Ext.refl h2⟩
def eC (d:aA):EF:=λ_=>aa d
theorem xI(h:PE X e (tC v))(hr:∀ H,Abj X.K H d v):DE X e (eC d):=PE.imp h λZ H Q gh=>by
 obtain⟨P,Y,d',hP,rs,ef,k⟩:=gh;cases ef;exact k.zero Ext.refl (hr _)
theorem mJ {i j}:DE X (.Constant (.int i) j pos) (eC (.int i)):=xI TF λ_=>Aak.2 rfl
theorem RD {i j}:DE X (.Constant (.bool i) j pos) (eC (.bool i)):=xI Mo λ_=>Aar.2 rfl
theorem SV {j}:DE X (.Constant .none j pos) (eC .none):=xI TX λ_=>Abr.2 rfl
theorem mZ {i j}(h:cR (.str i)=ae:=by rw[0]):DE X (.Constant (.str i) j pos) (eC (.str i)):=xI Pg λ_=>Aa8.2 ⟨rfl,h⟩
theorem j7{i:Int}{u:aD}(hg:Gl X x)(hm:X.mg x=aa u)(r:RelV (.int i) u)(hd:(x==("__debug__" : aE))=af:=by decide):DE X (.Name x pos) (eC (.int i)):=xI (Ue hg hm r hd) λ_=>Aak.2 rfl
def aJ:AF:=λ_=>aa []
def aG (f:EF)(g:AF):AF:=λY=>(f Y).bind λd=>(g Y).bind λds=>aa (d::ds)
theorem pT:DA X [] aJ:=PA.imp iE λZ H Q gh=>by
 rw[4];cases ef;exact k [] H Ext.refl (Aaj.2 rfl)
theorem hJ {f:EF}{g:AF}(h1:DE X e f)(h2:DA X es g)(hs:bW (e::es) X.env=(af,bT e X.env)::bW es X.env:=by rfl):DA X (e::es) (aG f g):=
 PA.imp (fK h1 h2 hs) λZ H Q gh=>by
  obtain⟨P,Y,ds,hP,rs,ef,k⟩:=gh;obtain⟨d,e1,ef⟩:=ak ef;obtain⟨r,e2,ef⟩:=ak ef;cases ef;exact⟨P,Y,d,hP,rs,e1,eB λv H1 x1 r1=>⟨P,Y,r,hP.ext x1,rs.ext (dB x1),e2,λvs H2 x2 r2=>
   k _ _ (x1.trans x2) (Aaf.2 ⟨v,vs,rfl,r1.ext (dB x2),r2⟩)⟩⟩
def fU (g:AF):EF:=λY=>(g Y).bind λds=>if ds.length<=sizeLine then aa (.tuple ds) else ab
def dM (g:AF):EF:=λY=>(g Y).bind λds=>if ds.length<=sizeLine then aa (.list ds) else ab
theorem cM {α:Type}{c:Prop}[Decidable c]{x y:α}(h:(if c then aa x else ab)=aa y):c/\x=y:=by
 grind
theorem SM {g:AF}{x1}(h:DA X es g):DE X (.Tuple es x1 pos) (fU g):=PE.imp (NK h) λZ H Q gh=>by
 rw[4];obtain⟨ds,e1,ef⟩:=ak ef;obtain⟨hl,rfl⟩:=cM ef;exact⟨P,Y,ds,hP,rs,e1,λvs H1 x1 r1=>⟨by rw[r1.length];exact hl,λp hp=>(k.mono x1).tup (hP.ext x1) hp r1⟩⟩
theorem vD {g:AF}(h:DA X es g):DF 1 X (.List es pos) (dM g):=PE.imp (Pl h) λZ H Q gh=>by
 rw[4];obtain⟨ds,e1,ef⟩:=ak ef;obtain⟨hl,rfl⟩:=cM ef;exact⟨P,Y,ds,hP,rs,e1,λvs H1 x1 r1=>⟨by rw[r1.length];exact hl,λp hp=>(k.mono x1).lst (hP.ext x1) hp r1⟩⟩
def jl (K:aK)(n:Nat)(r:R2)(g:aA->aA->Option aA):Prop:=
 ∀ (P:aC->Prop) (H:Hp) (x y:V) (a b d:aA) (Q:VK),Hid P H->Abj K (hid H P) a x->Abj K (hid H P) b y->g a b=aa d->Res K P n d H Q->r x y H Q
def ah (g:aA->aA->Option aA)(fa fb:EF):EF:=λY=>(fa Y).bind λa=>(fb Y).bind λb=>g a b
theorem HI{fa fb:EF}(hg:jl K n r g):∀ Z H Q,tF K n (ah g fa fb) Z H Q->yc r (tF K 0 fa) (tF K 0 fb) Z H Q:=λZ H Q gh=>by
 rw[4];obtain⟨d1,e1,ef⟩:=ak ef;obtain⟨d2,e2,ef⟩:=ak ef;exact⟨P,Y,d1,hP,rs,e1,eB λv H1 x1 r1=>⟨P,Y,d2,hP.ext x1,rs.ext (dB x1),e2,eB λu H2 x2 r2=>
  hg P H2 v u d1 d2 d Q (hP.ext (x1.trans x2)) (r1.ext (dB x2)) r2 ef (k.mono (x1.trans x2))⟩⟩
theorem pM {op:Operator}{fa fb:EF}(ho:OpR X (jT op) r)(hg:jl X.K n r g)(ha:DE X a fa)(hb:DE X b fb):DF n X (.BinOp a op b pos) (ah g fa fb):=PE.imp (Ll ho ha hb) (HI hg)
theorem BY {op:CmpOp}{fa fb:EF}(ho:OpR X (fZ op) r)(hg:jl X.K 0 r g)(ha:DE X a fa)(hb:DE X b fb)(hm:uB op b=af):DE X (.Compare a [op] [b] pos) (ah g fa fb):=PE.imp (Em ho ha hb hm) (HI hg)
def UnD (K:aK)(n:Nat)(r:V->Hp->VK->Prop)(g:aA->Option aA):Prop:=
 ∀ (P:aC->Prop) (H:Hp) (x:V) (a d:aA) (Q:VK),Hid P H->Abj K (hid H P) a x->g a=aa d->Res K P n d H Q->r x H Q
def ff (g:aA->Option aA)(fa:EF):EF:=λY=>(fa Y).bind g
theorem Nh {op:UnaryOp}{r:V->Hp->VK->Prop}{g:aA->Option aA}{fa:EF}(ho:O1 X (unaryOp op) r)(hg:UnD X.K n r g)(ha:DE X a fa):DF n X (.UnaryOp op a pos) (ff g fa):=
 PE.imp (Mc ho ha) λZ H Q gh=>by
  rw[4];obtain⟨d1,e1,ef⟩:=ak ef;exact⟨P,Y,d1,hP,rs,e1,eB λv H1 x1 r1=>hg P H1 v d1 d Q (hP.ext x1) r1 ef (k.mono x1)⟩
def CallD (K:aK)(n:Nat)(r:List V->Hp->VK->Prop)(g:List aA->Option aA):Prop:=
 ∀ (P:aC->Prop) (H:Hp) (xs:List V) (ds:List aA) (d:aA) (Q:VK),Hid P H->Aal K (hid H P) ds xs->g ds=aa d->Res K P n d H Q->r xs H Q
def aL (g:List aA->Option aA)(fa:AF):EF:=λY=>(fa Y).bind g
variable {r:List V->Hp->VK->Prop}{g:List aA->Option aA}{fa:AF}{id:String}
theorem vV (hc:Ac1 X (.builtin id) r)(hg:CallD X.K n r g)(yx:Gl X x)(hm:X.mg x=ab)(hv:mO x=aa (.builtin id))(ha:DA X (e::es) fa)(hn:x ≠ "__name__":=by decide)(jr:(x==("__debug__" : aE))=af:=by decide)
  (he:bW (e::es) X.env=(af,bT e X.env)::bW es X.env:=by rfl) (dt:(jU pos (bW es X.env)).any (·.1)=af:=by rfl):DF n X (.Call (.Name x p) (e::es) [] pos) (aL g fa):=
 PE.imp (JO hc yx hm hv ha hn jr he dt) λZ H Q gh=>by
  rw[4];obtain⟨d1,e1,ef⟩:=ak ef;exact⟨P,Y,d1,hP,rs,e1,λvs H1 x1 r1=>hg P H1 vs d1 d Q (hP.ext x1) r1 ef (k.mono x1)⟩
theorem nF (hc:Ac1 X (.type T) r)(hg:CallD X.K n r g)(yx:Gl X x)(hm:X.mg x=ab)(hv:mO x=aa (.type T))(ha:DA X (e::es) fa)(hn:x ≠ "__name__":=by decide)(jr:(x==("__debug__" : aE))=af:=by decide)
  (he:bW (e::es) X.env=(af,bT e X.env)::bW es X.env:=by rfl) (dt:(jU pos (bW es X.env)).any (·.1)=af:=by rfl):DF n X (.Call (.Name x p) (e::es) [] pos) (aL g fa):=
 PE.imp (yT hc yx hm hv ha hn jr he dt) λZ H Q gh=>by
  rw[4];obtain⟨d1,e1,ef⟩:=ak ef;exact⟨P,Y,d1,hP,rs,e1,λvs H1 x1 r1=>hg P H1 vs d1 d Q (hP.ext x1) r1 ef (k.mono x1)⟩
noncomputable def rj:aA->Option Bool
 |.bool b=>aa b
 |_=>ab
theorem DD{b:Bool}(h:rj d=aa b):d=.bool b:=by
 cases d<;>simp[rj] at h;rw[h]
def au (f:EF):BF:=λY=>(f Y).bind rj
theorem Ol {f:EF}(h:DE X e f)(he:∀ dw,isTrue e X.env dw=(do let v <-dw;standAt e.pos;nW [v] (truthy v)):=by intro _;rfl):DT X e (au f):=PT.imp (Qa h he) λZ H Q gh=>by
 obtain⟨P,Y,b,hP,rs,ef,k⟩:=gh;obtain⟨d,e1,ef⟩:=ak ef;cases DD ef;exact⟨P,Y,_,hP,rs,e1,eB λv H1 x1 r1=>⟨b,Aar.1 r1,k H1 x1⟩⟩
theorem oD {op:CmpOp}{r:R2}{g:aA->aA->Option aA}{fa fb:EF}(ho:OpR X (fZ op) r)(hg:jl X.K 0 r g)(ha:DE X a fa)(hb:DE X b fb)(hm:uB op b=af):DT X (.Compare a [op] [b] pos) (au (ah g fa fb)):=
 PT.imp (Fo ho ha hb hm) λZ H Q gh=>by
  obtain⟨P,Y,c,hP,rs,ef,k⟩:=gh;obtain⟨d,e1,ef⟩:=ak ef;cases DD ef;exact HI hg Z H _ ⟨P,Y,_,hP,rs,e1,eB λv H1 x1 r1=>⟨c,Aar.1 r1,k H1 x1⟩⟩
def qT (f:BF):BF:=λY=>(f Y).bind λb=>aa (!b)
def mX (f g:BF):BF:=λY=>(f Y).bind λb=>if b=ae then g Y else aa af
def O3 (f g:BF):BF:=λY=>(f Y).bind λb=>if b=ae then aa ae else g Y
variable {fB gB:BF}{rest:List aU}
theorem Om (h:DT X a fB):DT X (.UnaryOp .Not a pos) (qT fB):=PT.imp (Oz h) λZ H Q gh=>by
 obtain⟨P,Y,c,hP,rs,ef,k⟩:=gh;obtain⟨b,e1,ef⟩:=ak ef;cases ef;exact⟨P,Y,b,hP,rs,e1,λH1 x1=>k H1 x1⟩
theorem Si (h:DT X a fB):DW X (.BoolOp .And [a] pos) fB:=Gm h
theorem Of (h:DT X a fB):DW X (.BoolOp .Or [a] pos) fB:=Mv h
theorem Ph (h:DT X a fB)(h2:DW X (.BoolOp .And (b::rest) pos) gB):DW X (.BoolOp .And (a::b::rest) pos) (mX fB gB):=PW.imp (UN h h2) λZ H Q gh=>by
 obtain⟨P,Y,c,hP,rs,ef,k⟩:=gh;obtain⟨b,e1,ef⟩:=ak ef;refine⟨P,Y,b,hP,rs,e1,λH1 x1=>?_⟩
 cases b with
 |true=>exact nP ⟨P,Y,c,hP.ext x1,rs.ext (dB x1),by simpa using ef,λH2 x2=>k H2 (x1.trans x2)⟩
 |false=>
  grind
theorem Lr (h:DT X a fB)(h2:DW X (.BoolOp .Or (b::rest) pos) gB):DW X (.BoolOp .Or (a::b::rest) pos) (O3 fB gB):=PW.imp (Mb h h2) λZ H Q gh=>by
 obtain⟨P,Y,c,hP,rs,ef,k⟩:=gh;obtain⟨b,e1,ef⟩:=ak ef;refine⟨P,Y,b,hP,rs,e1,λH1 x1=>?_⟩
 cases b with
 |true=>
  grind
 |false=>exact nM ⟨P,Y,c,hP.ext x1,rs.ext (dB x1),by simpa using ef,λH2 x2=>k H2 (x1.trans x2)⟩
theorem QR (h:DW X a fB):DT X a fB:=h.pt
def QN (f:EF):EF:=λY=>(f Y).bind λd=>(rj d).bind λb=>aa (.bool (!b))
def sG (f g:EF):EF:=λY=>(f Y).bind λd=>(rj d).bind λb=>if b=ae then g Y else aa (.bool af)
variable {f1 f2:EF}
theorem UL {op}(h:DE X a f1):DE X (.BoolOp op [a] pos) f1:=UJ h
theorem Nk (h:DE X a f1):DE X (.UnaryOp .Not a pos) (QN f1):=PE.imp (Py h) λZ H Q gh=>by
 obtain⟨P,Y,c,hP,rs,ef,k⟩:=gh;obtain⟨d,e1,ef⟩:=ak ef;obtain⟨b,e2,bm⟩:=ak ef;clear ef;have ef:=bm;clear bm;cases ef;cases DD e2;exact⟨P,Y,_,hP,rs,e1,eB λv H1 x1 r1=>⟨b,Aar.1 r1,k.zero x1 (Aar.2 rfl)⟩⟩
theorem HR (h:DE X a f1)(h2:DE X (.BoolOp .And (b::rest) pos) f2):DE X (.BoolOp .And (a::b::rest) pos) (sG f1 f2):=PE.imp (SR h h2) λZ H Q gh=>by
 obtain⟨P,Y,c,hP,rs,ef,k⟩:=gh;obtain⟨d,e1,ef⟩:=ak ef;obtain⟨b,e2,bm⟩:=ak ef;clear ef;have ef:=bm;clear bm;cases DD e2;refine⟨P,Y,_,hP,rs,e1,eB λv H1 x1 r1=>⟨b,Aar.1 r1,?_⟩⟩
 cases b with
 |true=>exact nP ⟨P,Y,c,hP.ext x1,rs.ext (dB x1),by simpa using ef,k.mono x1⟩
 |false=>
  have:jW af=c:=by simpa using ef
  rw[13];exact nM (k.zero x1 (Aar.2 rfl))
end
abbrev Slot:=Option (Nat×aA)
abbrev aR:=List Slot
def vS (Y:aR):List (Option aA):=Y.map λs=>match s with|some (0,d)=>aa d|_=>ab
def vA (Y:aR):List (Option aA):=Y.map λs=>s.map (·.2)
theorem Ms {Y:aR}(h:(vS Y)[i]?=aa (aa d)):Y[i]?=aa (aa (0,d)):=by
 unfold vS at h
 grind
theorem Qc {Y:aR}(h:(vA Y)[i]?=aa (aa d)):∃ n,Y[i]?=aa (aa (n,d)):=by
 unfold vA at h;rw[eZ] at h;cases e:Y[i]? with
 |none=>rw[e] at h;simp at h
 |some s=>
  rw[e] at h;cases s with
  |none=>simp at h
  |some q=>
   grind
abbrev Hd (P0:aC->Prop)(fp:Nat->List aC):aC->Prop:=λa=>P0 a\/∃ i,a∈fp i
structure Sta (K:aK)(H0:Hp)(P0:aC->Prop)(B0:Hp)(Y:aR)(Z:St)(H:Hp)(fp:Nat->List aC):Prop where
 len:Z.length=Y.length
 nd:∀ i,(fp i).Nodup
 dj:∀ i j a,a∈fp i->a∈fp j->i=j
 own:∀ i a,a∈fp i->H0 a=ab/\((∃ xs,H a=aa (.lst xs))\/∃ q:DQ,H a=aa (dO q))
 ext:Ext H0 H
 hd:Hid P0 H0
 base:Ext B0 (hid H (Hd P0 fp))
 slot:∀ (i:Nat) n d,Y[i]?=aa (aa (n,d))->∃ v,Z[i]?=aa (aa v)/\Af3 K (hid H (Hd P0 fp)) H n d v (fp i)
section
variable {Y:aR}
theorem Sta.hid (S:Sta K H0 P0 B0 Y Z H fp):Hid (Hd P0 fp) H:=λa h=>by
 rcases h with h|⟨i,h⟩
 .exact S.hd.ext S.ext a h
 .exact(S.own i a h).2
theorem Sta.np (S:Sta K H0 P0 B0 Y Z H fp)(m:a∈fp i):¬ P0 a:=S.hd.new (S.own i a m).1
theorem Sta.grow (S:Sta K H0 P0 B0 Y Z H fp)(x:Ext H H'):Sta K H0 P0 B0 Y Z H' fp:=by
 refine⟨S.len,S.nd,S.dj,λi a m=>⟨(S.own i a m).1,(S.own i a m).2.imp (λ⟨xs,e⟩=>⟨xs,x _ _ e⟩) λ⟨xs,e⟩=>⟨xs,x _ _ e⟩⟩,S.ext.trans x,S.hd,S.base.trans (dB x),λi n d e=>?_⟩
 obtain⟨v,h1,h2⟩:=S.slot i n d e;refine⟨v,h1,h2.keep (dB x) λa m=>?_⟩
 rcases(S.own i a m).2 with⟨xs,e⟩|⟨xs,e⟩
 all_goals grind
theorem Sta.viewS (S:Sta K H0 P0 B0 Y Z H fp):Amr K (L2.hid H (Hd P0 fp)) (vS Y) Z:=λi d e=>by
 obtain⟨v,h1,h2⟩:=S.slot i 0 d (Ms e);exact⟨v,h1,h2.2⟩
theorem Sta.viewA (S:Sta K H0 P0 B0 Y Z H fp):Amr K (L2.hid H P0) (vA Y) Z:=λi d e=>by
 obtain⟨n,e⟩:=Qc e;obtain⟨v,h1,h2⟩:=S.slot i n d e;exact⟨v,h1,h2.share (fX λa p=>.inl p) λa m o e=>fR (S.np m) e⟩
def Tmp (K:aK)(H0:Hp)(P0:aC->Prop)(B0:Hp)(Y:aR)(Z:St)(n:Nat)(d:aA)(v:V)(H:Hp):Prop:=
 ∃ fp,Sta K H0 P0 B0 Y Z H fp/\Af3 K (L2.hid H (Hd P0 fp)) H n d v (fp Y.length)
inductive Md|s|a
noncomputable def eV (n:Nat)(m:Md)(f:EF)(Y:aR):Option aA:=match m with
 |.s=>f (vS Y)
 |.a=>(f (vA Y)).bind λd=>if gE n d=ae then aa d else ab
noncomputable def bV (m:Md)(f:BF)(Y:aR):Option Bool:=match m with
 |.s=>f (vS Y)
 |.a=>f (vA Y)
noncomputable def aV (m:Md)(f:AF)(Y:aR):Option (List aA):=match m with
 |.s=>f (vS Y)
 |.a=>f (vA Y)
def tE (K:aK)(H0:Hp)(P0:aC->Prop)(n:Nat)(m:Md)(f:EF):TE:=λZ H Q=>∃ B0 Y fp d,Sta K H0 P0 B0 Y Z H fp/\eV n m f Y=aa d/\∀ v H',Tmp K H0 P0 B0 Y Z n d v H'->Q v H'
end
theorem Sta.trim{Y:aR}(S:Sta K H0 P0 B0 Y Z H fp):∃ br,Sta K H0 P0 B0 Y Z H br/\∀ i a,a∈br i->a∈fp i/\∃ n d,Y[i]?=aa (aa (n,d)):=by
 let br:Nat->List aC:=λi=>match Y[i]? with
  |some (aa _)=>fp i
  |_=>[]
 have sub:∀ i a,a∈br i->a∈fp i/\∃ n d,Y[i]?=aa (aa (n,d)):=λi a m=>by
  grind
 have same:∀ i n d,Y[i]?=aa (aa (n,d))->br i=fp i:=λi n d e=>by
  grind
 have xb:Ext (L2.hid H (Hd P0 fp)) (L2.hid H (Hd P0 br)):=fX λa h=>h.imp id λ⟨i,m⟩=>⟨i,(sub i a m).1⟩
 refine⟨br,⟨S.len,λi=>?_,λi j a h1 h2=>S.dj i j a (sub i a h1).1 (sub j a h2).1,λi a m=>S.own i a (sub i a m).1,S.ext,S.hd,S.base.trans xb,λi n d e=>?_⟩,sub⟩
 .show(match Y[i]? with|some (aa _)=>fp i|_=>[]).Nodup
  split
  .exact S.nd i
  .exact wV
 .obtain⟨v,h1,h2⟩:=S.slot i n d e;rw[same i n d e];exact⟨v,h1,h2.keep xb λa m=>rfl⟩
theorem QO{f:EF}(m:Md):∀ Z H Q,tE K H0 P0 n m f Z H Q->tF K n f Z H Q:=λZ H Q gh=>by
 obtain⟨B0,Y,fp,d,S,ef,k⟩:=gh;cases m with
 |s=>
  refine⟨Hd P0 fp,vS Y,d,S.hid,S.viewS,ef,λv H' Fr x nd fr r=>k v H' ?_⟩
  have S':=S.grow x;have cb:∀ a,Hd P0 (λi=>if i=Y.length then Fr else fp i) a->fu (Hd P0 fp) Fr a:=λa h=>by
   grind
  have nfr:∀ i a,a∈fp i->a∉Fr:=λi a h1 h2=>by
   have:=(fr a h2).1;rcases(S.own i a h1).2 with⟨xs,e⟩|⟨xs,e⟩<;>rw[this] at e<;>first|cases e|(cases xs<;>simp[dO] at e)
  have xb:Ext (L2.hid H (Hd P0 fp)) (L2.hid H' (Hd P0 λi=>if i=Y.length then Fr else fp i)):=λb o e=>by
   obtain⟨nb,e⟩:=Abx.1 e;refine fR (λq=>?_) (x _ _ e)
   grind
  refine⟨λi=>if i=Y.length then Fr else fp i,⟨S.len,λi=>?_,λi j a hi hj=>?_,λi a hi=>?_,S'.ext,S.hd,S.base.trans xb,λi n' d' e'=>?_⟩,?_⟩
  .by_cases hi:i=Y.length
   .simp only[hi,if_true];exact nd
   .simp only[hi,if_false];exact S.nd i
  .by_cases h1:i=Y.length<;>by_cases h2:j=Y.length
   .rw[h1,h2]
   .grind
   .grind
   .simp only[h1,if_false] at hi;simp only[h2,if_false] at hj;exact S.dj i j a hi hj
  .by_cases h1:i=Y.length
   .simp only[h1,if_true] at hi;exact⟨S.ext.none (fr a hi).1,r.mut a hi⟩
   .simp only[h1,if_false] at hi;exact S'.own i a hi
  .have bh:=(cJ.1 e').1;have h1:i≠Y.length:=()
   obtain⟨v',q1,q2⟩:=S'.slot i n' d' e';refine⟨v',q1,?_⟩;simp only[h1,if_false];obtain⟨v2,p1,p2⟩:=S.slot i n' d' e';have ev:=fF (fF (p1.symm.trans q1));subst ev;refine p2.keep xb λa m=>?_
   rcases(S.own i a m).2 with⟨xs,e⟩|⟨xs,e⟩
   all_goals grind
  .simp only[if_true];exact r.keep (fX cb) λa m=>rfl
 |a=>
  obtain⟨d',ed,ef⟩:=ak ef;obtain⟨fl,rfl⟩:=cM ef;obtain⟨fp,S,trm⟩:=S.trim;refine⟨P0,vA Y,d',S.hd.ext S.ext,S.viewA,ed,λv H' Fr x nd fr r=>k v H' ?_⟩
  have S':=S.grow x;have nfr:∀ i a,a∈fp i->a∉Fr:=λi a h1 h2=>by
   have:=(fr a h2).1;rcases(S.own i a h1).2 with⟨xs,e⟩|⟨xs,e⟩<;>rw[this] at e<;>first|cases e|(cases xs<;>simp[dO] at e)
  have xb:Ext (L2.hid H (Hd P0 fp)) (L2.hid H' (Hd P0 λi=>if i=Y.length then Fr else fp i)):=λb o e=>by
   obtain⟨nb,e⟩:=Abx.1 e;refine fR (λq=>?_) (x _ _ e)
   grind
  refine⟨λi=>if i=Y.length then Fr else fp i,⟨S.len,λi=>?_,λi j a hi hj=>?_,λi a hi=>?_,S'.ext,S.hd,S.base.trans xb,λi n' d' e'=>?_⟩,?_⟩
  .by_cases hi:i=Y.length
   .simp only[hi,if_true];exact nd
   .simp only[hi,if_false];exact S.nd i
  .by_cases h1:i=Y.length<;>by_cases h2:j=Y.length
   .rw[h1,h2]
   .grind
   .grind
   .simp only[h1,if_false] at hi;simp only[h2,if_false] at hj;exact S.dj i j a hi hj
  .by_cases h1:i=Y.length
   .simp only[h1,if_true] at hi;exact⟨S.ext.none (fr a hi).1,r.mut a hi⟩
   .simp only[h1,if_false] at hi;exact S'.own i a hi
  .have bh:=(cJ.1 e').1;have h1:i≠Y.length:=()
   obtain⟨v2,p1,p2⟩:=S.slot i n' d' e';refine⟨v2,p1,?_⟩;simp only[h1,if_false];refine p2.keep xb λa m=>?_
   rcases(S.own i a m).2 with⟨xs,e⟩|⟨xs,e⟩
   all_goals grind
  .simp only[if_true];refine r.flat (λa xs e=>?_) fl
   obtain⟨na,e⟩:=Abx.1 e;refine fR (λq=>?_) e
   rcases q with q|⟨j,q⟩
   .exact na (.inl q)
   .by_cases hj:j=Y.length
    .grind
    .simp only[hj,if_false] at q;rcases(S'.own j a q).2 with⟨ys,e2⟩|⟨ys,e2⟩<;>rw[e] at e2<;>first|cases e2|(cases ys<;>simp[dO] at e2)
theorem ev {f:EF}(m:Md)(h:DF n X e f):PE X e (tE X.K H0 P0 n m f):=PE.imp h (QO m)
def tB' (K:aK)(H0:Hp)(P0:aC->Prop)(m:Md)(f:BF):TT:=λZ H Q=>∃ B0 Y fp b,Sta K H0 P0 B0 Y Z H fp/\bV m f Y=aa b/\∀ H',Sta K H0 P0 B0 Y Z H' fp->Q b H'
theorem L4 {f:BF}(m:Md)(h:DT X e f):PT X e (tB' X.K H0 P0 m f):=PT.imp h λZ H Q gh=>by
 obtain⟨B0,Y,fp,b,S,ef,k⟩:=gh;cases m with
 |s=>exact⟨Hd P0 fp,vS Y,b,S.hid,S.viewS,ef,λH' x=>k H' (S.grow x)⟩
 |a=>exact⟨P0,vA Y,b,S.hd.ext S.ext,S.viewA,ef,λH' x=>k H' (S.grow x)⟩
inductive Out where
 |nx (Y:aR)|rt (d:aA)|bk (Y:aR)|ct (Y:aR)
abbrev SF:=aR->Option Out
def QG (K:aK)(H0:Hp)(P0:aC->Prop)(n0:Nat)(d:aA)(v:V)(H':Hp):Prop:=
 ∃ Fr,Ext H0 H'/\Fr.Nodup/\(∀ a∈Fr,H0 a=ab/\∃ o,H' a=aa o)/\Af3 K (hid H' (fu P0 Fr)) H' n0 d v Fr
def RQ (K:aK)(H0:Hp)(P0:aC->Prop)(B0:Hp)(n0:Nat)(D:Ends):Out->Prop
 |.nx Y=>∀ Z H fp,Sta K H0 P0 B0 Y Z H fp->D.nx Z H
 |.bk Y=>∀ Z H fp,Sta K H0 P0 B0 Y Z H fp->D.bk Z H
 |.ct Y=>∀ Z H fp,Sta K H0 P0 B0 Y Z H fp->D.ct Z H
 |.rt d=>∀ v H',QG K H0 P0 n0 d v H'->D.rt v H'
def tS (K:aK)(H0:Hp)(P0:aC->Prop)(n0:Nat)(F:SF):TS:=λD Z H=>∃ B0 Y fp o,Sta K H0 P0 B0 Y Z H fp/\F Y=aa o/\RQ K H0 P0 B0 n0 D o
abbrev DS (X:Cx)(H0:Hp)(P0:aC->Prop)(n0:Nat)(s:eW)(F:SF):Prop:=PS X s (tS X.K H0 P0 n0 F)
abbrev jw (X:Cx)(H0:Hp)(P0:aC->Prop)(n0:Nat)(s:List eW)(F:SF):Prop:=PSs X s (tS X.K H0 P0 n0 F)
section
variable {s:eW}{ss:List eW}{F G:SF}{f:EF}
theorem PS.imp {t t':TS}(h:PS X s t)(w:∀ D Z H,t' D Z H->t D Z H):PS X s t':=λac st Z H D I q=>h ac st Z H D I (w _ _ _ q)
theorem PSs.imp {t t':TS}(h:PSs X ss t)(w:∀ D Z H,t' D Z H->t D Z H):PSs X ss t':=λac st Z H D I q=>h ac st Z H D I (w _ _ _ q)
def dS:SF:=λY=>aa (.nx Y)
noncomputable def aT (F G:SF):SF:=λY=>(F Y).bind λo=>match o with
 |.nx ρ'=>G ρ'
 |o=>aa o
theorem Tc:jw X H0 P0 n0 [] dS:=PSs.imp UW λD Z H gh=>by
 rw[6];cases ef;exact k Z H fp S
theorem Ek (h:DS X H0 P0 n0 s F):jw X H0 P0 n0 [s] F:=Ry h
theorem y8 (h:DS X H0 P0 n0 s F)(h2:jw X H0 P0 n0 ss G):jw X H0 P0 n0 (s::ss) (aT F G):=PSs.imp (o9 h h2) λD Z H gh=>by
 rw[6];obtain⟨o1,e1,ef⟩:=ak ef;refine⟨B0,Y,fp,o1,S,e1,?_⟩;cases o1 with
 |nx ρ1=>exact λσ1 H1 oz S1=>⟨B0,ρ1,oz,o,S1,ef,k⟩
 |rt d=>cases ef;exact k
 |bk ρ1=>cases ef;exact k
 |ct ρ1=>cases ef;exact k
def ck (m:Md)(t:BF)(F G:SF):SF:=λY=>(bV m t Y).bind λb=>if b=ae then F Y else G Y
theorem Lz{a b:List eW}{t:BF}(m:Md)(hc:DT X c t)(ha:jw X H0 P0 n0 a F)(hb:jw X H0 P0 n0 b G):DS X H0 P0 n0 (.If c a b pos) (ck m t F G):=
 PS.imp (RL (L4 m hc) ha hb) λD Z H gh=>by
  rw[6];obtain⟨b,e1,ef⟩:=ak ef;refine⟨B0,Y,fp,b,S,e1,λH1 S1=>?_⟩
  cases b with
  |true=>exact nP ⟨B0,Y,fp,o,S1,by simpa using ef,k⟩
  |false=>exact nM ⟨B0,Y,fp,o,S1,by simpa using ef,k⟩
def frz (i:Nat)(Y:aR):aR:=match Y[i]? with
 |some (aa (_,d))=>Y.set i (aa (0,d))
 |_=>Y
theorem Sta.frz{Y:aR}(S:Sta K H0 P0 B0 Y Z H fp)(i:Nat):∃ br,Sta K H0 P0 B0 (L2.frz i Y) Z H br:=by
 unfold L2.frz;cases e:Y[i]? with
 |none=>exact⟨fp,S⟩
 |some s=>
  cases s with
  |none=>exact⟨fp,S⟩
  |some q=>
   obtain⟨n,d⟩:=q;have hi:=(cJ.1 e).1;have cb:∀ a,Hd P0 (λj=>if j=i then [] else fp j) a->Hd P0 fp a:=λa h=>by
    grind
   refine⟨λj=>if j=i then [] else fp j,⟨by simp[S.len],λj=>?_,λj k a h1 h2=>?_,λj a h1=>?_,S.ext,S.hd,S.base.trans (fX cb),λj n' d' e'=>?_⟩⟩
   .by_cases hj:j=i
    .simp only[hj,if_true];exact .nil
    .simp only[hj,if_false];exact S.nd j
   .by_cases hj:j=i
    .simp only[hj,if_true] at h1;simp at h1
    .by_cases hk:k=i
     .simp only[hk,if_true] at h2;simp at h2
     .simp only[hj,if_false] at h1;simp only[hk,if_false] at h2;exact S.dj j k a h1 h2
   .by_cases hj:j=i
    .simp only[hj,if_true] at h1;simp at h1
    .simp only[hj,if_false] at h1;exact S.own j a h1
   .by_cases hj:j=i
    .subst hj;rw[mC hi] at e';cases e';obtain⟨v,h1,h2⟩:=S.slot j n d e;refine⟨v,h1,?_⟩;simp only[if_true];refine⟨rfl,h2.share (fX cb) λa m o q=>fR (λz=>?_) q⟩
     rcases z with z|⟨k,z⟩
     .exact S.np m z
     .by_cases hk:k=j
      .simp only[hk,if_true] at z;simp at z
      .simp only[hk,if_false] at z;exact hk (S.dj k j a z m)
    .rw[pA (λz=>hj z.symm)] at e'
     obtain⟨v,h1,h2⟩:=S.slot j n' d' e';refine⟨v,h1,?_⟩;simp only[hj,if_false];exact h2.keep (fX cb) λa m=>rfl
def iU (i:Nat)(F:SF):SF:=λY=>F (frz i Y)
theorem Rm (i:Nat)(h:jw X H0 P0 n0 ss F):jw X H0 P0 n0 ss (iU i F):=PSs.imp h λD Z H ⟨B0,Y,fp,o,S,ef,k⟩=>let ⟨br,S'⟩:=S.frz i;⟨B0,_,br,o,S',ef,k⟩
theorem Tmp.set{Y:aR}(t:Tmp K H0 P0 B0 Y Z n d v H)(hi:i<Y.length):∃ fp,Sta K H0 P0 B0 (Y.set i (aa (n,d))) (Z.set i (aa v)) H fp:=by
 obtain⟨fp,S,r⟩:=t;have dg:Y.length≠i:=()
 have cb:∀ a,Hd P0 (λj=>if j=i then fp Y.length else if j=Y.length then [] else fp j) a->Hd P0 fp a:=λa h=>by
  grind
 have Q4:∀ j a,a∈(if j=i then fp Y.length else if j=Y.length then [] else fp j)->(j=i/\a∈fp Y.length)\/(j≠i/\j≠Y.length/\a∈fp j):=λj a h=>by
  grind
 refine⟨λj=>if j=i then fp Y.length else if j=Y.length then [] else fp j,⟨by simp[S.len],λj=>?_,λj k a h1 h2=>?_,λj a h1=>?_,S.ext,S.hd,S.base.trans (fX cb),λj n' d' e'=>?_⟩⟩
 .by_cases hj:j=i
  .rw[if_pos hj];exact S.nd _
  .by_cases hk:j=Y.length
   .rw[if_neg hj,if_pos hk];exact .nil
   .rw[if_neg hj,if_neg hk];exact S.nd _
 .rcases Q4 j a h1 with⟨e1,m1⟩|⟨e1,l1,m1⟩<;>rcases Q4 k a h2 with⟨e2,m2⟩|⟨e2,l2,m2⟩
  .rw[e1,e2]
  .exact absurd (S.dj _ _ a m2 m1) l2
  .exact absurd (S.dj _ _ a m1 m2) l1
  .exact S.dj j k a m1 m2
 .rcases Q4 j a h1 with⟨e1,m1⟩|⟨e1,l1,m1⟩
  .exact S.own _ a m1
  .exact S.own _ a m1
 .by_cases hj:j=i
  .subst hj;rw[mC hi] at e';cases e';refine⟨v,?_,?_⟩
   .rw[mC (by rw[S.len];exact hi)]
   .rw[if_pos rfl];exact r.keep (fX cb) λa m=>rfl
  .rw[pA (λz=>hj z.symm)] at e'
   have bh:=(cJ.1 e').1;have hk:j≠Y.length:=()
   obtain⟨v',h1,h2⟩:=S.slot j n' d' e';refine⟨v',?_,?_⟩
   .grind
   .rw[if_neg hj,if_neg hk];exact h2.keep (fX cb) λa m=>rfl
def bH (i n:Nat)(m:Md)(f:EF):SF:=λY=>(eV n m f Y).bind λd=>if i<Y.length then aa (.nx (Y.set i (aa (n,d)))) else ab
theorem Ou{gg:bK}(n:Nat)(m:Md)(hN:X.N.Nodup)(hi:X.N[i]?=aa x)(hx:jH X.env.scope x)(he:DF n X e f)(hs:kP e (aa (.Name x gg)) pos.line X.env=pure af:=by rfl)(hf:Fn X x:=by exact jL) :
  DS X H0 P0 n0 (.Assign [.Name x gg] e pos) (bH i n m f):=PS.imp (NR hN hi hx (ev m he) hs hf) λD Z H gh=>by
 rw[6];obtain⟨d,e1,ef⟩:=ak ef;obtain⟨hl,rfl⟩:=cM ef;refine⟨B0,Y,fp,d,S,e1,λv H' t=>?_⟩
 obtain⟨br,S'⟩:=t.set hl;exact k _ _ br S'
theorem Tmp.ret{Y:aR}(t:Tmp K H0 P0 B0 Y Z n d v H):QG K H0 P0 n d v H:=by
 obtain⟨fp,S,r⟩:=t;refine⟨fp Y.length,S.ext,S.nd _,λa m=>⟨(S.own _ a m).1,?_⟩,r.keep (fX λa h=>?_) λa m=>rfl⟩
 .rcases(S.own _ a m).2 with⟨xs,e⟩|⟨xs,e⟩
  all_goals grind
 all_goals grind
def cD (n:Nat)(m:Md)(f:EF):SF:=λY=>(eV n m f Y).bind λd=>aa (.rt d)
theorem SG (m:Md)(he:DF n0 X e f):DS X H0 P0 n0 (.Return (aa e) pos) (cD n0 m f):=PS.imp (xT (ev m he)) λD Z H gh=>by
 rw[6];obtain⟨d,e1,ef⟩:=ak ef;cases ef;exact⟨B0,Y,fp,d,S,e1,λv H' t=>k v H' t.ret⟩
def jJ (i n0:Nat):SF:=λY=>match Y[i]? with
 |some (aa (n,d))=>if n=n0 then aa (.rt d) else ab
 |_=>ab
theorem Rn (i:Nat)(hN:Nm X i x:=by exact iO):DS X H0 P0 n0 (.Return (aa (.Name x p)) pos) (jJ i n0):=PS.imp (xT (hN.pe)) λD Z H gh=>by
 rw[6];unfold jJ at ef;cases e:Y[i]? with
 |none=>rw[e] at ef;simp at ef
 |some q=>
  cases q with
  |none=>rw[e] at ef;simp at ef
  |some q=>
   obtain⟨n,d⟩:=q;rw[e] at ef;obtain⟨rfl,rfl⟩:=cM ef;obtain⟨v,h1,h2⟩:=S.slot i n d e;refine⟨v,h1,k v H ⟨fp i,S.ext,S.nd i,λa m=>⟨(S.own i a m).1,?_⟩,h2.keep (fX λa h=>?_) λa m=>rfl⟩⟩
   .rcases(S.own i a m).2 with⟨xs,e⟩|⟨xs,e⟩
    all_goals grind
   all_goals grind
def pJ (m:Md)(f:EF):SF:=λY=>(eV 0 m f Y).bind λ_=>aa (.nx Y)
theorem Rg (m:Md)(he:DE X e f)(hs:kP e ab pos.line X.env=pure af:=by rfl):DS X H0 P0 n0 (.Expr e pos) (pJ m f):=PS.imp (vE (ev m he) hs) λD Z H gh=>by
 rw[6];obtain⟨d,e1,ef⟩:=ak ef;cases ef;refine⟨B0,Y,fp,d,S,e1,λv H' ⟨br,S',r⟩=>k _ _ br S'⟩
end
theorem Zc:Ac1 X (.builtin "isinstance") (λxs H Q=>∃ x T t b,xs=[x,.ty T]/\TyOf X.K H x t/\Hx X.K t (.type T)=aa b/\Q (.bl b) H):=by
 rw[5];obtain⟨x,T,t,b,rfl,ty,e,q⟩:=h;obtain⟨u,w',rfl,ru,ic⟩:=vals2 r;cases ic;exact A4 I ru ty e λtk=>⟨.bl b,H,I.tok tk,rfl,q⟩
def BC (x:aE):It:=⟨λi _=>i<x.cps.size,λi H v H'=>H'=H/\∃ c,x.cps[i]?=aa c/\v=.str ⟨#[c]⟩,λi _=>x.cps.size<=i⟩
theorem Af {P:bN}{it:aC}{Q5:Tok}{ty:String}
  (W:∀ A':bS,A'.handled=ab->Walks P w A' it [it] [it] x.cps.size (SignAt x) (λi h=>h.IsStrIter it ty x Q5 i))
  (sf:∀ (A:bS) (i:Nat) (s:aH) (Q:aD->aH->Prop) (E:aD->aH->Prop),s.heap.IsStrIter it ty x Q5 i->Q (.ref it) s->aM (aP P w) A (nV (.ref it)) Q E s)
  (js:["enumerate","zip","dict_itemiterator","dict_reverseitemiterator","odict_iterator","itertools.zip_longest","itertools.pairwise"].contains ty=af) :
  Turn P w K tg (BC x) [it] it (λi h=>h.IsStrIter it ty x Q5 i/\i<=x.cps.size) where
 mem:=by simp
 obj:=λi h st b hb=>by
  have e:b=it:=by simpa using hb
  subst e;obtain⟨o,e,_,d⟩:=st.1
  grind
 keep:=λi h h' st k=>⟨let ⟨o,e,r⟩:=st.1;⟨o,k it (by simp) o e,r⟩,st.2⟩
 item:=by
  rw[1];obtain⟨f0,f1,f2,f3,f4,f5⟩:=hf it (by simp)
  refine(W X.A (I.ok.hd hc)).item i s _ _ hg st.1 λv h' tk hv gi kk=>?_
  obtain⟨c,u,hcx,rfl⟩:=hv;have I1:Inv X ac Z H { s with heap:=h',toks:=tk }:=I.turned (λb o hb e=>kk b o (by simpa using hb) e) f0 f1 f3 f4 f5
  obtain⟨o,e,hcl,d⟩:=id gi;exact⟨_,rfl,zO e hcl d js ⟨.str ⟨#[c]⟩,H,I1,⟨u,rfl⟩,⟨rfl,c,hcx,rfl⟩,⟨gi,hg⟩,λb hb=>(hf b hb).1⟩⟩
 done:=by
  rw[1];obtain⟨f0,f1,f2,f3,f4,f5⟩:=hf it (by simp)
  have hi:=Nat.le_antisymm st.2 hg;subst hi;exact(W X.A (I.ok.hd hc)).done s _ _ st.1 λh' tk kk=>⟨rfl,I.turned (λb o hb e=>kk b o (by simpa using hb) e) f0 f1 f3 f4 f5⟩
 self:=λA i s Q E st h=>sf A i s Q E st.1 h
def Kq (tl:TE):TI:=λZ H R=>tl Z H λv H1=>∃ x,v=.str x/\R (BC x) H1
theorem Qn {X:Cx}{l:aU}{tl:TE}(hl:PE X l tl):PI X tg l (Kq tl):=by
 intro ac s Z H R I h;refine bb (hl ac s Z H _ I h) λv s1 gh=>?_
 obtain⟨y,H1,I1,r1,q1⟩:=gh;obtain⟨x,rfl,q⟩:=q1;obtain⟨t,rfl⟩:=r1;have fin:∀ (o:bC) (ty:String),Turn X.prog X.w X.K tg (BC x) [s1.heap.objs.size] s1.heap.objs.size (λi h=>h.IsStrIter s1.heap.objs.size ty x t i/\i<=x.cps.size)->(s1.heap.push o).IsStrIter s1.heap.objs.size ty x t 0 ->
   V6 X ac Z tg R (.ref s1.heap.objs.size) { s1 with heap:=s1.heap.push o }:=λo ty T st=>by
  refine⟨s1.heap.objs.size,[s1.heap.objs.size],_,_,H1,rfl,I1.kept λb o e=>bG _ e,T,⟨st,dW _⟩,λb hb=>?_,q⟩
  have e:b=s1.heap.objs.size:=by simpa using hb
  subst e;exact I1.fpOk (bB _) (I1.hok.fresh (bB _))
 cases ha:x.cps.all (· < 128)
 .exact wpAny_pyIter_wide ha (fin _ "str_iterator" (Af (λA' hA=>Walks.strWide hA _ x t) (λA i s Q E st h=>wpAny_pyIter_striter_wide st h) nofun) ⟨_,cL _ rfl,rfl,rfl⟩)
 .exact wpAny_pyIter_ascii ha (fin _ "str_ascii_iterator" (Af (λA' hA=>Walks.strAscii hA _ x t) (λA i s Q E st h=>wpAny_pyIter_striter_ascii st h) nofun) ⟨_,cL _ rfl,rfl,rfl⟩)
def allB (xs:List V):Bool:=xs.all λv=>decide (v=.bl ae)
theorem B7 (hc:X.calm=ae):Ac1 X (.builtin "all") (λxs H Q=>∃ p ys,xs=[.ref p]/\SqL X.K H p ys/\(∀ y∈ys,∃ b,y=.bl b)/\Q (.bl (allB ys)) H):=by
 rw[5];obtain⟨p,ys,rfl,hs,hb,q⟩:=h;obtain⟨u,rfl,ru⟩:=vals1 r;cases ru;obtain⟨its,rv,pl,hz⟩:=I.list hs;have hl:=pl.isList;have bh:p<s.heap.objs.size:=by obtain⟨o,n,e,_⟩:=pl;exact bI e
 have hh:=I.ok.hd hc;have len:=rv.length;refine call_all_walk (zT hl ⟨s.heap.objs.size,_,_,_,_,_,λi=>decide (ys[i]?=aa (.bl ae)),rfl,Walks.list (A:=X.A.in1) hh s.heap.objs.size p (cH bh) its.toArray,
  ⟨⟨_,cL _ rfl,rfl,rfl⟩,hl.at λo e=>bG _ e⟩,?_,?_⟩)
 .intro i v s' Q' E' hv hq;have sh:its[i]?=aa v:=by simpa using hv
  have hi:i<ys.length:=by rw[len];exact(cJ.1 sh).1
  obtain⟨b,hy⟩:=hb ys[i] (oZ hi);have ut:ys[i]?=aa (.bl b):=by rw[fN hi,hy]
  obtain⟨u',h1,h2⟩:=rv.get ut;rw[sh] at h1;cases h1;cases h2;refine zS ?_;have:decide (ys[i]?=aa (V.bl ae))=b:=by rw[ut];cases b<;>simp
  grind
 .intro h' tk hk;have e:((cG its.toArray.size).all λi=>decide (ys[i]?=aa (V.bl ae)))=allB ys:=by
   have hn:its.toArray.size=ys.length:=by simp[len]
   rw[hn];unfold allB;rw[nY];simp only[dQ,iI,decide_eq_true_eq];constructor
   .intro h v hv;obtain⟨i,hi,rfl⟩:=uI hv
    grind
   .intro h i hi;rw[fN hi,h _ (oZ hi)]
  rw[e];refine⟨.bl (allB ys),H,?_,rfl,q⟩;exact I.kept λb o eb=>hk b o (by simp;exact cH (bI eb)) (bG _ eb)
structure Def (P:bN)(w:bA)(K:aK)(mg:aE->Option aD)(base:aQ)(x:aE)(k:Nat)(ps:List aE)(sp:Sp):Prop where
 ex:∃ f fd,FnOk P w K mg base sq k f fd ps sp/\mg x=aa (.ref f)/\FH K (.ref f)=ae/\Binds K fd ps []
section
variable {k:Nat}{t:TA}
theorem Nw (D:Def X.prog X.w X.K X.mg X.base x k ps sp)(hr:Room k X.A)(hg:Gl X x)(ha:PA X (e::es) t)(jr:(x==("__debug__" : aE))=af:=by decide)(he:bW (e::es) X.env=(af,bT e X.env)::bW es X.env:=by rfl)
  (dt:(jU pos (bW es X.env)).any (·.1)=af:=by rfl):PE X (.Call (.Name x p) (e::es) [] pos) (RU sp [] E0 t):=by
 obtain⟨f,fd,F,hm,hk,hb⟩:=D.ex;exact Ud F hr hg hm hk hb .nil Ly ha jr he dt
end
def GT (a b:String):Option Bool:=if (jV a==jV b)=ae then aa ae else if PySem.W.kitMeta b=ae then(fastBuiltinMro a).map (·.contains (.type b)) else ab
theorem Al1{a b:String}:Hx K (.type a) (.type b)=GT a b:=rfl
def kinds:List String:=["NoneType","bool","int","str","list","tuple","dict"]
def ug (t T:String):Bool:=t==T||(t == "bool" && T == "int")
theorem j8:(kinds.all λt=>["int","bool","str","list","tuple","dict"].all λT=>decide (GT t T=aa (ug t T)))=ae:=by rw[0]
theorem Rq {t:String}(ht:t∈kinds)(hT:T∈["int","bool","str","list","tuple","dict"]):GT t T=aa (ug t T):=by
 have h:=dQ.1 j8 t ht
 grind
theorem Mn(hg:Gl X x)(hm:X.mg x=ab)(hv:mO x=aa (.type T))(hn:x ≠ "__name__":=by decide)(hd:(x==("__debug__" : aE))=af:=by decide):PE X (.Name x pos) (tC (.ty T)):=
 Tq hg hm hv rfl hn hd
theorem boot_isinstance:mO "isinstance" = aa (.builtin "isinstance"):=by rw[0]
theorem boot_all:mO "all" = aa (.builtin "all"):=by rw[0]
theorem bits_le {i:Int}(h:i.natAbs<2^n):mV i<=n:=by
 unfold mV;split
 .exact dW _
 .rename_i dg;have h0:i.natAbs≠0:=by
   grind
  have:=(Nat.log2_lt h0).2 h
  lia
theorem Uv:OpR X (jT .Mult) (rI (λi j=>i.natAbs<2^1000/\j.natAbs<2^1000) λi j=>.int (i*j)):=yb λi j _ _ _ _ _ hc q=>
 mul_int q (J9 (bits_le hc.1) (bits_le hc.2) nofun)
theorem RK{k:Nat}(hr:Room k A):A.units+100<cLine:=by
 have:=hr.un
 lia
theorem MM:∀ {xs:List V} {us:List aD},xs.length=us.length->(∀ (j:Nat) x u,xs[j]?=aa x->us[j]?=aa u->RelV x u)->Vals xs us
 |[],[],_,_=>.nil
 |[],_::_,h,_=>by simp at h
 |_::_,[],h,_=>by simp at h
 |x::xs,u::us,h,r=>.cons (r 0 x u rfl rfl) (MM (by simpa using h) λj y w h1 h2=>r (j+1) y w (by simpa using h1) (by simpa using h2))
def sT (c:Nat):V:=.str ⟨#[c]⟩
theorem Wo (hc:X.calm=ae):Ac1 X (.type "list") (λxs H Q=>∃ z:aE,xs=[.str z]/\z.length<=sizeLine/\∀ l,H l=ab->Q (.ref l) (upd H l (.lst (z.cps.toList.map sT)))):=by
 rw[5];obtain⟨z,rfl,hz,q⟩:=h;obtain⟨u,rfl,t,rfl⟩:=vals1 r;refine call_list_str (I.ok.hd hc) z t (λh' tk bf c' hk hS cy=>?_) hz
 have hv:Vals (z.cps.toList.map sT) bf.toList:=by
  refine MM (by simp[cy.1]) λj x u h1 h2=>?_
  obtain⟨c,t',oy,rfl⟩:=cy.2 j u (by simpa using h2)
  have:(z.cps.toList.map sT)[j]?=aa (sT c):=by simp[oy]
  rw[this] at h1;cases h1;exact⟨t',rfl⟩
 exact⟨.ref s.heap.objs.size,_,I.laid hk (bB _) (show Acn X.prog X.w _ h' _ (.lst (z.cps.toList.map sT)) from⟨by rw[cC,kW];exact hz,bf.toList,c',hv,by simpa using hS⟩),rfl,q _ I.fresh⟩
def oa (K:aK)(B:Hp)(J:It)(ds:List aA):Prop:=∀ (i:Nat) (H2:Hp),Ext B H2 ->
 (∀ d,ds[i]?=aa d->J.go i H2/\∀ x H3,J.yld i H2 x H3->Ext H2 H3/\∀ P2,Hid P2 H2->Ext B (hid H2 P2)->Abj K (hid H3 P2) d x)/\(ds.length=i->J.stop i H2)
def tI (K:aK)(f:AF):TI:=λZ H R=>∃ P Y ds,Hid P H/\Amr K (hid H P) Y Z/\f Y=aa ds/\∀ J H',Ext H H'->oa K (hid H' P) J ds->R J H'
def tI0 (K:aK)(f:AF):TI:=λZ H R=>∃ P Y ds,Hid P H/\Amr K (hid H P) Y Z/\f Y=aa ds/\∀ J H',Ext H H'->oa K (λ_=>ab) J ds->R J H'
abbrev DI (X:Cx)(tg e:aU)(f:AF):Prop:=PI X tg e (tI X.K f)
abbrev N' (X:Cx)(tg e:aU)(f:AF):Prop:=PI X tg e (tI0 X.K f)
def itemsOf:aA->Option (List aA)
 |.list ds=>aa ds
 |.tuple ds=>aa ds
 |.str x=>aa (x.cps.toList.map λc=>.str ⟨#[c]⟩)
 |_=>ab
def bc (f:EF):AF:=λY=>(f Y).bind itemsOf
section
variable {a:aU}
theorem PI.imp {t t':TI}(h:PI X tg e t)(w:∀ Z H R,t' Z H R->t Z H R):PI X tg e t':=λac s Z H R I q=>h ac s Z H R I (w _ _ _ q)
theorem PI.or {t t':TI}(h:PI X tg e t)(h':PI X tg e t'):PI X tg e (λZ H R=>t Z H R\/t' Z H R):=λac s Z H R I q=>q.elim (h ac s Z H R I) (h' ac s Z H R I)
theorem Vs{B:Hp}{a:aC}(h:SqL K B a xs)(r:Aal K B ds xs):oa K B (GN K a) ds:=λi H2 x2=>by
 have h2:=x2.sqL h;refine⟨λd hd=>?_,λe=>⟨xs,h2,by rw[r.length];lia⟩⟩
 obtain⟨v,h3,h4⟩:=r.get hd;refine⟨⟨xs,v,h2,h3⟩,?_⟩;rintro x H3 ⟨rfl,hx⟩;have:=h3.symm.trans (hx xs h2);cases this;exact⟨Ext.refl,λP2 _ xb=>h4.ext xb⟩
theorem Qu{B:Hp}{a:aC}(h:B a=aa (.tup xs))(r:Aal K B ds xs):oa K B (GL K a) ds:=λi H2 x2=>by
 have h2:SqT K H2 a xs:=SqT.of (x2 _ _ h);refine⟨λd hd=>?_,λe=>⟨xs,h2,by rw[r.length];lia⟩⟩
 obtain⟨v,h3,h4⟩:=r.get hd;refine⟨⟨xs,v,h2,h3⟩,?_⟩;rintro x H3 ⟨rfl,hx⟩;have:aa v=aa x:=h3.symm.trans (hx xs h2);cases this;exact⟨Ext.refl,λP2 _ xb=>h4.ext xb⟩
theorem KI {z:aE}{c:Nat}(h:cR (.str z)=ae)(hc:z.cps.toList[i]?=aa c):cR (.str ⟨#[c]⟩)=ae:=by
 have hz:∀ d∈z.cps,d<0x110000:=by
  have h':z.cps.all (· < 0x110000)=ae:=by simpa only[cR,PyData.strOk] using h
  intro d hd;exact of_decide_eq_true (Array.all_eq_true'.1 h' d hd)
 have:=hz c (by simpa using eM hc)
 simp[cR,PyData.strOk,this]
theorem Qs{B:Hp}{z:aE}(hl:cR (.str z)=ae):oa K B (BC z) (z.cps.toList.map λc=>.str ⟨#[c]⟩):=λi H2 x2=>by
 refine⟨λd hd=>?_,λe=>?_⟩
 .rw[eZ] at hd;cases hc:z.cps.toList[i]? with
  |none=>rw[hc] at hd;simp at hd
  |some c=>
   rw[hc] at hd;have hd:bZ ⟨#[c]⟩=d:=by simpa using hd
   subst hd;have bh:i<z.cps.size:=by simpa using(cJ.1 hc).1
   refine⟨bh,?_⟩;rintro x H3 ⟨rfl,c',de,rfl⟩;have:z.cps.toList[i]?=aa c':=by simpa using de
   rw[hc] at this;cases this;exact⟨Ext.refl,λP2 _ _=>Aa8.2 ⟨rfl,KI hl hc⟩⟩
 .have:z.cps.size=i:=by simpa using e
  exact FQ this
theorem E1{lo:Int}{B:Hp}:oa K B (BD lo n) ((cG n).map λ(k:Nat)=>aY (lo+k)):=λi H2 x2=>by
 refine⟨λd hd=>?_,λe=>?_⟩
 .have bh:i<n:=by
   have:=(cJ.1 hd).1;simpa using this
  have ko:aY (lo+i)=d:=by
   rw[eZ,FW bh] at hd;simpa using hd
  subst ko;refine⟨bh,?_⟩;rintro x H3 ⟨rfl,rfl⟩;exact⟨Ext.refl,λP2 _ _=>Aak.2 rfl⟩
 .have:n=i:=by simpa using e
  exact FQ this
theorem UQ {f:EF}(h:DE X e f):DI X tg e (bc f):=PI.imp (PI.or (Rv h) (PI.or (On h) (Qn h))) λZ H R gh=>by
 obtain⟨P,Y,ds,hP,rs,ef,k⟩:=gh;obtain⟨d,e1,ef⟩:=ak ef;cases d with
 |list o0=>
  have:o0=ds:=by simpa [itemsOf] using ef
  rw[13];refine .inl ⟨P,Y,_,hP,rs,e1,eB λv H1 x1 r1=>?_⟩
  obtain⟨a,xs,rfl,hr,rr⟩:=Aa7.1 r1;exact⟨a,rfl,⟨xs,Aam.sqL hr⟩,k _ H1 x1 (Vs hr rr)⟩
 |tuple o0=>
  have:o0=ds:=by simpa [itemsOf] using ef
  rw[13];refine .inr (.inl ⟨P,Y,_,hP,rs,e1,eB λv H1 x1 r1=>?_⟩)
  obtain⟨a,xs,rfl,hr,rr⟩:=Aaq.1 r1;exact⟨a,rfl,⟨xs,SqT.of (Aam _ _ hr)⟩,k _ H1 x1 (Qu hr rr)⟩
 |str z=>
  have:z.cps.toList.map (λc=>bZ ⟨#[c]⟩)=ds:=by simpa [itemsOf] using ef
  rw[13];refine .inr (.inr ⟨P,Y,_,hP,rs,e1,eB λv H1 x1 r1=>?_⟩)
  exact⟨z,(Aa8.1 r1).1,k _ H1 x1 (Qs (Aa8.1 r1).2)⟩
 |_=>simp[itemsOf] at ef
def HA (lo hi:Int):Option (List aA):=if -(2^62)<=lo/\lo<2^62 /\ -(2^62)<=hi/\hi<2^62 then aa ((cG (hi-lo).toNat).map λ(k:Nat)=>aY (lo+k)) else ab
def jm (fa:AF):AF:=λY=>(fa Y).bind λds=>match ds with
 |[.int j]=>HA 0 j
 |_=>ab
theorem E6 {fa:AF}(hg:Gl X "range")(hm:X.mg "range" = ab)(ha:DA X [a] fa)(hs:bW [a] X.env=[(af,bT a X.env)]:=by rfl):N' X tg (.Call (.Name "range" p) [a] [] pos) (jm fa):=PI.imp (A7 hg hm ha hs) λZ H R gh=>by
 obtain⟨P,Y,ds,hP,rs,ef,k⟩:=gh;obtain⟨as,e1,ef⟩:=ak ef;refine⟨P,Y,as,hP,rs,e1,λvs H1 x1 r1=>?_⟩
 split at ef
 .rename_i j;obtain⟨hb,rfl⟩:=cM ef;obtain⟨v,t,rfl,h1,h2⟩:=Aaf.1 r1;obtain rfl:=Aaj.1 h2;obtain rfl:=Aak.1 h1;have e0:(j-0).toNat=j.toNat:=by simp
  refine⟨j,rfl,hb.2.2.1,hb.2.2.2,k _ H1 x1 ?_⟩;rw[e0];exact E1
 .cases ef
theorem UU {f:AF}(h:N' X tg e f):DI X tg e f:=PI.imp h λZ H R ⟨P,Y,ds,hP,rs,ef,k⟩=>⟨P,Y,ds,hP,rs,ef,λJ H' x it=>k J H' x λi H2 x2=>by
 obtain⟨h1,h2⟩:=it i H2 (λ_ _ e=>by cases e)
 exact⟨λd hd=>⟨(h1 d hd).1,λv H3 y=>⟨((h1 d hd).2 v H3 y).1,λP2 hp _=>((h1 d hd).2 v H3 y).2 P2 hp λ_ _ e=>by cases e⟩⟩,h2⟩⟩
def tI' (K:aK)(H0:Hp)(P0:aC->Prop)(m:Md)(f:AF):TI:=λZ H R=>∃ B0 Y fp ds,Sta K H0 P0 B0 Y Z H fp/\aV m f Y=aa ds/\∀ J B1 H',Sta K H0 P0 B1 Y Z H' fp->Ext B0 B1->oa K B1 J ds->R J H'
theorem Sta.rebase{B1:Hp}{Y:aR}(S:Sta K H0 P0 B0 Y Z H fp)(b:Ext B1 (L2.hid H (Hd P0 fp))):Sta K H0 P0 B1 Y Z H fp:=⟨S.len,S.nd,S.dj,S.own,S.ext,S.hd,b,S.slot⟩
theorem evI {f:AF}(h:DI X tg e f):PI X tg e (tI' X.K H0 P0 .s f):=PI.imp h λZ H R ⟨B0,Y,fp,ds,S,ef,k⟩=>
 ⟨Hd P0 fp,vS Y,ds,S.hid,S.viewS,ef,λJ H' x it=>k J _ H' ((S.grow x).rebase Ext.refl) (S.grow x).base it⟩
theorem Kh {f:AF}(m:Md)(h:N' X tg e f):PI X tg e (tI' X.K H0 P0 m f):=PI.imp h λZ H R gh=>by
 obtain⟨B0,Y,fp,ds,S,ef,k⟩:=gh;have up:∀ {J:It} {B:Hp},oa X.K (λ_=>ab) J ds->oa X.K B J ds:=λ{J B} it i H2 x2=>by
  obtain⟨h1,h2⟩:=it i H2 (λ_ _ e=>by cases e)
  exact⟨λd hd=>⟨(h1 d hd).1,λv H3 y=>⟨((h1 d hd).2 v H3 y).1,λP2 hp _=>((h1 d hd).2 v H3 y).2 P2 hp λ_ _ e=>by cases e⟩⟩,h2⟩
 cases m with
 |s=>exact⟨Hd P0 fp,vS Y,ds,S.hid,S.viewS,ef,λJ H' x it=>k J _ H' (S.grow x) Ext.refl (up it)⟩
 |a=>exact⟨P0,vA Y,ds,S.hd.ext S.ext,S.viewA,ef,λJ H' x it=>k J _ H' (S.grow x) Ext.refl (up it)⟩
end
def tG (K:aK)(H0:Hp)(P0:aC->Prop)(T:aA->aR->Option aR):TG:=λv Z H Q=>∃ B0 Y fp d ρ',Sta K H0 P0 B0 Y Z H fp/\Abj K (hid H (Hd P0 fp)) d v/\T d Y=aa ρ'/\∀ σ' br,Sta K H0 P0 B0 ρ' σ' H br->Q σ' H
abbrev DG (X:Cx)(H0:Hp)(P0:aC->Prop)(tg:aU)(T:aA->aR->Option aR):Prop:=PG X tg (tG X.K H0 P0 T)
theorem PG.imp{t t':TG}(h:PG X tg t)(w:∀ v Z H Q,t' v Z H Q->t v Z H Q):PG X tg t':=λac s Z H v u Q I r q=>h ac s Z H v u Q I r (w _ _ _ _ q)
theorem Sta.Ami{Y:aR}(S:Sta K H0 P0 B0 Y Z H fp)(r:Abj K (L2.hid H (Hd P0 fp)) d v)(hi:i<Y.length):∃ br,Sta K H0 P0 B0 (Y.set i (aa (0,d))) (Z.set i (aa v)) H br:=by
 have cb:∀ a,Hd P0 (λj=>if j=Y.length then [] else fp j) a->Hd P0 fp a:=λa h=>by
  rcases h with h|⟨j,h⟩
  .exact .inl h
  .by_cases hj:j=Y.length
   .simp only[hj,if_true] at h;simp at h
   .simp only[hj,if_false] at h;exact .inr ⟨j,h⟩
 have S2:Sta K H0 P0 B0 Y Z H (λj=>if j=Y.length then [] else fp j):=by
  refine⟨S.len,λj=>?_,λj k a h1 h2=>?_,λj a h1=>?_,S.ext,S.hd,S.base.trans (fX cb),λj n d e=>?_⟩
  .by_cases hj:j=Y.length
   .simp only[hj,if_true];exact .nil
   .simp only[hj,if_false];exact S.nd j
  .by_cases hj:j=Y.length
   .simp only[hj,if_true] at h1;simp at h1
   .by_cases hk:k=Y.length
    .simp only[hk,if_true] at h2;simp at h2
    .simp only[hj,if_false] at h1;simp only[hk,if_false] at h2;exact S.dj j k a h1 h2
  .by_cases hj:j=Y.length
   .simp only[hj,if_true] at h1;simp at h1
   .simp only[hj,if_false] at h1;exact S.own j a h1
  .have bh:=(cJ.1 e).1;have hj:j≠Y.length:=()
   obtain⟨v',h1,h2⟩:=S.slot j n d e;refine⟨v',h1,?_⟩;simp only[hj,if_false];exact h2.keep (fX cb) λa m=>rfl
 refine Tmp.set ⟨_,S2,?_⟩ hi;simp only[if_true];exact⟨rfl,r.ext (fX cb)⟩
def ft (i:Nat):aA->aR->Option aR:=λd Y=>if i<Y.length then aa (Y.set i (aa (0,d))) else ab
theorem Ur(hN:X.N.Nodup)(hi:X.N[i]?=aa x)(hx:jH X.env.scope x)(hf:Fn X x:=by exact jL):DG X H0 P0 (.Name x pos) (ft i):=
 PG.imp (rJ hN hi hx hf) λv Z H Q gh=>by
  obtain⟨B0,Y,fp,d,ρ',S,r,ef,k⟩:=gh;obtain⟨hl,rfl⟩:=cM ef;obtain⟨br,S'⟩:=S.Ami r hl;exact k _ br S'
def jK (i j:Nat):aA->aR->Option aR:=λd Y=>match d with
 |.tuple [a,b]=>(ft i a Y).bind λρ'=>ft j b ρ'
 |_=>ab
theorem Sq{p1:bK}{k}(hc:X.calm=ae)(hN:X.N.Nodup)(hi:X.N[i]?=aa x)(hj:X.N[j]?=aa y)(hx:jH X.env.scope x)(hy:jH X.env.scope y)
  (hf:Fn X x:=by exact jL) (Q6:Fn X y:=by exact jL)
  (hn:(gU [.Name x p1,.Name y p2] X.env).length=2:=by rfl) (dq:(gU [.Name x p1,.Name y p2] X.env).findIdx? (·.1)=ab:=by rfl)
  (h1:(gU [.Name x p1,.Name y p2] X.env).map (·.2)=kQ (.Name x p1) X.env::(gU [.Name y p2] X.env).map (·.2):=by rfl) (h2:(gU [.Name y p2] X.env).map (·.2)=kQ (.Name y p2) X.env::(gU [] X.env).map (·.2):=by rfl):DG X H0 P0 (.Tuple [.Name x p1,.Name y p2] k pos) (jK i j):=
 PG.imp (NM hc (vR (rJ hN hi hx hf) (vR (rJ hN hj hy Q6) IQ h2) h1) hn dq) λv Z H Q gh=>by
  obtain⟨B0,Y,fp,d,ρ',S,r,ef,k⟩:=gh;unfold jK at ef;split at ef
  .rename_i a b;obtain⟨ρ1,e1,e2⟩:=ak ef;obtain⟨l1,rfl⟩:=cM e1;obtain⟨l2,rfl⟩:=cM e2;obtain⟨p,xs,rfl,hp,rr⟩:=Aaq.1 r;obtain⟨v1,t1,rfl,r1,rr⟩:=Aaf.1 rr;obtain⟨v2,t2,rfl,r2,rr⟩:=Aaf.1 rr;obtain rfl:=Aaj.1 rr;refine⟨p,_,rfl,SqT.of (Aam _ _ hp),rfl,v1,_,rfl,v2,_,rfl,rfl,?_⟩;have Sb:=S.rebase Ext.refl;obtain⟨oz,S1⟩:=Sb.Ami r1 l1;obtain⟨dr,S2⟩:=S1.Ami (r2.ext S1.base) l2;exact k _ dr (S2.rebase (S.base.trans S2.base))
  .cases ef
def iC (F:SF)(T:aA->aR->Option aR):List aA->SF
 |[],Y=>aa (.nx Y)
 |d::r,Y=>(T d Y).bind λρ1=>(F ρ1).bind λo=>match o with
  |.nx ρ'=>iC F T r ρ'
  |.ct ρ'=>iC F T r ρ'
  |.bk ρ'=>aa (.nx ρ')
  |.rt d=>aa (.rt d)
def cP (m:Md)(fi:AF)(T:aA->aR->Option aR)(F:SF):SF:=λY=>(aV m fi Y).bind λds=>iC F T ds Y
section
variable {body:List eW}{F:SF}{T:aA->aR->Option aR}{fi:AF}{m:Md}
theorem WL (hp:AE (aP X.prog X.w) X.A X.env X.xe)(hc:X.calm=ae)(hi:PI X tg be (tI' X.K H0 P0 m fi))(hg:DG X H0 P0 tg T)(hb:jw X H0 P0 n0 body F)
  (hs:∀ x,qE be X.env x=pure x:=by intro _;rfl):DS X H0 P0 n0 (.For tg be body [] pos) (cP m fi T F):=PS.imp (Pv hp hc hi hg hb hs) λD Z H gh=>by
 rw[6];obtain⟨ds,e1,ef⟩:=ak ef;refine⟨B0,Y,fp,ds,S,e1,λJ B1 H' S1 xb it=>?_⟩
 refine⟨λi m Z H=>m=ds.length-i/\i<=ds.length/\∃ Y fp,Sta X.K H0 P0 B1 Y Z H fp/\iC F T (ds.drop i) Y=aa o,⟨ds.length,by simp,dW _,Y,fp,S1,by simpa using ef⟩,?_⟩
 rintro i m σ2 H2 ⟨rfl,hi,ρ2,dr,S2,e2⟩;have x2:=S2.base.trans Aam;obtain⟨go,st⟩:=it i H2 x2;by_cases bh:i<ds.length
 .have hd:=fN bh;rw[Jj bh] at e2;obtain⟨ρ3,e3,e2⟩:=ak e2;obtain⟨o3,e4,e2⟩:=ak e2;obtain⟨g1,g2⟩:=go _ hd;refine .inr ⟨g1,λσ' H'=>i+1<=ds.length/\∃ Y fp,Sta X.K H0 P0 B1 Y σ' H' fp/\iC F T (ds.drop (i+1)) Y=aa o,λσ' H' ⟨h1,h2⟩=>⟨ds.length-(i+1),(),rfl,h1,h2⟩,λx H3 y=>?_⟩
  obtain⟨x3,r3⟩:=g2 x H3 y;refine⟨B1,ρ2,dr,_,ρ3,S2.grow x3,r3 _ S2.hid S2.base,e3,λσ4 fp4 S4=>⟨B1,ρ3,fp4,o3,S4,e4,?_⟩⟩
  cases o3 with
  |nx ρ5=>exact λσ5 H5 t3 S5=>⟨bh,ρ5,t3,S5,e2⟩
  |ct ρ5=>exact λσ5 H5 t3 S5=>⟨bh,ρ5,t3,S5,e2⟩
  |bk ρ5=>
   cases e2;exact λσ5 H5 t3 S5=>k σ5 H5 t3 (S5.rebase (xb.trans S5.base))
  |rt d=>
   cases e2;exact k
 .have e:i=ds.length:=()
  subst e;rw[List.drop_length] at e2;cases e2;exact .inl ⟨st rfl,k σ2 H2 dr (S2.rebase (xb.trans S2.base))⟩
theorem rD (hp:AE (aP X.prog X.w) X.A X.env X.xe)(hc:X.calm=ae)(hi:DI X tg be fi)(hg:DG X H0 P0 tg T)(hb:jw X H0 P0 n0 body F)
  (hs:∀ x,qE be X.env x=pure x:=by intro _;rfl):DS X H0 P0 n0 (.For tg be body [] pos) (cP .s fi T F):=WL hp hc (evI hi) hg hb hs
theorem Ss (m:Md)(hp:AE (aP X.prog X.w) X.A X.env X.xe)(hc:X.calm=ae)(hi:N' X tg be fi)(hg:DG X H0 P0 tg T)(hb:jw X H0 P0 n0 body F)
  (hs:∀ x,qE be X.env x=pure x:=by intro _;rfl):DS X H0 P0 n0 (.For tg be body [] pos) (cP m fi T F):=WL hp hc (Kh m hi) hg hb hs
end
def tj (m:Md)(t:BF)(F:SF):Nat->SF
 |0,_=>ab
 |n+1,Y=>(bV m t Y).bind λb=>if b=ae then(F Y).bind λo=>match o with
   |.nx ρ'=>tj m t F n ρ'
   |.ct ρ'=>tj m t F n ρ'
   |.bk ρ'=>aa (.nx ρ')
   |.rt d=>aa (.rt d)
  else aa (.nx Y)
section
variable {body:List eW}{F:SF}{t:BF}
theorem Vq (m:Md)(fuel:Nat)(hp:AE (aP X.prog X.w) X.A X.env X.xe)(hc:DT X c t)(hb:jw X H0 P0 n0 body F):DS X H0 P0 n0 (.While c body [] pos) (tj m t F fuel):=
 PS.imp (l7 hp (L4 m hc) hb) λD Z H gh=>by
  rw[6];refine⟨λn Z H=>∃ Y fp,Sta X.K H0 P0 B0 Y Z H fp/\tj m t F n Y=aa o,⟨fuel,Y,fp,S,ef⟩,?_⟩
  rintro n σ1 H1 ⟨ρ1,oz,S1,e1⟩;cases n with
  |zero=>cases e1
  |succ n=>
   obtain⟨b,e2,e1⟩:=ak e1;refine⟨B0,ρ1,oz,b,S1,e2,λH2 S2=>?_⟩
   cases b with
   |false=>
    have:aa (Out.nx ρ1)=aa o:=by simpa using e1
    cases this;exact nM (k σ1 H2 oz S2)
   |true=>
    rw[if_pos rfl] at e1;obtain⟨o3,e4,e1⟩:=ak e1;refine nP ⟨λσ' H'=>∃ Y fp,Sta X.K H0 P0 B0 Y σ' H' fp/\tj m t F n Y=aa o,λσ' H' h=>⟨n,Im n,h⟩,B0,ρ1,oz,o3,S2,e4,?_⟩
    cases o3 with
    |nx ρ5=>exact λσ5 H5 t3 S5=>⟨ρ5,t3,S5,e1⟩
    |ct ρ5=>exact λσ5 H5 t3 S5=>⟨ρ5,t3,S5,e1⟩
    |bk ρ5=>cases e1;exact k
    |rt d=>cases e1;exact k
end
noncomputable def rn (T:aA->List (Option aA)->Option (List (Option aA)))(t:BF)(f:EF)(Y:List (Option aA)):List aA->Option (List aA)
 |[]=>aa []
 |d::r=>(T d Y).bind λρ1=>(t ρ1).bind λc=>if c=ae then(f ρ1).bind λy=>(rn T t f Y r).bind λys=>aa (y::ys) else rn T t f Y r
def kZ (cap:List (Option Nat))(Y:List (Option aA)):List (Option aA):=cap.map λo=>o.bind λj=>(Y[j]?).join
def cf (cap:List (Option Nat))(fi:AF)(T:aA->List (Option aA)->Option (List (Option aA)))(t:BF)(f:EF):EF:=λY=>(fi Y).bind λds=>(rn T t f (kZ cap Y) ds).bind λys=>if ds.length<=sizeLine then aa (.list ys) else ab
def O6 (K:aK)(T:aA->List (Option aA)->Option (List (Option aA))):TG:=λv Z H Q=>∃ P Y d ρ',Hid P H/\Amr K (hid H P) Y Z/\Abj K (hid H P) d v/\T d Y=aa ρ'/\∀ σ',Amr K (hid H P) ρ' σ'->Q σ' H
def L0 (T:aA->List (Option aA)->Option (List (Option aA))):Prop:=∀ d Y ρ',T d Y=aa ρ'->∀ (i:Nat) d',Y[i]?=aa (aa d')->ρ'[i]?=aa (aa d')
def cS:BF:=λ_=>aa ae
def gB (j:Nat):aA->List (Option aA)->Option (List (Option aA)):=λd Y=>match Y[j]? with
 |some ab=>aa (Y.set j (aa d))
 |_=>ab
theorem CT{ρ':List (Option aA)}(h:gB j d Y=aa ρ'):Y[j]?=aa ab/\Y.set j (aa d)=ρ':=by
 unfold gB at h;split at h
 .rename_i e;exact⟨e,fF h⟩
 .cases h
def xw (i j:Nat):aA->List (Option aA)->Option (List (Option aA)):=λd Y=>match d with
 |.tuple [a,b]=>(gB i a Y).bind λρ'=>gB j b ρ'
 |_=>ab
theorem EU:L0 (gB j):=λd Y ρ' e i d' h=>by
 obtain⟨hj,rfl⟩:=CT e;by_cases q:j=i
 .subst q;rw[hj] at h;cases h
 .rw[pA q];exact h
theorem Np:L0 (xw i j):=λd Y ρ' e k d' h=>by
 unfold xw at e;split at e
 .obtain⟨ρ1,e1,e2⟩:=ak e;exact EU _ _ _ e2 k d' (EU _ _ _ e1 k d' h)
 .cases e
section
variable {fi:AF}{T:aA->List (Option aA)->Option (List (Option aA))}{t:BF}{f:EF}
theorem IP:sI X [] (sy X.K cS):=λac s Z H Q I gh=>by
 obtain⟨P,Y,b,hP,rs,ef,k⟩:=gh;cases ef;exact Uw ac s Z H Q I (k H Ext.refl)
theorem Gu (h:DT X c t):sI X [c] (sy X.K t):=Qy h
theorem Amr.set{B:Hp}(h:Amr K B Y Z)(r:Abj K B d v)(hl:j<Z.length):Amr K B (Y.set j (aa d)) (Z.set j (aa v)):=λi d' e=>by
 by_cases q:j=i
 .subst q;have hj:j<Y.length:=by
   have:=(cJ.1 e).1;simpa using this
  rw[mC hj] at e;cases e;exact⟨v,mC hl,r⟩
 .rw[pA q] at e;obtain⟨w,h1,h2⟩:=h i d' e;exact⟨w,by rw[pA q];exact h1,h2⟩
def V4 (X:Cx)(tg:aU)(T:aA->List (Option aA)->Option (List (Option aA))):Prop:=
 ∀ (ac:List (aC×bC)) (s:aH) (Z:St) (H:Hp) (v:V) (u:aD) (Q:St->Hp->Prop),Inv X ac Z H s->RelV v u->O6 X.K T v Z H Q ->
  aM (aP X.prog X.w) X.A (kQ tg X.env u) (λ_ s'=>∃ σ' H',Inv X ac σ' H' s'/\Q σ' H') X.xe s
theorem YD(hN:X.N.Nodup)(hi:X.N[j]?=aa x)(hx:jH X.env.scope x)(hf:Fn X x:=by exact jL):V4 X (.Name x pos) (gB j):=λac s Z H v u Q I r gh=>by
 obtain⟨P,Y,d,ρ',hP,rs,rd,ef,k⟩:=gh;obtain⟨hj,rfl⟩:=CT ef;have hl:j<Z.length:=by rw[I.len];exact(cJ.1 hi).1
 exact rJ hN hi hx hf ac s Z H v u Q I r (k _ (rs.set rd hl))
theorem Vk{p1:bK}{kk}(hc:X.calm=ae)(hN:X.N.Nodup)(hi:X.N[i]?=aa x)(hj:X.N[j]?=aa y)(hx:jH X.env.scope x)(hy:jH X.env.scope y)
  (hf:Fn X x:=by exact jL) (Q6:Fn X y:=by exact jL)
  (hn:(gU [.Name x p1,.Name y p2] X.env).length=2:=by rfl) (dq:(gU [.Name x p1,.Name y p2] X.env).findIdx? (·.1)=ab:=by rfl)
  (h1:(gU [.Name x p1,.Name y p2] X.env).map (·.2)=kQ (.Name x p1) X.env::(gU [.Name y p2] X.env).map (·.2):=by rfl) (h2:(gU [.Name y p2] X.env).map (·.2)=kQ (.Name y p2) X.env::(gU [] X.env).map (·.2):=by rfl):V4 X (.Tuple [.Name x p1,.Name y p2] kk pos) (xw i j):=λac s Z H v u Q I r gh=>by
 obtain⟨P,Y,d,ρ',hP,rs,rd,ef,k⟩:=gh;unfold xw at ef;split at ef
 .rename_i a b;obtain⟨ρ1,e1,e2⟩:=ak ef;obtain⟨l1,rfl⟩:=CT e1;obtain⟨l2,rfl⟩:=CT e2;obtain⟨p,xs,rfl,hp,rr⟩:=Aaq.1 rd;obtain⟨v1,t1,rfl,r1,rr⟩:=Aaf.1 rr;obtain⟨v2,t2,rfl,r2,rr⟩:=Aaf.1 rr;obtain rfl:=Aaj.1 rr;have hl:i<Z.length:=by rw[I.len];exact(cJ.1 hi).1
  have Q7:j<Z.length:=by rw[I.len];exact(cJ.1 hj).1
  exact NM hc (vR (rJ hN hi hx hf) (vR (rJ hN hj hy Q6) IQ h2) h1) hn dq ac s Z H _ u Q I r ⟨p,_,rfl,SqT.of (Aam _ _ hp),rfl,v1,_,rfl,v2,_,rfl,rfl,k _ ((rs.set r1 hl).set r2 (by simpa using Q7))⟩
 .cases ef
theorem p8{B:Hp}(h:Amr K B Y Z):Amr K B (kZ cap Y) (uQ cap Z):=λi d e=>by
 unfold kZ at e;unfold uQ;rw[eZ] at e ⊢;cases hc:cap[i]? with
 |none=>rw[hc] at e;simp at e
 |some o=>
  rw[hc] at e;cases o with
  |none=>simp at e
  |some j=>
   simp only[FM,bQ,Option.some.injEq] at e ⊢;obtain⟨v,h1,h2⟩:=h j d (YJ e);exact⟨v,by rw[h1];rfl,h2⟩
theorem RG(hT:L0 T):∀ Z H Q,tF K 1 (cf cap fi T t f) Z H Q->V' cap (tI K fi) (O6 K T) (sy K t) (tF K 0 f) Z H Q:=λZ H Q gh=>by
 rw[4];obtain⟨ds,e1,ef⟩:=ak ef;obtain⟨all,e2,ef⟩:=ak ef;obtain⟨hz,rfl⟩:=cM ef;refine⟨P,Y,ds,hP,rs,e1,λJ H1 x1 it A hA=>?_⟩
 have hPA:=(hP.ext x1).new hA;have qr:∀ {H':Hp} {ys:List V},hid (upd H' A (.lst ys)) (fu P [A])=hid H' (fu P [A]):=λ{H' ys}=>by
  funext b;unfold hid;by_cases hb:fu P [A] b
  .rw[if_pos hb,if_pos hb]
  .rw[if_neg hb,if_neg hb];exact cK (λz=>hb (.inr (by simp[z])))
 refine⟨λi m ys σ' H'=>m=ds.length-i/\i<=ds.length/\H' A=aa (.lst ys)/\Ext H1 H'/\Ext (hid H1 P) (hid H' (fu P [A]))/\Amr K (hid H' (fu P [A])) (kZ cap Y) σ'/\ys.length<=i /\
  ∃ done rest,Aal K (hid H' (fu P [A])) done ys/\rn T t f (kZ cap Y) (ds.drop i)=aa rest/\all=done++rest,⟨ds.length,?_⟩,?_⟩
 .have xa:Ext (hid H1 P) (hid (upd H1 A (.lst [])) (fu P [A])):=λb o e=>by
   obtain⟨nb,e⟩:=Abx.1 e;have hb:=iQ e hA;exact fR (λz=>z.elim nb λm=>hb (by simpa using m)) (by rw[cK hb];exact e)
  exact⟨by simp,dW _,dZ,Ext.new hA,xa,(p8 (rs.ext (dB x1))).ext xa,dW _,[],all,Aaj.2 rfl,by simpa using e2,rfl⟩
 .rintro i m ys σ' H' ⟨rfl,hi,hD,x2,xb,rs2,hl,done,rest,rd,e3,rfl⟩;refine⟨hD,?_⟩;obtain⟨go,st⟩:=it i H' (Aam.trans x2);have uc:Hid (fu P [A]) H':=λa h=>by
   rcases h with h|h
   .exact(hP.ext (x1.trans x2)) a h
   .have:a=A:=by simpa using h
    rw[13];exact .inl ⟨_,hD⟩
  by_cases bh:i<ds.length
  .have hd:=fN bh;rw[Jj bh] at e3;obtain⟨ρ1,e4,e3⟩:=ak e3;obtain⟨c,e5,e3⟩:=ak e3;obtain⟨g1,g2⟩:=go _ hd;refine .inr ⟨g1,(),λys σ' H'=>i+1<=ds.length/\H' A=aa (.lst ys)/\Ext H1 H'/\Ext (hid H1 P) (hid H' (fu P [A]))/\Amr K (hid H' (fu P [A])) (kZ cap Y) σ'/\ys.length<=i+1 /\
    ∃ d2 r2,Aal K (hid H' (fu P [A])) d2 ys/\rn T t f (kZ cap Y) (ds.drop (i+1))=aa r2/\done++rest=d2++r2,λzs σ2 H2 h=>⟨ds.length-(i+1),(),rfl,h⟩,λx H2 y=>?_⟩
   obtain⟨x3,r3⟩:=g2 x H2 y;refine⟨fu P [A],kZ cap Y,_,ρ1,uc.ext x3,rs2.ext (dB x3),r3 _ uc xb,e4,λσ3 Q8=>?_⟩
   refine⟨fu P [A],ρ1,c,uc.ext x3,Q8,e5,λH4 x4=>?_⟩
   have W9:Amr K (hid H2 (fu P [A])) (kZ cap Y) σ3:=λj d' e=>Q8 j d' (hT _ _ _ e4 j d' e)
   cases c with
   |false=>
    rw[if_neg kB] at e3;refine nM ⟨bh,x4 _ _ (x3 _ _ hD),x2.trans (x3.trans x4),xb.trans (dB (x3.trans x4)),W9.ext (dB x4),(),done,rest,rd.ext (dB (x3.trans x4)),e3,rfl⟩
   |true=>
    rw[if_pos rfl] at e3;obtain⟨yd,e6,e3⟩:=ak e3;obtain⟨r2,e7,e3⟩:=ak e3;cases e3;refine nP ⟨fu P [A],ρ1,yd,uc.ext (x3.trans x4),Q8.ext (dB x4),e6,eB λv H5 x5 r5=>⟨x5 _ _ (x4 _ _ (x3 _ _ hD)),bh,dZ,?_,?_,?_,by simp;lia,done++[yd],r2,?_,e7,by simp⟩⟩
    .intro b o e;rw[cK (iQ e hA)];exact x5 _ _ (x4 _ _ (x3 _ _ (x2 _ _ e)))
    .rw[qr];exact xb.trans (dB (x3.trans (x4.trans x5)))
    .rw[qr];exact W9.ext (dB (x4.trans x5))
    .rw[qr];exact(rd.ext (dB (x3.trans (x4.trans x5)))).snoc r5
  .have e:i=ds.length:=()
   subst e;rw[List.drop_length] at e3;cases e3;rw[mS] at k;refine .inl ⟨st rfl,?_⟩;refine k (.ref A) H' [A] (x1.trans x2) (jZ.2 ⟨by simp,.nil⟩) (λa m=>?_) ⟨A,ys,ys.map λ_=>[],rfl,hD,?_,?_⟩
   .have:a=A:=by simpa using m
    rw[13];exact⟨x1.none hA,_,hD⟩
   .have:∀ l:List V,(l.map λ_=>([]:List aC)).flatten=[]:=λl=>by
     induction l with
     |nil=>rfl
     |cons a l ih=>rw[dC,rZ,ih];rfl
    rw[this]
   .have go:∀ (ds:List aA) (xs:List V),Aal K (hid H' (fu P [A])) ds xs->All3 (Afr K (hid H' (fu P [A])) H' 0) ds xs (xs.map λ_=>[]):=by
     intro ds;induction ds with
     |nil=>intro xs r;rw[Aaj.1 r];exact .nil
     |cons d ds ih=>
      intro xs r;obtain⟨y,t,rfl,h1,h2⟩:=Aaf.1 r;exact .cons ⟨rfl,h1⟩ (ih t h2)
    exact go _ _ rd
def TU (X:Cx)(N:List aE)(sc:gV)(tg fq:aU)(dy:List aU)(T:aA->List (Option aA)->Option (List (Option aA)))(t:BF)(f:EF):Prop:=
 ∀ (cl:List (aE×aC)) (C:aC) (s₀:aH) (H₀:Hp) (ex:List aC),V4 (fW X N sc cl C s₀ H₀ ex) tg T/\sI (fW X N sc cl C s₀ H₀ ex) dy (sy X.K t)/\DE (fW X N sc cl C s₀ H₀ ex) fq f
theorem RH (hc:X.calm=ae)(S:CompScope X N cap sc)(hT:L0 T)(hi:DI X tg be fi)(hb:TU X N sc tg fq dy T t f)(hs:∀ x,qE be X.env x=pure x:=by intro _;rfl) :
  DF 1 X (.ListComp fq [⟨tg,be,dy,0⟩] sc pos) (cf cap fi T t f):=PE.imp (RJ hc S hi (g:=O6 X.K T) (tc:=sy X.K t) (te:=tF X.K 0 f) hb hs) (RG hT)
theorem n5(m:Md)(hc:X.calm=ae)(hN:X.N.Nodup)(uu:X.N[i]?=aa x)(hx:jH X.env.scope x)(S:CompScope X N cap sc)(hT:L0 T)(hi:DI X tg be fi)(hb:TU X N sc tg fq dy T t f)
  (ja:kP (.ListComp fq [⟨tg,be,dy,0⟩] sc pos) (aa (.Name x px)) gj.line X.env=pure ae:=by rfl)
  (hs:∀ x,qE be X.env x=pure x:=by intro _;rfl) (hf:Fn X x:=by exact jL) :
  DS X H0 P0 n0 (.Assign [.Name x px] (.ListComp fq [⟨tg,be,dy,0⟩] sc pos) gj) (bH i 1 m (cf cap fi T t f)):=PS.imp (l5 hc hN uu hx S hi (g:=O6 X.K T) (tc:=sy X.K t) (te:=tF X.K 0 f) hb ja hs hf) λD Z H gh=>by
 rw[6];obtain⟨d,e1,ef⟩:=ak ef;obtain⟨hl,rfl⟩:=cM ef;refine RG hT Z H _ (QO m Z H _ ⟨B0,Y,fp,d,S,e1,λv H' t=>?_⟩)
 obtain⟨br,S'⟩:=t.set hl;exact k _ _ br S'
end
def outD:Option Out->Option aA
 |some (.rt d)=>aa d
 |some (.nx _)=>aa .none
 |_=>ab
def bu (np n:Nat)(body:SF):List aA->Option aA:=λds=>if ds.length=np then outD (body (ds.map (λd=>aa (0,d))++AL (n-np) ab)) else ab
def L8 (K:aK)(n0:Nat)(F:List aA->Option aA):Sp:=λvs H Q _=>∃ P ds d,Hid P H/\Aal K (hid H P) ds vs/\F ds=aa d/\Res K P n0 d H Q
section
variable {P:bN}{base:aQ}
theorem RV{k np:Nat}{body:SF}(F:Fun K x qual st f fd)(S:FnScope N ps (gG st))(hnp:np=ps.length)(hN:ps.length<=N.length)
  (hb:∀ (cv:aD) (A:bS) (outer:List Env) (s:aH) (H:Hp) (E:XK) (P0:aC->Prop),Room k (A.deeper (envOfC qual (gG st) s.heap.objs.size f cv))->jw (qW sq P w K mg base N qual (gG st) f cv A outer s H E).nox H P0 n0 (rH st) body) :
  FnOk P w K mg base sq (k+1) f fd ps (L8 K n0 (bu np N.length body)):=by
 refine F.ok S (λvs H Q E h=>?_) (λcv A outer s H vs Q E hr h=>?_)
 .obtain⟨P,ds,d,_,r,ef,_⟩:=h;unfold bu at ef;by_cases hl:ds.length=np
  .rw[r.length,hl,hnp]
  .rw[if_neg hl] at ef;cases ef
 .obtain⟨P0,ds,d,hP,r,ef,k⟩:=h;refine⟨_,hb cv A outer s H E P0 hr,?_⟩;unfold bu at ef;by_cases hl:ds.length=np
  case neg=>rw[if_neg hl] at ef;cases ef
  rw[if_pos hl] at ef;rw[<-hl] at ef;have aw:=r.length;have S0:Sta K H P0 (hid H P0) (ds.map (λd=>aa (0,d))++AL (N.length-ds.length) ab) (start N vs) H (λ_=>[]):=by
   have eH:Hd P0 (λ_=>[])=P0:=by
    funext a;simp[Hd]
   refine⟨by simp[start,aw],λ_=>.nil,λi j a h=>by simp at h,λi a h=>by simp at h,Ext.refl,hP,by rw[eH];exact Ext.refl,λi n' d' e=>?_⟩
   rw[eH];by_cases hi:i<ds.length
   .rw[Jd (by simpa using hi),eZ] at e
    cases q:ds[i]? with
    |none=>rw[q] at e;simp at e
    |some d2=>
     rw[q] at e;have e':0=n'/\d2=d':=by simpa using e
     obtain⟨rfl,rfl⟩:=e';obtain⟨v,h1,h2⟩:=r.get q;refine⟨v,?_,rfl,h2⟩;unfold start;rw[Jd (by rw[cC,aw];exact hi),eZ,h1]
     rfl
   .rw[K4 (by simpa using hi)] at e
    have:=eM e;simp at this
  cases eb:body (ds.map (λd=>aa (0,d))++AL (N.length-ds.length) ab) with
  |none=>rw[eb] at ef;cases ef
  |some o=>
   rw[eb] at ef;refine⟨_,_,_,o,S0,eb,?_⟩;cases o with
   |rt d'=>
    cases ef;exact λv H' ⟨Fr,h1,h2,h3,h4⟩=>k v H' Fr h1 h2 h3 h4
   |nx ρ'=>
    cases ef;intro σ' H' br S';refine k .non H' [] S'.ext .nil (λa m=>by simp at m) ?_
    cases n0 with
    |zero=>exact⟨rfl,Abr.2 rfl⟩
    |succ n=>
     unfold Af3;split
     .exact .inl ⟨rfl,rfl,rfl⟩
     .split
      .exact .inl ⟨rfl,rfl,rfl⟩
      .exact⟨rfl,Abr.2 rfl⟩
   |bk _=>cases ef
   |ct _=>cases ef
variable {k np:Nat}{F:List aA->Option aA}{fa:AF}
theorem NA (D:Def X.prog X.w X.K X.mg X.base x k ps (L8 X.K n0 F))(hr:Room k X.A)(hg:Gl X x)(ha:DA X (e::es) fa)(jr:(x==("__debug__" : aE))=af:=by decide)(he:bW (e::es) X.env=(af,bT e X.env)::bW es X.env:=by rfl)
  (dt:(jU pos (bW es X.env)).any (·.1)=af:=by rfl):DF n0 X (.Call (.Name x p) (e::es) [] pos) (aL F fa):=
 PE.imp (Nw D hr hg ha jr he dt) λZ H Q gh=>by
  rw[4];obtain⟨ds,e1,ef⟩:=ak ef;refine⟨P,Y,ds,hP,rs,e1,λvs H1 x1 r1=>?_⟩
  show L8 X.K n0 F (vs++[]) H1 Q E0;rw[mS];exact⟨P,ds,d,hP.ext x1,r1,ef,k.mono x1⟩
end
def L5 (g:Int->Int->aA):aA->aA->Option aA
 |.int i,.int j=>aa (g i j)
 |_,_=>ab
def vv (C:Int->Int->Prop)[∀ i j,Decidable (C i j)](g:Int->Int->aA):aA->aA->Option aA
 |.int i,.int j=>if C i j then aa (g i j) else ab
 |_,_=>ab
theorem TC {g:Int->Int->V}{gd:Int->Int->aA}(h:∀ i j H,Abj K H (gd i j) (g i j)):jl K 0 (sx g) (L5 gd):=λP H x y a b d Q hP ra rb e k=>by
 unfold L5 at e;split at e
 .rename_i i j;cases e;exact⟨i,j,Aak.1 ra,Aak.1 rb,k.zero Ext.refl (h i j _)⟩
 .cases e
theorem xJ {C C':Int->Int->Prop}[∀ i j,Decidable (C' i j)]{g:Int->Int->V}{gd:Int->Int->aA}(hC:∀ i j,C' i j->C i j)(h:∀ i j H,Abj K H (gd i j) (g i j)):jl K 0 (rI C g) (vv C' gd):=λP H x y a b d Q hP ra rb e k=>by
 unfold vv at e;split at e
 .rename_i i j;obtain⟨hc,rfl⟩:=cM e;exact⟨i,j,Aak.1 ra,Aak.1 rb,hC i j hc,k.zero Ext.refl (h i j _)⟩
 .cases e
section
variable {a:aU}{fa fb fc:EF}
def pS:aA->aA->Option aA:=L5 λi j=>.int (i-j)
theorem Pe (ha:DE X a fa)(hb:DE X b fb):DE X (.BinOp a .Sub b pos) (ah pS fa fb):=pM Nb (TC λ_ _ _=>Aak.2 rfl) ha hb
def gQ:aA->aA->Option aA:=vv (λi j=>(i.natAbs<2^64\/j.natAbs<2^64)\/(i.natAbs<2^1000/\j.natAbs<2^1000)) λi j=>.int (i*j)
theorem ZJ:OpR X (jT .Mult) (rI (λi j=>(i.natAbs<2^64\/j.natAbs<2^64)\/(i.natAbs<2^1000/\j.natAbs<2^1000)) λi j=>.int (i*j)):=by
 rw[3];obtain⟨i,j,ex,ey,hc,q⟩:=h;rcases hc with hc|hc
 .refine Od ac s Z H x y v u Q I rx ry ⟨i,j,ex,ey,?_,q⟩;rcases hc with hc|hc
  .exact .inl ⟨(),()⟩
  .exact .inr ⟨(),()⟩
 .exact Uv ac s Z H x y v u Q I rx ry ⟨i,j,ex,ey,hc,q⟩
theorem Oq (ha:DE X a fa)(hb:DE X b fb):DE X (.BinOp a .Mult b pos) (ah gQ fa fb):=pM ZJ (xJ (λ_ _ h=>h) λ_ _ _=>Aak.2 rfl) ha hb
def eD:aA->aA->Option aA:=vv (λ_ j=>0<j/\j<1073741824) λi j=>.int (i/j)
theorem Re (ha:DE X a fa)(hb:DE X b fb):DE X (.BinOp a .FloorDiv b pos) (ah eD fa fb):=pM Tv (xJ (λ_ _ h=>h) λ_ _ _=>Aak.2 rfl) ha hb
def cO:aA->aA->Option aA:=vv (λ_ j=>0<j) λi j=>.int (i%j)
theorem TV (ha:DE X a fa)(hb:DE X b fb):DE X (.BinOp a .Mod b pos) (ah cO fa fb):=pM Nr (xJ (λ_ _ h=>h) λ_ _ _=>Aak.2 rfl) ha hb
def BI:aA->aA->Option aA:=vv (λi j=>0<=j/\j<=1000000/\i.natAbs<2^64) λi j=>.int (i^j.toNat)
theorem UC (ha:DE X a fa)(hb:DE X b fb):DE X (.BinOp a .Pow b pos) (ah BI fa fb):=pM Ow (xJ (λ_ _ h=>h) λ_ _ _=>Aak.2 rfl) ha hb
def GZ:aA->Option aA
 |.int i=>aa (.int (-i))
 |_=>ab
theorem Pm (ha:DE X a fa):DE X (.UnaryOp .USub a pos) (ff GZ fa):=Nh Ny (λP H x a d Q hP r e k=>by
 unfold GZ at e;split at e
 .cases e;exact⟨_,Aak.1 r,k.zero Ext.refl (Aak.2 rfl)⟩
 .cases e) ha
theorem Wz(hx:cR (.str x)=ae)(hy:cR (.str y)=ae):cR (.str (x++y))=ae:=by
 have e:(x++y).cps=x.cps++y.cps:=rfl;simp only[cR,PyData.strOk] at hx hy ⊢;rw[e,Array.all_append,hx,hy]
 rfl
def eR:aA->aA->Option aA
 |.int i,.int j=>aa (.int (i+j))
 |.str x,.str y=>if x.length+y.length<=sizeLine then aa (.str (x++y)) else ab
 |.tuple (x::xs),.tuple ys=>if (x::xs).length+ys.length<=sizeLine then aa (.tuple ((x::xs)++ys)) else ab
 |_,_=>ab
theorem Sw:jl K 0 (λx y H Q=>sx (λi j=>.int (i+j)) x y H Q\/(∃ i j,x=.str i/\y=.str j/\i.length+j.length<=sizeLine/\Q (.str (i++j)) H)\/HK K x y H Q) eR:=λP H x y a b d Q hP ra rb e k=>by
 unfold eR at e;split at e
 .rename_i i j;cases e;exact .inl ⟨i,j,Aak.1 ra,Aak.1 rb,k.zero Ext.refl (Aak.2 rfl)⟩
 .rename_i i j;obtain⟨hc,rfl⟩:=cM e;exact .inr (.inl ⟨i,j,(Aa8.1 ra).1,(Aa8.1 rb).1,hc,k.zero Ext.refl (Aa8.2 ⟨rfl,Wz (Aa8.1 ra).2 (Aa8.1 rb).2⟩)⟩)
 .rename_i z zs ys;obtain⟨hc,rfl⟩:=cM e;obtain⟨p,us,rfl,hp,r1⟩:=Aaq.1 ra;obtain⟨q,ws,rfl,hq,r2⟩:=Aaq.1 rb;have l1:=r1.length;have l2:=r2.length;refine .inr (.inr ⟨p,q,us,ws,rfl,rfl,SqT.of (Aam _ _ hp),SqT.of (Aam _ _ hq),λz=>by rw[z] at l1;simp at l1,by rw[l1,l2];exact hc,λz=>?_,λz r hr=>?_⟩)
  .subst z;have:ys=[]:=by simpa using l2.symm
   rw[13];refine k.zero Ext.refl ?_;rw[mS];exact ra
  .exact k.tup hP hr (r1.append r2)
 .cases e
theorem Mz (ha:DE X a fa)(hb:DE X b fb):DE X (.BinOp a .Add b pos) (ah eR fa fb):=pM (Bh1.or (Axo.or Az3)) Sw ha hb
mutual
def noDict:aA->Bool
 |.dict _=>af
 |.list ds=>noDicts ds
 |.tuple ds=>noDicts ds
 |_=>ae
def noDicts:List aA->Bool
 |[]=>ae
 |d::r=>noDict d&&noDicts r
end
mutual
theorem lQ {X:Cx}(I:Inv X ac Z H s):∀ {d:aA} {v:V} {u:aD},noDict d=ae->Abj X.K H d v->RelV v u->d.canLay0=ae/\∃ as,kR s.heap u d as
 |.none,v,u,_,h,r=>by
  obtain rfl:=Abr.1 h;cases r;exact⟨by simp[cR],_,.none⟩
 |.bool b,v,u,_,h,r=>by
  obtain rfl:=Aar.1 h;cases r;exact⟨by simp[cR],_,.bool b⟩
 |.int i,v,u,_,h,r=>by
  obtain rfl:=Aak.1 h;obtain⟨t,rfl⟩:=r;exact⟨by simp[cR],_,.int i t⟩
 |.str x,v,u,_,h,r=>by
  obtain⟨rfl,hl⟩:=Aa8.1 h;obtain⟨t,rfl⟩:=r;exact⟨hl,_,.str x t⟩
 |.list ds,v,u,n,h,r=>by
  obtain⟨a,xs,rfl,hs,hr⟩:=Aa7.1 h;cases r;obtain⟨its,rv,⟨o,m,e,hc,_,hd⟩,_⟩:=I.list hs;obtain⟨hl,as,ha⟩:=MJ I (by simpa [noDict] using n) hr rv
  exact⟨by simpa [cR] using hl,_,.list e hc hd (by simpa using ha)⟩
 |.tuple ds,v,u,n,h,r=>by
  obtain⟨a,xs,rfl,hs,hr⟩:=Aaq.1 h;cases r;obtain⟨its,rv,⟨o,e,hc,m,hd⟩,_⟩:=I.tuple (SqT.of hs);obtain⟨hl,as,ha⟩:=MJ I (by simpa [noDict] using n) hr rv
  exact⟨by simpa [cR] using hl,_,.tuple e hc hd (by simpa using ha)⟩
 |.dict _,_,_,n,h,_=>by simp[noDict] at n
theorem MJ {X:Cx}(I:Inv X ac Z H s):∀ {ds:List aA} {vs:List V} {us:List aD},noDicts ds=ae->Aal X.K H ds vs->Vals vs us->AD ds=ae/\∃ as,lW s.heap us ds as
 |[],vs,us,_,h,r=>by
  obtain rfl:=Aaj.1 h;cases r;exact⟨by simp[AD],_,.nil⟩
 |d::ds,vs,us,n,h,r=>by
  have n':noDict d=ae/\noDicts ds=ae:=by simpa [noDicts] using n
  obtain⟨x,rr,rfl,h1,h2⟩:=Aaf.1 h;cases r with
  |cons r1 r2=>
   obtain⟨l1,as,ha⟩:=lQ I n'.1 h1 r1;obtain⟨l2,bs,hb⟩:=MJ I n'.2 h2 r2;exact⟨by simp[AD,l1,l2],_,.cons ha hb⟩
end
def dE (d:aA):Bool:=noDict d&&decide (d.depth<=60)
def du:aA->aA->Option aA:=λa b=>if (dE a&&dE b)=ae then aa (.bool (cF a b)) else ab
def jh:aA->aA->Option aA:=λa b=>if (dE a&&dE b)=ae then aa (.bool (!cF a b)) else ab
def xF (K:aK)(neg:Bool):R2:=λx y H Q=>∃ da db,Abj K H da x/\Abj K H db y/\dE da=ae/\dE db=ae/\Q (.bl (neg != cF da db)) H
theorem BP (hu:X.A.units+100<cLine):OpR X (fZ .Eq) (xF X.K af):=by
 rw[3];obtain⟨da,db,ra,rb,fa,fb,q⟩:=h;have sk:noDict da=ae/\da.depth<=60:=by simpa [dE] using fa
 have Q9:noDict db=ae/\db.depth<=60:=by simpa [dE] using fb
 obtain⟨la,as,ra⟩:=lQ I sk.1 ra rx;obtain⟨lb,bs,rb⟩:=lQ I Q9.1 rb ry;exact SeqAt.compareEq_reads ra rb la lb () ⟨.bl _,H,I,rfl,by simpa using q⟩
theorem Oo (hu:X.A.units+100<cLine):OpR X (fZ .NotEq) (xF X.K ae):=by
 rw[3];obtain⟨da,db,ra,rb,fa,fb,q⟩:=h;have sk:noDict da=ae/\da.depth<=60:=by simpa [dE] using fa
 have Q9:noDict db=ae/\db.depth<=60:=by simpa [dE] using fb
 obtain⟨la,as,ra⟩:=lQ I sk.1 ra rx;obtain⟨lb,bs,rb⟩:=lQ I Q9.1 rb ry;exact SeqAt.compareNe_reads ra rb la lb () ⟨.bl _,H,I,rfl,by simpa using q⟩
theorem NB:jl K 0 (xF K af) du:=λP H x y a b d Q hP ra rb e k=>by
 obtain⟨hc,rfl⟩:=cM e;have de:dE a=ae/\dE b=ae:=by simpa using hc
 exact⟨a,b,ra.ext Aam,rb.ext Aam,de.1,de.2,k.zero Ext.refl (Aar.2 (by simp))⟩
theorem Nz:jl K 0 (xF K ae) jh:=λP H x y a b d Q hP ra rb e k=>by
 obtain⟨hc,rfl⟩:=cM e;have de:dE a=ae/\dE b=ae:=by simpa using hc
 exact⟨a,b,ra.ext Aam,rb.ext Aam,de.1,de.2,k.zero Ext.refl (Aar.2 (by simp))⟩
def GS (K:aK)(neg:Bool):R2:=λx y H Q=>∃ d ds,Abj K H d x/\(Abj K H (.list ds) y\/Abj K H (.tuple ds) y)/\dE d=ae/\noDicts ds=ae/\Q (.bl (neg != ds.any λz=>cF z d)) H
theorem Qh (hu:X.A.units+100<cLine):OpR X (fZ .In) (GS X.K af):=by
 rw[3];obtain⟨d,ds,ra,rb,fa,fb,q⟩:=h;have sk:noDict d=ae/\d.depth<=60:=by simpa [dE] using fa
 obtain⟨la,as,ra⟩:=lQ I sk.1 ra rx;rcases rb with rb|rb
 .obtain⟨lb,bs,rb⟩:=lQ I (by simpa [noDict] using fb) rb ry
  exact SeqAt.in_list_reads rb ra (by simpa [cR] using lb) la () ⟨.bl _,H,I,rfl,by simpa using q⟩
 .obtain⟨lb,bs,rb⟩:=lQ I (by simpa [noDict] using fb) rb ry
  exact SeqAt.in_tuple_reads rb ra (by simpa [cR] using lb) la () ⟨.bl _,H,I,rfl,by simpa using q⟩
theorem ZU (hu:X.A.units+100<cLine):OpR X (fZ .NotIn) (GS X.K ae):=by
 rw[3];obtain⟨d,ds,ra,rb,fa,fb,q⟩:=h;have sk:noDict d=ae/\d.depth<=60:=by simpa [dE] using fa
 obtain⟨la,as,ra⟩:=lQ I sk.1 ra rx;rcases rb with rb|rb
 .obtain⟨lb,bs,rb⟩:=lQ I (by simpa [noDict] using fb) rb ry
  exact SeqAt.notIn_list_reads rb ra (by simpa [cR] using lb) la () ⟨.bl _,H,I,rfl,by simpa using q⟩
 .obtain⟨lb,bs,rb⟩:=lQ I (by simpa [noDict] using fb) rb ry
  exact SeqAt.notIn_tuple_reads rb ra (by simpa [cR] using lb) la () ⟨.bl _,H,I,rfl,by simpa using q⟩
end
theorem PE.or{t t':TE}(h:PE X e t)(h':PE X e t'):PE X e (λZ H Q=>t Z H Q\/t' Z H Q):=λac s Z H Q I q=>q.elim (h ac s Z H Q I) (h' ac s Z H Q I)
def su:aA->aA->Option aA
 |.int i,.int j=>aa (.bool (decide (i<j)))
 |.str i,.str j=>aa (.bool (decide (i.cps.toList<j.cps.toList)))
 |_,_=>ab
def iq:aA->aA->Option aA:=L5 λi j=>.bool (decide (j<i))
theorem Nu:jl K 0 (λx y H Q=>sx (λi j=>.bl (decide (i<j))) x y H Q\/∃ i j,x=.str i/\y=.str j/\Q (.bl (decide (i.cps.toList<j.cps.toList))) H) su:=λP H x y a b d Q hP ra rb e k=>by
 unfold su at e;split at e
 .cases e;exact .inl ⟨_,_,Aak.1 ra,Aak.1 rb,k.zero Ext.refl (Aar.2 rfl)⟩
 .cases e;exact .inr ⟨_,_,(Aa8.1 ra).1,(Aa8.1 rb).1,k.zero Ext.refl (Aar.2 rfl)⟩
 .cases e
theorem SX:jl K 0 (sx λi j=>.bl (decide (j<i))) iq:=TC λ_ _ _=>Aar.2 rfl
def sN:aA->aA->Option aA
 |.none,.none=>aa (.bool ae)
 |_,.none=>aa (.bool af)
 |_,_=>ab
def lF:aA->aA->Option aA
 |.none,.none=>aa (.bool af)
 |_,.none=>aa (.bool ae)
 |_,_=>ab
theorem YE{a:aA}{x:V}(r:Abj K H a x):decide (x=.non)=(match a with|.none=>ae|_=>af):=by
 cases a with
 |none=>obtain rfl:=Abr.1 r;rfl
 |bool b=>obtain rfl:=Aar.1 r;rfl
 |int b=>obtain rfl:=Aak.1 r;rfl
 |str b=>obtain⟨rfl,_⟩:=Aa8.1 r;rfl
 |list b=>obtain⟨_,_,rfl,_⟩:=Aa7.1 r;rfl
 |tuple b=>obtain⟨_,_,rfl,_⟩:=Aaq.1 r;rfl
 |dict b=>obtain⟨_,rfl,_⟩:=Acw.1 r;rfl
theorem Gi:jl K 0 (λx y H Q=>y=.non/\Q (.bl (decide (x=.non))) H) sN:=λP H x y a b d Q hP ra rb e k=>by
 have q:=YE ra;unfold sN at e;split at e
 .cases e;exact⟨Abr.1 rb,k.zero Ext.refl (Aar.2 (by rw[q]))⟩
 .rename_i h;cases e;refine⟨Abr.1 rb,k.zero Ext.refl (Aar.2 ?_)⟩;rw[q];cases a<;>first|rfl|exact(h rfl).elim
 .cases e
theorem o5:jl K 0 (λx y H Q=>y=.non/\Q (.bl (!decide (x=.non))) H) lF:=λP H x y a b d Q hP ra rb e k=>by
 have q:=YE ra;unfold lF at e;split at e
 .cases e;exact⟨Abr.1 rb,k.zero Ext.refl (Aar.2 (by rw[q];rfl))⟩
 .rename_i h;cases e;refine⟨Abr.1 rb,k.zero Ext.refl (Aar.2 ?_)⟩;rw[q];cases a<;>first|rfl|exact(h rfl).elim
 .cases e
noncomputable def bU:aA->Option aI
 |.int i=>aa (.inl i)
 |.str x=>aa (.inr x)
 |_=>ab
theorem wC(h:bU d=aa k):d=kD k:=by
 cases d<;>simp[bU] at h<;>subst h<;>rfl
noncomputable def bY (kds:List (aA×aA))(k:aI):Option aA:=(kds.find? λkd=>decide (bU kd.1=aa k)).map (·.2)
theorem oI (k:aI):bU (kD k)=aa k:=by cases k<;>rfl
theorem tU:∀ {kds:List (aA×aA)} {kvs:List (aI×V)},Abq K H kds kvs->(bY kds k=ab/\dR kvs k=ab)\/∃ d v,bY kds k=aa d/\dR kvs k=aa v/\Abj K H d v
 |[],kvs,h=>by rw[Abh.1 h];exact .inl ⟨rfl,rfl⟩
 |(k0,d)::r,kvs,h=>by
  obtain⟨k',x,rr,rfl,rfl,h1,h2⟩:=Aa3.1 h;by_cases e:k'=k
  .refine .inr ⟨d,x,?_,kK e,h1⟩;simp[bY,gK,oI,e]
  .have e1:bY ((kD k',d)::r) k=bY r k:=by simp[bY,gK,oI,e]
   rw[e1,jN e];exact tU h2
theorem Be:∀ {kds:List (aA×aA)} {kvs:List (List aA×V)},Acm K H kds kvs->bY kds k=ab
 |[],kvs,h=>rfl
 |(k0,d)::r,kvs,h=>by
  obtain⟨k',x,rr,rfl,⟨rfl,_⟩,h1,h2⟩:=Aca.1 h;have e1:bY ((.tuple k',d)::r) k=bY r k:=by simp[bY,gK,bU]
  rw[e1];exact Be h2
theorem Vm(h:Abj K H (.dict kds) v)(e:bY kds k=aa d):∃ a,∃ kvs:Nat×List (aI×V),v=.ref a/\H a=aa (.dK kvs.1 kvs.2)/\Abq K H kds kvs.2:=by
 obtain⟨a,ev,⟨kvs,h1,r⟩|⟨ts,h1,r⟩|⟨xs,h1,r⟩⟩:=Acw.1 h
 case inr.inr=>
  obtain⟨es,rfl,_⟩:=LH r;cases e
 .exact⟨a,kvs,ev,h1,r⟩
 .cases kds with
  |nil=>simp[Ay2] at r
  |cons p q=>
   obtain⟨k0,m⟩:=p;obtain⟨rfl,r2⟩:=Aei.1 r;have e1:bY ((.none,m)::q) k=bY q k:=by simp[bY,gK,bU]
   rw[e1,Be r2] at e;cases e
def lB (kds:List (aA×aA))(k:List aA):Option aA:=(kds.find? λkd=>cF kd.1 (.tuple k)).map (·.2)
theorem Es (a b:List aA):cF (.tuple a) (.tuple b)=wO a b:=by simp[cF]
theorem Ba {a k:List aA}{r:List (aA×aA)}(ha:bR a=ae)(hk:bR k=ae):lB ((.tuple a,d)::r) k=if a=k then aa d else lB r k:=by
 have e:cF (.tuple a) (.tuple k)=decide (a=k):=by rw[Es,yQ _ _ ha hk]
 unfold lB;rw[gK,e];by_cases h:a=k
 .rw[if_pos h,decide_eq_true h];rfl
 .rw[if_neg h,decide_eq_false h]
theorem LD{k:List aA}(hk:bR k=ae):∀ {kds:List (aA×aA)} {kvs:List (List aA×V)},Acm K H kds kvs->(lB kds k=ab/\dR kvs k=ab)\/∃ d v,lB kds k=aa d/\dR kvs k=aa v/\Abj K H d v
 |[],kvs,h=>by rw[Ado.1 h];exact .inl ⟨rfl,rfl⟩
 |(k0,d)::r,kvs,h=>by
  obtain⟨k',x,rr,rfl,⟨rfl,bz⟩,h1,h2⟩:=Aca.1 h;rw[Ba bz hk];by_cases e:k'=k
  .rw[if_pos e];exact .inr ⟨d,x,rfl,kK e,h1⟩
  .rw[if_neg e,jN e];exact LD hk h2
noncomputable def putD (kds:List (aA×aA))(k:aI)(d:aA):List (aA×aA):=
 if (kds.any λkd=>decide (bU kd.1=aa k))=ae then kds.map λkd=>if bU kd.1=aa k then(kd.1,d) else kd else kds++[(kD k,d)]
theorem Fd:∀ {kds:List (aA×aA)} {kvs:List (aI×V)},Abq K H kds kvs->(kds.any λkd=>decide (bU kd.1=aa k))=kvs.any λkv=>decide (kv.1=k)
 |[],kvs,h=>by rw[Abh.1 h];rfl
 |(k0,d)::r,kvs,h=>by
  obtain⟨k',x,rr,rfl,rfl,h1,h2⟩:=Aa3.1 h;rw[wZ,wZ,Fd h2,oI];simp
theorem KC(rv:Abj K H d v):∀ {kds:List (aA×aA)} {kvs:List (aI×V)},Abq K H kds kvs ->
  Abq K H (kds.map λkd=>if bU kd.1=aa k then(kd.1,d) else kd) (kvs.map λkv=>if kv.1=k then(kv.1,v) else kv)
 |[],kvs,h=>by rw[Abh.1 h];exact Abh.2 rfl
 |(k0,d0)::r,kvs,h=>by
  obtain⟨k',x,rr,rfl,rfl,h1,h2⟩:=Aa3.1 h;rw[dC,dC];by_cases e:k'=k
  .rw[if_pos (show bU (kD k',d0).1=aa k by rw[oI,e]),if_pos (show(k',x).1=k from e)]
   exact Aa3.2 ⟨k',v,_,rfl,rfl,rv,KC rv h2⟩
  .rw[if_neg (show ¬ bU (kD k',d0).1=aa k by rw[oI];simpa using e),if_neg (show ¬ (k',x).1=k from e)]
   exact Aa3.2 ⟨k',x,_,rfl,rfl,h1,KC rv h2⟩
theorem Abq.snoc(rv:Abj K H d v):∀ {kds:List (aA×aA)} {kvs:List (aI×V)},Abq K H kds kvs->Abq K H (kds++[(kD k,d)]) (kvs++[(k,v)])
 |[],kvs,h=>by rw[Abh.1 h];exact Aa3.2 ⟨k,v,[],rfl,rfl,rv,Abh.2 rfl⟩
 |(k0,d0)::r,kvs,h=>by
  obtain⟨k',x,rr,rfl,rfl,h1,h2⟩:=Aa3.1 h;exact Aa3.2 ⟨k',x,_,rfl,rfl,h1,Abq.snoc rv h2⟩
theorem CH{kvs:List (aI×V)}(h:Abq K H kds kvs)(rv:Abj K H d v):Abq K H (putD kds k d) (putK kvs k v):=by
 unfold putD putK;rw[Fd h];by_cases q:(kvs.any λkv=>decide (kv.1=k))=ae
 .rw[if_pos q,if_pos q];exact KC rv h
 .rw[if_neg q,if_neg q];exact Abq.snoc rv h
theorem Abq.length:∀ {kds:List (aA×aA)} {kvs:List (aI×V)},Abq K H kds kvs->kvs.length=kds.length
 |[],kvs,h=>by rw[Abh.1 h];rfl
 |(k0,d0)::r,kvs,h=>by
  obtain⟨k',x,rr,rfl,rfl,h1,h2⟩:=Aa3.1 h;rw[fM,fM,Abq.length h2]
theorem kN{x:V}(h:bU d=aa k)(r:Abj K H d x):x=kV k:=by
 rw[wC h] at r;exact Yj r
def ar:aA->aA->Option aA
 |.list ds,.int i=>ij ds i
 |.tuple ds,.int i=>ij ds i
 |.str z,.int i=>if z.length<=sizeLine then(ij z.cps.toList i).bind λc=>aa (.str ⟨#[c]⟩) else ab
 |.dict kds,d=>(bU d).bind λk=>bY kds k
 |_,_=>ab
theorem Gv{i:Int}(r:Aal K H ds xs)(h:ij ds i=aa d):∃ v,ij xs i=aa v/\Abj K H d v:=by
 unfold ij at h ⊢;rw[r.length];obtain⟨j,h1,h2⟩:=ak h;obtain⟨v,h3,h4⟩:=r.get h2;exact⟨v,by rw[h1];exact h3,h4⟩
theorem Sf {α:Type}{xs:List α}{i:Int}{x:α}(h:ij xs i=aa x):∃ j:Nat,xs[j]?=aa x:=by
 unfold ij at h;obtain⟨j,h1,h2⟩:=ak h;exact⟨j,h2⟩
section
variable {a:aU}{fa fb f:EF}
theorem HB (hu:X.A.units+40<cLine)(ha:DE X a fa)(hb:DE X b fb)(hs:IC b):DE X (.Subscript a b pos) (ah ar fa fb):=PE.imp (PE.or (SA TK ha hb hs) (JG hu ha hb hs)) λZ H Q h=>by
 obtain⟨P,Y,d,hP,rs,ef,k⟩:=h;obtain⟨d1,e1,bm⟩:=ak ef;obtain⟨d2,e2,bq⟩:=ak bm;clear ef bm;have seq:(∀ (H2:Hp) (v u:V),Ext H H2->Abj X.K (hid H2 P) d1 v->Abj X.K (hid H2 P) d2 u->V9 X.K v u H2 Q)->yc (V9 X.K) (tF X.K 0 fa) (tF X.K 0 fb) Z H Q:=λz=>
  ⟨P,Y,d1,hP,rs,e1,eB λv H1 x1 r1=>⟨P,Y,d2,hP.ext x1,rs.ext (dB x1),e2,eB λu H2 x2 r2=>z H2 v u (x1.trans x2) (r1.ext (dB x2)) r2⟩⟩
 cases d1 with
 |list ds=>
  cases d2 with
  |int i=>
   refine .inl (seq λH2 v u x r1 r2=>.inl ?_)
   obtain⟨q,xs,rfl,hq,rr⟩:=Aa7.1 r1;obtain⟨w,h1,h2⟩:=Gv rr (show ij ds i=aa d from bq)
   exact⟨q,xs,i,w,rfl,Aak.1 r2,Aam.sqL hq,h1,k.zero x h2⟩
  |_=>cases bq
 |tuple ds=>
  cases d2 with
  |int i=>
   refine .inl (seq λH2 v u x r1 r2=>.inr (.inl ?_))
   obtain⟨q,xs,rfl,hq,rr⟩:=Aaq.1 r1;obtain⟨w,h1,h2⟩:=Gv rr (show ij ds i=aa d from bq)
   exact⟨q,xs,i,w,rfl,Aak.1 r2,SqT.of (Aam _ _ hq),h1,k.zero x h2⟩
  |_=>cases bq
 |str z=>
  cases d2 with
  |int i=>
   have bq:(if z.length<=sizeLine then(ij z.cps.toList i).bind λc=>aa (.str ⟨#[c]⟩) else ab)=aa d:=bq
   by_cases hz:z.length<=sizeLine
   .rw[if_pos hz] at bq;obtain⟨c,h1,h2⟩:=ak bq;cases h2;obtain⟨j,hj⟩:=Sf h1;refine .inl (seq λH2 v u x r1 r2=>.inr (.inr ⟨z,i,c,(Aa8.1 r1).1,Aak.1 r2,hz,h1,k.zero x (Aa8.2 ⟨rfl,KI (Aa8.1 r1).2 hj⟩)⟩))
   .rw[if_neg hz] at bq;cases bq
  |_=>cases bq
 |dict kds=>
  obtain⟨kk,h1,h2⟩:=ak (show((bU d2).bind λk=>bY kds k)=aa d by cases d2<;>exact bq)
  refine .inr ⟨P,Y,_,hP,rs,e1,eB λv H1 x1 r1=>⟨P,Y,d2,hP.ext x1,rs.ext (dB x1),e2,eB λu H2 x2 r2=>?_⟩⟩
  obtain⟨q,kvs,rfl,hq,rr⟩:=Vm (r1.ext (dB x2)) h2;rcases tU rr with⟨n1,_⟩|⟨d',v',s1,s2,rd⟩
  .rw[h2] at n1;cases n1
  .rw[h2] at s1;cases s1;refine⟨q,v',rfl,.inl ⟨kvs.1,kvs.2,kk,.inl (Aam _ _ hq),kN h1 r2,s2.symm⟩,k.zero (x1.trans x2) rd⟩
 |_=>cases d2<;>cases bq
def RB (neg:Bool):aA->List (aA×aA)->Option aA
 |.tuple _,(_,.list _)::_=>ab
 |.tuple k,(_,_)::kds=>if (bR k&&decide (cT k<=6))=ae then aa (.bool (neg != (lB kds k).isSome)) else ab
 |_,_=>ab
def kg (neg:Bool):aA->aA->Option aA
 |d,.list ds=>if (dE d&&noDicts ds)=ae then aa (.bool (neg != ds.any λz=>cF z d)) else ab
 |d,.tuple ds=>if (dE d&&noDicts ds)=ae then aa (.bool (neg != ds.any λz=>cF z d)) else ab
 |.str i,.str j=>aa (.bool (neg != !(QA j i 0 j.length 1).isEmpty))
 |d,.dict kds=>if dh kds=ae then(bU d).bind λk=>aa (.bool (neg != (bY kds k).isSome)) else RB neg d kds
 |_,_=>ab
def NL (K:aK)(neg:Bool):R2:=λx y H Q=>GS K neg x y H Q\/(∃ i j,x=.str i/\y=.str j/\Q (.bl (neg != !(QA j i 0 j.length 1).isEmpty)) H)\/∃ a o,y=.ref a/\qP H a x o/\Q (.bl (neg != o.isSome)) H
theorem WS (hu:X.A.units+100<cLine):OpR X (fZ .In) (NL X.K af):=by
 rw[3];rcases h with h|⟨i,j,ex,ey,q⟩|⟨a,o,rfl,g,q⟩
 .exact Qh hu ac s Z H x y v u Q I rx ry h
 .exact E8 ac s Z H x y v u Q I rx ry ⟨i,j,ex,ey,by simpa using q⟩
 .cases ry;exact Km () I g rx λs' I'=>⟨.bl _,H,I',rfl,by simpa using q⟩
theorem Yc (hu:X.A.units+100<cLine):OpR X (fZ .NotIn) (NL X.K ae):=by
 rw[3];rcases h with h|⟨i,j,ex,ey,q⟩|⟨a,o,rfl,g,q⟩
 .exact ZU hu ac s Z H x y v u Q I rx ry h
 .exact Zv ac s Z H x y v u Q I rx ry ⟨i,j,ex,ey,by simpa using q⟩
 .cases ry;exact Rr () I g rx λs' I'=>⟨.bl _,H,I',rfl,by simpa using q⟩
theorem NF{neg:Bool}:jl K 0 (NL K neg) (kg neg):=λP H x y a b d Q hP ra rb e k=>by
 unfold kg at e;split at e
 .obtain⟨hc,rfl⟩:=cM e;have de:=iK.1 hc;exact .inl ⟨a,_,ra.ext Aam,.inl (rb.ext Aam),de.1,de.2,k.zero Ext.refl (Aar.2 rfl)⟩
 .obtain⟨hc,rfl⟩:=cM e;have de:=iK.1 hc;exact .inl ⟨a,_,ra.ext Aam,.inr (rb.ext Aam),de.1,de.2,k.zero Ext.refl (Aar.2 rfl)⟩
 .cases e;exact .inr (.inl ⟨_,_,(Aa8.1 ra).1,(Aa8.1 rb).1,k.zero Ext.refl (Aar.2 rfl)⟩)
 .rename_i kds;by_cases pk:dh kds=ae
  case neg=>
   rw[if_neg pk] at e;have ek:∃ m r,kds=(.none,m)::r:=by
    cases kds with
    |nil=>simp[dh] at pk
    |cons p r=>
     obtain⟨k0,m⟩:=p;cases k0<;>simp[dh] at pk;exact⟨m,r,rfl⟩
   obtain⟨m,r,rfl⟩:=ek;cases a with
   |tuple kk=>
    have hm:∀ es,m ≠ .list es:=by
     rintro es rfl;cases e
    replace e:(if (bR kk&&decide (cT kk<=6))=ae then aa (jW (neg != (lB r kk).isSome)) else ab)=aa d:=by
     cases m with
     |list es=>exact absurd rfl (hm es)
     |_=>exact e
    obtain⟨hc,rfl⟩:=cM e;have de:bR kk=ae/\cT kk<=6:=by simpa using hc
    obtain⟨q,ts,rfl,hq,rr⟩:=(KO hm).1 rb;obtain⟨b,xs,rfl,hb,rx⟩:=Aaq.1 (ra.ext Aam);refine .inr (.inr ⟨q,dR ts.2 kk,rfl,.inr ⟨ts.2,kk,b,⟨_,.inl (Aam _ _ hq)⟩,rfl,⟨de.1,de.2,xs,hb,Aal.keys kk de.1 rx⟩,rfl⟩,k.zero Ext.refl (Aar.2 ?_)⟩);rcases LD de.1 rr with⟨n1,n2⟩|⟨d',v',s1,s2,rd⟩
    .rw[n1,n2];rfl
    .rw[s1,s2];rfl
   |_=>simp[RB] at e
  rw[if_pos pk] at e;obtain⟨kk,h1,h2⟩:=ak e;cases h2;obtain⟨q,kvs,rfl,hq,rr⟩:=(pW pk).1 rb;refine .inr (.inr ⟨q,dR kvs.2 kk,rfl,.inl ⟨kvs.1,kvs.2,kk,.inl (Aam _ _ hq),kN h1 ra,rfl⟩,k.zero Ext.refl (Aar.2 ?_)⟩);rcases tU rr with⟨n1,n2⟩|⟨d',v',s1,s2,rd⟩
  .rw[n1,n2];rfl
  .rw[s1,s2];rfl
 .cases e
end
def cB:List aA->Option aA
 |[.list ds]=>aa (.int ds.length)
 |[.tuple ds]=>aa (.int ds.length)
 |[.dict kds]=>if dh kds=ae then aa (.int kds.length) else ab
 |[.str z]=>if z.length<=sizeLine then aa (.int z.length) else ab
 |_=>ab
theorem fT(r:Aal K H [d] xs):∃ v,xs=[v]/\Abj K H d v:=by
 obtain⟨v,t,rfl,h1,h2⟩:=Aaf.1 r;obtain rfl:=Aaj.1 h2;exact⟨v,rfl,h1⟩
section
def QY (K:aK):List V->Hp->VK->Prop:=λxs H Q=>(∃ p ys,xs=[.ref p]/\(SqL K H p ys\/SqT K H p ys)/\Q (.int ys.length) H)\/(∃ z,xs=[.str z]/\z.length<=sizeLine/\Q (.int z.length) H)\/∃ a ep kvs,xs=[V.ref a]/\H a=aa (.dK ep kvs)/\Q (.int kvs.length) H
theorem Bp:Ac1 X (.builtin "len") (QY X.K):=Arc.or (Aqo.or A9)
theorem YT:CallD K 0 (QY K) cB:=λP H xs ds d Q hP r e k=>by
 unfold cB at e;split at e
 .cases e;rw[9];replace r:=r';obtain⟨q,ys,rfl,hq,rr⟩:=Aa7.1 r;exact .inl ⟨q,ys,rfl,.inl (Aam.sqL hq),k.zero Ext.refl (Aak.2 (by rw[rr.length]))⟩
 .cases e;rw[9];replace r:=r';obtain⟨q,ys,rfl,hq,rr⟩:=Aaq.1 r;exact .inl ⟨q,ys,rfl,.inr (SqT.of (Aam _ _ hq)),k.zero Ext.refl (Aak.2 (by rw[rr.length]))⟩
 .obtain⟨pk,rfl⟩:=cM e;rw[9];replace r:=r';obtain⟨q,ys,rfl,hq,rr⟩:=(pW pk).1 r;exact .inr (.inr ⟨q,ys.1,ys.2,rfl,Aam _ _ hq,k.zero Ext.refl (Aak.2 (by rw[rr.length]))⟩)
 .obtain⟨hz,rfl⟩:=cM e;rw[9];replace r:=r';exact .inr (.inl ⟨_,by rw[(Aa8.1 r).1],hz,k.zero Ext.refl (Aak.2 rfl)⟩)
 .cases e
noncomputable def nZ:aA->String
 |.none=>"NoneType"
 |.bool _=>"bool"
 |.int _=>"int"
 |.str _=>"str"
 |.list _=>"list"
 |.tuple _=>"tuple"
 |.dict _=>"dict"
def XG:List String:=["int","bool","str","list","tuple","dict"]
theorem C5 (d:aA):nZ d∈kinds:=by cases d<;>simp[nZ,kinds]
theorem Vx:Ac1 X (.builtin "isinstance") (λxs H Q=>∃ x T d,xs=[x,.ty T]/\Abj X.K H d x/\T∈XG/\Q (.bl (ug (nZ d) T)) H):=by
 rw[5];obtain⟨x,T,d,rfl,rd,hT,q⟩:=h;have ek:=Rq (C5 d) hT;have by_ty:TyOf X.K H x (.type (nZ d))->aM (aP X.prog X.w) X.A (call (.builtin "isinstance") us) (EP X ac Z Q) X.xe s:=λty=>
  Zc ac s Z H _ us Q I r ⟨x,T,_,ug (nZ d) T,rfl,ty,Al1.trans ek,q⟩
 cases d with
 |none=>obtain rfl:=Abr.1 rd;exact by_ty .non
 |bool b=>obtain rfl:=Aar.1 rd;exact by_ty (.bl _)
 |int b=>obtain rfl:=Aak.1 rd;exact by_ty (.int _)
 |str b=>obtain⟨rfl,_⟩:=Aa8.1 rd;exact by_ty (.str _)
 |list b=>
  obtain⟨a,ys,rfl,h,_⟩:=Aa7.1 rd;obtain⟨u,w',rfl,ru,ic⟩:=vals2 r;cases ic;cases ru;obtain⟨its,_,⟨o,n,e1,hc,_,_⟩,_⟩:=I.list h;exact mQ Hv I.kIn ⟨o,e1,hc⟩ (Al1.trans ek) (λz=>nomatch z) λtk=>⟨.bl _,H,I.tok tk,rfl,q⟩
 |tuple b=>obtain⟨_,_,rfl,h,_⟩:=Aaq.1 rd;exact by_ty (.tup h)
 |dict b=>
  obtain⟨_,rfl,⟨_,h,_⟩|⟨_,h,_⟩|⟨_,h,_⟩⟩:=Acw.1 rd
  .exact by_ty (.dK h)
  .exact by_ty (.dT h)
  .obtain⟨u,w',rfl,ru,ic⟩:=vals2 r;cases ic;cases ru;obtain⟨⟨_,_,o,_,e1,hc,_⟩,_⟩:=I.hok _ _ h;exact mQ Hw I.kIn ⟨o,e1,hc.1⟩ (Al1.trans ek) (λz=>nomatch z) λtk=>⟨.bl _,H,I.tok tk,rfl,q⟩
noncomputable def fC (T:String):aA->Option aA:=λd=>aa (.bool (ug (nZ d) T))
variable {a:aU}{f:EF}{fa:AF}{av ay:bK}
theorem xU(yx:Gl X "isinstance")(hm:X.mg "isinstance" = ab)(hg:Gl X x)(hmx:X.mg x=ab)(hv:mO x=aa (.type T))(hT:T∈XG)(he:DE X e f)
  (hn:x ≠ "__name__":=by decide) (hd:(x==("__debug__" : aE))=af:=by decide) (ng:bW (e::[.Name x p2]) X.env=(af,bT e X.env)::bW [.Name x p2] X.env:=by rfl)
  (gq:bW (.Name x p2::[]) X.env=(af,bT (.Name x p2) X.env)::bW [] X.env:=by rfl) (dt:(jU pos (bW [.Name x p2] X.env)).any (·.1)=af:=by rfl):DE X (.Call (.Name "isinstance" p) [e,.Name x p2] [] pos) (ff (fC T) f):=
 PE.imp (JO Vx yx hm boot_isinstance (fK he (fK (Mn hg hmx hv hn hd) iE gq) ng) nofun nofun ng dt) λZ H Q gh=>by
  rw[4];obtain⟨d1,e1,ef⟩:=ak ef;cases ef;exact⟨P,Y,d1,hP,rs,e1,eB λv H1 x1 r1=>⟨v,T,d1,rfl,r1.ext Aam,hT,k.zero x1 (Aar.2 rfl)⟩⟩
def iD:List aA->Option aA
 |[.list ds]=>aa (.tuple ds)
 |[.tuple ds]=>aa (.tuple ds)
 |_=>ab
theorem Zm:CallD K 0 (λxs H Q=>∃ p ys,xs=[.ref p]/\((SqL K H p ys/\∀ l,H l=ab->Q (.ref l) (upd H l (.tup ys)))\/(SqT K H p ys/\Q (.ref p) H))) iD:=λP H xs ds d Q hP r e k=>by
 unfold iD at e;split at e
 .cases e;rw[9];replace r:=r';obtain⟨q,ys,rfl,hq,rr⟩:=Aa7.1 r;exact⟨q,ys,rfl,.inl ⟨Aam.sqL hq,λl hl=>k.tup hP hl rr⟩⟩
 .cases e;rw[9];replace r:=r';obtain⟨q,ys,rfl,hq,rr⟩:=Aaq.1 r;exact⟨q,ys,rfl,.inr ⟨SqT.of (Aam _ _ hq),k.zero Ext.refl r⟩⟩
 .cases e
def qZ:List aA->Option aA
 |[.list ds]=>aa (.list ds)
 |[.tuple ds]=>aa (.list ds)
 |[.str z]=>if z.length<=sizeLine then aa (.list (z.cps.toList.map λc=>.str ⟨#[c]⟩)) else ab
 |_=>ab
def RY (K:aK):List V->Hp->VK->Prop:=λxs H Q=>(∃ p ys,xs=[.ref p]/\(SqL K H p ys\/SqT K H p ys)/\∀ l,H l=ab->Q (.ref l) (upd H l (.lst ys)))\/∃ z:aE,xs=[.str z]/\z.length<=sizeLine/\∀ l,H l=ab->Q (.ref l) (upd H l (.lst (z.cps.toList.map sT)))
theorem zG (hc:X.calm=ae):Ac1 X (.type "list") (RY X.K):=Aql.or (Wo hc)
theorem Ap:∀ {cs:List Nat},(∀ c∈cs,cR (.str ⟨#[c]⟩)=ae)->Aal K H (cs.map λc=>.str ⟨#[c]⟩) (cs.map sT)
 |[],_=>Aaj.2 rfl
 |c::r,h=>Aaf.2 ⟨_,_,rfl,Aa8.2 ⟨rfl,h c bE⟩,Ap λc' m=>h c' (bL _ m)⟩
theorem yU:CallD K 1 (RY K) qZ:=λP H xs ds d Q hP r e k=>by
 unfold qZ at e;split at e
 .cases e;rw[9];replace r:=r';obtain⟨q,ys,rfl,hq,rr⟩:=Aa7.1 r;exact .inl ⟨q,ys,rfl,.inl (Aam.sqL hq),λl hl=>k.lst hP hl rr⟩
 .cases e;rw[9];replace r:=r';obtain⟨q,ys,rfl,hq,rr⟩:=Aaq.1 r;exact .inl ⟨q,ys,rfl,.inr (SqT.of (Aam _ _ hq)),λl hl=>k.lst hP hl rr⟩
 .obtain⟨hz,rfl⟩:=cM e;rw[9];replace r:=r';refine .inr ⟨_,by rw[(Aa8.1 r).1],hz,λl hl=>k.lst hP hl (Ap λc m=>?_)⟩
  obtain⟨j,hj⟩:=Iw.1 m;exact KI (Aa8.1 r).2 hj
 .cases e
def sO:List aA->Option (List Bool)
 |[]=>aa []
 |.bool b::r=>(sO r).bind λbs=>aa (b::bs)
 |_::_=>ab
def xH:List aA->Option aA
 |[.list ds]=>(sO ds).bind λbs=>aa (.bool (bs.all id))
 |_=>ab
theorem XD:∀ {ds:List aA} {xs:List V} {bs:List Bool},sO ds=aa bs->Aal K H ds xs->xs=bs.map V.bl
 |[],xs,bs,e,r=>by
  cases e;rw[Aaj.1 r];rfl
 |.bool b::ds,xs,bs,e,r=>by
  obtain⟨uw,e1,e2⟩:=ak (show((sO ds).bind λbs=>aa (b::bs))=aa bs from e)
  cases e2;obtain⟨v,t,rfl,h1,h2⟩:=Aaf.1 r;rw[Aar.1 h1,XD e1 h2];rfl
 |.none::_,_,_,e,_=>by cases e
 |.int _::_,_,_,e,_=>by cases e
 |.str _::_,_,_,e,_=>by cases e
 |.list _::_,_,_,e,_=>by cases e
 |.tuple _::_,_,_,e,_=>by cases e
 |.dict _::_,_,_,e,_=>by cases e
theorem E7:CallD K 0 (λxs H Q=>∃ p ys,xs=[.ref p]/\SqL K H p ys/\(∀ y∈ys,∃ b,y=.bl b)/\Q (.bl (allB ys)) H) xH:=λP H xs ds d Q hP r e k=>by
 unfold xH at e;split at e
 .obtain⟨bs,e1,e2⟩:=ak e;cases e2;rw[9];replace r:=r';obtain⟨q,ys,rfl,hq,rr⟩:=Aa7.1 r;obtain rfl:=XD e1 rr;refine⟨q,_,rfl,Aam.sqL hq,λy m=>?_,k.zero Ext.refl (Aar.2 ?_)⟩
  .grind
  .unfold allB;rw[List.all_map]
   grind
 .cases e
def cutD (ds:List aA)(lo hi:Option Int):List aA:=(ds.drop (HT.sIx ds.length 0 lo)).take (HT.sIx ds.length ds.length hi-HT.sIx ds.length 0 lo)
abbrev OF:=List (Option aA)->Option (Option Int)
def tOF (K:aK)(f:OF):TO:=λZ H Q=>∃ P Y o,Hid P H/\Amr K (hid H P) Y Z/\f Y=aa o/\∀ H',Ext H H'->Q o H'
abbrev DO (X:Cx)(e:Option aU)(f:OF):Prop:=PO X e (tOF X.K f)
def oN:OF:=λ_=>aa ab
def oS (f:EF):OF:=λY=>(f Y).bind λd=>match d with
 |.int i=>aa (aa i)
 |_=>ab
theorem PO.imp {o:Option aU}{t t':TO}(h:PO X o t)(w:∀ Z H Q,t' Z H Q->t Z H Q):PO X o t':=λac s Z H Q I q=>h ac s Z H Q I (w _ _ _ q)
theorem yD:DO X ab oN:=PO.imp Ua λZ H Q gh=>by
 obtain⟨P,Y,o,hP,rs,ef,k⟩:=gh;cases ef;exact k H Ext.refl
theorem xZ (h:DE X e f):DO X (aa e) (oS f):=PO.imp (Tt h) λZ H Q gh=>by
 obtain⟨P,Y,o,hP,rs,ef,k⟩:=gh;obtain⟨d,e1,ef⟩:=ak ef;refine⟨P,Y,d,hP,rs,e1,eB λv H1 x1 r1=>?_⟩
 cases d with
 |int i=>cases ef;exact⟨i,Aak.1 r1,k H1 x1⟩
 |_=>cases ef
def sL (f:EF)(lo hi:OF):EF:=λY=>(f Y).bind λd=>(lo Y).bind λl=>(hi Y).bind λh=>match d with
 |.list ds=>aa (.list (cutD ds l h))
 |_=>ab
theorem TR {lo hi:Option aU}{fl fh:OF}{pp:bK}(he:DE X e f)(hl:DO X lo fl)(hh:DO X hi fh):DF 1 X (.Subscript e (.Slice lo hi ab pp) pos) (sL f fl fh):=PE.imp (XI Sh he hl hh) λZ H Q gh=>by
 rw[4];obtain⟨d1,e1,bm⟩:=ak ef;obtain⟨l,e2,bq⟩:=ak bm;obtain⟨h,e3,cq⟩:=ak bq;clear ef bm bq;cases d1 with
 |list ds=>
  cases cq;refine⟨P,Y,_,hP,rs,e1,eB λv H1 x1 r1=>⟨P,Y,l,hP.ext x1,rs.ext (dB x1),e2,λH2 x2=>⟨P,Y,h,hP.ext (x1.trans x2),rs.ext (dB (x1.trans x2)),e3,λH3 x3=>?_⟩⟩⟩
  obtain⟨q,ys,rfl,hq,rr⟩:=Aa7.1 (r1.ext (dB (x2.trans x3)));refine⟨q,ys,rfl,Aam.sqL hq,λp hp=>(k.mono ((x1.trans x2).trans x3)).lst (hP.ext ((x1.trans x2).trans x3)) hp ?_⟩
  unfold qS cutD;rw[rr.length];exact(rr.drop _).take _
 |_=>cases cq
theorem yA {α:Type}{c:Prop}[Decidable c]{x:Option α}{y:α}(h:(if c then x else ab)=aa y):c/\x=aa y:=by
 grind
def Lo:aA->aA->aA->Option aA
 |.dict kds,k,x=>if dh kds=ae then(bU k).bind λk=>aa ((bY kds k).getD x) else ab
 |_,_,_=>ab
def jA (fd fk fx:EF):EF:=λY=>(fd Y).bind λd=>(fk Y).bind λk=>(fx Y).bind λx=>Lo d k x
theorem Gk {o k z:aU}{fd fk fx:EF}(hu:X.A.units+40<cLine)(ho:DE X o fd)(hk:DE X k fk)(hz:DE X z fx)(m:M2 X o "get" av k z ay:=by exact⟨rfl,rfl,rfl,rfl⟩):DE X (.Call (.Attribute o "get" av) [k,z] [] ay) (jA fd fk fx):=
 PE.imp (m7 hu ho hk hz m) λZ H Q gh=>by
  obtain⟨P,Y,d,hP,rs,ef,kk⟩:=gh;obtain⟨d1,e1,bm⟩:=ak ef;obtain⟨d2,e2,bq⟩:=ak bm;obtain⟨d3,e3,cq⟩:=ak bq;clear ef bm bq;cases d1 with
  |dict kds=>
   obtain⟨pk,gk⟩:=yA (show(if dh kds=ae then(bU d2).bind λk=>aa ((bY kds k).getD d3) else ab)=aa d from cq)
   obtain⟨key,h1,h2⟩:=ak gk;cases h2;refine⟨P,Y,_,hP,rs,e1,eB λv H1 x1 r1=>?_⟩
   obtain⟨q,kvs,rfl,hq,rr⟩:=(pW pk).1 r1;refine⟨q,rfl,.inl ⟨kvs.1,kvs.2,.inl (Aam _ _ hq)⟩,P,Y,d2,hP.ext x1,rs.ext (dB x1),e2,eB λu H2 x2 r2=>⟨P,Y,d3,hP.ext (x1.trans x2),rs.ext (dB (x1.trans x2)),e3,eB λw H3 x3 r3=>?_⟩⟩
   refine⟨dR kvs.2 key,.inl ⟨kvs.1,kvs.2,key,.inl (x3 _ _ (x2 _ _ (Aam _ _ hq))),kN h1 r2,rfl⟩,kk.zero ((x1.trans x2).trans x3) ?_⟩;rcases tU (rr.ext (dB (x2.trans x3))) with⟨n1,n2⟩|⟨d',v',s1,s2,rd⟩
   .rw[n1,n2];exact r3
   .rw[s1,s2];exact rd
  |_=>cases cq
theorem Res.dic{P:aC->Prop}{ep:Nat}{kvs:List (aI×V)}{q:aC}(hP:Hid P H)(h:Res K P 1 (.dict kds) H Q)(n:H q=ab)(r:Abq K (hid H P) kds kvs):Q (.ref q) (upd H q (.dK ep kvs)):=by
 refine h (.ref q) _ [q] (Ext.new n) (jZ.2 ⟨by simp,.nil⟩) (λa m=>?_) ⟨q,(ep,kvs),kvs.map λ_=>[],rfl,dZ,?_,?_⟩
 .have:a=q:=by simpa using m
  rw[13];exact⟨n,_,dZ⟩
 .have:∀ l:List (aI×V),(l.map λ_=>([]:List aC)).flatten=[]:=λl=>by
   induction l with
   |nil=>rfl
   |cons a l ih=>rw[dC,rZ,ih];rfl
  rw[this]
 .have xe:Ext (hid H P) (hid (upd H q (.dK ep kvs)) (fu P [q])):=λb o e=>by
   obtain⟨nb,e⟩:=Abx.1 e;have hb:=iQ e n;exact fR (λz=>z.elim nb λm=>hb (by simpa using m)) (by rw[cK hb];exact e)
  generalize hid (upd H q (.dK ep kvs)) (fu P [q])=B at xe;generalize upd H q (.dK ep kvs)=H1;clear h;have go:∀ (ds:List (aA×aA)) (xs:List (aI×V)),Abq K (hid H P) ds xs->All3 (λ(kd:aA×aA) (kv:aI×V) f=>kd.1=kD kv.1/\Af3 K B H1 0 kd.2 kv.2 f) ds xs (xs.map λ_=>[]):=by
   intro ds;induction ds with
   |nil=>intro xs r;rw[Abh.1 r];exact .nil
   |cons d ds ih=>
    intro xs r;obtain⟨k',y,t,rfl,ek,h1,h2⟩:=Aa3.1 (show Abq K (hid H P) ((d.1,d.2)::ds) xs from r)
    exact .cons ⟨ek,rfl,h1.ext xe⟩ (ih t h2)
  exact go kds kvs r
theorem Fb:DF 1 X (.Dict [] [] pos) (eC (.dict [])):=PE.imp WG λZ H Q gh=>by
 rw[4];cases ef;exact λq hq=>k.dic hP hq (Abh.2 rfl)
def ES:List aA->Option aA
 |[.dict kds]=>if dh kds=ae then aa (.dict kds) else ab
 |_=>ab
theorem Am:Ac1 X (.type "dict") (λxs H Q=>∃ a ep kvs,xs=[.ref a]/\H a=aa (.dK ep kvs)/\∀ p n,H p=ab->Q (.ref p) (upd H p (.dK n kvs))):=by
 rw[5];obtain⟨a,ep,kvs,rfl,ha,q⟩:=h;obtain⟨u,rfl,ru⟩:=vals1 r;cases ru;exact r9 I (.inl ha) λp n s' hp I'=>⟨.ref p,_,I',rfl,q p n hp⟩
theorem Bc:CallD K 1 (λxs H Q=>∃ a ep kvs,xs=[.ref a]/\H a=aa (.dK ep kvs)/\∀ p n,H p=ab->Q (.ref p) (upd H p (.dK n kvs))) ES:=λP H xs ds d Q hP r e k=>by
 unfold ES at e;split at e
 .obtain⟨pk,rfl⟩:=cM e;rw[9];replace r:=r';obtain⟨q,ys,rfl,hq,rr⟩:=(pW pk).1 r;exact⟨q,ys.1,ys.2,rfl,Aam _ _ hq,λl n hl=>k.dic hP hl rr⟩
 .cases e
end
section
variable {Y:aR}
theorem KR {B:Hp}:∀ {ds:List aA} {xs:List V} {Fs:List (List aC)},All3 (Afr K B H 0) ds xs Fs->Aal K B ds xs/\Fs.flatten=[]:=by
 intro ds xs Fs h;induction h with
 |nil=>exact⟨Aaj.2 rfl,rfl⟩
 |cons h t ih=>
  obtain⟨rfl,r⟩:=h;exact⟨Aaf.2 ⟨_,_,rfl,r,ih.1⟩,by rw[rZ,ih.2];rfl⟩
theorem Xb {B:Hp}:∀ {ds:List (aA×aA)} {xs:List (aI×V)} {Fs:List (List aC)},All3 (λ(kd:aA×aA) (kv:aI×V) f=>kd.1=kD kv.1/\Afr K B H 0 kd.2 kv.2 f) ds xs Fs->Abq K B ds xs/\Fs.flatten=[]:=by
 intro ds xs Fs h;induction h with
 |nil=>exact⟨Abh.2 rfl,rfl⟩
 |@cons p q F ds xs Fs h t ih=>
  obtain⟨k,d⟩:=p;obtain⟨k',v⟩:=q;obtain⟨ek,rfl,r⟩:=h;exact⟨Aa3.2 ⟨_,_,_,rfl,ek,r,ih.1⟩,by rw[rZ,ih.2];rfl⟩
theorem DM {B:Hp}:∀ {ds:List aA} {xs:List V},Aal K B ds xs->All3 (Afr K B H1 0) ds xs (xs.map λ_=>[])/\(xs.map λ_=>([]:List aC)).flatten=[]
 |[],xs,r=>by rw[Aaj.1 r];exact⟨.nil,rfl⟩
 |d::ds,xs,r=>by
  obtain⟨y,t,rfl,h1,h2⟩:=Aaf.1 r;obtain⟨q1,q2⟩:=DM h2;exact⟨.cons ⟨rfl,h1⟩ q1,by rw[dC,rZ,q2];rfl⟩
theorem Bn {B:Hp}:∀ {ds:List (aA×aA)} {xs:List (aI×V)},Abq K B ds xs->All3 (λ(kd:aA×aA) (kv:aI×V) f=>kd.1=kD kv.1/\Afr K B H1 0 kd.2 kv.2 f) ds xs (xs.map λ_=>[])/\(xs.map λ_=>([]:List aC)).flatten=[]
 |[],xs,r=>by rw[Abh.1 r];exact⟨.nil,rfl⟩
 |(k,d)::ds,xs,r=>by
  obtain⟨k',y,t,rfl,ek,h1,h2⟩:=Aa3.1 r;obtain⟨q1,q2⟩:=Bn h2;exact⟨.cons ⟨ek,rfl,h1⟩ q1,by rw[dC,rZ,q2];rfl⟩
theorem Sta.write {p:aC}{d':aA}(S:Sta K H0 P0 B0 Y Z H fp)(hi:i<Y.length)(hv:Z[i]?=aa (aa (.ref p)))(hp:p∈fp i)(ho:(∃ xs,o=.lst xs)\/∃ q:DQ,o=dO q)
  (new:Af3 K (L2.hid H (Hd P0 fp)) (upd H p o) 1 d' (.ref p) (fp i)):Sta K H0 P0 B0 (Y.set i (aa (1,d'))) Z (upd H p o) fp:=by
 have hb:L2.hid (upd H p o) (Hd P0 fp)=L2.hid H (Hd P0 fp):=by
  funext b;unfold L2.hid;by_cases q:Hd P0 fp b
  .rw[if_pos q,if_pos q]
  .rw[if_neg q,if_neg q];exact cK λz=>q (.inr ⟨i,by rw[z];exact hp⟩)
 refine⟨by simp[S.len],S.nd,S.dj,λj a m=>⟨(S.own j a m).1,?_⟩,λb u e=>?_,S.hd,by rw[hb];exact S.base,λj n d e=>?_⟩
 .by_cases q:a=p
  .subst q;rcases ho with⟨xs,rfl⟩|⟨xs,rfl⟩
   .exact .inl ⟨xs,dZ⟩
   .exact .inr ⟨xs,dZ⟩
  .rw[cK q];exact(S.own j a m).2
 .rw[cK (iQ e (S.own i p hp).1)];exact S.ext b u e
 .by_cases q:j=i
  .subst q;rw[mC hi] at e;cases e;exact⟨_,hv,by rw[hb];exact new⟩
  .rw[pA (λz=>q z.symm)] at e
   obtain⟨v,h1,h2⟩:=S.slot j n d e;refine⟨v,h1,?_⟩;rw[hb];exact h2.keep Ext.refl λa m=>cK λz=>q (S.dj j i a m (by rw[z];exact hp))
theorem Sta.lst1(S:Sta K H0 P0 B0 Y Z H fp)(e:Y[i]?=aa (aa (1,.list ds))):∃ p xs,Z[i]?=aa (aa (.ref p))/\H p=aa (.lst xs)/\Aal K (L2.hid H (Hd P0 fp)) ds xs /\
  ∀ o0 gs,Aal K (L2.hid H (Hd P0 fp)) o0 gs->Sta K H0 P0 B0 (Y.set i (aa (1,.list o0))) Z (upd H p (.lst gs)) fp:=by
 obtain⟨v,h1,h2⟩:=S.slot i 1 _ e;obtain⟨p,xs,Fs,rfl,hp,hF,h3⟩:=h2;obtain⟨r,hn⟩:=KR h3;rw[hn] at hF;refine⟨p,xs,h1,hp,r,λo0 gs r'=>S.write (cJ.1 e).1 h1 (by rw[hF];exact bE) (.inl ⟨_,rfl⟩) ?_⟩
 obtain⟨q1,q2⟩:=DM r';exact⟨p,gs,_,rfl,dZ,by rw[hF,q2],q1⟩
theorem Sta.dic1 {ds:List (aA×aA)}(S:Sta K H0 P0 B0 Y Z H fp)(e:Y[i]?=aa (aa (1,.dict ds))):∃ p ep xs,Z[i]?=aa (aa (.ref p))/\H p=aa (.dK ep xs)/\Abq K (L2.hid H (Hd P0 fp)) ds xs /\
  ∀ n o0 gs,Abq K (L2.hid H (Hd P0 fp)) o0 gs->Sta K H0 P0 B0 (Y.set i (aa (1,.dict o0))) Z (upd H p (.dK n gs)) fp:=by
 obtain⟨v,h1,h2⟩:=S.slot i 1 _ e;obtain⟨p,xs,Fs,rfl,hp,hF,h3⟩:=h2;obtain⟨r,hn⟩:=Xb h3;rw[hn] at hF;refine⟨p,xs.1,xs.2,h1,hp,r,λn o0 gs r'=>S.write (cJ.1 e).1 h1 (by rw[hF];exact bE) (.inr ⟨.inl (n,gs),rfl⟩) ?_⟩
 obtain⟨q1,q2⟩:=Bn r';exact⟨p,(n,gs),_,rfl,dZ,by rw[hF,q2],q1⟩
end
noncomputable def getL (i:Nat)(Y:aR):Option (List aA):=match Y[i]? with
 |some (aa (1,.list ds))=>aa ds
 |_=>ab
def oO (i:Nat)(Y:aR):Option (List (aA×aA)):=match Y[i]? with
 |some (aa (1,.dict ds))=>aa ds
 |_=>ab
theorem oJ{Y:aR}(h:getL i Y=aa ds):Y[i]?=aa (aa (1,.list ds)):=by
 unfold getL at h;split at h
 .rename_i e;cases h;exact e
 .cases h
theorem pX{Y:aR}{ds:List (aA×aA)}(h:oO i Y=aa ds):Y[i]?=aa (aa (1,.dict ds)):=by
 unfold oO at h;split at h
 .rename_i e;cases h;exact e
 .cases h
section
variable {k o:aU}{f g:EF}{av ay:bK}
def gY (i:Nat)(m:Md)(f:EF):SF:=λY=>(eV 0 m f Y).bind λd=>(getL i Y).bind λds=>if ds.length<sizeLine then aa (.nx (Y.set i (aa (1,.list (ds++[d]))))) else ab
theorem B8 (i:Nat)(m:Md)(he:DE X e f)(hN:Nm X i x:=by exact iO)(q5:Bm X (.Name x px) e [] "append" av ay:=by exact⟨rfl,rfl,rfl,rfl,rfl⟩)
  (ja:kP (.Call (.Attribute (.Name x px) "append" av) [e] [] ay) ab pos.line X.env=pure af:=by rfl):DS X H0 P0 n0 (.Expr (.Call (.Attribute (.Name x px) "append" av) [e] [] ay) pos) (gY i m f):=
 PS.imp (vE (pK FI J6 J4 LJ (hN.pe) (fK (ev m he) iE q5.s) q5) ja) λD Z H gh=>by
  rw[6];obtain⟨d,e1,bm⟩:=ak ef;obtain⟨ds,e2,bq⟩:=ak bm;obtain⟨hl,rfl⟩:=cM bq;obtain⟨p,xs,h1,h2,_,_⟩:=S.lst1 (oJ e2);refine⟨.ref p,h1,.inl ⟨rfl,xs,SqL.of h2⟩,B0,Y,fp,d,S,e1,λv H2 gh=>?_⟩
  obtain⟨dr,S2,r2⟩:=gh;obtain⟨p2,M5,q1,q2,q3,q4⟩:=S2.lst1 (oJ e2);have:p2=p:=by rw[h1] at q1;cases q1;rfl
  rw[13];exact⟨p2,M5,v,rfl,rfl,q2,by rw[q3.length];exact hl,k _ _ dr (q4 _ _ (q3.snoc r2.2))⟩
def pI (i:Nat)(m:Md)(f:EF)(mk:Md)(g:EF):SF:=λY=>(eV 0 m f Y).bind λd=>(getL i Y).bind λds=>(eV 0 mk g Y).bind λk=>match k with
 |.int j=>(gb ds.length j).bind λj=>aa (.nx (Y.set i (aa (1,.list (ds.set j d)))))
 |_=>ab
theorem sZ{m:Md}{Y:aR}(S:Sta K H0 P0 B0 Y Z H fp)(e:eV 0 m g Y=aa d)(hd:fD d=ae)(k:∀ v H',Ext H H'->Abj K (hid H' (Hd P0 fp)) d v->Q v H'):tF K 0 g Z H Q:=by
 cases m with
 |s=>exact⟨Hd P0 fp,vS Y,d,S.hid,S.viewS,e,eB k⟩
 |a=>
  obtain⟨d',ed,ef⟩:=ak e;obtain⟨fl,rfl⟩:=cM ef;refine⟨P0,vA Y,d',S.hd.ext S.ext,S.viewA,ed,eB λv H' x r=>k v H' x (r.flat (λa xs e=>?_) _ hd)⟩
  obtain⟨na,e⟩:=Abx.1 e;refine fR (λq=>?_) e
  rcases q with q|⟨j,q⟩
  .exact na q
  .rcases((S.grow x).own j a q).2 with⟨ys,e2⟩|⟨ys,e2⟩<;>rw[e] at e2<;>first|cases e2|(cases ys<;>simp[dO] at e2)
theorem CJ (i:Nat)(m mk:Md)(he:DE X e f)(hk:DE X k g)(hN:Nm X i x:=by exact iO)
  (ha:∀ v,kQ (.Subscript (.Name x px) k av) X.env v=(do
   let ov <-nW [v] (bT (.Name x px) X.env)
   let iv <-nW [v,ov] (bT k X.env)
   standAt av
   nW [v,ov,iv] (setItem ov iv v)
   release [v,ov,iv] []):=by intro _;rfl)
  (hs:OA [.Subscript (.Name x px) k av] e pos.line X.env=pure af:=by rfl) (hw:OB [.Subscript (.Name x px) k av] e X.env=pure ab:=by rfl)
  (h1:(gU [.Subscript (.Name x px) k av] X.env).map (·.2)=[kQ (.Subscript (.Name x px) k av) X.env]:=by rfl):DS X H0 P0 n0 (.Assign [.Subscript (.Name x px) k av] e pos) (pI i m f mk g):=
 PS.imp (HN (ev m he) (SK (hN.pe) hk set_list ha) hs hw h1) λD Z H gh=>by
  obtain⟨B0,Y,fp,o,S,ef,kk⟩:=gh;obtain⟨d,e1,bm⟩:=ak ef;obtain⟨ds,e2,bq⟩:=ak bm;obtain⟨kd,e3,cq⟩:=ak bq;clear ef bm bq;cases kd with
  |int j=>
   obtain⟨jn,e5,gk⟩:=ak (show((gb ds.length j).bind λj=>aa (Out.nx (Y.set i (aa (1,.list (ds.set j d))))))=aa o from cq)
   cases gk;refine⟨B0,Y,fp,d,S,e1,λv H2 gh=>?_⟩
   obtain⟨dr,S2,r2⟩:=gh;obtain⟨p,xs,h1,h2,_,_⟩:=S2.lst1 (oJ e2);refine⟨.ref p,h1,sZ S2 e3 (by simp[fD]) λu H3 x3 r3=>?_⟩
   have S3:=S2.grow x3;obtain⟨p3,nh,q1,q2,q3,q4⟩:=S3.lst1 (oJ e2);have:p3=p:=by rw[h1] at q1;cases q1;rfl
   rw[13];exact⟨p3,nh,j,jn,rfl,Aak.1 r3,q2,by rw[q3.length];exact e5,kk _ _ dr (q4 _ _ (q3.set (r2.2.ext (dB x3)) jn))⟩
  |_=>cases cq
def xK (i:Nat)(m:Md)(f:EF)(mk:Md)(g:EF):SF:=λY=>(eV 0 m f Y).bind λd=>(oO i Y).bind λkds=>(eV 0 mk g Y).bind λk=>(bU k).bind λk=>if kds.length<sizeLine then aa (.nx (Y.set i (aa (1,.dict (putD kds k d))))) else ab
theorem UY (i:Nat)(m mk:Md)(hu:X.A.units+40<cLine)(he:DE X e f)(hk:DE X k g)(hN:Nm X i x:=by exact iO)(hs:kP e (aa (.Subscript (.Name x px) k av)) pos.line X.env=pure af:=by rfl):DS X H0 P0 n0 (.Assign [.Subscript (.Name x px) k av] e pos) (xK i m f mk g):=
 PS.imp (Uh hu (hN.pe) hk (ev m he) hs) λD Z H gh=>by
  obtain⟨B0,Y,fp,o,S,ef,kk⟩:=gh;obtain⟨d,e1,bm⟩:=ak ef;obtain⟨kds,e2,bq⟩:=ak bm;obtain⟨kd,e3,cq⟩:=ak bq;obtain⟨key,e4,gk⟩:=ak cq;obtain⟨hl,rfl⟩:=cM gk;clear ef bm bq cq;refine⟨B0,Y,fp,d,S,e1,λv H2 gh=>?_⟩
  obtain⟨dr,S2,r2⟩:=gh;obtain⟨p,ep,xs,h1,h2,_,_⟩:=S2.dic1 (pX e2);have hf:fD kd=ae:=by rw[wC e4];cases key<;>simp[kD,fD]
  refine⟨.ref p,h1,sZ S2 e3 hf λu H3 x3 r3=>?_⟩
  have S3:=S2.grow x3;obtain⟨p3,qt,nh,q1,q2,q3,q4⟩:=S3.dic1 (pX e2);have:p3=p:=by rw[h1] at q1;cases q1;rfl
  rw[13];refine⟨p3,_,rfl,.inl ⟨qt,nh,key,q2,kN e4 r3,by rw[q3.length];exact hl,rfl⟩,λn=>kk _ _ dr (q4 n _ _ (CH q3 (r2.2.ext (dB x3))))⟩
end
section
variable {a:aU}{fa fb fc:EF}
def nL:aA->aA->Option aA
 |.list xs,.list ys=>if xs.length+ys.length<=sizeLine then aa (.list (xs++ys)) else ab
 |_,_=>ab
theorem Qw:OpR X (jT .Add) (λx y H Q=>∃ l b xs zs,x=.ref l/\y=.ref b/\SqL X.K H l xs/\SqL X.K H b zs/\xs.length+zs.length<=sizeLine/\∀ p,H p=ab->Q (.ref p) (upd H p (.lst (xs++zs)))):=by
 rw[3];obtain⟨l,b,xs,zs,rfl,rfl,hH,hB,hz,q⟩:=h;cases rx;cases ry;obtain⟨its,r,p1,z1⟩:=I.list hH;obtain⟨qj,r2,p2,z2⟩:=I.list hB;have l1:=r.length;have l2:=r2.length;obtain⟨⟨cls,dd,data,sl⟩,ho,hc,n,hd⟩:=p1.isList;obtain⟨⟨yl,ur,data2,xj⟩,rq,iy,n2,ox⟩:=p2.isList;simp only at hc hd iy ox;subst hc hd iy ox;refine OK ⟨_,ho,rfl⟩ ⟨_,rq,rfl⟩ noFill_list_add seq_list_add PySem.F.slot_list_add PySem.F.entry_list_add (PySem.F.args_list_add_2 _ _) (list_addW l b its.toArray qj.toArray n n2 dd ur sl xj (by simp only[dX];lia)) ⟨ho,rq,?_⟩
 have ea:its.toArray++qj.toArray=(its++qj).toArray:=by simp
 rw[ea];exact⟨.ref _,_,I.lnew (r.append r2) (by rw[qH];lia),rfl,q _ I.fresh⟩
theorem UI (ha:DE X a fa)(hb:DE X b fb):DF 1 X (.BinOp a .Add b pos) (ah nL fa fb):=pM Qw (λP H x y a b d Q hP ra rb e k=>by
 unfold nL at e;split at e
 .obtain⟨hz,rfl⟩:=cM e;obtain⟨p,xs,rfl,hp,r1⟩:=Aa7.1 ra;obtain⟨q,ys,rfl,hq,r2⟩:=Aa7.1 rb;exact⟨p,q,xs,ys,rfl,rfl,Aam.sqL hp,Aam.sqL hq,by rw[r1.length,r2.length];exact hz,λl hl=>k.lst hP hl (r1.append r2)⟩
 .cases e) ha hb
end
variable {a:aU}{f fa fb:EF}
def RS (K:aK):R2:=λx y H Q=>∃ a b ys,x=.ref a/\y=.ref b/\SqT K H a []/\SqT K H b ys/\Q (.ref b) H
theorem Uq:OpR X (jT .Add) (RS X.K):=by
 rw[3];obtain⟨a,b,ys,rfl,rfl,ha,hb,q⟩:=h;cases rx;cases ry;obtain⟨its,r1,p1,_⟩:=I.tuple ha;obtain⟨qj,r2,p2,_⟩:=I.tuple hb;cases r1;obtain⟨⟨cls,dd,data,sl⟩,ho,hc,n,hd⟩:=p1;obtain⟨⟨yl,ur,data2,xj⟩,rq,iy,n2,ox⟩:=p2;simp only at hc hd iy ox;subst hc hd iy ox;exact OK ⟨_,ho,rfl⟩ ⟨_,rq,rfl⟩ Hm seq_tuple_add Ib Ie (Ig _ _)
  (tuple_addW0 a b _ _ n n2 dd ur sl xj rfl) ⟨ho,rq,⟨.ref b,H,I,rfl,q⟩⟩
def EV:aA->aA->Option aA
 |.tuple xs,.tuple ys=>if xs.length+ys.length<=sizeLine then aa (.tuple (xs++ys)) else ab
 |_,_=>ab
theorem j1:jl K 0 (λx y H Q=>HK K x y H Q\/RS K x y H Q) EV:=λP H x y a b d Q hP ra rb e k=>by
 unfold EV at e;split at e
 .rename_i zs ys;obtain⟨hc,rfl⟩:=cM e;obtain⟨p,us,rfl,hp,r1⟩:=Aaq.1 ra;obtain⟨q,ws,rfl,hq,r2⟩:=Aaq.1 rb;have l1:=r1.length;have l2:=r2.length;cases zs with
  |nil=>
   have eu:us=[]:=by simpa using l1
   subst eu;exact .inr ⟨p,q,ws,rfl,rfl,SqT.of (Aam _ _ hp),SqT.of (Aam _ _ hq),k.zero Ext.refl rb⟩
  |cons z zs=>
   refine .inl ⟨p,q,us,ws,rfl,rfl,SqT.of (Aam _ _ hp),SqT.of (Aam _ _ hq),λz=>by rw[z] at l1;simp at l1,by rw[l1,l2];exact hc,λz=>?_,λz r hr=>?_⟩
   .subst z;have:ys=[]:=by simpa using l2.symm
    rw[13];refine k.zero Ext.refl ?_
    grind
   .exact k.tup hP hr (r1.append r2)
 .cases e
theorem Sv (ha:DE X a fa)(hb:DE X b fb):DE X (.BinOp a .Add b pos) (ah EV fa fb):=pM (Az3.or Uq) j1 ha hb
def BH:List aA->Option aA
 |[.int i,.int j]=>aa (.int (if j > i then j else i))
 |_=>ab
theorem Xl:CallD K 0 (λxs H Q=>∃ i j,xs=[.int i,.int j]/\Q (.int (if j > i then j else i)) H) BH:=λP H xs ds d Q hP r e k=>by
 unfold BH at e;split at e
 .cases e;obtain⟨v,t,rfl,h1,h2⟩:=Aaf.1 r;obtain⟨v',rfl,h3⟩:=fT h2;rw[Aak.1 h1,Aak.1 h3];exact⟨_,_,rfl,k.zero Ext.refl (Aak.2 rfl)⟩
 .cases e
end L2
namespace L2
open PySem PySem.Spec PyProof.Rows
variable {t:eJ}{sl:Array (Option aD)}{us ai:Array aD}{Q E:aD->aH->Prop}{ds k:List aA}{l a it a1 D I r z i1 i2:aC}{h h':aQ}{d:aA}{es:Array (Int×aD)}{ep j c n nl N i m n0 mask bj cx:Nat}{s:aH}{e tg e2:aU}{R:oV->aH->Prop}{w:bA}{kvs:List (aI×aD)}{K:aK}{b b1 b2:Bool}{u:aD}{x y:aE}{xs ys:List V}{fp:Nat->List aC}{ta:TA}{v:V}{fa:AF}{H H' H0 B0:Hp}{p1 p2 cz pos px iw av ay gj ap cp:bK}{wr F o1 o2:List aC}{G:Array uJ->Array uJ->Prop}{ac:List (aC×bC)}{kds:List (aA×aA)}{f g fk:EF}{T:String}{p:Array Nat}{vs:List aD}{ks kss qs:List (List aA)}{X:Cx}{P0:aC->Prop}{ow:Array (Option Nat)}{prog:bN}{A:bS}{o:bC}{Y:aR}{S1 S2:Nat->aQ->Prop}
section
variable {P:bN}
theorem d6 {t sl:aC}{vl vu:aD}{lo hi:Option Int}(ht:IsTup s.heap t us)(hs:s.heap.IsSliceOf sl vl vu .none)(pl:qI vl lo)(pu:qI vu hi)
  (hw:HT.sIx us.size 0 lo=0/\HT.sIx us.size us.size hi=us.size) (h:Q (.ref t) s):aM (aP P w) A (qC (.ref t) (.ref sl)) Q E s:=by
 obtain⟨os,e1,e2,e3⟩:=id hs;have ty:s.TypeIs (.ref sl) "slice":=⟨os,e1,e2⟩;unfold qC
 try with_reducible refine eP ?_
 first|refine aF (aN ?_)|skip
 refine aF (wpAny_sequenceKey ht.typeIs nofun (aF (jR ht.typeIs OD (fE OD ht.typeIs entry_tuple_getitem ?_ (args_tuple_getitem _ _)))))
 show aM _ _ (Ju (.ref t)>>=_) _ _ s;refine aF (tupleItemsOf_ ht (aF (mN ty ?_)));rw[if_pos nofun]
 refine aF (HT.Aft hs pl pu ?_);have yes:(((HT.sIx us.size 0 lo:Nat):Int)==0&&(1:Int)==1&&(HT.sIx us.size us.size hi-HT.sIx us.size 0 lo)==us.size)=ae:=by
  rw[hw.1,hw.2];simp
 show aM _ _ (if (((HT.sIx us.size 0 lo:Nat):Int)==0&&(1:Int)==1&&(HT.sIx us.size us.size hi-HT.sIx us.size 0 lo)==us.size)=ae then _ else _) _ _ s
 rw[if_pos yes];unfold Builtin.Tuple.tupleIsExact;refine aF (aF (mN ht.typeIs (aN ?_)));rw[if_pos nofun]
 exact aF (kO (aN ⟨_,rfl,aN h⟩))
end
def Ks (K:aK):V->Option Int->Option Int->Hp->VK->Prop:=λx lo hi H Q=>∃ a xs,x=.ref a/\SqT K H a xs/\(HT.sIx xs.length 0 lo=0/\HT.sIx xs.length xs.length hi=xs.length)/\Q (.ref a) H
theorem A7t:SlR X (Ks X.K):=by
 intro ac s Z H x v vl vu lo hi sl Q I rx hs pl pu h;obtain⟨a,xs,rfl,hx,hw,q⟩:=h;cases rx;obtain⟨its,r,ht,hz⟩:=I.tuple hx;have aw:its.toArray.size=xs.length:=by rw[dX];exact r.length.symm
 exact⟨"tuple",_,OD.lookup,ht.typeIs,d6 ht hs pl pu (by rw[aw];exact hw) ⟨.ref a,H,I,rfl,q⟩⟩
def uO (f:EF)(lo hi:OF):EF:=λY=>(f Y).bind λd=>(lo Y).bind λl=>(hi Y).bind λh=>match d with
 |.tuple ds=>aa (.tuple (cutD ds l h))
 |_=>ab
theorem Xz{l h:Option Int}(hw:HT.sIx ds.length 0 l=0/\HT.sIx ds.length ds.length h=ds.length):cutD ds l h=ds:=by
 unfold cutD;rw[hw.1,hw.2];simp
theorem HQ {lo hi:Option aU}{fl fh:OF}{pp:bK}(he:DE X e f)(hl:DO X lo fl)(hh:DO X hi fh):DE X (.Subscript e (.Slice lo hi ab pp) pos) (uO f fl fh):=PE.imp (XI (A7t.or Pu) he hl hh) λZ H Q gh=>by
 rw[4];obtain⟨d1,e1,bm⟩:=ak ef;obtain⟨l,e2,bq⟩:=ak bm;obtain⟨h,e3,cq⟩:=ak bq;clear ef bm bq;cases d1 with
 |tuple ds=>
  cases cq;refine⟨P,Y,_,hP,rs,e1,eB λv H1 x1 r1=>⟨P,Y,l,hP.ext x1,rs.ext (dB x1),e2,λH2 x2=>⟨P,Y,h,hP.ext (x1.trans x2),rs.ext (dB (x1.trans x2)),e3,λH3 x3=>?_⟩⟩⟩
  have r3:=r1.ext (dB (x2.trans x3));obtain⟨q,ys,rfl,hq,rr⟩:=Aaq.1 r3;by_cases hw:HT.sIx ds.length 0 l=0/\HT.sIx ds.length ds.length h=ds.length
  .rw[Xz hw] at k;exact .inl ⟨q,ys,rfl,SqT.of (Aam _ _ hq),by rw[rr.length];exact hw,(k.mono ((x1.trans x2).trans x3)).zero Ext.refl r3⟩
  .refine .inr ⟨q,ys,rfl,SqT.of (Aam _ _ hq),by rw[rr.length];exact hw,λp hp=>(k.mono ((x1.trans x2).trans x3)).tup (hP.ext ((x1.trans x2).trans x3)) hp ?_⟩
   unfold qS cutD;rw[rr.length];exact(rr.drop _).take _
 |_=>cases cq
def Ax6 (h:aQ)(d:aC)(es:Array qN)(ep:Nat):Prop:=∃ o,h.get? d=aa o/\o.ExactDict/\o.data=.dict es ep
theorem Ax6.keep{d:aC}{es:Array qN}(x:Ax6 h d es ep)(k:∀ o,h.get? d=aa o->h'.get? d=aa o):Ax6 h' d es ep:=
 let ⟨o,e,r⟩:=x;⟨o,k o e,r⟩
theorem Ax6.ty{d:aC}{es:Array qN}(x:Ax6 s.heap d es ep):s.TypeIs (.ref d) "dict":=let ⟨o,e,c,_⟩:=x;⟨o,e,c.1⟩
section
variable {d:aC}{es:Array qN}
theorem i8(nm:(d==jB)=af)(R:Ax6 s.heap d es ep)
  (q:Q (.ref s.heap.objs.size) { s with heap:=s.heap.push { cls:=.type "dict_keyiterator",data:=.fields #[.ref d,.int 0 0,.int es.size 0,.int ep 0] } }):aM (aP prog w) A (nV (.ref d)) Q E s:=by
 have ty:=R.ty;obtain⟨o,eo,_,ed⟩:=R;refine EZ ty F.slot_dict_iter (fE F.slot_dict_iter ty F.entry_dict_iter
  ?_ (F.args_dict_iter_1 _))
 unfold Builtin.«dict.__iter__»;rw[11];unfold Builtin.Dict.dictSlotNone;refine aF (Hj ty ?_);refine aN ?_;show aM _ _ (Builtin.Dict.showsAll d>>=_) _ _ s;unfold Builtin.Dict.showsAll;rw[if_neg (show ¬ (d==jB)=ae by rw[nm];exact kB)]
 refine aF (aN ?_);refine aF (Hk eo ed ?_);refine aF (wpAny_dictEpoch eo ed ?_);refine aF (jQ (aN ⟨_,rfl,"dict_keyiterator",_,
  ⟨_,cL _ rfl,rfl⟩,GE.lookup,?_⟩))
 simpa [cY] using q
theorem Vd {e:qN}{Q:Option aD->aH->Prop}(K:s.heap.IsKeyIter it d i es.size ep)(R:Ax6 s.heap d es ep)(x:es[i]?=aa e)
  (q:∀ h',h'.IsKeyIter it d (i+1) es.size ep->mT it s.heap h'->Q (aa e.key) { s with heap:=h' }):aM (aP prog w) A (eY (.ref it)) Q E s:=by
 obtain⟨oi,ei,ci,di⟩:=id K;obtain⟨o,eo,_,ed⟩:=R;unfold eY;refine aF (nQ (jR K.typeIs
  GE (fE GE K.typeIs
   K7 ?_ (K8 _))))
 refine aF (aN ?_);rw[11];rw[11]
 first
  |refine aF (NT K.typeIs (aN ?_))
  |refine aF (NS K.typeIs (aN ?_))
 refine aF (NY ei di ?_);have own:Builtin.Dict_items.ownsTuple "dict_keyiterator" = af:=by decide
 simp only[own,gA,if_false];show aM _ _ (if (eI d==eE)=ae then _ else _) _ _ s
 rw[if_neg (show ¬ (eI d==eE)=ae from kB)]
 refine aF (aN ?_);refine aF (Hk eo ed ?_);rw[if_neg (by simp)]
 refine aF (aN ?_);refine aF (wpAny_dictEpoch eo ed ?_);rw[if_neg (by simp)]
 refine aN ?_;simp only[show ¬ ((i:Int)<0) from by lia,if_false,pB,x]
 rw[11]
 first
  |refine aF (NT K.typeIs (aN ?_))
  |refine aF (NS K.typeIs (aN ?_))
 refine aF (wpAny_isOneOf_keyiter K.typeIs ?_);show aM _ _ (setField (.ref it) 1 (cY ((i:Int)+1))>>=_) _ _ s;refine aF (NV ei di (by simp) ?_)
 have K':(s.heap.update it (Obj.mapFields (·.setIfInBounds 1 (cY ((i:Int)+1))))).IsKeyIter it d (i+1) es.size ep:=
  ⟨_,sA _ ei (Obj.isFreed_of_fields (OS di _)),(Obj.cls_mapFields ..).trans ci,by
   rw[OS di];simp[cY]⟩
 refine aF (eP ?_);refine aF (wpAny_isOneOf_keyiter
  K'.typeIs ?_)
 exact aN (aN ⟨_,rfl,aN (q _ K' (xA ..))⟩)
theorem Ro {Q:Option aD->aH->Prop}(hh:A.handled=ab)(K:s.heap.IsKeyIter it d i es.size ep)(R:Ax6 s.heap d es ep)(x:es.size<=i)
  (q:∀ h',GC it s.heap h'->Q ab { s with heap:=h' }):aM (aP prog w) A (eY (.ref it)) Q E s:=by
 obtain⟨oi,ei,ci,di⟩:=id K;obtain⟨o,eo,_,ed⟩:=R;unfold eY;refine aF (nQ (jR K.typeIs
  GE (fE GE K.typeIs
   K7 ?_ (K8 _))))
 refine aF (aN ?_);rw[11];rw[11]
 first
  |refine aF (NT K.typeIs (aN ?_))
  |refine aF (NS K.typeIs (aN ?_))
 refine aF (NY ei di ?_);have own:Builtin.Dict_items.ownsTuple "dict_keyiterator" = af:=by decide
 simp only[own,gA,if_false];show aM _ _ (if (eI d==eE)=ae then _ else _) _ _ s
 rw[if_neg (show ¬ (eI d==eE)=ae from kB)]
 refine aF (aN ?_);refine aF (Hk eo ed ?_);rw[if_neg (by simp)]
 refine aF (aN ?_);refine aF (wpAny_dictEpoch eo ed ?_);rw[if_neg (by simp)]
 refine aN ?_;simp only[show ¬ ((i:Int)<0) from by lia,if_false,pB,Kd x]
 rw[11]
 first
  |refine aF (NT K.typeIs (aN ?_))
  |refine aF (NS K.typeIs (aN ?_))
 show aM _ _ (setField (.ref it) 0 .none>>=_) _ _ s;refine aF (NV ei di (by simp) ?_)
 rw[11];simp only[newExc,newTuple];refine aF (jQ ?_ (by size_fits))
 refine aF (wG
  (by first|rfl|(simp only[OI];rfl)) ?_)
 refine jQ ?_ (by size_fits)
 simp only[raiseNew];refine aF (NX ?_);rw[show A.in1.handled=ab from hh]
 refine aF (aN (NU ?_));refine aF (oQ
  ⟨_,cL _ rfl,rfl⟩ zX ?_)
 exact aN (q _ (((xA ..).extBut.push _).push _))
theorem B5 (hh:A.handled=ab)(I d:aC)(ne:d≠I)(es:Array qN)(ep:Nat) :
  Walks prog w A I [I,d] [I] es.size (λi v=>∃ e,es[i]?=aa e/\v=e.key) (λi h=>h.IsKeyIter I d i es.size ep/\Ax6 h d es ep) where
 sub:=λb hb=>by simp at hb;simp[hb]
 frame:=λ_ _ _ st hk=>⟨st.1.at λo e=>hk I (by simp) o e,st.2.keep λo e=>hk d (by simp) o e⟩
 item:=λi s Q E hi st hQ=>by
  have hx:=mW hi;refine Vd st.1 st.2 hx λh' K' hs=>?_
  exact hQ _ h' s.toks ⟨_,hx,rfl⟩ ⟨K',st.2.keep λo e=>hs.extBut d o ne e⟩ λb o hb e=>hs.extBut b o (λh=>hb (by simp[h])) e
 done:=λs Q E st hQ=>Ro hh st.1 st.2 (bB _) λh' he=>hQ h' s.toks λb o hb e=>he b o (λh=>hb (by simp[h])) e
 self:=λ_ _ _ _ st hQ=>wpAny_pyIter_keyiter st.1 hQ
theorem c9:tZ (.type "dict") "__len__" = pure (aa (.builtin "dict.__len__")):=by rw[rS,rW];kernel_rfl
theorem Xu(hh:A.handled=ab)(nm:(d==jB)=af)(D:Ax6 s.heap d es ep)(S:aC)(res:aD)(c₀:Nat)(Rs:S≠d)
  (hS:s.heap.get? S=aa { cls:=.type "list",data:=.seq #[] c₀ }) (hn:es.size<=sizeLine)
  (q:∀ h' tk aj c',(∀ b o,b≠S->s.heap.get? b=aa o->h'.get? b=aa o)->h'.get? S=aa { cls:=.type "list",dict:=ab,data:=.seq aj c',slots:=#[] } ->
   ItemsOf (λi v=>∃ e,es[i]?=aa e/\v=e.key) aj es.size->R (.ok (.ret res)) { s with heap:=h',toks:=tk }) :
  aM (aP prog w) A.in1 (AX (.ref S) (.ref d) res)
   (λfin s'=>match fin with|.done f=>R (.ok f) s'|.again c'=>c'.quiet=ae/\iR (aP prog w) A c' R s') (λe s'=>R (.error e) s') s:=by
 have ty:=D.ty;unfold AX;refine aF (mN ty ?_);have h1:QC (.ref S) (.ref d)=af:=by
  simp[QC,Rs]
 have h2:(jV "dict" == jV "list")=af:=by decide
 have h3:(jV "dict" == jV "tuple")=af:=by decide
 simp only[h1,h2,h3,Bool.or_false,gA,if_false];refine aF (i8 nm D ?_);refine aF (eP ?_);have M6:d<s.heap.objs.size:=by obtain⟨o,e,_⟩:=D;exact bI e
 have M7:S<s.heap.objs.size:=bI hS;have ky:∀ b o,s.heap.get? b=aa o->(s.heap.push { cls:=.type "dict_keyiterator",data:=.fields #[.ref d,.int 0 0,.int es.size 0,.int ep 0] }).get? b=aa o:=λb o e=>bG _ e
 have D':Ax6 (s.heap.push { cls:=.type "dict_keyiterator",data:=.fields #[.ref d,.int 0 0,.int es.size 0,.int ep 0] }) d es ep:=D.keep λo e=>ky d o e
 have XL:(s.heap.push { cls:=.type "dict_keyiterator",data:=.fields #[.ref d,.int 0 0,.int es.size 0,.int ep 0] }).IsKeyIter s.heap.objs.size d 0 es.size ep:=⟨_,cL _ rfl,rfl,rfl⟩;unfold Jx;refine aF (wD (T:="dict") (v:=.ref d) (by obtain⟨o,e,c,_⟩:=D';exact⟨o,e,c.1⟩) c9 ?_)
 wp_delta
 refine aF (oQ (T:="dict") (v:=.ref d) (b:=ae) (by obtain⟨o,e,c,_⟩:=D';exact⟨o,e,c.1⟩) (by rw[uA];kernel_rfl) ?_)
 show aM _ _ (typeOf (eI d)>>=_) _ _ _;refine aF (mN (T:="dict") (v:=.ref d) (by obtain⟨o,e,c,_⟩:=D';exact⟨o,e,c.1⟩) ?_)
 refine aN ?_;rw[if_pos nofun]
 refine aF (kO ?_);rw[11];have S1:=ky _ _ hS;generalize(s.heap.push { cls:=.type "dict_keyiterator",data:=.fields #[.ref d,.int 0 0,.int es.size 0,.int ep 0] })=G at ky D' S1 XL ⊢;show aM _ _ (zW S (·.push .none)>>=λ_=>zW S (·.pop)) _ _ _
 refine aF (tX S1 rfl ?_);have S2:=sA (fG (·.push eE)) S1 rfl;refine tX (hz:=by seq_fits) S2 rfl ?_
 have S3:=sA (fG (·.pop)) S2 rfl;have dz:∀ b o,b≠S->G.get? b=aa o->((G.update S (fG (·.push eE))).update S (fG (·.pop))).get? b=aa o:=λb o hb e=>
  (qL _ _ (fL hb)).trans ((qL _ _ (fL hb)).trans e)
 have dg:d≠s.heap.objs.size:=cH M6;have wc:S∉[s.heap.objs.size,d]:=λhm=>by
  rcases cX.1 hm with z|z
  .exact absurd M7 (by rw[z];exact lY _)
  .exact Rs (cE.1 z)
 refine aN ⟨jS F.plain_extend_loop _,codeAny_extend_loopS (B5 (A:=A.in1) hh s.heap.objs.size d dg es ep).toS hn _ wc _ es.size 0 _ _ _ rfl (dW _)
  ⟨XL.at λo e=>dz _ o (iS M7) e,D'.keep λo e=>dz _ o (fL Rs) e⟩ S3 (ItemsOf.nil _) λs' aj c' hm gy cy=>?_⟩
 rw[Moved.eq_with hm];refine q s'.heap s'.toks aj c' (λb ob hb e=>hm.heap b ob (λhmem=>?_) (dz b ob hb (ky _ _ e))) gy cy
 rcases cX.1 hmem with z|hmem
 .exact hb z
 .exact absurd (bI e) (by rw[cE.1 hmem];exact lY _)
theorem o8(hh:A.handled=ab)(nm:(d==jB)=af)(D:Ax6 s.heap d es ep)(hn:es.size<=sizeLine)
  (q:∀ h' tk aj c',(∀ b o,s.heap.get? b=aa o->h'.get? b=aa o)->h'.get? s.heap.objs.size=aa { cls:=.type "list",dict:=ab,data:=.seq aj c',slots:=#[] } ->
   ItemsOf (λi v=>∃ e,es[i]?=aa e/\v=e.key) aj es.size->Q (.ref s.heap.objs.size) { s with heap:=h',toks:=tk }):aM (aP prog w) A (call (.type "list") [.ref d]) Q E s:=by
 refine callType_codes (Q₁:=λobj s₁=>obj=.ref s.heap.objs.size/\s₁={ s with heap:=s.heap.push { cls:=.type "list",data:=.seq #[] } })
  F.called_list (F.typeCall_list_1 _) F.entry_list_init (code_list_new _ ⟨rfl,rfl⟩) λobj s₁ h₁=>?_
 obtain⟨rfl,rfl⟩:=h₁;have M6:d<s.heap.objs.size:=by obtain⟨o,e,_⟩:=D;exact bI e
 have N1:(s.heap.push { cls:=.type "list",data:=.seq #[] }).get? s.heap.objs.size=aa { cls:=.type "list",data:=.seq #[] }:=cL _ rfl;refine⟨⟨_,N1,rfl⟩,F.args_list_init_2 _ _,?_⟩;show aM _ _ (do
  let cw <-Builtin.List.listItems (.ref s.heap.objs.size)
  Builtin.List.listUpdate (.ref s.heap.objs.size) (λ_=>#[])
  letGo cw.toList.reverse
  AX (.ref s.heap.objs.size) (.ref d) .none) _ _ _
 rw[11];unfold Builtin.List.listItems;refine aF (hZ N1 rfl (aN ?_));show aM _ _ (zW s.heap.objs.size (λ_=>#[])>>=λ_=>letGo (#[]:Array aD).toList.reverse>>=λ_=>
  AX (.ref s.heap.objs.size) (.ref d) .none) _ _ _
 refine aF (tX N1 rfl ?_);have N2:=sA (fG (λ_=>(#[]:Array aD))) N1 rfl
 have dz:∀ b o,b≠s.heap.objs.size->(s.heap.push { cls:=.type "list",data:=.seq #[] }).get? b=aa o ->
   ((s.heap.push { cls:=.type "list",data:=.seq #[] }).update s.heap.objs.size (fG (λ_=>(#[]:Array aD)))).get? b=aa o:=λb o hb e=>(qL _ _ (fL hb)).trans e
 refine aF (rR ?_);refine Xu (A:=A.in1) hh nm (D.keep λo e=>dz d o (cH M6) (bG _ e)) s.heap.objs.size .none _ (iS M6) N2 hn λh' tk aj c' hk gy cy=>?_
 exact⟨rfl,q h' tk aj c' (λb o e=>hk b o (cH (bI e)) (dz b o (cH (bI e)) (bG _ e))) gy cy⟩
end
section
variable {Z:St}
theorem LS {P:bN}:∀ {es:List qN} {kvs:List (aI×V)} {vs:List (aI×aD)},KV kvs vs->PySem.Pairs (dP P w) es vs->Vals (kvs.map λkv=>kV kv.1) (es.map (·.key))
 |[],kvs,vs,r,p=>by
  cases p;cases r;exact .nil
 |e::es,kvs,vs,r,p=>by
  cases p with
  |cons h hv t=>
   cases r with
   |cons h' t'=>
    refine .cons ?_ (LS t' t);show RelV (kV _) e.key;rw[h'.1];rcases nK h with⟨i,tk,e1,e2⟩|⟨x,tk,e1,e2⟩
    .rw[e1,e2];exact⟨tk,rfl⟩
    .rw[e1,e2];exact⟨tk,rfl⟩
theorem Wn {es:Array qN}{aj:Array aD}(h:ItemsOf (λi v=>∃ e,es[i]?=aa e/\v=e.key) aj es.size):aj.toList=es.toList.map (·.key):=by
 obtain⟨h1,h2⟩:=h;apply Jh
 grind
theorem Pi {W5:Nat}{kvs:List (aI×V)}(I:Inv X ac Z H s)(ha:H a=aa (.dK W5 kvs)):kvs.length<=sizeLine/\(a==jB)=af/\∃ es ep,Ax6 s.heap a es ep/\Vals (kvs.map λkv=>kV kv.1) (es.toList.map (·.key))/\es.size=kvs.length:=by
 obtain⟨z,nm,vs,r,o,es,ep,e1,e2,e3,_,e5,_⟩:=rB I.hok ha;refine⟨z,nm,es,ep,⟨o,e1,e2,e3⟩,LS r e5,?_⟩;have l1:=(LS r e5).length;simp at l1;exact l1.symm
theorem Xn (hc:X.calm=ae):Ac1 X (.type "list") (λxs H Q=>∃ a ep kvs,xs=[.ref a]/\H a=aa (.dK ep kvs)/\∀ l,H l=ab->Q (.ref l) (upd H l (.lst (kvs.map λkv=>kV kv.1)))):=by
 rw[5];obtain⟨a,ep1,kvs,rfl,ha,q⟩:=h;obtain⟨u,rfl,ru⟩:=vals1 r;cases ru;obtain⟨z,nm,es,ep,D,rv,el⟩:=Pi I ha;refine o8 (I.ok.hd hc) nm D () λh' tk aj c' hk hS cy=>?_
 have ea:=Wn cy;rw[<-ea] at rv;exact⟨.ref s.heap.objs.size,_,I.laid hk (bB _) (show Acn X.prog X.w _ h' _ (.lst _) from⟨by rw[cC];exact z,aj.toList,c',rv,by simpa using hS⟩),rfl,q _ I.fresh⟩
theorem ZH:∀ {kds:List (aA×aA)} {kvs:List (aI×V)},Abq K H kds kvs->(∀ kd∈kds,cR kd.1=ae)->Aal K H (kds.map (·.1)) (kvs.map λkv=>kV kv.1)
 |[],kvs,r,_=>by rw[Abh.1 r];exact Aaj.2 rfl
 |(k,d)::kds,kvs,r,h=>by
  obtain⟨k',x,rr,rfl,rfl,h1,h2⟩:=Aa3.1 r;refine Aaf.2 ⟨_,_,rfl,?_,ZH h2 λkd m=>h kd (bL _ m)⟩
  have hl:=h (kD k',d) bE;cases k' with
  |inl i=>exact Aak.2 rfl
  |inr z=>exact Aa8.2 ⟨rfl,hl⟩
def NJ:List aA->Option aA
 |[.dict kds]=>if (dh kds&&kds.all λkd=>cR kd.1)=ae then aa (.list (kds.map (·.1))) else ab
 |_=>ab
theorem Yn:CallD K 1 (λxs H Q=>∃ a ep kvs,xs=[.ref a]/\H a=aa (.dK ep kvs)/\∀ l,H l=ab->Q (.ref l) (upd H l (.lst (kvs.map λkv=>kV kv.1)))) NJ:=λP H xs ds d Q hP r e k=>by
 unfold NJ at e;split at e
 .obtain⟨hl,rfl⟩:=cM e;rw[9];obtain⟨pk,hl⟩:=iK.1 hl;obtain⟨q,ys,rfl,hq,rr⟩:=(pW pk).1 r';exact⟨q,ys.1,ys.2,rfl,Aam _ _ hq,λl rp=>k.lst hP rp (ZH rr (dQ.1 hl))⟩
 .cases e
def qR (b:List (aA×aA)):List (aA×aA)->Bool
 |[]=>ae
 |(k,d)::r=>match (bU k).bind (bY b) with
  |none=>af
  |some e=>cF d e&&qR b r
def BU (a b:List (aA×aA)):Bool:=a.length==b.length&&qR b a
def valsOk (a:List (aA×aA)):Bool:=a.all λkd=>dE kd.2
theorem m9 {b:List (aA×aA)}{k:aI}(h:valsOk b=ae)(e:bY b k=aa d):dE d=ae:=by
 unfold bY at e;cases q:b.find? λkd=>decide (bU kd.1=aa k) with
 |none=>rw[q] at e;cases e
 |some kd=>
  rw[q] at e;have:kd.2=d:=by simpa using e
  rw[13];exact dQ.1 h kd (Iv q)
theorem Ee (hu:X.A.units+100<cLine)(I:Inv X ac Z H s){kb:List (aA×aA)}{vb:List (aI×V)}{ub:List (aI×aD)}(rb:Abq X.K H kb vb)(qb:KV vb ub)(fb:valsOk kb=ae) :
  ∀ {ka:List (aA×aA)} {va:List (aI×V)} {ua:List (aI×aD)},valsOk ka=ae->Abq X.K H ka va->KV va ua->PySem.W.KeqHits X.A.in1 s ub ua (qR kb ka)
 |[],va,ua,_,ra,qa=>by
  obtain rfl:=Abh.1 ra;cases qa;exact .nil
 |(k,d)::ka,va,ua,fa,ra,qa=>by
  obtain⟨k',x,rr,rfl,rfl,h1,h2⟩:=Aa3.1 ra;have sk:dE d=ae/\valsOk ka=ae:=by simpa [valsOk] using fa
  cases qa with
  |@cons _ u _ us h' t'=>
  obtain⟨g1,g2⟩:=h';obtain⟨uk,uv⟩:=u;have e2:=g1;subst e2;have cc:=qb.val k';have eh:qR kb ((kD k',d)::ka)=(match bY kb k' with|none=>af|some e=>cF d e&&qR kb ka):=by
   show(match (bU (kD k')).bind (bY kb) with|none=>af|some e=>cF d e&&qR kb ka)=_
   rw[oI]
   rfl
  rcases tU rb with⟨n1,n2⟩|⟨d',v',s1,s2,rd⟩
  .rw[n2] at cc;rw[eh,n1];exact .miss cc.none_of
  .rw[s2] at cc;obtain⟨y,hy,ry⟩:=cc.some_of;have f1:noDict d=ae/\d.depth<=60:=by simpa [dE] using sk.1
   have f2:noDict d'=ae/\d'.depth<=60:=by simpa [dE] using m9 fb s1
   obtain⟨l1,as,ra'⟩:=lQ I f1.1 h1 g2;obtain⟨l2,bs,rb'⟩:=lQ I f2.1 rd ry;have eq:=SeqAt.eqAt_reads d d' X.A.in1 s uv y as bs ra' rb' l1 l2 (by
    have:X.A.in1.units=X.A.units+1:=rfl
    lia)
   rw[eh,s1];exact .hit hy eq (Ee hu I rb qb fb sk.2 h2 t')
def QP (K:aK)(neg:Bool):R2:=λx y H Q=>∃ ka kb,Abj K H (.dict ka) x/\Abj K H (.dict kb) y/\(dh ka=ae/\dh kb=ae)/\valsOk ka=ae/\valsOk kb=ae/\Q (.bl (neg != BU ka kb)) H
theorem Pr (hu:X.A.units+100<cLine):OpR X (fZ .NotEq) (QP X.K ae):=by
 rw[3];obtain⟨ka,kb,ra,rb,pk,fa,fb,q⟩:=h;obtain⟨a,va,rfl,ha,ra⟩:=(pW pk.1).1 ra;obtain⟨b,vb,rfl,hb,rb⟩:=(pW pk.2).1 rb;cases rx;cases ry;obtain⟨_,na,ua,qa,da⟩:=rB I.hok ha;obtain⟨_,nb,ub,qb,db⟩:=rB I.hok hb;have l1:=(ra.length).symm.trans qa.length;have l2:=(rb.length).symm.trans qb.length;refine PySem.W.keq_ne na nb da db () (λ_=>Ee hu I rb qb fb fa ra qa) ?_
 rw[<-l1,<-l2];exact⟨.bl _,H,I,rfl,by simpa [BU] using q⟩
def uP (neg:Bool):aA->aA->Option aA
 |.dict a,.dict b=>if (valsOk a&&valsOk b&&(dh a&&dh b))=ae then aa (.bool (neg != BU a b)) else ab
 |_,_=>ab
theorem Us{neg:Bool}:jl K 0 (QP K neg) (uP neg):=λP H x y a b d Q hP ra rb e k=>by
 unfold uP at e;split at e
 .obtain⟨hc,rfl⟩:=cM e;have de:=iK.1 hc;have hv:=iK.1 de.1;exact⟨_,_,ra.ext Aam,rb.ext Aam,iK.1 de.2,hv.1,hv.2,k.zero Ext.refl (Aar.2 rfl)⟩
 .cases e
end
open PySem
structure Sub (P:bN)(w:bA)(it:aC)(own:List aC)(St:Nat->aQ->Prop)(xs:Array aD):Prop where
 mem:it∈own
 obj:∀ k h,St k h->∀ c∈own,∃ o,h.get? c=aa o
 keep:∀ k h h',St k h->(∀ c∈own,∀ o,h.get? c=aa o->h'.get? c=aa o)->St k h'
 item:∀ (A:bS) (E:aD->aH->Prop) (s:aH) (Q:aD->aH->Prop) (k:Nat) (x:aD),St k s.heap->xs[k]?=aa x ->
  (∀ h',St (k+1) h'->mT it s.heap h'->Q x { s with heap:=h' })->aM (aP P w) A (AW (.ref it)) Q E s
 done:∀ (A:bS) (E:aD->aH->Prop) (s:aH) (Q:aD->aH->Prop) (k:Nat),A.handled=ab->St k s.heap->xs[k]?=ab ->
  (∀ h' e,GC it s.heap h'->(∃ o,h'.get? e=aa o/\o.cls=.type "StopIteration")->E (.ref e) { s with heap:=h' })->aM (aP P w) A (AW (.ref it)) Q E s
section
variable {P:bN}
theorem u3 {j t:aC}{k:Nat}(hj:s.heap.IsTupleIter j t k)(ht:s.heap.IsTuple t us)(hu:us[k]?=aa u)
  (q:∀ h',h'.IsTupleIter j t (k+1)->mT j s.heap h'->Q u { s with heap:=h' }):aM (aP P w) A (AW (.ref j)) Q E s:=by
 obtain⟨oj,g1,g2,g3⟩:=id hj;obtain⟨ot,t1,_,nt,t2⟩:=ht;unfold AW;refine aF (jR hj.typeIs PQ (fE PQ hj.typeIs F.entry_tuple_iterator_next ?_ (F.args_tuple_iterator_next_1 _)));show aM _ _ (nX (.ref j) 0>>=_) _ _ s;refine aF (eK g1 g3 (x:=.ref t) rfl ?_);have ne:¬ (eI t==eE)=ae:=kB;rw[if_neg ne];refine aF (eK g1 g3 rfl ?_);refine aF (hZ t1 t2 ?_);simp only[pB,hu];refine aF (NV g1 g3 (by simp) (aN ⟨u,rfl,aN (q _ ⟨_,sA _ g1 (Obj.isFreed_of_fields (OS g3 _)),(Obj.cls_mapFields ..).trans g2,?_⟩ (xA ..))⟩))
 rw[OS g3];simp[cY]
theorem n6 {j t:aC}{k:Nat}(hh:A.handled=ab)(hj:s.heap.IsTupleIter j t k)(ht:s.heap.IsTuple t us)(hu:us[k]?=ab)
  (q:∀ h' e,GC j s.heap h'->(∃ o,h'.get? e=aa o/\o.cls=.type "StopIteration")->E (.ref e) { s with heap:=h' }):aM (aP P w) A (AW (.ref j)) Q E s:=by
 obtain⟨oj,g1,g2,g3⟩:=id hj;obtain⟨ot,t1,_,nt,t2⟩:=ht;unfold AW;refine aF (jR hj.typeIs PQ (fE PQ hj.typeIs F.entry_tuple_iterator_next ?_ (F.args_tuple_iterator_next_1 _)));show aM _ _ (nX (.ref j) 0>>=_) _ _ s;refine aF (eK g1 g3 (x:=.ref t) rfl ?_);have ne:¬ (eI t==eE)=ae:=kB;rw[if_neg ne];refine aF (eK g1 g3 rfl ?_);refine aF (hZ t1 t2 ?_);simp only[pB,hu];refine aF (kO (aF (NV g1 g3 (by simp) ?_)))
 rw[11];simp only[newExc,newTuple];refine aF (jQ ?_ (by size_fits))
 refine aF (wG (by first|rfl|(simp only[OI];rfl)) ?_)
 refine jQ ?_ (by size_fits)
 simp only[raiseNew];refine aF (NX ?_)
 first|rw[show A.in1.handled=ab from hh]|rw[hh]
 refine aF (aN (NU (q _ _ (((xA ..).extBut.push _).push _) ⟨_,cL _ rfl,rfl⟩)))
theorem Rx (j t:aC)(us:Array aD)(ne:t≠j):Sub P w j [j,t] (λk h=>h.IsTupleIter j t k/\h.IsTuple t us) us where
 mem:=bE
 obj:=λk h ⟨⟨o,e,_⟩,⟨o',e',_⟩⟩ c hc=>by
  grind
 keep:=λk h h' ⟨⟨o,e,r⟩,⟨o',e',r'⟩⟩ kp=>⟨⟨o,kp j bE o e,r⟩,⟨o',kp t (by simp) o' e',r'⟩⟩
 item:=λA E s Q k x ⟨a,b⟩ hx q=>u3 a b hx λh' a' sb=>q h' ⟨a',b.extBut sb.extBut ne⟩ sb
 done:=λA E s Q k hh ⟨a,b⟩ hx q=>n6 hh a b hx q
theorem Vo (j t:aC)(us:Array aD)(ne:t≠j):Sub P w j [j,t] (λk h=>h.IsListIter j t k/\h.IsList t us) us where
 mem:=bE
 obj:=λk h ⟨⟨o,e,_⟩,⟨o',e',_⟩⟩ c hc=>by
  grind
 keep:=λk h h' ⟨⟨o,e,r⟩,⟨o',e',r'⟩⟩ kp=>⟨⟨o,kp j bE o e,r⟩,⟨o',kp t (by simp) o' e',r'⟩⟩
 item:=λA E s Q k x ⟨a,b⟩ hx q=>wpAny_nextOf_list_item a b hx λh' a' sb=>q h' ⟨a',b.extBut sb.extBut ne⟩ sb
 done:=λA E s Q k hh ⟨a,b⟩ hx q=>wpAny_nextOf_list_end hh a b hx q
structure ZApart (z TI TO i1 i2:aC)(o1 o2:List aC):Prop where
 TIz:TI≠z
 TOz:TO≠z
 TITO:TI≠TO
 TI1:TI≠i1
 TI2:TI≠i2
 i12:i1≠i2
 z1:z∉o1
 z2:z∉o2
 TO1:TO∉o1
 TO2:TO∉o2
 x12:i1∉o2
 x21:i2∉o1
variable {TI TO:aC}{xs ys:Array aD}{k:Nat}
def pd (z TI TO i1 i2:aC)(S1 S2:Nat->aQ->Prop)(f0:aD)(k:Nat)(h:aQ):Prop:=
 IsZip h z TI TO f0/\mD h TI (.ref i1) (.ref i2)/\(∃ a b,mD h TO a b)/\S1 k h/\S2 k h
theorem Sub.but {c:aC}{own:List aC}{St:Nat->aQ->Prop}(U:Sub P w it own St us)(st:St k h)(hc:c∉own)(e:GC c h h'):St k h':=
 U.keep k h h' st λb hb o g=>e b o (λq=>hc (q ▸ hb)) g
theorem y9 {x y:aD}(D:ZApart z TI TO i1 i2 o1 o2)(U:Sub P w i1 o1 S1 xs)(V:Sub P w i2 o2 S2 ys)(st:pd z TI TO i1 i2 S1 S2 .none k s.heap)(hx:xs[k]?=aa x)(hy:ys[k]?=aa y)
  (q:∀ h',pd z TI TO i1 i2 S1 S2 (cY s.heap.objs.size) (k+1) h'->mD h' s.heap.objs.size x y->h'.objs.size=s.heap.objs.size+1 ->
   (∀ c o,c≠z->c≠TO->c≠i1->c≠i2->s.heap.get? c=aa o->h'.get? c=aa o)->Q (.ref s.heap.objs.size) { s with heap:=h' }) :
  aM (aP P w) A (Builtin.«zip.__next__» ⟨[.ref z],[]⟩) (λfin s'=>∃ v,fin=.done (.ret v)/\Q v s') E s:=by
 obtain⟨gz,gI,⟨a,b,gO⟩,iz,il⟩:=st;have z1:i1≠z:=λe=>D.z1 (e ▸ U.mem)
 have z2:i2≠z:=λe=>D.z2 (e ▸ V.mem)
 have t1:TO≠i1:=λe=>D.TO1 (e ▸ U.mem)
 have t2:TO≠i2:=λe=>D.TO2 (e ▸ V.mem)
 show aM _ _ (nX (.ref z) 2>>=_) _ E s;refine aF (eK gz rfl rfl ?_);refine aF (eK gz rfl rfl (aF (hZ gI rfl ?_)));rw[11];unfold AV;refine aF (eK gz rfl rfl (aN ?_));simp only[if_true];refine aF (kO (aF (eK gz rfl rfl ?_)));refine aF (jP gz (by simp) λha qu sa=>?_)
 replace qu:IsZip ha z TI TO .ellipsis:=qu;rw[11];simp only[List.zipIdx_cons,List.zipIdx_nil,FX,PD];refine aF (aF (NW ?_));refine aF (U.item _ _ _ _ k x (U.but iz D.z1 sa.extBut) hx λhb qv sb=>aN ?_)
 have yy:=sb.extBut _ _ t1 (sa.extBut _ _ D.TOz gO);refine aF (hZ yy rfl (aF (He yy λhc M8 sc=>?_)))
 replace M8:mD hc TO x b:=M8;refine aF (rR (aN (aF (aF (NW ?_)))));refine aF (V.item _ _ _ _ k y (V.but (V.but (V.but il D.z2 sa.extBut) D.x12 sb.extBut) D.TO2 sc.extBut) hy λhd we sd=>aN ?_)
 have XV:=sd.extBut _ _ t2 M8;refine aF (hZ XV rfl (aF (He XV λhe M9 se=>?_)))
 replace M9:mD he TO x y:=M9;refine aF (rR (aN (aN ?_)));refine aF (hZ M9 rfl (aF (FA ?_)));have size:he.objs.size=s.heap.objs.size:=by rw[se.1,sd.1,sc.1,sb.1,sa.1]
 have X0:=se.extBut _ _ D.TOz.symm (sd.extBut _ _ z2.symm (sc.extBut _ _ D.TOz.symm (sb.extBut _ _ z1.symm qu)));have cw:∀ c o,c≠z->c≠TO->c≠i1->c≠i2->s.heap.get? c=aa o->he.get? c=aa o:=λc o n1 n2 n3 n4 g=>se.extBut _ _ n2 (sd.extBut _ _ n4 (sc.extBut _ _ n2 (sb.extBut _ _ n3 (sa.extBut _ _ n1 g))))
 have R0:=U.but (U.but (U.but qv D.TO1 sc.extBut) D.x21 sd.extBut) D.TO1 se.extBut;have R3:=V.but we D.TO2 se.extBut;have X1:=bI X0;rw[11];unfold Jv;have gzf:IsZip (he.push { cls:=.type "tuple",data:=.seq #[x,y] }) z TI TO .ellipsis:=bG _ X0;refine aF (jP gzf (by simp) λhg R4 sg=>?_)
 replace R4:IsZip hg z TI TO (cY he.objs.size):=R4;refine jP R4 (by simp) λhi M' si=>?_
 replace M':IsZip hi z TI TO (cY he.objs.size):=M';have up:∀ c o,c≠z->he.get? c=aa o->hi.get? c=aa o:=λc o n1 g=>si.extBut _ _ n1 (sg.extBut _ _ n1 (bG _ g))
 have gT:=si.extBut _ _ (iS X1) (sg.extBut _ _ (iS X1) (cL _ rfl));have sz:hi.objs.size=he.objs.size+1:=by rw[si.1,sg.1,qK]
 have R5:=U.keep _ _ _ R0 λc hc o g=>up c o (λe=>D.z1 (e ▸ hc)) g
 have R6:=V.keep _ _ _ R3 λc hc o g=>up c o (λe=>D.z2 (e ▸ hc)) g
 rw[size] at M' gT sz;refine aN ⟨_,rfl,?_⟩;rw[size];exact q hi ⟨M',up _ _ D.TIz (cw _ _ D.TIz D.TITO D.TI1 D.TI2 gI),⟨x,y,up _ _ D.TOz M9⟩,R5,R6⟩ gT sz λc o n1 n2 n3 n4 g=>up c o n1 (cw c o n1 n2 n3 n4 g)
theorem v9 {Q:Fin->aH->Prop}(hh:A.handled=ab)(D:ZApart z TI TO i1 i2 o1 o2)(U:Sub P w i1 o1 S1 xs)(V:Sub P w i2 o2 S2 ys)(st:pd z TI TO i1 i2 S1 S2 .none k s.heap)(f8:xs[k]?=ab\/ys[k]?=ab)
  (q:∀ h' e,(∀ c o,c≠z->c≠TO->c≠i1->c≠i2->s.heap.get? c=aa o->h'.get? c=aa o)->(∃ o,h'.get? e=aa o/\o.cls=.type "StopIteration")->E (.ref e) { s with heap:=h' }) :
  aM (aP P w) A (Builtin.«zip.__next__» ⟨[.ref z],[]⟩) Q E s:=by
 obtain⟨gz,gI,⟨a,b,gO⟩,iz,il⟩:=st;have z1:i1≠z:=λe=>D.z1 (e ▸ U.mem)
 have z2:i2≠z:=λe=>D.z2 (e ▸ V.mem)
 have t1:TO≠i1:=λe=>D.TO1 (e ▸ U.mem)
 show aM _ _ (nX (.ref z) 2>>=_) _ E s;refine aF (eK gz rfl rfl ?_);refine aF (eK gz rfl rfl (aF (hZ gI rfl ?_)));rw[11];unfold AV;refine aF (eK gz rfl rfl (aN ?_));simp only[if_true];refine aF (kO (aF (eK gz rfl rfl ?_)));refine aF (jP gz (by simp) λha qu sa=>?_)
 replace qu:IsZip ha z TI TO .ellipsis:=qu;rw[11];simp only[List.zipIdx_cons,List.zipIdx_nil,FX,PD];refine aF (aF (NW ?_));have X2:∀ {h':aQ} {e:aC},IsZip h' z TI TO .ellipsis->(∃ o,h'.get? e=aa o/\o.cls=.type "StopIteration")->e≠z:=λg ⟨o,g1,g2⟩ n=>by
  subst n;rw[g] at g1;cases g1;simp at g2
 cases hx:xs[k]? with
 |none=>
  refine aF (U.done _ _ _ _ k hh (U.but iz D.z1 sa.extBut) hx λhb e sb he=>?_)
  have X3:=sb _ _ z1.symm qu;have ne:=X2 X3 he;obtain⟨o,g1,g2⟩:=he;exact jP X3 (by simp) λhc _ sc=>q hc e (λc o n1 _ n3 _ g=>sc.extBut _ _ n1 (sb _ _ n3 (sa.extBut _ _ n1 g))) ⟨o,sc.extBut _ _ ne g1,g2⟩
 |some x=>
  have hy:=f8.resolve_left λh=>by rw[hx] at h;cases h
  refine aF (U.item _ _ _ _ k x (U.but iz D.z1 sa.extBut) hx λhb qv sb=>aN ?_)
  have yy:=sb.extBut _ _ t1 (sa.extBut _ _ D.TOz gO);refine aF (hZ yy rfl (aF (He yy λhc M8 sc=>?_)))
  refine aF (rR (aN (aF (aF (NW ?_)))));refine aF (V.done _ _ _ _ k hh (V.but (V.but (V.but il D.z2 sa.extBut) D.x12 sb.extBut) D.TO2 sc.extBut) hy λhd e sd he=>?_)
  have No:=sd _ _ z2.symm (sc.extBut _ _ D.TOz.symm (sb.extBut _ _ z1.symm qu));have ne:=X2 No he;obtain⟨o,g1,g2⟩:=he;exact jP No (by simp) λhf _ sf=>q hf e (λc o n1 n2 n3 n4 g=>sf.extBut _ _ n1 (sd _ _ n4 (sc.extBut _ _ n2 (sb.extBut _ _ n3 (sa.extBut _ _ n1 g))))) ⟨o,sf.extBut _ _ ne g1,g2⟩
theorem WI {x y:aD}{Q:Option aD->aH->Prop}(D:ZApart z TI TO i1 i2 o1 o2)(U:Sub P w i1 o1 S1 xs)(V:Sub P w i2 o2 S2 ys)(st:pd z TI TO i1 i2 S1 S2 .none k s.heap)(hx:xs[k]?=aa x)(hy:ys[k]?=aa y)
  (q:∀ h',pd z TI TO i1 i2 S1 S2 (cY s.heap.objs.size) (k+1) h'->mD h' s.heap.objs.size x y->h'.objs.size=s.heap.objs.size+1 ->
   (∀ c o,c≠z->c≠TO->c≠i1->c≠i2->s.heap.get? c=aa o->h'.get? c=aa o)->Q (aa (.ref s.heap.objs.size)) { s with heap:=h' }):aM (aP P w) A (eY (.ref z)) Q E s:=by
 have ty:s.TypeIs (.ref z) "zip":=⟨_,st.1,rfl⟩;unfold eY;exact aF (nQ (jR ty uK (fE uK ty PV (y9 D U V st hx hy λh' a1 a2 a3 a4=>aN (q h' a1 a2 a3 a4)) (PX _))))
theorem WC {Q:Option aD->aH->Prop}(hh:A.handled=ab)(D:ZApart z TI TO i1 i2 o1 o2)(U:Sub P w i1 o1 S1 xs)(V:Sub P w i2 o2 S2 ys)(st:pd z TI TO i1 i2 S1 S2 .none k s.heap)(f8:xs[k]?=ab\/ys[k]?=ab)
  (q:∀ h',(∀ c o,c≠z->c≠TO->c≠i1->c≠i2->s.heap.get? c=aa o->h'.get? c=aa o)->Q ab { s with heap:=h' }):aM (aP P w) A (eY (.ref z)) Q E s:=by
 have ty:s.TypeIs (.ref z) "zip":=⟨_,st.1,rfl⟩;unfold eY;refine aF (nQ (jR ty uK (fE uK ty PV (v9 hh D U V st f8 λh' e kp ⟨o,g1,g2⟩=>?_) (PX _))))
 exact aF (oQ ⟨o,g1,g2⟩ zX (aN (q _ kp)))
end
def SqB (b:Bool)(h:aQ)(l:aC)(us:Array aD):Prop:=match b with
 |true=>h.IsList l us
 |false=>h.IsTuple l us
noncomputable def kh (b:Bool)(l:aC):bC:={ cls:=.type (match b with|true=>"list_iterator" | false=>"tuple_iterator"),data:=.fields #[.ref l,.int 0 0] }
def StB (b:Bool)(j l:aC)(us:Array aD)(k:Nat)(h:aQ):Prop:=match b with
 |true=>h.IsListIter j l k/\h.IsList l us
 |false=>h.IsTupleIter j l k/\h.IsTuple l us
theorem qY {P:bN}(b:Bool)(j l:aC)(us:Array aD)(ne:l≠j):Sub P w j [j,l] (StB b j l us) us:=by
 cases b with
 |true=>exact Vo j l us ne
 |false=>exact Rx j l us ne
theorem SqB.keep(q:SqB b h l us)(k:∀ o,h.get? l=aa o->h'.get? l=aa o):SqB b h' l us:=by
 cases b with
 |true=>
  obtain⟨o,e,r⟩:=q;exact⟨o,k o e,r⟩
 |false=>
  obtain⟨o,e,r⟩:=q;exact⟨o,k o e,r⟩
theorem StB.new{j:aC}(q:SqB b h l us)(e:h.get? j=aa (kh b l)):StB b j l us 0 h:=by
 cases b with
 |true=>exact⟨⟨_,e,rfl,rfl⟩,q⟩
 |false=>exact⟨⟨_,e,rfl,rfl⟩,q⟩
section
variable {P:bN}{l1 l2:aC}{xs ys:Array aD}
theorem xQ(h:SqB b s.heap l us)(q:Q (.ref s.heap.objs.size) { s with heap:=s.heap.push (kh b l) }):aM (aP P w) A (nV (.ref l)) Q E s:=by
 cases b with
 |true=>exact zT h q
 |false=>exact wpAny_pyIter_tuple h q
abbrev zA (b1:Bool)(h:aQ)(l1:aC):aQ:=h.push (kh b1 l1)
abbrev zB (b1 b2:Bool)(h:aQ)(l1 l2:aC):aQ:=(zA b1 h l1).push (kh b2 l2)
abbrev zC (b1 b2:Bool)(h:aQ)(l1 l2:aC):aQ:=(zB b1 b2 h l1 l2).push { cls:=.type "tuple",data:=.seq #[.ref h.objs.size,.ref (zA b1 h l1).objs.size] }
abbrev zD (b1 b2:Bool)(h:aQ)(l1 l2:aC):aQ:=(zC b1 b2 h l1 l2).push { cls:=.type "tuple",data:=.seq #[.none,.none] }
abbrev zE (b1 b2:Bool)(h:aQ)(l1 l2:aC):aQ:=(zD b1 b2 h l1 l2).push { cls:=.type "zip",data:=.fields #[.none,.bool af,.bool af,.ref (zB b1 b2 h l1 l2).objs.size,.ref (zC b1 b2 h l1 l2).objs.size] }
theorem Vf (b1 b2:Bool)(l1 l2:aC)(xs ys:Array aD) :
  Meets (Builtin.«zip.__new__» ⟨[.type "zip",.ref l1,.ref l2],[]⟩) (λ_ R s=>SqB b1 s.heap l1 xs/\SqB b2 s.heap l2 ys /\
   R (.ok (.ret (.ref (zD b1 b2 s.heap l1 l2).objs.size))) { s with heap:=zE b1 b2 s.heap l1 l2 }):=
 .of_wp λprog w A R s h=>by
  obtain⟨hp,g,d,tk,os⟩:=s;obtain⟨q1,q2,q⟩:=h;have sz:=sub_zip;have u1:SqB b1 (Shared.heap ⟨hp,g,d,tk,os⟩) l1 xs:=q1;have u2:SqB b2 (Shared.heap ⟨hp.push (kh b1 l1),g,d,tk,os⟩) l2 ys:=q2.keep λo e=>bG _ e
  wp_walk using xQ u1,xQ u2
  exact⟨_,rfl,q⟩
theorem E5 {l1 l2:Nat}(h1:l1<n)(h2:l2<n):ZApart (n+4) (n+2) (n+3) n (n+1) [n,l1] [n+1,l2]:=by
 have xl:∀ {a b c:Nat},a≠b->a≠c->a∉[b,c]:=λh h' m=>by
  grind
 have ne:∀ {a b:Nat},a<b->a≠b:=cH;have en:∀ {a b:Nat},b<a->a≠b:=iS;exact⟨ne (),ne (),ne (),en (),en (),ne (),xl (en ()) (en ()),xl (en ()) (en ()),xl (en ()) (en ()),xl (en ()) (en ()),xl (ne ()) (en h2),xl (en ()) (en ())⟩
theorem VO(h1:SqB b1 s.heap l1 xs)(h2:SqB b2 s.heap l2 ys)
  (q:∀ (z TI TO i1 i2:aC) (h':aQ),s.heap.objs.size<=z->s.heap.objs.size<=TI->s.heap.objs.size<=TO->s.heap.objs.size<=i1->s.heap.objs.size<=i2->ZApart z TI TO i1 i2 [i1,l1] [i2,l2]->pd z TI TO i1 i2 (StB b1 i1 l1 xs) (StB b2 i2 l2 ys) .none 0 h' ->
   (∀ c o,s.heap.get? c=aa o->h'.get? c=aa o)->Q (.ref z) { s with heap:=h' }):aM (aP P w) A (call (.type "zip") [.ref l1,.ref l2]) Q E s:=by
 refine callType_new F.called_zip nofun (F.typeCall_zip_2 _ _) (F.newCall_zip_2 _ _) (λobj=>F.args_object_init_3 obj _ _) F.entry_zip_new (Vf b1 b2 l1 l2 xs ys) ⟨h1,h2,?_⟩
 have za:(zA b1 s.heap l1).objs.size=s.heap.objs.size+1:=qK ..;have zb:(zB b1 b2 s.heap l1 l2).objs.size=s.heap.objs.size+2:=by rw[qK,za]
 have zc:(zC b1 b2 s.heap l1 l2).objs.size=s.heap.objs.size+3:=by rw[qK,zb]
 have zd:(zD b1 b2 s.heap l1 l2).objs.size=s.heap.objs.size+4:=by rw[qK,zc]
 have g5:(zE b1 b2 s.heap l1 l2).get? (zD b1 b2 s.heap l1 l2).objs.size=aa _:=cL _ rfl;have g4:(zE b1 b2 s.heap l1 l2).get? (zC b1 b2 s.heap l1 l2).objs.size=aa _:=bG _ (cL _ rfl);have g3:(zE b1 b2 s.heap l1 l2).get? (zB b1 b2 s.heap l1 l2).objs.size=aa _:=bG _ (bG _ (cL _ rfl));have g2:(zE b1 b2 s.heap l1 l2).get? (zA b1 s.heap l1).objs.size=aa (kh b2 l2):=bG _ (bG _ (bG _ (cL _ (by cases b2<;>rfl))))
 have g1:(zE b1 b2 s.heap l1 l2).get? s.heap.objs.size=aa (kh b1 l1):=bG _ (bG _ (bG _ (bG _ (cL _ (by cases b1<;>rfl)))))
 have all:∀ c o,s.heap.get? c=aa o->(zE b1 b2 s.heap l1 l2).get? c=aa o:=λc o x=>bG _ (bG _ (bG _ (bG _ (bG _ x))))
 have lt1:l1<s.heap.objs.size:=by
  cases b1 with
  |true=>obtain⟨o,e,_⟩:=h1;exact bI e
  |false=>obtain⟨o,e,_⟩:=h1;exact bI e
 have lt2:l2<s.heap.objs.size:=by
  cases b2 with
  |true=>obtain⟨o,e,_⟩:=h2;exact bI e
  |false=>obtain⟨o,e,_⟩:=h2;exact bI e
 refine⟨⟨_,g5,rfl⟩,q _ (zB b1 b2 s.heap l1 l2).objs.size (zC b1 b2 s.heap l1 l2).objs.size s.heap.objs.size (zA b1 s.heap l1).objs.size _ () () () () () ?_ ⟨g5,g3,⟨_,_,g4⟩,StB.new (h1.keep (all l1)) g1,StB.new (h2.keep (all l2)) g2⟩ all⟩
 have ap:=E5 lt1 lt2;rw[<-za,<-zb,<-zc,<-zd] at ap;exact ap
end
def ItB (b:Bool)(j l:aC)(k:Nat)(h:aQ):Prop:=match b with
 |true=>h.IsListIter j l k
 |false=>h.IsTupleIter j l k
theorem Adw{j:aC}{k:Nat}:StB b j l us k h↔ItB b j l k h/\SqB b h l us:=by cases b<;>exact Iff.rfl
theorem ItB.get{j:aC}{k:Nat}(q:ItB b j l k h):∃ o,h.get? j=aa o/\∀ v,o.data ≠ .cell v:=by
 cases b with
 |true=>
  obtain⟨o,e,_,d⟩:=q
  grind
 |false=>
  obtain⟨o,e,_,d⟩:=q
  grind
theorem ItB.keep{j:aC}{k:Nat}(q:ItB b j l k h)(kp:∀ o,h.get? j=aa o->h'.get? j=aa o):ItB b j l k h':=by
 cases b with
 |true=>
  obtain⟨o,e,r⟩:=q;exact⟨o,kp o e,r⟩
 |false=>
  obtain⟨o,e,r⟩:=q;exact⟨o,kp o e,r⟩
def gx (b:Bool)(K:aK)(H:Hp)(a:aC)(xs:List V):Prop:=match b with
 |true=>SqL K H a xs
 |false=>SqT K H a xs
section
variable {Z:St}
theorem Inv.sqB(I:Inv X ac Z H s)(h:gx b X.K H a xs):∃ its:List aD,Vals xs its/\SqB b s.heap a its.toArray:=by
 cases b with
 |true=>
  obtain⟨its,rv,p,_⟩:=I.list h;exact⟨its,rv,p.isList⟩
 |false=>
  obtain⟨its,rv,p,_⟩:=I.tuple h;exact⟨its,rv,p⟩
theorem Inv.sqV_inj(I:Inv X ac Z H s)(h:gx b X.K H a xs)(h':gx b X.K H a ys):xs=ys:=by
 cases b with
 |true=>exact I.list_inj h h'
 |false=>exact I.tuple_inj h h'
theorem Inv.turnM {t':Nat}{fp:List aC}(I:Inv X ac Z H s)(hf:∀ b∈fp,iL X ac H b)(k:∀ b o,b∉fp->s.heap.get? b=aa o->h'.get? b=aa o):Inv X ac Z H { s with heap:=h',toks:=t' }:=by
 have out:∀ b u,H b=aa u->b∉fp:=λb u e m=>by
  rw[(hf b m).1] at e;cases e
 have loc:X.env.locals∉fp:=λm=>(hf _ m).2.1 rfl
 refine I.step (λb m=>⟨(hf b m).2.2.2.1,(hf b m).2.1,(hf b m).2.2.2.2.1,(hf b m).2.2.2.2.2⟩) (λb o _ _ n e _=>k b o n e) (λb o _ _ n e _=>⟨o.slots,k b o n e⟩) (λ_ _ _ _ n=>n)
  (λb o n e=>⟨o,k b o n e⟩) (λ_ _ e=>e) (λ_ _ _ e=>e) (λb ps e=>⟨#[],by rw[e];simp⟩) (λm hm=>?_) (λb u e=>?_) I.bare
 .obtain⟨o,es,ep,ho,r⟩:=hm;exact⟨o,es,ep,k _ o loc ho,r⟩
 .refine(I.hok b u e).stay (λc v hc q=>k c v ?_ q) (λ_ q=>q) λ_ _ q=>q
  grind
end
def GJ (K:aK)(b1 b2:Bool)(a1 a2:aC):It:=
  ⟨λi H=>∃ xs ys x y,gx b1 K H a1 xs/\gx b2 K H a2 ys/\xs[i]?=aa x/\ys[i]?=aa y,
   λi H v H'=>∃ T x y,H T=ab/\v=.ref T/\(∀ xs,gx b1 K H a1 xs->xs[i]?=aa x)/\(∀ ys,gx b2 K H a2 ys->ys[i]?=aa y)/\H'=upd H T (.tup [x,y]),
   λi H=>∃ xs ys,gx b1 K H a1 xs/\gx b2 K H a2 ys/\(xs.length<=i\/ys.length<=i)⟩
def tnZ (b1 b2:Bool)(a1 a2 z TI TO i1 i2:aC)(i:Nat)(h:aQ):Prop:=IsZip h z TI TO .none/\mD h TI (.ref i1) (.ref i2)/\(∃ a b,mD h TO a b)/\ItB b1 i1 a1 i h/\ItB b2 i2 a2 i h
theorem v5 {P:bN}{es:List aU}{cx}{pos:bK}{b1 b2:Bool}{a1 a2 z TI TO i1 i2:aC}(D:ZApart z TI TO i1 i2 [i1,a1] [i2,a2])(n1:a1≠i1)(n2:a2≠i2) :
  Turn P w K (.Tuple es cx pos) (GJ K b1 b2 a1 a2) [z,TI,TO,i1,i2] z (tnZ b1 b2 a1 a2 z TI TO i1 i2) where
 mem:=by simp
 obj:=λi h ⟨g1,g2,⟨a,b,g3⟩,g4,g5⟩ c hc=>by
  simp only[cX,uF,or_false] at hc;rcases hc with rfl|rfl|rfl|rfl|rfl
  .exact⟨_,g1,λv q=>by cases q⟩
  .exact⟨_,g2,λv q=>by cases q⟩
  .exact⟨_,g3,λv q=>by cases q⟩
  .exact g4.get
  .exact g5.get
 keep:=λi h h' ⟨g1,g2,⟨a,b,g3⟩,g4,g5⟩ k=>⟨k z (by simp) _ g1,k TI (by simp) _ g2,⟨a,b,k TO (by simp) _ g3⟩,g4.keep (k i1 (by simp)),g5.keep (k i2 (by simp))⟩
 item:=by
  rw[1];obtain⟨xs,ys,x,y,q1,q2,hx,hy⟩:=hg;obtain⟨us,r1,s1⟩:=I.sqB q1;obtain⟨vs,r2,s2⟩:=I.sqB q2;obtain⟨u,hu,ru⟩:=r1.get hx;obtain⟨v,hv,rv⟩:=r2.get hy;obtain⟨g1,g2,⟨pa,pb,g3⟩,g4,g5⟩:=st;have ni:pd z TI TO i1 i2 (StB b1 i1 a1 us.toArray) (StB b2 i2 a2 vs.toArray) .none i s.heap:=⟨g1,g2,⟨pa,pb,g3⟩,Adw.2 ⟨g4,s1⟩,Adw.2 ⟨g5,s2⟩⟩;have jb:∀ b∈[z,TI,TO,i1,i2],b<s.heap.objs.size:=λb m=>by
   simp only[cX,uF,or_false] at m;rcases m with rfl|rfl|rfl|rfl|rfl
   .exact bI g1
   .exact bI g2
   .exact bI g3
   .obtain⟨o,e,_⟩:=g4.get;exact bI e
   .obtain⟨o,e,_⟩:=g5.get;exact bI e
  refine WI D (qY b1 i1 a1 us.toArray n1) (qY b2 i2 a2 vs.toArray n2) ni (by simpa using hu) (by simpa using hv) λh' zt pr sz cw=>?_
  have fr:=I.hok.fresh (bB _);have I0:Inv X ac Z (upd H s.heap.objs.size (.tup [x,y])) { s with heap:=s.heap.push { cls:=.type "tuple",data:=.seq #[u,v] } }:=
   I.laid (λb ob q=>bG _ q) (bB _) ⟨by show 2<=sizeLine;decide,[u,v],.cons ru (.cons rv .nil),A8t.new _ _⟩
  have qw:∀ b∈[z,TI,TO,i1,i2],iL X ac (upd H s.heap.objs.size (.tup [x,y])) b:=λb m=>⟨by rw[cK (cH (jb b m))];exact(hf b m).1,(hf b m).2⟩
  have I1:Inv X ac Z (upd H s.heap.objs.size (.tup [x,y])) { s with heap:=h' }:=I0.turnM qw λb o n e=>by
   simp only[cX,uF,or_false,not_or] at n;by_cases hb:b=s.heap.objs.size
   .subst hb;have e':(s.heap.push { cls:=.type "tuple",data:=.seq #[u,v] }).get? s.heap.objs.size=aa { cls:=.type "tuple",data:=.seq #[u,v] }:=cL _ rfl
    grind
   .exact cw b o n.1 n.2.2.1 n.2.2.2.1 n.2.2.2.2 ((PP _ _ _ hb).symm.trans e)
  obtain⟨w1,w2,⟨wa,wb,w3⟩,w4,w5⟩:=zt;have z1:i1≠z:=λe=>D.z1 (e ▸ bE)
  have z2:i2≠z:=λe=>D.z2 (e ▸ bE)
  refine⟨_,rfl,wpAny_letOwnedTupleGo_zip w1 λh2 gz sb=>?_⟩
  have I2:Inv X ac Z (upd H s.heap.objs.size (.tup [x,y])) { s with heap:=h2 }:=I1.turnM qw λb o n e=>sb.extBut b o (λq=>n (by simp[q])) e
  exact⟨.ref s.heap.objs.size,_,I2,rfl,⟨_,x,y,fr,rfl,λgs h=>by rw[I.sqV_inj h q1];exact hx,λqy h=>by rw[I.sqV_inj h q2];exact hy,rfl⟩,
   ⟨gz,sb.extBut _ _ D.TIz w2,⟨wa,wb,sb.extBut _ _ D.TOz w3⟩,(Adw.1 w4).1.keep λo e=>sb.extBut _ _ z1 e,(Adw.1 w5).1.keep λo e=>sb.extBut _ _ z2 e⟩,λb m=>(qw b m).1⟩
 done:=by
  rw[1];obtain⟨xs,ys,q1,q2,hl⟩:=hg;obtain⟨us,r1,s1⟩:=I.sqB q1;obtain⟨vs,r2,s2⟩:=I.sqB q2;obtain⟨g1,g2,g3,g4,g5⟩:=st;have ni:pd z TI TO i1 i2 (StB b1 i1 a1 us.toArray) (StB b2 i2 a2 vs.toArray) .none i s.heap:=⟨g1,g2,g3,Adw.2 ⟨g4,s1⟩,Adw.2 ⟨g5,s2⟩⟩;have l1:=r1.length;have l2:=r2.length;refine WC (I.ok.hd hc) D (qY b1 i1 a1 us.toArray n1) (qY b2 i2 a2 vs.toArray n2) ni ?_ λh' cw=>⟨rfl,I.turnM hf λb o n e=>?_⟩
  all_goals grind
 self:=λ_ _ _ _ _ st h=>Hi st.1 h
section
variable {a b:aU}{p:bK}{es:List aU}
def Lp (K:aK)(ta:TA):TI:=λZ H R=>ta Z H λvs H1=>∃ a1 a2 b1 b2 xs ys,vs=[.ref a1,.ref a2]/\gx b1 K H1 a1 xs/\gx b2 K H1 a2 ys/\R (GJ K b1 b2 a1 a2) H1
theorem Pb(hg:Gl X "zip")(hm:X.mg "zip" = ab)(ha:PA X [a,b] ta)(hs:bW [a,b] X.env=[(af,bT a X.env),(af,bT b X.env)]:=by rfl)(gq:bW [b] X.env=[(af,bT b X.env)]:=by rfl) :
  PI X (.Tuple es cx iw) (.Call (.Name "zip" p) [a,b] [] pos) (Lp X.K ta):=by
 intro ac s Z H R I h;refine Call_ (pP I hg hm boot_zip (wN (bb (ha pos ac s Z H _ I h) λus s1 ⟨vs,H1,I1,r1,q1⟩=>?_) (by rw[hs,gq]) (by rw[gq];rfl)))
 obtain⟨a1,a2,b1,b2,xs,ys,rfl,k1,k2,q⟩:=q1;cases r1 with
 |cons r rr=>
  cases rr with
  |cons r' rr=>
   cases rr;cases r;cases r';obtain⟨u1,_,w1⟩:=I1.sqB k1;obtain⟨u2,_,w2⟩:=I1.sqB k2;have m1:a1<s1.heap.objs.size:=by
    cases b1 with
    |true=>obtain⟨o,e,_⟩:=w1;exact bI e
    |false=>obtain⟨o,e,_⟩:=w1;exact bI e
   have m2:a2<s1.heap.objs.size:=by
    cases b2 with
    |true=>obtain⟨o,e,_⟩:=w2;exact bI e
    |false=>obtain⟨o,e,_⟩:=w2;exact bI e
   refine VO w1 w2 λz TI TO i1 i2 h' y0 y1 y2 y3 y4 D ni all=>Hi ni.1 ?_
   refine⟨z,[z,TI,TO,i1,i2],_,_,H1,rfl,I1.kept all,v5 D (λe=>?_) (λe=>?_),⟨ni.1,ni.2.1,ni.2.2.1,(Adw.1 ni.2.2.2.1).1,(Adw.1 ni.2.2.2.2).1⟩,λb m=>?_,q⟩
   .grind
   .grind
   .have le:s1.heap.objs.size<=b:=by
     grind
    exact I1.fpOk le (I1.hok.fresh le)
noncomputable def nC:aA->Option (List aA)
 |.list ds=>aa ds
 |.tuple ds=>aa ds
 |_=>ab
def pairD (x y:aA):aA:=.tuple [x,y]
def iZ (fa:AF):AF:=λY=>(fa Y).bind λds=>match ds with
 |[x,y]=>(nC x).bind λxs=>(nC y).bind λys=>aa (AI pairD xs ys)
 |_=>ab
theorem yY{B:Hp}(e:nC d=aa ds)(r:Abj K B d v):∃ a b xs,v=.ref a/\(∀ H2,Ext B H2->gx b K H2 a xs)/\Aal K B ds xs:=by
 cases d with
 |list es=>
  cases e;obtain⟨a,xs,rfl,h,rr⟩:=Aa7.1 r;exact⟨a,ae,xs,rfl,λH2 x2=>x2.sqL h,rr⟩
 |tuple es=>
  cases e;obtain⟨a,xs,rfl,h,rr⟩:=Aaq.1 r;exact⟨a,af,xs,rfl,λH2 x2=>SqT.of (x2 _ _ h),rr⟩
 |_=>cases e
theorem Qv{B:Hp}{a2:aC}{es:List aA}(h1:∀ H2,Ext B H2->gx b1 K H2 a1 xs)(h2:∀ H2,Ext B H2->gx b2 K H2 a2 ys)(r1:Aal K B ds xs)(r2:Aal K B es ys) :
  oa K B (GJ K b1 b2 a1 a2) (AI pairD ds es):=λi H2 x2=>by
 refine⟨λd hd=>?_,λe=>⟨xs,ys,h1 H2 x2,h2 H2 x2,?_⟩⟩
 .rw[List.getElem?_zipWith] at hd;cases c1:ds[i]? with
  |none=>rw[c1] at hd;simp at hd
  |some d1=>
   cases c2:es[i]? with
   |none=>rw[c1,c2] at hd;simp at hd
   |some d2=>
    rw[c1,c2] at hd;have hd:pairD d1 d2=d:=by simpa using hd
    subst hd;obtain⟨v1,g1,g2⟩:=r1.get c1;obtain⟨v2,g3,g4⟩:=r2.get c2;refine⟨⟨xs,ys,v1,v2,h1 H2 x2,h2 H2 x2,g1,g3⟩,?_⟩;rintro x H3 ⟨T,x',y',fr,rfl,k1,k2,rfl⟩;obtain rfl:v1=x':=fF (g1.symm.trans (k1 xs (h1 H2 x2)));obtain rfl:v2=y':=fF (g3.symm.trans (k2 ys (h2 H2 x2)));have ext:Ext H2 (upd H2 T (.tup [v1,v2])):=λb u e=>by rw[cK (iQ e fr)];exact e
    refine⟨ext,λP2 yz xb=>?_⟩
    have nT:¬ P2 T:=λq=>by
     rcases yz T q with⟨o,e⟩|⟨o,e⟩<;>rw[fr] at e<;>cases e
    have gT:hid (upd H2 T (.tup [v1,v2])) P2 T=aa (.tup [v1,v2]):=fR nT dZ;have xx:=xb.trans (dB ext);exact Aaq.2 ⟨T,_,rfl,gT,Aaf.2 ⟨_,_,rfl,g2.ext xx,Aaf.2 ⟨_,_,rfl,g4.ext xx,Aaj.2 rfl⟩⟩⟩
 .rw[List.length_zipWith] at e;rw[r1.length,r2.length]
  lia
theorem HP(hg:Gl X "zip")(hm:X.mg "zip" = ab)(ha:DA X [a,b] fa)(hs:bW [a,b] X.env=[(af,bT a X.env),(af,bT b X.env)]:=by rfl)(gq:bW [b] X.env=[(af,bT b X.env)]:=by rfl) :
  DI X (.Tuple es cx iw) (.Call (.Name "zip" p) [a,b] [] pos) (iZ fa):=PI.imp (Pb hg hm ha hs gq) λZ H R gh=>by
 obtain⟨P,Y,ds,hP,rs,ef,k⟩:=gh;obtain⟨as,e1,bm⟩:=ak ef;clear ef
 match as,e1,bm with
 |[x,y],e1,bm=>
  obtain⟨xs,e2,bq⟩:=ak (show((nC x).bind λxs=>(nC y).bind λys=>aa (AI pairD xs ys))=aa ds from bm)
  obtain⟨ys,e3,cq⟩:=ak bq;cases cq;refine⟨P,Y,_,hP,rs,e1,λvs H1 x1 r1=>?_⟩
  obtain⟨v,t,rfl,q1,q2⟩:=Aaf.1 r1;obtain⟨v',rfl,q3⟩:=fT q2;obtain⟨a1,b1,us,rfl,k1,w1⟩:=yY e2 q1;obtain⟨a2,b2,R7,rfl,k2,w2⟩:=yY e3 q3;exact⟨a1,a2,b1,b2,us,R7,rfl,k1 _ Aam,k2 _ Aam,k _ H1 x1 (Qv k1 k2 w1 w2)⟩
 |[],_,h=>cases h
 |[_],_,h=>cases h
 |_::_::_::_,_,h=>cases h
end
section
variable {P:bN}{e j:aC}{own:List aC}{S:Nat->aQ->Prop}{xs:Array aD}{k:Nat}{x cw:aD}
theorem Wi(U:Sub P w j own S xs)(ne:e∉own)(ge:qJ s.heap e j (k:Int) cw)(st:S k s.heap)(hx:xs[k]?=aa x)
  (q:∀ h',IsEnumOut h' e j ((k+1:Nat):Int) x s.heap.objs.size->S (k+1) h'->mD h' s.heap.objs.size (.int k s.toks) x->h'.objs.size=s.heap.objs.size+1 ->
   (∀ c o,c≠e->c≠j->s.heap.get? c=aa o->h'.get? c=aa o)->Q (.ref s.heap.objs.size) { s with heap:=h',toks:=s.toks+1 }) :
  aM (aP P w) A (Builtin.«enumerate.__next__» ⟨[.ref e],[]⟩) (λfin s'=>∃ v,fin=.done (.ret v)/\Q v s') E s:=by
 have nj:e≠j:=λh=>ne (h ▸ U.mem)
 show aM _ _ (nX (.ref e) 2>>=_) _ E s;refine aF (eK ge rfl (x:=.ref j) rfl (aF (U.item _ _ _ _ k x st hx λha sta sa=>?_)))
 have R8:qJ ha e j (k:Int) cw:=sa.extBut _ _ nj ge;show aM _ _ (nX (.ref e) 3>>=_) _ E _;refine aF (eK R8 rfl (x:=cY k) rfl ?_);show aM _ _ (nX (.ref e) 4>>=_) _ E _;refine aF (eK R8 rfl (x:=.none) rfl ?_);show aM _ _ (mkInt k>>=_) _ E _;refine aF (wpAny_mkInt ?_);show aM _ _ (setField (.ref e) 3 (cY ((k:Int)+1))>>=_) _ E _;refine aF (jP R8 (by simp) λhb R9 sb=>?_)
 replace R9:qJ hb e j ((k+1:Nat):Int) cw:=R9;show aM _ _ (setField (.ref e) 4 .none>>=_) _ E _;refine aF (jP R9 (by simp) λhc NE sc=>?_)
 replace NE:qJ hc e j ((k+1:Nat):Int) cw:=NE;show aM _ _ (newTuple [.int k s.toks,x]>>=_) _ E _;refine aF (FA ?_);have size:hc.objs.size=s.heap.objs.size:=by rw[sc.1,sb.1,sa.1]
 have lt:e<hc.objs.size:=bI NE;have Sc:∀ c o,c≠e->c≠j->s.heap.get? c=aa o->hc.get? c=aa o:=λc o n1 n2 g=>sc.extBut _ _ n1 (sb.extBut _ _ n1 (sa.extBut _ _ n2 g))
 have stc:S (k+1) hc:=U.but (U.but sta ne sb.extBut) ne sc.extBut;have ST:qJ (hc.push { cls:=.type "tuple",data:=.seq #[.int k s.toks,x] }) e j ((k+1:Nat):Int) cw:=bG _ NE;show aM _ _ (AV (.ref e)>>=_) _ E _;rw[11];unfold AV;refine aF (eK ST rfl (x:=.none) rfl (aN ?_));simp only[if_true];refine aF (kO (aF (eK ST rfl (x:=cw) rfl (aF (jP ST (by simp) λhe S6 se=>?_)))))
 replace S6:qJ he e j ((k+1:Nat):Int) x:=S6;show aM _ _ (Jv (.ref e) (.ref hc.objs.size)>>=_) _ E _;rw[11];unfold Jv;refine aF (jP S6 (by simp) λhf S7 sf=>?_)
 replace S7:IsEnumOut hf e j ((k+1:Nat):Int) x hc.objs.size:=S7;refine jP S7 (by simp) λhg N0 sg=>?_
 replace N0:IsEnumOut hg e j ((k+1:Nat):Int) x hc.objs.size:=N0;have up:∀ c o,c≠e->(hc.push { cls:=.type "tuple",data:=.seq #[.int k s.toks,x] }).get? c=aa o->hg.get? c=aa o:=λc o n g=>sg.extBut _ _ n (sf.extBut _ _ n (se.extBut _ _ n g))
 have sz:hg.objs.size=hc.objs.size+1:=by rw[sg.1,sf.1,se.1,qK]
 have pr:mD hg hc.objs.size (.int k s.toks) x:=up _ _ (iS lt) (cL _ rfl);have stg:S (k+1) hg:=U.keep _ _ _ stc λc m o g=>up c o (λh=>ne (h ▸ m)) (bG _ g)
 refine aF (rR (aN ⟨_,rfl,?_⟩));rw[size] at N0 pr sz ⊢;exact q hg N0 stg pr sz λc o n1 n2 g=>up c o n1 (bG _ (Sc c o n1 n2 g))
theorem F7 {Q:Option aD->aH->Prop}(U:Sub P w j own S xs)(ne:e∉own)(ge:qJ s.heap e j (k:Int) cw)(st:S k s.heap)(hx:xs[k]?=aa x)
  (q:∀ h',IsEnumOut h' e j ((k+1:Nat):Int) x s.heap.objs.size->S (k+1) h'->mD h' s.heap.objs.size (.int k s.toks) x->h'.objs.size=s.heap.objs.size+1 ->
   (∀ c o,c≠e->c≠j->s.heap.get? c=aa o->h'.get? c=aa o)->Q (aa (.ref s.heap.objs.size)) { s with heap:=h',toks:=s.toks+1 }):aM (aP P w) A (eY (.ref e)) Q E s:=by
 have ty:s.TypeIs (.ref e) "enumerate":=⟨_,ge,rfl⟩;unfold eY;exact aF (nQ (jR ty PU (fE PU ty F.entry_enumerate_next (Wi U ne ge st hx λh' a1 a2 a3 a4 a5=>aN (q h' a1 a2 a3 a4 a5)) (F.args_enumerate_next_1 _))))
theorem z9 {Q:Option aD->aH->Prop}(hh:A.handled=ab)(U:Sub P w j own S xs)(ge:qJ s.heap e j (k:Int) cw)(st:S k s.heap)(hx:xs[k]?=ab)
  (q:∀ h',GC j s.heap h'->Q ab { s with heap:=h' }):aM (aP P w) A (eY (.ref e)) Q E s:=by
 have ty:s.TypeIs (.ref e) "enumerate":=⟨_,ge,rfl⟩;unfold eY;refine aF (nQ (jR ty PU (fE PU ty F.entry_enumerate_next ?_ (F.args_enumerate_next_1 _))));show aM _ _ (nX (.ref e) 2>>=_) _ _ _;refine aF (eK ge rfl (x:=.ref j) rfl (aF (U.done _ _ _ _ k hh st hx λh' a kp gh=>?_)))
 obtain⟨o,g1,g2⟩:=gh;exact aF (oQ ⟨o,g1,g2⟩ zX (aN (q _ kp)))
theorem D2 (b:Bool)(l:aC)(us:Array aD) :
  Meets (Builtin.«enumerate.__new__» ⟨[.type "enumerate",.ref l],[]⟩) (λ_ R s=>SqB b s.heap l us /\
   R (.ok (.ret (.ref (s.heap.push (kh b l)).objs.size))) { s with heap:=(s.heap.push (kh b l)).push { cls:=.type "enumerate",data:=.fields #[.none,.bool af,.ref s.heap.objs.size,cY 0,.none,.none] } }):=
 .of_wp λprog w A R s h=>by
  obtain⟨hp,g,d,tk,os⟩:=s;obtain⟨q1,q⟩:=h;have sz:=sub_enumerate;have u1:=q1
  wp_walk
  refine wpAny_stack_any λst=>aN ?_
  split
  .rename_i c _ _ _ _ _;cases(c==jV "enumerate")
   .wp_walk using xQ u1
    exact⟨_,rfl,q⟩
   .wp_walk using xQ u1
    exact⟨_,rfl,q⟩
  .wp_walk using xQ u1
   exact⟨_,rfl,q⟩
theorem D6(h1:SqB b s.heap l us)
  (q:∀ (e j:aC) (h':aQ),s.heap.objs.size<=e->s.heap.objs.size<=j->e∉[j,l]->l≠j->qJ h' e j ((0:Nat):Int) .none->StB b j l us 0 h'->(∀ c o,s.heap.get? c=aa o->h'.get? c=aa o)->Q (.ref e) { s with heap:=h' }) :
  aM (aP P w) A (call (.type "enumerate") [.ref l]) Q E s:=by
 refine callType_new F.called_enumerate nofun (F.typeCall_enumerate_1 _) (F.newCall_enumerate_1 _) (λobj=>F.args_object_init_2 obj _) F.entry_enumerate_new (D2 b l us) ⟨h1,?_⟩
 have z1:(s.heap.push (kh b l)).objs.size=s.heap.objs.size+1:=qK ..;have lt:l<s.heap.objs.size:=by
  cases b with
  |true=>obtain⟨o,e,_⟩:=h1;exact bI e
  |false=>obtain⟨o,e,_⟩:=h1;exact bI e
 have all:∀ c o,s.heap.get? c=aa o->((s.heap.push (kh b l)).push { cls:=.type "enumerate",data:=.fields #[.none,.bool af,.ref s.heap.objs.size,cY 0,.none,.none] }).get? c=aa o:=λc o x=>bG _ (bG _ x)
 have g2:((s.heap.push (kh b l)).push { cls:=.type "enumerate",data:=.fields #[.none,.bool af,.ref s.heap.objs.size,cY 0,.none,.none] }).get? (s.heap.push (kh b l)).objs.size=aa _:=cL _ rfl;have g1:((s.heap.push (kh b l)).push { cls:=.type "enumerate",data:=.fields #[.none,.bool af,.ref s.heap.objs.size,cY 0,.none,.none] }).get? s.heap.objs.size=aa (kh b l):=bG _ (cL _ (by cases b<;>rfl))
 refine⟨⟨_,g2,rfl⟩,q _ s.heap.objs.size _ () (bB _) (λm=>?_) (cH lt) g2 (StB.new (h1.keep (all l)) g1) all⟩
 rw[z1] at m;rcases cX.1 m with m|m
 .exact Nat.succ_ne_self _ m
 .grind
end
def GO (K:aK)(b:Bool)(a:aC):It:=
  ⟨λi H=>∃ xs x,gx b K H a xs/\xs[i]?=aa x,
   λi H v H'=>∃ T x,H T=ab/\v=.ref T/\(∀ xs,gx b K H a xs->xs[i]?=aa x)/\H'=upd H T (.tup [.int i,x]),
   λi H=>∃ xs,gx b K H a xs/\xs.length<=i⟩
def tnE (b:Bool)(a e j:aC)(i:Nat)(h:aQ):Prop:=(∃ cw,qJ h e j (i:Int) cw)/\ItB b j a i h
theorem C1 {P:bN}{es:List aU}{cx}{pos:bK}{b:Bool}{a e j:aC}(D:e∉[j,a])(n1:a≠j) :
  Turn P w K (.Tuple es cx pos) (GO K b a) [e,j] e (tnE b a e j) where
 mem:=by simp
 obj:=λi h ⟨⟨cw,g1⟩,g2⟩ c hc=>by
  simp only[cX,uF,or_false] at hc;rcases hc with rfl|rfl
  .exact⟨_,g1,λv q=>by cases q⟩
  .exact g2.get
 keep:=λi h h' ⟨⟨cw,g1⟩,g2⟩ k=>⟨⟨cw,k e (by simp) _ g1⟩,g2.keep (k j (by simp))⟩
 item:=by
  rw[1];obtain⟨xs,x,q1,hx⟩:=hg;obtain⟨us,r1,s1⟩:=I.sqB q1;obtain⟨u,hu,ru⟩:=r1.get hx;obtain⟨⟨cw,g1⟩,g2⟩:=st;have jb:∀ b∈[e,j],b<s.heap.objs.size:=λb m=>by
   simp only[cX,uF,or_false] at m;rcases m with rfl|rfl
   .exact bI g1
   .obtain⟨o,e,_⟩:=g2.get;exact bI e
  refine F7 (qY b j a us.toArray n1) D g1 (Adw.2 ⟨g2,s1⟩) (x:=u) (by simpa using hu) λh' eo sj pr sz keep=>?_
  have fr:H s.heap.objs.size=ab:=I.hok.fresh (bB _);have I0:Inv X ac Z (upd H s.heap.objs.size (.tup [.int i,x])) { s with heap:=s.heap.push { cls:=.type "tuple",data:=.seq #[.int i s.toks,u] },toks:=s.toks+1 }:=
   I.laid (t':=s.toks+1) (o:=.tup [.int i,x]) (λb ob q=>bG _ q) (bB _) ⟨by show 2<=sizeLine;decide,[.int i s.toks,u],.cons ⟨_,rfl⟩ (.cons ru .nil),A8t.new _ _⟩
  have qw:∀ b∈[e,j],iL X ac (upd H s.heap.objs.size (.tup [.int i,x])) b:=λb m=>⟨by rw[cK (cH (jb b m))];exact(hf b m).1,(hf b m).2⟩
  have I1:Inv X ac Z (upd H s.heap.objs.size (.tup [.int i,x])) { s with heap:=h',toks:=s.toks+1 }:=I0.turnM (t':=s.toks+1) qw λb o n g=>by
   simp only[cX,uF,or_false,not_or] at n;by_cases hb:b=s.heap.objs.size
   .subst hb;have e':(s.heap.push { cls:=.type "tuple",data:=.seq #[.int i s.toks,u] }).get? s.heap.objs.size=aa { cls:=.type "tuple",data:=.seq #[.int i s.toks,u] }:=cL _ rfl
    grind
   .exact keep b o n.1 n.2 ((PP _ _ _ hb).symm.trans g)
  have nj:j≠e:=λh=>D (h ▸ bE)
  refine⟨_,rfl,wpAny_letOwnedTupleGo_enum eo λh2 ge sb=>?_⟩
  have I2:Inv X ac Z (upd H s.heap.objs.size (.tup [.int i,x])) { s with heap:=h2,toks:=s.toks+1 }:=I1.turnM (t':=s.toks+1) qw λb o n g=>sb.extBut b o (λq=>n (by simp[q])) g
  exact⟨.ref s.heap.objs.size,_,I2,rfl,⟨_,x,fr,rfl,λgs h=>by rw[I.sqV_inj h q1];exact hx,rfl⟩,⟨⟨_,ge⟩,(Adw.1 sj).1.keep λo g=>sb.extBut _ _ nj g⟩,λb m=>(qw b m).1⟩
 done:=by
  rw[1];obtain⟨xs,q1,hl⟩:=hg;obtain⟨us,r1,s1⟩:=I.sqB q1;obtain⟨⟨cw,g1⟩,g2⟩:=st;have l1:=r1.length;refine z9 (I.ok.hd hc) (qY b j a us.toArray n1) g1 (Adw.2 ⟨g2,s1⟩) (by simp;lia) λh' kp=>⟨rfl,I.turnM (t':=s.toks) hf λb o n g=>?_⟩
  simp only[cX,uF,or_false,not_or] at n;exact kp b o n.2 g
 self:=λ_ _ _ _ _ st h=>by
  obtain⟨⟨cw,g1⟩,_⟩:=st;exact wpAny_pyIter_enum g1 h
section
variable {a:aU}{p:bK}{es:List aU}
def Ls (K:aK)(ta:TA):TI:=λZ H R=>ta Z H λvs H1=>∃ a1 b1 xs,vs=[.ref a1]/\gx b1 K H1 a1 xs/\R (GO K b1 a1) H1
theorem Ri(hg:Gl X "enumerate")(hm:X.mg "enumerate" = ab)(ha:PA X [a] ta)(hs:bW [a] X.env=[(af,bT a X.env)]:=by rfl) :
  PI X (.Tuple es cx iw) (.Call (.Name "enumerate" p) [a] [] pos) (Ls X.K ta):=by
 intro ac s Z H R I h;refine Call_ (pP I hg hm boot_enumerate (wN (bb (ha pos ac s Z H _ I h) λus s1 ⟨vs,H1,I1,r1,q1⟩=>?_) hs (by rfl)))
 obtain⟨a1,b1,xs,rfl,k1,q⟩:=q1;obtain⟨u,rfl,ru⟩:=vals1 r1;cases ru;obtain⟨u1,_,w1⟩:=I1.sqB k1;refine D6 w1 λe j h' y0 y1 D n1 ge sj all=>wpAny_pyIter_enum ge ?_
 refine⟨e,[e,j],_,_,H1,rfl,I1.kept all,C1 D n1,⟨⟨_,ge⟩,(Adw.1 sj).1⟩,λb m=>?_,q⟩
 have le:s1.heap.objs.size<=b:=by
  grind
 exact I1.fpOk le (I1.hok.fresh le)
def qU (i:Nat)(x:aA):aA:=.tuple [.int i,x]
def xf (fa:AF):AF:=λY=>(fa Y).bind λds=>match ds with
 |[x]=>(nC x).bind λxs=>aa (xs.mapIdx qU)
 |_=>ab
theorem Vh{B:Hp}(h1:∀ H2,Ext B H2->gx b1 K H2 a1 xs)(r1:Aal K B ds xs):oa K B (GO K b1 a1) (ds.mapIdx qU):=λi H2 x2=>by
 refine⟨λd hd=>?_,λe=>⟨xs,h1 H2 x2,?_⟩⟩
 .rw[List.getElem?_mapIdx] at hd;cases c1:ds[i]? with
  |none=>rw[c1] at hd;simp at hd
  |some d1=>
   rw[c1] at hd;have hd:qU i d1=d:=by simpa using hd
   subst hd;obtain⟨v1,g1,g2⟩:=r1.get c1;refine⟨⟨xs,v1,h1 H2 x2,g1⟩,?_⟩;rintro x H3 ⟨T,x',fr,rfl,k1,rfl⟩;obtain rfl:v1=x':=fF (g1.symm.trans (k1 xs (h1 H2 x2)));have ext:Ext H2 (upd H2 T (.tup [.int i,v1])):=λb u e=>by rw[cK (iQ e fr)];exact e
   refine⟨ext,λP2 yz xb=>?_⟩
   have nT:¬ P2 T:=λq=>by
    rcases yz T q with⟨o,e⟩|⟨o,e⟩<;>rw[fr] at e<;>cases e
   have gT:hid (upd H2 T (.tup [.int i,v1])) P2 T=aa (.tup [.int i,v1]):=fR nT dZ;have xx:=xb.trans (dB ext);exact Aaq.2 ⟨T,_,rfl,gT,Aaf.2 ⟨_,_,rfl,Aak.2 rfl,Aaf.2 ⟨_,_,rfl,g2.ext xx,Aaj.2 rfl⟩⟩⟩
 .rw[List.length_mapIdx] at e;rw[r1.length];exact FQ e
theorem Gz(hg:Gl X "enumerate")(hm:X.mg "enumerate" = ab)(ha:DA X [a] fa)(hs:bW [a] X.env=[(af,bT a X.env)]:=by rfl) :
  DI X (.Tuple es cx iw) (.Call (.Name "enumerate" p) [a] [] pos) (xf fa):=PI.imp (Ri hg hm ha hs) λZ H R gh=>by
 obtain⟨P,Y,ds,hP,rs,ef,k⟩:=gh;obtain⟨as,e1,bm⟩:=ak ef;clear ef
 match as,e1,bm with
 |[x],e1,bm=>
  obtain⟨xs,e2,bq⟩:=ak (show((nC x).bind λxs=>aa (xs.mapIdx qU))=aa ds from bm)
  cases bq;refine⟨P,Y,_,hP,rs,e1,λvs H1 x1 r1=>?_⟩
  obtain⟨v,rfl,q1⟩:=fT r1;obtain⟨a1,b1,us,rfl,k1,w1⟩:=yY e2 q1;exact⟨a1,b1,us,rfl,k1 _ Aam,k _ H1 x1 (Vh k1 w1)⟩
 |[],_,h=>cases h
 |_::_::_,_,h=>cases h
end
theorem D0:Ac1 X (.type "range") (λxs H Q=>∃ j:Int,xs=[.int j]/\∀ a,H a=ab->Q (.ref a) (upd H a (.rng 0 j))):=by
 rw[5];obtain⟨j,rfl,q⟩:=h;obtain⟨u,rfl,t,rfl⟩:=vals1 r;refine call_range_1 ?_;exact⟨.ref s.heap.objs.size,_,I.laid (o:=.rng 0 j) (λb ob g=>bG _ g) (bB _) ⟨_,_,_,cL _ rfl⟩,rfl,q _ I.fresh⟩
def upTo (n:Nat):List aA:=(cG n).map λ(k:Nat)=>aY k
def tf (n:Nat):List V:=(cG n).map λ(k:Nat)=>V.int k
theorem Wx (hc:X.calm=ae):Ac1 X (.type "list") (λxs H Q=>∃ a,∃ j:Int,xs=[.ref a]/\H a=aa (.rng 0 j) /\ -4096<=j/\j<=4096/\∀ l,H l=ab->Q (.ref l) (upd H l (.lst (tf j.toNat)))):=by
 rw[5];obtain⟨a,j,rfl,ha,h1,h2,q⟩:=h;obtain⟨u,rfl,ru⟩:=vals1 r;cases ru;obtain⟨t,u,v,g⟩:=(show Acn X.prog X.w H s.heap a (.rng 0 j) from I.hok a _ ha)
 have hn:Builtin.Range.rangeSize 0 j 1=(j.toNat:Int):=by rw[rangeSize_one];split<;>lia
 refine call_list_range (I.ok.hd hc) g (small_one () () () ()) hn () λh' tk bf c' hk hS cy=>?_
 have hv:Vals (tf j.toNat) bf.toList:=by
  refine MM (by simp[tf,cy.1]) λi x u h1 h2=>?_
  obtain⟨t',rfl⟩:=cy.2 i u (by simpa using h2)
  have hi:i<j.toNat:=by
   have:=(cJ.1 h1).1;simpa [tf] using this
  have:(tf j.toNat)[i]?=aa (V.int i):=by simp[tf,hi]
  rw[this] at h1;cases h1;exact⟨t',by simp⟩
 exact⟨.ref s.heap.objs.size,_,I.laid hk (bB _) (show Acn X.prog X.w _ h' _ (.lst (tf j.toNat)) from⟨by simp[tf,nU];lia,bf.toList,c',hv,by simpa using hS⟩),rfl,q _ I.fresh⟩
theorem Wl(n:Nat):Aal K H (upTo n) (tf n):=by
 unfold upTo tf;generalize cG n=l;induction l with
 |nil=>exact Aaj.2 rfl
 |cons a l ih=>exact Aaf.2 ⟨_,_,rfl,Aak.2 rfl,ih⟩
def TQ:List aA->Option aA
 |[.int j]=>if -4096<=j/\j<=4096 then aa (.list (upTo j.toNat)) else ab
 |_=>ab
theorem v8{fe:EF}{qz:bK}(hc:X.calm=ae)(g1:Gl X "list")(m1:X.mg "list" = ab)(g2:Gl X "range")(m2:X.mg "range" = ab)(he:DE X e fe)
  (ng:bW [uM (.Name "range" p2) [e] [] cz] X.env=[(af,bT (uM (.Name "range" p2) [e] [] cz) X.env)]:=by rfl) (gq:bW [e] X.env=[(af,bT e X.env)]:=by rfl) :
  DF 1 X (.Call (.Name "list" p1) [.Call (.Name "range" p2) [e] [] cz] [] qz) (aL TQ (aG fe aJ)):=by
 have h1:PE X (.Call (.Name "range" p2) [e] [] cz) _:=yT D0 g2 m2 rfl (fK he iE gq) nofun nofun gq rfl
 have h2:PE X (.Call (.Name "list" p1) [.Call (.Name "range" p2) [e] [] cz] [] qz) _:=yT (Wx hc) g1 m1 rfl (fK h1 iE ng) nofun nofun ng rfl
 refine PE.imp h2 λZ H Q gh=>?_
 rw[4];obtain⟨S8,e0,ef⟩:=ak ef;obtain⟨d1,e1,e0⟩:=ak e0;have e0:[d1]=S8:=by simpa [aJ] using e0
 subst e0;cases d1 with
 |int j=>
  obtain⟨hl,rfl⟩:=cM (show(if -4096<=j/\j<=4096 then aa (AC (upTo j.toNat)) else ab)=aa d from ef)
  refine⟨P,Y,.int j,hP,rs,e1,eB λv H1 x1 r1=>?_⟩
  obtain rfl:=Aak.1 r1;refine⟨j,rfl,λa hn=>⟨a,j,rfl,dZ,hl.1,hl.2,λl Q7=>?_⟩⟩
  have x2:Ext H (upd H1 a (.rng 0 j)):=x1.trans (Ext.new hn);exact(k.mono x2).lst (hP.ext x2) Q7 (Wl _)
 |_=>cases ef
theorem Tg {P:bN}{k:aI}(h:(dP P w).is k u=ae):RelV (kV k) u:=by
 rcases nK h with⟨i,tk,e1,e2⟩|⟨x,tk,e1,e2⟩
 .rw[e1,e2];exact⟨tk,rfl⟩
 .rw[e1,e2];exact⟨tk,rfl⟩
theorem UE:∀ {kvs:List (aI×V)} {vs:List (aI×aD)} {i:Nat} {kv:aI×V},KV kvs vs->kvs[i]?=aa kv->∃ u,vs[i]?=aa u/\kv.1=u.1/\RelV kv.2 u.2
 |_,_,0,_,.cons h _,e=>by
  cases e;exact⟨_,rfl,h.1,h.2⟩
 |_,_,i+1,_,.cons _ t,e=>by
  obtain⟨u,g⟩:=UE t (by simpa using e)
  exact⟨u,by simpa using g⟩
section
variable {l:aU}
theorem YB:∀ {kds:List (aA×aA)} {kvs:List (aI×V)} {i:Nat} {kd:aA×aA},Abq K H kds kvs->kds[i]?=aa kd->∃ kv,kvs[i]?=aa kv/\kd.1=kD kv.1/\Abj K H kd.2 kv.2
 |(k,d)::ds,kvs,0,kd,r,e=>by
  obtain⟨k',y,t,rfl,ek,h1,h2⟩:=Aa3.1 r;cases e;exact⟨(k',y),rfl,ek,h1⟩
 |(k,d)::ds,kvs,i+1,kd,r,e=>by
  obtain⟨k',y,t,rfl,ek,h1,h2⟩:=Aa3.1 r;obtain⟨kv,g1,g2⟩:=YB h2 (by simpa using e)
  exact⟨kv,by simpa using g1,g2⟩
theorem Ge{k:aI}(h:cR (kD k)=ae):Abj K H (kD k) (kV k):=by
 cases k with
 |inl i=>exact Aak.2 rfl
 |inr x=>exact Aa8.2 ⟨rfl,h⟩
end
theorem wA:rV table "dict.update.loop" = aa Builtin.«dict.update.loop»:=OJ (by kernel_rfl)
theorem nJ:plainId "dict.update.loop" = ae:=by rw[0]
theorem Zy:tZ (.type "list") "keys" = pure ab:=by rw[rS,rW];kernel_rfl
set_option maxHeartbeats 4000000 in
theorem To{xs:Array aD}{k:Nat}{Q:Option aD->aH->Prop}(hx:s.heap.get? a=aa { cls:=.type "list",dict:=ab,data:=.seq xs k,slots:=sl })(hA:A.handled=ab)
  (h:∀ h' tk,(∀ b o,s.heap.get? b=aa o->h'.get? b=aa o)->Q ab { s with heap:=h',toks:=tk }):aM (aP prog w) A (getAttr? (.ref a) "keys") Q E s:=by
 obtain⟨hp,g,d,tk,os⟩:=s;have hT:∀ nr,(⟨hp,g,d,nr,os⟩:aH).TypeIs (.ref a) "list":=λ_=>⟨_,hx,rfl⟩
 have f1:=sub_AttributeError;have f3:=Jq.lookup;have f4:=Jq.bind (.ref a);have f5:=am_list_getattr_none;unfold getAttr? getAttrBy? getAttrBy
 repeat (any_goals (first|assumption|exact hT _|((with_reducible show aM _ _ (call (Value.builtin "list.__getattribute__") _ _) _ _ _);refine zZ Jq (hT _) am_entry_list_getattribute (F.args_list_getattribute_2 _ _) (meets_getattribute_miss_list a xs k sl _ _ Zy (by rw[0])) ⟨hx,hA,λh' nr e ze=>?_⟩)|wp_step))
 obtain⟨t',u',he⟩:=ze.there;unfold getattributeRaised
 repeat (any_goals (first|assumption|wp_step))
 exact h _ _ ze.keeps
def Apj (h:aQ)(D:aC)(wr:List aC)(ai:Array aD)(kvs:List (aI×aD)):Prop:=
 ∀ (j:Nat) v,ai[j]?=aa v->∃ b kv p,v=.ref b/\kvs[j]?=aa p/\h.IsTuple b #[kv,p.2]/\(dP prog w).is p.1 kv=ae/\b≠D/\b∉wr
theorem Apj.keep(q:Apj (prog:=prog) (w:=w) h D wr ai kvs)(k:∀ b o,b≠D->b∉wr->h.get? b=aa o->h'.get? b=aa o):Apj (prog:=prog) (w:=w) h' D wr ai kvs:=λj v e=>by
 obtain⟨b,kv,p,rfl,e1,⟨o,e2,e3⟩,e4,e5,e6⟩:=q j v e;exact⟨b,kv,p,rfl,e1,⟨o,k b o e5 e6 e2,e3⟩,e4,e5,e6⟩
theorem LY:∀ (more kvs:List (aI×aD)),(iH kvs more).length<=kvs.length+more.length
 |[],kvs=>bB _
 |p::r,kvs=>by
  have h1:=LY r (rT kvs p.1 p.2);have h2:(rT kvs p.1 p.2).length<=kvs.length+1:=by
   unfold rT;split<;>simp
  show(iH (rT kvs p.1 p.2) r).length<=_;rw[fM]
  lia
theorem E9{fp:List aC}{St:Nat->aH->Prop}
  (W:WalksS prog w A.in1 I fp wr G n (λi v=>ai[i]?=aa v) St) (D:aC) (zf:D∉fp) (kvs:List (aI×aD)) (hn:n<=sizeLine) (gv:kvs.length=n) :
  ∀ (k i:Nat) (s:aH),n-i=k->i<=n->St i s->s.heap.DictOf (dP prog w) D (iH [] (kvs.take i))->Apj (prog:=prog) (w:=w) s.heap D wr ai kvs ->
   (∀ s',Moved (D::wr) G s s'->s'.heap.DictOf (dP prog w) D (iH [] kvs)->R (.ok (.ret .none)) s') ->
   iR (aP prog w) A (.builtin "dict.update.loop" ⟨[.ref D,.ref I,cY (i:Int),.none],[]⟩) R s:=by
 have zg:D∉wr:=λz=>zf (W.sub _ z)
 have more:∀ b∈wr,b∈D::wr:=λb z=>bL _ z
 intro k;induction k with
 |zero=>
  intro i s hk hi dq hS hT hR;obtain rfl:i=n:=()
  refine jD wA ?_;rw[kX nJ _];refine aF (W.done s _ _ dq λs' hm=>?_)
  refine aF (aN (aN (hR s' (hm.mono more) ?_)));obtain⟨o,es,ep,ho,r⟩:=hS;rw[<-gv,AJ] at r;exact⟨o,es,ep,hm.heap D o zg ho,r⟩
 |succ k ih=>
  intro i s hk hi dq hS hT hR;have bh:i<n:=()
  refine jD wA ?_;rw[kX nJ _];refine aF (W.item i s _ _ bh dq λv s' zh jc hm=>?_)
  have wf:=hT.keep λb o _ h2 e=>hm.heap b o h2 e
  obtain⟨b,kv,p,rfl,e1,tb,e4,e5,e6⟩:=wf i v zh;have gy:s'.heap.DictOf (dP prog w) D (iH [] (kvs.take i)):=by
   obtain⟨o,es,ep,ho,r⟩:=hS;exact⟨o,es,ep,hm.heap D o zg ho,r⟩
  have gm:iH [] (kvs.take (i+1))=rT (iH [] (kvs.take i)) p.1 p.2:=by
   rw[AK,e1];simp[iH,rY]
  have aw:(iH [] (kvs.take i)).length<=sizeLine:=by
   have:=LY (kvs.take i) []
   grind
  refine aF (eP (aF (zR ?_)));unfold Jy;refine aF (mN tb.typeIs ?_);obtain⟨ob,g1,g2,nb,g3⟩:=tb;refine aF (hZ g1 g3 (aN ?_));refine eP (wpAny_dictSet_pairs e4 gy (λh' d' sb=>?_) aw)
  refine aN ⟨jS nJ _,?_⟩;refine ih (i+1) _ () bh (W.frame _ s' _ _ jc (uE _) λc hc o e=>?_) (by rw[gm];exact d') (wf.keep λb o h1 _ e=>(sb.2 b h1).trans e) λtw re S4=>?_
  .exact(sb.2 c (λz=>zf (z ▸ hc))).trans e
  .exact hR tw (Moved.trans W.gtrans ((hm.mono more).then_heap (uE _) λc o hc e=>(sb.2 c (λz=>hc (z ▸ bE))).trans e) re) S4
theorem Ao{N:aQ->Prop}(hh:A.handled=ab)(hl:s.heap.get? l=aa { cls:=.type "list",dict:=ab,data:=.seq ai nl,slots:=sl })
  (hp:∀ (A':bS) (R:oV->aH->Prop) (I:aC) (s1:aH),A'.units<=A.units+50->WalksS prog w A'.in1 I [I,l] [I] (λa b=>b=a) ai.size (λi v=>ai[i]?=aa v) (λi s=>s.heap.IsListIter I l i/\s.heap.IsList l ai)->s.heap.objs.size∉[I,l]->s.heap.objs.size<I->s1.heap.IsListIter I l 0/\s1.heap.IsList l ai ->
   (∀ b o,(s.heap.push { cls:=.type "dict",data:=.dict #[] }).get? b=aa o->s1.heap.get? b=aa o)->(∀ s',Moved [s.heap.objs.size,I] (λa b=>b=a) s1 s'->N s'.heap->R (.ok (.ret .none)) s')->iR (aP prog w) A' (.builtin "dict.update.loop" ⟨[.ref s.heap.objs.size,.ref I,cY ((0:Nat):Int),.none],[]⟩) R s1)
  (h:∀ h' tk,N h'->(∀ b o,s.heap.get? b=aa o->h'.get? b=aa o)->Q (.ref s.heap.objs.size) { s with heap:=h',toks:=tk }) :
  aM (aP prog w) A (call (.type "dict") [.ref l]) Q E s:=by
 refine callType_codes (Q₁:=λobj s₁=>obj=.ref s.heap.objs.size/\s₁={ s with heap:=s.heap.push { cls:=.type "dict",data:=.dict #[] } }) F.kt_called_dict (F.kt_typeCall_dict_1 _) F.entry_dict_init (kt_code_dict_new _ ⟨rfl,rfl⟩) ?_
 rintro obj s₁ ⟨rfl,rfl⟩;have ds:(s.heap.push { cls:=.type "dict",data:=.dict #[] }).get? s.heap.objs.size=aa { cls:=.type "dict",data:=.dict #[] }:=cL _ rfl;have dn:Shared.TypeIs { s with heap:=(s.heap.push { cls:=.type "dict",data:=.dict #[] }) } (.ref s.heap.objs.size) "dict":=⟨_,ds,rfl⟩;have l1:(s.heap.push { cls:=.type "dict",data:=.dict #[] }).get? l=aa { cls:=.type "list",dict:=ab,data:=.seq ai nl,slots:=sl }:=bG _ hl;refine⟨dn,F.args_dict_init_2 _ _,?_⟩;unfold Builtin.«dict.__init__»;rw[11];unfold Builtin.Dict.selfAndRest;refine aF (Hj dn (aN ?_));show aM _ _ (QD "dict.__init__" s.heap.objs.size (.ref l) [] .none) _ _ _;unfold QD;refine aF (mN (T:="list") ⟨_,l1,rfl⟩ ?_);rw[if_pos nofun]
 refine aF (To l1 (by simp[hh]) λh1 tk k1=>?_)
 show aM _ _ (rule _>>=λ_=>nV (.ref l)>>=_) _ _ _
 have l2:h1.get? l=aa { cls:=.type "list",dict:=ab,data:=.seq ai nl,slots:=sl }:=k1 _ _ l1;have L2:h1.IsList l ai:=⟨_,l2,rfl,nl,rfl⟩;refine aF (kO (aF (zT L2 (aN ⟨jS nJ _,?_⟩))));have lS:l<s.heap.objs.size:=bI hl;have sD:s.heap.objs.size<h1.objs.size:=bI (k1 _ _ ds);have nI:l≠h1.objs.size:=cH (Nat.lt_trans lS sD);have nS:s.heap.objs.size∉[h1.objs.size,l]:=λz=>by
  grind
 refine hp _ _ _ _ (by simp<;>lia) ((Walks.list (by simp[hh]) _ l nI ai).toS) nS sD ⟨⟨_,cL _ rfl,rfl,rfl⟩,L2.push _⟩ (λb o e=>bG _ (k1 _ _ e)) λs' hm S'=>?_
 obtain⟨h',g',d',nr,v4⟩:=s';obtain rfl:g'=s.gens:=hm.gens;obtain rfl:d'=s.drawn:=hm.drawn;obtain rfl:v4=s.os:=hm.os;refine⟨rfl,h h' nr S' λb o e=>?_⟩
 have lb:b<s.heap.objs.size:=bI e;refine hm.heap b o (λz=>?_) (bG _ (k1 _ _ (bG _ e)))
 rcases cX.1 z with z|z
 .exact absurd z (cH lb)
 .grind
theorem Wp(hh:A.handled=ab)(hl:s.heap.get? l=aa { cls:=.type "list",dict:=ab,data:=.seq ai nl,slots:=sl })
  (gv:kvs.length=ai.size) (hz:ai.size<=sizeLine) (hp:∀ (j:Nat) v,ai[j]?=aa v->∃ b kv p,v=.ref b/\kvs[j]?=aa p/\s.heap.IsTuple b #[kv,p.2]/\(dP prog w).is p.1 kv=ae)
  (h:∀ h' tk,h'.DictOf (dP prog w) s.heap.objs.size (iH [] kvs)->(∀ b o,s.heap.get? b=aa o->h'.get? b=aa o)->Q (.ref s.heap.objs.size) { s with heap:=h',toks:=tk }) :
  aM (aP prog w) A (call (.type "dict") [.ref l]) Q E s:=by
 refine Ao hh hl (λA' R I s1 _ W nS sD st kp q=>E9 W s.heap.objs.size nS kvs hz gv (ai.size-0) 0 _ rfl (dW _) st ?_ (λj v e=>?_) q) h
 .obtain⟨o,es,ep,ho,r⟩:=(Heap.DictOf.new s.heap:(s.heap.push { cls:=.type "dict",data:=.dict #[] }).DictOf (dP prog w) s.heap.objs.size []);exact⟨o,es,ep,kp _ _ ho,r⟩
 .obtain⟨b,kv,p,rfl,e1,⟨o,e2,e3⟩,e4⟩:=hp j v e;have lb:=bI e2;exact⟨b,kv,p,rfl,e1,⟨o,kp b o (bG _ e2),e3⟩,e4,cH lb,λz=>absurd (cE.1 z) (cH (Nat.lt_trans lb sD))⟩
theorem SJ {α β:Type}{R R':α->β->Prop}(f:∀ a b,R a b->R' a b):∀ {as:List α} {bs:List β},cQ R as bs->cQ R' as bs:=by
 intro as bs h;induction h with
 |nil=>exact .nil
 |cons h _ ih=>exact .cons (f _ _ h) ih
abbrev HH (K:aK)(H:Hp)(ys:List V)(ps:List (aI×V)):Prop:=cQ (λy (p:aI×V)=>∃ b,y=V.ref b/\SqT K H b [kV p.1,p.2]) ys ps
theorem j0{Z:St}(I:Inv X ac Z H s):∀ {ys:List V} {ps:List (aI×V)} {its:List aD},HH X.K H ys ps->Vals ys its ->
  ∃ kvs:List (aI×aD),KV ps kvs/\kvs.length=its.length/\∀ (j:Nat) v,its[j]?=aa v->∃ b kv p,v=.ref b/\kvs[j]?=aa p/\s.heap.IsTuple b #[kv,p.2]/\(dP X.prog X.w).is p.1 kv=ae:=by
 intro ys ps its hp;induction hp generalizing its with
 |nil=>
  intro r;cases r;exact⟨[],.nil,rfl,λj v e=>by simp at e⟩
 |@cons y p ys ps hq t ih=>
  intro r;obtain⟨b,e,q⟩:=hq;subst e;cases r with
  |cons r rr=>
   cases r;obtain⟨kvs,h1,h2,h3⟩:=ih rr;obtain⟨us,rv,tb,_⟩:=I.tuple q;cases rv with
   |cons ra rb=>
    cases rb with
    |cons rb rc=>
     cases rc;refine⟨(p.1,_)::kvs,.cons ⟨rfl,rb⟩ h1,by simp[h2],λj v e=>?_⟩
     cases j with
     |zero=>
      cases e;exact⟨b,_,(p.1,_),rfl,rfl,tb,rA ra⟩
     |succ j=>exact h3 j v (by simpa using e)
theorem Cg (hc:X.calm=ae):Ac1 X (.type "dict") (λxs H Q=>∃ p ys ps,xs=[.ref p]/\SqL X.K H p ys/\HH X.K H ys ps/\∀ q n,H q=ab->Q (.ref q) (upd H q (.dK n (kJ [] ps)))):=by
 rw[5];obtain⟨p,ys,ps,rfl,hp,hv,q⟩:=h;obtain⟨u,rfl,ru⟩:=vals1 r;cases ru;obtain⟨its,rv,⟨o,n,ho,oy,iy,ux⟩,hz⟩:=I.list hp;obtain⟨kvs,h1,h2,h3⟩:=j0 I hv rv;have e1:=rv.length;obtain⟨c,X4,X5,sl⟩:=o;simp only at oy iy ux;subst oy iy ux;refine Wp (I.ok.hd hc) ho (by rw[dX];exact h2) (by rw[dX];lia) (λj v e=>h3 j v (by simpa using e)) λh' tk dd hk=>?_
 obtain⟨m,da⟩:=dd.dictAt;have lz:(kJ [] ps).length<=sizeLine:=by
  have l1:=EE ps [];have l2:=jX h1;simp at l1
  lia
 exact⟨.ref s.heap.objs.size,_,I.laid hk (bB _) (vB lz (beq_eq_false_iff_ne.2 (fL (cH I.big))) (h1.merge .nil) da),rfl,q _ m I.fresh⟩
def sP:List aA->Option (List (aI×aA))
 |[]=>aa []
 |.tuple [k,d]::r=>(bU k).bind λk=>(sP r).bind λps=>aa ((k,d)::ps)
 |_::_=>ab
def kI (ps:List (aI×aA))(kds:List (aA×aA)):List (aA×aA):=ps.foldl (λaj p=>putD aj p.1 p.2) kds
def BZ:List aA->Option aA
 |[.list ds]=>(sP ds).bind λps=>aa (.dict (kI ps []))
 |_=>ab
theorem KM:∀ {ps:List (aI×aA)} {qs:List (aI×V)},cQ (λ(p:aI×aA) (q:aI×V)=>p.1=q.1/\Abj K H p.2 q.2) ps qs->∀ {kds:List (aA×aA)} {kvs:List (aI×V)},Abq K H kds kvs->Abq K H (kI ps kds) (kJ kvs qs):=by
 intro ps qs hp;induction hp with
 |nil=>exact λr=>r
 |@cons p q ps qs hq t ih=>
  intro kds kvs r;have:=ih (CH (k:=p.1) r hq.2);show Abq K H (kI _ (putD kds p.1 p.2)) (kJ (putK kvs q.1 q.2) _);rw[<-hq.1];exact this
theorem r6:∀ {ds:List aA} {ps:List (aI×aA)} {ys:List V},sP ds=aa ps->Aal K H ds ys->∃ qs:List (aI×V),cQ (λ(y:V) (q:aI×V)=>∃ b,y=V.ref b/\H b=aa (.tup [kV q.1,q.2])) ys qs/\cQ (λ(p:aI×aA) (q:aI×V)=>p.1=q.1/\Abj K H p.2 q.2) ps qs:=by
 intro ds;induction ds with
 |nil=>
  intro ps ys e r;cases e;rw[Aaj.1 r];exact⟨[],.nil,.nil⟩
 |cons z ds ih=>
  intro ps ys e r;cases z with
  |tuple zs=>
   cases zs with
   |nil=>cases e
   |cons k zs=>
    cases zs with
    |nil=>cases e
    |cons d zs=>
     cases zs with
     |cons _ _=>cases e
     |nil=>
      obtain⟨key,e1,e⟩:=ak (show((bU k).bind λk=>(sP ds).bind λps=>aa ((k,d)::ps))=aa ps from e)
      obtain⟨X6,e2,e⟩:=ak e;cases e;obtain⟨v,t,rfl,r1,r2⟩:=Aaf.1 r;obtain⟨qs,h1,h2⟩:=ih e2 r2;obtain⟨b,xs,rfl,hb,rx⟩:=Aaq.1 r1;obtain⟨u1,t1,rfl,a1,a2⟩:=Aaf.1 rx;obtain⟨u2,rfl,a3⟩:=fT a2;rw[kN e1 a1] at hb;exact⟨(key,u2)::qs,.cons ⟨b,rfl,hb⟩ h1,.cons ⟨rfl,a3⟩ h2⟩
  |_=>cases e
theorem Yu:CallD K 1 (λxs H Q=>∃ p ys ps,xs=[.ref p]/\SqL K H p ys/\HH K H ys ps/\∀ q n,H q=ab->Q (.ref q) (upd H q (.dK n (kJ [] ps)))) BZ:=λP H xs ds d Q hP r e k=>by
 unfold BZ at e;split at e
 .obtain⟨ps,e1,e2⟩:=ak e;cases e2;rw[9];obtain⟨q,ys,rfl,hq,rr⟩:=Aa7.1 r';obtain⟨qs,h1,h2⟩:=r6 e1 rr;refine⟨q,ys,qs,rfl,Aam.sqL hq,?_,λl n hn=>k.dic hP hn (KM h2 (Abh.2 rfl))⟩
  exact SJ (λy p ⟨b,e,hb⟩=>⟨b,e,SqT.of (Aam _ _ hb)⟩) h1
 .cases e
abbrev jx:=List aA×aC×aD
def kM (xs more:List jx):List jx:=more.foldl (λaj p=>qB aj p.1 p.2.1 p.2.2) xs
theorem Ys {xs:List jx}{v:aD}{x:jx}(m:x∈qB xs k a v):(x.1=k/\x.2.1=a)\/∃ y∈xs,x.1=y.1/\x.2.1=y.2.1:=by
 cases e:oR xs k with
 |none=>
  rw[storedH_new e] at m
  grind
 |some p=>
  rw[storedH_old e] at m;obtain⟨y,my,rfl⟩:=bO.1 m;refine .inr ⟨y,my,?_⟩;unfold putAt
  grind
theorem Yy (xs:List jx)(k:List aA)(a:aC)(v:aD):(qB xs k a v).length<=xs.length+1:=by
 cases e:oR xs k with
 |none=>rw[storedH_new e];simp
 |some p=>rw[storedH_old e];simp
theorem Bv:∀ (more:List jx) {xs:List jx} {x:jx},x∈kM xs more->(∃ p∈more,x.1=p.1/\x.2.1=p.2.1)\/∃ y∈xs,x.1=y.1/\x.2.1=y.2.1
 |[],xs,x,m=>.inr ⟨x,m,rfl,rfl⟩
 |p::r,xs,x,m=>by
  rcases Bv r (show x∈kM (qB xs p.1 p.2.1 p.2.2) r from m) with⟨q,mq,e⟩|⟨y,my,e1,e2⟩
  .grind
  .rcases Ys my with⟨a1,a2⟩|⟨z,mz,a1,a2⟩
   all_goals grind
theorem Cd:∀ (more xs:List jx),(kM xs more).length<=xs.length+more.length
 |[],xs=>bB _
 |p::r,xs=>by
  have h1:=Cd r (qB xs p.1 p.2.1 p.2.2);have h2:=Yy xs p.1 p.2.1 p.2.2;show(kM (qB xs p.1 p.2.1 p.2.2) r).length<=_;rw[fM]
  lia
theorem YL {h0:aQ}{xs:List jx}(e:∀ o,h.get? D=aa o->h'.get? D=aa o)(hs:∀ x∈xs,Abn h0 x.1 x.2.1)(hk:∀ b o,h0.get? b=aa o->h'.get? b=aa o)(d:h.DictOfH (jO prog w) D xs):h'.DictOfH (jO prog w) D xs:=by
 obtain⟨o,es,ep,ho,h1,h2,h3,_,h5⟩:=d;exact⟨o,es,ep,e o ho,h1,h2,h3,λx hx=>(hs x hx).keep λb o _ _ e _ _=>hk b o e,h5⟩
theorem Ws{fp:List aC}{St:Nat->aH->Prop}
  (W:WalksS prog w A.in1 I fp wr G n (λi v=>ai[i]?=aa v) St) (D:aC) (zf:D∉fp) (kvs:List jx) (hn:n<=sizeLine) (gv:kvs.length=n) (hu:A.units+40<cLine) {h0:aQ} (hD0:h0.get? D=ab) (hw0:∀ b∈wr,h0.get? b=ab)
  (hp:∀ (j:Nat) v,ai[j]?=aa v->∃ b p,v=.ref b/\kvs[j]?=aa p/\h0.IsTuple b #[.ref p.2.1,p.2.2]) (S9:∀ p∈kvs,Abn h0 p.1 p.2.1) :
  ∀ (k i:Nat) (s:aH),n-i=k->i<=n->St i s->s.heap.DictOfH (jO prog w) D (kM [] (kvs.take i))->(∀ b o,h0.get? b=aa o->s.heap.get? b=aa o) ->
   (∀ s',Moved (D::wr) G s s'->s'.heap.DictOfH (jO prog w) D (kM [] kvs)->R (.ok (.ret .none)) s') ->
   iR (aP prog w) A (.builtin "dict.update.loop" ⟨[.ref D,.ref I,cY (i:Int),.none],[]⟩) R s:=by
 have zg:D∉wr:=λz=>zf (W.sub _ z)
 have more:∀ b∈wr,b∈D::wr:=λb z=>bL _ z
 have nw:∀ b o,h0.get? b=aa o->b∉wr:=λb o e z=>by rw[hw0 b z] at e;cases e
 have nD:∀ b o,h0.get? b=aa o->b≠D:=λb o e z=>by rw[z,hD0] at e;cases e
 have kin:∀ i,∀ x∈kM [] (kvs.take i),Abn h0 x.1 x.2.1:=λi x m=>by
  rcases Bv _ m with⟨p,mp,e1,e2⟩|⟨y,my,_⟩
  all_goals grind
 intro k;induction k with
 |zero=>
  intro i s hk hi dq hS hT hR;obtain rfl:i=n:=()
  refine jD wA ?_;rw[kX nJ _];refine aF (W.done s _ _ dq λs' hm=>?_)
  refine aF (aN (aN (hR s' (hm.mono more) ?_)));have:=YL (λo e=>hm.heap D o zg e) (kin i) (λb o e=>hm.heap b o (nw b o e) (hT b o e)) hS
  grind
 |succ k ih=>
  intro i s hk hi dq hS hT hR;have bh:i<n:=()
  refine jD wA ?_;rw[kX nJ _];refine aF (W.item i s _ _ bh dq λv s' zh jc hm=>?_)
  have wf:∀ b o,h0.get? b=aa o->s'.heap.get? b=aa o:=λb o e=>hm.heap b o (nw b o e) (hT b o e)
  obtain⟨b,p,rfl,e1,tb0⟩:=hp i v zh;have tb:s'.heap.IsTuple b #[.ref p.2.1,p.2.2]:=by
   obtain⟨o,a1,a2⟩:=tb0;exact⟨o,wf b o a1,a2⟩
  have mp:=eM e1;have gy:=YL (λo e=>hm.heap D o zg e) (kin i) wf hS
  have gm:kM [] (kvs.take (i+1))=qB (kM [] (kvs.take i)) p.1 p.2.1 p.2.2:=by
   rw[AK,e1];simp[kM,rY]
  have aw:(kM [] (kvs.take i)).length<=sizeLine:=by
   have:=Cd (kvs.take i) []
   grind
  have qg:=(S9 p mp).keep λb o _ _ e _ _=>wf b o e
  refine aF (eP (aF (zR ?_)));unfold Jy;refine aF (mN tb.typeIs ?_);obtain⟨ob,g1,g2,nb,g3⟩:=tb;refine aF (hZ g1 g3 (aN ?_));refine eP (wpAny_dictSet_heap ?_ qg gy (λh' d' sb=>?_) aw)
  .show _+20<cLine
   grind
  refine aN ⟨jS nJ _,?_⟩;refine ih (i+1) _ () bh (W.frame _ s' _ _ jc (OU _ _) λc hc o e=>?_) (by rw[gm];exact d') (λb o e=>(sb.2 b (nD b o e)).trans (wf b o e)) λtw re S4=>?_
  .exact(sb.2 c (λz=>zf (z ▸ hc))).trans e
  .exact hR tw (Moved.trans W.gtrans ((hm.mono more).then_heap (OU _ _) λc o hc e=>(sb.2 c (λz=>hc (z ▸ bE))).trans e) re) S4
theorem Ym{kvs:List jx}(hu:A.units+90<cLine)(hh:A.handled=ab)(hl:s.heap.get? l=aa { cls:=.type "list",dict:=ab,data:=.seq ai nl,slots:=sl })
  (gv:kvs.length=ai.size) (hz:ai.size<=sizeLine) (hp:∀ (j:Nat) v,ai[j]?=aa v->∃ b p,v=.ref b/\kvs[j]?=aa p/\s.heap.IsTuple b #[.ref p.2.1,p.2.2]) (S9:∀ p∈kvs,Abn s.heap p.1 p.2.1)
  (h:∀ h' tk,h'.DictOfH (jO prog w) s.heap.objs.size (kM [] kvs)->(∀ b o,s.heap.get? b=aa o->h'.get? b=aa o)->Q (.ref s.heap.objs.size) { s with heap:=h',toks:=tk }) :
  aM (aP prog w) A (call (.type "dict") [.ref l]) Q E s:=by
 have out:∀ b,s.heap.objs.size<=b->s.heap.get? b=ab:=λb hb=>by
  cases e:s.heap.get? b with
  |none=>rfl
  |some o=>exact absurd (bI e) (Nat.not_lt.2 hb)
 refine Ao hh hl (λA' R I s1 ha W nS sD st kp q=>Ws W s.heap.objs.size nS kvs hz gv () (h0:=s.heap) (out _ (bB _)) (λb z=>out b (by
  rw[cE.1 z];exact oX sD)) hp S9 (ai.size-0) 0 _ rfl (dW _) st ?_ (λb o e=>kp b o (bG _ e)) q) h
 obtain⟨o,es,ep,ho,a1,a2,a3,_,a5⟩:=(Heap.DictOfH.new s.heap:(s.heap.push { cls:=.type "dict",data:=.dict #[] }).DictOfH (jO prog w) s.heap.objs.size []);exact⟨o,es,ep,kp _ _ ho,a1,a2,a3,λx hx=>absurd hx uF,a5⟩
abbrev HC (K:aK)(H:Hp)(ys:List V)(ps:List (List aA×V)):Prop:=cQ (λy (p:List aA×V)=>∃ b c,y=V.ref b/\SqT K H b [.ref c,p.2]/\Arp H p.1 c) ys ps
def oH (kvs more:List (List aA×V)):List (List aA×V):=more.foldl (λaj kv=>putK aj kv.1 kv.2) kvs
theorem Dy:∀ (more kvs:List (List aA×V)),(oH kvs more).length<=kvs.length+more.length
 |[],kvs=>by show kvs.length<=kvs.length+0;lia
 |p::r,kvs=>by
  have h1:=Dy r (putK kvs p.1 p.2);have h2:=yW kvs p.1 p.2;show(oH (putK kvs p.1 p.2) r).length<=_;rw[fM];lia
theorem KT.merge:∀ {more:List (List aA×V)} {rs:List jx} {kvs:List (List aA×V)} {vs:List jx},KT H more rs->KT H kvs vs->KT H (oH kvs more) (kM vs rs):=by
 intro more rs kvs vs r;induction r generalizing kvs vs with
 |nil=>intro q;exact q
 |@cons p q ps qs h t ih=>
  intro z;obtain⟨h1,h2,h3⟩:=h;have:=z.put p.1 h2 h3;show KT H (oH (putK kvs p.1 p.2) ps) (kM (qB vs q.1 q.2.1 q.2.2) qs);rw[<-h1];exact ih this
theorem YS{Z:St}(I:Inv X ac Z H s):∀ {ys:List V} {ps:List (List aA×V)} {its:List aD},HC X.K H ys ps->Vals ys its ->
  ∃ kvs:List jx,KT H ps kvs/\kvs.length=its.length/\(∀ (j:Nat) v,its[j]?=aa v->∃ b p,v=.ref b/\kvs[j]?=aa p/\s.heap.IsTuple b #[.ref p.2.1,p.2.2])/\∀ p∈kvs,Abn s.heap p.1 p.2.1
 |_,_,_,.nil,.nil=>⟨[],.nil,rfl,λj v e=>by simp at e,λp m=>by simp at m⟩
 |_,_,_,.cons (b:=p) ⟨b,c,e,q,tk⟩ t,.cons r rr=>by
  subst e;cases r;obtain⟨kvs,h1,h2,h3,h4⟩:=YS I t rr;obtain⟨us,rv,tb,_⟩:=I.tuple q;cases rv with
  |cons ra rb=>
   cases ra;cases rb with
   |cons rb rc=>
    cases rc;refine⟨(p.1,c,_)::kvs,.cons ⟨rfl,tk,rb⟩ h1,by simp[h2],λj v e=>?_,λz m=>?_⟩
    .cases j with
     |zero=>
      cases e;exact⟨b,(p.1,c,_),rfl,rfl,tb⟩
     |succ j=>exact h3 j v (by simpa using e)
    .rw[10]
     .exact key_of I.hok tk
     .exact h4 z m
theorem Zx (hu:X.A.units+100<cLine)(hc:X.calm=ae):Ac1 X (.type "dict") (λxs H Q=>∃ p ys ps,xs=[.ref p]/\SqL X.K H p ys/\HC X.K H ys ps/\∀ q n,H q=ab->Q (.ref q) (upd H q (.dT n (oH [] ps)))):=by
 rw[5];obtain⟨p,ys,ps,rfl,hp,hv,q⟩:=h;obtain⟨u,rfl,ru⟩:=vals1 r;cases ru;obtain⟨its,rv,⟨o,n,ho,oy,iy,ux⟩,hz⟩:=I.list hp;obtain⟨kvs,h1,h2,h3,h4⟩:=YS I hv rv;have e1:=rv.length;obtain⟨c,X4,X5,sl⟩:=o;simp only at oy iy ux;subst oy iy ux;refine Ym () (I.ok.hd hc) ho (by rw[dX];exact h2) (by rw[dX];lia) (λj v e=>h3 j v (by simpa using e)) h4 λh' tk dd hk=>?_
 have lz:(oH [] ps).length<=sizeLine:=by
  have l1:=Dy ps [];have l2:=jX h1;simp at l1
  lia
 obtain⟨qo,es,ep,a1,a2,a3,a4,_,a5⟩:=dd;have fr:=I.hok.fresh (bB _);exact⟨.ref s.heap.objs.size,_,I.laid (o:=.dT ep (oH [] ps)) hk (bB _) ⟨lz,beq_eq_false_iff_ne.2 (fL (cH I.big)),_,(h1.merge .nil).keeps λb zs e=>by rw[cK (iQ e fr)];exact e,qo,es,a1,a2,a3,a4,a5⟩,rfl,q _ ep I.fresh⟩
def sF:List aA->Option (List (List aA×aA))
 |[]=>aa []
 |.tuple [.tuple k,d]::r=>if (bR k&&decide (cT k<=6))=ae then(sF r).bind λps=>aa ((k,d)::ps) else ab
 |_::_=>ab
def qV (kds:List (aA×aA))(k:List aA)(d:aA):List (aA×aA):=if (lB kds k).isSome=ae then kds.map λkd=>if cF kd.1 (.tuple k)=ae then(kd.1,d) else kd else kds++[(.tuple k,d)]
def mI (ps:List (List aA×aA))(kds:List (aA×aA)):List (aA×aA):=ps.foldl (λaj p=>qV aj p.1 p.2) kds
def IE:List aA->Option aA
 |[.list ds]=>(sF ds).bind λps=>aa (.dict ((.none,.none)::mI ps []))
 |_=>ab
theorem LN(hk:bR k=ae)(rv:Abj K H d v):∀ {kds:List (aA×aA)} {kvs:List (List aA×V)},Acm K H kds kvs ->
  Acm K H (kds.map λkd=>if cF kd.1 (.tuple k)=ae then(kd.1,d) else kd) (kvs.map λkv=>if kv.1=k then(kv.1,v) else kv)
 |[],kvs,h=>by rw[Ado.1 h];exact Ado.2 rfl
 |(k0,d0)::r,kvs,h=>by
  obtain⟨k',x,rr,rfl,⟨rfl,bz⟩,h1,h2⟩:=Aca.1 h;have e:cF (.tuple k') (.tuple k)=decide (k'=k):=by rw[Es,yQ _ _ bz hk]
  rw[dC,dC];by_cases q:k'=k
  .rw[if_pos q,if_pos (by rw[e];exact decide_eq_true q)]
   exact Aca.2 ⟨k',v,_,rfl,⟨rfl,bz⟩,rv,LN hk rv h2⟩
  .rw[if_neg q,if_neg (by rw[e,decide_eq_false q];simp)]
   exact Aca.2 ⟨k',x,_,rfl,⟨rfl,bz⟩,h1,LN hk rv h2⟩
theorem Acm.snoc(hk:bR k=ae)(rv:Abj K H d v):∀ {kds:List (aA×aA)} {kvs:List (List aA×V)},Acm K H kds kvs->Acm K H (kds++[(.tuple k,d)]) (kvs++[(k,v)])
 |[],kvs,h=>by rw[Ado.1 h];exact Aca.2 ⟨k,v,[],rfl,⟨rfl,hk⟩,rv,Ado.2 rfl⟩
 |(k0,d0)::r,kvs,h=>by
  obtain⟨k',x,rr,rfl,e,h1,h2⟩:=Aca.1 h;exact Aca.2 ⟨k',x,_,rfl,e,h1,Acm.snoc hk rv h2⟩
theorem t9{kvs:List (List aA×V)}(hk:bR k=ae)(h:Acm K H kds kvs)(rv:Abj K H d v):Acm K H (qV kds k d) (putK kvs k v):=by
 unfold qV putK;rw[rM];rcases LD hk h with⟨n1,n2⟩|⟨d',v',s1,s2,_⟩
 .rw[n1,n2,if_neg (by simp),if_neg (by simp)]
  exact Acm.snoc hk rv h
 .rw[s1,s2,if_pos (show(aa d').isSome=ae from rfl),if_pos (show(aa v').isSome=ae from rfl)]
  exact LN hk rv h
theorem Bg:∀ {ps:List (List aA×aA)} {qs:List (List aA×V)},cQ (λ(p:List aA×aA) (q:List aA×V)=>p.1=q.1/\bR p.1=ae/\Abj K H p.2 q.2) ps qs->∀ {kds:List (aA×aA)} {kvs:List (List aA×V)},Acm K H kds kvs->Acm K H (mI ps kds) (oH kvs qs)
 |_,_,.nil,_,_,r=>r
 |_,_,.cons (a:=p) (b:=q) ⟨e,hk,h⟩ t,kds,kvs,r=>by
  have:=t9 hk r h;have:=Bg t this;show Acm K H (mI _ (qV kds p.1 p.2)) (oH (putK kvs q.1 q.2) _);rw[<-e];exact this
theorem VW:∀ {ds:List aA} {ps:List (List aA×aA)} {ys:List V},sF ds=aa ps->Aal K H ds ys->∃ qs:List (List aA×V),cQ (λ(y:V) (q:List aA×V)=>∃ b c,y=V.ref b/\H b=aa (.tup [.ref c,q.2])/\Arp H q.1 c) ys qs/\cQ (λ(p:List aA×aA) (q:List aA×V)=>p.1=q.1/\bR p.1=ae/\Abj K H p.2 q.2) ps qs
 |[],ps,ys,e,r=>by
  cases e;rw[Aaj.1 r];exact⟨[],.nil,.nil⟩
 |d0::ds,ps,ys,e,r=>by
  unfold sF at e;split at e
  .rename_i e0;cases e0
  .rename_i k d r0 e0;cases e0;obtain⟨hc,e⟩:=yA e;have de:bR k=ae/\cT k<=6:=by simpa using hc
   obtain⟨X6,e2,e⟩:=ak e;cases e;obtain⟨v,t,rfl,r1,r2⟩:=Aaf.1 r;obtain⟨qs,h1,h2⟩:=VW e2 r2;obtain⟨b,xs,rfl,hb,rx⟩:=Aaq.1 r1;obtain⟨u1,t1,rfl,a1,a2⟩:=Aaf.1 rx;obtain⟨u2,rfl,a3⟩:=fT a2;obtain⟨c,zs,rfl,hz,rz⟩:=Aaq.1 a1;exact⟨(k,u2)::qs,.cons ⟨b,c,rfl,hb,de.1,de.2,zs,hz,Aal.keys k de.1 rz⟩ h1,.cons ⟨rfl,de.1,a3⟩ h2⟩
  .cases e
theorem Arp.ext(x:Ext H H'){c:aC}(t:Arp H k c):Arp H' k c:=t.keep λb xs e=>x _ _ e
theorem c7:CallD K 0 (λxs H Q=>∃ p ys ps,xs=[.ref p]/\SqL K H p ys/\HC K H ys ps/\∀ q n,H q=ab->Q (.ref q) (upd H q (.dT n (oH [] ps)))) IE:=λP H xs ds d Q hP r e k=>by
 unfold IE at e;split at e
 .obtain⟨ps,e1,e2⟩:=ak e;cases e2;rw[9];obtain⟨q,ys,rfl,hq,rr⟩:=Aa7.1 r';obtain⟨qs,h1,h2⟩:=VW e1 rr;refine⟨q,ys,qs,rfl,Aam.sqL hq,?_,λl n hn=>?_⟩
  .exact SJ (λy p ⟨b,c,e,hb,tk⟩=>⟨b,c,e,SqT.of (Aam _ _ hb),tk.ext Aam⟩) h1
  .refine k.zero (Ext.new hn) ((KO).2 ⟨l,(n,_),rfl,fR (hP.new hn) dZ,?_⟩);refine Acm.ext (λb o e=>?_) (Bg h2 (Ado.2 rfl))
   obtain⟨nb,e⟩:=Abx.1 e;exact fR nb (Ext.new hn _ _ e)
 .cases e
def keyed (kds:List (aA×aA)):Prop:=∀ kd∈kds,∃ k,kd.1=.tuple k/\bR k=ae
theorem MA(hk:bR k=ae):∀ {kds:List (aA×aA)},keyed kds->((lB kds k).isSome=ae↔cW k∈kds.map (·.1))
 |[],_=>by simp[lB]
 |(k0,d)::r,h=>by
  obtain⟨k',e,bz⟩:=h (k0,d) bE;have e:=e;subst e;rw[Ba bz hk];by_cases q:k'=k
  .rw[if_pos q,q];simp
  .rw[if_neg q,MA hk λkd m=>h kd (bL _ m)]
   grind
theorem Xi(h:keyed kds)(hk:bR k=ae)(d:aA):keyed (qV kds k d)/\∀ x,x∈(qV kds k d).map (·.1)↔x∈kds.map (·.1)\/x=.tuple k:=by
 unfold qV;by_cases q:(lB kds k).isSome=ae
 .rw[if_pos q];have e:(kds.map λkd=>if cF kd.1 (.tuple k)=ae then(kd.1,d) else kd).map (·.1)=kds.map (·.1):=by
   rw[dY];refine jG λkd _=>?_
   grind
  refine⟨λkd m=>?_,λx=>?_⟩
  .obtain⟨y,my,e2⟩:=bO.1 (show kd.1∈kds.map (·.1) from e ▸ bO.2 ⟨kd,m,rfl⟩)
   rw[<-e2];exact h y my
  .rw[e];exact⟨.inl,λz=>z.elim id λz=>z ▸ (MA hk h).1 q⟩
 .rw[if_neg q];refine⟨λkd m=>?_,λx=>by simp⟩
  rcases kT.1 m with m|m
  .exact h kd m
  all_goals grind
theorem Bw:∀ {ps:List (List aA×aA)} {kds:List (aA×aA)},keyed kds->(∀ p∈ps,bR p.1=ae)->keyed (mI ps kds)/\∀ x,x∈(mI ps kds).map (·.1)↔x∈kds.map (·.1)\/∃ p∈ps,x=.tuple p.1
 |[],kds,h,_=>⟨h,λx=>by simp[mI]⟩
 |p::r,kds,h,hp=>by
  obtain⟨h1,h2⟩:=Xi h (hp p bE) p.2;obtain⟨h3,h4⟩:=Bw h1 λq m=>hp q (bL _ m)
  refine⟨h3,λx=>?_⟩
  show x∈(mI r (qV kds p.1 p.2)).map (·.1)↔_;rw[h4,h2];simp[or_assoc]
theorem Ye {ps:List (List aA×aA)}(hp:∀ p∈ps,bR p.1=ae)(hk:bR k=ae):(lB (mI ps []) k).isSome=decide (k∈ps.map (·.1)):=by
 obtain⟨h1,h2⟩:=Bw (kds:=[]) (λkd m=>by simp at m) hp
 have:=MA hk h1
 grind
def zP (m:Md)(f:EF)(T:aA->aR->Option aR):SF:=λY=>(eV 0 m f Y).bind λd=>(T d Y).bind λρ'=>aa (.nx ρ')
theorem Fh{T:aA->aR->Option aR}(m:Md)(he:DE X e f)(hg:DG X H0 P0 tg T)(hs:OA [tg] e pos.line X.env=pure af:=by rfl)(hw:OB [tg] e X.env=pure ab:=by rfl)
  (h1:(gU [tg] X.env).map (·.2)=[kQ tg X.env]:=by rfl):DS X H0 P0 n0 (.Assign [tg] e pos) (zP m f T):=PS.imp (HN (ev m he) hg hs hw h1) λD Z H gh=>by
 rw[6];obtain⟨d,e1,ef⟩:=ak ef;obtain⟨ρ',e2,ef⟩:=ak ef;cases ef;refine⟨B0,Y,fp,d,S,e1,λv H' gh=>?_⟩
 obtain⟨br,S',r⟩:=gh;exact⟨B0,Y,br,d,ρ',S',r.2,e2,λσ' dr S2=>k _ _ dr S2⟩
open PySem PySem.W PyProof.Rows
def ba {α:Type}(lt:Nat->Nat->Bool):KasT α->α
 |.ret a=>a
 |.ask i j k=>ba lt (k (lt i j))
theorem vM {α β:Type}(lt:Nat->Nat->Bool)(f:α->KasT β):∀ t:KasT α,ba lt (t.bind f)=ba lt (f (ba lt t))
 |.ret _=>rfl
 |.ask i j k=>vM lt f (k (lt i j))
structure Ord (lt:Nat->Nat->Bool):Prop where
 asym:∀ a b,lt a b=ae->lt b a=af
 tr:∀ a b c,lt b a=af->lt c b=af->lt c a=af
section
variable {lt:Nat->Nat->Bool}(O:Ord lt)
abbrev at' (p:Array Nat)(i:Nat):Nat:=p.getD i 0
def gC (lt:Nat->Nat->Bool)(p:Array Nat)(m:Nat):Prop:=∀ i j,i<=j->j<m->lt (at' p j) (at' p i)=af
def sE (lt:Nat->Nat->Bool)(p:Array Nat)(m:Nat):Prop:=∀ i j,i<=j->j<m->lt (at' p i) (at' p j)=af
include O
theorem Ord.refl (a:Nat):lt a a=af:=by
 cases h:lt a a with
 |false=>rfl
 |true=>exact absurd (O.asym a a h) (by rw[h];decide)
theorem Qr(h1:1<=n)(h:gC lt p n)(hl:lt (at' p n) (at' p (n-1))=af):gC lt p (n+1):=λi j ie hj=>by
 by_cases c:j<n
 .exact h i j ie c
 .obtain rfl:j=n:=()
  by_cases d:i=j
  .subst d;exact O.refl _
  .exact O.tr _ _ _ (h i (j-1) () ()) hl
theorem yE(h1:1<=n)(h:sE lt p n)(hl:lt (at' p (n-1)) (at' p n)=af):sE lt p (n+1):=λi j ie hj=>by
 by_cases c:j<n
 .exact h i j ie c
 .obtain rfl:j=n:=()
  by_cases d:i=j
  .subst d;exact O.refl _
  .exact O.tr _ _ _ hl (h i (j-1) () ())
theorem Sn (p:Array Nat):gC lt p 1:=λi j ie hj=>by
 obtain rfl:j=0:=()
 obtain rfl:i=0:=()
 exact O.refl _
theorem IL:∀ (f n:Nat),1<=n->gC lt p n->n<=ba lt (kas_asc p f n)/\ba lt (kas_asc p f n)<=n+f/\gC lt p (ba lt (kas_asc p f n))/\(ba lt (kas_asc p f n)<n+f->lt (at' p (ba lt (kas_asc p f n))) (at' p (ba lt (kas_asc p f n)-1))=ae)
 |0,n,h1,h=>⟨bB _,bB _,h,λz=>absurd z (by show ¬ n<n+0;lia)⟩
 |f+1,n,h1,h=>by
  have e:ba lt (kas_asc p (f+1) n)=ba lt (if lt (at' p n) (at' p (n-1))=ae then KasT.ret n else kas_asc p f (n+1)):=rfl
  rw[e];by_cases c:lt (at' p n) (at' p (n-1))=ae
  .rw[if_pos c];exact⟨bB _,by show n<=n+(f+1);lia,h,λ_=>c⟩
  .rw[if_neg c];obtain⟨a1,a2,a3,a4⟩:=IL f (n+1) () (Qr O h1 h (by simpa using c))
   exact⟨(),(),a3,λz=>a4 ()⟩
theorem LK{k:Nat}(h:gC lt p k):∀ (f l r:Nat),l<=r->r<=k->r-l<=f->(∀ i<l,lt (at' p k) (at' p i)=af)->(∀ i,r<=i->i<k->lt (at' p i) (at' p k)=af) ->
  ba lt (kas_place p k f l r)<=k/\(∀ i<ba lt (kas_place p k f l r),lt (at' p k) (at' p i)=af)/\∀ i,ba lt (kas_place p k f l r)<=i->i<k->lt (at' p i) (at' p k)=af
 |0,l,r,h1,h2,h3,hl,hr=>by
  have e:ba lt (kas_place p k 0 l r)=l:=rfl;obtain rfl:l=r:=()
  rw[e];exact⟨h2,hl,hr⟩
 |f+1,l,r,h1,h2,h3,hl,hr=>by
  unfold kas_place;by_cases c:l ≥ r
  .rw[if_pos c];obtain rfl:l=r:=()
   exact⟨h2,hl,hr⟩
  .rw[if_neg c];show ba lt (if lt (at' p k) (at' p ((l+r)/2))=ae then kas_place p k f l ((l+r)/2) else kas_place p k f ((l+r)/2+1) r)<=k/\_
   by_cases d:lt (at' p k) (at' p ((l+r)/2))=ae
   .have e:ba lt (KasT.ask (p.getD k 0) (p.getD ((l+r)/2) 0) λc=>if c=ae then kas_place p k f l ((l+r)/2) else kas_place p k f ((l+r)/2+1) r)=ba lt (kas_place p k f l ((l+r)/2)):=by
     show ba lt (if lt (at' p k) (at' p ((l+r)/2))=ae then _ else _)=_
     rw[if_pos d]
    rw[e,if_pos d];exact LK h f l ((l+r)/2) () () () hl λi a b=>O.tr _ _ _ (O.asym _ _ d) (h _ i a b)
   .have d':lt (at' p k) (at' p ((l+r)/2))=af:=by simpa using d
    have e:ba lt (KasT.ask (p.getD k 0) (p.getD ((l+r)/2) 0) λc=>if c=ae then kas_place p k f l ((l+r)/2) else kas_place p k f ((l+r)/2+1) r)=ba lt (kas_place p k f ((l+r)/2+1) r):=by
     show ba lt (if lt (at' p k) (at' p ((l+r)/2))=ae then _ else _)=_
     rw[if_neg d]
    rw[e,if_neg d];refine LK h f ((l+r)/2+1) r () h2 () (λi hi=>?_) hr
    exact O.tr _ _ _ (h i ((l+r)/2) () ()) d'
end
theorem at_of(i:Nat):at' p i=(p[i]?).getD 0:=QF
theorem TY{k l:Nat}(hk:k<p.size)(hl:l<=k)(i:Nat):at' (bubble p k (k-l)) i=if i=l then at' p k else if l<i/\i<=k then at' p (i-1) else at' p i:=by
 have e:k-(k-l)=l:=()
 have q:=getElem?_bubble hk (k-l) () i
 rw[e] at q;simp only[at_of,q];split
 .rfl
 .split<;>rfl
theorem mL(hj:j<=p.size)(k:Nat):at' (kas_rev p i j) k=if i<=k/\k<j then at' p (i+j-1-k) else at' p k:=by
 have q:=getElem?_mirror_all (i:=i) hj k;simp only[at_of];unfold kas_rev;rw[q];split<;>rfl
theorem JL (p:Array Nat)(i j:Nat):(kas_rev p i j).size=p.size:=mirror_size _ _ _ _
theorem rL (p:Array Nat)(i j:Nat):(kas_rev p i j).Perm p:=mirror_perm _ _ _ _
section
variable {lt:Nat->Nat->Bool}(O:Ord lt)
include O
theorem Fg:∀ (f:Nat) (p:Array Nat) (k:Nat),gC lt p k->k+f<=p.size->(ba lt (kas_bin f p k)).Perm p/\gC lt (ba lt (kas_bin f p k)) (k+f)
 |0,p,k,h,_=>⟨GI _,h⟩
 |f+1,p,k,h,hz=>by
  have e:ba lt (kas_bin (f+1) p k)=ba lt (kas_bin f (bubble p k (k-ba lt (kas_place p k k 0 k))) (k+1)):=by
   show ba lt ((kas_place p k k 0 k).bind λl=>kas_bin f (bubble p k (k-l)) (k+1))=_
   rw[vM]
  obtain⟨h1,h2,h3⟩:=LK O h k 0 k (dW _) (bB _) () (λi hi=>absurd hi ()) (λi a b=>absurd b ())
  rw[e];generalize ba lt (kas_place p k k 0 k)=l at h1 h2 h3;have hk:k<p.size:=()
  have A':gC lt (bubble p k (k-l)) (k+1):=λi j ie hj=>by
   rw[TY hk h1,TY hk h1];by_cases ci:i=l
   .rw[if_pos ci];by_cases cj:j=l
    .rw[if_pos cj];exact O.refl _
    .rw[if_neg cj,if_pos ⟨(),()⟩]
     exact h3 (j-1) () ()
   .rw[if_neg ci];by_cases cj:j=l
    .rw[if_pos cj,if_neg ()]
     exact h2 i ()
    .rw[if_neg cj];by_cases di:l<i/\i<=k
     .rw[if_pos di,if_pos ⟨(),()⟩]
      exact h (i-1) (j-1) () ()
     .rw[if_neg di];by_cases dj:l<j/\j<=k
      .rw[if_pos dj];exact h i (j-1) () ()
      .rw[if_neg dj];exact h i j ie ()
  obtain⟨a1,a2⟩:=Fg f (bubble p k (k-l)) (k+1) A' (by rw[bubble_size];lia)
  exact⟨a1.trans (bubble_perm _ _ _),by rw[show k+(f+1)=k+1+f by lia];exact a2⟩
structure Fall (lt:Nat->Nat->Bool)(p:Array Nat)(n q:Nat):Prop where
 pos:q+1<=n
 dsc:sE lt p n
 eq:∀ i j,n-(q+1)<=i->i<n->n-(q+1)<=j->j<n->lt (at' p i) (at' p j)=af
theorem Fall.rev{q:Nat}(F:Fall lt p n q)(hz:n<=p.size):Fall lt (kas_rev p (n-(q+1)) n) n q:=by
 have hp:=F.pos;refine⟨hp,λi j ie hj=>?_,λi j a b c d=>?_⟩
 .rw[mL hz,mL hz];by_cases ci:n-(q+1)<=i/\i<n
  .rw[if_pos ci,if_pos ⟨(),hj⟩]
   exact F.eq _ _ () () () ()
  .rw[if_neg ci];by_cases cj:n-(q+1)<=j/\j<n
   .rw[if_pos cj];exact F.dsc _ _ () ()
   .rw[if_neg cj];exact F.dsc i j ie hj
 .rw[mL hz,mL hz,if_pos ⟨a,b⟩,if_pos ⟨c,d⟩];exact F.eq _ _ () () () ()
theorem DK:∀ (f:Nat) (p:Array Nat) (n q:Nat),Fall lt p n q->n+f<=p.size->(ba lt (kas_desc f p n q)).1.Perm p/\n<=(ba lt (kas_desc f p n q)).2.1/\(ba lt (kas_desc f p n q)).2.1<=n+f/\Fall lt (ba lt (kas_desc f p n q)).1 (ba lt (kas_desc f p n q)).2.1 (ba lt (kas_desc f p n q)).2.2
 |0,p,n,q,F,_=>⟨GI _,bB _,bB _,F⟩
 |f+1,p,n,q,F,hz=>by
  have hp:=F.pos;have e:ba lt (kas_desc (f+1) p n q)=ba lt (if lt (at' p n) (at' p (n-1))=ae then(if q > 0 then kas_desc f (kas_rev p (n-(q+1)) n) (n+1) 0 else kas_desc f p (n+1) 0) else KasT.ask (p.getD (n-1) 0) (p.getD n 0) λd=>if d=ae then .ret (p,n,q) else kas_desc f p (n+1) (q+1)):=rfl
  rw[e];by_cases c:lt (at' p n) (at' p (n-1))=ae
  .rw[if_pos c];by_cases hq:q > 0
   .rw[if_pos hq];have F':=F.rev O ()
    have hn:at' (kas_rev p (n-(q+1)) n) n=at' p n:=by rw[mL (),if_neg ()]
    have F2:Fall lt (kas_rev p (n-(q+1)) n) (n+1) 0:=by
     refine⟨(),yE O () F'.dsc ?_,λi j a b c' d=>?_⟩
     .rw[hn,mL (),if_pos ⟨(),()⟩]
      exact O.tr _ _ _ (O.asym _ _ c) (F.eq _ _ () () () ())
     .obtain rfl:i=n:=()
      obtain rfl:j=i:=()
      exact O.refl _
    obtain⟨a1,a2,a3,a4⟩:=DK f _ (n+1) 0 F2 (by rw[JL];lia)
    exact⟨a1.trans (rL _ _ _),(),(),a4⟩
   .rw[if_neg hq];have F2:Fall lt p (n+1) 0:=by
     refine⟨(),yE O () F.dsc (O.asym _ _ c),λi j a b c' d=>?_⟩
     obtain rfl:i=n:=()
     obtain rfl:j=i:=()
     exact O.refl _
    obtain⟨a1,a2,a3,a4⟩:=DK f _ (n+1) 0 F2 ()
    exact⟨a1,(),(),a4⟩
  .rw[if_neg c];have c':lt (at' p n) (at' p (n-1))=af:=by simpa using c
   have e2:ba lt (KasT.ask (p.getD (n-1) 0) (p.getD n 0) λd=>if d=ae then .ret (p,n,q) else kas_desc f p (n+1) (q+1))=ba lt (if lt (at' p (n-1)) (at' p n)=ae then .ret (p,n,q) else kas_desc f p (n+1) (q+1)):=rfl
   rw[e2];by_cases d:lt (at' p (n-1)) (at' p n)=ae
   .rw[if_pos d];exact⟨GI _,bB _,by show n<=n+(f+1);lia,F⟩
   .rw[if_neg d];have d':lt (at' p (n-1)) (at' p n)=af:=by simpa using d
    have F2:Fall lt p (n+1) (q+1):=by
     refine⟨(),yE O () F.dsc d',λi j a b a' b'=>?_⟩
     by_cases ci:i=n
     .by_cases cj:j=n
      .rw[ci,cj];exact O.refl _
      .rw[ci];exact O.tr _ _ _ (F.eq (n-1) j () () () ()) c'
     .by_cases cj:j=n
      .rw[cj];exact O.tr _ _ _ d' (F.eq i (n-1) () () () ())
      .exact F.eq i j () () () ()
    obtain⟨a1,a2,a3,a4⟩:=DK f _ (n+1) (q+1) F2 ()
    exact⟨a1,(),(),a4⟩
end
section
variable {lt:Nat->Nat->Bool}(O:Ord lt)
include O
theorem Sl(h:sE lt p n)(hz:n<=p.size):gC lt (kas_rev p 0 n) n:=λi j ie hj=>by
 rw[mL hz,mL hz,if_pos ⟨dW _,hj⟩,if_pos ⟨dW _,()⟩]
 exact h _ _ () ()
theorem XF(h1:1<=n)(hn:n<=m)(hz:m<=p.size)(h:sE lt p n):(ba lt (kas_tail3 n m p)).2.Perm p/\(ba lt (kas_tail3 n m p)).1<=m/\1<=(ba lt (kas_tail3 n m p)).1/\gC lt (ba lt (kas_tail3 n m p)).2 (ba lt (kas_tail3 n m p)).1:=by
 unfold kas_tail3;rw[vM];obtain⟨a1,a2,a3,_⟩:=IL O (m-n) n h1 (Sl O h ())
 exact⟨rL _ _ _,by show ba lt (kas_asc (kas_rev p 0 n) (m-n) n)<=m;lia,by show 1<=ba lt (kas_asc (kas_rev p 0 n) (m-n) n);lia,a3⟩
theorem XU(h1:1<=n)(hn:n+1<=m)(hz:m<=p.size)(h:sE lt p (n+1)):(ba lt (kas_descPart n m p)).2.Perm p/\(ba lt (kas_descPart n m p)).1<=m/\1<=(ba lt (kas_descPart n m p)).1/\gC lt (ba lt (kas_descPart n m p)).2 (ba lt (kas_descPart n m p)).1:=by
 have F0:Fall lt p (n+1) 0:=⟨(),h,λi j a b c d=>by
  obtain rfl:i=n:=()
  obtain rfl:j=i:=()
  exact O.refl _⟩
 obtain⟨a1,a2,a3,a4⟩:=DK O (m-(n+1)) p (n+1) 0 F0 ()
 unfold kas_descPart;rw[vM];generalize ba lt (kas_desc (m-(n+1)) p (n+1) 0)=r at a1 a2 a3 a4;have hs:=a1.size_eq;split
 .have F':=a4.rev O ()
  obtain⟨b1,b2,b3,b4⟩:=XF O () () (by rw[JL];lia) F'.dsc (m:=m)
  exact⟨b1.trans ((rL _ _ _).trans a1),b2,b3,b4⟩
 .obtain⟨b1,b2,b3,b4⟩:=XF O () () () a4.dsc (m:=m)
  exact⟨b1.trans a1,b2,b3,b4⟩
theorem ZW(h1:1<=m)(hz:m<=p.size):(ba lt (kas_count m p)).2.Perm p/\(ba lt (kas_count m p)).1<=m/\1<=(ba lt (kas_count m p)).1/\gC lt (ba lt (kas_count m p)).2 (ba lt (kas_count m p)).1:=by
 obtain⟨a1,a2,a3,a4⟩:=IL O (m-1) 1 (bB _) (Sn O p);unfold kas_count;rw[vM];generalize ba lt (kas_asc p (m-1) 1)=n at a1 a2 a3 a4;by_cases c:(n==m)=ae
 .rw[if_pos c];exact⟨GI _,by show n<=m;lia,a1,a3⟩
 .rw[if_neg c];have hnm:n≠m:=by simpa using c
  have hl:=a4 ()
  by_cases d:n > 1
  .rw[if_pos d];show(ba lt (if lt (at' p 0) (at' p (n-1))=ae then KasT.ret (n,p) else kas_descPart n m (kas_rev p 0 n))).2.Perm p/\(ba lt (if lt (at' p 0) (at' p (n-1))=ae then KasT.ret (n,p) else kas_descPart n m (kas_rev p 0 n))).1<=m/\1<=(ba lt (if lt (at' p 0) (at' p (n-1))=ae then KasT.ret (n,p) else kas_descPart n m (kas_rev p 0 n))).1/\gC lt (ba lt (if lt (at' p 0) (at' p (n-1))=ae then KasT.ret (n,p) else kas_descPart n m (kas_rev p 0 n))).2 (ba lt (if lt (at' p 0) (at' p (n-1))=ae then KasT.ret (n,p) else kas_descPart n m (kas_rev p 0 n))).1
   by_cases e:lt (at' p 0) (at' p (n-1))=ae
   .rw[if_pos e];exact⟨GI _,by show n<=m;lia,a1,a3⟩
   .rw[if_neg e];have e':lt (at' p 0) (at' p (n-1))=af:=by simpa using e
    have same:∀ i j,i<n->j<n->lt (at' p i) (at' p j)=af:=λi j hi hj=>
     O.tr _ (at' p 0) _ (O.tr _ _ _ (a3 j (n-1) () ()) e') (a3 0 i (dW _) hi)
    have D:sE lt (kas_rev p 0 n) (n+1):=by
     refine yE O a1 (λi j ie hj=>?_) ?_
     .rw[mL (),mL (),if_pos ⟨dW _,()⟩,if_pos ⟨dW _,hj⟩]
      exact same _ _ () ()
     .rw[mL (),mL (),if_pos ⟨dW _,()⟩,if_neg ()]
      exact O.tr _ _ _ (O.asym _ _ hl) (same _ _ () ())
    obtain⟨b1,b2,b3,b4⟩:=XU O a1 () (by rw[JL];exact hz) D (m:=m)
    exact⟨b1.trans (rL _ _ _),b2,b3,b4⟩
  .rw[if_neg d];obtain rfl:n=1:=()
   exact XU O (bB _) () hz (yE O (bB _) (λi j ie hj=>by
    obtain rfl:j=0:=()
    obtain rfl:i=0:=()
    exact O.refl _) (O.asym _ _ hl))
theorem WV(h1:1<=n):(ba lt (kas_sort n)).Perm (gW (cG n))/\gC lt (ba lt (kas_sort n)) n:=by
 have hs:(gW (cG n)).size=n:=by simp
 obtain⟨a1,a2,a3,a4⟩:=ZW O h1 (by rw[hs];exact bB _)
 unfold kas_sort;rw[vM];generalize ba lt (kas_count n (gW (cG n)))=r at a1 a2 a3 a4;have hz:=a1.size_eq.trans hs;split
 .have em:max r.1 1=r.1:=()
  rw[em];obtain⟨b1,b2⟩:=Fg O (n-r.1) r.2 r.1 a4 ()
  exact⟨b1.trans a1,by rw[show r.1+(n-r.1)=n by lia] at b2;exact b2⟩
 .have:r.1=n:=()
  exact⟨a1,by rw[this] at a4;exact a4⟩
end
def gL {α:Type}(lt:Nat->Nat->Bool)(N:Nat):KasT α->Prop
 |.ret _=>True
 |.ask i j k=>(i<N/\j<N)/\gL lt N (k (lt i j))
theorem vJ {α β:Type}{lt:Nat->Nat->Bool}{f:α->KasT β}:∀ {t:KasT α},gL lt N t->gL lt N (f (ba lt t))->gL lt N (t.bind f)
 |.ret _,_,h=>h
 |.ask i j k,h,h2=>⟨h.1,vJ h.2 h2⟩
theorem RE {α:Type}{lt:Nat->Nat->Bool}{zi:Nat->Nat->(Bool->aH->Prop)->aH->Prop}(hc:∀ i j (C:Bool->aH->Prop),i<N->j<N->C (lt i j) s->zi i j C s){Q:α->aH->Prop}:∀ {t:KasT α},gL lt N t->Q (ba lt t) s->t.kasWp zi Q s
 |.ret _,_,h=>h
 |.ask i j k,h,q=>hc i j _ h.1.1 h.1.2 (RE hc h.2 q)
abbrev El (N:Nat)(p:Array Nat):Prop:=∀ x∈p,x<N
theorem El.at(h:El N p)(h0:0<N)(i:Nat):at' p i<N:=by
 rw[at_of];cases e:p[i]? with
 |none=>exact h0
 |some v=>exact h v (Array.mem_of_getElem? e)
theorem El.perm{q:Array Nat}(h:El N p)(x:q.Perm p):El N q:=λv m=>h v (x.mem_iff.1 m)
section
variable {lt:Nat->Nat->Bool}(h0:0<N)
include h0
theorem NC(h:El N p):∀ f n,gL lt N (kas_asc p f n)
 |0,_=>trivial
 |f+1,n=>by
  refine⟨⟨h.at h0 _,h.at h0 _⟩,?_⟩;show gL lt N (if lt (at' p n) (at' p (n-1))=ae then KasT.ret n else kas_asc p f (n+1))
  by_cases c:lt (at' p n) (at' p (n-1))=ae
  .rw[if_pos c];trivial
  .rw[if_neg c];exact NC h f (n+1)
theorem JX{k:Nat}(h:El N p):∀ f l r,gL lt N (kas_place p k f l r)
 |0,_,_=>trivial
 |f+1,l,r=>by
  unfold kas_place;by_cases c:l ≥ r
  .rw[if_pos c];trivial
  .rw[if_neg c];refine⟨⟨h.at h0 _,h.at h0 _⟩,?_⟩;show gL lt N (if lt (at' p k) (at' p ((l+r)/2))=ae then kas_place p k f l ((l+r)/2) else kas_place p k f ((l+r)/2+1) r)
   by_cases d:lt (at' p k) (at' p ((l+r)/2))=ae
   .rw[if_pos d];exact JX h f _ _
   .rw[if_neg d];exact JX h f _ _
theorem UP:∀ (f:Nat) (p:Array Nat) (k:Nat),El N p->gL lt N (kas_bin f p k)
 |0,_,_,_=>trivial
 |f+1,p,k,h=>vJ (JX h0 h k 0 k) (UP f _ _ (h.perm (bubble_perm _ _ _)))
theorem CU:∀ (f:Nat) (p:Array Nat) (n q:Nat),El N p->gL lt N (kas_desc f p n q)/\El N (ba lt (kas_desc f p n q)).1
 |0,_,_,_,h=>⟨trivial,h⟩
 |f+1,p,n,q,h=>by
  have e:ba lt (kas_desc (f+1) p n q)=ba lt (if lt (at' p n) (at' p (n-1))=ae then(if q > 0 then kas_desc f (kas_rev p (n-(q+1)) n) (n+1) 0 else kas_desc f p (n+1) 0) else KasT.ask (p.getD (n-1) 0) (p.getD n 0) λd=>if d=ae then .ret (p,n,q) else kas_desc f p (n+1) (q+1)):=rfl
  have g:gL lt N (kas_desc (f+1) p n q)↔(at' p n<N/\at' p (n-1)<N)/\gL lt N (if lt (at' p n) (at' p (n-1))=ae then(if q > 0 then kas_desc f (kas_rev p (n-(q+1)) n) (n+1) 0 else kas_desc f p (n+1) 0) else KasT.ask (p.getD (n-1) 0) (p.getD n 0) λd=>if d=ae then .ret (p,n,q) else kas_desc f p (n+1) (q+1)):=Iff.rfl
  rw[g,e];by_cases c:lt (at' p n) (at' p (n-1))=ae
  .rw[if_pos c];by_cases hq:q > 0
   .rw[if_pos hq];obtain⟨a,b⟩:=CU f _ (n+1) 0 (h.perm (rL p (n-(q+1)) n));exact⟨⟨⟨h.at h0 _,h.at h0 _⟩,a⟩,b⟩
   .rw[if_neg hq];obtain⟨a,b⟩:=CU f _ (n+1) 0 h;exact⟨⟨⟨h.at h0 _,h.at h0 _⟩,a⟩,b⟩
  .rw[if_neg c];have e2:ba lt (KasT.ask (p.getD (n-1) 0) (p.getD n 0) λd=>if d=ae then .ret (p,n,q) else kas_desc f p (n+1) (q+1))=ba lt (if lt (at' p (n-1)) (at' p n)=ae then .ret (p,n,q) else kas_desc f p (n+1) (q+1)):=rfl
   have g2:gL lt N (KasT.ask (p.getD (n-1) 0) (p.getD n 0) λd=>if d=ae then .ret (p,n,q) else kas_desc f p (n+1) (q+1))↔(at' p (n-1)<N/\at' p n<N)/\gL lt N (if lt (at' p (n-1)) (at' p n)=ae then .ret (p,n,q) else kas_desc f p (n+1) (q+1)):=Iff.rfl
   rw[g2,e2];by_cases d:lt (at' p (n-1)) (at' p n)=ae
   .rw[if_pos d];exact⟨⟨⟨h.at h0 _,h.at h0 _⟩,⟨h.at h0 _,h.at h0 _⟩,trivial⟩,h⟩
   .rw[if_neg d];obtain⟨a,b⟩:=CU f _ (n+1) (q+1) h;exact⟨⟨⟨h.at h0 _,h.at h0 _⟩,⟨h.at h0 _,h.at h0 _⟩,a⟩,b⟩
theorem Fj(n m:Nat)(h:El N p):gL lt N (kas_tail3 n m p):=vJ (NC h0 (h.perm (rL _ _ _)) _ _) trivial
theorem Fq(n m:Nat)(h:El N p):gL lt N (kas_descPart n m p):=by
 obtain⟨a,b⟩:=CU h0 (m-(n+1)) p (n+1) 0 h;refine vJ a ?_;split
 .exact Fj h0 _ _ (b.perm (rL _ _ _))
 .exact Fj h0 _ _ b
theorem u4(m:Nat)(h:El N p):gL lt N (kas_count m p):=by
 refine vJ (NC h0 h _ _) ?_;generalize ba lt (kas_asc p (m-1) 1)=n;by_cases c:(n==m)=ae
 .rw[if_pos c];trivial
 .rw[if_neg c];by_cases d:n > 1
  .rw[if_pos d];refine⟨⟨h.at h0 _,h.at h0 _⟩,?_⟩;show gL lt N (if lt (at' p 0) (at' p (n-1))=ae then KasT.ret (n,p) else kas_descPart n m (kas_rev p 0 n))
   by_cases e:lt (at' p 0) (at' p (n-1))=ae
   .rw[if_pos e];trivial
   .rw[if_neg e];exact Fq h0 _ _ (h.perm (rL _ _ _))
  .rw[if_neg d];exact Fq h0 _ _ h
end
theorem Tr {lt:Nat->Nat->Bool}(O:Ord lt)(h1:1<=n):gL lt n (kas_sort n):=by
 have hs:(gW (cG n)).size=n:=by simp
 have h:El n (gW (cG n)):=λx m=>by simpa using m
 refine vJ (u4 () n h) ?_
 obtain⟨a1,_⟩:=ZW O h1 (by rw[hs];exact bB _)
 generalize ba lt (kas_count n (gW (cG n)))=r at a1;split
 .exact UP () _ _ _ (h.perm a1)
 .trivial
theorem Rz {lt:Nat->Nat->Bool}(O:Ord lt)(h1:1<=n){zi:Nat->Nat->(Bool->aH->Prop)->aH->Prop}(hc:∀ i j (C:Bool->aH->Prop),i<n->j<n->C (lt i j) s->zi i j C s){G:Array Nat->aH->Prop}
  (h:∀ p:Array Nat,p.Perm (gW (cG n))->gC lt p n->G p s):(kas_sort n).kasWp zi G s:=
 RE hc (Tr O h1) (h _ (WV O h1).1 (WV O h1).2)
abbrev Ke (a:aC)(h h':aQ):Prop:=∀ b o,b≠a->h.get? b=aa o->h'.get? b=aa o
abbrev nE (h:aQ)(a:aC)(vs:List aD):aQ:=((h.update a (fG λ_=>#[])).push (fY "tuple" vs.toArray 0)).push (fY "list" #[] 0)
theorem Gf:Ke a h (nE h a vs):=λb o hb e=>
 bG _ (bG _ (((xA h a (fG λ_=>(#[]:Array aD))).2 b hb).trans e))
theorem Fm{κ:SortKind}{lt:Nat->Nat->Bool}{P:OP->aH->Prop}(O:Ord lt)(ho:s.heap.get? a=aa (fY "list" vs.toArray n))(h2:2<=vs.length)(kz:vs.length<64)
  (hk:∀ (Q:SortKind->aH->Prop),Q κ { s with heap:=nE s.heap a vs }->aM (aP prog w) A (keyKind' vs.toArray) Q E { s with heap:=nE s.heap a vs })
  (hc:∀ i j (C:Bool->aH->Prop),i<vs.length->j<vs.length->C (lt i j) { s with heap:=nE s.heap a vs }->aM (aP prog w) A (keyLt' κ (vs.getD i eE) (vs.getD j eE)) C (λ_ _=>False) { s with heap:=nE s.heap a vs })
  (h:∀ p:Array Nat,p.Perm (gW (cG vs.length))->gC lt p vs.length->P (.done (.ret .none)) { s with heap:=sortedHeap s.heap a vs (gW (p.toList.map λi=>vs.getD i eE)) }) :
  aM (aP prog w) A (Builtin.«list.sort» ⟨[.ref a],[]⟩) P E s:=by
 have lz:vs.length<=sizeLine:=by rw[nU];lia
 have ha:=bI ho;obtain⟨e1,zj⟩:∃ e,(s.heap.update a (fG λ_=>(#[]:Array aD))).get? a=aa (fY "list" #[] e):=⟨_,get?_update_seq ho λ_=>#[]⟩
 have zk:(nE s.heap a vs).get? a=aa (fY "list" #[] e1):=bG _ (bG _ zj);rw[list_sort_plain];refine aF (listItems_at ho rfl (aF (listUpdate_at ho rfl (aF (seqEpoch_at zj rfl (aF (FA (aF (zU (eP ?_) (dW _))) (by simpa using lz))))) (by rw[dX];exact lz) (dW _))))
 rw[12];have big:¬ vs.toArray.size<2:=by rw[dX];lia
 rw[if_neg big,if_neg big];refine aF (hk _ ?_);have eS:SortSt.mk' κ (vs.toArray.zip vs.toArray) #[] 7 ab=kas_st κ (pairsOf vs) (gW (cG vs.length)):=by
  have e:=kas_range (pairsOf vs);rw[pairsOf_size] at e;unfold kas_st;rw[e]
  rfl
 have run:=kas_runs (E:=E) (Q:=λ_ gi s'=>s'={ s with heap:=nE s.heap a vs }/\∃ p:Array Nat,p.Perm (gW (cG vs.length))/\gC lt p vs.length/\arrOf gi=p.map (kas_item (pairsOf vs))/\failedOf gi=ab)
  (G:=λp s'=>s'={ s with heap:=nE s.heap a vs }/\p.Perm (gW (cG vs.length))/\gC lt p vs.length) h2 kz (λp' gi s' a1 a2 a3 ⟨b1,b2,b3⟩=>⟨b1,p',b2,b3,a2,a3⟩)
  (Rz O () (λi j C hi hj q=>by
   unfold kas_cmp;rw[kas_item_eq,kas_item_eq];exact hc i j C hi hj q) λp b1 b2=>⟨rfl,b1,b2⟩)
 rw[<-eS] at run;refine aF (lV run ?_ λ_ _ e=>e)
 rintro⟨⟨⟩,gi⟩ s' ⟨rfl,p,b1,b2,har,hf⟩;rw[12];have wg:(arrOf gi).map (·.2)=gW (p.toList.map λi=>vs.getD i eE):=by
  apply Kc.1;rw[har,Array.map_map,Array.toList_map];exact jG λi _=>congrArg Prod.snd (kas_item_eq vs i)
 have hps:p.size=vs.length:=by
  have:=b1.size_eq;simpa using this
 have hsz:(gW (p.toList.map λi=>vs.getD i eE)).size<=sizeLine:=by
  grind
 rw[wg];refine aF (seqEpoch_at zk rfl (aF (listUpdate_at zk rfl ?_ (dW _) (Nat.le_succ_of_le hsz))));rw[hf];simp only[bne_self_eq_false,gA,if_false];exact aN (h p b1 b2)
theorem Wf{κ:SortKind}{lt:Nat->Nat->Bool}(O:Ord lt)(hl:s.heap.IsList l vs.toArray)(h2:2<=vs.length)(kz:vs.length<64)
  (hk:∀ h',(∀ b o,s.heap.get? b=aa o->h'.get? b=aa o)->∀ (A':bS) (E':aD->aH->Prop) (R:SortKind->aH->Prop),R κ { s with heap:=h' }->aM (aP prog w) A' (keyKind' vs.toArray) R E' { s with heap:=h' })
  (hc:∀ h',(∀ b o,s.heap.get? b=aa o->h'.get? b=aa o)->∀ (A':bS),A'.units<=A.units+4->∀ i j (C:Bool->aH->Prop),i<vs.length->j<vs.length->C (lt i j) { s with heap:=h' }->aM (aP prog w) A' (keyLt' κ (vs.getD i eE) (vs.getD j eE)) C (λ_ _=>False) { s with heap:=h' })
  (h:∀ p:Array Nat,p.Perm (gW (cG vs.length))->gC lt p vs.length->Q (.ref (s.heap.objs.size+1)) { s with heap:=sortedAll s.heap vs (gW (p.toList.map λi=>vs.getD i eE)) }) :
  aM (aP prog w) A (call (.builtin "sorted") [.ref l]) Q E s:=by
 refine Jt kind_sorted plain_sorted entry_sorted (args_sorted1 _) ?_;unfold Builtin.«sorted»;refine aF (aN (aF (collect_list hl (aF (zU ?_)))));have z:((s.heap.push (fY "list" #[] 0)).update s.heap.objs.size (fG (· ++ vs.toArray))).objs.size=s.heap.objs.size+1:=by rw[Heap.size_update,size_push']
 have qd:(((s.heap.push (fY "list" #[] 0)).update s.heap.objs.size (fG (· ++ vs.toArray))).push (fY "list" vs.toArray 0)).get? (s.heap.objs.size+1)=aa (fY "list" vs.toArray 0):=z ▸ cL _ rfl;have kept:∀ b o,s.heap.get? b=aa o->(nE (((s.heap.push (fY "list" #[] 0)).update s.heap.objs.size (fG (· ++ vs.toArray))).push (fY "list" vs.toArray 0)) (s.heap.objs.size+1) vs).get? b=aa o:=λb o e=>by
  have hb:=bI e;refine Gf b o (λq=>?_) (bG _ (((xA _ s.heap.objs.size _).2 b (λq=>?_)).trans (bG _ e)))
  all_goals grind
 rw[z];refine aF (eP (fE slot_list_sort ⟨_,qd,rfl⟩ entry_list_sort (Fm O qd h2 kz (λR q=>hk _ kept _ _ R q) (λi j C hi hj q=>hc _ kept _ ?_ i j C hi hj q) λp b1 b2=>⟨_,rfl,?_⟩) (args_list_sort _)))
 .grind
 .exact aN ⟨_,rfl,h p b1 b2⟩
def gM:aA->List Int
 |.int i=>[0,i]
 |.str x=>1::x.cps.toList.map pC
 |_=>[2]
def cA (ks:List aA):List (List Int):=ks.map gM
theorem LC (a b:List (List Int))(h:a<b):¬ b<a:=List.lt_asymm h
theorem YQ (a b c:List (List Int))(h1:¬ b<a)(h2:¬ c<b):¬ c<a:=by
 have h1:=h1;have h2:=h2;exact List.le_trans h1 h2
theorem KJ {e:aA}(h1:(∃ i,d=.int i)\/∃ x,d=.str x)(h2:(∃ i,e=.int i)\/∃ x,e=.str x)(h:gM d=gM e):d=e:=by
 rcases h1 with⟨i,rfl⟩|⟨x,rfl⟩<;>rcases h2 with⟨j,rfl⟩|⟨y,rfl⟩
 .simp[gM] at h;rw[h]
 .simp[gM] at h
 .simp[gM] at h
 .have h':x.cps.toList.map pC=y.cps.toList.map pC:=by simpa [gM] using h
  have:=(List.map_inj_right (λa b q=>Int.ofNat.inj q)).1 h'
  have:x=y:=by
   cases x;cases y;simp only at this;rw[Kc.1 this]
  rw[this]
def QK (kss:List (List aA))(i j:Nat):Bool:=decide (cA (kss.getD i [])<cA (kss.getD j []))
theorem UH (kss:List (List aA)):Ord (QK kss):=by
 refine⟨λa b h=>?_,λa b c h1 h2=>?_⟩
 .have:=LC _ _ (of_decide_eq_true h);exact decide_eq_false this
 .exact decide_eq_false (YQ _ _ _ (of_decide_eq_false h1) (of_decide_eq_false h2))
theorem Abj.tupK{ks:List aA}(r:Abj K H (.tuple ks) v)(h1:bR ks=ae)(h2:cT ks<=6):∃ a,v=.ref a/\Arp H ks a:=by
 obtain⟨a,xs,e,s,r⟩:=Aaq.1 r;exact⟨a,e,h1,h2,xs,s,Aal.keys ks h1 r⟩
def iA:List aA->Option (List (List aA))
 |[]=>aa []
 |.tuple ks::r=>if bR ks=ae/\cT ks<=6 then(iA r).bind λkss=>aa (ks::kss) else ab
 |_::_=>ab
def mF (aj:List (List aA))(k:List aA):List (List aA):=if k∈aj then aj else aj++[k]
def gP (kss:List (List aA)):List (List aA):=kss.foldl mF []
theorem JS:∀ {ds:List aA} {kss:List (List aA)},iA ds=aa kss->ds=kss.map cW/\∀ ks∈kss,bR ks=ae/\cT ks<=6
 |[],kss,h=>by cases h;exact⟨rfl,λ_ m=>by simp at m⟩
 |.tuple ks::r,kss,h=>by
  by_cases c:bR ks=ae/\cT ks<=6
  .have h':((iA r).bind λkss=>aa (ks::kss))=aa kss:=by
    have:(if bR ks=ae/\cT ks<=6 then(iA r).bind λkss=>aa (ks::kss) else ab)=aa kss:=h
    grind
   obtain⟨k2,e1,e2⟩:=ak h';cases e2;obtain⟨q1,q2⟩:=JS e1
   grind
  .have:(if bR ks=ae/\cT ks<=6 then(iA r).bind λkss=>aa (ks::kss) else ab)=aa kss:=h
   grind
 |.none::_,_,h=>by cases h
 |.bool _::_,_,h=>by cases h
 |.int _::_,_,h=>by cases h
 |.str _::_,_,h=>by cases h
 |.list _::_,_,h=>by cases h
 |.dict _::_,_,h=>by cases h
open PySem PySem.Spec PySem.W PyProof.Rows
def eG:List aA->List aA->Bool
 |[],[]=>ae
 |.int _::r,.int _::r'=>eG r r'
 |.str _::r,.str _::r'=>eG r r'
 |_,_=>af
theorem xW (i j:Int)(r r':List aA):(cA (.int i::r)<cA (.int j::r'))↔i<j\/i=j/\cA r<cA r':=by
 show(gM (.int i)::cA r<gM (.int j)::cA r')↔_;rw[AQ];simp[gM,AQ]
theorem map_lt (xs ys:List Nat):(xs.map pC<ys.map pC)↔xs<ys:=by
 induction xs generalizing ys with
 |nil=>cases ys<;>simp
 |cons x r ih=>
  cases ys with
  |nil=>simp
  |cons y r'=>
   rw[dC,dC,AQ,AQ,ih];have h1:(pC x<pC y)↔x<y:=Int.ofNat_lt;have h2:(pC x=pC y)↔x=y:=⟨λe=>Int.ofNat.inj e,λe=>by rw[e]⟩
   rw[h1,h2]
theorem CB (x y:aE)(r r':List aA):(cA (.str x::r)<cA (.str y::r'))↔x.cps.toList<y.cps.toList\/x=y/\cA r<cA r':=by
 show(gM (.str x)::cA r<gM (.str y)::cA r')↔_;rw[AQ];have h1:(gM (.str x)<gM (.str y))↔x.cps.toList<y.cps.toList:=by
  show((1:Int)::x.cps.toList.map pC<(1:Int)::y.cps.toList.map pC)↔_;rw[AQ,map_lt];simp
 have h2:(gM (.str x)=gM (.str y))↔x=y:=⟨λe=>by
  have:=KJ (.inr ⟨x,rfl⟩) (.inr ⟨y,rfl⟩) e;injection this,λe=>by rw[e]⟩
 rw[h1,h2]
section
variable {Q:Bool->aH->Prop}
theorem BX:∀ (ks fw:List aA) {vs zm:List aD} {as pc:List aC} (i:Nat),eG ks fw=ae->lW s.heap vs ks as->lW s.heap zm fw pc->Q (decide (cA ks<cA fw)) s->KatLex prog w A b af Q (vs.zip zm) i s
 |[],[],vs,zm,as,pc,i,_,r,r',h=>by
  cases r;cases r';exact kat_nil h
 |.int x::ks,.int y::fw,vs,zm,as,pc,i,hs,r,r',h=>by
  cases r with
  |cons r1 r2=>
   cases r' with
   |cons uy xm=>
    cases r1 with
    |int _ t=>
     cases uy with
     |int _ u=>
      rw[OX];refine kat_cons ((dP prog w).eqBool (yV _ _ x t) (yV _ _ y u) ?_);refine kat_go (λe=>kat_yes ?_) λe=>kat_no ?_
      .have e':x=y:=by simpa using e
       subst e';refine BX ks fw (i+1) (by simpa [eG] using hs) r2 xm ?_
       have:decide (cA (.int x::ks)<cA (.int x::fw))=decide (cA ks<cA fw):=decide_eq_decide.2 (by rw[xW];simp)
       rw[<-this];exact h
      .have e':x≠y:=by simpa using e
       have:decide (cA (.int x::ks)<cA (.int y::fw))=decide (x<y):=decide_eq_decide.2 (by rw[xW];simp[e'])
       rw[this] at h;cases(b&&i==0) with
       |true=>exact oneLt_int h
       |false=>exact kat_one _ _ (lt_int h)
 |.str x::ks,.str y::fw,vs,zm,as,pc,i,hs,r,r',h=>by
  cases r with
  |cons r1 r2=>
   cases r' with
   |cons uy xm=>
    cases r1 with
    |str _ t=>
     cases uy with
     |str _ u=>
      rw[OX];refine kat_cons ((dP prog w).eqBool (zH _ _ x t) (zH _ _ y u) ?_);refine kat_go (λe=>kat_yes ?_) λe=>kat_no ?_
      .have e':x=y:=by simpa using e
       subst e';refine BX ks fw (i+1) (by simpa [eG] using hs) r2 xm ?_
       have:decide (cA (.str x::ks)<cA (.str x::fw))=decide (cA ks<cA fw):=decide_eq_decide.2 (by rw[CB];simp[Ja])
       rw[<-this];exact h
      .have e':x≠y:=by simpa using e
       have:decide (cA (.str x::ks)<cA (.str y::fw))=decide (x.cps.toList<y.cps.toList):=decide_eq_decide.2 (by rw[CB];simp[e'])
       rw[this] at h;cases(b&&i==0) with
       |true=>exact oneLt_str h
       |false=>exact kat_one _ _ (lt_str h)
end
def kG:List aA->Option String
 |.int _::_=>aa "int"
 |.str _::_=>aa "str"
 |_=>ab
theorem k4 {M:Model}{b:aC}(hd:Abn h k b)(hk:kG k=aa T) :
  ∃ o xs n f,h.get? b=aa o/\o.cls=.type "tuple" /\ o.data=.seq xs n/\xs[0]?=aa f/\Looks M h (typeOf f) (.type T):=by
 obtain⟨_,_,as,r⟩:=hd;obtain⟨a,o,xs,n,e,ho,hc,hd,hi⟩:=lT r;cases e
 match k,hk,hi with
 |.int i::r,hk,hi=>
  cases hk;generalize hx:xs.toList=l at hi;cases hi with
  |cons h1 _=>
   cases h1 with
   |int _ t=>exact⟨o,xs,n,.int i t,ho,hc,hd,by rw[<-pD,hx];rfl,Looks.of_pure rfl⟩
 |.str x::r,hk,hi=>
  cases hk;generalize hx:xs.toList=l at hi;cases hi with
  |cons h1 _=>
   cases h1 with
   |str _ t=>exact⟨o,xs,n,.str x t,ho,hc,hd,by rw[<-pD,hx];rfl,Looks.of_pure rfl⟩
abbrev Ae7 (h:aQ)(vs:List aD)(kss:List (List aA)):Prop:=cQ (λv k=>∃ b,v=eI b/\Abn h k b) vs kss
theorem LA {M:Model}{h:aQ}{T:String}:∀ {vs:List aD} {kss:List (List aA)},Ae7 h vs kss->(∀ k∈kss,kG k=aa T)->∃ fs,KatTups h vs fs/\fs.length=vs.length/\∀ f∈fs,Looks M h (typeOf f) (.type T)
 |_,_,.nil,_=>⟨[],KatTups.nil,rfl,λ_ m=>by simp at m⟩
 |_,_,.cons ⟨b,e,hd⟩ t,hk=>by
  obtain⟨fs,h1,h2,h3⟩:=LA (M:=M) t λk m=>hk k (bL _ m)
  obtain⟨o,xs,n,f,q1,q2,q3,q4,q5⟩:=k4 (M:=M) hd (hk _ bE);subst e;refine⟨f::fs,KatTups.cons q1 q2 q3 q4 h1,by rw[fM,fM,h2],λg m=>?_⟩
  rw[10]
  .exact q5
  .exact h3 g m
theorem Ae7.get:∀ {vs:List aD} {kss:List (List aA)},Ae7 h vs kss->∀ i,i<vs.length->∃ b,vs.getD i eE=.ref b/\Abn h (kss.getD i []) b/\kss.getD i []∈kss
 |_,_,.nil,i,hi=>absurd hi (by simp)
 |_,_,.cons ⟨b,e,hd⟩ t,0,_=>⟨b,e,hd,bE⟩
 |_,_,.cons _ t,i+1,hi=>by
  obtain⟨b,q1,q2,q3⟩:=Ae7.get t i (by simpa using hi)
  exact⟨b,by simpa using q1,by simpa using q2,by simpa using bL _ q3⟩
theorem Ae7.keep(k:∀ b o,h.get? b=aa o->h'.get? b=aa o):∀ {vs:List aD} {kss:List (List aA)},Ae7 h vs kss->Ae7 h' vs kss
 |_,_,.nil=>.nil
 |_,_,.cons ⟨b,e,hd⟩ t=>.cons ⟨b,e,hd.keep λb o _ _ q _ _=>k b o q⟩ (Ae7.keep k t)
theorem yP:∀ {k k':List aA},eG k k'=ae->k.length=k'.length
 |[],[],_=>rfl
 |.int _::r,.int _::r',h=>by rw[fM,fM,yP (by simpa [eG] using h)]
 |.str _::r,.str _::r',h=>by rw[fM,fM,yP (by simpa [eG] using h)]
theorem tV:∀ {vs:List aD} {ks:List aA} {as:List aC},lW h vs ks as->vs.length=ks.length
 |_,_,_,.nil=>rfl
 |_,_,_,.cons _ t=>by rw[fM,fM,tV t]
theorem Zl(hl:s.heap.IsList l vs.toArray)(ht:Ae7 s.heap vs kss)(hT:T = "int" \/ T = "str")(hk:∀ k∈kss,kG k=aa T)(hs:∀ k∈kss,∀ k'∈kss,eG k k'=ae)(h2:2<=vs.length)(kz:vs.length<64)
  (h:∀ p:Array Nat,p.Perm (gW (cG vs.length))->gC (QK kss) p vs.length->Q (.ref (s.heap.objs.size+1)) { s with heap:=sortedAll s.heap vs (gW (p.toList.map λi=>vs.getD i eE)) }) :
  aM (aP prog w) A (call (.builtin "sorted") [.ref l]) Q E s:=by
 refine Wf (κ:=tuples' (jV T != jV "tuple")) (UH kss) hl h2 kz (λh' kp A' E' R q=>?_) (λh' kp A' _ i j C hi hj q=>?_) h
 .obtain⟨fs,f1,f2,f3⟩:=LA (M:=aP prog w) (ht.keep kp) hk;exact kat_kind (s:={ s with heap:=h' }) f1 () f3 (by rcases hT with rfl|rfl<;>decide) q
 .have xn:=ht.keep kp;obtain⟨b,e1,⟨_,_,as,r1⟩,m1⟩:=xn.get i hi;obtain⟨b',e2,⟨_,_,pc,r2⟩,m2⟩:=xn.get j hj;rw[e1,e2];obtain⟨_,o,xs,n,z,ho,_,hd,hr⟩:=lT r1;cases z;obtain⟨_,o',gs,n',z,mi,_,ko,uz⟩:=lT r2;cases z;have wj:=hs _ m1 _ m2;have l1:=tV hr;have l2:=tV uz;have ll:=yP wj;have:decide (xs.size<gs.size)=af:=decide_eq_false (by simp only[kW] at l1 l2;lia)
  refine kat_lt (s:={ s with heap:=h' }) ho hd mi ko ?_;rw[this];exact BX _ _ 0 wj hr uz q
theorem YC{P:OP->aH->Prop}(ho:s.heap.get? a=aa (fY "list" vs.toArray n))(h2:vs.length<2)(h:P (.done (.ret .none)) { s with heap:=sortedHeap s.heap a vs vs.toArray }) :
  aM (aP prog w) A (Builtin.«list.sort» ⟨[.ref a],[]⟩) P E s:=by
 have lz:vs.length<=sizeLine:=by rw[nU];lia
 obtain⟨e1,zj⟩:∃ e,(s.heap.update a (fG λ_=>(#[]:Array aD))).get? a=aa (fY "list" #[] e):=⟨_,get?_update_seq ho λ_=>#[]⟩
 have zk:(nE s.heap a vs).get? a=aa (fY "list" #[] e1):=bG _ (bG _ zj);rw[list_sort_plain];refine aF (listItems_at ho rfl (aF (listUpdate_at ho rfl (aF (seqEpoch_at zj rfl (aF (FA (aF (zU (eP ?_) (dW _))) (by simpa using lz))))) (by rw[dX];exact lz) (dW _))))
 rw[12];have few:vs.toArray.size<2:=by rw[dX];exact h2
 rw[if_pos few,if_pos few];refine aF (aN ?_);rw[StateT.run_pure];refine aF (aN ?_);rw[12];have wg:(arrOf (SortSt.mk' general' (vs.toArray.zip vs.toArray) #[] 7 ab)).map (·.2)=vs.toArray:=by
  apply Kc.1;have:∀ l:List aD,List.map (λx=>x.snd) (l.zip l)=l:=λl=>by
   induction l with
   |nil=>rfl
   |cons a l ih=>rw[OX,dC,ih]
  simpa using this vs
 rw[wg];refine aF (seqEpoch_at zk rfl (aF (listUpdate_at zk rfl ?_ (dW _) (Nat.le_succ_of_le (by rw[dX];exact lz)))))
 simp only[bne_self_eq_false,gA,if_false];exact aN h
theorem Xo(hl:s.heap.IsList l vs.toArray)(h2:vs.length<2)(h:Q (.ref (s.heap.objs.size+1)) { s with heap:=sortedAll s.heap vs vs.toArray }) :
  aM (aP prog w) A (call (.builtin "sorted") [.ref l]) Q E s:=by
 refine Jt kind_sorted plain_sorted entry_sorted (args_sorted1 _) ?_;unfold Builtin.«sorted»;refine aF (aN (aF (collect_list hl (aF (zU ?_)))));have z:((s.heap.push (fY "list" #[] 0)).update s.heap.objs.size (fG (· ++ vs.toArray))).objs.size=s.heap.objs.size+1:=by rw[Heap.size_update,size_push']
 have qd:(((s.heap.push (fY "list" #[] 0)).update s.heap.objs.size (fG (· ++ vs.toArray))).push (fY "list" vs.toArray 0)).get? (s.heap.objs.size+1)=aa (fY "list" vs.toArray 0):=z ▸ cL _ rfl;rw[z];refine aF (eP (fE slot_list_sort ⟨_,qd,rfl⟩ entry_list_sort (YC qd h2 ⟨_,rfl,?_⟩) (args_list_sort _)));exact aN ⟨_,rfl,h⟩
theorem IG:∀ {a b:List aA},eG a b=ae->cA a=cA b->a=b
 |[],[],_,_=>rfl
 |.int i::r,.int j::r',h,e=>by
  have h':eG r r'=ae:=by simpa [eG] using h
  have e':gM (.int i)=gM (.int j)/\cA r=cA r':=by simpa [cA] using e
  rw[KJ (.inl ⟨i,rfl⟩) (.inl ⟨j,rfl⟩) e'.1,IG h' e'.2]
 |.str x::r,.str y::r',h,e=>by
  have h':eG r r'=ae:=by simpa [eG] using h
  have e':gM (.str x)=gM (.str y)/\cA r=cA r':=by simpa [cA] using e
  rw[KJ (.inr ⟨x,rfl⟩) (.inr ⟨y,rfl⟩) e'.1,IG h' e'.2]
def leT (a b:List aA):Bool:=!decide (cA b<cA a)
theorem Agd {a b:List aA}:leT a b=ae ↔ ¬ cA b<cA a:=by simp[leT]
theorem z6 (a b c:List aA)(h1:leT a b=ae)(h2:leT b c=ae):leT a c=ae:=Agd.2 (YQ _ _ _ (Agd.1 h1) (Agd.1 h2))
theorem Wc (a b:List aA):(leT a b||leT b a)=ae:=by
 by_cases h:cA b<cA a
 .have:=LC _ _ h;simp[leT,h,this]
 .simp[leT,h]
theorem m3 {a b:List aA}(hs:eG a b=ae)(h1:leT a b=ae)(h2:leT b a=ae):a=b:=by
 have h1:=Agd.1 h1;have h2:=Agd.1 h2;exact IG hs (List.le_antisymm h1 h2)
def gZ (kss:List (List aA)):List (List aA):=kss.mergeSort leT
def sameAll (kss:List (List aA)):Bool:=kss.all λk=>kss.all λk'=>eG k k'
def ib (kss:List (List aA)):Bool:=decide (kss.length<2)||(sameAll kss&&kss.all λk=>(kG k).isSome)
theorem tW (kss:List (List aA)):(gZ kss).Perm kss:=List.mergeSort_perm kss leT
theorem MN (kss:List (List aA)):(gZ kss).Pairwise λa b=>leT a b=ae:=List.pairwise_mergeSort z6 Wc kss
theorem yS(hs:ib kss=ae)(hp:qs.Perm kss)(hr:qs.Pairwise λa b=>leT a b=ae):qs=gZ kss:=by
 have fy:=hp.trans (tW kss).symm;by_cases h2:kss.length<2
 .have l1:qs.length<2:=by rw[hp.length_eq];exact h2
  match qs,l1,fy with
  |[],_,fy=>exact(List.nil_perm.1 fy).symm
  |[q],_,fy=>exact List.singleton_perm.1 fy
 .have yu:sameAll kss=ae:=by
   have:(sameAll kss&&kss.all λk=>(kG k).isSome)=ae:=by simpa [ib,h2] using hs
   exact(iK.1 this).1
  refine List.Perm.eq_of_pairwise (λa b ma mb h1 h2=>m3 ?_ h1 h2) hr (MN kss) fy
  have ma':=hp.mem_iff.1 ma;have mb':=(tW kss).mem_iff.1 mb;exact dQ.1 (dQ.1 yu a ma') b mb'
theorem same_kind:∀ {k k':List aA},eG k k'=ae->kG k=kG k'
 |[],[],_=>rfl
 |.int _::_,.int _::_,_=>rfl
 |.str _::_,.str _::_,_=>rfl
theorem Fw(h:kG k=aa T):T = "int" \/ T = "str":=by
 unfold kG at h;split at h
 .cases h;exact .inl rfl
 .cases h;exact .inr rfl
 .cases h
theorem Xp(hl:s.heap.IsList l vs.toArray)(ht:Ae7 s.heap vs kss)(ok:ib kss=ae)(kz:vs.length<64)
  (h:∀ p:List Nat,p.Perm (cG vs.length)->p.map (λi=>kss.getD i [])=gZ kss->Q (.ref (s.heap.objs.size+1)) { s with heap:=sortedAll s.heap vs (gW (p.map λi=>vs.getD i eE)) }) :
  aM (aP prog w) A (call (.builtin "sorted") [.ref l]) Q E s:=by
 have ln:=jX ht;have Tk:∀ {α:Type} (xs:List α) (d:α),(cG xs.length).map (λi=>xs.getD i d)=xs:=λxs d=>by
  apply FZ
  .simp
  .intro i h1 h2;simp at h1;simp[h1]
 by_cases h2:vs.length<2
 .refine Xo hl h2 ?_;have:=h (cG vs.length) (PL _) (by
   rw[ln,Tk kss];refine yS ok (PL _) ?_
   match kss,ln with
   |[],_=>exact .nil
   |[k],_=>simp
   | _::_::_,ln=>simp at ln;lia)
  rw[Tk vs] at this;exact this
 .have hs:sameAll kss=ae/\(kss.all λk=>(kG k).isSome)=ae:=by
   have xi:¬ kss.length<2:=()
   have:(sameAll kss&&kss.all λk=>(kG k).isSome)=ae:=by simpa [ib,xi] using ok
   exact iK.1 this
  obtain⟨k0,m0⟩:∃ k0,k0∈kss:=by
   cases hk:kss with
   |nil=>rw[hk] at ln;exact absurd ln (by simp;intro e;rw[e] at h2;simp at h2)
   |cons k r=>exact⟨k,bE⟩
  obtain⟨T,hT⟩:=wQ.1 (dQ.1 hs.2 k0 m0);have sm:∀ k∈kss,∀ k'∈kss,eG k k'=ae:=λk m k' m'=>dQ.1 (dQ.1 hs.1 k m) k' m'
  refine Zl hl ht (Fw hT) (λk m=>(same_kind (sm k m k0 m0)).trans hT) sm () kz λp hp ha=>?_
  have fy:p.toList.Perm (cG vs.length):=by simpa using K9.1 hp
  have pl:p.toList.length=vs.length:=by rw[fy.length_eq,FT]
  refine h p.toList fy (yS ok ?_ ?_)
  .have:=fy.map (λi=>kss.getD i [])
   rw[ln,Tk kss] at this;exact this
  .rw[AM,OY];intro i j hi hj ie;refine Agd.2 ?_;have:=ha i j (oX ie) ()
   have e1:at' p i=p.toList[i]:=by simp at hi;simp[at',hi]
   have e2:at' p j=p.toList[j]:=by simp at hj;simp[at',hj]
   rw[e1,e2] at this;exact of_decide_eq_false this
abbrev uS (H:Hp)(ys:List V)(kss:List (List aA)):Prop:=cQ (λy k=>∃ b,y=V.ref b/\Arp H k b) ys kss
theorem JU:∀ {kss:List (List aA)} {ys:List V},(∀ ks∈kss,bR ks=ae/\cT ks<=6)->Aal K H (kss.map cW) ys->uS H ys kss
 |[],ys,_,r=>by rw[Aaj.1 r];exact .nil
 |k::kss,ys,hk,r=>by
  obtain⟨v,t,rfl,r1,r2⟩:=Aaf.1 r;obtain⟨b,rfl,tk⟩:=r1.tupK (hk k bE).1 (hk k bE).2;exact .cons ⟨b,rfl,tk⟩ (JU (λx m=>hk x (bL _ m)) r2)
theorem VQ(x:∀ c zs,H c=aa (.tup zs)->H' c=aa (.tup zs)):∀ {ys:List V} {kss:List (List aA)},uS H ys kss->uS H' ys kss
 |_,_,.nil=>.nil
 |_,_,.cons ⟨b,e,tk⟩ t=>.cons ⟨b,e,tk.keep x⟩ (VQ x t)
theorem JF {P:bN}(ok:HOk P w H h):∀ {ys:List V} {kss:List (List aA)} {vs:List aD},uS H ys kss->Vals ys vs->Ae7 h vs kss
 |_,_,_,.nil,.nil=>.nil
 |_,_,_,.cons ⟨b,e,tk⟩ t,.cons r rr=>by
  subst e;cases r;exact .cons ⟨b,rfl,key_of ok tk⟩ (JF ok t rr)
def sX (p:List Nat)(ys:List V):List V:=p.map λi=>ys.getD i .non
theorem LI:∀ {ys:List V} {vs:List aD} (i:Nat),Vals ys vs->i<ys.length->RelV (ys.getD i .non) (vs.getD i eE)
 |_,_,0,.cons r _,_=>r
 |_,_,i+1,.cons _ t,h=>LI i t (by simpa using h)
theorem Ab(r:Vals ys vs):∀ p:List Nat,(∀ i∈p,i<ys.length)->Vals (sX p ys) (p.map λi=>vs.getD i eE)
 |[],_=>.nil
 |i::p,h=>.cons (LI i r (h i bE)) (Ab r p λj m=>h j (bL _ m))
theorem c6:Ac1 X (.builtin "sorted") (λxs H Q=>∃ p ys kss,xs=[.ref p]/\SqL X.K H p ys/\uS H ys kss/\ib kss=ae/\kss.length<64 /\
  ∀ l q,H l=ab->q.Perm (cG ys.length)->q.map (λi=>kss.getD i [])=gZ kss->Q (.ref l) (upd H l (.lst (sX q ys)))):=by
 rw[5];obtain⟨p,ys,kss,rfl,hp,rf,ok,hl,q⟩:=h;obtain⟨u,rfl,ru⟩:=vals1 r;cases ru;obtain⟨its,rv,pl,hz⟩:=I.list hp;have e1:=rv.length;have e2:=jX rf;refine Xp pl.isList (JF I.hok rf rv) ok () λq' fy hs=>?_
 have hq:∀ i∈q',i<ys.length:=λi m=>by
  have:=iI.1 (fy.mem_iff.1 m)
  lia
 obtain⟨e,he⟩:=sortedAll_at s.heap its (gW (q'.map λi=>its.getD i eE))
 have hn:=I.hok.fresh (uE _);have lz:(sX q' ys).length<=sizeLine:=by
  unfold sX;rw[cC,fy.length_eq,FT]
  lia
 exact⟨.ref (s.heap.objs.size+1),_,I.laid (t':=s.toks) (o:=.lst (sX q' ys)) (λb ob g=>sortedAll_old g) (uE _) ⟨lz,_,e,Ab rv q' hq,he⟩,rfl,q _ q' hn (by rw[e1];exact fy) hs⟩
def xS:List aA->Option aA
 |[.list ds]=>(iA ds).bind λkss=>if ib kss=ae/\kss.length<64 then aa (.list ((gZ kss).map cW)) else ab
 |_=>ab
theorem YH:∀ {kss:List (List aA)} {ys:List V} (i:Nat),Aal K H (kss.map cW) ys->i<ys.length->Abj K H (.tuple (kss.getD i [])) (ys.getD i .non)
 |[],ys,i,r,h=>by rw[Aaj.1 r] at h;simp at h
 |k::kss,ys,0,r,h=>by
  obtain⟨v,t,rfl,r1,r2⟩:=Aaf.1 r;exact r1
 |k::kss,ys,i+1,r,h=>by
  obtain⟨v,t,rfl,r1,r2⟩:=Aaf.1 r;exact YH i r2 (by simpa using h)
theorem YN(r:Aal K H (kss.map cW) ys):∀ p:List Nat,(∀ i∈p,i<ys.length)->Aal K H ((p.map λi=>kss.getD i []).map cW) (sX p ys)
 |[],_=>Aaj.2 rfl
 |i::p,h=>Aaf.2 ⟨_,_,rfl,YH i r (h i bE),YN r p λj m=>h j (bL _ m)⟩
theorem Yl:CallD K 1 (λxs H Q=>∃ p ys kss,xs=[.ref p]/\SqL K H p ys/\uS H ys kss/\ib kss=ae/\kss.length<64 /\
  ∀ l q,H l=ab->q.Perm (cG ys.length)->q.map (λi=>kss.getD i [])=gZ kss->Q (.ref l) (upd H l (.lst (sX q ys)))) xS:=λP H xs ds d Q hP r e k=>by
 unfold xS at e;split at e
 .obtain⟨kss,e1,e2⟩:=ak e;obtain⟨⟨ok,hl⟩,rfl⟩:=cM e2;obtain⟨rfl,hk⟩:=JS e1;rw[9];obtain⟨q,ys,rfl,hq,rr⟩:=Aa7.1 r';refine⟨q,ys,kss,rfl,Aam.sqL hq,?_,ok,hl,λl p hn hp hs=>?_⟩
  .exact VQ (λc zs g=>Aam _ _ g) (JU hk rr)
  .have hi:∀ i∈p,i<ys.length:=λi m=>iI.1 (hp.mem_iff.1 m)
   have:=YN rr p hi;rw[hs] at this;exact k.lst hP hn this
 .cases e
theorem RO:∀ {ns:List Int} {vs:List aD},Vals (ns.map V.int) vs->IntsAre vs ns
 |[],_,.nil=>.nil
 |n::ns,_,.cons ⟨t,e⟩ r=>by
  subst e;exact .cons n t (RO r)
def BK:List aA->Option (List Int)
 |[]=>aa []
 |.int i::r=>(BK r).bind λis=>aa (i::is)
 |_::_=>ab
theorem Ez:∀ {ds:List aA} {is:List Int},BK ds=aa is->ds=is.map aY
 |[],is,e=>by cases e;rfl
 |.int i::ds,is,e=>by
  obtain⟨is',e1,e2⟩:=ak (show((BK ds).bind λis=>aa (i::is))=aa is from e)
  cases e2;rw[Ez e1]
  rfl
 |.none::_,_,e=>by cases e
 |.bool _::_,_,e=>by cases e
 |.str _::_,_,e=>by cases e
 |.list _::_,_,e=>by cases e
 |.tuple _::_,_,e=>by cases e
 |.dict _::_,_,e=>by cases e
theorem Cw:∀ {is:List Int} {ys:List V},Aal K H (is.map aY) ys->ys=is.map V.int
 |[],ys,r=>Aaj.1 r
 |i::is,ys,r=>by
  obtain⟨v,t,rfl,r1,r2⟩:=Aaf.1 r;rw[Aak.1 r1,Cw r2]
  rfl
def sNo:SF:=λ_=>ab
theorem Mh{s:eW}:DS X H0 P0 n0 s sNo:=λac st Z H D I q=>by
 obtain⟨B0,Y,fp,o,S,ef,k⟩:=q;cases ef
open PySem PySem.SetTable
def mE (xs:Array Nat):Prop:=∀ a b u v:Nat,a<b->xs[a]?=aa u->xs[b]?=aa v->u<v
theorem KG {xs:Array Nat}(hr:mE xs):∀ fuel lo hi,hi<=xs.size->lo<=hi->hi-lo<=fuel->(∀ k<lo,∀ v,xs[k]?=aa v->v<j)->(∀ k,hi<=k->∀ v,xs[k]?=aa v->j<=v) ->
  below.go xs j fuel lo hi<=xs.size/\(∀ k<below.go xs j fuel lo hi,∀ v,xs[k]?=aa v->v<j)/\∀ k,below.go xs j fuel lo hi<=k->∀ v,xs[k]?=aa v->j<=v
 |0,lo,hi,h1,h2,h3,hl,hh=>by
  have:lo=hi:=()
  rw[13];unfold below.go;exact⟨h1,hl,hh⟩
 |fuel+1,lo,hi,h1,h2,h3,hl,hh=>by
  unfold below.go;by_cases c:lo<hi
  .rw[if_pos c];have hm:(lo+hi)/2<xs.size:=()
   have em:=mW hm;have eg:xs.getD ((lo+hi)/2) j=xs[(lo+hi)/2]:=by simp[Array.getD,hm]
   simp only[eg];by_cases d:xs[(lo+hi)/2]<j
   .rw[if_pos d];refine KG hr fuel _ _ h1 () () (λk hk v ev=>?_) hh
    by_cases q:k=(lo+hi)/2
    .subst q;rw[em] at ev;cases ev;exact d
    .have:=hr k ((lo+hi)/2) v _ () ev em
     lia
   .rw[if_neg d];refine KG hr fuel _ _ () () () hl (λk hk v ev=>?_)
    by_cases q:k=(lo+hi)/2
    .subst q;rw[em] at ev;cases ev;lia
    .have:=hr ((lo+hi)/2) k _ v () em ev
     lia
  all_goals grind
theorem EA {xs:Array Nat}(hr:mE xs)(j:Nat):below xs j<=xs.size/\(∀ k<below xs j,∀ v,xs[k]?=aa v->v<j)/\∀ k,below xs j<=k->∀ v,xs[k]?=aa v->j<=v:=
 KG hr xs.size 0 xs.size (bB _) (dW _) () (λk hk=>absurd hk ()) (λk hk v ev=>by
  have:=(uN.1 ev).1
  lia)
theorem below_at {xs:Array Nat}(hr:mE xs)(h:xs[i]?=aa j):below xs j=i:=by
 obtain⟨h1,h2,h3⟩:=EA hr j;rcases wU (below xs j) i with q|q|q
 .have hi:=(uN.1 h).1;have e:xs[below xs j]?=aa (xs[below xs j]'()):=mW ()
  have a:=h3 _ (bB _) _ e;have b:=hr _ _ _ _ q e h
  lia
 all_goals grind
theorem JA (j:Nat):has #[] j=af:=by simp[has]
theorem DR(hd:t.dummies = #[])(hr:mE t.place):t.slot j=.live i↔t.place[i]?=aa j:=by
 unfold slot;rw[hd,JA];rw[12];constructor
 .grind
 .intro h;rw[below_at hr h,h];simp
theorem Xt(hd:t.dummies = #[])(hr:mE t.place)(h:∀ i:Nat,t.place[i]?≠aa j):t.slot j=.empty:=by
 unfold slot;rw[hd,JA]
 grind
def jy (mask:Nat)(p:Probe):Probe:=if p.more > 0 then { p with j:=p.j+1,more:=p.more-1 } else
 { p with j:=(leap mask p.i p.perturb).1,more:=runEnd mask (leap mask p.i p.perturb).1-(leap mask p.i p.perturb).1,i:=(leap mask p.i p.perturb).1,perturb:=(leap mask p.i p.perturb).2 }
theorem LZ (t:eJ)(p:Probe):t.advance p=jy t.mask p:=by
 unfold advance jy
 rfl
def pN (mask:Nat)(p:Probe):Nat->Probe
 |0=>p
 |n+1=>jy mask (pN mask p n)
theorem MX (mask:Nat)(p:Probe)(a:Nat):∀ b,pN mask (pN mask p a) b=pN mask p (a+b)
 |0=>rfl
 |b+1=>by
  show jy mask (pN mask (pN mask p a) b)=jy mask (pN mask p (a+b));rw[MX mask p a b]
def lj (mask i bj:Nat):Probe:={ j:=i,more:=runEnd mask i-i,i,perturb:=bj,dummy:=ab }
theorem Mx (mask i:Nat):runEnd mask i-i<=9:=by
 unfold runEnd;split<;>lia
theorem HY (mask i bj:Nat):∀ k,k<=runEnd mask i-i->pN mask (lj mask i bj) k={ j:=i+k,more:=runEnd mask i-i-k,i,perturb:=bj,dummy:=ab }
 |0,_=>rfl
 |k+1,h=>by
  show jy mask (pN mask (lj mask i bj) k)=_;rw[HY mask i bj k ()]
  unfold jy
  grind
theorem WJ (mask i bj:Nat):pN mask (lj mask i bj) (runEnd mask i-i+1)=lj mask (leap mask i bj).1 (leap mask i bj).2:=by
 show jy mask (pN mask (lj mask i bj) (runEnd mask i-i))=_;rw[HY mask i bj _ (bB _)];unfold jy;rw[if_neg (by show ¬ (runEnd mask i-i-(runEnd mask i-i) > 0);lia)]
 rfl
def lp (mask:Nat)(s:Nat×Nat):Nat->Nat×Nat
 |0=>s
 |m+1=>leap mask (lp mask s m).1 (lp mask s m).2
theorem WW (mask i bj:Nat):∀ m,∃ n,n<=10*m/\pN mask (lj mask i bj) n=lj mask (lp mask (i,bj) m).1 (lp mask (i,bj) m).2
 |0=>⟨0,(),rfl⟩
 |m+1=>by
  obtain⟨n,hn,e⟩:=WW mask i bj m;have b:=Mx mask (lp mask (i,bj) m).1;refine⟨n+(runEnd mask (lp mask (i,bj) m).1-(lp mask (i,bj) m).1+1),(),?_⟩
  rw[<-MX,e,WJ]
  rfl
theorem SO (mask i bj:Nat):∀ m,(lp mask (i,bj) m).2=bj/32^m
 |0=>by simp[lp]
 |m+1=>by
  show(lp mask (i,bj) m).2/32=_;rw[SO mask i bj m,Nat.div_div_eq_div_mul,wR]
def xh (mask:Nat)(i:Nat):Nat->Nat
 |0=>i
 |m+1=>(xh mask i m*5+1)%(mask+1)
def oK (mask:Nat):Prop:=mask=7\/mask=31\/mask=127\/mask=511\/mask=2047\/mask=8191
def gN (x:Nat):Nat->Nat
 |0=>x
 |m+1=>gN x m*5+1
theorem UT (x a:Nat):∀ b,gN (gN x a) b=gN x (a+b)
 |0=>rfl
 |b+1=>by
  show gN (gN x a) b*5+1=gN x (a+b)*5+1;rw[UT x a b]
theorem UV (x:Nat):∀ m,4*gN x m+1=5^m*(4*x+1)
 |0=>by simp[gN]
 |m+1=>by
  show 4*(gN x m*5+1)+1=5^(m+1)*(4*x+1);have:=UV x m
  grind
theorem VV:∀ k,∃ q,5^2^k=1+2^k*(4*(2*q+1))
 |0=>⟨0,rfl⟩
 |k+1=>by
  obtain⟨q,e⟩:=VV k;refine⟨q+2^k*((2*q+1)*(2*q+1)),?_⟩;rw[wR 2 k,Nat.mul_comm (2^k) 2,Nat.two_mul,Nat.pow_add,e]
  grind
theorem Sm (x k:Nat):∃ q,gN x (2^k)=x+2^k*(2*q+1):=by
 obtain⟨q,e⟩:=VV k;have h:=UV x (2^k);rw[e] at h;refine⟨q*(4*x+1)+2*x,?_⟩
 grind
theorem TM:∀ (k x e:Nat),∃ m,m<2^k/\gN x m%2^k=e%2^k
 |0,x,e=>⟨0,by simp,by simp[Nat.mod_one]⟩
 |k+1,x,e=>by
  obtain⟨m,hm,h⟩:=TM k x e;have hM:=Nat.two_pow_pos k;have sp:∀ y:Nat,y%2^(k+1)=y%2^k+2^k*(y/2^k%2):=λy=>by rw[wR,Nat.mod_mul]
  have hp:2^(k+1)=2^k+2^k:=by rw[wR];lia
  by_cases c:gN x m/2^k%2=e/2^k%2
  .grind
  .obtain⟨q,hq⟩:=Sm (gN x m) k;refine⟨m+2^k,(),?_⟩
   rw[<-UT,hq,sp,sp,Nat.add_mul_mod_self_left,Nat.add_mul_div_left _ _ hM,h]
   congr 2
   lia
theorem SY (mask i:Nat)(hi:i<=mask):∀ m,xh mask i m=gN i m%(mask+1)
 |0=>by
  show i=i%(mask+1);exact(Nat.mod_eq_of_lt ()).symm
 |m+1=>by
  show(xh mask i m*5+1)%(mask+1)=(gN i m*5+1)%(mask+1);rw[SY mask i hi m];simp[Nat.add_mod,Nat.mul_mod]
theorem vQ {k:Nat}(hk:mask+1=2^k){e:Nat}(hi:i<=mask)(he:e<=mask):∃ m,m<=mask/\xh mask i m=e:=by
 obtain⟨m,h1,h2⟩:=TM k i e;refine⟨m,(),?_⟩
 rw[SY mask i hi,hk,h2,<-hk];exact Nat.mod_eq_of_lt ()
theorem Uy(hm:oK mask){e:Nat}(hi:i<=mask)(he:e<=mask):∃ m,m<=mask/\xh mask i m=e:=by
 rcases hm with rfl|rfl|rfl|rfl|rfl|rfl
 .exact vQ (k:=3) rfl hi he
 .exact vQ (k:=5) rfl hi he
 .exact vQ (k:=7) rfl hi he
 .exact vQ (k:=9) rfl hi he
 .exact vQ (k:=11) rfl hi he
 .exact vQ (k:=13) rfl hi he
theorem Gg (h:Int):bits h<2^64:=by
 unfold bits
 grind
theorem TN(hp:bj<2^64):∀ m,(lp mask (i,bj) (13+m)).1=xh mask (lp mask (i,bj) 13).1 m
 |0=>rfl
 |m+1=>by
  show((lp mask (i,bj) (13+m)).1*5+1+(lp mask (i,bj) (13+m)).2/32)%(mask+1)=(xh mask (lp mask (i,bj) 13).1 m*5+1)%(mask+1);rw[TN hp m,SO];have:bj/32^(13+m)=0:=by
   apply Nat.div_eq_of_lt
   grind
  rw[this]
theorem Ni:∀ m,0<m->(lp mask (i,bj) m).1<=mask
 |0,h=>absurd h ()
 |m+1,_=>by
  show((lp mask (i,bj) m).1*5+1+(lp mask (i,bj) m).2/32)%(mask+1)<=mask;have:=AH ((lp mask (i,bj) m).1*5+1+(lp mask (i,bj) m).2/32) (show 0<mask+1 by lia)
  lia
theorem YA(hm:oK mask){e:Nat}(hp:bj<2^64)(he:e<=mask):∃ m,m<=13+mask/\(lp mask (i,bj) m).1=e:=by
 obtain⟨m,h1,h2⟩:=Uy hm (Ni 13 ()) he
 exact⟨13+m,(),by rw[TN hp];exact h2⟩
def rd (mask:Nat)(h:Int)(n:Nat):Probe:=pN mask (lj mask (bits h%(mask+1)) (bits h)) n
theorem VR(hm:oK mask)(h:Int){e:Nat}(he:e<=mask):∃ n,n<10*turns mask/\(rd mask h n).j=e:=by
 obtain⟨m,h1,h2⟩:=YA hm (Gg h) he;obtain⟨n,h3,h4⟩:=WW mask (bits h%(mask+1)) (bits h) m;refine⟨n,by unfold turns;lia,?_⟩
 unfold rd;rw[h4];exact h2
theorem B6 (mask:Nat)(p:Probe):(jy mask p).dummy=p.dummy:=by
 unfold jy;split<;>rfl
theorem VM (mask:Nat)(h:Int):∀ n,(rd mask h n).dummy=ab
 |0=>rfl
 |n+1=>by
  show(jy mask (rd mask h n)).dummy=ab;rw[B6];exact VM mask h n
def iM (t:eJ)(j:Nat):Prop:=∃ i:Nat,t.place[i]?=aa j
structure Good (t:eJ)(es:Array (Int×aD)):Prop where
 small:oK t.mask
 nod:t.dummies = #[]
 ris:mE t.place
 len:t.place.size=es.size
 inb:∀ i j:Nat,t.place[i]?=aa j->j<=t.mask
 room:es.size<=t.mask
 reach:∀ (i j:Nat) (e:Int×aD),t.place[i]?=aa j->es[i]?=aa e->∃ n,(rd t.mask e.1 n).j=j/\∀ m<n,iM t (rd t.mask e.1 m).j
theorem rank {xs:Array Nat}(hr:mE xs):∀ e,(∀ v≤e,∃ i:Nat,xs[i]?=aa v)->∃ i:Nat,xs[i]?=aa e/\e<=i
 |0,h=>by
  grind
 |e+1,h=>by
  obtain⟨i,q,hi⟩:=rank hr e λv hv=>h v ()
  obtain⟨k,qk⟩:=h (e+1) (bB _);refine⟨k,qk,?_⟩;rcases wU i k with c|c|c
  .lia
  .subst c;rw[q] at qk;simp at qk
  .have:=hr k i _ _ c qk q
   lia
theorem Good.empty(G:Good t es):∃ e,e<=t.mask/\¬ iM t e:=by
 apply GF;intro hn;have ca:∀ v≤t.mask,∃ i:Nat,t.place[i]?=aa v:=λv hv=>GF λq=>hn ⟨v,hv,q⟩
 obtain⟨i,q,hi⟩:=rank G.ris t.mask ca;have h1:=(uN.1 q).1;have h2:=G.len;have h3:=G.room
 lia
theorem VP(h:¬ iM t j):∀ i:Nat,t.place[i]?≠aa j:=λi e=>h ⟨i,e⟩
section
variable {hashAt:Nat->Int}{h:Int}
theorem XS (hd:t.dummies = #[])(hr:mE t.place):∀ k n fuel,k<fuel->(∀ m,n<=m->m<n+k->∃ i:Nat,t.place[i]?=aa (rd t.mask h m).j/\hashAt i≠h)->¬ iM t (rd t.mask h (n+k)).j ->
  probe.go t hashAt h fuel (rd t.mask h n)=aa (.empty (rd t.mask h (n+k)).j ab)
 |_,_,0,hf,_,_=>absurd hf ()
 |0,n,fuel+1,_,_,he=>by
  rw[Nat.add_zero] at he ⊢;unfold probe.go;rw[Xt hd hr (VP he),VM]
  rfl
 |k+1,n,fuel+1,hf,hm,he=>by
  obtain⟨i,e,dg⟩:=hm n (bB _) ()
  unfold probe.go;rw[(DR hd hr).2 e];rw[12];rw[if_neg (by simpa using dg),LZ]
  have:=XS hd hr k (n+1) fuel () (λm a b=>hm m () ()) (by rw[show n+1+k=n+(k+1) by lia];exact he)
  rw[show n+1+k=n+(k+1) by lia] at this
  exact this
theorem Ep (hd:t.dummies = #[])(hr:mE t.place){i0:Nat}(h0:hashAt i0=h):∀ k n fuel,k<fuel->(∀ m,n<=m->m<n+k->∃ i:Nat,t.place[i]?=aa (rd t.mask h m).j/\hashAt i≠h)->t.place[i0]?=aa (rd t.mask h (n+k)).j ->
  probe.go t hashAt h fuel (rd t.mask h n)=aa (.candidate (rd t.mask h (n+k)).j i0 (rd t.mask h (n+k+1)))
 |_,_,0,hf,_,_=>absurd hf ()
 |0,n,fuel+1,_,_,he=>by
  rw[Nat.add_zero] at he ⊢;unfold probe.go;rw[(DR hd hr).2 he];rw[12];rw[if_pos (by simpa using h0),LZ]
  rfl
 |k+1,n,fuel+1,hf,hm,he=>by
  obtain⟨i,e,dg⟩:=hm n (bB _) ()
  unfold probe.go;rw[(DR hd hr).2 e];rw[12];rw[if_neg (by simpa using dg),LZ]
  have:=Ep hd hr h0 k (n+1) fuel () (λm a b=>hm m () ()) (by rw[show n+1+k=n+(k+1) by lia];exact he)
  rw[show n+1+k=n+(k+1) by lia] at this
  exact this
theorem Bh (S:Nat->Prop):∀ d n,S (n+d)->∃ k,k<=d/\(∀ m,n<=m->m<n+k->¬ S m)/\S (n+k)
 |0,n,h=>⟨0,bB _,λm a b=>absurd b (),h⟩
 |d+1,n,h=>by
  by_cases c:S n
  .exact⟨0,dW _,λm a b=>absurd b (),c⟩
  .obtain⟨k,h1,h2,h3⟩:=Bh S d (n+1) (by rw[show n+1+d=n+(d+1) by lia];exact h)
   refine⟨k+1,(),λm a b=>?_,by rw[show n+(k+1)=n+1+k by lia];exact h3⟩
   grind
theorem Good.next(G:Good t es)(h:Int)(hv:∀ m<n,iM t (rd t.mask h m).j):∃ k,n+k<10*turns t.mask/\(∀ m,n<=m->m<n+k->∃ i:Nat,t.place[i]?=aa (rd t.mask h m).j/\hashAt i≠h) /\
  ((¬ iM t (rd t.mask h (n+k)).j/\t.probe hashAt h (rd t.mask h n)=aa (.empty (rd t.mask h (n+k)).j ab)) \/
   ∃ i:Nat,t.place[i]?=aa (rd t.mask h (n+k)).j/\hashAt i=h/\t.probe hashAt h (rd t.mask h n)=aa (.candidate (rd t.mask h (n+k)).j i (rd t.mask h (n+k+1)))):=by
 obtain⟨e,he,dg⟩:=G.empty;obtain⟨N,hN,eN⟩:=VR G.small h he;have X7:n<=N:=by
  grind
 obtain⟨d,rfl⟩:=Nat.exists_eq_add_of_le X7;obtain⟨k,hk,h1,h2⟩:=Bh (λm=>¬ iM t (rd t.mask h m).j\/∃ i:Nat,t.place[i]?=aa (rd t.mask h m).j/\hashAt i=h) d n (.inl (by rw[eN];exact dg))
 have hm:∀ m,n<=m->m<n+k->∃ i:Nat,t.place[i]?=aa (rd t.mask h m).j/\hashAt i≠h:=λm a b=>by
  have q:=h1 m a b;obtain⟨i,ei⟩:=GF λz=>q (.inl z)
  grind
 refine⟨k,(),hm,?_⟩
 rcases h2 with h2|⟨i,ei,hi⟩
 .exact .inl ⟨h2,XS G.nod G.ris k n _ () hm h2⟩
 .exact .inr ⟨i,ei,hi,Ep G.nod G.ris hi k n _ () hm ei⟩
end
theorem SD (mask:Nat)(h:Int):∀ n,(rd mask h n).j+(rd mask h n).more<=mask
 |0=>by
  show bits h%(mask+1)+(runEnd mask (bits h%(mask+1))-bits h%(mask+1))<=mask;have:=AH (bits h) (show 0<mask+1 by lia)
  unfold runEnd;split<;>lia
 |n+1=>by
  have ih:=SD mask h n;show(jy mask (rd mask h n)).j+(jy mask (rd mask h n)).more<=mask;unfold jy;split
  .grind
  .show(leap mask (rd mask h n).i (rd mask h n).perturb).1+(runEnd mask (leap mask (rd mask h n).i (rd mask h n).perturb).1-(leap mask (rd mask h n).i (rd mask h n).perturb).1)<=mask;have:(leap mask (rd mask h n).i (rd mask h n).perturb).1<mask+1:=AH _ ()
   unfold runEnd;split<;>lia
theorem Mg (mask:Nat)(h:Int)(n:Nat):(rd mask h n).j<=mask:=by
 have:=SD mask h n
 lia
theorem vW {α:Type}(xs:Array α){p:Nat}(hp:p<=xs.size)(x:α)(k:Nat):(insertAt xs p x)[k]?=if k<p then xs[k]? else if k=p then aa x else xs[k-1]?:=by
 rw[<-pD,toList_insertAt]
 grind
theorem Rf {xs:Array Nat}(hr:mE xs)(hj:∀ i:Nat,xs[i]?≠aa j):mE (insertAt xs (below xs j) j):=by
 obtain⟨h1,h2,h3⟩:=EA hr j;intro a b u v ji ea eb;rw[vW xs h1] at ea eb;have lt_of:∀ k w,below xs j<=k->xs[k]?=aa w->j<w:=λk w hk e=>by
  grind
 split at ea
 .split at eb
  .exact hr a b u v ji ea eb
  all_goals grind
 .split at ea
  .grind
  .rw[if_neg (),if_neg ()] at eb
   exact hr (a-1) (b-1) u v () ea eb
theorem DC {α:Type}(xs:Array α)(p:Nat)(x:α):(insertAt xs p x).size=xs.size+1:=by
 rw[<-kW,(insertAt_perm xs p x).length_eq,kW,Array.size_push]
theorem Mq(hd:t.dummies = #[])(j:Nat):t.put j=({ t with place:=insertAt t.place (below t.place j) j },below t.place j):=by
 unfold put;rw[hd,JA]
 grind
theorem Good.put(G:Good t es){h:Int}{x:aD}(hv:∀ m<n,iM t (rd t.mask h m).j)(hn:¬ iM t (rd t.mask h n).j)  (ld:es.size<t.mask)(pl:Bool) :
  Good { t with place:=insertAt t.place (below t.place (rd t.mask h n).j) (rd t.mask h n).j,plain:=pl } (insertAt es (below t.place (rd t.mask h n).j) (h,x)):=by
 have hb:=(EA G.ris (rd t.mask h n).j).1;have P1:below t.place (rd t.mask h n).j<=es.size:=by rw[<-G.len];exact hb
 have mono:∀ j,iM t j->∃ i:Nat,(insertAt t.place (below t.place (rd t.mask h n).j) (rd t.mask h n).j)[i]?=aa j:=λj gh=>by
  obtain⟨i,e⟩:=gh;by_cases c:i<below t.place (rd t.mask h n).j
  .exact⟨i,by rw[vW _ hb,if_pos c];exact e⟩
  .exact⟨i+1,by rw[vW _ hb,if_neg (),if_neg ()];exact e⟩
 refine⟨G.small,G.nod,Rf G.ris (VP hn),?_,λi j e=>?_,?_,λi j e ei ee=>?_⟩
 .rw[DC,DC,G.len]
 .have e':=e;rw[vW _ hb] at e';split at e'
  .exact G.inb i j e'
  .split at e'
   .cases e';exact Mg _ _ _
   .exact G.inb _ j e'
 .rw[DC];exact ld
 .have jv:=ei;rw[vW _ hb] at jv;rw[vW _ P1] at ee;by_cases c:i<below t.place (rd t.mask h n).j
  .rw[if_pos c] at jv ee;obtain⟨m,h1,h2⟩:=G.reach i j e jv ee;exact⟨m,h1,λq hq=>mono _ (h2 q hq)⟩
  .rw[if_neg c] at jv ee;by_cases d:i=below t.place (rd t.mask h n).j
   .rw[if_pos d] at jv ee;cases jv;cases ee;exact⟨n,rfl,λq hq=>mono _ (hv q hq)⟩
   .rw[if_neg d] at jv ee;obtain⟨m,h1,h2⟩:=G.reach _ j e jv ee;exact⟨m,h1,λq hq=>mono _ (h2 q hq)⟩
structure Own (mask:Nat)(hs:List Int)(ow:Array (Option Nat)):Prop where
 size:ow.size=mask+1
 lt:∀ j i:Nat,ow[j]?=aa (aa i)->i<hs.length
 inj:∀ j j' i:Nat,ow[j]?=aa (aa i)->ow[j']?=aa (aa i)->j=j'
 all:∀ i<hs.length,∃ j:Nat,ow[j]?=aa (aa i)
 reach:∀ (j i:Nat) (h:Int),ow[j]?=aa (aa i)->hs[i]?=aa h->∃ n,(rd mask h n).j=j/\∀ m<n,∃ i':Nat,ow[(rd mask h m).j]?=aa (aa i')
theorem yH(hj:j<ow.size):ow[j]?=aa ab\/∃ i,ow[j]?=aa (aa i):=by
 rw[mW hj];cases ow[j] with
 |none=>exact .inl rfl
 |some i=>exact .inr ⟨i,rfl⟩
theorem Own.free{hs:List Int}(O:Own mask hs ow)(hl:hs.length<=mask):∃ e,e<=mask/\ow[e]?=aa ab:=by
 apply GF;intro hn;have ca:∀ j≤mask,∃ i:Nat,ow[j]?=aa (aa i):=λj hj=>by
  rcases yH (j:=j) (by rw[O.size];lia) with c|c
  .exact absurd ⟨j,hj,c⟩ hn
  .exact c
 have ig:((cG (mask+1)).map λj=>((ow[j]?).join).getD 0).Nodup:=by
  unfold List.Nodup;rw[AM];refine Jm ?_ List.pairwise_lt_range;intro a b ha hb ji e;obtain⟨i,ei⟩:=ca a (by have:=iI.1 ha;lia)
  obtain⟨i',jv⟩:=ca b (by have:=iI.1 hb;lia)
  rw[ei,jv] at e;have:i=i':=by simpa using e
  rw[13];have:=O.inj a b i ei jv
  lia
 have:=PM ig (λv m=>by
  obtain⟨j,hj,rfl⟩:=bO.1 m;obtain⟨i,ei⟩:=ca j (by have:=iI.1 hj;lia)
  rw[ei];exact iI.2 (O.lt j i ei))
 simp at this
 lia
theorem WZ (mask i bj:Nat):∀ m,lp mask (i,bj) (m+1)=lp mask (leap mask i bj) m
 |0=>rfl
 |m+1=>by
  show leap mask (lp mask (i,bj) (m+1)).1 (lp mask (i,bj) (m+1)).2=_;rw[WZ mask i bj m]
  rfl
theorem ZP(hz:ow.size=mask+1):∀ (fuel i bj m:Nat),i<=mask->m<fuel->ow[(lp mask (i,bj) m).1]?=aa ab ->
  ∃ n,layClean.free mask ow fuel i bj=aa (pN mask (lj mask i bj) n).j/\ow[(pN mask (lj mask i bj) n).j]?=aa ab/\∀ q<n,∃ i':Nat,ow[(pN mask (lj mask i bj) q).j]?=aa (aa i')
 |0,_,_,_,_,h,_=>absurd h ()
 |fuel+1,i,bj,m,hi,hm,he=>by
  have hrun:runEnd mask i<=mask/\i<=runEnd mask i:=by unfold runEnd;split<;>lia
  have N3:∀ k,k<=runEnd mask i-i->(pN mask (lj mask i bj) k).j=i+k:=λk hk=>by rw[HY mask i bj k hk]
  have hg:∀ k,k<=runEnd mask i-i->((ow.getD (i+k) (aa 0)).isNone=ae↔ow[i+k]?=aa ab):=λk hk=>by
   rw[QF];rcases yH (ow:=ow) (j:=i+k) () with c|⟨x,c⟩<;>rw[c]<;>simp
  unfold layClean.free;cases ef:(cG (runEnd mask i+1-i)).find? λk=>(ow.getD (i+k) (aa 0)).isNone with
  |some k=>
   obtain⟨h1,h2,h3⟩:=List.find?_range_eq_some.1 ef;have hk:k<=runEnd mask i-i:=by have:=iI.1 h2;lia
   refine⟨k,by rw[N3 k hk],by rw[N3 k hk];exact(hg k hk).1 h1,λq hq=>?_⟩
   rw[N3 q ()]
   rcases yH (ow:=ow) (j:=i+q) () with c|c
   .have:=h3 q hq;rw[(hg q ()).2 c] at this
    exact absurd this nofun
   .exact c
  |none=>
   have h3:=List.find?_range_eq_none.1 ef;have ca:∀ k,k<=runEnd mask i-i->∃ i':Nat,ow[i+k]?=aa (aa i'):=λk hk=>by
    rcases yH (ow:=ow) (j:=i+k) () with c|c
    .have:=h3 k ()
     rw[(hg k hk).2 c] at this;exact absurd this nofun
    .exact c
   cases m with
   |zero=>
    obtain⟨i',e'⟩:=ca 0 ()
    have he':ow[i]?=aa ab:=he;rw[Nat.add_zero,he'] at e';cases e'
   |succ m=>
    rw[WZ] at he;have u8:(leap mask i bj).1<=mask:=by
     have:(leap mask i bj).1<mask+1:=AH _ ()
     lia
    obtain⟨n,e1,e2,e3⟩:=ZP hz fuel (leap mask i bj).1 (leap mask i bj).2 m u8 () he
    have hp:∀ q,pN mask (lj mask i bj) (runEnd mask i-i+1+q)=pN mask (lj mask (leap mask i bj).1 (leap mask i bj).2) q:=λq=>by
     rw[<-MX,WJ]
    refine⟨runEnd mask i-i+1+n,?_,by rw[hp];exact e2,λq hq=>?_⟩
    .rw[hp];exact e1
    .by_cases c:q<=runEnd mask i-i
     .rw[N3 q c];exact ca q c
     .obtain⟨r,rfl⟩:∃ r,q=runEnd mask i-i+1+r:=⟨q-(runEnd mask i-i+1),()⟩
      rw[hp];exact e3 r ()
theorem Own.add(hm:oK mask){hs:List Int}(O:Own mask hs ow)(hl:hs.length<=mask)(h:Int) :
  ∃ j,layClean.free mask ow (turns mask) (bits h%(mask+1)) (bits h)=aa j/\Own mask (hs++[h]) (ow.setIfInBounds j (aa hs.length)):=by
 obtain⟨e,he,dg⟩:=O.free hl;obtain⟨m,h1,h2⟩:=YA hm (Gg h) he;have hi:bits h%(mask+1)<=mask:=by
  have:=AH (bits h) (show 0<mask+1 by lia)
  lia
 obtain⟨n,e1,e2,e3⟩:=ZP O.size (turns mask) (bits h%(mask+1)) (bits h) m hi (by unfold turns;lia) (by rw[h2];exact dg)
 have ql:ow[(rd mask h n).j]?=aa ab:=e2;have hjs:=(uN.1 ql).1;have get:∀ k:Nat,(ow.setIfInBounds (rd mask h n).j (aa hs.length))[k]?=if (rd mask h n).j=k then aa (aa hs.length) else ow[k]?:=λk=>by
  rw[Array.getElem?_setIfInBounds];by_cases c:(rd mask h n).j=k
  .subst c;simp[hjs]
  .rw[if_neg c,if_neg c]
 have mono:∀ k i:Nat,ow[k]?=aa (aa i)->(ow.setIfInBounds (rd mask h n).j (aa hs.length))[k]?=aa (aa i):=λk i q=>by
  rw[get,if_neg (by rintro rfl;rw[ql] at q;cases q)]
  exact q
 refine⟨_,e1,by simpa using O.size,λj i q=>?_,λj j' i q q'=>?_,λi hi=>?_,λj i x q qx=>?_⟩
 .have q:(ow.setIfInBounds (rd mask h n).j (aa hs.length))[j]?=aa (aa i):=q;rw[get] at q;rw[qH,Jb];split at q
  .cases q;lia
  .have:=O.lt j i q;lia
 .have q:(ow.setIfInBounds (rd mask h n).j (aa hs.length))[j]?=aa (aa i):=q;have q':(ow.setIfInBounds (rd mask h n).j (aa hs.length))[j']?=aa (aa i):=q';rw[get] at q q';split at q
  .split at q'
   .lia
   .cases q;have:=O.lt j' _ q'
    lia
  .split at q'
   .cases q';have:=O.lt j _ q
    lia
   .exact O.inj j j' i q q'
 .rw[qH,Jb] at hi;by_cases c:i=hs.length
  .exact⟨(rd mask h n).j,by show(ow.setIfInBounds (rd mask h n).j (aa hs.length))[(rd mask h n).j]?=_;rw[get,if_pos rfl,c]⟩
  .obtain⟨j,q⟩:=O.all i ()
   exact⟨j,mono j i q⟩
 .have q:(ow.setIfInBounds (rd mask h n).j (aa hs.length))[j]?=aa (aa i):=q;rw[get] at q;split at q
  .rename_i hj;cases q;rw[K4 (bB _)] at qx;have:h=x:=by simpa using qx
   rw[13];refine⟨n,hj,λq hq=>?_⟩
   obtain⟨i',w⟩:=e3 q hq;exact⟨i',mono _ i' w⟩
  .have bh:=O.lt j i q;rw[Jd bh] at qx;obtain⟨n',a,b⟩:=O.reach j i x q qx;refine⟨n',a,λr hr=>?_⟩
   obtain⟨i',w⟩:=b r hr;exact⟨i',mono _ i' w⟩
theorem SU(hm:oK mask):∀ (rest hs:List Int) (ow:Array (Option Nat)),Own mask hs ow->hs.length+rest.length<=mask+1 ->
  ∃ N4,rest.foldl (λaj h=>do
   let (owner,k) <-aj
   let j <-layClean.free mask owner (turns mask) (bits h%(mask+1)) (bits h)
   pure (owner.setIfInBounds j (aa k),k+1)) (aa (ow,hs.length))=aa (N4,(hs++rest).length)/\Own mask (hs++rest) N4
 |[],hs,ow,O,_=>⟨ow,by simp,by simpa using O⟩
 |h::r,hs,ow,O,hl=>by
  rw[fM] at hl;obtain⟨j,e,O'⟩:=O.add hm () h
  obtain⟨N4,e2,O2⟩:=SU hm r (hs++[h]) _ O' (by rw[qH,Jb];lia)
  refine⟨N4,?_,by simpa using O2⟩
  rw[iT];have:(do
   let (owner,k) <-aa (ow,hs.length)
   let j <-layClean.free mask owner (turns mask) (bits h%(mask+1)) (bits h)
   pure (owner.setIfInBounds j (aa k),k+1))=aa (ow.setIfInBounds j (aa hs.length),(hs++[h]).length):=by
   show((layClean.free mask ow (turns mask) (bits h%(mask+1)) (bits h)).bind λj=>aa (ow.setIfInBounds j (aa hs.length),hs.length+1))=_
   rw[e];simp
  rw[this,e2];simp
theorem Ui (mask:Nat):Own mask [] (Array.replicate (mask+1) ab):=by
 have hn:∀ j i:Nat,(Array.replicate (mask+1) (ab:Option Nat))[j]?≠aa (aa i):=λj i q=>by
  rw[Array.getElem?_replicate] at q;split at q<;>cases q
 exact⟨by simp,λj i q=>absurd q (hn j i),λj _ i q=>absurd q (hn j i),λi hi=>absurd hi (by simp),λj i _ q=>absurd q (hn j i)⟩
theorem G8(hm:oK mask)(hs:Array Int)(hl:hs.size<=mask+1):∃ ow,layClean mask hs=aa ow/\Own mask hs.toList ow:=by
 obtain⟨ow,e,O⟩:=SU hm hs.toList [] _ (Ui mask) (by simpa using hl)
 refine⟨ow,?_,by simpa using O⟩
 unfold layClean;rw[<-Array.foldl_toList];have e':=congrArg (Option.map (·.1)) e;exact e'
theorem UO {α β:Type}{f:α->Option β}:∀ (l:List α),(∀ k∈l,(f k).isSome=ae)->∀ i:Nat,(l.filterMap f)[i]?=(l[i]?).bind f
 |[],_,i=>by simp
 |a::r,h,i=>by
  obtain⟨b,e⟩:=wQ.1 (h a bE);rw[List.filterMap_cons_some e];cases i with
  |zero=>simp[e]
  |succ i=>
   rw[K3,K3];exact UO r (λk m=>h k (bL _ m)) i
def hE (mask:Nat)(ow:Array (Option Nat)):List (Nat×Nat):=(cG (mask+1)).filterMap λj=>(ow.getD j ab).map (j,·)
theorem nG(hz:ow.size=mask+1):(j,i)∈hE mask ow↔ow[j]?=aa (aa i):=by
 unfold hE;rw[uG];constructor
 .rintro⟨j',hj,e⟩;obtain⟨i',e1,e2⟩:=jF.1 e;have e3:=congrArg Prod.fst e2;have e4:=congrArg Prod.snd e2;subst e3;subst e4;have bh:j'<ow.size:=by have:=iI.1 hj;lia
  rw[QF] at e1;rcases yH bh with c|⟨x,c⟩
  .rw[c] at e1;cases e1
  .rw[c] at e1;cases e1;exact c
 .intro e;have bh:=(uN.1 e).1;exact⟨j,iI.2 (),by rw[QF,e];rfl⟩
theorem LM (mask:Nat)(ow:Array (Option Nat)):(hE mask ow).Pairwise (λa b=>a.1<b.1):=by
 unfold hE;rw[List.pairwise_filterMap];refine List.Pairwise.imp ?_ List.pairwise_lt_range;intro a b ji x hx y hy;obtain⟨_,_,rfl⟩:=jF.1 hx;obtain⟨_,_,rfl⟩:=jF.1 hy;exact ji
theorem D7(hm:oK mask)(es:Array (Int×aD))(hl:es.size<=mask)(fg mv:Nat)(led pl:Bool) :
  ∃ t' fz,laid mask fg mv led pl (es.map (·.1))=aa (t',fz)/\Good t' (fz.filterMap (es[·]?))/\(fz.filterMap (es[·]?)).toList.Perm es.toList/\t'.mask=mask/\t'.led=led/\t'.plain=pl/\t'.dummies = #[]:=by
 obtain⟨ow,e,O⟩:=G8 hm (es.map (·.1)) (by rw[Array.size_map];lia)
 have hz:=O.size;have aw:(es.map (·.1)).toList.length=es.size:=by simp
 refine⟨{ mask,place:=((hE mask ow).map (·.1)).toArray,dummies:=#[],finger:=fg,led,moves:=mv,plain:=pl },((hE mask ow).map (·.2)).toArray,?_,?_,?_,rfl,rfl,rfl,rfl⟩
 .unfold laid;rw[e]
  rfl
 .have vc:∀ k∈(hE mask ow).map (·.2),(es[k]?).isSome=ae:=λk m=>by
   obtain⟨⟨j,i⟩,mm,rfl⟩:=bO.1 m;have:=O.lt j i ((nG hz).1 mm);rw[aw] at this;rw[mW this]
   rfl
  have Tl:∀ i:Nat,((((hE mask ow).map (·.2)).toArray).filterMap (es[·]?))[i]?=(((hE mask ow)[i]?).bind λp=>es[p.2]?):=λi=>by
   rw[<-pD,QE,UO _ vc,eZ];cases(hE mask ow)[i]?<;>rfl
  have dt:∀ i:Nat,(((hE mask ow).map (·.1)).toArray)[i]?=((hE mask ow)[i]?).map (·.1):=λi=>by simp
  refine⟨hm,rfl,?_,?_,?_,?_,?_⟩
  .intro a b u v ji ea eb;have ea:=ea;have eb:=eb;rw[dt] at ea eb;obtain⟨x,hx,rfl⟩:=jF.1 ea;obtain⟨y,hy,rfl⟩:=jF.1 eb;obtain⟨ha,rfl⟩:=cJ.1 hx;obtain⟨hb,rfl⟩:=cJ.1 hy;exact OY.1 (LM mask ow) a b ha hb ji
  .have:(List.filterMap (es[·]?) ((hE mask ow).map (·.2))).length=((hE mask ow).map (·.2)).length:=by
    rw[List.length_filterMap_eq_countP,List.countP_eq_length];exact vc
   rw[<-kW (xs:=Array.filterMap _ _),QE,this];simp
  .intro i j q;have q:=q;rw[dt] at q;obtain⟨⟨j',i'⟩,hx,rfl⟩:=jF.1 q;have:=(nG hz).1 (eM hx);have:=(uN.1 this).1;show j'<=mask
   lia
  .have ig:((hE mask ow).map (·.2)).Nodup:=by
    unfold List.Nodup;rw[AM];refine Jm ?_ (LM mask ow);rintro⟨a,i⟩ ⟨b,i'⟩ ma mb ji e';have e':=e';subst e';have:=O.inj a b i ((nG hz).1 ma) ((nG hz).1 mb);have ji:=ji
    lia
   have:=PM ig (λv m=>by
    obtain⟨⟨j,i⟩,mm,rfl⟩:=bO.1 m;have:=O.lt j i ((nG hz).1 mm);rw[aw] at this;exact iI.2 this)
   have h2:((((hE mask ow).map (·.2)).toArray).filterMap (es[·]?)).size<=((hE mask ow).map (·.2)).length:=by
    rw[<-kW,QE];exact wW _ _
   rw[FT] at this;show _<=mask
   lia
  .intro i j x q qx;have q:=q;rw[dt] at q;obtain⟨⟨j',k⟩,hx,rfl⟩:=jF.1 q;rw[Tl,hx,bQ] at qx;have hw:=(nG hz).1 (eM hx);have hk:(es.map (·.1)).toList[k]?=aa x.1:=by
    have qx:=qx;rw[pD,Array.getElem?_map,qx]
    rfl
   obtain⟨n,a,b⟩:=O.reach j' k x.1 hw hk;refine⟨n,a,λm tq=>?_⟩
   obtain⟨i',w⟩:=b m tq;obtain⟨r,hr,er⟩:=Iy.1 ((nG hz).2 w);refine⟨r,?_⟩;rw[dt,fN hr,er]
   rfl
 .rw[QE];have ig:((hE mask ow).map (·.2)).Nodup:=by
   unfold List.Nodup;rw[AM];refine Jm ?_ (LM mask ow);rintro⟨a,i⟩ ⟨b,i'⟩ ma mb ji e';have e':=e';subst e';have:=O.inj a b i ((nG hz).1 ma) ((nG hz).1 mb);have ji:=ji
   lia
  have hp:((hE mask ow).map (·.2)).Perm (cG es.size):=by
   rw[List.perm_ext_iff_of_nodup ig Ir];intro v;constructor
   .intro m;obtain⟨⟨j,i⟩,mm,rfl⟩:=bO.1 m;have:=O.lt j i ((nG hz).1 mm);rw[aw] at this;exact iI.2 this
   .intro m;obtain⟨j,q⟩:=O.all v (by rw[aw];exact iI.1 m)
    exact bO.2 ⟨(j,v),(nG hz).2 q,rfl⟩
  exact(hp.filterMap _).trans (by rw[filterMap_getElem?_range])
structure Fine (t:eJ)(es:Array (Int×aD)):Prop where
 good:Good t es
 few:es.size*5<t.mask*3/\es.size<=4914
theorem Fine.fits(F:Fine t es):t.fits es.size=ae:=by
 have h1:=F.good.len;have h2:=F.good.nod;have h3:=F.good.room;simp[SetTable.fits,OM,h1,h2,h3]
theorem Fine.odd(F:Fine t es):t.gaveWay=af:=by
 rcases F.good.small with e|e|e|e|e|e<;>simp[SetTable.gaveWay,e]
theorem Xa (led:Bool):Fine (FF 0 0 led) #[]:=
 ⟨⟨.inl rfl,rfl,λa b u v _ h=>by simp[FF] at h,rfl,λi j h=>by simp[FF] at h,by simp,λi j e h=>by simp[FF] at h⟩,by simp[FF]⟩
theorem Vz(hs:oK t.mask)(h1:(n-1)*5<t.mask*3)(h0:0<n)(hf:t.mask*3<=n*5)(hn:n<=4914):∃ M,oK M/\n*5<M*3/\SetTable.sizeAbove (SetTable.grown n)=M+1:=by
 rcases hs with e|e|e|e|e|e<;>rw[e] at h1 hf
 .have h5:n=5:=()
  exact⟨31,.inr (.inl rfl),(),by rw[h5];decide⟩
 .have h5:n=19:=()
  exact⟨127,.inr (.inr (.inl rfl)),(),by rw[h5];decide⟩
 .have h5:n=77:=()
  exact⟨511,.inr (.inr (.inr (.inl rfl))),(),by rw[h5];decide⟩
 .have h5:n=307:=()
  exact⟨2047,.inr (.inr (.inr (.inr (.inl rfl)))),(),by rw[h5];decide⟩
 .have h5:n=1229:=()
  exact⟨8191,.inr (.inr (.inr (.inr (.inr rfl)))),(),by rw[h5];decide⟩
 .lia
open PySem PySem.Spec PyProof.Rows PySem.SetTable
def fJ (w:bA):Bool:=w.params.followText "set-order"
abbrev Ami (led:Bool):bC:={ cls:=.type "set",dict:=ab,data:=.set #[] 0 (.fresh 0 0 led) }
theorem Zz(v:aD){Q₁:aD->aH->Prop}(h:Q₁ (.ref s.heap.objs.size) { s with heap:=s.heap.push (Ami (!fJ w)) }) :
  iR (aP prog w) A (.call (.builtin "set.__new__") ⟨[.type "set",v],[]⟩) (wants Q₁ E) s:=by
 refine codeAny_of_tree (show aM _ A.in1 (do checkBuiltinCall "set.__new__" ⟨[.type "set",v],[]⟩;again (.builtin "set.__new__" ⟨[.type "set",v],[]⟩)) _ _ s from ?_)
 refine aF (wG (F.newCall_set_1 v) (aN ⟨jS F.plain_set_new _,jD F.entry_set_new ?_⟩));rw[kX F.plain_set_new _];unfold Builtin.«set.__new__» Builtin.Frozenset.newClass;have sub1:=sub_set_self;obtain⟨hp,g,d,tk,os⟩:=s;rw[12]
 wp_walk
 refine FB (aN ?_);rw[12];simp only[newObj];exact aF (wpAny_alloc (aN (aN h)))
structure WSet (w:bA)(h:aQ)(a:aC)(o:bC)(es:Array (Int×aD))(ep:Nat)(t:eJ):Prop where
 get:h.get? a=aa o
 exact:o.ExactSet
 data:o.data=.set es ep t
 fine:Fine t es
 led:t.led=!fJ w
mutual
theorem KU:∀ (d:aA) (n:Nat) {A:bS} {E:aD->aH->Prop} {s:aH} {v:aD} {as:List aC} {Q:Bool->aH->Prop},d.depth<=n->bP d=ae->kR s.heap v d as ->
  Q af s->aM (aP prog w) A (FC n v) Q E s
 |.int i,n,A,E,s,v,as,Q,hu,hk,r,h=>by
  cases r with
  |int _ t=>
   unfold FC;exact aN h
 |.str x,n,A,E,s,v,as,Q,hu,hk,r,h=>by
  cases r with
  |str _ t=>
   unfold FC;exact aN h
 |.tuple ks,n,A,E,s,v,as,Q,hu,hk,r,h=>by
  obtain⟨a,o,ai,m,rfl,ho,hc,hd,hi⟩:=lT r;have hT:s.TypeIs (.ref a) "tuple":=⟨o,ho,hc⟩;have pv:cT ks+1<=n:=by simpa [mR] using hu
  obtain⟨n,rfl⟩:∃ m,n=m+1:=⟨n-1,()⟩
  have bz:bR ks=ae:=by simpa [bP] using hk
  unfold FC;refine aF (mN hT ?_);rw[12];rw[if_pos nofun]
  refine aF (aN ?_);simp only[AY,gA,if_false];refine aF (hZ ho hd ?_);rw[12];rw[11];rw[<-AZ];refine zV _ (λrest r s'=>r.1=ab/\s'=s/\∃ ds bs,lW s.heap rest ds bs/\∀ d∈ds,d∈ks) _ ?_ ?_ _ _ ⟨rfl,rfl,ks,as,hi,λ_ h=>h⟩
  .rintro v rest r s' ⟨hr,rfl,ds,bs,hl,ca⟩;cases hl with
   |@cons _ _ d ds O8 ui h1 rp=>
    refine aF (Au ks (ca d bE) n () bz h1 ?_)
    simp only[gA,if_false];exact aN ⟨rfl,rfl,ds,ui,rp,λu ye=>ca u (bL _ ye)⟩
  .rintro⟨r1,r2⟩ s' ⟨hr,rfl,_⟩;simp only at hr;subst hr;exact aN h
 |.none,n,A,E,s,v,as,Q,hu,hk,r,h=>by simp[bP] at hk
 |.bool _,n,A,E,s,v,as,Q,hu,hk,r,h=>by simp[bP] at hk
 |.list _,n,A,E,s,v,as,Q,hu,hk,r,h=>by simp[bP] at hk
 |.dict _,n,A,E,s,v,as,Q,hu,hk,r,h=>by simp[bP] at hk
theorem Au:∀ (ks:List aA) {d:aA},d∈ks->∀ (n:Nat) {A:bS} {E:aD->aH->Prop} {s:aH} {v:aD} {as:List aC} {Q:Bool->aH->Prop},cT ks<=n->bR ks=ae->kR s.heap v d as ->
  Q af s->aM (aP prog w) A (FC n v) Q E s
 |[],_,hm,_,_,_,_,_,_,_,_,_,_,_=>by simp at hm
 |k::ks,d,hm,n,A,E,s,v,as,Q,hu,hk,r,h=>by
  have bz:bP k=ae/\bR ks=ae:=by simpa [bR] using hk
  have pv:max k.depth (cT ks)<=n:=by simpa [cT] using hu
  by_cases e:d=k
  .exact KU k n () bz.1 (e ▸ r) h
  .have tq:d∈ks:=by
    grind
   exact Au ks tq n () bz.2 r h
end
def qQ (k:List aA):Prop:=∀ d∈k,∃ i,d=.int i
theorem Wk{b:aC}{Q:Bool->aH->Prop}(hk:Abn s.heap k b)(hi:qQ k)(h:Q ae s):aM (aP prog w) A (hashByValue 8 (.ref b)) Q E s:=by
 obtain⟨_,_,as,r⟩:=hk;obtain⟨a,o,ai,m,e,ho,hc,hd,hr⟩:=lT r;cases e;unfold hashByValue;refine aF (wD ⟨o,ho,hc⟩ GD.lookup ?_);refine aF (hZ ho hd ?_);rw[11];rw[<-AZ];refine zV _ (λrest r s'=>r=(ab,Unit.unit)/\s'=s/\∃ ds bs,lW s.heap rest ds bs/\∀ d∈ds,d∈k) _ ?_ ?_ _ _ ⟨rfl,rfl,k,as,hr,λ_ h=>h⟩
 .rintro v rest r s' ⟨rfl,rfl,ds,bs,hl,ca⟩;cases hl with
  |@cons _ _ d ds O8 ui h1 rp=>
   obtain⟨i,rfl⟩:=hi d (ca d bE);cases h1;exact aF (aN (aN ⟨rfl,rfl,ds,ui,rp,λu ye=>ca u (bL _ ye)⟩))
 .rintro r s' ⟨rfl,rfl,_⟩;exact aN h
theorem Rk{b:aC}{ys:List aD}{Q:Bool->aH->Prop}(hk:Abn s.heap k b)(hy:∀ y∈ys,∃ k' b',y=.ref b'/\Abn s.heap k' b')(h:Q af s) :
  aM (aP prog w) A (searchCouldBeSeen (.ref b) ys) Q E s:=by
 unfold searchCouldBeSeen;rw[11];refine zV _ (λrest r s'=>r.1=ab/\s'=s/\∀ y∈rest,∃ k' b',y=.ref b'/\Abn s.heap k' b') _ ?_ ?_ _ _ ⟨rfl,rfl,hy⟩
 .rintro v rest r s' ⟨hr,rfl,ca⟩;obtain⟨k',b',rfl,bz⟩:=ca v bE;have vd:∀ y∈rest,∃ k' b',y=.ref b'/\Abn s'.heap k' b':=λy m=>ca y (bL _ m)
  rw[12];split
  .exact aN ⟨rfl,rfl,vd⟩
  .obtain⟨a1,a2,as,ra⟩:=hk;obtain⟨b1,b2,bs,rb⟩:=bz;have ka:bP (.tuple k)=ae:=by simpa [bP] using a1
   have kb:bP (.tuple k')=ae:=by simpa [bP] using b1
   have da:(cW k).depth<=8:=by simp only[mR];lia
   have db:(cW k').depth<=8:=by simp only[mR];lia
   refine aF (DV (.tuple k) 8 da ka ra ?_);simp only[AY,gA,if_false];refine aF (DV (.tuple k') 8 db kb rb ?_);simp only[AY,gA,if_false];refine aF (KU (.tuple k) 8 da ka ra ?_);simp only[gA,if_false];refine aF (KU (.tuple k') 8 db kb rb ?_);simp only[gA,if_false];exact aN ⟨rfl,rfl,vd⟩
 .rintro⟨r1,r2⟩ s' ⟨hr,rfl,_⟩;simp only at hr;subst hr;exact aN h
theorem uX {α β:Type}{R:α->β->Prop}:∀ {as:List α} {bs:List β},cQ R as bs->∀ {i:Nat} {a:α},as[i]?=aa a->∃ b,bs[i]?=aa b/\R a b
 |_,_,.nil,i,a,h=>by simp at h
 |_,_,.cons h t,0,a,e=>⟨_,rfl,by simp at e;exact e ▸ h⟩
 |_,_,.cons h t,i+1,a,e=>uX t (by simpa using e)
theorem JB {α β:Type}{R:α->β->Prop}:∀ {as:List α} {bs:List β},cQ R as bs->∀ {i:Nat} {b:β},bs[i]?=aa b->∃ a,as[i]?=aa a/\R a b
 |_,_,.nil,i,a,h=>by simp at h
 |_,_,.cons h t,0,a,e=>⟨_,rfl,by simp at e;exact e ▸ h⟩
 |_,_,.cons h t,i+1,a,e=>JB t (by simpa using e)
theorem Good.met{f:Nat->Int}{h:Int}{r:Option Met}(G:Good t es)(hv:∀ m<n,iM t (rd t.mask h m).j)(N5:t.probe f h (rd t.mask h n)=r)(hf:∀ (i:Nat) e,es[i]?=aa e->f i=e.1) :
  ∃ N,n<=N/\N<10*turns t.mask/\(∀ m,n<=m->m<N->∃ (i:Nat) (e:Int×aD),t.place[i]?=aa (rd t.mask h m).j/\es[i]?=aa e/\e.1≠h) /\
   ((¬ iM t (rd t.mask h N).j/\r=aa (.empty (rd t.mask h N).j ab))\/∃ (i:Nat) (e:Int×aD),t.place[i]?=aa (rd t.mask h N).j/\es[i]?=aa e/\e.1=h/\r=aa (.candidate (rd t.mask h N).j i (rd t.mask h (N+1)))):=by
 obtain⟨k,h1,h2,h3⟩:=G.next h hv;have el:∀ i j:Nat,t.place[i]?=aa j->∃ e,es[i]?=aa e:=λi j q=>by
  have:=(uN.1 q).1;rw[G.len] at this;exact⟨es[i],mW this⟩
 refine⟨n+k,(),h1,λm a b=>?_,?_⟩
 .obtain⟨i,e1,e2⟩:=h2 m a b;obtain⟨e,ee⟩:=el i _ e1;exact⟨i,e,e1,ee,by rw[<-hf i e ee];exact e2⟩
 .grind
theorem Good.nope{f:Nat->Int}{h:Int}(G:Good t es)(hv:∀ m<n,iM t (rd t.mask h m).j)(hn:∀ met,t.probe f h (rd t.mask h n)=aa met->False):False:=by
 obtain⟨k,_,_,h3⟩:=G.next h hv;rcases h3 with⟨_,q⟩|⟨_,_,_,q⟩
 .exact hn _ q
 .exact hn _ q
section
variable {B:List aA->aC->Prop}
def wx (w:bA)(B:List aA->aC->Prop)(h:aQ)(e:Int×aD)(k:List aA):Prop:=∃ b,e.2=.ref b/\e.1=dF w (.tuple k)/\Abn h k b/\B k b
structure SetAt (w:bA)(B:List aA->aC->Prop)(h:aQ)(a:aC)(o:bC)(es:Array (Int×aD))(ep:Nat)(t:eJ)(ks:List (List aA)):Prop where
 get:h.get? a=aa o
 exact:o.ExactSet
 data:o.data=.set es ep t
 fine:Fine t es
 led:t.led=!fJ w
 plain:t.plain=ae
 els:cQ (wx w B h) es.toList ks
 nod:ks.Nodup
theorem YV{b:aC}{ad:Bool}{Q:SetFound->aH->Prop}
  (S:SetAt w B s.heap a o es ep t ks) (hk:Abn s.heap k b) (hu:A.units+20<cLine) (h1:k∈ks->∀ i,(ad=af->i≠ab)->Q (.there i) s)
  (h2:k∉ks->∀ N,(∀ m<N,iM t (rd t.mask (dF w (.tuple k)) m).j)->¬ iM t (rd t.mask (dF w (.tuple k)) N).j->Q (.free (rd t.mask (dF w (.tuple k)) N).j af) s) :
  ∀ fuel n lf,lf.getD (t.probeStart (dF w (.tuple k)))=rd t.mask (dF w (.tuple k)) n->(∀ m<n,∃ i:Nat,t.place[i]?=aa (rd t.mask (dF w (.tuple k)) m).j/\∀ k',ks[i]?=aa k'->k'≠k)->10*turns t.mask<fuel+n ->
   aM (aP prog w) A (setSearchFrom a (.ref b) (dF w (.tuple k)) ad fuel lf) Q E s
 |0,n,lf,_,hv,hf=>by
  obtain⟨e,he,dg⟩:=S.fine.good.empty;obtain⟨N,hN,eN⟩:=VR S.fine.good.small (dF w (.tuple k)) he;obtain⟨i,q,_⟩:=hv N ()
  exact absurd ⟨i,eN ▸ q⟩ dg
 |fuel+1,n,lf,dq,hv,hf=>by
  have G:=S.fine.good;have sh:∀ m<n,iM t (rd t.mask (dF w (.tuple k)) m).j:=λm hm=>by
   obtain⟨i,q,_⟩:=hv m hm;exact⟨i,q⟩
  have ve:∀ (i:Nat) (e:Int×aD),es[i]?=aa e->∃ k',ks[i]?=aa k'/\wx w B s.heap e k':=λi e q=>uX S.els (by rw[pD];exact q)
  unfold setSearchFrom;refine aF (tY S.get S.data S.fine.fits ?_);rw[12];rw[S.fine.odd];simp only[gA,if_false];rw[dq];split
  .rename_i met N5;obtain⟨N,X7,hN,hm,hc⟩:=G.met sh N5 (λi e he=>by
    show(es[i]?.map (·.1)).getD 0=e.1;rw[he]
    rfl)
   have zn:∀ m<N,iM t (rd t.mask (dF w (.tuple k)) m).j:=λm X8=>by
    rcases OT m n with c|c
    .exact sh m c
    .obtain⟨i,e,q,_⟩:=hm m c X8;exact⟨i,q⟩
   rcases hc with⟨dg,hr⟩|⟨i,e,hp,wl,hh,hr⟩
   .cases hr;rw[12];have hnk:k∉ks:=λmem=>by
     obtain⟨i,hi,ei⟩:=Iy.1 mem;have jv:ks[i]?=aa k:=by rw[fN hi,ei]
     obtain⟨e,q,b',_,hh,_⟩:=JB S.els jv;rw[pD] at q;have hi2:=(uN.1 q).1;have hi3:i<t.place.size:=by rw[G.len];exact hi2
     have dt:=mW hi3;obtain⟨M,hM,X9⟩:=G.reach i _ e dt q;rw[hh] at hM X9;rcases wU N M with c|c|c
     .exact dg (X9 N c)
     .subst c;exact dg ⟨i,by rw[dt,hM]⟩
     .have uniq:∀ i':Nat,t.place[i']?=aa (rd t.mask (dF w (.tuple k)) M).j->i'=i:=λi' q'=>by
       rw[hM] at q';rcases wU i' i with z|z|z
       .have:=G.ris _ _ _ _ z q' dt;lia
       .exact z
       .have:=G.ris _ _ _ _ z dt q';lia
      grind
    exact aN (h2 hnk N zn dg)
   .cases hr;rw[12];obtain⟨k',bz,b',eb,eh,ko,_⟩:=ve i e wl;have zo:∀ y∈((es.filter (·.1==dF w (.tuple k))).toList.map (·.2)),∃ k' b',y=.ref b'/\Abn s.heap k' b':=λy my=>by
     obtain⟨e',me,rfl⟩:=bO.1 my;rw[Array.toList_filter] at me;obtain⟨q1,_⟩:=kA.1 me;obtain⟨i',uu,jv⟩:=Iy.1 q1;obtain⟨k2,_,b2,z1,_,z2,_⟩:=uX S.els (by rw[fN uu,jv])
     exact⟨k2,b2,z1,z2⟩
    obtain⟨eh0,ey⟩:=e;have eb:=eb;have hh:=hh;subst eb;have X':k'≠k->aM (aP prog w) A (setSearchFrom a (.ref b) (dF w (.tuple k)) ad fuel (aa (rd t.mask (dF w (.tuple k)) (N+1)))) Q E s:=λdg=>by
     refine YV S hk hu h1 h2 fuel (N+1) _ rfl (λm X8=>?_) ()
     rcases OT m n with c|c
     .exact hv m c
     .rcases OT m N with c2|c2
      .obtain⟨i',e',q',qe,hne'⟩:=hm m c c2;refine⟨i',q',λk2 Tm e2=>?_⟩
       obtain⟨k3,hk3,_,_,z,_⟩:=ve i' e' qe
       grind
      all_goals grind
    have wj:t.sameMemory t.moves t.mask=aa ae:=by simp[sameMemory]
    split
    case' isTrue=>refine aF (Rk hk zo ?_);simp only[gA,if_false]
    all_goals
     rw[wl];rw[12];refine aF (eP ((jO prog w).eqBool hu ko hk ?_));refine aF (tY S.get S.data S.fine.fits ?_);rw[12];have mem:=λe:k'=k=>h1 (by rw[<-e];exact eM bz)
     by_cases ea:(ad&&decide (k'=k))=ae
     .rw[if_pos ea];obtain⟨rfl,e⟩:=iK.1 ea;exact aN (mem (of_decide_eq_true e) ab λz=>nomatch z)
     .rw[if_neg ea,wj];rw[12];simp only[if_true];rw[(DR G.nod G.ris).2 hp];rw[12];rw[wl];rw[12];refine aF (wpAny_isSame_ref_self (aF (aN ?_)));simp only[if_true];by_cases ek:k'=k
      .rw[decide_eq_true ek,if_pos rfl];exact aN (mem ek (aa i) λ_=>by simp)
      all_goals grind
  .rename_i N5;exact(G.nope sh N5).elim
end
section
variable {B:List aA->aC->Prop}
theorem WY(ho:h.get? a=aa o)(hd:o.data=.set es ep t)(hs:mT a h h'){b:aC}(hk:Abn h k b):Abn h' k b:=
 hk.keep λc oc vs n hc _ ko=>by
  have dg:c≠a:=by
   grind
  exact(hs.2 c dg).trans hc
theorem pQ {α β:Type}{R R':α->β->Prop}(f:∀ a b,R a b->R' a b):∀ {as:List α} {bs:List β},cQ R as bs->cQ R' as bs
 |_,_,.nil=>.nil
 |_,_,.cons h t=>.cons (f _ _ h) (pQ f t)
theorem JD {α β:Type}{R:α->β->Prop}{as pc:List α}(p:pc.Perm as):∀ {bs:List β},cQ R as bs->∃ uw,cQ R pc uw/\uw.Perm bs:=by
 induction p with
 |nil=>intro bs h;exact⟨bs,h,.refl _⟩
 |cons x p ih=>
  intro bs h;cases h with
  |cons h t=>
   obtain⟨uw,h1,h2⟩:=ih t;exact⟨_,.cons h h1,h2.cons _⟩
 |swap x y l=>
  intro bs h;cases h with
  |cons h t=>
   cases t with
   |cons h' t'=>exact⟨_,.cons h' (.cons h t'),.swap _ _ _⟩
 |trans p q ih1 ih2=>
  intro bs h;obtain⟨b1,h1,h2⟩:=ih2 h;obtain⟨b2,h3,h4⟩:=ih1 h1;exact⟨b2,h3,h4.trans h2⟩
theorem US {α β:Type}{R:α->β->Prop}{a:α}{b:β}(h:R a b):∀ {as:List α} {bs:List β},cQ R as bs->cQ R (as++[a]) (bs++[b])
 |_,_,.nil=>.cons h .nil
 |_,_,.cons h' t=>.cons h' (US h t)
def SetT (w:bA)(B:List aA->aC->Prop)(h:aQ)(a:aC)(ks:List (List aA)):Prop:=∃ o es ep t fw,SetAt w B h a o es ep t fw/\fw.Perm ks
theorem ZV(ho:h.get? a=aa o)(hex:o.ExactSet)(hd:o.data=.set es ep t)(gc:Array (Int×aD))(t':eJ) :
  ∃ o',(h.update a (AG gc t')).get? a=aa o'/\o'.ExactSet/\o'.data=.set gc (ep+1) t'/\mT a h (h.update a (AG gc t')):=by
 have hg:=sA (AG gc t') ho (by rw[putSet_of gc t' hd];rfl)
 rw[putSet_of gc t' hd] at hg;exact⟨_,hg,hex,rfl,xA h a _⟩
theorem Os{b:aC}{Q:Bool->aH->Prop}{fuel:Nat}
  (S:SetAt w B s.heap a o es ep t ks) (hk:Abn s.heap k b) (hB:B k b) (hi:qQ k) (hu:A.units+20<cLine) (ld:es.size+1<=4914)
  (h:∀ h',mT a s.heap h'->SetT w B h' a (if k∈ks then ks else ks++[k])->Q (decide (k∉ks)) { s with heap:=h' }) :
  aM (aP prog w) A (setAddHashedIn a (.ref b) (dF w (.tuple k)) (fuel+1)) Q E s:=by
 have G:=S.fine.good;have e0:s={ s with heap:=s.heap }:=by cases s;rfl
 unfold setAddHashedIn;refine aF (tY S.get S.data S.fine.fits ?_);rw[12];have hbs:byScan (.ref b) es=af:=by simp[byScan,Value.scannable]
 rw[hbs];simp only[gA,if_false];unfold setSearch;refine aF (YV S hk hu (λmem _ _=>?_) (λhn N hl dg=>?_) 100000 0 ab rfl (λm hm=>absurd hm ()) (by
  rcases G.small with e|e|e|e|e|e<;>rw[e]<;>decide))
 .rw[12];refine aN ?_;have:=h s.heap (Heap.SameBut.refl a s.heap) (by rw[if_pos mem];exact⟨o,es,ep,t,ks,S,.refl _⟩)
  rw[e0,show af=decide (k∉ks) from(decide_eq_false (λz=>z mem)).symm]
  exact this
 .rw[12];refine aF (tY S.get S.data S.fine.fits ?_);rw[12];rw[Mq G.nod];rw[12];have wm:es.size<t.mask:=by
   have:=S.fine.few
   grind
  have tail:∀ pl:Bool,pl=ae->aM (aP prog w) A (do
    storeSet a (insertAt es (below t.place (rd t.mask (dF w (.tuple k)) N).j) (dF w (.tuple k),.ref b)) { t with place:=insertAt t.place (below t.place (rd t.mask (dF w (.tuple k)) N).j) (rd t.mask (dF w (.tuple k)) N).j,plain:=pl }
    if (!af&&({ t with place:=insertAt t.place (below t.place (rd t.mask (dF w (.tuple k)) N).j) (rd t.mask (dF w (.tuple k)) N).j,plain:=pl }:eJ).tooFull)=ae then do
      setRelay a (SetTable.grown (es.size+1))
      pure ae
     else pure ae) Q E s:=λpl dt=>by
   have G':=G.put (x:=.ref b) hl dg wm pl;have vf:=insertAt_perm es (below t.place (rd t.mask (dF w (.tuple k)) N).j) (dF w (.tuple k),eI b);rw[Array.toList_push] at vf;have hsz:=DC es (below t.place (rd t.mask (dF w (.tuple k)) N).j) (dF w (.tuple k),eI b);generalize insertAt es (below t.place (rd t.mask (dF w (.tuple k)) N).j) (dF w (.tuple k),eI b)=jk at *;generalize Ty:({ t with place:=insertAt t.place (below t.place (rd t.mask (dF w (.tuple k)) N).j) (rd t.mask (dF w (.tuple k)) N).j,plain:=pl }:eJ)=t1 at *;have hm1:t1.mask=t.mask:=by rw[<-Ty]
   have Y0:t1.led=!fJ w:=by rw[<-Ty];exact S.led
   have Y1:t1.plain=ae:=by rw[<-Ty];exact dt
   obtain⟨o1,g1,x1,d1,wn⟩:=ZV S.get S.exact S.data jk t1;have TD:cQ (wx w B s.heap) (es.toList++[(dF w (.tuple k),eI b)]) (ks++[k]):=US ⟨b,rfl,rfl,hk,hB⟩ S.els;obtain⟨Y2,zp,p1⟩:=JD vf TD;have zq:Y2.Nodup:=p1.nodup_iff.2 (rX.2 ⟨S.nod,by simp,λx hx y hy e=>hn (by rw[<-cE.1 hy,<-e];exact hx)⟩)
   have vg:∀ e k',wx w B s.heap e k'->wx w B (s.heap.update a (AG jk t1)) e k':=λe k' ⟨b',q1,q2,q3,q4⟩=>⟨b',q1,q2,WY S.get S.data wn q3,q4⟩
   refine aF (wpAny_storeSet_of S.get S.data ?_ (by have:sizeLine=sizeLine:=rfl;rw[nU];lia))
   have zr:t1.fits jk.size=ae:=by
    have a1:=G'.len;have a2:=G'.nod;have a3:=G'.room;simp[SetTable.fits,OM,a1,a2,a3]
   by_cases hf:t1.tooFull=ae
   .rw[if_pos (by simpa using hf)]
    have a1:=G'.len;have a2:=G'.nod;have TW:=S.fine.few;have vh:t1.mask*3<=jk.size*5:=by
     simp[SetTable.tooFull,OM,a1,a2] at hf;exact hf
    obtain⟨M,hM,hM2,zu⟩:=Vz (t:=t) (n:=es.size+1) G.small (by simpa using TW.1) () (by rw[hm1,hsz] at vh;exact vh) ld
    have hM3:jk.size<=M:=by
     grind
    obtain⟨t2,fz,el,G2,p2,m2,le2,pl2,_⟩:=D7 (mask:=M) hM jk hM3 t1.finger (t1.movedTo M) t1.led t1.plain;have hre:t1.relaid (jk.map (·.1)) (SetTable.grown (es.size+1))=aa (t2,fz):=by
     unfold SetTable.relaid;rw[zu];exact el
    have zv:(fz.filterMap (jk[·]?)).size=jk.size:=by
     rw[<-kW,p2.length_eq,kW]
    rw[11];unfold setRelay;refine aF (tY g1 d1 zr ?_);rw[12];rw[if_neg (by rw[nU,zu];rcases hM with e|e|e|e|e|e<;>rw[e]<;>decide),hre]
    refine aF (show aM (aP prog w) A (do
     let gc:=fz.filterMap (jk[·]?)
     if gc.size != jk.size then unsupported "internal:set-table-lost-an-element"
     pure (gc,t2)) _ E _ from ?_)
    rw[12];rw[if_neg (by rw[zv];simp)]
    refine aN ?_;generalize fz.filterMap (jk[·]?)=N6 at *;obtain⟨o2,g2,x2,d2,N7⟩:=ZV g1 x1 d1 N6 t2;rw[12];refine wpAny_storeSet_of g1 d1 ?_ (by rw[nU];lia)
    refine aN ?_;obtain⟨zw,T0,q2⟩:=JD p2 zp;have zx:∀ e k',wx w B s.heap e k'->wx w B ((s.heap.update a (AG jk t1)).update a (AG N6 t2)) e k':=λe k' z=>by
     obtain⟨b',z1,z2,z3,z4⟩:=vg e k' z;exact⟨b',z1,z2,WY g1 d1 N7 z3,z4⟩
    rw[show ae=decide (k∉ks) from(decide_eq_true hn).symm]
    exact h _ (wn.trans N7) (by rw[if_neg hn];exact⟨o2,N6,ep+1+1,t2,zw,⟨g2,x2,d2,⟨G2,by rw[zv,m2,hsz];exact hM2,()⟩,le2.trans Y0,pl2.trans Y1,pQ (λe k'=>zx e k') T0,q2.nodup_iff.2 zq⟩,q2.trans p1⟩)
   .rw[if_neg (by simpa using hf)]
    have few:jk.size*5<t1.mask*3/\jk.size<=4914:=by
     have a1:=G'.len;have a2:=G'.nod;refine⟨?_,()⟩
     simp[SetTable.tooFull,OM,a1,a2] at hf
     lia
    refine aN ?_;rw[show ae=decide (k∉ks) from(decide_eq_true hn).symm]
    exact h _ wn (by rw[if_neg hn];exact⟨o1,jk,ep+1,t1,Y2,⟨g1,x1,d1,⟨G',few⟩,Y0,Y1,pQ (λe k'=>vg e k') zp,zq⟩,p1⟩)
  rw[if_pos S.plain];refine aF (Wk hk hi ?_);simp only[if_true];exact tail t.plain S.plain
end
section
variable {B:List aA->aC->Prop}
theorem SetT.len(S:SetT w B h a ks):∃ o es ep t,h.get? a=aa o/\o.ExactSet/\o.data=.set es ep t/\t.fits es.size=ae/\es.size=ks.length:=by
 obtain⟨o,es,ep,t,fw,am,p⟩:=S;refine⟨o,es,ep,t,am.get,am.exact,am.data,am.fine.fits,?_⟩;have:=jX am.els;rw[kW] at this;rw[this,p.length_eq]
theorem SetT.keep(S:SetT w B h a ks)(k1:∀ o,h.get? a=aa o->h'.get? a=aa o)(k2:∀ b o vs n,h.get? b=aa o->o.cls=.type "tuple" -> o.data=.seq vs n->h'.get? b=aa o):SetT w B h' a ks:=by
 obtain⟨o,es,ep,t,fw,am,p⟩:=S;exact⟨o,es,ep,t,fw,⟨k1 o am.get,am.exact,am.data,am.fine,am.led,am.plain,pQ (λe k ⟨b,q1,q2,q3,q4⟩=>⟨b,q1,q2,q3.keep k2,q4⟩) am.els,am.nod⟩,p⟩
theorem t5 {ls:List (List aA)}(p:ks.Perm ls)(k:List aA):(if k∈ks then ks else ks++[k]).Perm (mF ls k):=by
 unfold mF
 grind
theorem Uj{b:aC}{Q:Bool->aH->Prop}
  (S:SetT w B s.heap a ks) (hk:Abn s.heap k b) (hB:B k b) (bi:∀ k b,B k b->qQ k) (hu:A.units+20<cLine) (ld:ks.length+1<=4914)
  (h:∀ h' c,mT a s.heap h'->SetT w B h' a (mF ks k)->Q c { s with heap:=h',toks:=s.toks+rC (.tuple k) }) :
  aM (aP prog w) A (setAdd a (.ref b)) Q E s:=by
 obtain⟨o,es,ep,t,fw,am,p⟩:=S;unfold setAdd;refine eP (aF ((jO prog w).pyHash hu hk ?_));unfold setAddHashed;have wl:es.size=ks.length:=by
  have:=jX am.els;rw[kW] at this;rw[this,p.length_eq]
 refine eP (Os am hk hB (bi _ _ hB) hu () λh' sb S'=>h h' _ sb ?_)
 obtain⟨o',gc,qc,t',zw,Z',p'⟩:=S';exact⟨o',gc,qc,t',zw,Z',p'.trans (t5 p k)⟩
theorem z7 (aj:List (List aA))(k:List aA):aj.length<=(mF aj k).length:=by
 unfold mF
 grind
theorem Ah:∀ (kss aj:List (List aA)),aj.length<=(kss.foldl mF aj).length
 |[],aj=>bB _
 |k::r,aj=>dG (z7 aj k) (Ah r (mF aj k))
theorem Wy (kss:List (List aA))(i:Nat):(gP (kss.take i)).length<=(gP kss).length:=by
 have e:gP kss=(kss.drop i).foldl mF (gP (kss.take i)):=by
  unfold gP;rw[<-rY,Ip]
 rw[e];exact Ah _ _
theorem j3{fp:List aC}{P:Nat->aD->Prop}{St:Nat->aH->Prop}
  (W:WalksS prog w A.in1 I fp wr G n P St) (bi:∀ k b,B k b->qQ k) (hu:A.units+30<cLine) (S:aC) (wc:S∉fp) (kss:List (List aA)) (hn:(gP kss).length<=4900)
  (hT:∀ i s,St i s->∀ c∈wr,∀ o,s.heap.get? c=aa o->o.cls ≠ .type "tuple") :
  ∀ (k i:Nat) (s:aH),n-i=k->i<=n->St i s->SetT w B s.heap S (gP (kss.take i))->(∀ j v,P j v->∃ b q,v=.ref b/\kss[j]?=aa q/\Abn s.heap q b/\B q b) ->
   (∀ s',Moved (S::wr) G s s'->SetT w B s'.heap S (gP (kss.take n))->R (.ok (.ret .none)) s') ->
   iR (aP prog w) A (.builtin "set.update.loop" ⟨[.ref S,.ref I],[]⟩) R s:=by
 have zy:S∉wr:=λz=>wc (W.sub _ z)
 have more:∀ b∈wr,b∈S::wr:=λb z=>bL _ z
 have lg:∀ {i s s'},St i s->Moved wr G s s'->∀ b o vs m,s.heap.get? b=aa o->o.cls=.type "tuple" -> o.data=.seq vs m->s'.heap.get? b=aa o:=λ{i s s'} st hm b o vs m q c _=>
  hm.heap b o (λz=>hT i s st b z o q c) q
 intro k;induction k with
 |zero=>
  intro i s hk hi dq hS hP hR;obtain rfl:i=n:=()
  refine jD F.entry_set_update_loop ?_;rw[kX Jr _];refine aF (W.done s _ _ dq λs' hm=>?_)
  exact aN (hR s' (hm.mono more) (hS.keep (λo q=>hm.heap S o zy q) (lg dq hm)))
 |succ k ih=>
  intro i s hk hi dq hS hP hR;have bh:i<n:=()
  refine jD F.entry_set_update_loop ?_;rw[kX Jr _];refine aF (W.item i s _ _ bh dq λv s' zh jc hm=>?_)
  obtain⟨b,q,rfl,hq,hd,hB⟩:=hP i v zh;have gy:=hS.keep (λo z=>hm.heap S o zy z) (lg dq hm)
  have gm:gP (kss.take (i+1))=mF (gP (kss.take i)) q:=by
   rw[AK,hq];simp[gP,rY]
  have aw:=dG (Wy kss i) hn;refine aF (eP (Uj gy (hd.keep (lg dq hm)) hB bi (by show A.units+1+20<cLine;lia) () λh' c sb S2=>?_))
  obtain⟨o2,N6,zz,t2,g2,_,d2,_⟩:=gy.len;have kt:∀ b o vs m,s'.heap.get? b=aa o->o.cls=.type "tuple" -> o.data=.seq vs m->h'.get? b=aa o:=λb o vs m z _ z'=>by
   have dg:b≠S:=by
    grind
   exact(sb.2 b dg).trans z
  refine aN ⟨jS Jr _,ih (i+1) _ () bh (W.frame _ s' _ _ jc (OU _ _) λc hc o e=>?_) (by rw[gm];exact S2) (λj v z=>?_) λtw re S3=>?_⟩
  .exact(sb.2 c (λz=>wc (z ▸ hc))).trans e
  .obtain⟨b',q',e1,e2,e3,e4⟩:=hP j v z;exact⟨b',q',e1,e2,(e3.keep (lg dq hm)).keep kt,e4⟩
  .exact hR tw (Moved.trans W.gtrans ((hm.mono more).then_heap (OU _ _) λc o hc e=>(sb.2 c (λz=>hc (z ▸ bE))).trans e) re) S3
end
section
variable {B:List aA->aC->Prop}
theorem Vj(e:h.get? a=aa (Ami (!fJ w))):SetT w B h a []:=
 ⟨Ami (!fJ w),#[],0,.fresh 0 0 (!fJ w),[],⟨e,⟨rfl,rfl,rfl⟩,rfl,Xa _,rfl,rfl,.nil,.nil⟩,.refl _⟩
set_option maxHeartbeats 4000000 in
theorem Wb{N:aQ->Prop}(hh:A.handled=ab)(hl:s.heap.IsList l ai)
  (hp:∀ (A':bS) (R:oV->aH->Prop) (I:aC) (s1:aH),A'.units=A.units+2->WalksS prog w A'.in1 I [I,l] [I] (λa b=>b=a) ai.size (λi v=>ai[i]?=aa v) (λi s=>s.heap.IsListIter I l i/\s.heap.IsList l ai) ->
   s.heap.objs.size∉[I,l]->s1.heap.IsListIter I l 0/\s1.heap.IsList l ai->(∀ b o,s.heap.get? b=aa o->s1.heap.get? b=aa o)->s1.heap.get? s.heap.objs.size=aa (Ami (!fJ w)) ->
   (∀ s',Moved [s.heap.objs.size,I] (λa b=>b=a) s1 s'->N s'.heap->R (.ok (.ret .none)) s')->iR (aP prog w) A' (.builtin "set.update.loop" ⟨[.ref s.heap.objs.size,.ref I],[]⟩) R s1)
  (h:∀ (h':aQ) (tk:Nat),s.toks<=tk->N h'->(∀ b o,b<s.heap.objs.size->s.heap.get? b=aa o->h'.get? b=aa o)->Q (.ref s.heap.objs.size) { s with heap:=h',toks:=tk }) :
  aM (aP prog w) A (call (.type "set") [.ref l]) Q E s:=by
 obtain⟨c,tl,hmro⟩:=uL.mro;have At:=uL.made;have cb:=uL.sub;refine wpAny_call (codeAny_of_tree (show aM _ _ (callAny (.type "set") _) _ _ _ from ?_))
 refine aN ⟨Code.quiet_builtin _ (by rw[0]),jD F.entry_type_call ?_⟩
 rw[Around.under_plain (weight_type_call_type "set" [.ref l] []) rfl];have z1:=uL.notType;have z2:=uL.canCreate;have z3:=F.typeCall_set_1 (.ref l)
 repeat (any_goals (first|assumption|wp_step))
 refine zY (Zz (.ref l) (E:=E) (Q₁:=λu s₁=>u=.ref s.heap.objs.size/\s₁={ s with heap:=s.heap.push (Ami (!fJ w)) }) ⟨rfl,rfl⟩) λr s₁ hr=>?_
 match r,hr with
 |.error e,hr=>exact hr
 |.ok (.ret u),hr=>
  obtain⟨rfl,rfl⟩:=hr;generalize T5:(!fJ w)=led;have gS:(s.heap.push (Ami led)).get? s.heap.objs.size=aa (Ami led):=cL _ rfl;have hT:Shared.TypeIs { s with heap:=s.heap.push (Ami led) } (.ref s.heap.objs.size) "set":=⟨_,gS,rfl⟩;have y1:=uL.init.lookup;have y2:=uL.init.bind (.ref s.heap.objs.size)
  repeat (any_goals (first|assumption|wp_step))
  refine zY (Hn (R:=wants (λr s₂=>r=.none/\∃ h' tk,s.toks<=tk/\s₂={ s with heap:=h',toks:=tk }/\N h'/\(∀ b o,b<s.heap.objs.size->s.heap.get? b=aa o->h'.get? b=aa o)) E) uL.init.plain F.entry_set_init (check_set_init_1 hT ?_)) λr₂ s₂ jd=>?_
  .obtain⟨ol,gl,cl,nl,dl⟩:=hl;obtain⟨ocls,AT,Y3,wo⟩:=ol;simp only at cl dl;subst cl;subst dl;have gl':(s.heap.push (Ami led)).get? l=aa { cls:=.type "list",dict:=AT,data:=.seq ai nl,slots:=wo }:=bG _ gl;have x1:=F.sub_list_set;have x2:=F.sub_list_frozenset;have x3:(jV "list" == jV "dict")=af:=by decide
   have L1:(s.heap.push (Ami led)).IsList l ai:=⟨_,gl',rfl,nl,rfl⟩;unfold Builtin.«set.__init__» noKeywords Builtin.Frozenset.updateFrom;generalize hPI:nV=PI
   wp_walk
   subst hPI;refine zT L1 (aF (wpAny_runValue ?_));have lS:l<s.heap.objs.size:=bI gl;have hI:(s.heap.push (Ami led)).objs.size=s.heap.objs.size+1:=qK _ _;have nI:l≠(s.heap.push (Ami led)).objs.size:=by rw[hI];exact cH (FO lS)
   have nS:s.heap.objs.size∉[(s.heap.push (Ami led)).objs.size,l]:=by
    intro z;rw[hI] at z;rcases cX.1 z with z|z
    .exact absurd z (cH (Im _))
    .exact absurd (cE.1 z) (iS lS)
   have gI:((s.heap.push (Ami led)).push { cls:=.type "list_iterator",data:=.fields #[.ref l,.int 0 0] }).get? s.heap.objs.size=aa (Ami led):=bG _ gS;refine hp _ _ _ _ rfl ((Walks.list (by simp[hh]) _ l nI ai).toS) nS ⟨⟨_,cL _ rfl,rfl,rfl⟩,L1.push _⟩ (λb o e=>bG _ (bG _ e)) (by rw[T5];exact gI) λs' hm S'=>?_
   obtain⟨h',g',d',nr,v4⟩:=s';obtain rfl:g'=s.gens:=hm.gens;obtain rfl:d'=s.drawn:=hm.drawn;obtain rfl:v4=s.os:=hm.os;show aM _ _ _ _ _ _;refine aN ?_;show aM _ _ (ret eE) _ _ _;refine aN ⟨rfl,h',nr,hm.toks,rfl,S',λb o hb e=>?_⟩
   refine hm.heap b o (λz=>?_) (bG _ (bG _ e))
   rw[hI] at z;rcases cX.1 z with z|z
   .exact absurd z (cH hb)
   .exact absurd (cE.1 z) (cH (FO hb))
  .match r₂,jd with
   |.error e,jd=>exact jd
   |.ok (.ret v),jd=>
    obtain⟨rfl,h',tk,ht,rfl,S',bz⟩:=jd
    repeat (any_goals (first|assumption|wp_step))
    exact h _ _ ht S' bz
theorem D1(hh:A.handled=ab)(bi:∀ k b,B k b->qQ k)(hu:A.units+40<cLine)(hl:s.heap.IsList l ai)
  (hd:∀ (j:Nat) v,ai[j]?=aa v->∃ b q,v=.ref b/\kss[j]?=aa q/\Abn s.heap q b/\B q b) (aw:(gP kss).length<=4900) (gv:kss.length=ai.size)
  (h:∀ (h':aQ) (tk:Nat),s.toks<=tk->SetT w B h' s.heap.objs.size (gP kss)->(∀ b o,b<s.heap.objs.size->s.heap.get? b=aa o->h'.get? b=aa o)->Q (.ref s.heap.objs.size) { s with heap:=h',toks:=tk }) :
  aM (aP prog w) A (call (.type "set") [.ref l]) Q E s:=by
 refine Wb hh hl (λA' R I s1 ha W nS st kp gI q=>?_) h
 refine j3 W bi () s.heap.objs.size nS kss aw (λi s1 st c hc o e z=>?_) (ai.size-0) 0 _ rfl (dW _) st (Vj gI) (λj v e=>?_) λs' hm S'=>q s' hm (by rw[<-AJ (l:=kss),gv];exact S')
 .obtain⟨⟨o',g',c',_⟩,_⟩:=st
  grind
 .obtain⟨b,q,q1,q2,q3,q4⟩:=hd j v e;exact⟨b,q,q1,q2,q3.keep λb o vs m z _ _=>kp b o z,q4⟩
end
abbrev isO (a:aC)(o:bC):HO:=.ext λh=>h.get? a=aa o
abbrev Refs (H:Hp)(ys:List V)(kss:List (List aA)):Prop:=cQ (λy k=>∃ b,y=V.ref b/\Arp H k b) ys kss
theorem VE:∀ {kss:List (List aA)} {ys:List V},(∀ ks∈kss,bR ks=ae/\cT ks<=6)->Aal K H (kss.map cW) ys->Refs H ys kss
 |[],ys,_,r=>by rw[Aaj.1 r];exact .nil
 |k::kss,ys,hk,r=>by
  obtain⟨v,t,rfl,r1,r2⟩:=Aaf.1 r;obtain⟨b,rfl,tk⟩:=r1.tupK (hk k bE).1 (hk k bE).2;exact .cons ⟨b,rfl,tk⟩ (VE (λx m=>hk x (bL _ m)) r2)
theorem Refs.le(x:∀ c zs,H c=aa (.tup zs)->H' c=aa (.tup zs))(r:Refs H ys kss):Refs H' ys kss:=pQ (λy k ⟨b,e,t⟩=>⟨b,e,t.keep x⟩) r
instance memK (k:aI)(aj:List aI):Decidable (k∈aj):=decidable_of_iff (aj.any (λx=>decide (x=k))=ae) (by simp[GB])
abbrev sW (h:aQ)(r l:aC)(i:Int):Prop:=h.get? r=aa { cls:=.type "list_reverseiterator",dict:=ab,data:=.fields #[.ref l,cY i],slots:=#[] }
theorem Ac8:OO "list_reverseiterator" "__next__" "list_reverseiterator.__next__":=
 .of (owner:="list_reverseiterator") (n:="__next__") (by rw[rS,rW];kernel_rfl) (by rw[0]) (by rw[0]) (by rw[0])
  (by first|exact .inl (by rw[0])|exact .inr (by rw[0])) (by rw[uA];kernel_rfl)
theorem Ds:rV table "list_reverseiterator.__next__" = aa Builtin.«list_reverseiterator.__next__»:=OJ (by kernel_rfl)
theorem ZX:Manifest.owners.lookup (String.ofList "list_reverseiterator".toList.reverse.reverse)=aa Manifest.sig_list_reverseiterator:=by kernel_rfl
theorem Dh (a:aD):qF "list_reverseiterator.__next__" ⟨[a],[]⟩:=by
 unfold qF;rw[OE (id:="list_reverseiterator.__next__") (n:="__next__".toList.reverse) (o:="list_reverseiterator".toList.reverse) (by kernel_rfl) ZX]
 kernel_rfl
theorem Dg:OO "list_reverseiterator" "__iter__" "list_reverseiterator.__iter__":=
 .of (owner:="list_reverseiterator") (n:="__iter__") (by rw[rS,rW];kernel_rfl) (by rw[0]) (by rw[0]) (by rw[0])
  (by first|exact .inl (by rw[0])|exact .inr (by rw[0])) (by rw[uA];kernel_rfl)
theorem f9:rV table "list_reverseiterator.__iter__" = aa Builtin.«dict_keyiterator.__iter__»:=
 FD (id':="dict_keyiterator.__iter__") (by kernel_rfl) (by first|rfl|decide +kernel|(unfold Hq;simp +decide [Ho])) (by rw[0]) (by kernel_rfl)
theorem d7 (a:aD):qF "list_reverseiterator.__iter__" ⟨[a],[]⟩:=by
 unfold qF;rw[OE (id:="list_reverseiterator.__iter__") (n:="__iter__".toList.reverse) (o:="list_reverseiterator".toList.reverse) (by kernel_rfl) ZX]
 kernel_rfl
section
variable {P:bN}
theorem i9{k:Nat}{Q:Option aD->aH->Prop}(hr:sW s.heap r l (k:Int))(hl:s.heap.IsList l us)(hu:us[k]?=aa u)
  (q:∀ h',sW h' r l ((k:Int)-1)->mT r s.heap h'->Q (aa u) { s with heap:=h' }):aM (aP P w) A (eY (.ref r)) Q E s:=by
 have ty:s.TypeIs (.ref r) "list_reverseiterator":=⟨_,hr,rfl⟩;obtain⟨ol,l1,_,nl,l2⟩:=hl;unfold eY;refine aF (nQ (jR ty Ac8 (fE Ac8 ty Ds ?_ (Dh _))));show aM _ _ (nX (.ref r) 1>>=_) _ _ s;refine aF (eK hr rfl (x:=cY k) rfl ?_);have h0:¬ ((k:Int)<0):=()
 show aM _ _ (if (k:Int)<0 then _ else _) _ _ s
 rw[if_neg h0];refine aF (eK hr rfl rfl (aF (hZ l1 l2 ?_)));simp only[pB,hu];refine aF (jP hr (by simp) λh' g sb=>aN ⟨u,rfl,aN (q h' g sb)⟩)
theorem z5{i:Int}{Q:Option aD->aH->Prop}(hh:A.handled=ab)(hr:sW s.heap r l i)(h0:i<0)(q:∀ h',(∀ b o,s.heap.get? b=aa o->h'.get? b=aa o)->Q ab { s with heap:=h' }):aM (aP P w) A (eY (.ref r)) Q E s:=by
 have ty:s.TypeIs (.ref r) "list_reverseiterator":=⟨_,hr,rfl⟩;unfold eY;refine aF (nQ (jR ty Ac8 (fE Ac8 ty Ds ?_ (Dh _))));show aM _ _ (nX (.ref r) 1>>=_) _ _ s;refine aF (eK hr rfl (x:=cY i) rfl ?_);show aM _ _ (if i<0 then _ else _) _ _ s
 rw[if_pos h0];refine aF (kO (aF ?_));rw[11];simp only[newExc,newTuple];refine aF (jQ ?_ (by size_fits))
 refine aF (wG (by first|rfl|(simp only[OI];rfl)) ?_)
 refine jQ ?_ (by size_fits)
 simp only[raiseNew];refine aF (NX ?_)
 first|rw[show A.in1.handled=ab from hh]|rw[hh]
 refine aF (aN (NU ?_));refine aF (oQ ⟨_,cL _ rfl,rfl⟩ zX ?_);exact aN (q _ λb o e=>bG _ (bG _ e))
theorem WA{i:Int}(hr:sW s.heap r l i)(q:Q (.ref r) s):aM (aP P w) A (nV (.ref r)) Q E s:=by
 have ty:s.TypeIs (.ref r) "list_reverseiterator":=⟨_,hr,rfl⟩;refine EZ ty Dg (fE Dg ty f9 ?_ (d7 _));exact aN ⟨_,rfl,"list_reverseiterator",_,ty,Ac8.lookup,q⟩
theorem Zw{Q₁:aD->aH->Prop}(hl:s.heap.get? l=aa { cls:=.type "list",dict:=ab,data:=.seq us n,slots:=sl })
  (q:Q₁ (.ref s.heap.objs.size) { s with heap:=s.heap.push { cls:=.type "list_reverseiterator",data:=.fields #[.ref l,cY ((us.size:Int)-1)] } }) :
  iR (aP P w) A (.call (.builtin "reversed.__new__") ⟨[.type "reversed",.ref l],[]⟩) (wants Q₁ E) s:=by
 have cb:isSubtype (.type "reversed") (.type "reversed")=pure ae:=by rw[uA];kernel_rfl
 refine Hn (by rw[0]) (OJ (by kernel_rfl):rV table "reversed.__new__" = aa Builtin.«reversed.__new__») (wG (show checkBuiltinCall "reversed.__new__" ⟨[.type "reversed",.ref l],[]⟩=pure Unit.unit by kernel_rfl) ?_)
 obtain⟨hp,g,d,tk,os⟩:=s;have ty:(⟨hp,g,d,tk,os⟩:aH).TypeIs (.ref l) "list":=⟨_,hl,rfl⟩;have f1:=PR.lookup;have f2:=PR.bind (.ref l);unfold Builtin.«reversed.__new__»
 wp_walk
 refine Hn PR.plain F.entry_list_reversed (PR.check _ _ _ _ _ _ _ _ ty (F.args_list_reversed_1 _) ?_)
 wp_walk
 exact q
theorem Uz(hl:s.heap.get? l=aa { cls:=.type "list",dict:=ab,data:=.seq us n,slots:=sl })
  (q:Q (.ref s.heap.objs.size) { s with heap:=s.heap.push { cls:=.type "list_reverseiterator",data:=.fields #[.ref l,cY ((us.size:Int)-1)] } }):aM (aP P w) A (call (.type "reversed") [.ref l]) Q E s:=by
 have mro:mroOf (.type "reversed")=pure [.type "reversed",.type "object"]:=by rw[mroOf_type];kernel_rfl
 have lk:tZ (.type "reversed") "__new__" = pure (aa (.builtin "reversed.__new__")):=by rw[rS,rW];kernel_rfl
 have At:Bind.madeBy (.type "reversed")=pure (aa "reversed.__new__"):=madeBy_type mro lk (by rw[0])
 have cb:isSubtype (.type "reversed") (.type "reversed")=pure ae:=by rw[uA];kernel_rfl
 have js:isSubtype (.type "list_reverseiterator") (.type "reversed")=pure af:=by rw[uA];kernel_rfl
 refine wpAny_call (codeAny_of_tree (show aM _ _ (callAny (.type "reversed") _) _ _ _ from ?_))
 refine aN ⟨Code.quiet_builtin _ (by rw[0]),jD F.entry_type_call ?_⟩
 rw[Around.under_plain (weight_type_call_type "reversed" [.ref l] []) rfl];have z1:(jV "reversed" == jV "type")=af:=by rw[0]
 have z2:((Manifest.find? "reversed").bind (·.mro.findSome? λt=>(Manifest.find? t).bind λb=>if b.noNew then aa ae else if b.attrs.any (·.1 == "__new__") then aa af else ab)).getD af=af:=by rw[0]
 have z3:checkTypeCall "reversed" ⟨[.ref l],[]⟩=pure Unit.unit:=by kernel_rfl
 repeat (any_goals (first|assumption|wp_step))
 refine zY (Zw (E:=E) (Q₁:=λu s1=>u=.ref s.heap.objs.size/\s1={ s with heap:=s.heap.push { cls:=.type "list_reverseiterator",data:=.fields #[.ref l,cY ((us.size:Int)-1)] } }) hl ⟨rfl,rfl⟩) λr s1 hr=>?_
 match r,hr with
 |.error e,hr=>exact hr
 |.ok (.ret u),hr=>
  obtain⟨rfl,rfl⟩:=hr;refine aF (oQ (T:="list_reverseiterator") (b:=af) ⟨_,cL _ rfl,rfl⟩ js ?_);exact aF (kO (aN q))
end
theorem Rc {α:Type}{l:List α}(h:i<l.length):(l[i]::l.eraseIdx i).Perm l:=by
 rw[Ji];refine List.perm_middle.symm.trans ?_;have:l.take i++l[i]::l.drop (i+1)=l:=by
  rw[<-Jj h,Ip]
 rw[this]
theorem Fy {α:Type}(f:Nat->Nat):∀ (n k:Nat) (l:List α) (out:Array α),l.length=n->(pickOrder.go f n k l out).toList.Perm (out.toList++l)
 |0,k,l,out,h=>by
  have:l=[]:=FV.1 h;rw[13];show out.toList.Perm _;simp
 |n+1,k,l,out,h=>by
  have hi:f k%l.length<l.length:=AH _ ()
  unfold pickOrder.go;rw[fN hi];rw[12];refine(Fy f n (k+1) _ _ (by rw[List.length_eraseIdx_of_lt hi];lia)).trans ?_
  rw[Array.toList_push,Jl];exact(Rc hi).append_left _
theorem A5 {α:Type}(f:Nat->Nat)(xs:Array α):(pickOrder f xs).toList.Perm xs.toList:=by
 have:=Fy f xs.size 0 xs.toList #[] (by simp)
 simpa [pickOrder] using this
def km (w:bA)(a:aC)(ep:Nat)(es:Array (Int×aD)):List (Int×aD):=if fJ w=ae then(pickOrder (w.params.setOrder a ep) es).toList else es.toList
theorem XR (w:bA)(a:aC)(ep:Nat)(es:Array (Int×aD)):(km w a ep es).Perm es.toList:=by
 unfold km;split
 .exact A5 _ _
 .exact .refl _
theorem yB (w:bA)(a:aC)(ep:Nat)(es:Array (Int×aD)):(km w a ep es).length=es.size:=by
 rw[(XR w a ep es).length_eq,kW]
def slotAt (w:bA)(t:eJ):Nat->Nat
 |0=>0
 |i+1=>if fJ w=ae then 0 else t.place.getD i 0+1
theorem KP (w:bA)(t:eJ)(i:Nat):slotAt w t (i+1)=if fJ w=ae then 0 else t.place.getD i 0+1:=rfl
theorem Ww(hr:mE t.place)(hb:fJ w=af)(hi:i<=t.place.size):below t.place (slotAt w t i)=i:=by
 obtain⟨b1,b2,b3⟩:=EA hr (slotAt w t i);cases i with
 |zero=>
  rcases Nat.eq_zero_or_pos (below t.place (slotAt w t 0)) with e|e
  .exact e
  .have:=b2 0 e (t.place[0]'()) (mW _)
   exact absurd this (by simp[slotAt])
 |succ i=>
  have hv:t.place[i]?=aa (t.place[i]'()):=mW _
  have es:slotAt w t (i+1)=t.place[i]'()+1:=by
   rw[KP,if_neg (by rw[hb];simp)]
   simp[Array.getD,show i<t.place.size by lia]
  rw[es] at b1 b2 b3 ⊢;rcases wU (below t.place (t.place[i]'()+1)) (i+1) with c|c|c
  .have:=b3 i () _ hv
   lia
  .exact c
  .have Y4:t.place[i+1]?=aa (t.place[i+1]'()):=mW _
   have h1:=b2 (i+1) c _ Y4;have h2:=hr i (i+1) _ _ () hv Y4
   lia
theorem XM (S:WSet w s.heap a o es ep t)(ig:fJ w=af->(!t.plain&&decide (es.size > 1))=af)(hi:i<=es.size){Q:Option (aD×Nat)->aH->Prop}
  (q:Q (((km w a ep es)[i]?).map λe=>(e.2,slotAt w t (i+1))) s):aM (aP prog w) A (setNext a (slotAt w t i) i ep) Q E s:=by
 unfold setNext;refine aF (tY S.get S.data S.fine.fits ?_);rw[12];unfold setsByText;refine aF (aF (FB (aN ?_)));by_cases hb:fJ w=ae
 .refine qA (λ_=>?_) (λz=>absurd hb z)
  rw[if_neg (by simp)]
  rw[11];unfold setWalk;refine aF (tY S.get S.data S.fine.fits ?_);rw[12];unfold setsByText;refine aF (aF (FB (aN ?_)));refine qA (λ_=>?_) (λz=>absurd hb z)
  refine aF (FB (aN (aN ?_)));have e1:km w a ep es=(pickOrder (w.params.setOrder a ep) es).toList:=by unfold km;rw[if_pos hb]
  have e2:∀ j,slotAt w t j=0:=λj=>by
   cases j with
   |zero=>rfl
   |succ j=>rw[KP,if_pos hb]
  rw[e1,e2 (i+1),pD] at q;rw[e2 i];exact q
 .refine qA (λz=>absurd z hb) (λ_=>?_)
  have BT:fJ w=af:=by simpa using hb
  refine qA (λz=>?_) (λ_=>?_)
  .have z':(!t.plain&&decide (es.size > 1))=ae:=z;rw[ig BT] at z';cases z'
  .refine aF (show aM _ _ (if (!t.led&&!es.isEmpty)=ae then unsupported "set:maker-not-led" else pure Unit.unit) _ _ _ from ?_)
   rw[if_neg (by rw[S.led,BT];simp)]
   refine aN (aN ?_);have e1:km w a ep es=es.toList:=by unfold km;rw[if_neg hb]
   have hz:=S.fine.good.len;have e3:below t.place (slotAt w t i)=i:=Ww S.fine.good.ris BT ()
   rw[e1,pD] at q;rw[e3];by_cases c:i<es.size
   .have p1:es[i]?=aa (es[i]'c):=mW _;have p2:t.place[i]?=aa (t.place[i]'()):=mW _
    have p3:slotAt w t (i+1)=t.place[i]'()+1:=by
     rw[KP,if_neg hb];simp[Array.getD,show i<t.place.size by lia]
    rw[p1,p3] at q;rw[p1,p2];exact q
   .have p1:es[i]?=ab:=Kd ()
    rw[p1] at q;rw[p1];exact q
abbrev uU (h:aQ)(r a:aC)(k i n ep:Nat):Prop:=h.get? r=aa { cls:=.type "set_iterator",dict:=ab,data:=.fields #[cY k,cY i,.ref a,cY n,cY ep],slots:=#[] }
theorem Aco:OO "set_iterator" "__next__" "set_iterator.__next__":=
 .of (owner:="set_iterator") (n:="__next__") (by rw[rS,rW];kernel_rfl) (by rw[0]) (by rw[0]) (by rw[0])
  (by first|exact .inl (by rw[0])|exact .inr (by rw[0])) (by rw[uA];kernel_rfl)
theorem Du:rV table "set_iterator.__next__" = aa Builtin.«set_iterator.__next__»:=OJ (by kernel_rfl)
theorem ZF:Manifest.owners.lookup (String.ofList "set_iterator".toList.reverse.reverse)=aa Manifest.sig_set_iterator:=by kernel_rfl
theorem De (a:aD):qF "set_iterator.__next__" ⟨[a],[]⟩:=by
 unfold qF;rw[OE (id:="set_iterator.__next__") (n:="__next__".toList.reverse) (o:="set_iterator".toList.reverse) (by kernel_rfl) ZF]
 kernel_rfl
theorem Dc:OO "set_iterator" "__iter__" "set_iterator.__iter__":=
 .of (owner:="set_iterator") (n:="__iter__") (by rw[rS,rW];kernel_rfl) (by rw[0]) (by rw[0]) (by rw[0])
  (by first|exact .inl (by rw[0])|exact .inr (by rw[0])) (by rw[uA];kernel_rfl)
theorem h9:rV table "set_iterator.__iter__" = aa Builtin.«dict_keyiterator.__iter__»:=
 FD (id':="dict_keyiterator.__iter__") (by kernel_rfl) (by first|rfl|decide +kernel|(unfold Hq;simp +decide [Ho])) (by rw[0]) (by kernel_rfl)
theorem d9 (a:aD):qF "set_iterator.__iter__" ⟨[a],[]⟩:=by
 unfold qF;rw[OE (id:="set_iterator.__iter__") (n:="__iter__".toList.reverse) (o:="set_iterator".toList.reverse) (by kernel_rfl) ZF]
 kernel_rfl
theorem d5:rV table "set.__iter__" = aa Builtin.«frozenset.__iter__»:=
 FD (id':="frozenset.__iter__") (by kernel_rfl) (by first|rfl|decide +kernel|(unfold Hq;simp +decide [Ho])) (by rw[0]) (by kernel_rfl)
theorem Vw (S:WSet w s.heap a o es ep t)(ig:fJ w=af->(!t.plain&&decide (es.size > 1))=af)(hr:uU s.heap r a (slotAt w t i) i es.size ep){e:Int×aD}(he:(km w a ep es)[i]?=aa e){Q:Option aD->aH->Prop}
  (q:∀ h',uU h' r a (slotAt w t (i+1)) (i+1) es.size ep->mT r s.heap h'->Q (aa e.2) { s with heap:=h' }):aM (aP prog w) A (eY (.ref r)) Q E s:=by
 have ty:s.TypeIs (.ref r) "set_iterator":=⟨_,hr,rfl⟩;have hi:i<es.size:=by
  rw[<-yB w a ep es];exact(cJ.1 he).1
 unfold eY;refine aF (nQ (jR ty Aco (fE Aco ty Du ?_ (De _))));show aM _ _ (fieldsOf (.ref r)>>=_) _ _ s;refine aF (NY hr rfl ?_);refine aF (Hg S.get S.data S.fine.fits ?_);rw[if_neg (by simp)]
 show aM _ _ (setNext a ((slotAt w t i:Int)).toNat ((i:Int)).toNat ((ep:Int)).toNat>>=_) _ _ s;rw[pB,pB,pB];refine aF (XM S ig () ?_)
 rw[he];refine aF (jP hr (by simp) λh1 g1 wn=>?_)
 refine aF (jP g1 (by simp) λh2 g2 N7=>aN ⟨e.2,rfl,aN (q h2 ?_ (wn.trans N7))⟩)
 exact g2
theorem l4 (hh:A.handled=ab)(S:WSet w s.heap a o es ep t)(ig:fJ w=af->(!t.plain&&decide (es.size > 1))=af)(hr:uU s.heap r a (slotAt w t es.size) es.size es.size ep){Q:Option aD->aH->Prop}
  (q:∀ h',(∀ b ob,b≠r->s.heap.get? b=aa ob->h'.get? b=aa ob)->Q ab { s with heap:=h' }):aM (aP prog w) A (eY (.ref r)) Q E s:=by
 have ty:s.TypeIs (.ref r) "set_iterator":=⟨_,hr,rfl⟩;unfold eY;refine aF (nQ (jR ty Aco (fE Aco ty Du ?_ (De _))));show aM _ _ (fieldsOf (.ref r)>>=_) _ _ s;refine aF (NY hr rfl ?_);refine aF (Hg S.get S.data S.fine.fits ?_);rw[if_neg (by simp)]
 show aM _ _ (setNext a ((slotAt w t es.size:Int)).toNat ((es.size:Int)).toNat ((ep:Int)).toNat>>=_) _ _ s;rw[pB,pB,pB];refine aF (XM S ig (bB _) ?_);rw[List.getElem?_eq_none (by rw[yB];exact bB _)]
 refine aF (jP hr (by simp) λh1 g1 wn=>?_)
 rw[11];simp only[newExc,newTuple];refine aF (jQ ?_ (by size_fits))
 refine aF (wG (by first|rfl|(simp only[OI];rfl)) ?_)
 refine jQ ?_ (by size_fits)
 simp only[raiseNew];refine aF (NX ?_)
 first|rw[show A.in1.handled=ab from hh]|rw[hh]
 refine aF (aN (NU ?_));refine aF (oQ ⟨_,cL _ rfl,rfl⟩ zX ?_);exact aN (q _ λb ob ne e=>bG _ (bG _ ((wn.2 b ne).trans e)))
theorem n8 {k:Nat}(hr:uU s.heap r a k i n ep)(q:Q (.ref r) s):aM (aP prog w) A (nV (.ref r)) Q E s:=by
 have ty:s.TypeIs (.ref r) "set_iterator":=⟨_,hr,rfl⟩;refine EZ ty Dc (fE Dc ty h9 ?_ (d9 _));exact aN ⟨_,rfl,"set_iterator",_,ty,Aco.lookup,q⟩
theorem l9 (S:WSet w s.heap a o es ep t)(ig:fJ w=af->(!t.plain&&decide (es.size > 1))=af)
  (q:Q (.ref s.heap.objs.size) { s with heap:=s.heap.push { cls:=.type "set_iterator",data:=.fields #[cY (0:Nat),cY (0:Nat),.ref a,cY (es.size:Nat),cY (ep:Nat)] } }):aM (aP prog w) A (nV (.ref a)) Q E s:=by
 have ty:s.TypeIs (.ref a) "set":=⟨_,S.get,S.exact.1⟩;refine EZ ty F.slot_set_iter (fE F.slot_set_iter ty d5 ?_ (F.args_set_iter_1 _));show aM _ _ (Builtin.Frozenset.sizeOf a>>=_) _ _ s;unfold Builtin.Frozenset.sizeOf;refine aF (aF (Hg S.get S.data S.fine.fits (aN ?_)));rw[11];unfold setDrawn;refine aF (tY S.get S.data S.fine.fits ?_);rw[12];unfold setsByText;refine aF (aF (FB (aN ?_)));refine aN ?_;refine qA (λz=>?_) (λ_=>aF (aN ?_))
 .have z':(!(w.params.followText "set-order")&&(!t.plain&&decide (es.size > 1)))=ae:=z;cases hb:fJ w with
  |true=>
   have BT:w.params.followText "set-order" = ae:=hb;rw[BT] at z';cases z'
  |false=>
   rw[ig hb] at z';simp at z'
 .refine aF (wpAny_setEpoch_of S.get S.data S.fine.fits ?_);exact aF (jQ (aN ⟨_,rfl,"set_iterator",_,⟨_,cL _ rfl,rfl⟩,Aco.lookup,q⟩) (by size_fits))
theorem G4 (hh:A.handled=ab)(r a:aC)(ne:a≠r){h0:aQ}(S:WSet w h0 a o es ep t)(ig:fJ w=af->(!t.plain&&decide (es.size > 1))=af) :
  Walks prog w A r [r,a] [r] es.size (λi v=>∃ e,(km w a ep es)[i]?=aa e/\v=e.2) (λi h=>uU h r a (slotAt w t i) i es.size ep/\h.get? a=aa o) where
 sub:=λb hb=>by rw[cE.1 hb];exact bE
 frame:=λ_ _ _ st hk=>⟨hk r bE _ st.1,hk a (bL _ bE) _ st.2⟩
 item:=λi s Q E hi st hQ=>by
  have S':WSet w s.heap a o es ep t:=⟨st.2,S.exact,S.data,S.fine,S.led⟩;have hx:(km w a ep es)[i]?=aa ((km w a ep es)[i]'(by rw[yB];exact hi)):=fN _
  exact Vw S' ig st.1 hx λh' gi sb=>hQ _ h' s.toks ⟨_,hx,rfl⟩ ⟨gi,(sb.2 a ne).trans st.2⟩ λb o hb e=>(sb.2 b (λz=>hb (cE.2 z))).trans e
 done:=λs Q E st hQ=>by
  have S':WSet w s.heap a o es ep t:=⟨st.2,S.exact,S.data,S.fine,S.led⟩;exact l4 hh S' ig st.1 λh' he=>hQ h' s.toks λb ob hb e=>he b ob (λz=>hb (cE.2 z)) e
 self:=λ_ _ _ _ st hQ=>n8 st.1 hQ
def GK (K:aK)(a:aC)(n:Nat):It:=
 ⟨λi H=>∃ xs,SqL K H a xs/\xs.length=n/\i<n,λi H x H'=>H'=H/\∀ xs,SqL K H a xs->xs[n-1-i]?=aa x,λi H=>n<=i⟩
theorem n9 {P:bN}(a r:aC)(n:Nat):Turn P w K tg (GK K a n) [r] r (λi h=>sW h r a ((n:Int)-1-i)) where
 mem:=cE.2 rfl
 obj:=λi h st b hb=>by
  rw[cE.1 hb];exact⟨_,st,λv z=>by
   have z':=z;cases z'⟩
 keep:=λi h h' st k=>k r (cE.2 rfl) _ st
 item:=by
  rw[1];obtain⟨xs,hq,hn,hi⟩:=hg;obtain⟨its,rv,p,hz⟩:=I.list hq;have hl:=rv.length;obtain⟨x,hx⟩:∃ x,xs[n-1-i]?=aa x:=⟨_,fN ()⟩
  obtain⟨u,hu,ru⟩:=rv.get hx;have ei:((n:Int)-1-i)=((n-1-i:Nat):Int):=()
  rw[ei] at st;refine i9 st p.isList (by simpa using hu) λh' gi sb=>?_
  have I1:Inv X ac Z H { s with heap:=h' }:=I.turnM hf λb o nb e=>sb.extBut b o (λq=>nb (cE.2 q)) e
  have il:sW h' r a ((n:Int)-1-((i+1:Nat):Int)):=by
   have e2:((n:Int)-1-((i+1:Nat):Int))=((n-1-i:Nat):Int)-1:=()
   rw[e2];exact gi
  exact⟨u,rfl,zO il rfl rfl nofun ⟨x,H,I1,ru,⟨rfl,λgs h=>by rw[I.list_inj h hq];exact hx⟩,il,λb hb=>(hf b hb).1⟩⟩
 done:=by
  rw[1];have hg':n<=i:=hg;exact z5 (I.ok.hd hc) st () λh' eb=>⟨rfl,I.turnM hf λb o nb e=>eb b o e⟩
 self:=λ_ _ _ _ _ st h=>WA st h
section
variable {a:aU}{p:bK}
def La (K:aK)(ta:TA):TI:=λZ H R=>ta Z H λvs H1=>∃ a1 xs,vs=[.ref a1]/\SqL K H1 a1 xs/\R (GK K a1 xs.length) H1
theorem Qd(hg:Gl X "reversed")(hm:X.mg "reversed" = ab)(ha:PA X [a] ta)(hs:bW [a] X.env=[(af,bT a X.env)]:=by rfl):PI X tg (.Call (.Name "reversed" p) [a] [] pos) (La X.K ta):=by
 intro ac s Z H R I h;refine Call_ (pP I hg hm boot_reversed (wN (bb (ha pos ac s Z H _ I h) λus s1 ⟨vs,H1,I1,r1,q1⟩=>?_) hs (by rfl)))
 obtain⟨a1,xs,rfl,k1,q⟩:=q1;obtain⟨u,rfl,ru⟩:=vals1 r1;cases ru;obtain⟨its,rv,⟨o,n,ho,oy,iy,ux⟩,hz⟩:=I1.list k1;have hl:=rv.length;obtain⟨c,X4,X5,sl⟩:=o;simp only at oy iy ux;subst oy iy ux;have g:sW (s1.heap.push { cls:=.type "list_reverseiterator",data:=.fields #[.ref a1,cY ((its.toArray.size:Int)-1)] }) s1.heap.objs.size a1 ((its.toArray.size:Int)-1):=cL _ rfl;refine Uz ho (WA g ?_);refine⟨s1.heap.objs.size,[s1.heap.objs.size],_,_,H1,rfl,I1.kept λb o e=>bG _ e,n9 a1 _ xs.length,?_,λb hb=>?_,q⟩
 .have e:((xs.length:Int)-1-((0:Nat):Int))=((its.toArray.size:Int)-1):=by
   rw[dX,hl];simp
  rw[e];exact g
 .rw[cE.1 hb];exact I1.fpOk (bB _) (I1.hok.fresh (bB _))
def iRv (fa:AF):AF:=λY=>(fa Y).bind λds=>match ds with
 |[.list xs]=>aa xs.reverse
 |_=>ab
theorem Rt{B:Hp}(h1:∀ H2,Ext B H2->SqL K H2 a1 xs)(r1:Aal K B ds xs):oa K B (GK K a1 xs.length) ds.reverse:=λi H2 x2=>by
 have hl:=r1.length;refine⟨λd hd=>?_,λe=>?_⟩
 .have hi:i<ds.length:=by
   have:=(cJ.1 hd).1;simpa using this
  rw[List.getElem?_reverse hi] at hd;obtain⟨v1,g1,g2⟩:=r1.get hd;refine⟨⟨xs,h1 H2 x2,rfl,()⟩,?_⟩
  rintro x H3 ⟨rfl,hx⟩;have:=hx xs (h1 _ x2);rw[hl] at this;obtain rfl:v1=x:=fF (g1.symm.trans this);exact⟨Ext.refl,λP2 _ xb=>g2.ext xb⟩
 .have e':ds.length=i:=by simpa using e
  show xs.length<=i
  lia
theorem Oj(hg:Gl X "reversed")(hm:X.mg "reversed" = ab)(ha:DA X [a] fa)(hs:bW [a] X.env=[(af,bT a X.env)]:=by rfl) :
  DI X tg (.Call (.Name "reversed" p) [a] [] pos) (iRv fa):=PI.imp (Qd hg hm ha hs) λZ H R gh=>by
 obtain⟨P,Y,ds,hP,rs,ef,k⟩:=gh;obtain⟨as,e1,bm⟩:=ak ef;clear ef;split at bm
 .cases bm;refine⟨P,Y,_,hP,rs,e1,λvs H1 x1 r1=>?_⟩
  obtain⟨v,rfl,q1⟩:=fT r1;obtain⟨a1,xs,rfl,hr,rr⟩:=Aa7.1 q1;exact⟨a1,xs,rfl,Aam.sqL hr,k _ H1 x1 (Rt (λH2 x2=>x2.sqL hr) rr)⟩
 .cases bm
end
theorem y6{Q:Bool->aH->Prop}(ty:s.TypeIs (.ref a) "set")(q:Q af s):aM (aP prog w) A (Jx (.ref a)) Q E s:=by
 unfold Jx;refine aF (wD ty F.slot_set_len.lookup ?_);generalize hid:("set.__len__" : String)=id0
 wp_delta
 rw[show splitId id0=aa ("set","__len__") from by subst hid;decide +kernel]
 subst hid;refine aF (oQ ty sub_set_self ?_);refine qA (λji=>absurd ji nofun) (λ_=>?_)
 refine qA (λ_=>?_) (λji=>absurd (by rw[0]) ji)
 refine aF (mN ty ?_);exact aN q
set_option maxHeartbeats 4000000 in
theorem Zd(hh:A.handled=ab)(S:WSet w s.heap a o es ep t)(ig:fJ w=af->(!t.plain&&decide (es.size > 1))=af){Q:List aD->aH->Prop}
  (q:∀ h' tk,s.toks<=tk->s.heap.objs.size<h'.objs.size->(∀ b ob,s.heap.get? b=aa ob->h'.get? b=aa ob)->Q ((km w a ep es).map (·.2)) { s with heap:=h',toks:=tk }):aM (aP prog w) A (collect (.ref a)) Q E s:=by
 have aS:=bI S.get;unfold collect;refine aF (wpAny_runValue (jD F.entry_proto_collect ?_));rw[kX F.plain_proto_collect _];refine aF (show aM _ A.in1 (newList []) _ _ s from jQ ?_)
 refine aN ⟨jS F.plain_list_iadd _,jD F.entry_list_iadd ?_⟩;rw[kX F.plain_list_iadd _];generalize T6:s.heap.push { cls:=.type "list",data:=.seq ([]:List aD).toArray }=h1;have k1:∀ b ob,s.heap.get? b=aa ob->h1.get? b=aa ob:=λb ob e=>by rw[<-T6];exact bG _ e
 have z1:h1.objs.size=s.heap.objs.size+1:=by rw[<-T6];exact qK _ _
 have g1:h1.get? s.heap.objs.size=aa { cls:=.type "list",data:=.seq ([]:List aD).toArray }:=by rw[<-T6];exact cL _ rfl
 have S1:WSet w h1 a o es ep t:=⟨k1 _ _ S.get,S.exact,S.data,S.fine,S.led⟩;show aM _ A.in1 (AX (.ref s.heap.objs.size) (.ref a) (.ref s.heap.objs.size)) _ _ _;unfold AX;refine aF (mN ⟨_,S1.get,S1.exact.1⟩ ?_);have n1:QC (.ref s.heap.objs.size) (.ref a)=af:=by simp[QC,iS aS]
 rw[if_neg (by rw[n1];decide)]
 refine aF (l9 S1 ig ?_);generalize Y5:h1.push { cls:=.type "set_iterator",data:=.fields #[cY (0:Nat),cY (0:Nat),.ref a,cY (es.size:Nat),cY (ep:Nat)] }=h2;have k2:∀ b ob,h1.get? b=aa ob->h2.get? b=aa ob:=λb ob e=>by rw[<-Y5];exact bG _ e
 have gr:uU h2 h1.objs.size a (slotAt w t 0) 0 es.size ep:=by rw[<-Y5];exact cL _ rfl
 have S2:WSet w h2 a o es ep t:=⟨k2 _ _ S1.get,S.exact,S.data,S.fine,S.led⟩;have ne:a≠h1.objs.size:=by rw[z1];exact cH (FO aS)
 refine aF (eP (y6 ⟨_,S2.get,S2.exact.1⟩ ?_));refine qA (λ_=>?_) (λz=>absurd (by rw[0]) z)
 refine aF (kO ?_);refine aF (show aM _ A.in1 (zW s.heap.objs.size (·.push .none)>>=λ_=>zW s.heap.objs.size (·.pop)) _ _ _ from ?_)
 refine aF (tX (k2 _ _ g1) rfl ?_);have Y6:=sA (fG (·.push eE)) (k2 _ _ g1) rfl;refine tX Y6 rfl ?_;have hS3:=sA (fG (·.pop)) Y6 rfl;have T7:∀ b ob,b≠s.heap.objs.size->h2.get? b=aa ob->((h2.update s.heap.objs.size (fG (·.push eE))).update s.heap.objs.size (fG (·.pop))).get? b=aa ob:=
  λb ob hb e=>(qL _ _ (fL hb)).trans ((qL _ _ (fL hb)).trans e)
 have nS:s.heap.objs.size∉[h1.objs.size,a]:=by
  intro z;rcases cX.1 z with z|z
  .rw[z1] at z;exact absurd z (cH (Im _))
  .exact absurd (cE.1 z) (iS aS)
 have few:=S.fine.few;refine aN ⟨jS F.plain_extend_loop _,codeAny_extend_loopS ((G4 (by simp[hh]) h1.objs.size a ne S2 ig).toS) (by rw[nU];lia) _ nS _ es.size 0 _ _ _ rfl (dW _) ⟨T7 _ _ (by rw[z1];exact Nat.succ_ne_self _) gr,T7 _ _ (cH aS) S2.get⟩ hS3 (ItemsOf.nil _) λs' bf c' hm gy cy=>?_⟩
 refine aF (wpAny_load gy (aN ?_));obtain⟨h',g',d',nr,v4⟩:=s';obtain rfl:g'=s.gens:=hm.gens;obtain rfl:d'=s.drawn:=hm.drawn;obtain rfl:v4=s.os:=hm.os;have T8:bf.toList=(km w a ep es).map (·.2):=by
  apply Jh;intro j;rw[eZ,pD];by_cases hj:j<es.size
  .have e1:bf[j]?=aa (bf[j]'(by rw[cy.1];exact hj)):=mW _
   obtain⟨e,he,ev⟩:=cy.2 j _ e1;rw[e1,he,ev]
   rfl
  .rw[Kd (by rw[cy.1];lia),List.getElem?_eq_none (by rw[yB];lia)]
   rfl
 rw[T8];refine q h' nr hm.toks (bI gy) λb ob e=>?_
 have hb:=bI e;refine hm.heap b ob (λz=>?_) (T7 b ob (cH hb) (k2 _ _ (k1 _ _ e)))
 rcases cX.1 z with z|z
 .exact absurd z (cH hb)
 .have z2:=cE.1 z;rw[z1] at z2;exact absurd z2 (cH (FO hb))
theorem Tp {k k':aI}{v:aD}(r:RelV (kV k) u)(r':RelV (kV k') v):OW u v (decide (k=k')):=by
 intro prog w A E s Q q;cases k with
 |inl i=>
  obtain⟨t,rfl⟩:=(show ∃ t,u=uD i t from r)
  cases k' with
  |inl j=>
   obtain⟨t',rfl⟩:=(show ∃ t,v=uD j t from r')
   refine SeqAt.EqAt.int_int i t j t' prog w E Q ?_;have:(i==j)=decide ((wL i:aI)=wL j):=by
    rw[nY];simp
   rw[this];exact q
  |inr y=>
   obtain⟨t',rfl⟩:=(show ∃ t,v=uC y t from r')
   exact SeqAt.EqAt.int_str i t y t' prog w E Q (by simpa using q)
 |inr x=>
  obtain⟨t,rfl⟩:=(show ∃ t,u=uC x t from r)
  cases k' with
  |inl j=>
   obtain⟨t',rfl⟩:=(show ∃ t,v=uD j t from r')
   exact SeqAt.EqAt.str_int x t j t' prog w E Q (by simpa using q)
  |inr y=>
   obtain⟨t',rfl⟩:=(show ∃ t,v=uC y t from r')
   refine SeqAt.EqAt.str_str x t y t' prog w E Q ?_;have:(x==y)=decide ((jE x:aI)=jE y):=by
    rw[nY];simp
   rw[this];exact q
theorem o6 (l:aC)(us:Array aD)(n:Nat)(dd:Option aC)(sl:Array (Option aD))(x:aD)(e:aD->Bool)(he:∀ y,y∈us->OW y x (e y))(gp:Int)(j:Nat)(hj:j<us.size)(ht:(j:Int)<gp)(hit:e us[j]=ae) :
  ∀ (k i:Nat),j-i=k->i<=j->(∀ m (hm:m<us.size),i<=m->m<j->e us[m]=af)->Meets (Builtin.«list.index.loop» ⟨[.ref l,x,cY i,cY gp],[]⟩)
   (λ_ R s=>s.heap.get? l=aa { cls:=.type "list",dict:=dd,data:=.seq us n,slots:=sl }/\R (.ok (.ret (.int j s.toks))) { s with toks:=s.toks+1 }):=by
 intro k;induction k with
 |zero=>
  intro i hk ie js prog w A R s h;obtain⟨hp,g,d,tk,os⟩:=s;obtain⟨hl,h⟩:=h;obtain rfl:i=j:=()
  wp_walk using wpAny_loadPart' hl
  rw[show(if (i:Int)<gp then us[((i:Nat):Int).toNat]? else ab)=aa us[i] by simp[ht,hj]]
  refine aF (he _ (Array.getElem_mem hj) prog w _ _ _ _ ?_);rw[hit]
  wp_walk
  exact h
 |succ k ih=>
  intro i hk ie js prog w A R s h;obtain⟨hp,g,d,tk,os⟩:=s;obtain⟨hl,h⟩:=h;have lt:i<us.size:=()
  have lo:(i:Int)<gp:=()
  wp_walk using wpAny_loadPart' hl
  rw[show(if (i:Int)<gp then us[((i:Nat):Int).toNat]? else ab)=aa us[i] by simp[lo,lt]]
  refine aF (he _ (Array.getElem_mem lt) prog w _ _ _ _ ?_);rw[js i lt (bB _) ()]
  wp_walk
  rw[show((i:Int)+1)=((i+1:Nat):Int) by push_cast;rfl]
  refine⟨jS OV _,jD MeetsSeq.entry_index_loop ?_⟩;rw[kX OV _];exact ih (i+1) () () (λm hm h1 h2=>js m hm () h2) prog w A R _ ⟨hl,h⟩
theorem A3 (l:aC)(us:Array aD)(n:Nat)(dd:Option aC)(sl:Array (Option aD))(x:aD)(e:aD->Bool)(he:∀ y,y∈us->OW y x (e y))(j:Nat)(hj:j<us.size)(small:(j:Int)<2^63-1)(hit:e us[j]=ae)(js:∀ m (hm:m<us.size),m<j->e us[m]=af) :
  Meets (Builtin.«list.index» ⟨[.ref l,x],[]⟩) (λ_ R s=>s.heap.get? l=aa { cls:=.type "list",dict:=dd,data:=.seq us n,slots:=sl }/\R (.ok (.ret (.int j s.toks))) { s with toks:=s.toks+1 }):=by
 intro prog w A R s h;obtain⟨hp,g,d,tk,os⟩:=s;obtain⟨hl,h⟩:=h
 wp_walk using wpAny_loadPart' hl
 rw[show((λi:Int=>if i<0 then max 0 (i+(us.size:Int)) else i) ((ab:Option Int).getD 0))=((0:Nat):Int) by simp,show((λi:Int=>if i<0 then max 0 (i+(us.size:Int)) else i) ((ab:Option Int).getD (2^63-1)))=2^63-1 by simp]
 refine⟨jS OV _,jD MeetsSeq.entry_index_loop ?_⟩;rw[kX OV _];exact o6 l us n dd sl x e he (2^63-1) j hj small hit _ 0 rfl (dW _) (λm hm _ h2=>js m hm h2) prog w A R _ ⟨hl,h⟩
def jz (ks:List aI)(k:aI):Option Nat:=ks.findIdx? λy=>decide (y=k)
theorem VI {ks:List aI}{k:aI}(h:jz ks k=aa j):ks[j]?=aa k/\∀ m,m<j->ks[m]?≠aa k:=by
 obtain⟨hj,h1,h2⟩:=List.findIdx?_eq_some_iff_getElem.1 h;refine⟨by rw[fN hj,of_decide_eq_true h1],λm hm e=>?_⟩
 have:=h2 m hm;have hl:m<ks.length:=()
 rw[fN hl] at e;exact this (decide_eq_true (fF e))
theorem DX:∀ {ks:List aI} {us:List aD},Vals (ks.map kV) us->∀ (m:Nat) (hm:m<us.length),∃ k,ks[m]?=aa k/\RelV (kV k) us[m]
 |[],_,.nil,m,hm=>by simp at hm
 |k::ks,_::us,.cons h t,0,hm=>⟨k,rfl,h⟩
 |k::ks,_::us,.cons h t,m+1,hm=>by
  obtain⟨k',e,r⟩:=DX t m (by simpa using hm)
  exact⟨k',by simpa using e,by simpa using r⟩
def pj (k:aI)(u:aD):Bool:=match k,u with
 |.inl i,.int j _=>decide (j=i)
 |.inr x,.str y _=>decide (y=x)
 |_,_=>af
theorem IF {k k':aI}(r:RelV (kV k) u):pj k' u=decide (k=k'):=by
 cases k with
 |inl i=>
  obtain⟨t,rfl⟩:=(show ∃ t,u=uD i t from r)
  cases k' with
  |inl j=>simp[pj]
  |inr y=>simp[pj]
 |inr x=>
  obtain⟨t,rfl⟩:=(show ∃ t,u=uC x t from r)
  cases k' with
  |inl j=>simp[pj]
  |inr y=>simp[pj]
def Rj (K:aK):V->List V->Hp->VK->Prop:=λx vs H Q=>∃ p ks k j,x=.ref p/\vs=[kV k]/\SqL K H p (ks.map kV)/\jz ks k=aa j/\Q (.int j) H
theorem ZE {ks:List aI}{k:aI}{us:List aD}{v:aD}(r:Vals (ks.map kV) us)(rk:RelV (kV k) v)(h:jz ks k=aa j) :
  (∀ y,y∈us.toArray->OW y v (pj k y))/\∃ hj:j<us.toArray.size,pj k us.toArray[j]=ae/\∀ m (hm:m<us.toArray.size),m<j->pj k us.toArray[m]=af:=by
 obtain⟨h1,h2⟩:=VI h;have hl:ks.length=us.length:=by simpa using r.length
 have hj:j<us.length:=by rw[<-hl];exact(cJ.1 h1).1
 refine⟨λy m=>?_,by simpa using hj,?_,λm hm bh=>?_⟩
 .obtain⟨i,hi,rfl⟩:=uI (show y∈us by simpa using m)
  obtain⟨k',e,rr⟩:=DX r i hi;rw[IF rr];exact Tp rr rk
 .obtain⟨k',e,rr⟩:=DX r j hj;rw[h1] at e;cases e;show pj k us[j]=ae;rw[IF rr];simp
 .have tq:m<us.length:=by simpa using hm
  obtain⟨k',e,rr⟩:=DX r m tq;show pj k us[m]=af;rw[IF rr];exact decide_eq_false λq=>h2 m bh (q ▸ e)
theorem Vy:MtR X "list.index" (Rj X.K):=by
 intro ac s Z H x vs v us Q I rx rv h;obtain⟨p,ks,k,j,rfl,rfl,hp,hj,q⟩:=h;cases rx;obtain⟨u,rfl,ru⟩:=rv.one;obtain⟨its,r,pl,hz⟩:=I.list hp;obtain⟨he,bh,hit,js⟩:=ZE r ru hj;obtain⟨⟨cls,dd,data,sl⟩,n,e,hc,_,hd⟩:=pl;simp only at hc hd;subst hc hd;have hn:=rG;have lz:its.toArray.size<=sizeLine:=by rw[dX,<-r.length];exact hz
 refine zZ J5 ⟨_,e,rfl⟩ PySem.F.entry_list_index (PySem.F.args_list_index_2 _ _) (A3 p its.toArray n dd sl u (pj k) he j bh () hit js) ⟨e,⟨.int j,H,I.tok _,⟨_,rfl⟩,q⟩⟩
def mY:List aA->Option (List aI)
 |[]=>aa []
 |d::r=>(bU d).bind λk=>(mY r).bind λks=>aa (k::ks)
theorem LW:∀ {ds:List aA} {xs:List V} {ks:List aI},mY ds=aa ks->Aal K H ds xs->xs=ks.map kV
 |[],xs,ks,e,r=>by
  cases e;exact Aaj.1 r
 |d::ds,xs,ks,e,r=>by
  obtain⟨k,e1,e2⟩:=ak (show((bU d).bind λk=>(mY ds).bind λks=>aa (k::ks))=aa ks from e)
  obtain⟨fw,e3,e4⟩:=ak e2;cases e4;obtain⟨v,t,rfl,h1,h2⟩:=Aaf.1 r;rw[kN e1 h1,LW e3 h2]
  rfl
def GY (ds:List aA)(d:aA):Option aA:=(mY ds).bind λks=>(bU d).bind λk=>(jz ks k).bind λj=>aa (.int j)
section
variable {o k:aU}{fo:EF}
theorem A6{r:aA}(h:GY ds d=aa r):∃ ks kk j,mY ds=aa ks/\bU d=aa kk/\jz ks kk=aa j/\r=.int j:=by
 obtain⟨ks,e1,h⟩:=ak h;obtain⟨kk,e2,h⟩:=ak h;obtain⟨j,e3,h⟩:=ak h;cases h;exact⟨ks,kk,j,e1,e2,e3,rfl⟩
def IV:aA->aA->Option aA
 |.list ds,d=>GY ds d
 |_,_=>ab
theorem F1 (ho:DE X o fo)(hk:DE X k fk)(q5:Bm X o k [] "index" av ay:=by exact⟨rfl,rfl,rfl,rfl,rfl⟩) :
  DE X (.Call (.Attribute o "index" av) [k] [] ay) (ah IV fo fk):=
 PE.imp (pK FI J5 PySem.F.type_list_index Vy ho (fK hk iE q5.s) q5) λZ H Q gh=>by
  obtain⟨P,Y,d,hP,rs,ef,kk⟩:=gh;obtain⟨d1,e1,bm⟩:=ak ef;obtain⟨d2,e2,bq⟩:=ak bm;cases d1 with
  |list ds=>
   obtain⟨ks,key,j,g1,g2,g3,rfl⟩:=A6 (show GY ds d2=aa d from bq)
   refine⟨P,Y,_,hP,rs,e1,eB λv H1 x1 r1=>?_⟩
   obtain⟨q,ys,rfl,hq,rr⟩:=Aa7.1 r1;obtain rfl:=LW g1 rr;refine⟨.inl ⟨rfl,_,Aam.sqL hq⟩,P,Y,d2,hP.ext x1,rs.ext (dB x1),e2,eB λu H2 x2 r2=>?_⟩
   exact⟨q,ks,key,j,rfl,by rw[kN g2 r2],x2.sqL (Aam.sqL hq),g3,kk.zero (x1.trans x2) (Aak.2 rfl)⟩
  |_=>cases bq
theorem LP:∀ {ds:List aA} {xs:List V} (n:Nat),Aal K H ds xs->Aal K H (ds.eraseIdx n) (xs.eraseIdx n)
 |[],xs,n,r=>by
  rw[Aaj.1 r];exact Aaj.2 rfl
 |d::ds,xs,0,r=>by
  obtain⟨v,t,rfl,h1,h2⟩:=Aaf.1 r;exact h2
 |d::ds,xs,n+1,r=>by
  obtain⟨v,t,rfl,h1,h2⟩:=Aaf.1 r;exact Aaf.2 ⟨v,_,rfl,h1,LP n h2⟩
theorem XC {j pos}:DF 1 X (.Constant .none j pos) (eC .none):=PE.imp TX λZ H Q gh=>by
 rw[4];cases ef;exact k .non H [] Ext.refl .nil (λa m=>by simp at m) ⟨rfl,Abr.2 rfl⟩
end
open PySem PySem.Spec PySem.W PyProof.Rows PySem.SetTable
theorem JN {α:Type}(xs:List α)(d:α):(cG xs.length).map (λi=>xs.getD i d)=xs:=by
 apply FZ
 .simp
 .intro i h1 h2;simp at h1;simp[h1]
theorem p9 {h0:aQ}{P:OP->aH->Prop}(ho:s.heap.get? a=aa (fY "list" vs.toArray n))(ht:Ae7 h0 vs kss)(kp:∀ b o,h0.get? b=aa o->(nE s.heap a vs).get? b=aa o)(ok:ib kss=ae)(kz:vs.length<64)
  (h:∀ p:List Nat,p.Perm (cG vs.length)->p.map (λi=>kss.getD i [])=gZ kss->P (.done (.ret .none)) { s with heap:=sortedHeap s.heap a vs (gW (p.map λi=>vs.getD i eE)) }) :
  aM (aP prog w) A (Builtin.«list.sort» ⟨[.ref a],[]⟩) P E s:=by
 have ln:=jX ht;by_cases h2:vs.length<2
 .refine YC ho h2 ?_;have:=h (cG vs.length) (PL _) (by
   rw[ln,JN kss];refine yS ok (PL _) ?_
   match kss,ln with
   |[],_=>exact .nil
   |[k],_=>simp
   | _::_::_,ln=>simp at ln;lia)
  rw[JN vs] at this;exact this
 .have hs:sameAll kss=ae/\(kss.all λk=>(kG k).isSome)=ae:=by
   have xi:¬ kss.length<2:=()
   have:(sameAll kss&&kss.all λk=>(kG k).isSome)=ae:=by simpa [ib,xi] using ok
   exact iK.1 this
  obtain⟨k0,m0⟩:∃ k0,k0∈kss:=by
   cases hk:kss with
   |nil=>rw[hk] at ln;exact absurd ln (by simp;intro e;rw[e] at h2;simp at h2)
   |cons k r=>exact⟨k,bE⟩
  obtain⟨T,hT⟩:=wQ.1 (dQ.1 hs.2 k0 m0);have sm:∀ k∈kss,∀ k'∈kss,eG k k'=ae:=λk m k' m'=>dQ.1 (dQ.1 hs.1 k m) k' m'
  have xn:=ht.keep kp;refine Fm (κ:=tuples' (jV T != jV "tuple")) (UH kss) ho () kz (λR q=>?_) (λi j C hi hj q=>?_) λp hp ha=>?_
  .obtain⟨fs,f1,f2,f3⟩:=LA (M:=aP prog w) xn λk m=>(same_kind (sm k m k0 m0)).trans hT
   exact kat_kind f1 () f3 (by rcases Fw hT with rfl|rfl<;>decide) q
  .obtain⟨b,e1,⟨_,_,as,r1⟩,m1⟩:=xn.get i hi;obtain⟨b',e2,⟨_,_,pc,r2⟩,m2⟩:=xn.get j hj;rw[e1,e2];obtain⟨_,o,xs,n,z,ho,_,hd,hr⟩:=lT r1;cases z;obtain⟨_,o',gs,n',z,mi,_,ko,uz⟩:=lT r2;cases z;have wj:=sm _ m1 _ m2;have l1:=tV hr;have l2:=tV uz;have ll:=yP wj;have:decide (xs.size<gs.size)=af:=decide_eq_false (by simp only[kW] at l1 l2;lia)
   refine kat_lt ho hd mi ko ?_;rw[this];exact BX _ _ 0 wj hr uz q
  .have fy:p.toList.Perm (cG vs.length):=by simpa using K9.1 hp
   have pl:p.toList.length=vs.length:=by rw[fy.length_eq,FT]
   refine h p.toList fy (yS ok ?_ ?_)
   .have:=fy.map (λi=>kss.getD i [])
    rw[ln,JN kss] at this;exact this
   .rw[AM,OY];intro i j hi hj ie;refine Agd.2 ?_;have:=ha i j (oX ie) ()
    have e1:at' p i=p.toList[i]:=by simp at hi;simp[at',hi]
    have e2:at' p j=p.toList[j]:=by simp at hj;simp[at',hj]
    rw[e1,e2] at this;exact of_decide_eq_false this
theorem k7(p:qs.Perm kss)(h:ib kss=ae):ib qs=ae:=by
 unfold ib at h ⊢;rw[p.length_eq];by_cases h2:kss.length<2
 .simp[h2]
 .have h':(sameAll kss&&kss.all λk=>(kG k).isSome)=ae:=by simpa [h2] using h
  obtain⟨h3,h4⟩:=iK.1 h';have h5:sameAll qs=ae:=dQ.2 λk m=>dQ.2 λk' m'=>dQ.1 (dQ.1 h3 k (p.mem_iff.1 m)) k' (p.mem_iff.1 m')
  have h6:=dQ.2 λk m=>dQ.1 h4 k (p.mem_iff.1 m)
  rw[h5,h6];simp
theorem Wq(p:qs.Perm kss)(h:ib kss=ae):gZ qs=gZ kss:=yS h ((tW qs).trans p) (MN qs)
theorem Et {α β:Type}{R:α->β->Prop}{as:List α}{bs:List β}(h:cQ R as bs)(x:α)(y:β):∀ p:List Nat,(∀ i∈p,i<as.length)->cQ R (p.map λi=>as.getD i x) (p.map λi=>bs.getD i y)
 |[],_=>.nil
 |i::p,hi=>by
  refine .cons ?_ (Et h x y p λj m=>hi j (bL _ m))
  have bh:=hi i bE;obtain⟨b,hb,r⟩:=uX h (fN bh);have e1:as.getD i x=as[i]:=by simp[bh]
  have e2:bs.getD i y=b:=by simp[hb]
  show R (as.getD i x) (bs.getD i y);rw[e1,e2];exact r
set_option maxHeartbeats 4000000 in
theorem Yk {B:List aA->aC->Prop}(hh:A.handled=ab)(S:SetT w B s.heap a kss)(ok:ib kss=ae)(kz:kss.length<64)
  (q:∀ h' tk l e (out:List aD),s.toks<=tk->(∀ b ob,s.heap.get? b=aa ob->h'.get? b=aa ob)->s.heap.objs.size<=l->cQ (λv k=>∃ b,v=eI b/\B k b) out (gZ kss)->h'.get? l=aa (fY "list" out.toArray e)->Q (.ref l) { s with heap:=h',toks:=tk }) :
  aM (aP prog w) A (call (.builtin "sorted") [.ref a]) Q E s:=by
 obtain⟨o,es,ep,t,ks,S,pm⟩:=S;have W:WSet w s.heap a o es ep t:=⟨S.get,S.exact,S.data,S.fine,S.led⟩;refine Jt kind_sorted plain_sorted entry_sorted (args_sorted1 _) ?_;unfold Builtin.«sorted»;have wl:es.size=kss.length:=by
  have:=jX S.els;rw[kW] at this;rw[this,pm.length_eq]
 refine aF (aN (aF (Zd (by simp[hh]) W (λ_=>by rw[S.plain];rfl) λh1 tk yj hsz k1=>aF (zU ?_ (by rw[nU,cC,yB];lia)))))
 have pe:=XR w a ep es;generalize km w a ep es=gc at pe;obtain⟨zw,p2,Y7⟩:=JD pe S.els;have pk:=Y7.trans pm;have tv:cQ (λv k=>∃ b,v=eI b/\Abn s.heap k b/\B k b) (gc.map (·.2)) zw:=by
  clear pe Y7 pk;induction p2 with
  |nil=>exact .nil
  |cons h t ih=>
   obtain⟨b,e1,_,e3,e4⟩:=h;exact .cons ⟨b,e1,e3,e4⟩ ih
 have aw:(gc.map (·.2)).length<64:=by rw[cC,pe.length_eq,kW];lia
 generalize gc.map (·.2)=vs at tv aw;have qd:(h1.push (fY "list" vs.toArray 0)).get? h1.objs.size=aa (fY "list" vs.toArray 0):=cL _ rfl;refine aF (eP (fE slot_list_sort ⟨_,qd,rfl⟩ entry_list_sort (p9 qd (pQ (λv k ⟨b,e1,e2,_⟩=>⟨b,e1,e2⟩) tv) (λb ob eb=>?_) (k7 pk ok) aw λp hp hs=>⟨_,rfl,?_⟩) (args_list_sort _)))
 .have hb:=bI (k1 b ob eb);exact Gf b ob (cH hb) (bG _ (k1 b ob eb))
 refine aN ⟨_,rfl,?_⟩;obtain⟨e,he⟩:=sortedHeap_at qd;refine q _ tk h1.objs.size e (p.map λi=>vs.getD i eE) yj (λb ob eb=>?_) (oX hsz) ?_ he
 .have hb:=bI (k1 b ob eb);rw[sortedHeap_old (cH hb) (by rw[size_push'];exact FO hb),PP _ _ _ (cH hb)]
  exact k1 b ob eb
 .have:=Et tv eE [] p λi m=>iI.1 (hp.mem_iff.1 m)
  rw[hs,Wq pk ok] at this;exact pQ (λv k ⟨b,e1,_,e3⟩=>⟨b,e1,e3⟩) this
def xt (kss:List (List aA))(ys:List V)(k:List aA)(b:aC):Prop:=∃ i:Nat,kss[i]?=aa k/\ys[i]?=aa (V.ref b)
def SB (w:bA)(kss:List (List aA))(ys:List V)(o:bC)(ls:List (List aA)):Prop:=∃ es ep t ks,o.ExactSet/\o.data=.set es ep t/\Fine t es/\t.led=(!fJ w)/\t.plain=ae/\cQ (λ(e:Int×aD) k=>∃ b,e.2=.ref b/\e.1=dF w (.tuple k)/\xt kss ys k b) es.toList ks/\ks.Nodup/\ks.Perm ls
section
theorem Xv (hc:X.calm=ae)(hu:X.A.units+40<cLine):Ac1 X (.type "set") (λxs H Q=>∃ p ys kss,xs=[.ref p]/\SqL X.K H p ys/\Refs H ys kss/\(∀ k∈kss,qQ k)/\(gP kss).length<=4900/\∀ a o,H a=ab->SB X.w kss ys o (gP kss)->Q (.ref a) (upd H a (isO a o))):=by
 rw[5];obtain⟨p,ys,kss,rfl,hp,rf,T9,hl,q⟩:=h;obtain⟨u,rfl,ru⟩:=vals1 r;cases ru;obtain⟨its,rv,pl,_⟩:=I.list hp;have e1:=rv.length;have e2:=jX rf;refine D1 (B:=xt kss ys) (I.ok.hd hc) (λk b ⟨i,h,_⟩=>T9 k (eM h)) hu pl.isList (λj v ev=>?_) hl (by rw[dX];lia) λh' tk ht S' hk=>?_
 .have ev':its[j]?=aa v:=by simpa using ev
  obtain⟨y,hy,ry⟩:=JB rv ev';obtain⟨k,hk,b,rfl,tk⟩:=uX rf hy;cases ry;exact⟨b,k,rfl,hk,key_of I.hok tk,j,hk,hy⟩
 .obtain⟨o,es,ep,t,fw,am,pm⟩:=S';have I':=I.laid (t':=tk) (λb u e=>hk b u (bI e) e) (bB _) (show Acn X.prog X.w _ _ _ (.ext _) from⟨am.get,⟨o,am.get⟩,λ_ _ e k=>k _ e⟩)
  exact⟨.ref s.heap.objs.size,_,I',rfl,q _ o I.fresh ⟨es,ep,t,fw,am.exact,am.data,am.fine,am.led,am.plain,pQ (λe k ⟨b,q1,q2,_,q4⟩=>⟨b,q1,q2,q4⟩) am.els,am.nod,pm⟩⟩
theorem Yz (hc:X.calm=ae):Ac1 X (.builtin "sorted") (λxs H Q=>∃ a o ys kss ls,xs=[.ref a]/\H a=aa (isO a o)/\SB X.w kss ys o ls/\Refs H ys kss/\ib ls=ae/\ls.length<64 /\
  ∀ l zs,H l=ab->cQ (λz k=>∃ b,z=V.ref b/\xt kss ys k b) zs (gZ ls)->Q (.ref l) (upd H l (.lst zs))):=by
 rw[5];obtain⟨a,o,ys,kss,ls,rfl,ha,⟨es,ep,t,ks,hx,hd,hf,hl,hpn,he,hn,pm⟩,rf,ok,kz,q⟩:=h;obtain⟨u,rfl,ru⟩:=vals1 r;cases ru;obtain⟨g,_,_⟩:=(show Acn X.prog X.w H s.heap a (.ext _) from I.hok a _ ha)
 have T':∀ k b,xt kss ys k b->Abn s.heap k b:=λk b gh=>by
  obtain⟨i,h1,h2⟩:=gh;obtain⟨k',bz,b',eb,tk⟩:=uX rf h2;rw[h1] at bz;cases bz;cases eb;exact key_of I.hok tk
 refine Yk (I.ok.hd hc) ⟨o,es,ep,t,ks,⟨g,hx,hd,hf,hl,hpn,pQ (λe k ⟨b,q1,q2,q3⟩=>⟨b,q1,q2,T' k b q3,q3⟩) he,hn⟩,pm⟩ ok kz λh' tk l e out yj kept u8 pr Ch=>?_
 have Uf:=I.hok.fresh u8
 let zs:List V:=out.map λv=>match v with|.ref b=>V.ref b|_=>V.non
 have pz:cQ (λz k=>∃ b,z=V.ref b/\xt kss ys k b) zs (gZ ls)/\Vals zs out:=by
  generalize gZ ls=qs at pr;clear Ch;induction pr with
  |nil=>exact⟨.nil,.nil⟩
  |cons h t ih=>
   obtain⟨b,rfl,hb⟩:=h;exact⟨.cons ⟨b,rfl,hb⟩ ih.1,.cons rfl ih.2⟩
 have lz:zs.length<=sizeLine:=by
  have h1:=jX pz.1;rw[h1,(tW ls).length_eq,nU]
  lia
 exact⟨.ref l,_,I.laid (o:=.lst zs) (λb ob g=>kept b ob g) u8 ⟨lz,out,e,pz.2,Ch⟩,rfl,q _ zs Uf pz.1⟩
def KY:List aA->Option aA:=open Classical in λds=>match ds with
 |[.list ds]=>(iA ds).bind λkss=>if ((gP kss).length<64/\ib (gP kss)=ae)/\∀ k∈kss,qQ k then aa (.list ((gZ (gP kss)).map cW)) else ab
 |_=>ab
theorem Gc:∀ {ds:List aA} {kss:List (List aA)},iA ds=aa kss->ds=kss.map cW/\∀ k∈kss,bR k=ae/\cT k<=6
 |[],kss,e=>by cases e;exact⟨rfl,by simp⟩
 |d::ds,kss,e=>by
  cases d with
  |tuple ks=>
   have e:(if bR ks=ae/\cT ks<=6 then(iA ds).bind λkss=>aa (ks::kss) else ab)=aa kss:=e
   by_cases hk:bR ks=ae/\cT ks<=6
   case neg=>rw[if_neg hk] at e;cases e
   rw[if_pos hk] at e;obtain⟨kss',e1,e2⟩:=ak e;cases e2;obtain⟨h1,h2⟩:=Gc e1
   grind
  |_=>cases e
theorem Gw(r:Aal K H (kss.map cW) ys):∀ {zs:List V} {qs:List (List aA)},cQ (λz k=>∃ b,z=V.ref b/\xt kss ys k b) zs qs->Aal K H (qs.map cW) zs
 |_,_,.nil=>Aaj.2 rfl
 |_,k::_,.cons ⟨b,e,i,h1,h2⟩ t=>by
  refine Aaf.2 ⟨_,_,rfl,?_,Gw r t⟩;have h3:(kss.map cW)[i]?=aa (.tuple k):=by rw[eZ,h1];rfl
  obtain⟨v,hv,rv⟩:=r.get h3
  grind
open Classical in
theorem Yf{fe:EF}{qz:bK}(hc:X.calm=ae)(hu:X.A.units+40<cLine)(g1:Gl X "sorted")(m1:X.mg "sorted" = ab)(g2:Gl X "set")(m2:X.mg "set" = ab)(he:DE X e fe)
  (ng:bW [uM (.Name "set" p2) [e] [] cz] X.env=[(af,bT (uM (.Name "set" p2) [e] [] cz) X.env)]:=by rfl) (gq:bW [e] X.env=[(af,bT e X.env)]:=by rfl) :
  DF 1 X (.Call (.Name "sorted" p1) [.Call (.Name "set" p2) [e] [] cz] [] qz) (aL KY (aG fe aJ)):=by
 have h1:PE X (.Call (.Name "set" p2) [e] [] cz) _:=yT (Xv hc hu) g2 m2 rfl (fK he iE gq) nofun nofun gq rfl
 have h2:PE X (.Call (.Name "sorted" p1) [.Call (.Name "set" p2) [e] [] cz] [] qz) _:=JO (Yz hc) g1 m1 K0 (fK h1 iE ng) nofun nofun ng rfl
 refine PE.imp h2 λZ H Q gh=>?_
 rw[4];obtain⟨S8,e0,ef⟩:=ak ef;obtain⟨d1,e1,e0⟩:=ak e0;have e0:[d1]=S8:=by simpa [aJ] using e0
 subst e0;cases d1 with
 |list ds=>
  obtain⟨kss,e2,ef⟩:=ak (show((iA ds).bind _)=aa d from ef)
  obtain⟨⟨⟨hl,ok⟩,T9⟩,rfl⟩:=cM ef;obtain⟨rfl,hk⟩:=Gc e2;refine⟨P,Y,.list (kss.map cW),hP,rs,e1,eB λv H1 x1 r1=>?_⟩
  obtain⟨q,ys,rfl,hq,rr⟩:=Aa7.1 r1;have rf:=Refs.le (λc zs e=>Aam _ _ e) (VE hk rr)
  refine⟨q,ys,kss,rfl,Aam.sqL hq,rf,T9,(),λa o hn S=>⟨a,o,ys,kss,gP kss,rfl,dZ,S,Refs.le (λc zs e=>(Ext.new hn) _ _ e) rf,ok,hl,λl zs Uf pz=>?_⟩⟩
  exact(k.mono (x1.trans (Ext.new hn))).lst (hP.ext (x1.trans (Ext.new hn))) Uf (Gw (rr.ext (dB (Ext.new hn))) pz)
 |_=>cases ef
end
def Ta:V->List V->Hp->VK->Prop:=λx vs H Q=>∃ p ks k j,x=.ref p/\vs=[kV k]/\H p=aa (.lst (ks.map kV))/\jz ks k=aa j/\Q .non (upd H p (.lst ((ks.eraseIdx j).map kV)))
theorem C8:J' X "list.remove" Ta:=by
 intro ac s Z H x vs v us Q I rx rv h;obtain⟨p,ks,k,j,rfl,rfl,hp,hj,q⟩:=h;cases rx;obtain⟨u,rfl,ru⟩:=rv.one;obtain⟨z,its,n,r,hl,e⟩:=I.lstM hp;obtain⟨he,bh,hit,js⟩:=ZE r ru hj;refine zZ F.slot_list_remove ⟨_,e,rfl⟩ F.entry_list_remove (F.args_list_remove_2 _ _) (MeetsSeq.list_remove p its.toArray n u (pj k) he j bh hit js (by rw[dX];lia)) ⟨e,?_⟩
 have ee:(ks.eraseIdx j).map kV=(ks.map kV).eraseIdx j:=by
  have go:∀ (xs:List aI) (n:Nat),(xs.eraseIdx n).map kV=(xs.map kV).eraseIdx n:=by
   intro xs;induction xs with
   |nil=>intro n;simp
   |cons x xs ih=>
    intro n;cases n with
    |zero=>rfl
    |succ n=>rw[wY,dC,dC,wY,ih]
  exact go ks j
 refine⟨.non,_,I.lset hp e ?_ (by rw[ee];exact r.eraseIdx j) ?_,rfl,q⟩
 .rw[List.eraseIdxIfInBounds_toArray]
 .have:=Ac (ks.map kV) j;rw[ee]
  lia
def pZ (i:Nat)(m:Md)(f:EF):SF:=λY=>(eV 0 m f Y).bind λd=>(getL i Y).bind λds=>(mY ds).bind λks=>(bU d).bind λk=>(jz ks k).bind λj=>aa (.nx (Y.set i (aa (1,.list (ds.eraseIdx j)))))
theorem D9 (i:Nat)(m:Md)(he:DE X e f)(hN:Nm X i x:=by exact iO)(q5:Bm X (.Name x px) e [] "remove" av ay:=by exact⟨rfl,rfl,rfl,rfl,rfl⟩)
  (ja:kP (.Call (.Attribute (.Name x px) "remove" av) [e] [] ay) ab pos.line X.env=pure af:=by rfl):DS X H0 P0 n0 (.Expr (.Call (.Attribute (.Name x px) "remove" av) [e] [] ay) pos) (pZ i m f):=
 PS.imp (vE (pK FI PySem.F.slot_list_remove PySem.F.type_list_remove C8 (hN.pe) (fK (ev m he) iE q5.s) q5) ja) λD Z H gh=>by
  rw[6];obtain⟨d,e1,bm⟩:=ak ef;obtain⟨ds,e2,bq⟩:=ak bm;obtain⟨ks,e3,cq⟩:=ak bq;obtain⟨key,e4,gk⟩:=ak cq;obtain⟨j,e5,nu⟩:=ak gk;cases nu;obtain⟨p,xs,h1,h2,_,_⟩:=S.lst1 (oJ e2);refine⟨.ref p,h1,.inl ⟨rfl,xs,SqL.of h2⟩,B0,Y,fp,d,S,e1,λv H2 gh=>?_⟩
  obtain⟨dr,S2,r2⟩:=gh;obtain⟨p2,M5,q1,q2,q3,q4⟩:=S2.lst1 (oJ e2);have:p2=p:=by rw[h1] at q1;cases q1;rfl
  rw[13];obtain rfl:=LW e3 q3;have ee:(ks.eraseIdx j).map kV=(ks.map kV).eraseIdx j:=by
   have go:∀ (xs:List aI) (n:Nat),(xs.eraseIdx n).map kV=(xs.map kV).eraseIdx n:=by
    intro xs;induction xs with
    |nil=>intro n;simp
    |cons x xs ih=>
     intro n;cases n with
     |zero=>rfl
     |succ n=>rw[wY,dC,dC,wY,ih]
   exact go ks j
  refine⟨p2,ks,key,j,rfl,by rw[kN e4 r2.2],q2,e5,?_⟩
  rw[ee];exact k _ _ dr (q4 _ _ (LP j q3))
section
variable {Z:St}
theorem own1 {B:Hp}(h:Af3 K B H 1 (.list ds) v F):∃ p xs,v=.ref p/\H p=aa (.lst xs)/\F=[p]/\Aal K B ds xs:=by
 obtain⟨p,xs,Fs,rfl,hp,hF,h3⟩:=h;obtain⟨r,hn⟩:=KR h3;exact⟨p,xs,rfl,hp,by rw[hF,hn],r⟩
theorem CA {B:Hp}{p:aC}(hp:H p=aa (.lst xs))(r:Aal K B ds xs):Af3 K B H 1 (.list ds) (.ref p) [p]:=by
 obtain⟨q1,q2⟩:=DM r;exact⟨p,xs,_,rfl,hp,by rw[q2],q1⟩
theorem Le {B:Hp}{a b:List aA}(h:Af3 K B H 2 (.tuple [.list a,.list b]) v F) :
  ∃ q p p' xs ys,v=.ref q/\B q=aa (.tup [.ref p,.ref p'])/\F=[p,p']/\H p=aa (.lst xs)/\H p'=aa (.lst ys)/\Aal K B a xs/\Aal K B b ys:=by
 rcases h with⟨h0,_⟩|⟨_,q,us,Fs,rfl,hq,rfl,h3⟩
 .cases h0
 .cases h3 with
  |cons h1 t=>
   cases t with
   |cons h2 t=>
    cases t with
    |nil=>
     obtain⟨p,xs,rfl,hp,rfl,r⟩:=own1 h1;obtain⟨p',ys,rfl,fy,rfl,r'⟩:=own1 h2;exact⟨q,p,p',xs,ys,rfl,hq,rfl,hp,fy,r,r'⟩
theorem Um {B:Hp}{a b:List aA}{q p p':aC}(hq:B q=aa (.tup [.ref p,.ref p']))(h1:H p=aa (.lst xs))(h2:H p'=aa (.lst ys))(r1:Aal K B a xs)(r2:Aal K B b ys) :
  Af3 K B H 2 (.tuple [.list a,.list b]) (.ref q) [p,p']:=
 .inr ⟨nofun,q,_,[[p],[p']],rfl,hq,rfl,.cons (CA h1 r1) (.cons (CA h2 r2) .nil)⟩
end
section
variable {py ud:bK}
def UM (i j:Nat):SF:=λY=>(getL i Y).bind λa=>(getL j Y).bind λb=>aa (.rt (.tuple [.list a,.list b]))
theorem t8 (i j:Nat){x1}(ie:i≠j)(hN:Nm X i x:=by exact iO)(hN2:Nm X j y:=by exact iO):DS X H0 P0 2 (.Return (aa (.Tuple [.Name x px,.Name y py] x1 iw)) pos) (UM i j):=
 PS.imp (xT (NK (fK (hN.pe) (fK (hN2.pe) iE)))) λD Z H gh=>by
  rw[6];obtain⟨a,e1,ef⟩:=ak ef;obtain⟨b,e2,ef⟩:=ak ef;cases ef;obtain⟨v,h1,r1⟩:=S.slot i 1 _ (oJ e1);obtain⟨v',h2,r2⟩:=S.slot j 1 _ (oJ e2);obtain⟨p,xs,rfl,hp,hF,q1⟩:=own1 r1;obtain⟨p',ys,rfl,fy,hF',q2⟩:=own1 r2;have mp:p∈fp i:=by rw[hF];exact bE
  have U0:p'∈fp j:=by rw[hF'];exact bE
  have hpp:p≠p':=λz=>ie (S.dj i j p mp (by rw[z];exact U0))
  refine⟨_,h1,_,h2,by show 2<=sizeLine;rw[nU];lia,λq hq=>k _ _ ⟨[p,p'],S.ext.trans (Ext.new hq),?_,?_,?_⟩⟩
  .simp[hpp]
  .intro c m;rw[10]
   .exact⟨(S.own i _ mp).1,_,Ext.new hq _ _ hp⟩
   .rw[cE.1 m];exact⟨(S.own j _ U0).1,_,Ext.new hq _ _ fy⟩
  .have nq:∀ {c:aC} {oo:HO},H c=aa oo->c≠q:=λec z=>by rw[z,hq] at ec;cases ec
   have xb:Ext (L2.hid H (Hd P0 fp)) (L2.hid (upd H q (.tup [.ref p,.ref p'])) (fu P0 [p,p'])):=λc oo ec=>by
    obtain⟨nc,ec⟩:=Abx.1 ec;refine Abx.2 ⟨λz=>?_,Ext.new hq _ _ ec⟩
    rcases z with z|z
    .exact nc (.inl z)
    .rcases cX.1 z with rfl|z
     .exact nc (.inr ⟨i,mp⟩)
     .rw[cE.1 z] at nc;exact nc (.inr ⟨j,U0⟩)
   refine Um (Abx.2 ⟨λz=>?_,dZ⟩) (Ext.new hq _ _ hp) (Ext.new hq _ _ fy) (q1.ext xb) (q2.ext xb)
   rcases z with z|z
   .exact(S.hd.ext S.ext).new hq z
   .rcases cX.1 z with z|z
    .exact nq hp z.symm
    .exact nq fy (cE.1 z).symm
end
section
variable {a b:aU}{ud:bK}
def xy (c:Int):aA->Option aA
 |.tuple [.list a,.list b]=>if c=0 then aa (.list a) else if c=1 then aa (.list b) else ab
 |_=>ab
def nN (c:Int)(f:EF):EF:=λY=>(f Y).bind (xy c)
theorem Rb {c:Int}{jj}(h:DF 2 X e f)(hs:IC (.Constant (.int c) jj ud):=by exact λ_ _=>rfl):DF 1 X (.Subscript e (.Constant (.int c) jj ud) pos) (nN c f):=
 PE.imp (SA TK h TF hs) λZ H Q gh=>by
  rw[4];obtain⟨d2,e1,ef⟩:=ak ef;unfold xy at ef;split at ef
  .rename_i la lb;refine⟨P,Y,_,hP,rs,e1,λv H' Fr xx nd fr r=>?_⟩
   obtain⟨q,p,p',xs,ys,rfl,hq,rfl,hp,fy,r1,r2⟩:=Le r;have Y8:=(Abx.1 hq).2;by_cases c0:c=0
   .rw[if_pos c0] at ef;cases ef;subst c0;refine .inr (.inl ⟨q,_,0,.ref p,rfl,rfl,SqT.of Y8,rfl,k _ _ [p] xx (by simp) (λz m=>fr z (by rw[cE.1 m];simp)) (CA hp (r1.ext (fX λz hz=>?_)))⟩)
    grind
   .rw[if_neg c0] at ef;obtain⟨c1,rfl⟩:=cM ef;subst c1;refine .inr (.inl ⟨q,_,1,.ref p',rfl,rfl,SqT.of Y8,rfl,k _ _ [p'] xx (by simp) (λz m=>fr z (by rw[cE.1 m];simp)) (CA fy (r2.ext (fX λz hz=>?_)))⟩)
    grind
  .cases ef
def TL (m:Md)(t:BF)(i:Nat)(f:EF):SF:=λY=>(bV m t Y).bind λb=>if b=ae then jJ i 1 Y else cD 1 .s f Y
theorem q9 {c:aU}{t:BF}(m:Md)(i:Nat)(hc:DT X c t)(he:DF 1 X e f)(hN:Nm X i x:=by exact iO):DS X H0 P0 1 (.Return (aa (.IfExp c (.Name x px) e ud)) pos) (TL m t i f):=
 PS.imp (xT (VJ (L4 m hc) (hN.pe) (ev .s he))) λD Z H gh=>by
  rw[6];obtain⟨b,e1,ef⟩:=ak ef;refine⟨B0,Y,fp,b,S,e1,λH1 S1=>?_⟩
  cases b with
  |true=>
   replace ef:jJ i 1 Y=aa o:=by simpa using ef
   unfold jJ at ef;cases q:Y[i]? with
   |none=>rw[q] at ef;simp at ef
   |some z=>
    cases z with
    |none=>rw[q] at ef;simp at ef
    |some z=>
     obtain⟨n,d⟩:=z;rw[q] at ef;obtain⟨rfl,rfl⟩:=cM ef;obtain⟨v,h1,h2⟩:=S1.slot i _ d q;refine nP ⟨v,h1,k v H1 ⟨fp i,S1.ext,S1.nd i,λa m=>⟨(S1.own i a m).1,?_⟩,h2.keep (fX λa h=>?_) λa m=>rfl⟩⟩
     .rcases(S1.own i a m).2 with⟨xs,e⟩|⟨xs,e⟩
      all_goals grind
     all_goals grind
  |false=>
   replace ef:cD 1 .s f Y=aa o:=by simpa using ef
   obtain⟨d,e2,ef⟩:=ak ef;cases ef;exact nM ⟨B0,Y,fp,d,S1,e2,λv H' t=>k v H' t.ret⟩
end
section
variable {k:aU}{py:bK}
theorem Tmp.free{Z:St}(t:Tmp K H0 P0 B0 Y Z n d v H):∃ fp,Sta K H0 P0 B0 Y Z H fp/\Abj K (L2.hid H (Hd P0 fp)) d v:=by
 obtain⟨fp,S,r⟩:=t;have cb:∀ a,Hd P0 (λj=>if j=Y.length then [] else fp j) a->Hd P0 fp a:=λa h=>by
  grind
 refine⟨λj=>if j=Y.length then [] else fp j,⟨S.len,λj=>?_,λj k a h1 h2=>?_,λj a h1=>?_,S.ext,S.hd,S.base.trans (fX cb),λj n' d' e'=>?_⟩,r.share (fX cb) λa m o q=>fR (λz=>?_) q⟩
 .by_cases hj:j=Y.length
  .simp only[hj,if_true];exact .nil
  .simp only[hj,if_false];exact S.nd j
 .by_cases hj:j=Y.length
  .simp only[hj,if_true] at h1;simp at h1
  .by_cases hk:k=Y.length
   .simp only[hk,if_true] at h2;simp at h2
   .simp only[hj,if_false] at h1;simp only[hk,if_false] at h2;exact S.dj j k a h1 h2
 .by_cases hj:j=Y.length
  .simp only[hj,if_true] at h1;simp at h1
  .simp only[hj,if_false] at h1;exact S.own j a h1
 .have bh:=(cJ.1 e').1;have hj:j≠Y.length:=()
  obtain⟨v',h1,h2⟩:=S.slot j n' d' e';refine⟨v',h1,?_⟩;simp only[hj,if_false];exact h2.keep (fX cb) λa m=>rfl
 .rcases z with z|⟨k,z⟩
  .exact S.np m z
  .by_cases hk:k=Y.length
   .simp only[hk,if_true] at z;simp at z
   .simp only[hk,if_false] at z;exact hk (S.dj k _ a z m)
def vC (i:Nat)(m:Md)(f:EF)(mk:Md)(g:EF):SF:=λY=>(eV 1 m f Y).bind λd=>(getL i Y).bind λds=>(eV 0 mk g Y).bind λk=>match k with
 |.int j=>(gb ds.length j).bind λj=>aa (.nx (Y.set i (aa (1,.list (ds.set j d)))))
 |_=>ab
theorem JJ (i:Nat)(m mk:Md)(he:DF 1 X e f)(hk:DE X k g)(hN:Nm X i x:=by exact iO)
  (ha:∀ v,kQ (.Subscript (.Name x px) k av) X.env v=(do
   let ov <-nW [v] (bT (.Name x px) X.env)
   let iv <-nW [v,ov] (bT k X.env)
   standAt av
   nW [v,ov,iv] (setItem ov iv v)
   release [v,ov,iv] []):=by intro _;rfl)
  (hs:OA [.Subscript (.Name x px) k av] e pos.line X.env=pure af:=by rfl) (hw:OB [.Subscript (.Name x px) k av] e X.env=pure ab:=by rfl)
  (h1:(gU [.Subscript (.Name x px) k av] X.env).map (·.2)=[kQ (.Subscript (.Name x px) k av) X.env]:=by rfl):DS X H0 P0 n0 (.Assign [.Subscript (.Name x px) k av] e pos) (vC i m f mk g):=
 PS.imp (HN (ev m he) (SK (hN.pe) hk set_list ha) hs hw h1) λD Z H gh=>by
  obtain⟨B0,Y,fp,o,S,ef,kk⟩:=gh;obtain⟨d,e1,bm⟩:=ak ef;obtain⟨ds,e2,bq⟩:=ak bm;obtain⟨kd,e3,cq⟩:=ak bq;clear ef bm bq;cases kd with
  |int j=>
   obtain⟨jn,e5,gk⟩:=ak (show((gb ds.length j).bind λj=>aa (Out.nx (Y.set i (aa (1,.list (ds.set j d))))))=aa o from cq)
   cases gk;refine⟨B0,Y,fp,d,S,e1,λv H2 t=>?_⟩
   obtain⟨dr,S2,r2⟩:=t.free;obtain⟨p,xs,h1,h2,_,_⟩:=S2.lst1 (oJ e2);refine⟨.ref p,h1,sZ S2 e3 (by simp[fD]) λu H3 x3 r3=>?_⟩
   have S3:=S2.grow x3;obtain⟨p3,nh,q1,q2,q3,q4⟩:=S3.lst1 (oJ e2);have:p3=p:=by rw[h1] at q1;cases q1;rfl
   rw[13];exact⟨p3,nh,j,jn,rfl,Aak.1 r3,q2,by rw[q3.length];exact e5,kk _ _ dr (q4 _ _ (q3.set (r2.ext (dB x3)) jn))⟩
  |_=>cases cq
end
section
variable {Z:St}
theorem Sta.change{br:Nat->List aC}{d':aA}(S:Sta K H0 P0 B0 Y Z H fp)(hi:i<Y.length)(hv:Z[i]?=aa (aa v))
  (hf:∀ j,j≠i->j<Y.length->br j=fp j) (hz:∀ j,Y.length<=j->br j=[]\/br j=fp j) (nd:(br i).Nodup) (sub:∀ a∈br i,∃ j,a∈fp j/\(j=i\/br j=[]))
  (kp:∀ a,a∉fp i->H' a=H a) (ow:∀ a∈br i,(∃ xs,H' a=aa (.lst xs))\/∃ q:DQ,H' a=aa (dO q))
  (new:Ext (L2.hid H (Hd P0 fp)) (L2.hid H' (Hd P0 br))->Af3 K (L2.hid H' (Hd P0 br)) H' n d' v (br i)):Sta K H0 P0 B0 (Y.set i (aa (n,d'))) Z H' br:=by
 have same:∀ j,j≠i->∀ a∈br j,a∈fp j:=λj hj a m=>by
  grind
 have from_:∀ j,∀ a∈br j,∃ l,a∈fp l:=λj a m=>by
  grind
 have xb:Ext (L2.hid H (Hd P0 fp)) (L2.hid H' (Hd P0 br)):=λb o e=>by
  obtain⟨nb,e⟩:=Abx.1 e;refine fR (λq=>nb ?_) ?_
  all_goals grind
 have dz:∀ j,j≠i->∀ a∈br j,H' a=H a:=λj hj a m=>kp a λq=>hj (S.dj j i a (same j hj a m) q)
 refine⟨by simp[S.len],λj=>?_,λj l a h1 h2=>?_,λj a m=>?_,λb u e=>?_,S.hd,S.base.trans xb,λj n' d2 e=>?_⟩
 .by_cases h:j=i
  .rw[h];exact nd
  .by_cases h2:j<Y.length
   .rw[hf j h h2];exact S.nd j
   .rcases hz j () with e|e
    .rw[e];exact .nil
    .rw[e];exact S.nd j
 .by_cases e1:j=i<;>by_cases e2:l=i
  .rw[e1,e2]
  .subst e1;obtain⟨m,hm,hm2⟩:=sub a h1;have:=S.dj m l a hm (same l e2 a h2)
   grind
  .subst e2;obtain⟨m,hm,hm2⟩:=sub a h2;have:=S.dj m j a hm (same j e1 a h1)
   grind
  .exact S.dj j l a (same j e1 a h1) (same l e2 a h2)
 .obtain⟨l,ml⟩:=from_ j a m;refine⟨(S.own l a ml).1,?_⟩;by_cases h:j=i
  .subst h;exact ow a m
  .rw[dz j h a m];exact(S.own j a (same j h a m)).2
 .rw[kp b λq=>by rw[(S.own i b q).1] at e;cases e]
  exact S.ext b u e
 .by_cases q:j=i
  .grind
  .rw[pA (λz=>q z.symm)] at e
   obtain⟨v2,h1,h2⟩:=S.slot j n' d2 e;have hj:=(cJ.1 e).1;refine⟨v2,h1,?_⟩;have:=dz j q;rw[hf j q hj] at this ⊢;exact h2.keep xb this
abbrev R1 (K:aK)(B H:Hp)(m:Nat:=1):aA×aA->aI×V->List aC->Prop:=λkd kv f=>kd.1=kD kv.1/\Af3 K B H m kd.2 kv.2 f
def CM (c m:Nat):Prop:=(c=2/\m=1)\/(c=10/\m=9)
theorem Mi {B:Hp}(hc:CM c m){ds:List (aA×aA)}(h:∃ p,∃ xs:Nat×List (aI×V),∃ Fs,v=.ref p/\H p=aa (.dK xs.1 xs.2)/\F=p::Fs.flatten/\All3 (R1 K B H m) ds xs.2 Fs):Af3 K B H c (.dict ds) v F:=by
 obtain⟨p,xs,Fs,e,hp,hF,h3⟩:=h;rcases hc with⟨rfl,rfl⟩|⟨rfl,rfl⟩
 .exact⟨p,xs,Fs,e,hp,hF,h3⟩
 .exact oW ⟨ds,p,Fs,xs,rfl,e,hp,hF,h3⟩
theorem Sta.dicC(hc:CM c m){ds:List (aA×aA)}(S:Sta K H0 P0 B0 Y Z H fp)(e:Y[i]?=aa (aa (c,.dict ds))):∃ p ep xs Fs,Z[i]?=aa (aa (.ref p))/\H p=aa (.dK ep xs)/\fp i=p::Fs.flatten/\All3 (R1 K (L2.hid H (Hd P0 fp)) H m) ds xs Fs:=by
 obtain⟨v,h1,h2⟩:=S.slot i c _ e;rcases hc with⟨rfl,rfl⟩|⟨rfl,rfl⟩
 .obtain⟨p,xs,Fs,rfl,hp,hF,h3⟩:=h2;exact⟨p,xs.1,xs.2,Fs,h1,hp,hF,h3⟩
 .rcases(show _\/Bj1 _ _ _ _ _ _ from h2) with⟨z,_⟩|⟨o0,p,Fs,xs,z,rfl,hp,hF,h3⟩<;>cases z
  exact⟨p,xs.1,xs.2,Fs,h1,hp,hF,h3⟩
theorem Sta.dic2 {ds:List (aA×aA)}(S:Sta K H0 P0 B0 Y Z H fp)(e:Y[i]?=aa (aa (2,.dict ds))):∃ p ep xs Fs,Z[i]?=aa (aa (.ref p))/\H p=aa (.dK ep xs)/\fp i=p::Fs.flatten/\All3 (R1 K (L2.hid H (Hd P0 fp)) H) ds xs Fs:=S.dicC (.inl ⟨rfl,rfl⟩) e
def kC:List (aA×aA)->aI->aA->List (aA×aA)
 |[],_,_=>[]
 |(k0,d0)::r,k,d=>if bU k0=aa k then(k0,d)::r else(k0,d0)::kC r k d
theorem LU (k0 d0:aA)(r:List (aA×aA))(k:aI):bY ((k0,d0)::r) k=if bU k0=aa k then aa d0 else bY r k:=by
 unfold bY
 grind
theorem Ae {B:Hp}{k:aI}:∀ {ds:List (aA×aA)} {xs:List (aI×V)} {Fs:List (List aC)},All3 (R1 K B H m) ds xs Fs->Fs.flatten.Nodup->∀ d,bY ds k=aa d ->
  ∃ v f,f∈Fs/\dR xs k=aa v/\Af3 K B H m d v f/\∀ (B' H':Hp) (d':aA),Ext B B'->Af3 K B' H' m d' v f->(∀ a,a∉f->H' a=H a)->All3 (R1 K B' H' m) (kC ds k d') xs Fs
 |_,_,_,.nil,_,d,e=>by simp[bY] at e
 |(k0,d0)::ds,(k',v0)::xs,f0::Fs,.cons h t,nd,d,e=>by
  obtain⟨ek,h⟩:=h;have ek:=ek;subst ek;rw[LU,oI] at e;rw[rZ,rX] at nd;by_cases q:k'=k
  .rw[if_pos (by rw[q])] at e
   cases e;refine⟨v0,f0,bE,kK q,h,λB' H' d' xb r kp=>?_⟩
   show All3 _ (if bU (kD k')=aa k then(kD k',d')::ds else _) _ _
   rw[if_pos (by rw[oI,q])]
   refine .cons ⟨rfl,r⟩ (t.imp λa b c mm rr=>⟨rr.1,rr.2.keep xb λz hz=>kp z λz2=>?_⟩)
   exact nd.2.2 z z2 z (iJ.2 ⟨c,mm,hz⟩) rfl
  .rw[if_neg (λz=>q (fF z))] at e
   obtain⟨v,f,mm,h1,h2,h3⟩:=Ae t nd.2.1 d e;refine⟨v,f,bL _ mm,(jN q).trans h1,h2,λB' H' d' xb r kp=>?_⟩
   show All3 _ (if bU (kD k')=aa k then(kD k',d')::ds else(kD k',d0)::kC ds k d') _ _
   rw[if_neg (by rw[oI];exact λz=>q (fF z))]
   refine .cons ⟨rfl,h.keep xb λz hz=>kp z λz2=>?_⟩ (h3 B' H' d' xb r kp)
   exact nd.2.2 z hz z (iJ.2 ⟨f,mm,z2⟩) rfl
theorem Sta.inner {ds:List (aA×aA)}{k:aI}{es:List aA}(S:Sta K H0 P0 B0 Y Z H fp)(e:Y[i]?=aa (aa (2,.dict ds)))(hk:bY ds k=aa (.list es)):∃ p ep xs q ys,Z[i]?=aa (aa (.ref p))/\H p=aa (.dK ep xs)/\dR xs k=aa (.ref q)/\H q=aa (.lst ys)/\Aal K (L2.hid H (Hd P0 fp)) es ys /\
  ∀ gc qy,Aal K (L2.hid H (Hd P0 fp)) gc qy->Sta K H0 P0 B0 (Y.set i (aa (2,.dict (kC ds k (.list gc))))) Z (upd H q (.lst qy)) fp:=by
 obtain⟨p,ep,xs,Fs,h1,h2,h3,h4⟩:=S.dic2 e;have nd:=S.nd i;rw[h3,jZ] at nd;obtain⟨v,f,mf,hv,hr,up⟩:=Ae h4 nd.2 _ hk;obtain⟨q,ys,Gs,rfl,hq,hF,g3⟩:=hr;obtain⟨r,hn⟩:=KR g3;rw[hn] at hF;refine⟨p,ep,xs,q,ys,h1,h2,hv,hq,r,λgc qy r'=>?_⟩
 have mq:q∈fp i:=by
  rw[h3];exact bL _ (iJ.2 ⟨f,mf,by rw[hF];exact bE⟩)
 have npq:p≠q:=λz=>nd.1 (iJ.2 ⟨f,mf,by rw[hF,z];exact bE⟩)
 refine S.change (cJ.1 e).1 h1 (λ_ _ _=>rfl) (λ_ _=>.inr rfl) (S.nd i) (λa m=>⟨i,m,.inl rfl⟩) (λa na=>cK λz=>na (z ▸ mq)) (λa m=>?_) λxb=>?_
 .by_cases z:a=q
  .subst z;exact .inl ⟨qy,dZ⟩
  .rw[cK z];exact(S.own i a m).2
 .refine⟨p,(ep,xs),Fs,rfl,by rw[cK npq];exact h2,h3,up _ _ _ xb ?_ λa na=>cK λz=>na (by rw[hF,z];exact bE)⟩
  obtain⟨q1,q2⟩:=DM (r'.ext xb);exact⟨q,qy,_,rfl,dZ,by rw[hF,q2],q1⟩
theorem ZT {B:Hp}{kd:aA×aA}{kv:aI×V}{f:List aC}(h:R1 K B H m kd kv f):∀ {ds:List (aA×aA)} {xs:List (aI×V)} {Fs:List (List aC)},All3 (R1 K B H m) ds xs Fs->All3 (R1 K B H m) (ds++[kd]) (xs++[kv]) (Fs++[f])
 |_,_,_,.nil=>.cons h .nil
 |_,_,_,.cons h' t=>.cons h' (ZT h t)
theorem LL {B:Hp}{k:aI}:∀ {ds:List (aA×aA)} {xs:List (aI×V)} {Fs:List (List aC)},All3 (R1 K B H m) ds xs Fs->bY ds k=ab->dR xs k=ab
 |_,_,_,.nil,_=>rfl
 |(k0,d0)::ds,(k',v0)::xs,f0::Fs,.cons h t,e=>by
  obtain⟨ek,h⟩:=h;have ek:=ek;subst ek;rw[LU,oI] at e;by_cases q:k'=k
  .rw[if_pos (by rw[q])] at e;cases e
  .rw[if_neg (λz=>q (fF z))] at e
   exact(jN q).trans (LL t e)
theorem DH {B:Hp}:∀ {ds:List (aA×aA)} {xs:List (aI×V)} {Fs:List (List aC)},All3 (R1 K B H m) ds xs Fs->xs.length=ds.length
 |_,_,_,.nil=>rfl
 |_,_,_,.cons _ t=>by rw[fM,fM,DH t]
theorem Sta.putG{ds:List (aA×aA)}{xs:List (aI×V)}{p:aC}{A C Fs:List (List aC)}(S:Sta K H0 P0 B0 Y Z H fp)(hi:i<Y.length)(h1:Z[i]?=aa (aa (.ref p)))(h3:fp i=p::Fs.flatten)(sub:∀ a,a∈(A++C).flatten->a∈Fs.flatten)(nf:(A++C).flatten.Nodup)(r:Af3 K (L2.hid H (Hd P0 fp)) H m d v (fp Y.length))(hc:CM c m)
  (up:∀ B',Ext (L2.hid H (Hd P0 fp)) B'->Af3 K B' (upd H p (.dK n xs)) m d v (fp Y.length)->(∀ g∈A++C,∀ a∈g,upd H p (.dK n xs) a=H a)->All3 (R1 K B' (upd H p (.dK n xs)) m) ds xs (A++fp Y.length::C)) :
  ∃ br,Sta K H0 P0 B0 (Y.set i (aa (c,.dict ds))) Z (upd H p (.dK n xs)) br:=by
 have nd:=S.nd i;rw[h3,jZ] at nd;have mp:p∈fp i:=by rw[h3];exact bE
 have nl:∀ a∈fp Y.length,a∉fp i:=λa m m2=>by
  have:=S.dj _ _ a m m2
  lia
 have mem:∀ a,a∈p::(A++fp Y.length::C).flatten↔a=p\/a∈(A++C).flatten\/a∈fp Y.length:=λa=>by
  grind
 refine⟨λj=>if j=i then p::(A++fp Y.length::C).flatten else if j=Y.length then [] else fp j,S.change hi h1 (λj a b=>?_) (λj a=>?_) ?_ (λa m=>?_) (λa na=>cK λz=>na (by rw[show a=p from z];exact mp)) (λa m=>?_) λxb=>?_⟩
 .grind
 .grind
 .simp only[if_true];rw[List.flatten_append] at nf;simp only[List.flatten_append,rZ];have n1:=rX.1 nf;have pn:∀ a,a∈A.flatten\/a∈C.flatten->a≠p:=λa m z=>nd.1 (by
   rw[<-z];exact sub a (by simpa using m))
  refine jZ.2 ⟨λm=>?_,rX.2 ⟨n1.1,rX.2 ⟨S.nd _,n1.2.1,λa ha b hb z=>?_⟩,λa ha b hb z=>?_⟩⟩
  all_goals grind
 .grind
 .simp only[if_true] at m;by_cases z:a=p
  .subst z;exact .inr ⟨.inl (n,_),dZ⟩
  .rw[cK z];rcases(mem a).1 m with m|m|m
   .exact absurd m z
   .exact(S.own i a (by rw[h3];exact bL _ (sub a m))).2
   .exact(S.own _ a m).2
 .simp only[if_true];refine Mi hc ⟨p,(n,xs),A++fp Y.length::C,rfl,dZ,rfl,up _ xb (Af3.keep xb (λa m=>cK λz=>nl a m (by rw[show a=p from z];exact mp)) r) λg mg a ma=>cK λz=>nd.1 ?_⟩
  have z:=z;rw[<-z];exact sub a (iJ.2 ⟨g,mg,ma⟩)
theorem Sta.newKey{ds:List (aA×aA)}{k:aI}(S:Sta K H0 P0 B0 Y Z H fp)(e:Y[i]?=aa (aa (c,.dict ds)))(hk:bY ds k=ab)(r:Af3 K (L2.hid H (Hd P0 fp)) H m d v (fp Y.length))(hc:CM c m:=by exact .inl ⟨rfl,rfl⟩):∃ p ep xs,Z[i]?=aa (aa (.ref p))/\H p=aa (.dK ep xs)/\xs.length=ds.length /\
  ∀ n,∃ br,Sta K H0 P0 B0 (Y.set i (aa (c,.dict (ds++[(kD k,d)])))) Z (upd H p (.dK n (putK xs k v))) br:=by
 obtain⟨p,ep,xs,Fs,h1,h2,h3,h4⟩:=S.dicC hc e;have hi:=(cJ.1 e).1;refine⟨p,ep,xs,h1,h2,DH h4,λn=>?_⟩
 have qc:putK xs k v=xs++[(k,v)]:=by
  unfold putK;rw[rM,LL h4 hk]
  rfl
 have nd:=S.nd i;rw[h3,jZ] at nd;rw[qc];exact S.putG (C:=[]) hi h1 h3 (λa m=>by simpa using m) (by simpa using nd.2) r hc λB' xb rk kp=>ZT ⟨rfl,rk⟩ (h4.imp λa b c' mm rr=>⟨rr.1,Af3.keep xb (kp c' (by simpa using mm)) rr.2⟩)
end
def mG (i:Nat)(Y:aR)(c:Nat:=2):Option (List (aA×aA)):=match Y[i]? with
 |some (aa (n,.dict ds))=>if n=c then aa ds else ab
 |_=>ab
theorem mM{ds:List (aA×aA)}(h:mG i Y c=aa ds):Y[i]?=aa (aa (c,.dict ds)):=by
 unfold mG at h
 grind
section
variable {k o:aU}
theorem m8:DF 2 X (.Dict [] [] pos) (eC (.dict [])):=PE.imp WG λZ H Q gh=>by
 rw[4];cases ef;refine λq hq=>k (.ref q) _ [q] (Ext.new hq) (jZ.2 ⟨by simp,.nil⟩) (λa m=>?_) ⟨q,(0,[]),[],rfl,dZ,rfl,.nil⟩
 have:a=q:=by simpa using m
 rw[13];exact⟨hq,_,dZ⟩
def ER (i:Nat)(mk:Md)(g:EF)(m:Md)(f:EF):SF:=λY=>(mG i Y).bind λkds=>(eV 0 mk g Y).bind λk=>(bU k).bind λk=>(bY kds k).bind λl=>match l with
 |.list es=>(eV 0 m f Y).bind λd=>match d with
  |.int j=>(gb es.length j).bind λn=>if es.length<=sizeLine then aa (.nx (Y.set i (aa (2,.dict (kC kds k (.list (es.eraseIdx n))))))) else ab
  |_=>ab
 |_=>ab
theorem Sy (i:Nat)(mk m:Md)(hu:X.A.units+40<cLine)(hk:DE X k g)(he:DE X e f)(hN:Nm X i x:=by exact iO)(xk:BE k:=by exact λ_ _=>rfl)(q5:Bm X (.Subscript (.Name x px) k gj) e [] "pop" av ay:=by exact⟨rfl,rfl,rfl,rfl,rfl⟩)
  (ja:kP (.Call (.Attribute (.Subscript (.Name x px) k gj) "pop" av) [e] [] ay) ab pos.line X.env=pure af:=by rfl):DS X H0 P0 n0 (.Expr (.Call (.Attribute (.Subscript (.Name x px) k gj) "pop" av) [e] [] ay) pos) (ER i mk g m f):=
 PS.imp (vE (pK FI PySem.F.slot_list_pop PySem.F.type_list_pop Vt (JG hu (hN.pe) hk xk) (fK he iE q5.s) q5) ja) λD Z H gh=>by
  obtain⟨B0,Y,fp,o,S,ef,kk⟩:=gh;obtain⟨kds,e2,bq⟩:=ak ef;obtain⟨kd,e3,cq⟩:=ak bq;obtain⟨key,e4,gk⟩:=ak cq;obtain⟨l,e5,nu⟩:=ak gk;clear ef bq cq gk;cases l with
  |list es=>
   obtain⟨d,e1,sn⟩:=ak nu;cases d with
   |int j=>
    obtain⟨n,e7,ef8⟩:=ak (show((gb es.length j).bind λn=>if es.length<=sizeLine then aa (Out.nx (Y.set i (aa (2,.dict (kC kds key (.list (es.eraseIdx n))))))) else ab)=aa o from sn)
    obtain⟨lz,rfl⟩:=cM ef8;have hf:fD kd=ae:=by rw[wC e4];cases key<;>simp[kD,fD]
    obtain⟨p,ep,xs,q,ys,h1,h2,h3,h4,_,_⟩:=S.inner (mM e2) e5;refine⟨.ref p,h1,sZ S e3 hf λu H2 x2 r2=>⟨p,.ref q,rfl,.inl ⟨ep,xs,key,.inl (x2 _ _ h2),kN e4 r2,h3.symm⟩,.inl ⟨rfl,ys,SqL.of (x2 _ _ h4)⟩,sZ (S.grow x2) e1 (by simp[fD]) λv H3 x3 r3=>?_⟩⟩
    have S3:=S.grow (x2.trans x3);obtain⟨p3,qt,nh,q3,wp,g1,g2,g3,g4,g5,g6⟩:=S3.inner (mM e2) e5;have qc:p3=p:=by rw[h1] at g1;cases g1;rfl
    subst qc;have ex:=g2.symm.trans (x3 _ _ (x2 _ _ h2));injection ex with ex;injection ex with ex1 ex2;subst ex2;have U1:q3=q:=by
     grind
    subst U1;obtain⟨s1,s2,s3,s4⟩:=ID e7;have hl:=g5.length;have hz:wp.length<=sizeLine:=by rw[hl];exact lz
    have hn:=rG;have hy:wp[n]?=aa wp[n]:=fN ()
    exact⟨q3,wp,j,n,wp[n],rfl,by rw[Aak.1 r3],g4,(),(),by rw[hl];exact s1,hy,kk _ _ fp (g6 _ _ (LP n g5))⟩
   |_=>cases sn
  |_=>cases nu
end
def UZ:V->List V->Hp->VK->Prop:=λx vs H Q=>∃ d ep kvs k y,x=.ref d/\vs=[kV k,y]/\H d=aa (.dK ep kvs)/\kvs.length<sizeLine /\
 ((∃ u,dR kvs k=aa u/\Q u H)\/(dR kvs k=ab/\∀ n,Q y (upd H d (.dK n (putK kvs k y)))))
theorem KQ:J' X "dict.setdefault" UZ:=by
 intro ac s Z H x vs v us Q I rx rv h;obtain⟨d,ep,kvs,k,y,rfl,rfl,e,l,q⟩:=h;cases rx;cases rv with
 |cons rk rr=>
  cases rr with
  |cons ry rr=>
   cases rr;obtain⟨z,hd,ws,cc,dd⟩:=rB I.hok e;refine OL OQ dd.typeIs PySem.F.entry_dict_setdefault (PySem.F.args_dict_setdefault_3 _ _ _) (kt_meets_setdefault (dP X.prog X.w) d (rA rk) hd _) ⟨ws,dd,by rw[<-cc.length];exact z,λw hw=>?_,λhn h' ou sb=>?_⟩
   .have rl:=cc.val k;rcases q with⟨u,hu,q⟩|⟨hu,q⟩
    .rw[hu] at rl;obtain⟨w',e1,e2⟩:=rl.some_of;have e3:w'=w:=by rw[e1] at hw;exact fF hw
     subst e3;exact⟨u,H,I.tok _,e2,q⟩
    .rw[hu] at rl;have:=rl.none_of;rw[this] at hw;cases hw
   .have rl:=cc.val k;rcases q with⟨u,hu,q⟩|⟨hu,q⟩
    .rw[hu] at rl;obtain⟨w',e1,e2⟩:=rl.some_of;rw[e1] at hn;cases hn
    .have hl:(putK kvs k y).length<=sizeLine:=by have:=yW kvs k y;lia
     have he:∃ q,h'.get? d=aa q:=let ⟨q,_,_,hq,_⟩:=ou;⟨q,hq⟩;obtain⟨n,da⟩:=ou.dictAt;exact⟨y,_,CQ I (by rw[e];exact oU) sb he (vB hl hd (cc.put k ry) da),ry,q n⟩
section
variable {c k v:aU}{fc:BF}{fv f2:EF}{p3:bK}
def uh (i j:Nat)(mc:Md)(fc:BF)(mk:Md)(fk:EF)(mv:Md)(fv:EF)(m2:Md)(f2:EF):SF:=λY=>(bV mc fc Y).bind λb=>if b=ae then
  (eV 0 mk fk Y).bind λkd=>(eV 0 mv fv Y).bind λd=>(bU kd).bind λkey=>(oO j Y).bind λkds=>match d with
   | .int n=>if i<Y.length/\kds.length<sizeLine then aa (.nx (match bY kds key with
    |some u=>Y.set i (aa (0,u))
    | none=>(Y.set j (aa (1,.dict (putD kds key (.int n))))).set i (aa (0,.int n)))) else ab
   |_=>ab
 else(eV 0 m2 f2 Y).bind λd=>if i<Y.length then aa (.nx (Y.set i (aa (0,d)))) else ab
theorem Lg (i j:Nat)(mc mk mv m2:Md)(hN:X.N.Nodup)(hc:DT X c fc)(hk:DE X k fk)(hv:DE X v fv)(he:DE X e2 f2)(hi:X.N[i]?=aa x:=by rfl)(hx:jH X.env.scope x:=by first|exact jY rfl|exact oW rfl)
  (hj:Nm X j y:=by exact iO) (q5:Bm X (.Name y p2) k [v] "setdefault" ap cp:=by exact⟨rfl,rfl,rfl,rfl,rfl⟩) (gq:bW (v::[]) X.env=(af,bT v X.env)::bW [] X.env:=by rfl)
  (ja:kP (.IfExp c (.Call (.Attribute (.Name y p2) "setdefault" ap) [k,v] [] cp) e2 p3) (aa (.Name x p1)) pos.line X.env=pure af:=by rfl) (hf:Fn X x:=by exact jL) :
  DS X H0 P0 n0 (.Assign [.Name x p1] (.IfExp c (.Call (.Attribute (.Name y p2) "setdefault" ap) [k,v] [] cp) e2 p3) pos) (uh i j mc fc mk fk mv fv m2 f2):=
 PS.imp (NR hN hi hx (VJ (L4 mc hc) (pK FJ OQ Ia KQ (hj.pe) (fK (ev mk hk) (fK (ev mv hv) iE gq) q5.s) q5) (ev m2 he)) ja hf) λD Z H gh=>by
  obtain⟨B0,Y,fp,o,S,ef,kk⟩:=gh;obtain⟨b,e1,bm⟩:=ak ef;refine⟨B0,Y,fp,b,S,e1,λH1 S1=>?_⟩
  cases b with
  |false=>
   refine nM ?_;obtain⟨d,g1,g2⟩:=ak (show((eV 0 m2 f2 Y).bind λd=>if i<Y.length then aa (Out.nx (Y.set i (aa (0,d)))) else ab)=aa o from bm)
   obtain⟨hl,rfl⟩:=cM g2;refine⟨B0,Y,fp,d,S1,g1,λu H2 t=>?_⟩
   obtain⟨br,S'⟩:=t.set hl;exact kk _ _ br S'
  |true=>
   refine nP ?_;obtain⟨kd,g1,bq⟩:=ak (show((eV 0 mk fk Y).bind λkd=>(eV 0 mv fv Y).bind λd=>(bU kd).bind λkey=>(oO j Y).bind λkds=>match d with
    | .int n=>if i<Y.length/\kds.length<sizeLine then aa (Out.nx (match bY kds key with
     |some u=>Y.set i (aa (0,u))
     | none=>(Y.set j (aa (1,.dict (putD kds key (.int n))))).set i (aa (0,.int n)))) else ab
    | _=>ab)=aa o from bm)
   obtain⟨d,g2,cq⟩:=ak bq;obtain⟨key,g3,gk⟩:=ak cq;obtain⟨kds,g4,nu⟩:=ak gk;clear ef bm bq cq gk;cases d with
   |int n=>
    obtain⟨⟨hl,hz⟩,rfl⟩:=cM nu;obtain⟨p,ep,xs,h1,h2,_,_⟩:=S1.dic1 (pX g4);refine⟨.ref p,h1,.inr (.inr (.inl ⟨rfl,.inl ⟨ep,xs,h2⟩⟩)),B0,Y,fp,kd,S1,g1,λv1 H2 gh=>?_⟩
    obtain⟨dr,S2,r2⟩:=gh;have Db:=kN g3 r2.2;refine⟨B0,Y,dr,.int n,S2,g2,λv2 H3 gh=>?_⟩
    obtain⟨N8,S3,r3⟩:=gh;have U2:=Aak.1 r3.2;subst Db U2;obtain⟨p3,qt,nh,q1,q2,q3,q4⟩:=S3.dic1 (pX g4);have:p3=p:=by rw[h1] at q1;cases q1;rfl
    rw[13];refine⟨p3,qt,nh,key,.int n,rfl,rfl,q2,by rw[q3.length];exact hz,?_⟩
    rcases tU q3 with⟨n1,n2⟩|⟨d',v',s1,s2,rd⟩
    .refine .inr ⟨n2,λm=>?_⟩
     rw[n1] at kk;have S4:=q4 m _ _ (CH (k:=key) (d:=.int n) (v:=.int n) q3 (Aak.2 rfl));obtain⟨br,S'⟩:=S4.Ami (Aak.2 rfl) (by simpa using hl)
     exact kk _ _ br S'
    .refine .inl ⟨v',s2,?_⟩;rw[s1] at kk;obtain⟨br,S'⟩:=S3.Ami rd hl;exact kk _ _ br S'
   |_=>cases nu
end
section
variable {Z:St}
def oq (kds:List (aA×aA))(k:aI):List (aA×aA):=match bY kds k with
 |some _=>kds
 |none=>kds++[(kD k,.list [])]
theorem set_same {Y:aR}{i:Nat}{x:Slot}(h:Y[i]?=aa x):Y.set i x=Y:=by
 apply Jh
 grind
end
section
variable {l:Nat}{k c:aU}{fm:EF}{t:BF}{z:aE}{p3 p5 lp ap2 cp2 pos3 pos4:bK}
theorem Ve(h:mG i Y=aa kds):i<Y.length:=(cJ.1 (mM h)).1
end
section
variable {k o:aU}
def uW (i:Nat)(mk:Md)(g:EF)(m:Md)(f:EF):SF:=λY=>(mG i Y).bind λkds=>(eV 0 mk g Y).bind λk=>(bU k).bind λk=>(bY kds k).bind λl=>match l with
 |.list es=>(eV 0 m f Y).bind λd=>if fD d=ae/\es.length<sizeLine then aa (.nx (Y.set i (aa (2,.dict (kC kds k (.list (es++[d]))))))) else ab
 |_=>ab
theorem VH (i:Nat)(mk m:Md)(hu:X.A.units+40<cLine)(hk:DE X k g)(he:DE X e f)(hN:Nm X i x:=by exact iO)(xk:BE k:=by exact λ_ _=>rfl)(q5:Bm X (.Subscript (.Name x px) k gj) e [] "append" av ay:=by exact⟨rfl,rfl,rfl,rfl,rfl⟩)
  (ja:kP (.Call (.Attribute (.Subscript (.Name x px) k gj) "append" av) [e] [] ay) ab pos.line X.env=pure af:=by rfl):DS X H0 P0 n0 (.Expr (.Call (.Attribute (.Subscript (.Name x px) k gj) "append" av) [e] [] ay) pos) (uW i mk g m f):=
 PS.imp (vE (pK FI J6 J4 LJ (JG hu (hN.pe) hk xk) (fK he iE q5.s) q5) ja) λD Z H gh=>by
  obtain⟨B0,Y,fp,o,S,ef,kk⟩:=gh;obtain⟨kds,e2,bq⟩:=ak ef;obtain⟨kd,e3,cq⟩:=ak bq;obtain⟨key,e4,gk⟩:=ak cq;obtain⟨l,e5,nu⟩:=ak gk;clear ef bq cq gk;cases l with
  |list es=>
   obtain⟨d,e1,sn⟩:=ak nu;obtain⟨⟨hfd,lz⟩,rfl⟩:=cM sn;have hf:fD kd=ae:=by rw[wC e4];cases key<;>simp[kD,fD]
   obtain⟨p,ep,xs,q,ys,h1,h2,h3,h4,_,_⟩:=S.inner (mM e2) e5;refine⟨.ref p,h1,sZ S e3 hf λu H2 x2 r2=>⟨p,.ref q,rfl,.inl ⟨ep,xs,key,.inl (x2 _ _ h2),kN e4 r2,h3.symm⟩,.inl ⟨rfl,ys,SqL.of (x2 _ _ h4)⟩,sZ (S.grow x2) e1 hfd λv H3 x3 r3=>?_⟩⟩
   have S3:=S.grow (x2.trans x3);obtain⟨p3,qt,nh,q3,wp,g1,g2,g3,g4,g5,g6⟩:=S3.inner (mM e2) e5;have qc:p3=p:=by rw[h1] at g1;cases g1;rfl
   subst qc;have ex:=g2.symm.trans (x3 _ _ (x2 _ _ h2));injection ex with ex;injection ex with ex1 ex2;subst ex2;have U1:q3=q:=by
    grind
   subst U1;exact⟨q3,wp,v,rfl,rfl,g4,by rw[g5.length];exact lz,kk _ _ fp (g6 _ _ (g5.snoc r3))⟩
  |_=>cases nu
end
theorem ZA:∀ (qs kvs:List (aI×V)),((kvs++qs).map (·.1)).Nodup->kJ kvs qs=kvs++qs
 |[],kvs,_=>by show kvs=kvs++[];simp
 |q::qs,kvs,h=>by
  have hn:dR kvs q.1=ab:=by
   cases e:dR kvs q.1 with
   |none=>rfl
   |some v=>
    have m:=Sd e
    grind
  have ep:putK kvs q.1 q.2=kvs++[q]:=by
   unfold putK;rw[rM,hn]
   rfl
  show kJ (putK kvs q.1 q.2) qs=_;rw[ep,ZA qs (kvs++[q]) (by simpa using h)]
  simp
section
variable {c k v:aU}{fc fv f2:EF}{gg ue uf:bK}
def sM (i:Nat)(m2:Md)(f2:EF)(u:Int)(Y:aR):Option Out:=(eV 0 m2 f2 Y).bind λw=>match w with
 |.int w=>if i<Y.length then aa (.nx (Y.set i (aa (0,.bool (decide (u=w)))))) else ab
 |_=>ab
def uZ (i:Nat)(mc:Md)(fc:EF)(j:Nat)(mk:Md)(fk:EF)(mv:Md)(fv:EF)(m2:Md)(f2:EF):SF:=λY=>(eV 0 mc fc Y).bind λb=>match b with
 |.bool af=>if i<Y.length then aa (.nx (Y.set i (aa (0,.bool af)))) else ab
 |.bool ae=>(eV 0 mk fk Y).bind λkd=>(eV 0 mv fv Y).bind λd=>(bU kd).bind λkey=>(oO j Y).bind λkds=>match d with
  |.int n=>if kds.length<sizeLine then match bY kds key with
    |some (.int u)=>sM i m2 f2 u Y
    |some _=>ab
    |none=>sM i m2 f2 n (Y.set j (aa (1,.dict (putD kds key (.int n)))))
   else ab
  |_=>ab
 |_=>ab
theorem VY {m2:Md}{Z:St}{u:Int}{o:Out}{D:Ends}(S:Sta K H0 P0 B0 Y Z H fp)(ef:sM i m2 f2 u Y=aa o)(kk:RQ K H0 P0 B0 n0 D o) :
  tE K H0 P0 0 m2 f2 Z H λz H2=>xF K af (.int u) z H2 λb H3=>D.nx (Z.set i (aa b)) H3:=by
 obtain⟨w,e1,ef⟩:=ak ef;cases w with
 |int w=>
  obtain⟨hl,rfl⟩:=cM ef;refine⟨B0,Y,fp,.int w,S,e1,λv H2 gh=>?_⟩
  obtain⟨dr,S2,r2⟩:=gh;have ev:=Aak.1 r2.2;subst ev;refine⟨.int u,.int w,Aak.2 rfl,Aak.2 rfl,rfl,rfl,?_⟩;have eb:(af != cF (.int u) (.int w))=decide (u=w):=by
   have:cF (.int u) (.int w)=decide (u=w):=by
    simp only[cF]
    rfl
   rw[this];by_cases q:u=w<;>simp[q]
  rw[eb];have t:Tmp K H0 P0 B0 Y Z 0 (.bool (decide (u=w))) (.bl (decide (u=w))) H2:=⟨dr,S2,r2.1,Aar.2 rfl⟩;obtain⟨N8,S3⟩:=t.set hl;exact kk _ _ N8 S3
 |_=>cases ef
theorem p7 (i j:Nat)(mc mk mv m2:Md)(hu:X.A.units+100<cLine)(hN:X.N.Nodup)(hi:X.N[i]?=aa x)(hx:jH X.env.scope x)(hc:DE X c fc)(hk:DE X k fk)(hv:DE X v fv)(he:DE X e2 f2)(hj:Nm X j y:=by exact iO)(q5:Bm X (.Name y p2) k [v] "setdefault" ap cp:=by exact⟨rfl,rfl,rfl,rfl,rfl⟩)(gq:bW (v::[]) X.env=(af,bT v X.env)::bW [] X.env:=by rfl)
  (hm:uB .Eq e2=af:=by exact mK _)
  (ja:kP (.BoolOp .And [c,.Compare (.Call (.Attribute (.Name y p2) "setdefault" ap) [k,v] [] cp) [.Eq] [e2] uf] ue) (aa (.Name x gg)) pos.line X.env=pure af:=by rfl) (hf:Fn X x:=by exact jL) :
  DS X H0 P0 n0 (.Assign [.Name x gg] (.BoolOp .And [c,.Compare (.Call (.Attribute (.Name y p2) "setdefault" ap) [k,v] [] cp) [.Eq] [e2] uf] ue) pos) (uZ i mc fc j mk fk mv fv m2 f2):=
 PS.imp (NR hN hi hx (SR (ev mc hc) (UJ (Em (BP hu) (pK FJ OQ Ia KQ (hj.pe) (fK (ev mk hk) (fK (ev mv hv) iE gq) q5.s) q5) (ev m2 he) hm))) ja hf) λD Z H gh=>by
  obtain⟨B0,Y,fp,o,S,ef,kk⟩:=gh;obtain⟨b,e1,bm⟩:=ak ef;refine⟨B0,Y,fp,b,S,e1,λw1 H1 t1=>?_⟩
  cases b with
  |bool b=>
   have ew:w1=.bl b:=by
    obtain⟨_,_,r⟩:=t1;exact Aar.1 r.2
   refine⟨b,ew,?_⟩;cases b with
   |false=>
    refine nM ?_;obtain⟨hl,rfl⟩:=cM bm;obtain⟨oz,S1⟩:=t1.set hl;rw[ew] at S1;exact kk _ _ oz S1
   |true=>
    refine nP ?_;obtain⟨fp,S1,_⟩:=t1;obtain⟨kd,g1,bq⟩:=ak (show((eV 0 mk fk Y).bind λkd=>(eV 0 mv fv Y).bind λd=>(bU kd).bind λkey=>(oO j Y).bind λkds=>match d with
     |.int n=>if kds.length<sizeLine then match bY kds key with
      |some (.int u)=>sM i m2 f2 u Y
      |some _=>ab
      |none=>sM i m2 f2 n (Y.set j (aa (1,.dict (putD kds key (.int n)))))
      else ab
     | _=>ab)=aa o from bm)
    obtain⟨d,g2,cq⟩:=ak bq;obtain⟨key,g3,gk⟩:=ak cq;obtain⟨kds,g4,nu⟩:=ak gk;clear ef bm bq cq gk;cases d with
    |int n=>
     obtain⟨hz,sn⟩:=yA nu;obtain⟨p,ep,xs,h1,h2,_,_⟩:=S1.dic1 (pX g4);refine⟨.ref p,h1,.inr (.inr (.inl ⟨rfl,.inl ⟨ep,xs,h2⟩⟩)),B0,Y,fp,kd,S1,g1,λv1 H2 gh=>?_⟩
     obtain⟨dr,S2,r2⟩:=gh;have Db:=kN g3 r2.2;refine⟨B0,Y,dr,.int n,S2,g2,λv2 H3 gh=>?_⟩
     obtain⟨N8,S3,r3⟩:=gh;have U2:=Aak.1 r3.2;subst Db U2;obtain⟨p3,qt,nh,q1,q2,q3,q4⟩:=S3.dic1 (pX g4);have:p3=p:=by rw[h1] at q1;cases q1;rfl
     rw[13];refine⟨p3,qt,nh,key,.int n,rfl,rfl,q2,by rw[q3.length];exact hz,?_⟩
     rcases tU q3 with⟨n1,n2⟩|⟨d',v',s1,s2,rd⟩
     .refine .inr ⟨n2,λm=>?_⟩
      rw[n1] at sn;exact VY (q4 m _ _ (CH q3 (Aak.2 rfl))) sn kk
     .refine .inl ⟨v',s2,?_⟩;rw[s1] at sn;cases d' with
      |int u=>
       have:=Aak.1 rd;rw[13];exact VY S3 sn kk
      |_=>cases sn
    |_=>cases nu
  |_=>cases bm
end
section
theorem Qg{Z:St}{mk:Md}{kd:aA}{key:aI}{es:List aA}{Q:VK}
  (S:Sta K H0 P0 B0 Y Z H fp) (e2:mG i Y=aa kds) (e3:eV 0 mk g Y=aa kd) (e4:bU kd=aa key) (hl:kds.length<sizeLine) (he:bY (oq kds key) key=aa (.list es))
  (kk:∀ q H1 oz ys,Sta K H0 P0 B0 (Y.set i (aa (2,.dict (oq kds key)))) Z H1 oz->H1 q=aa (.lst ys)->Aal K (L2.hid H1 (Hd P0 oz)) es ys->Q (.ref q) H1) :
  tBM K "dict" UZ (xE i) (zL (tE K H0 P0 0 mk g) (zL (tE K H0 P0 1 .s (dM aJ)) GX)) Z H Q:=by
 obtain⟨p,ep,xs,Fs,h1,h2,_,_⟩:=S.dic2 (mM e2);have hi:=Ve e2;refine⟨.ref p,h1,.inr (.inr (.inl ⟨rfl,.inl ⟨ep,xs,h2⟩⟩)),B0,Y,fp,kd,S,e3,λv1 H2 gh=>?_⟩
 obtain⟨dr,S2,r2⟩:=gh;have Db:=kN e4 r2.2;subst Db;refine⟨B0,Y,dr,.list [],S2,rfl,λv2 H3 gh=>?_⟩
 obtain⟨N8,S3,r3⟩:=gh;cases lh:bY kds key with
 |none=>
  have U3:oq kds key=kds++[(kD key,.list [])]:=by unfold oq;rw[lh]
  obtain⟨p3,qt,nh,q1,q2,q3,q4⟩:=S3.newKey (mM e2) lh r3;have:p3=p:=by rw[h1] at q1;cases q1;rfl
  rw[13];obtain⟨p4,ep4,U4,Fs4,a1,a2,a3,a4⟩:=S3.dic2 (mM e2);have e1:p4=p3:=by rw[q1] at a1;cases a1;rfl
  subst e1;have ex:=a2.symm.trans q2;injection ex with ex;injection ex with _ ex;subst ex;have vn:=LL a4 lh;refine⟨p4,qt,U4,key,v2,rfl,rfl,q2,by rw[q3];exact hl,.inr ⟨vn,λn=>?_⟩⟩
  obtain⟨br,S4⟩:=q4 n;rw[<-U3] at S4;obtain⟨q0,_,_,rfl,_⟩:=r3;obtain⟨p5,ep5,xs5,q5,ys5,b1,b2,b3,b4,b5,_⟩:=S4.inner (mC hi) he;have e5:p5=p4:=by rw[q1] at b1;cases b1;rfl
  subst e5;have Ev:=b2.symm.trans dZ;injection Ev with Ev;injection Ev with _ Ev;rw[Ev,l6,if_pos rfl] at b3
  grind
 |some d=>
  have U3:oq kds key=kds:=by unfold oq;rw[lh]
  rw[U3] at he kk;obtain⟨p3,qt,nh,q,ys,g1,g2,g3,g4,g5,_⟩:=S3.inner (mM e2) he;have:p3=p:=by rw[h1] at g1;cases g1;rfl
  rw[13];obtain⟨p4,ep4,U4,Fs4,a1,a2,a3,a4⟩:=S3.dic2 (mM e2);have e1:p4=p3:=by rw[g1] at a1;cases a1;rfl
  subst e1;have ex:=a2.symm.trans g2;injection ex with ex;injection ex with _ ex;subst ex;refine⟨p4,qt,U4,key,v2,rfl,rfl,g2,by rw[DH a4];exact hl,.inl ⟨.ref q,g3,?_⟩⟩
  rw[set_same (mM e2)] at kk
  grind
variable {k e0 c2:aU}{f0:EF}{t2:BF}{lp ue uf:bK}{body:List eW}{F:SF}
def tJ (i:Nat)(m0:Md)(f0:EF)(mk:Md)(g:EF)(m2:Md)(t2:BF)(F:SF):SF:=λY=>(eV 0 m0 f0 Y).bind λd=>(mG i Y).bind λkds=>(eV 0 mk g Y).bind λkd=>(bU kd).bind λkey=>
 match bY (oq kds key) key with
 |some (.list es)=>if kds.length<sizeLine/\(dE d&&noDicts es)=ae then
   if (es.any λz=>cF z d)=ae then aa (.nx (Y.set i (aa (2,.dict (oq kds key)))))
   else(bV m2 t2 (Y.set i (aa (2,.dict (oq kds key))))).bind λb=>if b=ae then F (Y.set i (aa (2,.dict (oq kds key)))) else aa (.nx (Y.set i (aa (2,.dict (oq kds key)))))
  else ab
 |_=>ab
theorem WM (i:Nat)(m0 mk m2:Md)(hu:X.A.units+100<cLine)(he:DE X e0 f0)(hk:DE X k g)(hc:DT X c2 t2)(ha:jw X H0 P0 n0 body F)(hi:Nm X i x:=by exact iO)
  (q5:Bm X (.Name x p2) k [.List [] lp] "setdefault" ap cp:=by exact⟨rfl,rfl,rfl,rfl,rfl⟩) (gq:bW (.List [] lp::[]) X.env=(af,bT (.List [] lp) X.env)::bW [] X.env:=by rfl)
  (hm:uB .NotIn (.Call (.Attribute (.Name x p2) "setdefault" ap) [k,.List [] lp] [] cp)=af:=by with_unfolding_all rfl) :
  DS X H0 P0 n0 (.If (.BoolOp .And [.Compare e0 [.NotIn] [.Call (.Attribute (.Name x p2) "setdefault" ap) [k,.List [] lp] [] cp] uf,c2] ue) body [] pos) (tJ i m0 f0 mk g m2 t2 F):=
 PS.imp (RL (UN (Fo (ZU hu) (ev m0 he) (pK FJ OQ Ia KQ (hi.pe) (fK (ev mk hk) (fK (ev .s (vD pT)) iE gq) q5.s) q5) hm) (Gm (L4 m2 hc))).pt ha UW) λD Z H gh=>by
  obtain⟨B0,Y,fp,o,S,ef,kk⟩:=gh;obtain⟨d,g0,ef⟩:=ak ef;obtain⟨kds,g1,ef⟩:=ak ef;obtain⟨kd,g2,ef⟩:=ak ef;obtain⟨key,g3,ef⟩:=ak ef;split at ef
  .rename_i es wl;obtain⟨⟨hl,hok⟩,ef⟩:=yA ef;refine⟨B0,Y,fp,d,S,g0,λv0 H1 gh=>?_⟩
   obtain⟨oz,S1,r1⟩:=gh;have S1':=S1.rebase Ext.refl;refine Qg S1' g1 g2 g3 hl wl λq H2 dr ys S2 hq rr=>?_
   have rv:=(r1.2.ext S2.base).ext Aam;have S3:=S2.rebase (S1.base.trans S2.base);have tz:=iK.1 hok;refine⟨d,es,rv,.inl (Aa7.2 ⟨q,ys,rfl,SqL.of hq,rr.ext Aam⟩),tz.1,tz.2,_,rfl,?_⟩;by_cases hb:(es.any λz=>cF z d)=ae
   .rw[if_pos hb] at ef;cases ef;rw[hb];refine nM ?_;exact kk _ _ dr S3
   .rw[if_neg hb] at ef;rw[Ka.2 hb];refine nP ?_;obtain⟨b,g4,ef⟩:=ak ef;refine⟨B0,_,dr,b,S3,g4,λH4 S4=>?_⟩
    cases b with
    |true=>
     refine nP ?_;exact⟨B0,_,dr,o,S4,ef,kk⟩
    |false=>
     refine nM ?_;cases ef;exact kk _ _ dr S4
  .cases ef
end
def GM (a:aC)(ep n:Nat):It:=
  ⟨λi H=>∃ kvs kv,H a=aa (.dK ep kvs)/\kvs.length=n/\kvs[i]?=aa kv,
   λi H v H'=>∃ T kv,H T=ab/\v=.ref T/\(∀ kvs,H a=aa (.dK ep kvs)->kvs[i]?=aa kv)/\H'=upd H T (.tup [kV kv.1,kv.2]),
   λi H=>∃ kvs,H a=aa (.dK ep kvs)/\kvs.length=n/\n<=i⟩
theorem h8:rV table "dict_itemiterator.__iter__" = aa Builtin.«dict_keyiterator.__iter__»:=FD (id':="dict_keyiterator.__iter__") (by kernel_rfl) rfl (by rw[0]) (by kernel_rfl)
theorem i4(hT:s.TypeIs (.ref it) "dict_itemiterator")(h:Q (.ref it) s):aM (aP prog w) A (nV (.ref it)) Q E s:=by
 refine EZ hT K6 (fE K6 hT h8 ?_ (F.args_dict_itemiterator_iter_1 _));exact aN ⟨_,rfl,"dict_itemiterator",_,hT,F.slot_dict_itemiterator_next.lookup,h⟩
theorem Xc {P:bN}{es:List aU}{cx}{pos:bK}(a it:aC)(ep n:Nat) :
  Turn P w K (.Tuple es cx pos) (GM a ep n) [it] it (λi h=>∃ ok ov,IsItemIter h it a i n ep ok ov) where
 mem:=cE.2 rfl
 obj:=λi h ⟨ok,ov,g⟩ b hb=>by
  grind
 keep:=λi h h' ⟨ok,ov,g⟩ k=>⟨ok,ov,k it (cE.2 rfl) _ g⟩
 item:=by
  rw[1];obtain⟨kvs,kv,ha,hn,hk⟩:=hg;subst hn;obtain⟨z,nm,vs,r,d⟩:=EO I.hok (.inl ha);have hl:kvs.length=vs.length:=r.length;obtain⟨u,hu,r1,r2⟩:=UE r hk;obtain⟨uk,uv⟩:=u;obtain⟨ok,ov,st⟩:=st;rw[hl] at st;have jb:it<s.heap.objs.size:=bI st;refine wpAny_pyNext_items_item st d hu λkey h' qg eo pr sz keep=>?_
  have uy:kv.1=uk:=r1;have rk:RelV (kV kv.1) key:=by rw[uy];exact Tg qg
  have fr:H s.heap.objs.size=ab:=I.hok.fresh (bB _);have I0:Inv X ac Z (upd H s.heap.objs.size (.tup [kV kv.1,kv.2])) { s with heap:=s.heap.push { cls:=.type "tuple",data:=.seq #[key,uv] },toks:=s.toks }:=
   I.laid (t':=s.toks) (o:=.tup [kV kv.1,kv.2]) (λb ob q=>bG _ q) (bB _) ⟨by show 2<=sizeLine;decide,[key,uv],.cons rk (.cons r2 .nil),A8t.new _ _⟩
  have qw:∀ b∈[it],iL X ac (upd H s.heap.objs.size (.tup [kV kv.1,kv.2])) b:=λb m=>⟨by rw[cK (cH (by rw[cE.1 m];exact jb))];exact(hf b m).1,(hf b m).2⟩
  have I1:Inv X ac Z (upd H s.heap.objs.size (.tup [kV kv.1,kv.2])) { s with heap:=h',toks:=s.toks }:=I0.turnM (t':=s.toks) qw λb o n g=>by
   have n:b≠it:=λq=>n (cE.2 q)
   by_cases hb:b=s.heap.objs.size
   .subst hb;have e':(s.heap.push { cls:=.type "tuple",data:=.seq #[key,uv] }).get? s.heap.objs.size=aa { cls:=.type "tuple",data:=.seq #[key,uv] }:=cL _ rfl
    grind
   .exact keep b o n ((PP _ _ _ hb).symm.trans g)
  refine⟨_,rfl,wpAny_letOwnedTupleGo_items eo λh2 ge sb=>?_⟩
  have I2:Inv X ac Z (upd H s.heap.objs.size (.tup [kV kv.1,kv.2])) { s with heap:=h2,toks:=s.toks }:=I1.turnM (t':=s.toks) qw λb o n g=>sb.extBut b o (λq=>n (cE.2 q)) g
  exact⟨.ref s.heap.objs.size,_,I2,rfl,⟨_,kv,fr,rfl,λkvs' h=>by rw[ha] at h;cases h;exact hk,rfl⟩,⟨_,_,by rw[hl];exact ge⟩,λb m=>(qw b m).1⟩
 done:=by
  rw[1];obtain⟨kvs,ha,hn,hi⟩:=hg;subst hn;obtain⟨z,nm,vs,r,d⟩:=EO I.hok (.inl ha);have hl:kvs.length=vs.length:=r.length;obtain⟨ok,ov,st⟩:=st;rw[hl] at st;exact wpAny_pyNext_items_end (I.ok.hd hc) st d (by simp;lia) λh' eb=>⟨rfl,I.turnM (t':=s.toks) hf λb o nb e=>eb b o (λq=>nb (cE.2 q)) e⟩
 self:=λ_ _ _ _ _ st h=>by
  obtain⟨ok,ov,st⟩:=st;exact i4 ⟨_,st,rfl⟩ h
section
variable {l:aU}{es:List aU}
def Lc (tl:TE):TI:=λZ H R=>tl Z H λx H1=>∃ a ep kvs,x=.ref a/\H1 a=aa (.dK ep kvs)/\R (GM a ep kvs.length) H1
theorem WO {tl:TE}(hl:PE X l tl)(je:FE l "items" X.env (bT l X.env)=bT l X.env:=by rfl)(jf:(av.endLine==pos.line)=ae:=by rfl):PI X (.Tuple es cx iw) (.Call (.Attribute l "items" av) [] [] pos) (Lc tl):=by
 intro ac s Z H R I h;refine wpAny_Call_method je rfl jf F.plainAttrs_dict F.slot_dict_items F.type_dict_items (bb (hl ac s Z H _ I h) λv s1 gh=>?_)
 obtain⟨x,H1,I1,r1,q1⟩:=gh;obtain⟨a,ep,kvs,rfl,ha,q⟩:=q1;cases r1;obtain⟨z,nm,vs,r,d⟩:=EO I1.hok (.inl ha);obtain⟨_,_,vs2,_,dd⟩:=rB I1.hok ha;have hn:=r.length;refine⟨dd.typeIs,dd.mapOf.noDict,?_⟩;refine method_meetsIn F.slot_dict_items F.entry_dict_items rfl (PySem.evalArgs_none ⟨rfl,dd.typeIs,F.args_dict_items_1 _,_,meets_dict_items _ a nm,⟨vs2,dd⟩,?_⟩);have d2:(s1.heap.push { cls:=.type "dict_items",data:=.fields #[.ref a] }).DictAt (dP X.prog X.w) a vs ep:=by
  obtain⟨o,es,ho,rr⟩:=d;exact⟨o,es,bG _ ho,rr⟩
 refine wpAny_pyIter_items ⟨_,cL _ rfl,rfl,rfl⟩ d2 ?_;have all:∀ b o,s1.heap.get? b=aa o->((s1.heap.push { cls:=.type "dict_items",data:=.fields #[.ref a] }).push { cls:=.type "dict_itemiterator",data:=.fields #[.none,.bool af,.ref a,.int 0 0,.int vs.length 0,.int ep 0,.none,.none] }).get? b=aa o:=λb o e=>bG _ (bG _ e)
 refine⟨_,[_],_,_,H1,rfl,I1.kept all,Xc a _ ep kvs.length,⟨.none,.none,?_⟩,λb hb=>?_,q⟩
 .rw[hn];exact cL _ rfl
 .rw[cE.1 hb];have le:s1.heap.objs.size<=(s1.heap.push { cls:=.type "dict_items",data:=.fields #[.ref a] }).objs.size:=by
   rw[qK]
   lia
  exact I1.fpOk le (I1.hok.fresh le)
def L6 (f:EF):AF:=λY=>(f Y).bind λd=>match d with
 |.dict kds=>if (dh kds&&kds.all λkd=>cR kd.1)=ae then aa (kds.map λkd=>.tuple [kd.1,kd.2]) else ab
 |_=>ab
theorem A1{B:Hp}{kvs:List (aI×V)}(h:B a=aa (.dK ep kvs))(r:Abq K B kds kvs)(hl:(kds.all λkd=>cR kd.1)=ae):oa K B (GM a ep kvs.length) (kds.map λkd=>.tuple [kd.1,kd.2]):=λi H2 x2=>by
 have h2:=x2 _ _ h;refine⟨λd hd=>?_,λe=>⟨kvs,h2,rfl,by rw[<-e,cC,r.length];exact bB _⟩⟩
 rw[eZ] at hd;obtain⟨kd,hk,rfl⟩:=jF.1 hd;obtain⟨kv,g1,g2,g3⟩:=YB r hk;refine⟨⟨kvs,kv,h2,rfl,g1⟩,?_⟩;rintro x H3 ⟨T,gw,fr,rfl,hx,rfl⟩;have:gw=kv:=fF ((hx kvs h2).symm.trans g1);rw[13];have ext:Ext H2 (upd H2 T (.tup [kV gw.1,gw.2])):=λb u e=>by rw[cK (iQ e fr)];exact e
 refine⟨ext,λP2 yz xb=>?_⟩
 have nT:¬ P2 T:=λq=>by
  rcases yz T q with⟨o,e⟩|⟨o,e⟩<;>rw[fr] at e<;>cases e
 have gT:hid (upd H2 T (.tup [kV gw.1,gw.2])) P2 T=aa (.tup [kV gw.1,gw.2]):=fR nT dZ;have xx:Ext B (hid (upd H2 T (.tup [kV gw.1,gw.2])) P2):=xb.trans (dB ext);have U5:=dQ.1 hl kd (eM hk);refine Aaq.2 ⟨T,_,rfl,gT,Aaf.2 ⟨_,_,rfl,?_,Aaf.2 ⟨_,_,rfl,g3.ext xx,Aaj.2 rfl⟩⟩⟩;rw[g2];exact Ge (by rw[<-g2];exact U5)
theorem j9(h:DE X l f)(je:FE l "items" X.env (bT l X.env)=bT l X.env:=by rfl)(jf:(av.endLine==pos.line)=ae:=by rfl):DI X (.Tuple es cx iw) (.Call (.Attribute l "items" av) [] [] pos) (L6 f):=PI.imp (WO h je jf) λZ H R gh=>by
 obtain⟨P,Y,ds,hP,rs,ef,k⟩:=gh;obtain⟨d,e1,ef⟩:=ak ef;cases d with
 |dict kds=>
  obtain⟨hl,rfl⟩:=cM ef;refine⟨P,Y,_,hP,rs,e1,eB λv H1 x1 r1=>?_⟩
  obtain⟨pk,hl⟩:=iK.1 hl;obtain⟨a,kvs,rfl,hq,rr⟩:=(pW pk).1 r1;exact⟨a,kvs.1,kvs.2,rfl,Aam _ _ hq,k _ H1 x1 (A1 hq rr hl)⟩
 |_=>cases ef
end
def sR (t:BF):List (aA×aA)->Option (List (aA×aA))
 |[]=>aa []
 |kd::r=>(t [aa kd.1,aa kd.2]).bind λb=>(sR t r).bind λr'=>aa (if b=ae then kd::r' else r')
open Classical in
def EY (i:Nat)(t:BF):SF:=λY=>(mG i Y).bind λkds=>if (kds.map (·.1)).Nodup/\(kds.all λkd=>cR kd.1)=ae/\kds.length<=sizeLine then(sR t kds).bind λr=>aa (.rt (.dict r)) else ab
theorem Av {α β γ:Type}{R:α->β->γ->Prop}{a:α}{b:β}{c:γ}(h:R a b c):∀ {as:List α} {bs:List β} {cs:List γ},All3 R as bs cs->All3 R (as++[a]) (bs++[b]) (cs++[c])
 |_,_,_,.nil=>.cons h .nil
 |_,_,_,.cons h' t=>.cons h' (Av h t)
theorem Ey {α β γ:Type}{R:α->β->γ->Prop}:∀ {as:List α} {bs:List β} {cs:List γ} {i:Nat},All3 R as bs cs->i<bs.length->∃ a b c,as.drop i=a::as.drop (i+1)/\bs[i]?=aa b/\cs.drop i=c::cs.drop (i+1)/\R a b c
 |_,_,_,i,.nil,h=>by simp at h
 |_,_,_,0,.cons h _,_=>⟨_,_,_,rfl,rfl,rfl,h⟩
 |_,_,_,i+1,.cons _ t,h=>by simpa using Ey t (by simpa using h)
theorem CY {α:Type}:∀ {a b:List (List α)},a.Sublist b->a.flatten.Sublist b.flatten
 |_,_,.slnil=>.slnil
 |_,_,.cons x h=>(CY h).trans (List.sublist_append_right _ _)
 |_,_,.cons₂ x h=>(PK x).append (CY h)
theorem Bt {α β:Type}{R:α->β->Prop}{a:α}{b:β}(h:R a b):∀ {as:List α} {bs:List β},cQ R as bs->cQ R (as++[a]) (bs++[b])
 |_,_,.nil=>.cons h .nil
 |_,_,.cons h' t=>.cons h' (Bt h t)
theorem Gp{B:Hp}:∀ {dk:List (aA×aA)} {dv:List (aI×V)} {df:List (List aC)},All3 (R1 K B H m) dk dv df->dk.map (·.1)=(dv.map (·.1)).map kD
 |_,_,_,.nil=>rfl
 |_,_,_,.cons h t=>by simp only[dC,h.1,Gp t]
theorem ZG {t:BF}:∀ {kds r:List (aA×aA)},sR t kds=aa r->r.Sublist kds
 |[],r,h=>by cases h;exact .slnil
 |kd::kds,r,h=>by
  obtain⟨b,_,h⟩:=ak h;obtain⟨r',e,h⟩:=ak h;cases h;have:=ZG e;cases b with
  |true=>exact this.cons₂ _
  |false=>exact this.cons _
section
variable {dn:aE}{ip dp:bK}{N:List aE}{sc:gV}{fq:aU}{dy es:List aU}{t:BF}{k2:Nat}{p6:bK}
theorem Sk (i:Nat)(hc:X.calm=ae)(S:CompScope X N [ab,ab] sc)(hb:Block X N sc (.Tuple es k2 p6) fq dy (QZ X.K 2 (HG (zN 0) (HG (zN 1) QT))) (sy X.K t) (QI (zL (xE 0) (zL (xE 1) GX))))(hg:Gl X dn)(hm:X.mg dn=ab)(hbt:mO dn=aa (.type "dict"))(hN:Nm X i x:=by exact iO)(je:FE (.Name x px) "items" X.env (bT (.Name x px) X.env)=bT (.Name x px) X.env:=by rfl)(jf:(ap.endLine==ip.line)=ae:=by rfl)(hn:dn ≠ "__name__":=by decide)(jr:(dn==("__debug__" : aE))=af:=by decide)
  (he:bW [.ListComp fq [⟨.Tuple es k2 p6,.Call (.Attribute (.Name x px) "items" ap) [] [] ip,dy,0⟩] sc cp] X.env=(af,bT (.ListComp fq [⟨.Tuple es k2 p6,.Call (.Attribute (.Name x px) "items" ap) [] [] ip,dy,0⟩] sc cp) X.env)::bW [] X.env:=by rfl)
  (dt:(jU ay (bW [] X.env)).any (·.1)=af:=by rfl) (hs:∀ z,qE (.Call (.Attribute (.Name x px) "items" ap) [] [] ip) X.env z=pure z:=by intro _;rfl) :
  DS X H0 P0 2 (.Return (aa (.Call (.Name dn dp) [.ListComp fq [⟨.Tuple es k2 p6,.Call (.Attribute (.Name x px) "items" ap) [] [] ip,dy,0⟩] sc cp] [] ay)) pos) (EY i t):=by
 refine PS.imp (xT (yT (Cg hc) hg hm hbt (fK (RJ hc S (WO (hN.pe) je jf) hb hs) iE he) hn jr he dt)) λD Z H gh=>?_
 rw[6];obtain⟨kds,e,ef⟩:=ak ef;obtain⟨⟨nk,U5,lz⟩,ef⟩:=yA ef;obtain⟨kept,ek,ef⟩:=ak ef;cases ef;obtain⟨p,ep,xs,Fs,h1,h2,h3,h4⟩:=S.dic2 (mM e);have len:=DH h4;have nd:=S.nd i;rw[h3,jZ] at nd;have xo:∀ {df:List (List aC)},df.Sublist Fs->∀ a∈df.flatten,a∈fp i:=λs a m=>by rw[h3];exact bL _ ((CY s).subset m)
 refine⟨.ref p,h1,p,ep,xs,rfl,h2,λA hA=>⟨λj m ys σ' H'=>m=xs.length-j/\j<=xs.length/\H' A=aa (.lst ys)/\Ext H H'/\σ'.length=2/\ys.length<=j/\∃ dk dv df rest,All3 (R1 X.K (hid H (Hd P0 fp)) H) dk dv df/\cQ (λy (q:aI×V)=>∃ b,y=V.ref b/\H' b=aa (.tup [kV q.1,q.2])) ys dv/\sR t (kds.drop j)=aa rest/\kept=dk++rest/\(df++Fs.drop j).Sublist Fs,
  ⟨xs.length,by simp,dW _,dZ,Ext.new hA,rfl,bB _,[],[],[],kept,.nil,.nil,ek,rfl,PK _⟩,?_⟩⟩
 rintro j m ys σ' H' ⟨rfl,hj,hD,x2,ls,ly,dk,dv,df,rest,a3,pr,er,rfl,sub⟩;refine⟨hD,?_⟩;by_cases bh:j<xs.length
 .obtain⟨kd,kv,f,d1,d2,d3,hR⟩:=Ey h4 bh;rw[d1] at er;rw[d3] at sub;obtain⟨b,eb,er⟩:=ak er;obtain⟨r',Y9,er⟩:=ak er;cases er;refine .inr ⟨⟨xs,kv,x2 _ _ h2,rfl,d2⟩,(),λzs σ2 H2=>j+1<=xs.length/\H2 A=aa (.lst zs)/\Ext H H2/\σ2.length=2/\zs.length<=j+1/\∃ Y' ZB Z0 vk,All3 (R1 X.K (hid H (Hd P0 fp)) H) Y' ZB Z0/\cQ (λy (q:aI×V)=>∃ b,y=V.ref b/\H2 b=aa (.tup [kV q.1,q.2])) zs ZB/\sR t (kds.drop (j+1))=aa vk/\dk++(if b=ae then kd::r' else r')=Y'++vk/\(Z0++Fs.drop (j+1)).Sublist Fs,λzs σ2 H2 h=>⟨xs.length-(j+1),(),rfl,h⟩,?_⟩
  rintro y H2 ⟨T,gw,fr,rfl,hx,rfl⟩;have:=fF ((hx xs (x2 _ _ h2)).symm.trans d2);rw[13];have x3:Ext H' (upd H' T (.tup [kV gw.1,gw.2])):=Ext.new fr;refine⟨T,[kV gw.1,gw.2],rfl,SqT.of dZ,rfl,_,_,rfl,_,_,rfl,rfl,P0,[aa kd.1,aa kd.2],b,S.hd.ext (S.ext.trans (x2.trans x3)),λq d' e'=>?_,eb,λH4 x4=>?_⟩
  .match q,e' with
   |0,e'=>
    cases e';refine⟨kV gw.1,by rw[pA nofun,mC ()],?_⟩
    have lk:=dQ.1 U5 kd (Iu (by rw[d1];exact bE))
    rw[hR.1] at lk ⊢;exact Ge lk
   |1,e'=>
    cases e';refine⟨gw.2,by rw[mC (by rw[uH];lia)],?_⟩
    refine(hR.2.share (fX λa p=>.inl p) λa m o e=>fR (S.np (xo (PK _) a (iJ.2 ⟨f,Iu (by rw[d3];exact bE),m⟩))) e).ext (dB (x2.trans x3))
  .have vm:∀ {H5:Hp},(∀ c zs,H' c=aa (.tup zs)->H5 c=aa (.tup zs))->cQ (λy (q:aI×V)=>∃ b,y=V.ref b/\H5 b=aa (.tup [kV q.1,q.2])) ys dv:=λh=>Paired.imp' (λy q ⟨b,e1,e2⟩=>⟨b,e1,h _ _ e2⟩) pr
   cases b with
   |false=>exact nM ⟨bh,x4 _ _ (x3 _ _ hD),x2.trans (x3.trans x4),by simpa using ls,(),dk,dv,df,r',a3,vm λc zs e=>x4 _ _ (x3 _ _ e),Y9,rfl,(List.Sublist.append_left (List.sublist_cons_self _ _) _).trans sub⟩
   |true=>
    refine nP ⟨kV gw.1,by rw[pA nofun,mC ()],gw.2,by rw[mC (by rw[uH];lia)],by show 2<=sizeLine;decide,λp5 U6=>?_⟩
    have nA:A≠p5:=λz=>by
     have:=x4 _ _ (x3 _ _ hD);rw[z,U6] at this;cases this
    refine⟨by rw[cK nA];exact x4 _ _ (x3 _ _ hD),bh,dZ,λc o e=>?_,by simpa using ls,by simp;lia,dk++[kd],dv++[gw],df++[f],r',Av hR a3,?_,Y9,by simp,by simpa using sub⟩
    .have nc:c≠A:=λz=>by rw[z,hA] at e;cases e
     have e4:=x4 _ _ (x3 _ _ (x2 _ _ e));rw[cK nc,cK (iQ e4 U6)];exact e4
    .have up:∀ c zs,H4 c=aa (.tup zs)->upd (upd H4 p5 (.tup [kV gw.1,gw.2])) A (.lst (ys++[.ref p5])) c=aa (.tup zs):=λc zs e=>by
      have nc:c≠A:=λz=>by
       rw[z,x4 _ _ (x3 _ _ hD)] at e;cases e
      rw[cK nc,cK (iQ e U6)];exact e
     exact Bt ⟨p5,rfl,by rw[cK (fL nA)];exact dZ⟩ (vm λc zs e=>up c zs (x4 _ _ (x3 _ _ e)))
 .have ej:j=xs.length:=()
  subst ej;rw[List.drop_of_length_le ()] at er
  cases er;refine .inl ⟨⟨xs,x2 _ _ h2,rfl,bB _⟩,A,ys,dv,rfl,SqL.of hD,Paired.imp' (λy q ⟨b,e1,e2⟩=>⟨b,e1,SqT.of e2⟩) pr,λq n hq=>?_⟩
  rw[mS] at k ek;have sub:=(List.sublist_append_left _ _).trans sub;have nv:(dv.map (·.1)).Nodup:=by
   have n1:=nk.sublist ((ZG ek).map _);rw[Gp a3] at n1;exact List.Pairwise.of_map kD (λa b h z=>h (by rw[z])) n1
  rw[ZA dv [] (by simpa using nv),List.nil_append]
  have U7:=x2.none hq;have nq:∀ a∈df.flatten,a≠q:=λa m z=>by
   rcases(S.own i a (xo sub a m)).2 with⟨_,e⟩|⟨qq,e⟩<;>rw[z,U7] at e<;>first|cases e|(cases qq<;>simp[dO] at e)
  refine k _ _ ⟨q::df.flatten,S.ext.trans (x2.trans (Ext.new hq)),jZ.2 ⟨λm=>nq q m rfl,nd.2.sublist (CY sub)⟩,λa m=>?_,q,(n,dv),df,rfl,dZ,rfl,a3.imp λa b f mf r=>⟨r.1,r.2.keep (λb o e=>?_) λa ma=>?_⟩⟩
  .rw[10]
   .exact⟨S.ext.none U7,_,dZ⟩
   .obtain⟨o,eo⟩:∃ o,H a=aa o:=by
     rcases(S.own i a (xo sub a m)).2 with⟨_,e⟩|⟨_,e⟩<;>exact⟨_,e⟩
    exact⟨(S.own i a (xo sub a m)).1,o,by rw[cK (nq a m)];exact x2 _ _ eo⟩
  .obtain⟨nb,e⟩:=Abx.1 e;refine fR (λz=>?_) (Ext.new hq _ _ (x2 _ _ e))
   rcases z with z|z
   .exact nb (.inl z)
   .rcases cX.1 z with rfl|z
    .rw[U7] at e;cases e
    .exact nb (.inr ⟨i,xo sub _ z⟩)
  .have m:=iJ.2 ⟨f,mf,ma⟩;obtain⟨o,eo⟩:∃ o,H a=aa o:=by
    rcases(S.own i a (xo sub a m)).2 with⟨_,e⟩|⟨_,e⟩<;>exact⟨_,e⟩
   rw[cK (nq a m),eo,x2 _ _ eo]
end
open PySem PySem.W PySem.Calls PyProof.Rows Att
def xM (ns:List Int):Prop:=∀ x∈ns,mV x<=1048576
theorem weigh:∀ {ns:List Int} {x:Int},x∈ns->mV x<=WData.weightAll (ns.map WData.int)
 |n::ns,x,m=>by
  rw[dC,WData.weightAll];have e:WData.weight (.int n)=mV n:=by
   rw[WData.weight]
   rfl
  rw[10]
  .rw[e];lia
  .have:=weigh m
   lia
theorem k9 {ns:List Int}(h:WData.layableAll [WData.list (ns.map WData.int)]=ae):xM ns:=λx m=>by
 have h1:WData.layable (.list (ns.map .int))=ae:=by simpa [WData.layableAll] using h
 have h2:=of_decide_eq_true (iK.1 h1).2;rw[WData.weight] at h2;have:=weigh m
 lia
theorem Zh {l:OpenLaw}{q:bN}{ia:List aE}{XP:(aE->Option aD)->aQ->Prop}{YP:bA->aQ->Prop}{d:DefRec}
  (hn:l.most=aa n) (EQ:d.params.defaults=[])
  (call:∀ (w:bA) (s₀ s₁:aH) (mg mb:aE->Option aD) (fa:aC) (o:bC) (pm cd im:aD) (a:aC) (vs:List aD) (ns:List Int),
   xM ns->Ground q ia [] XP w s₀ mg mb s₁.heap->YP w s₁.heap ->
   s₁.heap.get? fa=aa o->o.data=.func (docDef d.name d.params d.body d.scope pm cd im)->s₁.heap.CodeRec cd d.name->mg d.name=aa (.ref fa) ->
   s₁.heap.get? a=aa { cls:=.type "list",data:=.seq vs.toArray }->IntsAre vs ns->ns.length<=n->s₁.gens = #[] ->
   iR (aP l.prog w) wK (.call (.ref fa) ⟨[.ref a],[]⟩) (λr s'=>r=.ok (.ret (.bool ae))/\OldK s₁.heap s'.heap/\s'.os=s₁.os/\sC s'.gens) s₁) :
  WalkO q ia XP YP l.row.toRowW d [] (λf vs=>PySem.call f vs):=by
 intro w s₀ s₁ mg mb G al fa o pm cd im dV kV ho hd qf hD Fa hg args v6 as mn U8 hrd M1 hlo;obtain rfl:dV=.none:=Dflts.none hD EQ;obtain rfl:kV=.none:=Dflts.noKw hD;obtain⟨a,vs,ns,rfl,rfl,wq,rg,aw⟩:=Wd hn mn M1;refine enter_call (zY (call w s₀ s₁ mg mb fa o pm cd im a vs ns (k9 U8) G al ho (fd_plain hd) qf Fa wq rg aw hg) λr s' hq=>?_)
 obtain⟨rfl,h2,h3,h4⟩:=hq;exact⟨.inl ⟨.bool ae,.bool ae,[],rfl,λ_=>rfl,.bool ae,z8 l _,λ_=>⟨List.Pairwise.nil,λ_ hm=>(nomatch hm)⟩⟩,h2,h3,h4⟩
theorem A8y {l:PySem.W.OpenLaw}{k:Nat}{q:bN}{ia:List aE}{XP:(aE->Option aD)->aQ->Prop}{YP:bA->aQ->Prop}{d:DefRec}{K:Params->aK}{CX:bA->rh}{sp:bA->Sp}
  (hn:l.most=aa n) (hn2:n<=sizeLine) (EQ:d.params.defaults=[]) (hr:Room k wK)
  (hY:∀ (w:bA) (h:aQ),YP w h->(K w.params).In h)
  (F:∀ (w:bA) (mg:aE->Option aD) (fa:aC) (h:aQ),(K w.params).In h->h.Ns jC mg->mg d.name=aa (.ref fa) ->
   ∃ fd:mU,(∀ (s:aH) (u:aD),BindsTo s fd ⟨[u],[]⟩ [(x,u)]) /\
    ∀ base:aQ,(K w.params).In base->base.Ns jC mg->FnOk l.prog w (K w.params) mg base (CX w) k fa fd [x] (sp w))
  (uq:∀ (w:bA) (H:Hp) (a:aC) (ns:List Int),xM ns->ns.length<=n->Only H->SqL (K w.params) H a (ns.map V.int)->sp w [.ref a] H (λv _=>v=.bl ae) λ_ _ _=>False)
  (Q1:∀ (w:bA) (H:Hp) (s:aH) (e:aD) (s':aH),CX w [] H s (λ_ _ _=>False) e s'->False) :
  PySem.W.WalkO q ia XP YP l.row.toRowW d [] (λf vs=>PySem.call f vs):=by
 refine Zh hn EQ λw s₀ s₁ mg mb fa o pm cd im a vs ns hB G al ho hd qf Fa wq rg aw hg=>?_
 have KX:=hY w _ al;obtain⟨fd,hb,hF⟩:=F w mg fa _ KX G.T.g Fa;exact q8 KX G.T.g G.T.b G.T.builtins G.T.nolimit hg wq rg (dG aw hn2) hr hF hb (λH hO hS=>uq w H a ns hB aw hO hS) λH e s'=>Q1 w H s₁ e s'
def oA:aA->aA->Option aA:=vv (λi j=>(i.natAbs<2^64\/j.natAbs<2^64)\/mV i+mV j<=134217728) λi j=>.int (i*j)
section
variable {a b:aU}{fa fb:EF}
theorem Ti:OpR X (jT .Mult) (rI (λi j=>(i.natAbs<2^64\/j.natAbs<2^64)\/mV i+mV j<=134217728) λi j=>.int (i*j)):=by
 intro ac s Z H x y v u Q I rx ry ⟨i,j,ex,ey,hc,q⟩;rcases hc with hc|hc
 .exact ZJ ac s Z H x y v u Q I rx ry ⟨i,j,ex,ey,.inl hc,q⟩
 .exact yb (λi j _ _ _ _ _ hc q=>mul_int q (J9 (bB _) (bB _) hc)) ac s Z H x y v u Q I rx ry ⟨i,j,ex,ey,hc,q⟩
theorem Ru (ha:DE X a fa)(hb:DE X b fb):DE X (.BinOp a .Mult b pos) (ah oA fa fb):=pM Ti (xJ (λ_ _ h=>h) λ_ _ _=>Aak.2 rfl) ha hb
end
theorem Za {k':List aA}{b:aC}{as pc:List aC}{P:OP->aH->Prop}(ra:kR s.heap (.ref a) (.tuple k) as)(rb:kR s.heap (.ref b) (.tuple k') pc)(hs:eG k k'=ae)(h:P (.done (.ret (.bool (decide (cA k<cA k'))))) s) :
  aM (aP prog w) A (Builtin.«tuple.__lt__» ⟨[.ref a,.ref b],[]⟩) P E s:=by
 obtain⟨_,o,xs,n,z,ho,hc,hd,hr⟩:=lT ra;cases z;obtain⟨_,o',ys,n',z,mi,de,ko,uz⟩:=lT rb;cases z;have hsz:xs.size=ys.size:=by
  have l1:=tV hr;have l2:=tV uz;have ll:=yP hs;simp only[kW] at l1 l2
  lia
 have ty:s.TypeIs (.ref b) "tuple":=⟨_,mi,de⟩;show aM _ _ (isInstance (.ref b) (.type "tuple")>>=_) _ _ s;refine aF (oQ ty isSubtype_tuple_tuple ?_);simp only[AY,gA,if_false];refine aF (Hf ho hd ?_);refine aF (Hf mi ko ?_);rw[11];refine zV _
  (λrest r s'=>r.1=ab/\s'=s/\∃ q q' gs qy bs uw,rest=List.zip gs qy/\lW s.heap gs q bs/\lW s.heap qy q' uw/\eG q q'=ae/\decide (cA q<cA q')=decide (cA k<cA k'))
  _ ?_ ?_ _ _ ⟨rfl,rfl,k,k',xs.toList,ys.toList,_,_,rfl,hr,uz,hs,rfl⟩
 .rintro⟨u,v⟩ rest r s' ⟨U9,rfl,q,q',gs,qy,bs,uw,hz,h1,h2,hq,ny⟩;cases h1 with
  |nil=>simp at hz
  |cons r1 r2=>
   cases h2 with
   |nil=>simp at hz
   |cons uy xm=>
    simp only[OX,Jk,Prod.mk.injEq] at hz;obtain⟨⟨rfl,rfl⟩,rfl⟩:=hz;cases r1 with
    |int x t=>
     cases uy with
     |int y t'=>
      refine aF ((dP prog w).eqBool (yV _ _ x t) (yV _ _ y t') ?_);refine qA (λz=>?_) λz=>?_
      .have e:x≠y:=λq=>by simp[q] at z
       refine aF (kO (aF (show aM _ _ (fZ .Lt (.int x t) (.int y t')) _ _ _ from lt_int ?_)))
       have:decide (cA k<cA k')=decide (x<y):=by
        rw[<-ny,decide_eq_decide,xW];simp[e]
       rw[this] at h;exact aF (aN (aN (aN h)))
      .have e:x=y:=by simpa using z
       subst e;refine aN ⟨rfl,rfl,_,_,_,_,_,_,rfl,r2,xm,by simpa [eG] using hq,?_⟩
       rw[<-ny,decide_eq_decide,xW];simp
     |_=>simp[eG] at hq
    |str x t=>
     cases uy with
     |str y t'=>
      refine aF ((dP prog w).eqBool (zH _ _ x t) (zH _ _ y t') ?_);refine qA (λz=>?_) λz=>?_
      .have e:x≠y:=λq=>by simp[q] at z
       refine aF (kO (aF (show aM _ _ (fZ .Lt (.str x t) (.str y t')) _ _ _ from lt_str ?_)))
       have:decide (cA k<cA k')=decide (x.cps.toList<y.cps.toList):=by
        rw[<-ny,decide_eq_decide,CB];simp[e]
       rw[this] at h;exact aF (aN (aN (aN h)))
      .have e:x=y:=by simpa using z
       subst e;refine aN ⟨rfl,rfl,_,_,_,_,_,_,rfl,r2,xm,by simpa [eG] using hq,?_⟩
       rw[<-ny,decide_eq_decide,CB];have:¬ x.cps.toList<x.cps.toList:=Ja _;simp[this]
     |_=>simp[eG] at hq
    |_=>simp[eG] at hq
 .rintro⟨r1,r2⟩ s' ⟨U9,rfl,q,q',gs,qy,bs,uw,hz,h1,h2,hq,ny⟩;simp only at U9;subst U9;refine aN ?_;have hf:decide (cA k<cA k')=af:=by
   rw[<-ny];cases h1 with
   |nil=>
    cases h2 with
    |nil=>rfl
    |cons _ _=>simp[eG] at hq
   |cons _ _=>
    cases h2 with
    |nil=>simp[eG] at hq
    |cons _ _=>simp at hz
  rw[hf] at h;show P (.done (.ret (.bool (decide (xs.size<ys.size))))) s';rw[decide_eq_false ()]
  exact h
theorem Ox {k':List aA}{b:aC}(hu:A.units<cLine)(ha:Abn s.heap k a)(hb:Abn s.heap k' b)(hs:eG k k'=ae)(h:Q (.bool (decide (cA k<cA k'))) s) :
  aM (aP prog w) A (fZ .Lt (.ref a) (.ref b)) Q E s:=by
 obtain⟨_,_,as,ra⟩:=ha;obtain⟨_,_,pc,rb⟩:=hb;show aM _ _ (OG .Lt (.ref a) (.ref b)) Q E s;exact wpAny_richCompare_same_room (MT ra) (MT rb) PySem.F.slot_tuple_lt (fE PySem.F.slot_tuple_lt (MT ra) PySem.F.entry_tuple_lt (Za ra rb hs ⟨_,rfl,(λe=>nomatch e),h⟩) (PySem.F.args_tuple_lt_2 _ _)) hu
section
variable {S:aC}{fp:List aC}{P:Nat->aD->Prop}{St:Nat->aQ->Prop}{h₀:aQ}{kw:List (aE×aD)}{bt:Nat->Nat->Bool}
theorem Vn (W:Walks prog w A.in1 I fp [I] n P St)(hI:h₀.get? I=ab)(M7:h₀.get? S=ab)(wc:S∉fp)
  (hc:∀ i j vi vj (s:aH) (Q E:aD->aH->Prop),P i vi->P j vj->(∀ b o,h₀.get? b=aa o->s.heap.get? b=aa o)->Q (.bool (bt i j)) s->aM (aP prog w) A.in1 (OG .Lt vi vj) Q E s) :
  ∀ (k j:Nat) (s:aH) (o:Array aD) (c:Nat),n-j=k->j<=n->St j s.heap->((j=0/\o = #[])\/∃ vb i,o = #[vb,vb]/\j=i+1/\P (mP bt i) vb)->s.heap.get? S=aa { cls:=.type "list",dict:=ab,data:=.seq o c,slots:=#[] } ->
  (∀ b u,h₀.get? b=aa u->s.heap.get? b=aa u)->(n=0->∃ x d r,kw=(x,d)::r/\∀ h' tk,(∀ b u,h₀.get? b=aa u->h'.get? b=aa u)->R (.ok (.ret d)) { s with heap:=h',toks:=tk }) ->
  (∀ v h' tk i,n=i+1->P (mP bt i) v->(∀ b u,h₀.get? b=aa u->h'.get? b=aa u)->R (.ok (.ret v)) { s with heap:=h',toks:=tk }) ->
  iR (aP prog w) A (.builtin "min.loop" ⟨[.ref I,.none,.ref S],kw⟩) R s:=by
 have gn:(toString "min" ++ toString ".loop" : String) = "min.loop":=by decide
 have zy:S∉[I]:=λh=>wc (W.sub _ h)
 have out:∀ {b:aC} {u:bC},h₀.get? b=aa u->b∉[I]/\b≠S:=λ{b u} e=>⟨λm=>(by rw[cE.1 m,hI] at e;cases e),λz=>(by rw[z,M7] at e;cases e)⟩
 intro k;induction k with
 |zero=>
  intro j s o c hk hj dq ho hS kp h0 hR;have e:j=n:=()
  subst e;refine jD F.entry_min_loop ?_;rw[kX AS _];refine aF (hZ hS rfl ?_);refine aF (zR (W.done s _ _ dq λh' tk bz=>?_))
  have xp:∀ b u,h₀.get? b=aa u->h'.get? b=aa u:=λb u e=>bz b u (out e).1 (kp b u e)
  rcases ho with⟨e,rfl⟩|⟨vb,i,rfl,e,hP⟩
  .obtain⟨x,d,r,rfl,q⟩:=h0 e;exact aF (kO (aN (q h' tk xp)))
  .refine aF (tX (bz S _ zy hS) rfl (aF (rR (aN ?_))));exact hR vb _ tk i e hP λb u e=>(qL _ _ (fL (out e).2)).trans (xp b u e)
 |succ k ih=>
  intro j s o c hk hj dq ho hS kp h0 hR;have bh:j<n:=()
  refine jD F.entry_min_loop ?_;rw[kX AS _];refine aF (hZ hS rfl ?_);refine aF (zR (W.item j s _ _ bh dq λv h' tk hP jc bz=>?_))
  have gy:=bz S _ zy hS;have xp:∀ b u,h₀.get? b=aa u->h'.get? b=aa u:=λb u e=>bz b u (out e).1 (kp b u e)
  have put:P (mP bt j) v->∀ g:Array aD->Array aD,g o = #[v,v]->iR (aP prog w) A (.builtin "min.loop" ⟨[.ref I,.none,.ref S],kw⟩) R { s with heap:=h'.update S (fG g),toks:=tk }:=λhb g hg=>by
   obtain⟨c',de⟩:∃ c',(h'.update S (fG g)).get? S=aa (fY "list" (g o) c'):=⟨_,get?_update_seq gy g⟩;rw[hg] at de;exact ih (j+1) _ #[v,v] c' () bh (W.frame _ _ _ jc λb hbf u e=>(qL _ _ (λh:S=b=>wc (by rw[h];exact hbf))).trans e) (.inr ⟨v,j,rfl,rfl,hb⟩) de (λb u e=>(qL _ _ (fL (out e).2)).trans (xp b u e)) (λz=>()) hR
  rcases ho with⟨e,rfl⟩|⟨vb,i,rfl,e,hb⟩
  .subst e;show aM _ A.in1 (zW S (λ_=>#[v,v])>>=_) _ _ _
   refine aF (tX gy rfl ?_);rw[gn];exact aN ⟨jS AS _,put hP _ rfl⟩
  .subst e;show aM _ A.in1 (tryCatch (nW [v,v] (OG .Lt v vb>>=_)) _>>=_) _ _ _;refine aF (zR (eP (aF (hc _ _ v vb _ _ _ hP hb xp ?_))));refine aF (eP (zS (aF (rR (aN ?_)))));cases q:bt (i+1) (mP bt i) with
   |true=>
    simp only[if_true];refine aF (tX gy rfl (aF (rR ?_)));rw[gn];exact aN ⟨jS AS _,put (by simp only[mP,q,if_true];exact hP) _ rfl⟩
   |false=>
    simp only[gA,if_false];refine aF (rR ?_);rw[gn];exact aN ⟨jS AS _,ih _ _ _ c () bh jc (.inr ⟨vb,i+1,rfl,rfl,by simp only[mP,q,gA,if_false];exact hb⟩) gy xp (λz=>()) hR⟩
theorem Nj(hh:A.handled=ab)(hl:s.heap.IsList l vs.toArray)(U':kw=[]\/kw=[(("default" : aE),eE)])
  (hc:∀ i j vi vj (s':aH) (Q E:aD->aH->Prop),vs[i]?=aa vi->vs[j]?=aa vj->(∀ b o,s.heap.get? b=aa o->s'.heap.get? b=aa o)->Q (.bool (bt i j)) s'->aM (aP prog w) A.in1 (OG .Lt vi vj) Q E s')
  (h0:vs=[]->kw≠[]/\∀ h' tk,(∀ b o,s.heap.get? b=aa o->h'.get? b=aa o)->Q .none { s with heap:=h',toks:=tk })
  (h:∀ v h' tk i,vs.length=i+1->vs[mP bt i]?=aa v->(∀ b o,s.heap.get? b=aa o->h'.get? b=aa o)->Q v { s with heap:=h',toks:=tk }):aM (aP prog w) A (call (.builtin "min") [.ref l] kw) Q E s:=by
 have gn:(toString "min" ++ toString ".loop" : String) = "min.loop":=by decide
 have bh:l<s.heap.objs.size:=by obtain⟨_,e,_⟩:=hl;exact bI e
 have ha:qF "min" ⟨[.ref l],kw⟩:=by rcases U' with rfl|rfl<;>(unfold qF;kernel_rfl)
 refine kmk_tree F.kind_min F.plain_min F.entry_min ha ?_;obtain⟨dv,edv,ek⟩:∃ dv:Option aD,Builtin.Builtins.bindParams "min" ["key","default"] 0 ⟨[],kw⟩=pure [ab,dv]/\dv.toList.map (λd=>(("default" : aE),d))=kw:=by
  rcases U' with rfl|rfl
  .exact⟨ab,rfl,rfl⟩
  .exact⟨aa .none,rfl,rfl⟩
 refine aF (wG edv (aF (aN (aF (zT hl (aF (zU ?_ (dW _))))))));rw[gn];have fr:∀ b,s.heap.objs.size<=b->s.heap.get? b=ab:=λb hb=>Heap.get?_none_of_le hb
 have sz:∀ o,(s.heap.push o).objs.size=s.heap.objs.size+1:=λo=>size_push' ..
 refine aN ⟨jS AS _,?_⟩;rw[12];rw[ek];refine Vn (P:=λi v=>vs.toArray[i]?=aa v) (Walks.list (A:=A.in1) hh s.heap.objs.size l (cH bh) vs.toArray) (fr _ (bB _)) (fr _ (by rw[sz];lia)) (λm=>?_) (λi j vi vj s' Q' E' hi hj kp q=>hc i j vi vj s' Q' E' (by simpa using hi) (by simpa using hj) kp q) _ 0 _ #[] _ rfl (dW _) ⟨⟨_,bG _ (cL _ rfl),rfl,rfl⟩,?_⟩ (.inl ⟨rfl,rfl⟩) (cL _ rfl) (λb u e=>bG _ (bG _ e)) (λz=>?_) λv h' tk i e hP kp=>h v h' tk i (by simpa using e) (by simpa using hP) kp
 .rw[sz] at m;simp at m
  lia
 .obtain⟨o,e,r⟩:=hl;exact⟨o,bG _ (bG _ e),r⟩
 .have e:vs=[]:=by simpa using z
  obtain⟨k1,k2⟩:=h0 e;rcases U' with rfl|rfl
  .exact absurd rfl k1
  .exact⟨_,_,_,rfl,k2⟩
end
def vw:aA->aA->Bool
 |.int i,.int j=>decide (i<j)
 |.tuple k,.tuple k'=>decide (cA k<cA k')
 |_,_=>af
def kF (ds:List aA):Nat->Nat:=mP λi j=>vw (ds.getD i .none) (ds.getD j .none)
def L7 (ds:List aA):Bool:=(BK ds).isSome||((iA ds).any λkss=>sameAll kss)
def EX (nn:Bool):List aA->Option aA
 |[.list ds]=>if L7 ds=ae/\(ds=[]->nn=ae) then aa (match ds with|[]=>.none|_::r=>ds.getD (kF ds r.length) .none) else ab
 |_=>ab
theorem Tf{is:List Int}(h:IntsAre vs is):∀ {i:Nat} {v:aD},vs[i]?=aa v->∃ t,v=.int (is.getD i 0) t:=by
 induction h with
 |nil=>intro i v e;simp at e
 |cons n t r ih=>
  intro i v e;cases i with
  |zero=>exact⟨t,by simpa using e.symm⟩
  |succ i=>simpa using ih (by simpa using e)
theorem Fz(ta:Ae7 h vs kss):∀ {i:Nat} {v:aD},vs[i]?=aa v->∃ b k,v=.ref b/\k∈kss/\(kss.map cW).getD i .none=.tuple k/\Abn h k b:=by
 induction ta with
 |nil=>intro i v e;simp at e
 |cons h t ih=>
  intro i v e;cases i with
  |zero=>
   obtain⟨b,rfl,hd⟩:=h;exact⟨b,_,by simpa using e.symm,bE,rfl,hd⟩
  |succ i=>
   obtain⟨b,k,h1,h2,h3,h4⟩:=ih (by simpa using e)
   exact⟨b,k,h1,bL _ h2,h3,h4⟩
theorem MC (bt:Nat->Nat->Bool):∀ n,mP bt n<=n
 |0=>bB _
 |n+1=>by
  have:=MC bt n;simp only[mP];split<;>lia
def V8:Bool->List (aE×aD)
 |true=>[("default",.none)]
 |false=>[]
def GU (K:aK)(nn:Bool):List V->Hp->VK->Prop:=λxs H Q=>∃ p ys ds,xs=[.ref p]/\SqL K H p ys/\Aal K H ds ys/\L7 ds=ae/\(ds=[]->nn=ae/\Q .non H)/\∀ i,ds.length=i+1->Q (ys.getD (kF ds i) .non) H
theorem D5 (nn:Bool)(hc:X.calm=ae)(hu:X.A.units+40<cLine){Z:St}{us:List aD}{Q:VK}(I:Inv X ac Z H s)(r:Vals xs us)(h:GU X.K nn xs H Q) :
  aM (aP X.prog X.w) X.A (call (.builtin "min") us (V8 nn)) (λu s'=>∃ v H',Inv X ac Z H' s'/\RelV v u/\Q v H') X.xe s:=by
 obtain⟨p,ys,ds,rfl,hp,rd,ok,q0,q⟩:=h;obtain⟨u,rfl,ru⟩:=vals1 r;cases ru;obtain⟨its,rv,pl,hz⟩:=I.list hp;have l1:=rv.length;have l2:=rd.length;have Z1:∀ {h':aQ} {tk:Nat},(∀ b o,s.heap.get? b=aa o->h'.get? b=aa o)->Inv X ac Z H { s with heap:=h',toks:=tk }:=λk=>I.kept k
 refine Nj (bt:=λi j=>vw (ds.getD i .none) (ds.getD j .none)) (I.ok.hd hc) pl.isList (by cases nn<;>simp[V8]) ?_ (λe=>?_) λv h' tk i e ev kp=>?_
 .rcases Jz.1 ok with ok|ok
  .obtain⟨is,e⟩:=wQ.1 ok;obtain rfl:=Ez e;obtain rfl:=Cw rd;have hi:=RO rv;intro i j vi vj s' Q' E' ei ej kp qq;have gd:∀ i v,its[i]?=aa v->(is.map aY).getD i .none=.int (is.getD i 0):=λi v e=>by
    have:=(cJ.1 e).1;have hl:i<is.length:=by simpa using(by lia:i<(is.map V.int).length)
    simp[hl]
   rw[gd i vi ei,gd j vj ej] at qq;exact CmpOf.ints_lt (λi=>is.getD i 0) (λi v e=>Tf hi e) i j vi vj s' Q' E' ei ej qq
  .cases e:iA ds with
   |none=>rw[e] at ok;cases ok
   |some kss=>
    have ok2:sameAll kss=ae:=by rw[e] at ok;exact ok
    obtain⟨rfl,hk⟩:=JS e;have ta:=JF I.hok (JU hk rd) rv;intro i j vi vj s' Q' E' ei ej kp qq;obtain⟨a,k,rfl,m1,e1,d1⟩:=Fz ta ei;obtain⟨b,k',rfl,m2,e2,d2⟩:=Fz ta ej;rw[e1,e2] at qq;exact Ox (show X.A.units+1<cLine by lia) (d1.keep λb o _ _ e _ _=>kp b o e) (d2.keep λb o _ _ e _ _=>kp b o e) (dQ.1 (dQ.1 ok2 k m1) k' m2) qq
 .obtain⟨a1,a2⟩:=q0 (by rw[<-FV,<-l2,l1,e];rfl)
  subst a1;exact⟨by simp[V8],λh' tk kp=>⟨.non,H,Z1 kp,rfl,a2⟩⟩
 .have hb:kF ds i<its.length:=(cJ.1 ev).1;refine⟨_,H,Z1 kp,?_,q i ()⟩
  have:=LI (kF ds i) rv ()
  rwa [gX (l:=its),show its[kF ds i]?=aa v from ev] at this
theorem Wa (hc:X.calm=ae)(hu:X.A.units+40<cLine):Ac1 X (.builtin "min") (GU X.K af):=λac s Z H xs us Q I r h=>D5 af hc hu I r h
theorem Xd{nn:Bool}:CallD K 0 (GU K nn) (EX nn):=λP H xs ds d Q hP r e k=>by
 unfold EX at e;split at e
 .rename_i ds;obtain⟨⟨ok,hn⟩,rfl⟩:=cM e;rw[9];obtain⟨p,ys,rfl,hp,rr⟩:=Aa7.1 r';refine⟨p,ys,ds,rfl,Aam.sqL hp,rr.ext Aam,ok,λe=>?_,λi e=>?_⟩
  .subst e;exact⟨hn rfl,k.zero Ext.refl (Abr.2 rfl)⟩
  .cases ds with
   |nil=>cases e
   |cons d0 r0=>
    have ei:r0.length=i:=by simpa using e
    subst ei;have ll:=rr.length;have hb:kF (d0::r0) r0.length<ys.length:=by
     have:=MC (λi j=>vw ((d0::r0).getD i .none) ((d0::r0).getD j .none)) r0.length
     rw[ll];exact Nat.lt_succ_of_le this
    obtain⟨v,h1,h2⟩:=rr.get (show(d0::r0)[kF (d0::r0) r0.length]?=aa ((d0::r0).getD (kF (d0::r0) r0.length) .none) by
     rw[gX,fN (by rw[<-ll];exact hb)];rfl)
    refine k.zero Ext.refl ?_;rw[gX,h1];exact h2
 .cases e
def Kw:V->List V->Hp->VK->Prop:=λx vs H Q=>∃ d b ep zz kvs more,x=.ref d/\vs=[.ref b]/\H d=aa (.dK ep kvs)/\H b=aa (.dK zz more)/\d≠b/\kvs.length+more.length<=sizeLine/\∀ n,Q .non (upd H d (.dK n (kJ kvs more)))
theorem F8:J' X "dict.update" Kw:=by
 intro ac s Z H x vs v us Q I rx rv h;obtain⟨d,b,ep,zz,kvs,more,rfl,rfl,e,e2,ne,l,q⟩:=h;cases rx;obtain⟨u,rfl,ru⟩:=rv.one;cases ru;obtain⟨z,hd,ws,cc,dd⟩:=rB I.hok e;obtain⟨z2,ox,ws2,Go,ur⟩:=rB I.hok e2;have l1:=jX cc;have l2:=jX Go;refine OL J7 dd.typeIs PySem.F.entry_dict_update (PySem.F.args_dict_update_2 _ _) (meets_dict_update (dP X.prog X.w) d b ne ox) ⟨ws,ws2,dd,ur,(),λh' ou _ sb=>?_⟩
 have hl:(kJ kvs more).length<=sizeLine:=by have:=EE more kvs;lia
 have he:∃ q,h'.get? d=aa q:=let ⟨q,_,_,hq,_⟩:=ou;⟨q,hq⟩;obtain⟨n,da⟩:=ou.dictAt;exact⟨.non,_,CQ I (by rw[e];exact oU) sb he (vB hl hd (Go.merge cc) da),rfl,q n⟩
def qO:List (aA×aA)->Option (List (aI×aA))
 |[]=>aa []
 |p::r=>(bU p.1).bind λk=>(qO r).bind λps=>aa ((k,p.2)::ps)
theorem Vv:∀ {es:List (aA×aA)} {ps:List (aI×aA)} {qs:List (aI×V)},qO es=aa ps->Abq K H es qs->cQ (λ(p:aI×aA) (q:aI×V)=>p.1=q.1/\Abj K H p.2 q.2) ps qs:=by
 intro es;induction es with
 |nil=>
  intro ps qs e r;cases e;rw[Abh.1 r];exact .nil
 |cons p es ih=>
  intro ps qs e r;obtain⟨k,e1,e⟩:=ak (show((bU p.1).bind λk=>(qO es).bind λps=>aa ((k,p.2)::ps))=aa ps from e)
  obtain⟨X6,e2,e⟩:=ak e;cases e;obtain⟨p1,p2⟩:=p;obtain⟨k',v,t,rfl,r1,r2,r3⟩:=Aa3.1 r;refine .cons ⟨?_,r2⟩ (ih e2 r3);have:=wC e1;simp only at this r1;rw[r1] at this;cases k<;>cases k'<;>simp_all[kD]
def BL (i:Nat)(m:Md)(f:EF):SF:=λY=>(eV 0 m f Y).bind λd=>(oO i Y).bind λkds=>match d with
 |.dict es=>(qO es).bind λps=>if dh es=ae/\kds.length+es.length<=sizeLine then aa (.nx (Y.set i (aa (1,.dict (kI ps kds))))) else ab
 |_=>ab
theorem Sta.dic1_out{Z:St}{ds:List (aA×aA)}{p b:aC}{o:HO}(S:Sta K H0 P0 B0 Y Z H fp)(e:Y[i]?=aa (aa (1,.dict ds)))(h:Z[i]?=aa (aa (.ref p)))(hb:L2.hid H (Hd P0 fp) b=aa o):p≠b:=by
 obtain⟨v,h1,h2⟩:=S.slot i 1 _ e;obtain⟨p',xs,Fs,rfl,hp,hF,h3⟩:=h2;have:p'=p:=by rw[h] at h1;cases h1;rfl
 rw[13];intro z;subst z;exact(Abx.1 hb).1 (.inr ⟨i,by rw[hF];exact bE⟩)
theorem D8 (i:Nat)(m:Md)(he:DE X e f)(hN:Nm X i x:=by exact iO)(q5:Bm X (.Name x px) e [] "update" av ay:=by exact⟨rfl,rfl,rfl,rfl,rfl⟩)
  (ja:kP (.Call (.Attribute (.Name x px) "update" av) [e] [] ay) ab pos.line X.env=pure af:=by rfl):DS X H0 P0 n0 (.Expr (.Call (.Attribute (.Name x px) "update" av) [e] [] ay) pos) (BL i m f):=
 PS.imp (vE (pK FJ J7 PySem.F.type_dict_update F8 (hN.pe) (fK (ev m he) iE q5.s) q5) ja) λD Z H gh=>by
  rw[6];obtain⟨d,e1,bm⟩:=ak ef;obtain⟨kds,e2,bq⟩:=ak bm;clear ef bm;cases d with
  |dict es=>
   obtain⟨ps,e3,cq⟩:=ak (show((qO es).bind λps=>if dh es=ae/\kds.length+es.length<=sizeLine then aa (Out.nx (Y.set i (aa (1,.dict (kI ps kds))))) else ab)=aa o from bq)
   obtain⟨⟨hp,hl⟩,rfl⟩:=cM cq;obtain⟨p,ep,xs,h1,h2,_,_⟩:=S.dic1 (pX e2);refine⟨.ref p,h1,.inr (.inr (.inl ⟨rfl,.inl ⟨ep,xs,h2⟩⟩)),B0,Y,fp,_,S,e1,λv H2 gh=>?_⟩
   obtain⟨dr,S2,r2⟩:=gh;obtain⟨p2,zz,M5,q1,q2,q3,q4⟩:=S2.dic1 (pX e2);have:p2=p:=by rw[h1] at q1;cases q1;rfl
   rw[13];obtain⟨b,kvs,rfl,hb,rr⟩:=(pW hp).1 r2.2;exact⟨p2,b,zz,kvs.1,M5,kvs.2,rfl,rfl,q2,(Abx.1 hb).2,S2.dic1_out (pX e2) q1 hb,by rw[q3.length,rr.length];exact hl,λn=>k _ _ dr (q4 n _ _ (KM (Vv e3 rr) q3))⟩
  |_=>cases bq
section
variable {P:bN}
theorem o7{Q:Option bC->aH->Prop}(ho:s.heap.get? a=aa o)(h:Q (aa o) s):aM (aP P w) A (loadIfAlive a) Q E s:=λΓ p _=>by
 show Q (s.heap.get? a) s;rw[ho];exact h
abbrev HL (h:aQ)(z TI TO:aC)(T:Nat)(c:Bool):Prop:=
 h.get? z=aa { cls:=.type "zip",dict:=ab,data:=.fields #[cY T,.bool c,.bool af,.ref TI,.ref TO],slots:=#[] }
variable {C TI TO:aC}{xs ys:Array aD}{k T:Nat}{c:Bool}
def wz (D z TI TO i1 i2:aC)(S1 S2:Nat->aQ->Prop)(k:Nat)(h:aQ):Prop:=
 (∃ T c,HL h z TI TO T c/\(∃ o,h.get? T=aa o)/\T≠z/\T≠i1/\T≠i2/\T≠D)/\mD h TI (.ref i1) (.ref i2)/\S1 k h/\S2 k h
theorem Gb {Q:Bool->aH->Prop}(gz:HL s.heap z TI TO T c)(ha:∃ o,s.heap.get? T=aa o)(q:∀ h' c',HL h' z TI TO T c'->mT z s.heap h'->Q af { s with heap:=h' }):aM (aP P w) A (AV (.ref z)) Q E s:=by
 obtain⟨o,ha⟩:=ha;unfold AV;refine aF (eK gz rfl rfl ?_);refine aF (o7 (by simpa using ha) ?_)
 refine aF (eK gz rfl rfl ?_);cases c with
 |true=>
  exact aF (aN (aN (q _ _ gz (Heap.SameBut.refl _ _))))
 |false=>
  exact aF (jP gz (by simp) λh' g' sb=>aN (q h' ae g' sb))
theorem k6 {x y:aD}(D:ZApart z TI TO i1 i2 o1 o2)(U:Sub P w i1 o1 S1 xs)(V:Sub P w i2 o2 S2 ys)(st:wz C z TI TO i1 i2 S1 S2 k s.heap)(hx:xs[k]?=aa x)(hy:ys[k]?=aa y)
  (q:∀ h' T,wz C z TI TO i1 i2 S1 S2 (k+1) h'->mD h' T x y->s.heap.objs.size<=T ->
   (∀ c o,c≠z->c≠TO->c≠i1->c≠i2->s.heap.get? c=aa o->h'.get? c=aa o)->Q (.ref T) { s with heap:=h' }) :
  aM (aP P w) A (Builtin.«zip.__next__» ⟨[.ref z],[]⟩) (λfin s'=>∃ v,fin=.done (.ret v)/\Q v s') E s:=by
 obtain⟨⟨T,c,gz,⟨oT,gT⟩,T1,T2,T3,T4⟩,gI,iz,il⟩:=st;have z1:i1≠z:=λe=>D.z1 (e ▸ U.mem)
 have z2:i2≠z:=λe=>D.z2 (e ▸ V.mem)
 show aM _ _ (nX (.ref z) 2>>=_) _ E s;refine aF (eK gz rfl rfl ?_);refine aF (eK gz rfl rfl (aF (hZ gI rfl ?_)));refine aF (Gb gz ⟨oT,gT⟩ λha c' qu sa=>?_)
 simp only[gA,if_false,pure_bind];rw[11];rw[<-AZ];simp only[FX,PD];refine aF (aF (eP ?_));refine aF (U.item _ _ _ _ k x (U.but iz D.z1 sa.extBut) hx λhb qv sb=>aN ?_)
 refine aN (aF (aF (eP ?_)));refine aF (V.item _ _ _ _ k y (V.but (V.but il D.z2 sa.extBut) D.x12 sb.extBut) hy λhd we sd=>aN ?_)
 refine aN (aN ?_);refine aF (FA (hsz:=by show 2<=sizeLine;decide) ?_)
 have up:∀ c o,c≠z->c≠i1->c≠i2->s.heap.get? c=aa o->hd.get? c=aa o:=λc o n1 n3 n4 g=>sd.extBut _ _ n4 (sb.extBut _ _ n3 (sa.extBut _ _ n1 g))
 have size:hd.objs.size=s.heap.objs.size:=by rw[sd.1,sb.1,sa.1]
 have No:=sd.extBut _ _ z2.symm (sb.extBut _ _ z1.symm qu);have V0:=U.but qv D.x21 sd.extBut;have pu:∀ (c:aC) o,hd.get? c=aa o->(hd.push { cls:=.type "tuple",data:=.seq #[x,y] }).get? c=aa o:=λc o g=>bG _ g
 refine aN ⟨_,rfl,q _ hd.objs.size ⟨⟨T,c',pu _ _ No,⟨oT,pu _ _ (up _ _ T1 T2 T3 gT)⟩,T1,T2,T3,T4⟩,pu _ _ (up _ _ D.TIz D.TI1 D.TI2 gI),U.keep _ _ _ V0 λc _ o g=>pu _ _ g,V.keep _ _ _ we λc _ o g=>pu _ _ g⟩ (cL _ rfl) (FQ size.symm) λc o n1 n2 n3 n4 g=>pu _ _ (up c o n1 n3 n4 g)⟩
theorem w9 {Q:Fin->aH->Prop}(hh:A.handled=ab)(D:ZApart z TI TO i1 i2 o1 o2)(U:Sub P w i1 o1 S1 xs)(V:Sub P w i2 o2 S2 ys)(st:wz C z TI TO i1 i2 S1 S2 k s.heap)(f8:xs[k]?=ab\/ys[k]?=ab)
  (q:∀ h' e,(∀ c o,c≠z->c≠TO->c≠i1->c≠i2->s.heap.get? c=aa o->h'.get? c=aa o)->(∃ o,h'.get? e=aa o/\o.cls=.type "StopIteration")->E (.ref e) { s with heap:=h' }) :
  aM (aP P w) A (Builtin.«zip.__next__» ⟨[.ref z],[]⟩) Q E s:=by
 obtain⟨⟨T,c,gz,⟨oT,gT⟩,T1,T2,T3,T4⟩,gI,iz,il⟩:=st;show aM _ _ (nX (.ref z) 2>>=_) _ E s;refine aF (eK gz rfl rfl ?_);refine aF (eK gz rfl rfl (aF (hZ gI rfl ?_)));refine aF (Gb gz ⟨oT,gT⟩ λha c' qu sa=>?_)
 simp only[gA,if_false,pure_bind];rw[11];rw[<-AZ];simp only[FX,PD];refine aF (aF (eP ?_));cases hx:xs[k]? with
 |none=>
  refine aF (U.done _ _ _ _ k hh (U.but iz D.z1 sa.extBut) hx λhb e sb he=>?_)
  exact q hb e (λc o n1 _ n3 _ g=>sb _ _ n3 (sa.extBut _ _ n1 g)) he
 |some x=>
  have hy:=f8.resolve_left λh=>by rw[hx] at h;cases h
  refine aF (U.item _ _ _ _ k x (U.but iz D.z1 sa.extBut) hx λhb qv sb=>aN ?_)
  refine aN (aF (aF (eP ?_)));refine aF (V.done _ _ _ _ k hh (V.but (V.but il D.z2 sa.extBut) D.x12 sb.extBut) hy λhd e sd he=>?_)
  exact q hd e (λc o n1 _ n3 n4 g=>sd _ _ n4 (sb.extBut _ _ n3 (sa.extBut _ _ n1 g))) he
def Bhz (C z TI TO i1 i2:aC)(S1 S2:Nat->aQ->Prop)(k:Nat)(h:aQ):Prop:=pd z TI TO i1 i2 S1 S2 .none k h\/wz C z TI TO i1 i2 S1 S2 k h
theorem F9 {x y:aD}{Q:Option aD->aH->Prop}(D:ZApart z TI TO i1 i2 o1 o2)(U:Sub P w i1 o1 S1 xs)(V:Sub P w i2 o2 S2 ys)(st:Bhz C z TI TO i1 i2 S1 S2 k s.heap)(hx:xs[k]?=aa x)(hy:ys[k]?=aa y)(lC:C<s.heap.objs.size)
  (q:∀ h' T,wz C z TI TO i1 i2 S1 S2 (k+1) h'->mD h' T x y->s.heap.objs.size<=T ->
   (∀ c o,c≠z->c≠TO->c≠i1->c≠i2->s.heap.get? c=aa o->h'.get? c=aa o)->Q (aa (.ref T)) { s with heap:=h' }):aM (aP P w) A (eY (.ref z)) Q E s:=by
 rcases st with st|st
 .have lz:=bI st.1;have l1:i1<s.heap.objs.size:=by obtain⟨o,e⟩:=U.obj _ _ st.2.2.2.1 _ U.mem;exact bI e
  have l2:i2<s.heap.objs.size:=by obtain⟨o,e⟩:=V.obj _ _ st.2.2.2.2 _ V.mem;exact bI e
  refine WI D U V st hx hy λh' ⟨g1,g2,g3,g4,g5⟩ pr sz cw=>q h' _ ⟨⟨_,af,g1,⟨_,pr⟩,iS lz,iS l1,iS l2,iS lC⟩,g2,g4,g5⟩ pr (bB _) cw
 .have ty:s.TypeIs (.ref z) "zip":=by
   obtain⟨⟨T,c,gz,_⟩,_⟩:=st;exact⟨_,gz,rfl⟩
  unfold eY;exact aF (nQ (jR ty uK (fE uK ty PV (k6 D U V st hx hy λh' T a1 a2 a3 a4=>aN (q h' T a1 a2 a3 a4)) (PX _))))
theorem A0 {Q:Option aD->aH->Prop}(hh:A.handled=ab)(D:ZApart z TI TO i1 i2 o1 o2)(U:Sub P w i1 o1 S1 xs)(V:Sub P w i2 o2 S2 ys)(st:Bhz C z TI TO i1 i2 S1 S2 k s.heap)(f8:xs[k]?=ab\/ys[k]?=ab)
  (q:∀ h',(∀ c o,c≠z->c≠TO->c≠i1->c≠i2->s.heap.get? c=aa o->h'.get? c=aa o)->Q ab { s with heap:=h' }):aM (aP P w) A (eY (.ref z)) Q E s:=by
 rcases st with st|st
 .exact WC hh D U V st f8 q
 .have ty:s.TypeIs (.ref z) "zip":=by
   obtain⟨⟨T,c,gz,_⟩,_⟩:=st;exact⟨_,gz,rfl⟩
  unfold eY;refine aF (nQ (jR ty uK (fE uK ty PV (w9 hh D U V st f8 λh' e kp ⟨o,g1,g2⟩=>?_) (PX _))))
  exact aF (oQ ⟨o,g1,g2⟩ zX (aN (q _ kp)))
end
theorem Yo:tZ (.type "zip") "keys" = pure ab:=by rw[rS,rW];kernel_rfl
section
variable {TI TO:aC}{xs ys:Array aD}
theorem Bhz.keep {P:bN}{k:Nat}(U:Sub P w i1 o1 S1 xs)(V:Sub P w i2 o2 S2 ys)(nz:D≠z)(nI:D≠TI)(n1:D∉o1)(n2:D∉o2)(st:wz D z TI TO i1 i2 S1 S2 k h)(kp:∀ c o,c≠D->h.get? c=aa o->h'.get? c=aa o):wz D z TI TO i1 i2 S1 S2 k h':=by
 obtain⟨⟨T,c,gz,⟨oT,gT⟩,T1,T2,T3,T4⟩,gI,iz,il⟩:=st;exact⟨⟨T,c,kp _ _ nz.symm gz,⟨oT,kp _ _ T4 gT⟩,T1,T2,T3,T4⟩,kp _ _ nI.symm gI,U.keep _ _ _ iz λc hc o g=>kp _ _ (λe=>n1 (e ▸ hc)) g,V.keep _ _ _ il λc hc o g=>kp _ _ (λe=>n2 (e ▸ hc)) g⟩
theorem C4(hh:A.handled=ab)(am:ZApart z TI TO i1 i2 o1 o2)(U:Sub prog w i1 o1 S1 xs)(V:Sub prog w i2 o2 S2 ys)(D:aC)(nz:D≠z)(nI:D≠TI)(nO:D≠TO)(n1:D∉o1)(n2:D∉o2)(kvs:List (aI×aD))(hn:kvs.length<=sizeLine)
  (f8:xs[kvs.length]?=ab\/ys[kvs.length]?=ab) (Id:∀ (j:Nat) p,kvs[j]?=aa p->∃ kv,xs[j]?=aa kv/\ys[j]?=aa p.2/\(dP prog w).is p.1 kv=ae) :
  ∀ (k i:Nat) (s:aH),kvs.length-i=k->i<=kvs.length->Bhz D z TI TO i1 i2 S1 S2 i s.heap->s.heap.DictOf (dP prog w) D (iH [] (kvs.take i)) ->
   (∀ h' tk,(∀ c o,c≠D->c≠z->c≠TO->c≠i1->c≠i2->s.heap.get? c=aa o->h'.get? c=aa o)->h'.DictOf (dP prog w) D (iH [] kvs)->R (.ok (.ret .none)) { s with heap:=h',toks:=tk }) ->
   iR (aP prog w) A (.builtin "dict.update.loop" ⟨[.ref D,.ref z,cY (i:Int),.none],[]⟩) R s:=by
 have e1:D≠i1:=λe=>n1 (e ▸ U.mem)
 have e2:D≠i2:=λe=>n2 (e ▸ V.mem)
 intro k;induction k with
 |zero=>
  intro i s hk hi dq hS hR;obtain rfl:i=kvs.length:=()
  refine jD wA ?_;rw[kX nJ _];refine aF (A0 (by simp[hh]) am U V dq f8 λh' kp=>?_)
  refine aF (aN (aN (hR h' _ (λc o _ a b c' d g=>kp c o a b c' d g) ?_)))
  obtain⟨o,es,ep,ho,r⟩:=hS;rw[AJ] at r;exact⟨o,es,ep,kp D o nz nO e1 e2 ho,r⟩
 |succ k ih=>
  intro i s hk hi dq hS hR;have bh:i<kvs.length:=()
  obtain⟨p,hp⟩:∃ p,kvs[i]?=aa p:=⟨_,fN bh⟩;obtain⟨kv,hx,hy,xq⟩:=Id i p hp;have lD:D<s.heap.objs.size:=by
   obtain⟨o,es,ep,ho,r⟩:=hS;exact bI ho
  refine jD wA ?_;rw[kX nJ _];refine aF (F9 am U V dq hx hy lD λh' T gi pr hT1 cw=>?_)
  have gy:h'.DictOf (dP prog w) D (iH [] (kvs.take i)):=by
   obtain⟨o,es,ep,ho,r⟩:=hS;exact⟨o,es,ep,cw D o nz nO e1 e2 ho,r⟩
  have gm:iH [] (kvs.take (i+1))=rT (iH [] (kvs.take i)) p.1 p.2:=by
   rw[AK,hp];simp[iH,rY]
  have aw:(iH [] (kvs.take i)).length<=sizeLine:=by
   have:=LY (kvs.take i) [];rw[PC] at this;simp at this
   lia
  refine aF (eP (aF (zR ?_)));unfold Jy;have tb:(Shared.heap { s with heap:=h' }).IsTuple T #[kv,p.2]:=⟨_,pr,rfl,0,rfl⟩;refine aF (mN tb.typeIs ?_);refine aF (hZ pr rfl (aN ?_));refine eP (wpAny_dictSet_pairs xq gy (λh2 d' sb=>?_) aw)
  refine aN ⟨jS nJ _,?_⟩;have yw:∀ c o,c≠D->h'.get? c=aa o->h2.get? c=aa o:=λc o n g=>(sb.2 c n).trans g
  refine ih (i+1) _ () bh (.inr (Bhz.keep U V nz nI n1 n2 gi yw)) (by rw[gm];exact d') λh3 tk kp3 S4=>?_
  exact hR h3 tk (λc o a b c' d e g=>kp3 c o a b c' d e (yw c o a (cw c o b c' d e g))) S4
theorem g9:tZ (.type "zip") "__getattr__" = pure ab:=by rw[rS,rW];kernel_rfl
theorem Zp:rV table "zip.__getattribute__" = aa Builtin.«object.__getattribute__»:=
 FD (id':="object.__getattribute__") (by kernel_rfl) (by rw[0]) (by rw[0]) (by kernel_rfl)
theorem u6 (a:aC)(fs:Array aD)(name:aE)(u:Tok)(Z2:tZ (.type "zip") name=pure ab)(gn:(["__module__","__name__","__qualname__","__doc__","__annotations__"]:List aE).contains name=af)(hsz:name.length+100<=sizeLine:=by size_fits) :
  Meets (Builtin.«object.__getattribute__» ⟨[.ref a,.str name u],[]⟩) (λA R s=>s.heap.get? a=aa { cls:=.type "zip",dict:=ab,data:=.fields fs,slots:=#[] }/\raisesAttr (.ref a) name A R s):=
 Meets.of_wp λprog w A R s hs=>by
  obtain⟨hp,g,d,tk,os⟩:=s;obtain⟨hx,hs⟩:=hs;have hT:(⟨hp,g,d,tk,os⟩:aH).TypeIs (.ref a) "zip":=⟨_,hx,rfl⟩;unfold Builtin.«object.__getattribute__»
  repeat (any_goals (first|assumption|wp_step))
  simp only[gn,gA,if_false]
  repeat (any_goals (first|assumption|wp_step))
  exact wpAny_raiseAttrError hs.1 hs.2 (attrMsg_fits (by rw[0]) hsz)
set_option maxHeartbeats 4000000 in
theorem Zf{fs:Array aD}{Q:Option aD->aH->Prop}(hx:s.heap.get? a=aa { cls:=.type "zip",dict:=ab,data:=.fields fs,slots:=#[] })(hA:A.handled=ab)
  (h:∀ h' tk,(∀ b o,s.heap.get? b=aa o->h'.get? b=aa o)->Q ab { s with heap:=h',toks:=tk }):aM (aP prog w) A (getAttr? (.ref a) "keys") Q E s:=by
 obtain⟨hp,g,d,tk,os⟩:=s;have hT:∀ nr,(⟨hp,g,d,nr,os⟩:aH).TypeIs (.ref a) "zip":=λ_=>⟨_,hx,rfl⟩
 have f1:=sub_AttributeError;have f3:=Jp.lookup;have f4:=Jp.bind (.ref a);have f5:=g9;unfold getAttr? getAttrBy? getAttrBy
 repeat (any_goals (first|assumption|exact hT _|((with_reducible show aM _ _ (call (Value.builtin "zip.__getattribute__") _ _) _ _ _);refine zZ Jp (hT _) Zp (F.args_zip_getattribute_2 _ _) (u6 a fs _ _ Yo (by rw[0])) ⟨hx,hA,λh' nr e ze=>?_⟩)|wp_step))
 obtain⟨t',u',he⟩:=ze.there;unfold getattributeRaised
 repeat (any_goals (first|assumption|wp_step))
 exact h _ _ ze.keeps
theorem Ya{l1 l2:aC}(hh:A.handled=ab)(ap:ZApart z TI TO i1 i2 [i1,l1] [i2,l2])(ne1:l1≠i1)(ne2:l2≠i2)(st:pd z TI TO i1 i2 (StB b1 i1 l1 xs) (StB b2 i2 l2 ys) .none 0 s.heap)
  (hn:kvs.length<=sizeLine) (f8:xs[kvs.length]?=ab\/ys[kvs.length]?=ab) (Id:∀ (j:Nat) p,kvs[j]?=aa p->∃ kv,xs[j]?=aa kv/\ys[j]?=aa p.2/\(dP prog w).is p.1 kv=ae)
  (h:∀ h' tk,h'.DictOf (dP prog w) s.heap.objs.size (iH [] kvs)->(∀ b o,b≠z->b≠TO->b≠i1->b≠i2->s.heap.get? b=aa o->h'.get? b=aa o)->Q (.ref s.heap.objs.size) { s with heap:=h',toks:=tk }) :
  aM (aP prog w) A (call (.type "dict") [.ref z]) Q E s:=by
 have U:Sub prog w i1 [i1,l1] (StB b1 i1 l1 xs) xs:=qY b1 i1 l1 xs ne1;have V:Sub prog w i2 [i2,l2] (StB b2 i2 l2 ys) ys:=qY b2 i2 l2 ys ne2;refine callType_codes (Q₁:=λobj s₁=>obj=.ref s.heap.objs.size/\s₁={ s with heap:=s.heap.push { cls:=.type "dict",data:=.dict #[] } }) F.kt_called_dict (F.kt_typeCall_dict_1 _) F.entry_dict_init (kt_code_dict_new _ ⟨rfl,rfl⟩) ?_
 rintro obj s₁ ⟨rfl,rfl⟩;have dn:(s.heap.push { cls:=.type "dict",data:=.dict #[] }).DictOf (dP prog w) s.heap.objs.size []:=Heap.DictOf.new s.heap;refine⟨dn.typeIs,F.args_dict_init_2 _ _,?_⟩;unfold Builtin.«dict.__init__»;rw[11];unfold Builtin.Dict.selfAndRest;refine aF (Hj dn.typeIs (aN ?_));show aM _ _ (QD "dict.__init__" s.heap.objs.size (.ref z) [] .none) _ _ _;unfold QD;have pz:(s.heap.push { cls:=.type "dict",data:=.dict #[] }).get? z=aa _:=bG _ st.1;refine aF (mN ⟨_,pz,rfl⟩ ?_);rw[if_pos nofun]
 refine aF (Zf pz (by simp[hh]) λh1 tk k1=>?_)
 have cw:∀ b o,s.heap.get? b=aa o->h1.get? b=aa o:=λb o e=>k1 _ _ (bG _ e)
 have iz:pd z TI TO i1 i2 (StB b1 i1 l1 xs) (StB b2 i2 l2 ys) .none 0 h1:=by
  obtain⟨g1,g2,⟨a,b,g3⟩,g4,g5⟩:=st;exact⟨cw _ _ g1,cw _ _ g2,⟨a,b,cw _ _ g3⟩,U.keep _ _ _ g4 λc _ o g=>cw _ _ g,V.keep _ _ _ g5 λc _ o g=>cw _ _ g⟩
 refine aF (kO (aF (Hi iz.1 (aN ⟨jS nJ _,?_⟩))));have d1:h1.DictOf (dP prog w) s.heap.objs.size []:=by
  obtain⟨o,es,ep,ho,r⟩:=dn;exact⟨o,es,ep,k1 _ _ ho,r⟩
 have ne:∀ {b:aC},(∃ o,s.heap.get? b=aa o)->s.heap.objs.size≠b:=λ⟨o,e⟩=>iS (bI e)
 obtain⟨g1,g2,⟨a,b,g3⟩,g4,g5⟩:=st;have m1:=U.obj _ _ g4;have m2:=V.obj _ _ g5;refine C4 (by simp[hh]) ap U V s.heap.objs.size (ne ⟨_,g1⟩) (ne ⟨_,g2⟩) (ne ⟨_,g3⟩) (λq=>ne (m1 _ q) rfl) (λq=>ne (m2 _ q) rfl) kvs hn f8 Id (kvs.length-0) 0 _ rfl (dW _) (.inl iz) d1 λh' nr kp S'=>⟨rfl,h h' nr S' λb o n1 n2 n3 n4 e=>kp b o (cH (bI e)) n1 n2 n3 n4 (cw b o e)⟩
end
section
variable {a b:aU}{p:bK}
abbrev V5 (xs:List V)(ks:List aI):Prop:=cQ (λx k=>x=kV k) xs ks
def tDz (K:aK)(ta:TA):TE:=λZ H Q=>ta Z H λvs H1=>∃ a1 a2 b1 b2 xs ys ks,vs=[.ref a1,.ref a2]/\gx b1 K H1 a1 xs/\gx b2 K H1 a2 ys/\V5 xs ks/\xs.length<=sizeLine/\∀ q n,H1 q=ab->Q (.ref q) (upd H1 q (.dK n (kJ [] (ks.zip ys))))
theorem Oa {X:Cx}:∀ {xs:List V} {ks:List aI} {ys:List V} {us vs:List aD},V5 xs ks->Vals xs us->Vals ys vs->∃ kvs:List (aI×aD),KV (ks.zip ys) kvs/\(us[kvs.length]?=ab\/vs[kvs.length]?=ab)/\kvs.length<=xs.length/\∀ (j:Nat) p,kvs[j]?=aa p->∃ kv,us[j]?=aa kv/\vs[j]?=aa p.2/\(dP X.prog X.w).is p.1 kv=ae:=by
 intro xs ks ys us vs h;induction h generalizing ys us vs with
 |nil=>
  intro r q;cases r;exact⟨[],.nil,.inl rfl,bB _,λj p e=>by simp at e⟩
 |@cons x k xs ks e t ih=>
  intro r q;cases r with
  |cons r rr=>
   cases q with
   |nil=>exact⟨[],.nil,.inr rfl,dW _,λj p e=>by simp at e⟩
   |@cons y v ys vs q qq=>
    obtain⟨kvs,h1,h2,h3,h4⟩:=ih rr qq;subst e;refine⟨(k,v)::kvs,.cons ⟨rfl,q⟩ h1,by simpa using h2,by simpa using h3,λj p e=>?_⟩
    cases j with
    |zero=>
     cases e;exact⟨_,rfl,rfl,rA r⟩
    |succ j=>exact h4 j p (by simpa using e)
theorem j6(hc:X.calm=ae)(g1:Gl X "dict")(m1:X.mg "dict" = ab)(g2:Gl X "zip")(m2:X.mg "zip" = ab)(ha:PA X [a,b] ta)
  (ng:bW [uM (.Name "zip" p2) [a,b] [] cz] X.env=[(af,bT (uM (.Name "zip" p2) [a,b] [] cz) X.env)]:=by rfl) (gq:bW [a,b] X.env=[(af,bT a X.env),(af,bT b X.env)]:=by rfl) (N9:bW [b] X.env=[(af,bT b X.env)]:=by rfl) :
  PE X (.Call (.Name "dict" p) [.Call (.Name "zip" p2) [a,b] [] cz] [] pos) (tDz X.K ta):=by
 rw[8];refine Call_ (pP I g1 m1 boot_dict (wN ?_ ng rfl));rw[ng];refine PY ?_;refine Call_ (pP I g2 m2 boot_zip (wN (bb (ha cz ac s Z H _ I h) λus s1 ⟨vs,H1,I1,r1,q1⟩=>?_) (by rw[gq,N9]) (by rw[N9];rfl)))
 obtain⟨a1,a2,b1,b2,xs,ys,ks,rfl,k1,k2,kk,hz,q⟩:=q1;cases r1 with
 |cons r rr=>
  cases rr with
  |cons r' rr=>
   cases rr;cases r;cases r';obtain⟨u1,v1,w1⟩:=I1.sqB k1;obtain⟨u2,v2,w2⟩:=I1.sqB k2;have mm:∀ {b:Bool} {l:aC} {us:Array aD},SqB b s1.heap l us->l<s1.heap.objs.size:=λ{b l us} w=>by
    cases b with
    |true=>obtain⟨o,e,_⟩:=w;exact bI e
    |false=>obtain⟨o,e,_⟩:=w;exact bI e
   refine VO w1 w2 λz TI TO i1 i2 h' y0 y1 y2 y3 y4 D ni all=>Js ?_
   obtain⟨kvs,e1,e2,e3,e4⟩:=Oa kk v1 v2;refine Ya (kvs:=kvs) (I1.ok.hd hc) D (λe=>?_) (λe=>?_) ni () (by simpa using e2) (λj p e=>by simpa using e4 j p e) λh2 tk dd hk=>?_
   .exact lY _ (gH (mm w1) (e ▸ y3))
   .exact lY _ (gH (mm w2) (e ▸ y4))
   obtain⟨m,da⟩:=dd.dictAt;have lz:(kJ [] (ks.zip ys)).length<=sizeLine:=by
    have l1:=EE (ks.zip ys) [];have l2:=jX e1;simp at l1 l2
    lia
   have le:s1.heap.objs.size<=h'.objs.size:=by
    rcases OT z h'.objs.size with hl|hl
    .lia
    .exact absurd (bI ni.1) (Nat.not_lt.2 hl)
   have kp:∀ c o,s1.heap.get? c=aa o->h2.get? c=aa o:=λc o e=>by
    have lc:=bI e;exact hk c o (cH (gH lc y0)) (cH (gH lc y2)) (cH (gH lc y3)) (cH (gH lc y4)) (all c o e)
   exact⟨.ref h'.objs.size,_,I1.laid kp le (vB lz (beq_eq_false_iff_ne.2 (fL (cH (gH I1.big le)))) (e1.merge .nil) da),rfl,q _ m (I1.hok.fresh le)⟩
def sH:List aA->Option (List aI)
 |[]=>aa []
 |k::r=>(bU k).bind λk=>(sH r).bind λks=>aa (k::ks)
def BO:List aA->Option aA
 |[x,y]=>(nC x).bind λxs=>(nC y).bind λys=>(sH xs).bind λks=>if xs.length<=sizeLine then aa (.dict (kI (ks.zip ys) [])) else ab
 |_=>ab
theorem VS:∀ {ds:List aA} {ks:List aI} {xs:List V},sH ds=aa ks->Aal K H ds xs->V5 xs ks
 |[],ks,xs,e,r=>by
  cases e;rw[Aaj.1 r];exact .nil
 |d::ds,ks,xs,e,r=>by
  obtain⟨k,e1,e⟩:=ak (show((bU d).bind λk=>(sH ds).bind λks=>aa (k::ks))=aa ks from e)
  obtain⟨fw,e2,e⟩:=ak e;cases e;obtain⟨v,t,rfl,r1,r2⟩:=Aaf.1 r;exact .cons (kN e1 r1) (VS e2 r2)
theorem WK:∀ {ks:List aI} {es:List aA} {ys:List V},Aal K H es ys->cQ (λ(p:aI×aA) (q:aI×V)=>p.1=q.1/\Abj K H p.2 q.2) (ks.zip es) (ks.zip ys)
 |[],_,_,_=>.nil
 |_::_,[],ys,r=>by
  rw[Aaj.1 r];exact .nil
 |k::ks,e::es,ys,r=>by
  obtain⟨v,t,rfl,r1,r2⟩:=Aaf.1 r;exact .cons ⟨rfl,r1⟩ (WK r2)
theorem Va(hc:X.calm=ae)(g1:Gl X "dict")(m1:X.mg "dict" = ab)(g2:Gl X "zip")(m2:X.mg "zip" = ab)(ha:DA X [a,b] fa)
  (ng:bW [uM (.Name "zip" p2) [a,b] [] cz] X.env=[(af,bT (uM (.Name "zip" p2) [a,b] [] cz) X.env)]:=by rfl) (gq:bW [a,b] X.env=[(af,bT a X.env),(af,bT b X.env)]:=by rfl) (N9:bW [b] X.env=[(af,bT b X.env)]:=by rfl) :
  DF 1 X (.Call (.Name "dict" p) [.Call (.Name "zip" p2) [a,b] [] cz] [] pos) (aL BO fa):=PE.imp (j6 hc g1 m1 g2 m2 ha ng gq N9) λZ H Q gh=>by
 rw[4];obtain⟨as,e1,bm⟩:=ak ef;clear ef;unfold BO at bm;split at bm
 .obtain⟨xs,e2,bq⟩:=ak bm;obtain⟨ys,e3,cq⟩:=ak bq;obtain⟨ks,e4,gk⟩:=ak cq;obtain⟨hz,rfl⟩:=cM gk;refine⟨P,Y,_,hP,rs,e1,λvs H1 x1 r1=>?_⟩
  obtain⟨v,t,rfl,q1,q2⟩:=Aaf.1 r1;obtain⟨v',rfl,q3⟩:=fT q2;obtain⟨a1,b1,us,rfl,k1,w1⟩:=yY e2 q1;obtain⟨a2,b2,R7,rfl,k2,w2⟩:=yY e3 q3;exact⟨a1,a2,b1,b2,us,R7,ks,rfl,k1 _ Aam,k2 _ Aam,VS e4 w1,by rw[w1.length];exact hz,λl n hn=>(k.mono x1).dic (hP.ext x1) hn (KM (WK w2) (Abh.2 rfl))⟩
 .cases bm
end
def ya (x:aE)(XN:List aE)(cap:List (Option Nat)):List aE:=cap.map fun
 |none=>x
 |some j=>XN.getD j x
structure Sx (out:List (aE×kS))(XN:List aE):Prop
theorem SE{fq be:aU}{fi:AF}{t:BF}{dy:List aU}{sc:gV}{cap:List (Option Nat)}{out:List (aE×kS)}{XN:List aE}(_:Sx out XN)(hi:DI X (.Name x px) be fi)(ht:∀ cl C s₀ H₀ ex,sI (fW X (ya x XN cap) sc cl C s₀ H₀ ex) dy (sy X.K t))(hb:∀ cl C s₀ H₀ ex,DE (fW X (ya x XN cap) sc cl C s₀ H₀ ex) fq f)(h1:X.env.scope.names=out:=by rfl)(h2:X.N=XN:=by rfl)(hc:X.calm=ae:=by rfl)
  (yv:IM out XN (ya x XN cap) cap sc.names=ae:=by rw[0]) (hk:sc.kind=.function:=by rfl) (nd:(ya x XN cap).Nodup:=by rw[0]) (h0:(ya x XN cap)[0]?=aa x:=by rfl) (hx:∀ cl C s₀ H₀ ex,(fW X (ya x XN cap) sc cl C s₀ H₀ ex).env.scope.names.lookup x=aa .local:=by intros;rfl) (hs:∀ x,qE be X.env x=pure x:=by intro _;rfl) :
  DF 1 X (.ListComp fq [⟨.Name x px,be,dy,0⟩] sc pos) (cf cap fi (gB 0) t f):=
 RH hc (ED h1 h2 yv hk) EU hi (λcl C s₀ H₀ ex=>⟨YD nd h0 (.inl (hx cl C s₀ H₀ ex)) (.inr (hx cl C s₀ H₀ ex)),ht cl C s₀ H₀ ex,hb cl C s₀ H₀ ex⟩) hs
end L2
namespace Aw
open PySem L2
def gp (i:Nat):eW:=PySem.Challenge.pw_askwithin_k35_why_an_answer.main.body.getD i (.Pass ⟨0,0,0,0⟩)
structure Blt (p:aE->Prop):Prop where
 «isinstance» : p "isinstance"
 «int» : p "int"
 «bool» : p "bool"
 «range» : p "range"
 «len» : p "len"
 «str» : p "str"
 «all» : p "all"
 «list» : p "list"
 «tuple» : p "tuple"
 «dict» : p "dict"
 «set» : p "set"
 «sorted» : p "sorted"
 «min» : p "min"
 «max» : p "max"
 «enumerate» : p "enumerate"
 «zip» : p "zip"
 «reversed» : p "reversed"
def Ay:SF:=(aT (bH 1 1 .s (eC (.dict [])))
 (aT (cP .s (bc (aB 0)) (ft 2) (cP .s (bc (ah ar (aB 2) (eC (.int 1)))) (ft 3) (ck .s (au (ff (fC "str") (aB 3))) (xK 1 .s (eC (.bool ae)) .s (aB 3)) dS)))
 (iU 1 (cD 1 .s (aL NJ (aG (aB 1) aJ))))))
def rO:List aA->Option aA:=bu 1 4 Ay
def WR:SF:=(cD 0 .s (aL iD (aG (cf [ab,aa 1] (bc (aB 0)) (gB 0) cS (jA (aB 1) (aB 0) (aB 0))) aJ)))
def lO:List aA->Option aA:=bu 2 2 WR
def SI:SF:=(aT (ck .s (au (ah jh (aL cB (aG (aB 1) aJ)) (aL cB (aG (ah ar (aB 0) (eC (.int 1))) aJ)))) (cD 1 .s (eC .none)) dS)
 (aT (bH 3 1 .s (aL ES (aG (aB 2) aJ)))
 (aT (cP .s (iZ (aG (ah ar (aB 0) (eC (.int 1))) (aG (aB 1) aJ))) (jK 4 5) (aT (uh 6 3 .s (au (ff (fC "str") (aB 4))) .s (aB 4) .s (aB 5) .s (aB 4))
 (ck .s (au (ah jh (aB 5) (aB 6))) (cD 1 .s (eC .none)) dS)))
 (jJ 3 1))))
def rF:List aA->Option aA:=bu 3 7 SI
def ZM:SF:=(cD 0 .s (jA (aB 0) (ah ar (aB 1) (eC (.int 0))) (dM aJ)))
def rN:List aA->Option aA:=bu 2 2 ZM
def ZI:SF:=(aT (bH 1 0 .s (eC (.int 1)))
 (aT (cP .s (bc (aB 0)) (ft 2) (bH 1 0 .s (ah gQ (aB 1) (aL BH (aG (eC (.int 1)) (aG (aL cB (aG (aB 2) aJ)) aJ))))))
 (cD 0 .s (aB 1))))
def DY:List aA->Option aA:=bu 1 3 ZI
def Cf:SF:=(aT (ck .s (au (ah su (aB 1) (aL cB (aG (aB 0) aJ)))) (cD 0 .s (ah ar (aB 0) (aB 1))) dS)
 (aT (ck .s (au (ah du (aL cB (aG (aB 0) aJ)) (eC (.int 0)))) (cD 0 .s (ah eR (ah oA (ah oA (aB 1) (aB 1)) (eC (.int 7919))) (eC (.int 31)))) dS)
 (cD 0 .s (ah eR (ah oA (ah ar (aB 0) (ah cO (aB 1) (aL cB (aG (aB 0) aJ)))) (ah eR (aB 1) (eC (.int 2)))) (ah oA (ah oA (aB 1) (aB 1)) (eC (.int 69621)))))))
def iG:List aA->Option aA:=bu 2 2 Cf
def Bz:SF:=(aT (bH 3 0 .s (ah gQ (ah eR (ah eR (ah cO (aB 0) (eC (.int 2147483629))) (ah gQ (eC (.int 5)) (aB 1))) (eC (.int 1))) (ah eR (eC (.int 48271)) (ah gQ (aB 1) (aB 1)))))
 (cD 0 .s (ah cO (ah cO (ah gQ (aB 3) (aB 3)) (eC (.int 2147483647))) (aB 2))))
def yX:List aA->Option aA:=bu 3 4 Bz
def Dx:SF:=(aT (bH 2 0 .s (dM (aG (eC (.dict [])) aJ)))
 (aT (cP .s (bc (aB 1)) (jK 3 4) (aT (bH 5 1 .s (dM aJ))
 (aT (cP .s (bc (aB 2)) (ft 6) (cP .s (bc (jA (aB 0) (aB 3) (dM aJ))) (ft 7) (aT (bH 8 1 .s (aL ES (aG (aB 6) aJ)))
 (aT (bH 9 0 .s (eC (.bool ae)))
 (aT (cP .s (iZ (aG (aB 4) (aG (aB 7) aJ))) (jK 10 11) (ck .s (au (ff (fC "str") (aB 10))) (uZ 9 .s (aB 9) 8 .s (aB 10) .s (aB 11) .s (aB 11)) (bH 9 0 .s (sG (aB 9) (ah du (aB 10) (aB 11))))))
 (iU 8 (ck .s (au (aB 9)) (gY 5 .s (aB 8)) dS)))))))
 (iU 5 (bH 2 0 .s (aB 5))))))
 (cD 0 .s (aB 2))))
def EK:List aA->Option aA:=bu 2 12 Dx
def Dp:SF:=(cD 0 .s (aL iD (aG (cf [ab,aa 1] (bc (aB 0)) (gB 0) cS (fU (aG (ah ar (aB 0) (eC (.int 0))) (aG (aL lO (aG (ah ar (aB 0) (eC (.int 1))) (aG (aB 1) aJ))) aJ)))) aJ)))
def EH:List aA->Option aA:=bu 2 2 Dp
def WE:SF:=(aT (bH 2 0 .s (aL rO (aG (ah EV (uO (aB 0) oN (oS (aB 1))) (uO (aB 0) (oS (ah eR (aB 1) (eC (.int 1)))) oN)) aJ)))
 (cD 1 .s (cf [ab,aa 2] (bc (aL rO (aG (fU (aG (ah ar (aB 0) (aB 1)) aJ)) aJ))) (gB 0) (au (ah (kg af) (aB 0) (aB 1))) (aB 0))))
def JI:List aA->Option aA:=bu 2 3 WE
def EM:SF:=(ck .s (au (ah iq (aL DY (aG (aB 0) aJ)) (eC (.int 4096)))) sNo dS)
def MR:List aA->Option aA:=bu 1 1 EM
def Bf:SF:=(aT (bH 3 1 .s (dM aJ))
 (aT (cP .s (bc (aB 0)) (ft 4) (cP .s (bc (aB 2)) (ft 5) (aT (bH 6 0 .s (aL rF (aG (aB 1) (aG (aB 5) (aG (aB 4) aJ)))))
 (ck .s (au (ah lF (aB 6) (eC .none))) (gY 3 .s (aB 6)) dS))))
 (jJ 3 1)))
def LV:List aA->Option aA:=bu 3 7 Bf
def ZQ:SF:=(cD 1 .s (aL xS (aG (cf [ab,aa 1] (bc (aL rN (aG (aB 0) (aG (aB 1) aJ)))) (gB 0) (au (ah lF (aL rF (aG (aB 1) (aG (aB 0) (aG (eC (.dict [])) aJ)))) (eC .none))) (aB 0)) aJ)))
def DU:List aA->Option aA:=bu 2 2 ZQ
def XW:SF:=(cD 1 .s (cf [ab,aa 1] (bc (aL rO (aG (fU (aG (aB 0) aJ)) aJ))) (gB 0) (au (ah (kg af) (aB 0) (ah ar (aB 1) (eC (.int 1))))) (aB 0)))
def KF:List aA->Option aA:=bu 2 2 XW
def XZ:SF:=(cD 0 .s (aL lO (aG (aB 2) (aG (aL rF (aG (aB 0) (aG (aB 1) (aG (eC (.dict [])) aJ)))) aJ))))
def tR:List aA->Option aA:=bu 3 3 XZ
def Fi:SF:=(cD 1 .s (aL rF (aG (fU (aG (eC (.str "head")) (aG (aB 0) aJ))) (aG (aB 1) (aG (eC (.dict [])) aJ)))))
def CD:List aA->Option aA:=bu 2 2 Fi
def Cq:SF:=(aT (bH 2 0 .s (aL iG (aG (aB 0) (aG (eC (.int 1)) aJ))))
 (aT (ck .s (au (ah du (ah cO (aB 2) (eC (.int 2))) (eC (.int 0)))) (cD 0 .s (ah gQ (aB 1) (ah ar (dM (aG (eC (.int 1)) (aG (ff GZ (eC (.int 4))) aJ))) (ah cO (ah eD (aB 2) (eC (.int 2))) (eC (.int 2)))))) dS)
 (cD 0 .s (ah eR (ah eR (ah pS (ah cO (ah eD (aB 2) (eC (.int 2))) (ah pS (ah gQ (eC (.int 2)) (ah BI (eC (.int 10)) (eC (.int 60)))) (eC (.int 9)))) (ah BI (eC (.int 10)) (eC (.int 60)))) (eC (.int 4))) (aB 1)))))
def oM:List aA->Option aA:=bu 2 3 Cq
def Br:SF:=(cD 0 .s (ah ar (ah ar (dM (aG (dM (aG (eC (.str "x")) (aG (eC (.str "y")) (aG (eC (.str "xx")) (aG (eC (.str "a")) (aG (eC (.str "x1")) aJ)))))) (aG (dM (aG (eC (.str "q5")) (aG (eC (.str "q4")) (aG (eC (.str "q3")) (aG (eC (.str "q2")) (aG (eC (.str "q1")) aJ)))))) aJ))) (ah cO (aL iG (aG (aB 0) (aG (eC (.int 2)) aJ))) (eC (.int 2)))) (aB 1)))
def wB:List aA->Option aA:=bu 2 2 Br
def Dk:SF:=(aT (cP .s (jm (aG (aL cB (aG (aB 1) aJ)) aJ)) (ft 3) (aT (zP .s (ah ar (aB 1) (aB 3)) (jK 4 5))
 (aT (bH 6 0 .s (dM aJ))
 (aT (cP .s (bc (aB 5)) (ft 7) (bH 6 0 .s (ah nL (aB 6) (cf [ab] (bc (ah ar (aB 7) (eC (.int 1)))) (gB 0) (au (ff (fC "str") (aB 0))) (aB 0)))))
 (aT (bH 6 1 .s (cf [ab,aa 6] (jm (aG (aL cB (aG (aB 6) aJ)) aJ)) (gB 0) (au (ah (kg ae) (ah ar (aB 1) (aB 0)) (sL (aB 1) oN (oS (aB 0))))) (ah ar (aB 1) (aB 0))))
 (iU 6 (aT (bH 8 1 .s (dM aJ))
 (aT (cP .s (bc (aL EK (aG (aB 0) (aG (aB 5) aJ)))) (ft 9) (ck .s (au (ah du (aL iD (aG (cf [ab,aa 9] (bc (aB 4)) (gB 0) cS (jA (aB 1) (aB 0) (aB 0))) aJ)) (aB 2))) (gY 8 .s (aL iD (aG (cf [ab,aa 9] (bc (aB 6)) (gB 0) cS (ah ar (aB 1) (aB 0))) aJ))) dS))
 (iU 8 (ck .s (au (ah iq (aL cB (aG (aB 8) aJ)) (eC (.int 0)))) (cD 0 .s (fU (aG (aB 3) (aG (aL (EX af) (aG (aB 8) aJ)) aJ)))) dS))))))))))
 (cD 0 .s (eC .none)))
def Dd:List aA->Option aA:=bu 3 10 Dk
def Bu:SF:=(aT (bH 3 0 .s (aL JI (aG (aL iD (aG (cf [ab,aa 0] (bc (aB 1)) (gB 0) cS (ah ar (aB 1) (aB 0))) aJ)) (aG (ah IV (aB 1) (aB 2)) aJ))))
 (aT (cP .s (bc (aB 1)) (ft 4) (ck .s (mX (au (ah jh (aB 4) (aB 2))) (au (aL xH (aG (cf [ab,aa 0,aa 4] (bc (aB 3)) (gB 0) cS (ah (kg af) (aB 0) (ah ar (ah ar (aB 1) (aB 2)) (eC (.int 1))))) aJ)))) (cD 0 .s (aB 4)) dS))
 (cD 0 .s (eC .none))))
def MH:List aA->Option aA:=bu 3 5 Bu
def EL:SF:=(pJ .s (aL MR (aG (cf [ab,aa 0] (bc (aB 1)) (gB 0) cS (aL rN (aG (aB 1) (aG (aB 0) aJ)))) aJ)))
def MP:List aA->Option aA:=bu 2 2 EL
def WQ:SF:=(aT (bH 2 0 .s (dM (aG (eC (.dict [])) aJ)))
 (aT (cP .s (iZ (aG (aB 0) (aG (aB 1) aJ))) (jK 3 4) (bH 2 0 .s (aL LV (aG (aB 2) (aG (aB 3) (aG (aB 4) aJ))))))
 (cD 0 .s (aB 2))))
def JQ:List aA->Option aA:=bu 2 5 WQ
def Di:SF:=(cD 1 .s (cf [ab,aa 0] (bc (aB 1)) (gB 0) cS (aL DU (aG (aB 1) (aG (aB 0) aJ)))))
def MQ:List aA->Option aA:=bu 2 2 Di
def Dr:SF:=(aT (bH 4 0 .s (aL KF (aG (aB 0) (aG (aB 2) aJ))))
 (aT (bH 5 0 .s (aL IE (aG (cf [ab,aa 2,aa 4] (bc (aB 3)) (gB 0) cS (fU (aG (aL tR (aG (aB 1) (aG (aB 0) (aG (aB 2) aJ)))) (aG (eC (.bool ae)) aJ)))) aJ)))
 (cD 1 .s (cf [ab,aa 5,aa 0,aa 4] (bc (aB 1)) (gB 0) (au (ah (kg af) (aL tR (aG (aB 2) (aG (aB 0) (aG (aB 3) aJ)))) (aB 1))) (aB 0)))))
def EI:List aA->Option aA:=bu 4 6 Dr
def Cn:SF:=(aT (bH 2 0 .s (aL iG (aG (aB 0) (aG (aB 1) aJ))))
 (aT (bH 3 1 .s (dM aJ))
 (aT (bH 4 0 .s (ah cO (ah eD (aB 2) (eC (.int 3))) (eC (.int 5))))
 (aT (cP .s (jm (aG (aB 4) aJ)) (ft 5) (aT (bH 6 0 .s (aL iG (aG (aB 0) (aG (ah eR (ah eR (aB 1) (eC (.int 1))) (aB 5)) aJ))))
 (aT (bH 7 1 .s (dM aJ))
 (aT (cP .s (jm (aG (ah eR (eC (.int 1)) (ah cO (aB 6) (eC (.int 3)))) aJ)) (ft 8) (aT (bH 9 0 .s (aL yX (aG (aB 6) (aG (aB 8) (aG (eC (.int 240)) aJ)))))
 (ck .s (au (ah du (ah cO (aB 9) (eC (.int 4))) (eC (.int 0)))) (gY 7 .s (aL oM (aG (aB 0) (aG (ah cO (ah eD (aB 9) (eC (.int 4))) (eC (.int 2))) aJ)))) (gY 7 .s (aL wB (aG (aB 0) (aG (ah cO (ah eD (aB 9) (eC (.int 4))) (eC (.int 5))) aJ)))))))
 (aT (ck .a (mX (au (ah iq (ah cO (aB 2) (eC (.int 3))) (eC (.int 0)))) (au (ah iq (aL cB (aG (aB 7) aJ)) (eC (.int 1))))) (aT (pI 7 .s (aL wB (aG (aB 0) (aG (aB 5) aJ))) .s (eC (.int 0)))
 (pI 7 .s (aL wB (aG (aB 0) (aG (ah ar (dM (aG (ah eR (aB 5) (eC (.int 1))) (aG (ah cO (ah eR (aB 5) (eC (.int 1))) (aB 4)) aJ))) (ah pS (ah cO (aB 2) (eC (.int 3))) (eC (.int 1)))) aJ))) .s (eC (.int 1)))) dS)
 (iU 7 (gY 3 .s (fU (aG (ah ar (dM (aG (eC (.str "r")) (aG (eC (.str "x")) (aG (eC (.str "rr")) aJ)))) (ah pS (aL cB (aG (aB 7) aJ)) (eC (.int 1)))) (aG (aL iD (aG (aB 7) aJ)) aJ))))))))))
 (iU 3 (cD 0 .s (aL iD (aG (aB 3) aJ))))))))
def MS:List aA->Option aA:=bu 2 10 Cn
def Dl:SF:=(aT (bH 2 1 .s (eC (.dict [])))
 (aT (cP .s (jm (aG (eC (.int 5)) aJ)) (ft 3) (xK 2 .s (aL oM (aG (aB 0) (aG (aL yX (aG (aL iG (aG (aB 0) (aG (ah eR (eC (.int 21)) (aB 1)) aJ))) (aG (aB 3) (aG (eC (.int 2)) aJ)))) aJ))) .s (aL wB (aG (aB 0) (aG (aB 3) aJ)))))
 (jJ 2 1)))
def EG:List aA->Option aA:=bu 2 4 Dl
def Ci:SF:=(aT (cP .s (bc (aB 1)) (ft 2) (aT (bH 3 0 .s (aL MH (aG (aB 0) (aG (aB 1) (aG (aB 2) aJ)))))
 (ck .s (au (ah lF (aB 3) (eC .none))) (cD 0 .s (fU (aG (aB 2) (aG (aB 3) aJ)))) dS)))
 (cD 0 .s (eC .none)))
def pY:List aA->Option aA:=bu 2 4 Ci
def Dv:SF:=(aT (bH 1 1 .s (dM aJ))
 (aT (cP .s (jm (aG (ah cO (aL iG (aG (aB 0) (aG (eC (.int 0)) aJ))) (eC (.int 4))) aJ)) (ft 2) (aT (bH 3 0 .s (aL MS (aG (aB 0) (aG (ah eR (eC (.int 3)) (ah gQ (eC (.int 6)) (aB 2))) aJ))))
 (aT (bH 4 0 .s (dM aJ))
 (aT (cP .s (bc (aB 3)) (ft 5) (bH 4 0 .s (ah nL (aB 4) (cf [ab] (bc (ah ar (aB 5) (eC (.int 1)))) (gB 0) (au (ff (fC "str") (aB 0))) (aB 0)))))
 (aT (bH 6 1 .s (dM aJ))
 (aT (cP .s (jm (aG (ah cO (ah eD (aL iG (aG (aB 0) (aG (eC (.int 0)) aJ))) (eC (.int 4))) (eC (.int 4))) aJ)) (ft 7) (aT (bH 8 0 .s (aL yX (aG (aL iG (aG (aB 0) (aG (ah eR (eC (.int 8)) (ah gQ (eC (.int 6)) (aB 2))) aJ))) (aG (aB 7) (aG (eC (.int 840)) aJ)))))
 (gY 6 .s (ah ar (ah nL (ah nL (aB 4) (aB 4)) (dM (aG (aL oM (aG (aB 0) (aG (ah cO (ah eD (aB 8) (eC (.int 40))) (eC (.int 2))) aJ))) aJ))) (ah cO (aB 8) (ah eR (ah gQ (eC (.int 2)) (aL cB (aG (aB 4) aJ))) (eC (.int 1))))))))
 (iU 6 (gY 1 .s (fU (aG (aL iD (aG (aB 6) aJ)) (aG (aB 3) aJ)))))))))))
 (jJ 1 1)))
def MV:List aA->Option aA:=bu 1 9 Dv
def Cb:SF:=(aT (bH 2 2 .s (eC (.dict [])))
 (aT (cP .s (jm (aG (aL cB (aG (aB 1) aJ)) aJ)) (ft 3) (aT (bH 4 0 .s (aL EG (aG (aB 0) (aG (aB 3) aJ))))
 (cP .s (bc (ah ar (ah ar (aB 1) (aB 3)) (eC (.int 1)))) (jK 5 6) (aT (bH 7 0 .s (aL iD (aG (cf [ab,aa 4] (bc (aB 6)) (gB 0) cS (jA (aB 1) (aB 0) (aB 0))) aJ)))
 (tJ 2 .s (aB 7) .s (aB 5) .a (au (ah su (aL cB (aG (ah ar (aB 2) (aB 5)) aJ)) (eC (.int 5)))) (uW 2 .s (aB 5) .s (aB 7)))))))
 (aT (cP .s (bc (dM (aG (fU (aG (eC (.int 1)) (aG (eC (.str "r")) aJ))) (aG (fU (aG (eC (.int 2)) (aG (eC (.str "x")) aJ))) (aG (fU (aG (eC (.int 3)) (aG (eC (.str "rr")) aJ))) aJ))))) (jK 8 5) (cP .s (jm (aG (ah cO (ah eD (aL iG (aG (aB 0) (aG (eC (.int 24)) aJ))) (aB 8)) (eC (.int 7))) aJ)) (ft 3) (aT (bH 9 0 .s (aL iG (aG (aB 0) (aG (ah eR (ah eR (eC (.int 25)) (ah gQ (eC (.int 6)) (ah pS (aB 8) (eC (.int 1))))) (aB 3)) aJ))))
 (aT (bH 7 0 .s (aL iD (aG (cf [ab,aa 0,aa 9] (jm (aG (aB 8) aJ)) (gB 0) cS (aL oM (aG (aB 1) (aG (ah cO (ah eD (aB 2) (ah ar (dM (aG (eC (.int 1)) (aG (eC (.int 2)) (aG (eC (.int 4)) aJ)))) (aB 0))) (eC (.int 2))) aJ)))) aJ)))
 (tJ 2 .s (aB 7) .s (aB 5) .a (au (ah su (aL cB (aG (ah ar (aB 2) (aB 5)) aJ)) (eC (.int 5)))) (uW 2 .s (aB 5) .s (aB 7)))))))
 (aT (ck .s (au (ah du (ah cO (ah eD (aL iG (aG (aB 0) (aG (eC (.int 24)) aJ))) (eC (.int 6))) (eC (.int 2))) (eC (.int 0)))) (EY 2 (au (ah iq (aL cB (aG (aB 1) aJ)) (eC (.int 0))))) dS)
 (jJ 2 2)))))
def MG:List aA->Option aA:=bu 2 10 Cb
def Ai:SF:=(aT (bH 3 0 .s (aL iG (aG (aB 0) (aG (eC (.int 44)) aJ))))
 (aT (ck .s (au (ah du (aL cB (aG (aB 2) aJ)) (eC (.int 0)))) (cD 0 .s (uO (fU (aG (ah cO (ah eD (aB 3) (eC (.int 4))) (eC (.int 3))) (aG (ah cO (ah eD (aB 3) (eC (.int 12))) (eC (.int 3))) aJ))) oN (oS (ah cO (aB 3) (eC (.int 3)))))) dS)
 (aT (zP .s (ah ar (aB 2) (ah cO (aB 3) (aL cB (aG (aB 2) aJ)))) (jK 4 5))
 (aT (bH 6 0 .s (ah nL (aL EK (aG (aB 1) (aG (aB 5) aJ))) (dM (aG (aL EG (aG (aB 0) (aG (ah cO (ah eD (aB 3) (eC (.int 3))) (eC (.int 3))) aJ))) aJ))))
 (aT (bH 7 0 .s (ah ar (aB 6) (ah cO (ah eD (aB 3) (eC (.int 9))) (aL cB (aG (aB 6) aJ)))))
 (aT (bH 8 1 .s (cf [ab,aa 7] (bc (aB 4)) (gB 0) cS (jA (aB 1) (aB 0) (aB 0))))
 (aT (ck .a (mX (au (ah du (ah cO (ah eD (aB 3) (eC (.int 1000))) (eC (.int 4))) (eC (.int 0)))) (au (ah iq (aL cB (aG (aB 8) aJ)) (eC (.int 0))))) (pI 8 .s (aL oM (aG (aB 0) (aG (ah cO (ah eD (aB 3) (eC (.int 16000))) (eC (.int 3))) aJ))) .a (ah cO (ah eD (aB 3) (eC (.int 4000))) (aL cB (aG (aB 8) aJ)))) dS)
 (aT (ck .s (au (ah du (ah cO (ah eD (aB 3) (eC (.int 1000))) (eC (.int 16))) (eC (.int 5)))) (gY 8 .s (aL oM (aG (aB 0) (aG (eC (.int 0)) aJ)))) dS)
 (iU 8 (cD 0 .s (aL iD (aG (aB 8) aJ))))))))))))
def ME:List aA->Option aA:=bu 3 9 Ai
def SL:SF:=(aT (bH 1 1 .s (dM aJ))
 (aT (bH 2 1 .s (aL TQ (aG (aL cB (aG (aB 0) aJ)) aJ)))
 (aT (bH 3 0 .a (aL pY (aG (aB 0) (aG (aB 2) aJ))))
 (aT (tj .s (au (ah lF (aB 3) (eC .none))) (aT (gY 1 .s (aB 3))
 (aT (pZ 2 .s (ah ar (aB 3) (eC (.int 0))))
 (bH 3 0 .a (aL pY (aG (aB 0) (aG (aB 2) aJ)))))) 100)
 (UM 1 2)))))
def lH:List aA->Option aA:=bu 1 4 SL
def TH:SF:=(aT (bH 1 1 .s (nN 1 (aL lH (aG (aB 0) aJ))))
 (TL .a (au (ah iq (aL cB (aG (aB 1) aJ)) (eC (.int 1)))) 1 (dM aJ)))
def xN:List aA->Option aA:=bu 1 2 TH
def Dz:SF:=(aT (bH 2 1 .s (aL qZ (aG (aB 1) aJ)))
 (aT (cP .s (bc (nN 0 (aL lH (aG (aB 0) aJ)))) (jK 3 4) (vC 2 .a (aL EI (aG (ah ar (aB 0) (aB 4)) (aG (ah ar (aB 2) (aB 4)) (aG (ah ar (aB 0) (aB 3)) (aG (ah ar (aB 2) (aB 3)) aJ))))) .s (aB 4)))
 (jJ 2 1)))
def MU:List aA->Option aA:=bu 2 5 Dz
def By:SF:=(aT (bH 2 0 .s (nN 1 (aL lH (aG (aB 0) aJ))))
 (cD 0 .s (aL JQ (aG (aL iD (aG (cf [ab,aa 0] (bc (aB 2)) (gB 0) cS (ah ar (aB 1) (aB 0))) aJ)) (aG (cf [ab,aa 1] (bc (aB 2)) (gB 0) cS (ah ar (aB 1) (aB 0))) aJ)))))
def ML:List aA->Option aA:=bu 2 3 By
def Ce:SF:=(aT (bH 2 1 .s (aL qZ (aG (aB 1) aJ)))
 (aT (cP .s (iRv (aG (nN 0 (aL lH (aG (aB 0) aJ))) aJ)) (jK 3 4) (vC 2 .a (aL EI (aG (ah ar (aB 0) (aB 3)) (aG (ah ar (aB 2) (aB 3)) (aG (ah ar (aB 0) (aB 4)) (aG (ah ar (aB 2) (aB 4)) aJ))))) .s (aB 3)))
 (jJ 2 1)))
def MK:List aA->Option aA:=bu 2 5 Ce
def EN:SF:=(pJ .s (aL MP (aG (aB 0) (aG (aL iD (aG (cf [ab,aa 1] (bc (aL xN (aG (aB 1) aJ))) (gB 0) cS (ah ar (aB 1) (aB 0))) aJ)) aJ))))
def Dn:List aA->Option aA:=bu 2 2 EN
def Bx:SF:=(aT (bH 2 1 .s (aL qZ (aG (aB 1) aJ)))
 (aT (bH 3 0 .s (aL ML (aG (aB 0) (aG (aB 1) aJ))))
 (aT (cP .s (bc (nN 1 (aL lH (aG (aB 0) aJ)))) (ft 4) (pI 2 .s (aL KY (aG (cf [ab,aa 0,aa 4] (bc (aB 3)) (gB 0) cS (aL lO (aG (ah ar (ah ar (aB 1) (aB 2)) (eC (.int 1))) (aG (aB 0) aJ)))) aJ)) .s (aB 4)))
 (jJ 2 1))))
def MI:List aA->Option aA:=bu 2 5 Bx
def Bd:SF:=(cD 1 .s (aL MK (aG (aB 0) (aG (aL MI (aG (aB 0) (aG (aL MU (aG (aB 0) (aG (aB 1) aJ))) aJ))) aJ))))
def MB:List aA->Option aA:=bu 2 2 Bd
def EJ:SF:=(cP .s (bc (aB 1)) (jK 3 4) (aT (bH 5 0 .s (aL CD (aG (aB 3) (aG (aB 2) aJ))))
 (ck .s (au (ah lF (aB 5) (eC .none))) (pJ .s (aL Dn (aG (aB 0) (aG (aL EH (aG (aB 4) (aG (aB 5) aJ))) aJ)))) dS)))
def Dq:List aA->Option aA:=bu 3 6 EJ
def Ar:SF:=(aT (bH 2 1 .s (aL MQ (aG (aB 0) (aG (aB 1) aJ))))
 (aT (bH 3 0 .s (eC (.dict [])))
 (aT (cP .s (xf (aG (aB 1) aJ)) (jK 4 5) (iU 2 (aT (bH 2 1 .s (aL MB (aG (aB 1) (aG (aB 2) aJ))))
 (aT (ck .a (au (ah du (aL cB (aG (ah ar (aB 2) (aB 4)) aJ)) (eC (.int 0)))) (cD 0 .s (eC .none)) dS)
 (aT (vC 2 .a (sL (ah ar (aB 2) (aB 4)) oN (oS (eC (.int 1)))) .s (aB 4))
 (iU 2 (bH 3 0 .s (aL rF (aG (aB 5) (aG (ah ar (ah ar (aB 2) (aB 4)) (eC (.int 0))) (aG (aB 3) aJ)))))))))))
 (iU 2 (cD 0 .s (aL lO (aG (aL rO (aG (aB 1) aJ)) (aG (aB 3) aJ))))))))
def EC:List aA->Option aA:=bu 2 6 Ar
def Cu:SF:=(aT (bH 3 1 .s (aL CD (aG (ah ar (aB 1) (eC (.int 0))) (aG (aB 2) aJ))))
 (aT (ck .a (au (ah sN (aB 3) (eC .none))) (cD 0 .s (eC .none)) dS)
 (aT (bH 4 0 .a (aL EH (aG (ah ar (aB 1) (eC (.int 1))) (aG (aB 3) aJ))))
 (aT (bH 5 0 .s (aL EC (aG (aB 0) (aG (aB 4) aJ))))
 (aT (ck .s (au (ah sN (aB 5) (eC .none))) (cD 0 .s (eC .none)) dS)
 (aT (BL 3 .s (aL BO (aG (aL rO (aG (aB 4) aJ)) (aG (aB 5) aJ))))
 (iU 3 (cD 0 .s (aL lO (aG (aL rO (aG (ah ar (aB 1) (eC (.int 1))) aJ)) (aG (aB 3) aJ)))))))))))
def Cs:List aA->Option aA:=bu 3 6 Cu
def Cy:SF:=(aT (cP .s (xf (aG (aB 1) aJ)) (jK 3 4) (aT (bH 5 0 .s (aL Cs (aG (aB 0) (aG (aB 4) (aG (aB 2) aJ)))))
 (ck .s (au (ah lF (aB 5) (eC .none))) (cD 0 .s (fU (aG (aB 3) (aG (aB 5) aJ)))) dS)))
 (cD 0 .s (eC .none)))
def Cp:List aA->Option aA:=bu 3 6 Cy
def RF:SF:=(aT (pJ .s (aL Dq (aG (aB 0) (aG (aB 1) (aG (aB 2) aJ)))))
 (cD 0 .s (aL Cp (aG (aB 0) (aG (aB 1) (aG (aB 2) aJ))))))
def RX:List aA->Option aA:=bu 3 3 RF
def Ct:SF:=(aT (bH 3 0 .s (aL BZ (aG (cf [ab,ab] (L6 (aB 0)) (xw 0 1) cS (fU (aG (aB 0) (aG (aL qZ (aG (aB 1) aJ)) aJ)))) aJ)))
 (aT (bH 4 0 .s (aL Dd (aG (aB 3) (aG (aB 1) (aG (aB 2) aJ)))))
 (aT (bH 5 0 .s (aL RX (aG (aB 0) (aG (aB 1) (aG (aB 2) aJ)))))
 (aT (ck .s (au (ah (uP ae) (aB 0) (aB 3))) (cD 0 .s (eC (.bool af))) dS)
 (aT (ck .s (au (ah sN (aB 4) (eC .none))) (cD 0 .s (ah sN (aB 5) (eC .none))) dS)
 (aT (ck .s (O3 (qT (au (ff (fC "tuple") (aB 5)))) (O3 (au (ah jh (aL cB (aG (aB 5) aJ)) (eC (.int 2)))) (qT (au (ff (fC "tuple") (ah ar (aB 5) (eC (.int 1)))))))) (cD 0 .s (eC (.bool af))) dS)
 (cD 0 .s (sG (ah du (aB 5) (aB 4)) (sG (ff (fC "int") (ah ar (aB 5) (eC (.int 0)))) (QN (ff (fC "bool") (ah ar (aB 5) (eC (.int 0))))))))))))))
def yZ:List aA->Option aA:=bu 3 6 Ct
def Mm:SF:=(aT (bH 1 0 .s (aL MV (aG (aB 0) aJ)))
 (aT (bH 2 2 .s (aL MG (aG (aB 0) (aG (aB 1) aJ))))
 (aT (bH 3 0 .a (aL ME (aG (aB 0) (aG (aB 2) (aG (aB 1) aJ)))))
 (aT (ck .a (qT (au (aL yZ (aG (aB 2) (aG (aB 1) (aG (aB 3) aJ)))))) (cD 0 .s (eC (.bool af))) dS)
 (aT (cP .s (bc (dM (aG (eC (.str "x")) (aG (eC (.str "rr")) (aG (eC (.str "r")) aJ))))) (ft 4) (ck .a (au (ah iq (aL cB (aG (jA (aB 2) (aB 4) (dM aJ)) aJ)) (eC (.int 0)))) (aT (ER 2 .s (aB 4) .a (ah cO (aL iG (aG (aB 0) (aG (eC (.int 2)) aJ))) (aL cB (aG (ah ar (aB 2) (aB 4)) aJ))))
 (ck .a (qT (au (aL yZ (aG (aB 2) (aG (aB 1) (aG (aB 3) aJ)))))) (cD 0 .s (eC (.bool af))) dS)) dS))
 (iU 2 (cD 0 .s (eC (.bool ae)))))))))
def HF:List aA->Option aA:=bu 1 5 Mm
end Aw
namespace L2
open PySem PySem.Spec PyProof.Rows
variable {F G:SF}{T:aA->aR->Option aR}{ds:List aA}{Y:aR}{t:BF}{f:EF}{d:aA}{fi:AF}{n i:Nat}
theorem Vl(P:Nat->aR->Prop)(h0:P 0 Y)
  (step:∀ i d Y,ds[i]?=aa d->P i Y->∃ ρ1 ρ2,T d Y=aa ρ1/\(F ρ1=aa (.nx ρ2)\/F ρ1=aa (.ct ρ2))/\P (i+1) ρ2):∃ ρ',iC F T ds Y=aa (.nx ρ')/\P ds.length ρ':=by
 have go:∀ (rest:List aA) (i:Nat) (Y:aR),ds.drop i=rest->i+rest.length=ds.length->P i Y->∃ ρ',iC F T rest Y=aa (.nx ρ')/\P ds.length ρ':=by
  intro rest;induction rest with
  |nil=>
   intro i Y _ hl p;simp at hl;subst hl;exact⟨Y,rfl,p⟩
  |cons d r ih=>
   intro i Y hd hl p;have hi:ds[i]?=aa d:=by
    have:=congrArg (·[0]?) hd;simpa using this
   obtain⟨ρ1,ρ2,e1,e2,p2⟩:=step i d Y hi p;have ox:ds.drop (i+1)=r:=by
    have:=congrArg List.tail hd;simpa using this
   obtain⟨ρ',e3,p3⟩:=ih (i+1) ρ2 ox (by simp at hl;lia) p2
   refine⟨ρ',?_,p3⟩;show((T d Y).bind λρ1=>(F ρ1).bind λo=>match o with
    |.nx ρ'=>iC F T r ρ'
    |.ct ρ'=>iC F T r ρ'
    |.bk ρ'=>aa (.nx ρ')
    | .rt d=>aa (.rt d))=aa (.nx ρ')
   grind
 exact go ds 0 Y (by simp) (by simp) h0
theorem VC {T:aA->List (Option aA)->Option (List (Option aA))}{Y:List (Option aA)}(g:aA->aA):∀ (ds:List aA),(∀ d∈ds,∃ ρ1,T d Y=aa ρ1/\t ρ1=aa ae/\f ρ1=aa (g d))->rn T t f Y ds=aa (ds.map g)
 |[],_=>rfl
 |d::r,h=>by
  obtain⟨ρ1,e1,e2,e3⟩:=h d bE;have e4:=VC g r λd' m=>h d' (bL _ m)
  show((T d Y).bind λρ1=>(t ρ1).bind λc=>if c=ae then(f ρ1).bind λy=>(rn T t f Y r).bind λys=>aa (y::ys) else rn T t f Y r)=aa (g d::r.map g)
  simp[e1,e2,e3,e4]
theorem Nx{ρ':aR}(h:F Y=aa (.nx ρ')):aT F G Y=G ρ':=by
 unfold aT;rw[h]
 rfl
theorem Pq(h:F Y=aa (.rt d)):aT F G Y=aa (.rt d):=by
 unfold aT;rw[h]
 rfl
theorem CP {m:Md}{o:Out}(h:aV m fi Y=aa ds)(h2:iC F T ds Y=aa o):cP m fi T F Y=aa o:=by
 unfold cP;rw[h];exact h2
theorem Lw {np:Nat}{body:SF}(hl:ds.length=np)(h:body (ds.map (λd=>aa (0,d))++AL (n-np) ab)=aa (.rt d)):bu np n body ds=aa d:=by
 unfold bu;rw[if_pos hl,h]
 rfl
theorem MW{k:Nat}(h:k<=ds.length):cutD ds ab (aa (k:Int))=ds.take k:=by
 unfold cutD;rw[HT.Av5,HT.A3l];simp[Nat.min_eq_left h]
theorem nH(h:n<=100000):n<=sizeLine:=dG h nofun
theorem vI(h:n<=100000):n<sizeLine:=FP h nofun
theorem tL (a:Int){b:Int}(h:0<b):0<=a%b/\a%b<b:=⟨Int.emod_nonneg _ (),Int.emod_lt_of_pos _ h⟩
def Goes (F:SF)(Y:aR)(P:Out->Prop):Prop:=∃ o,F Y=aa o/\P o
variable {P:Out->Prop}{m:Md}
theorem Goes.mono {P':Out->Prop}(h:Goes F Y P)(k:∀ o,P o->P' o):Goes F Y P':=by
 obtain⟨o,e,p⟩:=h;exact⟨o,e,k o p⟩
theorem gF {ρ':aR}(h:F Y=aa (.nx ρ'))(k:Goes G ρ' P):Goes (aT F G) Y P:=by
 obtain⟨o,e,p⟩:=k;exact⟨o,by rw[Nx h];exact e,p⟩
theorem dU (I:aR->Prop)(h:Goes F Y λo=>∃ ρ',o=.nx ρ'/\I ρ')(k:∀ ρ',I ρ'->Goes G ρ' P):Goes (aT F G) Y P:=by
 obtain⟨o,e,ρ',rfl,i⟩:=h;exact gF e (k ρ' i)
theorem CO(h:F Y=aa (.rt d))(k:P (.rt d)):Goes (aT F G) Y P:=⟨_,Pq h,k⟩
theorem RM{b:Bool}(h:bV m t Y=aa b)(k:Goes (if b=ae then F else G) Y P):Goes (ck m t F G) Y P:=by
 obtain⟨o,e,p⟩:=k;refine⟨o,?_,p⟩;show((bV m t Y).bind λb=>if b=ae then F Y else G Y)=aa o
 rw[h];cases b
 .exact e
 .exact e
theorem eU(h:bV m t Y=aa ae)(k:Goes F Y P):Goes (ck m t F G) Y P:=RM h k
theorem gD(h:bV m t Y=aa af)(k:Goes G Y P):Goes (ck m t F G) Y P:=RM h k
theorem hX (k:P (.nx Y)):Goes dS Y P:=⟨_,rfl,k⟩
theorem sV(h:bV m t Y=aa af):ck m t F dS Y=aa (.nx Y):=by
 unfold ck;rw[h]
 rfl
theorem oG (h:Goes F Y λo=>∃ d,o=.rt d/\P o):Goes (aT F G) Y P:=by
 obtain⟨o,e,d,rfl,p⟩:=h;exact CO e p
theorem cN(h:f (vS Y)=aa d)(k:P (.rt d)):Goes (cD n .s f) Y P:=⟨_,by
 unfold cD eV;simp only[h,bQ],k⟩
theorem MY(h:eV n m f Y=aa d)(hl:i<Y.length)(k:P (.nx (Y.set i (aa (n,d))))):Goes (bH i n m f) Y P:=
 ⟨_,by unfold bH;rw[h];simp only[bQ,if_pos hl],k⟩
theorem vP(h:f (vS Y)=aa d)(hl:i<Y.length)(k:P (.nx (Y.set i (aa (n,d))))):Goes (bH i n .s f) Y P:=MY h hl k
theorem lJ(h:Goes F (frz i Y) P):Goes (iU i F) Y P:=h
theorem Mr(h:n<=1000000):HA 0 (n:Int)=aa ((cG n).map λ(k:Nat)=>aY k):=by
 unfold HA;rw[if_pos ()]
 simp
theorem oC {fa:AF}{Y:List (Option aA)}(h:fa Y=aa [.int n])(hn:n<=1000000):jm fa Y=aa ((cG n).map λ(k:Nat)=>aY k):=by
 have e:=Mr hn;generalize aa ((cG n).map λ(k:Nat)=>aY k)=y at e ⊢
 rw[<-e];unfold jm;rw[h,bQ]
theorem dm(h:fi (vS Y)=aa ds):aV .s fi Y=aa ds:=h
theorem ND(I:Nat->aR->Prop)(h:aV m fi Y=aa ds)(h0:I 0 Y)
  (step:∀ i d Y,ds[i]?=aa d->I i Y->∃ ρ1,T d Y=aa ρ1/\Goes F ρ1 λo=>∃ ρ2,(o=.nx ρ2\/o=.ct ρ2)/\I (i+1) ρ2) (k:∀ ρ',I ds.length ρ'->P (.nx ρ')):Goes (cP m fi T F) Y P:=by
 obtain⟨ρ',e,i⟩:=Vl I h0 λi d Y hd p=>by
  obtain⟨ρ1,e1,o,e2,ρ2,e3,p2⟩:=step i d Y hd p;refine⟨ρ1,ρ2,e1,?_,p2⟩;rcases e3 with rfl|rfl
  .exact .inl e2
  .exact .inr e2
 exact⟨_,CP h e,k ρ' i⟩
theorem tN(I:Nat->aR->Prop)(h:aV m fi Y=aa ((cG n).map λ(k:Nat)=>aY k))(h0:I 0 Y)
  (step:∀ (i:Nat) Y,i<n->I i Y->∃ ρ1,T (.int i) Y=aa ρ1/\Goes F ρ1 λo=>∃ ρ2,(o=.nx ρ2\/o=.ct ρ2)/\I (i+1) ρ2) (k:∀ ρ',I n ρ'->P (.nx ρ')):Goes (cP m fi T F) Y P:=by
 refine ND I h h0 (λi d Y hd p=>?_) (by simpa using k)
 have bh:i<n:=by
  have:=(cJ.1 hd).1;simpa using this
 rw[eZ,FW bh] at hd;have:aY (i:Int)=d:=by simpa using hd
 rw[13];exact step i Y bh p
theorem cU {np:Nat}{body:SF}{Q:aA->Prop}(hl:ds.length=np)(h:Goes body (ds.map (λd=>aa (0,d))++AL (n-np) ab) λo=>∃ d,o=.rt d/\Q d):∃ d,bu np n body ds=aa d/\Q d:=by
 obtain⟨o,e,d,rfl,q⟩:=h;exact⟨d,Lw hl e,q⟩
theorem SZ {cap:List (Option Nat)}{T:aA->List (Option aA)->Option (List (Option aA))}{Y:List (Option aA)}(g:aA->aA)(h1:fi Y=aa ds)(h2:ds.length<=100000)
  (h:∀ d∈ds,∃ ρ1,T d (kZ cap Y)=aa ρ1/\t ρ1=aa ae/\f ρ1=aa (g d)):cf cap fi T t f Y=aa (.list (ds.map g)):=by
 unfold cf;rw[h1,bQ,VC g ds h,bQ,if_pos (nH h2)]
end L2
namespace L2
open PySem PySem.Spec PyProof.Rows
variable {f:EF}{ds:List aA}{d:aA}
variable {F G:SF}{Y:aR}{P:Out->Prop}{m:Md}
theorem eX{Y:List (Option aA)}(h:f Y=aa (.list ds)):bc f Y=aa ds:=by
 unfold bc;rw[h]
 rfl
theorem lM{Y:List (Option aA)}(h:f Y=aa (.tuple ds)):bc f Y=aa ds:=by
 unfold bc;rw[h]
 rfl
theorem aW {fa:AF}{g:List aA->Option aA}{Y:List (Option aA)}(h:fa Y=aa ds)(h2:g ds=aa d):aL g fa Y=aa d:=by
 unfold aL;rw[h];exact h2
theorem aO {fa fb:EF}{g:aA->aA->Option aA}{Y:List (Option aA)}{a b:aA}(h:fa Y=aa a)(h2:fb Y=aa b)(h3:g a b=aa d):ah g fa fb Y=aa d:=by
 unfold ah;rw[h,h2];exact h3
theorem pV {i:Nat}(h:f (vS Y)=aa d)(hg:getL i Y=aa ds)(hl:ds.length<100000)(k:P (.nx (Y.set i (aa (1,.list (ds++[d])))))):Goes (gY i .s f) Y P:=⟨_,by
 unfold gY eV;simp only[h,bQ,hg,if_pos (vI (oX hl))],k⟩
theorem Ga {i:Nat}{g:EF}{kd:aA}{key:aI}{kds:List (aA×aA)}(h:f (vS Y)=aa d)(hg:oO i Y=aa kds)(hk:g (vS Y)=aa kd)(ha:bU kd=aa key)(hl:kds.length<100000)(k:P (.nx (Y.set i (aa (1,.dict (putD kds key d)))))):Goes (xK i .s f .s g) Y P:=⟨_,by
 unfold xK eV;simp only[h,bQ,hg,hk,ha,if_pos (vI (oX hl))],k⟩
theorem DJ:∀ {ts:List aA},(∀ t∈ts,bP t=ae)->bR ts=ae
 |[],_=>by simp[bR]
 |t::r,h=>by
  simp only[bR,GH];exact⟨h t bE,DJ λx m=>h x (bL _ m)⟩
theorem yM {n:Nat}:∀ {ts:List aA},(∀ t∈ts,t.depth<=n)->cT ts<=n
 |[],_=>by simp[cT]
 |t::r,h=>by
  simp only[cT];exact Nat.max_le.2 ⟨h t bE,yM λx m=>h x (bL _ m)⟩
theorem KZ:∀ {ts:List aA},(∀ t∈ts,fD t=ae)->lL ts=ae
 |[],_=>by simp[lL]
 |t::r,h=>by
  simp only[lL,GH];exact⟨h t bE,KZ λx m=>h x (bL _ m)⟩
theorem yR:∀ {ts:List aA},(∀ t∈ts,noDict t=ae)->noDicts ts=ae
 |[],_=>by simp[noDicts]
 |t::r,h=>by
  simp only[noDicts,GH];exact⟨h t bE,yR λx m=>h x (bL _ m)⟩
theorem BW {kds:List (aA×aA)}(h:∀ kd∈kds,kd.1 ≠ .none):dh kds=ae:=by
 cases kds with
 |nil=>rfl
 |cons p r=>
  obtain⟨k,d⟩:=p;have:=h (k,d) bE;cases k<;>first|rfl|exact absurd rfl this
theorem Ff:∀ {kss:List (List aA)},(∀ k∈kss,bR k=ae/\cT k<=6)->iA (kss.map cW)=aa kss
 |[],_=>rfl
 |k::r,h=>by
  show(if bR k=ae/\cT k<=6 then(iA (r.map cW)).bind λkss=>aa (k::kss) else ab)=_
  rw[if_pos (h k bE),Ff λx m=>h x (bL _ m)]
  rfl
end L2
namespace L2
open PySem PySem.Spec PyProof.Rows
variable {f:EF}{i n:Nat}{d:aA}
variable {F G:SF}{Y:aR}{P:Out->Prop}{m:Md}
theorem iF {α β:Type}{fi:AF}{T:aA->aR->Option aR}{xs:List α}{q:α->aA}(g:β->α->β)(I:Nat->β->aR->Prop){b0:β}(h:aV m fi Y=aa (xs.map q))(h0:I 0 b0 Y)
  (step:∀ i x b Y,xs[i]?=aa x->I i b Y->∃ ρ1,T (q x) Y=aa ρ1/\Goes F ρ1 λo=>∃ ρ2,(o=.nx ρ2\/o=.ct ρ2)/\I (i+1) (g b x) ρ2) (k:∀ ρ',I xs.length (xs.foldl g b0) ρ'->P (.nx ρ')):Goes (cP m fi T F) Y P:=by
 refine ND (λi Y=>I i ((xs.take i).foldl g b0) Y) h h0 (λi d Y hd p=>?_) (λρ' p=>k ρ' (by simpa using p))
 rw[eZ] at hd;obtain⟨x,hx,rfl⟩:=jF.1 hd;obtain⟨ρ1,e1,g1⟩:=step i x _ Y hx p;refine⟨ρ1,e1,g1.mono λo ⟨ρ2,e,q⟩=>⟨ρ2,e,?_⟩⟩
 have:xs.take (i+1)=xs.take i++[x]:=by rw[AK,hx];rfl
 rw[this,rY];exact q
def V7 (F:SF)(T:aA->aR->Option aR)(ds:List aA):Out->Option Out
 |.nx Y=>iC F T ds Y
 |.ct Y=>iC F T ds Y
 |.bk Y=>aa (.nx Y)
 |.rt d=>aa (.rt d)
theorem XQ {T:aA->List (Option aA)->Option (List (Option aA))}{t:BF}{Y:List (Option aA)}{α:Type}{q:α->aA}(p:α->Bool)(g:α->aA):∀ (xs:List α),
  (∀ x∈xs,∃ ρ1,T (q x) Y=aa ρ1/\t ρ1=aa (p x)/\(p x=ae->f ρ1=aa (g x)))->rn T t f Y (xs.map q)=aa ((xs.filter p).map g)
 |[],_=>rfl
 |x::xs,h=>by
  obtain⟨ρ1,e1,e2,e3⟩:=h x bE;have ih:=XQ p g xs λy m=>h y (bL _ m)
  show((T (q x) Y).bind λρ1=>(t ρ1).bind λc=>if c=ae then(f ρ1).bind λy=>(rn T t f Y (xs.map q)).bind λys=>aa (y::ys) else rn T t f Y (xs.map q))=_
  grind
theorem fS {cap:List (Option Nat)}{fi:AF}{T:aA->List (Option aA)->Option (List (Option aA))}{t:BF}{Y:List (Option aA)}{α:Type}{xs:List α}{q:α->aA}(p:α->Bool)(g:α->aA)(h1:fi Y=aa (xs.map q))(h2:xs.length<=100000)
  (h:∀ x∈xs,∃ ρ1,T (q x) (kZ cap Y)=aa ρ1/\t ρ1=aa (p x)/\(p x=ae->f ρ1=aa (g x))):cf cap fi T t f Y=aa (.list ((xs.filter p).map g)):=by
 unfold cf;rw[h1,bQ,XQ p g xs h,bQ,if_pos (nH (by simpa using h2))]
theorem TZ(h:eV n m f Y=aa d)(hl:i<Y.length):bH i n m f Y=aa (.nx (Y.set i (aa (n,d)))):=by
 obtain⟨o,e,q⟩:=MY (P:=λo=>o=.nx (Y.set i (aa (n,d)))) h hl rfl
 rw[e,q]
theorem bX(h:f (vS Y)=aa d)(hl:i<Y.length)(k:Goes G (Y.set i (aa (n,d))) P):Goes (aT (bH i n .s f) G) Y P:=gF (TZ h hl) k
theorem HU(h:f (vA Y)=aa d)(hf:gE n d=ae)(hl:i<Y.length)(k:Goes G (Y.set i (aa (n,d))) P):Goes (aT (bH i n .a f) G) Y P:=
 gF (TZ (by show((f (vA Y)).bind λd=>if gE n d=ae then aa d else ab)=_;rw[h,bQ,if_pos hf]) hl) k
theorem zJ {fa:EF}{g:aA->Option aA}{Y:List (Option aA)}{a:aA}(h:fa Y=aa a)(h3:g a=aa d):ff g fa Y=aa d:=by
 unfold ff;rw[h];exact h3
theorem aX{g:AF}{Y:List (Option aA)}{ds:List aA}(h:f Y=aa d)(h2:g Y=aa ds):aG f g Y=aa (d::ds):=by
 unfold aG;rw[h,h2]
 rfl
end L2
namespace L2
def dD {α:Type}[DecidableEq α](aj:List α)(z:α):List α:=if z∈aj then aj else aj++[z]
def fQ {α:Type}[DecidableEq α](zs:List α):List α:=zs.foldl dD []
section
variable {α:Type}[DecidableEq α]
theorem An1 {aj:List α}{z x:α}:x∈dD aj z↔x∈aj\/x=z:=by
 unfold dD
 grind
theorem LF {x:α}:∀ (zs aj:List α),x∈zs.foldl dD aj↔x∈aj\/x∈zs
 |[],aj=>by simp
 |z::zs,aj=>by
  rw[iT,LF zs,An1]
  grind
theorem Aec {x:α}{zs:List α}:x∈fQ zs↔x∈zs:=by
 unfold fQ;rw[LF];simp
theorem XT (aj:List α)(z:α):(dD aj z).length<=aj.length+1:=by
 unfold dD;split<;>simp
theorem yN:∀ (zs aj:List α),(zs.foldl dD aj).length<=aj.length+zs.length
 |[],aj=>by simp
 |z::zs,aj=>by
  have h1:=yN zs (dD aj z);have h2:=XT aj z
  grind
end
open PySem PySem.Spec PyProof.Rows
structure KnR (R:aA->Prop)(kds:List (aA×aA)):Prop where
 fit:∀ kd∈kds,(∃ z,kd.1=.str z)/\R kd.2
 once:(kds.map (·.1)).Nodup
variable {R:aA->Prop}{kds:List (aA×aA)}
theorem KnR.look (h:KnR R kds):∀ kd∈kds,∃ z,kd.1=.str z/\bY kds (.inr z)=aa kd.2:=by
 obtain⟨hf,ho⟩:=h;induction kds with
 |nil=>intro _ m;simp at m
 |cons a r ih=>
  rw[dC,jZ] at ho;intro kd m;obtain⟨z,ez⟩:=(hf kd m).1;refine⟨z,ez,?_⟩;rw[10]
  .simp[bY,gK,ez,bU]
  .obtain⟨z',e1,e2⟩:=ih (λx m=>hf x (bL _ m)) ho.2 kd m
   obtain rfl:z'=z:=by
    have q:=e1.symm.trans ez;injection q
   have dg:¬ bU a.1=aa (.inr z'):=λq=>ho.1 (bO.2 ⟨kd,m,by rw[e1];exact(wC q).symm⟩)
   have e3:bY (a::r) (.inr z')=bY r (.inr z'):=by simp[bY,gK,dg]
   rw[e3];exact e2
theorem KnR.hit (h:KnR R kds)(hs:∀ d,R d->cF d d=ae):∀ {r:List (aA×aA)},(∀ kd∈r,kd∈kds)->qR kds r=ae
 |[],_=>rfl
 |(k,d)::r,hr=>by
  have m:=hr (k,d) bE;obtain⟨z,e,q⟩:=h.look (k,d) m;have e':=e;have q':=q;subst e';simp only[qR,bU,bQ,q',hs d (h.fit (bZ z,d) m).2,GG];exact h.hit hs λkd mm=>hr kd (bL _ mm)
theorem KnR.pl (h:KnR R kds):dh kds=ae:=BW λkd m=>by
 obtain⟨⟨z,e⟩,_⟩:=h.fit kd m
 grind
theorem KnR.eqK (h:KnR R kds)(hs:∀ d,R d->cF d d=ae)(ho:∀ d,R d->dE d=ae)(neg:Bool):uP neg (.dict kds) (.dict kds)=aa (.bool (neg != ae)):=by
 have h1:valsOk kds=ae:=dQ.2 λkd m=>ho _ (h.fit kd m).2
 have h2:=h.hit hs λ_ m=>m
 simp[uP,h1,BU,h2,h.pl]
def aZ (r:List Int):aA:=.tuple (r.map aY)
def bD (rs:List (List Int)):aA:=.list (rs.map aZ)
theorem JW (r:List Int):bP (aZ r)=ae:=by
 refine DJ λt m=>?_
 obtain⟨i,_,rfl⟩:=bO.1 m
 rfl
theorem WH (rs:List (List Int)):bR (rs.map aZ)=ae:=DJ λt m=>by
 obtain⟨r,_,rfl⟩:=bO.1 m;exact JW r
theorem D4 (rs:List (List Int)):cF (bD rs) (bD rs)=ae:=by
 have:=yQ _ _ (WH rs) (WH rs);simp[bD,cF,this]
theorem HV {Y:aR}{P:Out->Prop}{i:Nat}{f g:EF}{d:aA}{j:Int}{jn:Nat}{ds:List aA}(h:f (vS Y)=aa d)(hg:getL i Y=aa ds)(hk:g (vS Y)=aa (.int j))(hj:gb ds.length j=aa jn)(k:P (.nx (Y.set i (aa (1,.list (ds.set jn d)))))):Goes (pI i .s f .s g) Y P:=by
 refine⟨_,?_,k⟩;have e1:eV 0 .s f Y=aa d:=h;have e2:eV 0 .s g Y=aa (.int j):=hk;unfold pI
 grind
theorem rE {n j:Nat}(h:j<n):gb n (j:Int)=aa j:=by
 unfold gb
 grind
theorem SW {ds:List aA}{f:EF}{lo hi:OF}{Y:List (Option aA)}{l u:Option Int}(e1:f Y=aa (.list ds))(e2:lo Y=aa l)(e3:hi Y=aa u):sL f lo hi Y=aa (.list (cutD ds l u)):=by
 unfold sL
 grind
theorem vN {fd fk fx:EF}{Y:List (Option aA)}{kds:List (aA×aA)}{kd x:aA}{key:aI}(h1:fd Y=aa (.dict kds))(h2:fk Y=aa kd)(ha:bU kd=aa key)(h3:fx Y=aa x)(hp:dh kds=ae:=by first|assumption|rfl|simp):jA fd fk fx Y=aa ((bY kds key).getD x):=by
 unfold jA;rw[h1,bQ,h2,bQ,h3,bQ];show(if dh kds=ae then(bU kd).bind λk=>aa ((bY kds k).getD x) else ab)=_
 rw[if_pos hp,ha]
 rfl
end L2
namespace L2
open PySem PySem.Spec PyProof.Rows
variable {F G:SF}{Y:aR}{P:Out->Prop}{m:Md}
def eO {α β:Type}(g:β->α->Option β):β->List α->Option β
 |b,[]=>aa b
 |b,x::xs=>(g b x).bind λb'=>eO g b' xs
def BG {β:Type}(I:β->aR->Prop)(r:aA)(t:Option β)(o:Out):Prop:=match t with
 |none=>o=.rt r
 |some b=>∃ ρ2,o=.nx ρ2/\I b ρ2
def zQ {β:Type}(I:β->aR->Prop)(r:aA)(t:Option β)(o:Out):Prop:=match t with
 |none=>o=.rt r
 |some b=>∃ ρ2,(o=.nx ρ2\/o=.ct ρ2)/\I b ρ2
theorem Ax {α β:Type}(g:β->α->Option β)(x:α):∀ (xs:List α) (b:β),eO g b (xs++[x])=(eO g b xs).bind λb'=>g b' x
 |[],b=>by
  show((g b x).bind λb'=>aa b')=g b x
  cases g b x<;>rfl
 |y::ys,b=>by
  show((g b y).bind λb'=>eO g b' (ys++[x]))=((g b y).bind λb'=>eO g b' ys).bind _
  cases g b y with
  |none=>rfl
  |some b'=>exact Ax g x ys b'
theorem UR {T:aA->aR->Option aR}{α β:Type}{q:α->aA}(g:β->α->Option β)(I:β->aR->Prop)(r:aA){all:List α}{b0:β}
  (step:∀ pre x post b Y,all=pre++x::post->eO g b0 pre=aa b->I b Y->∃ ρ1,T (q x) Y=aa ρ1/\Goes F ρ1 (zQ I r (g b x))):∀ {xs pre:List α} {b:β} {Y:aR},all=pre++xs->eO g b0 pre=aa b->I b Y->∃ o,iC F T (xs.map q) Y=aa o/\BG I r (eO g b xs) o
 |[],pre,b,Y,_,_,h0=>⟨_,rfl,Y,rfl,h0⟩
 |x::xs,pre,b,Y,ha,hb,h0=>by
  obtain⟨ρ1,e1,o,e2,h⟩:=step pre x xs b Y ha hb h0;have e:iC F T ((x::xs).map q) Y=V7 F T (xs.map q) o:=by
   show((T (q x) Y).bind λρ1=>(F ρ1).bind λo=>_)=_
   rw[e1,bQ,e2,bQ];cases o<;>rfl
  rw[e];show ∃ o',V7 F T (xs.map q) o=aa o'/\BG I r ((g b x).bind λb'=>eO g b' xs) o'
  cases hg:g b x with
  |none=>
   rw[hg] at h;have h:=h;subst h;exact⟨_,rfl,rfl⟩
  |some b'=>
   rw[hg] at h;obtain⟨ρ2,ho,i2⟩:=h;obtain⟨o',e',h'⟩:=UR g I r step (pre:=pre++[x]) (by simpa using ha) (by rw[Ax,hb];exact hg) i2
   rcases ho with rfl|rfl
   .exact⟨o',e',h'⟩
   .exact⟨o',e',h'⟩
theorem Rp {α β:Type}{fi:AF}{T:aA->aR->Option aR}{xs:List α}{q:α->aA}{b0:β}(g:β->α->Option β)(I:β->aR->Prop)(r:aA)(h:aV m fi Y=aa (xs.map q))(h0:I b0 Y)
  (step:∀ pre x post b Y,xs=pre++x::post->eO g b0 pre=aa b->I b Y->∃ ρ1,T (q x) Y=aa ρ1/\Goes F ρ1 (zQ I r (g b x))):Goes (cP m fi T F) Y (BG I r (eO g b0 xs)):=by
 obtain⟨o,e,h'⟩:=UR g I r step (xs:=xs) (pre:=[]) (by simp) rfl h0
 exact⟨o,CP h e,h'⟩
theorem Uk {β:Type}(I:β->aR->Prop)(r:aA)(t:Option β)(h:Goes F Y (BG I r t))(k1:t=ab->P (.rt r))(k2:∀ b,t=aa b->∀ ρ',I b ρ'->Goes G ρ' P):Goes (aT F G) Y P:=by
 obtain⟨o,e,h⟩:=h;cases t with
 |none=>
  have h:=h;subst h;exact CO e (k1 rfl)
 |some b=>
  obtain⟨ρ2,rfl,i2⟩:=h;exact gF e (k2 b rfl ρ2 i2)
def dN (p:aE×Int):aA×aA:=(.str p.1,.int p.2)
def DN (kn:List (aE×Int)):List (aA×aA):=kn.map dN
noncomputable def bM (kn:List (aE×Int))(z:aE):Option Int:=(kn.find? λp=>decide (p.1=z)).map (·.2)
theorem tM (kn:List (aE×Int))(z:aE):bY (DN kn) (.inr z)=(bM kn z).map aY:=by
 unfold bY bM DN;induction kn with
 |nil=>rfl
 |cons p r ih=>
  rw[dC,gK,gK];have e:bU (dN p).1=aa (.inr p.1):=rfl;rw[e];by_cases h:p.1=z
  .simp[h,dN]
  .have h':¬ (aa (jE p.1:aI)=aa (jE z)):=λq=>h (by injection q with q;injection q)
   rw[decide_eq_false h',decide_eq_false h];exact ih
theorem XY (kn:List (aE×Int))(i:Int):bY (DN kn) (.inl i)=ab:=by
 unfold bY DN;have:((kn.map dN).find? λkd=>decide (bU kd.1=aa (.inl i)))=ab:=by
  rw[PF];intro kd m;obtain⟨p,_,rfl⟩:=bO.1 m;simp[dN,bU]
 rw[this]
 rfl
theorem IB {kn:List (aE×Int)}{z:aE}(h:bM kn z=ab)(v:Int):putD (DN kn) (.inr z) (.int v)=DN (kn++[(z,v)]):=by
 unfold putD DN;have hn:¬ ((kn.map dN).any λkd=>decide (bU kd.1=aa (.inr z)))=ae:=λq=>by
  obtain⟨kd,m,e⟩:=GB.1 q;obtain⟨p,mp,rfl⟩:=bO.1 m;have e':p.1=z:=by
   have:=of_decide_eq_true e;have:=this;injection this with this;injection this
  unfold bM at h;have h2:=OR.1 h;have:=PF.1 h2 p mp;exact this (decide_eq_true e')
 rw[if_neg hn,gJ]
 rfl
theorem vY {kn:List (aE×Int)}{z:aE}(h:bM kn z=ab)(v:Int)(y:aE):bM (kn++[(z,v)]) y=if y=z then aa v else bM kn y:=by
 unfold bM at *;rw[Je];by_cases e:y=z
 .subst e;rw[if_pos rfl,OR.1 h];simp
 .rw[if_neg e];have e':¬ z=y:=λq=>e q.symm
  cases q:kn.find? λp=>decide (p.1=y) with
  |none=>simp[e']
  |some p=>rfl
def eA (kn:List (aE×Int))(p:aI×Int):Option (List (aE×Int)):=match p.1 with
 |.inl i=>if p.2=i then aa kn else ab
 |.inr z=>match bM kn z with
  |some u=>if p.2=u then aa kn else ab
  |none=>aa (kn++[(z,p.2)])
theorem vZ:∀ {ps:List (aI×Int)} {kn ax:List (aE×Int)},eO eA kn ps=aa ax ->
  (∀ z u,bM kn z=aa u->bM ax z=aa u)/\(∀ p∈ps,(∀ i,p.1=.inl i->p.2=i)/\∀ z,p.1=.inr z->bM ax z=aa p.2)/\(∀ z u,bM ax z=aa u->bM kn z=aa u\/∃ p∈ps,p.1=.inr z)
 |[],kn,ax,h=>by
  cases h;exact⟨λ_ _ e=>e,λ_ m=>by simp at m,λ_ _ e=>.inl e⟩
 |(.inl i,v)::ps,kn,ax,h=>by
  obtain⟨k1,e1,e2⟩:=ak (show((eA kn (.inl i,v)).bind λb'=>eO eA b' ps)=aa ax from h)
  have e1:=e1;obtain⟨hv,rfl⟩:=cM e1;obtain⟨a,b,c⟩:=vZ e2;refine⟨a,λp m=>?_,λz u e=>(c z u e).imp id λ⟨p,m,q⟩=>⟨p,bL _ m,q⟩⟩
  rw[10]
  .exact⟨λi' q=>(by cases q;exact hv),λz q=>(by cases q)⟩
  .exact b p m
 |(.inr z,v)::ps,kn,ax,h=>by
  obtain⟨k1,e1,e2⟩:=ak (show((eA kn (.inr z,v)).bind λb'=>eO eA b' ps)=aa ax from h)
  obtain⟨a,b,c⟩:=vZ e2;cases hl:bM kn z with
  |some u=>
   have e1:(match bM kn z with|some u=>if v=u then aa kn else ab|none=>aa (kn++[(z,v)]))=aa k1:=e1
   rw[hl] at e1;obtain⟨hv,rfl⟩:=cM e1;refine⟨a,λp m=>?_,λz' u' e=>(c z' u' e).imp id λ⟨p,m,q⟩=>⟨p,bL _ m,q⟩⟩
   rw[10]
   .exact⟨λi' q=>(by cases q),λz' q=>(by cases q;rw[a z u hl,hv])⟩
   .exact b p m
  |none=>
   have e1:(match bM kn z with|some u=>if v=u then aa kn else ab|none=>aa (kn++[(z,v)]))=aa k1:=e1
   rw[hl] at e1;cases e1;refine⟨λy u e=>a y u (by rw[vY hl,if_neg λq=>by rw[q,hl] at e;cases e];exact e),λp m=>?_,λy u e=>?_⟩
   .rw[10]
    .exact⟨λi' q=>(by cases q),λz' q=>(by cases q;exact a z v (by rw[vY hl,if_pos rfl]))⟩
    .exact b p m
   .rcases c y u e with q|⟨p,m,q⟩
    .rw[vY hl] at q;by_cases hy:y=z
     .exact .inr ⟨_,bE,by rw[hy]⟩
     .rw[if_neg hy] at q;exact .inl q
    .exact .inr ⟨p,bL _ m,q⟩
theorem yL:∀ {ps:List (aI×Int)} {kn:List (aE×Int)},(∀ p∈ps,∀ i,p.1=.inl i->p.2=i)->(∀ p∈ps,∀ z u,p.1=.inr z->bM kn z=aa u->p.2=u)->(∀ p∈ps,∀ p'∈ps,∀ z,p.1=.inr z->p'.1=.inr z->p.2=p'.2)->∃ ax,eO eA kn ps=aa ax
 |[],kn,_,_,_=>⟨kn,rfl⟩
 |(.inl i,v)::ps,kn,h1,h2,h3=>by
  have hv:=h1 _ bE i rfl;obtain⟨ax,e⟩:=yL (λp m=>h1 p (bL _ m)) (λp m=>h2 p (bL _ m)) (λp m p' m'=>h3 p (bL _ m) p' (bL _ m'))
  refine⟨ax,?_⟩;show((if v=i then aa kn else ab).bind λb'=>eO eA b' ps)=aa ax
  rw[if_pos hv];exact e
 |(.inr z,v)::ps,kn,h1,h2,h3=>by
  cases hl:bM kn z with
  |some u=>
   have hv:=h2 _ bE z u rfl hl;obtain⟨ax,e⟩:=yL (λp m=>h1 p (bL _ m)) (λp m=>h2 p (bL _ m)) (λp m p' m'=>h3 p (bL _ m) p' (bL _ m'))
   refine⟨ax,?_⟩;show((match bM kn z with|some u=>if v=u then aa kn else ab|none=>aa (kn++[(z,v)])).bind λb'=>eO eA b' ps)=aa ax
   rw[hl];show((if v=u then aa kn else ab).bind λb'=>eO eA b' ps)=aa ax
   rw[if_pos hv];exact e
  |none=>
   obtain⟨ax,e⟩:=yL (λp m=>h1 p (bL _ m)) (λp m y u q e=>by
    rw[vY hl] at e;by_cases hy:y=z
    .rw[if_pos hy] at e;cases e;exact h3 p (bL _ m) _ bE z (by rw[q,hy]) rfl
    .rw[if_neg hy] at e;exact h2 p (bL _ m) y u q e) (λp m p' m'=>h3 p (bL _ m) p' (bL _ m'))
   refine⟨ax,?_⟩;show((match bM kn z with|some u=>if v=u then aa kn else ab|none=>aa (kn++[(z,v)])).bind λb'=>eO eA b' ps)=aa ax
   rw[hl];exact e
end L2
namespace Aw
open PySem L2
variable {n i:Nat}{x:Bool}{R:List (List Int)}{f:EF}{Y:List (Option aA)}{F:SF}{T:aA->aR->Option aR}{fa:AF}{t:aE}
abbrev s0 (d:aA):L2.Slot:=aa (0,d)
abbrev lI (ms:List Int):aA:=.list (ms.map aY)
def Bft (n:Nat)(z:aE):Prop:=cR (.str z)=ae/\z.length<=n
theorem Bft.mono {m:Nat}{z:aE}(h:Bft n z)(hm:n<=m):Bft m z:=⟨h.1,dG h.2 hm⟩
theorem vG (a b:Int):du (.int a) (.int b)=aa (.bool (decide (a=b))):=by
 congr 2
theorem SS (p q:aA)(x:Int):ar (.list [p,q]) (.int (x%2))=aa (if x%2=0 then p else q):=by
 have h:=tL x (show(0:Int)<2 by decide)
 rcases(show x%2=0\/x%2=1 by lia) with e|e<;>rw[e]<;>rfl
theorem rK {α:Type}{q:α->aA}{xs:List α}{j:Nat}{x:α}(h:xs[j]?=aa x):ar (.list (xs.map q)) (.int j)=aa (q x):=vO (by rw[eZ,h];rfl)
theorem Fu {α:Type}{R:α->Prop}{xs:List α}{j:Nat}{x:α}(h:∀ y∈xs,R y)(hx:R x):∀ y∈xs.set j x,R y:=λy m=>by
 grind
theorem Su {α:Type}(q:α->aA)(xs:List α)(l u:Option Int):∃ ys,cutD (xs.map q) l u=ys.map q/\ys.length<=xs.length/\(ys≠[]->xs≠[]):=by
 refine⟨(xs.drop (HT.sIx (xs.map q).length 0 l)).take (HT.sIx (xs.map q).length (xs.map q).length u-HT.sIx (xs.map q).length 0 l),?_,?_,?_⟩
 .unfold cutD;rw[<-Iz,<-OZ]
 all_goals grind
abbrev tK (ks:List aI):aA:=.tuple (ks.map kD)
abbrev tI (row:List Int):aA:=.tuple (row.map aY)
def BJ:Option (List (aE×Int))->aA
 |none=>.none
 |some kn=>.dict (DN kn)
def HD (p:aI×Int):aA:=pairD (kD p.1) (.int p.2)
theorem WN (ks:List aI)(row:List Int):AI pairD (ks.map kD) (row.map aY)=(ks.zip row).map HD:=by
 rw[List.zipWith_map,List.zip,List.map_zipWith]
 rfl
theorem xX (k:aI):fC "str" (kD k)=aa (.bool (match k with|.inr _=>ae|.inl _=>af)):=by
 cases k<;>simp[fC,nZ,ug,kD]
theorem ne_int (a b:Int):jh (.int a) (.int b)=aa (.bool (decide (a≠b))):=by
 have:cF (.int a) (.int b)=decide (a=b):=by
  rw[show cF (.int a) (.int b)=(a==b) by simp[cF],nY]
  simp
 simp[jh,dE,noDict,mR,this]
def dJ (ks:List aI)(row:List Int)(kn:List (aE×Int)):Option (List (aE×Int)):=if row.length=ks.length then eO eA kn (ks.zip row) else ab
theorem IS (ds:List aA):cB [.tuple ds]=aa (.int ds.length):=by simp[cB]
theorem Oi {ks:List aI}{row:List Int}{g:EF}(h1:f Y=aa (tI row))(h2:g Y=aa (tK ks)) :
  ah jh (aL cB (aG f aJ)) (aL cB (aG g aJ)) Y=aa (.bool (decide (row.length≠ks.length))):=by
 refine aO (aW (aX h1 rfl) (by rw[IS,cC])) (aW (aX h2 rfl) (by rw[IS,cC])) ?_
 rw[ne_int]
 congr 2
 rw[nY];simp
 lia
theorem dI{b:Bool}(h:f Y=aa (.bool b)):au f Y=aa b:=by
 unfold au;rw[h]
 rfl
theorem A8 (L:L2.Slot)(R K:L2.Slot)(kn:List (aE×Int))(so:kn.length<=1000)(p:aI×Int)(x6:L2.Slot) :
  Goes (aT (uh 6 3 .s (au (ff (fC "str") (aB 4))) .s (aB 4) .s (aB 5) .s (aB 4)) (ck .s (au (ah jh (aB 5) (aB 6))) (cD 1 .s (eC .none)) dS)) [L,R,K,aa (1,.dict (DN kn)),aa (0,kD p.1),aa (0,.int p.2),x6]
   (zQ (λax ρ'=>∃ x4 x5 x6:L2.Slot,ρ'=[L,R,K,aa (1,.dict (DN ax)),x4,x5,x6]) .none (eA kn p)):=by
 have lz:(DN kn).length<sizeLine:=vI (by simp[DN];lia)
 obtain⟨t,v⟩:=p;cases t with
 |inl i=>
  have e1:uh 6 3 .s (au (ff (fC "str") (aB 4))) .s (aB 4) .s (aB 5) .s (aB 4) [L,R,K,aa (1,.dict (DN kn)),aa (0,.int i),aa (0,.int v),x6]=aa (.nx [L,R,K,aa (1,.dict (DN kn)),aa (0,.int i),aa (0,.int v),aa (0,.int i)]):=by
   have b:bV .s (au (ff (fC "str") (aB 4))) [L,R,K,aa (1,.dict (DN kn)),aa (0,.int i),aa (0,.int v),x6]=aa af:=dI (zJ (a:=.int i) rfl (xX (.inl i)));unfold uh;rw[b,bQ,if_neg kB]
   rfl
  refine gF e1 ?_;have e2:bV .s (au (ah jh (aB 5) (aB 6))) [L,R,K,aa (1,.dict (DN kn)),aa (0,.int i),aa (0,.int v),aa (0,.int i)]=aa (decide (v≠i)):=dI (aO (a:=.int v) (b:=.int i) rfl rfl (ne_int v i));by_cases h:v=i
  .refine gD (e2.trans (by simp[h])) (hX ?_)
   show zQ _ _ (if v=i then aa kn else ab) _
   rw[if_pos h];exact⟨_,.inl rfl,_,_,_,rfl⟩
  .refine eU (e2.trans (by simp[h])) (cN (d:=.none) rfl ?_)
   show zQ _ _ (if v=i then aa kn else ab) _
   rw[if_neg h]
   rfl
 |inr z=>
  have b:bV .s (au (ff (fC "str") (aB 4))) [L,R,K,aa (1,.dict (DN kn)),aa (0,.str z),aa (0,.int v),x6]=aa ae:=dI (zJ (a:=.str z) rfl (xX (.inr z)));cases hl:bM kn z with
  |some u=>
   have e1:uh 6 3 .s (au (ff (fC "str") (aB 4))) .s (aB 4) .s (aB 5) .s (aB 4) [L,R,K,aa (1,.dict (DN kn)),aa (0,.str z),aa (0,.int v),x6]=aa (.nx [L,R,K,aa (1,.dict (DN kn)),aa (0,.str z),aa (0,.int v),aa (0,.int u)]):=by
    unfold uh;rw[b,bQ,if_pos rfl];show(if 6<7/\(DN kn).length<sizeLine then aa (Out.nx (match bY (DN kn) (.inr z) with
     |some u=>[L,R,K,aa (1,.dict (DN kn)),aa (0,.str z),aa (0,.int v),aa (0,u)]
     | none=>[L,R,K,aa (1,.dict (putD (DN kn) (.inr z) (.int v))),aa (0,.str z),aa (0,.int v),aa (0,.int v)])) else ab)=_
    rw[if_pos ⟨(),lz⟩,tM,hl]
    rfl
   refine gF e1 ?_;have e2:bV .s (au (ah jh (aB 5) (aB 6))) [L,R,K,aa (1,.dict (DN kn)),aa (0,.str z),aa (0,.int v),aa (0,.int u)]=aa (decide (v≠u)):=dI (aO (a:=.int v) (b:=.int u) rfl rfl (ne_int v u));have ef:eA kn (.inr z,v)=if v=u then aa kn else ab:=by
    show(match bM kn z with|some u=>if v=u then aa kn else ab|none=>aa (kn++[(z,v)]))=_
    rw[hl]
   rw[ef];by_cases h:v=u
   .refine gD (e2.trans (by simp[h])) (hX ?_)
    rw[if_pos h];exact⟨_,.inl rfl,_,_,_,rfl⟩
   .refine eU (e2.trans (by simp[h])) (cN (d:=.none) rfl ?_)
    rw[if_neg h]
    rfl
  |none=>
   have e1:uh 6 3 .s (au (ff (fC "str") (aB 4))) .s (aB 4) .s (aB 5) .s (aB 4) [L,R,K,aa (1,.dict (DN kn)),aa (0,.str z),aa (0,.int v),x6]=aa (.nx [L,R,K,aa (1,.dict (DN (kn++[(z,v)]))),aa (0,.str z),aa (0,.int v),aa (0,.int v)]):=by
    unfold uh;rw[b,bQ,if_pos rfl];show(if 6<7/\(DN kn).length<sizeLine then aa (Out.nx (match bY (DN kn) (.inr z) with
     |some u=>[L,R,K,aa (1,.dict (DN kn)),aa (0,.str z),aa (0,.int v),aa (0,u)]
     | none=>[L,R,K,aa (1,.dict (putD (DN kn) (.inr z) (.int v))),aa (0,.str z),aa (0,.int v),aa (0,.int v)])) else ab)=_
    rw[if_pos ⟨(),lz⟩,tM,hl,IB hl]
    rfl
   refine gF e1 ?_;have e2:bV .s (au (ah jh (aB 5) (aB 6))) [L,R,K,aa (1,.dict (DN (kn++[(z,v)]))),aa (0,.str z),aa (0,.int v),aa (0,.int v)]=aa (decide (v≠v)):=dI (aO (a:=.int v) (b:=.int v) rfl rfl (ne_int v v));have ef:eA kn (.inr z,v)=aa (kn++[(z,v)]):=by
    show(match bM kn z with|some u=>if v=u then aa kn else ab|none=>aa (kn++[(z,v)]))=_
    rw[hl]
   rw[ef];exact gD (e2.trans (by simp)) (hX ⟨_,.inl rfl,_,_,_,rfl⟩)
theorem DL:∀ {ps:List (aI×Int)} {kn ax:List (aE×Int)},eO eA kn ps=aa ax->ax.length<=kn.length+ps.length
 |[],kn,ax,h=>by cases h;simp
 |p::ps,kn,ax,h=>by
  obtain⟨k1,e1,e2⟩:=ak (show((eA kn p).bind λb'=>eO eA b' ps)=aa ax from h)
  have h1:=DL e2;have h2:k1.length<=kn.length+1:=by
   unfold eA at e1
   grind
  rw[fM]
  lia
def isS:aI->Bool
 |.inr _=>ae
 |.inl _=>af
theorem vy (kn:List (aE×Int)):dh (DN kn)=ae:=BW λkd m=>by
 obtain⟨p,_,rfl⟩:=bO.1 m;exact λq=>nomatch q
theorem Ej {c:Prop}[Decidable c]{α:Type}{a:Option α}{b:α}(h:(if c then a else ab)=aa b):c/\a=aa b:=by
 grind
def putN (kn:List (aE×Int))(z:aE)(v:Int):List (aE×Int):=if (bM kn z).isSome=ae then kn.map λp=>if p.1=z then(p.1,v) else p else kn++[(z,v)]
theorem UK (kn:List (aE×Int))(z:aE)(v:Int):putD (DN kn) (.inr z) (.int v)=DN (putN kn z v):=by
 unfold putN;cases h:bM kn z with
 |none=>exact IB h v
 |some u=>
  rw[if_pos (show(aa u).isSome=ae from rfl)]
  unfold putD DN;have hy:((kn.map dN).any λkd=>decide (bU kd.1=aa (.inr z)))=ae:=by
   unfold bM at h;obtain⟨p,e,_⟩:=jF.1 h;refine GB.2 ⟨dN p,bO.2 ⟨p,Iv e,rfl⟩,?_⟩;have:p.1=z:=by simpa using List.find?_some e
   show decide (aa (jE p.1:aI)=aa (jE z))=ae;rw[this];simp
  rw[if_pos hy,dY,dY];refine jG λp _=>?_
  show(if aa (jE p.1:aI)=aa (jE z) then((dN p).1,aY v) else dN p)=dN (if p.1=z then(p.1,v) else p)
  by_cases e:p.1=z
  .rw[if_pos (by rw[e]),if_pos e];rfl
  all_goals grind
theorem Vu (kn:List (aE×Int))(z:aE)(v:Int):(putN kn z v).length<=kn.length+1:=by
 unfold putN;split<;>simp
theorem Wj (kn:List (aE×Int))(z y:aE)(v:Int):bM (putN kn z v) y=if y=z then aa v else bM kn y:=by
 unfold putN;cases h:bM kn z with
 |none=>rw[if_neg (by simp)];exact vY h v y
 |some u=>
  rw[if_pos (show(aa u).isSome=ae from rfl)]
  induction kn with
  |nil=>cases h
  |cons p r ih=>
   unfold bM at h ⊢;rw[dC,gK,gK];rw[gK] at h;have key:((if p.1=z then(p.1,v) else p).1:aE)=p.1:=by split<;>rfl
   by_cases hp:p.1=z
   .rw[if_pos hp];by_cases hy:y=z
    .grind
    .have n1:¬ p.1=y:=λq=>hy (by rw[<-q,hp])
     rw[decide_eq_false n1,if_neg hy];have gen:∀ r:List (aE×Int),(((r.map λp=>if p.1=z then(p.1,v) else p).find? λp=>decide (p.1=y)).map (·.2))=(r.find? λp=>decide (p.1=y)).map (·.2):=λr=>by
      induction r with
      |nil=>rfl
      |cons q t ih=>
       grind
     exact gen r
   .rw[if_neg hp];rw[decide_eq_false hp] at h;by_cases hy:p.1=y
    .grind
    .rw[decide_eq_false hy];exact ih h
def GQ (I:aR->Prop)(t:Option aA)(o:Out):Prop:=match t with
 |some r=>o=.rt r
 |none=>∃ ρ2,o=.nx ρ2/\I ρ2
def RN (I:aR->Prop)(t:Option aA)(o:Out):Prop:=match t with
 |some r=>o=.rt r
 |none=>∃ ρ2,(o=.nx ρ2\/o=.ct ρ2)/\I ρ2
theorem TJ{α:Type}{q:α->aA}(I:aR->Prop)(g:α->Option aA):∀ {xs:List α} {Y:aR},I Y ->
  (∀ x∈xs,∀ Y,I Y->∃ ρ1,T (q x) Y=aa ρ1/\Goes F ρ1 (RN I (g x)))->∃ o,iC F T (xs.map q) Y=aa o/\GQ I (xs.findSome? g) o
 |[],Y,h0,_=>⟨_,rfl,Y,rfl,h0⟩
 |x::xs,Y,h0,step=>by
  obtain⟨ρ1,e1,o,e2,h⟩:=step x bE Y h0;have e:iC F T ((x::xs).map q) Y=V7 F T (xs.map q) o:=by
   show((T (q x) Y).bind λρ1=>(F ρ1).bind λo=>_)=_
   rw[e1,bQ,e2,bQ];cases o<;>rfl
  rw[e,FY];cases hg:g x with
  |some r=>
   rw[hg] at h;have h:=h;subst h;exact⟨_,rfl,rfl⟩
  |none=>
   rw[hg] at h;obtain⟨ρ2,ho,i2⟩:=h;obtain⟨o',e',h'⟩:=TJ I g i2 λy m=>step y (bL _ m)
   rcases ho with rfl|rfl
   .exact⟨o',e',h'⟩
   .exact⟨o',e',h'⟩
theorem Gn {m:Md}{Y:aR}{α:Type}{fi:AF}{xs:List α}{q:α->aA}(I:aR->Prop)(g:α->Option aA)(h:aV m fi Y=aa (xs.map q))(h0:I Y)
  (step:∀ x∈xs,∀ Y,I Y->∃ ρ1,T (q x) Y=aa ρ1/\Goes F ρ1 (RN I (g x))):Goes (cP m fi T F) Y (GQ I (xs.findSome? g)):=by
 obtain⟨o,e,h'⟩:=TJ I g h0 step;exact⟨o,CP h e,h'⟩
theorem VD {G:SF}{Y:aR}{P:Out->Prop}(I:aR->Prop)(t:Option aA)(h:Goes F Y (GQ I t))(k1:∀ r,t=aa r->P (.rt r))(k2:t=ab->∀ ρ',I ρ'->Goes G ρ' P):Goes (aT F G) Y P:=by
 obtain⟨o,e,h⟩:=h;cases t with
 |some r=>
  have h:=h;subst h;exact CO e (k1 r rfl)
 |none=>
  obtain⟨ρ2,rfl,i2⟩:=h;exact gF e (k2 rfl ρ2 i2)
theorem Ea {α β:Type}{f g:α->Option β}:∀ {xs:List α},(∀ x∈xs,f x=g x)->xs.findSome? f=xs.findSome? g
 |[],_=>rfl
 |x::xs,h=>by
  rw[FY,FY,h x bE,Ea λy m=>h y (bL _ m)]
theorem Bb {α:Type}(q:α->aA)(d0:α)(xs:List α):(xs.map q).mapIdx qU=(cG xs.length).map λk=>qU k (q (xs.getD k d0)):=by
 apply FZ
 .simp
 .intro i h1 h2;have hi:i<xs.length:=by simpa using h1
  simp[hi]
theorem Tw {α:Type}(q:α->aA)(d0:α){xs:List α}(h:f Y=aa (.tuple (xs.map q))):xf (aG f aJ) Y=aa ((cG xs.length).map λk=>qU k (q (xs.getD k d0))):=by
 unfold xf;rw[aX h rfl,<-Bb]
 rfl
theorem p0 {α:Type}(q:α->aA)(d0:α){xs:List α}(h:f Y=aa (.list (xs.map q))):xf (aG f aJ) Y=aa ((cG xs.length).map λk=>qU k (q (xs.getD k d0))):=by
 unfold xf;rw[aX h rfl,<-Bb]
 rfl
theorem getD_some {α:Type}{xs:List α}(d0:α)(h:i<xs.length):xs[i]?=aa (xs.getD i d0):=by
 rw[gX,fN h]
 rfl
theorem getD_mem {α:Type}{xs:List α}(d0:α)(h:i<xs.length):xs.getD i d0∈xs:=eM (getD_some d0 h)
theorem UX {a b:EF}{y:Bool}(h:a Y=aa (.bool x))(h2:x=ae->b Y=aa (.bool y)):sG a b Y=aa (.bool (x&&y)):=by
 unfold sG;cases x with
 |true=>rw[h,bQ,show rj (.bool ae)=aa ae from rfl,bQ,if_pos rfl,h2 rfl];rfl
 |false=>rw[h,bQ,show rj (.bool af)=aa af from rfl,bQ,if_neg (by simp)];rfl
theorem pR{ds:List aA}(h:fa Y=aa ds)(hl:ds.length<=1000:=by simp):fU fa Y=aa (.tuple ds):=by
 unfold fU;rw[h,bQ,if_pos (nH ())]
theorem xP{ds:List aA}(h:fa Y=aa ds)(hl:ds.length<=1000:=by simp):dM fa Y=aa (.list ds):=by
 unfold dM;rw[h,bQ,if_pos (nH ())]
abbrev Ln:=aE×List aI
def bJ (l:Ln):aA:=.tuple [.str l.1,.tuple (l.2.map kD)]
abbrev bw:Ln:=("",[])
theorem Yt (xs:List aI):noDicts (xs.map kD)=ae:=yR λt m=>by
 obtain⟨x,_,rfl⟩:=bO.1 m;cases x<;>rfl
def sr:aA->Int
 |.int i=>i
 |_=>0
theorem tP (r:List Int):(r.map aY).map sr=r:=by
 rw[dY];have:(sr∘aY)=id:=rfl;rw[this,List.map_id]
theorem yJ (r:List Int):bR (r.map aY)=ae:=DJ λt m=>by
 obtain⟨i,_,rfl⟩:=bO.1 m
 rfl
theorem DP (r:List Int):cT (r.map aY)<=1:=yM λt m=>by
 obtain⟨i,_,rfl⟩:=bO.1 m;simp[mR]
theorem yF (r:List Int):dE (aZ r)=ae:=by
 have h1:noDicts (r.map aY)=ae:=yR λt m=>by
  obtain⟨i,_,rfl⟩:=bO.1 m
  rfl
 have h2:cT (r.map aY)<=1:=yM λt m=>by
  obtain⟨i,_,rfl⟩:=bO.1 m;simp[mR]
 simp[dE,aZ,noDict,h1,mR]
 lia
theorem Ts {a b:List Int}(h:aZ a=aZ b):a=b:=by
 have h:=Ik h;exact(tP a).symm.trans ((congrArg (List.map sr) h).trans (tP b))
theorem CF (a b:List Int):cF (aZ a) (aZ b)=decide (a=b):=by
 rw[JY _ _ (JW a) (JW b),decide_eq_decide];exact⟨Ts,λe=>by rw[e]⟩
theorem Uc (a b:List Int):du (aZ a) (aZ b)=aa (.bool (decide (a=b))):=by
 unfold du;rw[yF,yF,CF]
 rfl
def pq (R:List (List Int)):List (List Int):=(gZ (R.map λr=>r.map aY)).map λk=>k.map sr
theorem JT (R:List (List Int)):(pq R).Perm R:=by
 have h:=(tW (R.map λr=>r.map aY)).map λk=>k.map sr
 rw[dY] at h;have e:(R.map ((λk=>k.map sr)∘λr=>r.map aY))=R:=by
  have:((λk=>k.map sr)∘λr=>r.map aY)=(id:List Int->List Int):=by funext r;exact tP r
  rw[this,List.map_id]
 rw[e] at h;exact h
theorem Gj{r:List Int}:r∈pq R↔r∈R:=(JT R).mem_iff
theorem Ec (R:List (List Int)):(pq R).length=R.length:=(JT R).length_eq
theorem LB (R:List (List Int)):iA (R.map aZ)=aa (R.map λr=>r.map aY):=by
 have:=Ff (kss:=R.map λr=>r.map aY) λk m=>by
  obtain⟨r,_,rfl⟩:=bO.1 m;have:=DP r;exact⟨yJ r,()⟩
 rw[dY] at this;exact this
theorem KW:∀ (a b:List Int),a.length=b.length->eG (a.map aY) (b.map aY)=ae
 |[],[],_=>rfl
 |x::a,y::b,h=>KW a b (by simpa using h)
 |[],_::_,h=>by simp at h
 |_::_,[],h=>by simp at h
theorem En(hn:1<=n)(hw:∀ r∈R,r.length=n)(hl:R.length<64):xS [bD R]=aa (bD (pq R)):=by
 show((iA (R.map aZ)).bind λkss=>if ib kss=ae/\kss.length<64 then aa (AC ((gZ kss).map cW)) else ab)=_
 rw[LB,bQ];have ok:ib (R.map λr=>r.map aY)=ae:=by
  unfold ib;rw[Jz];refine .inr (iK.2 ⟨dQ.2 λk mk=>dQ.2 λk' mk'=>?_,dQ.2 λk mk=>?_⟩)
  .obtain⟨a,ma,rfl⟩:=bO.1 mk;obtain⟨b,mb,rfl⟩:=bO.1 mk';exact KW a b ((hw a ma).trans (hw b mb).symm)
  .obtain⟨a,ma,rfl⟩:=bO.1 mk;have:=hw a ma;cases a with
   |nil=>simp at this;lia
   |cons x r=>rfl
 rw[if_pos ⟨ok,by rw[cC];exact hl⟩]
 unfold bD pq;rw[dY]
 congr 2
 refine jG λk mk=>?_
 obtain⟨a,_,rfl⟩:=bO.1 ((tW _).mem_iff.1 mk);show _=cW (((a.map aY).map sr).map aY);rw[tP]
structure Bk (kds:List (aA×aA))(B:aE->List (List Int))(wd:aE->Nat):Prop where
 pl:dh kds=ae
 at_:∀ t,(bY kds (.inr t)).getD (.list [])=bD (B t)
 few:∀ t,(B t).length<64
 pos:∀ t,1<=wd t
 wid:∀ t,∀ r∈B t,r.length=wd t
theorem Bk.get {kds:List (aA×aA)}{B:aE->List (List Int)}{wd:aE->Nat}(b:Bk kds B wd){fd fk:EF}(h1:fd Y=aa (.dict kds))(h2:fk Y=aa (.str t)):jA fd fk (dM aJ) Y=aa (bD (B t)):=by
 rw[vN h1 h2 rfl rfl b.pl,b.at_]
theorem pO (c:Int)(n:Nat)(h:0<n):cO (.int c) (.int n)=aa (.int (c%n)):=by
 show(if 0<(n:Int) then aa (aY (c%(n:Int))) else ab)=_
 rw[if_pos ()]
theorem qX (c:Int)(n:Nat)(h:0<n)(h2:n<1000:=by lia):eD (.int c) (.int n)=aa (.int (c/n)):=by
 show(if 0<(n:Int)/\(n:Int)<1073741824 then aa (aY (c/(n:Int))) else ab)=_
 rw[if_pos ()]
theorem pH {a b:Int}(h:a.natAbs<2^64):gQ (.int a) (.int b)=aa (.int (a*b)):=by
 show(if (a.natAbs<2^64\/b.natAbs<2^64)\/(a.natAbs<2^1000/\b.natAbs<2^1000) then aa (aY (a*b)) else ab)=_
 rw[if_pos (.inl (.inl h))]
theorem mul_r {a b:Int}(h:b.natAbs<2^64):gQ (.int a) (.int b)=aa (.int (a*b)):=by
 show(if (a.natAbs<2^64\/b.natAbs<2^64)\/(a.natAbs<2^1000/\b.natAbs<2^1000) then aa (aY (a*b)) else ab)=_
 rw[if_pos (.inl (.inr h))]
theorem VG {k:Nat}(h:k<=100):BI (.int 10) (.int k)=aa (.int (10^k)):=by
 show(if 0<=(k:Int)/\(k:Int)<=1000000/\(10:Int).natAbs<2^64 then aa (aY (10^(k:Int).toNat)) else ab)=_
 grind
theorem Eh {a b:BF}{y:Bool}(h:a Y=aa x)(h2:x=ae->b Y=aa y):mX a b Y=aa (x&&y):=by
 unfold mX
 grind
theorem Ut(h:f Y=aa (.bool x)):qT (au f) Y=aa (!x):=by
 unfold qT;rw[dI h]
 rfl
theorem JR (r:List Int):fD (aZ r)=ae:=by
 show lL (r.map aY)=ae;rw[Aj,dQ];intro d m;obtain⟨i,_,rfl⟩:=bO.1 m
 rfl
theorem Bq (R:List (List Int)):noDicts (R.map aZ)=ae:=yR λt m=>by
 obtain⟨r,_,rfl⟩:=bO.1 m;have:=yF r;unfold dE at this
 grind
theorem RT{x y:aA}{xs ys:List aA}(h:fa Y=aa [x,y])(hx:nC x=aa xs)(hy:nC y=aa ys):iZ fa Y=aa (AI pairD xs ys):=by
 unfold iZ
 grind
abbrev Tb:=aE×List (List Int)
def az (L:List Tb):List (aA×aA):=L.map λp=>(bZ p.1,bD p.2)
theorem tO {Y:aR}{P:Out->Prop}{d:aA}(h:Y[i]?=aa (aa (n,d)))(k:P (.rt d)):Goes (jJ i n) Y P:=⟨_,by
 unfold jJ;rw[h];show(if n=n then aa (Out.rt d) else ab)=_
 rw[if_pos rfl],k⟩
theorem VU (a:List Int):(aZ a).depth<=2:=by
 have:=DP a;show cT (a.map aY)+1<=2
 lia
theorem Tz (R:List (List Int)):dE (bD R)=ae:=by
 have h2:cT (R.map aZ)<=2:=yM λt m=>by
  obtain⟨r,_,rfl⟩:=bO.1 m;exact VU r
 unfold dE;show(noDicts (R.map aZ)&&decide (cT (R.map aZ)+1<=60))=ae;rw[Bq,decide_eq_true ()]
 rfl
def bo (L:List Tb)(t:aE):List (List Int):=((L.find? λp=>decide (p.1=t)).map (·.2)).getD []
theorem CV (t:aE):∀ L:List Tb,bY (az L) (.inr t)=(L.find? λp=>decide (p.1=t)).map λp=>bD p.2
 |[]=>rfl
 |p::L=>by
  show bY ((.str p.1,bD p.2)::az L) (.inr t)=_;rw[LU,gK];by_cases h:p.1=t
  .rw[if_pos (by rw[h];rfl),decide_eq_true h];rfl
  .rw[if_neg (λe=>h (by injection e with e;injection e)),decide_eq_false h,CV t L]
theorem Nv (L:List Tb)(t:aE):(bY (az L) (.inr t)).getD (.list [])=bD (bo L t):=by
 rw[CV];unfold bo;cases L.find? λp=>decide (p.1=t)<;>rfl
theorem SH (L:List Tb):dh (az L)=ae:=BW λkd m=>by
 obtain⟨p,_,rfl⟩:=bO.1 m;exact λq=>nomatch q
theorem IU {L:List Tb}{r:List Int}(h:r∈bo L t):∃ p∈L,p.1=t/\p.2=bo L t:=by
 unfold bo at h ⊢;cases e:L.find? λp=>decide (p.1=t) with
 |none=>rw[e] at h;simp at h
 |some p=>
  grind
theorem Pp {L:List Tb}(h:t∉L.map (·.1)):bo L t=[]:=by
 unfold bo;rw[PF.2 λp m=>by
  simp only[decide_eq_true_eq];exact λe=>h (bO.2 ⟨p,m,e⟩)]
 rfl
theorem bkL {L:List Tb}{wd:aE->Nat}(h1:∀ t,1<=wd t)(hL:∀ p∈L,p.2.length<64/\∀ r∈p.2,r.length=wd p.1):Bk (az L) (bo L) wd:=by
 refine⟨SH L,Nv L,λt=>?_,h1,λt r m=>?_⟩
 .by_cases h:∃ r,r∈bo L t
  .obtain⟨r,m⟩:=h;obtain⟨p,mp,_,e⟩:=IU m;rw[<-e];exact(hL p mp).1
  .have:=List.eq_nil_iff_forall_not_mem.2 λr m=>h ⟨r,m⟩
   rw[this];simp
 .obtain⟨p,mp,e1,e2⟩:=IU m
  grind
theorem Mu {L:List Tb}(nd:(L.map (·.1)).Nodup):KnR (λd=>∃ T:List (List Int),d=bD T) (az L):=by
 refine⟨λkd m=>?_,?_⟩
 .obtain⟨p,_,rfl⟩:=bO.1 m
  grind
 .unfold az
  grind
theorem Nq {L:List Tb}(nd:(L.map (·.1)).Nodup):uP ae (.dict (az L)) (.dict (az L))=aa (.bool af):=
 (Mu nd).eqK (λd ⟨T,e⟩=>by rw[e];exact D4 T) (λd ⟨T,e⟩=>by rw[e];exact Tz T) ae
def jI:List Tb->aE->List (List Int)->List Tb
 |[],_,_=>[]
 |p::L,t,R=>if p.1=t then(p.1,R)::L else p::jI L t R
theorem IH (t:aE)(R:List (List Int)):∀ L:List Tb,kC (az L) (.inr t) (bD R)=az (jI L t R)
 |[]=>rfl
 |p::L=>by
  show(if bU (.str p.1)=aa (.inr t) then(bZ p.1,bD R)::az L else(bZ p.1,bD p.2)::kC (az L) (.inr t) (bD R))=az (if p.1=t then(p.1,R)::L else p::jI L t R)
  by_cases h:p.1=t
  .rw[if_pos (by rw[h];rfl),if_pos h];rfl
  .rw[if_neg (λe=>h (by injection e with e;injection e)),if_neg h,IH t R L];rfl
theorem JM (t:aE)(R:List (List Int)):∀ L:List Tb,(jI L t R).map (·.1)=L.map (·.1)
 |[]=>rfl
 |p::L=>by
  show(if p.1=t then(p.1,R)::L else p::jI L t R).map (·.1)=_
  by_cases h:p.1=t
  .rw[if_pos h];rfl
  .rw[if_neg h,dC,JM t R L];rfl
theorem CS:∀ {L:List Tb} {p:Tb},p∈jI L t R->p∈L\/(p.1=t/\p.2=R)
 |[],p,m=>by simp[jI] at m
 |q::L,p,m=>by
  have m:p∈(if q.1=t then(q.1,R)::L else q::jI L t R):=m
  by_cases h:q.1=t
  .grind
  .rw[if_neg h] at m;rw[10]
   .exact .inl bE
   .exact(CS m).imp (bL _) id
theorem Gh {Y ρ':aR}{P:Out->Prop}{G:SF}{d:aA}(h:f (vS Y)=aa d)(hT:T d Y=aa ρ')(k:Goes G ρ' P):Goes (aT (zP .s f T) G) Y P:=gF (by
 have e:eV 0 .s f Y=aa d:=h;unfold zP;rw[e,bQ,hT]
 rfl) k
theorem find_key {L:List Tb}(h:t∈L.map (·.1)):∃ p,(L.find? λp=>decide (p.1=t))=aa p:=by
 cases e:L.find? λp=>decide (p.1=t) with
 |some p=>exact⟨p,rfl⟩
 |none=>
  grind
theorem Xs {L:List Tb}(h:t∉L.map (·.1)):(L.find? λp=>decide (p.1=t))=ab:=PF.2 λp m=>by
 grind
theorem vU {L:List Tb}(h:t∈L.map (·.1)):bY (az L) (.inr t)=aa (bD (bo L t)):=by
 obtain⟨p,e⟩:=find_key h;rw[CV];unfold bo;rw[e]
 rfl
end Aw
namespace L2
open PySem PySem.Spec PyProof.Rows
variable {k j e p:Nat}{l:List aI}{v u:aE->Int}{S R:Nat->Prop}{r:List Int}{zs:List aE}
def tv (v:aE->Int):aI->Int
 |.inl i=>i
 |.inr z=>v z
section
variable {ls:Nat->List aI}
abbrev fH:=Nat->List Int->Prop
def xB (ls:Nat->List aI)(S:Nat->Prop)(T:fH)(v:aE->Int):Prop:=∀ k,S k->T k ((ls k).map (tv v))
def Gd (ls:Nat->List aI)(S:Nat->Prop)(T:fH)(k:Nat)(r:List Int):Prop:=∃ v,xB ls S T v/\r=(ls k).map (tv v)
def BB (a b:List aI)(U:List Int->Prop)(r:List Int):Prop:=∃ u u',r=a.map (tv u)/\U (b.map (tv u'))/\∀ z,(.inr z:aI)∈a->(.inr z:aI)∈b->u z=u' z
def uV (T:fH)(k:Nat)(U:List Int->Prop):fH:=λj=>if j=k then U else T j
theorem BN (T:fH)(k:Nat)(U:List Int->Prop):uV T k U k=U:=if_pos rfl
theorem vH {T:fH}{U:List Int->Prop}(h:j≠k):uV T k U j=T j:=if_neg h
def xG (ls:Nat->List aI)(S:Nat->Prop)(e p:Nat):Prop:=S e/\S p/\e≠p/\∀ z,(.inr z:aI)∈ls e->∀ k,S k->k≠e->(.inr z:aI)∈ls k->(.inr z:aI)∈ls p
def less (S:Nat->Prop)(e:Nat):Nat->Prop:=λk=>S k/\k≠e
def oh (ls:Nat->List aI)(T:fH)(e p:Nat):fH:=uV T p λr=>T p r/\BB (ls p) (ls e) (T e) r
def L3 (ls:Nat->List aI)(T:fH)(e p:Nat):fH:=uV T e λr=>T e r/\BB (ls e) (ls p) (T p) r
theorem JZ(h:l.map (tv v)=l.map (tv u)){z:aE}(m:(.inr z:aI)∈l):v z=u z:=List.map_inj_left.1 h _ m
theorem vF(h:∀ z,(.inr z:aI)∈l->v z=u z):l.map (tv v)=l.map (tv u):=jG λk m=>by
 cases k with
 |inl i=>rfl
 |inr z=>exact h z m
open Classical in
theorem glue(E:xG ls S e p)(hp:∀ z,(.inr z:aI)∈ls e->(.inr z:aI)∈ls p->v z=u z):∃ v2:aE->Int,(∀ k,less S e k->(ls k).map (tv v2)=(ls k).map (tv v))/\(ls e).map (tv v2)=(ls e).map (tv u):=by
 refine⟨λz=>if (.inr z:aI)∈ls e then u z else v z,λk hk=>vF λz mz=>?_,vF λz mz=>if_pos mz⟩
 by_cases m:(.inr z:aI)∈ls e
 .rw[if_pos m];exact(hp z m (E.2.2.2 z m k hk.1 hk.2 mz)).symm
 .rw[if_neg m]
theorem UA{T:fH}(E:xG ls S e p)(h:xB ls S T v):xB ls (less S e) (oh ls T e p) v:=λk hk=>by
 by_cases q:k=p
 .subst q;unfold oh;rw[BN];exact⟨h k E.2.1,v,v,rfl,h e E.1,λ_ _ _=>rfl⟩
 .unfold oh;rw[vH q];exact h k hk.1
theorem UF {T:fH}(h:oh ls T e p k r):T k r:=by
 unfold oh at h;by_cases q:k=p
 .subst q;rw[BN] at h;exact h.1
 .rwa [vH q] at h
theorem Oy{T:fH}(E:xG ls S e p)(h:xB ls (less S e) (oh ls T e p) v):∃ v2,xB ls S T v2/\∀ k,less S e k->(ls k).map (tv v2)=(ls k).map (tv v):=by
 have hp:=h p ⟨E.2.1,fL E.2.2.1⟩;unfold oh at hp;rw[BN] at hp;obtain⟨_,u,u',h1,h2,h3⟩:=hp;obtain⟨v2,a,b⟩:=glue E λz m1 m2=>(JZ h1 m2).trans (h3 z m2 m1)
 refine⟨v2,λk hk=>?_,a⟩
 by_cases q:k=e
 .rw[q,b];exact h2
 .rw[a k ⟨hk,q⟩];exact UF (h k ⟨hk,q⟩)
theorem m5{T Tn:fH}(E:xG ls S e p)(hn:∀ k,less S e k->∀ r,Tn k r↔Gd ls (less S e) (oh ls T e p) k r)(he:∀ r,Tn e r↔T e r):∀ k,S k->∀ r,L3 ls Tn e p k r↔Gd ls S T k r:=λk hk r=>by
 have lp:less S e p:=⟨E.2.1,fL E.2.2.1⟩;by_cases q:k=e
 .subst q;unfold L3;rw[BN];constructor
  .rintro⟨h0,u,u',rfl,h2,h3⟩;obtain⟨v,hv,h4⟩:=(hn p lp _).1 h2;obtain⟨v2,a,b⟩:=glue E λz m1 m2=>(JZ h4 m2).symm.trans (h3 z m1 m2).symm
   refine⟨v2,λj hj=>?_,b.symm⟩
   by_cases q:j=k
   .rw[q,b];exact(he _).1 h0
   .rw[a j ⟨hj,q⟩];exact UF (hv j ⟨hj,q⟩)
  .rintro⟨v,hv,rfl⟩;exact⟨(he _).2 (hv k hk),v,v,rfl,(hn p lp _).2 ⟨v,UA E hv,rfl⟩,λ_ _ _=>rfl⟩
 .unfold L3;rw[vH q,hn k ⟨hk,q⟩];constructor
  .rintro⟨v,hv,rfl⟩;obtain⟨v2,h2,a⟩:=Oy E hv;exact⟨v2,h2,(a k ⟨hk,q⟩).symm⟩
  .rintro⟨v,hv,rfl⟩;exact⟨v,UA E hv,rfl⟩
def uY (ls:Nat->List aI):(Nat->Prop)->List (Nat×Nat)->(Nat->Prop)->Prop
 |S,[],R=>∀ k,S k↔R k
 |S,q::es,R=>xG ls S q.1 q.2/\uY ls (less S q.1) es R
def xc (ls:Nat->List aI)(T:fH)(es:List (Nat×Nat)):fH:=es.foldl (λT q=>oh ls T q.1 q.2) T
def xv (ls:Nat->List aI)(T:fH)(es:List (Nat×Nat)):fH:=es.reverse.foldl (λT q=>L3 ls T q.1 q.2) T
theorem tT:∀ {es:List (Nat×Nat)} {S:Nat->Prop},uY ls S es R->(∀ k,R k->S k)/\∀ q∈es,S q.1/\S q.2
 |[],S,h=>⟨λk r=>(h k).2 r,λq m=>by simp at m⟩
 |q::es,S,h=>by
  obtain⟨a,b⟩:=tT h.2;refine⟨λk r=>(a k r).1,λx m=>?_⟩
  rw[10]
  .exact⟨h.1.1,h.1.2.1⟩
  .exact⟨(b x m).1.1,(b x m).2.1⟩
theorem Gy:∀ {es:List (Nat×Nat)} {T:fH},(∀ q∈es,k≠q.2)->xc ls T es k=T k
 |[],T,_=>rfl
 |q::es,T,h=>by
  show xc ls (oh ls T q.1 q.2) es k=T k;rw[Gy λx m=>h x (bL _ m)]
  exact vH (h q bE)
theorem KL (T:fH)(q:Nat×Nat)(es:List (Nat×Nat)):xv ls T (q::es)=L3 ls (xv ls T es) q.1 q.2:=by
 unfold xv;rw[List.reverse_cons,rY]
 rfl
theorem Hb:∀ {es:List (Nat×Nat)} {T:fH},(∀ q∈es,k≠q.1)->xv ls T es k=T k
 |[],T,_=>rfl
 |q::es,T,h=>by
  rw[KL];exact(vH (h q bE)).trans (Hb λx m=>h x (bL _ m))
theorem As{Tn:fH}:∀ {es:List (Nat×Nat)} {S:Nat->Prop} {T:fH},uY ls S es R->(∀ k,R k->∀ r,Tn k r↔Gd ls R (xc ls T es) k r)->(∀ k,¬ R k->Tn k=xc ls T es k)->∀ k,S k->∀ r,xv ls Tn es k r↔Gd ls S T k r
 |[],S,T,h,h1,h2,k,hk,r=>by
  have e:S=R:=funext λk=>propext (h k)
  subst e;exact h1 k hk r
 |q::es,S,T,h,h1,h2,k,hk,r=>by
  obtain⟨E,h⟩:=h;obtain⟨s1,s2⟩:=tT h;have ih:=As h h1 h2;rw[KL];have nR:¬ R q.1:=λz=>(s1 _ z).2 rfl
  refine m5 E ih (λr=>?_) k hk r
  rw[Hb λx m z=>(s2 x m).1.2 z.symm,h2 _ nR]
  show xc ls (oh ls T q.1 q.2) es q.1 r↔_;rw[Gy λx m z=>(s2 x m).2.2 z.symm]
  unfold oh;rw[vH E.2.2.1]
end
open PySem PySem.Spec PyProof.Rows Aw
theorem rQ{p:aI×Int}(m:p∈l.zip (l.map (tv v))):p.1∈l/\p.2=tv v p.1:=by
 obtain⟨j,hj,rfl⟩:=uI m
 grind
theorem Yd{k:aI}(m:k∈l):(k,tv v k)∈l.zip (l.map (tv v)):=by
 obtain⟨j,hj,rfl⟩:=uI m;have h:j<(l.zip (l.map (tv v))).length:=by rw[AN,cC,Nat.min_self];exact hj
 have:=oZ h
 grind
theorem NQ (l:List aI)(v:aE->Int):∃ kn,dJ l (l.map (tv v)) []=aa kn/\∀ z,(.inr z:aI)∈l->bM kn z=aa (v z):=by
 obtain⟨kn,e⟩:=yL (ps:=l.zip (l.map (tv v))) (kn:=[]) (λp m i q=>by rw[(rQ m).2,q];rfl) (λp _ z u _ e=>by cases e) (λp m p' m' z q q'=>by rw[(rQ m).2,(rQ m').2,q,q'])
 refine⟨kn,?_,λz m=>?_⟩
 .unfold dJ
  grind
 .exact((vZ e).2.1 _ (Yd m)).2 z rfl
theorem Sa:(∃ kn,dJ l r []=aa kn) ↔ ∃ v,r=l.map (tv v):=by
 constructor
 .rintro⟨kn,h⟩;unfold dJ at h;by_cases hl:r.length=l.length
  .rw[if_pos hl] at h;obtain⟨_,b,_⟩:=vZ h;refine⟨λz=>(bM kn z).getD 0,FZ (by rw[cC];exact hl) λj h1 h2=>?_⟩
   rw[List.getElem_map];have hj:j<l.length:=()
   have hz:j<(l.zip r).length:=by rw[AN];lia
   have:=b (l.zip r)[j] (oZ hz);rw[List.getElem_zip] at this;cases hk:l[j] with
   |inl i=>exact this.1 i hk
   |inr z=>
    have e:=this.2 z hk;show r[j]=(bM kn z).getD 0;rw[e]
    rfl
  all_goals grind
 .rintro⟨v,rfl⟩;obtain⟨kn,e,_⟩:=NQ l v;exact⟨kn,e⟩
def iV (l:List aI)(zs:List aE)(r:List Int):List Int:=zs.map λz=>((dJ l r []).bind λkn=>bM kn z).getD 0
theorem CI(h:∀ z∈zs,(.inr z:aI)∈l)(v:aE->Int):iV l zs (l.map (tv v))=zs.map v:=jG λz m=>by
 obtain⟨kn,e,hl⟩:=NQ l v
 grind
def uR (a b:List aI)(zs:List aE)(R U:List (List Int)):List (List Int):=R.filter λr=>(U.map (iV b zs)).contains (iV a zs r)
theorem E2 {a b:List aI}{R U:List (List Int)}(hz:∀ z,z∈zs↔(.inr z:aI)∈a/\(.inr z:aI)∈b)(hR:∀ r∈R,∃ v,r=a.map (tv v))(hU:∀ r∈U,∃ v,r=b.map (tv v)) :
  r∈uR a b zs R U↔r∈R/\BB a b (· ∈ U) r:=by
 unfold uR;rw[kA];refine and_congr_right λmr=>?_
 obtain⟨v,rfl⟩:=hR r mr;rw[List.contains_iff_mem,CI λz m=>((hz z).1 m).1]
 constructor
 .intro m;obtain⟨r',m',e⟩:=bO.1 m;obtain⟨v',rfl⟩:=hU r' m';rw[CI λz m=>((hz z).1 m).2] at e
  exact⟨v,v',rfl,m',λz m1 m2=>(List.map_inj_left.1 e z ((hz z).2 ⟨m1,m2⟩)).symm⟩
 .rintro⟨u,u',e,m',h⟩;refine bO.2 ⟨_,m',?_⟩;rw[CI λz m=>((hz z).1 m).2]
  refine jG λz m=>?_
  obtain⟨m1,m2⟩:=(hz z).1 m;rw[<-h z m1 m2];exact(JZ e m1).symm
theorem Arm {a b:List aI}{R U:List (List Int)}:(uR a b zs R U).Sublist R:=PH
abbrev dH:=List (List (List Int))
def tb (t:dH):fH:=λk r=>r∈t.getD k []
def iW (ls:Nat->List aI)(t:dH):Prop:=∀ k r,r∈t.getD k []->∃ v,r=(ls k).map (tv v)
theorem CZ {t:dH}(hp:p<t.length)(R:List (List Int))(j:Nat):(t.set p R).getD j []=if j=p then R else t.getD j []:=by
 grind
section
variable {ls:Nat->List aI}{cm:Nat->Nat->List aE}
def Cm (ls:Nat->List aI)(cm:Nat->Nat->List aE):Prop:=∀ a b z,z∈cm a b↔(.inr z:aI)∈ls a/\(.inr z:aI)∈ls b
def kj (ls:Nat->List aI)(cm:Nat->Nat->List aE)(t:dH)(k j:Nat):dH:=t.set k (uR (ls k) (ls j) (cm k j) (t.getD k []) (t.getD j []))
theorem vK (t:dH)(k j:Nat):(kj ls cm t k j).length=t.length:=uH
theorem UD (hc:Cm ls cm){t:dH}(hf:iW ls t)(hk:k<t.length):tb (kj ls cm t k j)=uV (tb t) k λr=>tb t k r/\BB (ls k) (ls j) (tb t j) r:=by
 funext i r;unfold tb kj uV;rw[CZ hk];by_cases h:i=k
 .subst h;rw[if_pos rfl,if_pos rfl];exact propext (E2 (hc i j) (hf i) (hf j))
 .rw[if_neg h,if_neg h]
theorem CN {t:dH}(hf:iW ls t)(hk:k<t.length):iW ls (kj ls cm t k j):=λi r m=>by
 unfold kj at m;rw[CZ hk] at m;by_cases h:i=k
 .subst h;rw[if_pos rfl] at m;exact hf i r (Arm.mem m)
 .rw[if_neg h] at m;exact hf i r m
def om (ls:Nat->List aI)(cm:Nat->Nat->List aE)(t:dH)(es:List (Nat×Nat)):dH:=es.foldl (λt q=>kj ls cm t q.2 q.1) t
def lu (ls:Nat->List aI)(cm:Nat->Nat->List aE)(t:dH)(es:List (Nat×Nat)):dH:=es.reverse.foldl (λt q=>kj ls cm t q.1 q.2) t
theorem HS (hc:Cm ls cm):∀ {es:List (Nat×Nat)} {t:dH},iW ls t->(∀ q∈es,q.2<t.length)->tb (om ls cm t es)=xc ls (tb t) es/\iW ls (om ls cm t es)/\(om ls cm t es).length=t.length
 |[],t,hf,_=>⟨rfl,hf,rfl⟩
 |q::es,t,hf,h=>by
  have hq:=h q bE;obtain⟨a,b,c⟩:=HS hc (es:=es) (t:=kj ls cm t q.2 q.1) (CN hf hq) λx m=>by rw[vK];exact h x (bL _ m)
  refine⟨?_,b,c.trans (vK _ _ _)⟩;show tb (om ls cm (kj ls cm t q.2 q.1) es)=xc ls (oh ls (tb t) q.1 q.2) es;rw[a,UD hc hf hq]
  rfl
theorem k5 (t:dH)(q:Nat×Nat)(es:List (Nat×Nat)):lu ls cm t (q::es)=kj ls cm (lu ls cm t es) q.1 q.2:=by
 unfold lu
 grind
theorem NH (hc:Cm ls cm):∀ {es:List (Nat×Nat)} {t:dH},iW ls t->(∀ q∈es,q.1<t.length)->tb (lu ls cm t es)=xv ls (tb t) es/\iW ls (lu ls cm t es)/\(lu ls cm t es).length=t.length
 |[],t,hf,_=>⟨rfl,hf,rfl⟩
 |q::es,t,hf,h=>by
  obtain⟨a,b,c⟩:=NH hc hf λx m=>h x (bL _ m)
  have hq:q.1<(lu ls cm t es).length:=by rw[c];exact h q bE
  rw[k5,KL];refine⟨?_,CN b hq,(vK _ _ _).trans c⟩;rw[UD hc b hq,a]
  rfl
theorem IK {t:dH}(hk:k<t.length)(i:Nat):((kj ls cm t k j).getD i []).Sublist (t.getD i []):=by
 unfold kj;rw[CZ hk];by_cases h:i=k
 .subst h;rw[if_pos rfl];exact Arm
 all_goals grind
theorem Yh (hc:Cm ls cm){t t2:dH}{es:List (Nat×Nat)}(hf:iW ls t)(E:uY ls (λk=>k<t.length) es R)(l2:t2.length=t.length)
  (h1:∀ k,R k->∀ r,r∈t2.getD k []↔Gd ls R (tb (om ls cm t es)) k r) (h2:∀ k,¬ R k->t2.getD k []=(om ls cm t es).getD k []) :
  ∀ k,k<t.length->∀ r,r∈(lu ls cm t2 es).getD k []↔Gd ls (λk=>k<t.length) (tb t) k r:=by
 obtain⟨s1,s2⟩:=tT E;obtain⟨a,b,c⟩:=HS hc hf λq m=>(s2 q m).2
 have f2:iW ls t2:=λk r m=>by
  by_cases q:R k
  .obtain⟨v,_,e⟩:=(h1 k q r).1 m;exact⟨v,e⟩
  .rw[h2 k q] at m;exact b k r m
 obtain⟨a2,_,_⟩:=NH hc f2 λq m=>by rw[l2];exact(s2 q m).1
 intro k hk r;have:=As (Tn:=tb t2) E (λk q r=>by rw[<-a];exact h1 k q r) (λk q=>by
  rw[<-a];funext r;show(r∈t2.getD k [])=(r∈(om ls cm t es).getD k []);rw[h2 k q]) k hk r
 rw[<-a2] at this;exact this
end
end L2
namespace J2
variable {Z:Type}(N:Nat->Z->Prop)
def Co (S:Nat->Prop)(k j:Nat):Prop:=∀ z,N k z->N j z\/∀ o,S o->o≠k->¬ N o z
def rm (S:Nat->Prop)(k:Nat):Nat->Prop:=λo=>S o/\o≠k
def P:Nat->(Nat->Prop)->Prop
 |0,S=>∀ a b,S a->S b->a=b
 |n+1,S=>(∀ a b,S a->S b->a=b)\/∃ k p,S k/\S p/\p≠k/\Co N S k p/\P n (rm S k)
end J2
namespace Aw
open PySem L2
variable {n k i:Nat}{f g:EF}{Y:aR}{d:aA}{ls:List Ln}{ds:List aA}{l a:Ln}{z:aE}{L:List Nat}{j:Int}{α:Type}{ks:List aI}{kds:List (aA×aA)}{wd:aE->Nat}{r ns:List Int}{zs:List aE}{R:List (List Int)}{t:dH}{v w:aE->Int}{F:SF}{C:Nat->Int}
theorem O5(h:f (vA Y)=aa d)(hf:gE n d=ae):eV n .a f Y=aa d:=by
 show((f (vA Y)).bind λd=>if gE n d=ae then aa d else ab)=_
 rw[h,bQ,if_pos hf]
def hG (l:Ln):Prop:=l.2.length<=6/\∀ k∈l.2,cR (kD k)=ae
abbrev lN (cs:List Nat):aA:=.list (cs.map λ(c:Nat)=>aY c)
abbrev aq (ls:List Ln):aA:=.tuple (ls.map bJ)
abbrev lK (ks:List aI):aA:=.list (ks.map kD)
abbrev lZ (zs:List aE):aA:=.list (zs.map bZ)
theorem Ot (cs:List Nat):cB [lN cs]=aa (.int cs.length):=by simp[cB]
theorem O4 (a b:Nat):du (.int a) (.int b)=aa (.bool (decide (a=b))):=by
 rw[vG]
 congr 2
 rw[nY];simp
 lia
noncomputable def QW:aI->Option aE
 |.inr z=>aa z
 |.inl _=>ab
def cZ (ks:List aI):List aE:=ks.filterMap QW
def bF (ls:List (aE×List aI)):List aE:=fQ (ls.flatMap λl=>cZ l.2)
def kt (z:aE):aA×aA:=(.str z,.bool ae)
theorem Nt (aj:List aE)(z:aE):((aj.map kt).any λkd=>decide (bU kd.1=aa (.inr z)))=decide (z∈aj):=by
 induction aj with
 |nil=>rfl
 |cons y r ih=>
  rw[dC,wZ,ih];have:bU (kt y).1=aa (.inr y):=rfl;rw[this];by_cases h:z=y
  .subst h;simp
  .have h':¬ y=z:=λe=>h e.symm
   simp[h,h']
theorem Se (aj:List aE)(z:aE):putD (aj.map kt) (.inr z) (.bool ae)=(dD aj z).map kt:=by
 unfold putD dD;rw[Nt];by_cases h:z∈aj
 .rw[if_pos (by simpa using h),if_pos h,dY]
  refine jG λy _=>?_
  show(if bU (kt y).1=aa (.inr z) then((kt y).1,jW ae) else kt y)=kt y
  split<;>rfl
 .rw[if_neg (by simpa using h),if_neg h,gJ]
  rfl
def gN (aj:List aE)(k:aI):List aE:=match k with
 |.inr z=>dD aj z
 |.inl _=>aj
theorem HE:∀ (ks:List aI) (aj:List aE),ks.foldl gN aj=(cZ ks).foldl dD aj
 |[],_=>rfl
 |.inl i::ks,aj=>HE ks aj
 |.inr z::ks,aj=>HE ks (dD aj z)
theorem Pn (aj:List aE)(k:aI):(gN aj k).length<=aj.length+1:=by
 cases k with
 |inl i=>exact uE _
 |inr z=>exact XT aj z
theorem Po {aj:List aE}{k:aI}(h:∀ z∈aj,cR (.str z)=ae)(hk:cR (kD k)=ae):∀ z∈gN aj k,cR (.str z)=ae:=by
 cases k with
 |inl i=>exact h
 |inr z=>exact λy m=>(An1.1 m).elim (h y) λe=>e ▸ hk
theorem vT {ls:List (aE×List aI)}(h:∀ l∈ls,hG l)(hn:ls.length<=100):rO [.tuple (ls.map bJ)]=aa (.list ((bF ls).map bZ)):=by
 have:∃ d,rO [.tuple (ls.map bJ)]=aa d/\d=.list ((bF ls).map bZ):=by
  rw[7];refine bX rfl (by simp) ?_
  refine dU (λρ'=>∃ x2 x3:L2.Slot,(∀ z∈bF ls,cR (.str z)=ae)/\ρ'=[s0 (.tuple (ls.map bJ)),aa (1,.dict ((bF ls).map kt)),x2,x3]) ?_ ?_
  .refine iF (b0:=[]) (λaj l=>l.2.foldl gN aj) (λi aj ρ'=>∃ x2 x3:L2.Slot,aj.length<=6*i/\(∀ z∈aj,cR (.str z)=ae)/\ρ'=[s0 (.tuple (ls.map bJ)),aa (1,.dict (aj.map kt)),x2,x3]) (dm (lM rfl)) ⟨ab,ab,bB _,λ_ m=>by simp at m,rfl⟩ ?_ ?_
   .rintro i l aj _ hx ⟨x2,x3,ha,hy,rfl⟩;have hl:=h l (eM hx);have hi:=(cJ.1 hx).1;refine⟨[s0 (.tuple (ls.map bJ)),aa (1,.dict (aj.map kt)),s0 (bJ l),x3],rfl,?_⟩;refine iF (xs:=l.2) (q:=kD) gN (λj bf ρ'=>∃ x3:L2.Slot,bf.length<=6*i+j/\(∀ z∈bf,cR (.str z)=ae)/\ρ'=[s0 (.tuple (ls.map bJ)),aa (1,.dict (bf.map kt)),s0 (bJ l),x3]) (dm (lM (by simp[vS,ah,aB,eC,bJ,ar,ij,gb]))) ⟨x3,ha,hy,rfl⟩ ?_ ?_
    .rintro j k bf _ hk ⟨x3,wt,ut,rfl⟩;have hj:=(cJ.1 hk).1;have h6:=hl.1;refine⟨[s0 (.tuple (ls.map bJ)),aa (1,.dict (bf.map kt)),s0 (bJ l),s0 (kD k)],rfl,?_⟩;have g1:=Pn bf k;have g2:=Po ut (hl.2 k (eM hk));cases k with
     |inl v=>exact gD (by simp[bV,vS,ff,aB,au,rj,fC,nZ,ug,kD]) (hX ⟨_,.inl rfl,_,(),g2,rfl⟩)
     |inr z=>
      refine eU (by simp[bV,vS,ff,aB,au,rj,fC,nZ,ug,kD]) (Ga rfl rfl rfl rfl (by simp;lia) ⟨_,.inl rfl,s0 (.str z),(),g2,?_⟩)
      rw[Se]
      rfl
    .rintro _ ⟨x3,wt,ut,rfl⟩;have h6:=hl.1;exact⟨_,.inl rfl,_,_,(),ut,rfl⟩
   .rintro _ ⟨x2,x3,ha,hy,rfl⟩;have e:ls.foldl (λaj l=>l.2.foldl gN aj) []=bF ls:=by
     unfold bF fQ;rw[List.foldl_flatMap]
     congr 1
     funext aj l;exact HE l.2 aj
    rw[e] at hy ⊢;exact⟨_,rfl,x2,x3,hy,rfl⟩
  rintro _ ⟨x2,x3,hy,rfl⟩;refine lJ (cN (aW rfl ?_) ⟨_,rfl,rfl⟩);have hp:dh ((bF ls).map kt)=ae:=BW λkd m=>by
   obtain⟨z,_,rfl⟩:=bO.1 m;exact λq=>nomatch q
  show(if (dh ((bF ls).map kt)&&((bF ls).map kt).all (λkd=>cR kd.1))=ae then aa (AC (((bF ls).map kt).map (·.1))) else ab)=_
  rw[hp,GG,if_pos (dQ.2 λkd m=>by
   obtain⟨z,mz,rfl⟩:=bO.1 m;exact hy z mz),dY]
  rfl
 rw[2]
theorem Fv (y z:aE):cF (.str y) (.str z)=decide (y=z):=by
 rw[show cF (.str y) (.str z)=(y==z) by simp[cF],nY]
 simp
theorem Sg (zs:List aE)(z:aE):((zs.map bZ).any λd=>cF d (.str z))=decide (z∈zs):=by
 rw[List.any_map,nY];simp[Fv]
theorem Yq (zs:List aE):noDicts (zs.map bZ)=ae:=yR λt m=>by
 obtain⟨z,_,rfl⟩:=bO.1 m
 rfl
theorem Fk (neg:Bool)(zs:List aE)(z:aE):kg neg (.str z) (.list (zs.map bZ))=aa (.bool (neg != decide (z∈zs))):=by
 show(if (dE (.str z)&&noDicts (zs.map bZ))=ae then aa (jW (neg != (zs.map bZ).any λd=>cF d (.str z))) else ab)=_
 rw[Yq,Sg,show dE (.str z)=ae from rfl,Kb,if_pos rfl]
theorem any_keys (ks:List aI)(z:aE):((ks.map kD).any λd=>cF d (.str z))=decide (z∈cZ ks):=by
 induction ks with
 |nil=>rfl
 |cons k r ih=>
  rw[dC,wZ,ih];cases k with
  |inl i=>
   have:cF (kD (.inl i)) (.str z)=af:=by simp[kD,cF]
   rw[this]
   rfl
  |inr y=>
   have:cF (kD (.inr y)) (.str z)=decide (y=z):=Fv y z;rw[this];show(decide (y=z)||decide (z∈cZ r))=decide (z∈y::cZ r);by_cases e:y=z
   .subst e;simp
   .have e':¬ z=y:=λq=>e q.symm
    simp[e,e']
theorem Ft (z:aE)(ks:List aI):kg af (.str z) (.tuple (ks.map kD))=aa (.bool (decide (z∈cZ ks))):=by
 show(if (dE (.str z)&&noDicts (ks.map kD))=ae then aa (jW (af != (ks.map kD).any λd=>cF d (.str z))) else ab)=_
 rw[Yt,any_keys,show dE (.str z)=ae from rfl,Kb,if_pos rfl]
 simp
def pL (ls:List (aE×List aI))(k:Nat):List (aE×List aI):=ls.take k++ls.drop (k+1)
def HW (ls:List (aE×List aI))(k:Nat)(l:aE×List aI):List aE:=(bF [l]).filter λz=>decide (z∈bF (pL ls k))
theorem II{lo hi:OF}{Y:List (Option aA)}{l u:Option Int}(e1:f Y=aa (.tuple ds))(e2:lo Y=aa l)(e3:hi Y=aa u):uO f lo hi Y=aa (.tuple (cutD ds l u)):=by
 unfold uO;rw[e1,bQ,e2,bQ,e3,bQ]
theorem l8(k:Nat)(h:k<=ds.length):cutD ds (aa (k:Int)) ab=ds.drop k:=by
 unfold cutD;rw[HT.A3l,HT.Av5,Nat.min_eq_left h];exact List.take_of_length_le (by simp)
theorem F6 {ls:List (aE×List aI)}(h:∀ l∈ls,hG l)(hn:ls.length<=50){l:aE×List aI}(hk:ls[k]?=aa l):JI [.tuple (ls.map bJ),.int k]=aa (.list ((HW ls k l).map bZ)):=by
 have bh:=(cJ.1 hk).1;have V1:(pL ls k).length<=100:=by
  unfold pL;rw[qH,PC,List.length_drop]
  lia
 have:∃ d,JI [.tuple (ls.map bJ),.int k]=aa d/\d=.list ((HW ls k l).map bZ):=by
  rw[7];have er:=vT (λx m=>h x (by
   rcases kT.1 m with m|m
   .exact List.mem_of_mem_take m
   .exact Iu m)) V1
  have el:=vT (λx m=>by rw[cE.1 m];exact h l (eM hk)) (by simp)
  refine bX (aW (aX (aO (a:=.tuple ((ls.take k).map bJ)) (b:=.tuple ((ls.drop (k+1)).map bJ)) ?_ ?_ ?_) rfl) er) (by simp) ?_
  .have:=II (f:=aB 0) (lo:=oN) (hi:=oS (aB 1)) (Y:=vS [s0 (.tuple (ls.map bJ)),s0 (.int k),ab]) rfl rfl rfl;rw[MW (by simpa using oX bh),<-OZ] at this
   exact this
  .have:=II (f:=aB 0) (lo:=oS (ah eR (aB 1) (eC (.int 1)))) (hi:=oN) (Y:=vS [s0 (.tuple (ls.map bJ)),s0 (.int k),ab]) (l:=aa ((k+1:Nat):Int)) rfl rfl rfl;rw[l8 _ (by simp;lia),<-Iz] at this
   exact this
  .show(if ((ls.take k).map bJ).length+((ls.drop (k+1)).map bJ).length<=sizeLine then aa (cW ((ls.take k).map bJ++(ls.drop (k+1)).map bJ)) else ab)=_
   rw[if_pos (nH (by simp;lia)),<-gJ]
   rfl
  refine cN ?_ ⟨_,rfl,rfl⟩;refine fS (λz=>decide (z∈bF (pL ls k))) bZ (eX (aW ?_ el)) ?_ λz _=>?_
  .have:ar (.tuple (ls.map bJ)) (.int k)=aa (bJ l):=vO (by rw[eZ,hk];rfl)
   refine aX ?_ rfl;have h2:(1:Nat)<=sizeLine:=nH ()
   unfold fU;rw[aX (aO rfl rfl this) rfl];simp[h2]
  .have:(bF [l]).length<=6:=by
    have h1:=yN (cZ l.2) [];have h2:(cZ l.2).length<=l.2.length:=wW _ _;have h3:=(h l (eM hk)).1;have e:bF [l]=(cZ l.2).foldl dD []:=by
     unfold bF fQ;simp
    rw[e];simp at h1
    lia
   lia
  .refine⟨[aa (.str z),aa (.list ((bF (pL ls k)).map bZ))],rfl,?_,λ_=>rfl⟩
   have:=Fk af (bF (pL ls k)) z;simp[eV,bV,aV,vS,ah,ff,aB,eC,aL,dM,aG,aJ,au,rj,bc,itemsOf,eR,pS,gQ,cO,eD,L5,vv,su,iq,cB,fC,nZ,ug,du,dE,noDict,noDicts,mR,cT,cF,this]
 rw[2]
theorem Ae8 {ls:List (aE×List aI)}:z∈bF ls ↔ ∃ l∈ls,z∈cZ l.2:=by
 unfold bF;rw[Aec,FS]
theorem Av9 {ls:List (aE×List aI)}{l:aE×List aI}:l∈pL ls k ↔ ∃ j,j≠k/\ls[j]?=aa l:=by
 unfold pL;rw[kT,Iw,Iw];constructor
 .rintro(⟨j,hj⟩|⟨j,hj⟩)
  .rw[List.getElem?_take] at hj;by_cases h:j<k
   .rw[if_pos h] at hj;exact⟨j,(),hj⟩
   .rw[if_neg h] at hj;cases hj
  .rw[List.getElem?_drop] at hj;exact⟨_,(),hj⟩
 .rintro⟨j,dg,hj⟩;by_cases h:j<k
  .exact .inl ⟨j,by rw[List.getElem?_take,if_pos h];exact hj⟩
  .exact .inr ⟨j-(k+1),by rw[List.getElem?_drop,show k+1+(j-(k+1))=j by lia];exact hj⟩
theorem pU(h:i<ls.length):ar (aq ls) (.int i)=aa (bJ (ls.getD i bw)):=vO (by rw[eZ,getD_some bw h];rfl)
def vx (ls:List Ln)(i:Nat):List aE:=cZ (ls.getD i bw).2
def xD (ls:List Ln)(L:List Nat)(k j:Nat):Prop:=∀ z∈vx ls k,z∈vx ls j\/∀ o∈L,o≠k->z∉vx ls o
instance (ls:List Ln)(L:List Nat)(k j:Nat):Decidable (xD ls L k j):=by unfold xD;infer_instance
def iB (ls:List Ln)(L:List Nat)(k j:Nat):Bool:=decide (j≠k)&&decide (xD ls L k j)
def jM (p:Nat×Nat):aA:=.tuple [.int p.1,.int p.2]
def sU:Option (Nat×Nat)->aA
 |none=>.none
 |some p=>jM p
def iP (ls:List Ln)(L:List Nat):Option (Nat×Nat):=L.findSome? λk=>(L.find? (iB ls L k)).map λj=>(k,j)
theorem nen (a b:Nat):jh (.int a) (.int b)=aa (.bool (decide (a≠b))):=by
 rw[ne_int]
 congr 2
 rw[nY];simp
 lia
theorem Qi(h:k∈L):∃ i:Nat,L[i]?=aa k/\IV (lN L) (.int k)=aa (.int i):=by
 have e1:∀ xs:List Nat,mY (xs.map λ(c:Nat)=>aY c)=aa (xs.map λ(c:Nat)=>(.inl (c:Int):aI)):=λxs=>by
  induction xs with
  |nil=>rfl
  |cons x xs ih=>
   show((bU (.int (x:Int))).bind λk=>(mY (xs.map λ(c:Nat)=>aY c)).bind λks=>aa (k::ks))=_
   rw[ih]
   rfl
 obtain⟨i,hi⟩:∃ i,jz (L.map λ(c:Nat)=>(.inl (c:Int):aI)) (.inl (k:Int))=aa i:=by
  unfold jz;cases e:(L.map λ(c:Nat)=>(.inl (c:Int):aI)).findIdx? λy=>decide (y=.inl (k:Int)) with
  |some i=>exact⟨i,rfl⟩
  |none=>
   have:=List.findIdx?_eq_none_iff.1 e (.inl (k:Int)) (bO.2 ⟨k,h,rfl⟩);simp at this
 refine⟨i,?_,?_⟩
 .have:=(VI hi).1;rw[eZ] at this;obtain⟨x,ex,e⟩:=jF.1 this;have:x=k:=by
   have:(x:Int)=k:=by injection e
   lia
  rw[ex,this]
 .show((mY (L.map λ(c:Nat)=>aY c)).bind λks=>(bU (.int (k:Int))).bind λk=>(jz ks k).bind λj=>aa (aY j))=_
  rw[e1,bQ];show((jz _ (.inl (k:Int))).bind λj=>aa (aY j))=_
  rw[hi]
  rfl
theorem G0(nd:L.Nodup){j:Nat}(h1:L[i]?=aa k)(h2:L[j]?=aa k):i=j:=by
 obtain⟨a1,a2⟩:=cJ.1 h1;obtain⟨b1,b2⟩:=cJ.1 h2;have pw:=OY.1 nd;rcases wU i j with h|h|h
 .exact absurd (a2.trans b2.symm) (pw i j a1 b1 h)
 .exact h
 .exact absurd (b2.trans a2.symm) (pw j i b1 a1 h)
theorem VF(g:α->Bool):∀ xs:List α,sO (xs.map λx=>jW (g x))=aa (xs.map g)
 |[]=>rfl
 |x::xs=>by
  show((sO (xs.map λx=>jW (g x))).bind λbs=>aa (g x::bs))=_
  rw[VF g xs]
  rfl
theorem B9(ho:∀ l∈ls,hG l)(hL:∀ o∈L,o<ls.length)(nd:L.Nodup)(hl:L.length<=50)(hk:k∈L):MH [aq ls,lN L,.int k]=aa (match L.find? (iB ls L k) with|some j=>.int j|none=>.none):=by
 have:∃ d,MH [aq ls,lN L,.int k]=aa d/\d=(match L.find? (iB ls L k) with|some j=>.int j|none=>.none):=by
  rw[7]
  let sub:List Ln:=L.map λj=>ls.getD j bw
  obtain⟨i,hi,ei⟩:=Qi hk;have cb:∀ l∈sub,hG l:=λl m=>by
   obtain⟨j,mj,rfl⟩:=bO.1 m;exact ho _ (getD_mem bw (hL j mj))
  have hsi:sub[i]?=aa (ls.getD k bw):=by
   rw[eZ,hi]
   rfl
  have es:=F6 cb (by show(L.map _).length<=50;simpa using hl) hsi
  let W:List aE:=HW sub i (ls.getD k bw)
  have lc:cf [ab,aa 0] (bc (aB 1)) (gB 0) cS (ah ar (aB 1) (aB 0)) (vS [s0 (aq ls),s0 (lN L),s0 (.int k),ab,ab])=aa (.list (sub.map bJ)):=by
   have:=fS (cap:=[ab,aa 0]) (fi:=bc (aB 1)) (T:=gB 0) (t:=cS) (f:=ah ar (aB 1) (aB 0)) (Y:=vS [s0 (aq ls),s0 (lN L),s0 (.int k),ab,ab]) (λ_=>ae) (λj=>bJ (ls.getD j bw)) (eX rfl) () λj mj=>⟨[aa (.int j),aa (aq ls)],rfl,rfl,λ_=>aO rfl rfl (pU (hL j mj))⟩
   rw[this,kU.2 (by simp)]
   rw[dY]
   rfl
  refine bX (aW (aX (aW (aX lc rfl) rfl) (aX (aO rfl rfl ei) rfl)) es) (by simp) ?_
  have Ix:∀ z,z∈W↔z∈vx ls k/\∃ o∈L,o≠k/\z∈vx ls o:=λz=>by
   show z∈(bF [ls.getD k bw]).filter (λz=>decide (z∈bF (pL sub i)))↔_
   rw[kA,Ae8];constructor
   .rintro⟨⟨l,ml,hz⟩,h2⟩;rw[cE.1 ml] at hz;refine⟨hz,?_⟩;obtain⟨l',ml',xr⟩:=Ae8.1 (of_decide_eq_true h2);obtain⟨j,hj,ej⟩:=Av9.1 ml';have ej:=ej;rw[eZ] at ej;obtain⟨o,eo,rfl⟩:=jF.1 ej;refine⟨o,eM eo,λq=>hj ?_,xr⟩
    exact G0 nd (by rw[<-q];exact eo) hi
   .rintro⟨hz,o,mo,ne,xr⟩;refine⟨⟨_,cE.2 rfl,hz⟩,decide_eq_true (Ae8.2 ⟨ls.getD o bw,Av9.2 ?_,xr⟩)⟩;obtain⟨j,hj,ej⟩:=uI mo;refine⟨j,λq=>ne ?_,?_⟩
    .obtain⟨b1,b2⟩:=cJ.1 hi;subst q;rw[<-ej,b2]
    .rw[eZ,fN hj,ej]
     rfl
  have hWl:W.length<=100:=by
   have h1:W.length<=(bF [ls.getD k bw]).length:=FU _ _;have h2:=yN (cZ (ls.getD k bw).2) [];have h3:(cZ (ls.getD k bw).2).length<=(ls.getD k bw).2.length:=wW _ _;have h4:=(ho _ (getD_mem bw (hL k hk))).1;have e:bF [ls.getD k bw]=(cZ (ls.getD k bw).2).foldl dD []:=by
    unfold bF fQ;simp
   rw[e] at h1;simp only[Jc,Nat.zero_add] at h2
   lia
  let A:L2.Slot:=s0 (aq ls)
  let B:L2.Slot:=s0 (lN L)
  let C:L2.Slot:=s0 (.int k)
  let E:L2.Slot:=s0 (lZ W)
  refine VD (λρ'=>∃ x4:L2.Slot,ρ'=[A,B,C,E,x4]) (L.findSome? λj=>if iB ls L k j=ae then aa (.int j) else ab) (Gn (λρ'=>∃ x4:L2.Slot,ρ'=[A,B,C,E,x4]) _ (dm (eX rfl)) ⟨ab,rfl⟩ ?_) ?_ ?_
  .rintro j mj _ ⟨x4,rfl⟩;refine⟨[A,B,C,E,s0 (.int j)],rfl,?_⟩;have f1:ah jh (aB 4) (aB 2) (vS [A,B,C,E,s0 (.int j)])=aa (.bool (decide (j≠k))):=aO rfl rfl (nen j k);have Z3:=fS (cap:=[ab,aa 0,aa 4]) (fi:=bc (aB 3)) (T:=gB 0) (t:=cS) (f:=ah (kg af) (aB 0) (ah ar (ah ar (aB 1) (aB 2)) (eC (.int 1)))) (Y:=vS [A,B,C,E,s0 (.int j)]) (λ_=>ae) (λz=>.bool (decide (z∈vx ls j))) (eX rfl) () λz mz=>⟨[aa (.str z),aa (aq ls),aa (.int j)],rfl,rfl,λ_=>aO rfl (aO (aO rfl rfl (pU (hL j mj))) rfl rfl) (Ft z _)⟩
   rw[kU.2 (by simp)] at Z3
   have f2:aL xH (aG (cf [ab,aa 0,aa 4] (bc (aB 3)) (gB 0) cS (ah (kg af) (aB 0) (ah ar (ah ar (aB 1) (aB 2)) (eC (.int 1))))) aJ) (vS [A,B,C,E,s0 (.int j)])=aa (.bool (decide (xD ls L k j))):=by
    refine aW (aX Z3 rfl) ?_;show((sO (W.map λz=>jW (decide (z∈vx ls j)))).bind λbs=>aa (jW (bs.all id)))=_
    rw[VF,bQ,List.all_map]
    congr 2
    rw[nY,dQ,decide_eq_true_eq];constructor
    .intro h z mz;by_cases q:∃ o∈L,o≠k/\z∈vx ls o
     .exact .inl (of_decide_eq_true (h z ((Ix z).2 ⟨mz,q⟩)))
     .exact .inr λo mo ne hz=>q ⟨o,mo,ne,hz⟩
    .intro h z mz;obtain⟨h1,o,mo,ne,hz⟩:=(Ix z).1 mz;rcases h z h1 with q|q
     .exact decide_eq_true q
     .exact absurd hz (q o mo ne)
   have tb:bV .s (mX (au (ah jh (aB 4) (aB 2))) (au (aL xH (aG (cf [ab,aa 0,aa 4] (bc (aB 3)) (gB 0) cS (ah (kg af) (aB 0) (ah ar (ah ar (aB 1) (aB 2)) (eC (.int 1))))) aJ)))) [A,B,C,E,s0 (.int j)]=aa (iB ls L k j):=by
    simp only[bV,mX,au,f1,f2,bQ,rj];unfold iB;cases decide (j≠k)<;>rfl
   cases hb:iB ls L k j with
   |true=>exact eU (tb.trans (by rw[hb])) (cN rfl rfl)
   |false=>exact gD (tb.trans (by rw[hb])) (hX ⟨_,.inl rfl,_,rfl⟩)
  .intro r hr;refine⟨_,rfl,?_⟩;have:∀ xs:List Nat,(xs.findSome? λj=>if iB ls L k j=ae then aa (aY j) else ab)=(xs.find? (iB ls L k)).map λ(j:Nat)=>aY j:=λxs=>by
    induction xs with
    |nil=>rfl
    |cons x xs ih=>
     rw[gK,FY];cases iB ls L k x with
     |true=>rfl
     |false=>exact ih
   rw[this] at hr;obtain⟨j,e,rfl⟩:=jF.1 hr;rw[e]
  .rintro hz _ ⟨x4,rfl⟩;refine cN rfl ⟨_,rfl,?_⟩;have:∀ xs:List Nat,(xs.findSome? λj=>if iB ls L k j=ae then aa (aY j) else ab)=(xs.find? (iB ls L k)).map λ(j:Nat)=>aY j:=λxs=>by
    induction xs with
    |nil=>rfl
    |cons x xs ih=>
     rw[gK,FY];cases iB ls L k x with
     |true=>rfl
     |false=>exact ih
   rw[this] at hz;rw[OR.1 hz]
 rw[2]
theorem Cz(ho:∀ l∈ls,hG l)(hL:∀ o∈L,o<ls.length)(nd:L.Nodup)(hl:L.length<=50):pY [aq ls,lN L]=aa (sU (iP ls L)):=by
 have:∃ d,pY [aq ls,lN L]=aa d/\d=sU (iP ls L):=by
  rw[7]
  let A:L2.Slot:=s0 (aq ls)
  let B:L2.Slot:=s0 (lN L)
  have key:(L.findSome? λk=>((L.find? (iB ls L k)).map λj=>jM (k,j)))=(iP ls L).map jM:=by
   unfold iP;rw[List.map_findSome?];refine Ea λk _=>?_
   show _=Option.map jM ((L.find? (iB ls L k)).map λj=>(k,j))
   rw[Option.map_map]
   rfl
  refine VD (λρ'=>∃ x2 x3:L2.Slot,ρ'=[A,B,x2,x3]) (L.findSome? λk=>((L.find? (iB ls L k)).map λj=>jM (k,j))) (Gn (λρ'=>∃ x2 x3:L2.Slot,ρ'=[A,B,x2,x3]) _ (dm (eX rfl)) ⟨ab,ab,rfl⟩ ?_) ?_ ?_
  .rintro k mk _ ⟨x2,x3,rfl⟩;refine⟨[A,B,s0 (.int k),x3],rfl,?_⟩;have ep:=B9 ho hL nd hl mk;cases hf:L.find? (iB ls L k) with
   |none=>
    rw[hf] at ep;exact bX (aW rfl ep) (by simp) (gD rfl (hX ⟨_,.inl rfl,_,_,rfl⟩))
   |some j=>
    rw[hf] at ep;exact bX (aW rfl ep) (by simp) (eU rfl (cN rfl rfl))
  .intro r hr;rw[key] at hr;obtain⟨p,e,rfl⟩:=jF.1 hr;exact⟨_,rfl,by rw[e];rfl⟩
  .rintro hz _ ⟨x2,x3,rfl⟩;rw[key] at hz;exact cN rfl ⟨_,rfl,by rw[OR.1 hz];rfl⟩
 rw[2]
def gu (ls:List Ln):Nat->List Nat->List (Nat×Nat)×List Nat
 |0,L=>([],L)
 |n+1,L=>match iP ls L with
  |none=>([],L)
  |some p=>(p::(gu ls n (L.erase p.1)).1,(gu ls n (L.erase p.1)).2)
theorem YO{p:Nat×Nat}(h:iP ls L=aa p):p.1∈L/\p.2∈L:=by
 unfold iP at h;obtain⟨k,mk,h⟩:=K5 h;obtain⟨j,hj,rfl⟩:=jF.1 h;exact⟨mk,Iv hj⟩
theorem Fc:∀ {n:Nat} {L:List Nat},(gu ls n L).1.length<=n/\(gu ls n L).2.length<=L.length
 |0,L=>⟨by simp[gu],bB _⟩
 |n+1,L=>by
  unfold gu;cases hf:iP ls L with
  |none=>exact⟨by simp,bB _⟩
  |some p=>
   obtain⟨h1,h2⟩:=Fc;have:=List.length_erase_le (a:=p.1) (l:=L);exact⟨by simp;omega,by show(gu ls n (L.erase p.1)).2.length<=L.length;lia⟩
theorem B4(h:k∈L):∃ i,jz (L.map λ(c:Nat)=>(.inl (c:Int):aI)) (.inl (k:Int))=aa i/\L.eraseIdx i=L.erase k:=by
 induction L with
 |nil=>simp at h
 |cons x xs ih=>
  by_cases q:x=k
  .subst q;exact⟨0,by simp[jz,List.findIdx?_cons],by simp⟩
  .have hm:k∈xs:=by
    rcases cX.1 h with e|m
    .exact absurd e.symm q
    .exact m
   obtain⟨i,e1,e2⟩:=ih hm;refine⟨i+1,?_,?_⟩
   .unfold jz at e1 ⊢;rw[dC,List.findIdx?_cons];have:decide ((.inl (x:Int):aI)=.inl (k:Int))=af:=decide_eq_false λe=>q (by
     have:(x:Int)=k:=by injection e
     lia)
    rw[this];simp only[gA,if_false];rw[e1]
    rfl
   .rw[wY,e2,List.erase_cons_tail (by simpa using q)]
theorem RW:∀ xs:List Nat,mY (xs.map λ(c:Nat)=>aY c)=aa (xs.map λ(c:Nat)=>(.inl (c:Int):aI))
 |[]=>rfl
 |x::xs=>by
  show((bU (.int (x:Int))).bind λk=>(mY (xs.map λ(c:Nat)=>aY c)).bind λks=>aa (k::ks))=_
  rw[RW xs]
  rfl
theorem Og{P:Out->Prop}(h:f (vS Y)=aa (.int k))(hg:getL i Y=aa (L.map λ(c:Nat)=>aY c))(hk:k∈L)(kk:P (.nx (Y.set i (aa (1,lN (L.erase k)))))):Goes (pZ i .s f) Y P:=by
 obtain⟨j,e1,e2⟩:=B4 hk;refine⟨_,?_,kk⟩;have e0:eV 0 .s f Y=aa (.int k):=h;unfold pZ;rw[e0,bQ,hg,bQ,RW,bQ];show((jz _ (.inl (k:Int))).bind λj=>aa (Out.nx (Y.set i (aa (1,.list ((L.map λ(c:Nat)=>aY c).eraseIdx j))))))=_
 rw[e1,bQ];have:(L.map λ(c:Nat)=>aY c).eraseIdx j=(L.erase k).map λ(c:Nat)=>aY c:=by
  rw[<-e2];have go:∀ (xs:List Nat) (n:Nat),(xs.map λ(c:Nat)=>aY c).eraseIdx n=(xs.eraseIdx n).map λ(c:Nat)=>aY c:=by
   intro xs;induction xs with
   |nil=>intro n;simp
   |cons x xs ih=>
    intro n;cases n with
    |zero=>rfl
    |succ n=>rw[dC,wY,wY,dC,ih]
  exact go L j
 rw[this]
abbrev lP (ps:List (Nat×Nat)):aA:=.list (ps.map jM)
theorem ZY (t:Option (Nat×Nat)):gE 0 (sU t)=ae:=by cases t<;>rfl
theorem Fl {ls:List Ln}(ho:∀ l∈ls,hG l):∀ (n fuel:Nat) {L:List Nat} {ps:List (Nat×Nat)},L.length<=n->n<fuel->(∀ o∈L,o<ls.length)->L.Nodup->L.length<=50->ps.length+n<=100 ->
  ∃ x3,tj .s (au (ah lF (aB 3) (eC .none))) (aT (gY 1 .s (aB 3)) (aT (pZ 2 .s (ah ar (aB 3) (eC (.int 0)))) (bH 3 0 .a (aL pY (aG (aB 0) (aG (aB 2) aJ)))))) fuel [s0 (aq ls),aa (1,lP ps),aa (1,lN L),s0 (sU (iP ls L))]
   = aa (.nx [s0 (aq ls),aa (1,lP (ps++(gu ls n L).1)),aa (1,lN (gu ls n L).2),x3])
 |n,0,L,ps,_,hf,_,_,_,_=>()
 |0,fuel+1,L,ps,h0,_,_,_,_,_=>by
  have:L=[]:=FV.1 ()
  rw[13];refine⟨s0 (sU (iP ls [])),?_⟩;rw[show(gu ls 0 []).1=[] from rfl,mS]
  rfl
 |n+1,fuel+1,L,ps,hn,hf,hL,nd,hl,hp=>by
  unfold gu;cases hfe:iP ls L with
  |none=>
   refine⟨s0 (sU ab),?_⟩;rw[mS]
   rfl
  |some p=>
   obtain⟨m1,m2⟩:=YO hfe;have Z4:=nd.erase p.1;have Z5:∀ o∈L.erase p.1,o<ls.length:=λo m=>hL o (List.mem_of_mem_erase m)
   have aw:(L.erase p.1).length<=n:=by rw[K2 m1];lia
   have vo:(L.erase p.1).length<=50:=by rw[K2 m1];lia
   obtain⟨x3,ih⟩:=Fl ho n fuel (ps:=ps++[p]) aw () Z5 Z4 vo (by simp;lia)
   have body:Goes (aT (gY 1 .s (aB 3)) (aT (pZ 2 .s (ah ar (aB 3) (eC (.int 0)))) (bH 3 0 .a (aL pY (aG (aB 0) (aG (aB 2) aJ)))))) [s0 (aq ls),aa (1,lP ps),aa (1,lN L),s0 (jM p)]
     λo=>o=.nx [s0 (aq ls),aa (1,lP (ps++[p])),aa (1,lN (L.erase p.1)),s0 (sU (iP ls (L.erase p.1)))]:=by
    refine dU (λρ'=>ρ'=[s0 (aq ls),aa (1,lP (ps++[p])),aa (1,lN L),s0 (jM p)]) (pV rfl rfl (by simp;lia) ⟨_,rfl,by simp⟩) ?_
    rintro _ rfl;refine dU (λρ'=>ρ'=[s0 (aq ls),aa (1,lP (ps++[p])),aa (1,lN (L.erase p.1)),s0 (jM p)]) (Og rfl rfl m1 ⟨_,rfl,rfl⟩) ?_
    rintro _ rfl;refine MY ?_ (by simp) rfl
    exact O5 (aW rfl (Cz ho Z5 Z4 vo)) (ZY _)
   obtain⟨o,eo,rfl⟩:=body;refine⟨x3,?_⟩;show((aT (gY 1 .s (aB 3)) (aT (pZ 2 .s (ah ar (aB 3) (eC (.int 0)))) (bH 3 0 .a (aL pY (aG (aB 0) (aG (aB 2) aJ))))) [s0 (aq ls),aa (1,lP ps),aa (1,lN L),s0 (jM p)]).bind λo=>match o with
    |.nx ρ'=>tj .s (au (ah lF (aB 3) (eC .none))) (aT (gY 1 .s (aB 3)) (aT (pZ 2 .s (ah ar (aB 3) (eC (.int 0)))) (bH 3 0 .a (aL pY (aG (aB 0) (aG (aB 2) aJ)))))) fuel ρ'
    |.ct ρ'=>tj .s (au (ah lF (aB 3) (eC .none))) (aT (gY 1 .s (aB 3)) (aT (pZ 2 .s (ah ar (aB 3) (eC (.int 0)))) (bH 3 0 .a (aL pY (aG (aB 0) (aG (aB 2) aJ)))))) fuel ρ'
    |.bk ρ'=>aa (.nx ρ')
    | .rt d=>aa (.rt d))=_
   rw[eo,bQ];show tj .s _ _ fuel _=_;rw[ih,Jl]
   rfl
def cI (ls:List Ln):List (Nat×Nat)×List Nat:=gu ls ls.length (cG ls.length)
theorem IY(ho:∀ l∈ls,hG l)(hn:ls.length<=50):lH [aq ls]=aa (.tuple [lP (cI ls).1,lN (cI ls).2]):=by
 have:∃ d,lH [aq ls]=aa d/\d=.tuple [lP (cI ls).1,lN (cI ls).2]:=by
  rw[7];refine bX rfl (by simp) ?_
  refine bX (d:=lN (cG ls.length)) (aW (aX (aW rfl (by rw[IS,cC])) rfl) ?_) (by simp) ?_
  .show(if -4096<=(ls.length:Int)/\(ls.length:Int)<=4096 then aa (AC (L2.upTo (ls.length:Int).toNat)) else ab)=_
   rw[if_pos ⟨(),()⟩]
   rfl
  have hL:∀ o∈cG ls.length,o<ls.length:=λo m=>iI.1 m
  have nd:(cG ls.length).Nodup:=Ir;have hl:(cG ls.length).length<=50:=by simpa using hn
  refine HU (aW rfl (Cz ho hL nd hl)) (ZY _) (by simp) ?_
  obtain⟨x3,e⟩:=Fl ho ls.length 100 (ps:=[]) (by simp) () hL nd hl (by simp;lia)
  refine gF e ?_;exact⟨_,rfl,_,rfl,rfl⟩
 rw[2]
theorem F3{p:Nat×Nat}(h:iP ls L=aa p):p.2≠p.1/\xD ls L p.1 p.2:=by
 unfold iP at h;obtain⟨k,mk,h⟩:=K5 h;obtain⟨j,hj,rfl⟩:=jF.1 h;have:=List.find?_some hj;unfold iB at this;obtain⟨h1,h2⟩:=iK.1 this;exact⟨of_decide_eq_true h1,of_decide_eq_true h2⟩
theorem Ad0:z∈cZ ks↔(.inr z:aI)∈ks:=by
 unfold cZ;rw[uG];constructor
 .rintro⟨k,m,e⟩;cases k with
  |inl i=>cases e
  |inr y=>cases e;exact m
 .exact λm=>⟨_,m,rfl⟩
def bx (ls:List Ln):Nat->List aI:=λk=>(ls.getD k bw).2
theorem Eu:∀ {n:Nat} {L:List Nat},L.Nodup->uY (bx ls) (λk=>k∈L) (gu ls n L).1 (λk=>k∈(gu ls n L).2)
 |0,L,_=>λk=>Iff.rfl
 |n+1,L,nd=>by
  cases h:iP ls L with
  |none=>
   have e:gu ls (n+1) L=([],L):=by
    show(match iP ls L with|none=>([],L)|some p=>(p::(gu ls n (L.erase p.1)).1,(gu ls n (L.erase p.1)).2))=_
    rw[h]
   rw[e];exact λk=>Iff.rfl
  |some p=>
   have e:gu ls (n+1) L=(p::(gu ls n (L.erase p.1)).1,(gu ls n (L.erase p.1)).2):=by
    show(match iP ls L with|none=>([],L)|some p=>(p::(gu ls n (L.erase p.1)).1,(gu ls n (L.erase p.1)).2))=_
    rw[h]
   rw[e];obtain⟨m1,m2⟩:=YO h;obtain⟨ne,cov⟩:=F3 h;refine⟨⟨m1,m2,fL ne,λz mz k hk dg mzk=>?_⟩,?_⟩
   .rcases cov z (Ad0.2 mz) with c|c
    .exact Ad0.1 c
    .exact absurd (Ad0.2 mzk) (c k hk dg)
   .have e2:less (λk=>k∈L) p.1=λk=>k∈L.erase p.1:=funext λk=>propext (by rw[nd.mem_erase_iff];exact And.comm)
    rw[e2];exact Eu (nd.erase _)
theorem CW (ls:List Ln):uY (bx ls) (λk=>k<ls.length) (cI ls).1 (λk=>k∈(cI ls).2):=by
 have:=Eu (ls:=ls) (n:=ls.length) (L:=cG ls.length) Ir;have e:(λk=>k∈cG ls.length)=λk=>k<ls.length:=funext λk=>propext iI
 rw[e] at this;exact this
theorem yC (T:aA)(ks:List aI)(row:List Int)(kn:List (aE×Int))(hk:ks.length<=100)(hn:kn.length<=100):rF [.tuple [T,tK ks],tI row,.dict (DN kn)]=aa (BJ (dJ ks row kn)):=by
 have:∃ d,rF [.tuple [T,tK ks],tI row,.dict (DN kn)]=aa d/\d=BJ (dJ ks row kn):=by
  rw[7];have e1:bV .s (au (ah jh (aL cB (aG (aB 1) aJ)) (aL cB (aG (ah ar (aB 0) (eC (.int 1))) aJ)))) [aa (0,.tuple [T,tK ks]),aa (0,tI row),aa (0,.dict (DN kn)),ab,ab,ab,ab]=aa (decide (row.length≠ks.length)):=dI (Oi rfl rfl);by_cases hl:row.length=ks.length
  .refine gF (sV (e1.trans (by simp[hl]))) ?_
   refine bX (aW rfl (by show(if dh (DN kn)=ae then aa (FL (DN kn)) else ab)=_;rw[vy];rfl)) (by simp) ?_
   have lz:(ks.zip row).length<=100:=by rw[AN];lia
   refine Uk (λax ρ'=>∃ x4 x5 x6:L2.Slot,ρ'=[aa (0,.tuple [T,tK ks]),aa (0,tI row),aa (0,.dict (DN kn)),aa (1,.dict (DN ax)),x4,x5,x6]) .none (eO eA kn (ks.zip row)) (Rp (q:=HD) eA _ .none (dm ?_) ⟨ab,ab,ab,rfl⟩ ?_) ?_ ?_
   .show iZ (aG (ah ar (aB 0) (eC (.int 1))) (aG (aB 1) aJ)) (vS [aa (0,.tuple [T,tK ks]),aa (0,tI row),aa (0,.dict (DN kn)),aa (1,.dict (DN kn)),ab,ab,ab])=_;unfold iZ;rw[show aG (ah ar (aB 0) (eC (.int 1))) (aG (aB 1) aJ) (vS [aa (0,.tuple [T,tK ks]),aa (0,tI row),aa (0,.dict (DN kn)),aa (1,.dict (DN kn)),ab,ab,ab])=aa [tK ks,tI row] from rfl,<-WN]
    rfl
   .rintro pre p post ax _ mn hf ⟨x4,x5,x6,rfl⟩;have u8:ax.length<=1000:=by
     have h1:=DL hf;have h2:pre.length<=(ks.zip row).length:=by rw[mn];simp
     lia
    exact⟨[aa (0,.tuple [T,tK ks]),aa (0,tI row),aa (0,.dict (DN kn)),aa (1,.dict (DN ax)),aa (0,kD p.1),aa (0,.int p.2),x6],rfl,A8 _ _ _ ax u8 p x6⟩
   .intro hf;refine⟨_,rfl,?_⟩;unfold dJ;rw[if_pos hl,hf]
    rfl
   .rintro ax hf _ ⟨x4,x5,x6,rfl⟩;refine⟨_,rfl,_,rfl,?_⟩;unfold dJ;rw[if_pos hl,hf]
    rfl
  .refine oG (eU (e1.trans (by simp[hl])) (cN rfl ⟨_,rfl,_,rfl,?_⟩))
   unfold dJ;rw[if_neg hl]
   rfl
 rw[2]
theorem YK{B:aE->List (List Int)}(b:Bk kds B wd)(t:aE)(K:aA):rN [.dict kds,.tuple [.str t,K]]=aa (bD (B t)):=by
 have:∃ d,rN [.dict kds,.tuple [.str t,K]]=aa d/\d=bD (B t):=by
  refine cU rfl (cN (b.get rfl rfl) ⟨_,rfl,rfl⟩)
 rw[2]
abbrev Kn:=List (aE×Int)
def ao (kn:Kn):aA:=.dict (DN kn)
def lA (bp:List Kn)(ks:List aI)(cn:List (List Int)):List Kn:=bp.flatMap λkn=>cn.filterMap λr=>dJ ks r kn
theorem yG {β:Type}(f:α->Option β):∀ (xs:List α) (aj:List β),xs.foldl (λa x=>a++(f x).toList) aj=aj++xs.filterMap f
 |[],aj=>by simp
 |x::xs,aj=>by
  rw[iT,yG f xs,AO];cases f x<;>simp
theorem yO {β:Type}(f:α->List β):∀ (xs:List α) (aj:List β),xs.foldl (λa x=>a++f x) aj=aj++xs.flatMap f
 |[],aj=>by simp
 |x::xs,aj=>by
  rw[iT,yO f xs,wX,Jl]
theorem Yi (t:aE)(ks:List aI)(cn:List (List Int))(bp:List Kn)(hk:ks.length<=100)(hn:∀ kn∈bp,kn.length<=100)(hm:bp.length*cn.length<=90000) :
  LV [.list (bp.map ao),bJ (t,ks),bD cn]=aa (.list ((lA bp ks cn).map ao)):=by
 have:∃ d,LV [.list (bp.map ao),bJ (t,ks),bD cn]=aa d/\d=.list ((lA bp ks cn).map ao):=by
  rw[7];refine bX rfl (by simp) ?_
  let A:List L2.Slot:=[s0 (.list (bp.map ao)),s0 (bJ (t,ks)),s0 (bD cn)]
  refine dU (λρ'=>∃ x4 x5 x6:L2.Slot,ρ'=A++[aa (1,.list ((lA bp ks cn).map ao)),x4,x5,x6]) ?_ ?_
  .refine iF (b0:=[]) (λaj kn=>aj++cn.filterMap λr=>dJ ks r kn) (λi aj ρ'=>∃ x4 x5 x6:L2.Slot,aj.length<=i*cn.length/\ρ'=A++[aa (1,.list (aj.map ao)),x4,x5,x6]) (dm (eX rfl)) ⟨ab,ab,ab,dW _,rfl⟩ ?_ ?_
   .rintro i kn aj _ hx ⟨x4,x5,x6,ha,rfl⟩;have hi:=(cJ.1 hx).1;have so:=hn kn (eM hx);have u8:(i+1)*cn.length<=90000:=dG (Nat.mul_le_mul_right _ hi) hm;have hs:(i+1)*cn.length=i*cn.length+cn.length:=Nat.succ_mul _ _;refine⟨A++[aa (1,.list (aj.map ao)),s0 (ao kn),x5,x6],rfl,?_⟩;refine iF (λaj r=>aj++(dJ ks r kn).toList) (λj bf ρ'=>∃ x5 x6:L2.Slot,bf.length<=aj.length+j/\ρ'=A++[aa (1,.list (bf.map ao)),s0 (ao kn),x5,x6]) (dm (eX rfl)) ⟨x5,x6,bB _,rfl⟩ ?_ ?_
    .rintro j r bf _ hr ⟨x5,x6,wt,rfl⟩;have hj:=(cJ.1 hr).1;refine⟨A++[aa (1,.list (bf.map ao)),s0 (ao kn),s0 (aZ r),x6],rfl,?_⟩;have hf:=yC (.str t) ks r kn hk so;refine bX (aW rfl hf) (by simp[A]) ?_
     cases Z6:dJ ks r kn with
     |none=>exact gD (dI (aO rfl rfl rfl)) (hX ⟨_,.inl rfl,_,_,by simpa using(by lia:bf.length<=aj.length+(j+1)),by rw[Option.toList_none,mS];rfl⟩)
     |some ax=>
      refine eU (dI (aO rfl rfl rfl)) (pV rfl rfl (by simp;lia) ⟨_,.inl rfl,_,_,by simp;lia,by rw[Option.toList_some,gJ];rfl⟩)
    .rintro _ ⟨x5,x6,wt,rfl⟩;refine⟨_,.inl rfl,_,_,_,?_,by rw[yG]⟩
     rw[yG] at wt
     lia
   .rintro _ ⟨x4,x5,x6,ha,rfl⟩;rw[yO];exact⟨_,rfl,_,_,_,rfl⟩
  rintro _ ⟨x4,x5,x6,rfl⟩;exact tO rfl ⟨_,rfl,rfl⟩
 rw[2]
def oP (B:aE->List (List Int)):List Ln->Nat
 |[]=>1
 |l::r=>max 1 (B l.1).length*oP B r
theorem VX (B:aE->List (List Int)):∀ (ls:List Ln) (a:Int),ls.foldl (λa l=>a*((max 1 (B l.1).length:Nat):Int)) a=a*(oP B ls:Int)
 |[],a=>by simp[oP]
 |l::r,a=>by
  rw[iT,VX B r];show _=a*((max 1 (B l.1).length*oP B r:Nat):Int);rw[PN,Int.mul_assoc]
theorem kH (ds:List aA):cB [.list ds]=aa (.int ds.length):=by simp[cB]
theorem Xg {B:aE->List (List Int)}(hB:∀ t,(B t).length<64)(ls:List Ln):DY [.list (ls.map λl=>bD (B l.1))]=aa (.int (oP B ls)):=by
 have:∃ d,DY [.list (ls.map λl=>bD (B l.1))]=aa d/\d=.int (oP B ls):=by
  rw[7];refine bX rfl (by simp) ?_
  refine dU (λρ'=>∃ x3:L2.Slot,ρ'=[s0 (.list (ls.map λl=>bD (B l.1))),s0 (.int (oP B ls)),x3]) ?_ ?_
  .refine iF (λa l=>a*((max 1 (B l.1).length:Nat):Int)) (λi a ρ'=>∃ x3:L2.Slot,ρ'=[s0 (.list (ls.map λl=>bD (B l.1))),s0 (.int a),x3]) (dm (eX rfl)) ⟨ab,rfl⟩ ?_ ?_
   .rintro i l a _ hx ⟨x3,rfl⟩;refine⟨[s0 (.list (ls.map λl=>bD (B l.1))),s0 (.int a),s0 (bD (B l.1))],rfl,?_⟩
    have kz:=hB l.1;generalize hr:B l.1=R at kz ⊢;have em:BH [.int 1,.int (R.map aZ).length]=aa (.int ((max 1 R.length:Nat):Int)):=by
     show aa (aY (if ((R.map aZ).length:Int) > 1 then((R.map aZ).length:Int) else 1))=_
     rw[cC]
     congr 2
     split<;>lia
    have hf:(((max 1 R.length:Nat):Int)).natAbs<2^64:=()
    exact vP (aO rfl (aW (aX rfl (aX (aW rfl (kH _)) rfl)) em) (mul_r hf)) (by simp) ⟨_,.inl rfl,_,rfl⟩
   .rintro _ ⟨x3,rfl⟩;rw[VX,Int.one_mul];exact⟨_,rfl,x3,rfl⟩
  rintro _ ⟨x3,rfl⟩;exact cN rfl ⟨_,rfl,rfl⟩
 rw[2]
theorem Qz{B:aE->List (List Int)}(b:Bk kds B wd)(ls:List Ln)(hl:ls.length<=1000){Y:List (Option aA)}(e1:Y[0]?.join=aa (.dict kds))(e2:Y[1]?.join=aa (.tuple (ls.map bJ))) :
  cf [ab,aa 0] (bc (aB 1)) (gB 0) cS (aL rN (aG (aB 1) (aG (aB 0) aJ))) Y=aa (.list (ls.map λl=>bD (B l.1))):=by
 have e:=SZ (cap:=[ab,aa 0]) (fi:=bc (aB 1)) (T:=gB 0) (t:=cS) (f:=aL rN (aG (aB 1) (aG (aB 0) aJ))) (λd=>match d with|.tuple [.str t,_]=>bD (B t)|d=>d) (lM e2) (by rw[cC];lia) (λd m=>by
  obtain⟨l,_,rfl⟩:=bO.1 m;refine⟨[aa (bJ l),aa (.dict kds)],?_,rfl,aW rfl (YK b l.1 _)⟩;show aa ((kZ [ab,aa 0] Y).set 0 (aa (bJ l)))=_;simp[kZ,e1])
 rw[e,dY]
 rfl
theorem B3{B:aE->List (List Int)}(b:Bk kds B wd)(ls:List Ln)(hl:ls.length<=1000)(hw:oP B ls<=4096):MP [.dict kds,.tuple (ls.map bJ)]=aa .none:=by
 have e1:MR [.list (ls.map λl=>bD (B l.1))]=aa .none:=by
  have c:bV .s (au (ah iq (aL DY (aG (aB 0) aJ)) (eC (.int 4096)))) [s0 (.list (ls.map λl=>bD (B l.1)))]=aa af:=dI (aO (aW rfl (Xg b.few ls)) rfl (by
   show aa (jW (decide ((oP B ls:Int) > 4096)))=_;rw[decide_eq_false ()]))
  show outD (EM [s0 (.list (ls.map λl=>bD (B l.1)))])=_
  unfold EM;rw[sV c]
  rfl
 show outD (EL [s0 (.dict kds),s0 (.tuple (ls.map bJ))])=_;have e2:eV 0 .s (aL MR (aG (cf [ab,aa 0] (bc (aB 1)) (gB 0) cS (aL rN (aG (aB 1) (aG (aB 0) aJ)))) aJ)) [s0 (.dict kds),s0 (.tuple (ls.map bJ))]=aa .none:=
  aW (aX (Qz b ls hl rfl rfl) rfl) e1
 unfold EL pJ;rw[e2]
 rfl
theorem Ef (bp:List Kn)(ks:List aI)(cn:List (List Int)):(lA bp ks cn).length<=bp.length*cn.length:=by
 unfold lA;induction bp with
 |nil=>simp
 |cons kn r ih=>
  rw[wX,qH,fM,Nat.succ_mul];have:=wW (λr=>dJ ks r kn) cn
  lia
theorem CK{kn ax:Kn}(h:dJ ks r kn=aa ax):ax.length<=kn.length+ks.length:=by
 unfold dJ at h;obtain⟨h1,h2⟩:=Ej h;have:=DL h2;rw[AN] at this
 lia
def rowOf (zs:List aE)(kn:Kn):List Int:=zs.map λz=>(bM kn z).getD 0
theorem KN{kn:Kn}(hl:zs.length<=1000)(h:∀ z∈zs,∃ v,bM kn z=aa v):lO [.list (zs.map bZ),ao kn]=aa (aZ (rowOf zs kn)):=by
 have:∃ d,lO [.list (zs.map bZ),ao kn]=aa d/\d=aZ (rowOf zs kn):=by
  rw[7];have e:=SZ (cap:=[ab,aa 1]) (fi:=bc (aB 0)) (T:=gB 0) (t:=cS) (f:=jA (aB 1) (aB 0) (aB 0)) (Y:=vS [s0 (.list (zs.map bZ)),s0 (ao kn)]) (λd=>match d with|.str z=>.int ((bM kn z).getD 0)|d=>d) (eX rfl) (by rw[cC];lia) (λd m=>by
   obtain⟨z,mz,rfl⟩:=bO.1 m;obtain⟨v,hv⟩:=h z mz;refine⟨[aa (.str z),aa (ao kn)],rfl,rfl,?_⟩;have:=vN (fd:=aB 1) (fk:=aB 0) (fx:=aB 0) (Y:=[aa (.str z),aa (ao kn)]) rfl rfl rfl rfl (vy kn);rw[this,tM];show _=aa (aY ((bM kn z).getD 0));rw[hv]
   rfl)
  rw[dY] at e;have e':zs.map ((λd=>match d with|.str z=>aY ((bM kn z).getD 0)|d=>d)∘bZ)=(rowOf zs kn).map aY:=by
   unfold rowOf;rw[dY]
   rfl
  rw[e'] at e;exact cN (aW (aX e rfl) rfl) ⟨_,rfl,rfl⟩
 rw[2]
def og (a b:Ln):List aE:=(bF [a]).filter λz=>decide (z∈cZ b.2)
theorem A1f {b:Ln}:z∈og a b↔(.inr z:aI)∈a.2/\(.inr z:aI)∈b.2:=by
 unfold og;rw[kA,Ae8,decide_eq_true_eq,Ad0];refine and_congr_left λ_=>?_
 constructor
 .rintro⟨l,m,h⟩;rw[cE.1 m] at h;exact Ad0.1 h
 .exact λh=>⟨a,cE.2 rfl,Ad0.2 h⟩
theorem Aq(h:hG l):(bF [l]).length<=6:=by
 have h1:=yN (cZ l.2) [];have h2:(cZ l.2).length<=l.2.length:=wW _ _;have h3:=h.1;have e:bF [l]=(cZ l.2).foldl dD []:=by
  unfold bF fQ;simp
 rw[e];simp at h1
 lia
theorem Qp {b:Ln}(h:hG a):(og a b).length<=6:=dG (FU _ _) (Aq h)
theorem G3 {b:Ln}(ha:hG a):KF [bJ a,bJ b]=aa (.list ((og a b).map bZ)):=by
 have el:=vT (λx m=>by rw[cE.1 m];exact ha) (by simp)
 have:∃ d,KF [bJ a,bJ b]=aa d/\d=.list ((og a b).map bZ):=by
  rw[7];refine cN ?_ ⟨_,rfl,rfl⟩;refine fS (λz=>decide (z∈cZ b.2)) bZ (eX (aW (aX (pR rfl) rfl) el)) (dG (Aq ha) nofun) λz _=>?_
  refine⟨[aa (.str z),aa (bJ b)],rfl,?_,λ_=>rfl⟩
  exact dI (aO rfl rfl (Ft z b.2))
 rw[2]
theorem UB(h6:l.2.length<=6)(hz:∀ z∈zs,(.inr z:aI)∈l.2)(hl:zs.length<=1000)(hr:∃ v,r=l.2.map (tv v)):tR [bJ l,tI r,.list (zs.map bZ)]=aa (aZ (iV l.2 zs r)):=by
 obtain⟨v,rfl⟩:=hr;obtain⟨kn,ef,hk⟩:=NQ l.2 v;have e1:=yC (.str l.1) l.2 (l.2.map (tv v)) [] () (by simp)
 rw[ef] at e1;have e2:=KN hl λz m=>⟨_,hk z (hz z m)⟩
 have e3:rowOf zs kn=iV l.2 zs (l.2.map (tv v)):=by
  rw[CI hz];exact jG λz m=>by rw[hk z (hz z m)];rfl
 have:∃ d,tR [bJ l,tI (l.2.map (tv v)),.list (zs.map bZ)]=aa d/\d=aZ (iV l.2 zs (l.2.map (tv v))):=by
  rw[7];refine cN (aW (aX rfl (aX (aW rfl e1) rfl)) (by rw[<-e3];exact e2)) ⟨_,rfl,rfl⟩
 rw[2]
def xg (r:List Int):List aA×aA:=(r.map aY,.bool ae)
theorem ZN:∀ (U:List (List Int)),sF (U.map λr=>cW [aZ r,.bool ae])=aa (U.map xg)
 |[]=>rfl
 |r::U=>by
  show(if (bR (r.map aY)&&decide (cT (r.map aY)<=6))=ae then(sF (U.map λr=>cW [aZ r,.bool ae])).bind λps=>aa ((r.map aY,jW ae)::ps) else ab)=_
  rw[yJ,GG,if_pos (decide_eq_true (dG (DP r) nofun)),ZN U]
  rfl
theorem WT {a b:List Int}(h:a.map aY=b.map aY):a=b:=by
 have:=congrArg (List.map sr) h
 rwa [tP,tP] at this
theorem Sz (K:List (List Int))(k:List Int):kg af (aZ k) (.dict ((.none,.none)::mI (K.map xg) []))=aa (.bool (K.contains k)):=by
 show(if (bR (k.map aY)&&decide (cT (k.map aY)<=6))=ae then aa (jW (af != (lB (mI (K.map xg) []) (k.map aY)).isSome)) else ab)=_
 have hk:∀ p∈K.map xg,bR p.1=ae:=λp m=>by
  obtain⟨r,_,rfl⟩:=bO.1 m;exact yJ r
 rw[yJ,GG,if_pos (decide_eq_true (dG (DP k) nofun)),Ye hk (yJ k)]
 have e:decide (k.map aY∈(K.map xg).map (·.1))=K.contains k:=by
  rw[nY,decide_eq_true_eq,List.contains_iff_mem,dY,bO];constructor
  .rintro⟨r,m,e⟩;exact WT e ▸ m
  .exact λm=>⟨k,m,rfl⟩
 rw[e];cases K.contains k<;>rfl
theorem Bi {b:Ln}(ha:hG a)(hb:hG b){U:List (List Int)}(hR:∀ r∈R,∃ v,r=a.2.map (tv v))(hU:∀ r∈U,∃ v,r=b.2.map (tv v))(lR:R.length<=1000)(lU:U.length<=1000) :
  EI [bJ a,bD R,bJ b,bD U]=aa (bD (uR a.2 b.2 (og a b) R U)):=by
 have hl:(og a b).length<=1000:=dG (Qp ha) nofun
 have ka:∀ r∈R,tR [bJ a,tI r,.list ((og a b).map bZ)]=aa (aZ (iV a.2 (og a b) r)):=λr m=>UB ha.1 (λz mz=>(A1f.1 mz).1) hl (hR r m)
 have kb:∀ r∈U,tR [bJ b,tI r,.list ((og a b).map bZ)]=aa (aZ (iV b.2 (og a b) r)):=λr m=>UB hb.1 (λz mz=>(A1f.1 mz).2) hl (hU r m)
 have ec:=G3 (b:=b) ha;unfold uR;generalize og a b=zs at ka kb ec;have:∃ d,EI [bJ a,bD R,bJ b,bD U]=aa d/\d=bD (R.filter λr=>(U.map (iV b.2 zs)).contains (iV a.2 zs r)):=by
  rw[7];refine bX (aW rfl ec) (by simp) ?_
  refine bX (d:=.dict ((.none,.none)::mI ((U.map (iV b.2 zs)).map xg) [])) (aW (ds:=[.list ((U.map (iV b.2 zs)).map λr=>cW [aZ r,.bool ae])]) (aX ?_ rfl) ?_) (by simp) ?_
  .have:=fS (cap:=[ab,aa 2,aa 4]) (fi:=bc (aB 3)) (T:=gB 0) (t:=cS) (f:=fU (aG (aL tR (aG (aB 1) (aG (aB 0) (aG (aB 2) aJ)))) (aG (eC (.bool ae)) aJ)))
    (Y:=vS [s0 (bJ a),s0 (bD R),s0 (bJ b),s0 (bD U),s0 (.list (zs.map bZ)),ab]) (λ_=>ae) (λr=>cW [aZ (iV b.2 zs r),.bool ae]) (eX rfl) () λr m=>⟨[aa (aZ r),aa (bJ b),aa (.list (zs.map bZ))],rfl,rfl,λ_=>pR (aX (aW rfl (kb r m)) rfl)⟩
   rw[kU.2 λ_ _=>rfl] at this
   rw[dY];exact this
  .show(sF _).bind _=_;rw[ZN]
   rfl
  refine cN ?_ ⟨_,rfl,rfl⟩;refine fS (λr=>(U.map (iV b.2 zs)).contains (iV a.2 zs r)) aZ (eX rfl) () λr m=>⟨[aa (aZ r),aa (.dict ((.none,.none)::mI ((U.map (iV b.2 zs)).map xg) [])),aa (bJ a),aa (.list (zs.map bZ))],rfl,?_,λ_=>rfl⟩
  exact dI (aO (aW rfl (ka r m)) rfl (Sz _ _))
 rw[2]
theorem JK{P:Out->Prop}{jn:Nat}(h:f (vA Y)=aa d)(hf:gE 1 d=ae)(hg:getL i Y=aa ds)(hk:g (vS Y)=aa (.int j))(hj:gb ds.length j=aa jn)(k:P (.nx (Y.set i (aa (1,.list (ds.set jn d)))))):Goes (vC i .a f .s g) Y P:=⟨_,by
 unfold vC;rw[O5 h hf,bQ,hg,bQ];show((g (vS Y)).bind _)=_;rw[hk,bQ];show((gb ds.length j).bind λj=>aa (Out.nx (Y.set i (aa (1,.list (ds.set j d))))))=_
 rw[hj,bQ],k⟩
def bg (t:dH):aA:=.list (t.map bD)
def ke (ls:List Ln)(a b:Nat):List aE:=og (ls.getD a bw) (ls.getD b bw)
theorem NO (ls:List Ln):Cm (bx ls) (ke ls):=λa b z=>A1f
theorem tD(h:k<t.length):ar (bg t) (.int k)=aa (bD (t.getD k [])):=by
 refine vO ?_;rw[eZ,fN h];simp[gX,h]
theorem BQ(R:List (List Int)):(t.map bD).set k (bD R)=(t.set k R).map bD:=by rw[PB]
theorem IR (R:List (List Int)):gE 1 (bD R)=ae:=by
 exact dQ.2 λd m=>by
  obtain⟨r,_,rfl⟩:=bO.1 m;exact JR r
theorem Xh(ho:∀ l∈ls,hG l)(hn:ls.length<=50)(hl:t.length=ls.length)(hf:iW (bx ls) t)(hs:∀ k,(t.getD k []).length<=1000) :
  MU [aq ls,bg t]=aa (bg (om (bx ls) (ke ls) t (cI ls).1)):=by
 obtain⟨_,s2⟩:=tT (CW ls);have ok:∀ k,k<ls.length->hG (ls.getD k bw):=λk h=>by
  have:ls.getD k bw=ls[k]:=by simp[gX,h]
  rw[this];exact ho _ (oZ h)
 have:∃ d,MU [aq ls,bg t]=aa d/\d=bg (om (bx ls) (ke ls) t (cI ls).1):=by
  rw[7];refine bX (aW rfl rfl) (by simp) ?_
  refine dU (λρ'=>∃ x3 x4:L2.Slot,ρ'=[s0 (aq ls),s0 (bg t),aa (1,bg (om (bx ls) (ke ls) t (cI ls).1)),x3,x4]) ?_ ?_
  .refine iF (xs:=(cI ls).1) (q:=jM) (λt q=>kj (bx ls) (ke ls) t q.2 q.1) (λ_ t' ρ'=>(iW (bx ls) t'/\t'.length=ls.length/\∀ k,(t'.getD k []).length<=1000)/\∃ x3 x4:L2.Slot,ρ'=[s0 (aq ls),s0 (bg t),aa (1,bg t'),x3,x4]) (dm (eX ?_)) ⟨⟨hf,hl,hs⟩,ab,ab,rfl⟩ ?_ ?_
   .show((aL lH (aG (aB 0) aJ)) (vS [s0 (aq ls),s0 (bg t),aa (1,bg t),ab,ab])).bind (xy 0)=_;rw[aW rfl (IY ho hn)]
    rfl
   .rintro i q t' _ hq ⟨⟨g1,g2,g3⟩,x3,x4,rfl⟩;obtain⟨m1,m2⟩:=s2 q (eM hq);have k1:q.1<t'.length:=by rw[g2];exact m1
    have k2:q.2<t'.length:=by rw[g2];exact m2
    refine⟨[s0 (aq ls),s0 (bg t),aa (1,bg t'),s0 (.int q.1),s0 (.int q.2)],rfl,?_⟩;have ep:=Bi (ok _ m2) (ok _ m1) (g1 q.2) (g1 q.1) (g3 _) (g3 _);refine JK (aW (aX (aO rfl rfl (pU m2)) (aX (aO rfl rfl (tD k2)) (aX (aO rfl rfl (pU m1)) (aX (aO rfl rfl (tD k1)) rfl)))) ep) (IR _) rfl rfl (rE (by rw[cC];exact k2)) ⟨_,.inl rfl,⟨CN g1 k2,(vK _ _ _).trans g2,λk=>dG (IK k2 k).length_le (g3 k)⟩,s0 (.int q.1),s0 (.int q.2),?_⟩
    rw[BQ]
    rfl
   .rintro _ ⟨_,x3,x4,rfl⟩;exact⟨_,rfl,x3,x4,rfl⟩
  rintro _ ⟨x3,x4,rfl⟩;exact tO rfl ⟨_,rfl,rfl⟩
 rw[2]
theorem Zt(ho:∀ l∈ls,hG l)(hn:ls.length<=50)(hl:t.length=ls.length)(hf:iW (bx ls) t)(hs:∀ k,(t.getD k []).length<=1000) :
  MK [aq ls,bg t]=aa (bg (lu (bx ls) (ke ls) t (cI ls).1)):=by
 obtain⟨_,s2⟩:=tT (CW ls);have ok:∀ k,k<ls.length->hG (ls.getD k bw):=λk h=>by
  have:ls.getD k bw=ls[k]:=by simp[gX,h]
  rw[this];exact ho _ (oZ h)
 have:∃ d,MK [aq ls,bg t]=aa d/\d=bg (lu (bx ls) (ke ls) t (cI ls).1):=by
  rw[7];refine bX (aW rfl rfl) (by simp) ?_
  refine dU (λρ'=>∃ x3 x4:L2.Slot,ρ'=[s0 (aq ls),s0 (bg t),aa (1,bg (lu (bx ls) (ke ls) t (cI ls).1)),x3,x4]) ?_ ?_
  .refine iF (xs:=(cI ls).1.reverse) (q:=jM) (λt q=>kj (bx ls) (ke ls) t q.1 q.2) (λ_ t' ρ'=>(iW (bx ls) t'/\t'.length=ls.length/\∀ k,(t'.getD k []).length<=1000)/\∃ x3 x4:L2.Slot,ρ'=[s0 (aq ls),s0 (bg t),aa (1,bg t'),x3,x4]) (dm ?_) ⟨⟨hf,hl,hs⟩,ab,ab,rfl⟩ ?_ ?_
   .have e0:nN 0 (aL lH (aG (aB 0) aJ)) (vS [s0 (aq ls),s0 (bg t),aa (1,bg t),ab,ab])=aa (.list ((cI ls).1.map jM)):=by
     show((aL lH (aG (aB 0) aJ)) (vS [s0 (aq ls),s0 (bg t),aa (1,bg t),ab,ab])).bind (xy 0)=_;rw[aW rfl (IY ho hn)]
     rfl
    have e1:aG (nN 0 (aL lH (aG (aB 0) aJ))) aJ (vS [s0 (aq ls),s0 (bg t),aa (1,bg t),ab,ab])=aa [.list ((cI ls).1.map jM)]:=aX e0 rfl;show(aG (nN 0 (aL lH (aG (aB 0) aJ))) aJ (vS [s0 (aq ls),s0 (bg t),aa (1,bg t),ab,ab])).bind _=_;rw[e1];show aa ((cI ls).1.map jM).reverse=_;rw[List.map_reverse]
   .rintro i q t' _ hq ⟨⟨g1,g2,g3⟩,x3,x4,rfl⟩;obtain⟨m1,m2⟩:=s2 q (List.mem_reverse.1 (eM hq));have k1:q.1<t'.length:=by rw[g2];exact m1
    have k2:q.2<t'.length:=by rw[g2];exact m2
    refine⟨[s0 (aq ls),s0 (bg t),aa (1,bg t'),s0 (.int q.1),s0 (.int q.2)],rfl,?_⟩;have ep:=Bi (ok _ m1) (ok _ m2) (g1 q.1) (g1 q.2) (g3 _) (g3 _);refine JK (aW (aX (aO rfl rfl (pU m1)) (aX (aO rfl rfl (tD k1)) (aX (aO rfl rfl (pU m2)) (aX (aO rfl rfl (tD k2)) rfl)))) ep) (IR _) rfl rfl (rE (by rw[cC];exact k1)) ⟨_,.inl rfl,⟨CN g1 k1,(vK _ _ _).trans g2,λk=>dG (IK k1 k).length_le (g3 k)⟩,s0 (.int q.1),s0 (.int q.2),?_⟩
    rw[BQ]
    rfl
   .rintro _ ⟨_,x3,x4,rfl⟩;exact⟨_,rfl,x3,x4,rfl⟩
  rintro _ ⟨x3,x4,rfl⟩;exact tO rfl ⟨_,rfl,rfl⟩
 rw[2]
def kf (B:aE->List (List Int))(l:Ln):List (List Int):=pq ((B l.1).filter λr=>(dJ l.2 r []).isSome)
theorem Atd {B:aE->List (List Int)}:r∈kf B l↔r∈B l.1/\∃ v,r=l.2.map (tv v):=by
 unfold kf;rw[Gj,kA];refine and_congr_right λ_=>?_
 rw[wQ];exact Sa
theorem Tu (B:aE->List (List Int))(l:Ln):(kf B l).length<=(B l.1).length:=by
 unfold kf;rw[Ec];exact FU _ _
section
variable {B:aE->List (List Int)}
theorem Xm (b:Bk kds B wd)(h6:l.2.length<=6):DU [.dict kds,bJ l]=aa (bD (kf B l)):=by
 have es:xS [bD ((B l.1).filter λr=>(dJ l.2 r []).isSome)]=aa (bD (kf B l)):=En (b.pos l.1) (λr m=>b.wid l.1 r (kA.1 m).1) (FP (FU _ _) (b.few l.1))
 have:∃ d,DU [.dict kds,bJ l]=aa d/\d=bD (kf B l):=by
  have e:=fS (cap:=[ab,aa 1]) (fi:=bc (aL rN (aG (aB 0) (aG (aB 1) aJ)))) (T:=gB 0) (t:=au (ah lF (aL rF (aG (aB 1) (aG (aB 0) (aG (eC (.dict [])) aJ)))) (eC .none))) (f:=aB 0)
   (Y:=vS [s0 (.dict kds),s0 (bJ l)]) (λr=>(dJ l.2 r []).isSome) aZ (eX (aW rfl (YK b l.1 _))) (by have:=b.few l.1;lia) (λr m=>by
    refine⟨[aa (aZ r),aa (bJ l)],rfl,?_,λ_=>rfl⟩
    have hf:=yC (.str l.1) l.2 r [] () (by simp)
    refine dI (aO (aW rfl hf) rfl ?_);cases dJ l.2 r []<;>rfl)
  refine cU rfl (cN (aW (aX e rfl) es) ⟨_,rfl,rfl⟩)
 rw[2]
theorem h7 (b:Bk kds B wd)(h6:∀ l∈ls,l.2.length<=6)(hn:ls.length<=50):MQ [.dict kds,aq ls]=aa (bg (ls.map (kf B))):=by
 have:∃ d,MQ [.dict kds,aq ls]=aa d/\d=bg (ls.map (kf B)):=by
  have e:=fS (cap:=[ab,aa 0]) (fi:=bc (aB 1)) (T:=gB 0) (t:=cS) (f:=aL DU (aG (aB 1) (aG (aB 0) aJ)))
   (Y:=vS [s0 (.dict kds),s0 (aq ls)]) (λ_=>ae) (λl=>bD (kf B l)) rfl () λl m=>⟨[aa (bJ l),aa (.dict kds)],rfl,rfl,λ_=>aW rfl (Xm b (h6 l m))⟩
  rw[kU.2 λ_ _=>rfl] at e
  refine cU rfl (cN ?_ ⟨_,rfl,rfl⟩);unfold bg;rw[dY];exact e
 rw[2]
theorem Th (ls:List Ln):iW (bx ls) (ls.map (kf B)):=λk r m=>by
 rw[gX,eZ] at m;unfold bx;rw[gX];cases h:ls[k]? with
 |none=>rw[h] at m;simp at m
 |some l=>
  rw[h] at m;exact(Atd.1 m).2
end
abbrev LR:=Ln×List (List Int)
def fO:List LR->Nat
 |[]=>1
 |p::r=>max 1 p.2.length*fO r
theorem VL:∀ ps,1<=fO ps
 |[]=>bB _
 |p::r=>FN (Nat.le_max_left 1 p.2.length) (VL r)
theorem JP:∀ xs ys,fO (xs++ys)=fO xs*fO ys
 |[],ys=>(Nat.one_mul _).symm
 |p::r,ys=>by
  show max 1 p.2.length*fO (r++ys)=max 1 p.2.length*fO r*fO ys;rw[JP r ys,Nat.mul_assoc]
theorem F4 (ps:List LR)(i:Nat):fO (ps.take i)<=fO ps:=by
 have e:fO ps=fO (ps.take i)*fO (ps.drop i):=by rw[<-JP,Ip]
 rw[e];exact Nat.le_mul_of_pos_right _ (VL _)
def fI (ps:List LR):List Kn:=ps.foldl (λbp p=>lA bp p.1.2 p.2) [[]]
theorem WD (f g:LR->aA):∀ ps:List LR,AI pairD (ps.map f) (ps.map g)=ps.map λp=>pairD (f p) (g p)
 |[]=>rfl
 |p::r=>by
  rw[dC,dC,List.zipWith_cons_cons,WD f g r,dC]
theorem Yb (ps:List LR)(hl:ps.length<=16)(h6:∀ p∈ps,p.1.2.length<=6)(hw:fO ps<=4096) :
  JQ [.tuple (ps.map λp=>bJ p.1),.list (ps.map λp=>bD p.2)]=aa (.list ((fI ps).map ao))/\(fI ps).length<=fO ps/\∀ kn∈fI ps,kn.length<=96:=by
 have:∃ d,JQ [.tuple (ps.map λp=>bJ p.1),.list (ps.map λp=>bD p.2)]=aa d/\d=.list ((fI ps).map ao)/\(fI ps).length<=fO ps/\∀ kn∈fI ps,kn.length<=96:=by
  rw[7];refine bX (xP rfl) (by simp) ?_
  let A:List L2.Slot:=[s0 (.tuple (ps.map λp=>bJ p.1)),s0 (.list (ps.map λp=>bD p.2))]
  refine dU (λρ'=>∃ x3 x4:L2.Slot,(fI ps).length<=fO ps/\(∀ kn∈fI ps,kn.length<=96)/\ρ'=A++[s0 (.list ((fI ps).map ao)),x3,x4]) ?_ ?_
  .refine iF (xs:=ps) (q:=λp=>pairD (bJ p.1) (bD p.2)) (b0:=[[]]) (λbp p=>lA bp p.1.2 p.2) (λi bp ρ'=>∃ x3 x4:L2.Slot,bp.length<=fO (ps.take i)/\(∀ kn∈bp,kn.length<=6*i)/\ρ'=A++[s0 (.list (bp.map ao)),x3,x4]) (dm ?_) ⟨ab,ab,bB _,λkn m=>by rw[cE.1 m];simp,rfl⟩ ?_ ?_
   .rw[<-WD];exact RT rfl rfl rfl
   .rintro i p bp _ hx ⟨x3,x4,hk,so,rfl⟩;have hi:=(cJ.1 hx).1;have h6':=h6 p (eM hx);have ht:ps.take (i+1)=ps.take i++[p]:=by rw[AK,hx];rfl
    have V2:fO (ps.take (i+1))=fO (ps.take i)*max 1 p.2.length:=by
     rw[ht,JP];show _*(max 1 p.2.length*1)=_;rw[Nat.mul_one]
    have hm:bp.length*p.2.length<=fO (ps.take (i+1)):=by
     rw[V2];exact FN hk (Nat.le_max_right _ _)
    have u8:=F4 ps (i+1);refine⟨A++[s0 (.list (bp.map ao)),s0 (bJ p.1),s0 (bD p.2)],rfl,?_⟩;refine vP (aW rfl (Yi p.1.1 p.1.2 p.2 bp () (λkn m=>by have:=so kn m;lia) ())) (by simp[A]) ⟨_,.inl rfl,_,_,dG (Ef _ _ _) hm,λax m=>?_,rfl⟩
    obtain⟨kn,mk,m⟩:=FS.1 m;obtain⟨r,_,e⟩:=uG.1 m;have:=CK e;have:=so kn mk
    lia
   .rintro _ ⟨x3,x4,h1,h2,rfl⟩;rw[AJ] at h1;exact⟨_,rfl,_,_,h1,λkn m=>by have:=h2 kn m;lia,rfl⟩
  rintro _ ⟨x3,x4,h1,h2,rfl⟩;exact cN rfl ⟨_,rfl,rfl,h1,h2⟩
 obtain⟨d,e,rfl,h1,h2⟩:=this;exact⟨e,h1,h2⟩
def cV (kn:Kn):aE->Int:=λz=>(bM kn z).getD 0
def pE (kn:Kn)(v:aE->Int)(ks:List aI):Prop:=∀ z,(.inr z:aI)∈ks->bM kn z=aa (v z)
theorem MO{kn ax:Kn}(h:dJ ks r kn=aa ax):r.length=ks.length/\(∀ z u,bM kn z=aa u->bM ax z=aa u)/\∀ p∈ks.zip r,(∀ i,p.1=.inl i->p.2=i)/\∀ z,p.1=.inr z->bM ax z=aa p.2:=by
 unfold dJ at h;obtain⟨h1,h2⟩:=Ej h;obtain⟨a,b,_⟩:=vZ h2;exact⟨h1,a,b⟩
theorem JV{kn ax:Kn}(h:dJ ks r kn=aa ax):r=ks.map (tv (cV ax))/\pE ax (cV ax) ks:=by
 obtain⟨hl,_,b⟩:=MO h;have key:∀ j (hj:j<ks.length) (hr:j<r.length),(∀ i,ks[j]=.inl i->r[j]=i)/\∀ z,ks[j]=.inr z->bM ax z=aa r[j]:=λj hj hr=>by
  have hz:j<(ks.zip r).length:=by rw[AN];lia
  have:=b (ks.zip r)[j] (oZ hz);rw[List.getElem_zip] at this;exact this
 refine⟨FZ (by rw[cC];exact hl) λj h1 h2=>?_,λz mz=>?_⟩
 .rw[List.getElem_map];have hj:j<ks.length:=()
  obtain⟨k1,k2⟩:=key j hj h1;cases hk:ks[j] with
  |inl i=>exact k1 i hk
  |inr z=>
   show r[j]=(bM ax z).getD 0;rw[k2 z hk]
   rfl
 .obtain⟨j,hj,e⟩:=uI mz;have:=(key j hj ()).2 z e
  unfold cV;rw[this]
  rfl
theorem Qj {kn ax:Kn}(h:pE kn (cV kn) ks)(k:∀ z u,bM kn z=aa u->bM ax z=aa u):pE ax (cV ax) ks/\ks.map (tv (cV ax))=ks.map (tv (cV kn)):=by
 have e:∀ z,(.inr z:aI)∈ks->bM ax z=aa (cV kn z):=λz m=>k z _ (h z m)
 have e2:∀ z,(.inr z:aI)∈ks->cV ax z=cV kn z:=λz m=>by
  show(bM ax z).getD 0=_;rw[e z m]
  rfl
 exact⟨λz m=>by rw[e2 z m];exact e z m,vF e2⟩
def GP (ps:List LR)(kn:Kn):Prop:=∀ p∈ps,pE kn (cV kn) p.1.2/\p.1.2.map (tv (cV kn))∈p.2
theorem YY:∀ (rest wu:List LR) (bp:List Kn),(∀ kn∈bp,GP wu kn)->∀ kn∈rest.foldl (λbp p=>lA bp p.1.2 p.2) bp,GP (wu++rest) kn
 |[],wu,bp,h=>by rw[mS];exact h
 |q::rest,wu,bp,h=>by
  have e:wu++q::rest=(wu++[q])++rest:=by simp
  rw[e,iT];refine YY rest (wu++[q]) _ λkn m=>?_
  obtain⟨k0,mk,m⟩:=FS.1 m;obtain⟨r,mr,ef⟩:=uG.1 m;intro p mp;rcases kT.1 mp with mp|mp
  .obtain⟨a,b⟩:=h k0 mk p mp;obtain⟨c,d⟩:=Qj a (MO ef).2.1;exact⟨c,d ▸ b⟩
  .rw[cE.1 mp];obtain⟨a,b⟩:=JV ef;exact⟨b,a ▸ mr⟩
theorem vX (ps:List LR):∀ kn∈fI ps,GP ps kn:=by
 have:=YY ps [] [[]] λkn _ p m=>by simp at m
 rwa [List.nil_append] at this
def oB (kn:Kn)(v:aE->Int):Prop:=∀ z u,bM kn z=aa u->u=v z
theorem yK{kn:Kn}(h:oB kn v):∃ ax,dJ ks (ks.map (tv v)) kn=aa ax/\oB ax v:=by
 obtain⟨ax,e⟩:=yL (ps:=ks.zip (ks.map (tv v))) (λp m i q=>by rw[(rQ m).2,q];rfl) (λp m z u q e=>by rw[(rQ m).2,q,h z u e];rfl) (λp m p' m' z q q'=>by rw[(rQ m).2,(rQ m').2,q,q'])
 refine⟨ax,?_,λz u eu=>?_⟩
 .unfold dJ;rw[if_pos (by rw[cC])]
  exact e
 .obtain⟨_,b,c⟩:=vZ e;rcases c z u eu with c|⟨p,mp,q⟩
  .exact h z u c
  .have e1:=(b p mp).2 z q;rw[eu] at e1;rw[fF e1,(rQ mp).2,q]
   rfl
theorem LX:∀ (rest:List LR) (bp:List Kn),(∃ kn∈bp,oB kn v)->(∀ p∈rest,p.1.2.map (tv v)∈p.2)->∃ kn∈rest.foldl (λbp p=>lA bp p.1.2 p.2) bp,oB kn v
 |[],bp,h,_=>h
 |q::rest,bp,⟨k0,m0,h0⟩,h=>by
  rw[iT];refine LX rest _ ?_ λp m=>h p (bL _ m)
  obtain⟨k1,e1,h1⟩:=yK h0;exact⟨k1,FS.2 ⟨k0,m0,uG.2 ⟨_,h q bE,e1⟩⟩,h1⟩
theorem C2 {ps:List LR}{p:LR}(hp:p∈ps):r∈(fI ps).map (λkn=>p.1.2.map (tv (cV kn))) ↔ ∃ v,(∀ q∈ps,q.1.2.map (tv v)∈q.2)/\r=p.1.2.map (tv v):=by
 rw[bO];constructor
 .rintro⟨kn,m,rfl⟩;exact⟨cV kn,λq mq=>(vX ps kn m q mq).2,rfl⟩
 .rintro⟨v,h,rfl⟩;obtain⟨kn,m,ha⟩:=LX ps [[]] ⟨[],cE.2 rfl,λz u e=>by cases e⟩ h
  refine⟨kn,m,vF λz mz=>ha z _ ((vX ps kn m p hp).1 z mz)⟩
theorem CL {kn:Kn}(h:pE kn v ks){k:aI}(mk:k∈ks):jA (aB 1) (aB 0) (aB 0) [aa (kD k),aa (ao kn)]=aa (.int (tv v k)):=by
 cases k with
 |inl i=>
  rw[vN rfl rfl rfl rfl (vy kn),XY]
  rfl
 |inr z=>
  rw[vN rfl rfl rfl rfl (vy kn),tM,h z mk]
  rfl
theorem Xw{kn:Kn}(hl:ks.length<=1000)(h:pE kn v ks):lO [tK ks,ao kn]=aa (aZ (ks.map (tv v))):=by
 have:∃ d,lO [tK ks,ao kn]=aa d/\d=aZ (ks.map (tv v)):=by
  rw[7];have e:=fS (cap:=[ab,aa 1]) (fi:=bc (aB 0)) (T:=gB 0) (t:=cS) (Y:=vS [s0 (tK ks),s0 (ao kn)]) (λ_=>ae) (λk=>aY (tv v k)) (lM rfl) () λk mk=>⟨[aa (kD k),aa (ao kn)],rfl,rfl,λ_=>CL h mk⟩
  rw[kU.2 λ_ _=>rfl] at e
  refine cN (aW (aX e rfl) ?_) ⟨_,rfl,rfl⟩;show aa (cW _)=aa (cW ((ks.map (tv v)).map aY));rw[dY]
  rfl
 rw[2]
theorem Ck[DecidableEq α]:∀ (zs aj:List α),aj.Nodup->(zs.foldl dD aj).Nodup
 |[],aj,h=>h
 |z::zs,aj,h=>by
  rw[iT];refine Ck zs _ ?_;unfold dD;split
  .exact h
  .rename_i hz;exact rX.2 ⟨h,by simp,λa ha b hb e=>hz (by rw[cE] at hb;rw[<-hb,<-e];exact ha)⟩
theorem IA[DecidableEq α](zs:List α):(fQ zs).Nodup:=Ck zs [] wV
theorem XO[DecidableEq α]{zs ys:List α}(h:∀ z∈zs,z∈ys):(fQ zs).length<=ys.length:=PM (IA zs) λz m=>h z (Aec.1 m)
theorem F5 (R:List (List Int)):gP (R.map λr=>r.map aY)=(fQ R).map λr=>r.map aY:=by
 have go:∀ (R aj:List (List Int)),(R.map λr=>r.map aY).foldl mF (aj.map λr=>r.map aY)=(R.foldl dD aj).map λr=>r.map aY:=by
  intro R;induction R with
  |nil=>intro aj;rfl
  |cons r R ih=>
   intro aj;rw[dC,iT,iT,<-ih]
   congr 1
   unfold mF dD;by_cases h:r∈aj
   .rw[if_pos h,if_pos (bO.2 ⟨r,h,rfl⟩)]
   .rw[if_neg h,if_neg λm=>by
     obtain⟨x,mx,e⟩:=bO.1 m;exact h (WT e ▸ mx),gJ]
    rfl
 exact go R []
theorem Ku (R:List (List Int)):∀ k∈R.map λr=>r.map aY,qQ k:=λk m d md=>by
 obtain⟨r,_,rfl⟩:=bO.1 m;obtain⟨i,_,rfl⟩:=bO.1 md;exact⟨i,rfl⟩
theorem Xr(hn:1<=n)(hw:∀ r∈R,r.length=n)(hl:(fQ R).length<64):KY [bD R]=aa (bD (pq (fQ R))):=by
 have e:=En hn (λr m=>hw r (Aec.1 m)) hl
 have e:((iA ((fQ R).map aZ)).bind λkss=>if ib kss=ae/\kss.length<64 then aa (AC ((gZ kss).map cW)) else ab)=aa (bD (pq (fQ R))):=e
 show((iA (R.map aZ)).bind _)=_;rw[LB,bQ] at e ⊢;rw[F5];obtain⟨⟨a,b⟩,c⟩:=cM e;exact(if_pos ⟨⟨b,a⟩,Ku R⟩).trans (by rw[c])
def gR (ls:List Ln)(t:dH):List LR:=(cI ls).2.map λk=>(ls.getD k bw,t.getD k [])
theorem vL(h:k∈(cI ls).2):k<ls.length:=(tT (CW ls)).1 k h
theorem WB (ls:List Ln):(cI ls).2.length<=ls.length:=by
 have:=(Fc (ls:=ls) (n:=ls.length) (L:=cG ls.length)).2;rw[FT] at this;exact this
theorem JH(ho:∀ l∈ls,hG l)(hn:ls.length<=50){Y:List (Option aA)}(h:Y[0]?.join=aa (aq ls)):nN 1 (aL lH (aG (aB 0) aJ)) Y=aa (lN (cI ls).2):=by
 unfold nN;rw[aW (aX h rfl) (IY ho hn)]
 rfl
theorem Ha {m:Nat}(hm:1<=m):∀ {ps:List LR},(∀ p∈ps,p.2.length<=m)->fO ps<=m^ps.length
 |[],_=>bB _
 |p::ps,h=>by
  rw[fM,wR,Nat.mul_comm];exact FN (Nat.max_le.2 ⟨hm,h p bE⟩) (Ha hm λq mq=>h q (bL _ mq))
theorem Fp {B:aE->List (List Int)}{m:Nat}(hm:1<=m)(h:∀ t,(B t).length<=m):∀ ls:List Ln,oP B ls<=m^ls.length
 |[]=>bB _
 |l::ls=>by
  rw[fM,wR,Nat.mul_comm];exact FN (Nat.max_le.2 ⟨hm,h l.1⟩) (Fp hm h ls)
theorem HX(h:n<=4):5^n<=4096:=dG (Nat.pow_le_pow_right nofun h) nofun
structure Lok (ls:List Ln):Prop where
 ok:∀ l∈ls,hG l
 w1:∀ l∈ls,1<=l.2.length
 n4:ls.length<=4
theorem Lok.atR(h:Lok ls)(hk:k<ls.length):hG (ls.getD k bw)/\1<=(ls.getD k bw).2.length:=by
 have e:ls.getD k bw=ls[k]:=by simp[gX,hk]
 rw[e];exact⟨h.ok _ (oZ hk),h.w1 _ (oZ hk)⟩
theorem Zs(L:Lok ls)(hl:t.length=ls.length)(hs:∀ k,(t.getD k []).length<=5) :
  ML [aq ls,bg t]=aa (.list ((fI (gR ls t)).map ao))/\(fI (gR ls t)).length<=4096:=by
 have hr:=WB ls;have n4:=L.n4;have hw:fO (gR ls t)<=4096:=dG (Ha nofun λp m=>by
  obtain⟨k,_,rfl⟩:=bO.1 m;exact hs k) (HX (by unfold gR;rw[cC];lia))
 obtain⟨e,h1,_⟩:=Yb (gR ls t) (by unfold gR;rw[cC];lia) (λp m=>by
  obtain⟨k,mk,rfl⟩:=bO.1 m;exact(L.atR (vL mk)).1.1) hw
 refine⟨?_,()⟩
 have:∃ d,ML [aq ls,bg t]=aa d/\d=.list ((fI (gR ls t)).map ao):=by
  rw[7];refine bX (JH L.ok () rfl) (by simp) ?_
  have e1:=fS (cap:=[ab,aa 0]) (fi:=bc (aB 2)) (T:=gB 0) (t:=cS) (f:=ah ar (aB 1) (aB 0)) (Y:=vS [s0 (aq ls),s0 (bg t),s0 (lN (cI ls).2)]) (λ_=>ae) (λk=>bJ (ls.getD k bw)) (eX rfl) () λk mk=>⟨[aa (.int k),aa (aq ls)],rfl,rfl,λ_=>aO rfl rfl (pU (vL mk))⟩
  have e2:=fS (cap:=[ab,aa 1]) (fi:=bc (aB 2)) (T:=gB 0) (t:=cS) (f:=ah ar (aB 1) (aB 0)) (Y:=vS [s0 (aq ls),s0 (bg t),s0 (lN (cI ls).2)]) (λ_=>ae) (λk=>bD (t.getD k [])) (eX rfl) () λk mk=>⟨[aa (.int k),aa (bg t)],rfl,rfl,λ_=>aO rfl rfl (tD (by rw[hl];exact vL mk))⟩
  rw[kU.2 λ_ _=>rfl] at e1 e2
  have q1:((gR ls t).map λp=>bJ p.1)=(cI ls).2.map λk=>bJ (ls.getD k bw):=by unfold gR;rw[dY];rfl
  have q2:((gR ls t).map λp=>bD p.2)=(cI ls).2.map λk=>bD (t.getD k []):=by unfold gR;rw[dY];rfl
  rw[q1,q2] at e;exact cN (aW (aX (aW (aX e1 rfl) rfl) (aX e2 rfl)) e) ⟨_,rfl,rfl⟩
 rw[2]
def sJ (ls:List Ln)(t:dH)(k:Nat):List (List Int):=pq (fQ ((fI (gR ls t)).map λkn=>(bx ls k).map (tv (cV kn))))
def kE (ls:List Ln)(t:dH):dH:=(cI ls).2.foldl (λt' k=>t'.set k (sJ ls t k)) t
theorem Eo(h:k∈(cI ls).2)(m:r∈(fI (gR ls t)).map λkn=>(bx ls k).map (tv (cV kn))):r∈t.getD k []:=by
 obtain⟨kn,mk,rfl⟩:=bO.1 m;exact(vX _ kn mk (ls.getD k bw,t.getD k []) (bO.2 ⟨k,h,rfl⟩)).2
theorem Ex {f:Nat->List (List Int)}:∀ (L:List Nat) (t:dH),(L.foldl (λt' k=>t'.set k (f k)) t).length=t.length
 |[],t=>rfl
 |k::L,t=>by rw[iT,Ex L,uH]
theorem SQ {f:Nat->List (List Int)}:∀ (L:List Nat) (t:dH),(∀ k∈L,k<t.length)->∀ j,(L.foldl (λt' k=>t'.set k (f k)) t).getD j []=if j∈L then f j else t.getD j []
 |[],t,_,j=>by rw[if_neg (by simp)];rfl
 |k::L,t,h,j=>by
  rw[iT,SQ L _ (λx m=>by rw[uH];exact h x (bL _ m)) j,CZ (h k bE)]
  by_cases q:j∈L
  .rw[if_pos q,if_pos (bL _ q)]
  .rw[if_neg q];by_cases e:j=k
   .subst e;rw[if_pos rfl,if_pos bE]
   .rw[if_neg e,if_neg λm=>(cX.1 m).elim e q]
theorem b6(L:Lok ls)(hl:t.length=ls.length)(hs:∀ k,(t.getD k []).length<=5):MI [aq ls,bg t]=aa (bg (kE ls t)):=by
 obtain⟨ew,M1⟩:=Zs L hl hs;have n4:=L.n4;have:∃ d,MI [aq ls,bg t]=aa d/\d=bg (kE ls t):=by
  rw[7];refine bX (aW rfl rfl) (by simp) ?_
  refine bX (aW rfl ew) (by simp) ?_
  refine dU (λρ'=>∃ x4:L2.Slot,ρ'=[s0 (aq ls),s0 (bg t),aa (1,bg (kE ls t)),s0 (.list ((fI (gR ls t)).map ao)),x4]) ?_ ?_
  .refine iF (λt' k=>t'.set k (sJ ls t k)) (λ_ t' ρ'=>t'.length=ls.length/\∃ x4:L2.Slot,ρ'=[s0 (aq ls),s0 (bg t),aa (1,bg t'),s0 (.list ((fI (gR ls t)).map ao)),x4]) (dm (eX (JH L.ok () rfl))) ⟨hl,ab,rfl⟩ ?_ ?_
   .rintro i k t' _ hk ⟨g2,x4,rfl⟩;have mk:=eM hk;have k1:=vL mk;refine⟨[s0 (aq ls),s0 (bg t),aa (1,bg t'),s0 (.list ((fI (gR ls t)).map ao)),s0 (.int k)],rfl,?_⟩;have wk:=(L.atR k1).1.1;have e:=fS (cap:=[ab,aa 0,aa 4]) (fi:=bc (aB 3)) (T:=gB 0) (t:=cS) (f:=aL lO (aG (ah ar (ah ar (aB 1) (aB 2)) (eC (.int 1))) (aG (aB 0) aJ)))
     (Y:=vS [s0 (aq ls),s0 (bg t),aa (1,bg t'),s0 (.list ((fI (gR ls t)).map ao)),s0 (.int k)]) (λ_=>ae) (λkn=>aZ ((bx ls k).map (tv (cV kn)))) (eX rfl) () λkn mkn=>
      ⟨[aa (ao kn),aa (aq ls),aa (.int k)],rfl,rfl,λ_=>aW (ds:=[tK (bx ls k),ao kn]) (aX (aO (aO rfl rfl (pU k1)) rfl rfl) rfl) (Xw (by unfold bx;lia) (vX _ kn mkn (ls.getD k bw,t.getD k []) (bO.2 ⟨k,mk,rfl⟩)).1)⟩
    rw[kU.2 λ_ _=>rfl] at e
    have es:=Xr (R:=(fI (gR ls t)).map λkn=>(bx ls k).map (tv (cV kn))) (n:=(bx ls k).length) (L.atR k1).2 (λr m=>by
     obtain⟨kn,_,rfl⟩:=bO.1 m;rw[cC]) (FP (XO λr m=>Eo mk m) (by have:=hs k;lia))
    unfold bD at es;rw[dY] at es;refine HV (d:=bD (sJ ls t k)) (aW (aX e rfl) es) rfl rfl (rE (by rw[cC,g2];exact k1)) ⟨_,.inl rfl,uH.trans g2,s0 (.int k),?_⟩
    rw[BQ]
    rfl
   .rintro _ ⟨_,x4,rfl⟩;exact⟨_,rfl,x4,rfl⟩
  rintro _ ⟨x4,rfl⟩;exact tO rfl ⟨_,rfl,rfl⟩
 rw[2]
def sQ (ls:List Ln):List Nat:=if 1<(cI ls).2.length then(cI ls).2 else []
theorem Td(L:Lok ls):xN [aq ls]=aa (lN (sQ ls)):=by
 have n4:=L.n4;have:∃ d,xN [aq ls]=aa d/\d=lN (sQ ls):=by
  rw[7];refine bX (JH L.ok () rfl) (by simp) ?_
  have c:bV .a (au (ah iq (aL cB (aG (aB 1) aJ)) (eC (.int 1)))) [s0 (aq ls),aa (1,lN (cI ls).2)]=aa (decide (1<(cI ls).2.length)):=dI (aO (aW rfl (Ot _)) rfl (by
   show aa (jW (decide (((cI ls).2.length:Int) > 1)))=_
   congr 2
   rw[nY,decide_eq_true_eq,decide_eq_true_eq]
   lia))
  unfold sQ;by_cases h:1<(cI ls).2.length
  .rw[if_pos h];rw[decide_eq_true h] at c;refine⟨.rt (lN (cI ls).2),?_,_,rfl,rfl⟩;show(bV .a _ [s0 (aq ls),aa (1,lN (cI ls).2)]).bind _=_;rw[c]
   rfl
  .rw[if_neg h];rw[decide_eq_false h] at c;refine⟨.rt (lN []),?_,_,rfl,rfl⟩;show(bV .a _ [s0 (aq ls),aa (1,lN (cI ls).2)]).bind _=_;rw[c]
   rfl
 rw[2]
section
variable {B:aE->List (List Int)}
theorem g8 (b:Bk kds B wd)(h6:∀ t,(B t).length<=5)(L:Lok ls):Dn [.dict kds,aq ls]=aa .none:=by
 have n4:=L.n4;have hr:=WB ls;have V1:(sQ ls).length<=4/\∀ k∈sQ ls,k<ls.length:=by
  unfold sQ;split
  .exact⟨(),λk m=>vL m⟩
  .exact⟨by simp,λk m=>by simp at m⟩
 have e1:=fS (cap:=[ab,aa 1]) (fi:=bc (aL xN (aG (aB 1) aJ))) (T:=gB 0) (t:=cS) (f:=ah ar (aB 1) (aB 0)) (Y:=vS [s0 (.dict kds),s0 (aq ls)]) (λ_=>ae) (λk=>bJ (ls.getD k bw)) (eX (aW rfl (Td L))) () λk mk=>⟨[aa (.int k),aa (aq ls)],rfl,rfl,λ_=>aO rfl rfl (pU (V1.2 k mk))⟩
 rw[kU.2 λ_ _=>rfl] at e1
 have e2:=B3 b ((sQ ls).map λk=>ls.getD k bw) (by rw[cC];lia) (dG (Fp nofun h6 _) (HX (by rw[cC];lia)))
 rw[dY] at e2;show outD (EN [s0 (.dict kds),s0 (aq ls)])=_;have e3:eV 0 .s (aL MP (aG (aB 0) (aG (aL iD (aG (cf [ab,aa 1] (bc (aL xN (aG (aB 1) aJ))) (gB 0) cS (ah ar (aB 1) (aB 0))) aJ)) aJ))) [s0 (.dict kds),s0 (aq ls)]=aa .none:=
  aW (aX rfl (aX (aW (aX e1 rfl) rfl) rfl)) e2
 unfold EN pJ;rw[e3]
 rfl
end
def Up (R:List (List Int)):Prop:=R.Nodup/\R.Pairwise λa b=>leT (a.map aY) (b.map aY)=ae
theorem UG(hn:R.Nodup):Up (pq R):=by
 refine⟨(JT R).nodup_iff.2 hn,?_⟩;have h:=MN (R.map λr=>r.map aY)
 have e:gZ (R.map λr=>r.map aY)=(pq R).map λr=>r.map aY:=by
  unfold pq;rw[dY];refine(List.map_id' _).symm.trans (jG λk mk=>?_)
  obtain⟨a,_,rfl⟩:=bO.1 ((tW _).mem_iff.1 mk);show _=((a.map aY).map sr).map aY;rw[tP]
 rw[e] at h;exact AM.1 h
theorem Up.sub {S:List (List Int)}(h:Up S)(s:R.Sublist S):Up R:=⟨List.Nodup.sublist s h.1,h.2.sublist s⟩
theorem KB{ls:Nat->List aI}{cm:Nat->Nat->List aE}(a b:α->Nat):∀ (xs:List α) (t:dH),(∀ x∈xs,a x<t.length)->∀ i,((xs.foldl (λt x=>kj ls cm t (a x) (b x)) t).getD i []).Sublist (t.getD i [])
 |[],t,_,i=>PK _
 |x::xs,t,h,i=>by
  rw[iT];exact(KB a b xs _ (λy m=>by rw[vK];exact h y (bL _ m)) i).trans (IK (h x bE) i)
abbrev kY (ls:List Ln)(t:dH)(v:aE->Int):Prop:=∀ j,j<ls.length->(bx ls j).map (tv v)∈t.getD j []
structure Kpt (ls:List Ln)(t:dH):Prop where
 len:t.length=ls.length
 few:∀ k,(t.getD k []).length<=5
 up:∀ k,Up (t.getD k [])
 fit:iW (bx ls) t
theorem Ze(L:Lok ls){t0:dH}(T:Kpt ls t0) :
  ∃ t:dH,MB [aq ls,bg t0]=aa (bg t)/\Kpt ls t/\∀ k,k<ls.length->∀ r,r∈t.getD k [] ↔ ∃ v,kY ls t0 v/\r=(bx ls k).map (tv v):=by
 have n4:=L.n4;obtain⟨l0,z0,u0,f0⟩:=T;have E:=CW ls;obtain⟨s1,s2⟩:=tT E;have b2:∀ q∈(cI ls).1,q.2<t0.length:=λq m=>by rw[l0];exact(s2 q m).2
 obtain⟨_,f1,l1⟩:=HS (NO ls) f0 b2;have v1:∀ i,((om (bx ls) (ke ls) t0 (cI ls).1).getD i []).Sublist (t0.getD i []):=KB (λq:Nat×Nat=>q.2) (λq=>q.1) (cI ls).1 t0 b2
 have e1:=Xh L.ok () l0 f0 λk=>dG (z0 k) nofun
 have R:=λ(h1:_) (h2:_) (l2:_)=>Yh (t2:=kE ls (om (bx ls) (ke ls) t0 (cI ls).1)) (NO ls) f0 (by rw[l0];exact E) l2 h1 h2
 generalize om (bx ls) (ke ls) t0 (cI ls).1=t1 at f1 l1 v1 e1 R;have IN:=l1.trans l0;have z1:∀ k,(t1.getD k []).length<=5:=λk=>dG (v1 k).length_le (z0 k)
 have e2:=b6 L IN z1;have w2:∀ j,(kE ls t1).getD j []=if j∈(cI ls).2 then sJ ls t1 j else t1.getD j []:=SQ (cI ls).2 t1 λk m=>by rw[IN];exact vL m
 have l2:(kE ls t1).length=t1.length:=Ex _ _;have x2:∀ k∈(cI ls).2,∀ r,r∈sJ ls t1 k↔r∈(fI (gR ls t1)).map λkn=>(bx ls k).map (tv (cV kn)):=λk _ r=>by
  unfold sJ;rw[Gj,Aec]
 have f2:iW (bx ls) (kE ls t1):=λk r m=>by
  rw[w2 k] at m;by_cases q:k∈(cI ls).2
  .rw[if_pos q] at m;obtain⟨kn,_,rfl⟩:=bO.1 ((x2 k q r).1 m);exact⟨_,rfl⟩
  .rw[if_neg q] at m;exact f1 k r m
 have z2:∀ k,((kE ls t1).getD k []).length<=5:=λk=>by
  rw[w2 k];split
  .rename_i q;unfold sJ;rw[Ec];exact dG (XO λr m=>Eo q m) (z1 k)
  .exact z1 k
 have u2:∀ k,Up ((kE ls t1).getD k []):=λk=>by
  rw[w2 k];split
  .exact UG (IA _)
  .exact(u0 k).sub (v1 k)
 have R:=R (λk q r=>by
  have q:=q;rw[w2 k,if_pos q,x2 k q r];have:=C2 (ps:=gR ls t1) (bO.2 ⟨k,q,rfl⟩) (r:=r);refine this.trans ⟨?_,?_⟩
  .rintro⟨v,h,e⟩;exact⟨v,λj hj=>h (ls.getD j bw,t1.getD j []) (bO.2 ⟨j,hj,rfl⟩),e⟩
  .rintro⟨v,h,e⟩;refine⟨v,λp mp=>?_,e⟩
   obtain⟨j,hj,rfl⟩:=bO.1 mp;exact h j hj) (λk q=>by
  have q:=q;rw[w2 k,if_neg q]) (l2.trans l1)
 have e3:=Zt L.ok () (l2.trans IN) f2 λk=>dG (z2 k) nofun
 have b3:∀ q∈(cI ls).1,q.1<(kE ls t1).length:=λq m=>by rw[l2,IN];exact(s2 q m).1
 obtain⟨_,f3,l3⟩:=NH (NO ls) f2 b3;have v3:∀ i,((lu (bx ls) (ke ls) (kE ls t1) (cI ls).1).getD i []).Sublist ((kE ls t1).getD i []):=KB (λq:Nat×Nat=>q.1) (λq=>q.2) (cI ls).1.reverse _ λq m=>b3 q (List.mem_reverse.1 m)
 refine⟨lu (bx ls) (ke ls) (kE ls t1) (cI ls).1,?_,⟨l3.trans (l2.trans IN),λk=>dG (v3 k).length_le (z2 k),λk=>(u2 k).sub (v3 k),f3⟩,λk hk r=>by rw[R k (by rw[l0];exact hk) r,l0];rfl⟩
 have:∃ d,MB [aq ls,bg t0]=aa d/\d=bg (lu (bx ls) (ke ls) (kE ls t1) (cI ls).1):=by
  rw[7];exact cN (aW (aX rfl (aX (aW (aX rfl (aX (aW rfl e1) rfl)) e2) rfl)) e3) ⟨_,rfl,rfl⟩
 rw[2]
section
variable {G:SF}{P:Out->Prop}{m:Md}
def zM (I:aR->Prop)(R:aA->Prop)(o:Out):Prop:=(∃ ρ',o=.nx ρ'/\I ρ')\/∃ d,o=.rt d/\R d
theorem QQ {T:aA->aR->Option aR}(I:Nat->aR->Prop)(R:aA->Prop):∀ (ds:List aA) (Y:aR) (n:Nat),I n Y->(∀ i d Y,ds[i]?=aa d->I (n+i) Y->∃ ρ1,T d Y=aa ρ1/\Goes F ρ1 (zM (I (n+i+1)) R))->∃ o,iC F T ds Y=aa o/\zM (I (n+ds.length)) R o
 |[],Y,n,h0,_=>⟨_,rfl,.inl ⟨Y,rfl,h0⟩⟩
 |d::ds,Y,n,h0,step=>by
  obtain⟨ρ1,e1,o,e2,h⟩:=step 0 d Y rfl h0;unfold iC;rw[e1,bQ,e2,bQ];rcases h with⟨ρ2,rfl,h⟩|⟨r,rfl,h⟩
  .have:=QQ I R ds ρ2 (n+1) h λi d Y e hi=>by
    have:=step (i+1) d Y e (by rw[<-FR,Nat.add_right_comm];exact hi)
    rwa [show n+(i+1)+1=n+1+i+1 by lia] at this
   rwa [show n+1+ds.length=n+(d::ds).length by rw[fM];lia] at this
  .exact⟨_,rfl,.inr ⟨r,rfl,h⟩⟩
theorem HZ {fi:AF}{T:aA->aR->Option aR}(I:Nat->aR->Prop)(R:aA->Prop)(h:aV m fi Y=aa ds)(hl:ds.length=n)(h0:I 0 Y)(step:∀ i d Y,ds[i]?=aa d->I i Y->∃ ρ1,T d Y=aa ρ1/\Goes F ρ1 (zM (I (i+1)) R)):Goes (cP m fi T F) Y (zM (I n) R):=by
 subst hl;obtain⟨o,e,q⟩:=QQ I R ds Y 0 h0 λi d Y e hi=>by simpa using step i d Y e (by simpa using hi)
 exact⟨o,CP h e,by simpa using q⟩
theorem JC (I:aR->Prop)(R:aA->Prop)(h:Goes F Y (zM I R))(k1:∀ d,R d->P (.rt d))(k2:∀ ρ',I ρ'->Goes G ρ' P):Goes (aT F G) Y P:=by
 obtain⟨o,e,⟨ρ',rfl,h⟩|⟨d,rfl,h⟩⟩:=h
 .exact gF e (k2 ρ' h)
 .exact CO e (k1 d h)
end
def fj (a b:List Int):Prop:=cA (a.map aY)<cA (b.map aY)
theorem Adp {i:Int}{a b:List Int}:fj (i::a) (j::b)↔i<j\/i=j/\fj a b:=xW i j _ _
theorem BS (a:List Int):¬ fj a a:=Ja _
theorem IT:∀ {a b:List Int},a.length=b.length->∀ {c d:List Int},fj (a++c) (b++d)↔fj a b\/a=b/\fj c d
 |[],[],_,c,d=>by simp[BS]
 |i::a,j::b,h,c,d=>by
  rw[GA,GA,Adp,Adp,IT (by simpa using h),Jk]
  grind
theorem IW:∀ {a b:List Int},a.length=b.length->a=b\/fj a b\/fj b a
 |[],[],_=>.inl rfl
 |i::a,j::b,h=>by
  have:=IW (by simpa using h)
  rw[Adp,Adp,Jk]
  grind
theorem XE[DecidableEq α]:∀ (zs N:List α),∃ M,zs.foldl dD N=N++M
 |[],N=>⟨[],by simp⟩
 |z::zs,N=>by
  obtain⟨M,e⟩:=XE zs (dD N z);rw[iT,e];unfold dD;split
  .exact⟨M,rfl⟩
  .exact⟨z::M,by simp⟩
theorem Fe {N:List aE}(h:fj (N.map v) (N.map w))(zs:List aE):fj ((zs.foldl dD N).map v) ((zs.foldl dD N).map w):=by
 obtain⟨M,e⟩:=XE zs N;rw[e,gJ,gJ,IT (by simp)]
 exact .inl h
theorem KA:∀ (ks:List aI) (N:List aE) {v w:aE->Int},(∀ z∈N,v z=w z)->fj (ks.map (tv v)) (ks.map (tv w))->fj (((cZ ks).foldl dD N).map v) (((cZ ks).foldl dD N).map w)
 |[],N,v,w,_,h=>absurd h (BS _)
 | .inl i::ks,N,v,w,hN,h=>KA ks N hN (by
  rcases Adp.1 h with h|h
  .exact absurd h (Jn i)
  .exact h.2)
 |.inr z::ks,N,v,w,hN,h=>by
  show fj (((cZ ks).foldl dD (dD N z)).map v) (((cZ ks).foldl dD (dD N z)).map w);rcases Adp.1 h with h|⟨e,h⟩
  .refine Fe ?_ _;have h:v z<w z:=h;have nz:z∉N:=λm=>by rw[hN z m] at h;exact absurd h (Jn _)
   unfold dD;rw[if_neg nz,gJ,gJ,IT (by simp)]
   exact .inr ⟨jG hN,Adp.2 (.inl h)⟩
  .refine KA ks _ (λx m=>?_) h
   rcases An1.1 m with m|rfl
   .exact hN x m
   .exact e
def iX (B:aE->List (List Int))(ls:List Ln)(v:aE->Int):Prop:=∀ l∈ls,l.2.map (tv v)∈B l.1
theorem Bo(h:k<ls.length):bF (ls.take (k+1))=(cZ (bx ls k)).foldl dD (bF (ls.take k)):=by
 have e:ls.getD k bw=ls[k]:=by simp[gX,h]
 unfold bF fQ bx;rw[K1 h,List.flatMap_append,rY,e,wX,List.flatMap_nil,mS]
structure Ahd (B:aE->List (List Int))(ls:List Ln)(k:Nat)(t:dH)(kn:Kn):Prop where
 kp:Kpt ls t
 kl:kn.length<=6*k
 ex:0<k->∃ v,kY ls t v
 sol:∀ v,kY ls t v->iX B ls v/\oB kn v
 dom:∀ z∈bF (ls.take k),∃ u,bM kn z=aa u
 lst:∀ w,iX B ls w->kY ls t w\/∃ v,kY ls t v/\fj ((bF (ls.take k)).map v) ((bF (ls.take k)).map w)
theorem Ahd.next {B:aE->List (List Int)}{t':dH}{kn:Kn}(A:Ahd B ls k t kn)(L:Lok ls)(hk:k<ls.length)(K:Kpt ls t')(hm:∀ k,k<ls.length->∀ r,r∈t'.getD k [] ↔ ∃ v,kY ls t v/\r=(bx ls k).map (tv v)) :
  (t'.getD k []=[]/\∀ w,¬ iX B ls w)\/∃ r R ax,t'.getD k []=r::R/\dJ (bx ls k) r kn=aa ax/\Ahd B ls (k+1) (t'.set k [r]) ax:=by
 cases e:t'.getD k [] with
 |nil=>
  refine .inl ⟨rfl,λw hw=>?_⟩
  have no:∀ v,¬ kY ls t v:=λv hv=>by
   have:=(hm k hk _).2 ⟨v,hv,rfl⟩;rw[e] at this;cases this
  rcases A.lst w hw with h|⟨v,h,_⟩<;>exact no _ h
 |cons r R=>
  obtain⟨v0,h0,e0⟩:=(hm k hk r).1 (by rw[e];exact bE)
  obtain⟨ax,ef,ag⟩:=yK (A.sol v0 h0).2;rw[<-e0] at ef;have at_:∀ j,(t'.set k [r]).getD j []=if j=k then [r] else t'.getD j []:=λj=>by
   rw[gX,List.getElem?_set,K.len];by_cases q:k=j
   .subst q;simp[hk]
   .simp[q,fL q,gX]
  have V3:∀ v,kY ls (t'.set k [r]) v↔kY ls t v/\(bx ls k).map (tv v)=r:=λv=>by
   constructor
   .intro h;have Tm:(bx ls k).map (tv v)=r:=by
     have:=h k hk;rw[at_,if_pos rfl] at this;exact cE.1 this
    refine⟨λj hj=>?_,Tm⟩
    have:(bx ls j).map (tv v)∈t'.getD j []:=by
     by_cases q:j=k
     .rw[q,Tm,e];exact bE
     .have:=h j hj
      rwa [at_,if_neg q] at this
    obtain⟨v',h',e'⟩:=(hm j hj _).1 this;rw[e'];exact h' j hj
   .rintro⟨h,hr⟩ j hj;rw[at_];split
    .rename_i q;rw[q,hr];exact cE.2 rfl
    .exact(hm j hj _).2 ⟨v,h,rfl⟩
  have s0:=(V3 v0).2 ⟨h0,e0.symm⟩;have vp:∀ {v w},kY ls t v->kY ls t w->∀ z∈bF (ls.take k),v z=w z:=λ{v w} hv hw z m=>by
   obtain⟨u,eu⟩:=A.dom z m;rw[<-(A.sol v hv).2 z u eu,<-(A.sol w hw).2 z u eu]
  have w6:=(L.atR hk).1.1;refine .inr ⟨r,R,ax,rfl,ef,⟨by rw[uH];exact K.len,λj=>?_,λj=>?_,λj x m=>?_⟩,?_,?_,λv h=>?_,λz m=>?_,λw hw=>?_⟩
  .rw[at_];split
   .simp
   .exact K.few j
  .rw[at_];split
   .exact⟨by simp,by simp⟩
   .exact K.up j
  .rw[at_] at m;split at m
   .rename_i q;subst q;exact⟨v0,(cE.1 m).trans e0⟩
   .exact K.fit j x m
  .have:=CK ef;have:=A.kl;unfold bx at *
   lia
  .exact λ_=>⟨v0,s0⟩
  .obtain⟨h1,h2⟩:=(V3 v).1 h;obtain⟨kn2,e2,a2⟩:=yK (A.sol v h1).2;rw[h2,ef] at e2;cases e2;exact⟨(A.sol v h1).1,a2⟩
  .rw[Bo hk] at m;rcases(LF _ _).1 m with m|m
   .obtain⟨u,eu⟩:=A.dom z m;exact⟨u,(MO ef).2.1 z u eu⟩
   .exact⟨_,(JV ef).2 z (Ad0.1 m)⟩
  .rw[Bo hk];rcases A.lst w hw with h|⟨v,h,lt⟩
   .have mw:=(hm k hk _).2 ⟨w,h,rfl⟩;by_cases q:(bx ls k).map (tv w)=r
    .exact .inl ((V3 w).2 ⟨h,q⟩)
    .refine .inr ⟨v0,s0,KA _ _ (vp h0 h) ?_⟩;rw[<-e0];rw[e] at mw;have up:=K.up k;rw[e] at up;rcases cX.1 mw with z|mw
     .exact absurd z q
     .have le:=Agd.1 (List.rel_of_pairwise_cons up.2 mw);rcases IW (a:=r) (b:=(bx ls k).map (tv w)) (by rw[e0];simp) with z|z|z
      .exact absurd z.symm q
      .exact z
      .exact absurd z le
   .refine .inr ⟨v0,s0,Fe ?_ _⟩
    rwa [jG (vp h0 h)]
theorem Nn {a b:List Int}(h:fj a b):¬ fj b a:=LC _ _ h
theorem DB:∀ ls:List Ln,(∀ l∈ls,l.2.length<=6)->(ls.flatMap λl=>cZ l.2).length<=6*ls.length
 |[],_=>bB _
 |l::r,h=>by
  have a:=DB r λx m=>h x (bL _ m)
  have b:=h l bE;have c:(cZ l.2).length<=l.2.length:=wW ..;rw[wX,qH,fM]
  lia
theorem KS (ls:List Ln)(h:∀ l∈ls,l.2.length<=6):(bF ls).length<=6*ls.length:=by
 have h1:=yN (ls.flatMap λl=>cZ l.2) []
 have h2:=DB ls h;unfold bF fQ;rw[Jc,Nat.zero_add] at h1
 lia
section
variable {B:aE->List (List Int)}
theorem Ld (h5:∀ t,(B t).length<=5)(nd:∀ t,(B t).Nodup)(ls:List Ln):Ahd B ls 0 (ls.map (kf B)) []:=by
 have at_:∀ k,(ls.map (kf B)).getD k []=if k<ls.length then kf B (ls.getD k bw) else []:=λk=>by
  rw[gX,eZ,gX];by_cases h:k<ls.length<;>simp[h]
 refine⟨⟨cC _,λk=>?_,λk=>?_,Th ls⟩,bB _,(λh=>nomatch h),λv h=>⟨λl m=>?_,(λ_ _ h=>nomatch h)⟩,(λ_ h=>nomatch h),λw hw=>.inl λj hj=>?_⟩
 .rw[at_];split
  .exact dG (Tu _ _) (h5 _)
  .simp
 .rw[at_];split
  .exact UG (List.Nodup.sublist PH (nd _))
  .exact⟨wV,List.Pairwise.nil⟩
 .obtain⟨j,hj,rfl⟩:=uI m;have:=h j hj;rw[at_,if_pos hj] at this;have:=(Atd.1 this).1;unfold bx at this
  rwa [show ls.getD j bw=ls[j] by simp[gX,hj]] at this
 .rw[at_,if_pos hj];exact Atd.2 ⟨hw _ (getD_mem bw hj),w,rfl⟩
theorem m4 (b:Bk kds B wd)(h5:∀ t,(B t).length<=5)(nd:∀ t,(B t).Nodup)(L:Lok ls) :
  (EC [.dict kds,aq ls]=aa .none/\∀ w,¬ iX B ls w)\/∃ v,EC [.dict kds,aq ls]=aa (aZ ((bF ls).map v))/\iX B ls v/\∀ w,iX B ls w->¬ fj ((bF ls).map w) ((bF ls).map v):=by
 have n4:=L.n4;have h6:∀ l∈ls,l.2.length<=6:=λl m=>(L.ok l m).1
 have:∃ d,EC [.dict kds,aq ls]=aa d/\((d=.none/\∀ w,¬ iX B ls w)\/∃ v,d=aZ ((bF ls).map v)/\iX B ls v/\∀ w,iX B ls w->¬ fj ((bF ls).map w) ((bF ls).map v)):=by
  rw[7];refine bX (aW rfl (h7 b h6 ())) (by simp) ?_
  refine bX rfl (by simp) ?_
  let I:Nat->aR->Prop:=λk Y=>∃ c t kn x4 x5,Y=[s0 (.dict kds),s0 (aq ls),aa (c,bg t),s0 (ao kn),x4,x5]/\Ahd B ls k t kn
  have ei:=Tw (f:=aB 1) (Y:=vS [s0 (.dict kds),s0 (aq ls),aa (1,bg (ls.map (kf B))),s0 (.dict []),ab,ab]) bJ bw rfl;refine JC (I ls.length) (λd=>d=.none/\∀ w,¬ iX B ls w) ?_ (λd h=>⟨d,rfl,.inl h⟩) ?_
  .refine HZ I _ (dm ei) (by simp) ⟨1,_,[],ab,ab,rfl,Ld h5 nd ls⟩ ?_
   rintro k d _ hd ⟨c,t,kn,x4,x5,rfl,A⟩;have hk:k<ls.length:=by simpa using(cJ.1 hd).1
   have ed:d=.tuple [.int k,bJ (ls.getD k bw)]:=by
    rw[eZ,FW hk] at hd;exact(fF hd).symm
   subst ed;refine⟨[s0 (.dict kds),s0 (aq ls),aa (c,bg t),s0 (ao kn),s0 (.int k),s0 (bJ (ls.getD k bw))],rfl,lJ ?_⟩;obtain⟨t',e1,K,hm⟩:=Ze L A.kp;refine bX (aW rfl e1) (by simp[frz]) ?_
   have bz:k<t'.length:=by rw[K.len];exact hk
   have ix:=tD bz;have len:bV .a (au (ah du (aL cB (aG (ah ar (aB 2) (aB 4)) aJ)) (eC (.int 0)))) [s0 (.dict kds),s0 (aq ls),aa (1,bg t'),s0 (ao kn),s0 (.int k),s0 (bJ (ls.getD k bw))]=aa (decide ((t'.getD k []).length=0)):=dI (aO (aW (aX (aO rfl rfl ix) rfl) (kH _)) rfl (by rw[cC];exact O4 _ 0))
   rcases A.next L hk K hm with⟨e,no⟩|⟨r,R,ax,e,ef,A'⟩
   .rw[e] at len;exact oG (eU len (cN rfl ⟨_,rfl,.inr ⟨_,rfl,rfl,no⟩⟩))
   .rw[e] at len ix;refine dU (λρ'=>ρ'=[s0 (.dict kds),s0 (aq ls),aa (1,bg t'),s0 (ao kn),s0 (.int k),s0 (bJ (ls.getD k bw))]) (gD len (hX ⟨_,rfl,rfl⟩)) ?_
    rintro _ rfl;have es:sL (ah ar (aB 2) (aB 4)) oN (oS (eC (.int 1))) (vA [s0 (.dict kds),s0 (aq ls),aa (1,bg t'),s0 (ao kn),s0 (.int k),s0 (bJ (ls.getD k bw))])=aa (bD [r]):=by
     rw[SW (aO rfl rfl ix) rfl rfl];exact congrArg (λx=>aa (AC x)) (MW (by simp))
    refine dU (λρ'=>ρ'=[s0 (.dict kds),s0 (aq ls),aa (1,bg (t'.set k [r])),s0 (ao kn),s0 (.int k),s0 (bJ (ls.getD k bw))]) (JK es (IR _) rfl rfl (rE (by simpa using bz)) ⟨_,rfl,?_⟩) ?_
    .rw[BQ]
     rfl
    rintro _ rfl;refine lJ ?_;have xy:ar (bg (t'.set k [r])) (.int k)=aa (bD [r]):=by
     rw[tD (by simpa using bz),gX,mC bz]
     rfl
    have e3:=yC (.str (ls.getD k bw).1) (bx ls k) r kn (dG (L.atR hk).1.1 nofun) (by have:=A.kl;lia)
    rw[ef] at e3;exact vP (aW (aX rfl (aX (aO (aO rfl rfl xy) rfl (vO rfl)) rfl)) e3) (by simp[frz]) (.inl ⟨_,rfl,0,_,ax,_,_,rfl,A'⟩)
  rintro _ ⟨c,t,kn,x4,x5,rfl,A⟩;obtain⟨kp,kl,ex,sol,dom,lst⟩:=A;rw[AJ] at dom lst;obtain⟨v,hv⟩:∃ v,kY ls t v:=by
   cases q:ls.length with
   |zero=>exact⟨λ_=>0,λj hj=>()⟩
   |succ n=>exact ex ()
  have same:∀ w,kY ls t w->(bF ls).map w=(bF ls).map v:=λw hw=>jG λz m=>by
   obtain⟨u,eu⟩:=dom z m;rw[<-(sol w hw).2 z u eu,<-(sol v hv).2 z u eu]
  have ep:=KN (by
   have:=KS ls h6
   lia) dom
  have er:rowOf (bF ls) kn=(bF ls).map v:=jG λz m=>by
   obtain⟨u,eu⟩:=dom z m;rw[eu,<-(sol v hv).2 z u eu]
   rfl
  rw[er] at ep;refine lJ (cN (aW (aX (aW rfl (vT L.ok ())) rfl) ep) ⟨_,rfl,.inr ⟨v,rfl,(sol v hv).1,λw hw lt=>?_⟩⟩)
  rcases lst w hw with h|⟨v',h,l2⟩
  .rw[same w h] at lt;exact BS _ lt
  .rw[same v' h] at l2;exact Nn lt l2
 obtain⟨d,e,⟨rfl,no⟩|⟨v,rfl,h⟩⟩:=this
 .exact .inl ⟨e,no⟩
 .exact .inr ⟨v,e,h⟩
end
abbrev fA:=List aI×List Ln
def iY (a:fA):aA:=.tuple [tK a.1,aq a.2]
def mH (kn:Kn):aI->aI
 |.inl i=>.inl i
 |.inr z=>match bM kn z with
  |some u=>.inl u
  |none=>.inr z
def lE (kn:Kn)(l:Ln):Ln:=(l.1,l.2.map (mH kn))
def ov (kn:Kn)(v:aE->Int)(z:aE):Int:=(bM kn z).getD (v z)
theorem Oc (kn:Kn)(v:aE->Int)(k:aI):tv v (mH kn k)=tv (ov kn v) k:=by
 cases k with
 |inl i=>rfl
 |inr z=>
  unfold mH ov tv;rw[12];cases bM kn z<;>rfl
theorem At3 {B:aE->List (List Int)}{kn:Kn}:iX B (ls.map (lE kn)) v↔iX B ls (ov kn v):=by
 unfold iX;rw[List.forall_mem_map];refine forall_congr' λl=>imp_congr_right λ_=>?_
 unfold lE;rw[dY,show tv v∘mH kn=tv (ov kn v) from funext (Oc kn v)]
def mh (kn:Kn)(z:aE):Bool:=(bM kn z).isNone
theorem KH (kn:Kn):∀ ks:List aI,cZ (ks.map (mH kn))=(cZ ks).filter (mh kn)
 |[]=>rfl
 |.inl i::ks=>KH kn ks
 |.inr z::ks=>by
  have ih:=KH kn ks;unfold cZ at ih ⊢;rw[dC,AO,ih,AO];unfold mH mh;cases h:bM kn z<;>simp[h,QW,mh]
theorem ZL[DecidableEq α](p:α->Bool):∀ zs N:List α,(zs.filter p).foldl dD (N.filter p)=(zs.foldl dD N).filter p
 |[],N=>rfl
 |z::zs,N=>by
  rw[iT,<-ZL p zs,PJ];split
  .rw[iT]
   congr 1
   unfold dD
   grind
  .congr 1
   unfold dD
   grind
theorem Wm (kn:Kn)(ls:List Ln):bF (ls.map (lE kn))=(bF ls).filter (mh kn):=by
 unfold bF fQ;rw[<-ZL,List.flatMap_map,Jf]
 congr 1
 induction ls with
 |nil=>rfl
 |cons l r ih=>rw[wX,wX,Jg,ih];exact congrArg (· ++ _) (KH kn l.2)
theorem Gq {p:aE->Bool}:∀ {N:List aE},(∀ z∈N,p z=af->v z=w z)->fj (N.map v) (N.map w)->fj ((N.filter p).map v) ((N.filter p).map w)
 |[],_,h=>h
 |z::N,hz,h=>by
  have ih:=Gq λy m=>hz y (bL _ m)
  rw[PJ];cases q:p z with
  |true=>
   rw[if_pos rfl];exact Adp.2 ((Adp.1 h).imp id (And.imp id ih))
  |false=>
   rw[if_neg kB];rcases Adp.1 h with h|h
   .rw[hz z bE q] at h;exact absurd h (Jn _)
   .exact ih h.2
theorem Gr(L:Lok ls)(kn:Kn):Lok (ls.map (lE kn)):=by
 refine⟨λl m=>?_,λl m=>?_,by rw[cC];exact L.n4⟩<;>obtain⟨l,ml,rfl⟩:=bO.1 m
 .refine⟨by unfold lE;rw[cC];exact(L.ok l ml).1,λk mk=>?_⟩
  obtain⟨k,m2,rfl⟩:=bO.1 mk;have:=(L.ok l ml).2 k m2;cases k with
  |inl i=>exact this
  |inr z=>
   unfold mH;rw[12];cases bM kn z with
   |none=>exact this
   |some u=>rfl
 .unfold lE;rw[cC];exact L.w1 l ml
theorem XX (h:List aI)(row:List Int)(hl:h.length<=6):CD [tK h,tI row]=aa (BJ (dJ h row [])):=by
 have:∃ d,CD [tK h,tI row]=aa d/\d=BJ (dJ h row []):=by
  rw[7];exact cN (aW rfl (yC (.str "head") h row [] () (by simp))) ⟨_,rfl,rfl⟩
 rw[2]
theorem Zi{kn:Kn}(hl:ks.length<=6):lO [tK ks,ao kn]=aa (tK (ks.map (mH kn))):=by
 have:∃ d,lO [tK ks,ao kn]=aa d/\d=tK (ks.map (mH kn)):=by
  rw[7];have e:=fS (cap:=[ab,aa 1]) (fi:=bc (aB 0)) (T:=gB 0) (t:=cS) (f:=jA (aB 1) (aB 0) (aB 0)) (Y:=vS [s0 (tK ks),s0 (ao kn)]) (λ_=>ae) (λk=>kD (mH kn k)) (lM rfl) () λk mk=>⟨[aa (kD k),aa (ao kn)],rfl,rfl,λ_=>by
   cases k with
   |inl i=>
    rw[vN rfl rfl rfl rfl (vy kn),XY]
    rfl
   |inr z=>
    rw[vN rfl rfl rfl rfl (vy kn),tM];unfold mH;rw[12];cases bM kn z<;>rfl⟩
  rw[kU.2 λ_ _=>rfl] at e
  refine cN (aW (aX e rfl) ?_) ⟨_,rfl,rfl⟩;show aa (cW _)=aa (cW ((ks.map (mH kn)).map kD));rw[dY]
  rfl
 rw[2]
theorem Cv(L:Lok ls)(kn:Kn):EH [aq ls,ao kn]=aa (aq (ls.map (lE kn))):=by
 have n4:=L.n4;have:∃ d,EH [aq ls,ao kn]=aa d/\d=aq (ls.map (lE kn)):=by
  rw[7];have e:=fS (cap:=[ab,aa 1]) (fi:=bc (aB 0)) (T:=gB 0) (t:=cS) (f:=fU (aG (ah ar (aB 0) (eC (.int 0))) (aG (aL lO (aG (ah ar (aB 0) (eC (.int 1))) (aG (aB 1) aJ))) aJ))) (Y:=vS [s0 (aq ls),s0 (ao kn)]) (λ_=>ae) (λl=>bJ (lE kn l)) (lM rfl) () λl ml=>⟨[aa (bJ l),aa (ao kn)],rfl,rfl,λ_=>pR (aX (aO rfl rfl rfl) (aX (aW (aX (aO rfl rfl rfl) rfl) (Zi (L.ok l ml).1)) rfl))⟩
  rw[kU.2 λ_ _=>rfl] at e
  refine cN (aW (aX e rfl) ?_) ⟨_,rfl,rfl⟩;show aa (cW _)=aa (cW ((ls.map (lE kn)).map bJ));rw[dY]
  rfl
 rw[2]
def pN (m:Kn):List (aI×aA):=m.map λp=>(.inr p.1,.int p.2)
def BM (m kn:Kn):Kn:=m.foldl (λa p=>putN a p.1 p.2) kn
theorem MZ:∀ m kn:Kn,kI (pN m) (DN kn)=DN (BM m kn)
 |[],_=>rfl
 |p::m,kn=>by
  show kI (pN m) (putD (DN kn) (.inr p.1) (.int p.2))=_;rw[UK];exact MZ m _
theorem NN (v:aE->Int):∀ {zs:List aE} {kn:Kn},zs.Nodup->(∀ z∈zs,bM kn z=ab)->BM (zs.map λz=>(z,v z)) kn=kn++zs.map λz=>(z,v z)
 |[],kn,_,_=>(mS kn).symm
 |z::zs,kn,nd,h=>by
  have hz:=h z bE;have e:putN kn z (v z)=kn++[(z,v z)]:=by
   unfold putN;rw[hz]
   rfl
  have nd:=jZ.1 nd;show BM (zs.map λz=>(z,v z)) (putN kn z (v z))=_
  rw[e,NN v nd.2 λy m=>by
   rw[vY hz,if_neg λq=>nd.1 (by rw[<-q];exact m)]
   exact h y (bL _ m)]
  simp
theorem k8 (a b:Kn)(z:aE):bM (a++b) z=(bM a z).or (bM b z):=by
 unfold bM;rw[Je];cases a.find? λp=>decide (p.1=z)<;>rfl
theorem YF (v:aE->Int):∀ {zs:List aE} {z:aE},z∈zs->bM (zs.map λz=>(z,v z)) z=aa (v z)
 |y::zs,z,m=>by
  unfold bM;rw[dC,gK];by_cases q:y=z
  .simp[q]
  .simp only[q,decide_false];exact YF v ((cX.1 m).resolve_left (fL q))
theorem WX:∀ zs:List aE,sH (zs.map bZ)=aa (zs.map λz=>(.inr z:aI))
 |[]=>rfl
 |z::zs=>by
  show(sH (zs.map bZ)).bind _=_;rw[WX zs]
  rfl
theorem Gx:∀ kn:Kn,qO (DN kn)=aa (pN kn)
 |[]=>rfl
 |p::kn=>by
  show(qO (DN kn)).bind _=_;rw[Gx kn]
  rfl
theorem Vr(nd:zs.Nodup)(hl:zs.length<=1000)(v:aE->Int):BO [.list (zs.map bZ),aZ (zs.map v)]=aa (ao (zs.map λz=>(z,v z))):=by
 show(sH (zs.map bZ)).bind (λks=>if (zs.map bZ).length<=sizeLine then aa (FL (kI (ks.zip ((zs.map v).map aY)) [])) else ab)=_
 rw[WX,bQ,if_pos (nH (by rw[cC];lia))]
 have e:(zs.map λz=>(.inr z:aI)).zip ((zs.map v).map aY)=pN (zs.map λz=>(z,v z)):=by
  unfold pN;rw[dY,dY,List.zip_map']
  rfl
 rw[e];have:=MZ (zs.map λz=>(z,v z)) []
 rw[NN v nd λ_ _=>rfl] at this
 exact congrArg (λx=>aa (FL x)) this
theorem Tx{P:Out->Prop}{m kn:Kn}(h:f (vS Y)=aa (ao m))(hg:oO i Y=aa (DN kn))(hl:kn.length+m.length<=1000)(k:P (.nx (Y.set i (aa (1,ao (BM m kn)))))):Goes (BL i .s f) Y P:=⟨_,by
 unfold BL;rw[show eV 0 .s f Y=aa (ao m) from h,bQ,hg,bQ]
 show((qO (DN m)).bind λps=>if dh (DN m)=ae/\(DN kn).length+(DN m).length<=sizeLine then aa (Out.nx (Y.set i (aa (1,.dict (kI ps (DN kn)))))) else ab)=_
 rw[Gx,bQ,if_pos ⟨vy m,nH (by unfold DN;simp;lia)⟩,MZ]
 rfl,k⟩
theorem Rh (ls:List Ln):gE 0 (aq ls)=ae:=KZ λt m=>by
 obtain⟨l,_,rfl⟩:=bO.1 m;show(ae&&(lL (l.2.map kD)&&ae))=ae;rw[KZ λt m=>by
  obtain⟨k,_,rfl⟩:=bO.1 m;cases k<;>rfl]
 rfl
def tH (B:aE->List (List Int))(a:fA)(row:List Int)(w:aE->Int):Prop:=iX B a.2 w/\a.1.map (tv w)=row
structure Aok (a:fA):Prop where
 hl:a.1.length<=6
 L:Lok a.2
 hd:∀ z,(.inr z:aI)∈a.1->z∈bF a.2
section
variable {B:aE->List (List Int)}
theorem JE (w:aE->Int):oB [] w:=λ_ _ h=>nomatch h
theorem Ul (b:Bk kds B wd)(h5:∀ t,(B t).length<=5)(nd:∀ t,(B t).Nodup){a:fA}(A:Aok a)(row:List Int) :
  ∃ d,Cs [.dict kds,iY a,tI row]=aa d/\((d=.none/\∀ w,¬ tH B a row w)\/∃ v,d=aZ ((bF a.2).map v)/\tH B a row v/\∀ w,tH B a row w->¬ fj ((bF a.2).map w) ((bF a.2).map v)):=by
 rw[7];have eb:=XX a.1 row A.hl;have n4:=A.L.n4;cases q:dJ a.1 row [] with
 |none=>
  rw[q] at eb;refine bX (aW rfl eb) (by simp) (oG (eU rfl (cN rfl ⟨_,rfl,_,rfl,.inl ⟨rfl,λw hw=>?_⟩⟩)))
  obtain⟨kn,e,_⟩:=yK (JE w);rw[hw.2,q] at e;cases e
 |some kn=>
  rw[q] at eb;have kl:=CK q;have hA:=A.hl;rw[Jc,Nat.zero_add] at kl;have ag:∀ {w},a.1.map (tv w)=row->oB kn w:=λ{w} e=>by
   obtain⟨ax,e',h⟩:=yK (JE w);rw[e,q] at e';cases e';exact h
  have Z7:∀ {w},oB kn w->ov kn w=w:=λ{w} h=>funext λz=>by
   unfold ov;cases e:bM kn z with
   |none=>rfl
   |some u=>exact h z u e
  have qr:∀ v,a.1.map (tv (ov kn v))=row:=λv=>by
   obtain⟨e,t⟩:=JV q;rw[e];refine vF λz m=>?_
   unfold ov;rw[t z m]
   rfl
  have L':=Gr A.L kn;have nl:=KS a.2 λl m=>(A.L.ok l m).1
  refine bX (aW rfl eb) (by simp) (dU (λρ'=>ρ'=[s0 (.dict kds),s0 (iY a),s0 (tI row),aa (1,ao kn),ab,ab]) (gD rfl (hX ⟨_,rfl,rfl⟩)) ?_)
  rintro _ rfl;refine HU (aW rfl (Cv A.L kn)) ?_ (by simp) ?_
  .exact Rh _
  rcases m4 b h5 nd L' with⟨e,no⟩|⟨v,e,sv,lv⟩
  .refine bX (aW rfl e) (by simp) (oG (eU rfl (cN rfl ⟨_,rfl,_,rfl,.inl ⟨rfl,λw hw=>no w (At3.2 ?_)⟩⟩)))
   rw[Z7 (ag hw.2)];exact hw.1
  .refine bX (aW rfl e) (by simp) (dU (λρ'=>ρ'=[s0 (.dict kds),s0 (iY a),s0 (tI row),aa (1,ao kn),s0 (aq (a.2.map (lE kn))),s0 (aZ ((bF (a.2.map (lE kn))).map v))]) (gD rfl (hX ⟨_,rfl,rfl⟩)) ?_)
   rintro _ rfl;have en:=vT L'.ok (by rw[cC];lia)
   have np:=Wm kn a.2;rw[np] at lv;have nf:=FU (mh kn) (bF a.2);have nn:((bF a.2).filter (mh kn)).Nodup:=(IA _).sublist PH;have nz:∀ z∈(bF a.2).filter (mh kn),bM kn z=ab:=λz m=>Option.isNone_iff_eq_none.1 (kA.1 m).2
   rw[np] at en ⊢;refine dU (λρ'=>ρ'=[s0 (.dict kds),s0 (iY a),s0 (tI row),aa (1,ao (kn++((bF a.2).filter (mh kn)).map λz=>(z,v z))),s0 (aq (a.2.map (lE kn))),s0 (aZ (((bF a.2).filter (mh kn)).map v))]) (Tx (aW (aX (aW rfl en) rfl) (Vr nn () v)) rfl (by rw[cC];lia) ⟨_,rfl,?_⟩) ?_
   .rw[NN v nn nz]
    rfl
   rintro _ rfl;have lk:∀ z∈bF a.2,bM (kn++((bF a.2).filter (mh kn)).map λz=>(z,v z)) z=aa (ov kn v z):=λz m=>by
    rw[k8];unfold ov;cases e:bM kn z with
    |some u=>rfl
    |none=>exact YF v (kA.2 ⟨m,by unfold mh;rw[e];rfl⟩)
   have ep:=KN () λz m=>⟨_,lk z m⟩
   rw[show rowOf (bF a.2) (kn++((bF a.2).filter (mh kn)).map λz=>(z,v z))=(bF a.2).map (ov kn v) from jG λz m=>by rw[lk z m];rfl] at ep
   refine lJ (cN (aW (aX (aW (aX (aO rfl rfl rfl) rfl) (vT A.L.ok ())) rfl) ep) ⟨_,rfl,.inr ⟨_,rfl,⟨At3.1 sv,qr v⟩,λw hw lt=>?_⟩⟩)
   have Z8:=ag hw.2;refine lv w (At3.2 (by rw[Z7 Z8];exact hw.1)) ?_
   have:=Gq (p:=mh kn) (λz m hz=>?_) lt
   .rwa [jG λz m=>show ov kn v z=v z by unfold ov;rw[nz z m];rfl] at this
   .unfold ov;cases e:bM kn z with
    |none=>unfold mh at hz;rw[e] at hz;cases hz
    |some u=>exact(Z8 z u e).symm
end
abbrev qD (Q:List fA):aA:=.list (Q.map iY)
abbrev a0:fA:=([],[])
theorem Ed{P:Out->Prop}(h:f (vS Y)=aa d)(k:P (.nx Y)):Goes (pJ .s f) Y P:=⟨_,by
 unfold pJ;rw[show eV 0 .s f Y=aa d from h]
 rfl,k⟩
def Least (B:aE->List (List Int))(a:fA)(row:List Int)(v:aE->Int):Prop:=tH B a row v/\∀ w,tH B a row w->¬ fj ((bF a.2).map w) ((bF a.2).map v)
def EW (B:aE->List (List Int))(Q:List fA)(row:List Int)(n:Nat):Prop:=∀ m,m<n->∀ w,¬ tH B (Q.getD m a0) row w
def sY (B:aE->List (List Int))(Q:List fA)(row:List Int)(d:aA):Prop:=
 (d=.none/\EW B Q row Q.length)\/∃ n v,n<Q.length/\d=.tuple [.int n,aZ ((bF (Q.getD n a0).2).map v)]/\Least B (Q.getD n a0) row v/\EW B Q row n
theorem C6 {B:aE->List (List Int)}{a:fA}{row:List Int}(h:Least B a row v)(h':Least B a row w):(bF a.2).map v=(bF a.2).map w:=by
 rcases IW (a:=(bF a.2).map v) (b:=(bF a.2).map w) (by simp) with e|e|e
 .exact e
 .exact absurd e (h'.2 v h.1)
 .exact absurd e (h.2 w h'.1)
theorem We {B:aE->List (List Int)}{Q:List fA}{row:List Int}{d':aA}(h:sY B Q row d)(h':sY B Q row d'):d=d':=by
 rcases h with⟨rfl,h⟩|⟨n,v,hn,rfl,hv,h⟩<;>rcases h' with⟨rfl,h'⟩|⟨n',v',P4,rfl,sh,h'⟩
 .rfl
 .exact absurd sh.1 (h n' P4 v')
 .exact absurd hv.1 (h' n hn v)
 .rcases wU n n' with q|q|q
  .exact absurd hv.1 (h' n q v)
  .subst q;rw[C6 hv sh]
  .exact absurd sh.1 (h n' q v')
section
variable {B:aE->List (List Int)}(b:Bk kds B wd)(h5:∀ t,(B t).length<=5)(nd:∀ t,(B t).Nodup){Q:List fA}(hQ:∀ a∈Q,Aok a)(hn:Q.length<=3)(row:List Int)
include b h5 hQ hn
theorem i3:Dq [.dict kds,qD Q,tI row]=aa .none:=by
 have:Goes EJ [s0 (.dict kds),s0 (qD Q),s0 (tI row),ab,ab,ab] λo=>∃ ρ',o=.nx ρ':=by
  refine ND (λ_ Y=>∃ x3 x4 x5:L2.Slot,Y=[s0 (.dict kds),s0 (qD Q),s0 (tI row),x3,x4,x5]) (dm (eX rfl)) ⟨ab,ab,ab,rfl⟩ ?_ λρ' _=>⟨ρ',rfl⟩
  rintro i d _ hd ⟨x3,x4,x5,rfl⟩;obtain⟨a,ma,rfl⟩:=bO.1 (eM hd);refine⟨[s0 (.dict kds),s0 (qD Q),s0 (tI row),s0 (tK a.1),s0 (aq a.2),x5],rfl,?_⟩;have A:=hQ a ma;have eb:=XX a.1 row A.hl;cases q:dJ a.1 row [] with
  |none=>
   rw[q] at eb;exact bX (aW rfl eb) (by simp) (gD rfl (hX ⟨_,.inl rfl,_,_,_,rfl⟩))
  |some kn=>
   rw[q] at eb;exact bX (aW rfl eb) (by simp) (eU rfl (Ed (aW (aX rfl (aX (aW rfl (Cv A.L kn)) rfl)) (g8 b h5 (Gr A.L kn))) ⟨_,.inl rfl,_,_,_,rfl⟩))
 obtain⟨_,e,ρ',rfl⟩:=this;show outD (EJ [s0 (.dict kds),s0 (qD Q),s0 (tI row),ab,ab,ab])=_;rw[e]
 rfl
include nd
theorem j2:∃ d,Cp [.dict kds,qD Q,tI row]=aa d/\sY B Q row d:=by
 rw[7]
 let I:Nat->aR->Prop:=λn Y=>(∃ x3 x4 x5:L2.Slot,Y=[s0 (.dict kds),s0 (qD Q),s0 (tI row),x3,x4,x5])/\EW B Q row n
 refine JC (I Q.length) (sY B Q row) ?_ (λd h=>⟨d,rfl,h⟩) ?_
 .refine HZ I _ (dm (p0 iY a0 rfl)) (by simp) ⟨⟨ab,ab,ab,rfl⟩,(λ_ h=>nomatch h)⟩ ?_
  rintro n d _ hd ⟨⟨x3,x4,x5,rfl⟩,no⟩;have hk:n<Q.length:=by simpa using(cJ.1 hd).1
  have ed:d=.tuple [.int n,iY (Q.getD n a0)]:=by
   rw[eZ,FW hk] at hd;exact(fF hd).symm
  subst ed;refine⟨[s0 (.dict kds),s0 (qD Q),s0 (tI row),s0 (.int n),s0 (iY (Q.getD n a0)),x5],rfl,?_⟩;obtain⟨d,e,⟨rfl,h⟩|⟨v,rfl,h⟩⟩:=Ul b h5 nd (hQ _ (getD_mem a0 hk)) row
  .refine bX (aW rfl e) (by simp) (gD rfl (hX (.inl ⟨_,rfl,⟨_,_,_,rfl⟩,λm hm=>?_⟩)))
   rcases Io.1 hm with hm|rfl
   .exact no m hm
   .exact h
  .exact bX (aW rfl e) (by simp) (eU rfl (cN (pR (aX rfl (aX rfl rfl))) (.inr ⟨_,rfl,.inr ⟨n,v,hk,rfl,h,no⟩⟩)))
 rintro _ ⟨⟨x3,x4,x5,rfl⟩,no⟩;exact cN rfl ⟨_,rfl,.inl ⟨rfl,no⟩⟩
theorem Oh:∃ d,RX [.dict kds,qD Q,tI row]=aa d/\sY B Q row d:=by
 obtain⟨d,e,h⟩:=j2 b h5 nd hQ hn row;rw[7];refine dU (λρ'=>ρ'=[s0 (.dict kds),s0 (qD Q),s0 (tI row)]) (Ed (aW rfl (i3 b h5 hQ hn row)) ⟨_,rfl,rfl⟩) ?_
 rintro _ rfl;exact cN (aW rfl e) ⟨_,rfl,h⟩
end
def iN (s:Bool×Kn)(p:aI×Int):Bool×Kn:=if s.1=ae then(match eA s.2 p with|some kn=>(ae,kn)|none=>(af,s.2)) else s
theorem XH (kn:Kn):∀ ps:List (aI×Int),ps.foldl iN (af,kn)=(af,kn)
 |[]=>rfl
 |p::ps=>by
  rw[iT];exact XH kn ps
theorem Az:∀ (ps:List (aI×Int)) (kn:Kn),(∀ ax,eO eA kn ps=aa ax->ps.foldl iN (ae,kn)=(ae,ax))/\(eO eA kn ps=ab->(ps.foldl iN (ae,kn)).1=af)
 |[],kn=>⟨λax e=>by cases e;rfl,λe=>by cases e⟩
 |p::ps,kn=>by
  have e0:eO eA kn (p::ps)=(eA kn p).bind λb=>eO eA b ps:=rfl
  rw[e0,iT];have e1:iN (ae,kn) p=match eA kn p with|some kn=>(ae,kn)|none=>(af,kn):=rfl
  rw[e1];cases eA kn p with
  |none=>exact⟨λax e=>(by cases e),λ_=>by show(ps.foldl iN (af,kn)).1=af;rw[XH]⟩
  |some k1=>exact Az ps k1
theorem j5 {kn ax:Kn}{p:aI×Int}(h:eA kn p=aa ax):ax.length<=kn.length+1:=by
 have:=DL (ps:=[p]) (by show(eA kn p).bind _=_;rw[h];rfl)
 simpa using this
theorem G6 (s:Bool×Kn)(p:aI×Int):(iN s p).2.length<=s.2.length+1:=by
 unfold iN;split
 .cases h:eA s.2 p with
  |none=>exact uE _
  |some kn=>exact j5 h
 .exact uE _
section
variable {a0 a1 a2 a3 a4 a5 a6 a7:L2.Slot}
abbrev oe (a0 a1 a2 a3 a4 a5 a6 a7:L2.Slot)(s:Bool×Kn)(x y:L2.Slot):aR:=[a0,a1,a2,a3,a4,a5,a6,a7,aa (1,.dict (DN s.2)),s0 (.bool s.1),x,y]
theorem Yr (s:Bool×Kn)(hl:s.2.length<=1000)(p:aI×Int):Goes (ck .s (au (ff (fC "str") (aB 10))) (uZ 9 .s (aB 9) 8 .s (aB 10) .s (aB 11) .s (aB 11)) (bH 9 0 .s (sG (aB 9) (ah du (aB 10) (aB 11))))) (oe a0 a1 a2 a3 a4 a5 a6 a7 s (s0 (kD p.1)) (s0 (.int p.2)))
  λo=>∃ ρ2,(o=.nx ρ2\/o=.ct ρ2)/\∃ x y:L2.Slot,ρ2=oe a0 a1 a2 a3 a4 a5 a6 a7 (iN s p) x y:=by
 have lz:(DN s.2).length<sizeLine:=vI (by simp[DN];lia)
 obtain⟨k,v⟩:=p;obtain⟨g,kn⟩:=s;cases k with
 |inl i=>
  refine gD (dI (zJ rfl (xX (.inl i)))) ?_;refine vP (UX rfl λ_=>aO rfl rfl (vG i v)) (by simp) ⟨_,.inl rfl,s0 (.int i),s0 (.int v),?_⟩
  have e:iN (g,kn) (.inl i,v)=(g&&decide (i=v),kn):=by
   unfold iN;cases g with
   |false=>rfl
   |true=>
    show(match (if v=i then aa kn else ab) with|some kn=>(ae,kn)|none=>(af,kn))=_
    by_cases h:v=i
    .subst h;simp
    .rw[if_neg h,decide_eq_false (λq=>h q.symm)];rfl
  rw[e]
  rfl
 |inr z=>
  refine eU (dI (zJ rfl (xX (.inr z)))) ?_;cases g with
  |false=>exact⟨.nx (oe a0 a1 a2 a3 a4 a5 a6 a7 (af,kn) (s0 (.str z)) (s0 (.int v))),rfl,_,.inl rfl,_,_,rfl⟩
  |true=>
   have e1:uZ 9 .s (aB 9) 8 .s (aB 10) .s (aB 11) .s (aB 11) (oe a0 a1 a2 a3 a4 a5 a6 a7 (ae,kn) (s0 (.str z)) (s0 (.int v)))=if (DN kn).length<sizeLine then match bY (DN kn) (.inr z) with
     |some (.int u)=>sM 9 .s (aB 11) u (oe a0 a1 a2 a3 a4 a5 a6 a7 (ae,kn) (s0 (.str z)) (s0 (.int v)))
     |some _=>ab
     |none=>sM 9 .s (aB 11) v ((oe a0 a1 a2 a3 a4 a5 a6 a7 (ae,kn) (s0 (.str z)) (s0 (.int v))).set 8 (aa (1,.dict (putD (DN kn) (.inr z) (.int v))))) else ab:=rfl
   rw[if_pos lz,tM] at e1;cases hl:bM kn z with
   |some u=>
    rw[hl] at e1;have e1:uZ 9 .s (aB 9) 8 .s (aB 10) .s (aB 11) .s (aB 11) (oe a0 a1 a2 a3 a4 a5 a6 a7 (ae,kn) (s0 (.str z)) (s0 (.int v)))=aa (.nx (oe a0 a1 a2 a3 a4 a5 a6 a7 (decide (u=v),kn) (s0 (.str z)) (s0 (.int v)))):=e1;have e:iN (ae,kn) (.inr z,v)=(decide (u=v),kn):=by
     show(match (match bM kn z with|some u=>if v=u then aa kn else ab|none=>aa (kn++[(z,v)])) with|some kn=>(ae,kn)|none=>(af,kn))=_
     rw[hl];show(match (if v=u then aa kn else ab) with|some kn=>(ae,kn)|none=>(af,kn))=_
     by_cases h:v=u
     .subst h;simp
     .rw[if_neg h,decide_eq_false (λq=>h q.symm)]
    exact⟨_,e1,_,.inl rfl,_,_,by rw[e]⟩
   |none=>
    rw[hl] at e1;have e1:=e1;rw[IB hl] at e1;have e1:uZ 9 .s (aB 9) 8 .s (aB 10) .s (aB 11) .s (aB 11) (oe a0 a1 a2 a3 a4 a5 a6 a7 (ae,kn) (s0 (.str z)) (s0 (.int v)))=aa (.nx (oe a0 a1 a2 a3 a4 a5 a6 a7 (decide (v=v),kn++[(z,v)]) (s0 (.str z)) (s0 (.int v)))):=e1;have e:iN (ae,kn) (.inr z,v)=(decide (v=v),kn++[(z,v)]):=by
     show(match (match bM kn z with|some u=>if v=u then aa kn else ab|none=>aa (kn++[(z,v)])) with|some kn=>(ae,kn)|none=>(af,kn))=_
     rw[hl];simp
    exact⟨_,e1,_,.inl rfl,_,_,by rw[e]⟩
end
def fP (B:aE->List (List Int))(ls:List Ln):List Kn:=fI (ls.map λl=>(l,B l.1))
section
variable {B:aE->List (List Int)}
theorem Bl (b:Bk kds B wd)(h5:∀ t,(B t).length<=5)(L:Lok ls)(hW:∀ l∈ls,l.2.length=wd l.1):EK [.dict kds,aq ls]=aa (.list ((fP B ls).map ao))/\(fP B ls).length<=4096:=by
 have n4:=L.n4;have:∃ d,EK [.dict kds,aq ls]=aa d/\d=.list ((fP B ls).map ao)/\(fP B ls).length<=4096:=by
  rw[7];refine bX (d:=.list ([[]].map ao)) (xP rfl) (by simp) ?_
  refine dU (λρ'=>(fP B ls).length<=4096/\∃ x3 x4 x5 x6 x7 x8 x9 cr cu:L2.Slot,ρ'=[s0 (.dict kds),s0 (aq ls),s0 (.list ((fP B ls).map ao)),x3,x4,x5,x6,x7,x8,x9,cr,cu]) ?_ ?_
  .refine iF (λbp l=>lA bp l.2 (B l.1)) (λi bp ρ'=>(bp.length<=5^i/\∀ kn∈bp,kn.length<=6*i)/\∃ x3 x4 x5 x6 x7 x8 x9 cr cu:L2.Slot,ρ'=[s0 (.dict kds),s0 (aq ls),s0 (.list (bp.map ao)),x3,x4,x5,x6,x7,x8,x9,cr,cu]) (dm (lM rfl)) ⟨⟨bB _,λkn m=>by rw[cE.1 m];simp⟩,ab,ab,ab,ab,ab,ab,ab,ab,ab,rfl⟩ ?_ ?_
   .rintro i l bp _ hx ⟨⟨hk,so⟩,x3,x4,x5,x6,x7,x8,x9,cr,cu,rfl⟩;have hi:=(cJ.1 hx).1;have hw:=(L.ok l (eM hx)).1;have hb:=h5 l.1;have hp:(5:Nat)^i<=5^3:=Nat.pow_le_pow_right nofun ()
    have hp:=hp;refine⟨[s0 (.dict kds),s0 (aq ls),s0 (.list (bp.map ao)),s0 (.str l.1),s0 (tK l.2),x5,x6,x7,x8,x9,cr,cu],rfl,?_⟩;refine bX rfl (by simp) ?_
    refine dU (λρ'=>∃ x6 x7 x8 x9 cr cu:L2.Slot,ρ'=[s0 (.dict kds),s0 (aq ls),s0 (.list (bp.map ao)),s0 (.str l.1),s0 (tK l.2),aa (1,.list ((lA bp l.2 (B l.1)).map ao)),x6,x7,x8,x9,cr,cu]) ?_ ?_
    .refine iF (b0:=[]) (λaj kn=>aj++(B l.1).filterMap λr=>dJ l.2 r kn) (λj aj ρ'=>aj.length<=j*5/\∃ x6 x7 x8 x9 cr cu:L2.Slot,ρ'=[s0 (.dict kds),s0 (aq ls),s0 (.list (bp.map ao)),s0 (.str l.1),s0 (tK l.2),aa (1,.list (aj.map ao)),x6,x7,x8,x9,cr,cu]) (dm (eX rfl)) ⟨dW _,x6,x7,x8,x9,cr,cu,rfl⟩ ?_ ?_
     .rintro j kn aj _ Z9 ⟨ha,x6,x7,x8,x9,cr,cu,rfl⟩;have hj:=(cJ.1 Z9).1;have hknl:=so kn (eM Z9);refine⟨[s0 (.dict kds),s0 (aq ls),s0 (.list (bp.map ao)),s0 (.str l.1),s0 (tK l.2),aa (1,.list (aj.map ao)),s0 (ao kn),x7,x8,x9,cr,cu],rfl,?_⟩;refine iF (λaj r=>aj++(dJ l.2 r kn).toList) (λk bf ρ'=>bf.length<=aj.length+k/\∃ x7 x8 x9 cr cu:L2.Slot,ρ'=[s0 (.dict kds),s0 (aq ls),s0 (.list (bp.map ao)),s0 (.str l.1),s0 (tK l.2),aa (1,.list (bf.map ao)),s0 (ao kn),x7,x8,x9,cr,cu]) (dm (eX (b.get rfl rfl))) ⟨bB _,x7,x8,x9,cr,cu,rfl⟩ ?_ ?_
      .rintro k r bf _ hr ⟨wt,x7,x8,x9,cr,cu,rfl⟩;have xq:=(cJ.1 hr).1;refine⟨[s0 (.dict kds),s0 (aq ls),s0 (.list (bp.map ao)),s0 (.str l.1),s0 (tK l.2),aa (1,.list (bf.map ao)),s0 (ao kn),s0 (aZ r),x8,x9,cr,cu],rfl,?_⟩;refine bX (aW rfl (by show(if dh (DN kn)=ae then aa (FL (DN kn)) else ab)=_;rw[vy];rfl)) (by simp) ?_
       refine bX rfl (by simp) ?_
       have lz:(l.2.zip r).length<=6:=by rw[AN];lia
       refine dU (λρ'=>∃ cr cu:L2.Slot,ρ'=oe (s0 (.dict kds)) (s0 (aq ls)) (s0 (.list (bp.map ao))) (s0 (.str l.1)) (s0 (tK l.2)) (aa (1,.list (bf.map ao))) (s0 (ao kn)) (s0 (aZ r)) ((l.2.zip r).foldl iN (ae,kn)) cr cu) ?_ ?_
       .refine iF (xs:=l.2.zip r) (q:=HD) (b0:=(ae,kn)) iN (λn s ρ'=>s.2.length<=kn.length+n/\∃ cr cu:L2.Slot,ρ'=oe (s0 (.dict kds)) (s0 (aq ls)) (s0 (.list (bp.map ao))) (s0 (.str l.1)) (s0 (tK l.2)) (aa (1,.list (bf.map ao))) (s0 (ao kn)) (s0 (aZ r)) s cr cu) (dm ?_) ⟨bB _,cr,cu,rfl⟩ ?_ ?_
        .refine(RT rfl rfl rfl).trans ?_;exact congrArg aa (WN l.2 r)
        .rintro n p s _ P9 ⟨hs,cr,cu,rfl⟩;have hn:=(cJ.1 P9).1;refine⟨oe (s0 (.dict kds)) (s0 (aq ls)) (s0 (.list (bp.map ao))) (s0 (.str l.1)) (s0 (tK l.2)) (aa (1,.list (bf.map ao))) (s0 (ao kn)) (s0 (aZ r)) s (s0 (kD p.1)) (s0 (.int p.2)),rfl,?_⟩;obtain⟨o,eo,ρ2,h1,x,y,h2⟩:=Yr s () p
         have:=G6 s p;exact⟨o,eo,ρ2,h1,(),x,y,h2⟩
        .rintro _ ⟨_,cr,cu,rfl⟩;exact⟨_,rfl,cr,cu,rfl⟩
       rintro _ ⟨cr,cu,rfl⟩;refine lJ ?_;have key:(∃ ax,dJ l.2 r kn=aa ax/\(l.2.zip r).foldl iN (ae,kn)=(ae,ax))\/(dJ l.2 r kn=ab/\((l.2.zip r).foldl iN (ae,kn)).1=af):=by
        unfold dJ;rw[if_pos ((b.wid l.1 r (eM hr)).trans (hW l (eM hx)).symm)];obtain⟨f1,f2⟩:=Az (l.2.zip r) kn;cases hf:eO eA kn (l.2.zip r) with
        |none=>exact .inr ⟨rfl,f2 hf⟩
        |some ax=>exact .inl ⟨ax,rfl,f1 ax hf⟩
       rcases key with⟨ax,e1,e2⟩|⟨e1,e2⟩
       .rw[e2];refine eU rfl (pV rfl rfl (by simp;lia) ⟨_,.inl rfl,by rw[e1];simp;lia,s0 (aZ r),s0 (ao ax),s0 (.bool ae),cr,cu,?_⟩)
        rw[e1,Option.toList_some,gJ]
        rfl
       .generalize(l.2.zip r).foldl iN (ae,kn)=s at e2;obtain⟨g,k2⟩:=s;cases e2;refine gD rfl (hX ⟨_,.inl rfl,by rw[e1];simp;lia,s0 (aZ r),s0 (.dict (DN k2)),s0 (.bool af),cr,cu,?_⟩)
        rw[e1,Option.toList_none,mS]
        rfl
      .rintro _ ⟨wt,x7,x8,x9,cr,cu,rfl⟩;refine⟨_,.inl rfl,?_,s0 (ao kn),x7,x8,x9,cr,cu,by rw[yG]⟩
       rw[yG] at wt
       lia
     .rintro _ ⟨ha,x6,x7,x8,x9,cr,cu,rfl⟩;rw[yO];exact⟨_,rfl,x6,x7,x8,x9,cr,cu,rfl⟩
    rintro _ ⟨x6,x7,x8,x9,cr,cu,rfl⟩;refine lJ (vP rfl (by simp[frz]) ⟨_,.inl rfl,⟨?_,λax m=>?_⟩,s0 (.str l.1),s0 (tK l.2),s0 (.list ((lA bp l.2 (B l.1)).map ao)),x6,x7,x8,x9,cr,cu,rfl⟩)
    .refine dG (Ef _ _ _) ?_;rw[wR];exact FN hk hb
    .obtain⟨kn,mk,m⟩:=FS.1 m;obtain⟨r,_,e⟩:=uG.1 m;have:=CK e;have:=so kn mk
     lia
   .rintro _ ⟨⟨hk,_⟩,x3,x4,x5,x6,x7,x8,x9,cr,cu,rfl⟩;have e:ls.foldl (λbp l=>lA bp l.2 (B l.1)) [[]]=fP B ls:=by
     unfold fP fI;rw[List.foldl_map]
    rw[e] at hk ⊢;exact⟨_,rfl,dG hk (HX n4),x3,x4,x5,x6,x7,x8,x9,cr,cu,rfl⟩
  rintro _ ⟨hk,x3,x4,x5,x6,x7,x8,x9,cr,cu,rfl⟩;exact cN rfl ⟨_,rfl,rfl,hk⟩
 obtain⟨d,e,rfl,h⟩:=this;exact⟨e,h⟩
end
theorem CC {xs ys:List aA}(h:xs.length+ys.length<=100000):nL (.list xs) (.list ys)=aa (.list (xs++ys)):=if_pos (nH h)
theorem Mk {kn:Kn}{u:Int}(h:bM kn z=aa u):ar (ao kn) (.str z)=aa (.int u):=by
 show bY (DN kn) (.inr z)=_;rw[tM,h]
 rfl
theorem LO:∀ ks:List aI,(ks.filter isS).map kD=(cZ ks).map bZ
 |[]=>rfl
 |.inl _::ks=>LO ks
 |.inr z::ks=>congrArg (bZ z :: ·) (LO ks)
theorem WU(h6:∀ l∈ls,l.2.length<=6)(n4:ls.length<=4){a b c:Nat}(st:List aE->L2.Slot->aR)(ha:∀ x,aB a (vS (st [] x))=aa (aq ls))(hb:∀ aj x d,ft b d (st aj x)=aa (st aj (s0 d)))(hv:∀ aj d,aB b (vS (st aj (s0 d)))=aa d)
  (hc:∀ aj x,aB c (vS (st aj x))=aa (.list (aj.map bZ))) (hl:∀ aj x,c<(st aj x).length) (hs:∀ aj bf x,(st aj x).set c (s0 (.list (bf.map bZ)))=st bf x) (x:L2.Slot) :
  Goes (cP .s (bc (aB a)) (ft b) (bH c 0 .s (ah nL (aB c) (cf [ab] (bc (ah ar (aB b) (eC (.int 1)))) (gB 0) (au (ff (fC "str") (aB 0))) (aB 0))))) (st [] x) λo=>∃ ρ',o=.nx ρ'/\∃ x,ρ'=st (ls.flatMap λl=>cZ l.2) x:=by
 refine iF (λaj l=>aj++cZ l.2) (λi aj ρ'=>aj.length<=6*i/\∃ x,ρ'=st aj x) (dm (lM (ha x))) ⟨bB _,x,rfl⟩ ?_ ?_
 .rintro i l aj _ hx ⟨cy,x,rfl⟩;have hi:=(cJ.1 hx).1;have hl6:=h6 l (eM hx);have hz:(cZ l.2).length<=l.2.length:=wW ..;refine⟨_,hb aj x _,?_⟩;have e:=fS (cap:=[ab]) (fi:=bc (ah ar (aB b) (eC (.int 1)))) (T:=gB 0) (t:=au (ff (fC "str") (aB 0))) (f:=aB 0) (Y:=vS (st aj (s0 (bJ l)))) isS kD (lM (aO (hv aj _) rfl rfl)) () λk mk=>⟨[aa (kD k)],rfl,dI (zJ rfl (by rw[xX];cases k<;>rfl)),λ_=>rfl⟩
  rw[LO] at e;refine vP (aO (hc aj _) e (CC (by simp;lia))) (hl _ _) ⟨_,.inl rfl,by simp;lia,s0 (bJ l),?_⟩
  rw[<-gJ];exact hs _ _ _
 .rintro _ ⟨_,x,rfl⟩;exact⟨_,rfl,x,by rw[yO];rfl⟩
theorem B2[DecidableEq α](zs:List α)(z:α):fQ (zs++[z])=dD (fQ zs) z:=rY
theorem VN (zs:List aE)(d0:aE):∀ m,m<=zs.length->((cG m).filter λk=>decide (zs.getD k d0∉zs.take k)).map (λk=>bZ (zs.getD k d0))=(fQ (zs.take m)).map bZ
 |0,_=>by simp[fQ]
 |m+1,h=>by
  have e:zs.getD m d0=zs[m]:=by simp[gX,Nat.lt_of_succ_le h]
  rw[List.range_succ,Jg,gJ,VN zs d0 m (Nat.le_of_succ_le h),K1 h,B2];unfold dD;by_cases q:zs[m]∈zs.take m
  .rw[if_pos (Aec.2 q),List.filter_cons_of_neg (by rw[e];simpa using q)]
   simp
  .rw[if_neg λz=>q (Aec.1 z),List.filter_cons_of_pos (by rw[e];simpa using q)]
   simp only[Jf,dC,List.map_nil,gJ,e]
instance (a b:List Int):Decidable (fj a b):=inferInstanceAs (Decidable (cA _<cA _))
theorem E4 {a b c:List Int}(h:fj a b)(h':fj b c):fj a c:=List.lt_trans h h'
theorem ZD {bt:Nat->Nat->Bool}(ir:∀ i,bt i i=af)(tr:∀ i j k,bt i j=ae->bt j k=ae->bt i k=ae):∀ n j,j<=n->bt j (mP bt n)=af
 |0,j,h=>by rw[Nat.le_zero.1 h];exact ir 0
 |n+1,j,h=>by
  have ih:=ZD ir tr n;unfold mP;cases q:bt (n+1) (mP bt n) with
  |true=>
   rw[if_pos rfl];by_cases e:j=n+1
   .rw[e];exact ir _
   .cases z:bt j (n+1) with
    |false=>rfl
    |true=>rw[<-ih j (),tr _ _ _ z q]
  |false=>
   rw[if_neg kB];by_cases e:j=n+1
   .rw[e];exact q
   .exact ih j ()
theorem Nl {G:List (List Int)}(hw:∀ r∈G,r.length=n)(hn:G≠[]):∃ x∈G,EX af [bD G]=aa (aZ x)/\∀ y∈G,¬ fj y x:=by
 have at_:∀ i,(G.map aZ).getD i .none=if i<G.length then aZ (G.getD i []) else .none:=λi=>by
  rw[gX,eZ,gX];by_cases h:i<G.length<;>simp[h]
 have lt:∀ i j,i<G.length->j<G.length->vw ((G.map aZ).getD i .none) ((G.map aZ).getD j .none)=decide (fj (G.getD i []) (G.getD j [])):=λi j hi hj=>by
  rw[at_,if_pos hi,at_,if_pos hj]
  rfl
 have no:∀ i d,¬ i<G.length->vw ((G.map aZ).getD i .none) d=af/\vw d ((G.map aZ).getD i .none)=af:=λi d h=>by
  rw[at_,if_neg h];exact⟨by cases d<;>rfl,by cases d<;>rfl⟩
 obtain⟨m,hm⟩:∃ m,G.length=m+1:=⟨G.length-1,by have:=List.length_pos_iff.2 hn;lia⟩
 have sp:=ZD (bt:=λi j=>vw ((G.map aZ).getD i .none) ((G.map aZ).getD j .none)) (λi=>by
  by_cases h:i<G.length
  .rw[lt i i h h];exact decide_eq_false (BS _)
  .exact(no i _ h).1) (λi j k h1 h2=>by
  by_cases hi:i<G.length
  .by_cases hk:k<G.length
   .by_cases hj:j<G.length
    .rw[lt i j hi hj] at h1;rw[lt j k hj hk] at h2;rw[lt i k hi hk];exact decide_eq_true (E4 (of_decide_eq_true h1) (of_decide_eq_true h2))
    .rw[(no j _ hj).2] at h1;cases h1
   .rw[(no k _ hk).2] at h2;cases h2
  .rw[(no i _ hi).1] at h1;cases h1) m
 have hb:kF (G.map aZ) m<G.length:=by
  have:=MC (λi j=>vw ((G.map aZ).getD i .none) ((G.map aZ).getD j .none)) m
  unfold kF
  lia
 have ok:L7 (G.map aZ)=ae:=by
  unfold L7;rw[LB];refine Jz.2 (.inr (dQ.2 λa ma=>dQ.2 λc mc=>?_))
  obtain⟨a,m1,rfl⟩:=bO.1 ma;obtain⟨c,m2,rfl⟩:=bO.1 mc;exact KW a c ((hw a m1).trans (hw c m2).symm)
 refine⟨G.getD (kF (G.map aZ) m) [],getD_mem [] hb,?_,λy my=>?_⟩
 .show(if L7 (G.map aZ)=ae/\(G.map aZ=[]->af=ae) then aa (match G.map aZ with|[]=>PyData.none|_::r=>(G.map aZ).getD (kF (G.map aZ) r.length) .none) else ab)=_
  rw[if_pos ⟨ok,λz=>absurd (List.map_eq_nil_iff.1 z) hn⟩]
  have:∀ X:List aA,X.length=m+1->(match X with|[]=>PyData.none|_::r=>X.getD (kF X r.length) .none)=X.getD (kF X m) .none:=λX h=>by
   cases X with
   |nil=>cases h
   |cons x r=>cases h;rfl
  rw[this _ (by rw[cC];exact hm),at_,if_pos hb]
 .obtain⟨j,hj,rfl⟩:=uI my;have:=sp j ()
  have:=of_decide_eq_false ((lt j _ hj hb).symm.trans this)
  rwa [show G.getD j []=G[j] by simp[gX,hj]] at this
section
variable {B:aE->List (List Int)}
theorem So {kn:Kn}(h:oB kn w)(t:pE kn (cV kn) ks):ks.map (tv (cV kn))=ks.map (tv w):=vF λz m=>h z _ (t z m)
theorem LG{kn:Kn}(m:kn∈fP B ls):∀ z∈bF ls,bM kn z=aa (cV kn z):=λz mz=>by
 obtain⟨l,ml,hz⟩:=Ae8.1 mz;exact(vX _ kn m (l,B l.1) (bO.2 ⟨l,ml,rfl⟩)).1 z (Ad0.1 hz)
theorem Vp{kn:Kn}(m:kn∈fP B ls):iX B ls (cV kn):=λl ml=>(vX _ kn m (l,B l.1) (bO.2 ⟨l,ml,rfl⟩)).2
theorem t7(h:iX B ls w):∃ kn∈fP B ls,oB kn w:=LX _ [[]] ⟨[],cE.2 rfl,JE w⟩ λp mp=>by
 obtain⟨l,ml,rfl⟩:=bO.1 mp;exact h l ml
variable (b:Bk kds B wd)(h5:∀ t,(B t).length<=5){Q:List fA}(hQ:∀ a∈Q,Aok a/\∀ l∈a.2,l.2.length=wd l.1)(hn:Q.length<=3)(row:List Int)
include b h5 hQ hn
theorem G9:∃ d,Dd [.dict kds,qD Q,tI row]=aa d/\sY B Q row d:=by
 rw[7]
 let st:List L2.Slot->aR:=λr=>s0 (.dict kds)::s0 (qD Q)::s0 (tI row)::r
 let I:Nat->aR->Prop:=λn Y=>(∃ x3 x4 x5 x6 x7 x8 x9:L2.Slot,Y=st [x3,x4,x5,x6,x7,x8,x9])/\EW B Q row n
 refine JC (I Q.length) (sY B Q row) ?_ (λd h=>⟨d,rfl,h⟩) ?_
 .have ei:=oC (fa:=aG (aL cB (aG (aB 1) aJ)) aJ) (Y:=vS (st [ab,ab,ab,ab,ab,ab,ab])) (aX (aW rfl (kH _)) rfl) (by rw[cC];lia)
  refine HZ I _ (dm ei) (by simp) ⟨⟨ab,ab,ab,ab,ab,ab,ab,rfl⟩,(λ_ h=>nomatch h)⟩ ?_
  rintro n d _ hd ⟨⟨x3,x4,x5,x6,x7,x8,x9,rfl⟩,no⟩;have hk:n<Q.length:=by simpa using(cJ.1 hd).1
  have ed:d=.int n:=by
   rw[eZ,FW (by simpa using hk)] at hd
   exact(fF hd).symm
  subst ed;refine⟨st [s0 (.int n),x4,x5,x6,x7,x8,x9],rfl,?_⟩;obtain⟨A,hW⟩:=hQ _ (getD_mem a0 hk);have ea:ar (qD Q) (.int n)=aa (iY (Q.getD n a0)):=rK (getD_some a0 hk);generalize ha:Q.getD n a0=a at A hW ea;have n4:=A.L.n4;have h6:∀ l∈a.2,l.2.length<=6:=λl m=>(A.L.ok l m).1
  refine Gh (aO rfl rfl ea) rfl ?_;refine bX rfl (by simp[st]) ?_
  refine dU _ (WU h6 n4 (λaj x=>st [s0 (.int n),s0 (tK a.1),s0 (aq a.2),s0 (.list (aj.map bZ)),x,x8,x9]) (λ_=>rfl) (λ_ _ _=>rfl) (λ_ _=>rfl) (λ_ _=>rfl) (λ_ _=>by simp[st]) (λ_ _ _=>rfl) x7) ?_
  rintro _ ⟨x7,rfl⟩;have zl:=DB a.2 h6;have eN:bF a.2=fQ (a.2.flatMap λl=>cZ l.2):=rfl
  generalize(a.2.flatMap λl=>cZ l.2)=zs at zl eN
  have e2:=fS (cap:=[ab,aa 6]) (fi:=jm (aG (aL cB (aG (aB 6) aJ)) aJ)) (T:=gB 0) (t:=au (ah (kg ae) (ah ar (aB 1) (aB 0)) (sL (aB 1) oN (oS (aB 0))))) (f:=ah ar (aB 1) (aB 0)) (Y:=vS (st [s0 (.int n),s0 (tK a.1),s0 (aq a.2),s0 (.list (zs.map bZ)),x7,x8,x9])) (λk=>decide (zs.getD k "" ∉ zs.take k)) (λk=>bZ (zs.getD k "")) (oC (aX (aW rfl ((kH _).trans (by rw[cC]))) rfl) ()) (by simp;lia) λk mk=>by
   have hk:=iI.1 mk;have ix:ar (.list (zs.map bZ)) (.int k)=aa (.str (zs.getD k "")):=rK (getD_some _ hk);refine⟨[aa (.int k),aa (.list (zs.map bZ))],rfl,dI (aO (aO rfl rfl ix) (SW rfl rfl rfl) ?_),λ_=>aO rfl rfl ix⟩
   rw[MW (by simp;lia),<-OZ,Fk]
   simp
  rw[VN zs "" zs.length (bB _),AJ,<-eN] at e2;refine bX e2 (by simp[st]) (lJ (bX (d:=.list ([].map aZ)) rfl (by simp[st,frz]) ?_))
  obtain⟨ec,cl⟩:=Bl b h5 A.L hW;have nl:=KS a.2 h6
  let G:List Kn->List (List Int):=λW=>(W.filter λkn=>decide (a.1.map (tv (cV kn))=row)).map λkn=>(bF a.2).map (cV kn)
  refine dU (λρ'=>∃ x9,ρ'=st [s0 (.int n),s0 (tK a.1),s0 (aq a.2),s0 (.list ((bF a.2).map bZ)),x7,aa (1,bD (G (fP B a.2))),x9]) ?_ ?_
  .refine iF (λaj kn=>aj++G [kn]) (λi aj ρ'=>aj.length<=i/\∃ x9,ρ'=st [s0 (.int n),s0 (tK a.1),s0 (aq a.2),s0 (.list ((bF a.2).map bZ)),x7,aa (1,bD aj),x9]) (dm (eX (aW rfl ec))) ⟨bB _,x9,rfl⟩ ?_ ?_
   .rintro i kn aj _ hx ⟨cy,x9,rfl⟩;have mk:=eM hx;have hi:=(cJ.1 hx).1;have hz:=LG mk;have e1:=fS (cap:=[ab,aa 9]) (fi:=bc (aB 4)) (T:=gB 0) (t:=cS) (Y:=vS (st [s0 (.int n),s0 (tK a.1),s0 (aq a.2),s0 (.list ((bF a.2).map bZ)),x7,aa (1,bD aj),s0 (ao kn)])) (λ_=>ae) (λk=>aY (tv (cV kn) k)) (lM rfl) (by have:=A.hl;lia) λk mk=>⟨[aa (kD k),aa (ao kn)],rfl,rfl,λ_=>CL (λz m=>hz z (A.hd z m)) mk⟩
    have e2:=fS (cap:=[ab,aa 9]) (fi:=bc (aB 6)) (T:=gB 0) (t:=cS) (f:=ah ar (aB 1) (aB 0)) (Y:=vS (st [s0 (.int n),s0 (tK a.1),s0 (aq a.2),s0 (.list ((bF a.2).map bZ)),x7,aa (1,bD aj),s0 (ao kn)])) (λ_=>ae) (λz=>aY (cV kn z)) (eX rfl) () λz mz=>⟨[aa (.str z),aa (ao kn)],rfl,rfl,λ_=>aO rfl rfl (Mk (hz z mz))⟩
    rw[kU.2 λ_ _=>rfl] at e1 e2
    have c:bV .s (au (ah du (aL iD (aG (cf [ab,aa 9] (bc (aB 4)) (gB 0) cS (jA (aB 1) (aB 0) (aB 0))) aJ)) (aB 2))) (st [s0 (.int n),s0 (tK a.1),s0 (aq a.2),s0 (.list ((bF a.2).map bZ)),x7,aa (1,bD aj),s0 (ao kn)])=aa (decide (a.1.map (tv (cV kn))=row)):=dI (aO (aW (aX e1 rfl) (by unfold aZ;rw[dY];rfl)) rfl (Uc _ _))
    refine⟨st [s0 (.int n),s0 (tK a.1),s0 (aq a.2),s0 (.list ((bF a.2).map bZ)),x7,aa (1,bD aj),s0 (ao kn)],rfl,?_⟩;by_cases q:a.1.map (tv (cV kn))=row
    .rw[decide_eq_true q] at c;refine eU c (pV (d:=aZ ((bF a.2).map (cV kn))) (aW (aX e2 rfl) (by unfold aZ;rw[dY];rfl)) rfl (by simp;lia) ⟨_,.inl rfl,?_,s0 (ao kn),?_⟩)
     .simp[G,q]
      lia
     .simp only[G,PJ,q,decide_true,if_true,Jf,dC,List.map_nil,bD,gJ]
      rfl
    .rw[decide_eq_false q] at c;refine gD c (hX ⟨_,.inl rfl,?_,s0 (ao kn),?_⟩)
     .simp[G,q]
      lia
     .simp[G,q]
   .rintro _ ⟨_,x9,rfl⟩;refine⟨_,rfl,x9,?_⟩;rw[yO];have:∀ W:List Kn,(W.flatMap λkn=>G [kn])=G W:=λW=>by
     induction W with
     |nil=>rfl
     |cons k W ih=>
      rw[wX,ih];simp only[G,<-gJ,<-Jg]
      rfl
    rw[this]
    rfl
  rintro _ ⟨x9,rfl⟩;have mem:∀ w,tH B a row w->(bF a.2).map w∈G (fP B a.2):=λw hw=>by
   obtain⟨kn,m,ag⟩:=t7 hw.1;have hz:=LG m;refine bO.2 ⟨kn,kA.2 ⟨m,decide_eq_true ?_⟩,jG λz mz=>ag z _ (hz z mz)⟩
   rw[So ag λz m=>hz z (A.hd z m)]
   exact hw.2
  have c:∀ g:List (List Int),bV .s (au (ah iq (aL cB (aG (aB 8) aJ)) (eC (.int 0)))) (st [s0 (.int n),s0 (tK a.1),s0 (aq a.2),s0 (.list ((bF a.2).map bZ)),x7,s0 (bD g),x9])=aa (decide (g≠[])):=λg=>dI (aO (aW rfl (kH _)) rfl (by
   rw[cC];exact congrArg (λx=>aa (jW x)) (decide_eq_decide.2 (by rw[ne_eq,<-FV];lia))))
  have c:=c (G (fP B a.2));by_cases q:G (fP B a.2)=[]
  .rw[decide_eq_false (λz=>z q)] at c
   refine gD c (hX (.inl ⟨_,rfl,⟨_,_,_,_,_,_,_,rfl⟩,λm hm w hw=>?_⟩))
   rcases Io.1 hm with hm|rfl
   .exact no m hm w hw
   .rw[ha] at hw;have:=mem w hw;rw[q] at this;cases this
  .rw[decide_eq_true q] at c;obtain⟨x,mx,em,lx⟩:=Nl (n:=(bF a.2).length) (λr m=>by
    obtain⟨kn,_,rfl⟩:=bO.1 m;simp) q
   obtain⟨kn,mk,rfl⟩:=bO.1 mx;obtain⟨mk,hd⟩:=kA.1 mk;refine eU c (cN (pR (aX rfl (aX (aW rfl em) rfl))) (.inr ⟨_,rfl,.inr ⟨n,cV kn,hk,by rw[ha],?_,no⟩⟩))
   rw[ha];exact⟨⟨Vp mk,of_decide_eq_true hd⟩,λw hw=>lx _ (mem w hw)⟩
 rintro _ ⟨⟨x3,x4,x5,x6,x7,x8,x9,rfl⟩,no⟩;exact cN rfl ⟨_,rfl,.inl ⟨rfl,no⟩⟩
end
theorem Uo {A:List Tb}{t:aE}(h:t∉A.map (·.1))(R:List (List Int)):putD (az A) (.inr t) (bD R)=az (A++[(t,R)]):=by
 unfold putD;have hn:¬ ((az A).any λkd=>decide (bU kd.1=aa (.inr t)))=ae:=λq=>by
  obtain⟨kd,m,e⟩:=GB.1 q;obtain⟨p,mp,rfl⟩:=bO.1 m;have e:=of_decide_eq_true e;have e:=e;injection e with e;injection e with e;exact h (bO.2 ⟨p,mp,e⟩)
 rw[if_neg hn];unfold az;rw[gJ]
 rfl
theorem ZS:∀ (M A:List Tb),((A++M).map (·.1)).Nodup->kI (M.map λp=>(jE p.1,bD p.2)) (az A)=az (A++M)
 |[],A,_=>by simp[kI]
 |p::M,A,h=>by
  show kI (M.map λp=>(jE p.1,bD p.2)) (putD (az A) (.inr p.1) (bD p.2))=_
  have hn:p.1∉A.map (·.1):=λm=>by
   rw[gJ] at h;exact(rX.1 h).2.2 p.1 m p.1 (by simp) rfl
  rw[Uo hn,ZS M (A++[(p.1,p.2)]) (by simpa using h)]
  simp
theorem XB:∀ L:List Tb,sP (L.map λp=>cW [.str p.1,bD p.2])=aa (L.map λp=>(jE p.1,bD p.2))
 |[]=>rfl
 |p::L=>by
  show((sP (L.map λp=>cW [.str p.1,bD p.2])).bind λr=>aa ((jE p.1,bD p.2)::r))=_
  rw[XB L]
  rfl
theorem Vi {L:List Tb}(nd:(L.map (·.1)).Nodup):BZ [.list (L.map λp=>cW [.str p.1,bD p.2])]=aa (.dict (az L)):=by
 show((sP (L.map λp=>cW [.str p.1,bD p.2])).bind λps=>aa (FL (kI ps [])))=_
 rw[XB,bQ,show([]:List (aA×aA))=az [] from rfl,ZS L [] (by simpa using nd)]
 rfl
theorem J0 {L:List Tb}(ly:∀ p∈L,cR (.str p.1)=ae){Y:List (Option aA)}(h:f Y=aa (.dict (az L))):L6 f Y=aa (L.map λp=>cW [.str p.1,bD p.2]):=by
 unfold L6;rw[h];show(if (dh (az L)&&(az L).all λkd=>cR kd.1)=ae then aa ((az L).map λkd=>cW [kd.1,kd.2]) else ab)=_
 rw[SH,GG,if_pos (dQ.2 λkd m=>by
  obtain⟨p,mp,rfl⟩:=bO.1 m;exact ly p mp)]
 unfold az;rw[dY]
 rfl
def vt:List aE:=["r","x","rr"]
def jo (t:aE):Nat:=if t = "r" then 1 else if t = "x" then 2 else 3
structure BkG (L:List Tb):Prop where
 nd:(L.map (·.1)).Nodup
 tab:∀ p∈L,p.1∈vt
 few:∀ p∈L,p.2.length<=5
 once:∀ p∈L,p.2.Nodup
 row:∀ p∈L,∀ r∈p.2,r.length=jo p.1
section
variable {L:List Tb}{t:aE}{row:List Int}
theorem BkG.nil:BkG []:=⟨wV,λ_ m=>(by simp at m),λ_ m=>(by simp at m),λ_ m=>(by simp at m),λ_ m=>(by simp at m)⟩
theorem BkG.len (o:BkG L):L.length<=3:=by
 have:=PM o.nd λt m=>by
  obtain⟨p,mp,rfl⟩:=bO.1 m;exact o.tab p mp
 rw[cC] at this;exact this
theorem BkG.atR (o:BkG L)(t:aE):(bo L t).length<=5/\(bo L t).Nodup/\∀ r∈bo L t,r.length=jo t:=by
 by_cases h:bo L t=[]
 .rw[h];exact⟨by simp,wV,λr m=>by simp at m⟩
 .obtain⟨r,mr⟩:=List.exists_mem_of_ne_nil _ h;obtain⟨p,mp,rfl,e⟩:=IU mr;rw[<-e];exact⟨o.few p mp,o.once p mp,o.row p mp⟩
def ik (L:List Tb)(t:aE):List Tb:=if t∈L.map (·.1) then L else L++[(t,[])]
theorem Qk (L:List Tb)(t:aE):oq (az L) (.inr t)=az (ik L t):=by
 unfold oq ik;by_cases h:t∈L.map (·.1)
 .rw[vU h,if_pos h]
 .rw[CV,Xs h,if_neg h];unfold az;rw[gJ]
  rfl
theorem NI (L:List Tb)(t:aE):t∈(ik L t).map (·.1):=by
 unfold ik;by_cases h:t∈L.map (·.1)
 .rw[if_pos h];exact h
 .rw[if_neg h];simp
theorem RC (L:List Tb)(t t':aE):bo (ik L t) t'=bo L t':=by
 unfold ik;by_cases h:t∈L.map (·.1)
 .rw[if_pos h]
 .rw[if_neg h];unfold bo;rw[Je];cases e:L.find? λp=>decide (p.1=t') with
  |some p=>rfl
  |none=>
   by_cases q:t=t'
   .simp[q]
   .simp[q]
theorem BkG.sd (o:BkG L)(ht:t∈vt):BkG (ik L t):=by
 unfold ik;by_cases h:t∈L.map (·.1)
 .rw[if_pos h];exact o
 .rw[if_neg h];have key:∀ {Q:Tb->Prop},(∀ p∈L,Q p)->Q (t,[])->∀ p∈L++[(t,[])],Q p:=λh1 h2 p m=>by
   rcases kT.1 m with m|m
   .exact h1 p m
   .rw[cE.1 m];exact h2
  refine⟨?_,key o.tab ht,key o.few (by simp),key o.once wV,key o.row λr m=>by simp at m⟩
  rw[gJ];exact rX.2 ⟨o.nd,by simp,λa ha b hb e=>h (by simp at hb;rw[<-hb,<-e];exact ha)⟩
theorem BkG.upd (o:BkG L)(h1:R.length<=5)(h2:R.Nodup)(h3:∀ r∈R,r.length=jo t):BkG (jI L t R):=by
 refine⟨by rw[JM];exact o.nd,λp m=>?_,λp m=>?_,λp m=>?_,λp m=>?_⟩
 .have:p.1∈(jI L t R).map (·.1):=bO.2 ⟨p,m,rfl⟩;rw[JM] at this;obtain⟨q,mq,e⟩:=bO.1 this;rw[<-e];exact o.tab q mq
 .rcases CS m with m|⟨m1,m2⟩
  .exact o.few p m
  .rw[m2];exact h1
 .rcases CS m with m|⟨m1,m2⟩
  .exact o.once p m
  .rw[m2];exact h2
 .rcases CS m with m|⟨m1,m2⟩
  .exact o.row p m
  .rw[m1,m2];exact h3
theorem BkG.add (o:BkG L)(hw:row.length=jo t)(hn:row∉bo L t)(hl:(bo L t).length<5):BkG (jI L t (bo L t++[row])):=by
 obtain⟨a1,a2,a3⟩:=o.atR t;refine o.upd (by rw[qH];simp;lia) ?_ λr m=>?_
 .exact rX.2 ⟨a2,by simp,λa ha b hb e=>hn (by rw[cE] at hb;rw[<-hb,<-e];exact ha)⟩
 .rcases kT.1 m with m|m
  .exact a3 r m
  .rw[cE.1 m];exact hw
theorem BkG.out (o:BkG L)(f:Tb->Bool):BkG (L.filter f):=
 ⟨o.nd.sublist (PH.map _),λp m=>o.tab p (kA.1 m).1,λp m=>o.few p (kA.1 m).1,λp m=>o.once p (kA.1 m).1,λp m=>o.row p (kA.1 m).1⟩
theorem Uu{P:Out->Prop}(hg:mG i Y=aa (az L))(hk:g (vS Y)=aa (.str t))(ht:t∈L.map (·.1))(hf:f (vS Y)=aa (aZ row))(hl:(bo L t).length<100000)(k:P (.nx (Y.set i (aa (2,.dict (az (jI L t (bo L t++[row])))))))):Goes (uW i .s g .s f) Y P:=⟨_,by
 have e1:eV 0 .s g Y=aa (.str t):=hk;have e2:eV 0 .s f Y=aa (aZ row):=hf;unfold uW;rw[hg,bQ,e1,bQ,show bU (.str t)=aa (.inr t) from rfl,bQ,vU ht,bQ]
 show((eV 0 .s f Y).bind λd=>if fD d=ae/\((bo L t).map aZ).length<sizeLine then aa (Out.nx (Y.set i (aa (2,.dict (kC (az L) (.inr t) (.list ((bo L t).map aZ++[d]))))))) else ab)=_
 rw[e2,bQ,if_pos ⟨JR row,vI (by rw[cC];exact oX hl)⟩]
 have:(bo L t).map aZ++[aZ row]=(bo L t++[row]).map aZ:=by rw[gJ];rfl
 rw[this];show aa (Out.nx (Y.set i (aa (2,.dict (kC (az L) (.inr t) (bD (bo L t++[row])))))))=_;rw[IH],k⟩
theorem any_rows (r:List Int)(R:List (List Int)):((R.map aZ).any λz=>cF z (aZ r))=decide (r∈R):=by
 rw[List.any_map];by_cases h:r∈R
 .rw[decide_eq_true h];exact GB.2 ⟨r,h,by simp[CF]⟩
 .rw[decide_eq_false h,List.any_eq_false];intro x mx;simp only[Function.comp,CF,decide_eq_true_eq];exact λe=>h (e ▸ mx)
theorem u7{P:Out->Prop}{f0:EF}{m2:Md}{t2:BF}(hL:L.length<=3)(hg:mG i Y=aa (az L))(h0:f0 (vS Y)=aa (aZ row))(hk:g (vS Y)=aa (.str t))
  (h1:row∈bo L t->P (.nx (Y.set i (aa (2,.dict (az (ik L t))))))) (h2:row∉bo L t->∃ b,bV m2 t2 (Y.set i (aa (2,.dict (az (ik L t)))))=aa b/\(b=ae->Goes F (Y.set i (aa (2,.dict (az (ik L t))))) P)/\(b=af->P (.nx (Y.set i (aa (2,.dict (az (ik L t)))))))) :
  Goes (tJ i .s f0 .s g m2 t2 F) Y P:=by
 have e0:eV 0 .s f0 Y=aa (aZ row):=h0;have e1:eV 0 .s g Y=aa (.str t):=hk;have lk:bY (az (ik L t)) (.inr t)=aa (bD (bo L t)):=by rw[vU (NI L t),RC]
 have e:tJ i .s f0 .s g m2 t2 F Y=if row∈bo L t then aa (.nx (Y.set i (aa (2,.dict (az (ik L t)))))) else(bV m2 t2 (Y.set i (aa (2,.dict (az (ik L t)))))).bind λb=>if b=ae then F (Y.set i (aa (2,.dict (az (ik L t))))) else aa (.nx (Y.set i (aa (2,.dict (az (ik L t)))))):=by
  unfold tJ;rw[e0,bQ,hg,bQ,e1,bQ,show bU (.str t)=aa (.inr t) from rfl,bQ,Qk,lk]
  show(if (az L).length<sizeLine/\(dE (aZ row)&&noDicts ((bo L t).map aZ))=ae then _ else ab)=_
  rw[if_pos ⟨vI (by unfold az;rw[cC];lia),by rw[yF,Bq];rfl⟩,any_rows]
  by_cases h:row∈bo L t
  .rw[if_pos (decide_eq_true h),if_pos h]
  .rw[if_neg (by rw[decide_eq_false h];exact kB),if_neg h]
 by_cases h:row∈bo L t
 .rw[if_pos h] at e;exact⟨_,e,h1 h⟩
 .rw[if_neg h] at e;obtain⟨b,eb,k1,k2⟩:=h2 h;rw[eb,bQ] at e;cases b with
  |true=>
   rw[if_pos rfl] at e;obtain⟨o,eo,po⟩:=k1 rfl;exact⟨o,e.trans eo,po⟩
  |false=>
   rw[if_neg kB] at e;exact⟨_,e,k2 rfl⟩
theorem Rw {Y:List (Option aA)}{fd fk:EF}(hd:fd Y=aa (.dict (az L)))(hk:fk Y=aa (.str t))(ht:t∈L.map (·.1)):au (ah su (aL cB (aG (ah ar fd fk) aJ)) (eC (.int 5))) Y=aa (decide ((bo L t).length<5)):=by
 refine dI (aO (aW (aX (aO hd hk (vU ht)) rfl) ((kH _).trans (by rw[cC]))) rfl ?_)
 show aa (jW (decide (((bo L t).length:Int)<5)))=_
 congr 2
 rw[decide_eq_decide]
 lia
theorem BkG.bk (o:BkG L):Bk (az L) (bo L) jo:=bkL (λt=>by unfold jo;grind) λp m=>⟨FP (o.few p m) nofun,o.row p m⟩
end
theorem Er:∀ {t:aE},t∈vt->cR (.str t)=ae:=by rw[0]
theorem zK{m:Md}{t:BF}(h:bV m t Y=aa af):ck m t F dS Y=aa (.nx Y):=by
 unfold ck;rw[h]
 rfl
theorem Qt (n:Nat)(r:List Int):du (.tuple [.int n,aZ r]) (.tuple [.int n,aZ r])=aa (.bool ae):=by
 have q:=(iK.1 (yF r)).1;have h:cT [.int n,aZ r]<=2:=yM λt m=>by
  rw[10]
  .exact dW _
  .rw[cE.1 m];exact VU r
 have ok:dE (.tuple [.int n,aZ r])=ae:=by
  show((ae&&(noDict (aZ r)&&ae))&&decide (cT [.int n,aZ r]+1<=60))=ae;rw[q,decide_eq_true ()]
  rfl
 unfold du;rw[ok];simp[cF,wO,CF]
section
variable {L:List Tb}(o:BkG L){Q:List fA}(hQ:∀ a∈Q,Aok a/\∀ l∈a.2,l.2.length=jo l.1)(hn:Q.length<=3)(row:List Int)
include o hQ hn
theorem i7:yZ [.dict (az L),qD Q,tI row]=aa (.bool ae):=by
 have h5:=λt=>(o.atR t).1
 obtain⟨d,ew,W⟩:=G9 o.bk h5 hQ hn row;obtain⟨d',ey,W'⟩:=Oh o.bk h5 (λt=>(o.atR t).2.1) (λa m=>(hQ a m).1) hn row
 obtain rfl:=We W W';have:∃ d,yZ [.dict (az L),qD Q,tI row]=aa d/\d=.bool ae:=by
  rw[7];have hl:=o.len;have e:=fS (cap:=[ab,ab]) (fi:=L6 (aB 0)) (T:=xw 0 1) (t:=cS) (f:=fU (aG (aB 0) (aG (aL qZ (aG (aB 1) aJ)) aJ))) (Y:=vS [s0 (.dict (az L)),s0 (qD Q),s0 (tI row),ab,ab,ab]) (λ_=>ae) (λp=>cW [.str p.1,bD p.2]) (J0 (λp m=>Er (o.tab p m)) rfl) () λp mp=>⟨[aa (.str p.1),aa (bD p.2)],rfl,rfl,λ_=>pR (aX rfl (aX (aW rfl rfl) rfl))⟩
  rw[kU.2 λ_ _=>rfl] at e
  refine bX (aW (aX e rfl) (Vi o.nd)) (by simp) (bX (aW rfl ew) (by simp) (bX (aW rfl ey) (by simp) (gF (zK (dI (aO rfl rfl (Nq o.nd)))) ?_)))
  rcases W with⟨rfl,_⟩|⟨n,v,_,rfl,_⟩
  .exact oG (eU rfl (cN rfl ⟨_,rfl,_,rfl,rfl⟩))
  .generalize(bF (Q.getD n a0).2).map v=r;refine gF (zK rfl) (gF (zK rfl) (cN ?_ ⟨_,rfl,rfl⟩));refine UX (x:=ae) (aO rfl rfl ?_) λ_=>rfl
   exact Qt n r
 rw[2]
end
theorem Mt {a b:Int}(h:a.natAbs<2^64):oA (.int a) (.int b)=aa (.int (a*b)):=by
 show(if (a.natAbs<2^64\/b.natAbs<2^64)\/mV a+mV b<=134217728 then aa (aY (a*b)) else ab)=_
 rw[if_pos (.inl (.inl h))]
theorem NG {a b:Int}(h:b.natAbs<2^64):oA (.int a) (.int b)=aa (.int (a*b)):=by
 show(if (a.natAbs<2^64\/b.natAbs<2^64)\/mV a+mV b<=134217728 then aa (aY (a*b)) else ab)=_
 rw[if_pos (.inl (.inr h))]
theorem Fx{i:Int}(a:0<=i)(b:i<ns.length):∃ c,ar (lI ns) (.int i)=aa (.int c)/\c∈ns:=by
 obtain⟨j,rfl⟩:=Jo a;have hj:j<ns.length:=()
 exact⟨ns[j],rK (fN hj),oZ hj⟩
theorem NP (ns:List Int):cB [lI ns]=aa (.int ns.length):=by simp[cB]
theorem Ei (ns:List Int){k:Int}(h0:0<=k)(h1:k<=1000):∃ c,iG [lI ns,.int k]=aa (.int c):=by
 have:∃ d,iG [lI ns,.int k]=aa d/\∃ c,d=.int c:=by
  rw[7];have hk:k.natAbs<2^64:=()
  have xq:oA (.int k) (.int k)=aa (.int (k*k)):=Mt hk;have e1:bV .s (au (ah su (aB 1) (aL cB (aG (aB 0) aJ)))) [s0 (lI ns),s0 (.int k)]=aa (decide (k<ns.length)):=dI (aO rfl (aW rfl (NP ns)) rfl);by_cases hl:k<(ns.length:Int)
  .obtain⟨c,e,_⟩:=Fx h0 hl;exact oG (eU (e1.trans (by rw[decide_eq_true hl])) (cN (aO rfl rfl e) ⟨_,rfl,_,rfl,c,rfl⟩))
  .refine gF (sV (e1.trans (by rw[decide_eq_false hl]))) ?_
   have e2:bV .s (au (ah du (aL cB (aG (aB 0) aJ)) (eC (.int 0)))) [s0 (lI ns),s0 (.int k)]=aa (decide ((ns.length:Int)=0)):=dI (aO (aW rfl (NP ns)) rfl (vG _ _));by_cases hz:(ns.length:Int)=0
   .exact oG (eU (e2.trans (by rw[decide_eq_true hz])) (cN (aO (aO (aO rfl rfl xq) rfl (NG nofun)) rfl rfl) ⟨_,rfl,_,rfl,_,rfl⟩))
   .refine gF (sV (e2.trans (by rw[decide_eq_false hz]))) ?_
    have xr:(0:Int)<ns.length:=()
    obtain⟨v,e,_⟩:=Fx (tL _ xr).1 (tL _ xr).2;exact cN (aO (aO (aO rfl (aO rfl (aW rfl (NP ns)) (pO k ns.length ())) e) (aO rfl rfl rfl) (NG ())) (aO (aO rfl rfl xq) rfl (NG nofun)) rfl) ⟨_,rfl,_,rfl⟩
 obtain⟨d,e,c,rfl⟩:=this;exact⟨c,e⟩
theorem IZ (c:Int){k:Int}(h0:0<=k)(h1:k<=1000)(hn:0<n):∃ v:Nat,yX [.int c,.int k,.int n]=aa (.int v)/\v<n:=by
 have:∃ d,yX [.int c,.int k,.int n]=aa d/\∃ v:Nat,d=.int v/\v<n:=by
  rw[7];have b:=tL c (show(0:Int)<((2147483629:Nat):Int) by lia)
  have xq:=Int.mul_le_mul h1 h1 h0 ()
  have hkk0:=Int.mul_nonneg h0 h0;have mk:gQ (.int k) (.int k)=aa (.int (k*k)):=pH ()
  obtain⟨A,hA⟩:∃ A:Int,A=c%((2147483629:Nat):Int)+5*k+1:=⟨_,rfl⟩;obtain⟨B,hB⟩:∃ B:Int,B=48271+k*k:=⟨_,rfl⟩;generalize k*k=q at *;have hAB:0<=A*B/\A*B<=2200000000*2000000:=⟨Int.mul_nonneg () (),Int.mul_le_mul () () () ()⟩
  refine bX (d:=.int (A*B)) (aO (aO (aO (aO rfl rfl (pO c 2147483629 ())) (aO rfl rfl (pH nofun)) rfl) rfl (by rw[hA];rfl)) (aO rfl (aO rfl rfl mk) (by rw[hB];rfl)) (pH ())) (by simp) ?_
  generalize A*B=N at hAB;have bd:=tL (N*N%((2147483647:Nat):Int)) (show(0:Int)<(n:Int) by lia)
  obtain⟨v,ev⟩:=Jo bd.1;exact cN (aO (aO (aO rfl rfl (pH ())) rfl (pO _ 2147483647 ())) rfl ((pO _ n hn).trans (by rw[ev]))) ⟨_,rfl,v,rfl,()⟩
 obtain⟨d,e,c,rfl,h⟩:=this;exact⟨c,e,h⟩
theorem Nf{Y:List (Option aA)}{i:Int}(h:f Y=aa (.int i)):oS f Y=aa (aa i):=by
 unfold oS;rw[h]
 rfl
def Cl (ns:List Int)(C:Nat->Int):Prop:=∀ k:Nat,k<=1000->iG [lI ns,.int k]=aa (.int (C k))
theorem Lf (ns:List Int):∃ C,Cl ns C:=⟨λk=>if h:k<=1000 then(Ei ns (k:=k) () ()).choose else 0,λk h=>by
 show _=aa (aY (if h:k<=1000 then _ else 0))
 rw[dif_pos h];exact(Ei ns () ()).choose_spec⟩
theorem Cl.at(h:Cl ns C)(hk:k<=1000){Y:List (Option aA)}(e0:Y[0]?.join=aa (lI ns))(e:f Y=aa (.int k)):aL iG (aG (aB 0) (aG f aJ)) Y=aa (.int (C k)):=aW (aX e0 (aX e rfl)) (h k hk)
theorem add_n (a b:Nat):eR (.int a) (.int b)=aa (.int ((a+b:Nat):Int)):=by
 congr 2
theorem fV (c:Int)(h:0<n):∃ u:Nat,cO (.int c) (.int n)=aa (.int u)/\u<n/\c%(n:Int)=u:=by
 have b:=tL c (show(0:Int)<(n:Int) by lia)
 obtain⟨u,eu⟩:=Jo b.1;exact⟨u,(pO c n h).trans (by rw[eu]),(),eu⟩
theorem HJ {c n:Int}(h:0<n):cO (.int c) (.int n)=aa (.int (c%n)):=by
 show(if 0<n then aa (aY (c%n)) else ab)=_
 rw[if_pos h]
def nA:List aE:=["x","y","xx","a","x1"]
def nB:List aE:=["q5","q4","q3","q2","q1"]
def ki (c:Int)(k:Nat):aE:=if c%2=0 then nA.getD k "" else nB.getD k ""
theorem Ov (c:Int)(h:k<5):cR (.str (ki c k))=ae:=by
 have:∀ k:Fin 5,cR (.str (nA.getD k ""))=ae/\cR (.str (nB.getD k ""))=ae:=by rw[0]
 unfold ki;split
 .exact(this ⟨k,h⟩).1
 .exact(this ⟨k,h⟩).2
theorem Ql:∀ {w:Nat},1<=w->w<=3->∃ t∈vt,w=jo t/\ar (.list [.str "r",.str "x",.str "rr"]) (.int ((w:Int)-1))=aa (.str t)
 |1,_,_=>⟨"r",nofun,nofun,rfl⟩
 |2,_,_=>⟨"x",nofun,nofun,rfl⟩
 |3,_,_=>⟨"rr",nofun,nofun,rfl⟩
def xu (c:Int)(x:aI):Prop:=(∃ i,x=.inl i)\/∃ m,m<5/\x=.inr (ki c m)
structure LnG (c:Int)(l:Ln):Prop where
 wd:l.2.length=jo l.1
 tab:l.1∈vt
 trm:∀ x∈l.2,xu c x
theorem BR (t:aE):1<=jo t/\jo t<=3:=by unfold jo;grind
section
variable (hC:Cl ns C)
include hC
theorem tQ(hn:n<1000):∃ v,oM [lI ns,.int n]=aa (.int v):=by
 have:∃ d,oM [lI ns,.int n]=aa d/\∃ v,d=.int v:=by
  rw[7];refine bX (hC.at () rfl rfl) (by simp) ?_
  have d2:ah eD (aB 2) (eC (.int 2)) (vS [s0 (lI ns),s0 (.int n),s0 (.int (C 1))])=aa (.int (C 1/(2:Nat))):=aO rfl rfl (qX _ 2 ())
  have t1:bV .s (au (ah du (ah cO (aB 2) (eC (.int 2))) (eC (.int 0)))) [s0 (lI ns),s0 (.int n),s0 (.int (C 1))]=aa (decide (C 1%(2:Nat)=0)):=dI (aO (aO rfl rfl (pO _ 2 ())) rfl (vG _ _))
  by_cases h:C 1%(2:Nat)=0
  .have sg:ar (.list [.int 1,.int (-4)]) (.int (C 1/(2:Nat)%2))=aa (.int (if C 1/(2:Nat)%2=0 then 1 else -4)):=(SS _ _ _).trans (by split<;>rfl)
   exact oG (eU (t1.trans (by rw[decide_eq_true h])) (cN (aO rfl (aO rfl (aO d2 rfl (HJ nofun)) sg) (pH ())) ⟨_,rfl,_,rfl,_,rfl⟩))
  .refine gF (sV (t1.trans (by rw[decide_eq_false h]))) ?_
   exact cN (aO (aO (aO (aO d2 (aO (aO rfl (aO rfl rfl (VG ())) (pH nofun)) rfl rfl) (HJ (by rw[0]))) (aO rfl rfl (VG ())) rfl) rfl rfl) rfl rfl) ⟨_,rfl,_,rfl⟩
 obtain⟨d,e,v,rfl⟩:=this;exact⟨v,e⟩
theorem CG(hk:k<5):wB [lI ns,.int k]=aa (.str (ki (C 2) k)):=by
 have:∃ d,wB [lI ns,.int k]=aa d/\d=.str (ki (C 2) k):=by
  rw[7];refine cN (aO (a:=.list ((if C 2%2=0 then nA else nB).map bZ)) (aO rfl (aO (hC.at () rfl rfl) rfl (HJ nofun)) ((SS _ _ _).trans (by split<;>rfl))) rfl (rK ?_)) ⟨_,rfl,rfl⟩
  unfold ki;split
  .exact getD_some _ hk
  .exact getD_some _ hk
 rw[2]
end
section
variable (hC:Cl ns C)
include hC
theorem v7 {s:Nat}(hs:s<=100):∃ ls:List Ln,MS [lI ns,.int s]=aa (aq ls)/\ls.length<=4/\∀ l∈ls,LnG (C 2) l:=by
 have:∃ d,MS [lI ns,.int s]=aa d/\∃ ls:List Ln,d=aq ls/\ls.length<=4/\∀ l∈ls,LnG (C 2) l:=by
  rw[7];refine bX (hC.at () rfl rfl) (by simp) (bX rfl (by simp) ?_)
  obtain⟨n,en,hn,_⟩:=fV (C s/(3:Nat)) (n:=5) ()
  refine bX (aO (aO rfl rfl (qX _ 3 ())) rfl en) (by simp) ?_
  let R:List Ln->List L2.Slot->aR:=λls r=>s0 (lI ns)::s0 (.int s)::s0 (.int (C s))::aa (1,.list (ls.map bJ))::s0 (.int n)::r
  refine dU (λρ'=>∃ (ls:List Ln) (x5 x6 x7 x8 x9:L2.Slot),ls.length<=4/\(∀ l∈ls,LnG (C 2) l)/\ρ'=R ls [x5,x6,x7,x8,x9]) ?_ ?_
  .refine tN (λi ρ'=>∃ (ls:List Ln) (x5 x6 x7 x8 x9:L2.Slot),ls.length=i/\(∀ l∈ls,LnG (C 2) l)/\ρ'=R ls [x5,x6,x7,x8,x9]) (dm (oC rfl ())) ⟨[],ab,ab,ab,ab,ab,rfl,(λ_ h=>nomatch h),rfl⟩ ?_ ?_
   .rintro k _ hk ⟨ls,x5,x6,x7,x8,x9,hl,vq,rfl⟩;refine⟨R ls [s0 (.int k),x6,x7,x8,x9],rfl,?_⟩;refine bX (hC.at () rfl (aO (aO rfl rfl (add_n s 1)) rfl (add_n (s+1) k))) (by simp[R]) (bX rfl (by simp[R]) ?_)
    generalize C (s+1+k)=c;obtain⟨u,eu,hu,_⟩:=fV c (n:=3) ()
    let A:List aI->L2.Slot->L2.Slot->aR:=λks x8 x9=>R ls [s0 (.int k),s0 (.int c),aa (1,lK ks),x8,x9]
    refine dU (λρ'=>∃ (ks:List aI) (x8 x9:L2.Slot),ks.length=1+u/\(∀ x∈ks,xu (C 2) x)/\ρ'=A ks x8 x9) ?_ ?_
    .refine tN (λi ρ'=>∃ (ks:List aI) (x8 x9:L2.Slot),ks.length=i/\(∀ x∈ks,xu (C 2) x)/\ρ'=A ks x8 x9) (dm (oC (aX (aO rfl (aO rfl rfl eu) (add_n 1 u)) rfl) ())) ⟨[],x8,x9,rfl,(λ_ h=>nomatch h),rfl⟩ ?_ ?_
     .rintro j _ hj ⟨ks,x8,x9,gv,li,rfl⟩;refine⟨A ks (s0 (.int j)) x9,rfl,?_⟩;obtain⟨v,ev,_⟩:=IZ c (k:=j) () () (n:=240) ()
      refine bX (aW rfl ev) (by simp[A,R]) ?_
      have fin:∀ {t:aI} {f:EF},f (vS (A ks (s0 (.int j)) (s0 (.int v))))=aa (kD t)->xu (C 2) t->Goes (gY 7 .s f) (A ks (s0 (.int j)) (s0 (.int v))) λo=>∃ ρ2,(o=.nx ρ2\/o=.ct ρ2)/\∃ (ks:List aI) (x8 x9:L2.Slot),ks.length=j+1/\(∀ x∈ks,xu (C 2) x)/\ρ2=A ks x8 x9:=λ{t f} h ht=>
       pV h rfl (by simp;lia) ⟨_,.inl rfl,ks++[t],s0 (.int j),s0 (.int v),by simp[gv],λy my=>by
        rcases kT.1 my with r|r
        .exact li y r
        .rw[cE.1 r];exact ht,by simp[A,R,lK]⟩
      have t4:bV .s (au (ah du (ah cO (aB 9) (eC (.int 4))) (eC (.int 0)))) (A ks (s0 (.int j)) (s0 (.int v)))=aa (decide ((v:Int)%(4:Nat)=0)):=dI (aO (aO rfl rfl (pO v 4 ())) rfl (vG _ _))
      have d4:ah eD (aB 9) (eC (.int 4)) (vS (A ks (s0 (.int j)) (s0 (.int v))))=aa (.int (v/(4:Nat))):=aO rfl rfl (qX v 4 ())
      by_cases h4:(v:Int)%(4:Nat)=0
      .obtain⟨i,ei,hi,_⟩:=fV ((v:Int)/(4:Nat)) (n:=2) ()
       obtain⟨y,ey⟩:=tQ hC (n:=i) ()
       exact eU (t4.trans (by rw[decide_eq_true h4])) (fin (t:=.inl y) (aW (aX rfl (aX (aO d4 rfl ei) rfl)) ey) (.inl ⟨_,rfl⟩))
      .obtain⟨i,ei,hi,_⟩:=fV ((v:Int)/(4:Nat)) (n:=5) ()
       exact gD (t4.trans (by rw[decide_eq_false h4])) (fin (t:=.inr (ki (C 2) i)) (aW (aX rfl (aX (aO d4 rfl ei) rfl)) (CG hC hi)) (.inr ⟨i,hi,rfl⟩))
     .rintro _ ⟨ks,x8,x9,gv,li,rfl⟩;exact⟨_,rfl,ks,x8,x9,gv,li,rfl⟩
    rintro _ ⟨ks,x8,x9,gv,li,rfl⟩;refine dU (λρ'=>∃ ks:List aI,ks.length=1+u/\(∀ x∈ks,xu (C 2) x)/\ρ'=A ks x8 x9) ?_ ?_
    .obtain⟨f,ef,hf,_⟩:=fV (C s) (n:=3) ()
     have lk:cB [lK ks]=aa (.int ks.length):=by simp[cB]
     have tt:bV .a (mX (au (ah iq (ah cO (aB 2) (eC (.int 3))) (eC (.int 0)))) (au (ah iq (aL cB (aG (aB 7) aJ)) (eC (.int 1))))) (A ks x8 x9)=aa (decide ((f:Int) > 0)&&decide ((ks.length:Int) > 1)):=Eh (dI (aO (aO rfl rfl ef) rfl rfl)) λ_=>dI (aO (aW rfl lk) rfl rfl)
     by_cases h:(decide ((f:Int) > 0)&&decide ((ks.length:Int) > 1))=ae
     .rw[h] at tt;obtain⟨h1,h2⟩:=iK.1 h;have h1:=of_decide_eq_true h1;have h2:=of_decide_eq_true h2;refine eU tt (dU (λρ'=>ρ'=A (ks.set 0 (.inr (ki (C 2) k))) x8 x9) (HV (aW rfl (CG hC ())) rfl rfl (rE (by simp;lia)) ⟨_,rfl,by simp[A,R,lK,PB,kD]⟩) ?_)
      rintro _ rfl;obtain⟨m,em,hm,_⟩:=fV ((k+1:Nat):Int) (n:=n) ()
      obtain⟨i,hi,ei⟩:∃ i:Nat,i<5/\ar (.list [.int ((k+1:Nat):Int),.int m]) (.int ((f:Int)-1))=aa (.int i):=by
       rcases(show f=1\/f=2 by lia) with rfl|rfl
       .exact⟨k+1,(),rfl⟩
       .exact⟨m,(),rfl⟩
      refine HV (aW (aX rfl (aX (aO (xP (aX (aO rfl rfl (add_n k 1)) (aX (aO (aO rfl rfl (add_n k 1)) rfl em) rfl))) (aO (aO rfl rfl ef) rfl rfl) ei) rfl)) (CG hC hi)) rfl rfl (rE (by simp;lia)) ⟨_,rfl,(ks.set 0 (.inr (ki (C 2) k))).set 1 (.inr (ki (C 2) i)),by simpa using gv,?_,by simp[A,R,lK,PB,kD]⟩
      exact Fu (Fu li (.inr ⟨k,(),rfl⟩)) (.inr ⟨i,hi,rfl⟩)
     .rw[Ka.2 h] at tt;exact gD tt (hX ⟨_,rfl,ks,gv,li,rfl⟩)
    rintro _ ⟨ks,gv,li,rfl⟩;obtain⟨t,mt,ew,et⟩:=Ql (w:=ks.length) () ()
    refine lJ (pV (d:=bJ (t,ks)) (pR (aX (aO rfl (aO (aW rfl (show cB [lK ks]=aa (.int ks.length) by simp[cB])) rfl rfl) et) (aX (aW rfl rfl) rfl))) rfl (by simp;lia) ⟨_,.inl rfl,ls++[(t,ks)],s0 (.int k),s0 (.int c),s0 (lK ks),x8,x9,by simp[hl],λl m=>?_,by rw[show ls.map bJ++[bJ (t,ks)]=(ls++[(t,ks)]).map bJ by simp];rfl⟩)
    rcases kT.1 m with m|m
    .exact vq l m
    .rw[cE.1 m];exact⟨ew,mt,li⟩
   .rintro _ ⟨ls,x5,x6,x7,x8,x9,hl,vq,rfl⟩;exact⟨_,rfl,ls,x5,x6,x7,x8,x9,(),vq,rfl⟩
  rintro _ ⟨ls,x5,x6,x7,x8,x9,hl,vq,rfl⟩;exact lJ (cN (aW rfl rfl) ⟨_,rfl,ls,rfl,hl,vq⟩)
 obtain⟨d,e,ls,rfl,h⟩:=this;exact⟨ls,e,h⟩
end
structure AltG (c:Int)(a:fA):Prop where
 hl:a.1.length<=3
 hd:∀ x∈a.1,(∃ i,x=.inl i)\/∃ z∈bF a.2,x=.inr z
 n4:a.2.length<=4
 ln:∀ l∈a.2,LnG c l
theorem AltG.ok {c:Int}{a:fA}(h:AltG c a):Aok a/\∀ l∈a.2,l.2.length=jo l.1:=by
 refine⟨⟨dG h.hl nofun,⟨λl m=>⟨?_,λk mk=>?_⟩,λl m=>?_,h.n4⟩,λz m=>?_⟩,λl m=>(h.ln l m).wd⟩
 .rw[(h.ln l m).wd];exact dG (BR _).2 nofun
 .rcases(h.ln l m).trm k mk with⟨i,rfl⟩|⟨j,hj,rfl⟩
  .rfl
  .exact Ov c hj
 .rw[(h.ln l m).wd];exact(BR _).1
 .rcases h.hd _ m with⟨i,e⟩|⟨z',m',e⟩
  .cases e
  .cases e;exact m'
section
variable (hC:Cl ns C)
include hC
theorem Yg:∃ Q:List fA,MV [lI ns]=aa (qD Q)/\Q.length<=3/\∀ a∈Q,AltG (C 2) a:=by
 have:∃ d,MV [lI ns]=aa d/\∃ Q:List fA,d=qD Q/\Q.length<=3/\∀ a∈Q,AltG (C 2) a:=by
  rw[7];refine bX rfl (by simp) ?_
  obtain⟨n,en,hn,_⟩:=fV (C 0) (n:=4) ()
  obtain⟨w,ew,hw,_⟩:=fV (C 0/(4:Nat)) (n:=4) ()
  let R:List fA->List L2.Slot->aR:=λQ r=>s0 (lI ns)::aa (1,.list (Q.map iY))::r
  refine dU (λρ'=>∃ (Q:List fA) (r:List L2.Slot),Q.length<=3/\(∀ a∈Q,AltG (C 2) a)/\ρ'=R Q r) ?_ ?_
  .refine tN (λi ρ'=>∃ (Q:List fA) (x2 x3 x4 x5 x6 x7 x8:L2.Slot),Q.length=i/\(∀ a∈Q,AltG (C 2) a)/\ρ'=R Q [x2,x3,x4,x5,x6,x7,x8]) (dm (oC (aX (aO (hC.at () rfl rfl) rfl en) rfl) ())) ⟨[],ab,ab,ab,ab,ab,ab,ab,rfl,(λ_ h=>nomatch h),rfl⟩ ?_ ?_
   .rintro k _ hk ⟨Q,x2,x3,x4,x5,x6,x7,x8,hl,hQ,rfl⟩;refine⟨R Q [s0 (.int k),x3,x4,x5,x6,x7,x8],rfl,?_⟩;have e6:gQ (.int 6) (.int k)=aa (.int ((6*k:Nat):Int)):=(pH nofun).trans (by rw[PN];rfl)
    obtain⟨ls,els,n4,vq⟩:=v7 hC (s:=3+6*k) ()
    refine bX (aW (aX rfl (aX (aO rfl (aO rfl rfl e6) (add_n 3 (6*k))) rfl)) els) (by simp[R]) (bX rfl (by simp[R]) ?_)
    have h6:∀ l∈ls,l.2.length<=6:=λl m=>by
     rw[(vq l m).wd];exact dG (BR _).2 nofun
    have zl:=DB ls h6;refine dU _ (WU h6 n4 (λaj x=>R Q [s0 (.int k),s0 (aq ls),s0 (.list (aj.map bZ)),x,x6,x7,x8]) (λ_=>rfl) (λ_ _ _=>rfl) (λ_ _=>rfl) (λ_ _=>rfl) (λ_ _=>by simp[R]) (λ_ _ _=>rfl) x5) ?_
    rintro _ ⟨x5,rfl⟩;have mz:∀ z∈(ls.flatMap λl=>cZ l.2),z∈bF ls:=λz m=>Aec.2 m
    generalize(ls.flatMap λl=>cZ l.2)=zs at zl mz
    refine bX rfl (by simp[R]) ?_
    let A:List aI->L2.Slot->L2.Slot->aR:=λks x7 x8=>R Q [s0 (.int k),s0 (aq ls),s0 (.list (zs.map bZ)),x5,aa (1,lK ks),x7,x8]
    let G:aI->Prop:=λx=>(∃ i,x=.inl i)\/∃ z∈bF ls,x=.inr z
    refine dU (λρ'=>∃ (ks:List aI) (x7 x8:L2.Slot),ks.length=w/\(∀ x∈ks,G x)/\ρ'=A ks x7 x8) ?_ ?_
    .refine tN (λi ρ'=>∃ (ks:List aI) (x7 x8:L2.Slot),ks.length=i/\(∀ x∈ks,G x)/\ρ'=A ks x7 x8) (dm (oC (aX (aO (aO (hC.at () rfl rfl) rfl (qX _ 4 ())) rfl ew) rfl) ())) ⟨[],x7,x8,rfl,(λ_ h=>nomatch h),rfl⟩ ?_ ?_
     .rintro j _ hj ⟨ks,x7,x8,gv,li,rfl⟩;refine⟨A ks (s0 (.int j)) x8,rfl,?_⟩;obtain⟨v,ev,_⟩:=IZ (C (8+6*k)) (k:=j) () () (n:=840) ()
      refine bX (aW (aX (hC.at () rfl (aO rfl (aO rfl rfl e6) (add_n 8 (6*k)))) rfl) ev) (by simp[A,R]) ?_
      obtain⟨i,ei,hi,_⟩:=fV ((v:Int)/(40:Nat)) (n:=2) ()
      obtain⟨y,ey⟩:=tQ hC (n:=i) ()
      have e2:gQ (.int 2) (.int zs.length)=aa (.int ((2*zs.length:Nat):Int)):=(pH nofun).trans (by rw[PN];rfl)
      obtain⟨p,ep,hp,_⟩:=fV (v:Int) (n:=2*zs.length+1) ()
      let ds:=zs.map bZ++zs.map bZ++[aY y]
      have hd:p<ds.length:=by simp[ds];lia
      obtain⟨t,et,gt⟩:∃ t:aI,ds[p]=kD t/\G t:=by
       have:=oZ hd;rcases kT.1 this with m|m
       .have m:=(kT.1 m).elim id id;obtain⟨z,m2,e⟩:=bO.1 m;exact⟨.inr z,e.symm,.inr ⟨z,mz z m2,rfl⟩⟩
       .exact⟨.inl y,cE.1 m,.inl ⟨y,rfl⟩⟩
      refine pV (aO (aO (aO rfl rfl (CC (by simp;lia))) (xP (aX (aW (aX rfl (aX (aO (aO rfl rfl (qX v 40 ())) rfl ei) rfl)) ey) rfl)) (CC (by simp;lia))) (aO rfl (aO (aO rfl (aW rfl ((kH _).trans (by rw[cC]))) e2) rfl (add_n _ 1)) ep) (vO (by rw[fN hd,et]))) rfl (by simp;lia) ⟨_,.inl rfl,ks++[t],s0 (.int j),s0 (.int v),by simp[gv],λy my=>?_,by simp[A,R,lK]⟩
      rcases kT.1 my with r|r
      .exact li y r
      .rw[cE.1 r];exact gt
     .rintro _ ⟨ks,x7,x8,gv,li,rfl⟩;exact⟨_,rfl,ks,x7,x8,gv,li,rfl⟩
    rintro _ ⟨ks,x7,x8,gv,li,rfl⟩;refine lJ (pV (d:=iY (ks,ls)) (pR (aX (aW rfl rfl) (aX rfl rfl))) rfl (by simp;lia) ⟨_,.inl rfl,Q++[(ks,ls)],s0 (.int k),s0 (aq ls),s0 (.list (zs.map bZ)),x5,s0 (lK ks),x7,x8,by simp[hl],λa m=>?_,by rw[show Q.map iY++[iY (ks,ls)]=(Q++[(ks,ls)]).map iY by simp];rfl⟩)
    rcases kT.1 m with m|m
    .exact hQ a m
    .rw[cE.1 m];exact⟨by simp only;lia,li,n4,vq⟩
   .rintro _ ⟨Q,x2,x3,x4,x5,x6,x7,x8,hl,hQ,rfl⟩;exact⟨_,rfl,Q,_,(),hQ,rfl⟩
  rintro _ ⟨Q,r,hl,hQ,rfl⟩;exact tO rfl ⟨_,rfl,Q,rfl,hl,hQ⟩
 obtain⟨d,e,Q,rfl,h⟩:=this;exact⟨Q,e,h⟩
end
section
variable (hC:Cl ns C)
include hC
theorem Qe:∃ V:Nat->Int,∀ n:Nat,n<1000->oM [lI ns,.int n]=aa (.int (V n)):=⟨λn=>if h:n<1000 then(tQ hC h).choose else 0,λn h=>by
 show _=aa (aY (if h:n<1000 then _ else 0))
 rw[dif_pos h];exact(tQ hC h).choose_spec⟩
theorem YZ(hk:k<=10):∃ kn:Kn,EG [lI ns,.int k]=aa (ao kn)/\∀ m,m<5->∃ u,bM kn (ki (C 2) m)=aa u:=by
 have:∃ d,EG [lI ns,.int k]=aa d/\∃ kn:Kn,d=ao kn/\∀ m,m<5->∃ u,bM kn (ki (C 2) m)=aa u:=by
  rw[7];refine bX rfl (by simp) ?_
  refine dU (λρ'=>∃ (kn:Kn) (x:L2.Slot),(∀ m,m<5->∃ u,bM kn (ki (C 2) m)=aa u)/\ρ'=[s0 (lI ns),s0 (.int k),aa (1,ao kn),x]) ?_ ?_
  .refine tN (λi ρ'=>∃ (kn:Kn) (x:L2.Slot),kn.length<=i/\(∀ m,m<i->∃ u,bM kn (ki (C 2) m)=aa u)/\ρ'=[s0 (lI ns),s0 (.int k),aa (1,ao kn),x]) (dm (oC rfl ())) ⟨[],ab,bB _,(λ_ h=>nomatch h),rfl⟩ ?_ ?_
   .rintro i _ hi ⟨kn,x,hl,hm,rfl⟩;refine⟨[s0 (lI ns),s0 (.int k),aa (1,ao kn),s0 (.int i)],rfl,?_⟩;obtain⟨v,ev,hv⟩:=IZ (C (21+k)) (k:=i) () () (n:=2) ()
    obtain⟨y,ey⟩:=tQ hC (n:=v) ()
    refine Ga (aW (aX rfl (aX (aW (aX (hC.at () rfl (aO rfl rfl (add_n 21 k))) rfl) ev) rfl)) ey) rfl (aW rfl (CG hC hi)) rfl (by unfold DN;simp;lia) ⟨_,.inl rfl,putN kn (ki (C 2) i) y,s0 (.int i),dG (Vu _ _ _) (),λm h=>?_,by rw[UK];rfl⟩
    rw[Wj];split
    .exact⟨_,rfl⟩
    .rcases Io.1 h with h|rfl
     .exact hm m h
     .exact absurd rfl ‹_›
   .rintro _ ⟨kn,x,_,hm,rfl⟩;exact⟨_,rfl,kn,x,hm,rfl⟩
  rintro _ ⟨kn,x,hm,rfl⟩;exact tO rfl ⟨_,rfl,kn,rfl,hm⟩
 obtain⟨d,e,kn,rfl,h⟩:=this;exact⟨kn,e,h⟩
omit hC in
theorem Sj{P:Out->Prop}{t:BF}{L:List Tb}(hg:mG i Y=aa (az L))(o:BkG L)(ht:∀ p:Tb,t [aa (.str p.1),aa (bD p.2)]=aa (decide (p.2≠[])))(k:P (.rt (.dict (az (L.filter λp=>decide (p.2≠[])))))):Goes (EY i t) Y P:=⟨.rt (.dict (az (L.filter λp=>decide (p.2≠[])))),by
 have h1:∀ M:List Tb,sR t (az M)=aa (az (M.filter λp=>decide (p.2≠[]))):=λM=>by
  induction M with
  |nil=>rfl
  |cons p M ih=>
   show(t [aa (.str p.1),aa (bD p.2)]).bind (λb=>(sR t (az M)).bind λr'=>aa (if b=ae then(bZ p.1,bD p.2)::r' else r'))=_
   rw[ht,bQ,ih,bQ,PJ];split<;>rfl
 have h2:((az L).map (·.1)).Nodup:=by
  unfold az;rw[dY,show(Prod.fst∘λp:Tb=>(bZ p.1,bD p.2))=bZ∘Prod.fst from rfl,<-dY]
  exact List.Pairwise.map _ (λa b h z=>h (by injection z)) o.nd
 have h3:(az L).all (λkd=>cR kd.1)=ae:=dQ.2 λkd m=>by
  obtain⟨p,mp,rfl⟩:=bO.1 m;exact Er (o.tab p mp)
 have:=o.len;unfold EY;rw[hg,bQ,if_pos ⟨h2,h3,nH (by unfold az;rw[cC];lia)⟩,h1]
 rfl,k⟩
abbrev kc (ns:List Int)(Q:List fA)(L:List Tb)(r:List L2.Slot):aR:=s0 (lI ns)::s0 (qD Q)::aa (2,.dict (az L))::r
omit hC in
theorem TB {Q:List fA}{L:List Tb}(o:BkG L){t:aE}(ht:t∈vt){row:List Int}(hw:row.length=jo t)(x3 x4 x6 x8 x9:L2.Slot) :
  Goes (tJ 2 .s (aB 7) .s (aB 5) .a (au (ah su (aL cB (aG (ah ar (aB 2) (aB 5)) aJ)) (eC (.int 5)))) (uW 2 .s (aB 5) .s (aB 7))) (kc ns Q L [x3,x4,s0 (.str t),x6,s0 (aZ row),x8,x9])
   λo=>∃ ρ2,(o=.nx ρ2\/o=.ct ρ2)/\∃ L',BkG L'/\ρ2=kc ns Q L' [x3,x4,s0 (.str t),x6,s0 (aZ row),x8,x9]:=by
 have o2:=o.sd ht;refine u7 o.len rfl rfl rfl (λh=>⟨_,.inl rfl,ik L t,o2,rfl⟩) λh=>⟨_,Rw rfl rfl (NI L t),λhb=>?_,λhb=>⟨_,.inl rfl,ik L t,o2,rfl⟩⟩
 have hb:=of_decide_eq_true hb;exact Uu rfl rfl (NI L t) rfl () ⟨_,.inl rfl,_,o2.add hw (by rw[RC];exact h) hb,rfl⟩
theorem Qx {Q:List fA}(hn:Q.length<=3)(hQ:∀ a∈Q,AltG (C 2) a):∃ L:List Tb,MG [lI ns,qD Q]=aa (.dict (az L))/\BkG L:=by
 have:∃ d,MG [lI ns,qD Q]=aa d/\∃ L:List Tb,d=.dict (az L)/\BkG L:=by
  rw[7];refine bX rfl (by simp) ?_
  refine dU (λρ'=>∃ (L:List Tb) (x3 x4 x5 x6 x7 x8 x9:L2.Slot),BkG L/\ρ'=kc ns Q L [x3,x4,x5,x6,x7,x8,x9]) ?_ ?_
  .refine tN (λi ρ'=>∃ (L:List Tb) (x3 x4 x5 x6 x7 x8 x9:L2.Slot),BkG L/\ρ'=kc ns Q L [x3,x4,x5,x6,x7,x8,x9]) (dm (oC (aX (aW rfl ((kH _).trans (by rw[cC]))) rfl) ())) ⟨[],ab,ab,ab,ab,ab,ab,ab,BkG.nil,rfl⟩ ?_ λ_ ⟨L,x3,x4,x5,x6,x7,x8,x9,o,e⟩=>⟨_,rfl,L,x3,x4,x5,x6,x7,x8,x9,o,e⟩
   rintro k _ hk ⟨L,x3,x4,x5,x6,x7,x8,x9,o,rfl⟩;refine⟨kc ns Q L [s0 (.int k),x4,x5,x6,x7,x8,x9],rfl,?_⟩;obtain⟨kn,ek,so⟩:=YZ hC (k:=k) ()
   refine bX (aW rfl ek) (by simp) ?_
   have ag:=hQ _ (getD_mem a0 hk);have ea:ar (qD Q) (.int k)=aa (iY (Q.getD k a0)):=rK (getD_some a0 hk);generalize Q.getD k a0=a at ag ea;obtain⟨hd,ls⟩:=a;refine iF (b0:=Unit.unit) (λ_ _=>Unit.unit) (λi _ ρ'=>∃ (L:List Tb) (x5 x6 x7:L2.Slot),BkG L/\ρ'=kc ns Q L [s0 (.int k),s0 (ao kn),x5,x6,x7,x8,x9]) (dm (lM (aO (aO rfl rfl ea) rfl rfl))) ⟨L,x5,x6,x7,o,rfl⟩ ?_ λ_ ⟨L,x5,x6,x7,o,e⟩=>⟨_,.inl rfl,L,_,_,x5,x6,x7,x8,x9,o,e⟩
   rintro i l _ _ hx ⟨L,x5,x6,x7,o,rfl⟩;have g:=ag.ln l (eM hx);refine⟨kc ns Q L [s0 (.int k),s0 (ao kn),s0 (.str l.1),s0 (tK l.2),x7,x8,x9],rfl,?_⟩;have tl:pE kn (cV kn) l.2:=λz m=>by
    rcases g.trm _ m with⟨i,e⟩|⟨j,hj,e⟩
    .cases e
    .cases e;obtain⟨u,eu⟩:=so j hj;unfold cV;rw[eu]
     rfl
   have w3:=g.wd ▸ (BR l.1).2;have e:=fS (cap:=[ab,aa 4]) (fi:=bc (aB 6)) (T:=gB 0) (t:=cS) (Y:=vS (kc ns Q L [s0 (.int k),s0 (ao kn),s0 (.str l.1),s0 (tK l.2),x7,x8,x9])) (λ_=>ae) (λk=>aY (tv (cV kn) k)) (lM rfl) () λk mk=>⟨[aa (kD k),aa (ao kn)],rfl,rfl,λ_=>CL tl mk⟩
   rw[kU.2 λ_ _=>rfl] at e
   refine bX (d:=aZ (l.2.map (tv (cV kn)))) (aW (aX e rfl) (by unfold aZ;rw[dY];rfl)) (by simp) ?_
   obtain⟨o',eo,ρ2,h,L',oL,rfl⟩:=TB o g.tab (row:=l.2.map (tv (cV kn))) (by rw[cC];exact g.wd) (s0 (.int k)) (s0 (ao kn)) (s0 (tK l.2)) x8 x9
   exact⟨o',eo,_,h,L',_,_,_,oL,rfl⟩
  rintro _ ⟨L,x3,x4,x5,x6,x7,x8,x9,o,rfl⟩;obtain⟨V,hV⟩:=Qe hC;refine dU (λρ'=>∃ (L:List Tb) (x3 x4 x5 x6 x7 x8 x9:L2.Slot),BkG L/\ρ'=kc ns Q L [x3,x4,x5,x6,x7,x8,x9]) ?_ ?_
  .refine iF (xs:=[((1:Nat),("r" : aE)),(2,"x"),(3,"rr")]) (q:=λp=>cW [.int p.1,.str p.2]) (b0:=Unit.unit) (λ_ _=>Unit.unit) (λi _ ρ'=>∃ (L:List Tb) (x3 x4 x5 x6 x7 x8 x9:L2.Slot),BkG L/\ρ'=kc ns Q L [x3,x4,x5,x6,x7,x8,x9]) (dm (eX rfl)) ⟨L,x3,x4,x5,x6,x7,x8,x9,o,rfl⟩ ?_ λ_ ⟨L,x3,x4,x5,x6,x7,x8,x9,o,e⟩=>⟨_,rfl,L,x3,x4,x5,x6,x7,x8,x9,o,e⟩
   rintro i ⟨w,t⟩ _ _ hx ⟨L,x3,x4,x5,x6,x7,x8,x9,o,rfl⟩;have hw:(1<=w/\w<=3)/\w=jo t/\t∈vt:=(by decide:∀ p∈[((1:Nat),("r" : aE)),(2,"x"),(3,"rr")],(1<=p.1/\p.1<=3)/\p.1=jo p.2/\p.2∈vt) _ (eM hx)
   obtain⟨⟨w1,w3⟩,hw,ht⟩:=hw;refine⟨kc ns Q L [x3,x4,s0 (.str t),x6,x7,s0 (.int w),x9],rfl,?_⟩;obtain⟨n,en,hn7,_⟩:=fV (C 24/(w:Nat)) (n:=7) ()
   refine tN (λi ρ'=>∃ (L:List Tb) (x3 x7 x9:L2.Slot),BkG L/\ρ'=kc ns Q L [x3,x4,s0 (.str t),x6,x7,s0 (.int w),x9]) (dm (oC (aX (aO (aO (hC.at () rfl rfl) rfl (qX _ w ())) rfl en) rfl) ())) ⟨L,x3,x7,x9,o,rfl⟩ ?_ λ_ ⟨L,x3,x7,x9,o,e⟩=>⟨_,.inl rfl,L,x3,x4,_,x6,x7,_,x9,o,e⟩
   rintro k _ hk ⟨L,x3,x7,x9,o,rfl⟩;refine⟨kc ns Q L [s0 (.int k),x4,s0 (.str t),x6,x7,s0 (.int w),x9],rfl,?_⟩;have e1:pS (.int w) (.int 1)=aa (.int ((w-1:Nat):Int)):=by
    show aa (aY ((w:Int)-1))=_
    congr 2
    lia
   have e6:gQ (.int 6) (.int ((w-1:Nat):Int))=aa (.int ((6*(w-1):Nat):Int)):=(pH nofun).trans (by rw[PN];rfl)
   refine bX (hC.at () rfl (aO (aO rfl (aO rfl (aO rfl rfl e1) e6) (add_n 25 _)) rfl (add_n _ k))) (by simp) ?_
   generalize C (25+6*(w-1)+k)=c
   let g:Nat->Int:=λat_=>V ((c/(([1,2,4].getD at_ 1:Nat):Int)%((2:Nat):Int)).toNat)
   have e:=fS (cap:=[ab,aa 0,aa 9]) (fi:=jm (aG (aB 8) aJ)) (T:=gB 0) (t:=cS) (f:=aL oM (aG (aB 1) (aG (ah cO (ah eD (aB 2) (ah ar (dM (aG (eC (.int 1)) (aG (eC (.int 2)) (aG (eC (.int 4)) aJ)))) (aB 0))) (eC (.int 2))) aJ))) (Y:=vS (kc ns Q L [s0 (.int k),x4,s0 (.str t),x6,x7,s0 (.int w),s0 (.int c)])) (λ_=>ae) (λj=>aY (g j)) (oC rfl ()) (by simp;lia) λj mj=>by
    have hj:=iI.1 mj;have ix:=rK (q:=λ(c:Nat)=>aY c) (xs:=[1,2,4]) (getD_some 1 (show j<3 by lia))
    have hq:1<=([1,2,4].getD j 1:Nat)/\([1,2,4].getD j 1:Nat)<=4:=(by decide:∀ j:Fin 3,1<=([1,2,4].getD j.val 1:Nat)/\([1,2,4].getD j.val 1:Nat)<=4) ⟨j,()⟩
    have bd:=tL (c/(([1,2,4].getD j 1:Nat):Int)) (show(0:Int)<(2:Nat) by decide)
    refine⟨[aa (.int j),aa (lI ns),aa (.int c)],rfl,rfl,λ_=>aW (aX rfl (aX (aO (aO rfl (aO rfl rfl ix) (qX c _ ())) rfl ((pO _ 2 ()).trans (congrArg (λx=>aa (aY x)) (Int.toNat_of_nonneg bd.1).symm))) rfl)) (hV _ ())⟩
   rw[kU.2 λ_ _=>rfl] at e
   refine bX (d:=aZ ((cG w).map g)) (aW (aX e rfl) (by unfold aZ;rw[dY];rfl)) (by simp) ?_
   obtain⟨o',eo,ρ2,h,L',oL,rfl⟩:=TB o ht (row:=(cG w).map g) (by simpa using hw) (s0 (.int k)) x4 x6 (s0 (.int w)) (s0 (.int c))
   exact⟨o',eo,_,h,L',_,_,_,oL,rfl⟩
  rintro _ ⟨L,x3,x4,x5,x6,x7,x8,x9,o,rfl⟩;have t1:bV .s (au (ah du (ah cO (ah eD (aL iG (aG (aB 0) (aG (eC (.int 24)) aJ))) (eC (.int 6))) (eC (.int 2))) (eC (.int 0)))) (kc ns Q L [x3,x4,x5,x6,x7,x8,x9])=aa (decide (C 24/(6:Nat)%(2:Nat)=0)):=dI (aO (aO (aO (hC.at () rfl rfl) rfl (qX _ 6 ())) rfl (pO _ 2 ())) rfl (vG _ _))
  by_cases h:C 24/(6:Nat)%(2:Nat)=0
  .refine oG (eU (t1.trans (by rw[decide_eq_true h])) (Sj rfl o (λp=>dI (aO (aW rfl (kH _)) rfl ?_)) ⟨_,rfl,_,rfl,_,rfl,o.out _⟩))
   rw[cC];exact congrArg (λx=>aa (jW x)) (decide_eq_decide.2 (by rw[ne_eq,<-FV];lia))
  .exact gF (sV (t1.trans (by rw[decide_eq_false h]))) (tO rfl ⟨_,rfl,L,rfl,o⟩)
 obtain⟨d,e,L,rfl,o⟩:=this;exact⟨L,e,o⟩
end
theorem RZ (c:Int)(h:0<n)(h2:n<1000000):eD (.int c) (.int n)=aa (.int (c/n)):=if_pos ()
theorem Te{P:Out->Prop}{jn:Nat}(h:f (vS Y)=aa d)(hg:getL i Y=aa ds)(hk:eV 0 .a g Y=aa (.int j))(hj:gb ds.length j=aa jn)(k:P (.nx (Y.set i (aa (1,.list (ds.set jn d)))))):Goes (pI i .s f .a g) Y P:=⟨_,by
 unfold pI;rw[show eV 0 .s f Y=aa d from h,bQ,hg,bQ,hk,bQ]
 show((gb ds.length j).bind λj=>aa (Out.nx (Y.set i (aa (1,.list (ds.set j d))))))=_
 rw[hj]
 rfl,k⟩
theorem Tj{P:Out->Prop}{t:aE}{L:List Tb}(hg:mG i Y=aa (az L))(hk:g (vS Y)=aa (.str t))(hl:t∈L.map (·.1))(hf:eV 0 .a f Y=aa (.int j))(hj:gb (bo L t).length j=aa n)(hz:(bo L t).length<=100000)(k:P (.nx (Y.set i (aa (2,.dict (az (jI L t ((bo L t).eraseIdx n)))))))):Goes (ER i .s g .a f) Y P:=⟨_,by
 unfold ER;rw[hg,bQ,show eV 0 .s g Y=aa (.str t) from hk,bQ,show bU (.str t)=aa (.inr t) from rfl,bQ,vU hl,bQ]
 show((eV 0 .a f Y).bind λd=>match d with
  |.int j=>(gb ((bo L t).map aZ).length j).bind λn=>if ((bo L t).map aZ).length<=sizeLine then aa (Out.nx (Y.set i (aa (2,.dict (kC (az L) (.inr t) (.list (((bo L t).map aZ).eraseIdx n))))))) else ab
  | _=>ab)=_
 rw[hf,bQ];show((gb ((bo L t).map aZ).length j).bind λn=>if ((bo L t).map aZ).length<=sizeLine then aa (Out.nx (Y.set i (aa (2,.dict (kC (az L) (.inr t) (.list (((bo L t).map aZ).eraseIdx n))))))) else ab)=_
 rw[cC,hj,bQ,if_pos (nH hz),Ji,<-OZ,<-Iz,<-gJ,<-Ji];show aa (Out.nx (Y.set i (aa (2,.dict (kC (az L) (.inr t) (bD ((bo L t).eraseIdx n)))))))=_;rw[IH],k⟩
section
variable (hC:Cl ns C)
include hC
theorem Mw {L:List Tb}(o:BkG L){Q:List fA}(hn:Q.length<=3)(hQ:∀ a∈Q,AltG (C 2) a):∃ row:List Int,ME [lI ns,.dict (az L),qD Q]=aa (tI row):=by
 have:∃ d,ME [lI ns,.dict (az L),qD Q]=aa d/\∃ row:List Int,d=tI row:=by
  rw[7];refine bX (hC.at () rfl rfl) (by simp) ?_
  generalize C 44=c
  let R:List L2.Slot->aR:=λr=>s0 (lI ns)::s0 (.dict (az L))::s0 (qD Q)::s0 (.int c)::r
  have lq:∀ r,aL cB (aG (aB 2) aJ) (vS (R r))=aa (.int Q.length):=λr=>aW rfl ((kH _).trans (by rw[cC]))
  have t1:bV .s (au (ah du (aL cB (aG (aB 2) aJ)) (eC (.int 0)))) (R [ab,ab,ab,ab,ab])=aa (decide (Q.length=0)):=dI (aO (lq _) rfl (O4 _ 0));have dv:∀ (n:Nat) r,0<n->n<1000000->ah eD (aB 3) (eC (.int n)) (vS (R r))=aa (.int (c/n)):=λn r h1 h2=>aO rfl rfl (RZ _ h1 h2)
  by_cases h:Q.length=0
  .obtain⟨u,eu,_⟩:=fV (c/(4:Nat)) (n:=3) ()
   obtain⟨w,ew,_⟩:=fV (c/(12:Nat)) (n:=3) ()
   obtain⟨x,ex,_⟩:=fV c (n:=3) ()
   obtain⟨ys,ey,_⟩:=Su aY [(u:Int),(w:Int)] ab (aa (x:Int));refine oG (eU (t1.trans (by rw[decide_eq_true h])) (cN ?_ ⟨_,rfl,_,rfl,ys,rfl⟩))
   refine(II (pR (aX (aO (dv 4 _ () ()) rfl eu) (aX (aO (dv 12 _ () ()) rfl ew) rfl))) rfl (Nf (aO rfl rfl ex))).trans (congrArg (λx=>aa (cW x)) ey)
  refine gF (sV (t1.trans (by rw[decide_eq_false h]))) ?_
  obtain⟨i,ei,hi,_⟩:=fV c (n:=Q.length) ()
  have ag:=hQ _ (getD_mem a0 hi);have ea:ar (qD Q) (.int i)=aa (iY (Q.getD i a0)):=rK (getD_some a0 hi);generalize Q.getD i a0=a at ag ea;refine Gh (aO rfl (aO rfl (lq _) ei) ea) rfl ?_;obtain⟨A,hW⟩:=ag.ok;obtain⟨ec,cl⟩:=Bl o.bk (λt=>(o.atR t).1) A.L hW
  obtain⟨v3,e3,hv3,_⟩:=fV (c/(3:Nat)) (n:=3) ()
  obtain⟨kv,ek,Id⟩:=YZ hC (k:=v3) ()
  refine bX (d:=.list ((fP (bo L) a.2++[kv]).map ao)) (aO (aW rfl ec) (xP (aX (aW (aX rfl (aX (aO (dv 3 _ () ()) rfl e3) rfl)) ek) rfl)) ((CC (by simp;lia)).trans (by rw[gJ];rfl))) (by simp[R]) ?_
  obtain⟨p,ep,hp,_⟩:=fV (c/(9:Nat)) (n:=(fP (bo L) a.2++[kv]).length) (by simp)
  refine bX (aO rfl (aO (dv 9 [s0 (tK a.1),s0 (aq a.2),s0 (.list ((fP (bo L) a.2++[kv]).map ao)),ab,ab] () ()) (aW rfl ((kH _).trans (by rw[cC]))) ep) (rK (getD_some [] hp))) (by simp[R]) ?_
  have tl:pE ((fP (bo L) a.2++[kv]).getD p []) (cV ((fP (bo L) a.2++[kv]).getD p [])) a.1:=λz m=>by
   have mz:=A.hd z m;rcases kT.1 (getD_mem [] hp) with m|m
   .exact LG m z mz
   .rw[cE.1 m];obtain⟨l,ml,hz⟩:=Ae8.1 mz;rcases(ag.ln l ml).trm _ (Ad0.1 hz) with⟨i,e⟩|⟨j,hj,e⟩
    .cases e
    .cases e;obtain⟨u,eu⟩:=Id j hj;unfold cV;rw[eu]
     rfl
  generalize(fP (bo L) a.2++[kv]).getD p []=kn at tl;have hl:=ag.hl
  let S:List Int->aR:=λr=>R [s0 (tK a.1),s0 (aq a.2),s0 (.list ((fP (bo L) a.2++[kv]).map ao)),s0 (ao kn),aa (1,.list (r.map aY))]
  have e:=fS (cap:=[ab,aa 7]) (fi:=bc (aB 4)) (T:=gB 0) (t:=cS) (Y:=vS (R [s0 (tK a.1),s0 (aq a.2),s0 (.list ((fP (bo L) a.2++[kv]).map ao)),s0 (ao kn),ab])) (λ_=>ae) (λk=>aY (tv (cV kn) k)) (lM rfl) () λk mk=>⟨[aa (kD k),aa (ao kn)],rfl,rfl,λ_=>CL tl mk⟩
  rw[kU.2 λ_ _=>rfl] at e
  refine bX (d:=.list ((a.1.map (tv (cV kn))).map aY)) (e.trans (by rw[dY];rfl)) (by simp[R]) ?_
  have ll:(a.1.map (tv (cV kn))).length<=3:=by rw[cC];exact hl
  generalize a.1.map (tv (cV kn))=r at ll;have lr:aL cB (aG (aB 8) aJ) (vA (S r))=aa (.int r.length):=aW rfl ((kH _).trans (by rw[cC]))
  have dA:∀ n:Nat,0<n->n<1000000->ah eD (aB 3) (eC (.int n)) (vA (S r))=aa (.int (c/n)):=λn h1 h2=>aO rfl rfl (RZ _ h1 h2)
  refine dU (λρ'=>∃ r:List Int,r.length<=3/\ρ'=S r) ?_ ?_
  .obtain⟨u,eu,_⟩:=fV (c/(1000:Nat)) (n:=4) ()
   have tt:bV .a (mX (au (ah du (ah cO (ah eD (aB 3) (eC (.int 1000))) (eC (.int 4))) (eC (.int 0)))) (au (ah iq (aL cB (aG (aB 8) aJ)) (eC (.int 0))))) (S r)=aa (decide (u=0)&&decide ((r.length:Int) > 0)):=Eh (dI (aO (aO (dA 1000 () ()) rfl eu) rfl (O4 u 0))) λ_=>dI (aO lr rfl rfl)
   by_cases h:(decide (u=0)&&decide ((r.length:Int) > 0))=ae
   .rw[h] at tt;have h2:=of_decide_eq_true (iK.1 h).2;obtain⟨w,ew,hw,_⟩:=fV (c/(16000:Nat)) (n:=3) ()
    obtain⟨y,ey⟩:=tQ hC (n:=w) ()
    obtain⟨q,eq,hq,_⟩:=fV (c/(4000:Nat)) (n:=r.length) ()
    exact eU tt (Te (aW (aX rfl (aX (aO (dv 16000 _ () ()) rfl ew) rfl)) ey) rfl (O5 (aO (dA 4000 () ()) lr eq) rfl) (rE (by simpa using hq)) ⟨_,rfl,r.set q y,by simpa using ll,by simp[S,R,PB]⟩)
   .rw[Ka.2 h] at tt;exact gD tt (hX ⟨_,rfl,r,ll,rfl⟩)
  clear lr dA;rintro _ ⟨r,ll,rfl⟩;refine dU (λρ'=>∃ r:List Int,ρ'=S r) ?_ ?_
  .obtain⟨u,eu,_⟩:=fV (c/(1000:Nat)) (n:=16) ()
   have tt:bV .s (au (ah du (ah cO (ah eD (aB 3) (eC (.int 1000))) (eC (.int 16))) (eC (.int 5)))) (S r)=aa (decide (u=5)):=dI (aO (aO (dv 1000 _ () ()) rfl eu) rfl (O4 u 5))
   by_cases h:u=5
   .obtain⟨y,ey⟩:=tQ hC (n:=0) ()
    exact eU (tt.trans (by rw[decide_eq_true h])) (pV (aW rfl ey) rfl (by simp;lia) ⟨_,rfl,r++[y],by simp[S,R]⟩)
   .exact gD (tt.trans (by rw[decide_eq_false h])) (hX ⟨_,rfl,r,rfl⟩)
  rintro _ ⟨r,rfl⟩;exact lJ (cN (aW rfl rfl) ⟨_,rfl,r,rfl⟩)
 obtain⟨d,e,row,rfl⟩:=this;exact⟨row,e⟩
end
theorem Pz (ns:List Int)(_:ns.length<=63)(_:xM ns):HF [.list (ns.map .int)]=aa (.bool ae):=by
 obtain⟨C,hC⟩:=Lf ns;obtain⟨Q,eQ,hn,hQ⟩:=Yg hC;obtain⟨L,eL,o⟩:=Qx hC hn hQ;obtain⟨row,er⟩:=Mw hC o hn hQ;have:∃ d,HF [lI ns]=aa d/\d=.bool ae:=by
  rw[7];refine bX (aW rfl eQ) (by simp) (bX (aW rfl eL) (by simp) (HU (aW rfl er) (JR row) (by simp) ?_))
  have rt:∀ {L:List Tb} (_:BkG L) (x:L2.Slot),bV .a (qT (au (aL yZ (aG (aB 2) (aG (aB 1) (aG (aB 3) aJ)))))) [s0 (lI ns),s0 (qD Q),aa (2,.dict (az L)),s0 (tI row),x]=aa (!ae):=λo x=>Ut (aW rfl (i7 o (λa m=>(hQ a m).ok) hn row))
  refine gF (zK (rt o ab)) ?_;refine dU (λρ'=>∃ Y,ρ'=Y) ?_ λ_ _=>lJ (cN rfl ⟨_,rfl,rfl⟩)
  refine iF (xs:=[("x" : aE),"rr","r"]) (b0:=Unit.unit) (λ_ _=>Unit.unit) (λi _ ρ'=>∃ (L:List Tb) (x:L2.Slot),BkG L/\ρ'=[s0 (lI ns),s0 (qD Q),aa (2,.dict (az L)),s0 (tI row),x]) (dm (eX rfl)) ⟨L,ab,o,rfl⟩ ?_ λ_ _=>⟨_,rfl,_,rfl⟩
  rintro i t _ _ hx ⟨L,x,o,rfl⟩;refine⟨[s0 (lI ns),s0 (qD Q),aa (2,.dict (az L)),s0 (tI row),s0 (.str t)],rfl,?_⟩;have tt:bV .a (au (ah iq (aL cB (aG (jA (aB 2) (aB 4) (dM aJ)) aJ)) (eC (.int 0)))) [s0 (lI ns),s0 (qD Q),aa (2,.dict (az L)),s0 (tI row),s0 (.str t)]=aa (decide (((bo L t).length:Int) > 0)):=dI (aO (aW (aX (o.bk.get rfl rfl) rfl) ((kH _).trans (by rw[cC]))) rfl rfl)
  by_cases h:((bo L t).length:Int) > 0
  .have tm:=GF λz=>by rw[Pp z] at h;exact absurd h (by simp)
   obtain⟨p,ep,hp,_⟩:=fV (C 2) (n:=(bo L t).length) ()
   obtain⟨a1,a2,a3⟩:=o.atR t;have o2:BkG (jI L t ((bo L t).eraseIdx p)):=o.upd (dG (List.length_eraseIdx_le ..) a1) (a2.sublist (List.eraseIdx_sublist ..)) λr m=>a3 r ((List.eraseIdx_sublist ..).subset m)
   refine eU (tt.trans (by rw[decide_eq_true h])) (dU (λρ'=>ρ'=[s0 (lI ns),s0 (qD Q),aa (2,.dict (az (jI L t ((bo L t).eraseIdx p)))),s0 (tI row),s0 (.str t)]) (Tj rfl rfl tm (O5 (aO (aW rfl (hC 2 ())) (aW (aX (aO rfl rfl (vU tm)) rfl) ((kH _).trans (by rw[cC]))) ep) rfl) (rE hp) () ⟨_,rfl,rfl⟩) ?_)
   rintro _ rfl;exact⟨_,zK (rt o2 _),_,.inl rfl,_,_,o2,rfl⟩
  .exact gD (tt.trans (by rw[decide_eq_false h])) (hX ⟨_,.inl rfl,L,_,o,rfl⟩)
 rw[2]
end Aw
set_option hygiene false in
local macro_rules | `(tactic| sleep 0)=>`(tactic| repeat' first|exact oE _|exact pT|refine hJ ?_ ?_|((with_reducible show PE _ _ _);first|((with_reducible show DF _ _ _ (eC _));first|exact mJ|exact mZ|exact SV|exact RD|exact Fb)|((with_reducible show DF _ _ _ (ah _ _ _));first|((with_reducible show DF _ _ _ (ah ar _ _));refine HB hv ?_ ?_ (λ_ _=>rfl))|((with_reducible show DF _ _ _ (ah cO _ _));refine TV ?_ ?_)|((with_reducible show DF _ _ _ (ah eD _ _));refine Re ?_ ?_)|((with_reducible show DF _ _ _ (ah eR _ _));refine Mz ?_ ?_)|((with_reducible show DF _ _ _ (ah gQ _ _));refine Oq ?_ ?_)|((with_reducible show DF _ _ _ (ah pS _ _));refine Pe ?_ ?_)|((with_reducible show DF _ _ _ (ah oA _ _));refine Ru ?_ ?_)|((with_reducible show DF 1 _ _ (ah nL _ _));refine UI ?_ ?_))|((with_reducible show DF _ _ _ (aL _ _));first|((with_reducible show DF _ _ _ (aL cB _));refine vV Bp YT rfl Q.B.len PySem.boot_len ?_)|((with_reducible show DF _ _ _ (aL iD _));refine nF c8 Zm rfl Q.B.tuple Ij ?_)|refine NA (by assumption) (hr.mono nofun) rfl ?_)|((with_reducible show DF _ _ _ (cf _ _ _ _ _));refine SE hS ?_ (λ_ _ _ _ _=>?_) (λ_ _ _ _ _=>?_))|((with_reducible show DF _ _ _ (ff (fC _) _));refine xU (T:="str") rfl Q.B.isinstance rfl Q.B.str PyProof.Rows.boot_str nofun ?_)|refine vD ?_|refine SM ?_|refine Rb ?_|refine Gk hv ?_ ?_ ?_|(refine kL (n:=1) ?_;first|exact Fb|refine vD ?_|((with_reducible show DF _ _ _ (cf _ _ _ _ _));refine SE hS ?_ (λ_ _ _ _ _=>?_) (λ_ _ _ _ _=>?_))|((with_reducible show DF _ _ _ (ah nL _ _));refine UI ?_ ?_)|((with_reducible show DF _ _ _ (aL qZ _));refine nF (zG rfl) yU rfl Q.B.list AB ?_)|((with_reducible show DF _ _ _ (aL _ _));refine NA (by assumption) (hr.mono nofun) rfl ?_)))|((with_reducible show PSs _ _ _);first|(with_reducible refine Rm _ ?_)|refine Ek ?_|refine y8 ?_ ?_|exact Tc)|((with_reducible show PS _ _ _);first|refine Ou _ _ nd rfl (by first|exact jY rfl|exact oW rfl) ?_|((with_reducible show DS _ _ _ _ _ (cP _ (bc _) _ _));refine rD qG rfl ?_ ?_ ?_)|((with_reducible show DS _ _ _ _ _ (cP _ (jm _) _ _));refine Ss _ qG rfl ?_ ?_ ?_)|refine Lz _ ?_ ?_ ?_|refine B8 _ _ ?_|refine SG _ ?_|exact Rn _|refine Rg _ ?_|exact Mh)|((with_reducible show PT _ _ _);first|((with_reducible show DT _ _ (au (ah du _ _)));refine oD (BP hu) NB ?_ ?_ (mK _))|((with_reducible show DT _ _ (au (ah jh _ _)));refine oD (Oo hu) Nz ?_ ?_ (mK _))|((with_reducible show DT _ _ (au (ah iq _ _)));refine oD RP SX ?_ ?_ (mK _))|((with_reducible show DT _ _ (au (ah su _ _)));refine oD (Bky.or C9) Nu ?_ ?_ (mK _))|((with_reducible show DT _ _ (au (ah lF _ _)));refine oD Ug o5 ?_ ?_ (mK _))|((with_reducible show DT _ _ (au (ah sN _ _)));refine oD SN Gi ?_ ?_ (mK _))|((with_reducible show DT _ _ (au (ah (kg _) _ _)));first|refine oD (WS hu) NF ?_ ?_ (by with_unfolding_all rfl)|refine oD (Yc hu) NF ?_ ?_ (by with_unfolding_all rfl))|refine Om ?_|((with_reducible show DT _ _ (mX _ _));refine QR ?_)|((with_reducible show DT _ _ (O3 _ _));refine QR ?_)|refine Ol ?_)|((with_reducible show PW _ _ _);first|refine Ph ?_ ?_|refine Lr ?_ ?_|refine Si ?_|refine Of ?_)|exact IP|refine Gu ?_|refine UQ ?_|refine E6 rfl Q.B.range ?_|exact Ur nd rfl (by first|exact jY rfl|exact oW rfl)|exact Sq rfl nd rfl rfl (by first|exact jY rfl|exact oW rfl) (by first|exact jY rfl|exact oW rfl))
namespace Aw
open PySem L2
variable {K:aK}{n:aE}
def ET (K:aK):Sp:=λvs H Q _=>∃ (a:aC) (ns:List Int),vs=[.ref a]/\SqL K H a (ns.map V.int)/\ns.length<=63/\xM ns/\∀ H',Q (.bl ae) H'
theorem Pd:∀ vs H Q E,ET K vs H Q E->L8 K 0 HF vs H Q E:=λvs H Q E gh=>by
 obtain⟨a,ns,ev,hS,hl,hb,k⟩:=gh;subst ev;have e0:hid H (λ_=>False)=H:=by
  funext b;unfold hid;rw[if_neg (λz=>z)]
 refine⟨λ_=>False,[.list (ns.map aY)],.bool ae,λ_ z=>z.elim,?_,Pz ns hl hb,eB λv H' _ r=>?_⟩
 .rw[e0];exact Aaf.2 ⟨_,_,rfl,Aa7.2 ⟨a,_,rfl,hS,YR ns⟩,Aaj.2 rfl⟩
 .rw[Aar.1 r];exact k H'
def Hs (K:aK)(n:aE)(i:Nat):Prop:=∃ f fd,Fun K n n (gp i) f fd/\AA K jC n=aa (aa (.ref f))
theorem Bkd{i:Nat}{f:aC}{od an:Option aC}{sl:Array (Option aD)}{oc kV dc pm cd ct:aD}(a:AA K jC n=aa (aa (.ref f)))(l:K.lookup f=aa ⟨oc,od,.func (wM n n (xY (gp i)) (rH (gp i)) (gG (gp i)) .none kV dc pm an cd ct),sl⟩)(c:ON K cd n=ae)(k:FH K (.ref f)=ae):Hs K n i:=⟨_,_,My (st:=gp i) l c k,a⟩
theorem Bkf{i:Int}{t:Tok}(h:AA K jC n=aa (aa (.int i t))):∃ t,AA K jC n=aa (aa (.int i t)):=⟨t,h⟩
structure Al (P:bN)(w:bA)(K:aK)(mg:aE->Option aD)(base h:aQ):Prop where
 X:K.In h
 G:h.Ns jC mg
 a1:Hs K "names_of" 1
 a2:Hs K "put_in" 2
 a3:Hs K "fits" 15
 a4:Hs K "rows_of" 16
 a5:Hs K "ways_of" 17
 a6:Hs K "_law_cell" 42
 a7:Hs K "_law_draw" 43
 a8:Hs K "_law_choices" 50
 a9:Hs K "put_in_lines" 3
 a10:Hs K "shared" 8
 a11:Hs K "refuse_rows" 18
 a12:Hs K "extended" 20
 a13:Hs K "fitting" 23
 a14:Hs K "common" 26
 a15:Hs K "key_of" 27
 a16:Hs K "bound" 36
 a17:Hs K "_law_value" 44
 a18:Hs K "_law_name" 45
 a19:Hs K "_law_wanted" 51
 a20:Hs K "parent_of" 9
 a21:Hs K "refuse_ways" 19
 a22:Hs K "walked" 21
 a23:Hs K "all_fitting" 24
 a24:Hs K "with_partner" 28
 a25:Hs K "_law_lines" 46
 a26:Hs K "_law_values" 48
 a27:Hs K "first_ear" 10
 a28:Hs K "_law_question" 47
 a29:Hs K "_law_book" 49
 a30:Hs K "_law_row" 52
 a31:Hs K "ears" 11
 a32:Hs K "ring" 12
 a33:Hs K "thin_parents" 29
 a34:Hs K "walk_rest" 30
 a35:Hs K "thin_ears" 32
 a36:Hs K "refuse_ring" 25
 a37:Hs K "thin_rest" 31
 a38:Hs K "thin_all" 33
 a39:Hs K "refuse_bound" 37
 a40:Hs K "least_of" 34
 a41:Hs K "least_with" 38
 a42:Hs K "first_with" 39
 a43:Hs K "why" 40
 a44:Hs K "_law_right" 53
 a45:Hs K "law" 54
 c1:∃ t,AA K jC "MOST_WAYS" = aa (aa (.int 4096 t))
 z:Blt λx=>AA K jC x=aa ab
section
set_option maxHeartbeats 4000000
variable {P:bN}{w:bA}{mg:aE->Option aD}{base h:aQ}(Q:Al P w K mg base h)
include Q
theorem Al.B:Blt λx=>mg x=ab:=
 have M:=λx=>PySem.W.mg_none_of (n:=x) Q.X Q.G
 ⟨M _ Q.z.1,M _ Q.z.2,M _ Q.z.3,M _ Q.z.4,M _ Q.z.5,M _ Q.z.6,M _ Q.z.7,M _ Q.z.8,M _ Q.z.9,M _ Q.z.10,M _ Q.z.11,M _ Q.z.12,M _ Q.z.13,M _ Q.z.14,M _ Q.z.15,M _ Q.z.16,M _ Q.z.17⟩
theorem Hs.dd{i:Nat}(Hh:Hs K n i)(k n0 np:Nat)(N:List aE)(b:SF)
  (hb:∀ {f:aC} {cv:aD} {A:bS} {outer:List Env} {s:aH} {H:Hp} {E:XK} {P0:aC->Prop} (hr:Room k (A.deeper (Ii n (gG (gp i)) s.heap.objs.size f cv))),Sx (gG (gp i)).names N->N.Nodup->(A.deeper (Ii n (gG (gp i)) s.heap.objs.size f cv)).units+100<cLine->(A.deeper (Ii n (gG (gp i)) s.heap.objs.size f cv)).units+40<cLine->jw (qW sq P w K mg base N n (gG (gp i)) f cv A outer s H E).nox H P0 n0 (rH (gp i)) b)
  (S:FnScope N (N.take np) (gG (gp i)):=by constructor<;>first|rfl|decide +kernel) (h1:np=(N.take np).length:=by rfl) (h2:(N.take np).length<=N.length:=by decide)
  (bn:∀ f fd,Fun K n n (gp i) f fd->Binds K fd (N.take np) []:=by exact λ_ _ F=>F.binds λ_ _ _ _ _ _ us h=>by rcases us with _|⟨_,_|⟨_,_|⟨_,_|⟨_,_|⟨_,_⟩⟩⟩⟩⟩<;>first|(simp at h;done)|rfl):Def P w K mg base n (k+1) (N.take np) (L8 K n0 (bu np N.length b)):=
 let ⟨_,_,F,a⟩:=Hh
 ⟨_,_,RV F S h1 h2 λcv A outer s H E P0 hr=>hb hr ⟨⟩ S.nd (RK hr) (SC hr),Hr Q.X Q.G a,F.kp,bn _ _ F⟩
def DZ:=Hs.dd Q Q.a1 0 1 1 ["lines","names","line","term"] Ay λhr hS nd hu hv=>by
 rw[14];refine UY 1 .s .s hv RD ?_;rw[14];refine nF (Xn rfl) Yn rfl Q.B.list AB ?_;rw[14]
def yI:=Hs.dd Q Q.a2 0 0 2 ["terms","known"] WR λhr hS nd hu hv=>by
 rw[14]
def xV:=Hs.dd Q Q.a3 0 1 3 ["line","row","known","found","term","number","wanted"] SI λhr hS nd hu hv=>by
 rw[14];exact XC;rw[14];refine nF Am Bc rfl Q.B.dict FK ?_;rw[14];refine rD qG rfl ?_ ?_ ?_;refine HP rfl Q.B.zip ?_;rw[14];refine Lg 6 3 .s .s .s .s nd ?_ ?_ ?_ ?_;rw[14];exact XC;rw[14]
def ZC:=Hs.dd Q Q.a4 0 0 2 ["book","line"] ZM λhr hS nd hu hv=>by
 rw[14]
def C0:=Hs.dd Q Q.a5 0 0 1 ["rows","number","own"] ZI λhr hS nd hu hv=>by
 rw[14];refine vV (C3 rfl) Xl rfl Q.B.max PyProof.Rows.boot_max ?_;rw[14]
def rP:=Hs.dd Q Q.a6 0 0 2 ["_law_script","_law_k"] Cf λhr hS nd hu hv=>by
 rw[14]
def MF:=Hs.dd Q Q.a7 0 0 3 ["_law_cell_here","_law_k","_law_size","_law_number"] Bz λhr hS nd hu hv=>by
 rw[14]
def Eb:=Hs.dd Q Q.a8 0 0 2 ["_law_book_here","_law_lines_here","_law_found","_law_table","_law_terms","_law_longer","_law_known","_law_row_here","_law_more","_law_good","_law_term","_law_value_here"] Dx λhr hS nd hu hv=>by
 rw[14];refine nF Am Bc rfl Q.B.dict FK ?_;rw[14];refine rD qG rfl ?_ ?_ ?_;refine HP rfl Q.B.zip ?_;rw[14];refine p7 9 8 .s .s .s .s hu nd rfl (by first|exact jY rfl|exact oW rfl) ?_ ?_ ?_ ?_
 rw[14];refine HR ?_ ?_;rw[14];refine UL ?_;refine BY (BP hu) NB ?_ ?_ (mK _);rw[14]
def Dw:=Hs.dd Q Q.a9 1 0 2 ["lines","known"] Dp λhr hS nd hu hv=>by
 have:=yI Q;rw[14]
def y7:=Hs.dd Q Q.a10 1 1 2 ["lines","k","elsewhere"] WE λhr hS nd hu hv=>by
 have:=DZ Q;rw[14];refine Sv ?_ ?_;refine HQ ?_ yD ?_;rw[14];refine xZ ?_;rw[14];refine HQ ?_ ?_ yD;rw[14];refine xZ ?_;rw[14]
def e8:=Hs.dd Q Q.a11 1 0 1 ["rows"] EM λhr hS nd hu hv=>by
 have:=C0 Q;obtain⟨_,jg⟩:=Q.c1;rw[14];exact(j7 (i:=4096) rfl (Hr Q.X Q.G jg) ⟨_,rfl⟩);rw[14]
def Xe:=Hs.dd Q Q.a12 1 1 3 ["found","line","rows","told","known","row","more"] Bf λhr hS nd hu hv=>by
 have:=xV Q;rw[14]
def E3:=Hs.dd Q Q.a13 1 1 2 ["book","line"] ZQ λhr hS nd hu hv=>by
 have:=xV Q;have:=ZC Q;rw[14];refine vV c6 Yl rfl Q.B.sorted K0 ?_;rw[14]
def Vb:=Hs.dd Q Q.a14 1 1 2 ["line","other"] XW λhr hS nd hu hv=>by
 have:=DZ Q;rw[14]
def o4:=Hs.dd Q Q.a15 1 0 3 ["line","row","names"] XZ λhr hS nd hu hv=>by
 have:=yI Q;have:=xV Q;rw[14]
def Hc:=Hs.dd Q Q.a16 1 1 2 ["head","row"] Fi λhr hS nd hu hv=>by
 have:=xV Q;rw[14]
def zF:=Hs.dd Q Q.a17 1 0 2 ["_law_script","_law_k","_law_cell_here"] Cq λhr hS nd hu hv=>by
 have:=rP Q;rw[14];exact(Pm mJ);rw[14];exact(UC mJ mJ);exact(UC mJ mJ);rw[14]
def Cj:=Hs.dd Q Q.a18 1 0 2 ["_law_script","_law_k"] Br λhr hS nd hu hv=>by
 have:=rP Q;refine Ek ?_;refine SG .s ?_;refine HB hv ?_ ?_ (λ_ _=>rfl)
 refine HB hv ?_ ?_ (λ_ _=>rfl)
 refine kL (n:=1) ?_;refine vD ?_;refine hJ ?_ ?_ ?_;refine kL (n:=1) ?_;refine vD ?_;refine hJ ?_ ?_ ?_;exact mZ;refine hJ ?_ ?_ ?_;exact mZ;refine hJ ?_ ?_ ?_;exact mZ;refine hJ ?_ ?_ ?_;exact mZ;refine hJ ?_ ?_ ?_;exact mZ;exact pT
 rfl
 rfl
 rfl
 rfl
 rfl
 refine hJ ?_ ?_ ?_;refine kL (n:=1) ?_;refine vD ?_;refine hJ ?_ ?_ ?_;exact mZ;refine hJ ?_ ?_ ?_;exact mZ;refine hJ ?_ ?_ ?_;exact mZ;refine hJ ?_ ?_ ?_;exact mZ;refine hJ ?_ ?_ ?_;exact mZ;exact pT
 rfl
 rfl
 rfl
 rfl
 rfl
 exact pT
 rfl
 rfl
 refine TV ?_ mJ;refine NA (by assumption) (hr.mono nofun) rfl ?_
 refine hJ ?_ ?_ ?_;exact(oE 0);refine hJ ?_ ?_ ?_;exact mJ;exact pT
 rfl
 rfl
 exact(oE 1)
def b9:=Hs.dd Q Q.a19 1 0 3 ["_law_book_here","_law_question_here","_law_row_here","_law_number","_law_head","_law_lines_here","_law_names","_law_line","_law_good","_law_known"] Dk λhr hS nd hu hv=>by
 have:=Eb Q;rw[14];refine Fh .s ?_ ?_;rw[14];refine UU ?_;rw[14];refine kL (n:=1) ?_;refine TR ?_ yD ?_;rw[14];refine xZ ?_;rw[14];refine vV (Wa rfl hv) Xd rfl Q.B.min PyProof.Rows.boot_min ?_;rw[14]
def Zj:=Hs.dd Q Q.a20 2 0 3 ["lines","left","k","wanted","j"] Bu λhr hS nd hu hv=>by
 have:=y7 Q;rw[14];refine F1 ?_ ?_;rw[14];refine vV (B7 rfl) E7 rfl Q.B.all boot_all ?_;rw[14];refine BY (WS hu) NF ?_ ?_ (by with_unfolding_all rfl)
 rw[14]
def d8:=Hs.dd Q Q.a21 2 0 2 ["book","lines"] EL λhr hS nd hu hv=>by
 have:=ZC Q;have:=e8 Q;rw[14]
def j4:=Hs.dd Q Q.a22 2 0 2 ["lines","rows","found","line","own"] WQ λhr hS nd hu hv=>by
 have:=Xe Q;rw[14];refine rD qG rfl ?_ ?_ ?_;refine HP rfl Q.B.zip ?_;rw[14]
def f6:=Hs.dd Q Q.a23 2 1 2 ["book","lines"] Di λhr hS nd hu hv=>by
 have:=E3 Q;rw[14]
def Dt:=Hs.dd Q Q.a24 2 1 4 ["line","rows","other","others","names","met"] Dr λhr hS nd hu hv=>by
 have:=Vb Q;have:=o4 Q;rw[14];refine nF (Zx hu rfl) c7 rfl Q.B.dict FK ?_;rw[14]
def Zg:=Hs.dd Q Q.a25 2 0 2 ["_law_script","_law_start","_law_first","_law_lines_here","_law_count","_law_k","_law_cell_here","_law_terms","_law_j","_law_more"] Cn λhr hS nd hu hv=>by
 have:=rP Q;have:=MF Q;have:=zF Q;have:=Cj Q;rw[14];refine CJ 7 .s .s ?_ mJ;rw[14];refine CJ 7 .s .s ?_ mJ;rw[14]
def Dj:=Hs.dd Q Q.a26 2 1 2 ["_law_script","_law_k","_law_values_here","_law_at"] Dl λhr hS nd hu hv=>by
 have:=rP Q;have:=MF Q;have:=zF Q;have:=Cj Q;rw[14];refine UY 2 .s .s hv ?_ ?_;rw[14]
def Zk:=Hs.dd Q Q.a27 3 0 2 ["lines","left","k","parent"] Ci λhr hS nd hu hv=>by
 have:=Zj Q;rw[14]
def i5:=Hs.dd Q Q.a28 3 1 1 ["_law_script","_law_question_here","_law_k","_law_lines_here","_law_there","_law_line","_law_head","_law_at","_law_cell_here"] Dv λhr hS nd hu hv=>by
 have:=rP Q;have:=MF Q;have:=zF Q;have:=Zg Q;rw[14]
def Yv:=Hs.dd Q Q.a29 3 2 2 ["_law_script","_law_question_here","_law_book_here","_law_k","_law_values_here","_law_table","_law_terms","_law_row_here","_law_width","_law_cell_here"] Cb λhr hS nd hu hv=>by
 have:=rP Q;have:=zF Q;have:=Dj Q;rw[14];exact m8;rw[14];refine WM 2 .s .s .a hu ?_ ?_ ?_ ?_;rw[14];refine VH 2 .s .s hv ?_ ?_;rw[14];refine UU ?_;rw[14];refine WM 2 .s .s .a hu ?_ ?_ ?_ ?_;rw[14];refine VH 2 .s .s hv ?_ ?_;rw[14];exact(Sk 2 rfl (ED (N:=["_law_table","_law_rows"]) (cap:=[ab,ab]) (out:=(gG (gp 49)).names) (XN:=(["_law_script","_law_question_here","_law_book_here","_law_k","_law_values_here","_law_table","_law_terms","_law_row_here","_law_width","_law_cell_here"]:List aE)) rfl rfl (by rw[0]) rfl) (λcl C s₀ H₀ ex=>⟨NM rfl (vR (rJ (i:=0) (show(["_law_table","_law_rows"]:List aE).Nodup by rw[0]) rfl (jY rfl)) (vR (rJ (i:=1) (show(["_law_table","_law_rows"]:List aE).Nodup by rw[0]) rfl (jY rfl)) IQ)),Gu (oD RP SX (vV Bp YT rfl Q.B.len PySem.boot_len (hJ (oE 1) pT)) mJ (mK _)),NK (fK (HM (i:=0) rfl (jY rfl)) (fK (HM (i:=1) rfl (jY rfl)) iE))⟩) rfl Q.B.dict FK)
 rw[14]
def Xq:=Hs.dd Q Q.a30 3 0 3 ["_law_script","_law_book_here","_law_question_here","_law_cell_here","_law_head","_law_lines_here","_law_choices_here","_law_known","_law_row_here"] Ai λhr hS nd hu hv=>by
 have:=rP Q;have:=Eb Q;have:=zF Q;have:=Dj Q;rw[14];refine HQ ?_ yD ?_;rw[14];refine xZ ?_;rw[14];refine Fh .s ?_ ?_;rw[14];exact(n5 (i:=8) .s rfl nd rfl (by first|exact jY rfl|exact oW rfl) (ED (N:=["_law_term","_law_known"]) (cap:=[ab,aa 7]) (out:=(gG (gp 52)).names) (XN:=(["_law_script","_law_book_here","_law_question_here","_law_cell_here","_law_head","_law_lines_here","_law_choices_here","_law_known","_law_row_here"]:List aE)) rfl rfl (by rw[0]) rfl) EU (UQ (oE 4)) (λcl C s₀ H₀ ex=>⟨YD (j:=0) (show(["_law_term","_law_known"]:List aE).Nodup by rw[0]) rfl (jY rfl),IP,(Gk hv (oE 1) (oE 0) (oE 0))⟩))
 rw[14];refine CJ 8 .s .a ?_ ?_;rw[14]
def xR:=Hs.dd Q Q.a31 4 2 1 ["lines","taken","left","ear"] SL λhr hS nd hu hv=>by
 have:=Zk Q;rw[14];refine v8 rfl rfl Q.B.list rfl Q.B.range ?_;rw[14];refine Vq .s 100 qG ?_ ?_;rw[14];refine D9 2 .s ?_;rw[14];exact(t8 1 2 nofun)
def Px:=Hs.dd Q Q.a32 5 1 1 ["lines","rest"] TH λhr hS nd hu hv=>by
 have:=xR Q;rw[14];refine q9 .a 1 ?_ ?_;rw[14]
def f7:=Hs.dd Q Q.a33 5 1 2 ["lines","kept","told","ear","parent"] Dz λhr hS nd hu hv=>by
 have:=Dt Q;have:=xR Q;rw[14];refine nF (zG rfl) yU rfl Q.B.list AB ?_;rw[14];refine kL (n:=1) ?_;rw[14];refine JJ 2 .a .s ?_ ?_;rw[14]
def Zb:=Hs.dd Q Q.a34 5 0 2 ["lines","kept","rest"] By λhr hS nd hu hv=>by
 have:=j4 Q;have:=xR Q;rw[14];refine kL (n:=1) ?_;rw[14]
def Yp:=Hs.dd Q Q.a35 5 1 2 ["lines","kept","told","ear","parent"] Ce λhr hS nd hu hv=>by
 have:=Dt Q;have:=xR Q;rw[14];refine nF (zG rfl) yU rfl Q.B.list AB ?_;rw[14];refine rD qG rfl ?_ ?_ ?_;refine Oj rfl Q.B.reversed ?_;rw[14];refine kL (n:=1) ?_;rw[14];refine JJ 2 .a .s ?_ ?_;rw[14]
def b8:=Hs.dd Q Q.a36 6 0 2 ["book","lines"] EN λhr hS nd hu hv=>by
 have:=d8 Q;have:=Px Q;rw[14]
def Yx:=Hs.dd Q Q.a37 6 1 2 ["lines","kept","told","found","k"] Bx λhr hS nd hu hv=>by
 have:=yI Q;have:=xR Q;have:=Zb Q;rw[14];refine nF (zG rfl) yU rfl Q.B.list AB ?_;rw[14];refine kL (n:=1) ?_;rw[14];refine CJ 2 .s .s ?_ ?_;refine kL (n:=1) ?_;refine Yf rfl hv rfl Q.B.sorted rfl Q.B.set ?_;rw[14]
def Wv:=Hs.dd Q Q.a38 7 1 2 ["lines","kept"] Bd λhr hS nd hu hv=>by
 have:=f7 Q;have:=Yp Q;have:=Yx Q;rw[14]
def g7:=Hs.dd Q Q.a39 7 0 3 ["book","question","row","head","lines","known"] EJ λhr hS nd hu hv=>by
 have:=Dw Q;have:=Hc Q;have:=b8 Q;rw[14];refine rD qG rfl ?_ ?_ ?_;rw[14]
def Wr:=Hs.dd Q Q.a40 8 0 2 ["book","lines","kept","known","k","line"] Ar λhr hS nd hu hv=>by
 have:=DZ Q;have:=yI Q;have:=xV Q;have:=f6 Q;have:=Wv Q;rw[14];refine rD qG rfl ?_ ?_ ?_;refine Gz rfl Q.B.enumerate ?_;rw[14];refine JJ 2 .a .s ?_ ?_;refine TR ?_ yD ?_;rw[14];exact(xZ mJ);rw[14]
def Zu:=Hs.dd Q Q.a41 9 0 3 ["book","alternative","row","known","lines","numbers"] Cu λhr hS nd hu hv=>by
 have:=DZ Q;have:=yI Q;have:=Dw Q;have:=Hc Q;have:=Wr Q;rw[14];refine D8 3 .s ?_;refine kL (n:=1) ?_;refine Va rfl rfl Q.B.dict rfl Q.B.zip ?_;rw[14]
def Zo:=Hs.dd Q Q.a42 10 0 3 ["book","question","row","number","alternative","numbers"] Cy λhr hS nd hu hv=>by
 have:=Zu Q;rw[14];refine rD qG rfl ?_ ?_ ?_;refine Gz rfl Q.B.enumerate ?_;rw[14]
def Mf:=Hs.dd Q Q.a43 11 0 3 ["book","question","row"] RF λhr hS nd hu hv=>by
 have:=g7 Q;have:=Zo Q;rw[14]
def Zr:=Hs.dd Q Q.a44 12 0 3 ["_law_book_here","_law_question_here","_law_row_here","_law_kept","_law_wanted_here","_law_found"] Ct λhr hS nd hu hv=>by
 have:=b9 Q;have:=Mf Q;rw[14];refine kL (n:=1) ?_;refine nF (Cg rfl) Yu rfl Q.B.dict FK ?_;rw[14];refine kL (n:=1) ?_;refine RH rfl (ED (N:=["_law_table","_law_rows"]) (cap:=[ab,ab]) (out:=(gG (gp 53)).names) (XN:=(["_law_book_here","_law_question_here","_law_row_here","_law_kept","_law_wanted_here","_law_found"]:List aE)) rfl rfl (by rw[0]) rfl) Np ?_ (λcl C s₀ H₀ ex=>⟨Vk (i:=0) (j:=1) rfl (show(["_law_table","_law_rows"]:List aE).Nodup by rw[0]) rfl rfl (jY rfl) (jY rfl),IP,(SM (hJ (oE 0) (hJ (kL (n:=1) (nF (zG rfl) yU rfl Q.B.list AB (hJ (oE 1) pT))) pT)))⟩)
 refine j9 ?_;rw[14];refine oD (Pr hu) Us ?_ ?_ (mK _);rw[14];refine BY SN Gi ?_ SV (mK _);rw[14];refine xU (T:="tuple") rfl Q.B.isinstance rfl Q.B.tuple Ij nofun ?_
 rw[14];refine xU (T:="tuple") rfl Q.B.isinstance rfl Q.B.tuple Ij nofun ?_
 rw[14];refine HR ?_ ?_;refine BY (BP hu) NB ?_ ?_ (mK _);rw[14];refine HR ?_ ?_;refine xU (T:="int") rfl Q.B.isinstance rfl Q.B.int PyProof.Rows.boot_int nofun ?_
 rw[14];refine UL ?_;refine Nk ?_;refine xU (T:="bool") rfl Q.B.isinstance rfl Q.B.bool PyProof.Rows.boot_bool nofun ?_
 rw[14]
end
set_option maxHeartbeats 4000000 in
theorem all_mk {P:bN}{w:bA}{h:aQ}{mg:aE->Option aD}{fa:aC}(Z6:mg "law" = aa (.ref fa))(Q:∀ base,Al P w K mg base h) :
  ∃ fd:mU,(∀ (s:aH) (v:aD),BindsTo s fd ⟨[v],[]⟩ [("_law_script",v)])/\∀ base:aQ,K.In base->base.Ns jC mg->FnOk P w K mg base sq 14 fa fd ["_law_script"] (ET K):=by
 obtain⟨f,fd,F,a⟩:=(Q h).a45;cases Z6.symm.trans (Hr (Q h).X (Q h).G a);refine⟨fd,λs v=>?_,λbase _ _=>?_⟩
 .obtain⟨_,_,_,_,_,_,_,_,_,rfl,_⟩:=F.ex;exact .of_eq rfl
 have Q:=Q base;refine(RV F (N:=["_law_script","_law_question_here","_law_book_here","_law_row_here","_law_table"]) (ps:=["_law_script"]) (by constructor<;>first|rfl|decide +kernel) rfl nofun λcv A outer s H E P0 hr=>?_).imp Pd
 have hS:Sx (gG (gp 54)).names ["_law_script","_law_question_here","_law_book_here","_law_row_here","_law_table"]:=⟨⟩;have nd:(["_law_script","_law_question_here","_law_book_here","_law_row_here","_law_table"]:List aE).Nodup:=by rw[0]
 have hu:=RK hr;have hv:=SC hr;have:=rP Q;have:=i5 Q;have:=Yv Q;have:=Xq Q;have:=Zr Q;rw[14];refine Sy 2 .s .a hv ?_ ?_;rw[14]
theorem walk {l:PySem.W.OpenLaw}{q:bN}{ia:List aE}{XP:(aE->Option aD)->aQ->Prop}{YP:bA->aQ->Prop}{d:DefRec}{K:Params->aK}(hn:l.most=aa 63)(EQ:d.params.defaults=[])
  (hY:∀ (w:bA) (h:aQ),YP w h->(K w.params).In h)
  (F:∀ (w:bA) (mg:aE->Option aD) (fa:aC) (h:aQ),(K w.params).In h->h.Ns jC mg->mg d.name=aa (.ref fa) ->
   ∃ fd:mU,(∀ (s:aH) (u:aD),BindsTo s fd ⟨[u],[]⟩ [("_law_script",u)])/\∀ base:aQ,(K w.params).In base->base.Ns jC mg->FnOk l.prog w (K w.params) mg base sq 14 fa fd ["_law_script"] (ET (K w.params))) :
  PySem.W.WalkO q ia XP YP l.row.toRowW d [] (λf vs=>PySem.call f vs):=
 L2.A8y (n:=63) (k:=14) (x:="_law_script") (CX:=λ_=>sq) (sp:=λw=>ET (K w.params)) hn nofun EQ ⟨rfl,nofun,nofun⟩ hY F (λ_ _ a ns hb hl _ hS=>⟨a,ns,rfl,hS,hl,hb,λ_=>rfl⟩) λ_ _ _ _ _ z=>z
end Aw
namespace PySem.W.Fast
def tw10476139344578332610:=0
def tw3930204336526724226:=0
def tw12130201445852524647:=0
def tw9076343686099856733:=0
def tw5183246178147015188:=0
def tw5380237290647505661:=0
def tw7997498887045430048:=0
def tw9140551923340637829:=0
def tw12592216992249009275:=0
def tw9895361927917355173:=0
def tw7569183632783974010:=0
def tw10219964956872541932:=0
def tw15364601378379889788:=0
def tw13075252546884257780:=0
def tw11033743915314937470:=0
def tw8203270596553867125:=0
def tw449568892730004669:=0
def tw13208198195128792962:=0
def tw7946010188007955974:=0
def tw14177512612732796849:=0
def tw16100053412622536945:=0
def tw5927014104788763249:=0
def tw10177288195519263737:=0
def tw2245290973920479031:=0
def tw7048321179848773223:=0
def tw17227804914683477468:=0
def tw10981599906719510699:=0
def tw6517604152008409214:=0
def tw17692460585433406740:=0
def tw17737754183217484527:=0
def tw1891233001642065974:=0
def tw15943520192571068360:=0
def tw703582971798205376:=0
def tw9622458578413779504:=0
def tw16316445086540832900:=0
def tw11915965819316802654:=0
def tw690020531386138834:=0
def tw8228564254990262251:=0
def tw3383488824073652401:=0
def tw5606278636142656822:=0
def tw15142969130312868164:=0
def tw13726872362149939148:=0
def tw16024264977199257737:=0
def tw14151004075306084492:=0
def tw5325428867029019407:=0
def tw1376135387223676403:=0
def tw14600206692092868708:=0
def tw15873631982093989867:=0
def tw13040747795383426461:=0
def tw1623796172081135049:=0
def tw8974172116440715864:=0
def tw12461144414348656471:=0
def tw17159342298784161320:=0
def tw11287561893739980211:=0
def tw1756922798656628:=0
def tw6328066849380352652:=0
def tw4488542527025922359:=0
def tw15536631591417584206:=0
def tw2467833235299749835:=0
def tw9276282812584134145:=0
def tw6194524383618358561:=0
def tw9636872999397776988:=0
def tw8536799610061790503:=0
def tw15371726709108676112:=0
def tw10970595286898369311:=0
def tw6365911910238603712:=0
def tw8802533534023499406:=0
def tw4880696701300207686:=0
def tw13672693706072431542:=0
def tw12162964683340980049:=0
def tw4915109688964900397:=0
def tw3787375830800298038:=0
def tw4282816027159206114:=0
def tw8013676154263241833:=0
def tw13426091721734040922:=0
def tw1593072169552125163:=0
def tw9335631244428231547:=0
def tw10735256054085875672:=0
def tw11359367948676480206:=0
def tw7025967509727060617:=0
def tw56693950933994030:=0
def tw17689184093517978256:=0
def tw5623243283114849651:=0
def tw15839350063128217:=0
def tw5666745479636439485:=0
def tw14491827720090105482:=0
def tw13120214806682236798:=0
def tw5921499222756970879:=0
def tw16641018315007703211:=0
def tw3914696992504927425:=0
def tw17662368915594775147:=0
def tw17242361592431268633:=0
def tw2284568626737649920:=0
def tw11178475009913662313:=0
def tw10128173892989339742:=0
def tw15500723600297889983:=0
def tw1677929469862405233:=0
def tw11700649821104691915:=0
def tw1270631597527733162:=0
def tw8554884351650987586:=0
def tw12983608530626795963:=0
def tw12470323138722453230:=0
def tw5978753184012971991:=0
def tw10553879006152976432:=0
def tw6172169051961749963:=0
def tw17650991459115392607:=0
def tw15702196679577376179:=0
def tw6346133294788633210:=0
def tw97800163052173850:=0
def tw10756393063491131739:=0
def tw2447356306288871326:=0
def tw1198962700701010902:=0
def tw4179329541727010036:=0
def tw10533910520440546255:=0
def tw15094108482375939852:=0
def tw232243716756360636:=0
def tw11309053486909448886:=0
def tw9160908701711890620:=0
def tw1027556720464071461:=0
def tw12117724890127517891:=0
def tw12185193145103547611:=0
def tw12099173829741123490:=0
def tw17458619291387459208:=0
def tw9115491941456352267:=0
def tw10366390062219612421:=0
def tw12377517789780007468:=0
def tw10321180412158637653:=0
def tw2213886078222676000:=0
def tw9977987321053905516:=0
def tw1247638532595828914:=0
def tw17162692730766056181:=0
def tw17465708908858136396:=0
def tw2575826544024439509:=0
def tw4873661347615279652:=0
def tw4410530381255859366:=0
def tw3426749323620298176:=0
def tw16623838906657379910:=0
def tw14836472610619637021:=0
def tw5564385499928487116:=0
def tw10942026782639663638:=0
def tw1792217599440709639:=0
def tw736108891808221444:=0
def tw14339578663487642649:=0
def tw16271532302376011662:=0
def tw18323471032523771925:=0
def tw13741275391931362295:=0
def tw8963976566125918458:=0
def tw10190031020661543009:=0
def tw7952801442081453675:=0
def tw9066888357562496043:=0
def tw11768490923137061406:=0
def tw5020072014179811293:=0
def tw11003059176466763694:=0
def tw4256783887369932189:=0
def tw18266626832212729695:=0
def tw12873142632379981429:=0
def tw12077501570140160491:=0
def tw1524879852933809920:=0
def tw15494075462613766264:=0
def tw12017729690928898482:=0
def tw392373028704665651:=0
def tw18124447524655207169:=0
def tw12861772069286711468:=0
def tw9614152325398804004:=0
def tw10792759574817705642:=0
def tw10580235766800667695:=0
def tw1459790871871377242:=0
def tw13684499381362306571:=0
def tw5983231186420814869:=0
def tw15515621204324063792:=0
def tw2924885277854716407:=0
def tw13685301209092498746:=0
def tw4194216907645682930:=0
def tw5258113414431910946:=0
def tw2437348025042464274:=0
def tw7764476129476805376:=0
def tw9073889158310316162:=0
def tw1334061974827315633:=0
def tw15050075186490960790:=0
def tw11503858620750893650:=0
def tw14450293437524939575:=0
def tw11964417997291690877:=0
def tw13752893116038001930:=0
def tw11569819166711875021:=0
def tw8186999446335677010:=0
def tw5845537249024266889:=0
def tw3956926380183408879:=0
def tw11164884455455856593:=0
def tw6915985570823260927:=0
def tw10003577677607608814:=0
def tw12905363615227776066:=0
def tw4096216396733594860:=0
def tw14384676907265003903:=0
def tw8681393126280326528:=0
def tw3162646180886810040:=0
def tw14451994815271522132:=0
def tw14126412221177583042:=0
def tw17817829139471274030:=0
def tw10774514136809880714:=0
def tw7847460151173712692:=0
end PySem.W.Fast
open PySem PySem.W PyProof.Rows
set_option maxRecDepth 100000 in
set_option maxHeartbeats 0 in
theorem PySem.Challenge.cw_askwithin_k35_why_an_answer_holds : PySem.Challenge.rw_askwithin_k35_why_an_answer.Holds := by
 w_on;o_law;k_head;(case hw=>w_witness2)
 k_fill
 refine Aw.walk (l:=PySem.Challenge.rw_askwithin_k35_why_an_answer) rfl rfl (λw h al=>PySem.W.kIn_of al) ?F
 case F=>
  intro w mg fa h KX G Fa;refine Aw.all_mk (h:=h) Fa λ_=>?_;refine' ⟨KX,G,?_,?_,?_,?_,?_,?_,?_,?_,?_,?_,?_,?_,?_,?_,?_,?_,?_,?_,?_,?_,?_,?_,?_,?_,?_,?_,?_,?_,?_,?_,?_,?_,?_,?_,?_,?_,?_,?_,?_,?_,?_,?_,?_,?_,?_,?_,⟨?_,?_,?_,?_,?_,?_,?_,?_,?_,?_,?_,?_,?_,?_,?_,?_,?_⟩⟩;any_goals refine' Aw.Bkd ?_ ?_ ?_ ?_
  any_goals refine' Aw.Bkf ?_
  any_goals k_is
