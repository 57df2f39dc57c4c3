import PyProof.Rows.All
import Wide.All
import OpenK.AllK
import Wide.FinOn
import Lean
import PyProof.EqAt
import PyProof.EqKinds
import PyProof.TupleCall
import PyProof.TupleOfStr
import PyProof.ListStr
import PyProof.ZipIter
import PyProof.TupleIter
import PyProof.EnumMake
import PyProof.ListRange
import PyProof.AttrMissHeap
import PyProof.DictItemsLoops
import KE.KSortTup
import PyProof.Rows.SortShellK
import PyProof.MeetsSeq2
import PyProof.FactsAll.list_4
import PyProof.AutoSeq1
import PyProof.ConsumeWalk
import PyProof.WalksMore
import PyProof.SeqI3
import PyProof.Rows.SumAny
import PyProof.SetKind
import PyProof.Rows.SetFrom
import PyProof.AutoListH
import PyProof.ListNew
import PyProof.FactsAll.list_2
import PyProof.CollectWalk
import PyProof.IsRules
import PyProof.MeetsDictList
import PySem.Builtin.SmallTypes.W2All
import PyProof.ListMulRoad
import PyProof.Rows.SeqMore
import PyProof.FactsAll.tuple_2
import PyProof.StrOps2
import PySem.Challenge.RW_askwithin_k30_many_more_than_listed
open PySem renaming PyData->aA,Str->aC,Addr->aD,Value->aE,wpAny_bind->aF,Shared->aJ,wpAny->aM,wpAny_pure->aP,Expr->aT,model->aU,Heap->aZ,Obj->bH,World->bI,Program->bT,eval->bY,Pos->bZ,Stmt->cB,starEach->cC,Around->cM,mainGlobals->dM,rawInt->eU,wpAny_field->fS,pyNext->fW,backTo->fX,FuncData->gV,sysModules->iB,compareOp->iC,Paired->iD,wpAny_call_entry->iN,assignEach->iO,Scope->iQ,wpAny_newObj_type->jM,wpAny_holding->jV,assign->jW,binaryOp->kH,wpAny_setField_rec->kY,wpAny_mono->kZ,pyIter->lR,field->lT,bootBuiltins->lU,boot_len->lW,Spec->lY,NameKind->mC,wpAny_seqItems->mX,wpAny_callSpecial?_slot->mY,swapsWith->mZ,Keyword->nF,IsPair->nG,DictEntry->nJ,merged->oA,codeAny->oB,atKey->oC,IsZip->oG,storedH->pG,holding->pH,getItem->pI,attributeBase->pK,ReadsAll->pM,Reads->pN,IsPart->pS,wpAny_typeOf->rB,wpAny_rule->rC,wpAny_attempt->rD,IsItemIter->rK,stored->sY,newExc->sZ,foldedSetIterable->tD,firstArgMember->tH,wpAny_passesOwn->wD,valueAt->wF,typeLookup_type->wG,sizeLine_eq->wH,relabel->wI,plainId_quiet->wJ,isSubtype_type->wK,callerA->wL,builtinLookup_eq_fast->wM,wpAny_specialOf->AD,wpAny_isInstance->AE,wpAny_dictEpoch->AG,wpAny_dictEntries->AH,typeLookup->AI,keywordEach->AJ,codeAny_builtin->AK,bindArgs->AM,behindInMarks->AN,backToKw->AO,PassesOwn->AU,GenState->BG,wpAny_truthy_bool->EV,wpAny_setField->EW,wpAny_pyIter_list->EX,wpAny_of_eq->EY,wpAny_letGo->EZ,mem_of_lookup->FA,wpAny_typeNameOf_keyiter->MC,wpAny_typeNameOf_itemiter->MD,wpAny_typeNameOfWhole_keyiter->ME,wpAny_typeNameOfWhole_itemiter->MF,wpAny_throw->MG,wpAny_pyIter_slot->MH,wpAny_onRaise->MI,wpAny_notOrdered_dict->MJ,wpAny_newTuple->MK,wpAny_newList->ML,wpAny_handled->MM,wpAny_fieldsOf->MN,wpAny_execs_nil->MO,subscripted->MP,letOwnedTupleGo->MR,isSubtype_stop->MS,callType_codes->MT,wpAny_updateSeq_pair->Ap,wpAny_pyIter_keyiter->Aq,wpAny_isOneOf_itemiter->Ar,wpAny_Call_method->As,wpAny_Call_Name_kw->Au,noFill_tuple_add->Av,entryFor_of_tree->Ax
open PySem.W renaming Frag->aK,nsIn->fF,mg_none_of->gU,fnOf->lA,kia_one->lX,keepIn->tM,codeIn->AQ,mg_of->Ay,methodObj->Az,lookIn->Ba,kitx_list->Bb,kitx_dict->Bc,kitOne->Bd,instObj->Be,OpenLaw->Bf
open PySem.PyData renaming int->aQ,str->cI,eqv->cK,canLay0->cR,depthAll->cZ,tuple->eI,bool->mB,depth->nA,list->wO,eqvAll->AR,canLayAll0->AS,dict->MW
open Or renaming inl->aR,inr->aX
open Nat renaming le_refl->bE,ne_of_lt->dQ,le_trans->eO,zero_le->eR,lt_of_lt_of_le->iR,lt_irrefl->kI,ne_of_gt->nC,le_of_lt->pO,lt_of_le_of_lt->rE,zero_add->wR,le_succ->wU,one_mul->AV,lt_trans->AW,add_assoc->AX,mul_one->FD,succ_mul->NA,pow_le_pow_right->NB,mul_le_mul->NC,mul_comm->ND,mul_assoc->NF
open List renaming mem_singleton->bL,mem_cons_self->bM,range->bR,mem_cons_of_mem->cF,mem_cons->cU,length_map->cV,mem_map->cY,map_cons->dF,getElem?_map->dI,getElem?_eq_some_iff->dR,size_toArray->dX,all_eq_true->fA,map_map->fD,mem_of_getElem?->fK,length_cons->fL,toArray->gL,map_append->iS,find?_cons->iT,getElem?_eq_getElem->jY,lookup_cons->kJ,nodup_cons->lB,mem_range->lC,mem_append_right->mD,getD_eq_getElem?_getD->mE,filter_eq_self->mF,append_nil->mG,getElem?_set_ne->nE,mem_append->oE,map_congr_left->oF,nodup_nil->pP,length_append->pQ,foldl_cons->pR,nodup_range->rF,nodup_append->rG,mem_flatten->rH,getElem?_set_self->rJ,getElem_mem->tO,flatten_cons->tP,zipWith->wV,length_take->wW,getElem_of_mem->wX,getElem?_range->wY,eraseIdx_cons_succ->wZ,any_cons->xA,replicate->AY,mem_filter->AZ,length_zip->BA,getElem?_eq_none->BB,cons_lt_cons_iff->BC,cons_append->BD,not_mem_nil->FE,mem_reverse->FF,mem_filterMap->FG,map->FH,lookup->FI,findSome?_cons->FJ,filterMap_cons->FK,eq_nil_of_length_eq_zero->FL,take_add_one->NI,mem_flatMap->NJ,mem_append_left->NK,map_reverse->NL,length_filter_le->NM,length_filterMap_le->NN,length->NO,getElem_zip->NP,getElem_map->NQ,getElem?_append_left->NR,find?_eq_none->NS,ext_getElem?->NT,erase_cons_tail->NU,erase_cons_head->NV,any_eq_true->NW,zip_cons_cons->Bo,take_length->Bp,reverse_perm->Bq,range_succ->Br,of_mem_zip->Bs,mem_of_mem_take->Bt,mem_of_find?_eq_some->Bu,mem_iff_getElem?->Bv,length_range->Bw,length_nil->Bx,length_erase_of_mem->By,length_drop->Bz,forIn_cons->Ca,foldl_append->Cc,flatMap_cons->Cd,ext_getElem->Ce,drop_length->Cf,drop_eq_getElem_cons->Cg,append_assoc->Ci,pairwise_iff_getElem->c9,length_eq_zero_iff->d4,getElem?_append_right->d5,exists_of_findSome?_eq_some->d6
open PySem.Heap renaming get?_push_of_some->bW,lt_size->cA,get?_push_size->dA,SameBut->nH,size_push->xC,get?_update_self->BE,get?_update_other->FM,ExtBut->FN,get?_push_ne->Cj
open Option renaming bind_some->cG,map_eq_some_iff->nB,map_some->wQ,map_eq_none_iff->MX,isSome_map->MY,isSome_iff_exists->Bn
open PySem.Value renaming none->dP,ref->eP,type->oD,str->tJ,int->tL
open Option.some renaming inj->eY,injEq->FC
open Ne renaming symm->eZ
open PySem.PassesOwn renaming never->fT
open PySem.NameKind renaming free->fU
open PyProof.Rows renaming seqObj->gJ,envOfC->pJ,AllBare->rM,boot_tuple->wN,boot_dict->FB,slot_tuple_getitem->MQ,callWith_type1->MU,slot_tuple_getitem->Bm,mulOk_of_bits->c8
open PySem.Obj renaming mapSeq->gK,data_mapFields->MZ
open Sum renaming inr->iP,inl->jX
open Bool renaming and_eq_true_iff->iU,false_ne_true->jZ,eq_iff_iff->nK,false_eq_true->rL,true_and->xE,and_eq_true->xF,true_or->FQ,and_self->OJ,or_eq_true_iff->Cr
open PySem.Str renaming ofString->lV
open PySem.Builtin.Int renaming intBits->mH
open Int renaming ofNat->oH,eq_ofNat_of_zero_le->tQ,toNat_natCast->xB
open True renaming intro->pL
open False renaming elim->pT
open PySem.Builtin.SmallTypes renaming nextOf->pU,ownedTupleIsFree->OD,ownedTupleHandOut->f7
open PySem.Paired renaming length->tN
open PySem.Heap.SameBut renaming update->xD
open ForInStep renaming yield->BH
open PySem.F renaming slot_dict_itemiterator_next->BI,slot_dict_keyiterator_next->FO,slot_zip_next->NX,slot_tuple_iterator_next->NY,slot_tuple_hash->NZ,slot_dict_items->OA,slot_tuple_add->Bg,slot_dict_get->Bh,plainAttrs_list->Bi,entry_tuple_add->Bj,args_tuple_add_2->Bl,slot_list_getattribute->Ck,slot_list_index->b8,slot_dict_setdefault->b9,plainAttrs_dict->c6,args_dict_get_3->c7,slot_dict_itemiterator_iter->d7,entry_dict_keyiterator_next->d8,entry_dict_itemiterator_next->d9,args_dict_keyiterator_next_1->e8,args_dict_itemiterator_next_1->f6
open PySem.Builtin.Tuple renaming tupleHashOf->BJ,tupleExact->OB,tupleItemsOf->Cp
open Array renaming length_toList->BK,toList_inj->Cs
open PySem.Around renaming under_plainId->BL
open PySem.Builtin.Dict_items renaming ownsTuple->FP,pairFromOwner->f9,ownedTupleIsFree->g6,ownedTupleFields->g7
open Array.Perm renaming refl->FR
open PySem.PyData.tuple renaming inj->MV
open PySem.MeetsSeq renaming plain_index_loop->NG,EqGives->NH
open PySem.Builtin.Str renaming occurrences->OC
open PySem.Builtin.Slice renaming slicePlaces->OE,sliceAdjust->Cq
open PySem.Builtin.List renaming listExtendWith->OG
open PySem.Builtin.Dict renaming updateFrom->OH,showsAll->OI
open Classical renaming choose_spec->Cn
open PySem.Calls renaming spliced_cons->Co
theorem XBs {α β:Type}{x:Option α}{f:α->Option β}{b:β}(h:x.bind f=some b) : ∃ a,x=some a/\f a=some b:=Option.bind_eq_some_iff.mp h
set_option Elab.async false
set_option bootstrap.genMatcherCode false
set_option genSizeOfSpec false
set_option linter.all false
set_option maxRecDepth 100000
set_option exponentiation.threshold 2000
noncomputable section
namespace L2
open PySem PySem.Spec PyProof.Rows
variable {h h' base:aZ}{ks:List aA}{a b C dx:aD}{xs:List (List aA×aD×aE)}{us:List aE}{x:aC}{u:aE}{o:bH}{t' i k ep:Nat}{ch fp:List aD}{e c tg:aT}{M:Model}{A:cM}{E Q:aE->aJ->Prop}{s' s:aJ}{pos p:bZ}{pins:List (aD×bH)}{K:aK}{f:aE->aE->Sem aE}{es:List aT}{body:List cB}{op:CmpOp}{mg:aC->Option aE}{ps:List aC}{prog:bT}
instance decEqData:DecidableEq aA:=fun a b=>Classical.propDecidable (a=b)
mutual
def bQ:aA->Bool
 | .int _=>true
 | .str x=>cR (.str x)
 | .tuple ds=>bU ds
 | _=>false
def bU:List aA->Bool
 | []=>true
 | d::r=>bQ d&&bU r
end
mutual
theorem JC : ∀ d:aA,bQ d=true->d.canLay0=true
 | .int _,_=>by simp[cR]
 | .str x,h=>by simpa [bQ] using h
 | .tuple ds,h=>by
  simp only[cR]
  exact UR ds (by simpa [bQ] using h)
 | .none,h=>by simp[bQ] at h
 | .bool _,h=>by simp[bQ] at h
 | .list _,h=>by simp[bQ] at h
 | .dict _,h=>by simp[bQ] at h
theorem UR : ∀ ds:List aA,bU ds=true->AS ds=true
 | [],_=>by simp[AS]
 | d::r,h=>by
  have h':bQ d=true/\bU r=true:=by simpa [bU] using h
  simp only[AS,JC d h'.1,UR r h'.2,OJ]
end
mutual
theorem JH : ∀ x y:aA,bQ x=true->bQ y=true->cK x y=decide (x=y)
 | .int i,.int j,_,_=>by
  by_cases e:i=j
  ·subst e; simp[cK]
  ·have : ¬ aQ i = .int j:=fun q=>e (PyData.int.inj q)
   simp[cK,e]
 | .str i,.str j,_,_=>by
  by_cases e:i=j
  ·subst e; simp[cK]
  ·simp[cK,e]
 | .tuple xs,.tuple ys,h1,h2=>by
  have e:=yX xs ys (by simpa [bQ] using h1) (by simpa [bQ] using h2)
  simp only[cK,e]
  by_cases q:xs=ys
  ·subst q; simp
  ·have : ¬ eI xs = .tuple ys:=fun z=>q (MV z)
   rw[decide_eq_false q,decide_eq_false this]
 | .int _,.str _,_,_=>by simp[cK]
 | .int _,.tuple _,_,_=>by simp[cK]
 | .str _,.int _,_,_=>by simp[cK]
 | .str _,.tuple _,_,_=>by simp[cK]
 | .tuple _,.int _,_,_=>by simp[cK]
 | .tuple _,.str _,_,_=>by simp[cK]
 | .none,_,h,_=>by simp[bQ] at h
 | .bool _,_,h,_=>by simp[bQ] at h
 | .list _,_,h,_=>by simp[bQ] at h
 | .dict _,_,h,_=>by simp[bQ] at h
 | .int _,.none,_,h=>by simp[bQ] at h
 | .int _,.bool _,_,h=>by simp[bQ] at h
 | .int _,.list _,_,h=>by simp[bQ] at h
 | .int _,.dict _,_,h=>by simp[bQ] at h
 | .str _,.none,_,h=>by simp[bQ] at h
 | .str _,.bool _,_,h=>by simp[bQ] at h
 | .str _,.list _,_,h=>by simp[bQ] at h
 | .str _,.dict _,_,h=>by simp[bQ] at h
 | .tuple _,.none,_,h=>by simp[bQ] at h
 | .tuple _,.bool _,_,h=>by simp[bQ] at h
 | .tuple _,.list _,_,h=>by simp[bQ] at h
 | .tuple _,.dict _,_,h=>by simp[bQ] at h
theorem yX : ∀ xs ys:List aA,bU xs=true->bU ys=true->AR xs ys=decide (xs=ys)
 | [],[],_,_=>by simp[AR]
 | [],_::_,_,_=>by simp[AR]
 | _::_,[],_,_=>by simp[AR]
 | x::xs,y::ys,h1,h2=>by
  have h1':bQ x=true/\bU xs=true:=by simpa [bU] using h1
  have h2':bQ y=true/\bU ys=true:=by simpa [bU] using h2
  simp only[AR,JH x y h1'.1 h2'.1,yX xs ys h1'.2 h2'.2]
  by_cases e:x=y
  ·subst e
   by_cases q:xs=ys
   ·subst q; simp
   ·simp[q]
  ·simp[e]
end
mutual
def sA (w:bI):aA->Int
 | .int i=>hashInt i
 | .str x=>hashStr w x
 | .tuple ds=>reduceHash (BJ (kR w ds))
 | _=>0
def kR (w:bI):List aA->List Int
 | []=>[]
 | d::r=>sA w d::kR w r
end
mutual
def rZ:aA->Nat
 | .tuple ds=>mO ds+1
 | _=>1
def mO:List aA->Nat
 | []=>0
 | d::r=>rZ d+mO r
end
theorem XM (a b:List aA):mO (a++b)=mO a+mO b:=by
 induction a with
 | nil=>simp[mO]
 | cons x r ih=>simp only[BD,mO,ih]; omega
theorem XH (w:bI)(a b:List aA):kR w (a++b)=kR w a++kR w b:=by
 induction a with
 | nil=>rfl
 | cons x r ih=>simp only[BD,kR,ih]
section
variable {w:bI}
theorem vK{v:aE}{as:List aD}(r:pN h v (.tuple ks) as) : ∃ a o vs n,v = .ref a/\h.get? a=some o/\o.cls = .type "tuple" /\ o.data = .seq vs n/\pM h vs.toList ks as:=by
 cases r with
 | tuple h1 h2 h3 h4=>exact⟨_,_,_,_,rfl,h1,h2,h3,h4⟩
mutual
theorem WO : ∀ (d:aA) {A:cM} {E:aE->aJ->Prop} {s:aJ} {v:aE} {as:List aD} {Q:Int->aJ->Prop},A.units+d.depth<cLine->bQ d=true->pN s.heap v d as ->
  Q (sA w d) { s with toks:=s.toks+rZ d }->aM (aU prog w) A (pyHash v) Q E s
 | .int i,A,E,s,v,as,Q,hu,hk,r,h=>by
  cases r with
  | int _ t=>exact wpAny_pyHash_int (by simpa [sA,rZ] using h)
 | .str x,A,E,s,v,as,Q,hu,hk,r,h=>by
  cases r with
  | str _ t=>exact wpAny_pyHash_str (by simpa [sA,rZ] using h)
 | .tuple ks,A,E,s,v,as,Q,hu,hk,r,h=>by
  obtain⟨a,o,items,n,rfl,ho,hc,hd,hi⟩:=vK r
  have hT:s.TypeIs (.ref a) "tuple":=⟨o,ho,hc⟩
  have hdep:A.units+(cZ ks+1)<cLine:=by simpa [nA] using hu
  unfold pyHash
  first | unfold pyHashByItsType | skip
  first | refine aF (wpAny_cRoomFor_or (.inr (by omega)) ?_) | skip
  refine aF (AD hT NZ.lookup ?_)
  show aM _ _ (if (some (Value.builtin "tuple.__hash__") == some dP)=true then _ else _) Q E s
  rw[if_neg (by rw[beq_builtin_none]; exact jZ)]
  refine aF (AD hT NZ.lookup ?_)
  show aM _ _ (callSpecialIfBoundUnlessNone? (.ref a) "__hash__" _ >>= _) Q E s
  refine aF (wpAny_callSpecialIfBoundUnlessNone?_slot hT NZ (iN NZ hT F.entry_tuple_hash ?_ (F.args_tuple_hash_1 _)))
  show aM _ _ (Cp (.ref a) >>= _) _ _ s
  refine aF (wpAny_tupleItemsOf ho hd ?_)
  refine aF ?_
  rw[← Array.forIn_toList]
  refine wpAny_forIn_list _
   (fun rest (b:Array Int) s'=>∃ done left bs,ks=done++left/\pM s.heap rest left bs/\b.toList=kR w done/\s' = { s with toks:=s.toks+mO done })
   _ ?_ ?_ _ _ ⟨[],ks,as,rfl,hi,rfl,rfl⟩
  ·rintro x rest b s' ⟨done,left,bs,e,hl,hb,rfl⟩
   cases hl with
   | @cons _ _ d ds as1 bs1 h1 hl'=>
    have hm:d∈ks:=by rw[e]; exact mD _ bM
    have hk':bU ks=true:=by simpa [bQ] using hk
    refine aF (WV ks hm (A:=A.in1) (by
     have:A.in1.units=A.units+1:=rfl
     omega) hk' (s:={ s with toks:=s.toks+mO done }) h1 ?_)
    first
     | exact aP ⟨done++[d],ds,bs1,by simp[e],hl',by simp[hb,XH,kR],by simp[XM,mO,AX]⟩
     | exact aF (aP (aP ⟨done++[d],ds,bs1,by simp[e],hl',by simp[hb,XH,kR],by simp[XM,mO,AX]⟩))
  ·rintro b s' ⟨done,left,bs,e,hl,hb,rfl⟩
   cases hl
   rw[mG] at e
   subst e
   show aM _ _ (retInt (BJ b.toList)) _ _ _
   rw[hb]
   refine wpAny_ret_mkInt ?_
   show aM _ _ (if (decide (-(2:Int) ^ 63≤BJ (kR w ks))&&decide (BJ (kR w ks)<2 ^ 63))=true then _ else _) Q E _
   simp only[sA,rZ] at h
   unfold reduceHash at h
   by_cases hr:(decide (-(2:Int) ^ 63≤BJ (kR w ks))&&decide (BJ (kR w ks)<2 ^ 63))=true
   ·rw[if_pos hr]
    rw[if_pos hr] at h
    exact aP (by simpa [AX] using h)
   ·rw[if_neg hr]
    rw[if_neg hr] at h
    exact aF (rC (aP (by simpa [AX] using h)))
 | .none,A,E,s,v,as,Q,hu,hk,r,h=>by simp[bQ] at hk
 | .bool _,A,E,s,v,as,Q,hu,hk,r,h=>by simp[bQ] at hk
 | .list _,A,E,s,v,as,Q,hu,hk,r,h=>by simp[bQ] at hk
 | .dict _,A,E,s,v,as,Q,hu,hk,r,h=>by simp[bQ] at hk
theorem WV : ∀ (ks:List aA) {d:aA},d∈ks -> ∀ {A:cM} {E:aE->aJ->Prop} {s:aJ} {v:aE} {as:List aD} {Q:Int->aJ->Prop},A.units+cZ ks<cLine->bU ks=true->pN s.heap v d as ->
  Q (sA w d) { s with toks:=s.toks+rZ d }->aM (aU prog w) A (pyHash v) Q E s
 | [],_,hm,_,_,_,_,_,_,_,_,_,_=>by simp at hm
 | k::ks,d,hm,A,E,s,v,as,Q,hu,hk,r,h=>by
  have hk':bQ k=true/\bU ks=true:=by simpa [bU] using hk
  have hdep:A.units+max k.depth (cZ ks)<cLine:=by simpa [cZ] using hu
  by_cases e:d=k
  ·exact WO k (by omega) hk'.1 (e ▸ r) (by rw[← e]; exact h)
  ·have hm':d∈ks:=by
    rcases cU.mp hm with q | q
    ·exact absurd q e
    ·exact q
   exact WV ks hm' (by omega) hk'.2 r h
end
end
section
variable {w:bI}
mutual
theorem VI : ∀ (d:aA) (n:Nat) {A:cM} {E:aE->aJ->Prop} {s:aJ} {v:aE} {as:List aD} {Q:Bool->aJ->Prop},d.depth≤n->bQ d=true->pN s.heap v d as ->
  Q true s->aM (aU prog w) A (eqIsQuiet n v) Q E s
 | .int i,n,A,E,s,v,as,Q,hu,hk,r,h=>by
  cases r with
  | int _ t=>
   rw[eqIsQuiet_byValue n (by rfl)]
   exact aP h
 | .str x,n,A,E,s,v,as,Q,hu,hk,r,h=>by
  cases r with
  | str _ t=>
   rw[eqIsQuiet_byValue n (by rfl)]
   exact aP h
 | .tuple ks,n,A,E,s,v,as,Q,hu,hk,r,h=>by
  obtain⟨a,o,items,m,rfl,ho,hc,hd,hi⟩:=vK r
  have hT:s.TypeIs (.ref a) "tuple":=⟨o,ho,hc⟩
  have hdep:cZ ks+1≤n:=by simpa [nA] using hu
  obtain⟨n,rfl⟩ : ∃ m,n=m+1:=⟨n - 1,by omega⟩
  have hk':bU ks=true:=by simpa [bQ] using hk
  unfold eqIsQuiet
  refine aF (AD hT F.slot_tuple_eq.lookup ?_)
  show aM _ _ (isInstance (.ref a) (.type "tuple") >>= _) _ _ s
  refine aF (AE hT isSubtype_tuple_tuple ?_)
  simp only[Bool.not_true,rL,if_false]
  refine aF (mX ho hd ?_)
  refine aF ?_
  show aM _ _ (forIn items _ _) _ _ s
  rw[← Array.forIn_toList]
  refine wpAny_forIn_list _ (fun rest r s'=>r.1=none/\s'=s /\ ∃ ds bs,pM s.heap rest ds bs /\ ∀ d∈ds,d∈ks) _ ?_ ?_ _ _ ⟨rfl,rfl,ks,as,hi,fun _ h=>h⟩
  ·rintro v rest r s' ⟨hr,rfl,ds,bs,hl,hall⟩
   cases hl with
   | @cons _ _ d ds as1 bs1 h1 hl'=>
    refine aF (WC ks (hall d bM) n (by omega) hk' h1 ?_)
    simp only[Bool.not_true,rL,if_false]
    exact aP ⟨rfl,rfl,ds,bs1,hl',fun u hu'=>hall u (cF _ hu')⟩
  ·rintro⟨r1,r2⟩ s' ⟨hr,rfl,_⟩
   simp only at hr
   subst hr
   exact aP h
 | .none,n,A,E,s,v,as,Q,hu,hk,r,h=>by simp[bQ] at hk
 | .bool _,n,A,E,s,v,as,Q,hu,hk,r,h=>by simp[bQ] at hk
 | .list _,n,A,E,s,v,as,Q,hu,hk,r,h=>by simp[bQ] at hk
 | .dict _,n,A,E,s,v,as,Q,hu,hk,r,h=>by simp[bQ] at hk
theorem WC : ∀ (ks:List aA) {d:aA},d∈ks -> ∀ (n:Nat) {A:cM} {E:aE->aJ->Prop} {s:aJ} {v:aE} {as:List aD} {Q:Bool->aJ->Prop},cZ ks≤n->bU ks=true->pN s.heap v d as ->
  Q true s->aM (aU prog w) A (eqIsQuiet n v) Q E s
 | [],_,hm,_,_,_,_,_,_,_,_,_,_,_=>by simp at hm
 | k::ks,d,hm,n,A,E,s,v,as,Q,hu,hk,r,h=>by
  have hk':bQ k=true/\bU ks=true:=by simpa [bU] using hk
  have hdep:max k.depth (cZ ks)≤n:=by simpa [cZ] using hu
  by_cases e:d=k
  ·exact VI k n (by omega) hk'.1 (e ▸ r) h
  ·have hm':d∈ks:=by
    rcases cU.mp hm with q | q
    ·exact absurd q e
    ·exact q
   exact WC ks hm' n (by omega) hk'.2 r h
end
mutual
theorem WG(kp : ∀ b o vs n,h.get? b=some o->o.cls = .type "tuple" -> o.data = .seq vs n->h'.get? b=some o) : ∀ (d:aA) {v:aE} {as:List aD},bQ d=true->pN h v d as->pN h' v d as
 | .int i,v,as,hk,r=>by
  cases r with
  | int _ t=>exact .int i t
 | .str x,v,as,hk,r=>by
  cases r with
  | str _ t=>exact .str x t
 | .tuple ks,v,as,hk,r=>by
  obtain⟨a,o,items,m,rfl,ho,hc,hd,hi⟩:=vK r
  exact .tuple (kp _ _ _ _ ho hc hd) hc hd (XF kp ks (by simpa [bQ] using hk) hi)
 | .none,v,as,hk,r=>by simp[bQ] at hk
 | .bool _,v,as,hk,r=>by simp[bQ] at hk
 | .list _,v,as,hk,r=>by simp[bQ] at hk
 | .dict _,v,as,hk,r=>by simp[bQ] at hk
theorem XF(kp : ∀ b o vs n,h.get? b=some o->o.cls = .type "tuple" -> o.data = .seq vs n->h'.get? b=some o) : ∀ (ds:List aA) {vs:List aE} {as:List aD},bU ds=true->pM h vs ds as->pM h' vs ds as
 | [],vs,as,hk,r=>by
  cases r with
  | nil=>exact .nil
 | d::ds,vs,as,hk,r=>by
  have hk':bQ d=true/\bU ds=true:=by simpa [bU] using hk
  cases r with
  | cons r1 r2=>exact .cons (WG kp d hk'.1 r1) (XF kp ds hk'.2 r2)
end
def Agp (h:aZ)(ks:List aA)(a:aD):Prop:=bU ks=true/\cZ ks≤6 /\ ∃ as,pN h (.ref a) (.tuple ks) as
theorem Agp.keep(kp : ∀ b o vs n,h.get? b=some o->o.cls = .type "tuple" -> o.data = .seq vs n->h'.get? b=some o)(k:Agp h ks a):Agp h' ks a:=
 ⟨k.1,k.2.1,k.2.2.choose,WG kp (.tuple ks) (by simpa [bQ] using k.1) k.2.2.choose_spec⟩
def hZ (prog:bT)(w:bI):HeapKind prog w (List aA) where
 is:=Agp
 hash:=fun ks=>sA w (.tuple ks)
 draws:=fun ks=>rZ (.tuple ks)
 room:=fun A=>A.units+20<cLine
 inj:=fun {h a x y} hx hy=>by
  obtain⟨k1,_,as,r1⟩:=hx
  obtain⟨k2,_,bs,r2⟩:=hy
  exact MV (reads_det (fun _ _ e _=>e) r2 r1).1
 keeps:=fun {h h' k a d o es ep} x ho hd hs=>x.keep fun b ob vs n hb _ hd'=>by
  have hne:b≠d:=by
   rintro rfl
   rw[ho] at hb
   cases hb
   rw[hd] at hd'
   cases hd'
  exact(hs.2 b hne).trans hb
 pyHash:=fun {A E s k a Q} hu hk h=>by
  obtain⟨k1,k2,as,r⟩:=hk
  exact WO (.tuple k) (by simp only[nA]; omega) (by simpa [bQ] using k1) r h
 eqBool:=fun {A E s x y a b Q} hu hx hy h=>by
  obtain⟨k1,d1,as,r1⟩:=hx
  obtain⟨k2,d2,bs,r2⟩:=hy
  have e:=JH (.tuple x) (.tuple y) (by simpa [bQ] using k1) (by simpa [bQ] using k2)
  have e2:decide ((eI x) = .tuple y)=decide (x=y):=by
   by_cases q:x=y
   ·subst q; simp
   ·rw[decide_eq_false q,decide_eq_false (fun z=>q (MV z))]
  have:=SeqAt.eqAt_reads (.tuple x) (.tuple y) A s (.ref a) (.ref b) as bs r1 r2 (JC _ (by simpa [bQ] using k1)) (JC _ (by simpa [bQ] using k2)) (by simp only[nA]; omega)
  rw[e,e2] at this
  exact this prog w E Q h
 quiet:=fun {A E s k a Q} hk h=>by
  obtain⟨k1,k2,as,r⟩:=hk
  exact VI (.tuple k) 8 (by simp only[nA]; omega) (by simpa [bQ] using k1) r h
end
abbrev aI:=Sum Int aC
def uE:aI->aE->Bool
 | .inl k,v=>Value.isInt k v
 | .inr x,v=>Value.isStrOf x v
def Dg (w:bI):aI->Int
 | .inl k=>hashInt k
 | .inr x=>hashStr w x
theorem mW : ∀ {k:aI} {v:aE},uE k v=true->(∃ i t,k=jX i/\v=tL i t) \/ (∃ x t,k=iP x/\v=tJ x t)
 | .inl i,v,h=>by
  obtain⟨t,e⟩:=Value.isInt_shape (k:=i) (v:=v) h
  exact .inl ⟨i,t,rfl,e⟩
 | .inr x,v,h=>by
  obtain⟨t,e⟩:=Value.isStrOf_shape (x:=x) (v:=v) h
  exact .inr ⟨x,t,rfl,e⟩
theorem On (i:Int)(t:Tok):uE (.inl i) (.int i t)=true:=by simp[uE,Value.isInt]
theorem a6 (x:aC)(t:Tok):uE (.inr x) (.str x t)=true:=by simp[uE,Value.isStrOf]
theorem Gg (a b:Int):decide ((jX a:aI)=jX b)=(a == b):=by
 by_cases e:a=b
 ·subst e; simp
 ·have h : ¬ (jX a:aI)=jX b:=fun q=>e (Sum.inl.inj q)
  rw[decide_eq_false h]
  exact(beq_eq_false_iff_ne.mpr e).symm
theorem Jk (a b:aC):decide ((iP a:aI)=iP b)=decide (a=b):=by
 by_cases e:a=b
 ·subst e; simp
 ·have h : ¬ (iP a:aI)=iP b:=fun q=>e (Sum.inr.inj q)
  rw[decide_eq_false h,decide_eq_false e]
theorem Gv (a:Int)(b:aC):decide ((jX a:aI)=iP b)=false:=decide_eq_false (fun q=>nomatch q)
theorem Gx (a:aC)(b:Int):decide ((iP a:aI)=jX b)=false:=decide_eq_false (fun q=>nomatch q)
def fC (prog:bT)(w:bI):PySem.KeyKind prog w aI where
 is:=uE
 hash:=Dg w
 inj:=fun v a b ha hb=>by
  rcases mW ha with⟨i,t,rfl,rfl⟩ | ⟨x,t,rfl,rfl⟩
  ·rcases mW hb with⟨j,u,rfl,e⟩ | ⟨y,u,rfl,e⟩
   ·injection e with e1 _; rw[e1]
   ·exact nomatch e
  ·rcases mW hb with⟨j,u,rfl,e⟩ | ⟨y,u,rfl,e⟩
   ·exact nomatch e
   ·injection e with e1 _; rw[e1]
 byValue:=fun k v h=>by
  rcases mW h with⟨i,t,rfl,rfl⟩ | ⟨x,t,rfl,rfl⟩ <;> rfl
 pyHash:=fun hv h=>by
  rcases mW hv with⟨i,t,rfl,rfl⟩ | ⟨x,t,rfl,rfl⟩
  ·exact wpAny_pyHash_int h
  ·exact wpAny_pyHash_str h
 eqBool:=fun hu hv h=>by
  rcases mW hu with⟨i,t,rfl,rfl⟩ | ⟨x,t,rfl,rfl⟩
  ·rcases mW hv with⟨j,u,rfl,rfl⟩ | ⟨y,u,rfl,rfl⟩
   ·rw[Gg] at h; exact wpAny_eqBool_int h
   ·rw[Gv] at h; exact SeqAt.EqAt.int_str i t y u _ _ _ _ h
  ·rcases mW hv with⟨j,u,rfl,rfl⟩ | ⟨y,u,rfl,rfl⟩
   ·rw[Gx] at h; exact SeqAt.EqAt.str_int x t j u _ _ _ _ h
   ·rw[Jk] at h; exact wpAny_eqBool_str h
 «strs»:=fun k x t v h=>by
  rcases mW h with⟨i,u,rfl,e⟩ | ⟨y,u,rfl,e⟩
  ·exact nomatch e
  ·injection e with e1 _
   subst e1
   cases v <;> rfl
theorem LB (prog:bT)(w:bI)(i:Int)(t:Tok):(fC prog w).is (.inl i) (.int i t)=true:=On i t
theorem LC (prog:bT)(w:bI)(x:aC)(t:Tok):(fC prog w).is (.inr x) (.str x t)=true:=a6 x t
inductive V where
 | non | bl (b:Bool) | int (i:Int) | str (x:aC) | byt (b:Array UInt8) | flt (b:UInt64) | ref (a:aD) | ty (n:String)
 deriving DecidableEq
def RelV:V->aE->Prop
 | .non,u=>u=dP
 | .bl b,u=>u=Value.bool b
 | .int i,u=>∃ t,u=tL i t
 | .str x,u=>∃ t,u=tJ x t
 | .byt b,u=>∃ t,u=Value.bytes b t
 | .flt b,u=>∃ t,u=Value.float b t
 | .ref a,u=>u=eP a
 | .ty n,u=>u=oD n
abbrev Vals:List V->List aE->Prop:=iD RelV
theorem Vals.length {xs:List V}(r:Vals xs us):xs.length=us.length:=tN r
theorem Vals.get : ∀ {xs:List V} {us:List aE} {i:Nat} {x:V},Vals xs us->xs[i]?=some x -> ∃ u,us[i]?=some u/\RelV x u
 | _,_,_,_,.nil,e=>by simp at e
 | _,_,0,_,.cons r _,e=>by simp at e; subst e; exact⟨_,rfl,r⟩
 | _,_,i+1,x,.cons _ t,e=>by
  obtain⟨u,h1,h2⟩:=Vals.get (i:=i) (x:=x) t (by simpa using e)
  exact⟨u,by simpa using h1,h2⟩
theorem Vals.set {x:V}(r:RelV x u) : ∀ {xs:List V} {us:List aE} (i:Nat),Vals xs us->Vals (xs.set i x) (us.set i u)
 | _,_,_,.nil=>.nil
 | _,_,0,.cons _ t=>.cons r t
 | _,_,i+1,.cons q t=>.cons q (Vals.set r i t)
theorem Vals.append : ∀ {xs ys:List V} {us ws:List aE},Vals xs us->Vals ys ws->Vals (xs++ys) (us++ws)
 | _,_,_,_,.nil,s=>s
 | _,_,_,_,.cons r t,s=>.cons r (Vals.append t s)
theorem Vals.take : ∀ {xs:List V} {us:List aE} (n:Nat),Vals xs us->Vals (xs.take n) (us.take n)
 | _,_,0,_=>.nil
 | _,_,_+1,.nil=>.nil
 | _,_,n+1,.cons r t=>.cons r (Vals.take n t)
theorem Vals.drop : ∀ {xs:List V} {us:List aE} (n:Nat),Vals xs us->Vals (xs.drop n) (us.drop n)
 | _,_,0,r=>r
 | _,_,_+1,.nil=>.nil
 | _,_,n+1,.cons _ t=>Vals.drop n t
def Auc:Option V->Option aE->Prop
 | some v,some u=>RelV v u
 | none,none=>True
 | _,_=>False
def KV {κ:Type}:List (κ×V)->List (κ×aE)->Prop:=iD fun(p:κ×V) (q:κ×aE)=>p.1=q.1/\RelV p.2 q.2
def kV:aI->V
 | .inl i=>.int i
 | .inr x=>.str x
inductive HO where
 | lst (xs:List V)
 | tup (xs:List V)
 | dK (ep:Nat) (kvs:List (aI×V)) | dT (ep:Nat) (kvs:List (List aA×V))
 | set (S:Int->Bool) (n:Nat)
 | ins (C dx:aD) (fs:List (aC×V))
 | own (x:aD)
 | xd (fs:List (aC×V))
 | met (f x:aD)
 | rng (lo hi:Int)
 | frz (o:bH) (u:HO)
 | tbl (ps:Array aE)
 | ext (φ:aZ->Prop)
abbrev Hp:=aD->Option HO
def upd (H:Hp)(a:aD)(o:HO):Hp:=fun b=>if b=a then some o else H b
theorem fJ {H:Hp}{o:HO}:upd H a o a=some o:=by unfold upd; rw[if_pos rfl]
theorem dJ {H:Hp}{o:HO}(h:b≠a):upd H a o b=H b:=by unfold upd; rw[if_neg h]
theorem Ed {H:Hp}{o u:HO}(h:H a=some o)(h':H b=some u)(d:o≠u):a≠b:=by
 intro e; subst e; rw[h] at h'; exact d (eY h')
theorem jK {H:Hp}{o:HO}(h:H a=some o)(h':H b=none):a≠b:=by
 intro e; subst e; rw[h] at h'; cases h'
mutual
def Aku (H:Hp):aA->V->Prop
 | .int i,v=>v = .int i
 | .str x,v=>v = .str x
 | .tuple ds,v=>∃ a xs,v = .ref a/\H a=some (.tup xs)/\Agk H ds xs
 | _,_=>False
def Agk (H:Hp):List aA->List V->Prop
 | [],vs=>vs=[]
 | d::r,vs=>∃ x rr,vs=x::rr/\Aku H d x/\Agk H r rr
end
mutual
theorem Aku.keep {H H':Hp}(ht : ∀ b xs,H b=some (.tup xs)->H' b=some (.tup xs)) : ∀ {d:aA} {v:V},Aku H d v->Aku H' d v
 | .int _,_,k=>by simpa [Aku] using k
 | .str _,_,k=>by simpa [Aku] using k
 | .tuple ds,_,k=>by
  simp only[Aku] at k ⊢
  obtain⟨a,xs,e,h,ks⟩:=k
  exact⟨a,xs,e,ht _ _ h,Agk.keep ht ks⟩
 | .none,_,k=>by simp[Aku] at k
 | .bool _,_,k=>by simp[Aku] at k
 | .list _,_,k=>by simp[Aku] at k
 | .dict _,_,k=>by simp[Aku] at k
theorem Agk.keep {H H':Hp}(ht : ∀ b xs,H b=some (.tup xs)->H' b=some (.tup xs)) : ∀ {ds:List aA} {vs:List V},Agk H ds vs->Agk H' ds vs
 | [],_,k=>by simpa [Agk] using k
 | d::ds,_,k=>by
  simp only[Agk] at k ⊢
  obtain⟨x,r,e,k1,k2⟩:=k
  exact⟨x,r,e,Aku.keep ht k1,Agk.keep ht k2⟩
end
def Alf (H:Hp)(ks:List aA)(a:aD):Prop:=bU ks=true/\cZ ks≤6 /\ ∃ xs,H a=some (.tup xs)/\Agk H ks xs
theorem Alf.keep {H H':Hp}(k:Alf H ks a)(ht : ∀ b xs,H b=some (.tup xs)->H' b=some (.tup xs)):Alf H' ks a:=
 ⟨k.1,k.2.1,k.2.2.choose,ht _ _ k.2.2.choose_spec.1,k.2.2.choose_spec.2.keep ht⟩
def A5w (h:aZ)(a:aD)(its:Array aE):Prop:=IsTup h a its /\ ∃ o,h.get? a=some o/\o.dict=none
theorem A5w.new (h:aZ)(its:Array aE):A5w (h.push { cls:=.type "tuple",data:=.seq its }) h.objs.size its:=⟨IsTup.new _ _,_,dA _ rfl,rfl⟩
section
variable (P:bT)(w:bI)
def Ac9 (H:Hp)(h:aZ)(a:aD):HO->Prop
 | .lst xs=>xs.length≤sizeLine /\ ∃ (its:List aE) (n:Nat),Vals xs its/\h.get? a=some { cls:=.type "list",data:=.seq its.toArray n }
 | .tup xs=>xs.length≤sizeLine /\ ∃ its:List aE,Vals xs its/\A5w h a its.toArray
 | .dK ep kvs=>kvs.length≤sizeLine/\(a == iB)=false /\ ∃ vs,KV kvs vs/\h.DictAt (fC P w) a vs ep
 | .dT ep kvs=>kvs.length≤sizeLine/\(a == iB)=false /\ ∃ xs:List (List aA×aD×aE),
   iD (fun(p:List aA×V) (q:List aA×aD×aE)=>p.1=q.1/\Alf H p.1 q.2.1/\RelV p.2 q.2.2) kvs xs /\
   ∃ o es,h.get? a=some o/\o.ExactDict/\o.data = .dict es ep/\es.toList=xs.map (entryOfKey (hZ P w))/\(xs.map (·.1)).Nodup
 | .set S n=>h.SetOf (intKind P w) a S n
 | .ins C dx fs=>H dx=some (.own a)/\fs.length≤1000/\dx≠a/\h.get? a=some (Be C dx) /\
   ∃ mA,h.Ns1 dx mA/\(∀ f,Auc (fs.lookup f) (mA f))/\PySem.Within mA (fs.map (·.1))
 | .own _=>∃ o,h.get? a=some o
 | .xd fs=>∃ mA,h.Ns1 a mA /\ ∀ f,Auc (fs.lookup f) (mA f)
 | .rng lo hi=>∃ t u v,h.get? a=some { cls:=.type "range",data:=.fields #[.int lo t,.int hi u,.int 1 v] }
 | .frz o u=>h.get? a=some o/\Ac9 H h a u
 | .tbl ps=>h.get? a=some { cls:=.none,data:=.fields ps }
 | .met f x=>h.get? a=some (Az (.ref f) (.ref x))
 | .ext φ=>φ h/\(∃ o,h.get? a=some o) /\ ∀ h1 h2:aZ,φ h1->(∀ o,h1.get? a=some o->h2.get? a=some o)->φ h2
def HOk (H:Hp)(h:aZ):Prop:=∀ a o,H a=some o->Ac9 P w H h a o
end
section
variable {P:bT}{w:bI}{H H':Hp}{o:HO}
theorem Ac9.lt (x:Ac9 P w H h a o):a<h.objs.size:=by
 cases o with
 | lst xs=>obtain⟨_,_,_,_,e⟩:=x; exact cA e
 | tup xs=>obtain⟨_,_,_,p⟩:=x; exact p.1.lt
 | dK ep kvs=>obtain⟨_,_,_,_,o,_,e,_⟩:=x; exact cA e
 | dT ep kvs=>obtain⟨_,_,_,_,o,_,e,_⟩:=x; exact cA e
 | set S n=>obtain⟨o,_,_,_,e,_⟩:=x; exact cA e
 | ins C dx fs=>obtain⟨_,_,_,e,_⟩:=x; exact cA e
 | own y=>obtain⟨_,e⟩:=x; exact cA e
 | xd fs=>obtain⟨_,⟨_,_,_,e,_⟩,_⟩:=x; exact cA e
 | rng lo hi=>obtain⟨_,_,_,e⟩:=x; exact cA e
 | frz ob u=>obtain⟨e,_⟩:=x; exact cA e
 | tbl ps=>exact cA (show h.get? a=some _ from x)
 | met f y=>exact cA (show h.get? a=some _ from x)
 | ext φ=>obtain⟨_,⟨_,e⟩,_⟩:=x; exact cA e
theorem Paired.mapP {α β:Type}{F G:α->β->Prop} : ∀ {l₁:List α} {l₂:List β},iD F l₁ l₂->(∀ a b,F a b->G a b)->iD G l₁ l₂:=by
 intro l₁ l₂ h
 induction h with
 | nil=>exact fun _=>.nil
 | cons r _ ih=>exact fun f=>.cons (f _ _ r) (ih f)
theorem Ac9.stay (x:Ac9 P w H h a o)(k : ∀ b u,(b=a \/ H b=some (.own a))->h.get? b=some u->h'.get? b=some u)
  (ho : ∀ b,H b=some (.own a)->H' b=some (.own a)) (ht : ∀ b xs,H b=some (.tup xs)->H' b=some (.tup xs)):Ac9 P w H' h' a o:=by
 induction o with
 | lst xs=>obtain⟨z,its,n,r,e⟩:=x; exact⟨z,its,n,r,k _ _ (.inl rfl) e⟩
 | tup xs=>obtain⟨z,its,r,⟨ob,e,c⟩,ob2,e2,c2⟩:=x; exact⟨z,its,r,⟨ob,k _ _ (.inl rfl) e,c⟩,ob2,k _ _ (.inl rfl) e2,c2⟩
 | dK ep kvs=>obtain⟨z,y,vs,r,ob,es,e,c⟩:=x; exact⟨z,y,vs,r,ob,es,k _ _ (.inl rfl) e,c⟩
 | dT ep kvs=>
  obtain⟨z,y,xs,r,ob,es,e,c⟩:=x
  exact⟨z,y,xs,Paired.mapP r fun p q z=>⟨z.1,z.2.1.keep ht,z.2.2⟩,ob,es,k _ _ (.inl rfl) e,c⟩
 | set S n=>obtain⟨ob,es,ep,t,e,c⟩:=x; exact⟨ob,es,ep,t,k _ _ (.inl rfl) e,c⟩
 | ins C dx fs=>
  obtain⟨d,z,ne,e,mA,⟨od,es,ep,e2,c⟩,r⟩:=x
  exact⟨ho _ d,z,ne,k _ _ (.inl rfl) e,mA,⟨od,es,ep,k _ _ (.inr d) e2,c⟩,r⟩
 | own y=>obtain⟨ob,e⟩:=x; exact⟨ob,k _ _ (.inl rfl) e⟩
 | xd fs=>obtain⟨mA,⟨od,es,ep,e,c⟩,r⟩:=x; exact⟨mA,⟨od,es,ep,k _ _ (.inl rfl) e,c⟩,r⟩
 | rng lo hi=>obtain⟨t,u,v,e⟩:=x; exact⟨t,u,v,k _ _ (.inl rfl) e⟩
 | frz ob u ih=>obtain⟨e,q⟩:=x; exact⟨k _ _ (.inl rfl) e,ih q⟩
 | tbl ps=>
  have e:h.get? a=some { cls:=.none,data:=.fields ps }:=x
  show h'.get? a=some { cls:=.none,data:=.fields ps }
  exact k a _ (.inl rfl) e
 | met f y=>
  have e:h.get? a=some (Az (.ref f) (.ref y)):=x
  show h'.get? a=some (Az (.ref f) (.ref y))
  exact k a _ (.inl rfl) e
 | ext φ=>obtain⟨p,⟨o,e⟩,st⟩:=x; exact⟨st _ _ p fun o q=>k _ _ (.inl rfl) q,⟨o,k _ _ (.inl rfl) e⟩,st⟩
theorem HOk.lt (x:HOk P w H h)(e:H a=some o):a<h.objs.size:=(x a o e).lt
theorem HOk.fresh (x:HOk P w H h)(e:h.objs.size≤a):H a=none:=by
 cases q:H a with
 | none=>rfl
 | some u=>exact absurd (iR (x.lt q) e) (kI _)
theorem HOk.kept (x:HOk P w H h)(k : ∀ b u,h.get? b=some u->h'.get? b=some u):HOk P w H h':=fun a o e=>
 (x a o e).stay (fun b u _ q=>k b u q) (fun _ q=>q) fun _ _ q=>q
theorem HOk.laid (x:HOk P w H h)(k : ∀ b u,h.get? b=some u->h'.get? b=some u)(hp:h.objs.size≤a)(new:Ac9 P w (upd H a o) h' a o):HOk P w (upd H a o) h':=fun b u e=>by
 have hn:=x.fresh hp
 by_cases hb:b=a
 ·subst hb; rw[fJ] at e; cases e; exact new
 ·rw[dJ hb] at e
  exact(x b u e).stay (fun c v _ q=>k c v q) (fun c q=>by rw[dJ (jK q hn)]; exact q) fun c xs q=>by rw[dJ (jK q hn)]; exact q
end
def Rd (H:Hp)(a:aD)(u:HO):Prop:=H a=some u \/ ∃ o,H a=some (.frz o u)
theorem Rd.ok {P:bT}{w:bI}{H:Hp}{u:HO}(r:Rd H a u)(x:HOk P w H h):Ac9 P w H h a u:=by
 rcases r with r | ⟨o,r⟩
 ·exact x a u r
 ·obtain⟨_,q⟩:=x a _ r
  exact q
def xG:Option HO->Prop
 | some (.lst _)=>True
 | some (.dK _ _)=>True
 | some (.dT _ _)=>True
 | some (.set _ _)=>True
 | some (.ins _ _ _)=>True
 | some (.ext _)=>True
 | _=>False
section
variable {P:bT}{w:bI}{H:Hp}{x e:aD}{o':HO}
theorem HOk.write (ok:HOk P w H h)(mu:xG (H x))(he:e=x \/ H e=some (.own x))(k : ∀ b u,b≠e->h.get? b=some u->h'.get? b=some u)(heo : ∃ u,h'.get? e=some u)
  (new:Ac9 P w (upd H x o') h' x o'):HOk P w (upd H x o') h':=fun b u q=>by
 have nown : ∀ c y,H c=some (.own y)->c≠x:=fun c y r z=>by subst z; rw[r] at mu; exact mu
 have ntup : ∀ c xs,H c=some (.tup xs)->c≠x:=fun c xs r z=>by subst z; rw[r] at mu; exact mu
 by_cases hb:b=x
 ·subst hb; rw[fJ] at q; cases q; exact new
 ·rw[dJ hb] at q
  by_cases hbe:b=e
  ·have q':H b=some (.own x):=by
    rcases he with z | z
    ·exact absurd (hbe.trans z) hb
    ·rw[hbe]; exact z
   rw[q] at q'; cases q'
   obtain⟨v,hv⟩:=heo
   exact⟨v,by rw[hbe]; exact hv⟩
  ·refine(ok b u q).stay (fun c v hc r=>k c v ?_ r) (fun c r=>by rw[dJ (nown c b r)]; exact r) fun c xs r=>by rw[dJ (ntup c xs r)]; exact r
   rcases hc with rfl | hc
   ·exact hbe
   ·rintro rfl
    rcases he with z | z
    ·exact nown c b hc z
    ·rw[hc] at z; cases z; exact hb rfl
end
structure Un (fs ex:List aD)(H H':Hp)(h h':aZ):Prop where
 keep : ∀ b o,h.get? b=some o->H b=none->b∉fs->b∉ex->h'.get? b=some o
 slot : ∀ b o,h.get? b=some o->H b=none->b∈fs->b∉ex -> ∃ sl,h'.get? b=some { o with slots:=sl }
 free : ∀ b o,h.get? b=some o->H b=none->b∉ex->H' b=none
 there : ∀ b o,h.get? b=some o->b∉ex -> ∃ o',h'.get? b=some o'
 tups : ∀ b xs,H b=some (.tup xs)->H' b=some (.tup xs)
 frzs : ∀ b o u,H b=some (.frz o u)->H' b=some (.frz o u)
 tbls : ∀ b ps,H b=some (.tbl ps) -> ∃ more,H' b=some (.tbl (ps++more))
section
variable {fs fs' ex ex':List aD}{H H1 H2:Hp}{h1 h2:aZ}{x e:aD}{o:HO}
theorem Un.any (u:Un fs ex H H1 h h1){ob:bH}(q:h.get? b=some ob)(n:H b=none)(hx:b∉ex) : ∃ sl,h1.get? b=some { ob with slots:=sl }:=by
 by_cases hb:b∈fs
 ·exact u.slot b ob q n hb hx
 ·exact⟨ob.slots,u.keep b ob q n hb hx⟩
theorem Un.kept (k : ∀ b u,h.get? b=some u->h'.get? b=some u):Un fs ex H H h h':=
 ⟨fun b ob q _ _ _=>k b ob q,fun b ob q _ _ _=>⟨ob.slots,k b ob q⟩,fun _ _ _ n _=>n,fun b ob q _=>⟨ob,k b ob q⟩,fun _ _ q=>q,fun _ _ _ q=>q,fun _ ps q=>⟨#[],by rw[q]; simp⟩⟩
theorem Un.refl:Un fs ex H H h h:=Un.kept fun _ _ q=>q
theorem Un.laid (k : ∀ b u,h.get? b=some u->h'.get? b=some u)(hp:h.objs.size≤a)(hn:H a=none):Un fs ex H (upd H a o) h h' where
 keep:=fun b u q _ _ _=>k b u q
 slot:=fun b u q _ _ _=>⟨u.slots,k b u q⟩
 free:=fun b u q n _=>by rw[dJ (dQ (iR (cA q) hp))]; exact n
 there:=fun b u q _=>⟨u,k b u q⟩
 tups:=fun b xs q=>by rw[dJ (jK q hn)]; exact q
 frzs:=fun b u xs q=>by rw[dJ (jK q hn)]; exact q
 tbls:=fun b ps q=>⟨#[],by rw[dJ (jK q hn),q]; simp⟩
theorem Un.write (mu:xG (H x))(he:e=x \/ H e=some (.own x))(k : ∀ b u,b≠e->h.get? b=some u->h'.get? b=some u)(heo : ∃ u,h'.get? e=some u):Un fs ex H (upd H x o) h h':=by
 have hx : ∀ b,H b=none->b≠x:=fun b n z=>by subst z; rw[n] at mu; exact mu
 have hb : ∀ b,H b=none->b≠e:=fun b n z=>by
  subst z
  rcases he with r | r
  ·exact hx b n r
  ·rw[n] at r; cases r
 have hm : ∀ b u,H b=some u -> ¬ xG (some u)->b≠x:=fun b u q nm z=>by subst z; rw[q] at mu; exact nm mu
 refine⟨fun b u q n _ _=>k b u (hb b n) q,fun b u q n _ _=>⟨u.slots,k b u (hb b n) q⟩,fun b u q n _=>by rw[dJ (hx b n)]; exact n,fun b u q _=>?_,
  fun b xs q=>by rw[dJ (hm b _ q fun z=>z)]; exact q,fun b u xs q=>by rw[dJ (hm b _ q fun z=>z)]; exact q,fun b ps q=>⟨#[],by rw[dJ (hm b _ q fun z=>z),q]; simp⟩⟩
 by_cases hbe:b=e
 ·subst hbe; exact heo
 ·exact⟨u,k b u hbe q⟩
end
def trk (h:aZ)(H:Hp):List aD:=(bR h.objs.size).filter fun a=>(H a).isSome
def pC (h:aZ)(H:Hp):aZ:=PySem.W.hideAll h (trk h H)
theorem Ow (h:aZ)(H:Hp):(pC h H).objs.size=h.objs.size:=PySem.W.hideAll_size _ _
theorem Yg{H:Hp}(e:h.get? b=some o)(n:H b=none):(pC h H).get? b=some o:=
 PySem.W.hideAll_get _ e fun hm=>by
  have q:(H b).isSome=true:=(AZ.mp hm).2
  rw[n] at q; simp at q
theorem Lq{H:Hp}(e:(pC h H).get? b=some o):h.get? b=some o/\H b=none:=by
 have e':h.get? b=some o:=PySem.W.of_hideAll (trk h H) e
 refine⟨e',?_⟩
 cases q:H b with
 | none=>rfl
 | some x=>
  have hm:b∈trk h H:=AZ.mpr ⟨lC.mpr (cA e'),by simp[q]⟩
  have z:(pC h H).get? b=none:=PySem.W.hideAll_none (trk h H) hm
  rw[z] at e; cases e
def Mg (g h:aZ)(L:aD):List (aD×bH):=(bR h.objs.size).filterMap fun a=>if a=L \/ (g.get? a).isSome=true then none else(h.get? a).map fun o=>(a,o)
def rest (g h:aZ)(L d:aD):List (aD×bH):=(Mg g h L).filter fun p=>decide (p.1≠d)
structure Mod (K:aK)(mg:aC->Option aE)(base:aZ):Prop where
 kin:K.In base
 glob:base.Ns dM mg
 blt : ∃ mb,base.Ns builtinsNs mb /\ ∀ x:aC,x ≠ "__name__" -> mb x=lU x
 nolimit:base.NoLimit
structure Cx where
 prog:bT
 w:bI
 K:aK
 mg:aC->Option aE
 base:aZ
 A:cM
 N:List aC
 s₀:aJ
 H₀:Hp
 env:Env
 outer:List Env
 stack:List Env
 ex:List aD
 fn:aC->Bool
 calm:Bool
 pn:List (aD×bH)
 xe:aE->aJ->Prop
def frs (l:List Env):List aD:=l.filterMap (·.frame)
abbrev Cx.fs (X:Cx):List aD:=frs X.outer
def kK (sc:iQ)(x:aC):Prop:=sc.names.lookup x=some .local \/ sc.names.lookup x=some .cell \/ sc.names.lookup x=some .free
def kA (sc:iQ)(x:aC):Prop:=sc.names.lookup x=some .local \/ sc.names.lookup x=some .cell
def Look (env:Env)(h:aZ)(m:aC->Option aE)(x:aC)(u:aE):Prop:=
 (env.kindOf x=some .local/\m x=some u) \/ ((env.kindOf x=some .cell \/ env.kindOf x=some .free) /\ ∃ c,env.cells.lookup x=some c/\h.IsCell c (some u))
structure Cx.Ok (X:Cx):Prop where
 mod:Mod X.K X.mg X.base
 kind:X.env.scope.kind = .function
 glob:X.env.globals=dM
 blt:X.env.builtins=builtinsNs
 above:X.s₀.heap.objs.size≤X.env.locals
 inj : ∀ x y c,X.env.cells.lookup x=some c->X.env.cells.lookup y=some c->x=y
 has : ∀ x,(X.env.kindOf x=some .cell \/ X.env.kindOf x=some .free) -> ∃ c,X.env.cells.lookup x=some c
 cab : ∀ x c,X.fn x=true->X.env.cells.lookup x=some c->X.s₀.heap.objs.size≤c
 hd:X.calm=true->X.A.handled=none
 frames:X.A.frames=some X.stack
 stk:X.stack=X.outer \/ (X.stack=X.env::X.outer/\X.env.frame=some X.env.locals)
 exf : ∀ b∈X.ex,b≠X.env.locals /\ ∀ x c,X.env.cells.lookup x=some c->c≠b
 bs : ∀ b o,X.base.get? b=some o->X.s₀.heap.get? b=some o/\X.H₀ b=none
 bsz:X.base.objs.size≤X.s₀.heap.objs.size
 noex : ∀ b o,X.base.get? b=some o->b∉X.ex
 exfs : ∀ b∈X.ex,b∉X.fs
 funs:X.s₀.heap.FunFrames X.base X.outer
 frf : ∀ b∈X.fs,X.H₀ b=none
structure Inv (X:Cx)(pins:List (aD×bH))(σ:List (Option V))(H:Hp)(s:aJ):Prop where
 ok:X.Ok
 os:s.os=X.s₀.os
 bare:rM s.gens
 base:Un X.fs X.ex X.H₀ H X.s₀.heap s.heap
 loc : ∃ m,s.heap.Ns X.env.locals m /\ ∀ (i:Nat) (x:aC) (v:V),X.N[i]?=some x->σ[i]?=some (some v)->kK X.env.scope x -> ∃ u,RelV v u/\Look X.env s.heap m x u
 cell : ∀ x c,X.env.cells.lookup x=some c -> ∃ v,s.heap.IsCell c v
 free:H X.env.locals=none
 freeC : ∀ x c,X.env.cells.lookup x=some c->H c=none
 pin : ∀ p∈X.pn++pins,s.heap.get? p.1=some p.2/\H p.1=none/\p.1≠X.env.locals/\p.1∉X.fs /\ ∀ v,p.2.data ≠ .cell v
 hok:HOk X.prog X.w H s.heap
 len:σ.length=X.N.length
section
variable {X:Cx}{σ:List (Option V)}{H H':Hp}
theorem Cx.Ok.nofr (ok:X.Ok)(e:X.base.get? b=some o):b∉X.fs:=fun hb=>by
 have:=(ok.funs.mem hb).1
 rw[e] at this; cases this
theorem Inv.bs (I:Inv X pins σ H s) : ∀ b o,X.base.get? b=some o->s.heap.get? b=some o/\H b=none:=fun b o e=>
 ⟨I.base.keep b o (I.ok.bs b o e).1 (I.ok.bs b o e).2 (I.ok.nofr e) (I.ok.noex b o e),I.base.free b o (I.ok.bs b o e).1 (I.ok.bs b o e).2 (I.ok.noex b o e)⟩
theorem Inv.bk (I:Inv X pins σ H s) : ∀ b o,X.base.get? b=some o->s.heap.get? b=some o:=fun b o e=>(I.bs b o e).1
theorem Inv.mod (I:Inv X pins σ H s):Mod X.K X.mg X.base:=I.ok.mod
theorem Inv.kIn (I:Inv X pins σ H s):X.K.In s.heap:=I.ok.mod.kin.keeps I.bk
theorem Inv.lt (I:Inv X pins σ H s):X.env.locals<s.heap.objs.size:=let ⟨_,hn,_⟩:=I.loc; hn.lt
theorem Inv.sz (I:Inv X pins σ H s):X.s₀.heap.objs.size≤s.heap.objs.size:=eO I.ok.above (pO I.lt)
theorem Inv.nofs (I:Inv X pins σ H s)(h:s.heap.objs.size≤a):a∉X.fs:=fun hb=>by
 obtain⟨_,o,ho,_⟩:=I.ok.funs.mem hb
 exact absurd (iR (cA ho) (eO I.sz h)) (kI _)
theorem Inv.cne (I:Inv X pins σ H s) : ∀ x c,X.env.cells.lookup x=some c->c≠X.env.locals:=fun x c e z=>by
 obtain⟨v,o,ho,hd⟩:=I.cell x c e
 obtain⟨m,⟨o',es,ep,ho',hd',_⟩,_⟩:=I.loc
 rw[z,ho'] at ho; cases ho; rw[hd'] at hd; cases hd
theorem Inv.funs (I:Inv X pins σ H s):s.heap.FunFrames X.base X.outer:=by
 have all : ∀ (l:List Env),(∀ b∈frs l,b∈X.fs)->X.s₀.heap.FunFrames X.base l->s.heap.FunFrames X.base l:=by
  intro l
  induction l with
  | nil=>intro _ _; trivial
  | cons env r ih=>
   intro hs hl
   obtain⟨hk,⟨L,o,hf,hn,ho,hd⟩,hr⟩:=hl
   have hL:L∈X.fs:=hs L (by unfold frs; rw[FK,hf]; exact bM)
   obtain⟨sl,e⟩:=I.base.slot L o ho (I.ok.frf L hL) hL fun z=>I.ok.exfs L z hL
   exact⟨hk,⟨L,_,hf,hn,e,hd⟩,ih (fun b hb=>hs b (by unfold frs; rw[FK,hf]; exact cF _ hb)) hr⟩
 exact all X.outer (fun _ hb=>hb) I.ok.funs
theorem Inv.stack (I:Inv X pins σ H s):s.heap.FunFrames X.base X.stack:=by
 rcases I.ok.stk with e | ⟨e,hf⟩
 ·rw[e]; exact I.funs
 ·rw[e]
  obtain⟨m,hn,_⟩:=I.loc
  refine .cons (by rw[I.ok.kind]; decide) hf hn ?_ I.funs
  exact Heap.get?_none_of_le (eO I.ok.bsz I.ok.above)
theorem Inv.stkSub (I:Inv X pins σ H s) : ∀ b∈frs X.stack,b∈X.env.locals::X.fs:=fun b hb=>by
 rcases I.ok.stk with e | ⟨e,hf⟩
 ·rw[e] at hb; exact cF _ hb
 ·rw[e] at hb
  unfold frs at hb
  rw[FK,hf] at hb
  exact hb
theorem Inv.stkFree (I:Inv X pins σ H s) : ∀ b∈frs X.stack,H b=none:=fun b hb=>by
 rcases cU.mp (I.stkSub b hb) with e | hb
 ·rw[e]; exact I.free
 ·obtain⟨_,o,ho,_⟩:=I.ok.funs.mem hb
  exact I.base.free b o ho (I.ok.frf b hb) fun z=>I.ok.exfs b z hb
theorem Inv.step {g':Array BG}{d':Drawn}(I:Inv X pins σ H s)
  (hch : ∀ b∈ch,(b∈X.ex \/ X.s₀.heap.objs.size≤b)/\b≠X.env.locals/\(∀ x c,X.env.cells.lookup x=some c->c≠b) /\ ∀ p∈X.pn++pins,p.1≠b)
  (keep : ∀ b o,b≠X.env.locals->b∉X.fs->b∉ch->s.heap.get? b=some o->H b=none->h'.get? b=some o)
  (slot : ∀ b o,b≠X.env.locals->b∈X.fs->b∉ch->s.heap.get? b=some o->H b=none -> ∃ sl,h'.get? b=some { o with slots:=sl }) (free : ∀ b o,b∉ch->s.heap.get? b=some o->H b=none->H' b=none)
  (there : ∀ b o,b∉ch->s.heap.get? b=some o -> ∃ o',h'.get? b=some o')
  (tups : ∀ b xs,H b=some (.tup xs)->H' b=some (.tup xs)) (frzs : ∀ b o u,H b=some (.frz o u)->H' b=some (.frz o u)) (tbls : ∀ b ps,H b=some (.tbl ps) -> ∃ more,H' b=some (.tbl (ps++more)))
  (ns : ∀ m,s.heap.Ns X.env.locals m->h'.Ns X.env.locals m) (hok:HOk X.prog X.w H' h') (hg:rM g') :
  Inv X pins σ H' { s with heap:=h',gens:=g',drawn:=d',toks:=t' }:=by
 have neL : ∀ b o,X.s₀.heap.get? b=some o->b≠X.env.locals:=fun b o e=>dQ (iR (cA e) I.ok.above)
 have neC : ∀ b o,X.s₀.heap.get? b=some o->b∉X.ex->b∉ch:=fun b o e hx hb=>by
  rcases(hch b hb).1 with z | z
  ·exact hx z
  ·exact absurd (iR (cA e) z) (kI _)
 have cellK : ∀ x c,X.env.cells.lookup x=some c -> ∀ v,s.heap.IsCell c v->h'.IsCell c v:=fun x c e v gh=>by
  obtain⟨o,ho,hd⟩:=gh
  have nch:c∉ch:=fun z=>(hch c z).2.2.1 x c e rfl
  by_cases hc:c∈X.fs
  ·obtain⟨sl,q⟩:=slot c o (I.cne x c e) hc nch ho (I.freeC x c e)
   exact⟨_,q,hd⟩
  ·exact⟨o,keep c o (I.cne x c e) hc nch ho (I.freeC x c e),hd⟩
 refine⟨I.ok,I.os,hg,⟨fun b o e n hb hx=>?_,fun b o e n hb hx=>?_,fun b o e n hx=>?_,fun b o e hx=>?_,fun b xs e=>tups b xs (I.base.tups b xs e),fun b o xs e=>frzs b o xs (I.base.frzs b o xs e),fun b ps e=>?_⟩,?_,fun x c e=>?_,?_,fun x c e=>?_,fun p hp=>?_,hok,I.len⟩
 ·exact keep b o (neL b o e) hb (neC b o e hx) (I.base.keep b o e n hb hx) (I.base.free b o e n hx)
 ·obtain⟨sl,e1⟩:=I.base.slot b o e n hb hx
  obtain⟨sl',e2⟩:=slot b _ (neL b o e) hb (neC b o e hx) e1 (I.base.free b o e n hx)
  exact⟨sl',e2⟩
 ·obtain⟨o',e1⟩:=I.base.there b o e hx
  exact free b o' (neC b o e hx) e1 (I.base.free b o e n hx)
 ·obtain⟨o',e1⟩:=I.base.there b o e hx
  exact there b o' (neC b o e hx) e1
 ·obtain⟨m1,e1⟩:=I.base.tbls b ps e
  obtain⟨m2,e2⟩:=tbls b _ e1
  exact⟨m1++m2,by rw[e2,Array.append_assoc]⟩
 ·obtain⟨m,hn,hl⟩:=I.loc
  refine⟨m,ns m hn,fun i x v e1 e2 e3=>?_⟩
  obtain⟨u,r,l⟩:=hl i x v e1 e2 e3
  refine⟨u,r,?_⟩
  rcases l with l | ⟨k,c,e,z⟩
  ·exact .inl l
  ·exact .inr ⟨k,c,e,cellK x c e _ z⟩
 ·obtain⟨v,z⟩:=I.cell x c e
  exact⟨v,cellK x c e v z⟩
 ·obtain⟨m,⟨o,_,_,ho,_⟩,_⟩:=I.loc
  exact free _ o (fun z=>(hch _ z).2.1 rfl) ho I.free
 ·obtain⟨v,o,ho,hd⟩:=I.cell x c e
  exact free c o (fun z=>(hch c z).2.2.1 x c e rfl) ho (I.freeC x c e)
 ·obtain⟨e,n,ne,nf,d⟩:=I.pin p hp
  have nch:p.1∉ch:=fun z=>(hch p.1 z).2.2.2 p hp rfl
  exact⟨keep p.1 p.2 ne nf nch e n,free p.1 p.2 nch e n,ne,nf,d⟩
theorem Inv.un(I:Inv X pins σ H s)(u:Un X.fs [] H H' s.heap h')(hok:HOk X.prog X.w H' h'):Inv X pins σ H' { s with heap:=h',toks:=t' }:=by
 obtain⟨m,⟨o,es,ep,ho,r⟩,_⟩:=id I.loc
 obtain⟨sl,hL⟩:=u.any ho I.free (by simp)
 exact I.step (g':=s.gens) (d':=s.drawn) (ch:=[]) (fun _ z=>nomatch z) (fun b o _ hb _ e n=>u.keep b o e n hb (by simp)) (fun b o _ hb _ e n=>u.slot b o e n hb (by simp)) (fun b o _ e n=>u.free b o e n (by simp)) (fun b o _ e=>u.there b o e (by simp)) u.tups u.frzs u.tbls (fun m' hm=>by
  obtain⟨o',es',ep',ho',r'⟩:=hm
  rw[ho] at ho'; cases ho'
  exact⟨_,es',ep',hL,r'⟩) hok I.bare
theorem Inv.call {g':Array BG}{d':Drawn}(I:Inv X pins σ H s)(u:Un (frs X.stack) ch H H' s.heap h')(hok:HOk X.prog X.w H' h')(hg:rM g')
  (hch : ∀ b∈ch,(b∈X.ex \/ X.s₀.heap.objs.size≤b)/\b≠X.env.locals/\(∀ x c,X.env.cells.lookup x=some c->c≠b) /\ ∀ p∈X.pn++pins,p.1≠b) :
  Inv X pins σ H' { s with heap:=h',gens:=g',drawn:=d',toks:=t' }:=by
 obtain⟨m,⟨o,es,ep,ho,r⟩,_⟩:=id I.loc
 obtain⟨sl,hL⟩:=u.any ho I.free fun z=>(hch _ z).2.1 rfl
 exact I.step (ch:=ch) hch (fun b o hL hb hc e n=>u.keep b o e n (fun z=>(cU.mp (I.stkSub b z)).elim hL hb) hc) (fun b o _ _ hc e n=>u.any e n hc) (fun b o hc e n=>u.free b o e n hc) (fun b o hc e=>u.there b o e hc) u.tups u.frzs u.tbls (fun m' hm=>by
  obtain⟨o',es',ep',ho',r'⟩:=hm
  rw[ho] at ho'; cases ho'
  exact⟨_,es',ep',hL,r'⟩) hok hg
theorem Inv.turned{it:aD}(I:Inv X pins σ H s)(k : ∀ b o,b≠it->s.heap.get? b=some o->h'.get? b=some o)(hn:H it=none)(hL:it≠X.env.locals)
  (h1:it∈X.ex \/ X.s₀.heap.objs.size≤it) (h2 : ∀ x c,X.env.cells.lookup x=some c->c≠it) (h3 : ∀ p∈X.pn++pins,p.1≠it):Inv X pins σ H { s with heap:=h',toks:=t' }:=by
 have nit : ∀ b u,H b=some u->b≠it:=fun b u e z=>by rw[z,hn] at e; cases e
 refine I.step (g':=s.gens) (d':=s.drawn) (ch:=[it]) (fun b hb=>?_) (fun b o _ _ hc e _=>k b o (fun z=>hc (by simp[z])) e) (fun b o _ _ hc e _=>⟨o.slots,k b o (fun z=>hc (by simp[z])) e⟩) (fun _ _ _ _ n=>n)
  (fun b o hc e=>⟨o,k b o (fun z=>hc (by simp[z])) e⟩) (fun _ _ e=>e) (fun _ _ _ e=>e) (fun b ps e=>⟨#[],by rw[e]; simp⟩) (fun m hm=>?_) (fun b u e=>?_) I.bare
 ·have e:b=it:=by simpa using hb
  subst e
  exact⟨h1,hL,h2,h3⟩
 ·obtain⟨o,es,ep,ho,r⟩:=hm
  exact⟨o,es,ep,k _ o (eZ hL) ho,r⟩
 ·refine(I.hok b u e).stay (fun c v hc q=>k c v ?_ q) (fun _ q=>q) fun _ _ q=>q
  rcases hc with z | z
  ·rw[z]; exact nit b u e
  ·exact nit c _ z
theorem Inv.tok (I:Inv X pins σ H s)(t:Nat):Inv X pins σ H { s with toks:=t }:=I.un (h':=s.heap) (t':=t) Un.refl I.hok
theorem Inv.kept(I:Inv X pins σ H s)(k : ∀ b u,s.heap.get? b=some u->h'.get? b=some u):Inv X pins σ H { s with heap:=h',toks:=t' }:=I.un (Un.kept k) (I.hok.kept k)
theorem Inv.laid{o:HO}(I:Inv X pins σ H s)(k : ∀ b u,s.heap.get? b=some u->h'.get? b=some u)(hp:s.heap.objs.size≤a)(new:Ac9 X.prog X.w (upd H a o) h' a o) :
  Inv X pins σ (upd H a o) { s with heap:=h',toks:=t' }:=I.un (Un.laid k hp (I.hok.fresh hp)) (I.hok.laid k hp new)
theorem Inv.write {x e:aD}{o:HO}(I:Inv X pins σ H s)(mu:xG (H x))(he:e=x \/ H e=some (.own x))(k : ∀ b u,b≠e->s.heap.get? b=some u->h'.get? b=some u)(heo : ∃ u,h'.get? e=some u)
  (new:Ac9 X.prog X.w (upd H x o) h' x o):Inv X pins σ (upd H x o) { s with heap:=h',toks:=t' }:=I.un (Un.write mu he k heo) (I.hok.write mu he k heo new)
theorem Inv.pins_of {pins':List (aD×bH)}(I:Inv X pins σ H s)(h : ∀ p∈pins',s.heap.get? p.1=some p.2/\H p.1=none/\p.1≠X.env.locals/\p.1∉X.fs /\ ∀ v,p.2.data ≠ .cell v):Inv X pins' σ H s:=
 ⟨I.ok,I.os,I.bare,I.base,I.loc,I.cell,I.free,I.freeC,fun p hp=>(oE.mp hp).elim (fun z=>I.pin p (NK _ z)) (h p),I.hok,I.len⟩
theorem TH {N:List aC}(hN:N.Nodup){j:Nat}(a:N[i]?=some x)(b:N[j]?=some x):i=j:=by
 obtain⟨h1,e1⟩:=dR.mp a
 obtain⟨h2,e2⟩:=dR.mp b
 exact(List.getElem_inj hN).mp (e1.trans e2.symm)
theorem US{v:V}{Q:Unit->aJ->Prop}(I:Inv X pins σ H s)(hN:X.N.Nodup)(hi:X.N[i]?=some x)(hx:kA X.env.scope x)(r:RelV v u)
  (h : ∀ s',Inv X pins (σ.set i (some v)) H s'->(∃ a,nH a s.heap s'.heap/\(a=X.env.locals \/ X.env.cells.lookup x=some a))->Q () s') (hf:X.fn x=true \/ X.env.scope.names.lookup x=some .local:=by first | exact .inl rfl | exact .inr rfl | assumption):aM M A (storeName X.env x u) Q E s:=by
 obtain⟨m,hn,hl⟩:=id I.loc
 have hcls:(X.env.scope.kind == .class||(X.env.scope.kind == .module&&X.env.locals != X.env.globals))=false:=by rw[I.ok.kind]; rfl
 have hiσ:i<σ.length:=by rw[I.len]; exact(dR.mp hi).1
 have cne:=I.cne
 have tracked : ∀ {a:aD} {h':aZ},(∃ o,s.heap.get? a=some o/\H a=none)->nH a s.heap h'->HOk X.prog X.w H h':=fun {a h'} ha hs b ob e=>by
  obtain⟨_,_,hfree⟩:=ha
  refine(I.hok b ob e).stay (fun c w' hc q=>(hs.2 c ?_).trans q) (fun _ q=>q) fun _ _ q=>q
  rintro rfl
  rcases hc with rfl | hc
  ·rw[hfree] at e; cases e
  ·rw[hfree] at hc; cases hc
 rcases hx with hk | hk
 ·refine wpAny_storeName_local hk hn (fun h' hn' hs=>?_) hcls
  obtain⟨oL,_,_,hoL,_⟩:=id hn
  refine h _ ⟨I.ok,I.os,I.bare,⟨fun b o e n hb hx=>?_,fun b o e n hb hx=>?_,I.base.free,fun b o e hx=>?_,I.base.tups,I.base.frzs,I.base.tbls⟩,⟨_,hn',fun j y v' e1 e2 e3=>?_⟩,fun y c e=>?_,I.free,I.freeC,fun p hp=>?_,tracked ⟨oL,hoL,I.free⟩ hs,by simpa using I.len⟩ ⟨_,hs,.inl rfl⟩
  ·exact(hs.2 b (dQ (iR (cA e) I.ok.above))).trans (I.base.keep b o e n hb hx)
  ·obtain⟨sl,e1⟩:=I.base.slot b o e n hb hx
   exact⟨sl,(hs.2 b (dQ (iR (cA e) I.ok.above))).trans e1⟩
  ·obtain⟨o',e1⟩:=I.base.there b o e hx
   exact⟨o',(hs.2 b (dQ (iR (cA e) I.ok.above))).trans e1⟩
  ·by_cases hj:j=i
   ·subst hj
    rw[hi] at e1; cases e1
    rw[rJ hiσ] at e2
    cases e2
    exact⟨u,r,.inl ⟨hk,by simp⟩⟩
   ·rw[nE (eZ hj)] at e2
    obtain⟨u',r',q⟩:=hl j y v' e1 e2 e3
    refine⟨u',r',?_⟩
    rcases q with⟨k,e⟩ | ⟨k,c,e,z⟩
    ·refine .inl ⟨k,?_⟩
     have:y≠x:=fun e=>hj (TH hN e1 (e ▸ hi))
     simp[this,e]
    ·exact .inr ⟨k,c,e,z.sameBut hs (cne y c e)⟩
  ·obtain⟨w',z⟩:=I.cell y c e
   exact⟨w',z.sameBut hs (cne y c e)⟩
  ·obtain⟨e,n,ne,nf,d⟩:=I.pin p hp
   exact⟨(hs.2 p.1 ne).trans e,n,ne,nf,d⟩
 ·have hfn:X.fn x=true:=by
   rcases hf with z | z
   ·exact z
   ·rw[z] at hk; cases hk
  obtain⟨c,hc⟩:=I.ok.has x (.inl hk)
  obtain⟨w',z⟩:=I.cell x c hc
  refine wpAny_storeName_cell I.ok.kind hk hc z (fun h' hc' hs=>?_)
  obtain⟨oc,hoc,hocd⟩:=id z
  refine h { s with heap:=h' } ⟨I.ok,I.os,I.bare,⟨fun b o e n hb hx=>?_,fun b o e n hb hx=>?_,I.base.free,fun b o e hx=>?_,I.base.tups,I.base.frzs,I.base.tbls⟩,⟨m,hn.sameBut hs (eZ (cne x c hc)),fun j y v' e1 e2 e3=>?_⟩,fun y c' e=>?_,I.free,I.freeC,fun p hp=>?_,tracked ⟨oc,hoc,I.freeC x c hc⟩ hs,by simpa using I.len⟩ ⟨c,hs,.inr hc⟩
  ·exact(hs.2 b (dQ (iR (cA e) (I.ok.cab x c hfn hc)))).trans (I.base.keep b o e n hb hx)
  ·obtain⟨sl,e1⟩:=I.base.slot b o e n hb hx
   exact⟨sl,(hs.2 b (dQ (iR (cA e) (I.ok.cab x c hfn hc)))).trans e1⟩
  ·obtain⟨o',e1⟩:=I.base.there b o e hx
   exact⟨o',(hs.2 b (dQ (iR (cA e) (I.ok.cab x c hfn hc)))).trans e1⟩
  ·by_cases hj:j=i
   ·subst hj
    rw[hi] at e1; cases e1
    rw[rJ hiσ] at e2
    cases e2
    exact⟨u,r,.inr ⟨.inl hk,c,hc,hc'⟩⟩
   ·rw[nE (eZ hj)] at e2
    obtain⟨u',r',q⟩:=hl j y v' e1 e2 e3
    refine⟨u',r',?_⟩
    rcases q with q | ⟨k,c',e,z'⟩
    ·exact .inl q
    ·refine .inr ⟨k,c',e,z'.sameBut hs ?_⟩
     rintro rfl
     exact hj (TH hN e1 (I.ok.inj _ _ _ e hc ▸ hi))
  ·by_cases hcc:c'=c
   ·subst hcc; exact⟨_,hc'⟩
   ·obtain⟨w2,z2⟩:=I.cell y c' e
    exact⟨w2,z2.sameBut hs hcc⟩
  ·obtain⟨e,n,ne,nf,d⟩:=I.pin p hp
   refine⟨(hs.2 p.1 ?_).trans e,n,ne,nf,d⟩
   intro q
   rw[q,hoc] at e
   have q':oc=p.2:=eY e
   exact d w' (by rw[← q']; exact hocd)
theorem TY{v:V}{Q:Unit->aJ->Prop}(I:Inv X pins σ H s)(hN:X.N.Nodup)(hi:X.N[i]?=some x)(hx:kA X.env.scope x)(r:RelV v u)
  (h : ∀ s',Inv X pins (σ.set i (some v)) H s'->Q () s') (hf:X.fn x=true \/ X.env.scope.names.lookup x=some .local:=by first | exact .inl rfl | exact .inr rfl | assumption):aM M A (storeName X.env x u) Q E s:=
 US I hN hi hx r (fun s' I' _=>h s' I') hf
theorem Inv.call'(I:Inv X pins σ H s)(ho:s'.os=s.os)(u:Un (frs X.stack) ch H H' s.heap s'.heap)(hok:HOk X.prog X.w H' s'.heap)(hg:rM s'.gens)
  (hch : ∀ b∈ch,(b∈X.ex \/ X.s₀.heap.objs.size≤b)/\b≠X.env.locals/\(∀ x c,X.env.cells.lookup x=some c->c≠b) /\ ∀ p∈X.pn++pins,p.1≠b):Inv X pins σ H' s':=by
 obtain⟨h',g',d',t',o'⟩:=s'
 have e:o'=s.os:=ho
 subst e
 exact I.call (g':=g') (t':=t') (d':=d') u hok hg hch
end
abbrev XK:=aE->Option aD->Hp->Prop
abbrev St:=List (Option V)
abbrev VK:=V->Hp->Prop
abbrev TE:=St->Hp->VK->Prop
abbrev TT:=St->Hp->(Bool->Hp->Prop)->Prop
abbrev TA:=St->Hp->(List V->Hp->Prop)->Prop
structure Ends where
 nx:St->Hp->Prop
 rt:VK
 bk:St->Hp->Prop:=fun _ _=>False
 ct:St->Hp->Prop:=fun _ _=>False
abbrev TS:=Ends->St->Hp->Prop
def EP (X:Cx)(pins:List (aD×bH))(σ:St)(Q:VK)(u:aE)(s':aJ):Prop:=∃ v H',Inv X pins σ H' s'/\RelV v u/\Q v H'
def TP (X:Cx)(pins:List (aD×bH))(σ:St)(Q:Bool->Hp->Prop)(b:Bool)(s':aJ):Prop:=∃ H',Inv X pins σ H' s'/\Q b H'
def AP (X:Cx)(pins:List (aD×bH))(σ:St)(Q:List V->Hp->Prop)(us:List aE)(s':aJ):Prop:=∃ vs H',Inv X pins σ H' s'/\Vals vs us/\Q vs H'
def SP (X:Cx)(pins:List (aD×bH))(D:Ends)(f:Flow)(s':aJ):Prop:=
 match f with
 | .next=>∃ σ' H',Inv X pins σ' H' s'/\D.nx σ' H'
 | .brk=>∃ σ' H',Inv X pins σ' H' s'/\D.bk σ' H'
 | .cont=>∃ σ' H',Inv X pins σ' H' s'/\D.ct σ' H'
 | .ret u=>∃ v σ' H',Inv X pins σ' H' s'/\RelV v u/\D.rt v H'
def PE (X:Cx)(e:aT)(t:TE):Prop:=
 ∀ (pins:List (aD×bH)) (s:aJ) (σ:St) (H:Hp) (Q:VK),Inv X pins σ H s->t σ H Q->aM (aU X.prog X.w) X.A (bY e X.env) (EP X pins σ Q) X.xe s
def PT (X:Cx)(e:aT)(t:TT):Prop:=
 ∀ (pins:List (aD×bH)) (s:aJ) (σ:St) (H:Hp) (Q:Bool->Hp->Prop),Inv X pins σ H s->t σ H Q->aM (aU X.prog X.w) X.A (isTrue e X.env (bY e X.env)) (TP X pins σ Q) X.xe s
def PW (X:Cx)(e:aT)(t:TT):Prop:=
 ∀ (whole:Sem aE) (pins:List (aD×bH)) (s:aJ) (σ:St) (H:Hp) (Q:Bool->Hp->Prop),Inv X pins σ H s->t σ H Q->aM (aU X.prog X.w) X.A (isTrue e X.env whole) (TP X pins σ Q) X.xe s
theorem PW.pt {X:Cx}{t:TT}(h:PW X e t):PT X e t:=h _
def PA (X:Cx)(es:List aT)(t:TA):Prop:=
 ∀ (pos:bZ) (pins:List (aD×bH)) (s:aJ) (σ:St) (H:Hp) (Q:List V->Hp->Prop),Inv X pins σ H s->t σ H Q->aM (aU X.prog X.w) X.A (spliced (fX pos (cC es X.env))) (AP X pins σ Q) X.xe s
def PS (X:Cx)(st:cB)(t:TS):Prop:=
 ∀ (pins:List (aD×bH)) (s:aJ) (σ:St) (H:Hp) (D:Ends),Inv X pins σ H s->t D σ H->aM (aU X.prog X.w) X.A (exec st X.env) (SP X pins D) X.xe s
def PSs (X:Cx)(st:List cB)(t:TS):Prop:=
 ∀ (pins:List (aD×bH)) (s:aJ) (σ:St) (H:Hp) (D:Ends),Inv X pins σ H s->t D σ H->aM (aU X.prog X.w) X.A (execs st X.env) (SP X pins D) X.xe s
theorem thn {α:Type}{t:Sem α}{Q Q':α->aJ->Prop}(h:aM M A t Q E s)(hQ : ∀ a s,Q a s->Q' a s):aM M A t Q' E s:=kZ h hQ fun _ _ x=>x
section
variable {X:Cx}
abbrev Dq (i:Nat):TE:=fun σ H Q=>∃ v,σ[i]?=some (some v)/\Q v H
abbrev tC (v:V):TE:=fun _ H Q=>Q v H
theorem mR(hN:X.N[i]?=some x)(hv:kK X.env.scope x)(hd:(x == ("__debug__" : aC))=false:=by decide)(hcd:(x == ("__classdict__" : aC))=false:=by decide):PE X (.Name x pos) (Dq i):=by
 intro pins s σ H Q I h
 obtain⟨v,e,h⟩:=h
 obtain⟨m,hn,hl⟩:=I.loc
 obtain⟨u,r,l⟩:=hl i x v hN e hv
 have fin:EP X pins σ Q u s:=⟨v,H,I,r,h⟩
 rcases l with⟨hk,hm⟩ | ⟨hk,c,hc,hcell⟩
 ·exact wpAny_Name (wpAny_loadName_local I.ok.kind hk hn hm fin) hd
 ·rcases hk with hk | hk
  ·exact wpAny_Name (wpAny_loadName_cell I.ok.kind hk hc hcell fin) hd
  ·exact wpAny_Name (wpAny_loadName_free I.ok.kind hk hc hcell fin hcd) hd
theorem YL {i j pos}:PE X (.Constant (.int i) j pos) (tC (.int i)):=fun _ _ _ H _ I h=>wpAny_Constant_int ⟨.int i,H,I.tok _,⟨_,rfl⟩,h⟩
theorem Fm {b j pos}:PE X (.Constant (.bool b) j pos) (tC (.bl b)):=fun _ _ _ H _ I h=>Constant_bool ⟨.bl b,H,I,rfl,h⟩
theorem YO {j pos}:PE X (.Constant .none j pos) (tC .non):=fun _ _ _ H _ I h=>Constant_none ⟨.non,H,I,rfl,h⟩
theorem Gk {x j pos}:PE X (.Constant (.str x) j pos) (tC (.str x)):=fun _ _ _ H _ I h=>Calls.Constant_str ⟨.str x,H,I.tok _,⟨_,rfl⟩,h⟩
def Gl (X:Cx)(x:aC):Prop:=X.env.kindOf x=some .globalImplicit
theorem YY{σ:St}{H:Hp}(I:Inv X pins σ H s)(hg:Gl X x)(hm:X.mg x=some u)(h:Q u s)
  (hd:(x == ("__debug__" : aC))=false:=by decide):aM (aU X.prog X.w) X.A (bY (.Name x pos) X.env) Q E s:=
 Calls.Name_function_global I.ok.kind hg (Calls.loadGlobal_global (by rw[I.ok.glob]; exact I.mod.glob.keeps I.bk) hm h) hd
theorem uK{σ:St}{H:Hp}(I:Inv X pins σ H s)(hg:Gl X x)(hm:X.mg x=none)(hv:lU x=some u)(h:Q u s)
  (hn:x ≠ "__name__":=by decide) (hd:(x == ("__debug__" : aC))=false:=by decide):aM (aU X.prog X.w) X.A (bY (.Name x pos) X.env) Q E s:=by
 obtain⟨mb,h1,h2⟩:=I.mod.blt
 exact Calls.Name_function_global I.ok.kind hg (Calls.loadGlobal_builtin (by rw[I.ok.glob]; exact I.mod.glob.keeps I.bk) hm (by rw[I.ok.blt]; exact h1.keeps I.bk) ((h2 x hn).trans hv) h) hd
theorem Mt{v:V}(hg:Gl X x)(hm:X.mg x=some u)(r:RelV v u)(hd:(x == ("__debug__" : aC))=false:=by decide):PE X (.Name x pos) (tC v):=
 fun _ _ _ H _ I h=>YY I hg hm ⟨v,H,I,r,h⟩ hd
theorem Ni{v:V}(hg:Gl X x)(hm:X.mg x=none)(hv:lU x=some u)(r:RelV v u)(hn:x ≠ "__name__":=by decide)(hd:(x == ("__debug__" : aC))=false:=by decide):PE X (.Name x pos) (tC v):=
 fun _ _ _ H _ I h=>uK I hg hm hv ⟨v,H,I,r,h⟩ hn hd
variable {a b:aT}{ta tb:TE}
def tB (t:TE):TT:=fun σ H Q=>t σ H fun x H1=>∃ c,x = .bl c/\Q c H1
theorem Jh{t:TE}(h:PE X e t)(he : ∀ whole,isTrue e X.env whole=(do let v ← whole; standAt e.pos; pH [v] (truthy v)):=by intro _; rfl):PT X e (tB t):=by
 intro pins s σ H Q I hw
 refine isTrue_plain (thn (h pins s σ H _ I hw) fun v s1 ⟨x,H1,I1,r1,q1⟩=>?_) (he _)
 obtain⟨d,rfl,q⟩:=q1
 cases r1
 exact EV ⟨H1,I1,q⟩
variable {tA tB':TT}{rest:List aT}
def Em (t u:TT):TT:=fun σ H Q=>t σ H fun c H1=>if c=true then u σ H1 Q else Q false H1
def tOr (t u:TT):TT:=fun σ H Q=>t σ H fun c H1=>if c=true then Q true H1 else u σ H1 Q
def Dw (t:TT):TT:=fun σ H Q=>t σ H fun c H1=>Q (!c) H1
theorem Kx (ha:PT X a tA):PW X (.BoolOp .And [a] pos) tA:=by
 intro wh pins s σ H Q I h
 refine isTrue_and (thn (ha pins s σ H Q I h) fun c s1 e=>?_)
 cases c with
 | true=>exact isTrue_and_nil e
 | false=>exact e
theorem Ju (ha:PT X a tA):PW X (.BoolOp .Or [a] pos) tA:=by
 intro wh pins s σ H Q I h
 refine isTrue_or (thn (ha pins s σ H Q I h) fun c s1 e=>?_)
 cases c with
 | false=>exact isTrue_or_nil e
 | true=>exact e
theorem Jn (ha:PT X a tA)(hb:PW X (.BoolOp .And (b::rest) pos) tB'):PW X (.BoolOp .And (a::b::rest) pos) (Em tA tB'):=by
 intro wh pins s σ H Q I h
 refine isTrue_and (thn (ha pins s σ H _ I h) fun c s1 gh=>?_)
 obtain⟨H1,I1,q1⟩:=gh
 cases c with
 | true=>exact hb wh pins s1 σ H1 Q I1 q1
 | false=>exact⟨H1,I1,q1⟩
theorem Fc (ha:PT X a tA)(hb:PW X (.BoolOp .Or (b::rest) pos) tB'):PW X (.BoolOp .Or (a::b::rest) pos) (tOr tA tB'):=by
 intro wh pins s σ H Q I h
 refine isTrue_or (thn (ha pins s σ H _ I h) fun c s1 gh=>?_)
 obtain⟨H1,I1,q1⟩:=gh
 cases c with
 | true=>exact⟨H1,I1,q1⟩
 | false=>exact hb wh pins s1 σ H1 Q I1 q1
theorem Ht (ha:PT X a tA):PT X (.UnaryOp .Not a pos) (Dw tA):=by
 intro pins s σ H Q I h
 exact isTrue_not (ha pins s σ H (fun c H1=>Q (!c) H1) I h)
def Gm (ta tb:TE):TE:=fun σ H Q=>ta σ H fun x H1=>∃ c,x = .bl c/\if c=true then tb σ H1 Q else Q (.bl false) H1
def Fh (ta:TE):TE:=fun σ H Q=>ta σ H fun x H1=>∃ c,x = .bl c/\Q (.bl (!c)) H1
theorem Im {op}{t:TE}(h:PE X a t):PE X (.BoolOp op [a] pos) t:=fun pins s σ H Q I hw=>BoolOp_one (h pins s σ H Q I hw)
theorem Jx (ha:PE X a ta)(hb:PE X (.BoolOp .And (b::rest) pos) tb):PE X (.BoolOp .And (a::b::rest) pos) (Gm ta tb):=by
 intro pins s σ H Q I h
 refine BoolOp_and (thn (ha pins s σ H _ I h) fun v s1 gh=>?_)
 obtain⟨x,H1,I1,r1,q1⟩:=gh
 obtain⟨c,rfl,q1⟩:=q1
 cases r1
 refine EV ?_
 cases c with
 | true=>exact hb pins s1 σ H1 Q I1 q1
 | false=>exact⟨.bl false,H1,I1,rfl,q1⟩
theorem Fx (ha:PE X a ta):PE X (.UnaryOp .Not a pos) (Fh ta):=by
 intro pins s σ H Q I h
 refine UnaryOp_ (thn (ha pins s σ H _ I h) fun v s1 gh=>?_)
 obtain⟨x,H1,I1,r1,q1⟩:=gh
 obtain⟨c,rfl,q1⟩:=q1
 cases r1
 exact not_of (EV ⟨.bl (!c),H1,I1,rfl,q1⟩)
def tIf (t:TT)(ta tb:TE):TE:=fun σ H Q=>t σ H fun c H1=>if c=true then ta σ H1 Q else tb σ H1 Q
theorem TK(hc:PT X c tA)(ha:PE X a ta)(hb:PE X b tb):PE X (.IfExp c a b pos) (tIf tA ta tb):=by
 intro pins s σ H Q I h
 refine wpAny_IfExp (thn (hc pins s σ H _ I h) fun d s1 gh=>?_)
 obtain⟨H1,I1,q1⟩:=gh
 cases d with
 | true=>exact ha pins s1 σ H1 Q I1 q1
 | false=>exact hb pins s1 σ H1 Q I1 q1
end
def SqL (K:aK)(H:Hp)(a:aD)(xs:List V):Prop:=
 Rd H a (.lst xs) \/
  ∃ (o:bH) (its:Array aE) (n:Nat),K.lookup a=some o/\o.cls = .type "list" /\ o.dict=none/\o.data = .seq its n/\its.size≤sizeLine/\Vals xs its.toList
def SqT (K:aK)(H:Hp)(a:aD)(xs:List V):Prop:=
 Rd H a (.tup xs) \/
  ∃ (o:bH) (its:Array aE) (n:Nat),K.lookup a=some o/\o.cls = .type "tuple" /\ o.data = .seq its n/\its.size≤sizeLine/\Vals xs its.toList
def Dv:aE->Option V
 | .none=>some .non
 | .bool b=>some (.bl b)
 | .int i _=>some (.int i)
 | .str x _=>some (.str x)
 | .bytes b _=>some (.byt b)
 | .float b _=>some (.flt b)
 | .ref a=>some (.ref a)
 | .type n=>some (.ty n)
 | _=>none
theorem RelV.abs {x:V}(r:RelV x u):Dv u=some x:=by
 cases x with
 | non=>cases r; rfl
 | bl _=>cases r; rfl
 | int _=>obtain⟨t,rfl⟩:=r; rfl
 | str _=>obtain⟨t,rfl⟩:=r; rfl
 | byt _=>obtain⟨t,rfl⟩:=r; rfl
 | flt _=>obtain⟨t,rfl⟩:=r; rfl
 | ref _=>cases r; rfl
 | ty _=>cases r; rfl
theorem RelV.inj {x y:V}(r:RelV x u)(q:RelV y u):x=y:=eY (r.abs.symm.trans q.abs)
theorem Vals.inj : ∀ {xs ys:List V} {us:List aE},Vals xs us->Vals ys us->xs=ys:=by
 intro xs ys us h
 induction h generalizing ys with
 | nil=>intro h; cases h; rfl
 | cons r _ ih=>
  intro h
  cases h with
  | cons r' t'=>rw[r.inj r',ih t']
section
variable {X:Cx}{σ:St}{H:Hp}{xs ys:List V}
theorem SqL.of(h:H a=some (.lst xs)):SqL K H a xs:=.inl (.inl h)
theorem SqT.of(h:H a=some (.tup xs)):SqT K H a xs:=.inl (.inl h)
theorem Inv.list (I:Inv X pins σ H s)(h:SqL X.K H a xs) : ∃ its:List aE,Vals xs its/\PlainL s.heap a its.toArray/\xs.length≤sizeLine:=by
 rcases h with h | ⟨o,its,n,hk,hc,hd,hs,hz,r⟩
 ·obtain⟨z,its,n,r,e⟩:=h.ok I.hok
  exact⟨its,r,⟨_,n,e,rfl,rfl,rfl⟩,z⟩
 ·refine⟨its.toList,r,⟨o,n,I.kIn a o hk,hc,hd,by simpa using hs⟩,?_⟩
  have e:=r.length
  simp only[BK] at e
  omega
theorem Inv.tuple (I:Inv X pins σ H s)(h:SqT X.K H a xs) : ∃ its:List aE,Vals xs its/\IsTup s.heap a its.toArray/\xs.length≤sizeLine:=by
 rcases h with h | ⟨o,its,n,hk,hc,hs,hz,r⟩
 ·obtain⟨z,its,r,p⟩:=h.ok I.hok
  exact⟨its,r,p.1,z⟩
 ·refine⟨its.toList,r,⟨o,I.kIn a o hk,hc,n,by simpa using hs⟩,?_⟩
  have e:=r.length
  simp only[BK] at e
  omega
theorem Inv.list_inj (I:Inv X pins σ H s)(h:SqL X.K H a xs)(h':SqL X.K H a ys):xs=ys:=by
 obtain⟨its,r,⟨o,n,e,_,_,d⟩,_⟩:=I.list h
 obtain⟨its',r',⟨o',n',e',_,_,d'⟩,_⟩:=I.list h'
 rw[e] at e'; cases e'
 rw[d] at d'
 injection d' with d1 _
 have:its=its':=by simpa using congrArg Array.toList d1
 subst this
 exact r.inj r'
theorem Inv.tuple_inj (I:Inv X pins σ H s)(h:SqT X.K H a xs)(h':SqT X.K H a ys):xs=ys:=by
 obtain⟨its,r,⟨o,e,_,n,d⟩,_⟩:=I.tuple h
 obtain⟨its',r',⟨o',e',_,n',d'⟩,_⟩:=I.tuple h'
 rw[e] at e'; cases e'
 rw[d] at d'
 injection d' with d1 _
 have:its=its':=by simpa using congrArg Array.toList d1
 subst this
 exact r.inj r'
end
abbrev Cx.wish (X:Cx)(E:aE->aJ->Prop):Cx:={ X with xe:=E }
abbrev Cx.nox (X:Cx):Cx:=X.wish fun _ _=>False
theorem Cx.Ok.wish {X:Cx}(ok:X.Ok)(E:aE->aJ->Prop):(X.wish E).Ok:=
 ⟨ok.mod,ok.kind,ok.glob,ok.blt,ok.above,ok.inj,ok.has,ok.cab,ok.hd,ok.frames,ok.stk,ok.exf,ok.bs,ok.bsz,ok.noex,ok.exfs,ok.funs,ok.frf⟩
theorem Cx.Ok.unwish {X:Cx}(ok:(X.wish E).Ok):X.Ok:=
 ⟨ok.mod,ok.kind,ok.glob,ok.blt,ok.above,ok.inj,ok.has,ok.cab,ok.hd,ok.frames,ok.stk,ok.exf,ok.bs,ok.bsz,ok.noex,ok.exfs,ok.funs,ok.frf⟩
section
variable {X:Cx}{σ:St}{H:Hp}
theorem Inv.wish (I:Inv X pins σ H s)(E:aE->aJ->Prop):Inv (X.wish E) pins σ H s:=⟨I.ok.wish E,I.os,I.bare,I.base,I.loc,I.cell,I.free,I.freeC,I.pin,I.hok,I.len⟩
theorem Inv.unwish (I:Inv (X.wish E) pins σ H s):Inv X pins σ H s:=⟨I.ok.unwish,I.os,I.bare,I.base,I.loc,I.cell,I.free,I.freeC,I.pin,I.hok,I.len⟩
theorem SP.unwish {D:Ends}{f:Flow}(h:SP (X.wish E) pins D f s'):SP X pins D f s':=by
 cases f with
 | next=>obtain⟨σ',H',I,q⟩:=h; exact⟨σ',H',I.unwish,q⟩
 | brk=>obtain⟨σ',H',I,q⟩:=h; exact⟨σ',H',I.unwish,q⟩
 | cont=>obtain⟨σ',H',I,q⟩:=h; exact⟨σ',H',I.unwish,q⟩
 | ret u=>obtain⟨v,σ',H',I,r,q⟩:=h; exact⟨v,σ',H',I.unwish,r,q⟩
theorem PSs.nox {st:List cB}{t:TS}(h:PSs X.nox st t):PSs X st t:=fun pins s σ H D I hw=>
 kZ (h pins s σ H D (I.wish _) hw) (fun _ _ q=>q.unwish) fun _ _ z=>pT z
end
section
variable {X:Cx}{st:cB}{rest:List cB}{t u:TS}{te:TE}
def Fd:TS:=fun D σ H=>D.nx σ H
def Ej (t u:TS):TS:=fun D σ H=>t { D with nx:=u D } σ H
theorem Ms:PSs X [] Fd:=fun _ _ σ H _ I h=>MO ⟨σ,H,I,h⟩
theorem Wi (h1:PS X st t)(h2:PSs X rest u):PSs X (st::rest) (Ej t u):=by
 intro pins s σ H D I h
 refine wpAny_execs_cons (thn (h1 pins s σ H { D with nx:=u D } I h) fun f s1 q=>?_)
 cases f with
 | next=>
  obtain⟨σ',H',I',q⟩:=q
  exact h2 pins s1 σ' H' D I' q
 | ret v=>exact q
 | brk=>exact q
 | cont=>exact q
theorem Nv (h1:PS X st t):PSs X [st] t:=by
 intro pins s σ H D I h
 refine wpAny_execs_cons (thn (h1 pins s σ H D I h) fun f s1 q=>?_)
 cases f with
 | next=>exact MO q
 | ret v=>exact q
 | brk=>exact q
 | cont=>exact q
theorem Inv.quiet{σ:St}{H:Hp}(I:Inv X pins σ H s):interactive X.env=false:=by simp[interactive,I.ok.kind]
def Gp (te:TE):TS:=fun D σ H=>te σ H fun _ H1=>D.nx σ H1
theorem HM (he:PE X e te)(hs:mZ e none pos.line X.env=pure false:=by rfl):PS X (.Expr e pos) (Gp te):=by
 intro pins s σ H D I h
 exact wpAny_Expr_any (thn (he pins s σ H _ I h) fun v s1 ⟨x,H1,I1,r1,q1⟩=>⟨σ,H1,I1,q1⟩) I.quiet hs
def Ds (te:TE):TS:=fun D σ H=>te σ H D.rt
theorem BV (he:PE X e te):PS X (.Return (some e) pos) (Ds te):=by
 intro pins s σ H D I h
 exact wpAny_Return_some (thn (he pins s σ H _ I h) fun v s1 ⟨x,H1,I1,r1,q1⟩=>⟨x,σ,H1,I1,r1,q1⟩)
def Do (c:TT)(t u:TS):TS:=fun D σ H=>c σ H fun b H1=>if b=true then t D σ H1 else u D σ H1
theorem Ey{a b:List cB}{tc:TT}(hc:PT X c tc)(ha:PSs X a t)(hb:PSs X b u):PS X (.If c a b pos) (Do tc t u):=by
 intro pins s σ H D I h
 refine wpAny_If (thn (hc pins s σ H _ I h) fun d s1 gh=>?_)
 obtain⟨H1,I1,q1⟩:=gh
 cases d with
 | true=>exact ha pins s1 σ H1 D I1 q1
 | false=>exact hb pins s1 σ H1 D I1 q1
end
abbrev TG:=V->St->Hp->(St->Hp->Prop)->Prop
abbrev TGs:=List V->St->Hp->(St->Hp->Prop)->Prop
def PG (X:Cx)(target:aT)(t:TG):Prop:=
 ∀ (pins:List (aD×bH)) (s:aJ) (σ:St) (H:Hp) (v:V) (u:aE) (Q:St->Hp->Prop),Inv X pins σ H s->RelV v u->t v σ H Q ->
  aM (aU X.prog X.w) X.A (jW target X.env u) (fun _ s'=>∃ σ' H',Inv X pins σ' H' s'/\Q σ' H') X.xe s
def PGs (X:Cx)(ts:List aT)(t:TGs):Prop:=
 ∀ (pins:List (aD×bH)) (s:aJ) (σ:St) (H:Hp) (vs:List V) (us:List aE) (Q:St->Hp->Prop),Inv X pins σ H s->Vals vs us->t vs σ H Q ->
  aM (aU X.prog X.w) X.A (assignInOrder ((iO ts X.env).map (·.2)) us) (fun _ s'=>∃ σ' H',Inv X pins σ' H' s'/\Q σ' H') X.xe s
abbrev GB:=V->V->V->Hp->(Hp->Prop)->Prop
def OP (X:Cx)(t:GB):Prop:=
 ∀ (pins:List (aD×bH)) (s:aJ) (σ:St) (H:Hp) (o i v:V) (ov iv u:aE) (Q:Hp->Prop),Inv X pins σ H s->RelV o ov->RelV i iv->RelV v u->t o i v H Q ->
  aM (aU X.prog X.w) X.A (setItem ov iv u) (fun _ s'=>∃ H',Inv X pins σ H' s'/\Q H') X.xe s
section
variable {X:Cx}
def EO (i:Nat):TG:=fun v σ H Q=>Q (σ.set i (some v)) H
theorem uW(hN:X.N.Nodup)(hi:X.N[i]?=some x)(hx:kA X.env.scope x)(hf:X.fn x=true \/ X.env.scope.names.lookup x=some .local:=by first | exact .inl rfl | exact .inr rfl | assumption):PG X (.Name x pos) (EO i):=by
 intro pins s σ H v u Q I r h
 exact wpAny_assign_Name (TY I hN hi hx r (fun s' I'=>⟨_,H,I',h⟩) hf)
def Dp:TGs:=fun vs σ H Q=>vs=[]/\Q σ H
def Eg (t:TG)(u:TGs):TGs:=fun vs σ H Q=>∃ v r,vs=v::r/\t v σ H fun σ' H'=>u r σ' H' Q
theorem Ae:PGs X [] Dp:=by
 intro pins s σ H vs us Q I r h
 obtain⟨e,h⟩:=h
 subst e
 cases r
 exact assignInOrder_nil ⟨σ,H,I,h⟩
theorem DH{t:TG}{u:TGs}(h1:PG X e t)(h2:PGs X es u)
  (hs:(iO (e::es) X.env).map (·.2)=jW e X.env::(iO es X.env).map (·.2):=by rfl):PGs X (e::es) (Eg t u):=by
 intro pins s σ H vs us Q I r h
 obtain⟨v,vr,e1,h⟩:=h
 subst e1
 cases r with
 | cons r rr=>
  rw[hs]
  refine assignInOrder_cons (thn (h1 pins s σ H _ _ _ I r h) fun _ s1 gh=>?_)
  obtain⟨σ1,H1,I1,q1⟩:=gh
  exact h2 pins s1 σ1 H1 _ _ Q I1 rr q1
def Cy (K:aK)(n:Nat)(t:TGs):TG:=fun v σ H Q=>∃ a xs,v = .ref a/\SqT K H a xs/\xs.length=n/\t xs σ H Q
theorem QJ{t:TGs}{n:Nat}(hc:X.calm=true)(h:PGs X es t)
  (hn:(iO es X.env).length=n:=by rfl) (hst:(iO es X.env).findIdx? (·.1)=none:=by rfl):PG X (.Tuple es k pos) (Cy X.K n t):=by
 intro pins s σ H v u Q I r hw
 obtain⟨a,xs,e1,hq,hl,hw⟩:=hw
 subst e1
 cases r
 obtain⟨its,rv,ht,hz⟩:=I.tuple hq
 refine assign_Tuple_tuple (I.ok.hd hc) ht (by simp[hn,← hl,rv.length]) hst fun h' hx=>?_
 have I1:Inv X pins σ H { s with heap:=h' }:=I.kept (t':=s.toks) fun b o e=>hx b o (dQ (cA e)) e
 exact h pins _ σ H xs _ Q I1 (by simpa using rv) hw
def Cz (to ti:TE)(t:GB):TG:=fun v σ H Q=>to σ H fun o H1=>ti σ H1 fun i H2=>t o i v H2 fun H3=>Q σ H3
theorem Gb {o i:aT}{to ti:TE}{t:GB}(ho:PE X o to)(hi:PE X i ti)(hs:OP X t)
  (ha : ∀ v,jW (.Subscript o i pos) X.env v=(do
   let ov ← pH [v] (bY o X.env)
   let iv ← pH [v,ov] (bY i X.env)
   standAt pos
   pH [v,ov,iv] (setItem ov iv v)
   release [v,ov,iv] []):=by intro _; rfl):PG X (.Subscript o i pos) (Cz to ti t):=by
 intro pins s σ H v u Q I r h
 rw[ha]
 refine aF (jV (thn (ho pins s σ H _ I h) fun ov s1 gh=>?_))
 obtain⟨x,H1,I1,r1,q1⟩:=gh
 refine aF (jV (thn (hi pins s1 σ H1 _ I1 q1) fun iv s2 gh=>?_))
 obtain⟨y,H2,I2,r2,q2⟩:=gh
 refine aF (wpAny_standAt (aF (jV (thn (hs pins s2 σ H2 x y v ov iv u _ I2 r1 r2 r q2) fun _ s3 gh=>?_))))
 obtain⟨H3,I3,q3⟩:=gh
 exact wpAny_release ⟨σ,H3,I3,q3⟩
def GA (te:TE)(g:TG):TS:=fun D σ H=>te σ H fun x H1=>g x σ H1 D.nx
theorem Hf{te:TE}{g:TG}(he:PE X e te)(hg:PG X tg g)(hs:swapsWithSole [tg] e pos.line X.env=pure false:=by rfl)(hw:swappedStores [tg] e X.env=pure none:=by rfl)
  (h1:(iO [tg] X.env).map (·.2)=[jW tg X.env]:=by rfl):PS X (.Assign [tg] e pos) (GA te g):=by
 intro pins s σ H D I h
 refine wpAny_Assign_stores (thn (he pins s σ H _ I h) fun v s1 ⟨x,H1,I1,r1,q1⟩=>?_) hs hw
 rw[h1]
 exact thn (hg pins s1 σ H1 x v _ I1 r1 q1) fun _ s2 q=>q
theorem YS{te:TE}{pos':bZ}(hN:X.N.Nodup)(hi:X.N[i]?=some x)(hx:kA X.env.scope x)(he:PE X e te)(hs:mZ e (some (.Name x pos')) pos.line X.env=pure false:=by rfl)(hf:X.fn x=true \/ X.env.scope.names.lookup x=some .local:=by first | exact .inl rfl | exact .inr rfl | assumption) :
  PS X (.Assign [.Name x pos'] e pos) (GA te (EO i)):=by
 intro pins s σ H D I h
 refine wpAny_Assign_Name (thn (he pins s σ H _ I h) fun v s1 ⟨y,H1,I1,r1,q1⟩=>?_) hs
 exact TY I1 hN hi hx r1 (fun s2 I2=>⟨_,H1,I2,q1⟩) hf
end
section
variable {X:Cx}
def Iu (c:TT)(tb:TS):TS:=fun D σ H=>∃ W:Nat->St->Hp->Prop,(∃ m,W m σ H) /\ ∀ m σ H,W m σ H ->
 c σ H fun b H1=>if b=true then ∃ N:St->Hp->Prop,(∀ σ' H',N σ' H' -> ∃ m',m'<m/\W m' σ' H')/\tb { D with nx:=N,ct:=N,bk:=D.nx } σ H1 else D.nx σ H1
theorem Vv{tc:TT}{tb:TS}(hp:AU (aU X.prog X.w) X.A X.env X.xe)(hc:PT X c tc)(hb:PSs X body tb):PS X (.While c body [] pos) (Iu tc tb):=by
 intro pins s σ H D I h
 obtain⟨W,⟨m0,w0⟩,turn⟩:=h
 refine wpAny_While (codeAny_whileLoop (fun n s'=>∃ σ' H',Inv X pins σ' H' s'/\W n σ' H') ?_ m0 ⟨σ,H,I,w0⟩)
 rintro n s1 ⟨σ1,H1,I1,w1⟩
 refine wD hp (thn (hc pins s1 σ1 H1 _ I1 (turn n σ1 H1 w1)) fun b s2 gh=>?_)
 obtain⟨H2,I2,q2⟩:=gh
 cases b with
 | true=>
  obtain⟨N,hN,q2⟩:=q2
  rw[if_pos rfl]
  refine wD hp (thn (hb pins s2 σ1 H2 _ I2 q2) fun f s3 q3=>?_)
  cases f with
  | next=>
   obtain⟨σ3,H3,I3,n3⟩:=q3
   obtain⟨m',hm,w3⟩:=hN σ3 H3 n3
   exact⟨m',hm,σ3,H3,I3,w3⟩
  | cont=>
   obtain⟨σ3,H3,I3,n3⟩:=q3
   obtain⟨m',hm,w3⟩:=hN σ3 H3 n3
   exact⟨m',hm,σ3,H3,I3,w3⟩
  | brk=>exact q3
  | ret v=>exact q3
 | false=>
  rw[if_neg jZ]
  exact MO ⟨σ1,H2,I2,q2⟩
end
structure It where
 go:Nat->Hp->Prop
 yld:Nat->Hp->V->Hp->Prop
 stop:Nat->Hp->Prop
def iV (X:Cx)(pins:List (aD×bH))(H:Hp)(b:aD):Prop:=
 H b=none/\b≠X.env.locals/\b∉X.fs/\(b∈X.ex \/ X.s₀.heap.objs.size≤b)/\(∀ x c,X.env.cells.lookup x=some c->c≠b) /\ ∀ p∈X.pn++pins,p.1≠b
theorem Inv.fpOk {X:Cx}{σ:St}{H H':Hp}(I:Inv X pins σ H s)(hb:s.heap.objs.size≤b)(hn:H' b=none):iV X pins H' b:=by
 refine⟨hn,nC (iR I.lt hb),I.nofs hb,.inr (eO I.sz hb),fun x c e z=>?_,fun p hp z=>?_⟩
 ·obtain⟨v,q⟩:=I.cell x c e
  exact absurd (iR q.lt (by rw[z]; exact hb)) (kI _)
 ·exact absurd (iR (cA (I.pin p hp).1) (by rw[z]; exact hb)) (kI _)
structure Turn (P:bT)(w:bI)(K:aK)(tg:aT)(J:It)(fp:List aD)(it:aD)(tn:Nat->aZ->Prop):Prop where
 mem:it∈fp
 obj : ∀ i h,tn i h -> ∀ b∈fp,∃ o,h.get? b=some o /\ ∀ v,o.data ≠ .cell v
 keep : ∀ i h h',tn i h->(∀ b∈fp,∀ o,h.get? b=some o->h'.get? b=some o)->tn i h'
 item : ∀ (X:Cx),X.prog=P->X.w=w->X.K=K->X.calm=true -> ∀ (i:Nat) (pins:List (aD×bH)) (s:aJ) (σ:St) (H:Hp) (E:aE->aJ->Prop),Inv X pins σ H s->(∀ b∈fp,iV X pins H b)->tn i s.heap->J.go i H ->
  aM (aU P w) X.A (fW (.ref it)) (fun r s1=>∃ u,r=some u /\
   aM (aU P w) X.A (MR tg (.ref it) u) (fun _ s2=>∃ x H',Inv X pins σ H' s2/\RelV x u/\J.yld i H x H'/\tn (i+1) s2.heap /\ ∀ b∈fp,H' b=none) E s1) E s
 done : ∀ (X:Cx),X.prog=P->X.w=w->X.K=K->X.calm=true -> ∀ (i:Nat) (pins:List (aD×bH)) (s:aJ) (σ:St) (H:Hp) (E:aE->aJ->Prop),Inv X pins σ H s->(∀ b∈fp,iV X pins H b)->tn i s.heap->J.stop i H ->
  aM (aU P w) X.A (fW (.ref it)) (fun r s1=>r=none/\Inv X pins σ H s1) E s
 self : ∀ (A:cM) (i:Nat) (s:aJ) (Q:aE->aJ->Prop) (E:aE->aJ->Prop),tn i s.heap->Q (.ref it) s->aM (aU P w) A (lR (.ref it)) Q E s
abbrev TI:=St->Hp->(It->Hp->Prop)->Prop
def PIE (X:Cx)(pins:List (aD×bH))(σ:St)(tg:aT)(R:It->Hp->Prop)(itv:aE)(s2:aJ):Prop:=
 ∃ (it:aD) (fp:List aD) (tn:Nat->aZ->Prop) (J:It) (H':Hp),itv = .ref it/\Inv X pins σ H' s2/\Turn X.prog X.w X.K tg J fp it tn/\tn 0 s2.heap/\(∀ b∈fp,iV X pins H' b)/\R J H'
def PI (X:Cx)(tg iter:aT)(wi:TI):Prop:=
 ∀ (pins:List (aD×bH)) (s:aJ) (σ:St) (H:Hp) (R:It->Hp->Prop),Inv X pins σ H s->wi σ H R ->
  aM (aU X.prog X.w) X.A (bY iter X.env) (fun v s1=>aM (aU X.prog X.w) X.A (lR v) (PIE X pins σ tg R) X.xe s1) X.xe s
theorem sG{it:aD}{n:String}{vs:Array aE}{Q:Unit->aJ->Prop}(ho:s.heap.get? it=some o)(hc:o.cls = .type n)(hd:o.data = .fields vs)
    (hn:["enumerate","zip","dict_itemiterator","dict_reverseitemiterator","odict_iterator","itertools.zip_longest","itertools.pairwise"].contains n=false) (hQ:Q () s):aM M A (MR tg (.ref it) u) Q E s:=by
  unfold MR
  cases tg <;> first
    | exact aP hQ
    | (cases u <;> first
        | exact aP hQ
        | (refine aF (wpAny_load ho ?_)
           rw[hc,hd]
           show aM M A (if (["enumerate","zip","dict_itemiterator","dict_reverseitemiterator","odict_iterator","itertools.zip_longest","itertools.pairwise"].contains n&&vs[0]? == some (eU _))=true then _ else _) Q E s
           rw[if_neg (by intro h; rw[hn,Bool.false_and] at h; cases h)]
           exact aP hQ))
def FW (K:aK)(a:aD):It:=
 ⟨fun i H=>∃ xs x,SqL K H a xs/\xs[i]?=some x,fun i H x H'=>H'=H /\ ∀ xs,SqL K H a xs->xs[i]?=some x,fun i H=>∃ xs,SqL K H a xs/\xs.length≤i⟩
def FU (K:aK)(a:aD):It:=
 ⟨fun i H=>∃ xs x,SqT K H a xs/\xs[i]?=some x,fun i H x H'=>H'=H /\ ∀ xs,SqT K H a xs->xs[i]?=some x,fun i H=>∃ xs,SqT K H a xs/\xs.length≤i⟩
def BN (lo:Int)(n:Nat):It:=⟨fun i _=>i<n,fun i H x H'=>H'=H/\x = .int (lo+i),fun i _=>n≤i⟩
theorem Pg {P:bT}{w:bI}(a it:aD):Turn P w K tg (FW K a) [it] it (fun i h=>h.IsListIter it a i) where
 mem:=by simp
 obj:=fun i h st b hb=>by
  have e:b=it:=by simpa using hb
  subst e
  obtain⟨o,e,c,d⟩:=st
  exact⟨o,e,fun v z=>by rw[d] at z; cases z⟩
 keep:=fun i h h' st k=>st.at fun o e=>k it (by simp) o e
 item:=by
  intro X hP hw hK hc i pins s σ H E I hf st hg
  subst hP hw hK
  obtain⟨xs,x,hq,hx⟩:=hg
  obtain⟨its,rv,p,hz⟩:=I.list hq
  obtain⟨u,hu,ru⟩:=rv.get hx
  obtain⟨f0,f1,f2,f3,f4,f5⟩:=hf it (by simp)
  refine wpAny_pyNext_list_item st p.isList (x:=u) (by simpa using hu) fun h' st' sb=>?_
  have I1:Inv X pins σ H { s with heap:=h' }:=I.turned (t':=s.toks) (fun b o hb e=>(sb.2 b hb).trans e) f0 f1 f3 f4 f5
  obtain⟨o,e,c,d⟩:=id st'
  exact⟨u,rfl,sG (s:={ s with heap:=h' }) e c d (by decide) ⟨x,H,I1,ru,⟨rfl,fun ys hy=>by rw[I.list_inj hy hq]; exact hx⟩,st',fun b hb=>(hf b hb).1⟩⟩
 done:=by
  intro X hP hw hK hc i pins s σ H E I hf st hg
  subst hP hw hK
  obtain⟨xs,hq,hx⟩:=hg
  obtain⟨its,rv,p,hz⟩:=I.list hq
  obtain⟨f0,f1,f2,f3,f4,f5⟩:=hf it (by simp)
  have hl:=rv.length
  exact wpAny_pyNext_list_end (I.ok.hd hc) st p.isList (by simp; omega) fun h' eb=>⟨rfl,I.turned (t':=s.toks) (fun b o hb e=>eb b o hb e) f0 f1 f3 f4 f5⟩
 self:=fun _ _ _ _ _ st h=>wpAny_pyIter_listiter st h
theorem Rf {P:bT}{w:bI}(a it:aD):Turn P w K tg (FU K a) [it] it (fun i h=>h.IsTupleIter it a i) where
 mem:=by simp
 obj:=fun i h st b hb=>by
  have e:b=it:=by simpa using hb
  subst e
  obtain⟨o,e,c,d⟩:=st
  exact⟨o,e,fun v z=>by rw[d] at z; cases z⟩
 keep:=fun i h h' st k=>st.at fun o e=>k it (by simp) o e
 item:=by
  intro X hP hw hK hc i pins s σ H E I hf st hg
  subst hP hw hK
  obtain⟨xs,x,hq,hx⟩:=hg
  obtain⟨its,rv,p,hz⟩:=I.tuple hq
  obtain⟨u,hu,ru⟩:=rv.get hx
  obtain⟨f0,f1,f2,f3,f4,f5⟩:=hf it (by simp)
  refine wpAny_pyNext_tuple_item st (show s.heap.IsTuple a its.toArray from p) (x:=u) (by simpa using hu) fun h' st' sb=>?_
  have I1:Inv X pins σ H { s with heap:=h' }:=I.turned (t':=s.toks) (fun b o hb e=>(sb.2 b hb).trans e) f0 f1 f3 f4 f5
  obtain⟨o,e,c,d⟩:=id st'
  exact⟨u,rfl,sG (s:={ s with heap:=h' }) e c d (by decide) ⟨x,H,I1,ru,⟨rfl,fun ys hy=>by rw[I.tuple_inj hy hq]; exact hx⟩,st',fun b hb=>(hf b hb).1⟩⟩
 done:=by
  intro X hP hw hK hc i pins s σ H E I hf st hg
  subst hP hw hK
  obtain⟨xs,hq,hx⟩:=hg
  obtain⟨its,rv,p,hz⟩:=I.tuple hq
  obtain⟨f0,f1,f2,f3,f4,f5⟩:=hf it (by simp)
  have hl:=rv.length
  exact wpAny_pyNext_tuple_end (I.ok.hd hc) st (show s.heap.IsTuple a its.toArray from p) (by simp; omega) fun h' eb=>⟨rfl,I.turned (t':=s.toks) (fun b o hb e=>eb b o hb e) f0 f1 f3 f4 f5⟩
 self:=fun _ _ _ _ _ st h=>wpAny_pyIter_tupleiter st h
theorem Ra {P:bT}{w:bI}(it:aD)(lo:Int)(n:Nat):Turn P w K tg (BN lo n) [it] it (fun i h=>IsRangeIter h it (lo+(i:Nat)*1) ((n:Int) - (i:Nat)) 1) where
 mem:=by simp
 obj:=fun i h st b hb=>by
  have e:b=it:=by simpa using hb
  subst e
  exact⟨_,st,fun v z=>by
   have z':Data.fields _=Data.cell v:=z
   cases z'⟩
 keep:=fun i h h' st k=>k it (by simp) _ st
 item:=by
  intro X hP hw hK hc i pins s σ H E I hf st hg
  subst hP hw hK
  obtain⟨f0,f1,f2,f3,f4,f5⟩:=hf it (by simp)
  have W:=Walks.range (prog:=X.prog) (w:=X.w) (I.ok.hd hc) it lo 1 n
  refine W.item i s _ _ hg st fun v h' tk hv st' kk=>?_
  obtain⟨t,rfl⟩:=hv
  have I1:Inv X pins σ H { s with heap:=h',toks:=tk }:=I.turned (fun b o hb e=>kk b o (by simpa using hb) e) f0 f1 f3 f4 f5
  refine⟨_,rfl,sG (s:={ s with heap:=h',toks:=tk }) (n:="range_iterator") st' rfl rfl (by decide) ⟨.int (lo+i),H,I1,⟨t,?_⟩,⟨rfl,rfl⟩,st',fun b hb=>(hf b hb).1⟩⟩
  rw[Int.mul_one]
 done:=by
  intro X hP hw hK hc i pins s σ H E I hf st hg
  subst hP hw hK
  obtain⟨f0,f1,f2,f3,f4,f5⟩:=hf it (by simp)
  exact wpAny_pyNext_range_end (I.ok.hd hc) st (by have:n≤i:=hg; omega) fun h' eb=>⟨rfl,I.turned (t':=s.toks) (fun b o hb e=>eb b o hb e) f0 f1 f3 f4 f5⟩
 self:=fun _ _ _ _ _ st h=>wpAny_pyIter_rangeiter st h
section
variable {X:Cx}
def Dx (K:aK)(tl:TE):TI:=fun σ H R=>tl σ H fun x H1=>∃ a,x = .ref a/\(∃ xs,SqL K H1 a xs)/\R (FW K a) H1
def Di (K:aK)(tl:TE):TI:=fun σ H R=>tl σ H fun x H1=>∃ a,x = .ref a/\(∃ xs,SqT K H1 a xs)/\R (FU K a) H1
theorem Kz {l:aT}{tl:TE}(hl:PE X l tl):PI X tg l (Dx X.K tl):=by
 intro pins s σ H R I h
 refine thn (hl pins s σ H _ I h) fun v s1 gh=>?_
 obtain⟨x,H1,I1,r1,q1⟩:=gh
 obtain⟨a,e,⟨xs,hq⟩,q⟩:=q1
 subst e
 cases r1
 obtain⟨its,rv,p,hz⟩:=I1.list hq
 refine EX p.isList ?_
 refine⟨s1.heap.objs.size,[s1.heap.objs.size],_,_,H1,rfl,I1.kept (t':=s1.toks) fun b o e=>bW _ e,Pg a _,⟨_,dA _ rfl,rfl,rfl⟩,fun b hb=>?_,q⟩
 have e:b=s1.heap.objs.size:=by simpa using hb
 subst e
 exact I1.fpOk (bE _) (I1.hok.fresh (bE _))
theorem Iw {l:aT}{tl:TE}(hl:PE X l tl):PI X tg l (Di X.K tl):=by
 intro pins s σ H R I h
 refine thn (hl pins s σ H _ I h) fun v s1 gh=>?_
 obtain⟨x,H1,I1,r1,q1⟩:=gh
 obtain⟨a,e,⟨xs,hq⟩,q⟩:=q1
 subst e
 cases r1
 obtain⟨its,rv,p,hz⟩:=I1.tuple hq
 refine wpAny_pyIter_tuple (show s1.heap.IsTuple a its.toArray from p) ?_
 refine⟨s1.heap.objs.size,[s1.heap.objs.size],_,_,H1,rfl,I1.kept (t':=s1.toks) fun b o e=>bW _ e,Rf a _,⟨_,dA _ rfl,rfl,rfl⟩,fun b hb=>?_,q⟩
 have e:b=s1.heap.objs.size:=by simpa using hb
 subst e
 exact I1.fpOk (bE _) (I1.hok.fresh (bE _))
theorem Vn{σ:St}{H:Hp}{R:It->Hp->Prop}{lo hi:Int}{t u v:Tok}{tk:Nat}(I:Inv X pins σ H s)(h1 : -(2 ^ 62)≤lo)(h2:lo<2 ^ 62)(h3 : -(2 ^ 62)≤hi)(h4:hi<2 ^ 62)
  (q:R (BN lo (hi - lo).toNat) H):aM (aU X.prog X.w) X.A (lR (.ref s.heap.objs.size)) (PIE X pins σ tg R) E { s with heap:=s.heap.push { cls:=.type "range",data:=.fields #[.int lo t,.int hi u,.int 1 v] },toks:=tk }:=by
 refine wpAny_pyIter_range (IsRange.new ..) (small_one h1 h2 h3 h4) ?_
 have I1:Inv X pins σ H { s with heap:=s.heap.push { cls:=.type "range",data:=.fields #[.int lo t,.int hi u,.int 1 v] },toks:=tk }:=I.kept fun b o e=>bW _ e
 refine⟨(s.heap.push { cls:=.type "range",data:=.fields #[.int lo t,.int hi u,.int 1 v] }).objs.size,[(s.heap.push { cls:=.type "range",data:=.fields #[.int lo t,.int hi u,.int 1 v] }).objs.size],_,_,H,rfl,
  I1.kept (t':=tk) fun b o e=>bW _ e,Ra _ lo (hi - lo).toNat,?_,fun b hb=>?_,q⟩
 ·have e1:lo+((0:Nat):Int)*1=lo:=by simp
  have e2:(((hi - lo).toNat:Nat):Int) - ((0:Nat):Int)=Builtin.Range.rangeSize lo hi 1:=by rw[rangeSize_one]; split <;> omega
  show IsRangeIter _ _ (lo+((0:Nat):Int)*1) ((((hi - lo).toNat:Nat):Int) - ((0:Nat):Int)) 1
  rw[e1,e2]
  exact dA _ rfl
 ·have e:b=(s.heap.push { cls:=.type "range",data:=.fields #[.int lo t,.int hi u,.int 1 v] }).objs.size:=by simpa using hb
  subst e
  exact I1.fpOk (bE _) (I1.hok.fresh (bE _))
def Gq (ta:TA):TI:=fun σ H R=>ta σ H fun vs H1=>∃ j:Int,vs=[.int j] /\ -(2 ^ 62)≤j/\j<2 ^ 62/\R (BN 0 j.toNat) H1
theorem Zs {a:aT}{ta:TA}(hg:Gl X "range")(hm:X.mg "range" = none)(ha:PA X [a] ta)(hs:cC [a] X.env=[(false,bY a X.env)]:=by rfl):PI X tg (.Call (.Name "range" p) [a] [] pos) (Gq ta):=by
 intro pins s σ H R I h
 refine Call_ (uK I hg hm boot_range (MU (thn (ha pos pins s σ H _ I h) fun us s1 ⟨vs,H1,I1,r1,q1⟩=>?_) hs rfl))
 obtain⟨j,e,q1,q2,q⟩:=q1
 subst e
 cases r1 with
 | cons r rr=>
  cases rr
  obtain⟨t,rfl⟩:=r
  exact call_range_1 (Vn I1 (by omega) (by omega) q1 q2 (by simpa using q))
def Dm (wi:TI)(g:TG)(tb:TS):TS:=fun D σ H=>wi σ H fun J H1=>∃ W:Nat->Nat->St->Hp->Prop,(∃ m,W 0 m σ H1) /\ ∀ i m σ H,W i m σ H ->
 (J.stop i H/\D.nx σ H) \/ (J.go i H /\ ∃ N:St->Hp->Prop,(∀ σ' H',N σ' H' -> ∃ m',m'<m/\W (i+1) m' σ' H') /\ ∀ x H',J.yld i H x H'->g x σ H' fun σ2 H2=>tb { D with nx:=N,ct:=N,bk:=D.nx } σ2 H2)
def xY (fp:List aD)(h:aZ):List (aD×bH):=fp.filterMap fun b=>(h.get? b).map fun o=>(b,o)
theorem DZ(hb:b∈fp)(e:h.get? b=some o):(b,o)∈xY fp h:=FG.mpr ⟨b,hb,by rw[e]; rfl⟩
theorem a8{p:aD×bH}(hp:p∈xY fp h):p.1∈fp/\h.get? p.1=some p.2:=by
 obtain⟨b,hb,e⟩:=FG.mp hp
 cases q:h.get? b with
 | none=>rw[q] at e; cases e
 | some o=>
  rw[q] at e
  have e':(b,o)=p:=eY e
  subst e'
  exact⟨hb,q⟩
theorem Inv.pinned{σ:St}{H:Hp}(I:Inv X pins σ H s)(hf : ∀ b∈fp,iV X pins H b)(ho : ∀ b∈fp,∃ o,s.heap.get? b=some o /\ ∀ v,o.data ≠ .cell v):Inv X (pins++xY fp s.heap) σ H s:=
 I.pins_of fun p hp=>(oE.mp hp).elim (fun z=>I.pin p (mD _ z)) fun z=>by
  obtain⟨hb,e⟩:=a8 z
  obtain⟨f0,f1,f2,_⟩:=hf p.1 hb
  obtain⟨o,e',d⟩:=ho p.1 hb
  rw[e] at e'; cases e'
  exact⟨e,f0,f1,f2,d⟩
theorem Inv.unpinned {pl:List (aD×bH)}{σ:St}{H:Hp}(I:Inv X (pins++pl) σ H s):Inv X pins σ H s:=I.pins_of fun p hp=>I.pin p (mD _ (NK _ hp))
theorem Ie {iter:aT}{wi:TI}{g:TG}{tb:TS}(hp:AU (aU X.prog X.w) X.A X.env X.xe)(hc:X.calm=true)(hi:PI X tg iter wi)(hg:PG X tg g)(hb:PSs X body tb)
  (hs : ∀ x,tD iter X.env x=pure x:=by intro _; rfl):PS X (.For tg iter body [] pos) (Dm wi g tb):=by
 intro pins s σ H D I h
 refine wpAny_For (thn (hi pins s σ H _ I h) fun v s1 h1=>thn h1 fun itv s2 h2=>?_) hs
 obtain⟨it,fp,tn,J,H2,e,I2,T,st2,f2,W,⟨m0,w0⟩,turn⟩:=h2
 subst e
 have stat : ∀ {H':Hp},(∀ b∈fp,H' b=none) -> ∀ b∈fp,iV X pins H' b:=fun hn b hb=>⟨hn b hb,(f2 b hb).2⟩
 refine codeAny_forLoop_any (fun n s'=>∃ i σ' H',Inv X pins σ' H' s'/\tn i s'.heap/\(∀ b∈fp,H' b=none)/\W i n σ' H') ?_ m0 ⟨0,σ,H2,I2,st2,fun b hb=>(f2 b hb).1,w0⟩
 rintro n s3 ⟨i,σ3,H3,I3,st3,fr3,w3⟩
 rcases turn i n σ3 H3 w3 with⟨stop,qn⟩ | ⟨go,N,hN,step⟩
 ·refine wD hp (thn (T.done X rfl rfl rfl hc i pins s3 σ3 H3 X.xe I3 (stat fr3) st3 stop) fun r s4 gh=>?_)
  obtain⟨hr,I4⟩:=gh
  subst hr
  exact MO ⟨σ3,H3,I4,qn⟩
 ·refine wD hp (thn (T.item X rfl rfl rfl hc i pins s3 σ3 H3 X.xe I3 (stat fr3) st3 go) fun r s4 gh=>?_)
  obtain⟨u,hr,h4⟩:=gh
  subst hr
  refine wD hp (thn h4 fun _ s5 gh=>?_)
  obtain⟨x,H5,I5,r5,y5,st5,fr5⟩:=gh
  have I5':=I5.pinned (stat fr5) (T.obj _ _ st5)
  refine wD hp (thn (hg _ s5 σ3 H5 x u _ I5' r5 (step x H5 y5)) fun _ s6 gh=>?_)
  obtain⟨σ6,H6,I6,q6⟩:=gh
  refine wD hp (thn (hb _ s6 σ6 H6 _ I6 q6) fun f s7 q7=>?_)
  have again : ∀ {σ7:St} {H7:Hp},Inv X (pins++xY fp s5.heap) σ7 H7 s7->N σ7 H7 -> ∃ m,m<n /\ ∃ i σ' H',Inv X pins σ' H' s7/\tn i s7.heap/\(∀ b∈fp,H' b=none)/\W i m σ' H':=fun {σ7 H7} I7 n7=>by
   obtain⟨m',hm,w7⟩:=hN σ7 H7 n7
   refine⟨m',hm,i+1,σ7,H7,I7.unpinned,T.keep _ _ _ st5 fun b hb o e=>(I7.pin (b,o) (mD _ (mD _ (DZ hb e)))).1,fun b hb=>?_,w7⟩
   obtain⟨o,e,d⟩:=T.obj _ _ st5 b hb
   exact(I7.pin (b,o) (mD _ (mD _ (DZ hb e)))).2.1
  cases f with
  | next=>obtain⟨σ7,H7,I7,n7⟩:=q7; exact again I7 n7
  | cont=>obtain⟨σ7,H7,I7,n7⟩:=q7; exact again I7 n7
  | brk=>obtain⟨σ7,H7,I7,q7⟩:=q7; exact⟨σ7,H7,I7.unpinned,q7⟩
  | ret v=>obtain⟨x7,σ7,H7,I7,r7,q7⟩:=q7; exact⟨x7,σ7,H7,I7.unpinned,r7,q7⟩
end
abbrev R2:=V->V->Hp->VK->Prop
def OpR (X:Cx)(f:aE->aE->Sem aE)(r:R2):Prop:=
 ∀ (pins:List (aD×bH)) (s:aJ) (σ:St) (H:Hp) (x y:V) (v u:aE) (Q:VK),Inv X pins σ H s->RelV x v->RelV y u->r x y H Q ->
  aM (aU X.prog X.w) X.A (f v u) (EP X pins σ Q) X.xe s
def Adz (X:Cx)(f:aE)(r:List V->Hp->VK->Prop):Prop:=
 ∀ (pins:List (aD×bH)) (s:aJ) (σ:St) (H:Hp) (xs:List V) (us:List aE) (Q:VK),Inv X pins σ H s->Vals xs us->r xs H Q ->
  aM (aU X.prog X.w) X.A (call f us) (EP X pins σ Q) X.xe s
def tOp (r:R2)(ta tb:TE):TE:=fun σ H Q=>ta σ H fun x H1=>tb σ H1 fun y H2=>r x y H2 Q
def rI (C:Int->Int->Prop)(g:Int->Int->V):R2:=fun x y H Q=>∃ i j,x = .int i/\y = .int j/\C i j/\Q (g i j) H
def rI0 (g:Int->Int->V):R2:=fun x y H Q=>∃ i j,x = .int i/\y = .int j/\Q (g i j) H
section
variable {X:Cx}{a b:aT}{ta tb tc:TE}
theorem GE (ha:PE X a ta)(hb:PE X b tb){σ:St}{H:Hp}{R:V->V->Hp->Prop}(I:Inv X pins σ H s)
  (h:ta σ H fun x H1=>tb σ H1 fun y H2=>R x y H2) {Q:aE->aJ->Prop} {f:aE->aE->Sem aE}
  (hf : ∀ v u s2 x y H2,Inv X pins σ H2 s2->RelV x v->RelV y u->R x y H2->aM (aU X.prog X.w) X.A (f v u) Q X.xe s2) :
  aM (aU X.prog X.w) X.A (bY a X.env) (fun v s₁=>aM (aU X.prog X.w) X.A (bY b X.env) (fun u s₂=>aM (aU X.prog X.w) X.A (f v u) Q X.xe s₂) X.xe s₁) X.xe s:=by
 refine thn (ha pins s σ H _ I h) fun v s1 gh=>?_
 obtain⟨x,H1,I1,r1,q1⟩:=gh
 refine thn (hb pins s1 σ H1 _ I1 q1) fun u s2 gh=>?_
 obtain⟨y,H2,I2,r2,q2⟩:=gh
 exact hf v u s2 x y H2 I2 r1 r2 q2
theorem Eh {op:Operator}{r:R2}(ho:OpR X (kH op) r)(ha:PE X a ta)(hb:PE X b tb):PE X (.BinOp a op b pos) (tOp r ta tb):=by
 intro pins s σ H Q I h
 exact wpAny_BinOp (GE ha hb I h fun v u s2 x y H2 I2 rx ry q=>ho pins s2 σ H2 x y v u Q I2 rx ry q)
theorem opI{C:Int->Int->Prop}{g:Int->Int->Int}
  (rule : ∀ (i j:Int) (t u:Tok) (s:aJ) (Q:aE->aJ->Prop) (E:aE->aJ->Prop),C i j->Q (.int (g i j) s.toks) { s with toks:=s.toks+1 }->aM (aU X.prog X.w) X.A (f (.int i t) (.int j u)) Q E s) :
  OpR X f (rI C fun i j=>.int (g i j)):=by
 intro pins s σ H x y v u Q I rx ry h
 obtain⟨i,j,rfl,rfl,hc,q⟩:=h
 obtain⟨t,rfl⟩:=rx
 obtain⟨t',rfl⟩:=ry
 exact rule i j t t' s _ _ hc ⟨.int (g i j),H,I.tok _,⟨_,rfl⟩,q⟩
theorem OZ{g:Int->Int->Int}
  (rule : ∀ (i j:Int) (t u:Tok) (s:aJ) (Q:aE->aJ->Prop) (E:aE->aJ->Prop),Q (.int (g i j) s.toks) { s with toks:=s.toks+1 }->aM (aU X.prog X.w) X.A (f (.int i t) (.int j u)) Q E s) :
  OpR X f (rI0 fun i j=>.int (g i j)):=by
 intro pins s σ H x y v u Q I rx ry h
 obtain⟨i,j,rfl,rfl,q⟩:=h
 obtain⟨t,rfl⟩:=rx
 obtain⟨t',rfl⟩:=ry
 exact rule i j t t' s _ _ ⟨.int (g i j),H,I.tok _,⟨_,rfl⟩,q⟩
theorem OL{g:Int->Int->Bool}
  (rule : ∀ (i j:Int) (t u:Tok) (s:aJ) (Q:aE->aJ->Prop) (E:aE->aJ->Prop),Q (.bool (g i j)) s->aM (aU X.prog X.w) X.A (f (.int i t) (.int j u)) Q E s) :
  OpR X f (rI0 fun i j=>.bl (g i j)):=by
 intro pins s σ H x y v u Q I rx ry h
 obtain⟨i,j,rfl,rfl,q⟩:=h
 obtain⟨t,rfl⟩:=rx
 obtain⟨t',rfl⟩:=ry
 exact rule i j t t' s _ _ ⟨.bl (g i j),H,I,rfl,q⟩
def Du (i j:Int):Prop:=0<j/\j<1073741824
def Dr (i j:Int):Prop:=0≤j/\j≤1000000/\i.natAbs<2 ^ 64
def Biv (i j:Int):Prop:=(-(2 ^ 64)<i/\i<2 ^ 64) \/ (-(2 ^ 64)<j/\j<2 ^ 64)
theorem Biv.ok {i j:Int}(h:Biv i j):IntMulOk i j:=by
 rcases h with⟨h1,h2⟩ | ⟨h1,h2⟩
 ·exact .of_left (intBits_le_64 h1 h2)
 ·exact .of_right (intBits_le_64 h1 h2)
theorem Bfe:OpR X (kH .Add) (rI0 fun i j=>.int (i+j)):=OZ fun _ _ _ _ _ _ _ q=>add_int q
theorem Gc:OpR X (kH .Sub) (rI0 fun i j=>.int (i - j)):=OZ fun _ _ _ _ _ _ _ q=>sub_int q
theorem Jc:OpR X (kH .Mult) (rI Biv fun i j=>.int (i*j)):=opI fun _ _ _ _ _ _ _ hc q=>mul_int q hc.ok
theorem Kq:OpR X (kH .FloorDiv) (rI Du fun i j=>.int (i / j)):=opI fun i j _ _ _ _ _ hc q=>by
 have h1:(0:Int)<j:=hc.1
 have h2:j<1073741824:=hc.2
 exact floordiv_int (by omega) (by rw[Int.fdiv_eq_ediv_of_nonneg i (by omega)]; exact q) (.inl (PyProof.noPylong_small (by omega)))
theorem Gf:OpR X (kH .Mod) (rI (fun _ j=>0<j) fun i j=>.int (i%j)):=opI fun i j _ _ _ _ _ hc q=>by
 have h1:(0:Int)<j:=hc
 exact mod_int' (by omega) (by rw[Int.fmod_eq_emod_of_nonneg i (by omega)]; exact q)
theorem Ka:OpR X (kH .Pow) (rI Dr fun i j=>.int (i ^ j.toNat)):=opI fun _ _ _ _ _ _ _ hc q=>pow_int_small hc.1 hc.2.1 hc.2.2 q
end
section
variable {X:Cx}{a b:aT}{ta tb tc:TE}
theorem BS{σ:St}{H:Hp}{Q:VK}{k k':Bool}(I:Inv X pins σ H s)(q:Q (.bl k) H)(e:k=k'):EP X pins σ Q (.bool k') s:=by
 subst e
 exact⟨.bl k,H,I,rfl,q⟩
theorem Bi4:OpR X (iC .Lt) (rI0 fun i j=>.bl (decide (i<j))):=OL fun _ _ _ _ _ _ _ q=>lt_int q
theorem PP:OpR X (iC .Gt) (rI0 fun i j=>.bl (decide (j<i))):=OL fun _ _ _ _ _ _ _ q=>gt_int q
theorem Zm:OpR X (iC .Lt) (fun x y H Q=>∃ i j,x = .str i/\y = .str j/\Q (.bl (decide (i.cps.toList<j.cps.toList))) H):=by
 intro pins s σ H x y v u Q I rx ry h
 obtain⟨i,j,rfl,rfl,q⟩:=h
 obtain⟨t,rfl⟩:=rx
 obtain⟨t',rfl⟩:=ry
 exact lt_str (BS I q rfl)
theorem Zv:OpR X (iC .In) (fun x y H Q=>∃ i j,x = .str i/\y = .str j/\Q (.bl (!(OC j i 0 j.length 1).isEmpty)) H):=by
 intro pins s σ H x y v u Q I rx ry h
 obtain⟨i,j,rfl,rfl,q⟩:=h
 obtain⟨t,rfl⟩:=rx
 obtain⟨t',rfl⟩:=ry
 exact in_str (BS I q rfl)
theorem Hn:OpR X (iC .Is) (fun x y H Q=>y = .non/\Q (.bl (decide (x = .non))) H):=by
 intro pins s σ H x y v u Q I rx ry h
 obtain⟨rfl,q⟩:=h
 cases ry
 refine is_none_gen (BS I q ?_)
 cases x <;> first
  | (cases rx; rfl)
  | (obtain⟨t,rfl⟩:=rx; rfl)
theorem CK:OpR X (iC .IsNot) (fun x y H Q=>y = .non/\Q (.bl (!decide (x = .non))) H):=by
 intro pins s σ H x y v u Q I rx ry h
 obtain⟨rfl,q⟩:=h
 cases ry
 refine isnot_none_gen (BS I q ?_)
 cases x <;> first
  | (cases rx; rfl)
  | (obtain⟨t,rfl⟩:=rx; rfl)
theorem OpR.or{r r':R2}(h:OpR X f r)(h':OpR X f r'):OpR X f (fun x y H Q=>r x y H Q \/ r' x y H Q):=by
 intro pins s σ H x y v u Q I rx ry q
 rcases q with q | q
 ·exact h pins s σ H x y v u Q I rx ry q
 ·exact h' pins s σ H x y v u Q I rx ry q
theorem hX (b:aT)(h:op ≠ .In:=by decide)(h2:op ≠ .NotIn:=by decide):AN op b=false:=by
 have e1:(op == CmpOp.In)=false:=by cases op <;> first | rfl | exact absurd rfl h
 have e2:(op == CmpOp.NotIn)=false:=by cases op <;> first | rfl | exact absurd rfl h2
 cases b <;> simp[AN,e1,e2]
theorem Na{r:R2}(ho:OpR X (iC op) r)(ha:PE X a ta)(hb:PE X b tb)(hm:AN op b=false):PE X (.Compare a [op] [b] pos) (tOp r ta tb):=by
 intro pins s σ H Q I h
 exact wpAny_Compare1 (GE ha hb I h fun v u s2 x y H2 I2 rx ry q=>ho pins s2 σ H2 x y v u Q I2 rx ry q) hm
def Gn (t:TE):TT:=fun σ H Q=>t σ H fun x H'=>∃ k,x = .bl k/\Q k H'
theorem Mb{r:R2}(ho:OpR X (iC op) r)(ha:PE X a ta)(hb:PE X b tb)(hm:AN op b=false):PT X (.Compare a [op] [b] pos) (Gn (tOp r ta tb)):=by
 intro pins s σ H Q I h
 refine wpAny_isTrue_Compare1 (thn (ha pins s σ H _ I h) fun v s1 ⟨x,H1,I1,r1,q1⟩=>thn (hb pins s1 σ H1 _ I1 q1) fun u s2 ⟨y,H2,I2,r2,q2⟩=>
  thn (ho pins s2 σ H2 x y v u _ I2 r1 r2 q2) fun c s3 ⟨z,H3,I3,r3,k,e,q3⟩=>?_) hm
 subst e
 cases r3
 exact EV ⟨H3,I3,q3⟩
theorem sM:(sizeLine:Nat)<2 ^ 63:=by rw[wH]; decide
theorem Axe:OpR X (kH .Add) (fun x y H Q=>∃ i j,x = .str i/\y = .str j/\i.length+j.length≤sizeLine/\Q (.str (i++j)) H):=by
 intro pins s σ H x y v u Q I rx ry h
 obtain⟨i,j,rfl,rfl,hz,q⟩:=h
 obtain⟨t,rfl⟩:=rx
 obtain⟨t',rfl⟩:=ry
 exact add_str (fun t' tk=>⟨.str (i++j),H,I.tok _,⟨_,rfl⟩,q⟩) hz
theorem vals1 {x:V}(r:Vals [x] us) : ∃ u,us=[u]/\RelV x u:=by
 cases r with
 | cons r1 r2=>cases r2; exact⟨_,rfl,r1⟩
theorem vals2 {x y:V}(r:Vals [x,y] us) : ∃ u w',us=[u,w']/\RelV x u/\RelV y w':=by
 cases r with
 | cons r1 r2=>
  cases r2 with
  | cons r3 r4=>cases r4; exact⟨_,_,rfl,r1,r3⟩
theorem Oy (hc:X.calm=true):Adz X (.builtin "max") (fun xs H Q=>∃ i j,xs=[.int i,.int j]/\Q (.int (if j > i then j else i)) H):=by
 intro pins s σ H xs us Q I r h
 obtain⟨i,j,rfl,q⟩:=h
 obtain⟨u,w',rfl,⟨t,rfl⟩,⟨t',rfl⟩⟩:=vals2 r
 refine max_two_ints (I.ok.hd hc) fun h' tk k=>⟨_,H,I.kept k,?_,q⟩
 by_cases hj:j > i
 ·rw[if_pos hj,if_pos hj]; exact⟨_,rfl⟩
 ·rw[if_neg hj,if_neg hj]; exact⟨_,rfl⟩
theorem Om:Adz X (.type "int") (fun xs H Q=>(∃ i,xs=[.int i]/\Q (.int i) H) \/ ∃ k,xs=[.bl k]/\Q (.int (if k then 1 else 0)) H):=by
 intro pins s σ H xs us Q I r h
 rcases h with⟨i,rfl,q⟩ | ⟨k,rfl,q⟩
 ·obtain⟨u,rfl,t,rfl⟩:=vals1 r
  exact call_int_int ⟨.int i,H,I,⟨_,rfl⟩,q⟩
 ·obtain⟨u,rfl,r1⟩:=vals1 r
  cases r1
  exact call_int_bool ⟨.int (if k then 1 else 0),H,I.tok _,⟨_,rfl⟩,q⟩
end
structure ObjM (h:aZ)(x dx C:aD)(mA:aC->Option aE):Prop where
 obj:h.get? x=some (Be C dx)
 ns:h.Ns1 dx mA
 ne:dx≠x
theorem Yv{mA:aC->Option aE}(n:h.Ns1 dx mA) : ∃ od,h.get? dx=some od /\ ∀ name,Ba name od=some (mA name):=by
 obtain⟨o,es,ep,ho,hd,hk,_,hm⟩:=n
 refine⟨o,ho,fun name=>?_⟩
 have e:=hm name
 unfold nsFind findBy at e
 rw[← Array.find?_toList] at e
 unfold Ba
 rw[hd]
 dsimp only
 split
 ·rename_i y q
  rw[q] at e
  exact congrArg some e
 ·rename_i q
  rw[q] at e
  have a:es.toList.any (·.refKey)=false:=by
   rw[List.any_eq_false]
   intro y hy
   obtain⟨z,t,hkey⟩:=hk y (Array.mem_toList_iff.mp hy)
   simp[DictEntry.refKey,hkey]
  have a' : ¬ es.toList.any (·.refKey)=true:=by rw[a]; exact jZ
  rw[if_neg a']
  exact congrArg some e
theorem ObjM.look{x:aD}{mA:aC->Option aE}(I:ObjM h x dx C mA) : ∃ od,PySem.W.InstAt h x (Be C dx) C (some od) /\ ∀ name,Ba name od=some (mA name):=
 let ⟨od,ho,hl⟩:=Yv I.ns
 ⟨od,⟨I.obj,rfl,rfl,ho⟩,hl⟩
theorem Auc.some_of {v:V}{o:Option aE}(r:Auc (some v) o) : ∃ u,o=some u/\RelV v u:=by
 cases o with
 | none=>exact(show False from r).elim
 | some u=>exact⟨u,rfl,r⟩
theorem Auc.none_of {o:Option aE}(r:Auc none o):o=none:=by
 cases o with
 | none=>rfl
 | some u=>exact(show False from r).elim
section
variable {P:bT}{w:bI}{H H':Hp}{fs fs':List (aC×V)}
theorem Ls (hok:HOk P w H h)(e:H a=some (.ins C dx fs)) : ∃ mA,ObjM h a dx C mA/\(∀ f,Auc (fs.lookup f) (mA f))/\PySem.Within mA (fs.map (·.1))/\fs.length≤1000/\H dx=some (.own a):=by
 obtain⟨d,z,ne,ob,mA,n,r,q⟩:=(show Ac9 P w H h a (.ins C dx fs) from hok a _ e)
 exact⟨mA,⟨ob,n,ne⟩,r,q,z,d⟩
end
structure Cls (K:aK)(C:aD):Prop where
 pg:PySem.W.plainGet K C Str.empty=true
 hd:PySem.W.hasDictIn K C=true
 po:PySem.W.plainOver K C=true
 sa:PySem.W.findIn K (.ref C) "__setattr__" = some (some (.builtin "object.__setattr__"))
theorem Cls.get(c:Cls K C)(f:aC):PySem.W.plainGet K C f=true:=c.pg
section
variable {X:Cx}{σ:St}{H:Hp}{c:aE}{b:Bool}
inductive TyOf (K:aK)(H:Hp):V->aE->Prop where
 | non:TyOf K H .non (.type "NoneType")
 | bl (x:Bool):TyOf K H (.bl x) (.type "bool")
 | int (i:Int):TyOf K H (.int i) (.type "int")
 | str (x:aC):TyOf K H (.str x) (.type "str")
 | flt (x:UInt64):TyOf K H (.flt x) (.type "float")
 | lst {a:aD} {xs:List V} (e:H a=some (.lst xs)):TyOf K H (.ref a) (.type "list")
 | frz {a:aD} {o:bH} {xs:List V} (e:H a=some (.frz o (.lst xs))):TyOf K H (.ref a) (.type "list")
 | tup {a:aD} {xs:List V} (e:H a=some (.tup xs)):TyOf K H (.ref a) (.type "tuple")
 | dK {a:aD} {ep:Nat} {kvs:List (aI×V)} (e:H a=some (.dK ep kvs)):TyOf K H (.ref a) (.type "dict")
 | dT {a:aD} {ep:Nat} {kvs:List (List aA×V)} (e:H a=some (.dT ep kvs)):TyOf K H (.ref a) (.type "dict")
 | ins {a C dx:aD} {fs:List (aC×V)} (e:H a=some (.ins C dx fs)) (cl:Cls K C) (ha:PySem.W.findIn K (.ref C) "__class__" = some (some (.builtin "object.__class__")))
   (hn:PySem.W.specialIn K (.builtin "object.__class__") "__get__" = some (some (.builtin "getset_descriptor.__get__"))) (htk:PySem.W.takesIn K (.builtin "object.__class__")=some true)
   (hm:PySem.W.mroIn K C (.type "object")=some true):TyOf K H (.ref a) (.ref C)
theorem Pt {x:V}{t:aE}(I:Inv X pins σ H s)(rx:RelV x u)(ty:TyOf X.K H x t)(e:Bd X.K t c=some b)(h : ∀ tk,Q (.bool b) { s with toks:=tk }) :
  aM (aU X.prog X.w) A (call (.builtin "isinstance") [u,c]) Q E s:=by
 cases ty with
 | non=>cases(show u=dP from rx); exact lX PySem.W.kitx_none I.kIn pL e (fun z=>nomatch z) h
 | bl y=>cases(show u=Value.bool y from rx); exact lX PySem.W.kitx_bool I.kIn pL e (fun z=>nomatch z) h
 | int i=>obtain⟨t,q⟩:=(show ∃ t,u=tL i t from rx); cases q; exact lX PySem.W.kitx_int I.kIn pL e (fun z=>nomatch z) h
 | str y=>obtain⟨t,q⟩:=(show ∃ t,u=tJ y t from rx); cases q; exact lX PySem.W.kitx_str I.kIn pL e (fun z=>nomatch z) h
 | flt y=>obtain⟨t,q⟩:=(show ∃ t,u=Value.float y t from rx); cases q; exact lX PySem.W.kitx_float I.kIn pL e (fun z=>nomatch z) h
 | @lst a xs ea=>
  cases(show u=eP a from rx)
  obtain⟨_,_,n,_,h1⟩:=(show Ac9 X.prog X.w H s.heap a (.lst xs) from I.hok a _ ea)
  exact lX Bb I.kIn ⟨_,h1,rfl⟩ e (fun z=>nomatch z) h
 | @frz a ob xs ea=>
  cases(show u=eP a from rx)
  obtain⟨_,_,_,n,_,h1⟩:=(show Ac9 X.prog X.w H s.heap a (.frz ob (.lst xs)) from I.hok a _ ea)
  exact lX Bb I.kIn ⟨_,h1,rfl⟩ e (fun z=>nomatch z) h
 | @tup a xs ea=>
  cases(show u=eP a from rx)
  obtain⟨_,_,_,p⟩:=(show Ac9 X.prog X.w H s.heap a (.tup xs) from I.hok a _ ea)
  obtain⟨o,h1,h2,_⟩:=p.1
  exact lX PySem.W.kitx_tuple I.kIn ⟨o,h1,h2⟩ e (fun z=>nomatch z) h
 | @dK a ep kvs ea=>
  cases(show u=eP a from rx)
  obtain⟨_,_,vs,_,p⟩:=(show Ac9 X.prog X.w H s.heap a (.dK ep kvs) from I.hok a _ ea)
  obtain⟨o,es,h1,h2,_⟩:=p
  exact lX Bc I.kIn ⟨o,h1,h2.1⟩ e (fun z=>nomatch z) h
 | @dT a ep kvs ea=>
  cases(show u=eP a from rx)
  obtain⟨_,_,xs,_,o,es,h1,h2,_⟩:=(show Ac9 X.prog X.w H s.heap a (.dT ep kvs) from I.hok a _ ea)
  exact lX Bc I.kIn ⟨o,h1,h2.1⟩ e (fun z=>nomatch z) h
 | @ins a C dx fs ea cl ha hn htk hm=>
  cases(show u=eP a from rx)
  obtain⟨mA,O,_⟩:=Ls I.hok ea
  obtain⟨od,J,_⟩:=O.look
  exact lX (PySem.W.kitx_own (cl.get _) cl.hd ha hn htk hm) I.kIn J e (fun z=>nomatch z) h
end
structure Room (k:Nat)(A:cM):Prop where
 hd:A.handled=none
 dp:A.depth+3*k+5<recursionLimit
 un:A.units+16*k+200<cLine
theorem Room.mono {j:Nat}(r:Room k A)(h:j≤k):Room j A:=⟨r.hd,by have:=r.dp; omega,by have:=r.un; omega⟩
theorem Room.deeper(r:Room (k+1) A)(env:Env):Room k (A.deeper env):=
 ⟨r.hd,by have:=r.dp; show A.depth+1+3*k+5<_; omega,by have:=r.un; show A.units+3+16*k+200<_; omega⟩
theorem Room.depth(r:Room k A):A.depth<recursionLimit:=by have:=r.dp; omega
theorem Room.units(r:Room k A):A.units+64<cLine:=by have:=r.un; omega
abbrev Dc:TA:=fun _ H Q=>Q [] H
abbrev Ez (ta:TE)(tr:TA):TA:=fun σ H Q=>ta σ H fun x H1=>tr σ H1 fun xs H2=>Q (x::xs) H2
section
variable {X:Cx}{te:TE}{t:TA}
theorem oQ:PA X [] Dc:=fun _ _ _ _ H Q I h=>Calls.spliced_nil ⟨[],H,I,.nil,h⟩
theorem lM (ha:PE X e te)(hr:PA X es t)(hs:cC (e::es) X.env=(false,bY e X.env)::cC es X.env:=by rfl):PA X (e::es) (Ez te t):=by
 intro pos pins s σ H Q I h
 rw[hs]
 show aM _ _ (spliced ((false,bY e X.env)::fX pos (cC es X.env))) _ _ s
 refine Co (thn (ha pins s σ H _ I h) fun u s1 gh=>?_)
 obtain⟨x,H1,I1,r1,q1⟩:=gh
 exact thn (hr pos pins s1 σ H1 _ I1 q1) fun us s2 ⟨xs,H2,I2,r2,q2⟩=>⟨x::xs,H2,I2,.cons r1 r2,q2⟩
def Df (t:TA):TE:=fun σ H Q=>t σ H fun xs H1=>xs.length≤sizeLine /\ ∀ p,H1 p=none->Q (.ref p) (upd H1 p (.tup xs))
def Dd (t:TA):TE:=fun σ H Q=>t σ H fun xs H1=>xs.length≤sizeLine /\ ∀ p,H1 p=none->Q (.ref p) (upd H1 p (.lst xs))
theorem YV {x1}(h:PA X es t):PE X (.Tuple es x1 pos) (Df t):=by
 intro pins s σ H Q I hq
 refine wpAny_Tuple_spliced (thn (h pos pins s σ H _ I hq) fun us s1 ⟨xs,H1,I1,r,z,q⟩=>⟨by rw[← r.length]; exact z,?_⟩)
 have hf:H1 s1.heap.objs.size=none:=I1.hok.fresh (bE _)
 refine⟨.ref s1.heap.objs.size,upd H1 s1.heap.objs.size (.tup xs),I1.laid (t':=s1.toks) (fun b u e=>bW _ e) (bE _) ?_,rfl,q _ hf⟩
 exact⟨z,us,r,⟨_,dA _ rfl,rfl,_,rfl⟩,_,dA _ rfl,rfl⟩
theorem Jt (h:PA X es t):PE X (.List es pos) (Dd t):=by
 intro pins s σ H Q I hq
 refine wpAny_List_spliced (thn (h pos pins s σ H _ I hq) fun us s1 ⟨xs,H1,I1,r,z,q⟩=>⟨by rw[← r.length]; exact z,?_⟩)
 have hf:H1 s1.heap.objs.size=none:=I1.hok.fresh (bE _)
 refine⟨.ref s1.heap.objs.size,upd H1 s1.heap.objs.size (.lst xs),I1.laid (t':=s1.toks) (fun b u e=>bW _ e) (bE _) ?_,rfl,q _ hf⟩
 exact⟨z,us,0,r,dA _ rfl⟩
end
abbrev Sp:=List V->Hp->VK->XK->Prop
abbrev CXT:=List Env->Hp->aJ->XK->aE->aJ->Prop
structure Env0 (P:bT)(w:bI)(K:aK)(mg:aC->Option aE)(base:aZ)(A:cM)(outer:List Env)(s:aJ)(H:Hp):Prop where
 frames:A.frames=some outer
 mod:Mod K mg base
 bs : ∀ b o,base.get? b=some o->s.heap.get? b=some o/\H b=none
 bsz:base.objs.size≤s.heap.objs.size
 funs:s.heap.FunFrames base outer
 frf : ∀ b∈frs outer,H b=none
 hok:HOk P w H s.heap
 bare:rM s.gens
def CE (outer:List Env)(P:bT)(w:bI)(H:Hp)(s:aJ)(Q:VK)(u:aE)(s':aJ):Prop:=
 ∃ v H',s'.os=s.os/\rM s'.gens/\Un (frs outer) [] H H' s.heap s'.heap/\HOk P w H' s'.heap/\RelV v u/\Q v H'
def CR (CX:CXT)(outer:List Env)(P:bT)(w:bI)(H:Hp)(s:aJ)(Q:VK)(E:XK)(r:Result)(s':aJ):Prop:=
 match r with
 | .ok (.ret u)=>CE outer P w H s Q u s'
 | .ok _=>False
 | .error e=>CX outer H s E e s'
structure FnOk (P:bT)(w:bI)(K:aK)(mg:aC->Option aE)(base:aZ)(CX:CXT)(k:Nat)(f:aD)(fd:gV)(ps:List aC)(sp:Sp):Prop where
 len : ∀ vs H Q E,sp vs H Q E->vs.length=ps.length
 run : ∀ (A:cM) (outer:List Env) (s:aJ) (H:Hp) (args:Args) (us:List aE) (vs:List V) (Q:VK) (E:XK),Room k A->Env0 P w K mg base A outer s H->BindsTo s fd args (ps.zip us)->Vals vs us->sp vs H Q E ->
  oB (aU P w) A (.call (.ref f) args) (CR CX outer P w H s Q E) s
theorem FnOk.imp {P:bT}{w:bI}{CX:CXT}{f:aD}{fd:gV}{sp sp':Sp}(F:FnOk P w K mg base CX k f fd ps sp)
  (h : ∀ vs H Q E,sp' vs H Q E->sp vs H Q E):FnOk P w K mg base CX k f fd ps sp':=
 ⟨fun vs H Q E q=>F.len vs H Q E (h _ _ _ _ q),fun A outer s H args us vs Q E hr he hb hv hs=>F.run A outer s H args us vs Q E hr he hb hv (h _ _ _ _ hs)⟩
section
variable {X:Cx}{σ:St}{H:Hp}
theorem Inv.env0 (I:Inv X pins σ H s):Env0 X.prog X.w X.K X.mg X.base X.A X.stack s H:=
 ⟨I.ok.frames,I.ok.mod,I.bs,eO I.ok.bsz I.sz,I.stack,I.stkFree,I.hok,I.bare⟩
theorem Inv.after {Q:VK}(I:Inv X pins σ H s)(h:CE X.stack X.prog X.w H s Q u s'):EP X pins σ Q u s':=by
 obtain⟨v,H',os,bare,un,hok,r,q⟩:=h
 obtain⟨hh,g,d,t,os'⟩:=s'
 obtain rfl:os'=s.os:=os
 exact⟨v,H',I.call (h':=hh) (g':=g) (d':=d) (t':=t) (ch:=[]) un hok bare (fun b z=>absurd z (by simp)),r,q⟩
end
def PR (sp:Sp)(dvs:List V)(E:XK)(t:TA):TE:=fun σ H Q=>t σ H fun vs H1=>sp (vs++dvs) H1 Q E
def Binds (K:aK)(fd:gV)(ps:List aC)(ds:List aE):Prop:=
 ∀ (s:aJ) (us:List aE),K.In s.heap->(us++ds).length=ps.length->BindsTo s fd ⟨us,[]⟩ (ps.zip (us++ds))
theorem Binds.all{fd:gV}(h : ∀ us:List aE,us.length=ps.length->AM fd ⟨us,[]⟩=pure (ps.zip us)):Binds K fd ps []:=fun s us _ hl=>by
 rw[mG] at hl ⊢
 exact .of_eq (h us hl)
def Passes (CX:CXT)(X:Cx)(E:XK):Prop:=∀ (pins:List (aD×bH)) (σ:St) (H:Hp) (s:aJ) (e:aE) (s':aJ),Inv X pins σ H s->CX X.stack H s E e s'->X.xe e s'
section
variable {X:Cx}{CX:CXT}{f:aD}{fd:gV}{sp:Sp}{dvs:List V}{ds:List aE}{E:XK}{m:aC}{apos:bZ}{o:aT}{ta:TE}{t:TA}
theorem Fw{σ:St}{H:Hp}{Q:VK}{vs:List V}(F:FnOk X.prog X.w X.K X.mg X.base CX k f fd ps sp)(hr:Room k X.A)(hb:Binds X.K fd ps ds)(hd:Vals dvs ds)(hx:Passes CX X E)
  (I:Inv X pins σ H s) (r:Vals vs us) (h:sp (vs++dvs) H Q E):aM (aU X.prog X.w) X.A (call (.ref f) us) (EP X pins σ Q) X.xe s:=by
 have r2:Vals (vs++dvs) (us++ds):=r.append hd
 have hl:(us++ds).length=ps.length:=by rw[← r2.length]; exact F.len _ _ _ _ h
 refine wpAny_call (codeAny_mono (F.run X.A X.stack s H ⟨us,[]⟩ (us++ds) (vs++dvs) Q E hr I.env0 (hb s us I.kIn hl) r2 h) fun r s' hq=>?_)
 cases r with
 | error e=>exact hx pins σ H s e s' I hq
 | ok fl=>
  cases fl with
  | ret u=>exact I.after hq
  | next=>exact pT hq
  | brk=>exact pT hq
  | cont=>exact pT hq
theorem Lc (F:FnOk X.prog X.w X.K X.mg X.base CX k f fd ps sp)(hr:Room k X.A)(hg:Gl X x)(hm:X.mg x=some (.ref f))(hk:tM X.K (.ref f)=true)(hb:Binds X.K fd ps ds)(hd:Vals dvs ds)(hx:Passes CX X E)
  (ha:PA X (e::es) t) (hdb:(x == ("__debug__" : aC))=false:=by decide) (he:cC (e::es) X.env=(false,bY e X.env)::cC es X.env:=by rfl) (hpl:(fX pos (cC es X.env)).any (·.1)=false:=by rfl) :
  PE X (.Call (.Name x p) (e::es) [] pos) (PR sp dvs E t):=by
 intro pins s σ H Q I h
 refine Au (YY I hg hm ?_ hdb)
 refine PySem.W.callWith_K (h₀:=X.base) I.ok.mod.kin hk (thn (ha pos pins s σ H _ I h) fun us s1 ⟨vs,H1,I1,r,q⟩=>⟨I1.kIn,?_⟩) he hpl
 exact Fw F hr hb hd hx I1 r q
end
structure FnScope (N P:List aC)(sc:iQ):Prop where
 kind:sc.kind = .function
 co:sc.isCoroutine=false
 gen:sc.isGenerator=false
 nd:N.Nodup
 pre:N.take P.length=P
 par : ∀ x∈P,sc.names.lookup x=some .local \/ sc.names.lookup x=some .cell
 nofree : ∀ y∈sc.names,y.2 ≠ .free
theorem WA {kindOf:aC->Option mC} : ∀ {binds:List (aC×aE)} {m:aC->Option aE},(∀ v,(x,v)∉binds)->bindL kindOf binds m x=m x
 | [],_,_=>rfl
 | (n,v)::r,m,h=>by
  unfold bindL
  rw[WA fun w hw=>h w (cF _ hw)]
  split
  ·have:x≠n:=by rintro rfl; exact h v bM
   simp[this]
  ·rfl
theorem UY {kindOf:aC->Option mC} : ∀ {binds:List (aC×aE)} {m:aC->Option aE},(∀ v,(x,v)∉binds)->bindC kindOf binds m x=m x
 | [],_,_=>rfl
 | (n,v)::r,m,h=>by
  unfold bindC
  rw[UY fun w hw=>h w (cF _ hw)]
  split
  ·rfl
  ·have:x≠n:=by rintro rfl; exact h v bM
   simp[this]
theorem VP {kindOf:aC->Option mC}{x:aC}{v:aE} : ∀ {P:List aC} {vs:List aE} {i:Nat} {m:aC->Option aE},P.Nodup->P[i]?=some x->vs[i]?=some v->kindOf x=some .local ->
  bindL kindOf (P.zip vs) m x=some v
 | [],_,_,_,_,h,_,_=>by simp at h
 | _::_,[],_,_,_,_,h,_=>by simp at h
 | p::P,w::vs,0,m,nd,h1,h2,hk=>by
  simp at h1 h2; subst h1; subst h2
  show bindL kindOf ((p,w)::P.zip vs) m p=_
  unfold bindL
  rw[WA fun v hv=>(lB.mp nd).1 (Bs hv).1,if_pos hk]
  simp
 | p::P,w::vs,i+1,m,nd,h1,h2,hk=>by
  show bindL kindOf ((p,w)::P.zip vs) m x=_
  unfold bindL
  exact VP (i:=i) (lB.mp nd).2 (by simpa using h1) (by simpa using h2) hk
theorem VL {kindOf:aC->Option mC}{x:aC}{v:aE} : ∀ {P:List aC} {vs:List aE} {i:Nat} {m:aC->Option aE},P.Nodup->P[i]?=some x->vs[i]?=some v->kindOf x≠some .local ->
  bindC kindOf (P.zip vs) m x=some v
 | [],_,_,_,_,h,_,_=>by simp at h
 | _::_,[],_,_,_,_,h,_=>by simp at h
 | p::P,w::vs,0,m,nd,h1,h2,hk=>by
  simp at h1 h2; subst h1; subst h2
  show bindC kindOf ((p,w)::P.zip vs) m p=_
  unfold bindC
  rw[UY fun v hv=>(lB.mp nd).1 (Bs hv).1,if_neg hk]
  simp
 | p::P,w::vs,i+1,m,nd,h1,h2,hk=>by
  show bindC kindOf ((p,w)::P.zip vs) m x=_
  unfold bindC
  exact VL (i:=i) (lB.mp nd).2 (by simpa using h1) (by simpa using h2) hk
def start (N:List aC)(vs:List V):St:=vs.map some++AY (N.length - vs.length) none
def rP (CX:CXT)(P:bT)(w:bI)(K:aK)(mg:aC->Option aE)(base:aZ)(N:List aC)(qual:aC)(scope:iQ)(f:aD)(cd:aE)(A:cM)(outer:List Env)(s:aJ)(H:Hp)(E:XK):Cx where
 prog:=P
 w:=w
 K:=K
 mg:=mg
 base:=base
 A:=A.deeper (pJ qual scope s.heap.objs.size f cd)
 N:=N
 s₀:=s
 H₀:=H
 env:=pJ qual scope s.heap.objs.size f cd
 outer:=outer
 stack:=pJ qual scope s.heap.objs.size f cd::outer
 ex:=[]
 calm:=true
 fn:=fun _=>true
 pn:=[]
 xe:=fun e s'=>aM (aU P w) (A.deeper (pJ qual scope s.heap.objs.size f cd)) (leaving (pJ qual scope s.heap.objs.size f cd) e) (fun _ s''=>CX outer H s E e s'') (fun e' s''=>CX outer H s E e' s'') s'
theorem SD {sc:iQ}{n:Nat}(h:sc.names.lookup x=some .cell) : ∃ c,(cellsFrom n sc.names []).lookup x=some c:=by
 have q:=PySem.W.cellsFrom_some sc.names n [] (.inl h)
 exact Bn.mp q
theorem b7 {CX:CXT}{P:bT}{w:bI}{N:List aC}{qual:aC}{scope:iQ}{f:aD}{cd:aE}{outer:List Env}{s1:aJ}{H:Hp}{E:XK}{vs:List V}
  (S:FnScope N ps scope) (hd:A.handled=none) (e0:Env0 P w K mg base A outer s H) (hl:vs.length=ps.length) (r:Vals vs us)
  (x:InCallC s s.heap.objs.size (bindL (pJ qual scope s.heap.objs.size f cd).kindOf (ps.zip us) fun _=>none) (cellsFrom (s.heap.objs.size+1) scope.names []) (bindC (pJ qual scope s.heap.objs.size f cd).kindOf (ps.zip us) fun _=>none) s1) :
  Inv (rP CX P w K mg base N qual scope f cd A outer s H E) [] (start N vs) H s1:=by
 have hpl:ps.length≤N.length:=by have:=congrArg NO S.pre; rw[wW] at this; omega
 obtain⟨h1,tk,rfl,hk⟩:=x.done
 have noA : ∀ b:aD,b∉(rP CX P w K mg base N qual scope f cd A outer s H E).ex:=fun b z=>absurd (show b∈([]:List aD) from z) (by simp)
 refine⟨⟨e0.mod,S.kind,rfl,rfl,bE _,fun y z c h1 h2=>?_,fun y hy=>?_,fun y c _ h=>?_,fun _=>hd,Around.frames_deeper e0.frames,.inr ⟨rfl,rfl⟩,fun b z=>absurd z (noA b),e0.bs,e0.bsz,fun b _ _=>noA b,fun b z=>absurd z (noA b),e0.funs,e0.frf⟩,
  rfl,e0.bare,Un.kept hk,⟨_,x.toInCall.ns,fun i y v h1 h2 h3=>?_⟩,fun y c h=>⟨_,x.cell y c h⟩,e0.hok.fresh (bE _),fun y c h=>?_,fun p hp=>absurd (show p∈([]:List (aD×bH)) from hp) (by simp),e0.hok.kept hk,?_⟩
 ·exact name_of_addr x.apart (FA h1) (FA h2)
 ·have hy:scope.names.lookup y=some .cell \/ scope.names.lookup y=some .free:=hy
  rcases hy with hy | hy
  ·exact SD hy
  ·exact absurd rfl (S.nofree _ (FA hy))
 ·exact pO (x.above y c (FA h))
 ·have hi:i<vs.length:=by
   unfold start at h2
   by_cases hi:i<vs.length
   ·exact hi
   ·rw[d5 (by simpa using hi)] at h2
    rw[List.getElem?_replicate] at h2
    split at h2 <;> cases h2
  have ha:vs[i]?=some v:=by
   unfold start at h2
   rw[NR (by simpa using hi),dI] at h2
   cases e:vs[i]? with
   | none=>rw[e] at h2; cases h2
   | some a=>rw[e] at h2; cases h2; rfl
  obtain⟨u,hu,rv⟩:=r.get ha
  have hp:ps[i]?=some y:=by
   rw[← S.pre,List.getElem?_take_of_lt (by omega)]; exact h1
  have ndP:ps.Nodup:=by rw[← S.pre]; exact S.nd.sublist (List.take_sublist _ _)
  refine⟨u,rv,?_⟩
  rcases S.par y (fK hp) with k | k
  ·exact .inl ⟨k,VP ndP hp hu k⟩
  ·obtain⟨c,e⟩:=SD (n:=s.heap.objs.size+1) k
   refine .inr ⟨.inl k,c,e,?_⟩
   have q:=x.cell y c e
   rw[VL ndP hp hu (by show scope.names.lookup y≠_; rw[k]; decide)] at q
   exact q
 ·exact e0.hok.fresh (pO (x.above y c (FA h)))
 ·unfold start
  show _=N.length
  rw[pQ,cV,List.length_replicate]
  omega
theorem Ea {CX:CXT}{P:bT}{w:bI}{f:aD}{name qual:aC}{params:Arguments}{scope:iQ}{dV kV doc pm cdv ct oc:aE}{an od:Option aD}
  {osl:Array (Option aE)} {N ps:List aC} {sp:Sp} (lk:K.lookup f=some ⟨oc,od,.func (lA name qual params body scope dV kV doc pm an cdv ct),osl⟩) (hcd:AQ K cdv qual=true) (S:FnScope N ps scope)
  (len : ∀ vs H Q E,sp vs H Q E->vs.length=ps.length)
  (hbody : ∀ (A:cM) (outer:List Env) (s:aJ) (H:Hp) (vs:List V) (Q:VK) (E:XK),Room k (A.deeper (pJ qual scope s.heap.objs.size f cdv))->sp vs H Q E ->
   ∃ t,PSs (rP CX P w K mg base N qual scope f cdv A outer s H E) body t/\t { nx:=fun _ H'=>Q .non H',rt:=Q } (start N vs) H) :
  FnOk P w K mg base CX (k+1) f (lA name qual params body scope dV kV doc pm an cdv ct) ps sp:=by
 refine⟨len,fun A outer s H args us vs Q E hr e0 hb r hsp=>?_⟩
 have hl:=len _ _ _ _ hsp
 have KX:K.In s.heap:=e0.mod.kin.keeps fun b o e=>(e0.bs b o e).1
 have lim:s.heap.NoLimit:=e0.mod.nolimit.keeps fun b o e=>(e0.bs b o e).1
 have hkind : ∀ y∈ps.zip us,scope.names.lookup y.1=some .local \/ (scope.names.lookup y.1=some .cell/\((cellsFrom (s.heap.objs.size+1) scope.names []).lookup y.1).isSome=true):=fun⟨n,v⟩ hy=>by
  rcases S.par n (Bs hy).1 with q | q
  ·exact .inl q
  ·exact .inr ⟨q,PySem.W.cellsFrom_some _ _ _ (.inl q)⟩
 refine codeAny_call_function hr.depth (KX _ _ lk) rfl S.co S.gen rfl (PySem.W.codeRec_of KX hcd) (hb _ _ _ _ ?_)
 refine wpAny_newFunctionEnv_cells S.kind hkind fun env he s1 x=>?_
 subst he
 refine⟨lim.keeps x.toInCall.keep,codeAny_func ?_⟩
 obtain⟨t,ht,hq⟩:=hbody A outer s H vs Q E (hr.deeper _) hsp
 have I:Inv (rP CX P w K mg base N qual scope f cdv A outer s H E) [] (start N vs) H s1:=b7 S hr.hd e0 hl r x
 refine kZ (ht [] s1 (start N vs) H _ I hq) (fun fl s' hs=>?_) fun e s' hs=>hs
 have fin : ∀ {σ':St} {H':Hp} {v:V} {u:aE},Inv (rP CX P w K mg base N qual scope f cdv A outer s H E) [] σ' H' s'->RelV v u->Q v H'->CE outer P w H s Q u s':=
  fun {σ' H' v u} J rv q=>⟨v,H',J.os,J.bare,J.base,J.hok,rv,q⟩
 cases fl with
 | ret u=>
  obtain⟨v,σ',H',J,rv,q⟩:=hs
  exact fin J rv q
 | next=>
  obtain⟨σ',H',J,q⟩:=hs
  exact fin (v:=V.non) (u:=dP) J rfl q
 | brk=>
  obtain⟨_,_,_,q⟩:=hs
  exact pT q
 | cont=>
  obtain⟨_,_,_,q⟩:=hs
  exact pT q
section
variable {X:Cx}{t:TA}{id T:String}{r:List V->Hp->VK->Prop}
def tCB (r:List V->Hp->VK->Prop)(t:TA):TE:=fun σ H Q=>t σ H fun vs H1=>r vs H1 Q
theorem TC (hc:Adz X (.builtin id) r)(hg:Gl X x)(hm:X.mg x=none)(hv:lU x=some (.builtin id))(ha:PA X (e::es) t)(hn:x ≠ "__name__":=by decide)(hdb:(x == ("__debug__" : aC))=false:=by decide)
  (he:cC (e::es) X.env=(false,bY e X.env)::cC es X.env:=by rfl) (hpl:(fX pos (cC es X.env)).any (·.1)=false:=by rfl):PE X (.Call (.Name x p) (e::es) [] pos) (tCB r t):=by
 intro pins s σ H Q I h
 refine Au (uK I hg hm hv ?_ hn hdb)
 exact PyProof.Rows.callWith_builtin1 (thn (ha pos pins s σ H _ I h) fun us s1 ⟨vs,H1,I1,r1,q1⟩=>hc pins s1 σ H1 vs us Q I1 r1 q1) he hpl
theorem JQ (hc:Adz X (.type T) r)(hg:Gl X x)(hm:X.mg x=none)(hv:lU x=some (.type T))(ha:PA X (e::es) t)(hn:x ≠ "__name__":=by decide)(hdb:(x == ("__debug__" : aC))=false:=by decide)
  (he:cC (e::es) X.env=(false,bY e X.env)::cC es X.env:=by rfl) (hpl:(fX pos (cC es X.env)).any (·.1)=false:=by rfl):PE X (.Call (.Name x p) (e::es) [] pos) (tCB r t):=by
 intro pins s σ H Q I h
 refine Au (uK I hg hm hv ?_ hn hdb)
 exact MU (thn (ha pos pins s σ H _ I h) fun us s1 ⟨vs,H1,I1,r1,q1⟩=>hc pins s1 σ H1 vs us Q I1 r1 q1) he hpl
end
section
variable {κ:Type}[DecidableEq κ]
def fV (kvs:List (κ×V))(k:κ):Option V:=(kvs.find? fun kv=>decide (kv.1=k)).map (·.2)
def putK (kvs:List (κ×V))(k:κ)(v:V):List (κ×V):=
 if (kvs.any fun kv=>decide (kv.1=k))=true then kvs.map (fun kv=>if kv.1=k then(kv.1,v) else kv) else kvs++[(k,v)]
theorem yQ {p:κ×V}{r:List (κ×V)}{k:κ}(e:p.1=k):fV (p::r) k=some p.2:=by simp[fV,iT,e]
theorem yR {p:κ×V}{r:List (κ×V)}{k:κ}(e : ¬ p.1=k):fV (p::r) k=fV r k:=by simp[fV,iT,e]
theorem IU (k:κ) : ∀ kvs:List (κ×V),(kvs.any fun kv=>decide (kv.1=k))=(fV kvs k).isSome
 | []=>rfl
 | p::r=>by
  rw[xA]
  by_cases e:p.1=k
  ·simp only[yQ e,decide_eq_true e,FQ,Option.isSome_some]
  ·rw[yR e,decide_eq_false e,Bool.false_or]; exact IU k r
theorem zH (kvs:List (κ×V))(k:κ)(v:V):(putK kvs k v).length≤kvs.length+1:=by
 unfold putK
 split
 ·rw[cV]; omega
 ·rw[pQ,fL,Bx]; omega
theorem Auc.isSome_eq {o:Option V}{u:Option aE}(r:Auc o u):o.isSome=u.isSome:=by
 cases o with
 | none=>cases u with
  | none=>rfl
  | some _=>exact(show False from r).elim
 | some _=>cases u with
  | none=>exact(show False from r).elim
  | some _=>rfl
theorem Auc.getD {o:Option V}{u:Option aE}{d:V}{d':aE}(r:Auc o u)(rd:RelV d d'):RelV (o.getD d) (u.getD d'):=by
 cases o with
 | none=>cases u with
  | none=>exact rd
  | some _=>exact(show False from r).elim
 | some _=>cases u with
  | none=>exact(show False from r).elim
  | some _=>exact r
theorem KV.val {kvs:List (κ×V)}{vs:List (κ×aE)}(r:KV kvs vs)(k:κ):Auc (fV kvs k) (wF vs k):=by
 unfold KV at r
 induction r with
 | nil=>exact pL
 | @cons p q ps qs h t ih=>
  obtain⟨h1,h2⟩:=h
  by_cases e:p.1=k
  ·have e':q.1=k:=h1.symm.trans e
   have b:wF (q::qs) k=some q.2:=by simp[wF,iT,e']
   rw[yQ e,b]; exact h2
  ·have e' : ¬ q.1=k:=fun z=>e (h1.trans z)
   have b:wF (q::qs) k=wF qs k:=by simp[wF,iT,e']
   rw[yR e,b]; exact ih
theorem KV.any {kvs:List (κ×V)}{vs:List (κ×aE)}(r:KV kvs vs)(k:κ):(kvs.any fun kv=>decide (kv.1=k))=vs.any fun kv=>decide (kv.1=k):=by
 unfold KV at r
 induction r with
 | nil=>rfl
 | cons h t ih=>rw[xA,xA,ih,h.1]
theorem KV.repl {kvs:List (κ×V)}{vs:List (κ×aE)}(r:KV kvs vs)(k:κ){y:V}(ry:RelV y u) :
  KV (kvs.map fun kv=>if kv.1=k then(kv.1,y) else kv) (vs.map fun kv=>if kv.1=k then(kv.1,u) else kv):=by
 unfold KV at r ⊢
 induction r with
 | nil=>exact .nil
 | @cons p q ps qs h t ih=>
  rw[dF,dF]
  refine .cons ?_ ih
  obtain⟨h1,h2⟩:=h
  by_cases e:p.1=k
  ·rw[if_pos e,if_pos (h1.symm.trans e)]; exact⟨h1,ry⟩
  ·rw[if_neg e,if_neg (fun z=>e (h1.trans z))]; exact⟨h1,h2⟩
theorem KV.put {kvs:List (κ×V)}{vs:List (κ×aE)}(r:KV kvs vs)(k:κ){y:V}(ry:RelV y u):KV (putK kvs k y) (sY vs k u):=by
 unfold putK sY
 rw[r.any k]
 by_cases e:(vs.any fun kv=>decide (kv.1=k))=true
 ·rw[if_pos e,if_pos e]; exact r.repl k ry
 ·rw[if_neg e,if_neg e]; exact Paired.snoc r ⟨rfl,ry⟩
theorem KV.length {kvs:List (κ×V)}{vs:List (κ×aE)}(r:KV kvs vs):kvs.length=vs.length:=tN r
end
theorem sC {P:bT}{w:bI}{k:aI}(r:RelV (kV k) u):(fC P w).is k u=true:=by
 cases k with
 | inl i=>obtain⟨t,e⟩:=(show ∃ t,u=tL i t from r); subst e; exact LB P w i t
 | inr x=>obtain⟨t,e⟩:=(show ∃ t,u=tJ x t from r); subst e; exact LC P w x t
abbrev KT (H:Hp):List (List aA×V)->List (List aA×aD×aE)->Prop:=iD fun p q=>p.1=q.1/\Alf H p.1 q.2.1/\RelV p.2 q.2.2
theorem KT.val {H:Hp}{kvs:List (List aA×V)}(r:KT H kvs xs)(k:List aA):Auc (fV kvs k) ((oC xs k).map (·.2)):=by
 induction r with
 | nil=>exact pL
 | @cons p q ps qs h t ih=>
  obtain⟨h1,_,h2⟩:=h
  by_cases e:p.1=k
  ·have e':q.1=k:=h1.symm.trans e
   have b:oC (q::qs) k=some q.2:=by simp[oC,iT,e']
   rw[yQ e,b]; exact h2
  ·have e' : ¬ q.1=k:=fun z=>e (h1.trans z)
   have b:oC (q::qs) k=oC qs k:=by simp[oC,iT,e']
   rw[yR e,b]; exact ih
theorem KT.repl {H:Hp}{kvs:List (List aA×V)}(r:KT H kvs xs)(k:List aA){y:V}(ry:RelV y u) :
  KT H (kvs.map fun kv=>if kv.1=k then(kv.1,y) else kv) (xs.map (putAt k u)):=by
 induction r with
 | nil=>exact .nil
 | @cons p q ps qs h t ih=>
  rw[dF,dF]
  refine .cons ?_ ih
  obtain⟨h1,h2,h3⟩:=h
  unfold putAt
  by_cases e:p.1=k
  ·rw[if_pos e,if_pos (h1.symm.trans e)]; exact⟨h1,h2,ry⟩
  ·rw[if_neg e,if_neg (fun z=>e (h1.trans z))]; exact⟨h1,h2,h3⟩
theorem KT.put {H:Hp}{kvs:List (List aA×V)}(r:KT H kvs xs)(k:List aA){y:V}(hb:Alf H k b)(ry:RelV y u) :
  KT H (putK kvs k y) (pG xs k b u):=by
 have e:(kvs.any fun kv=>decide (kv.1=k))=(oC xs k).isSome:=by
  rw[IU,(r.val k).isSome_eq,MY]
 unfold putK pG
 rw[e]
 by_cases q:(oC xs k).isSome=true
 ·rw[if_pos q,if_pos q]; exact r.repl k ry
 ·rw[if_neg q,if_neg q]; exact Paired.snoc r ⟨rfl,hb,ry⟩
theorem KT.keeps {H H':Hp}{kvs:List (List aA×V)}(r:KT H kvs xs)(ht : ∀ b ys,H b=some (.tup ys)->H' b=some (.tup ys)):KT H' kvs xs:=
 Paired.mapP r fun _ _ z=>⟨z.1,z.2.1.keep ht,z.2.2⟩
section
variable {P:bT}{w:bI}{H:Hp}
theorem PD {u:HO}(ok:HOk P w H h)(e:Rd H a u):Ac9 P w H h a u:=e.ok ok
theorem rW{kvs:List (aI×V)}(ok:HOk P w H h)(e:Rd H a (.dK ep kvs)):kvs.length≤sizeLine/\(a == iB)=false /\ ∃ vs,KV kvs vs/\h.DictAt (fC P w) a vs ep:=
 show Ac9 P w H h a (.dK ep kvs) from PD ok e
theorem oJ{kvs:List (aI×V)}(ok:HOk P w H h)(e:Rd H a (.dK ep kvs)):kvs.length≤sizeLine/\(a == iB)=false /\ ∃ vs,KV kvs vs/\h.DictOf (fC P w) a vs:=
 let ⟨z,y,vs,r,d⟩:=rW ok e; ⟨z,y,vs,r,d.dictOf⟩
theorem uG{kvs:List (aI×V)}(ok:HOk P w H h)(e:H a=some (.dK ep kvs)):kvs.length≤sizeLine/\(a == iB)=false /\ ∃ vs,KV kvs vs/\h.DictOf (fC P w) a vs:=oJ ok (.inl e)
theorem zS {P:bT}{w:bI}(hu:A.units+40<cLine):(hZ P w).room A.in1:=by
 show A.in1.units+20<cLine
 have:A.in1.units=A.units+1:=rfl
 omega
mutual
theorem UV (ok:HOk P w H h) : ∀ (d:aA) {v:V} {u:aE},Aku H d v->RelV v u -> ∃ as,pN h u d as
 | .int i,v,u,k,r=>by
  have e:v = .int i:=by simpa [Aku] using k
  subst e
  obtain⟨t,rfl⟩:=r
  exact⟨_,.int i t⟩
 | .str x,v,u,k,r=>by
  have e:v = .str x:=by simpa [Aku] using k
  subst e
  obtain⟨t,rfl⟩:=r
  exact⟨_,.str x t⟩
 | .tuple ds,v,u,k,r=>by
  simp only[Aku] at k
  obtain⟨a,xs,rfl,e,ks⟩:=k
  cases r
  obtain⟨_,its,rv,⟨o,h1,h2,n,h3⟩,_⟩:=(show Ac9 P w H h a (.tup xs) from ok a _ e)
  obtain⟨as,ra⟩:=UF ok ds ks rv
  exact⟨as,.tuple h1 h2 h3 (by simpa using ra)⟩
 | .none,v,u,k,r=>by simp[Aku] at k
 | .bool _,v,u,k,r=>by simp[Aku] at k
 | .list _,v,u,k,r=>by simp[Aku] at k
 | .dict _,v,u,k,r=>by simp[Aku] at k
theorem UF (ok:HOk P w H h) : ∀ (ds:List aA) {vs:List V} {us:List aE},Agk H ds vs->Vals vs us -> ∃ as,pM h us ds as
 | [],vs,us,k,r=>by
  have e:vs=[]:=by simpa [Agk] using k
  subst e
  cases r
  exact⟨_,.nil⟩
 | d::ds,vs,us,k,r=>by
  simp only[Agk] at k
  obtain⟨x,rr,rfl,k1,k2⟩:=k
  cases r with
  | cons r1 r2=>
   obtain⟨as,ra⟩:=UV ok d k1 r1
   obtain⟨bs,rb⟩:=UF ok ds k2 r2
   exact⟨_,.cons ra rb⟩
end
theorem key_of(ok:HOk P w H h)(e:Alf H ks a):(hZ P w).is h ks a:=by
 obtain⟨k1,k2,xs,e,ks'⟩:=e
 refine⟨k1,k2,?_⟩
 exact UV ok (.tuple ks) (v:=.ref a) (u:=.ref a) (by simp only[Aku]; exact⟨a,xs,rfl,e,ks'⟩) rfl
theorem rY {kvs:List (List aA×V)}(ok:HOk P w H h)(e : ∃ ep,Rd H a (.dT ep kvs)):kvs.length≤sizeLine/\(a == iB)=false /\
  ∃ xs,KT H kvs xs/\h.DictOfH (hZ P w) a xs:=by
 obtain⟨ep,e⟩:=e
 obtain⟨z,y,xs,r,o,es,h1,h2,h3,h4,h5⟩:=(show Ac9 P w H h a (.dT ep kvs) from PD ok e)
 refine⟨z,y,xs,r,o,es,ep,h1,h2,h3,h4,fun x hx=>?_,h5⟩
 have all : ∀ {l:List (List aA×V)} {m:List (List aA×aD×aE)},KT H l m -> ∀ x∈m,(hZ P w).is h x.1 x.2.1:=by
  intro l m q
  induction q with
  | nil=>intro x hx; exact nomatch hx
  | @cons p q ps qs hq t ih=>
   intro x hx
   rcases cU.mp hx with e | hx
   ·subst e
    exact key_of ok (by rw[← hq.1]; exact hq.2.1)
   ·exact ih x hx
 exact all r x hx
theorem Fp{kvs:List (List aA×V)}(ok:HOk P w H h)(e:H a=some (.dT ep kvs)):kvs.length≤sizeLine/\(a == iB)=false /\
  ∃ xs,KT H kvs xs/\h.DictOfH (hZ P w) a xs:=rY ok ⟨ep,.inl e⟩
end
def A4k (H:Hp)(a:aD)(y:V)(r:Option V):Prop:=
 (∃ ep kvs k,Rd H a (.dK ep kvs)/\y=kV k/\r=fV kvs k) \/ ∃ kvs k b,(∃ ep,Rd H a (.dT ep kvs))/\y = .ref b/\Alf H k b/\r=fV kvs k
def Bh4 (H:Hp)(a:aD)(y v:V)(H':Nat->Hp):Prop:=
 (∃ ep kvs k,H a=some (.dK ep kvs)/\y=kV k/\kvs.length<sizeLine/\H'=fun n=>upd H a (.dK n (putK kvs k v))) \/
 ∃ kvs k b,(∃ ep,H a=some (.dT ep kvs))/\y = .ref b/\Alf H k b/\kvs.length<sizeLine/\H'=fun n=>upd H a (.dT n (putK kvs k v))
theorem A4k.t {H:Hp}{kvs:List (List aA×V)}{k:List aA}(e:H a=some (.dT ep kvs))(eb:Alf H k b):A4k H a (.ref b) (fV kvs k):=.inr ⟨kvs,k,b,⟨ep,.inl e⟩,rfl,eb,rfl⟩
theorem Bh4.t {H:Hp}{kvs:List (List aA×V)}{k:List aA}{v:V}(e:H a=some (.dT ep kvs))(eb:Alf H k b)(hl:kvs.length<sizeLine) :
  Bh4 H a (.ref b) v (fun n=>upd H a (.dT n (putK kvs k v))):=.inr ⟨kvs,k,b,⟨ep,e⟩,rfl,eb,hl,rfl⟩
section
variable {X:Cx}{σ:St}{H:Hp}{y v:V}{r:aE}{o:Option V}
theorem Inv.big (I:Inv X pins σ H s):iB<s.heap.objs.size:=by
 have h:dM<s.heap.objs.size:=(I.mod.glob.keeps I.bk).lt
 exact AW (by decide) h
theorem Pl(hu:A.units+40<cLine)(I:Inv X pins σ H s)(g:A4k H a y (some v))(ry:RelV y u)(h : ∀ w' s',Inv X pins σ H s'->RelV v w'->Q w' s') :
  aM (aU X.prog X.w) A (pI (.ref a) u) Q E s:=by
 rcases g with⟨ep,kvs,k,e,ey,l⟩ | ⟨kvs,k,b,e,ey,eb,l⟩
 ·subst ey
  obtain⟨z,hd,vs,rel,dd⟩:=oJ I.hok e
  obtain⟨w',hw,rw'⟩:=Auc.some_of (v:=v) (o:=wF vs k) (by rw[l]; exact rel.val k)
  exact wpAny_getItem_of (sC ry) dd.mapOf hw (h w' _ (I.tok _) rw')
 ·subst ey
  cases(show u=eP b from ry)
  obtain⟨z,hd,xs,rel,dd⟩:=rY I.hok e
  obtain⟨w',hw,rw'⟩:=Auc.some_of (v:=v) (o:=(oC xs k).map (·.2)) (by rw[l]; exact rel.val k)
  obtain⟨p,hp,hp2⟩:=nB.mp hw
  refine wpAny_getItem_heap (zS hu) (key_of I.hok eb) dd hp ?_
  rw[hp2]
  exact h w' _ (I.tok _) rw'
theorem Dt(hu:A.units+40<cLine)(I:Inv X pins σ H s)(g:A4k H a y o)(ry:RelV y u)(h : ∀ s',Inv X pins σ H s'->Q (.bool o.isSome) s') :
  aM (aU X.prog X.w) A (iC .In u (.ref a)) Q E s:=by
 rcases g with⟨ep,kvs,k,e,ey,l⟩ | ⟨kvs,k,b,e,ey,eb,l⟩
 ·subst ey
  obtain⟨z,hd,vs,rel,dd⟩:=oJ I.hok e
  refine wpAny_in_of (sC ry) hd dd.mapOf ?_
  rw[← (rel.val k).isSome_eq,← l]
  exact h _ (I.tok _)
 ·subst ey
  cases(show u=eP b from ry)
  obtain⟨z,hd,xs,rel,dd⟩:=rY I.hok e
  refine wpAny_in_heap (zS hu) (key_of I.hok eb) hd dd ?_
  have q:=(rel.val k).isSome_eq
  rw[MY] at q
  rw[← q,← l]
  exact h _ (I.tok _)
theorem Kg(hu:A.units+40<cLine)(I:Inv X pins σ H s)(g:A4k H a y o)(ry:RelV y u)(h : ∀ s',Inv X pins σ H s'->Q (.bool (!o.isSome)) s') :
  aM (aU X.prog X.w) A (iC .NotIn u (.ref a)) Q E s:=by
 rcases g with⟨ep,kvs,k,e,ey,l⟩ | ⟨kvs,k,b,e,ey,eb,l⟩
 ·subst ey
  obtain⟨z,hd,vs,rel,dd⟩:=oJ I.hok e
  refine wpAny_notIn_of (sC ry) hd dd.mapOf ?_
  rw[← (rel.val k).isSome_eq,← l]
  exact h _ (I.tok _)
 ·subst ey
  cases(show u=eP b from ry)
  obtain⟨z,hd,xs,rel,dd⟩:=rY I.hok e
  refine wpAny_notIn_heap (zS hu) (key_of I.hok eb) hd dd ?_
  have q:=(rel.val k).isSome_eq
  rw[MY] at q
  rw[← q,← l]
  exact h _ (I.tok _)
theorem HZ{ob:HO}(I:Inv X pins σ H s)(mu:xG (H a))(hs:nH a s.heap h')(he : ∃ q,h'.get? a=some q)(new:Ac9 X.prog X.w (upd H a ob) h' a ob) :
  Inv X pins σ (upd H a ob) { s with heap:=h',toks:=t' }:=
 I.write (x:=a) (e:=a) mu (.inl rfl) (fun b q hb z=>(hs.2 b hb).trans z) he new
theorem BZ {P:bT}{w:bI}{H':Hp}{kvs:List (aI×V)}{vs:List (aI×aE)}(z:kvs.length≤sizeLine)(hd:(a == iB)=false)(rel:KV kvs vs)(dd:h'.DictAt (fC P w) a vs ep) :
  Ac9 P w H' h' a (.dK ep kvs):=⟨z,hd,vs,rel,dd⟩
theorem Yx {H':Nat->Hp}{Q:Unit->aJ->Prop}(hu:A.units+40<cLine)(I:Inv X pins σ H s)(g:Bh4 H a y v H')(ry:RelV y u)(rv:RelV v r)(h : ∀ n s',Inv X pins σ (H' n) s'->Q () s') :
  aM (aU X.prog X.w) A (setItem (.ref a) u r) Q E s:=by
 rcases g with⟨ep,kvs,k,e,ey,l,eH⟩ | ⟨kvs,k,b,e,ey,eb,l,eH⟩
 ·subst ey eH
  obtain⟨z,hd,vs,rel,dd⟩:=uG I.hok e
  have hz:vs.length≤sizeLine:=by rw[← rel.length]; exact z
  have hl:(putK kvs k v).length≤sizeLine:=by have:=zH kvs k v; omega
  refine wpAny_setItem_pairs (hsz:=hz) (sC ry) dd fun h' dd' hs=>?_
  have he : ∃ q,h'.get? a=some q:=let ⟨q,_,_,hq,_⟩:=dd'; ⟨q,hq⟩
  obtain⟨n,da⟩:=dd'.dictAt
  exact h n _ (HZ I (by rw[e]; exact pL) hs he (BZ hl hd (rel.put k rv) da))
 ·subst ey eH
  cases(show u=eP b from ry)
  obtain⟨ep0,e⟩:=e
  obtain⟨z,hd,xs,rel,dd⟩:=Fp I.hok e
  have hz:xs.length≤sizeLine:=by rw[← tN rel]; exact z
  have hl:(putK kvs k v).length≤sizeLine:=by have:=zH kvs k v; omega
  refine wpAny_setItem_heap (hsz:=hz) (zS hu) (key_of I.hok eb) dd fun h' dd' hs=>?_
  obtain⟨q,es,ep,hq,h2,h3,h4,_,h5⟩:=dd'
  refine h ep _ ?_
  refine HZ I (by rw[e]; exact pL) hs ⟨q,hq⟩ ⟨hl,hd,_,(rel.put k eb rv).keeps fun c ys ec=>?_,q,es,hq,h2,h3,h4,h5⟩
  rw[dJ (Ed ec e (fun z=>nomatch z))]
  exact ec
end
section
variable {X:Cx}{σ:St}{H:Hp}{kvs:List (aI×V)}{k:aI}
theorem Dy(I:Inv X pins σ H s)(e:Rd H a (.dK ep kvs))(h : ∀ t s',Inv X pins σ H s'->Q (.int kvs.length t) s'):aM (aU X.prog X.w) A (call (.builtin "len") [.ref a]) Q E s:=by
 obtain⟨z,hd,vs,rel,dd⟩:=oJ I.hok e
 refine call_len_dict hd dd (by rw[← rel.length]; rw[wH] at z; omega) ?_
 rw[← rel.length]
 exact h _ _ (I.tok _)
end
def ON (i:aT):Prop:=∀ ov iv,MP i false ov iv=operate [ov,iv] (pI ov iv)
theorem My{w:bI}{env:Env}{value slice:aT}{T id:String}
  (hl:AI (.type T) "__getitem__" = pure (some (.builtin id))) (hs:ON slice)
  (h:aM (aU prog w) A (bY value env) (fun o s₁=>aM (aU prog w) A (bY slice env) (fun i s₂=>s₂.TypeIs o T/\aM (aU prog w) A (pI o i) Q E s₂) E s₁) E s) :
  aM (aU prog w) A (bY (.Subscript value slice pos) env) Q E s:=by
 refine Subscript_ (kZ h (fun o s₁ h₁=>kZ h₁ (fun i s₂ h₂=>?_) fun _ _ x=>x) fun _ _ x=>x)
 obtain⟨hT,h₂⟩:=h₂
 unfold subscriptTail
 refine aF ?_
 rw[getitemInPython_of_ne hT.not_modules]
 refine aF (AD hT hl ?_)
 have fin:aM (aU prog w) A (MP slice false o i) (fun r s₃=>aM (aU prog w) A (letTemporaryGo value o r >>= fun _=>pure r) Q E s₃) E s₂:=by
  rw[hs o i]
  exact wpAny_operating (kZ h₂ (fun r s₃ h₃=>aF (wpAny_letTemporaryGo (aP h₃))) fun _ _ x=>x)
 first
  | exact aP (aF fin)
  | exact aF (aP (aF fin))
  | exact aF fin
theorem Sw {X:Cx}{σ:St}{H:Hp}{y:V}{o:Option V}(I:Inv X pins σ H s)(g:A4k H a y o):s.TypeIs (.ref a) "dict":=by
 rcases g with⟨ep,kvs,k,e,_,_⟩ | ⟨kvs,k,b,e,_,_,_⟩
 ·obtain⟨_,_,vs,_,dd⟩:=oJ I.hok e
  exact dd.typeIs
 ·obtain⟨_,_,xs,_,dd⟩:=rY I.hok e
  exact dd.typeIs
def Ep (td ty:TE):TE:=fun σ H Q=>td σ H fun x H1=>ty σ H1 fun y H2=>∃ a v,x = .ref a/\A4k H2 a y (some v)/\Q v H2
def Eu (td ty tv:TE):TS:=fun D σ H=>tv σ H fun v H1=>td σ H1 fun x H2=>ty σ H2 fun y H3=>∃ a H4,x = .ref a/\Bh4 H3 a y v H4 /\ ∀ n,D.nx σ (H4 n)
section
variable {X:Cx}{o i value:aT}{pos' tpos:bZ}{td ty tv:TE}
theorem RF (hu:X.A.units+40<cLine)(ho:PE X o td)(hi:PE X i ty)(hs:ON i):PE X (.Subscript o i pos) (Ep td ty):=by
 intro pins s σ H Q I h
 refine My PySem.F.slot_dict_getitem.lookup hs (thn (ho pins s σ H _ I h) fun u s1 ⟨x,H1,I1,rx,q1⟩=>thn (hi pins s1 σ H1 _ I1 q1) fun iv s2 gh=>?_)
 obtain⟨y,H2,I2,ry,a,v,ex,g,q2⟩:=gh
 subst ex
 obtain rfl:u=eP a:=rx
 exact⟨Sw I2 g,Pl hu I2 g ry fun w' s3 I3 rw'=>⟨v,H2,I3,rw',q2⟩⟩
theorem ZL (hu:X.A.units+40<cLine)(ho:PE X o td)(hi:PE X i ty)(hv:PE X value tv)(hs:mZ value (some (.Subscript o i pos')) pos.line X.env=pure false) :
  PS X (.Assign [.Subscript o i pos'] value pos) (Eu td ty tv):=by
 intro pins s σ H D I h
 refine wpAny_Assign_Subscript (thn (hv pins s σ H _ I h) fun r s1 ⟨v,H1,I1,rv,q1⟩=>thn (ho pins s1 σ H1 _ I1 q1) fun u s2 ⟨x,H2,I2,rx,q2⟩=>thn (hi pins s2 σ H2 _ I2 q2) fun iv s3 ⟨y,H3,I3,ry,a,H4,ex,g,q3⟩=>?_) hs
 subst ex
 obtain rfl:u=eP a:=rx
 exact Yx hu I3 g ry rv fun n s4 I4=>⟨σ,H4 n,I4,q3 n⟩
end
theorem Ws {P:bT}{w:bI}{H:Hp}(h:aZ)(hb:iB<h.objs.size):Ac9 P w H (h.push { cls:=.type "dict",data:=.dict #[] }) h.objs.size (.dK 0 []):=
 ⟨eR _,beq_eq_false_iff_ne.mpr (eZ (dQ hb)),[],.nil,_,#[],dA _ rfl,⟨rfl,rfl,rfl⟩,rfl,fun _ he=>by simp at he,Pairs.nil,pP⟩
theorem Vw {P:bT}{w:bI}{H:Hp}(h:aZ)(hb:iB<h.objs.size):Ac9 P w H (h.push { cls:=.type "dict",data:=.dict #[] }) h.objs.size (.dT 0 []):=
 ⟨eR _,beq_eq_false_iff_ne.mpr (eZ (dQ hb)),[],.nil,_,#[],dA _ rfl,⟨rfl,rfl,rfl⟩,rfl,rfl,pP⟩
def Il:TE:=fun _ H Q=>∀ p,H p=none->Q (.ref p) (upd H p (.dK 0 []))
def Ig:TE:=fun _ H Q=>∀ p,H p=none->Q (.ref p) (upd H p (.dT 0 []))
section
variable {X:Cx}
theorem Wb:PE X (.Dict [] [] pos) Il:=fun pins s σ H Q I h=>
 wpAny_Dict_empty ⟨.ref s.heap.objs.size,_,I.laid (a:=s.heap.objs.size) (o:=.dK 0 []) (t':=s.toks) (fun _ _ q=>bW _ q) (bE _) (Ws s.heap I.big),rfl,h _ (I.hok.fresh (bE _))⟩
theorem Va:PE X (.Dict [] [] pos) Ig:=fun pins s σ H Q I h=>
 wpAny_Dict_empty ⟨.ref s.heap.objs.size,_,I.laid (a:=s.heap.objs.size) (o:=.dT 0 []) (t':=s.toks) (fun _ _ q=>bW _ q) (bE _) (Vw s.heap I.big),rfl,h _ (I.hok.fresh (bE _))⟩
end
def oP (kvs more:List (aI×V)):List (aI×V):=more.foldl (fun acc kv=>putK acc kv.1 kv.2) kvs
theorem KV.merge : ∀ {more:List (aI×V)} {rs:List (aI×aE)} {kvs:List (aI×V)} {vs:List (aI×aE)},KV more rs->KV kvs vs->KV (oP kvs more) (oA vs rs):=by
 intro more rs kvs vs r
 unfold KV at r
 induction r generalizing kvs vs with
 | nil=>intro q; exact q
 | @cons p q ps qs h t ih=>
  intro r0
  have e:KV (putK kvs p.1 p.2) (sY vs q.1 q.2):=by
   have:=r0.put p.1 h.2
   rw[← h.1]; exact this
  exact ih e
theorem XO : ∀ (more kvs:List (aI×V)),(oP kvs more).length≤kvs.length+more.length
 | [],kvs=>by show kvs.length≤kvs.length+0; omega
 | p::r,kvs=>by
  have h1:=XO r (putK kvs p.1 p.2)
  have h2:=zH kvs p.1 p.2
  show(oP (putK kvs p.1 p.2) r).length≤_
  rw[fL]; omega
structure M2 (X:Cx)(o:aT)(m:aC)(apos:bZ)(e f:aT)(cpos:bZ):Prop where
 base:pK o m X.env (bY o X.env)=bY o X.env
 few:((fX cpos (cC [e,f] X.env)).all (fun x=>!x.1)&&(AO cpos (AJ [] X.env)).all (fun x=>x.1.isSome)
  && decide (([e,f]:List aT).length+([]:List nF).length+(if ([]:List nF).isEmpty then 0 else 1)<30))=true
 line:(apos.endLine == cpos.line)=true
 trees:fX cpos (cC [e,f] X.env)=[(false,bY e X.env),(false,bY f X.env)]
def IsD (H:Hp)(a:aD):Prop:=(∃ ep kvs,Rd H a (.dK ep kvs)) \/ ∃ kvs,∃ ep,Rd H a (.dT ep kvs)
theorem Fz {X:Cx}{σ:St}{H:Hp}(I:Inv X pins σ H s)(d:IsD H a) :
  s.TypeIs (.ref a) "dict" /\ (∀ b,eP a = .ref b -> ∃ ob,s.heap.get? b=some ob/\ob.dict=none)/\(a == iB)=false:=by
 rcases d with⟨ep,kvs,e⟩ | ⟨kvs,e⟩
 ·obtain⟨_,hd,vs,_,dd⟩:=oJ I.hok e
  refine⟨dd.typeIs,fun b q=>?_,hd⟩
  cases q
  obtain⟨ob,_,_,h1,h2,_⟩:=dd
  exact⟨ob,h1,h2.2.1⟩
 ·obtain⟨_,hd,xs,_,dd⟩:=rY I.hok e
  refine⟨dd.typeIs,fun b q=>?_,hd⟩
  cases q
  obtain⟨ob,_,_,h1,h2,_⟩:=dd
  exact⟨ob,h1,h2.2.1⟩
section
variable {X:Cx}{σ:St}{H:Hp}{y d:V}{r:aE}{o:Option V}
theorem Jr(hu:A.units+40<cLine)(I:Inv X pins σ H s)(g:A4k H a y o)(ry:RelV y u)(rd:RelV d r)(h : ∀ w' s',Inv X pins σ H s'->RelV (o.getD d) w'->Q w' s') :
  aM (aU X.prog X.w) A (call (.builtin "dict.get") [.ref a,u,r]) Q E s:=by
 rcases g with⟨ep,kvs,k,e,ey,l⟩ | ⟨kvs,k,b,e,ey,eb,l⟩
 ·subst ey
  obtain⟨z,hd,vs,rel,dd⟩:=oJ I.hok e
  refine call_meetsIn Bh dd.typeIs PySem.F.entry_dict_get (c7 _ _ _) (meets_dict_get_default (fC X.prog X.w) a (sC ry) hd r) ⟨_,dd.mapOf,h _ _ (I.tok _) ?_⟩
  rw[l]
  exact(rel.val k).getD rd
 ·subst ey
  cases(show u=eP b from ry)
  obtain⟨z,hd,xs,rel,dd⟩:=rY I.hok e
  refine call_meetsIn Bh dd.typeIs PySem.F.entry_dict_get (c7 _ _ _) (meetsH_dict_get_default (hZ X.prog X.w) a b hd r) ⟨zS hu,k,xs,key_of I.hok eb,dd,h _ _ (I.tok _) ?_⟩
  rw[l]
  exact(rel.val k).getD rd
end
def Ik (td ty tx:TE):TE:=fun σ H Q=>td σ H fun x H1=>∃ a,x = .ref a/\IsD H1 a/\ty σ H1 fun y H2=>tx σ H2 fun z H3=>∃ o,A4k H3 a y o/\Q (o.getD z) H3
section
variable {X:Cx}{o f:aT}{apos cpos:bZ}{td ty tx:TE}
theorem RZ (hu:X.A.units+40<cLine)(ho:PE X o td)(he:PE X e ty)(hf:PE X f tx)(m:M2 X o "get" apos e f cpos):PE X (.Call (.Attribute o "get" apos) [e,f] [] cpos) (Ik td ty tx):=by
 intro pins s σ H Q I h
 refine As m.base m.few m.line c6 Bh PySem.F.type_dict_get (thn (ho pins s σ H _ I h) fun u s1 gh=>?_)
 obtain⟨x,H1,I1,rx,a,ex,d,q1⟩:=gh
 subst ex
 obtain rfl:u=eP a:=rx
 obtain⟨t1,t2,_⟩:=Fz I1 d
 refine⟨t1,t2,?_⟩
 rw[m.trees]
 refine Calls.callWith_builtin rfl (Calls.evalArgs_plain (Co (thn (he pins s1 σ H1 _ I1 q1) fun iv s2 ⟨y,H2,I2,ry,q2⟩=>
  Co (thn (hf pins s2 σ H2 _ I2 q2) fun fv s3 ⟨z,H3,I3,rz,ov,g,q3⟩=>Calls.spliced_nil ?_))))
 exact Jr hu I3 g ry rz fun w' s4 I4 rw'=>⟨_,H3,I4,rw',q3⟩
end
section
variable {X:Cx}{σ:St}{H:Hp}{kvs:List (aI×V)}
theorem Vp(I:Inv X pins σ H s)(e:Rd H a (.dK ep kvs))(h : ∀ p n s',H p=none->Inv X pins σ (upd H p (.dK n kvs)) s'->Q (.ref p) s'):aM (aU X.prog X.w) A (call (.type "dict") [.ref a]) Q E s:=by
 obtain⟨z,hd,vs,rel,dd⟩:=oJ I.hok e
 refine kt_call_dict hd dd (by rw[← rel.length]; exact z) fun h' dd' hs=>?_
 obtain⟨n,da⟩:=dd'.dictAt
 refine h _ n _ (I.hok.fresh (bE _)) (I.laid (a:=s.heap.objs.size) (o:=.dK n kvs) (t':=s.toks) (fun b q hq=>?_) (bE _) (BZ z (beq_eq_false_iff_ne.mpr (eZ (dQ I.big))) rel da))
 exact(hs.2 b (dQ (cA hq))).trans (bW _ hq)
end
end L2
namespace HT
open PySem PyProof.Rows
section
variable {prog:bT}{w:bI}{A:cM}{E:aE->aJ->Prop}{s:aJ}
theorem Ba9 {t b:aD}{vs ws:List aE}{Q:aE->aJ->Prop}(ht:IsTup s.heap t vs.toArray)(hb:IsTup s.heap b ws.toArray)(hv:vs≠[])
  (h1:ws=[]->Q (.ref t) s) (h2:ws≠[]->Q (.ref s.heap.objs.size) { s with heap:=s.heap.push { cls:=.type "tuple",data:=.seq (vs++ws).toArray } })
  (hsz:vs.length+ws.length≤sizeLine):aM (aU prog w) A (kH .Add (.ref t) (.ref b)) Q E s:=by
 obtain⟨⟨cls,dd,data,sl⟩,ho,hc,n,hd⟩:=id ht
 obtain⟨⟨cls2,dd2,data2,sl2⟩,ho2,hc2,n2,hd2⟩:=id hb
 simp only at hc hd hc2 hd2
 subst hc hd hc2 hd2
 have e:vs.toArray++ws.toArray=(vs++ws).toArray:=by simp
 by_cases hw:ws=[]
 ·exact concat_meets ⟨_,ho,rfl⟩ ⟨_,ho2,rfl⟩ Av seq_tuple_add Bg Bj (Bl _ _)
   (tuple_addW1 t b vs.toArray ws.toArray n n2 dd dd2 sl sl2 (by simpa using hv) (by simp[hw])) ⟨ho,ho2,h1 hw⟩
 ·refine concat_meets ⟨_,ho,rfl⟩ ⟨_,ho2,rfl⟩ Av seq_tuple_add Bg Bj (Bl _ _)
   (tuple_addW2 t b vs.toArray ws.toArray n n2 dd dd2 sl sl2 (by simpa using hv) (by simpa using hw) (by rw[dX,dX]; exact hsz)) ⟨ho,ho2,?_⟩
  rw[e]
  exact h2 hw
def sIx (n d:Nat):Option Int->Nat
 | none=>d
 | some v=>if v<0 then(v+(n:Int)).toNat else min v.toNat n
theorem Awm (n d:Nat):sIx n d none=d:=rfl
theorem Ay2 (n d k:Nat):sIx n d (some (k:Int))=min k n:=by
 show(if (k:Int)<0 then((k:Int)+(n:Int)).toNat else min (k:Int).toNat n)=min k n
 rw[if_neg (by omega),xB]
theorem Kf (n d:Nat)(hd:d≤n)(o:Option Int):sIx n d o≤n:=by
 cases o with
 | none=>exact hd
 | some v=>
  show(if v<0 then(v+(n:Int)).toNat else min v.toNat n)≤n
  by_cases hv:v<0
  ·rw[if_pos hv]; omega
  ·rw[if_neg hv]; exact Nat.min_le_right _ _
theorem ZI (v:Int)(n d:Nat):(if v<0 then max (v+(n:Int)) 0 else min v (n:Int))=((sIx n d (some v):Nat):Int):=by
 show(if v<0 then max (v+(n:Int)) 0 else min v (n:Int))=(((if v<0 then(v+(n:Int)).toNat else min v.toNat n):Nat):Int)
 by_cases hv:v<0
 ·simp only[if_pos hv]; omega
 ·simp only[if_neg hv]; omega
theorem Rh (lo hi:Option Int)(n:Nat):Cq lo hi 1 (n:Int)=(((sIx n 0 lo:Nat):Int),((sIx n n hi:Nat):Int)):=by
 have h1 : ¬ ((1:Int)<0):=by omega
 unfold Cq
 simp only[h1,if_false]
 refine Prod.ext ?_ ?_
 ·cases lo with
  | none=>rfl
  | some v=>exact ZI v n 0
 ·cases hi with
  | none=>rfl
  | some v=>exact ZI v n n
theorem Qo (i j:Nat):OE (i:Int) (j:Int) 1=j - i:=by
 unfold OE
 have h1:(1:Int) > 0:=by omega
 simp only[h1,if_true,Int.ediv_one]
 split <;> omega
theorem WS {v:aE}{o:Option Int}{Q:Option Int->aJ->Prop}(p:pS v o)(h:Q o s):aM (aU prog w) A (Builtin.Slice.slicePartIndex v) Q E s:=by
 cases p with
 | none=>exact slicePart_none h
 | int i t=>exact slicePart_int h
theorem Ags {sl:aD}{vl vu:aE}{lo hi:Option Int}{n:Nat}{Q:Int×Int×Nat->aJ->Prop}(hs:s.heap.IsSliceOf sl vl vu .none)(pl:pS vl lo)(pu:pS vu hi)
  (h:Q (((sIx n 0 lo:Nat):Int),1,sIx n n hi - sIx n 0 lo) s):aM (aU prog w) A (Builtin.Slice.sliceApplied (.ref sl) (pure (n:Int))) Q E s:=by
 obtain⟨os,hos,hcs,hds⟩:=id hs
 unfold Builtin.Slice.sliceApplied Builtin.Slice.sliceFields
 refine aF (aF (fS hos hds (x:=vl) rfl (aF (fS hos hds (x:=vu) rfl (aF (fS hos hds (x:=.none) rfl (aP ?_)))))))
 refine aF (slicePart_none ?_)
 show aM _ _ (if ((1:Int) == 0)=true then _ else _) _ _ s
 rw[if_neg (by decide)]
 refine aF (WS pl (aF (WS pu (aF (aP ?_)))))
 show aM _ _ (match Cq lo hi 1 (n:Int) with | (lo,hi)=>pure (lo,(1:Int),OE lo hi 1)) _ _ s
 rw[Rh lo hi n]
 show aM _ _ (pure (((sIx n 0 lo:Nat):Int),(1:Int),OE ((sIx n 0 lo:Nat):Int) ((sIx n n hi:Nat):Int) 1)) _ _ s
 rw[Qo]
 exact aP h
theorem Vm (xs:Array aE)(i k:Nat):((bR k).filterMap fun(m:Nat)=>xs[((i:Int)+(m:Int)*1).toNat]?).toArray=((xs.toList.drop i).take k).toArray:=by
 have e:(fun(m:Nat)=>xs[((i:Int)+(m:Int)*1).toNat]?)=fun m=>xs[i+m]?:=by
  funext m
  have:((i:Int)+(m:Int)*1).toNat=i+m:=by omega
  rw[this]
 rw[e]
 have:=pick_run xs i k
 rw[List.filterMap_map] at this
 have e2:((fun x=>xs[x]?)∘fun x=>i+x)=fun m=>xs[i+m]?:=rfl
 rw[e2] at this
 rw[this]
theorem Ajx {t sl:aD}{items:Array aE}{vl vu:aE}{lo hi:Option Int}{Q:aE->aJ->Prop}(ht:IsTup s.heap t items)(hs:s.heap.IsSliceOf sl vl vu .none)(pl:pS vl lo)(pu:pS vu hi)
  (hw : ¬ (sIx items.size 0 lo=0/\sIx items.size items.size hi=items.size))
  (h:Q (.ref s.heap.objs.size) { s with heap:=s.heap.push { cls:=.type "tuple",data:=.seq ((items.toList.drop (sIx items.size 0 lo)).take (sIx items.size items.size hi - sIx items.size 0 lo)).toArray } })
  (hsz:items.size≤sizeLine):aM (aU prog w) A (pI (.ref t) (.ref sl)) Q E s:=by
 have htake:sizeOk (.seq ((items.toList.drop (sIx items.size 0 lo)).take (sIx items.size items.size hi - sIx items.size 0 lo)).toArray):=by
  show((items.toList.drop (sIx items.size 0 lo)).take (sIx items.size items.size hi - sIx items.size 0 lo)).toArray.size≤sizeLine
  rw[dX,wW,Bz,BK]
  omega
 have hj:sIx items.size items.size hi≤items.size:=Kf _ _ (bE _) hi
 obtain⟨os,hos,hcs,hds⟩:=id hs
 have hTs:s.TypeIs (.ref sl) "slice":=⟨os,hos,hcs⟩
 unfold pI
 try with_reducible refine jV ?_
 first | refine aF (aP ?_) | skip
 refine aF (wpAny_sequenceKey ht.typeIs (by decide) ?_)
 refine aF (mY (name:=lV "__getitem__") ht.typeIs Bm
  (iN Bm ht.typeIs entry_tuple_getitem ?_ (args_tuple_getitem _ _)))
 show aM _ _ (Cp (.ref t) >>= _) _ _ s
 refine aF (tupleItemsOf_ ht ?_)
 refine aF (rB hTs ?_)
 rw[if_pos (by decide)]
 refine aF (Ags hs pl pu ?_)
 have hno : ¬ ((((sIx items.size 0 lo:Nat):Int) == 0&&(1:Int) == 1&&(sIx items.size items.size hi - sIx items.size 0 lo) == items.size)=true):=by
  intro q
  rw[xF,xF] at q
  have q1:((sIx items.size 0 lo:Nat):Int)=0:=eq_of_beq q.1.1
  have q2:sIx items.size items.size hi - sIx items.size 0 lo=items.size:=eq_of_beq q.2
  exact hw ⟨by omega,by omega⟩
 show aM _ _ (if (((sIx items.size 0 lo:Nat):Int) == 0&&(1:Int) == 1&&(sIx items.size items.size hi - sIx items.size 0 lo) == items.size)=true then _ else _) _ _ s
 rw[if_neg hno,Vm]
 first
  | exact aF (m:=OB _) (jM (aP ⟨_,rfl,aP h⟩) htake)
  | exact aF (m:=OB _) (jM (aF (aP (aP ⟨_,rfl,aP h⟩))) htake)
  | exact aF (aF (m:=OB _) (jM (aP (aP ⟨_,rfl,aP h⟩)) htake))
  | exact aF (aF (m:=OB _) (jM (aP ⟨_,rfl,aP h⟩) htake))
end
end HT
namespace L2
open PySem PySem.Spec PyProof.Rows
variable {xs:List V}{n:Nat}{pins:List (aD×bH)}{σ:St}{H:Hp}{s:aJ}{its:List aE}{X:Cx}
abbrev TO:=St->Hp->(Option Int->Hp->Prop)->Prop
def PO (X:Cx)(e:Option aT)(t:TO):Prop:=
 ∀ (pins:List (aD×bH)) (s:aJ) (σ:St) (H:Hp) (Q:Option Int->Hp->Prop),Inv X pins σ H s->t σ H Q ->
  aM (aU X.prog X.w) X.A (evalPart e X.env) (fun u s'=>∃ o H',Inv X pins σ H' s'/\pS u o/\Q o H') X.xe s
def Lw:TO:=fun _ H Q=>Q none H
def Dz (t:TE):TO:=fun σ H Q=>t σ H fun x H1=>∃ i,x = .int i/\Q (some i) H1
section
variable {e:aT}{te:TE}{lo hi:Option aT}{tl th:TO}{pos p2:bZ}
theorem Lm:PO X none Lw:=by
 intro pins s σ H Q I h
 rw[evalPart_none]
 exact aP ⟨none,H,I,.none,h⟩
theorem Nz (h:PE X e te):PO X (some e) (Dz te):=by
 intro pins s σ H Q I hw
 rw[evalPart_some]
 refine thn (h pins s σ H _ I hw) fun u s1 gh=>?_
 obtain⟨x,H1,I1,r1,q1⟩:=gh
 obtain⟨i,rfl,q⟩:=q1
 obtain⟨t,rfl⟩:=r1
 exact⟨some i,H1,I1,.int i t,q⟩
def SlR (X:Cx)(r:V->Option Int->Option Int->Hp->VK->Prop):Prop:=
 ∀ (pins:List (aD×bH)) (s:aJ) (σ:St) (H:Hp) (x:V) (v vl vu:aE) (lo hi:Option Int) (sl:aD) (Q:VK),Inv X pins σ H s->RelV x v->s.heap.IsSliceOf sl vl vu .none->pS vl lo->pS vu hi->r x lo hi H Q ->
  ∃ T id,AI (.type T) "__getitem__" = pure (some (.builtin id))/\s.TypeIs v T/\aM (aU X.prog X.w) X.A (pI v (.ref sl)) (EP X pins σ Q) X.xe s
theorem SlR.or {r r':V->Option Int->Option Int->Hp->VK->Prop}(h:SlR X r)(h':SlR X r'):SlR X (fun x lo hi H Q=>r x lo hi H Q \/ r' x lo hi H Q):=by
 intro pins s σ H x v vl vu lo hi sl Q I rx hs pl pu q
 rcases q with q | q
 ·exact h pins s σ H x v vl vu lo hi sl Q I rx hs pl pu q
 ·exact h' pins s σ H x v vl vu lo hi sl Q I rx hs pl pu q
def tSl (r:V->Option Int->Option Int->Hp->VK->Prop)(te:TE)(tl th:TO):TE:=fun σ H Q=>te σ H fun x H1=>tl σ H1 fun l H2=>th σ H2 fun u H3=>r x l u H3 Q
theorem Wq {r:V->Option Int->Option Int->Hp->VK->Prop}(hr:SlR X r)(he:PE X e te)(hl:PO X lo tl)(hu:PO X hi th):PE X (.Subscript e (.Slice lo hi none p2) pos) (tSl r te tl th):=by
 intro pins s σ H Q I h
 refine Subscript_ (thn (he pins s σ H _ I h) fun v s1 gh=>?_)
 obtain⟨x,H1,I1,r1,q1⟩:=gh
 refine wpAny_Slice (thn (hl pins s1 σ H1 _ I1 q1) fun vl s2 ⟨l,H2,I2,pl,q2⟩=>thn (hu pins s2 σ H2 _ I2 q2) fun vu s3 gh=>?_)
 obtain⟨u,H3,I3,pu,q3⟩:=gh
 rw[evalPart_none]
 refine aP ?_
 have I4:Inv X pins σ H3 { s3 with heap:=s3.heap.push { cls:=.type "slice",data:=.fields #[vl,vu,.none] } }:=I3.kept (t':=s3.toks) fun b ob q=>bW _ q
 obtain⟨T,id,hT,ht,hg⟩:=hr pins { s3 with heap:=s3.heap.push { cls:=.type "slice",data:=.fields #[vl,vu,.none] } } σ H3 x v vl vu l u s3.heap.objs.size Q I4 r1 (Heap.IsSliceOf.new ..) pl pu q3
 show aM (aU X.prog X.w) X.A (subscriptTail e (.Slice lo hi none p2) v (.ref s3.heap.objs.size)) (EP X pins σ Q) X.xe { s3 with heap:=s3.heap.push { cls:=.type "slice",data:=.fields #[vl,vu,.none] } }
 exact tail_any (ops:=[.ref s3.heap.objs.size,v]) ht hT hg (by with_unfolding_all rfl)
def xP (xs:List V)(lo hi:Option Int):List V:=(xs.drop (HT.sIx xs.length 0 lo)).take (HT.sIx xs.length xs.length hi - HT.sIx xs.length 0 lo)
theorem Rw (xs:List V)(lo hi:Option Int):(xP xs lo hi).length≤xs.length:=by
 unfold xP
 rw[wW,Bz]
 omega
def Dl (K:aK):V->Option Int->Option Int->Hp->VK->Prop:=fun x lo hi H Q=>∃ a xs,x = .ref a/\SqT K H a xs /\
 ¬ (HT.sIx xs.length 0 lo=0/\HT.sIx xs.length xs.length hi=xs.length) /\ ∀ p,H p=none->Q (.ref p) (upd H p (.tup (xP xs lo hi)))
theorem Jd:SlR X (Dl X.K):=by
 intro pins s σ H x v vl vu lo hi sl Q I rx hs pl pu h
 obtain⟨a,xs,rfl,hx,hw,q⟩:=h
 cases rx
 obtain⟨its,r,ht,hz⟩:=I.tuple hx
 have hlen:its.toArray.size=xs.length:=by rw[dX]; exact r.length.symm
 refine⟨"tuple",_,Bm.lookup,ht.typeIs,?_⟩
 refine HT.Ajx ht hs pl pu (by rw[hlen]; exact hw) ?_ (by rw[hlen]; exact hz)
 rw[hlen]
 refine⟨.ref s.heap.objs.size,_,I.laid (t':=s.toks) (o:=.tup (xP xs lo hi)) (fun b ob q=>bW _ q) (bE _) ?_,rfl,q _ (I.hok.fresh (bE _))⟩
 exact⟨eO (Rw xs lo hi) hz,_,(r.drop (HT.sIx xs.length 0 lo)).take (HT.sIx xs.length xs.length hi - HT.sIx xs.length 0 lo),A5w.new _ _⟩
def GS (K:aK):R2:=fun x y H Q=>∃ a b xs ys,x = .ref a/\y = .ref b/\SqT K H a xs/\SqT K H b ys/\xs≠[]/\xs.length+ys.length≤sizeLine /\
 (ys=[]->Q (.ref a) H)/\(ys≠[] -> ∀ p,H p=none->Q (.ref p) (upd H p (.tup (xs++ys))))
theorem Vals.nil_iff{us:List aE}(r:Vals xs us):us=[]↔xs=[]:=by
 cases r with
 | nil=>simp
 | cons _ _=>simp
theorem A0i:OpR X (kH .Add) (GS X.K):=by
 intro pins s σ H x y v u Q I rx ry h
 obtain⟨a,b,xs,ys,rfl,rfl,ha,hb,hx,hz,q1,q2⟩:=h
 cases rx
 cases ry
 obtain⟨its,r1,p1,_⟩:=I.tuple ha
 obtain⟨its2,r2,p2,_⟩:=I.tuple hb
 refine HT.Ba9 p1 p2 (fun z=>hx (r1.nil_iff.mp z)) (fun z=>⟨.ref a,H,I,rfl,q1 (r2.nil_iff.mp z)⟩) (fun z=>?_) (by rw[← r1.length,← r2.length]; exact hz)
 refine⟨.ref s.heap.objs.size,_,I.laid (t':=s.toks) (o:=.tup (xs++ys)) (fun b ob q=>bW _ q) (bE _) ?_,rfl,q2 (fun w=>z (r2.nil_iff.mpr w)) _ (I.hok.fresh (bE _))⟩
 exact⟨by rw[pQ]; exact hz,_,r1.append r2,A5w.new _ _⟩
end
def ixN (n:Nat)(i:Int):Option Nat:=if 0≤i then(if i<n then some i.toNat else none) else if -(n:Int)≤i then some (i+n).toNat else none
def atI {α:Type}(xs:List α)(i:Int):Option α:=(ixN xs.length i).bind fun j=>xs[j]?
theorem YX{i:Int}{j:Nat}(h:ixN n i=some j):seqIndex? i n=some j/\j<n /\ -(n:Int)≤i/\i<n:=by
 unfold ixN at h
 by_cases h0:0≤i
 ·rw[if_pos h0] at h
  by_cases h1:i<n
  ·rw[if_pos h1] at h
   have e:i.toNat=j:=eY h
   exact⟨by rw[seqIndex_of h0 h1,e],by omega,by omega,h1⟩
  ·rw[if_neg h1] at h; cases h
 ·rw[if_neg h0] at h
  by_cases h1 : -(n:Int)≤i
  ·rw[if_pos h1] at h
   have e:(i+n).toNat=j:=eY h
   exact⟨by rw[seqIndex_neg (by omega) h1,e],by omega,h1,by omega⟩
  ·rw[if_neg h1] at h; cases h
theorem HP {α:Type}{xs:List α}{i:Int}{v:α}(h:atI xs i=some v) : ∃ j,seqIndex? i xs.length=some j/\xs[j]?=some v/\j<xs.length /\ -(xs.length:Int)≤i/\i<xs.length:=by
 unfold atI at h
 cases e:ixN xs.length i with
 | none=>rw[e] at h; cases h
 | some j=>
  rw[e] at h
  obtain⟨h1,h2,h3,h4⟩:=YX e
  exact⟨j,h1,h,h2,h3,h4⟩
theorem yG {α:Type}{xs:List α}{j:Nat}{v:α}(h:xs[j]?=some v):atI xs (j:Int)=some v:=by
 have hj:j<xs.length:=(dR.mp h).1
 have e:ixN xs.length (j:Int)=some j:=by
  unfold ixN
  rw[if_pos (by omega),if_pos (by omega)]; simp
 unfold atI; rw[e]; exact h
def CT (b:aT):Prop:=∀ o i,MP b false o i=operate [o,i] (pI o i)
def IxR (X:Cx)(r:R2):Prop:=
 ∀ (value slice:aT) (pins:List (aD×bH)) (s:aJ) (σ:St) (H:Hp) (x y:V) (v u:aE) (Q:VK),Inv X pins σ H s->RelV x v->RelV y u->r x y H Q ->
  MP slice false v u=operate [v,u] (pI v u)->aM (aU X.prog X.w) X.A (subscriptTail value slice v u) (EP X pins σ Q) X.xe s
def MtR (X:Cx)(id:String)(r:V->List V->Hp->VK->Prop):Prop:=
 ∀ (pins:List (aD×bH)) (s:aJ) (σ:St) (H:Hp) (x:V) (xs:List V) (v:aE) (us:List aE) (Q:VK),Inv X pins σ H s->RelV x v->Vals xs us->r x xs H Q ->
  aM (aU X.prog X.w) X.A (call (.builtin id) (v::us)) (EP X pins σ Q) X.xe s
section
variable {a b:aT}{ta tb:TE}{pos:bZ}
theorem IxR.or {r r':R2}(h:IxR X r)(h':IxR X r'):IxR X (fun x y H Q=>r x y H Q \/ r' x y H Q):=by
 intro value slice pins s σ H x y v u Q I rx ry q hs
 rcases q with q | q
 ·exact h value slice pins s σ H x y v u Q I rx ry q hs
 ·exact h' value slice pins s σ H x y v u Q I rx ry q hs
theorem PN {r:R2}(hr:IxR X r)(ha:PE X a ta)(hb:PE X b tb)(hs:CT b):PE X (.Subscript a b pos) (tOp r ta tb):=by
 intro pins s σ H Q I h
 exact Subscript_ (GE ha hb I h fun v u s2 x y H2 I2 rx ry q=>hr a b pins s2 σ H2 x y v u Q I2 rx ry q (hs _ _))
def OS (K:aK):R2:=fun x y H Q=>∃ p xs i v,x = .ref p/\y = .int i/\SqL K H p xs/\atI xs i=some v/\Q v H
def OW (K:aK):R2:=fun x y H Q=>∃ p xs i v,x = .ref p/\y = .int i/\SqT K H p xs/\atI xs i=some v/\Q v H
def OO:R2:=fun x y H Q=>∃ z i c,x = .str z/\y = .int i/\z.length≤sizeLine/\atI z.cps.toList i=some c/\Q (.str ⟨#[c]⟩) H
theorem Bdw:IxR X (OS X.K):=by
 intro value slice pins s σ H x y v u Q I rx ry h hs
 obtain⟨p,xs,i,z,rfl,rfl,hq,he,q⟩:=h
 cases rx
 obtain⟨t,rfl⟩:=ry
 obtain⟨its,r,pl,hz⟩:=I.list hq
 obtain⟨j,h1,h2,h3,h4,h5⟩:=HP he
 obtain⟨w,ew,rw'⟩:=r.get h2
 have hl:=r.length
 have hn:=sM
 have fin:EP X pins σ Q w s:=⟨z,H,I,rw',q⟩
 by_cases h0:0≤i
 ·have hj:i.toNat=j:=by
   rw[seqIndex_of h0 h5] at h1
   exact eY h1
  exact item_listR pl.isList h0 (by omega) (by rw[hj]; simpa using ew) fin hs
 ·have hj:(i+(its.toArray.size:Int)).toNat=j:=by
   rw[seqIndex_neg (by omega) h4] at h1
   rw[dX,← hl]
   exact eY h1
  exact subscriptTail_builtinR (x:=w) pl.isList.typeIs slot_list_getitem.lookup
   (wpAny_getItem_list_neg (Q:=fun r s'=>r=w/\EP X pins σ Q r s') pl.isList (by omega) (by rw[dX] <;> omega) (by omega) (by rw[hj]; simpa using ew) ⟨rfl,fin⟩) hs
theorem Bgv:IxR X (OW X.K):=by
 intro value slice pins s σ H x y v u Q I rx ry h hs
 obtain⟨p,xs,i,z,rfl,rfl,hq,he,q⟩:=h
 cases rx
 obtain⟨t,rfl⟩:=ry
 obtain⟨its,r,pl,hz⟩:=I.tuple hq
 obtain⟨j,h1,h2,h3,h4,h5⟩:=HP he
 obtain⟨w,ew,rw'⟩:=r.get h2
 have hl:=r.length
 have hn:=sM
 have fin:EP X pins σ Q w s:=⟨z,H,I,rw',q⟩
 exact subscriptTail_builtinR (x:=w) pl.typeIs MQ.lookup
  (getItem_tuple (j:=j) (Q:=fun r s'=>r=w/\EP X pins σ Q r s') pl (by omega) (by omega) (by rw[dX,← hl]; exact h1) (by simpa using ew) ⟨rfl,fin⟩) hs
theorem Iz:IxR X OO:=by
 intro value slice pins s σ H x y v u Q I rx ry h hs
 obtain⟨z,i,c,rfl,rfl,hz,he,q⟩:=h
 obtain⟨t,rfl⟩:=rx
 obtain⟨t',rfl⟩:=ry
 obtain⟨j,h1,h2,h3,h4,h5⟩:=HP he
 have hl:z.cps.toList.length=z.length:=by simp[Str.length]
 rw[hl] at h1 h4 h5
 have hn:=sM
 exact tail_any (typeIs_str s z t) slot_str_getitem.lookup (getItem_str (c:=c) (by
  have e1:decide (i < -(2 ^ 63:Int))=false:=decide_eq_false (by omega)
  have e2:decide (i ≥ 2 ^ 63)=false:=decide_eq_false (by omega)
  rw[e1,e2,Bool.or_false]) (by rw[h1]; simpa using h2) ⟨.str ⟨#[c]⟩,H,I.tok _,⟨_,rfl⟩,q⟩) hs
def rIx (K:aK):R2:=fun x y H Q=>OS K x y H Q \/ OW K x y H Q \/ OO x y H Q
theorem QN:IxR X (rIx X.K):=Bdw.or (Bgv.or Iz)
theorem Qr (its:List aE)(n j:Nat)(u:aE):gK (·.setIfInBounds j u) { cls:=.type "list",data:=.seq its.toArray n } = { cls:=.type "list",data:=.seq (its.set j u).toArray n }:=by
 simp[gK]
theorem Inv.lst{p:aD}(I:Inv X pins σ H s)(h:H p=some (.lst xs)) :
  ∃ (its:List aE) (n:Nat),Vals xs its/\s.heap.get? p=some { cls:=.type "list",data:=.seq its.toArray n }/\xs.length≤sizeLine:=by
 obtain⟨z,its,n,r,e⟩:=I.hok p _ h
 exact⟨its,n,r,e,z⟩
theorem Inv.lstUpd{p:aD}{ys:List V}{its':List aE}{n':Nat}{f:bH->bH}(I:Inv X pins σ H s)(h:H p=some (.lst xs))
  (ho:s.heap.get? p=some { cls:=.type "list",data:=.seq its.toArray n }) (hf:f { cls:=.type "list",data:=.seq its.toArray n } = { cls:=.type "list",data:=.seq its'.toArray n' }) (r:Vals ys its') (hz:ys.length≤sizeLine) (t:Nat) :
  Inv X pins σ (upd H p (.lst ys)) { s with heap:=s.heap.update p f,toks:=t }:=by
 have e:(s.heap.update p f).get? p=some { cls:=.type "list",data:=.seq its'.toArray n' }:=by
  rw[BE f ho (by rw[hf] <;> rfl),hf]
 refine I.write (x:=p) (e:=p) (by rw[h]; trivial) (.inl rfl) (fun b u hb q=>(FM _ _ (eZ hb)).trans q) ⟨_,e⟩ ?_
 exact⟨hz,its',n',r,e⟩
def Eo:V->V->V->Hp->(Hp->Prop)->Prop:=fun o i v H Q=>∃ p xs k j,o = .ref p/\i = .int k/\H p=some (.lst xs)/\ixN xs.length k=some j/\Q (upd H p (.lst (xs.set j v)))
theorem set_list:OP X Eo:=by
 intro pins s σ H o i v ov iv u Q I ro ri rv h
 obtain⟨p,xs,k,j,rfl,rfl,hp,hj,q⟩:=h
 cases ro
 obtain⟨t,rfl⟩:=ri
 obtain⟨its,n,r,ho,hz⟩:=I.lst hp
 obtain⟨h1,h2,h3,h4⟩:=YX hj
 have hl:=r.length
 have hn:=sM
 have I':Inv X pins σ (upd H p (.lst (xs.set j v))) { s with heap:=s.heap.update p (gK (·.setIfInBounds j u)) }:=
  I.lstUpd hp ho (Qr its n j u) (r.set rv j) (by rw[List.length_set]; exact hz) s.toks
 by_cases h0:0≤k
 ·have hk:k.toNat=j:=by
   rw[seqIndex_of h0 h4] at h1
   exact eY h1
  exact PySem.W.ki_setAt ho h0 (by omega) (by rw[dX,← hl]; exact h4) (by rw[hk]; exact⟨_,I',q⟩)
 ·have hk:(k+(its.toArray.size:Int)).toNat=j:=by
   rw[seqIndex_neg (by omega) h3] at h1
   rw[dX,← hl]
   exact eY h1
  exact PySem.W.ki_setBack ho (by omega) (by rw[dX,← hl]; exact h3) (by omega) (by rw[hk]; exact⟨_,I',q⟩)
theorem Ts:OpR X (iC .NotIn) (fun x y H Q=>∃ i j,x = .str i/\y = .str j/\Q (.bl (!(!(OC j i 0 j.length 1).isEmpty))) H):=by
 intro pins s σ H x y v u Q I rx ry h
 obtain⟨i,j,rfl,rfl,q⟩:=h
 obtain⟨t,rfl⟩:=rx
 obtain⟨t',rfl⟩:=ry
 exact notIn_str ⟨.bl _,H,I,rfl,q⟩
theorem Asu:Adz X (.builtin "len") (fun xs H Q=>∃ p ys,xs=[.ref p]/\(SqL X.K H p ys \/ SqT X.K H p ys)/\Q (.int ys.length) H):=by
 intro pins s σ H xs us Q I r h
 obtain⟨p,ys,rfl,hq,q⟩:=h
 obtain⟨u,rfl,rx⟩:=vals1 r
 cases rx
 have hn:=sM
 rcases hq with hq | hq
 ·obtain⟨its,r',pl,hz⟩:=I.list hq
  have hlen:=r'.length
  exact Calls.call_len_list pl.isList (by simp only[dX] <;> omega) ⟨.int ys.length,H,I.tok _,⟨s.toks+1,by rw[dX,hlen]⟩,q⟩
 ·obtain⟨its,r',pl,hz⟩:=I.tuple hq
  have hlen:=r'.length
  exact len_tuple pl (by simp only[dX] <;> omega) ⟨.int ys.length,H,I.tok _,⟨s.toks+1,by rw[dX,hlen]⟩,q⟩
theorem Arq:Adz X (.builtin "len") (fun xs H Q=>∃ z,xs=[.str z]/\z.length≤sizeLine/\Q (.int z.length) H):=by
 intro pins s σ H xs us Q I r h
 obtain⟨z,rfl,hz,q⟩:=h
 obtain⟨u,rfl,t,rfl⟩:=vals1 r
 have hn:=sM
 exact len_str (by omega) ⟨.int z.length,H,I.tok _,⟨_,rfl⟩,q⟩
theorem Adz.or {f:aE}{r r':List V->Hp->VK->Prop}(h:Adz X f r)(h':Adz X f r'):Adz X f (fun xs H Q=>r xs H Q \/ r' xs H Q):=by
 intro pins s σ H xs us Q I rs q
 rcases q with q | q
 ·exact h pins s σ H xs us Q I rs q
 ·exact h' pins s σ H xs us Q I rs q
theorem Aq1:Adz X (.type "list") (fun xs H Q=>∃ p ys,xs=[.ref p]/\(SqL X.K H p ys \/ SqT X.K H p ys) /\ ∀ l,H l=none->Q (.ref l) (upd H l (.lst ys))):=by
 intro pins s σ H xs us Q I r h
 obtain⟨p,ys,rfl,hq,q⟩:=h
 obtain⟨u,rfl,rx⟩:=vals1 r
 cases rx
 have fin : ∀ (its:List aE),Vals ys its->ys.length≤sizeLine -> ∀ (h':aZ) (c':Nat),(∀ b o',s.heap.get? b=some o'->h'.get? b=some o') ->
   h'.get? s.heap.objs.size=some { cls:=.type "list",dict:=none,data:=.seq its.toArray c',slots:=#[] }->EP X pins σ Q (.ref s.heap.objs.size) { s with heap:=h' }:=fun its r' hz h' c' kp e=>
  ⟨.ref s.heap.objs.size,_,I.laid (t':=s.toks) kp (bE _) (show Ac9 X.prog X.w _ h' _ (.lst ys) from⟨hz,its,c',r',e⟩),rfl,q _ (I.hok.fresh (bE _))⟩
 rcases hq with hq | hq
 ·obtain⟨its,r',pl,hz⟩:=I.list hq
  have hlen:=r'.length
  obtain⟨o,ho,hc,n,hd⟩:=pl.isList
  exact call_list_seq p (.inl rfl) ho hc hd (fun h' c' kp e=>fin its r' hz h' c' kp e) (by simp only[dX] <;> omega)
 ·obtain⟨its,r',pl,hz⟩:=I.tuple hq
  have hlen:=r'.length
  obtain⟨o,ho,hc,n,hd⟩:=pl
  exact call_list_seq p (.inr rfl) ho hc hd (fun h' c' kp e=>fin its r' hz h' c' kp e) (by simp only[dX] <;> omega)
theorem sW:Adz X (.type "tuple") (fun xs H Q=>∃ p ys,xs=[.ref p]/\((SqL X.K H p ys /\ ∀ l,H l=none->Q (.ref l) (upd H l (.tup ys))) \/ (SqT X.K H p ys/\Q (.ref p) H))):=by
 intro pins s σ H xs us Q I r h
 obtain⟨p,ys,rfl,h⟩:=h
 obtain⟨u,rfl,rx⟩:=vals1 r
 cases rx
 rcases h with⟨hq,q⟩ | ⟨hq,q⟩
 ·obtain⟨its,r',pl,hz⟩:=I.list hq
  have hlen:=r'.length
  refine call_tuple_list pl.isList (fun h' kp=>?_) (by simp only[dX] <;> omega)
  have I1:Inv X pins σ H { s with heap:=h' }:=I.kept (t':=s.toks) kp
  have I2:Inv X pins σ (upd H h'.objs.size (.tup ys)) { s with heap:=h'.push { cls:=.type "tuple",data:=.seq its.toArray } }:=
   I1.laid (t':=s.toks) (fun b o e=>bW _ e) (bE _) (show Ac9 X.prog X.w _ _ _ (.tup ys) from⟨hz,its,r',A5w.new _ _⟩)
  exact⟨.ref h'.objs.size,_,I2,rfl,q _ (I1.hok.fresh (bE _))⟩
 ·obtain⟨its,r',pl,hz⟩:=I.tuple hq
  exact call_tuple_same pl ⟨.ref p,H,I,rfl,q⟩
def tyV (K:aK)(T:String)(x:V)(H:Hp):Prop:=match x with
 | .str _=>T = "str"
 | .int _=>T = "int"
 | .ref p=>(T = "list" /\ ∃ xs,SqL K H p xs) \/ (T = "tuple" /\ ((∃ o,K.lookup p=some o/\o.cls = .type "tuple" /\ o.dict=none) \/ ∃ xs,H p=some (.tup xs))) \/
   (T = "dict" /\ ((∃ ep kvs,H p=some (.dK ep kvs)) \/ ∃ kvs,∃ ep,H p=some (.dT ep kvs))) \/ (T = "set" /\ ∃ S n,H p=some (.set S n))
 | _=>False
theorem Jl{T:String}{x:V}{v:aE}(I:Inv X pins σ H s)(r:RelV x v)(ty:tyV X.K T x H) :
  s.TypeIs v T /\ ∀ a,v = .ref a -> ∃ ob,s.heap.get? a=some ob/\ob.dict=none:=by
 cases x with
 | str z=>
  obtain⟨t,rfl⟩:=r
  cases(show T = "str" from ty)
  exact⟨typeIs_str s z t,fun _ e=>nomatch e⟩
 | int i=>
  obtain⟨t,rfl⟩:=r
  cases(show T = "int" from ty)
  exact⟨typeIs_int s i t,fun _ e=>nomatch e⟩
 | ref p=>
  cases r
  rcases ty with⟨rfl,xs,hq⟩ | ⟨rfl,⟨o,hk,hc,hd⟩ | ⟨xs,hx⟩⟩ | ⟨rfl,hk⟩ | ⟨rfl,S,n,hk⟩
  ·obtain⟨its,_,pl,_⟩:=I.list hq
   refine⟨pl.isList.typeIs,fun a e=>?_⟩
   cases e
   obtain⟨o,n,e,c,hd,_⟩:=pl
   exact⟨o,e,hd⟩
  ·refine⟨⟨o,I.kIn p o hk,hc⟩,fun a e=>?_⟩
   cases e
   exact⟨o,I.kIn _ o hk,hd⟩
  ·obtain⟨_,_,_,⟨o,e,c,_⟩,n⟩:=(show Ac9 X.prog X.w H s.heap p (.tup xs) from I.hok p _ hx)
   refine⟨⟨o,e,c⟩,fun a e=>?_⟩
   cases e
   exact n
  ·have z : ∃ o,s.heap.get? p=some o/\o.ExactDict:=by
    rcases hk with⟨ep,kvs,hk⟩ | ⟨kvs,ep,hk⟩
    ·obtain⟨_,_,_,_,o,_,e,ex,_⟩:=I.hok p _ hk
     exact⟨o,e,ex⟩
    ·obtain⟨_,_,_,_,o,_,e,ex,_⟩:=I.hok p _ hk
     exact⟨o,e,ex⟩
   obtain⟨o,e,ex⟩:=z
   refine⟨⟨o,e,ex.1⟩,fun a e2=>?_⟩
   cases e2
   exact⟨o,e,ex.2.1⟩
  ·obtain⟨o,_,_,_,e,ex,_⟩:=I.hok p _ hk
   refine⟨⟨o,e,ex.1⟩,fun a e2=>?_⟩
   cases e2
   exact⟨o,e,ex.2.1⟩
 | _=>exact pT ty
def tBM (K:aK)(T:String)(r:V->List V->Hp->VK->Prop)(to:TE)(t:TA):TE:=fun σ H Q=>to σ H fun x H1=>tyV K T x H1/\t σ H1 fun xs H2=>r x xs H2 Q
variable {o e:aT}{es:List aT}{to:TE}{t:TA}{name:aC}{apos cpos:bZ}{T id:String}{r:V->List V->Hp->VK->Prop}
theorem EM (pa:PlainAttrs T)(slot:Slot T name id)(hty:typeOf (.builtin id)=pure (.type "method_descriptor"))(hm:MtR X id r)(ho:PE X o to)(ha:PA X (e::es) t)
  (hbase:pK o name X.env (bY o X.env)=bY o X.env:=by rfl)
  (hfew:((fX cpos (cC (e::es) X.env)).all (fun x=>!x.1)&&(AO cpos (AJ [] X.env)).all (fun x=>x.1.isSome)
   && decide ((e::es).length+([]:List nF).length+(if ([]:List nF).isEmpty then 0 else 1)<30))=true:=by rfl)
  (hline:(apos.endLine == cpos.line)=true:=by rfl) (hs:cC (e::es) X.env=(false,bY e X.env)::cC es X.env:=by rfl) (hplain:(fX cpos (cC es X.env)).any (·.1)=false:=by rfl) :
  PE X (.Call (.Attribute o name apos) (e::es) [] cpos) (tBM X.K T r to t):=by
 intro pins s σ H Q I h
 refine wpAny_Call_method_late hbase hfew hline rfl (thn (ho pins s σ H _ I h) fun v s1 gh=>?_)
 obtain⟨x,H1,I1,r1,ty,q1⟩:=gh
 obtain⟨h1,h2⟩:=Jl I1 r1 ty
 refine⟨T,id,pa,slot,hty,h1,h2,?_⟩
 have hA:=ha cpos pins s1 σ H1 _ I1 q1
 rw[hs] at hA ⊢
 refine Calls.callWith_builtin (by show(false||(fX cpos (cC es X.env)).any (·.1))=false; rw[hplain] <;> rfl) (Calls.evalArgs_plain ?_)
 exact thn hA fun us s2 ⟨vs,H2,I2,r2,q2⟩=>hm pins s2 σ H2 x vs v us Q I2 r1 r2 q2
end
def MtM (X:Cx)(id:String)(r:V->List V->Hp->VK->Prop):Prop:=
 ∀ (pins:List (aD×bH)) (s:aJ) (σ:St) (H:Hp) (x:V) (xs:List V) (v:aE) (us:List aE) (Q:VK),Inv X pins σ H s->RelV x v->Vals xs us->r x xs H Q ->
  aM (aU X.prog X.w) X.A (call (.builtin id) (v::us)) (EP X pins σ Q) X.xe s
theorem Vals.one : ∀ {x:V} {us:List aE},Vals [x] us -> ∃ u,us=[u]/\RelV x u:=by
 intro x us h
 cases h with
 | cons r t=>cases t; exact⟨_,rfl,r⟩
theorem Vals.eraseIdx : ∀ {xs:List V} {us:List aE} (i:Nat),Vals xs us->Vals (xs.eraseIdx i) (us.eraseIdx i)
 | _,_,_,.nil=>.nil
 | _,_,0,.cons _ t=>t
 | _,_,i+1,.cons r t=>.cons r (Vals.eraseIdx i t)
theorem UO {α:Type} : ∀ (l:List α) (i:Nat),(l.eraseIdx i).length≤l.length
 | [],_=>bE _
 | _::_,0=>wU _
 | _::r,i+1=>Nat.succ_le_succ (UO r i)
section
variable {l b:aD}{ys zs:List V}
theorem Inv.lset {its':List aE}{f:Array aE->Array aE}{t':Nat}(I:Inv X pins σ H s)(hH:H l=some (.lst xs))
  (e:s.heap.get? l=some { cls:=.type "list",data:=.seq its.toArray n }) (hf:f its.toArray=its'.toArray) (hv:Vals ys its') (hz:ys.length≤sizeLine) :
  Inv X pins σ (upd H l (.lst ys)) { s with heap:=s.heap.update l (gK f),toks:=t' }:=by
 have q:=PySem.IsL.update e f
 rw[hf] at q
 refine I.write (x:=l) (e:=l) (by rw[hH]; exact trivial) (.inl rfl) (fun b' u hb hu=>(FM s.heap (gK f) (eZ hb)).trans hu) ⟨_,q⟩ ?_
 exact⟨hz,its',_,hv,q⟩
theorem Inv.lnew{t':Nat}(I:Inv X pins σ H s)(hv:Vals ys its)(hz:ys.length≤sizeLine) :
  Inv X pins σ (upd H s.heap.objs.size (.lst ys)) { s with heap:=s.heap.push { cls:=.type "list",data:=.seq its.toArray },toks:=t' }:=
 I.laid (fun _ _ q=>bW _ q) (bE _) ⟨hz,its,0,hv,dA _ rfl⟩
theorem Inv.fresh (I:Inv X pins σ H s):H s.heap.objs.size=none:=I.hok.fresh (bE _)
theorem Inv.lstM (I:Inv X pins σ H s)(hH:H l=some (.lst xs)):xs.length≤sizeLine /\ ∃ (its:List aE) (n:Nat),Vals xs its/\xs.length=its.length/\s.heap.get? l=some { cls:=.type "list",data:=.seq its.toArray n }:=by
 obtain⟨z,its,n,r,e⟩:=I.hok l _ hH
 exact⟨z,its,n,r,r.length,e⟩
end
def Lg:V->List V->Hp->VK->Prop:=fun x vs H Q=>∃ l xs y,x = .ref l/\vs=[y]/\H l=some (.lst xs)/\xs.length<sizeLine/\Q .non (upd H l (.lst (xs++[y])))
theorem VF:MtM X "list.append" Lg:=by
 intro pins s σ H x vs v us Q I rx rv h
 obtain⟨l,xs,y,rfl,rfl,hH,hz,q⟩:=h
 cases rx
 obtain⟨u,rfl,ru⟩:=rv.one
 obtain⟨z,its,n,r,hl,e⟩:=I.lstM hH
 refine call_meets F.slot_list_append ⟨_,e,rfl⟩ F.entry_list_append (F.args_list_append_2 _ _) (PySem.list_append l its.toArray n u (by rw[dX]; omega)) ⟨e,?_⟩
 refine⟨.non,_,I.lset (its':=its++[u]) hH e (by simp) (r.append (.cons ru .nil)) ?_,rfl,q⟩
 rw[pQ,List.length_singleton]
 omega
end L2
namespace Att
open PySem PySem.W PySem.Calls PyProof.Rows
theorem Uj {P:Params}{h:aZ} : ∀ (ns:List Int) (vs:List aE),WellAll P h vs (ns.map WData.int)->IntsAre vs ns:=by
 intro ns
 induction ns with
 | nil=>
  intro vs w
  rw[List.map_nil] at w
  cases w
  exact .nil
 | cons n ns ih=>
  intro vs w
  rw[dF] at w
  cases w with
  | cons a b=>
   cases a
   exact .cons _ _ (ih _ b)
theorem Pe {l:OpenLaw}{n:Nat}(hn:l.most=some n){P:Params}{h:aZ}{args:List WData}{vals:List aE}
  (hpre:l.row.toRowW.claim.pre args=true) (hwl:WellAll P h vals args) :
  ∃ a vs ns,vals=[eP a]/\args=[WData.list (ns.map WData.int)]/\h.get? a=some { cls:=.type "list",data:=.seq vs.toArray }/\IntsAre vs ns/\ns.length≤n:=by
 have hsh:WShape.hasAll [] args [.list .int]=true:=(pre_splitW hpre).1
 have hc:l.pre.holds [] { args:=args }=true:=(pre_splitW hpre).2
 obtain⟨d,r,rfl,h1,h2⟩:=hasAllW_cons hsh
 obtain rfl:=hasAllW_nil h2
 obtain⟨xs,rfl,h3⟩:=hasW_list h1
 obtain⟨ns,rfl⟩:=items_int h3
 have hlen:ns.length≤n:=by
  unfold OpenLaw.pre at hc
  have h4:(WTm.not (.lt (.lit (.int (n:Int))) (.len (.arg 0)))).holds [] { args:=[.list (ns.map .int)] }=true:=by
   have h4:=(holds_andW hc).1
   rw[hn] at h4
   exact h4
  have h5:=condW_of h4 (w_not (w_lt w_lit (w_len_list (w_arg rfl))))
  rw[cV] at h5
  refine Nat.le_of_not_lt fun q=>?_
  have q':(n:Int)<((ns.length:Nat):Int):=by omega
  first
   | (rw[decide_eq_true q'] at h5; exact absurd h5 (by decide))
   | (simp at h5; omega)
 cases hwl with
 | cons w1 w2=>
  cases w2
  cases w1 with
  | list ho hall=>exact⟨_,_,ns,rfl,rfl,ho,Uj ns _ hall,hlen⟩
theorem Pp (l:OpenLaw)(args:List WData):l.row.toRowW.claim.post args (.bool true) args=true:=
 postW_of (r:=l.row.toRowW) (X:=(true == true))
  (show WShape.has [] (.bool true) .bool=true by first | rfl | decide | simp[WShape.has,WShape.arms,WShape.armsAll])
  (show(WTm.eq .res (.lit (.bool true))).value [] { args:=args,res:=some (.bool true),after:=args }=some (.bool (true == true)) from w_eq_bool (w_res rfl) w_lit) rfl
end Att
namespace L2
open PySem PySem.Spec PyProof.Rows
variable {P P0:aD->Prop}{w:bI}{K:aK}{mg:aC->Option aE}{k:aI}{a f:aD}{x qual y:aC}{sp:Sp}{X:Cx}{st:cB}{N ps:List aC}{A:cM}{B H' H H1 B' B0 H0:Hp}{elt iter c b tg e:aT}{ifs es:List aT}{pos px spos p p2:bZ}{env:Env}{n i j n0:Nat}{sc:iQ}{v:V}{fp:Nat->List aD}{pins:List (aD×bH)}{σ:St}{s:aJ}{cap:List (Option Nat)}{o:HO}{xs:List V}{ds:List aA}{m d:aA}{ρ:List (Option aA)}{g:aA->aA->Option aA}{r:R2}{T:String}{kds:List (aA×aA)}{Q:VK}
theorem WB : ∀ {vs:List aE} {ns:List Int},IntsAre vs ns->Vals (ns.map V.int) vs
 | _,_,.nil=>.nil
 | _,_,.cons n t h=>.cons ⟨t,rfl⟩ (WB h)
def Only (H:Hp):Prop:=∀ b,H b=none \/ ∃ o xs,H b=some (.frz o (.lst xs))
theorem Wx {P:bT}{mb:aC->Option aE}{CX:CXT}{k:Nat}{fa:aD}{fd:gV}{s₁:aJ}{vs:List aE}{ns:List Int}
  (KX:K.In s₁.heap) (hns:s₁.heap.Ns dM mg) (hb:s₁.heap.Ns builtinsNs mb) (hbb : ∀ x:aC,x ≠ "__name__" -> mb x=lU x) (hlim:s₁.heap.NoLimit) (hg:s₁.gens = #[])
  (ha:s₁.heap.get? a=some { cls:=.type "list",data:=.seq vs.toArray }) (hi:IntsAre vs ns) (hl:ns.length≤sizeLine) (hr:Room k wL)
  (F : ∀ base:aZ,K.In base->base.Ns dM mg->FnOk P w K mg base CX k fa fd [x] sp) (hbind : ∀ (s:aJ) (u:aE),BindsTo s fd ⟨[u],[]⟩ [(x,u)])
  (hsp : ∀ H:Hp,Only H->SqL K H a (ns.map V.int)->sp [.ref a] H (fun v _=>v = .bl true) fun _ _ _=>False)
  (hCX : ∀ H e s',CX [] H s₁ (fun _ _ _=>False) e s'->False) :
  oB (aU P w) wL (.call (.ref fa) ⟨[.ref a],[]⟩) (fun r s'=>r = .ok (.ret (.bool true))/\OldK s₁.heap s'.heap/\s'.os=s₁.os/\rM s'.gens) s₁:=by
 have rv:=WB hi
 have lenV:=hi.length
 have core : ∀ H:Hp,Only H->SqL K H a (ns.map V.int)->HOk P w H s₁.heap->(∀ b,H b≠none->b=a)->(H a≠none->K.lookup a=none) ->
   oB (aU P w) wL (.call (.ref fa) ⟨[.ref a],[]⟩) (fun r s'=>r = .ok (.ret (.bool true))/\OldK s₁.heap s'.heap/\s'.os=s₁.os/\rM s'.gens) s₁:=by
  intro H hO hS hok hA hK
  have base_of : ∀ {b:aD} {o:bH},s₁.heap.get? b=some o->H b=none->(pC s₁.heap H).get? b=some o:=fun e n=>Yg e n
  have noA : ∀ {b:aD} {o:bH} {es:Array nJ} {ep:Nat},s₁.heap.get? b=some o->o.data = .dict es ep->H b=none:=fun {b o es ep} e d=>by
   cases q:H b with
   | none=>rfl
   | some u=>
    have e':b=a:=hA b (by rw[q]; simp)
    subst e'
    rw[ha] at e; cases e
    have d':Data.seq vs.toArray _=Data.dict es ep:=d
    cases d'
  have nsK : ∀ {b:aD} {m:aC->Option aE},s₁.heap.Ns b m->(pC s₁.heap H).Ns b m:=fun {b m} ⟨o,es,ep,e,d,r⟩=>⟨o,es,ep,base_of e (noA e d),d,r⟩
  have hKb:K.In (pC s₁.heap H):=fun b o e=>base_of (KX b o e) (by
   cases q:H b with
   | none=>rfl
   | some u=>
    have e':b=a:=hA b (by rw[q]; simp)
    subst e'
    rw[hK (by rw[q]; simp)] at e; cases e)
  have hM:Mod K mg (pC s₁.heap H):=⟨hKb,nsK hns,⟨mb,nsK hb,hbb⟩,let ⟨mc,h1,h2⟩:=hlim; ⟨mc,nsK h1,h2⟩⟩
  have e0:Env0 P w K mg (pC s₁.heap H) wL [] s₁ H:=⟨rfl,hM,fun b o e=>Lq e,Nat.le_of_eq (Ow _ _),trivial,fun b hb=>absurd (show b∈([]:List aD) from hb) (by simp),hok,.of_eq hg⟩
  refine codeAny_mono ((F _ hKb (nsK hns)).run wL [] s₁ H ⟨[.ref a],[]⟩ [.ref a] [.ref a] _ _ hr e0 (hbind s₁ (.ref a)) (.cons rfl .nil) (hsp H hO hS)) fun r s' h=>?_
  cases r with
  | error e=>exact(hCX H e s' h).elim
  | ok fl=>
   cases fl with
   | next=>exact pT h
   | brk=>exact pT h
   | cont=>exact pT h
   | ret u=>
    obtain⟨v,H',os,bare,un,hok',r',q⟩:=h
    have q':v = .bl true:=q
    subst q'
    obtain rfl:u=Value.bool true:=r'
    refine⟨rfl,OldK.of_keep fun b o e=>?_,os,bare⟩
    cases q:H b with
    | none=>exact un.keep b o e q (by intro z; exact absurd (show b∈([]:List aD) from z) (by simp)) (by simp)
    | some u=>
     rcases hO b with z | ⟨ob,xs,z⟩
     ·rw[q] at z; cases z
     ·have z2:=un.frzs b ob _ z
      obtain⟨e1,_⟩:=hok b _ z
      obtain⟨e2,_⟩:=hok' b _ z2
      rw[e] at e1; cases e1
      exact e2
 cases hk:K.lookup a with
 | some o=>
  have e:=KX a o hk
  rw[ha] at e
  cases e
  refine core (fun _=>none) (fun _=>.inl rfl) (.inr ⟨_,vs.toArray,_,hk,rfl,rfl,rfl,by rw[dX,lenV]; exact hl,by simpa using rv⟩) (fun b u z=>by have z':(none:Option HO)=some u:=z; cases z') (fun b z=>absurd rfl z) fun z=>absurd rfl z
 | none=>
  refine core (fun b=>if b=a then some (.frz { cls:=.type "list",data:=.seq vs.toArray } (.lst (ns.map V.int))) else none) (fun b=>?_) (.inl (.inr ⟨{ cls:=.type "list",data:=.seq vs.toArray },if_pos rfl⟩)) (fun b u z=>?_) (fun b z=>?_) fun _=>hk
  ·by_cases hb:b=a
   ·exact .inr ⟨_,_,if_pos hb⟩
   ·exact .inl (if_neg hb)
  ·by_cases hb:b=a
   ·have z':=(if_pos hb).symm.trans z
    cases z'
    subst hb
    exact⟨ha,by rw[cV]; exact hl,vs,_,rv,ha⟩
   ·have z':=(if_neg hb).symm.trans z
    cases z'
  ·by_cases hb:b=a
   ·exact hb
   ·exact absurd (if_neg hb) z
def lL (s:cB):Arguments:=match s with
 | .FunctionDef _ a _ _ _ _ _ _ _ _=>a
 | _=>{ posonlyargs:=[],args:=[],vararg:=none,kwonlyargs:=[],kw_defaults:=[],kwarg:=none,defaults:=[] }
def kG (s:cB):List cB:=match s with
 | .FunctionDef _ _ b _ _ _ _ _ _ _=>b
 | _=>[]
def bX (s:cB):iQ:=match s with
 | .FunctionDef _ _ _ _ _ _ sc _ _ _=>sc
 | _=>{ kind:=.function,names:=[],isGenerator:=false,isCoroutine:=false }
abbrev CX0:CXT:=fun _ _ _ _ _ _=>False
abbrev E0:XK:=fun _ _ _=>False
theorem Fg:Passes CX0 X E0:=fun _ _ _ _ _ _ _ h=>h.elim
structure Fun (K:aK)(x qual:aC)(st:cB)(f:aD)(fd:gV):Prop where
 ex : ∃ (oc:aE) (od:Option aD) (kV doc pm:aE) (an:Option aD) (cdv ct:aE) (osl:Array (Option aE)),
  fd=lA x qual (lL st) (kG st) (bX st) .none kV doc pm an cdv ct/\K.lookup f=some ⟨oc,od,.func fd,osl⟩/\AQ K cdv qual=true
 kp:tM K (.ref f)=true
section
variable {P:bT}{base:aZ}
theorem Fun.ok{fd:gV}{k:Nat}(F:Fun K x qual st f fd)(S:FnScope N ps (bX st))(len : ∀ vs H Q E,sp vs H Q E->vs.length=ps.length)
  (hbody : ∀ (cdv:aE) (A:cM) (outer:List Env) (s:aJ) (H:Hp) (vs:List V) (Q:VK) (E:XK),Room k (A.deeper (pJ qual (bX st) s.heap.objs.size f cdv))->sp vs H Q E ->
   ∃ t,PSs (rP CX0 P w K mg base N qual (bX st) f cdv A outer s H E).nox (kG st) t/\t { nx:=fun _ H'=>Q .non H',rt:=Q } (start N vs) H):FnOk P w K mg base CX0 (k+1) f fd ps sp:=by
 obtain⟨oc,od,kV,doc,pm,an,cdv,ct,osl,rfl,lk,hcd⟩:=F.ex
 refine Ea lk hcd S len fun A outer s H vs Q E hr hsp=>?_
 obtain⟨t,h,q⟩:=hbody cdv A outer s H vs Q E hr hsp
 exact⟨t,h.nox,q⟩
theorem Fun.binds{fd:gV}(F:Fun K x qual st f fd)
  (h : ∀ (kV doc pm:aE) (an:Option aD) (cdv ct:aE) (us:List aE),us.length=ps.length->AM (lA x qual (lL st) (kG st) (bX st) .none kV doc pm an cdv ct) ⟨us,[]⟩=pure (ps.zip us)):Binds K fd ps []:=by
 obtain⟨oc,od,kV,doc,pm,an,cdv,ct,osl,rfl,lk,hcd⟩:=F.ex
 exact .all (h kV doc pm an cdv ct)
theorem XY{oc:aE}{od an:Option aD}{osl:Array (Option aE)}{kV doc pm cdv ct:aE}(l:K.lookup f=some ⟨oc,od,.func (lA x qual (lL st) (kG st) (bX st) .none kV doc pm an cdv ct),osl⟩)
  (c:AQ K cdv qual=true) (k:tM K (.ref f)=true):Fun K x qual st f (lA x qual (lL st) (kG st) (bX st) .none kV doc pm an cdv ct):=⟨⟨oc,od,kV,doc,pm,an,cdv,ct,osl,rfl,l,c⟩,k⟩
end
theorem dZ{k:Nat}(hr:Room k A):A.units+40<cLine:=rE (Nat.add_le_add_left (by decide:40≤64) _) hr.units
theorem Ym:Adz X (.builtin "len") (fun xs H Q=>∃ a ep kvs,xs=[V.ref a]/\H a=some (.dK ep kvs)/\Q (.int kvs.length) H):=by
 intro pins s σ H xs us Q I r h
 obtain⟨a,ep,kvs,rfl,ha,q⟩:=h
 obtain⟨u,rfl,ru⟩:=vals1 r
 cases ru
 exact Dy I (.inl ha) fun t s' I'=>⟨.int kvs.length,H,I',⟨t,rfl⟩,q⟩
theorem qT {A B:Prop}(h:B):if false=true then A else B:=by
 rw[if_neg jZ]
 exact h
theorem rA {A B:Prop}(h:A):if true=true then A else B:=by
 rw[if_pos rfl]
 exact h
section
variable {prog:bT}{R:Result->aJ->Prop}
theorem Ro {target:aT}{scope:iQ}{it acc:aE}(I:Nat->aJ->Prop)
  (turn : ∀ n s,I n s->aM (aU prog w) A (fW it) (fun r s₁=>match r with
   | none=>R (.ok .next) s₁
   | some v=>aM (aU prog w) A (MR target it v) (fun _ s₂=>aM (aU prog w) A (jW target env v) (fun _ s₃=>
     aM (aU prog w) A (forIn ifs true fun c r=>if r=true then do let ok ← isTrue c env (bY c env); pure (BH ok) else pure (BH r)) (fun ok s₄=>
      if ok=true then aM (aU prog w) A (bY elt env) (fun x s₅=>
       aM (aU prog w) A (call (.builtin "list.append") [acc,x]) (fun _ s₆=>∃ m,m<n/\I m s₆) (fun _ _=>False) s₅) (fun _ _=>False) s₄
      else ∃ m,m<n/\I m s₄) (fun _ _=>False) s₃) (fun _ _=>False) s₂) (fun _ _=>False) s₁) (fun _ _=>False) s)
  (n:Nat) (h:I n s):oB (aU prog w) A (.compLoop (.ListComp elt [⟨target,iter,ifs,0⟩] scope pos) 0 it acc env) R s:=by
 refine codeAny_loop rfl I (fun n s hI=>?_) n h
 show aM _ A ((compTurn (.ListComp elt [⟨target,iter,ifs,0⟩] scope pos) 0 it acc env).onRaise (fun x=>do noteFrame x env; theTreesLotGoes x)) _ _ s
 refine wpAny_noted ?_
 rw[compTurn_list]
 refine aF (wpAny_standAt (aF (kZ (turn n s hI) (fun r s₁ h₁=>?_) fun _ _ h'=>h'.elim)))
 cases r with
 | none=>exact aP h₁
 | some v=>
  refine aF (kZ h₁ (fun _ s₂ h₂=>?_) fun _ _ h'=>h'.elim)
  refine aF (kZ h₂ (fun _ s₃ h₃=>aF (kZ h₃ (fun ok s₄ h₄=>?_) fun _ _ h'=>h'.elim)) fun _ _ h'=>h'.elim)
  cases ok with
  | false=>exact aP ⟨rfl,h₄⟩
  | true=>
   exact aF (aF (kZ h₄ (fun x s₅ h₅=>aF (kZ h₅ (fun _ s₆ h₆=>aP (aP ⟨rfl,h₆⟩)) fun _ _ h'=>h'.elim)) fun _ _ h'=>h'.elim))
end
theorem cellOf_eq{n:aC}{c:aD}(h:env.cells.lookup n=some c):cellOf env n=pure c:=by
 unfold cellOf
 rw[h]
def eW (env:Env):List (aC×mC)->List (aC×aD)->List (aC×aD)
 | [],cs=>cs
 | (n,k)::r,cs=>eW env r (if (k == fU)=true then(match env.cells.lookup n with | some c=>(n,c)::cs | none=>cs) else cs)
theorem XG(h : ∀ n,(n,fU)∈sc.names -> ∃ c,env.cells.lookup n=some c):closureFor sc env=pure (eW env sc.names []):=by
 unfold closureFor
 generalize sc.names=l at h
 have go : ∀ (l:List (aC×mC)) (cs:List (aC×aD)),(∀ n,(n,fU)∈l -> ∃ c,env.cells.lookup n=some c) ->
   (forIn l cs (fun(x:aC×mC) (r:List (aC×aD))=>if (x.2 == fU)=true then(do let c ← cellOf env x.1; pure (BH ((x.1,c)::r))) else pure (BH r)):Sem (List (aC×aD)))=pure (eW env l cs):=by
  intro l
  induction l with
  | nil=>intro cs _; rfl
  | cons p r ih=>
   intro cs hl
   obtain⟨n,k⟩:=p
   rw[Ca]
   have hr : ∀ n,(n,fU)∈r -> ∃ c,env.cells.lookup n=some c:=fun n hn=>hl n (cF _ hn)
   cases hk:(k == fU) with
   | true=>
    have ek:k=fU:=by simpa using hk
    subst ek
    obtain⟨c,hc⟩:=hl n bM
    have e1:eW env ((n,fU)::r) cs=eW env r ((n,c)::cs):=by
     show eW env r (if (fU == fU)=true then(match env.cells.lookup n with | some c=>(n,c)::cs | none=>cs) else cs)=_
     rw[hc]; rfl
    rw[e1]
    simp only[cellOf_eq hc,hk,if_true]
    exact ih ((n,c)::cs) hr
   | false=>
    have e1:eW env ((n,k)::r) cs=eW env r cs:=by
     show eW env r (if (k == fU)=true then(match env.cells.lookup n with | some c=>(n,c)::cs | none=>cs) else cs)=_
     rw[hk]; rfl
    rw[e1]
    simp only[hk,rL,if_false]
    exact ih cs hr
 have e:=go l [] h
 simp only[e]
 rfl
theorem KL : ∀ (l:List (aC×mC)) (cs:List (aC×aD)),(∀ x c,cs.lookup x=some c->env.cells.lookup x=some c) -> ∀ x c,(eW env l cs).lookup x=some c->env.cells.lookup x=some c
 | [],cs,h,x,c,e=>h x c e
 | (n,k)::r,cs,h,x,c,e=>by
  refine KL r _ ?_ x c e
  intro y d q
  by_cases hk:(k == fU)=true
  ·rw[if_pos hk] at q
   cases hc:env.cells.lookup n with
   | none=>rw[hc] at q; exact h y d q
   | some a=>
    rw[hc] at q
    by_cases hy:(y == n)=true
    ·simp only[kJ,hy] at q
     have:y=n:=by simpa using hy
     rw[this,hc]; exact q
    ·have hy':(y == n)=false:=by simpa using hy
     simp only[kJ,hy'] at q
     exact h y d q
  ·rw[if_neg hk] at q; exact h y d q
theorem WT{c:aD}(hx:env.cells.lookup x=some c) : ∀ (l:List (aC×mC)) (cs:List (aC×aD)),cs.lookup x=some c->(eW env l cs).lookup x=some c
 | [],cs,h=>h
 | (n,k)::r,cs,h=>by
  refine WT hx r _ ?_
  by_cases hk:(k == fU)=true
  ·rw[if_pos hk]
   cases hc:env.cells.lookup n with
   | none=>exact h
   | some a=>
    show FI x ((n,a)::cs)=some c
    by_cases hy:(x == n)=true
    ·have:x=n:=by simpa using hy
     subst this
     rw[hx] at hc; cases hc
     simp[kJ]
    ·have hy':(x == n)=false:=by simpa using hy
     simp only[kJ,hy']; exact h
  ·rw[if_neg hk]; exact h
theorem KC{c:aD}(hx:env.cells.lookup x=some c) : ∀ (l:List (aC×mC)) (cs:List (aC×aD)),(x,fU)∈l->(eW env l cs).lookup x=some c
 | [],cs,h=>by simp at h
 | (n,k)::r,cs,h=>by
  rcases cU.mp h with e | h
  ·cases e
   refine WT hx r _ ?_
   rw[if_pos (by rfl),hx]
   simp[kJ]
  ·exact KC hx r _ h
theorem XC(x:aC):(wI sc env).names.lookup x=(sc.names.lookup x).map fun k=>if (k == fU&&env.scope.kind == .function&&env.kindOf x == some .cell)=true then NameKind.cell else k:=by
 unfold wI
 show FI x (sc.names.map _)=_
 induction sc.names with
 | nil=>rfl
 | cons p r ih=>
  obtain⟨n,k⟩:=p
  show FI x ((if (k == fU&&env.scope.kind == .function&&env.kindOf n == some .cell)=true then(n,NameKind.cell) else(n,k))::FH _ r)=_
  by_cases hy:(x == n)=true
  ·have:x=n:=by simpa using hy
   subst this
   by_cases hc:(k == fU&&env.scope.kind == .function&&env.kindOf x == some .cell)=true
   ·rw[if_pos hc]
    simp only[kJ,hy,wQ]
    rw[if_pos hc]
   ·rw[if_neg hc]
    simp only[kJ,hy,wQ]
    rw[if_neg hc]
  ·have hy':(x == n)=false:=by simpa using hy
   have e2:FI x ((n,k)::r)=FI x r:=by simp only[kJ,hy']
   rw[e2]
   by_cases hc:(k == fU&&env.scope.kind == .function&&env.kindOf n == some .cell)=true
   ·rw[if_pos hc]
    simp only[kJ,hy']
    exact ih
   ·rw[if_neg hc]
    simp only[kJ,hy']
    exact ih
theorem lookup_mem {α:Type}{v:α} : ∀ {l:List (aC×α)},l.lookup x=some v->(x,v)∈l
 | [],h=>by simp at h
 | (n,k)::r,h=>by
  by_cases hy:(x == n)=true
  ·have:x=n:=by simpa using hy
   subst this
   simp[kJ] at h
   subst h
   exact bM
  ·have hy':(x == n)=false:=by simpa using hy
   simp only[kJ,hy'] at h
   exact cF _ (lookup_mem h)
def hJ (X:Cx)(N:List aC)(sc:iQ)(cl:List (aC×aD))(C:aD)(s₀:aJ)(H₀:Hp)(ex:List aD):Cx:=
 { X with N:=N,s₀:=s₀,H₀:=H₀,env:=compEnvC sc cl C X.env,outer:=X.stack,ex:=ex,fn:=fun _=>false,pn:=[],xe:=fun _ _=>False }
structure CompScope (X:Cx)(N:List aC)(cap:List (Option Nat))(sc:iQ):Prop where
 kind:sc.kind = .function
 nocell : ∀ y∈sc.names,y.2 ≠ .cell
 nm : ∀ y∈sc.names,y.2 = .local->sc.names.lookup y.1=some .local
 fre : ∀ y∈sc.names,y.2 = .free->X.env.scope.names.lookup y.1=some .cell \/ X.env.scope.names.lookup y.1=some .free
 len:cap.length=N.length
 cap : ∀ (i j:Nat),cap[i]?=some (some j) -> ∃ x,N[i]?=some x/\X.N[j]?=some x/\sc.names.lookup x=some .free
def tX (cap:List (Option Nat))(σ:St):St:=cap.map fun o=>o.bind fun j=>(σ[j]?).join
def uB (X:Cx)(ifs:List aT)(t:TT):Prop:=
 ∀ (pins:List (aD×bH)) (s:aJ) (σ:St) (H:Hp) (Q:Bool->Hp->Prop),Inv X pins σ H s->t σ H Q ->
  aM (aU X.prog X.w) X.A (forIn ifs true fun c r=>if r=true then do let ok ← isTrue c X.env (bY c X.env); pure (BH ok) else pure (BH r)) (TP X pins σ Q) X.xe s
def Eb:TT:=fun _ H Q=>Q true H
theorem Mc:uB X [] Eb:=fun _ _ _ H _ I h=>wpAny_tests_nil ⟨H,I,h⟩
theorem Oc{t:TT}(h:PT X c t):uB X [c] t:=fun pins s σ H Q I hw=>wpAny_tests_one (h pins s σ H Q I hw)
def OM (cap:List (Option Nat))(J:It)(g:TG)(tc:TT)(te:TE)(σ:St)(H1:Hp)(Q:VK):Prop:=∀ D,H1 D=none ->
 ∃ W:Nat->Nat->List V->St->Hp->Prop,(∃ m,W 0 m [] (tX cap σ) (upd H1 D (.lst []))) /\
  ∀ i m ys σ' H',W i m ys σ' H'->H' D=some (.lst ys)/\((J.stop i H'/\Q (.ref D) H') \/
   (J.go i H'/\ys.length<sizeLine /\ ∃ M:List V->St->Hp->Prop,(∀ zs σ2 H2,M zs σ2 H2 -> ∃ m',m'<m/\W (i+1) m' zs σ2 H2) /\ ∀ x H2,J.yld i H' x H2->g x σ' H2 fun σ3 H3=>tc σ3 H3 fun b H4=>
    if b=true then te σ3 H4 fun y H5=>H5 D=some (.lst ys)/\M (ys++[y]) σ3 (upd H5 D (.lst (ys++[y]))) else M ys σ3 H4))
def tLC (cap:List (Option Nat))(wi:TI)(g:TG)(tc:TT)(te:TE):TE:=fun σ H Q=>wi σ H fun J H1=>OM cap J g tc te σ H1 Q
theorem CompScope.cells (S:CompScope X N cap sc)(ok:X.Ok) : ∀ n,(n,fU)∈sc.names -> ∃ c,X.env.cells.lookup n=some c:=fun n hn=>ok.has n (S.fre _ hn rfl)
theorem Zg (S:CompScope X N cap sc){fp:List aD}(I:Inv X pins σ H s)(hf : ∀ b∈fp,iV X pins H b)(hl : ∀ b∈fp,b<s.heap.objs.size) :
  (hJ X N sc (eW X.env sc.names []) s.heap.objs.size s H fp).Ok:=by
 have sub : ∀ x c,(eW X.env sc.names []).lookup x=some c->X.env.cells.lookup x=some c:=KL sc.names [] (fun x c e=>by simp at e)
 refine⟨I.ok.mod,?_,I.ok.glob,I.ok.blt,bE _,?_,?_,?_,I.ok.hd,I.ok.frames,.inl rfl,?_,I.bs,eO I.ok.bsz I.sz,?_,?_,I.stack,I.stkFree⟩
 ·exact S.kind
 ·intro x y c h1 h2
  exact I.ok.inj x y c (sub x c h1) (sub y c h2)
 ·intro x hx
  have hk:(wI sc X.env).names.lookup x=some .cell \/ (wI sc X.env).names.lookup x=some .free:=hx
  have hfree:sc.names.lookup x=some .free:=by
   rw[XC] at hk
   cases e:sc.names.lookup x with
   | none=>rw[e] at hk; simp at hk
   | some k=>
    rw[e] at hk
    have hm:=lookup_mem e
    have nc:=S.nocell _ hm
    simp only[wQ,FC] at hk
    by_cases hc:(k == fU&&X.env.scope.kind == .function&&X.env.kindOf x == some .cell)=true
    ·have:(k == fU)=true:=by
      simp only[xF] at hc; exact hc.1.1
     rw[show k=fU by simpa using this]
    ·rw[if_neg hc] at hk
     rcases hk with q | q
     ·exact absurd q nc
     ·rw[q]
  obtain⟨c,hc⟩:=S.cells I.ok x (lookup_mem hfree)
  exact⟨c,KC hc _ _ (lookup_mem hfree)⟩
 ·intro x c h1 _
  exact absurd (show false=true from h1) jZ
 ·intro b hb
  refine⟨dQ (hl b hb),fun x c e=>(hf b hb).2.2.2.2.1 x c (sub x c e)⟩
 ·intro b o e hb
  rcases(hf b hb).2.2.2.1 with z | z
  ·exact I.ok.noex b o e z
  ·exact absurd (iR (cA e) (eO I.ok.bsz z)) (kI _)
 ·intro b hb hz
  obtain⟨_,h1,h2,_⟩:=hf b hb
  rcases cU.mp (I.stkSub b hz) with e | e
  ·exact h1 e
  ·exact h2 e
theorem Vz (S:CompScope X N cap sc){fp:List aD}{h':aZ}{tk:Nat}(I:Inv X pins σ H s)(hf : ∀ b∈fp,iV X pins H b)(hl : ∀ b∈fp,b<s.heap.objs.size)
  (hn:h'.Ns s.heap.objs.size fun _=>none) (hk : ∀ b o,s.heap.get? b=some o->h'.get? b=some o) :
  Inv (hJ X N sc (eW X.env sc.names []) s.heap.objs.size s H fp) [] (tX cap σ) H { s with heap:=h',toks:=tk }:=by
 have sub : ∀ x c,(eW X.env sc.names []).lookup x=some c->X.env.cells.lookup x=some c:=KL sc.names [] (fun x c e=>by simp at e)
 have fr:H s.heap.objs.size=none:=I.hok.fresh (bE _)
 refine⟨Zg S I hf hl,rfl,I.bare,Un.kept hk,⟨_,hn,fun i x v e1 e2 e3=>?_⟩,fun x c e=>?_,fr,fun x c e=>I.freeC x c (sub x c e),fun p hp=>by simp[hJ] at hp,I.hok.kept hk,?_⟩
 ·have e2':(cap.map fun o=>o.bind fun j=>(σ[j]?).join)[i]?=some (some v):=e2
  rw[dI] at e2'
  cases hc:cap[i]? with
  | none=>rw[hc] at e2'; simp at e2'
  | some o=>
   rw[hc] at e2'
   simp only[wQ,FC] at e2'
   cases o with
   | none=>simp at e2'
   | some j=>
    have e2':(σ[j]?).join=some v:=e2'
    have ej:σ[j]?=some (some v):=by
     cases q:σ[j]? with
     | none=>rw[q] at e2'; simp at e2'
     | some z=>rw[q] at e2'; simp at e2'; rw[e2']
    obtain⟨y,n1,n2,fr1⟩:=S.cap i j hc
    have exy:x=y:=eY (e1.symm.trans n1)
    subst exy
    have hmem:=lookup_mem fr1
    have hkind:=S.fre _ hmem rfl
    obtain⟨m,_,hlk⟩:=I.loc
    obtain⟨u,r,l⟩:=hlk j x v n2 ej (.inr hkind)
    refine⟨u,r,.inr ⟨?_,?_⟩⟩
    ·show(wI sc X.env).names.lookup x=some .cell \/ (wI sc X.env).names.lookup x=some .free
     rw[XC,fr1]
     simp only[wQ,FC]
     by_cases hc:(fU == fU&&X.env.scope.kind == .function&&X.env.kindOf x == some .cell)=true
     ·exact .inl (if_pos hc)
     ·exact .inr (if_neg hc)
    ·rcases l with⟨k1,_⟩ | ⟨_,c,hc1,hcell⟩
     ·exfalso
      have k1':X.env.scope.names.lookup x=some .local:=k1
      rcases hkind with q | q
      ·rw[k1'] at q; cases q
      ·rw[k1'] at q; cases q
     ·obtain⟨oc,h1,h2⟩:=hcell
      exact⟨c,KC hc1 _ _ hmem,oc,hk _ _ h1,h2⟩
 ·obtain⟨v,oc,h1,h2⟩:=I.cell x c (sub x c e)
  exact⟨v,oc,hk _ _ h1,h2⟩
 ·show(cap.map _).length=N.length
  rw[cV,S.len]
theorem comp_back {fp:List aD}{cl:List (aC×aD)}{σ':St}{s':aJ}{pl:List (aD×bH)}(I:Inv X pins σ H s)(hf : ∀ b∈fp,iV X pins H b)
  (I':Inv (hJ X N sc cl s.heap.objs.size s H fp) pl σ' H' s'):Inv X pins σ H' s':=
 I.call' I'.os (show Un (frs X.stack) fp H H' s.heap s'.heap from I'.base) I'.hok I'.bare fun b hb=>⟨(hf b hb).2.2.2.1,(hf b hb).2.1,(hf b hb).2.2.2.2.1,(hf b hb).2.2.2.2.2⟩
section
variable {wi:TI}{g:TG}{tc:TT}{te:TE}
def Block (X:Cx)(N:List aC)(sc:iQ)(tg elt:aT)(ifs:List aT)(g:TG)(tc:TT)(te:TE):Prop:=
 ∀ (cl:List (aC×aD)) (C:aD) (s₀:aJ) (H₀:Hp) (ex:List aD),PG (hJ X N sc cl C s₀ H₀ ex) tg g/\uB (hJ X N sc cl C s₀ H₀ ex) ifs tc/\PE (hJ X N sc cl C s₀ H₀ ex) elt te
theorem Al{RR:aE->aD->Result->aJ->Prop}{E:aE->aJ->Prop}(hc:X.calm=true)(S:CompScope X N cap sc)(hb:Block X N sc tg elt ifs g tc te)
  {it:aD} {fp:List aD} {tn:Nat->aZ->Prop} {J:It} {Q:VK} (I:Inv X pins σ H s) (T:Turn X.prog X.w X.K tg J fp it tn) (st:tn 0 s.heap) (hf : ∀ b∈fp,iV X pins H b)
  (q:OM cap J g tc te σ H Q)
  (hRR : ∀ (D:aD) (s₀:aJ) (H₀:Hp) (σ':St) (H':Hp) (s':aJ),Inv X pins σ H₀ s₀->(∀ b∈fp,iV X pins H₀ b)->Inv (hJ X N sc (eW X.env sc.names []) s₀.heap.objs.size s₀ H₀ fp) [] σ' H' s'->Q (.ref D) H' ->
   RR (.ref D) s₀.heap.objs.size (.ok .next) s') :
  aM (aU X.prog X.w) X.A (newList []) (fun acc s₃=>aM (aU X.prog X.w) X.A (newFunctionEnv sc X.env.globals (eW X.env sc.names []) [] X.env.qual none .none (some X.env)) (fun cenv s₄=>
   oB (aU X.prog X.w) X.A (.compStart (.ListComp elt [⟨tg,iter,ifs,0⟩] sc pos) 0 (.ref it) acc { cenv with scope:=wI sc X.env }) (RR acc cenv.locals) s₄) E s₃) E s:=by
 have hl : ∀ b∈fp,b<s.heap.objs.size:=fun b hb=>by
  obtain⟨o,e,_⟩:=T.obj 0 _ st b hb
  exact cA e
 refine jM (wpAny_newFunctionEnv S.nocell (by intro y hy; simp at hy) (fun h₁ hns₁ hsb₁=>?_) S.kind)
 dsimp only at hns₁ hsb₁ ⊢
 have I0:Inv X pins σ (upd H s.heap.objs.size (.lst [])) { s with heap:=s.heap.push { cls:=.type "list",data:=.seq ([]:List aE).toArray },toks:=s.toks }:=I.lnew (ys:=[]) .nil (by simp)
 obtain⟨W,⟨m0,w0⟩,turn⟩:=q s.heap.objs.size I.fresh
 generalize hs0:({ s with heap:=s.heap.push { cls:=.type "list",data:=.seq ([]:List aE).toArray },toks:=s.toks }:aJ)=s0 at I0
 have hh:s.heap.push { cls:=.type "list",dict:=none,data:=.seq ([]:List aE).toArray }=s0.heap:=by rw[← hs0]
 have ht0:s0.toks=s.toks:=by rw[← hs0]
 have hg0:s0.gens=s.gens/\s0.drawn=s.drawn/\s0.os=s.os:=by rw[← hs0]; exact⟨rfl,rfl,rfl⟩
 rw[hh] at hns₁ hsb₁ ⊢
 have old0 : ∀ b o,s.heap.get? b=some o->s0.heap.get? b=some o:=fun b o e=>by rw[← hh]; exact bW _ e
 have old1 : ∀ b o,s0.heap.get? b=some o->h₁.get? b=some o:=fun b o e=>hsb₁.extBut b o (dQ (cA e)) (bW _ e)
 have hl0 : ∀ b∈fp,b<s0.heap.objs.size:=fun b hb=>by
  obtain⟨o,e,_⟩:=T.obj 0 _ st b hb
  exact cA (old0 b o e)
 have hf0 : ∀ b∈fp,iV X pins (upd H s.heap.objs.size (.lst [])) b:=fun b hb=>by
  refine⟨?_,(hf b hb).2⟩
  rw[dJ (dQ (hl b hb))]
  exact(hf b hb).1
 have I1:Inv (hJ X N sc (eW X.env sc.names []) s0.heap.objs.size s0 (upd H s.heap.objs.size (.lst [])) fp) [] (tX cap σ) (upd H s.heap.objs.size (.lst [])) { s0 with heap:=h₁,toks:=s.toks+0 }:=
  Vz S I0 hf0 hl0 hns₁ old1
 obtain⟨pg,pf,pe⟩:=hb (eW X.env sc.names []) s0.heap.objs.size s0 (upd H s.heap.objs.size (.lst [])) fp
 have st1:tn 0 h₁:=T.keep _ _ _ st fun b hb o e=>old1 b o (old0 b o e)
 have stat : ∀ {H':Hp},(∀ b∈fp,H' b=none) -> ∀ b∈fp,iV (hJ X N sc (eW X.env sc.names []) s0.heap.objs.size s0 (upd H s.heap.objs.size (.lst [])) fp) [] H' b:=fun hn b hb=>
  ⟨hn b hb,(I1.ok.exf b hb).1,I1.ok.exfs b hb,.inl hb,(I1.ok.exf b hb).2,fun p hp=>by simp[hJ] at hp⟩
 have loop : ∀ s3:aJ,s3 = { s0 with heap:=h₁,toks:=s.toks+0 } ->
   oB (aU X.prog X.w) X.A (.compLoop (.ListComp elt [⟨tg,iter,ifs,0⟩] sc pos) 0 (.ref it) (.ref s.heap.objs.size) (compEnvC sc (eW X.env sc.names []) s0.heap.objs.size X.env)) (RR (.ref s.heap.objs.size) s0.heap.objs.size) s3:=by
  rintro s3 rfl
  refine Ro (fun n s'=>∃ i ys σ' H',Inv (hJ X N sc (eW X.env sc.names []) s0.heap.objs.size s0 (upd H s.heap.objs.size (.lst [])) fp) [] σ' H' s'/\tn i s'.heap/\(∀ b∈fp,H' b=none)/\W i n ys σ' H') ?_ m0
   ⟨0,[],tX cap σ,_,I1,st1,fun b hb=>(hf0 b hb).1,w0⟩
  rintro n s3 ⟨i,ys,σ3,H3,I3,st3,fr3,w3⟩
  obtain⟨hD,h3⟩:=turn i n ys σ3 H3 w3
  rcases h3 with⟨stop,qn⟩ | ⟨go,hlen,M,hM,step⟩
  ·refine thn (T.done (hJ X N sc (eW X.env sc.names []) s0.heap.objs.size s0 (upd H s.heap.objs.size (.lst [])) fp) rfl rfl rfl hc i [] s3 σ3 H3 (fun _ _=>False) I3 (stat fr3) st3 stop) fun r s4 gh=>?_
   obtain⟨hr,I4⟩:=gh
   subst hr
   exact hRR _ s0 _ σ3 H3 s4 I0 hf0 I4 qn
  ·refine thn (T.item (hJ X N sc (eW X.env sc.names []) s0.heap.objs.size s0 (upd H s.heap.objs.size (.lst [])) fp) rfl rfl rfl hc i [] s3 σ3 H3 (fun _ _=>False) I3 (stat fr3) st3 go) fun r s4 gh=>?_
   obtain⟨u,hr,h4⟩:=gh
   subst hr
   refine thn h4 fun _ s5 gh=>?_
   obtain⟨x,H5,I5,r5,y5,st5,fr5⟩:=gh
   have I5':=I5.pinned (stat fr5) (T.obj _ _ st5)
   refine thn (pg _ s5 σ3 H5 x u _ I5' r5 (step x H5 y5)) fun _ s6 gh=>?_
   obtain⟨σ6,H6,I6,q6⟩:=gh
   refine thn (pf _ s6 σ6 H6 _ I6 q6) fun b s7 gh=>?_
   obtain⟨H7,I7,q7⟩:=gh
   have again : ∀ {s8:aJ} {H8:Hp} {zs:List V},Inv (hJ X N sc (eW X.env sc.names []) s0.heap.objs.size s0 (upd H s.heap.objs.size (.lst [])) fp) ([]++xY fp s5.heap) σ6 H8 s8->M zs σ6 H8 ->
     ∃ m,m<n /\ ∃ i ys σ' H',Inv (hJ X N sc (eW X.env sc.names []) s0.heap.objs.size s0 (upd H s.heap.objs.size (.lst [])) fp) [] σ' H' s8/\tn i s8.heap/\(∀ b∈fp,H' b=none)/\W i m ys σ' H':=fun {s8 H8 zs} I8 w8=>by
    obtain⟨m',hm,w8⟩:=hM _ _ _ w8
    refine⟨m',hm,i+1,zs,σ6,H8,I8.unpinned,T.keep _ _ _ st5 fun b hb o e=>(I8.pin (b,o) (mD _ (mD _ (DZ hb e)))).1,fun b hb=>?_,w8⟩
    obtain⟨o,e,d⟩:=T.obj _ _ st5 b hb
    exact(I8.pin (b,o) (mD _ (mD _ (DZ hb e)))).2.1
   cases b with
   | false=>
    rw[if_neg jZ] at q7 ⊢
    exact again I7 q7
   | true=>
    rw[if_pos rfl] at q7 ⊢
    refine thn (pe _ s7 σ6 H7 _ I7 q7) fun v s8 gh=>?_
    obtain⟨y,H8,I8,r8,hD8,w8⟩:=gh
    refine thn (VF _ s8 σ6 H8 (.ref s.heap.objs.size) [y] (.ref s.heap.objs.size) [v] (fun _ H9=>H9=upd H8 s.heap.objs.size (.lst (ys++[y]))) I8 rfl (.cons r8 .nil) ⟨_,ys,y,rfl,rfl,hD8,hlen,rfl⟩) fun _ s9 gh=>?_
    obtain⟨_,H9,I9,_,e9⟩:=gh
    subst e9
    exact again I9 w8
 have e3:({ s with heap:=h₁,toks:=s.toks+([]:List (aC×aE)).length }:aJ) = { s0 with heap:=h₁,toks:=s.toks+0 }:=by
  rw[← hs0]; rfl
 have fin:=codeAny_compStart_list (loop _ rfl) (T.self X.A 0 _ _ _ st1 (loop _ rfl))
 rw[← e3] at fin
 exact fin
theorem Fk (hc:X.calm=true)(S:CompScope X N cap sc)(hi:PI X tg iter wi)(hb:Block X N sc tg elt ifs g tc te)(hs : ∀ x,tD iter X.env x=pure x:=by intro _; rfl) :
  PE X (.ListComp elt [⟨tg,iter,ifs,0⟩] sc pos) (tLC cap wi g tc te):=by
 intro pins s σ H Q I h
 rw[eval_ListComp]
 refine wpAny_comprehension_free (use:=none) rfl hs (XG (S.cells I.ok)) S.kind S.nm (thn (hi pins s σ H _ I h) fun v s1 h1=>thn h1 fun itv s2 h2=>?_)
 obtain⟨it,fp,tn,J,H2,e,I2,T,st2,f2,q2⟩:=h2
 subst e
 refine Al (RR:=fun acc C=>compPost (aU X.prog X.w) X.A X.xe none (EP X pins σ Q) acc C) hc S hb I2 T st2 f2 q2 ?_
 intro D s₀ H₀ σ' H' s' I0 f0 I' qD
 obtain⟨m,hn,_⟩:=id I'.loc
 have IX:=comp_back I0 f0 I'
 refine⟨m,hn,fun h' hs'=>⟨.ref D,H',?_,rfl,qD⟩⟩
 exact IX.turned (t':=s'.toks) (it:=s₀.heap.objs.size) (fun b o hb e=>(hs'.2 b hb).trans e) I'.free (nC I0.lt) (.inr I0.sz) (fun x c e z=>by
  obtain⟨v,oc,h1,_⟩:=I0.cell x c e
  exact absurd (cA h1) (by rw[z]; exact kI _)) fun p hp z=>by
   have h1:=(I0.pin p hp).1
   exact absurd (cA h1) (by rw[z]; exact kI _)
theorem Yd(hc:X.calm=true)(hN:X.N.Nodup)(hi':X.N[i]?=some x)(hx:kA X.env.scope x)(S:CompScope X N cap sc)(hi:PI X tg iter wi)(hb:Block X N sc tg elt ifs g tc te)
  (hsw:mZ (.ListComp elt [⟨tg,iter,ifs,0⟩] sc pos) (some (.Name x px)) spos.line X.env=pure true:=by rfl)
  (hs : ∀ x,tD iter X.env x=pure x:=by intro _; rfl) (hf:X.fn x=true \/ X.env.scope.names.lookup x=some .local:=by first | exact .inl rfl | exact .inr rfl | assumption) :
  PS X (.Assign [.Name x px] (.ListComp elt [⟨tg,iter,ifs,0⟩] sc pos) spos) (GA (tLC cap wi g tc te) (EO i)):=by
 intro pins s σ H D I h
 rw[exec_Assign_Name_used _ _ _ _ hsw]
 refine aF (wpAny_standAt (aF ?_))
 show aM _ X.A (do let _ ← comprehension (.ListComp elt [⟨tg,iter,ifs,0⟩] sc pos) sc X.env _ (newList []) false (bY iter X.env) (some (jW (.Name x px) X.env))) _ _ s
 refine aF (kZ (wpAny_comprehension_free (use:=some (jW (.Name x px) X.env)) (Q:=fun _ s'=>SP X pins D .next s') rfl hs (XG (S.cells I.ok)) S.kind S.nm
  (thn (hi pins s σ H _ I h) fun v s1 h1=>thn h1 fun itv s2 h2=>?_)) (fun _ s' hq=>aP (aP hq)) fun _ _ e=>e)
 obtain⟨it,fp,tn,J,H2,e,I2,T,st2,f2,q2⟩:=h2
 subst e
 refine Al (Q:=fun y H1=>EO i y σ H1 D.nx) (RR:=fun acc C=>compPost (aU X.prog X.w) X.A X.xe (some (jW (.Name x px) X.env)) (fun _ s'=>SP X pins D .next s') acc C) hc S hb I2 T st2 f2 q2 ?_
 intro D' s₀ H₀ σ' H' s' I0 f0 I' qD
 obtain⟨m,hn,_⟩:=id I'.loc
 have IX:=comp_back I0 f0 I'
 have cellNe : ∀ x c,X.env.cells.lookup x=some c->c≠s₀.heap.objs.size:=fun x c e z=>by
  obtain⟨v,oc,h1,_⟩:=I0.cell x c e
  exact absurd (cA h1) (by rw[z]; exact kI _)
 show aM _ X.A (jW (.Name x px) X.env (.ref D')) _ _ _
 refine wpAny_assign_Name (US IX hN hi' hx (show RelV (.ref D') (.ref D') from rfl) (fun s3 I3 ch=>?_) hf)
 obtain⟨a,sb,ha⟩:=ch
 have hne:s₀.heap.objs.size≠a:=by
  rcases ha with z | z
  ·rw[z]; exact nC I0.lt
  ·exact fun q=>cellNe x a z q.symm
 refine⟨m,Heap.Ns.sameBut hn sb hne,fun h' hs'=>⟨_,H',?_,qD⟩⟩
 exact I3.turned (t':=s3.toks) (it:=s₀.heap.objs.size) (fun b o hb e=>(hs'.2 b hb).trans e) I'.free (nC I0.lt) (.inr I0.sz) cellNe fun p hp z=>by
  have h1:=(I0.pin p hp).1
  exact absurd (cA h1) (by rw[z]; exact kI _)
end
def ZK (out:List (aC×mC))(XN N:List aC)(cap:List (Option Nat))(ns:List (aC×mC)):Bool:=
 ns.all (fun y=>y.2 != .cell)&&ns.all (fun y=>y.2 != .local||ns.lookup y.1 == some .local)&&ns.all (fun y=>y.2 != .free||out.lookup y.1 == some .cell||out.lookup y.1 == some .free) &&
 cap.length == N.length&&(cap.zip N).all (fun p=>match p.1 with | none=>true | some j=>XN[j]? == some p.2&&ns.lookup p.2 == some .free)
theorem iA{out:List (aC×mC)}{XN:List aC}(h1:X.env.scope.names=out)(h2:X.N=XN)(chk:ZK out XN N cap sc.names=true)(hk:sc.kind = .function):CompScope X N cap sc:=by
 unfold ZK at chk
 simp only[xF,fA,bne_iff_ne,ne_eq,Bool.or_eq_true,beq_iff_eq] at chk
 obtain⟨⟨⟨⟨c1,c2⟩,c3⟩,c4⟩,c5⟩:=chk
 refine⟨hk,c1,fun y hy e=>?_,fun y hy e=>?_,c4,fun i j e=>?_⟩
 ·rcases c2 y hy with q | q
  ·exact absurd e q
  ·exact q
 ·rw[h1]
  rcases c3 y hy with(q | q) | q
  ·exact absurd e q
  ·exact .inl q
  ·exact .inr q
 ·have hi:i<cap.length:=(dR.mp e).1
  have hi':i<N.length:=by omega
  have hm:(cap[i],N[i])∈cap.zip N:=by
   have:(cap.zip N)[i]?=some (cap[i],N[i]):=by
    rw[List.getElem?_zip_eq_some]
    exact⟨jY hi,jY hi'⟩
   exact fK this
  have q:=c5 _ hm
  have ec:cap[i]=some j:=by
   rw[jY hi] at e
   exact eY e
  rw[ec] at q
  simp only[xF,beq_iff_eq] at q
  exact⟨N[i],jY hi',by rw[h2]; exact q.1,q.2⟩
abbrev Ext (H H':Hp):Prop:=∀ b o,H b=some o->H' b=some o
theorem Ext.refl:Ext H H:=fun _ _ e=>e
theorem Ext.trans {H2:Hp}(a:Ext H H1)(b:Ext H1 H2):Ext H H2:=fun x o e=>b x o (a x o e)
theorem Ext.new{p:aD}(n:H p=none):Ext H (upd H p o):=fun b u e=>by
 rw[dJ (jK e n)]; exact e
theorem Ext.rd(x:Ext H H'){u:HO}(r:Rd H a u):Rd H' a u:=by
 rcases r with r | ⟨o,r⟩
 ·exact .inl (x _ _ r)
 ·exact .inr ⟨o,x _ _ r⟩
theorem Ext.sqL(x:Ext H H')(h:SqL K H a xs):SqL K H' a xs:=h.imp x.rd id
theorem Ext.sqT(x:Ext H H')(h:SqT K H a xs):SqT K H' a xs:=h.imp x.rd id
theorem Ext.none(x:Ext H H')(h:H' a=Option.none):H a=Option.none:=by
 cases e:H a with
 | none=>rfl
 | some o=>rw[x a o e] at h; cases h
open Classical in
def hid (H:Hp)(P:aD->Prop):Hp:=fun a=>if P a then none else H a
theorem Ac0:hid H P a=some o ↔ ¬ P a/\H a=some o:=by
 unfold hid
 by_cases h:P a <;> simp[h]
theorem gQ(n : ¬ P a)(e:H a=some o):hid H P a=some o:=Ac0.mpr ⟨n,e⟩
theorem Aau:Ext (hid H P) H:=fun _ _ e=>(Ac0.mp e).2
theorem dD(x:Ext H H'):Ext (hid H P) (hid H' P):=fun b o e=>by
 obtain⟨n,e⟩:=Ac0.mp e
 exact gQ n (x b o e)
theorem iL{P':aD->Prop}(s : ∀ a,P' a->P a):Ext (hid H P) (hid H P'):=fun b o e=>by
 obtain⟨n,e⟩:=Ac0.mp e
 exact gQ (fun q=>n (s b q)) e
abbrev DQ:=(Nat×List (aI×V)) ⊕ (Nat×List (List aA×V))
def dO:DQ->HO
 | .inl kvs=>.dK kvs.1 kvs.2
 | .inr ts=>.dT ts.1 ts.2
def Hid (P:aD->Prop)(H:Hp):Prop:=∀ a,P a->(∃ xs,H a=some (.lst xs)) \/ ∃ q:DQ,H a=some (dO q)
theorem Hid.ext(h:Hid P H)(x:Ext H H'):Hid P H':=fun a p=>(h a p).imp (fun⟨xs,e⟩=>⟨xs,x _ _ e⟩) fun⟨xs,e⟩=>⟨xs,x _ _ e⟩
theorem Hid.new(h:Hid P H)(n:H a=none) : ¬ P a:=fun p=>by
 rcases h a p with⟨xs,e⟩ | ⟨xs,e⟩ <;> rw[n] at e <;> cases e
abbrev orL (P:aD->Prop)(F:List aD):aD->Prop:=fun a=>P a \/ a∈F
theorem RJ:orL P []=P:=by
 funext a
 simp[orL]
def kD:aI->aA
 | .inl i=>.int i
 | .inr x=>.str x
def PB (a:aD)(kvs:List (V×V)):HO:=.ext fun h=>kvs.length≤sizeLine /\ ∃ o es ep,h.get? a=some o/\o.ExactDict/\o.data = .dict es ep/\iD (fun(p:V×V) (e:nJ)=>RelV p.1 e.key/\RelV p.2 e.val) kvs es.toList
mutual
def Abk (K:aK)(H:Hp):aA->V->Prop
 | .none,v=>v = .non
 | .bool b,v=>v = .bl b
 | .int i,v=>v = .int i
 | .str x,v=>v = .str x/\cR (.str x)=true
 | .list ds,v=>∃ a xs,v = .ref a/\SqL K H a xs/\Aas K H ds xs
 | .tuple ds,v=>∃ a xs,v = .ref a/\H a=some (.tup xs)/\Aas K H ds xs
 | .dict kds,v=>∃ a,v = .ref a/\((∃ kvs:Nat×List (aI×V),H a=some (.dK kvs.1 kvs.2)/\Ab2 K H kds kvs.2) \/ (∃ ts:Nat×List (List aA×V),H a=some (.dT ts.1 ts.2)/\Ayb K H kds ts.2) \/ ∃ xs,H a=some (PB a xs)/\A1l K H kds xs)
def Aas (K:aK)(H:Hp):List aA->List V->Prop
 | [],xs=>xs=[]
 | d::ds,xs=>∃ x r,xs=x::r/\Abk K H d x/\Aas K H ds r
def Ab2 (K:aK)(H:Hp):List (aA×aA)->List (aI×V)->Prop
 | [],xs=>xs=[]
 | (k,d)::ds,xs=>∃ k' x r,xs=(k',x)::r/\k=kD k'/\Abk K H d x/\Ab2 K H ds r
def Abq (K:aK)(H:Hp):List (aA×aA)->List (List aA×V)->Prop
 | [],xs=>xs=[]
 | (k,d)::ds,xs=>∃ k' x r,xs=(k',x)::r/\(k = .tuple k'/\bU k'=true)/\Abk K H d x/\Abq K H ds r
def Ayb (K:aK)(H:Hp):List (aA×aA)->List (List aA×V)->Prop
 | [],_=>False
 | (k,_)::ds,xs=>k = .none/\Abq K H ds xs
def A1l (K:aK)(H:Hp):List (aA×aA)->List (V×V)->Prop
 | [],_=>False
 | (k,m)::ds,xs=>k = .none/\ds=[]/\Asz K H m xs
def Asz (K:aK)(H:Hp):aA->List (V×V)->Prop
 | .list es,xs=>Ajg K H es xs
 | _,_=>False
def Ajg (K:aK)(H:Hp):List aA->List (V×V)->Prop
 | [],xs=>xs=[]
 | d::ds,xs=>∃ x r,xs=x::r/\Axr K H d x/\Ajg K H ds r
def Axr (K:aK)(H:Hp):aA->V×V->Prop
 | .tuple ds,x=>Aas K H ds [x.1,x.2]
 | _,_=>False
end
def plK:List (aA×aA)->Bool
 | (.none,_)::_=>false
 | _=>true
theorem Abt:Abk K H .none v↔v = .non:=by simp[Abk]
theorem Aax {b:Bool}:Abk K H (.bool b) v↔v = .bl b:=by simp[Abk]
theorem Aaq {b:Int}:Abk K H (.int b) v↔v = .int b:=by simp[Abk]
theorem Aa7 {b:aC}:Abk K H (.str b) v↔v = .str b/\cR (.str b)=true:=by simp only[Abk]
theorem Abl:Abk K H (.list ds) v ↔ ∃ a xs,v = .ref a/\SqL K H a xs/\Aas K H ds xs:=by simp only[Abk]
theorem Aap:Abk K H (.tuple ds) v ↔ ∃ a xs,v = .ref a/\H a=some (.tup xs)/\Aas K H ds xs:=by simp only[Abk]
theorem Adp {ds:List (aA×aA)}:Abk K H (.dict ds) v ↔ ∃ a,v = .ref a/\((∃ kvs:Nat×List (aI×V),H a=some (.dK kvs.1 kvs.2)/\Ab2 K H ds kvs.2) \/ (∃ ts:Nat×List (List aA×V),H a=some (.dT ts.1 ts.2)/\Ayb K H ds ts.2) \/ ∃ xs,H a=some (PB a xs)/\A1l K H ds xs):=by simp only[Abk]
theorem Ag4 {k:aA}{ds:List (aA×aA)}{xs:List (V×V)}:A1l K H ((k,m)::ds) xs↔k = .none/\ds=[]/\Asz K H m xs:=by simp only[A1l]
theorem Yw{xs:List (V×V)}(h:Asz K H m xs) : ∃ es,m = .list es/\Ajg K H es xs:=by
 cases m with
 | list es=>exact⟨es,rfl,by simpa only[Asz] using h⟩
 | _=>simp[Asz] at h
theorem Av8 {xs:List (V×V)}:Ajg K H [] xs↔xs=[]:=by simp[Ajg]
theorem Ar6{xs:List (V×V)}:Ajg K H (d::ds) xs ↔ ∃ x r,xs=x::r/\Axr K H d x/\Ajg K H ds r:=by simp only[Ajg]
theorem JM {ds:List (aA×aA)}{xs:List (V×V)}(h:A1l K H ds xs) : ∃ es,ds=[(.none,.list es)]/\Ajg K H es xs:=by
 cases ds with
 | nil=>simp[A1l] at h
 | cons p r=>
  obtain⟨k,m⟩:=p
  obtain⟨rfl,rfl,h1⟩:=Ag4.mp h
  obtain⟨es,rfl,h2⟩:=Yw h1
  exact⟨es,rfl,h2⟩
theorem Ach {xs:List (List aA×V)}:Abq K H [] xs↔xs=[]:=by simp[Abq]
theorem Abe {k:aA}{ds:List (aA×aA)}{xs:List (List aA×V)}:Abq K H ((k,d)::ds) xs ↔ ∃ k' x r,xs=(k',x)::r/\(k = .tuple k'/\bU k'=true)/\Abk K H d x/\Abq K H ds r:=by simp only[Abq]
theorem Afk {k:aA}{ds:List (aA×aA)}{xs:List (List aA×V)}:Ayb K H ((k,m)::ds) xs↔k = .none/\Abq K H ds xs:=by simp only[Ayb]
theorem Xc {ds:List (aA×aA)}{xs:List (List aA×V)}(hk:plK ds=true) : ¬ Ayb K H ds xs:=by
 cases ds with
 | nil=>simp[Ayb]
 | cons p r=>
  obtain⟨k,d⟩:=p
  intro h
  rw[(Afk.mp h).1] at hk
  simp[plK] at hk
theorem oX {ds:List (aA×aA)}(hk:plK ds=true):Abk K H (.dict ds) v ↔ ∃ a,∃ kvs:Nat×List (aI×V),v = .ref a/\H a=some (.dK kvs.1 kvs.2)/\Ab2 K H ds kvs.2:=by
 rw[Adp]
 constructor
 ·rintro⟨a,e,⟨kvs,h,r⟩ | ⟨ts,h,r⟩ | ⟨xs,h,r⟩⟩
  ·exact⟨a,kvs,e,h,r⟩
  ·exact absurd r (Xc hk)
  ·obtain⟨es,rfl,_⟩:=JM r
   simp[plK] at hk
 ·rintro⟨a,kvs,e,h,r⟩
  exact⟨a,e,.inl ⟨kvs,h,r⟩⟩
theorem b6 {ds:List (aA×aA)}{kvs:Nat×List (aI×V)}(e:v = .ref a)(h:H a=some (.dK kvs.1 kvs.2))(r:Ab2 K H ds kvs.2):Abk K H (.dict ds) v:=Adp.mpr ⟨a,e,.inl ⟨kvs,h,r⟩⟩
theorem Aan:Aas K H [] xs↔xs=[]:=by simp[Aas]
theorem Aah:Aas K H (d::ds) xs ↔ ∃ x r,xs=x::r/\Abk K H d x/\Aas K H ds r:=by simp only[Aas]
theorem Ab6 {xs:List (aI×V)}:Ab2 K H [] xs↔xs=[]:=by simp[Ab2]
theorem Aba {k:aA}{ds:List (aA×aA)}{xs:List (aI×V)}:Ab2 K H ((k,d)::ds) xs ↔ ∃ k' x r,xs=(k',x)::r/\k=kD k'/\Abk K H d x/\Ab2 K H ds r:=by simp only[Ab2]
theorem mU{ds:List (aA×aA)}(hm : ∀ es,m ≠ .list es:=by intro _ z; cases z):Abk K H (.dict ((.none,m)::ds)) v ↔ ∃ a,∃ ts:Nat×List (List aA×V),v = .ref a/\H a=some (.dT ts.1 ts.2)/\Abq K H ds ts.2:=by
 rw[Adp]
 constructor
 ·rintro⟨a,e,⟨kvs,h,r⟩ | ⟨ts,h,r⟩ | ⟨xs,h,r⟩⟩
  ·obtain⟨k',_,_,_,ek,_⟩:=Aba.mp r
   cases k' <;> simp[kD] at ek
  ·exact⟨a,ts,e,h,(Afk.mp r).2⟩
  ·obtain⟨es,z,_⟩:=JM r
   cases z
   exact absurd rfl (hm es)
 ·rintro⟨a,ts,e,h,r⟩
  exact⟨a,e,.inr (.inl ⟨ts,h,Afk.mpr ⟨rfl,r⟩⟩)⟩
mutual
theorem Abk.ext(x:Ext H H') : ∀ {d:aA} {v:V},Abk K H d v->Abk K H' d v
 | .none,_,h=>Abt.mpr (Abt.mp h)
 | .bool _,_,h=>Aax.mpr (Aax.mp h)
 | .int _,_,h=>Aaq.mpr (Aaq.mp h)
 | .str _,_,h=>Aa7.mpr (Aa7.mp h)
 | .list ds,_,h=>by
  obtain⟨a,xs,e,s,r⟩:=Abl.mp h
  exact Abl.mpr ⟨a,xs,e,x.sqL s,Aas.ext x r⟩
 | .tuple ds,_,h=>by
  obtain⟨a,xs,e,s,r⟩:=Aap.mp h
  exact Aap.mpr ⟨a,xs,e,x _ _ s,Aas.ext x r⟩
 | .dict ds,_,h=>by
  obtain⟨a,e,⟨kvs,r,q⟩ | ⟨ts,r,q⟩ | ⟨xs,r,q⟩⟩:=Adp.mp h
  ·exact Adp.mpr ⟨a,e,.inl ⟨kvs,x _ _ r,Ab2.ext x q⟩⟩
  ·exact Adp.mpr ⟨a,e,.inr (.inl ⟨ts,x _ _ r,Ayb.ext x q⟩)⟩
  ·exact Adp.mpr ⟨a,e,.inr (.inr ⟨xs,x _ _ r,A1l.ext x q⟩)⟩
theorem Aas.ext(x:Ext H H') : ∀ {ds:List aA} {vs:List V},Aas K H ds vs->Aas K H' ds vs
 | [],_,h=>Aan.mpr (Aan.mp h)
 | d::ds,_,h=>by
  obtain⟨y,r,e,h1,h2⟩:=Aah.mp h
  exact Aah.mpr ⟨y,r,e,Abk.ext x h1,Aas.ext x h2⟩
theorem Ab2.ext(x:Ext H H') : ∀ {ds:List (aA×aA)} {vs:List (aI×V)},Ab2 K H ds vs->Ab2 K H' ds vs
 | [],_,h=>Ab6.mpr (Ab6.mp h)
 | (k,d)::ds,_,h=>by
  obtain⟨k',y,r,e,ek,h1,h2⟩:=Aba.mp h
  exact Aba.mpr ⟨k',y,r,e,ek,Abk.ext x h1,Ab2.ext x h2⟩
theorem Abq.ext(x:Ext H H') : ∀ {ds:List (aA×aA)} {vs:List (List aA×V)},Abq K H ds vs->Abq K H' ds vs
 | [],_,h=>Ach.mpr (Ach.mp h)
 | (k,d)::ds,_,h=>by
  obtain⟨k',y,r,e,ek,h1,h2⟩:=Abe.mp h
  exact Abe.mpr ⟨k',y,r,e,ek,Abk.ext x h1,Abq.ext x h2⟩
theorem Ayb.ext(x:Ext H H') : ∀ {ds:List (aA×aA)} {vs:List (List aA×V)},Ayb K H ds vs->Ayb K H' ds vs
 | [],_,h=>absurd h (by simp[Ayb])
 | (k,d)::ds,_,h=>Afk.mpr ⟨(Afk.mp h).1,Abq.ext x (Afk.mp h).2⟩
theorem A1l.ext(x:Ext H H') : ∀ {ds:List (aA×aA)} {vs:List (V×V)},A1l K H ds vs->A1l K H' ds vs
 | [],_,h=>absurd h (by simp[A1l])
 | (k,d)::ds,_,h=>Ag4.mpr ⟨(Ag4.mp h).1,(Ag4.mp h).2.1,Asz.ext x (Ag4.mp h).2.2⟩
theorem Asz.ext(x:Ext H H') : ∀ {d:aA} {vs:List (V×V)},Asz K H d vs->Asz K H' d vs
 | .list es,_,h=>by
  rw[Asz] at h ⊢
  exact Ajg.ext x h
 | .none,_,h=>absurd h (by simp[Asz])
 | .bool _,_,h=>absurd h (by simp[Asz])
 | .int _,_,h=>absurd h (by simp[Asz])
 | .str _,_,h=>absurd h (by simp[Asz])
 | .tuple _,_,h=>absurd h (by simp[Asz])
 | .dict _,_,h=>absurd h (by simp[Asz])
theorem Ajg.ext(x:Ext H H') : ∀ {ds:List aA} {vs:List (V×V)},Ajg K H ds vs->Ajg K H' ds vs
 | [],_,h=>Av8.mpr (Av8.mp h)
 | d::ds,_,h=>by
  obtain⟨y,r,e,h1,h2⟩:=Ar6.mp h
  exact Ar6.mpr ⟨y,r,e,Axr.ext x h1,Ajg.ext x h2⟩
theorem Axr.ext(x:Ext H H') : ∀ {d:aA} {y:V×V},Axr K H d y->Axr K H' d y
 | .tuple ds,_,h=>by
  rw[Axr] at h ⊢
  exact Aas.ext x h
 | .none,_,h=>absurd h (by simp[Axr])
 | .bool _,_,h=>absurd h (by simp[Axr])
 | .int _,_,h=>absurd h (by simp[Axr])
 | .str _,_,h=>absurd h (by simp[Axr])
 | .list _,_,h=>absurd h (by simp[Axr])
 | .dict _,_,h=>absurd h (by simp[Axr])
end
theorem Aas.length : ∀ {ds:List aA} {vs:List V},Aas K H ds vs->vs.length=ds.length
 | [],_,h=>by rw[Aan.mp h]; rfl
 | d::ds,_,h=>by
  obtain⟨y,r,e,h1,h2⟩:=Aah.mp h
  rw[e,fL,fL,Aas.length h2]
theorem Aas.get : ∀ {ds:List aA} {vs:List V} {i:Nat} {d:aA},Aas K H ds vs->ds[i]?=some d -> ∃ v,vs[i]?=some v/\Abk K H d v
 | [],_,_,_,h,e=>by simp at e
 | d::ds,_,0,d',h,e=>by
  obtain⟨y,r,rfl,h1,h2⟩:=Aah.mp h
  have:d=d':=by simpa using e
  subst this
  exact⟨y,rfl,h1⟩
 | d::ds,_,i+1,d',h,e=>by
  obtain⟨y,r,rfl,h1,h2⟩:=Aah.mp h
  obtain⟨v,h3,h4⟩:=Aas.get (i:=i) h2 (by simpa using e)
  exact⟨v,by simpa using h3,h4⟩
theorem Aas.append : ∀ {ds es:List aA} {vs ws:List V},Aas K H ds vs->Aas K H es ws->Aas K H (ds++es) (vs++ws)
 | [],es,_,_,h,g=>by rw[Aan.mp h]; exact g
 | d::ds,es,_,_,h,g=>by
  obtain⟨y,r,rfl,h1,h2⟩:=Aah.mp h
  exact Aah.mpr ⟨y,_,rfl,h1,Aas.append h2 g⟩
theorem Aas.snoc{vs:List V}(h:Aas K H ds vs)(g:Abk K H d v):Aas K H (ds++[d]) (vs++[v]):=
 h.append (Aah.mpr ⟨v,[],rfl,g,Aan.mpr rfl⟩)
theorem Aas.drop : ∀ {ds:List aA} {vs:List V} (n:Nat),Aas K H ds vs->Aas K H (ds.drop n) (vs.drop n)
 | _,_,0,h=>h
 | [],_,n+1,h=>by rw[Aan.mp h]; exact Aan.mpr rfl
 | d::ds,_,n+1,h=>by
  obtain⟨y,r,rfl,h1,h2⟩:=Aah.mp h
  exact Aas.drop n h2
theorem Aas.take : ∀ {ds:List aA} {vs:List V} (n:Nat),Aas K H ds vs->Aas K H (ds.take n) (vs.take n)
 | _,_,0,h=>Aan.mpr rfl
 | [],_,n+1,h=>by rw[Aan.mp h]; exact Aan.mpr rfl
 | d::ds,_,n+1,h=>by
  obtain⟨y,r,rfl,h1,h2⟩:=Aah.mp h
  exact Aah.mpr ⟨y,_,rfl,h1,Aas.take n h2⟩
theorem Aas.set(g:Abk K H d v) : ∀ {ds:List aA} {vs:List V} (n:Nat),Aas K H ds vs->Aas K H (ds.set n d) (vs.set n v)
 | [],_,n,h=>by rw[Aan.mp h]; exact Aan.mpr rfl
 | e::ds,_,0,h=>by
  obtain⟨y,r,rfl,h1,h2⟩:=Aah.mp h
  exact Aah.mpr ⟨v,r,rfl,g,h2⟩
 | e::ds,_,n+1,h=>by
  obtain⟨y,r,rfl,h1,h2⟩:=Aah.mp h
  exact Aah.mpr ⟨y,_,rfl,h1,Aas.set g n h2⟩
theorem UX : ∀ ns:List Int,Aas K H (ns.map aQ) (ns.map V.int)
 | []=>Aan.mpr rfl
 | n::r=>Aah.mpr ⟨_,_,rfl,Aaq.mpr rfl,UX r⟩
theorem Rm(h:Abk K H (kD k) v):v=kV k:=by
 cases k with
 | inl i=>exact Aaq.mp h
 | inr x=>exact(Aa7.mp h).1
mutual
theorem Abk.key {K:aK}{H:Hp} : ∀ (d:aA) {v:V},bQ d=true->Abk K H d v->Aku H d v
 | .int i,v,_,h=>by simpa [Aku] using Aaq.mp h
 | .str i,v,_,h=>by simpa [Aku] using(Aa7.mp h).1
 | .tuple ds,v,k,h=>by
  obtain⟨a,xs,e,s,r⟩:=Aap.mp h
  simp only[Aku]
  exact⟨a,xs,e,s,Aas.keys ds (by simpa [bQ] using k) r⟩
 | .none,v,k,_=>by simp[bQ] at k
 | .bool _,v,k,_=>by simp[bQ] at k
 | .list _,v,k,_=>by simp[bQ] at k
 | .dict _,v,k,_=>by simp[bQ] at k
theorem Aas.keys {K:aK}{H:Hp} : ∀ (ds:List aA) {vs:List V},bU ds=true->Aas K H ds vs->Agk H ds vs
 | [],vs,_,h=>by simpa [Agk] using Aan.mp h
 | d::ds,vs,k,h=>by
  have k':bQ d=true/\bU ds=true:=by simpa [bU] using k
  obtain⟨y,r,e,h1,h2⟩:=Aah.mp h
  simp only[Agk]
  exact⟨y,r,e,Abk.key d k'.1 h1,Aas.keys ds k'.2 h2⟩
end
mutual
def eQ:aA->Bool
 | .list _=>false
 | .dict _=>false
 | .tuple ds=>sN ds
 | _=>true
def sN:List aA->Bool
 | []=>true
 | d::r=>eQ d&&sN r
end
mutual
theorem Abk.flat(x : ∀ a xs,H a=some (.tup xs)->H' a=some (.tup xs)) : ∀ (d:aA) {v:V},eQ d=true->Abk K H d v->Abk K H' d v
 | .none,_,_,h=>Abt.mpr (Abt.mp h)
 | .bool _,_,_,h=>Aax.mpr (Aax.mp h)
 | .int _,_,_,h=>Aaq.mpr (Aaq.mp h)
 | .str _,_,_,h=>Aa7.mpr (Aa7.mp h)
 | .tuple ds,_,f,h=>by
  obtain⟨a,xs,e,s,r⟩:=Aap.mp h
  exact Aap.mpr ⟨a,xs,e,x _ _ s,Aas.flat x ds (by simpa [eQ] using f) r⟩
 | .list _,_,f,_=>by simp[eQ] at f
 | .dict _,_,f,_=>by simp[eQ] at f
theorem Aas.flat(x : ∀ a xs,H a=some (.tup xs)->H' a=some (.tup xs)) : ∀ (ds:List aA) {vs:List V},sN ds=true->Aas K H ds vs->Aas K H' ds vs
 | [],_,_,h=>Aan.mpr (Aan.mp h)
 | d::ds,_,f,h=>by
  have f':eQ d=true/\sN ds=true:=by simpa [sN] using f
  obtain⟨y,r,e,h1,h2⟩:=Aah.mp h
  exact Aah.mpr ⟨y,r,e,Abk.flat x d f'.1 h1,Aas.flat x ds f'.2 h2⟩
end
inductive All3 {α β γ:Type}(R:α->β->γ->Prop):List α->List β->List γ->Prop
 | nil:All3 R [] [] []
 | cons {a b c as bs cs}:R a b c->All3 R as bs cs->All3 R (a::as) (b::bs) (c::cs)
theorem All3.imp {α β γ:Type}{R S:α->β->γ->Prop} : ∀ {as:List α} {bs:List β} {cs:List γ},All3 R as bs cs->(∀ a b c,c∈cs->R a b c->S a b c)->All3 S as bs cs:=by
 intro as bs cs h
 induction h with
 | nil=>exact fun _=>.nil
 | cons h _ ih=>exact fun f=>.cons (f _ _ _ bM h) (ih fun a b c m=>f a b c (cF _ m))
def Afo (K:aK)(B H:Hp):Nat->aA->V->List aD->Prop
 | 0,d,v,F=>F=[]/\Abk K B d v
 | n+1,d,v,F=>match d with
  | .list ds=>∃ p xs Fs,v = .ref p/\H p=some (.lst xs)/\F=p::Fs.flatten/\All3 (Afo K B H n) ds xs Fs
  | .dict kds=>∃ p,∃ kvs:Nat×List (aI×V),∃ Fs,v = .ref p/\H p=some (.dK kvs.1 kvs.2)/\F=p::Fs.flatten/\All3 (fun(kd:aA×aA) (kv:aI×V) f=>kd.1=kD kv.1/\Afo K B H n kd.2 kv.2 f) kds kvs.2 Fs
  | .tuple ds=>(n=0/\F=[]/\Abk K B (.tuple ds) v) \/ (n≠0 /\ ∃ p xs Fs,v = .ref p/\B p=some (.tup xs)/\F=Fs.flatten/\All3 (Afo K B H n) ds xs Fs)
  | d=>F=[]/\Abk K B d v
theorem Afo.keep(xb:Ext B B') : ∀ {n:Nat} {d:aA} {v:V} {F:List aD},(∀ a∈F,H' a=H a)->Afo K B H n d v F->Afo K B' H' n d v F
 | 0,d,v,F,_,h=>⟨h.1,h.2.ext xb⟩
 | n+1,.list ds,v,F,kp,h=>by
  obtain⟨p,xs,Fs,e,hp,rfl,q⟩:=h
  refine⟨p,xs,Fs,e,(kp p bM).trans hp,rfl,q.imp fun a b c m r=>Afo.keep xb (fun z hz=>kp z (cF _ (rH.mpr ⟨c,m,hz⟩))) r⟩
 | n+1,.dict kds,v,F,kp,h=>by
  obtain⟨p,xs,Fs,e,hp,rfl,q⟩:=h
  refine⟨p,xs,Fs,e,(kp p bM).trans hp,rfl,q.imp fun a b c m r=>⟨r.1,Afo.keep xb (fun z hz=>kp z (cF _ (rH.mpr ⟨c,m,hz⟩))) r.2⟩⟩
 | n+1,.none,v,F,_,h=>⟨h.1,h.2.ext xb⟩
 | n+1,.bool _,v,F,_,h=>⟨h.1,h.2.ext xb⟩
 | n+1,.int _,v,F,_,h=>⟨h.1,h.2.ext xb⟩
 | n+1,.str _,v,F,_,h=>⟨h.1,h.2.ext xb⟩
 | n+1,.tuple ds,v,F,kp,h=>by
  rcases h with⟨h0,h1,h2⟩ | ⟨h0,p,xs,Fs,e,hp,rfl,q⟩
  ·exact .inl ⟨h0,h1,h2.ext xb⟩
  ·exact .inr ⟨h0,p,xs,Fs,e,xb _ _ hp,rfl,q.imp fun a b c m r=>Afo.keep xb (fun z hz=>kp z (rH.mpr ⟨c,m,hz⟩)) r⟩
theorem VV{R:aA->V->List aD->Prop}(f : ∀ d v F,R d v F->Abk K B d v) : ∀ {ds:List aA} {xs:List V} {Fs:List (List aD)},All3 R ds xs Fs->Aas K B ds xs:=by
 intro ds xs Fs h
 induction h with
 | nil=>exact Aan.mpr rfl
 | cons h _ ih=>exact Aah.mpr ⟨_,_,rfl,f _ _ _ h,ih⟩
theorem Zh{R:aA×aA->aI×V->List aD->Prop}(f : ∀ d v F,R d v F->d.1=kD v.1/\Abk K B d.2 v.2) : ∀ {ds:List (aA×aA)} {xs:List (aI×V)} {Fs:List (List aD)},All3 R ds xs Fs->Ab2 K B ds xs:=by
 intro ds xs Fs h
 induction h with
 | nil=>exact Ab6.mpr rfl
 | @cons p q F ds xs Fs h _ ih=>
  obtain⟨k,d⟩:=p
  obtain⟨k',v⟩:=q
  exact Aba.mpr ⟨_,_,_,rfl,(f _ _ _ h).1,(f _ _ _ h).2,ih⟩
theorem Afo.share(xb:Ext B B') : ∀ {n:Nat} {d:aA} {v:V} {F:List aD},(∀ a∈F,∀ o,H a=some o->B' a=some o)->Afo K B H n d v F->Abk K B' d v
 | 0,d,v,F,_,h=>h.2.ext xb
 | n+1,.list ds,v,F,kp,h=>by
  obtain⟨p,xs,Fs,e,hp,rfl,q⟩:=h
  refine Abl.mpr ⟨p,xs,e,SqL.of (kp p bM _ hp),?_⟩
  exact VV (fun d v F r=>r) (q.imp fun a b c m r=>Afo.share xb (fun z hz=>kp z (cF _ (rH.mpr ⟨c,m,hz⟩))) r)
 | n+1,.dict kds,v,F,kp,h=>by
  obtain⟨p,xs,Fs,e,hp,rfl,q⟩:=h
  refine b6 e (kp p bM _ hp) ?_
  exact Zh (R:=fun kd kv _=>kd.1=kD kv.1/\Abk K B' kd.2 kv.2) (fun d v F r=>r) (q.imp fun a b c m r=>⟨r.1,Afo.share xb (fun z hz=>kp z (cF _ (rH.mpr ⟨c,m,hz⟩))) r.2⟩)
 | n+1,.none,v,F,_,h=>h.2.ext xb
 | n+1,.bool _,v,F,_,h=>h.2.ext xb
 | n+1,.int _,v,F,_,h=>h.2.ext xb
 | n+1,.str _,v,F,_,h=>h.2.ext xb
 | n+1,.tuple ds,v,F,kp,h=>by
  rcases h with⟨h0,h1,h2⟩ | ⟨h0,p,xs,Fs,e,hp,rfl,q⟩
  ·exact h2.ext xb
  ·refine Aap.mpr ⟨p,xs,e,xb _ _ hp,?_⟩
   exact VV (fun d v F r=>r) (q.imp fun a b c m r=>Afo.share xb (fun z hz=>kp z (rH.mpr ⟨c,m,hz⟩)) r)
def gD:Nat->aA->Bool
 | 0,d=>eQ d
 | n+1,.list ds=>ds.all (gD n)
 | n+1,.dict kds=>kds.all fun kd=>gD n kd.2
 | n+2,.tuple ds=>ds.all (gD (n+1))
 | n+1,d=>eQ d
theorem Afo.flat(xb : ∀ a xs,B a=some (.tup xs)->B' a=some (.tup xs)) : ∀ {n:Nat} {d:aA} {v:V} {F:List aD},gD n d=true->Afo K B H n d v F->Afo K B' H n d v F
 | 0,d,v,F,f,h=>⟨h.1,h.2.flat xb d f⟩
 | n+1,.list ds,v,F,f,h=>by
  obtain⟨p,xs,Fs,e,hp,rfl,q⟩:=h
  refine⟨p,xs,Fs,e,hp,rfl,?_⟩
  have f' : ∀ d∈ds,gD n d=true:=by simpa [gD] using f
  clear hp f e
  induction q with
  | nil=>exact .nil
  | cons h t ih=>exact .cons (Afo.flat xb (f' _ bM) h) (ih fun d m=>f' d (cF _ m))
 | n+1,.dict kds,v,F,f,h=>by
  obtain⟨p,xs,Fs,e,hp,rfl,q⟩:=h
  refine⟨p,xs,Fs,e,hp,rfl,?_⟩
  have f' : ∀ d∈kds,gD n d.2=true:=fun d m=>by
   have:kds.all (fun kd=>gD n kd.2)=true:=by simpa [gD] using f
   exact fA.mp this d m
  clear hp f e
  obtain⟨xe,xs⟩:=xs
  replace q:All3 _ kds xs Fs:=q
  show All3 _ kds xs Fs
  induction q with
  | nil=>exact .nil
  | cons h t ih=>exact .cons ⟨h.1,Afo.flat xb (f' _ bM) h.2⟩ (ih fun d m=>f' d (cF _ m))
 | n+1,.none,v,F,f,h=>⟨h.1,h.2.flat xb _ f⟩
 | n+1,.bool _,v,F,f,h=>⟨h.1,h.2.flat xb _ f⟩
 | n+1,.int _,v,F,f,h=>⟨h.1,h.2.flat xb _ f⟩
 | n+1,.str _,v,F,f,h=>⟨h.1,h.2.flat xb _ f⟩
 | 1,.tuple ds,v,F,f,h=>by
  rcases h with⟨h0,h1,h2⟩ | ⟨h0,_⟩
  ·exact .inl ⟨h0,h1,h2.flat xb _ f⟩
  ·exact absurd rfl h0
 | n+2,.tuple ds,v,F,f,h=>by
  rcases h with⟨h0,_⟩ | ⟨h0,p,xs,Fs,e,hp,rfl,q⟩
  ·exact absurd h0 (by omega)
  ·refine .inr ⟨h0,p,xs,Fs,e,xb _ _ hp,rfl,?_⟩
   have f' : ∀ d∈ds,gD (n+1) d=true:=by simpa [gD] using f
   clear hp f e
   induction q with
   | nil=>exact .nil
   | cons h t ih=>exact .cons (Afo.flat xb (f' _ bM) h) (ih fun d m=>f' d (cF _ m))
theorem All3.of {α β γ:Type}{R:α->β->γ->Prop} : ∀ {as:List α} {bs:List β} {cs:List γ},All3 R as bs cs -> ∀ c∈cs,∃ a b,R a b c:=by
 intro as bs cs h
 induction h with
 | nil=>exact fun c m=>by simp at m
 | cons h _ ih=>
  intro c m
  rcases cU.mp m with rfl | m
  ·exact⟨_,_,h⟩
  ·exact ih c m
mutual
def ndD:aA->Bool
 | .dict kds=>ndM kds
 | .list ds=>uC ds
 | .tuple ds=>uC ds
 | _=>true
def uC:List aA->Bool
 | []=>true
 | d::r=>ndD d&&uC r
def ndM:List (aA×aA)->Bool
 | (.none,.none)::r=>xN r
 | _=>false
def xN:List (aA×aA)->Bool
 | []=>true
 | (_,d)::r=>ndD d&&xN r
end
def iH:Nat->aA->Bool
 | 0,d=>ndD d
 | n+1,.list ds=>ds.all (iH n)
 | n+1,.dict kds=>kds.all fun kd=>iH n kd.2
 | _,_=>false
theorem Ia (xs:List V) : ∀ q,HO.lst xs≠dO q:=fun q z=>by cases q <;> cases z
theorem QP (xs:List V) : ∀ q,HO.tup xs≠dO q:=fun q z=>by cases q <;> cases z
theorem Jo (o:bH)(u:HO) : ∀ q,HO.frz o u≠dO q:=fun q z=>by cases q <;> cases z
def NdX (H H':Hp):Prop:=∀ a o,H a=some o->(∀ q,o≠dO (.inl q))->H' a=some o
mutual
theorem Abk.nd(x:NdX H H') : ∀ (d:aA) {v:V},ndD d=true->Abk K H d v->Abk K H' d v
 | .none,_,_,h=>Abt.mpr (Abt.mp h)
 | .bool _,_,_,h=>Aax.mpr (Aax.mp h)
 | .int _,_,_,h=>Aaq.mpr (Aaq.mp h)
 | .str _,_,_,h=>Aa7.mpr (Aa7.mp h)
 | .tuple ds,_,f,h=>by
  obtain⟨a,xs,e,s,r⟩:=Aap.mp h
  exact Aap.mpr ⟨a,xs,e,x _ _ s (fun q=>QP _ _),Aas.nd x ds (by simpa [ndD] using f) r⟩
 | .list ds,_,f,h=>by
  obtain⟨a,xs,e,s,r⟩:=Abl.mp h
  refine Abl.mpr ⟨a,xs,e,s.imp (fun s=>?_) id,Aas.nd x ds (by simpa [ndD] using f) r⟩
  rcases s with s | ⟨o,s⟩
  ·exact .inl (x _ _ s (fun q=>Ia _ _))
  ·exact .inr ⟨o,x _ _ s (fun q=>Jo _ _ _)⟩
 | .dict [],_,f,_=>by simp[ndD,ndM] at f
 | .dict ((k,m)::kds),_,f,h=>by
  have f:ndM ((k,m)::kds)=true:=by simpa only[ndD] using f
  cases k <;> cases m <;> first | (simp[ndM] at f; done) | skip
  obtain⟨a,ts,e,s,r⟩:=(mU).mp h
  exact(mU).mpr ⟨a,ts,e,x _ _ s (fun q z=>by cases z),Abq.nd x kds (by simpa only[ndM] using f) r⟩
theorem Abq.nd(x:NdX H H') : ∀ (kds:List (aA×aA)) {ts:List (List aA×V)},xN kds=true->Abq K H kds ts->Abq K H' kds ts
 | [],_,_,h=>Ach.mpr (Ach.mp h)
 | (k,d)::r,_,f,h=>by
  have f':ndD d=true/\xN r=true:=by simpa [xN] using f
  obtain⟨k',y,rr,e,ek,h1,h2⟩:=Abe.mp h
  exact Abe.mpr ⟨k',y,rr,e,ek,Abk.nd x d f'.1 h1,Abq.nd x r f'.2 h2⟩
theorem Aas.nd(x:NdX H H') : ∀ (ds:List aA) {vs:List V},uC ds=true->Aas K H ds vs->Aas K H' ds vs
 | [],_,_,h=>Aan.mpr (Aan.mp h)
 | d::ds,_,f,h=>by
  have f':ndD d=true/\uC ds=true:=by simpa [uC] using f
  obtain⟨y,r,e,h1,h2⟩:=Aah.mp h
  exact Aah.mpr ⟨y,r,e,Abk.nd x d f'.1 h1,Aas.nd x ds f'.2 h2⟩
end
theorem Afo.mut1 : ∀ {n:Nat} {d:aA} {v:V} {F:List aD},Afo K B H n d v F -> ∀ a∈F,(∃ xs,H a=some (.lst xs)) \/ ∃ q,H a=some (dO (.inl q))
 | 0,d,v,F,h,a,m=>by rw[h.1] at m; simp at m
 | n+1,.list ds,v,F,h,a,m=>by
  obtain⟨p,xs,Fs,e,hp,rfl,q⟩:=h
  rcases cU.mp m with e1 | m2
  ·rw[e1]; exact .inl ⟨xs,hp⟩
  ·obtain⟨f,hf,ha⟩:=rH.mp m2
   obtain⟨_,_,r⟩:=q.of f hf
   exact Afo.mut1 r a ha
 | n+1,.dict kds,v,F,h,a,m=>by
  obtain⟨p,xs,Fs,e,hp,rfl,q⟩:=h
  rcases cU.mp m with e1 | m2
  ·rw[e1]; exact .inr ⟨xs,hp⟩
  ·obtain⟨f,hf,ha⟩:=rH.mp m2
   obtain⟨_,_,r⟩:=q.of f hf
   exact Afo.mut1 r.2 a ha
 | n+1,.none,v,F,h,a,m=>by rw[h.1] at m; simp at m
 | n+1,.bool _,v,F,h,a,m=>by rw[h.1] at m; simp at m
 | n+1,.int _,v,F,h,a,m=>by rw[h.1] at m; simp at m
 | n+1,.str _,v,F,h,a,m=>by rw[h.1] at m; simp at m
 | n+1,.tuple ds,v,F,h,a,m=>by
  rcases h with⟨_,h1,_⟩ | ⟨h0,p,xs,Fs,e,hp,rfl,q⟩
  ·rw[h1] at m; simp at m
  ·obtain⟨f,hf,ha⟩:=rH.mp m
   obtain⟨_,_,r⟩:=q.of f hf
   exact Afo.mut1 r a ha
theorem Afo.mut{F:List aD}(h:Afo K B H n d v F) : ∀ a∈F,(∃ xs,H a=some (.lst xs)) \/ ∃ q:DQ,H a=some (dO q):=fun a m=>(h.mut1 a m).imp id fun⟨q,e⟩=>⟨.inl q,e⟩
mutual
def ftD:aA->Bool
 | .dict kds=>ftM kds
 | .list _=>false
 | .tuple ds=>xJ ds
 | _=>true
def xJ:List aA->Bool
 | []=>true
 | d::r=>ftD d&&xJ r
def ftM:List (aA×aA)->Bool
 | (.none,.none)::r=>rV r
 | _=>false
def rV:List (aA×aA)->Bool
 | []=>true
 | (_,d)::r=>ftD d&&rV r
end
def FtX (H H':Hp):Prop:=∀ a o,H a=some o->((∃ xs,o = .tup xs) \/ ∃ q,o=dO (.inr q))->H' a=some o
mutual
theorem Abk.ft(x:FtX H H') : ∀ (d:aA) {v:V},ftD d=true->Abk K H d v->Abk K H' d v
 | .none,_,_,h=>Abt.mpr (Abt.mp h)
 | .bool _,_,_,h=>Aax.mpr (Aax.mp h)
 | .int _,_,_,h=>Aaq.mpr (Aaq.mp h)
 | .str _,_,_,h=>Aa7.mpr (Aa7.mp h)
 | .tuple ds,_,f,h=>by
  obtain⟨a,xs,e,s,r⟩:=Aap.mp h
  exact Aap.mpr ⟨a,xs,e,x _ _ s (.inl ⟨xs,rfl⟩),Aas.ft x ds (by simpa [ftD] using f) r⟩
 | .list ds,_,f,h=>by simp[ftD] at f
 | .dict [],_,f,_=>by simp[ftD,ftM] at f
 | .dict ((k,m)::kds),_,f,h=>by
  have f:ftM ((k,m)::kds)=true:=by simpa only[ftD] using f
  cases k <;> cases m <;> first | (simp[ftM] at f; done) | skip
  obtain⟨a,ts,e,s,r⟩:=(mU).mp h
  exact(mU).mpr ⟨a,ts,e,x _ _ s (.inr ⟨ts,rfl⟩),Abq.ft x kds (by simpa only[ftM] using f) r⟩
theorem Abq.ft(x:FtX H H') : ∀ (kds:List (aA×aA)) {ts:List (List aA×V)},rV kds=true->Abq K H kds ts->Abq K H' kds ts
 | [],_,_,h=>Ach.mpr (Ach.mp h)
 | (k,d)::r,_,f,h=>by
  have f':ftD d=true/\rV r=true:=by simpa [rV] using f
  obtain⟨k',y,rr,e,ek,h1,h2⟩:=Abe.mp h
  exact Abe.mpr ⟨k',y,rr,e,ek,Abk.ft x d f'.1 h1,Abq.ft x r f'.2 h2⟩
theorem Aas.ft(x:FtX H H') : ∀ (ds:List aA) {vs:List V},xJ ds=true->Aas K H ds vs->Aas K H' ds vs
 | [],_,_,h=>Aan.mpr (Aan.mp h)
 | d::ds,_,f,h=>by
  have f':ftD d=true/\xJ ds=true:=by simpa [xJ] using f
  obtain⟨y,r,e,h1,h2⟩:=Aah.mp h
  exact Aah.mpr ⟨y,r,e,Abk.ft x d f'.1 h1,Aas.ft x ds f'.2 h2⟩
end
theorem Afo.nd(xb:NdX B B') : ∀ {n:Nat} {d:aA} {v:V} {F:List aD},iH n d=true->Afo K B H n d v F->Afo K B' H n d v F
 | 0,d,v,F,f,h=>⟨h.1,h.2.nd xb d f⟩
 | n+1,.list ds,v,F,f,h=>by
  obtain⟨p,xs,Fs,e,hp,rfl,q⟩:=h
  refine⟨p,xs,Fs,e,hp,rfl,?_⟩
  have f' : ∀ d∈ds,iH n d=true:=by simpa [iH] using f
  clear hp f e
  induction q with
  | nil=>exact .nil
  | cons h t ih=>exact .cons (Afo.nd xb (f' _ bM) h) (ih fun d m=>f' d (cF _ m))
 | n+1,.dict kds,v,F,f,h=>by
  obtain⟨p,xs,Fs,e,hp,rfl,q⟩:=h
  refine⟨p,xs,Fs,e,hp,rfl,?_⟩
  have f' : ∀ d∈kds,iH n d.2=true:=fun d m=>by
   have:kds.all (fun kd=>iH n kd.2)=true:=by simpa [iH] using f
   exact fA.mp this d m
  clear hp f e
  obtain⟨xe,xs⟩:=xs
  replace q:All3 _ kds xs Fs:=q
  show All3 _ kds xs Fs
  induction q with
  | nil=>exact .nil
  | cons h t ih=>exact .cons ⟨h.1,Afo.nd xb (f' _ bM) h.2⟩ (ih fun d m=>f' d (cF _ m))
 | n+1,.none,v,F,f,h=>by simp[iH] at f
 | n+1,.bool _,v,F,f,h=>by simp[iH] at f
 | n+1,.int _,v,F,f,h=>by simp[iH] at f
 | n+1,.str _,v,F,f,h=>by simp[iH] at f
 | n+1,.tuple ds,v,F,f,h=>by simp[iH] at f
def ES (K:aK)(B H:Hp)(d:aA)(v:V)(F:List aD):Prop:=∃ kds p,∃ ts:Nat×List (List aA×V),d = .dict ((.none,.none)::kds)/\v = .ref p/\H p=some (.dT ts.1 ts.2)/\F=[p]/\(∀ kd∈kds,eQ kd.2=true)/\Abq K B kds ts.2
def Aie (K:aK)(B H:Hp)(n:Nat)(d:aA)(v:V)(F:List aD):Prop:=if n=9 then(d = .none/\v = .non/\F=[]) \/ ES K B H d v F else Afo K B H n d v F
theorem Abq.flat(xb : ∀ a xs,B a=some (.tup xs)->B' a=some (.tup xs)) : ∀ {kds:List (aA×aA)} {ts:List (List aA×V)},(∀ kd∈kds,eQ kd.2=true)->Abq K B kds ts->Abq K B' kds ts
 | [],ts,_,h=>Ach.mpr (Ach.mp h)
 | (k,d)::r,ts,f,h=>by
  obtain⟨k',x,rr,e,ek,h1,h2⟩:=Abe.mp h
  exact Abe.mpr ⟨k',x,rr,e,ek,h1.flat xb _ (f (k,d) bM),Abq.flat xb (fun kd m=>f kd (cF _ m)) h2⟩
section
variable {F:List aD}
theorem Aie.keep (xb:Ext B B')(kp : ∀ a∈F,H' a=H a)(h:Aie K B H n d v F):Aie K B' H' n d v F:=by
 unfold Aie at h ⊢
 split at h
 ·rw[if_pos ‹_›]
  refine h.imp id fun h=>?_
  obtain⟨kds,p,ts,e1,e2,hp,rfl,f,r⟩:=h
  exact⟨kds,p,ts,e1,e2,(kp p bM).trans hp,rfl,f,r.ext xb⟩
 ·rw[if_neg ‹_›]
  exact Afo.keep xb kp h
theorem Aie.share (xb:Ext B B')(kp : ∀ a∈F,∀ o,H a=some o->B' a=some o)(h:Aie K B H n d v F):Abk K B' d v:=by
 unfold Aie at h
 split at h
 ·rcases h with⟨rfl,rfl,_⟩ | ⟨kds,p,ts,rfl,e2,hp,rfl,f,r⟩
  ·exact Abt.mpr rfl
  exact(mU).mpr ⟨p,ts,e2,kp p bM _ hp,r.ext xb⟩
 ·exact Afo.share xb kp h
theorem Aie.flat (xb : ∀ a xs,B a=some (.tup xs)->B' a=some (.tup xs))(f:gD n d=true)(h:Aie K B H n d v F):Aie K B' H n d v F:=by
 unfold Aie at h ⊢
 split at h
 ·rw[if_pos ‹_›]
  refine h.imp id fun h=>?_
  obtain⟨kds,p,ts,e1,e2,hp,rfl,f,r⟩:=h
  exact⟨kds,p,ts,e1,e2,hp,rfl,f,r.flat xb f⟩
 ·rw[if_neg ‹_›]
  exact Afo.flat xb f h
theorem Aie.nd (xb:NdX B B')(hn:n<9)(f:iH n d=true)(h:Aie K B H n d v F):Aie K B' H n d v F:=by
 unfold Aie at h ⊢
 rw[if_neg (by omega)] at h ⊢
 exact Afo.nd xb f h
theorem Aie.mut (h:Aie K B H n d v F) : ∀ a∈F,(∃ xs,H a=some (.lst xs)) \/ ∃ q:DQ,H a=some (dO q):=by
 unfold Aie at h
 split at h
 ·rcases h with⟨_,_,rfl⟩ | ⟨kds,p,ts,e1,e2,hp,rfl,f,r⟩
  ·exact fun a m=>by simp at m
  intro a m
  rw[bL.mp m]
  exact .inr ⟨.inr ts,hp⟩
 ·exact Afo.mut h
end
abbrev EF:=List (Option aA)->Option aA
abbrev BF:=List (Option aA)->Option Bool
abbrev AF:=List (Option aA)->Option (List aA)
def Am6 (K:aK)(B:Hp)(ρ:List (Option aA))(σ:St):Prop:=∀ (i:Nat) d,ρ[i]?=some (some d) -> ∃ v,σ[i]?=some (some v)/\Abk K B d v
theorem Am6.ext(h:Am6 K B ρ σ)(x:Ext B B'):Am6 K B' ρ σ:=fun i d e=>let ⟨v,h1,h2⟩:=h i d e; ⟨v,h1,h2.ext x⟩
def Res (K:aK)(P:aD->Prop)(n:Nat)(d:aA)(H:Hp)(Q:VK):Prop:=
 ∀ v H' Fr,Ext H H'->Fr.Nodup->(∀ a∈Fr,H a=none /\ ∃ o,H' a=some o)->Aie K (hid H' (orL P Fr)) H' n d v Fr->Q v H'
theorem Res.zero (h:Res K P 0 d H Q)(x:Ext H H')(r:Abk K (hid H' P) d v):Q v H':=
 h v H' [] x .nil (fun a m=>by simp at m) ⟨rfl,by rw[RJ]; exact r⟩
theorem dU (h : ∀ v H',Ext H H'->Abk K (hid H' P) d v->Q v H'):Res K P 0 d H Q:=fun v H' Fr x _ _ r=>by
 obtain⟨rfl,r⟩:=r
 rw[RJ] at r
 exact h v H' x r
theorem Res.mono (h:Res K P n d H Q)(x:Ext H H'):Res K P n d H' Q:=fun v H2 Fr x2 nd fr r=>
 h v H2 Fr (x.trans x2) nd (fun a m=>⟨x.none (fr a m).1,(fr a m).2⟩) r
theorem Res.of (hP:Hid P H)(h:Res K P 0 d H Q):Res K P n d H Q:=fun v H2 Fr x2 nd fr r=>
 h.zero x2 (r.share (iL fun a p=>.inl p) fun a m o e=>gQ (hP.new (fr a m).1) e)
theorem Res.lst{p:aD}(hP:Hid P H)(h:Res K P 1 (.list ds) H Q)(n:H p=none)(r:Aas K (hid H P) ds xs):Q (.ref p) (upd H p (.lst xs)):=by
 refine h (.ref p) _ [p] (Ext.new n) (lB.mpr ⟨by simp,.nil⟩) (fun a m=>?_) ⟨p,xs,xs.map fun _=>[],rfl,fJ,?_,?_⟩
 ·have:a=p:=by simpa using m
  subst this
  exact⟨n,_,fJ⟩
 ·have : ∀ l:List V,(l.map fun _=>([]:List aD)).flatten=[]:=fun l=>by
   induction l with
   | nil=>rfl
   | cons a l ih=>rw[dF,tP,ih]; rfl
  rw[this]
 ·have xe:Ext (hid H P) (hid (upd H p (.lst xs)) (orL P [p])):=fun b o e=>by
   obtain⟨nb,e⟩:=Ac0.mp e
   have hb:b≠p:=jK e n
   exact gQ (fun q=>q.elim nb fun m=>hb (by simpa using m)) (by rw[dJ hb]; exact e)
  generalize hid (upd H p (.lst xs)) (orL P [p])=B at xe
  generalize upd H p (.lst xs)=H1
  clear h
  have go : ∀ (ds:List aA) (xs:List V),Aas K (hid H P) ds xs->All3 (Afo K B H1 0) ds xs (xs.map fun _=>[]):=by
   intro ds
   induction ds with
   | nil=>intro xs r; rw[Aan.mp r]; exact .nil
   | cons d ds ih=>
    intro xs r
    obtain⟨y,t,rfl,h1,h2⟩:=Aah.mp r
    exact .cons ⟨rfl,h1.ext xe⟩ (ih t h2)
  exact go ds xs r
theorem Res.tup{p:aD}(hP:Hid P H)(h:Res K P 0 (.tuple ds) H Q)(n:H p=none)(r:Aas K (hid H P) ds xs):Q (.ref p) (upd H p (.tup xs)):=by
 refine h.zero (Ext.new n) (Aap.mpr ⟨p,xs,rfl,gQ (hP.new n) fJ,r.ext fun b o e=>?_⟩)
 obtain⟨nb,e⟩:=Ac0.mp e
 exact gQ nb (Ext.new n _ _ e)
def tF (K:aK)(n:Nat)(f:EF):TE:=fun σ H Q=>∃ P ρ d,Hid P H/\Am6 K (hid H P) ρ σ/\f ρ=some d/\Res K P n d H Q
def tTF (K:aK)(f:BF):TT:=fun σ H Q=>∃ P ρ b,Hid P H/\Am6 K (hid H P) ρ σ/\f ρ=some b /\ ∀ H',Ext H H'->Q b H'
def tAF (K:aK)(f:AF):TA:=fun σ H Q=>∃ P ρ ds,Hid P H/\Am6 K (hid H P) ρ σ/\f ρ=some ds /\ ∀ vs H',Ext H H'->Aas K (hid H' P) ds vs->Q vs H'
abbrev DF (n:Nat)(X:Cx)(e:aT)(f:EF):Prop:=PE X e (tF X.K n f)
abbrev DE (X:Cx)(e:aT)(f:EF):Prop:=PE X e (tF X.K 0 f)
abbrev DT (X:Cx)(e:aT)(f:BF):Prop:=PT X e (tTF X.K f)
abbrev DW (X:Cx)(e:aT)(f:BF):Prop:=PW X e (tTF X.K f)
abbrev DA (X:Cx)(es:List aT)(f:AF):Prop:=PA X es (tAF X.K f)
section
variable {a:aT}
theorem PE.imp {t t':TE}(h:PE X e t)(w : ∀ σ H Q,t' σ H Q->t σ H Q):PE X e t':=fun pins s σ H Q I q=>h pins s σ H Q I (w _ _ _ q)
theorem PT.imp {t t':TT}(h:PT X e t)(w : ∀ σ H Q,t' σ H Q->t σ H Q):PT X e t':=fun pins s σ H Q I q=>h pins s σ H Q I (w _ _ _ q)
theorem PW.imp {t t':TT}(h:PW X e t)(w : ∀ σ H Q,t' σ H Q->t σ H Q):PW X e t':=fun whole pins s σ H Q I q=>h whole pins s σ H Q I (w _ _ _ q)
theorem PA.imp {t t':TA}(h:PA X es t)(w : ∀ σ H Q,t' σ H Q->t σ H Q):PA X es t':=fun pos pins s σ H Q I q=>h pos pins s σ H Q I (w _ _ _ q)
theorem cT {f:EF}(h:DF n X e f):DE X e f:=PE.imp h fun σ H Q ⟨P,ρ,d,hP,rs,ef,k⟩=>⟨P,ρ,d,hP,rs,ef,Res.of hP k⟩
def aB (i:Nat):EF:=fun ρ=>(ρ[i]?).join
theorem VY(h:aB i ρ=some d):ρ[i]?=some (some d):=by
 unfold aB at h
 cases e:ρ[i]? with
 | none=>rw[e] at h; simp at h
 | some o=>rw[e] at h; simp at h; rw[h]
theorem aG (i:Nat)(hN:X.N[i]?=some x:=by rfl)(hv:kK X.env.scope x:=by first | exact aR rfl | exact aX (aR rfl) | exact aX (aX rfl))(hd:(x == ("__debug__" : aC))=false:=by decide)
  (hcd:(x == ("__classdict__" : aC))=false:=by decide):DE X (.Name x pos) (aB i):=PE.imp (mR hN hv hd hcd) fun σ H Q gh=>by
 obtain⟨P,ρ,d,hP,rs,ef,k⟩:=gh
 obtain⟨v,h1,h2⟩:=rs i d (VY ef)
 exact⟨v,h1,k.zero Ext.refl h2⟩
def eC (d:aA):EF:=fun _=>some d
theorem xM(h:PE X e (tC v))(hr : ∀ H,Abk X.K H d v):DE X e (eC d):=PE.imp h fun σ H Q gh=>by
 obtain⟨P,ρ,d',hP,rs,ef,k⟩:=gh
 cases ef
 exact k.zero Ext.refl (hr _)
theorem bD {i j}:DE X (.Constant (.int i) j pos) (eC (.int i)):=xM YL fun _=>Aaq.mpr rfl
theorem QD {i j}:DE X (.Constant (.bool i) j pos) (eC (.bool i)):=xM Fm fun _=>Aax.mpr rfl
theorem qE {j}:DE X (.Constant .none j pos) (eC .none):=xM YO fun _=>Abt.mpr rfl
theorem fH {i j}(h:cR (.str i)=true:=by decide +kernel):DE X (.Constant (.str i) j pos) (eC (.str i)):=xM Gk fun _=>Aa7.mpr ⟨rfl,h⟩
theorem Vi{i:Int}{u:aE}(hg:Gl X x)(hm:X.mg x=some u)(r:RelV (.int i) u)(hd:(x == ("__debug__" : aC))=false:=by decide):DE X (.Name x pos) (eC (.int i)):=xM (Mt hg hm r hd) fun _=>Aaq.mpr rfl
def aN:AF:=fun _=>some []
def aH (f:EF)(g:AF):AF:=fun ρ=>(f ρ).bind fun d=>(g ρ).bind fun ds=>some (d::ds)
theorem aS:DA X [] aN:=PA.imp oQ fun σ H Q gh=>by
 obtain⟨P,ρ,d,hP,rs,ef,k⟩:=gh
 cases ef
 exact k [] H Ext.refl (Aan.mpr rfl)
theorem aL {f:EF}{g:AF}(h1:DE X e f)(h2:DA X es g)(hs:cC (e::es) X.env=(false,bY e X.env)::cC es X.env:=by rfl):DA X (e::es) (aH f g):=
 PA.imp (lM h1 h2 hs) fun σ H Q gh=>by
  obtain⟨P,ρ,ds,hP,rs,ef,k⟩:=gh
  obtain⟨d,e1,ef⟩:=XBs ef
  obtain⟨r,e2,ef⟩:=XBs ef
  cases ef
  exact⟨P,ρ,d,hP,rs,e1,dU fun v H1 x1 r1=>⟨P,ρ,r,hP.ext x1,rs.ext (dD x1),e2,fun vs H2 x2 r2=>
   k _ _ (x1.trans x2) (Aah.mpr ⟨v,vs,rfl,r1.ext (dD x2),r2⟩)⟩⟩
def fG (g:AF):EF:=fun ρ=>(g ρ).bind fun ds=>if ds.length≤sizeLine then some (.tuple ds) else none
def fE (g:AF):EF:=fun ρ=>(g ρ).bind fun ds=>if ds.length≤sizeLine then some (.list ds) else none
theorem cX {α:Type}{c:Prop}[Decidable c]{x y:α}(h:(if c then some x else none)=some y):c/\x=y:=by
 by_cases q:c
 ·rw[if_pos q] at h; exact⟨q,eY h⟩
 ·rw[if_neg q] at h; cases h
theorem jR {g:AF}{x1}(h:DA X es g):DE X (.Tuple es x1 pos) (fG g):=PE.imp (YV h) fun σ H Q gh=>by
 obtain⟨P,ρ,d,hP,rs,ef,k⟩:=gh
 obtain⟨ds,e1,ef⟩:=XBs ef
 obtain⟨hl,rfl⟩:=cX ef
 exact⟨P,ρ,ds,hP,rs,e1,fun vs H1 x1 r1=>⟨by rw[r1.length]; exact hl,fun p hp=>(k.mono x1).tup (hP.ext x1) hp r1⟩⟩
theorem iK {g:AF}(h:DA X es g):DF 1 X (.List es pos) (fE g):=PE.imp (Jt h) fun σ H Q gh=>by
 obtain⟨P,ρ,d,hP,rs,ef,k⟩:=gh
 obtain⟨ds,e1,ef⟩:=XBs ef
 obtain⟨hl,rfl⟩:=cX ef
 exact⟨P,ρ,ds,hP,rs,e1,fun vs H1 x1 r1=>⟨by rw[r1.length]; exact hl,fun p hp=>(k.mono x1).lst (hP.ext x1) hp r1⟩⟩
def OpD (K:aK)(n:Nat)(r:R2)(g:aA->aA->Option aA):Prop:=
 ∀ (P:aD->Prop) (H:Hp) (x y:V) (a b d:aA) (Q:VK),Hid P H->Abk K (hid H P) a x->Abk K (hid H P) b y->g a b=some d->Res K P n d H Q->r x y H Q
def eOp (g:aA->aA->Option aA)(fa fb:EF):EF:=fun ρ=>(fa ρ).bind fun a=>(fb ρ).bind fun b=>g a b
theorem GK{fa fb:EF}(hg:OpD K n r g) : ∀ σ H Q,tF K n (eOp g fa fb) σ H Q->tOp r (tF K 0 fa) (tF K 0 fb) σ H Q:=fun σ H Q gh=>by
 obtain⟨P,ρ,d,hP,rs,ef,k⟩:=gh
 obtain⟨d1,e1,ef⟩:=XBs ef
 obtain⟨d2,e2,ef⟩:=XBs ef
 exact⟨P,ρ,d1,hP,rs,e1,dU fun v H1 x1 r1=>⟨P,ρ,d2,hP.ext x1,rs.ext (dD x1),e2,dU fun u H2 x2 r2=>
  hg P H2 v u d1 d2 d Q (hP.ext (x1.trans x2)) (r1.ext (dD x2)) r2 ef (k.mono (x1.trans x2))⟩⟩
theorem qB {op:Operator}{fa fb:EF}(ho:OpR X (kH op) r)(hg:OpD X.K n r g)(ha:DE X a fa)(hb:DE X b fb):DF n X (.BinOp a op b pos) (eOp g fa fb):=PE.imp (Eh ho ha hb) (GK hg)
theorem BX {op:CmpOp}{fa fb:EF}(ho:OpR X (iC op) r)(hg:OpD X.K 0 r g)(ha:DE X a fa)(hb:DE X b fb)(hm:AN op b=false):DE X (.Compare a [op] [b] pos) (eOp g fa fb):=PE.imp (Na ho ha hb hm) (GK hg)
def eUn (g:aA->Option aA)(fa:EF):EF:=fun ρ=>(fa ρ).bind g
def CallD (K:aK)(n:Nat)(r:List V->Hp->VK->Prop)(g:List aA->Option aA):Prop:=
 ∀ (P:aD->Prop) (H:Hp) (xs:List V) (ds:List aA) (d:aA) (Q:VK),Hid P H->Aas K (hid H P) ds xs->g ds=some d->Res K P n d H Q->r xs H Q
def aO (g:List aA->Option aA)(fa:AF):EF:=fun ρ=>(fa ρ).bind g
variable {r:List V->Hp->VK->Prop}{g:List aA->Option aA}{fa:AF}{id:String}
theorem jA (hc:Adz X (.builtin id) r)(hg:CallD X.K n r g)(hgl:Gl X x)(hm:X.mg x=none)(hv:lU x=some (.builtin id))(ha:DA X (e::es) fa)(hn:x ≠ "__name__":=by decide)(hdb:(x == ("__debug__" : aC))=false:=by decide)
  (he:cC (e::es) X.env=(false,bY e X.env)::cC es X.env:=by rfl) (hpl:(fX pos (cC es X.env)).any (·.1)=false:=by rfl):DF n X (.Call (.Name x p) (e::es) [] pos) (aO g fa):=
 PE.imp (TC hc hgl hm hv ha hn hdb he hpl) fun σ H Q gh=>by
  obtain⟨P,ρ,d,hP,rs,ef,k⟩:=gh
  obtain⟨d1,e1,ef⟩:=XBs ef
  exact⟨P,ρ,d1,hP,rs,e1,fun vs H1 x1 r1=>hg P H1 vs d1 d Q (hP.ext x1) r1 ef (k.mono x1)⟩
theorem jU (hc:Adz X (.type T) r)(hg:CallD X.K n r g)(hgl:Gl X x)(hm:X.mg x=none)(hv:lU x=some (.type T))(ha:DA X (e::es) fa)(hn:x ≠ "__name__":=by decide)(hdb:(x == ("__debug__" : aC))=false:=by decide)
  (he:cC (e::es) X.env=(false,bY e X.env)::cC es X.env:=by rfl) (hpl:(fX pos (cC es X.env)).any (·.1)=false:=by rfl):DF n X (.Call (.Name x p) (e::es) [] pos) (aO g fa):=
 PE.imp (JQ hc hgl hm hv ha hn hdb he hpl) fun σ H Q gh=>by
  obtain⟨P,ρ,d,hP,rs,ef,k⟩:=gh
  obtain⟨d1,e1,ef⟩:=XBs ef
  exact⟨P,ρ,d1,hP,rs,e1,fun vs H1 x1 r1=>hg P H1 vs d1 d Q (hP.ext x1) r1 ef (k.mono x1)⟩
def asB:aA->Option Bool
 | .bool b=>some b
 | _=>none
theorem CY{b:Bool}(h:asB d=some b):d = .bool b:=by
 cases d <;> simp[asB] at h
 rw[h]
def bOf (f:EF):BF:=fun ρ=>(f ρ).bind asB
theorem yA {f:EF}(h:DE X e f)(he : ∀ whole,isTrue e X.env whole=(do let v ← whole; standAt e.pos; pH [v] (truthy v)):=by intro _; rfl):DT X e (bOf f):=PT.imp (Jh h he) fun σ H Q gh=>by
 obtain⟨P,ρ,b,hP,rs,ef,k⟩:=gh
 obtain⟨d,e1,ef⟩:=XBs ef
 cases CY ef
 exact⟨P,ρ,_,hP,rs,e1,dU fun v H1 x1 r1=>⟨b,Aax.mp r1,k H1 x1⟩⟩
theorem hU {op:CmpOp}{r:R2}{g:aA->aA->Option aA}{fa fb:EF}(ho:OpR X (iC op) r)(hg:OpD X.K 0 r g)(ha:DE X a fa)(hb:DE X b fb)(hm:AN op b=false):DT X (.Compare a [op] [b] pos) (bOf (eOp g fa fb)):=
 PT.imp (Mb ho ha hb hm) fun σ H Q gh=>by
  obtain⟨P,ρ,c,hP,rs,ef,k⟩:=gh
  obtain⟨d,e1,ef⟩:=XBs ef
  cases CY ef
  exact GK hg σ H _ ⟨P,ρ,_,hP,rs,e1,dU fun v H1 x1 r1=>⟨c,Aax.mp r1,k H1 x1⟩⟩
def pF (f:BF):BF:=fun ρ=>(f ρ).bind fun b=>some (!b)
def tW (f g:BF):BF:=fun ρ=>(f ρ).bind fun b=>if b=true then g ρ else some false
def bOr (f g:BF):BF:=fun ρ=>(f ρ).bind fun b=>if b=true then some true else g ρ
variable {fB gB:BF}{rest:List aT}
theorem QG (h:DT X a fB):DT X (.UnaryOp .Not a pos) (pF fB):=PT.imp (Ht h) fun σ H Q gh=>by
 obtain⟨P,ρ,c,hP,rs,ef,k⟩:=gh
 obtain⟨b,e1,ef⟩:=XBs ef
 cases ef
 exact⟨P,ρ,b,hP,rs,e1,fun H1 x1=>k H1 x1⟩
theorem Ki (h:DT X a fB):DW X (.BoolOp .And [a] pos) fB:=Kx h
theorem Gd (h:DT X a fB):DW X (.BoolOp .Or [a] pos) fB:=Ju h
theorem Fy (h:DT X a fB)(h2:DW X (.BoolOp .And (b::rest) pos) gB):DW X (.BoolOp .And (a::b::rest) pos) (tW fB gB):=PW.imp (Jn h h2) fun σ H Q gh=>by
 obtain⟨P,ρ,c,hP,rs,ef,k⟩:=gh
 obtain⟨b,e1,ef⟩:=XBs ef
 refine⟨P,ρ,b,hP,rs,e1,fun H1 x1=>?_⟩
 cases b with
 | true=>exact rA ⟨P,ρ,c,hP.ext x1,rs.ext (dD x1),by simpa using ef,fun H2 x2=>k H2 (x1.trans x2)⟩
 | false=>
  have:false=c:=by simpa using ef
  subst this
  exact qT (k H1 x1)
theorem Fe (h:DT X a fB)(h2:DW X (.BoolOp .Or (b::rest) pos) gB):DW X (.BoolOp .Or (a::b::rest) pos) (bOr fB gB):=PW.imp (Fc h h2) fun σ H Q gh=>by
 obtain⟨P,ρ,c,hP,rs,ef,k⟩:=gh
 obtain⟨b,e1,ef⟩:=XBs ef
 refine⟨P,ρ,b,hP,rs,e1,fun H1 x1=>?_⟩
 cases b with
 | true=>
  have:true=c:=by simpa using ef
  subst this
  exact rA (k H1 x1)
 | false=>exact qT ⟨P,ρ,c,hP.ext x1,rs.ext (dD x1),by simpa using ef,fun H2 x2=>k H2 (x1.trans x2)⟩
theorem PC (h:DW X a fB):DT X a fB:=h.pt
def xO (f:EF):EF:=fun ρ=>(f ρ).bind fun d=>(asB d).bind fun b=>some (.bool (!b))
def pD (f g:EF):EF:=fun ρ=>(f ρ).bind fun d=>(asB d).bind fun b=>if b=true then g ρ else some (.bool false)
def eOr (f g:EF):EF:=fun ρ=>(f ρ).bind fun d=>(asB d).bind fun b=>if b=true then some (.bool true) else g ρ
variable {f1 f2:EF}
theorem QF {op}(h:DE X a f1):DE X (.BoolOp op [a] pos) f1:=Im h
theorem Hz (h:DE X a f1):DE X (.UnaryOp .Not a pos) (xO f1):=PE.imp (Fx h) fun σ H Q gh=>by
 obtain⟨P,ρ,c,hP,rs,ef,k⟩:=gh
 obtain⟨d,e1,ef⟩:=XBs ef
 obtain⟨b,e2,ef2⟩:=XBs ef
 clear ef
 have ef:=ef2
 clear ef2
 cases ef
 cases CY e2
 exact⟨P,ρ,_,hP,rs,e1,dU fun v H1 x1 r1=>⟨b,Aax.mp r1,k.zero x1 (Aax.mpr rfl)⟩⟩
theorem BY (h:DE X a f1)(h2:DE X (.BoolOp .And (b::rest) pos) f2):DE X (.BoolOp .And (a::b::rest) pos) (pD f1 f2):=PE.imp (Jx h h2) fun σ H Q gh=>by
 obtain⟨P,ρ,c,hP,rs,ef,k⟩:=gh
 obtain⟨d,e1,ef⟩:=XBs ef
 obtain⟨b,e2,ef2⟩:=XBs ef
 clear ef
 have ef:=ef2
 clear ef2
 cases CY e2
 refine⟨P,ρ,_,hP,rs,e1,dU fun v H1 x1 r1=>⟨b,Aax.mp r1,?_⟩⟩
 cases b with
 | true=>exact rA ⟨P,ρ,c,hP.ext x1,rs.ext (dD x1),by simpa using ef,k.mono x1⟩
 | false=>
  have:mB false=c:=by simpa using ef
  subst this
  exact qT (k.zero x1 (Aax.mpr rfl))
def eIf (t:BF)(f g:EF):EF:=fun ρ=>(t ρ).bind fun b=>if b=true then f ρ else g ρ
end
abbrev Slot:=Option (Nat×aA)
abbrev bA:=List Slot
def vS (ρ:bA):List (Option aA):=ρ.map fun s=>match s with | some (0,d)=>some d | _=>none
def vA (ρ:bA):List (Option aA):=ρ.map fun s=>s.map (·.2)
theorem Hb {ρ:bA}(h:(vS ρ)[i]?=some (some d)):ρ[i]?=some (some (0,d)):=by
 unfold vS at h
 rw[dI] at h
 cases e:ρ[i]? with
 | none=>rw[e] at h; simp at h
 | some s=>
  rw[e] at h
  simp only[wQ,FC] at h
  cases s with
  | none=>simp at h
  | some q=>
   obtain⟨n,d'⟩:=q
   cases n with
   | zero=>simp at h; rw[h]
   | succ n=>simp at h
theorem Ft {ρ:bA}(h:(vA ρ)[i]?=some (some d)) : ∃ n,ρ[i]?=some (some (n,d)):=by
 unfold vA at h
 rw[dI] at h
 cases e:ρ[i]? with
 | none=>rw[e] at h; simp at h
 | some s=>
  rw[e] at h
  cases s with
  | none=>simp at h
  | some q=>
   obtain⟨n,d'⟩:=q
   simp at h
   exact⟨n,by rw[h]⟩
abbrev Hd (P0:aD->Prop)(fp:Nat->List aD):aD->Prop:=fun a=>P0 a \/ ∃ i,a∈fp i
structure Sta (K:aK)(H0:Hp)(P0:aD->Prop)(B0:Hp)(ρ:bA)(σ:St)(H:Hp)(fp:Nat->List aD):Prop where
 len:σ.length=ρ.length
 nd : ∀ i,(fp i).Nodup
 dj : ∀ i j a,a∈fp i->a∈fp j->i=j
 own : ∀ i a,a∈fp i->H0 a=none/\((∃ xs,H a=some (.lst xs)) \/ ∃ q:DQ,H a=some (dO q))
 ext:Ext H0 H
 hd:Hid P0 H0
 base:Ext B0 (hid H (Hd P0 fp))
 slot : ∀ (i:Nat) n d,ρ[i]?=some (some (n,d)) -> ∃ v,σ[i]?=some (some v)/\Aie K (hid H (Hd P0 fp)) H n d v (fp i)
section
variable {ρ:bA}
theorem Sta.hid (S:Sta K H0 P0 B0 ρ σ H fp):Hid (Hd P0 fp) H:=fun a h=>by
 rcases h with h | ⟨i,h⟩
 ·exact S.hd.ext S.ext a h
 ·exact(S.own i a h).2
theorem Sta.np (S:Sta K H0 P0 B0 ρ σ H fp)(m:a∈fp i) : ¬ P0 a:=S.hd.new (S.own i a m).1
theorem Sta.grow (S:Sta K H0 P0 B0 ρ σ H fp)(x:Ext H H'):Sta K H0 P0 B0 ρ σ H' fp:=by
 refine⟨S.len,S.nd,S.dj,fun i a m=>⟨(S.own i a m).1,(S.own i a m).2.imp (fun⟨xs,e⟩=>⟨xs,x _ _ e⟩) fun⟨xs,e⟩=>⟨xs,x _ _ e⟩⟩,S.ext.trans x,S.hd,S.base.trans (dD x),fun i n d e=>?_⟩
 obtain⟨v,h1,h2⟩:=S.slot i n d e
 refine⟨v,h1,h2.keep (dD x) fun a m=>?_⟩
 rcases(S.own i a m).2 with⟨xs,e⟩ | ⟨xs,e⟩
 ·rw[e,x _ _ e]
 ·rw[e,x _ _ e]
theorem Sta.viewS (S:Sta K H0 P0 B0 ρ σ H fp):Am6 K (L2.hid H (Hd P0 fp)) (vS ρ) σ:=fun i d e=>by
 obtain⟨v,h1,h2⟩:=S.slot i 0 d (Hb e)
 exact⟨v,h1,h2.2⟩
theorem Sta.viewA (S:Sta K H0 P0 B0 ρ σ H fp):Am6 K (L2.hid H P0) (vA ρ) σ:=fun i d e=>by
 obtain⟨n,e⟩:=Ft e
 obtain⟨v,h1,h2⟩:=S.slot i n d e
 exact⟨v,h1,h2.share (iL fun a p=>.inl p) fun a m o e=>gQ (S.np m) e⟩
def Tmp (K:aK)(H0:Hp)(P0:aD->Prop)(B0:Hp)(ρ:bA)(σ:St)(n:Nat)(d:aA)(v:V)(H:Hp):Prop:=
 ∃ fp,Sta K H0 P0 B0 ρ σ H fp/\Aie K (L2.hid H (Hd P0 fp)) H n d v (fp ρ.length)
inductive Md | s | a
def tV (ρ:bA):Bool:=ρ.all fun s=>match s with
 | some (0,_)=>true
 | some (1,.dict _)=>true
 | none=>true
 | _=>false
def qW (ρ:bA):Bool:=ρ.all fun s=>match s with
 | some (9,_)=>false
 | _=>true
def eV (n:Nat)(m:Md)(f:EF)(ρ:bA):Option aA:=match m with
 | .s=>f (vS ρ)
 | .a=>(f (vA ρ)).bind fun d=>if (gD n d||(tV ρ&&decide (n<9)&&iH n d)||(qW ρ&&decide (n=0)&&ftD d))=true then some d else none
def bV (m:Md)(f:BF)(ρ:bA):Option Bool:=match m with
 | .s=>f (vS ρ)
 | .a=>f (vA ρ)
def aV (m:Md)(f:AF)(ρ:bA):Option (List aA):=match m with
 | .s=>f (vS ρ)
 | .a=>f (vA ρ)
def tE (K:aK)(H0:Hp)(P0:aD->Prop)(n:Nat)(m:Md)(f:EF):TE:=fun σ H Q=>∃ B0 ρ fp d,Sta K H0 P0 B0 ρ σ H fp/\eV n m f ρ=some d /\ ∀ v H',Tmp K H0 P0 B0 ρ σ n d v H'->Q v H'
end
theorem Sta.trim{ρ:bA}(S:Sta K H0 P0 B0 ρ σ H fp) : ∃ fp',Sta K H0 P0 B0 ρ σ H fp' /\ ∀ i a,a∈fp' i->a∈fp i /\ ∃ n d,ρ[i]?=some (some (n,d)):=by
 let fp':Nat->List aD:=fun i=>match ρ[i]? with
  | some (some _)=>fp i
  | _=>[]
 have sub : ∀ i a,a∈fp' i->a∈fp i /\ ∃ n d,ρ[i]?=some (some (n,d)):=fun i a m=>by
  have m:a∈(match ρ[i]? with | some (some _)=>fp i | _=>[]):=m
  split at m
  ·rename_i x e
   exact⟨m,x.1,x.2,e⟩
  ·simp at m
 have same : ∀ i n d,ρ[i]?=some (some (n,d))->fp' i=fp i:=fun i n d e=>by
  show(match ρ[i]? with | some (some _)=>fp i | _=>[])=fp i
  rw[e]
 have xb:Ext (L2.hid H (Hd P0 fp)) (L2.hid H (Hd P0 fp')):=iL fun a h=>h.imp id fun⟨i,m⟩=>⟨i,(sub i a m).1⟩
 refine⟨fp',⟨S.len,fun i=>?_,fun i j a h1 h2=>S.dj i j a (sub i a h1).1 (sub j a h2).1,fun i a m=>S.own i a (sub i a m).1,S.ext,S.hd,S.base.trans xb,fun i n d e=>?_⟩,sub⟩
 ·show(match ρ[i]? with | some (some _)=>fp i | _=>[]).Nodup
  split
  ·exact S.nd i
  ·exact pP
 ·obtain⟨v,h1,h2⟩:=S.slot i n d e
  rw[same i n d e]
  exact⟨v,h1,h2.keep xb fun a m=>rfl⟩
theorem Sta.dicts{ρ:bA}(S:Sta K H0 P0 B0 ρ σ H fp)(ho:tV ρ=true){n:Nat}(m:a∈fp i)(e:ρ[i]?=some (some (n,d))) : ∃ q,H a=some (dO (.inl q)):=by
 have:=fA.mp ho _ (fK e)
 obtain⟨v,h1,h2⟩:=S.slot i n d e
 split at this
 ·rename_i z
  cases z
  rw[h2.1] at m
  simp at m
 ·rename_i kds z
  cases z
  obtain⟨p,xs,Fs,_,hp,hF,h3⟩:=h2
  have hn : ∀ {ds:List (aA×aA)} {ys:List (aI×V)} {Gs:List (List aD)},All3 (fun(kd:aA×aA) (kv:aI×V) f=>kd.1=kD kv.1/\Afo K (L2.hid H (Hd P0 fp)) H 0 kd.2 kv.2 f) ds ys Gs->Gs.flatten=[]:=fun q=>by
   induction q with
   | nil=>rfl
   | cons h _ ih=>rw[tP,h.2.1,ih]; rfl
  rw[hF,hn h3] at m
  rw[bL.mp m]
  exact⟨xs,hp⟩
 ·rename_i z
  cases z
 ·cases this
theorem Sta.no9{ρ:bA}(S:Sta K H0 P0 B0 ρ σ H fp)(ho:qW ρ=true){n:Nat}(m:a∈fp i)(e:ρ[i]?=some (some (n,d))) : ∀ q,H a≠some (dO (.inr q)):=fun q z=>by
 have:=fA.mp ho _ (fK e)
 have n9:n≠9:=fun w=>by subst w; simp at this
 obtain⟨v,h1,h2⟩:=S.slot i n d e
 unfold Aie at h2
 rw[if_neg n9] at h2
 rcases h2.mut1 a m with⟨xs,w⟩ | ⟨p,w⟩ <;> rw[z] at w <;> cases w
theorem OT{f:EF}(m:Md) : ∀ σ H Q,tE K H0 P0 n m f σ H Q->tF K n f σ H Q:=fun σ H Q gh=>by
 obtain⟨B0,ρ,fp,d,S,ef,k⟩:=gh
 cases m with
 | s=>
  refine⟨Hd P0 fp,vS ρ,d,S.hid,S.viewS,ef,fun v H' Fr x nd fr r=>k v H' ?_⟩
  have S':=S.grow x
  have hsub : ∀ a,Hd P0 (fun i=>if i=ρ.length then Fr else fp i) a->orL (Hd P0 fp) Fr a:=fun a h=>by
   rcases h with h | ⟨i,h⟩
   ·exact .inl (.inl h)
   ·by_cases hi:i=ρ.length
    ·simp only[hi,if_true] at h; exact .inr h
    ·simp only[hi,if_false] at h; exact .inl (.inr ⟨i,h⟩)
  have nfr : ∀ i a,a∈fp i->a∉Fr:=fun i a h1 h2=>by
   have:=(fr a h2).1
   rcases(S.own i a h1).2 with⟨xs,e⟩ | ⟨xs,e⟩ <;> rw[this] at e <;> first | cases e | (cases xs <;> simp[dO] at e)
  have xb:Ext (L2.hid H (Hd P0 fp)) (L2.hid H' (Hd P0 fun i=>if i=ρ.length then Fr else fp i)):=fun b o e=>by
   obtain⟨nb,e⟩:=Ac0.mp e
   refine gQ (fun q=>?_) (x _ _ e)
   rcases q with q | ⟨j,q⟩
   ·exact nb (.inl q)
   ·by_cases hj:j=ρ.length
    ·simp only[hj,if_true] at q; rw[(fr b q).1] at e; cases e
    ·simp only[hj,if_false] at q; exact nb (.inr ⟨j,q⟩)
  refine⟨fun i=>if i=ρ.length then Fr else fp i,⟨S.len,fun i=>?_,fun i j a hi hj=>?_,fun i a hi=>?_,S'.ext,S.hd,S.base.trans xb,fun i n' d' e'=>?_⟩,?_⟩
  ·by_cases hi:i=ρ.length
   ·simp only[hi,if_true]; exact nd
   ·simp only[hi,if_false]; exact S.nd i
  ·by_cases h1:i=ρ.length <;> by_cases h2:j=ρ.length
   ·rw[h1,h2]
   ·simp only[h1,if_true] at hi; simp only[h2,if_false] at hj; exact absurd hi (nfr _ _ hj)
   ·simp only[h1,if_false] at hi; simp only[h2,if_true] at hj; exact absurd hj (nfr _ _ hi)
   ·simp only[h1,if_false] at hi; simp only[h2,if_false] at hj; exact S.dj i j a hi hj
  ·by_cases h1:i=ρ.length
   ·simp only[h1,if_true] at hi
    exact⟨S.ext.none (fr a hi).1,r.mut a hi⟩
   ·simp only[h1,if_false] at hi
    exact S'.own i a hi
  ·have hlt:i<ρ.length:=(dR.mp e').1
   have h1:i≠ρ.length:=by omega
   obtain⟨v',q1,q2⟩:=S'.slot i n' d' e'
   refine⟨v',q1,?_⟩
   simp only[h1,if_false]
   obtain⟨v2,p1,p2⟩:=S.slot i n' d' e'
   have ev:v2=v':=eY (eY (p1.symm.trans q1))
   subst ev
   refine p2.keep xb fun a m=>?_
   rcases(S.own i a m).2 with⟨xs,e⟩ | ⟨xs,e⟩
   ·rw[e,x _ _ e]
   ·rw[e,x _ _ e]
  ·simp only[if_true]
   exact r.keep (iL hsub) fun a m=>rfl
 | a=>
  obtain⟨d',ed,ef⟩:=XBs ef
  obtain⟨fl,rfl⟩:=cX ef
  obtain⟨fp,S,trm⟩:=S.trim
  refine⟨P0,vA ρ,d',S.hd.ext S.ext,S.viewA,ed,fun v H' Fr x nd fr r=>k v H' ?_⟩
  have S':=S.grow x
  have nfr : ∀ i a,a∈fp i->a∉Fr:=fun i a h1 h2=>by
   have:=(fr a h2).1
   rcases(S.own i a h1).2 with⟨xs,e⟩ | ⟨xs,e⟩ <;> rw[this] at e <;> first | cases e | (cases xs <;> simp[dO] at e)
  have xb:Ext (L2.hid H (Hd P0 fp)) (L2.hid H' (Hd P0 fun i=>if i=ρ.length then Fr else fp i)):=fun b o e=>by
   obtain⟨nb,e⟩:=Ac0.mp e
   refine gQ (fun q=>?_) (x _ _ e)
   rcases q with q | ⟨j,q⟩
   ·exact nb (.inl q)
   ·by_cases hj:j=ρ.length
    ·simp only[hj,if_true] at q; rw[(fr b q).1] at e; cases e
    ·simp only[hj,if_false] at q; exact nb (.inr ⟨j,q⟩)
  refine⟨fun i=>if i=ρ.length then Fr else fp i,⟨S.len,fun i=>?_,fun i j a hi hj=>?_,fun i a hi=>?_,S'.ext,S.hd,S.base.trans xb,fun i n' d' e'=>?_⟩,?_⟩
  ·by_cases hi:i=ρ.length
   ·simp only[hi,if_true]; exact nd
   ·simp only[hi,if_false]; exact S.nd i
  ·by_cases h1:i=ρ.length <;> by_cases h2:j=ρ.length
   ·rw[h1,h2]
   ·simp only[h1,if_true] at hi; simp only[h2,if_false] at hj; exact absurd hi (nfr _ _ hj)
   ·simp only[h1,if_false] at hi; simp only[h2,if_true] at hj; exact absurd hj (nfr _ _ hi)
   ·simp only[h1,if_false] at hi; simp only[h2,if_false] at hj; exact S.dj i j a hi hj
  ·by_cases h1:i=ρ.length
   ·simp only[h1,if_true] at hi
    exact⟨S.ext.none (fr a hi).1,r.mut a hi⟩
   ·simp only[h1,if_false] at hi
    exact S'.own i a hi
  ·have hlt:i<ρ.length:=(dR.mp e').1
   have h1:i≠ρ.length:=by omega
   obtain⟨v2,p1,p2⟩:=S.slot i n' d' e'
   refine⟨v2,p1,?_⟩
   simp only[h1,if_false]
   refine p2.keep xb fun a m=>?_
   rcases(S.own i a m).2 with⟨xs,e⟩ | ⟨xs,e⟩
   ·rw[e,x _ _ e]
   ·rw[e,x _ _ e]
  ·simp only[if_true]
   have up : ∀ a o,(L2.hid H' (orL P0 Fr)) a=some o->((∃ xs,o = .tup xs) \/ (tV ρ=true /\ ∀ q,o≠dO (.inl q)) \/ (qW ρ=true /\ ∃ q,o=dO (.inr q)))->(L2.hid H' (Hd P0 fun i=>if i=ρ.length then Fr else fp i)) a=some o:=fun a o e ho=>by
    obtain⟨na,e⟩:=Ac0.mp e
    refine gQ (fun q=>?_) e
    rcases q with q | ⟨j,q⟩
    ·exact na (.inl q)
    ·by_cases hj:j=ρ.length
     ·simp only[hj,if_true] at q; exact na (.inr q)
     ·simp only[hj,if_false] at q
      rcases ho with⟨xs,rfl⟩ | ⟨ho,hq⟩ | ⟨ho,qq,rfl⟩
      ·rcases(S'.own j a q).2 with⟨ys,e2⟩ | ⟨ys,e2⟩ <;> rw[e] at e2 <;> first | cases e2 | (cases ys <;> simp[dO] at e2)
      ·obtain⟨_,n',d',e'⟩:=trm j a q
       obtain⟨z,ez⟩:=S'.dicts ho q e'
       rw[e] at ez
       injection ez with ez
       exact hq z ez
      ·obtain⟨_,n',d',e'⟩:=trm j a q
       exact absurd e (S'.no9 ho q e' qq)
   rcases Cr.mp fl with fl | fl3
   rcases Cr.mp fl with fl | fl
   ·exact r.flat (fun a xs e=>up a _ e (.inl ⟨xs,rfl⟩)) fl
   ·have fl:=iU.mp fl
    have fl1:=iU.mp fl.1
    exact r.nd (fun a o e hq=>up a o e (.inr (.inl ⟨fl1.1,hq⟩))) (of_decide_eq_true fl1.2) fl.2
   ·have fl:=iU.mp fl3
    have fl1:=iU.mp fl.1
    have z:n=0:=of_decide_eq_true fl1.2
    subst z
    exact⟨r.1,r.2.ft (fun a o e hq=>up a o e (hq.imp id fun hq=>.inr ⟨fl1.1,hq⟩)) _ fl.2⟩
theorem ev {f:EF}(m:Md)(h:DF n X e f):PE X e (tE X.K H0 P0 n m f):=PE.imp h (OT m)
def tB' (K:aK)(H0:Hp)(P0:aD->Prop)(m:Md)(f:BF):TT:=fun σ H Q=>∃ B0 ρ fp b,Sta K H0 P0 B0 ρ σ H fp/\bV m f ρ=some b /\ ∀ H',Sta K H0 P0 B0 ρ σ H' fp->Q b H'
theorem evB {f:BF}(m:Md)(h:DT X e f):PT X e (tB' X.K H0 P0 m f):=PT.imp h fun σ H Q gh=>by
 obtain⟨B0,ρ,fp,b,S,ef,k⟩:=gh
 cases m with
 | s=>exact⟨Hd P0 fp,vS ρ,b,S.hid,S.viewS,ef,fun H' x=>k H' (S.grow x)⟩
 | a=>exact⟨P0,vA ρ,b,S.hd.ext S.ext,S.viewA,ef,fun H' x=>k H' (S.grow x)⟩
inductive Out where
 | nx (ρ:bA) | rt (d:aA) | bk (ρ:bA) | ct (ρ:bA)
abbrev SF:=bA->Option Out
def OK (K:aK)(H0:Hp)(P0:aD->Prop)(n0:Nat)(d:aA)(v:V)(H':Hp):Prop:=
 ∃ Fr,Ext H0 H'/\Fr.Nodup/\(∀ a∈Fr,H0 a=none /\ ∃ o,H' a=some o)/\Aie K (hid H' (orL P0 Fr)) H' n0 d v Fr
def Ew (K:aK)(H0:Hp)(P0:aD->Prop)(B0:Hp)(n0:Nat)(D:Ends):Out->Prop
 | .nx ρ=>∀ σ H fp,Sta K H0 P0 B0 ρ σ H fp->D.nx σ H
 | .bk ρ=>∀ σ H fp,Sta K H0 P0 B0 ρ σ H fp->D.bk σ H
 | .ct ρ=>∀ σ H fp,Sta K H0 P0 B0 ρ σ H fp->D.ct σ H
 | .rt d=>∀ v H',OK K H0 P0 n0 d v H'->D.rt v H'
def tS (K:aK)(H0:Hp)(P0:aD->Prop)(n0:Nat)(F:SF):TS:=fun D σ H=>∃ B0 ρ fp o,Sta K H0 P0 B0 ρ σ H fp/\F ρ=some o/\Ew K H0 P0 B0 n0 D o
abbrev DS (X:Cx)(H0:Hp)(P0:aD->Prop)(n0:Nat)(s:cB)(F:SF):Prop:=PS X s (tS X.K H0 P0 n0 F)
abbrev DSs (X:Cx)(H0:Hp)(P0:aD->Prop)(n0:Nat)(s:List cB)(F:SF):Prop:=PSs X s (tS X.K H0 P0 n0 F)
section
variable {s:cB}{ss:List cB}{F G:SF}{f:EF}
theorem PS.imp {t t':TS}(h:PS X s t)(w : ∀ D σ H,t' D σ H->t D σ H):PS X s t':=fun pins st σ H D I q=>h pins st σ H D I (w _ _ _ q)
theorem PSs.imp {t t':TS}(h:PSs X ss t)(w : ∀ D σ H,t' D σ H->t D σ H):PSs X ss t':=fun pins st σ H D I q=>h pins st σ H D I (w _ _ _ q)
def gY:SF:=fun ρ=>some (.nx ρ)
def bB (F G:SF):SF:=fun ρ=>(F ρ).bind fun o=>match o with
 | .nx ρ'=>G ρ'
 | o=>some o
theorem kS:DSs X H0 P0 n0 [] gY:=PSs.imp Ms fun D σ H gh=>by
 obtain⟨B0,ρ,fp,o,S,ef,k⟩:=gh
 cases ef
 exact k σ H fp S
theorem bN (h:DS X H0 P0 n0 s F):DSs X H0 P0 n0 [s] F:=Nv h
theorem bK (h:DS X H0 P0 n0 s F)(h2:DSs X H0 P0 n0 ss G):DSs X H0 P0 n0 (s::ss) (bB F G):=PSs.imp (Wi h h2) fun D σ H gh=>by
 obtain⟨B0,ρ,fp,o,S,ef,k⟩:=gh
 obtain⟨o1,e1,ef⟩:=XBs ef
 refine⟨B0,ρ,fp,o1,S,e1,?_⟩
 cases o1 with
 | nx ρ1=>exact fun σ1 H1 fp1 S1=>⟨B0,ρ1,fp1,o,S1,ef,k⟩
 | rt d=>cases ef; exact k
 | bk ρ1=>cases ef; exact k
 | ct ρ1=>cases ef; exact k
def sIf (m:Md)(t:BF)(F G:SF):SF:=fun ρ=>(bV m t ρ).bind fun b=>if b=true then F ρ else G ρ
theorem jF{a b:List cB}{t:BF}(m:Md)(hc:DT X c t)(ha:DSs X H0 P0 n0 a F)(hb:DSs X H0 P0 n0 b G):DS X H0 P0 n0 (.If c a b pos) (sIf m t F G):=
 PS.imp (Ey (evB (H0:=H0) (P0:=P0) m hc) ha hb) fun D σ H gh=>by
  obtain⟨B0,ρ,fp,o,S,ef,k⟩:=gh
  obtain⟨b,e1,ef⟩:=XBs ef
  refine⟨B0,ρ,fp,b,S,e1,fun H1 S1=>?_⟩
  cases b with
  | true=>exact rA ⟨B0,ρ,fp,o,S1,by simpa using ef,k⟩
  | false=>exact qT ⟨B0,ρ,fp,o,S1,by simpa using ef,k⟩
def frz (i:Nat)(ρ:bA):bA:=match ρ[i]? with
 | some (some (_,d))=>ρ.set i (some (0,d))
 | _=>ρ
theorem Sta.frz{ρ:bA}(S:Sta K H0 P0 B0 ρ σ H fp)(i:Nat) : ∃ fp',Sta K H0 P0 B0 (L2.frz i ρ) σ H fp':=by
 unfold L2.frz
 cases e:ρ[i]? with
 | none=>exact⟨fp,S⟩
 | some s=>
  cases s with
  | none=>exact⟨fp,S⟩
  | some q=>
   obtain⟨n,d⟩:=q
   have hi:i<ρ.length:=(dR.mp e).1
   have hsub : ∀ a,Hd P0 (fun j=>if j=i then [] else fp j) a->Hd P0 fp a:=fun a h=>by
    rcases h with h | ⟨j,h⟩
    ·exact .inl h
    ·by_cases hj:j=i
     ·simp only[hj,if_true] at h; simp at h
     ·simp only[hj,if_false] at h; exact .inr ⟨j,h⟩
   refine⟨fun j=>if j=i then [] else fp j,⟨by simp[S.len],fun j=>?_,fun j k a h1 h2=>?_,fun j a h1=>?_,S.ext,S.hd,S.base.trans (iL hsub),fun j n' d' e'=>?_⟩⟩
   ·by_cases hj:j=i
    ·simp only[hj,if_true]; exact .nil
    ·simp only[hj,if_false]; exact S.nd j
   ·by_cases hj:j=i
    ·simp only[hj,if_true] at h1; simp at h1
    ·by_cases hk:k=i
     ·simp only[hk,if_true] at h2; simp at h2
     ·simp only[hj,if_false] at h1; simp only[hk,if_false] at h2; exact S.dj j k a h1 h2
   ·by_cases hj:j=i
    ·simp only[hj,if_true] at h1; simp at h1
    ·simp only[hj,if_false] at h1; exact S.own j a h1
   ·by_cases hj:j=i
    ·subst hj
     rw[rJ hi] at e'
     cases e'
     obtain⟨v,h1,h2⟩:=S.slot j n d e
     refine⟨v,h1,?_⟩
     simp only[if_true]
     refine⟨rfl,h2.share (iL hsub) fun a m o q=>gQ (fun z=>?_) q⟩
     rcases z with z | ⟨k,z⟩
     ·exact S.np m z
     ·by_cases hk:k=j
      ·simp only[hk,if_true] at z; simp at z
      ·simp only[hk,if_false] at z; exact hk (S.dj k j a z m)
    ·rw[nE (fun z=>hj z.symm)] at e'
     obtain⟨v,h1,h2⟩:=S.slot j n' d' e'
     refine⟨v,h1,?_⟩
     simp only[hj,if_false]
     exact h2.keep (iL hsub) fun a m=>rfl
def lD (i:Nat)(F:SF):SF:=fun ρ=>F (frz i ρ)
theorem qL (i:Nat)(h:DSs X H0 P0 n0 ss F):DSs X H0 P0 n0 ss (lD i F):=PSs.imp h fun D σ H ⟨B0,ρ,fp,o,S,ef,k⟩=>let ⟨fp',S'⟩:=S.frz i; ⟨B0,_,fp',o,S',ef,k⟩
theorem Tmp.set{ρ:bA}(t:Tmp K H0 P0 B0 ρ σ n d v H)(hi:i<ρ.length) : ∃ fp,Sta K H0 P0 B0 (ρ.set i (some (n,d))) (σ.set i (some v)) H fp:=by
 obtain⟨fp,S,r⟩:=t
 have hne:ρ.length≠i:=by omega
 have hsub : ∀ a,Hd P0 (fun j=>if j=i then fp ρ.length else if j=ρ.length then [] else fp j) a->Hd P0 fp a:=fun a h=>by
  rcases h with h | ⟨j,h⟩
  ·exact .inl h
  ·by_cases hj:j=i
   ·simp only[hj,if_true] at h; exact .inr ⟨_,h⟩
   ·by_cases hk:j=ρ.length
    ·simp only[hj,if_false,hk,if_true] at h
     rw[if_neg hne] at h
     simp at h
    ·simp only[hj,if_false,hk] at h; exact .inr ⟨j,h⟩
 have src : ∀ j a,a∈(if j=i then fp ρ.length else if j=ρ.length then [] else fp j)->(j=i/\a∈fp ρ.length) \/ (j≠i/\j≠ρ.length/\a∈fp j):=fun j a h=>by
  by_cases hj:j=i
  ·simp only[hj,if_true] at h; exact .inl ⟨hj,h⟩
  ·by_cases hk:j=ρ.length
   ·rw[if_neg hj,if_pos hk] at h; simp at h
   ·rw[if_neg hj,if_neg hk] at h; exact .inr ⟨hj,hk,h⟩
 refine⟨fun j=>if j=i then fp ρ.length else if j=ρ.length then [] else fp j,⟨by simp[S.len],fun j=>?_,fun j k a h1 h2=>?_,fun j a h1=>?_,S.ext,S.hd,S.base.trans (iL hsub),fun j n' d' e'=>?_⟩⟩
 ·by_cases hj:j=i
  ·rw[if_pos hj]; exact S.nd _
  ·by_cases hk:j=ρ.length
   ·rw[if_neg hj,if_pos hk]; exact .nil
   ·rw[if_neg hj,if_neg hk]; exact S.nd _
 ·rcases src j a h1 with⟨e1,m1⟩ | ⟨e1,l1,m1⟩ <;> rcases src k a h2 with⟨e2,m2⟩ | ⟨e2,l2,m2⟩
  ·rw[e1,e2]
  ·exact absurd (S.dj _ _ a m2 m1) l2
  ·exact absurd (S.dj _ _ a m1 m2) l1
  ·exact S.dj j k a m1 m2
 ·rcases src j a h1 with⟨e1,m1⟩ | ⟨e1,l1,m1⟩
  ·exact S.own _ a m1
  ·exact S.own _ a m1
 ·by_cases hj:j=i
  ·subst hj
   rw[rJ hi] at e'
   cases e'
   refine⟨v,?_,?_⟩
   ·rw[rJ (by rw[S.len]; exact hi)]
   ·rw[if_pos rfl]
    exact r.keep (iL hsub) fun a m=>rfl
  ·rw[nE (fun z=>hj z.symm)] at e'
   have hlt:j<ρ.length:=(dR.mp e').1
   have hk:j≠ρ.length:=by omega
   obtain⟨v',h1,h2⟩:=S.slot j n' d' e'
   refine⟨v',?_,?_⟩
   ·rw[nE (fun z=>hj z.symm)]; exact h1
   ·rw[if_neg hj,if_neg hk]
    exact h2.keep (iL hsub) fun a m=>rfl
def bP (i n:Nat)(m:Md)(f:EF):SF:=fun ρ=>(eV n m f ρ).bind fun d=>if i<ρ.length then some (.nx (ρ.set i (some (n,d)))) else none
theorem cH{pos':bZ}(n:Nat)(m:Md)(hN:X.N.Nodup)(hi:X.N[i]?=some x)(hx:kA X.env.scope x)(he:DF n X e f)(hs:mZ e (some (.Name x pos')) pos.line X.env=pure false:=by rfl)(hf:X.fn x=true \/ X.env.scope.names.lookup x=some .local:=by first | exact .inl rfl | exact .inr rfl | assumption) :
  DS X H0 P0 n0 (.Assign [.Name x pos'] e pos) (bP i n m f):=PS.imp (YS hN hi hx (ev (H0:=H0) (P0:=P0) m he) hs hf) fun D σ H gh=>by
 obtain⟨B0,ρ,fp,o,S,ef,k⟩:=gh
 obtain⟨d,e1,ef⟩:=XBs ef
 obtain⟨hl,rfl⟩:=cX ef
 refine⟨B0,ρ,fp,d,S,e1,fun v H' t=>?_⟩
 obtain⟨fp',S'⟩:=t.set hl
 exact k _ _ fp' S'
theorem Tmp.ret{ρ:bA}(t:Tmp K H0 P0 B0 ρ σ n d v H):OK K H0 P0 n d v H:=by
 obtain⟨fp,S,r⟩:=t
 refine⟨fp ρ.length,S.ext,S.nd _,fun a m=>⟨(S.own _ a m).1,?_⟩,r.keep (iL fun a h=>?_) fun a m=>rfl⟩
 ·rcases(S.own _ a m).2 with⟨xs,e⟩ | ⟨xs,e⟩
  ·exact⟨_,e⟩
  ·exact⟨_,e⟩
 ·rcases h with h | h
  ·exact .inl h
  ·exact .inr ⟨_,h⟩
def dB (n:Nat)(m:Md)(f:EF):SF:=fun ρ=>(eV n m f ρ).bind fun d=>some (.rt d)
theorem eF (m:Md)(he:DF n0 X e f):DS X H0 P0 n0 (.Return (some e) pos) (dB n0 m f):=PS.imp (BV (ev (H0:=H0) (P0:=P0) m he)) fun D σ H gh=>by
 obtain⟨B0,ρ,fp,o,S,ef,k⟩:=gh
 obtain⟨d,e1,ef⟩:=XBs ef
 cases ef
 exact⟨B0,ρ,fp,d,S,e1,fun v H' t=>k v H' t.ret⟩
def kQ (i n0:Nat):SF:=fun ρ=>match ρ[i]? with
 | some (some (n,d))=>if n=n0 then some (.rt d) else none
 | _=>none
theorem CP (i:Nat)(hN:X.N[i]?=some x:=by rfl)(hv:kK X.env.scope x:=by first | exact aR rfl | exact aX (aR rfl) | exact aX (aX rfl))(hd:(x == ("__debug__" : aC))=false:=by decide)
  (hcd:(x == ("__classdict__" : aC))=false:=by decide):DS X H0 P0 n0 (.Return (some (.Name x p)) pos) (kQ i n0):=PS.imp (BV (mR hN hv hd hcd)) fun D σ H gh=>by
 obtain⟨B0,ρ,fp,o,S,ef,k⟩:=gh
 unfold kQ at ef
 cases e:ρ[i]? with
 | none=>rw[e] at ef; simp at ef
 | some q=>
  cases q with
  | none=>rw[e] at ef; simp at ef
  | some q=>
   obtain⟨n,d⟩:=q
   rw[e] at ef
   obtain⟨rfl,rfl⟩:=cX ef
   obtain⟨v,h1,h2⟩:=S.slot i n d e
   refine⟨v,h1,k v H ⟨fp i,S.ext,S.nd i,fun a m=>⟨(S.own i a m).1,?_⟩,h2.keep (iL fun a h=>?_) fun a m=>rfl⟩⟩
   ·rcases(S.own i a m).2 with⟨xs,e⟩ | ⟨xs,e⟩
    ·exact⟨_,e⟩
    ·exact⟨_,e⟩
   ·rcases h with h | h
    ·exact .inl h
    ·exact .inr ⟨_,h⟩
def qA (m:Md)(f:EF):SF:=fun ρ=>(eV 0 m f ρ).bind fun _=>some (.nx ρ)
theorem HS (m:Md)(he:DE X e f)(hs:mZ e none pos.line X.env=pure false:=by rfl):DS X H0 P0 n0 (.Expr e pos) (qA m f):=PS.imp (HM (ev (H0:=H0) (P0:=P0) m he) hs) fun D σ H gh=>by
 obtain⟨B0,ρ,fp,o,S,ef,k⟩:=gh
 obtain⟨d,e1,ef⟩:=XBs ef
 cases ef
 refine⟨B0,ρ,fp,d,S,e1,fun v H' ⟨fp',S',r⟩=>k _ _ fp' S'⟩
end
theorem Sz:Adz X (.builtin "isinstance") (fun xs H Q=>∃ x T t b,xs=[x,.ty T]/\TyOf X.K H x t/\Bd X.K t (.type T)=some b/\Q (.bl b) H):=by
 intro pins s σ H xs us Q I r h
 obtain⟨x,T,t,b,rfl,ty,e,q⟩:=h
 obtain⟨u,w',rfl,ru,rw'⟩:=vals2 r
 cases rw'
 exact Pt I ru ty e fun tk=>⟨.bl b,H,I.tok tk,rfl,q⟩
def BM (x:aC):It:=⟨fun i _=>i<x.cps.size,fun i H v H'=>H'=H /\ ∃ c,x.cps[i]?=some c/\v = .str ⟨#[c]⟩,fun i _=>x.cps.size≤i⟩
theorem VS {P:bT}{it:aD}{tk0:Tok}{ty:String}
  (W : ∀ A':cM,A'.handled=none->Walks P w A' it [it] [it] x.cps.size (SignAt x) (fun i h=>h.IsStrIter it ty x tk0 i))
  (sf : ∀ (A:cM) (i:Nat) (s:aJ) (Q:aE->aJ->Prop) (E:aE->aJ->Prop),s.heap.IsStrIter it ty x tk0 i->Q (.ref it) s->aM (aU P w) A (lR (.ref it)) Q E s)
  (hno:["enumerate","zip","dict_itemiterator","dict_reverseitemiterator","odict_iterator","itertools.zip_longest","itertools.pairwise"].contains ty=false) :
  Turn P w K tg (BM x) [it] it (fun i h=>h.IsStrIter it ty x tk0 i/\i≤x.cps.size) where
 mem:=by simp
 obj:=fun i h st b hb=>by
  have e:b=it:=by simpa using hb
  subst e
  obtain⟨o,e,_,d⟩:=st.1
  exact⟨o,e,fun v z=>by rw[d] at z; cases z⟩
 keep:=fun i h h' st k=>⟨let ⟨o,e,r⟩:=st.1; ⟨o,k it (by simp) o e,r⟩,st.2⟩
 item:=by
  intro X hP hw hK hc i pins s σ H E I hf st hg
  subst hP hw hK
  obtain⟨f0,f1,f2,f3,f4,f5⟩:=hf it (by simp)
  refine(W X.A (I.ok.hd hc)).item i s _ _ hg st.1 fun v h' tk hv st' kk=>?_
  obtain⟨c,u,hcx,rfl⟩:=hv
  have I1:Inv X pins σ H { s with heap:=h',toks:=tk }:=I.turned (fun b o hb e=>kk b o (by simpa using hb) e) f0 f1 f3 f4 f5
  obtain⟨o,e,hcl,d⟩:=id st'
  exact⟨_,rfl,sG (s:={ s with heap:=h',toks:=tk }) e hcl d hno ⟨.str ⟨#[c]⟩,H,I1,⟨u,rfl⟩,⟨rfl,c,hcx,rfl⟩,⟨st',hg⟩,fun b hb=>(hf b hb).1⟩⟩
 done:=by
  intro X hP hw hK hc i pins s σ H E I hf st hg
  subst hP hw hK
  obtain⟨f0,f1,f2,f3,f4,f5⟩:=hf it (by simp)
  have hi:i=x.cps.size:=Nat.le_antisymm st.2 hg
  subst hi
  exact(W X.A (I.ok.hd hc)).done s _ _ st.1 fun h' tk kk=>⟨rfl,I.turned (fun b o hb e=>kk b o (by simpa using hb) e) f0 f1 f3 f4 f5⟩
 self:=fun A i s Q E st h=>sf A i s Q E st.1 h
def Dn (tl:TE):TI:=fun σ H R=>tl σ H fun v H1=>∃ x,v = .str x/\R (BM x) H1
theorem Jg {X:Cx}{l:aT}{tl:TE}(hl:PE X l tl):PI X tg l (Dn tl):=by
 intro pins s σ H R I h
 refine thn (hl pins s σ H _ I h) fun v s1 gh=>?_
 obtain⟨y,H1,I1,r1,q1⟩:=gh
 obtain⟨x,rfl,q⟩:=q1
 obtain⟨t,rfl⟩:=r1
 have fin : ∀ (o:bH) (ty:String),Turn X.prog X.w X.K tg (BM x) [s1.heap.objs.size] s1.heap.objs.size (fun i h=>h.IsStrIter s1.heap.objs.size ty x t i/\i≤x.cps.size)->(s1.heap.push o).IsStrIter s1.heap.objs.size ty x t 0 ->
   PIE X pins σ tg R (.ref s1.heap.objs.size) { s1 with heap:=s1.heap.push o }:=fun o ty T st=>by
  refine⟨s1.heap.objs.size,[s1.heap.objs.size],_,_,H1,rfl,I1.kept (t':=s1.toks) fun b o e=>bW _ e,T,⟨st,eR _⟩,fun b hb=>?_,q⟩
  have e:b=s1.heap.objs.size:=by simpa using hb
  subst e
  exact I1.fpOk (bE _) (I1.hok.fresh (bE _))
 cases ha:x.cps.all (· < 128)
 ·exact wpAny_pyIter_wide ha (fin _ "str_iterator" (VS (fun A' hA=>Walks.strWide hA _ x t) (fun A i s Q E st h=>wpAny_pyIter_striter_wide st h) (by decide)) ⟨_,dA _ rfl,rfl,rfl⟩)
 ·exact wpAny_pyIter_ascii ha (fin _ "str_ascii_iterator" (VS (fun A' hA=>Walks.strAscii hA _ x t) (fun A i s Q E st h=>wpAny_pyIter_striter_ascii st h) (by decide)) ⟨_,dA _ rfl,rfl,rfl⟩)
def allB (xs:List V):Bool:=xs.all fun v=>decide (v = .bl true)
theorem Yu (hc:X.calm=true):Adz X (.builtin "all") (fun xs H Q=>∃ p ys,xs=[.ref p]/\SqL X.K H p ys/\(∀ y∈ys,∃ b,y = .bl b)/\Q (.bl (allB ys)) H):=by
 intro pins s σ H xs us Q I r h
 obtain⟨p,ys,rfl,hs,hb,q⟩:=h
 obtain⟨u,rfl,ru⟩:=vals1 r
 cases ru
 obtain⟨its,rv,pl,hz⟩:=I.list hs
 have hl:s.heap.IsList p its.toArray:=pl.isList
 have hlt:p<s.heap.objs.size:=by obtain⟨o,n,e,_⟩:=pl; exact cA e
 have hh:X.A.handled=none:=I.ok.hd hc
 have len:=rv.length
 refine call_all_walk (EX hl ⟨s.heap.objs.size,_,_,_,_,_,fun i=>decide (ys[i]?=some (.bl true)),rfl,Walks.list (A:=X.A.in1) hh s.heap.objs.size p (dQ hlt) its.toArray,
  ⟨⟨_,dA _ rfl,rfl,rfl⟩,hl.at fun o e=>bW _ e⟩,?_,?_⟩)
 ·intro i v s' Q' E' hv hq
  have hv':its[i]?=some v:=by simpa using hv
  have hi:i<ys.length:=by rw[len]; exact(dR.mp hv').1
  obtain⟨b,hy⟩:=hb ys[i] (tO hi)
  have hy':ys[i]?=some (.bl b):=by rw[jY hi,hy]
  obtain⟨u',h1,h2⟩:=rv.get hy'
  rw[hv'] at h1; cases h1
  cases h2
  refine EV ?_
  have:decide (ys[i]?=some (V.bl true))=b:=by rw[hy']; cases b <;> simp
  have hq:Q' (decide (ys[i]?=some (V.bl true))) s':=hq
  rw[this] at hq
  exact hq
 ·intro h' tk hk
  have e:((bR its.toArray.size).all fun i=>decide (ys[i]?=some (V.bl true)))=allB ys:=by
   have hn:its.toArray.size=ys.length:=by simp[len]
   rw[hn]
   unfold allB
   rw[nK]
   simp only[fA,lC,decide_eq_true_eq]
   constructor
   ·intro h v hv
    obtain⟨i,hi,rfl⟩:=wX hv
    have:=h i hi
    rw[jY hi] at this
    exact eY this
   ·intro h i hi
    rw[jY hi,h _ (tO hi)]
  rw[e]
  refine⟨.bl (allB ys),H,?_,rfl,q⟩
  exact I.kept fun b o eb=>hk b o (by simp; exact dQ (cA eb)) (bW _ eb)
structure Def (P:bT)(w:bI)(K:aK)(mg:aC->Option aE)(base:aZ)(x:aC)(k:Nat)(ps:List aC)(sp:Sp):Prop where
 ex : ∃ f fd,FnOk P w K mg base CX0 k f fd ps sp/\mg x=some (.ref f)/\tM K (.ref f)=true/\Binds K fd ps []
section
variable {k:Nat}{t:TA}
theorem Jv (D:Def X.prog X.w X.K X.mg X.base x k ps sp)(hr:Room k X.A)(hg:Gl X x)(ha:PA X (e::es) t)(hdb:(x == ("__debug__" : aC))=false:=by decide)(he:cC (e::es) X.env=(false,bY e X.env)::cC es X.env:=by rfl)
  (hpl:(fX pos (cC es X.env)).any (·.1)=false:=by rfl):PE X (.Call (.Name x p) (e::es) [] pos) (PR sp [] E0 t):=by
 obtain⟨f,fd,F,hm,hk,hb⟩:=D.ex
 exact Lc F hr hg hm hk hb .nil Fg ha hdb he hpl
end
def GI (a b:String):Option Bool:=if (oD a == oD b)=true then some true else if PySem.W.kitMeta b=true then(fastBuiltinMro a).map (·.contains (.type b)) else none
theorem Alq{a b:String}:Bd K (.type a) (.type b)=GI a b:=rfl
def kinds:List String:=["NoneType","bool","int","str","list","tuple","dict"]
def isK (t T:String):Bool:=t == T||(t == "bool" && T == "int")
theorem Xi:(kinds.all fun t=>["int","bool","str","list","tuple","dict"].all fun T=>decide (GI t T=some (isK t T)))=true:=by decide +kernel
theorem Mw {t:String}(ht:t∈kinds)(hT:T∈["int","bool","str","list","tuple","dict"]):GI t T=some (isK t T):=by
 have h:=fA.mp Xi t ht
 have h:=fA.mp h T hT
 exact of_decide_eq_true h
def Kd (K:aK)(H:Hp)(x:V)(t:String):Prop:=TyOf K H x (.type t)/\t∈kinds
theorem Kd.int{x:V}(h:Kd K H x "int") : ∃ i,x = .int i:=by
 obtain⟨h,_⟩:=h
 generalize e:oD "int" = t at h
 cases h <;> first | exact⟨_,rfl⟩ | exact absurd (Value.type.inj e) (by decide) | cases e
theorem Kd.str{x:V}(h:Kd K H x "str") : ∃ i,x = .str i:=by
 obtain⟨h,_⟩:=h
 generalize e:oD "str" = t at h
 cases h <;> first | exact⟨_,rfl⟩ | exact absurd (Value.type.inj e) (by decide) | cases e
theorem Fb(hg:Gl X x)(hm:X.mg x=none)(hv:lU x=some (.type T))(hn:x ≠ "__name__":=by decide)(hd:(x == ("__debug__" : aC))=false:=by decide):PE X (.Name x pos) (tC (.ty T)):=
 Ni hg hm hv rfl hn hd
theorem boot_isinstance:lU "isinstance" = some (.builtin "isinstance"):=by decide +kernel
theorem boot_all:lU "all" = some (.builtin "all"):=by decide +kernel
theorem bits_le {i:Int}(h:i.natAbs<2 ^ n):mH i≤n:=by
 unfold mH
 split
 ·exact eR _
 ·rename_i hne
  have h0:i.natAbs≠0:=by
   intro z; apply hne; simp[Int.natAbs_eq_zero.mp z]
  have:i.natAbs.log2<n:=(Nat.log2_lt h0).mpr h
  omega
theorem Mj:OpR X (kH .Mult) (rI (fun i j=>i.natAbs<2 ^ 1000/\j.natAbs<2 ^ 1000) fun i j=>.int (i*j)):=opI fun i j _ _ _ _ _ hc q=>
 mul_int q (c8 (bits_le hc.1) (bits_le hc.2) (by decide))
theorem dY{k:Nat}(hr:Room k A):A.units+100<cLine:=by
 have:=hr.un
 omega
theorem KO : ∀ {xs:List V} {us:List aE},xs.length=us.length->(∀ (j:Nat) x u,xs[j]?=some x->us[j]?=some u->RelV x u)->Vals xs us
 | [],[],_,_=>.nil
 | [],_::_,h,_=>by simp at h
 | _::_,[],h,_=>by simp at h
 | x::xs,u::us,h,r=>.cons (r 0 x u rfl rfl) (KO (by simpa using h) fun j y w h1 h2=>r (j+1) y w (by simpa using h1) (by simpa using h2))
def pZ (c:Nat):V:=.str ⟨#[c]⟩
theorem Qk (hc:X.calm=true):Adz X (.type "list") (fun xs H Q=>∃ z:aC,xs=[.str z]/\z.length≤sizeLine /\ ∀ l,H l=none->Q (.ref l) (upd H l (.lst (z.cps.toList.map pZ)))):=by
 intro pins s σ H xs us Q I r h
 obtain⟨z,rfl,hz,q⟩:=h
 obtain⟨u,rfl,t,rfl⟩:=vals1 r
 refine call_list_str (I.ok.hd hc) z t (fun h' tk acc' c' hk hS hacc=>?_) hz
 have hv:Vals (z.cps.toList.map pZ) acc'.toList:=by
  refine KO (by simp[hacc.1]) fun j x u h1 h2=>?_
  obtain⟨c,t',hc1,rfl⟩:=hacc.2 j u (by simpa using h2)
  have:(z.cps.toList.map pZ)[j]?=some (pZ c):=by simp[hc1]
  rw[this] at h1
  cases h1
  exact⟨t',rfl⟩
 exact⟨.ref s.heap.objs.size,_,I.laid (o:=.lst (z.cps.toList.map pZ)) hk (bE _) (show Ac9 X.prog X.w _ h' _ (.lst (z.cps.toList.map pZ)) from⟨by rw[cV,BK]; exact hz,acc'.toList,c',hv,by simpa using hS⟩),rfl,q _ I.fresh⟩
def ItD (K:aK)(B:Hp)(J:It)(ds:List aA):Prop:=∀ (i:Nat) (H2:Hp),Ext B H2 ->
 (∀ d,ds[i]?=some d->J.go i H2 /\ ∀ x H3,J.yld i H2 x H3->Ext H2 H3 /\ ∀ P2,Hid P2 H2->Ext B (hid H2 P2)->Abk K (hid H3 P2) d x)/\(ds.length=i->J.stop i H2)
def tI (K:aK)(f:AF):TI:=fun σ H R=>∃ P ρ ds,Hid P H/\Am6 K (hid H P) ρ σ/\f ρ=some ds /\ ∀ J H',Ext H H'->ItD K (hid H' P) J ds->R J H'
def tI0 (K:aK)(f:AF):TI:=fun σ H R=>∃ P ρ ds,Hid P H/\Am6 K (hid H P) ρ σ/\f ρ=some ds /\ ∀ J H',Ext H H'->ItD K (fun _=>none) J ds->R J H'
abbrev DI (X:Cx)(tg e:aT)(f:AF):Prop:=PI X tg e (tI X.K f)
abbrev DI0 (X:Cx)(tg e:aT)(f:AF):Prop:=PI X tg e (tI0 X.K f)
def itemsOf:aA->Option (List aA)
 | .list ds=>some ds
 | .tuple ds=>some ds
 | .str x=>some (x.cps.toList.map fun c=>.str ⟨#[c]⟩)
 | _=>none
def iIt (f:EF):AF:=fun ρ=>(f ρ).bind itemsOf
section
variable {a:aT}
theorem PI.imp {t t':TI}(h:PI X tg e t)(w : ∀ σ H R,t' σ H R->t σ H R):PI X tg e t':=fun pins s σ H R I q=>h pins s σ H R I (w _ _ _ q)
theorem PI.or {t t':TI}(h:PI X tg e t)(h':PI X tg e t'):PI X tg e (fun σ H R=>t σ H R \/ t' σ H R):=fun pins s σ H R I q=>q.elim (h pins s σ H R I) (h' pins s σ H R I)
theorem Vy{a:aD}(h:SqL K B a xs)(r:Aas K B ds xs):ItD K B (FW K a) ds:=fun i H2 x2=>by
 have h2:SqL K H2 a xs:=x2.sqL h
 refine⟨fun d hd=>?_,fun e=>⟨xs,h2,by rw[r.length]; omega⟩⟩
 obtain⟨v,h3,h4⟩:=r.get hd
 refine⟨⟨xs,v,h2,h3⟩,?_⟩
 rintro x H3 ⟨rfl,hx⟩
 have:some v=some x:=h3.symm.trans (hx xs h2)
 cases this
 exact⟨Ext.refl,fun P2 _ xb=>h4.ext xb⟩
theorem Mk{a:aD}(h:B a=some (.tup xs))(r:Aas K B ds xs):ItD K B (FU K a) ds:=fun i H2 x2=>by
 have h2:SqT K H2 a xs:=SqT.of (x2 _ _ h)
 refine⟨fun d hd=>?_,fun e=>⟨xs,h2,by rw[r.length]; omega⟩⟩
 obtain⟨v,h3,h4⟩:=r.get hd
 refine⟨⟨xs,v,h2,h3⟩,?_⟩
 rintro x H3 ⟨rfl,hx⟩
 have:some v=some x:=h3.symm.trans (hx xs h2)
 cases this
 exact⟨Ext.refl,fun P2 _ xb=>h4.ext xb⟩
theorem IH {z:aC}{c:Nat}(h:cR (.str z)=true)(hc:z.cps.toList[i]?=some c):cR (.str ⟨#[c]⟩)=true:=by
 have hz : ∀ d∈z.cps,d<0x110000:=by
  have h':z.cps.all (· < 0x110000)=true:=by simpa only[cR,PyData.strOk] using h
  intro d hd
  exact of_decide_eq_true (Array.all_eq_true'.mp h' d hd)
 have:=hz c (by simpa using fK hc)
 simp[cR,PyData.strOk,this]
theorem Kh{z:aC}(hl:cR (.str z)=true):ItD K B (BM z) (z.cps.toList.map fun c=>.str ⟨#[c]⟩):=fun i H2 x2=>by
 refine⟨fun d hd=>?_,fun e=>?_⟩
 ·rw[dI] at hd
  cases hc:z.cps.toList[i]? with
  | none=>rw[hc] at hd; simp at hd
  | some c=>
   rw[hc] at hd
   have hd:cI ⟨#[c]⟩=d:=by simpa using hd
   subst hd
   have hlt:i<z.cps.size:=by simpa using(dR.mp hc).1
   refine⟨hlt,?_⟩
   rintro x H3 ⟨rfl,c',hc',rfl⟩
   have:z.cps.toList[i]?=some c':=by simpa using hc'
   rw[hc] at this
   cases this
   exact⟨Ext.refl,fun P2 _ _=>Aa7.mpr ⟨rfl,IH hl hc⟩⟩
 ·have:z.cps.size=i:=by simpa using e
  exact Nat.le_of_eq this
theorem a0{lo:Int}:ItD K B (BN lo n) ((bR n).map fun(k:Nat)=>aQ (lo+k)):=fun i H2 x2=>by
 refine⟨fun d hd=>?_,fun e=>?_⟩
 ·have hlt:i<n:=by
   have:=(dR.mp hd).1
   simpa using this
  have hd':aQ (lo+i)=d:=by
   rw[dI,wY hlt] at hd
   simpa using hd
  subst hd'
  refine⟨hlt,?_⟩
  rintro x H3 ⟨rfl,rfl⟩
  exact⟨Ext.refl,fun P2 _ _=>Aaq.mpr rfl⟩
 ·have:n=i:=by simpa using e
  exact Nat.le_of_eq this
theorem eT {f:EF}(h:DE X e f):DI X tg e (iIt f):=PI.imp (PI.or (Kz h) (PI.or (Iw h) (Jg h))) fun σ H R gh=>by
 obtain⟨P,ρ,ds,hP,rs,ef,k⟩:=gh
 obtain⟨d,e1,ef⟩:=XBs ef
 cases d with
 | list ds'=>
  have:ds'=ds:=by simpa [itemsOf] using ef
  subst this
  refine .inl ⟨P,ρ,_,hP,rs,e1,dU fun v H1 x1 r1=>?_⟩
  obtain⟨a,xs,rfl,hr,rr⟩:=Abl.mp r1
  exact⟨a,rfl,⟨xs,Aau.sqL hr⟩,k _ H1 x1 (Vy hr rr)⟩
 | tuple ds'=>
  have:ds'=ds:=by simpa [itemsOf] using ef
  subst this
  refine .inr (.inl ⟨P,ρ,_,hP,rs,e1,dU fun v H1 x1 r1=>?_⟩)
  obtain⟨a,xs,rfl,hr,rr⟩:=Aap.mp r1
  exact⟨a,rfl,⟨xs,SqT.of (Aau _ _ hr)⟩,k _ H1 x1 (Mk hr rr)⟩
 | str z=>
  have:z.cps.toList.map (fun c=>cI ⟨#[c]⟩)=ds:=by simpa [itemsOf] using ef
  subst this
  refine .inr (.inr ⟨P,ρ,_,hP,rs,e1,dU fun v H1 x1 r1=>?_⟩)
  exact⟨z,(Aa7.mp r1).1,k _ H1 x1 (Kh (Aa7.mp r1).2)⟩
 | _=>simp[itemsOf] at ef
def GJ (lo hi:Int):Option (List aA):=if -(2 ^ 62)≤lo/\lo<2 ^ 62 /\ -(2 ^ 62)≤hi/\hi<2 ^ 62 then some ((bR (hi - lo).toNat).map fun(k:Nat)=>aQ (lo+k)) else none
def iR1 (fa:AF):AF:=fun ρ=>(fa ρ).bind fun ds=>match ds with
 | [.int j]=>GJ 0 j
 | _=>none
theorem yZ {fa:AF}(hg:Gl X "range")(hm:X.mg "range" = none)(ha:DA X [a] fa)(hs:cC [a] X.env=[(false,bY a X.env)]:=by rfl):DI0 X tg (.Call (.Name "range" p) [a] [] pos) (iR1 fa):=PI.imp (Zs hg hm ha hs) fun σ H R gh=>by
 obtain⟨P,ρ,ds,hP,rs,ef,k⟩:=gh
 obtain⟨as,e1,ef⟩:=XBs ef
 refine⟨P,ρ,as,hP,rs,e1,fun vs H1 x1 r1=>?_⟩
 split at ef
 ·rename_i j
  obtain⟨hb,rfl⟩:=cX ef
  obtain⟨v,t,rfl,h1,h2⟩:=Aah.mp r1
  obtain rfl:=Aan.mp h2
  obtain rfl:=Aaq.mp h1
  have e0:(j - 0).toNat=j.toNat:=by simp
  refine⟨j,rfl,hb.2.2.1,hb.2.2.2,k _ H1 x1 ?_⟩
  rw[e0]
  exact a0
 ·cases ef
theorem Hv {f:AF}(h:DI0 X tg e f):DI X tg e f:=PI.imp h fun σ H R ⟨P,ρ,ds,hP,rs,ef,k⟩=>⟨P,ρ,ds,hP,rs,ef,fun J H' x it=>k J H' x fun i H2 x2=>by
 obtain⟨h1,h2⟩:=it i H2 (fun _ _ e=>by cases e)
 exact⟨fun d hd=>⟨(h1 d hd).1,fun v H3 y=>⟨((h1 d hd).2 v H3 y).1,fun P2 hp _=>((h1 d hd).2 v H3 y).2 P2 hp fun _ _ e=>by cases e⟩⟩,h2⟩⟩
def tI' (K:aK)(H0:Hp)(P0:aD->Prop)(m:Md)(f:AF):TI:=fun σ H R=>∃ B0 ρ fp ds,Sta K H0 P0 B0 ρ σ H fp/\aV m f ρ=some ds /\ ∀ J B1 H',Sta K H0 P0 B1 ρ σ H' fp->Ext B0 B1->ItD K B1 J ds->R J H'
theorem Sta.rebase{B1:Hp}{ρ:bA}(S:Sta K H0 P0 B0 ρ σ H fp)(b:Ext B1 (L2.hid H (Hd P0 fp))):Sta K H0 P0 B1 ρ σ H fp:=⟨S.len,S.nd,S.dj,S.own,S.ext,S.hd,b,S.slot⟩
theorem evI {f:AF}(h:DI X tg e f):PI X tg e (tI' X.K H0 P0 .s f):=PI.imp h fun σ H R ⟨B0,ρ,fp,ds,S,ef,k⟩=>
 ⟨Hd P0 fp,vS ρ,ds,S.hid,S.viewS,ef,fun J H' x it=>k J _ H' ((S.grow x).rebase Ext.refl) (S.grow x).base it⟩
theorem En {f:AF}(m:Md)(h:DI0 X tg e f):PI X tg e (tI' X.K H0 P0 m f):=PI.imp h fun σ H R gh=>by
 obtain⟨B0,ρ,fp,ds,S,ef,k⟩:=gh
 have up : ∀ {J:It} {B:Hp},ItD X.K (fun _=>none) J ds->ItD X.K B J ds:=fun {J B} it i H2 x2=>by
  obtain⟨h1,h2⟩:=it i H2 (fun _ _ e=>by cases e)
  exact⟨fun d hd=>⟨(h1 d hd).1,fun v H3 y=>⟨((h1 d hd).2 v H3 y).1,fun P2 hp _=>((h1 d hd).2 v H3 y).2 P2 hp fun _ _ e=>by cases e⟩⟩,h2⟩
 cases m with
 | s=>exact⟨Hd P0 fp,vS ρ,ds,S.hid,S.viewS,ef,fun J H' x it=>k J _ H' (S.grow x) Ext.refl (up it)⟩
 | a=>exact⟨P0,vA ρ,ds,S.hd.ext S.ext,S.viewA,ef,fun J H' x it=>k J _ H' (S.grow x) Ext.refl (up it)⟩
end
def tG (K:aK)(H0:Hp)(P0:aD->Prop)(T:aA->bA->Option bA):TG:=fun v σ H Q=>∃ B0 ρ fp d ρ',Sta K H0 P0 B0 ρ σ H fp/\Abk K (hid H (Hd P0 fp)) d v/\T d ρ=some ρ' /\ ∀ σ' fp',Sta K H0 P0 B0 ρ' σ' H fp'->Q σ' H
abbrev DG (X:Cx)(H0:Hp)(P0:aD->Prop)(tg:aT)(T:aA->bA->Option bA):Prop:=PG X tg (tG X.K H0 P0 T)
theorem PG.imp{t t':TG}(h:PG X tg t)(w : ∀ v σ H Q,t' v σ H Q->t v σ H Q):PG X tg t':=fun pins s σ H v u Q I r q=>h pins s σ H v u Q I r (w _ _ _ _ q)
theorem Sta.set0{ρ:bA}(S:Sta K H0 P0 B0 ρ σ H fp)(r:Abk K (L2.hid H (Hd P0 fp)) d v)(hi:i<ρ.length) : ∃ fp',Sta K H0 P0 B0 (ρ.set i (some (0,d))) (σ.set i (some v)) H fp':=by
 have hsub : ∀ a,Hd P0 (fun j=>if j=ρ.length then [] else fp j) a->Hd P0 fp a:=fun a h=>by
  rcases h with h | ⟨j,h⟩
  ·exact .inl h
  ·by_cases hj:j=ρ.length
   ·simp only[hj,if_true] at h; simp at h
   ·simp only[hj,if_false] at h; exact .inr ⟨j,h⟩
 have S2:Sta K H0 P0 B0 ρ σ H (fun j=>if j=ρ.length then [] else fp j):=by
  refine⟨S.len,fun j=>?_,fun j k a h1 h2=>?_,fun j a h1=>?_,S.ext,S.hd,S.base.trans (iL hsub),fun j n d e=>?_⟩
  ·by_cases hj:j=ρ.length
   ·simp only[hj,if_true]; exact .nil
   ·simp only[hj,if_false]; exact S.nd j
  ·by_cases hj:j=ρ.length
   ·simp only[hj,if_true] at h1; simp at h1
   ·by_cases hk:k=ρ.length
    ·simp only[hk,if_true] at h2; simp at h2
    ·simp only[hj,if_false] at h1; simp only[hk,if_false] at h2; exact S.dj j k a h1 h2
  ·by_cases hj:j=ρ.length
   ·simp only[hj,if_true] at h1; simp at h1
   ·simp only[hj,if_false] at h1; exact S.own j a h1
  ·have hlt:j<ρ.length:=(dR.mp e).1
   have hj:j≠ρ.length:=by omega
   obtain⟨v',h1,h2⟩:=S.slot j n d e
   refine⟨v',h1,?_⟩
   simp only[hj,if_false]
   exact h2.keep (iL hsub) fun a m=>rfl
 refine Tmp.set (n:=0) ⟨_,S2,?_⟩ hi
 simp only[if_true]
 exact⟨rfl,r.ext (iL hsub)⟩
def gNm (i:Nat):aA->bA->Option bA:=fun d ρ=>if i<ρ.length then some (ρ.set i (some (0,d))) else none
theorem iY(hN:X.N.Nodup)(hi:X.N[i]?=some x)(hx:kA X.env.scope x)(hf:X.fn x=true \/ X.env.scope.names.lookup x=some .local:=by first | exact .inl rfl | exact .inr rfl | assumption):DG X H0 P0 (.Name x pos) (gNm i):=
 PG.imp (uW hN hi hx hf) fun v σ H Q gh=>by
  obtain⟨B0,ρ,fp,d,ρ',S,r,ef,k⟩:=gh
  obtain⟨hl,rfl⟩:=cX ef
  obtain⟨fp',S'⟩:=S.set0 r hl
  exact k _ fp' S'
def pX (i j:Nat):aA->bA->Option bA:=fun d ρ=>match d with
 | .tuple [a,b]=>(gNm i a ρ).bind fun ρ'=>gNm j b ρ'
 | _=>none
theorem uU{p1:bZ}{k}(hc:X.calm=true)(hN:X.N.Nodup)(hi:X.N[i]?=some x)(hj:X.N[j]?=some y)(hx:kA X.env.scope x)(hy:kA X.env.scope y)
  (hf:X.fn x=true \/ X.env.scope.names.lookup x=some .local:=by first | exact .inl rfl | exact .inr rfl | assumption) (hf2:X.fn y=true \/ X.env.scope.names.lookup y=some .local:=by first | exact .inl rfl | exact .inr rfl | assumption)
  (hn:(iO [.Name x p1,.Name y p2] X.env).length=2:=by rfl) (hst:(iO [.Name x p1,.Name y p2] X.env).findIdx? (·.1)=none:=by rfl)
  (h1:(iO [.Name x p1,.Name y p2] X.env).map (·.2)=jW (.Name x p1) X.env::(iO [.Name y p2] X.env).map (·.2):=by rfl) (h2:(iO [.Name y p2] X.env).map (·.2)=jW (.Name y p2) X.env::(iO [] X.env).map (·.2):=by rfl):DG X H0 P0 (.Tuple [.Name x p1,.Name y p2] k pos) (pX i j):=
 PG.imp (QJ hc (DH (uW hN hi hx hf) (DH (uW hN hj hy hf2) Ae h2) h1) hn hst) fun v σ H Q gh=>by
  obtain⟨B0,ρ,fp,d,ρ',S,r,ef,k⟩:=gh
  unfold pX at ef
  split at ef
  ·rename_i a b
   obtain⟨ρ1,e1,e2⟩:=XBs ef
   obtain⟨l1,rfl⟩:=cX e1
   obtain⟨l2,rfl⟩:=cX e2
   obtain⟨p,xs,rfl,hp,rr⟩:=Aap.mp r
   obtain⟨v1,t1,rfl,r1,rr⟩:=Aah.mp rr
   obtain⟨v2,t2,rfl,r2,rr⟩:=Aah.mp rr
   obtain rfl:=Aan.mp rr
   refine⟨p,_,rfl,SqT.of (Aau _ _ hp),rfl,v1,_,rfl,v2,_,rfl,rfl,?_⟩
   have Sb:=S.rebase (B1:=hid H (Hd P0 fp)) Ext.refl
   obtain⟨fp1,S1⟩:=Sb.set0 r1 l1
   obtain⟨fp2,S2⟩:=S1.set0 (r2.ext S1.base) l2
   exact k _ fp2 (S2.rebase (S.base.trans S2.base))
  ·cases ef
def jD (F:SF)(T:aA->bA->Option bA):List aA->SF
 | [],ρ=>some (.nx ρ)
 | d::r,ρ=>(T d ρ).bind fun ρ1=>(F ρ1).bind fun o=>match o with
  | .nx ρ'=>jD F T r ρ'
  | .ct ρ'=>jD F T r ρ'
  | .bk ρ'=>some (.nx ρ')
  | .rt d=>some (.rt d)
def eG (m:Md)(fi:AF)(T:aA->bA->Option bA)(F:SF):SF:=fun ρ=>(aV m fi ρ).bind fun ds=>jD F T ds ρ
section
variable {body:List cB}{F:SF}{T:aA->bA->Option bA}{fi:AF}{m:Md}
theorem TQ (hp:AU (aU X.prog X.w) X.A X.env X.xe)(hc:X.calm=true)(hi:PI X tg iter (tI' X.K H0 P0 m fi))(hg:DG X H0 P0 tg T)(hb:DSs X H0 P0 n0 body F)
  (hs : ∀ x,tD iter X.env x=pure x:=by intro _; rfl):DS X H0 P0 n0 (.For tg iter body [] pos) (eG m fi T F):=PS.imp (Ie hp hc hi hg hb hs) fun D σ H gh=>by
 obtain⟨B0,ρ,fp,o,S,ef,k⟩:=gh
 obtain⟨ds,e1,ef⟩:=XBs ef
 refine⟨B0,ρ,fp,ds,S,e1,fun J B1 H' S1 xb it=>?_⟩
 refine⟨fun i m σ H=>m=ds.length - i/\i≤ds.length /\ ∃ ρ fp,Sta X.K H0 P0 B1 ρ σ H fp/\jD F T (ds.drop i) ρ=some o,⟨ds.length,by simp,eR _,ρ,fp,S1,by simpa using ef⟩,?_⟩
 rintro i m σ2 H2 ⟨rfl,hi,ρ2,fp2,S2,e2⟩
 have x2:Ext B1 H2:=S2.base.trans Aau
 obtain⟨go,st⟩:=it i H2 x2
 by_cases hlt:i<ds.length
 ·have hd:ds[i]?=some ds[i]:=jY hlt
  rw[Cg hlt] at e2
  obtain⟨ρ3,e3,e2⟩:=XBs e2
  obtain⟨o3,e4,e2⟩:=XBs e2
  obtain⟨g1,g2⟩:=go _ hd
  refine .inr ⟨g1,fun σ' H'=>i+1≤ds.length /\ ∃ ρ fp,Sta X.K H0 P0 B1 ρ σ' H' fp/\jD F T (ds.drop (i+1)) ρ=some o,fun σ' H' ⟨h1,h2⟩=>⟨ds.length - (i+1),by omega,rfl,h1,h2⟩,fun x H3 y=>?_⟩
  obtain⟨x3,r3⟩:=g2 x H3 y
  refine⟨B1,ρ2,fp2,_,ρ3,S2.grow x3,r3 _ S2.hid S2.base,e3,fun σ4 fp4 S4=>⟨B1,ρ3,fp4,o3,S4,e4,?_⟩⟩
  cases o3 with
  | nx ρ5=>exact fun σ5 H5 fp5 S5=>⟨hlt,ρ5,fp5,S5,e2⟩
  | ct ρ5=>exact fun σ5 H5 fp5 S5=>⟨hlt,ρ5,fp5,S5,e2⟩
  | bk ρ5=>
   cases e2
   exact fun σ5 H5 fp5 S5=>k σ5 H5 fp5 (S5.rebase (xb.trans S5.base))
  | rt d=>
   cases e2
   exact k
 ·have e:i=ds.length:=by omega
  subst e
  rw[Cf] at e2
  cases e2
  exact .inl ⟨st rfl,k σ2 H2 fp2 (S2.rebase (xb.trans S2.base))⟩
theorem hW (hp:AU (aU X.prog X.w) X.A X.env X.xe)(hc:X.calm=true)(hi:DI X tg iter fi)(hg:DG X H0 P0 tg T)(hb:DSs X H0 P0 n0 body F)
  (hs : ∀ x,tD iter X.env x=pure x:=by intro _; rfl):DS X H0 P0 n0 (.For tg iter body [] pos) (eG .s fi T F):=TQ hp hc (evI hi) hg hb hs
theorem CG (m:Md)(hp:AU (aU X.prog X.w) X.A X.env X.xe)(hc:X.calm=true)(hi:DI0 X tg iter fi)(hg:DG X H0 P0 tg T)(hb:DSs X H0 P0 n0 body F)
  (hs : ∀ x,tD iter X.env x=pure x:=by intro _; rfl):DS X H0 P0 n0 (.For tg iter body [] pos) (eG m fi T F):=TQ hp hc (En m hi) hg hb hs
end
def whD (m:Md)(t:BF)(F:SF):Nat->SF
 | 0,_=>none
 | n+1,ρ=>(bV m t ρ).bind fun b=>if b=true then(F ρ).bind fun o=>match o with
   | .nx ρ'=>whD m t F n ρ'
   | .ct ρ'=>whD m t F n ρ'
   | .bk ρ'=>some (.nx ρ')
   | .rt d=>some (.rt d)
  else some (.nx ρ)
section
variable {body:List cB}{F:SF}{t:BF}
theorem Vf (m:Md)(fuel:Nat)(hp:AU (aU X.prog X.w) X.A X.env X.xe)(hc:DT X c t)(hb:DSs X H0 P0 n0 body F):DS X H0 P0 n0 (.While c body [] pos) (whD m t F fuel):=
 PS.imp (Vv hp (evB (H0:=H0) (P0:=P0) m hc) hb) fun D σ H gh=>by
  obtain⟨B0,ρ,fp,o,S,ef,k⟩:=gh
  refine⟨fun n σ H=>∃ ρ fp,Sta X.K H0 P0 B0 ρ σ H fp/\whD m t F n ρ=some o,⟨fuel,ρ,fp,S,ef⟩,?_⟩
  rintro n σ1 H1 ⟨ρ1,fp1,S1,e1⟩
  cases n with
  | zero=>cases e1
  | succ n=>
   obtain⟨b,e2,e1⟩:=XBs e1
   refine⟨B0,ρ1,fp1,b,S1,e2,fun H2 S2=>?_⟩
   cases b with
   | false=>
    have:some (Out.nx ρ1)=some o:=by simpa using e1
    cases this
    exact qT (k σ1 H2 fp1 S2)
   | true=>
    rw[if_pos rfl] at e1
    obtain⟨o3,e4,e1⟩:=XBs e1
    refine rA ⟨fun σ' H'=>∃ ρ fp,Sta X.K H0 P0 B0 ρ σ' H' fp/\whD m t F n ρ=some o,fun σ' H' h=>⟨n,Nat.lt_succ_self n,h⟩,B0,ρ1,fp1,o3,S2,e4,?_⟩
    cases o3 with
    | nx ρ5=>exact fun σ5 H5 fp5 S5=>⟨ρ5,fp5,S5,e1⟩
    | ct ρ5=>exact fun σ5 H5 fp5 S5=>⟨ρ5,fp5,S5,e1⟩
    | bk ρ5=>cases e1; exact k
    | rt d=>cases e1; exact k
end
def lcD (T:aA->List (Option aA)->Option (List (Option aA)))(t:BF)(f:EF)(ρ:List (Option aA)):List aA->Option (List aA)
 | []=>some []
 | d::r=>(T d ρ).bind fun ρ1=>(t ρ1).bind fun c=>if c=true then(f ρ1).bind fun y=>(lcD T t f ρ r).bind fun ys=>some (y::ys) else lcD T t f ρ r
def kM (cap:List (Option Nat))(ρ:List (Option aA)):List (Option aA):=cap.map fun o=>o.bind fun j=>(ρ[j]?).join
def eLC (cap:List (Option Nat))(fi:AF)(T:aA->List (Option aA)->Option (List (Option aA)))(t:BF)(f:EF):EF:=fun ρ=>(fi ρ).bind fun ds=>(lcD T t f (kM cap ρ) ds).bind fun ys=>if ds.length≤sizeLine then some (.list ys) else none
def tGB (K:aK)(T:aA->List (Option aA)->Option (List (Option aA))):TG:=fun v σ H Q=>∃ P ρ d ρ',Hid P H/\Am6 K (hid H P) ρ σ/\Abk K (hid H P) d v/\T d ρ=some ρ' /\ ∀ σ',Am6 K (hid H P) ρ' σ'->Q σ' H
def TOk (T:aA->List (Option aA)->Option (List (Option aA))):Prop:=∀ d ρ ρ',T d ρ=some ρ' -> ∀ (i:Nat) d',ρ[i]?=some (some d')->ρ'[i]?=some (some d')
def dG:BF:=fun _=>some true
def gB (j:Nat):aA->List (Option aA)->Option (List (Option aA)):=fun d ρ=>match ρ[j]? with
 | some none=>some (ρ.set j (some d))
 | _=>none
theorem CF{ρ':List (Option aA)}(h:gB j d ρ=some ρ'):ρ[j]?=some none/\ρ.set j (some d)=ρ':=by
 unfold gB at h
 split at h
 ·rename_i e
  exact⟨e,eY h⟩
 ·cases h
def gB2 (i j:Nat):aA->List (Option aA)->Option (List (Option aA)):=fun d ρ=>match d with
 | .tuple [a,b]=>(gB i a ρ).bind fun ρ'=>gB j b ρ'
 | _=>none
theorem hE:TOk (gB j):=fun d ρ ρ' e i d' h=>by
 obtain⟨hj,rfl⟩:=CF e
 by_cases q:j=i
 ·subst q; rw[hj] at h; cases h
 ·rw[nE q]; exact h
theorem YU:TOk (gB2 i j):=fun d ρ ρ' e k d' h=>by
 unfold gB2 at e
 split at e
 ·obtain⟨ρ1,e1,e2⟩:=XBs e
  exact hE _ _ _ e2 k d' (hE _ _ _ e1 k d' h)
 ·cases e
section
variable {fi:AF}{T:aA->List (Option aA)->Option (List (Option aA))}{t:BF}{f:EF}
theorem jI:uB X [] (tTF X.K dG):=fun pins s σ H Q I gh=>by
 obtain⟨P,ρ,b,hP,rs,ef,k⟩:=gh
 cases ef
 exact Mc pins s σ H Q I (k H Ext.refl)
theorem HD (h:DT X c t):uB X [c] (tTF X.K t):=Oc h
theorem Am6.set(h:Am6 K B ρ σ)(r:Abk K B d v)(hl:j<σ.length):Am6 K B (ρ.set j (some d)) (σ.set j (some v)):=fun i d' e=>by
 by_cases q:j=i
 ·subst q
  have hj:j<ρ.length:=by
   have:=(dR.mp e).1
   simpa using this
  rw[rJ hj] at e
  cases e
  exact⟨v,rJ hl,r⟩
 ·rw[nE q] at e
  obtain⟨w,h1,h2⟩:=h i d' e
  exact⟨w,by rw[nE q]; exact h1,h2⟩
def DGB (X:Cx)(tg:aT)(T:aA->List (Option aA)->Option (List (Option aA))):Prop:=
 ∀ (pins:List (aD×bH)) (s:aJ) (σ:St) (H:Hp) (v:V) (u:aE) (Q:St->Hp->Prop),Inv X pins σ H s->RelV v u->tGB X.K T v σ H Q ->
  aM (aU X.prog X.w) X.A (jW tg X.env u) (fun _ s'=>∃ σ' H',Inv X pins σ' H' s'/\Q σ' H') X.xe s
theorem jB(hN:X.N.Nodup)(hi:X.N[j]?=some x)(hx:kA X.env.scope x)(hf:X.fn x=true \/ X.env.scope.names.lookup x=some .local:=by first | exact .inl rfl | exact .inr rfl | assumption):DGB X (.Name x pos) (gB j):=fun pins s σ H v u Q I r gh=>by
 obtain⟨P,ρ,d,ρ',hP,rs,rd,ef,k⟩:=gh
 obtain⟨hj,rfl⟩:=CF ef
 have hl:j<σ.length:=by rw[I.len]; exact(dR.mp hi).1
 exact uW hN hi hx hf pins s σ H v u Q I r (k _ (rs.set rd hl))
theorem SJ{p1:bZ}{kk}(hc:X.calm=true)(hN:X.N.Nodup)(hi:X.N[i]?=some x)(hj:X.N[j]?=some y)(hx:kA X.env.scope x)(hy:kA X.env.scope y)
  (hf:X.fn x=true \/ X.env.scope.names.lookup x=some .local:=by first | exact .inl rfl | exact .inr rfl | assumption) (hf2:X.fn y=true \/ X.env.scope.names.lookup y=some .local:=by first | exact .inl rfl | exact .inr rfl | assumption)
  (hn:(iO [.Name x p1,.Name y p2] X.env).length=2:=by rfl) (hst:(iO [.Name x p1,.Name y p2] X.env).findIdx? (·.1)=none:=by rfl)
  (h1:(iO [.Name x p1,.Name y p2] X.env).map (·.2)=jW (.Name x p1) X.env::(iO [.Name y p2] X.env).map (·.2):=by rfl) (h2:(iO [.Name y p2] X.env).map (·.2)=jW (.Name y p2) X.env::(iO [] X.env).map (·.2):=by rfl):DGB X (.Tuple [.Name x p1,.Name y p2] kk pos) (gB2 i j):=fun pins s σ H v u Q I r gh=>by
 obtain⟨P,ρ,d,ρ',hP,rs,rd,ef,k⟩:=gh
 unfold gB2 at ef
 split at ef
 ·rename_i a b
  obtain⟨ρ1,e1,e2⟩:=XBs ef
  obtain⟨l1,rfl⟩:=CF e1
  obtain⟨l2,rfl⟩:=CF e2
  obtain⟨p,xs,rfl,hp,rr⟩:=Aap.mp rd
  obtain⟨v1,t1,rfl,r1,rr⟩:=Aah.mp rr
  obtain⟨v2,t2,rfl,r2,rr⟩:=Aah.mp rr
  obtain rfl:=Aan.mp rr
  have hl:i<σ.length:=by rw[I.len]; exact(dR.mp hi).1
  have hl2:j<σ.length:=by rw[I.len]; exact(dR.mp hj).1
  exact QJ hc (DH (uW hN hi hx hf) (DH (uW hN hj hy hf2) Ae h2) h1) hn hst pins s σ H _ u Q I r ⟨p,_,rfl,SqT.of (Aau _ _ hp),rfl,v1,_,rfl,v2,_,rfl,rfl,k _ ((rs.set r1 hl).set r2 (by simpa using hl2))⟩
 ·cases ef
theorem Xw(h:Am6 K B ρ σ):Am6 K B (kM cap ρ) (tX cap σ):=fun i d e=>by
 unfold kM at e
 unfold tX
 rw[dI] at e ⊢
 cases hc:cap[i]? with
 | none=>rw[hc] at e; simp at e
 | some o=>
  rw[hc] at e
  cases o with
  | none=>simp at e
  | some j=>
   simp only[wQ,cG,FC] at e ⊢
   obtain⟨v,h1,h2⟩:=h j d (VY e)
   exact⟨v,by rw[h1]; rfl,h2⟩
theorem PU(hT:TOk T) : ∀ σ H Q,tF K 1 (eLC cap fi T t f) σ H Q->tLC cap (tI K fi) (tGB K T) (tTF K t) (tF K 0 f) σ H Q:=fun σ H Q gh=>by
 obtain⟨P,ρ,d,hP,rs,ef,k⟩:=gh
 obtain⟨ds,e1,ef⟩:=XBs ef
 obtain⟨all,e2,ef⟩:=XBs ef
 obtain⟨hz,rfl⟩:=cX ef
 refine⟨P,ρ,ds,hP,rs,e1,fun J H1 x1 it A hA=>?_⟩
 have hPA : ¬ P A:=(hP.ext x1).new hA
 have back : ∀ {H':Hp} {ys:List V},hid (upd H' A (.lst ys)) (orL P [A])=hid H' (orL P [A]):=fun {H' ys}=>by
  funext b
  unfold hid
  by_cases hb:orL P [A] b
  ·rw[if_pos hb,if_pos hb]
  ·rw[if_neg hb,if_neg hb]
   exact dJ (fun z=>hb (.inr (by simp[z])))
 refine⟨fun i m ys σ' H'=>m=ds.length - i/\i≤ds.length/\H' A=some (.lst ys)/\Ext H1 H'/\Ext (hid H1 P) (hid H' (orL P [A]))/\Am6 K (hid H' (orL P [A])) (kM cap ρ) σ'/\ys.length≤i /\
  ∃ done rest,Aas K (hid H' (orL P [A])) done ys/\lcD T t f (kM cap ρ) (ds.drop i)=some rest/\all=done++rest,⟨ds.length,?_⟩,?_⟩
 ·have xa:Ext (hid H1 P) (hid (upd H1 A (.lst [])) (orL P [A])):=fun b o e=>by
   obtain⟨nb,e⟩:=Ac0.mp e
   have hb:b≠A:=jK e hA
   exact gQ (fun z=>z.elim nb fun m=>hb (by simpa using m)) (by rw[dJ hb]; exact e)
  exact⟨by simp,eR _,fJ,Ext.new hA,xa,(Xw (rs.ext (dD x1))).ext xa,eR _,[],all,Aan.mpr rfl,by simpa using e2,rfl⟩
 ·rintro i m ys σ' H' ⟨rfl,hi,hD,x2,xb,rs2,hl,done,rest,rd,e3,rfl⟩
  refine⟨hD,?_⟩
  obtain⟨go,st⟩:=it i H' (Aau.trans x2)
  have hid2:Hid (orL P [A]) H':=fun a h=>by
   rcases h with h | h
   ·exact(hP.ext (x1.trans x2)) a h
   ·have:a=A:=by simpa using h
    subst this
    exact .inl ⟨_,hD⟩
  by_cases hlt:i<ds.length
  ·have hd:ds[i]?=some ds[i]:=jY hlt
   rw[Cg hlt] at e3
   obtain⟨ρ1,e4,e3⟩:=XBs e3
   obtain⟨c,e5,e3⟩:=XBs e3
   obtain⟨g1,g2⟩:=go _ hd
   refine .inr ⟨g1,by omega,fun ys σ' H'=>i+1≤ds.length/\H' A=some (.lst ys)/\Ext H1 H'/\Ext (hid H1 P) (hid H' (orL P [A]))/\Am6 K (hid H' (orL P [A])) (kM cap ρ) σ'/\ys.length≤i+1 /\
    ∃ d2 r2,Aas K (hid H' (orL P [A])) d2 ys/\lcD T t f (kM cap ρ) (ds.drop (i+1))=some r2/\done++rest=d2++r2,fun zs σ2 H2 h=>⟨ds.length - (i+1),by omega,rfl,h⟩,fun x H2 y=>?_⟩
   obtain⟨x3,r3⟩:=g2 x H2 y
   refine⟨orL P [A],kM cap ρ,_,ρ1,hid2.ext x3,rs2.ext (dD x3),r3 _ hid2 xb,e4,fun σ3 rs3=>?_⟩
   refine⟨orL P [A],ρ1,c,hid2.ext x3,rs3,e5,fun H4 x4=>?_⟩
   have rs4:Am6 K (hid H2 (orL P [A])) (kM cap ρ) σ3:=fun j d' e=>rs3 j d' (hT _ _ _ e4 j d' e)
   cases c with
   | false=>
    rw[if_neg jZ] at e3
    refine qT ⟨hlt,x4 _ _ (x3 _ _ hD),x2.trans (x3.trans x4),xb.trans (dD (x3.trans x4)),rs4.ext (dD x4),by omega,done,rest,rd.ext (dD (x3.trans x4)),e3,rfl⟩
   | true=>
    rw[if_pos rfl] at e3
    obtain⟨yd,e6,e3⟩:=XBs e3
    obtain⟨r2,e7,e3⟩:=XBs e3
    cases e3
    refine rA ⟨orL P [A],ρ1,yd,hid2.ext (x3.trans x4),rs3.ext (dD x4),e6,dU fun v H5 x5 r5=>⟨x5 _ _ (x4 _ _ (x3 _ _ hD)),hlt,fJ,?_,?_,?_,by simp; omega,done++[yd],r2,?_,e7,by simp⟩⟩
    ·intro b o e
     rw[dJ (jK e hA)]
     exact x5 _ _ (x4 _ _ (x3 _ _ (x2 _ _ e)))
    ·rw[back]; exact xb.trans (dD (x3.trans (x4.trans x5)))
    ·rw[back]; exact rs4.ext (dD (x4.trans x5))
    ·rw[back]; exact(rd.ext (dD (x3.trans (x4.trans x5)))).snoc r5
  ·have e:i=ds.length:=by omega
   subst e
   rw[Cf] at e3
   cases e3
   rw[mG] at k
   refine .inl ⟨st rfl,?_⟩
   refine k (.ref A) H' [A] (x1.trans x2) (lB.mpr ⟨by simp,.nil⟩) (fun a m=>?_) ⟨A,ys,ys.map fun _=>[],rfl,hD,?_,?_⟩
   ·have:a=A:=by simpa using m
    subst this
    exact⟨x1.none hA,_,hD⟩
   ·have : ∀ l:List V,(l.map fun _=>([]:List aD)).flatten=[]:=fun l=>by
     induction l with
     | nil=>rfl
     | cons a l ih=>rw[dF,tP,ih]; rfl
    rw[this]
   ·have go : ∀ (ds:List aA) (xs:List V),Aas K (hid H' (orL P [A])) ds xs->All3 (Afo K (hid H' (orL P [A])) H' 0) ds xs (xs.map fun _=>[]):=by
     intro ds
     induction ds with
     | nil=>intro xs r; rw[Aan.mp r]; exact .nil
     | cons d ds ih=>
      intro xs r
      obtain⟨y,t,rfl,h1,h2⟩:=Aah.mp r
      exact .cons ⟨rfl,h1⟩ (ih t h2)
    exact go _ _ rd
def QK (X:Cx)(N:List aC)(sc:iQ)(tg elt:aT)(ifs:List aT)(T:aA->List (Option aA)->Option (List (Option aA)))(t:BF)(f:EF):Prop:=
 ∀ (cl:List (aC×aD)) (C:aD) (s₀:aJ) (H₀:Hp) (ex:List aD),DGB (hJ X N sc cl C s₀ H₀ ex) tg T/\uB (hJ X N sc cl C s₀ H₀ ex) ifs (tTF X.K t)/\DE (hJ X N sc cl C s₀ H₀ ex) elt f
theorem iJ (hc:X.calm=true)(S:CompScope X N cap sc)(hT:TOk T)(hi:DI X tg iter fi)(hb:QK X N sc tg elt ifs T t f)(hs : ∀ x,tD iter X.env x=pure x:=by intro _; rfl) :
  DF 1 X (.ListComp elt [⟨tg,iter,ifs,0⟩] sc pos) (eLC cap fi T t f):=PE.imp (Fk hc S hi (g:=tGB X.K T) (tc:=tTF X.K t) (te:=tF X.K 0 f) hb hs) (PU hT)
theorem Vo(m:Md)(hc:X.calm=true)(hN:X.N.Nodup)(hi':X.N[i]?=some x)(hx:kA X.env.scope x)(S:CompScope X N cap sc)(hT:TOk T)(hi:DI X tg iter fi)(hb:QK X N sc tg elt ifs T t f)
  (hsw:mZ (.ListComp elt [⟨tg,iter,ifs,0⟩] sc pos) (some (.Name x px)) spos.line X.env=pure true:=by rfl)
  (hs : ∀ x,tD iter X.env x=pure x:=by intro _; rfl) (hf:X.fn x=true \/ X.env.scope.names.lookup x=some .local:=by first | exact .inl rfl | exact .inr rfl | assumption) :
  DS X H0 P0 n0 (.Assign [.Name x px] (.ListComp elt [⟨tg,iter,ifs,0⟩] sc pos) spos) (bP i 1 m (eLC cap fi T t f)):=PS.imp (Yd hc hN hi' hx S hi (g:=tGB X.K T) (tc:=tTF X.K t) (te:=tF X.K 0 f) hb hsw hs hf) fun D σ H gh=>by
 obtain⟨B0,ρ,fp,o,S,ef,k⟩:=gh
 obtain⟨d,e1,ef⟩:=XBs ef
 obtain⟨hl,rfl⟩:=cX ef
 refine PU hT σ H _ (OT m σ H _ ⟨B0,ρ,fp,d,S,e1,fun v H' t=>?_⟩)
 obtain⟨fp',S'⟩:=t.set hl
 exact k _ _ fp' S'
end
def outD:Option Out->Option aA
 | some (.rt d)=>some d
 | some (.nx _)=>some .none
 | _=>none
def fnD (np n:Nat)(body:SF):List aA->Option aA:=fun ds=>if ds.length=np then outD (body (ds.map (fun d=>some (0,d))++AY (n - np) none)) else none
def spF (K:aK)(n0:Nat)(F:List aA->Option aA):Sp:=fun vs H Q _=>∃ P ds d,Hid P H/\Aas K (hid H P) ds vs/\F ds=some d/\Res K P n0 d H Q
section
variable {P:bT}{base:aZ}
theorem eB{fd:gV}{k np:Nat}{body:SF}(F:Fun K x qual st f fd)(S:FnScope N ps (bX st))(hnp:np=ps.length)(hN:ps.length≤N.length)
  (hb : ∀ (cdv:aE) (A:cM) (outer:List Env) (s:aJ) (H:Hp) (E:XK) (P0:aD->Prop),Room k (A.deeper (pJ qual (bX st) s.heap.objs.size f cdv))->DSs (rP CX0 P w K mg base N qual (bX st) f cdv A outer s H E).nox H P0 n0 (kG st) body) :
  FnOk P w K mg base CX0 (k+1) f fd ps (spF K n0 (fnD np N.length body)):=by
 refine F.ok S (fun vs H Q E h=>?_) (fun cdv A outer s H vs Q E hr h=>?_)
 ·obtain⟨P,ds,d,_,r,ef,_⟩:=h
  unfold fnD at ef
  by_cases hl:ds.length=np
  ·rw[r.length,hl,hnp]
  ·rw[if_neg hl] at ef; cases ef
 ·obtain⟨P0,ds,d,hP,r,ef,k⟩:=h
  refine⟨_,hb cdv A outer s H E P0 hr,?_⟩
  unfold fnD at ef
  by_cases hl:ds.length=np
  case neg=>rw[if_neg hl] at ef; cases ef
  rw[if_pos hl] at ef
  rw[← hl] at ef
  have hlen:=r.length
  have S0:Sta K H P0 (hid H P0) (ds.map (fun d=>some (0,d))++AY (N.length - ds.length) none) (start N vs) H (fun _=>[]):=by
   have eH:Hd P0 (fun _=>[])=P0:=by
    funext a
    simp[Hd]
   refine⟨by simp[start,hlen],fun _=>.nil,fun i j a h=>by simp at h,fun i a h=>by simp at h,Ext.refl,hP,by rw[eH]; exact Ext.refl,fun i n' d' e=>?_⟩
   rw[eH]
   by_cases hi:i<ds.length
   ·rw[NR (by simpa using hi),dI] at e
    cases q:ds[i]? with
    | none=>rw[q] at e; simp at e
    | some d2=>
     rw[q] at e
     have e':0=n'/\d2=d':=by simpa using e
     obtain⟨rfl,rfl⟩:=e'
     obtain⟨v,h1,h2⟩:=r.get q
     refine⟨v,?_,rfl,h2⟩
     unfold start
     rw[NR (by rw[cV,hlen]; exact hi),dI,h1]
     rfl
   ·rw[d5 (by simpa using hi)] at e
    have:=fK e
    simp at this
  cases eb:body (ds.map (fun d=>some (0,d))++AY (N.length - ds.length) none) with
  | none=>rw[eb] at ef; cases ef
  | some o=>
   rw[eb] at ef
   refine⟨_,_,_,o,S0,eb,?_⟩
   cases o with
   | rt d'=>
    cases ef
    exact fun v H' ⟨Fr,h1,h2,h3,h4⟩=>k v H' Fr h1 h2 h3 h4
   | nx ρ'=>
    cases ef
    intro σ' H' fp' S'
    refine k .non H' [] S'.ext .nil (fun a m=>by simp at m) ?_
    cases n0 with
    | zero=>exact⟨rfl,Abt.mpr rfl⟩
    | succ n=>
     unfold Aie
     split
     ·exact .inl ⟨rfl,rfl,rfl⟩
     ·exact⟨rfl,Abt.mpr rfl⟩
   | bk _=>cases ef
   | ct _=>cases ef
variable {k np:Nat}{F:List aA->Option aA}{fa:AF}
theorem cJ (D:Def X.prog X.w X.K X.mg X.base x k ps (spF X.K n0 F))(hr:Room k X.A)(hg:Gl X x)(ha:DA X (e::es) fa)(hdb:(x == ("__debug__" : aC))=false:=by decide)(he:cC (e::es) X.env=(false,bY e X.env)::cC es X.env:=by rfl)
  (hpl:(fX pos (cC es X.env)).any (·.1)=false:=by rfl):DF n0 X (.Call (.Name x p) (e::es) [] pos) (aO F fa):=
 PE.imp (Jv D hr hg ha hdb he hpl) fun σ H Q gh=>by
  obtain⟨P,ρ,d,hP,rs,ef,k⟩:=gh
  obtain⟨ds,e1,ef⟩:=XBs ef
  refine⟨P,ρ,ds,hP,rs,e1,fun vs H1 x1 r1=>?_⟩
  show spF X.K n0 F (vs++[]) H1 Q E0
  rw[mG]
  exact⟨P,ds,d,hP.ext x1,r1,ef,k.mono x1⟩
end
def g2I (g:Int->Int->aA):aA->aA->Option aA
 | .int i,.int j=>some (g i j)
 | _,_=>none
def g2C (C:Int->Int->Prop)[∀ i j,Decidable (C i j)](g:Int->Int->aA):aA->aA->Option aA
 | .int i,.int j=>if C i j then some (g i j) else none
 | _,_=>none
theorem YI {g:Int->Int->V}{gd:Int->Int->aA}(h : ∀ i j H,Abk K H (gd i j) (g i j)):OpD K 0 (rI0 g) (g2I gd):=fun P H x y a b d Q hP ra rb e k=>by
 unfold g2I at e
 split at e
 ·rename_i i j
  cases e
  exact⟨i,j,Aaq.mp ra,Aaq.mp rb,k.zero Ext.refl (h i j _)⟩
 ·cases e
theorem AB {C C':Int->Int->Prop}[∀ i j,Decidable (C' i j)]{g:Int->Int->V}{gd:Int->Int->aA}(hC : ∀ i j,C' i j->C i j)(h : ∀ i j H,Abk K H (gd i j) (g i j)):OpD K 0 (rI C g) (g2C C' gd):=fun P H x y a b d Q hP ra rb e k=>by
 unfold g2C at e
 split at e
 ·rename_i i j
  obtain⟨hc,rfl⟩:=cX e
  exact⟨i,j,Aaq.mp ra,Aaq.mp rb,hC i j hc,k.zero Ext.refl (h i j _)⟩
 ·cases e
section
variable {a:aT}{fa fb fc:EF}
def oR:aA->aA->Option aA:=g2I fun i j=>.int (i - j)
theorem LP (ha:DE X a fa)(hb:DE X b fb):DE X (.BinOp a .Sub b pos) (eOp oR fa fb):=qB Gc (YI fun _ _ _=>Aaq.mpr rfl) ha hb
def jP:aA->aA->Option aA:=g2C (fun i j=>(i.natAbs<2 ^ 64 \/ j.natAbs<2 ^ 64) \/ (i.natAbs<2 ^ 1000/\j.natAbs<2 ^ 1000)) fun i j=>.int (i*j)
theorem VC:OpR X (kH .Mult) (rI (fun i j=>(i.natAbs<2 ^ 64 \/ j.natAbs<2 ^ 64) \/ (i.natAbs<2 ^ 1000/\j.natAbs<2 ^ 1000)) fun i j=>.int (i*j)):=by
 intro pins s σ H x y v u Q I rx ry h
 obtain⟨i,j,ex,ey,hc,q⟩:=h
 rcases hc with hc | hc
 ·refine Jc pins s σ H x y v u Q I rx ry ⟨i,j,ex,ey,?_,q⟩
  rcases hc with hc | hc
  ·exact .inl ⟨by omega,by omega⟩
  ·exact .inr ⟨by omega,by omega⟩
 ·exact Mj pins s σ H x y v u Q I rx ry ⟨i,j,ex,ey,hc,q⟩
theorem sI (ha:DE X a fa)(hb:DE X b fb):DE X (.BinOp a .Mult b pos) (eOp jP fa fb):=qB VC (AB (fun _ _ h=>h) fun _ _ _=>Aaq.mpr rfl) ha hb
def kN:aA->aA->Option aA:=g2C (fun _ j=>0<j/\j<1073741824) fun i j=>.int (i / j)
theorem sP (ha:DE X a fa)(hb:DE X b fb):DE X (.BinOp a .FloorDiv b pos) (eOp kN fa fb):=qB Kq (AB (fun _ _ h=>h) fun _ _ _=>Aaq.mpr rfl) ha hb
def fN:aA->aA->Option aA:=g2C (fun _ j=>0<j) fun i j=>.int (i%j)
theorem iW (ha:DE X a fa)(hb:DE X b fb):DE X (.BinOp a .Mod b pos) (eOp fN fa fb):=qB Gf (AB (fun _ _ h=>h) fun _ _ _=>Aaq.mpr rfl) ha hb
def qZ:aA->aA->Option aA:=g2C (fun i j=>0≤j/\j≤1000000/\i.natAbs<2 ^ 64) fun i j=>.int (i ^ j.toNat)
theorem YD (ha:DE X a fa)(hb:DE X b fb):DE X (.BinOp a .Pow b pos) (eOp qZ fa fb):=qB Ka (AB (fun _ _ h=>h) fun _ _ _=>Aaq.mpr rfl) ha hb
theorem Qj(hx:cR (.str x)=true)(hy:cR (.str y)=true):cR (.str (x++y))=true:=by
 have e:(x++y).cps=x.cps++y.cps:=rfl
 simp only[cR,PyData.strOk] at hx hy ⊢
 rw[e,Array.all_append,hx,hy]
 rfl
def dH:aA->aA->Option aA
 | .int i,.int j=>some (.int (i+j))
 | .str x,.str y=>if x.length+y.length≤sizeLine then some (.str (x++y)) else none
 | .tuple (x::xs),.tuple ys=>if (x::xs).length+ys.length≤sizeLine then some (.tuple ((x::xs)++ys)) else none
 | _,_=>none
theorem Nx:OpD K 0 (fun x y H Q=>rI0 (fun i j=>.int (i+j)) x y H Q \/ (∃ i j,x = .str i/\y = .str j/\i.length+j.length≤sizeLine/\Q (.str (i++j)) H) \/ GS K x y H Q) dH:=fun P H x y a b d Q hP ra rb e k=>by
 unfold dH at e
 split at e
 ·rename_i i j
  cases e
  exact .inl ⟨i,j,Aaq.mp ra,Aaq.mp rb,k.zero Ext.refl (Aaq.mpr rfl)⟩
 ·rename_i i j
  obtain⟨hc,rfl⟩:=cX e
  exact .inr (.inl ⟨i,j,(Aa7.mp ra).1,(Aa7.mp rb).1,hc,k.zero Ext.refl (Aa7.mpr ⟨rfl,Qj (Aa7.mp ra).2 (Aa7.mp rb).2⟩)⟩)
 ·rename_i z zs ys
  obtain⟨hc,rfl⟩:=cX e
  obtain⟨p,us,rfl,hp,r1⟩:=Aap.mp ra
  obtain⟨q,ws,rfl,hq,r2⟩:=Aap.mp rb
  have l1:=r1.length
  have l2:=r2.length
  refine .inr (.inr ⟨p,q,us,ws,rfl,rfl,SqT.of (Aau _ _ hp),SqT.of (Aau _ _ hq),fun z=>by rw[z] at l1; simp at l1,by rw[l1,l2]; exact hc,fun z=>?_,fun z r hr=>?_⟩)
  ·subst z
   have:ys=[]:=by simpa using l2.symm
   subst this
   refine k.zero Ext.refl ?_
   rw[mG]
   exact ra
  ·exact k.tup hP hr (r1.append r2)
 ·cases e
theorem eX (ha:DE X a fa)(hb:DE X b fb):DE X (.BinOp a .Add b pos) (eOp dH fa fb):=qB (Bfe.or (Axe.or A0i)) Nx ha hb
mutual
def noDict:aA->Bool
 | .dict _=>false
 | .list ds=>noDicts ds
 | .tuple ds=>noDicts ds
 | _=>true
def noDicts:List aA->Bool
 | []=>true
 | d::r=>noDict d&&noDicts r
end
mutual
theorem kU {X:Cx}(I:Inv X pins σ H s) : ∀ {d:aA} {v:V} {u:aE},noDict d=true->Abk X.K H d v->RelV v u->d.canLay0=true /\ ∃ as,pN s.heap u d as
 | .none,v,u,_,h,r=>by
  obtain rfl:=Abt.mp h
  cases r; exact⟨by simp[cR],_,.none⟩
 | .bool b,v,u,_,h,r=>by
  obtain rfl:=Aax.mp h
  cases r; exact⟨by simp[cR],_,.bool b⟩
 | .int i,v,u,_,h,r=>by
  obtain rfl:=Aaq.mp h
  obtain⟨t,rfl⟩:=r; exact⟨by simp[cR],_,.int i t⟩
 | .str x,v,u,_,h,r=>by
  obtain⟨rfl,hl⟩:=Aa7.mp h
  obtain⟨t,rfl⟩:=r; exact⟨hl,_,.str x t⟩
 | .list ds,v,u,n,h,r=>by
  obtain⟨a,xs,rfl,hs,hr⟩:=Abl.mp h
  cases r
  obtain⟨its,rv,⟨o,m,e,hc,_,hd⟩,_⟩:=I.list hs
  obtain⟨hl,as,ha⟩:=KP I (by simpa [noDict] using n) hr rv
  exact⟨by simpa [cR] using hl,_,.list e hc hd (by simpa using ha)⟩
 | .tuple ds,v,u,n,h,r=>by
  obtain⟨a,xs,rfl,hs,hr⟩:=Aap.mp h
  cases r
  obtain⟨its,rv,⟨o,e,hc,m,hd⟩,_⟩:=I.tuple (SqT.of hs)
  obtain⟨hl,as,ha⟩:=KP I (by simpa [noDict] using n) hr rv
  exact⟨by simpa [cR] using hl,_,.tuple e hc hd (by simpa using ha)⟩
 | .dict _,_,_,n,h,_=>by simp[noDict] at n
theorem KP {X:Cx}(I:Inv X pins σ H s) : ∀ {ds:List aA} {vs:List V} {us:List aE},noDicts ds=true->Aas X.K H ds vs->Vals vs us->AS ds=true /\ ∃ as,pM s.heap us ds as
 | [],vs,us,_,h,r=>by
  obtain rfl:=Aan.mp h
  cases r; exact⟨by simp[AS],_,.nil⟩
 | d::ds,vs,us,n,h,r=>by
  have n':noDict d=true/\noDicts ds=true:=by simpa [noDicts] using n
  obtain⟨x,rr,rfl,h1,h2⟩:=Aah.mp h
  cases r with
  | cons r1 r2=>
   obtain⟨l1,as,ha⟩:=kU I n'.1 h1 r1
   obtain⟨l2,bs,hb⟩:=KP I n'.2 h2 r2
   exact⟨by simp[AS,l1,l2],_,.cons ha hb⟩
end
def dE (d:aA):Bool:=noDict d&&decide (d.depth≤60)
def gEq:aA->aA->Option aA:=fun a b=>if (dE a&&dE b)=true then some (.bool (cK a b)) else none
def gNe:aA->aA->Option aA:=fun a b=>if (dE a&&dE b)=true then some (.bool (!cK a b)) else none
def BQ (K:aK)(neg:Bool):R2:=fun x y H Q=>∃ da db,Abk K H da x/\Abk K H db y/\dE da=true/\dE db=true/\Q (.bl (neg != cK da db)) H
theorem sH (hu:X.A.units+100<cLine):OpR X (iC .Eq) (BQ X.K false):=by
 intro pins s σ H x y v u Q I rx ry h
 obtain⟨da,db,ra,rb,fa,fb,q⟩:=h
 have fa':noDict da=true/\da.depth≤60:=by simpa [dE] using fa
 have fb':noDict db=true/\db.depth≤60:=by simpa [dE] using fb
 obtain⟨la,as,ra⟩:=kU I fa'.1 ra rx
 obtain⟨lb,bs,rb⟩:=kU I fb'.1 rb ry
 exact SeqAt.compareEq_reads ra rb la lb (by omega) ⟨.bl _,H,I,rfl,by simpa using q⟩
theorem LS (hu:X.A.units+100<cLine):OpR X (iC .NotEq) (BQ X.K true):=by
 intro pins s σ H x y v u Q I rx ry h
 obtain⟨da,db,ra,rb,fa,fb,q⟩:=h
 have fa':noDict da=true/\da.depth≤60:=by simpa [dE] using fa
 have fb':noDict db=true/\db.depth≤60:=by simpa [dE] using fb
 obtain⟨la,as,ra⟩:=kU I fa'.1 ra rx
 obtain⟨lb,bs,rb⟩:=kU I fb'.1 rb ry
 exact SeqAt.compareNe_reads ra rb la lb (by omega) ⟨.bl _,H,I,rfl,by simpa using q⟩
theorem sJ:OpD K 0 (BQ K false) gEq:=fun P H x y a b d Q hP ra rb e k=>by
 obtain⟨hc,rfl⟩:=cX e
 have hc':dE a=true/\dE b=true:=by simpa using hc
 exact⟨a,b,ra.ext Aau,rb.ext Aau,hc'.1,hc'.2,k.zero Ext.refl (Aax.mpr (by simp))⟩
theorem LZ:OpD K 0 (BQ K true) gNe:=fun P H x y a b d Q hP ra rb e k=>by
 obtain⟨hc,rfl⟩:=cX e
 have hc':dE a=true/\dE b=true:=by simpa using hc
 exact⟨a,b,ra.ext Aau,rb.ext Aau,hc'.1,hc'.2,k.zero Ext.refl (Aax.mpr (by simp))⟩
def GC (K:aK)(neg:Bool):R2:=fun x y H Q=>∃ d ds,Abk K H d x/\(Abk K H (.list ds) y \/ Abk K H (.tuple ds) y)/\dE d=true/\noDicts ds=true/\Q (.bl (neg != ds.any fun z=>cK z d)) H
theorem Jf (hu:X.A.units+100<cLine):OpR X (iC .In) (GC X.K false):=by
 intro pins s σ H x y v u Q I rx ry h
 obtain⟨d,ds,ra,rb,fa,fb,q⟩:=h
 have fa':noDict d=true/\d.depth≤60:=by simpa [dE] using fa
 obtain⟨la,as,ra⟩:=kU I fa'.1 ra rx
 rcases rb with rb | rb
 ·obtain⟨lb,bs,rb⟩:=kU I (by simpa [noDict] using fb) rb ry
  exact SeqAt.in_list_reads rb ra (by simpa [cR] using lb) la (by omega) ⟨.bl _,H,I,rfl,by simpa using q⟩
 ·obtain⟨lb,bs,rb⟩:=kU I (by simpa [noDict] using fb) rb ry
  exact SeqAt.in_tuple_reads rb ra (by simpa [cR] using lb) la (by omega) ⟨.bl _,H,I,rfl,by simpa using q⟩
theorem a7 (hu:X.A.units+100<cLine):OpR X (iC .NotIn) (GC X.K true):=by
 intro pins s σ H x y v u Q I rx ry h
 obtain⟨d,ds,ra,rb,fa,fb,q⟩:=h
 have fa':noDict d=true/\d.depth≤60:=by simpa [dE] using fa
 obtain⟨la,as,ra⟩:=kU I fa'.1 ra rx
 rcases rb with rb | rb
 ·obtain⟨lb,bs,rb⟩:=kU I (by simpa [noDict] using fb) rb ry
  exact SeqAt.notIn_list_reads rb ra (by simpa [cR] using lb) la (by omega) ⟨.bl _,H,I,rfl,by simpa using q⟩
 ·obtain⟨lb,bs,rb⟩:=kU I (by simpa [noDict] using fb) rb ry
  exact SeqAt.notIn_tuple_reads rb ra (by simpa [cR] using lb) la (by omega) ⟨.bl _,H,I,rfl,by simpa using q⟩
end
theorem PE.or{t t':TE}(h:PE X e t)(h':PE X e t'):PE X e (fun σ H Q=>t σ H Q \/ t' σ H Q):=fun pins s σ H Q I q=>q.elim (h pins s σ H Q I) (h' pins s σ H Q I)
def gLt:aA->aA->Option aA
 | .int i,.int j=>some (.bool (decide (i<j)))
 | .str i,.str j=>some (.bool (decide (i.cps.toList<j.cps.toList)))
 | _,_=>none
def gLe:aA->aA->Option aA
 | .int i,.int j=>some (.bool (decide (i≤j)))
 | .str i,.str j=>some (.bool (!(decide (j.cps.toList<i.cps.toList))))
 | _,_=>none
def gGt:aA->aA->Option aA:=g2I fun i j=>.bool (decide (j<i))
def gGe:aA->aA->Option aA:=g2I fun i j=>.bool (decide (j≤i))
theorem Ij:OpD K 0 (fun x y H Q=>rI0 (fun i j=>.bl (decide (i<j))) x y H Q \/ ∃ i j,x = .str i/\y = .str j/\Q (.bl (decide (i.cps.toList<j.cps.toList))) H) gLt:=fun P H x y a b d Q hP ra rb e k=>by
 unfold gLt at e
 split at e
 ·cases e
  exact .inl ⟨_,_,Aaq.mp ra,Aaq.mp rb,k.zero Ext.refl (Aax.mpr rfl)⟩
 ·cases e
  exact .inr ⟨_,_,(Aa7.mp ra).1,(Aa7.mp rb).1,k.zero Ext.refl (Aax.mpr rfl)⟩
 ·cases e
theorem QU:OpD K 0 (rI0 fun i j=>.bl (decide (j<i))) gGt:=YI fun _ _ _=>Aax.mpr rfl
def xH:aA->aA->Option aA
 | .none,.none=>some (.bool true)
 | _,.none=>some (.bool false)
 | _,_=>none
def nO:aA->aA->Option aA
 | .none,.none=>some (.bool false)
 | _,.none=>some (.bool true)
 | _,_=>none
theorem UZ{a:aA}{x:V}(r:Abk K H a x):decide (x = .non)=(match a with | .none=>true | _=>false):=by
 cases a with
 | none=>obtain rfl:=Abt.mp r; rfl
 | bool b=>obtain rfl:=Aax.mp r; rfl
 | int b=>obtain rfl:=Aaq.mp r; rfl
 | str b=>obtain⟨rfl,_⟩:=Aa7.mp r; rfl
 | list b=>obtain⟨_,_,rfl,_⟩:=Abl.mp r; rfl
 | tuple b=>obtain⟨_,_,rfl,_⟩:=Aap.mp r; rfl
 | dict b=>obtain⟨_,rfl,_⟩:=Adp.mp r; rfl
theorem Ks:OpD K 0 (fun x y H Q=>y = .non/\Q (.bl (decide (x = .non))) H) xH:=fun P H x y a b d Q hP ra rb e k=>by
 have q:=UZ ra
 unfold xH at e
 split at e
 ·cases e
  exact⟨Abt.mp rb,k.zero Ext.refl (Aax.mpr (by rw[q]))⟩
 ·rename_i h
  cases e
  refine⟨Abt.mp rb,k.zero Ext.refl (Aax.mpr ?_)⟩
  rw[q]
  cases a <;> first | rfl | exact(h rfl).elim
 ·cases e
theorem DC:OpD K 0 (fun x y H Q=>y = .non/\Q (.bl (!decide (x = .non))) H) nO:=fun P H x y a b d Q hP ra rb e k=>by
 have q:=UZ ra
 unfold nO at e
 split at e
 ·cases e
  exact⟨Abt.mp rb,k.zero Ext.refl (Aax.mpr (by rw[q]; rfl))⟩
 ·rename_i h
  cases e
  refine⟨Abt.mp rb,k.zero Ext.refl (Aax.mpr ?_)⟩
  rw[q]
  cases a <;> first | rfl | exact(h rfl).elim
 ·cases e
def cL:aA->Option aI
 | .int i=>some (.inl i)
 | .str x=>some (.inr x)
 | _=>none
theorem KF(h:cL d=some k):d=kD k:=by
 cases d <;> simp[cL] at h <;> subst h <;> rfl
def cN (kds:List (aA×aA))(k:aI):Option aA:=(kds.find? fun kd=>decide (cL kd.1=some k)).map (·.2)
theorem vC (k:aI):cL (kD k)=some k:=by cases k <;> rfl
theorem vH : ∀ {kds:List (aA×aA)} {kvs:List (aI×V)},Ab2 K H kds kvs->(cN kds k=none/\fV kvs k=none) \/ ∃ d v,cN kds k=some d/\fV kvs k=some v/\Abk K H d v
 | [],kvs,h=>by rw[Ab6.mp h]; exact .inl ⟨rfl,rfl⟩
 | (k0,d)::r,kvs,h=>by
  obtain⟨k',x,rr,rfl,rfl,h1,h2⟩:=Aba.mp h
  by_cases e:k'=k
  ·refine .inr ⟨d,x,?_,yQ e,h1⟩
   simp[cN,iT,vC,e]
  ·have e1:cN ((kD k',d)::r) k=cN r k:=by simp[cN,iT,vC,e]
   rw[e1,yR e]
   exact vH h2
theorem WU : ∀ {kds:List (aA×aA)} {kvs:List (List aA×V)},Abq K H kds kvs->cN kds k=none
 | [],kvs,h=>rfl
 | (k0,d)::r,kvs,h=>by
  obtain⟨k',x,rr,rfl,⟨rfl,_⟩,h1,h2⟩:=Abe.mp h
  have e1:cN ((.tuple k',d)::r) k=cN r k:=by simp[cN,iT,cL]
  rw[e1]
  exact WU h2
theorem Uy(h:Abk K H (.dict kds) v)(e:cN kds k=some d) : ∃ a,∃ kvs:Nat×List (aI×V),v = .ref a/\H a=some (.dK kvs.1 kvs.2)/\Ab2 K H kds kvs.2:=by
 obtain⟨a,ev,⟨kvs,h1,r⟩ | ⟨ts,h1,r⟩ | ⟨xs,h1,r⟩⟩:=Adp.mp h
 case inr.inr=>
  obtain⟨es,rfl,_⟩:=JM r
  cases e
 ·exact⟨a,kvs,ev,h1,r⟩
 ·cases kds with
  | nil=>simp[Ayb] at r
  | cons p q=>
   obtain⟨k0,m⟩:=p
   obtain⟨rfl,r2⟩:=Afk.mp r
   have e1:cN ((.none,m)::q) k=cN q k:=by simp[cN,iT,cL]
   rw[e1,WU r2] at e
   cases e
def iI (kds:List (aA×aA))(k:List aA):Option aA:=(kds.find? fun kd=>cK kd.1 (.tuple k)).map (·.2)
theorem ZU (a b:List aA):cK (.tuple a) (.tuple b)=AR a b:=by simp[cK]
theorem DY {a k:List aA}{r:List (aA×aA)}(ha:bU a=true)(hk:bU k=true):iI ((.tuple a,d)::r) k=if a=k then some d else iI r k:=by
 have e:cK (.tuple a) (.tuple k)=decide (a=k):=by rw[ZU,yX _ _ ha hk]
 unfold iI
 rw[iT,e]
 by_cases h:a=k
 ·rw[if_pos h,decide_eq_true h]; rfl
 ·rw[if_neg h,decide_eq_false h]
theorem yW{k:List aA}(hk:bU k=true) : ∀ {kds:List (aA×aA)} {kvs:List (List aA×V)},Abq K H kds kvs->(iI kds k=none/\fV kvs k=none) \/ ∃ d v,iI kds k=some d/\fV kvs k=some v/\Abk K H d v
 | [],kvs,h=>by rw[Ach.mp h]; exact .inl ⟨rfl,rfl⟩
 | (k0,d)::r,kvs,h=>by
  obtain⟨k',x,rr,rfl,⟨rfl,hk'⟩,h1,h2⟩:=Abe.mp h
  rw[DY hk' hk]
  by_cases e:k'=k
  ·rw[if_pos e]
   exact .inr ⟨d,x,rfl,yQ e,h1⟩
  ·rw[if_neg e,yR e]
   exact yW hk h2
def putD (kds:List (aA×aA))(k:aI)(d:aA):List (aA×aA):=
 if (kds.any fun kd=>decide (cL kd.1=some k))=true then kds.map fun kd=>if cL kd.1=some k then(kd.1,d) else kd else kds++[(kD k,d)]
theorem Ao : ∀ {kds:List (aA×aA)} {kvs:List (aI×V)},Ab2 K H kds kvs->(kds.any fun kd=>decide (cL kd.1=some k))=kvs.any fun kv=>decide (kv.1=k)
 | [],kvs,h=>by rw[Ab6.mp h]; rfl
 | (k0,d)::r,kvs,h=>by
  obtain⟨k',x,rr,rfl,rfl,h1,h2⟩:=Aba.mp h
  rw[xA,xA,Ao h2,vC]
  simp
theorem JE(rv:Abk K H d v) : ∀ {kds:List (aA×aA)} {kvs:List (aI×V)},Ab2 K H kds kvs ->
  Ab2 K H (kds.map fun kd=>if cL kd.1=some k then(kd.1,d) else kd) (kvs.map fun kv=>if kv.1=k then(kv.1,v) else kv)
 | [],kvs,h=>by rw[Ab6.mp h]; exact Ab6.mpr rfl
 | (k0,d0)::r,kvs,h=>by
  obtain⟨k',x,rr,rfl,rfl,h1,h2⟩:=Aba.mp h
  rw[dF,dF]
  by_cases e:k'=k
  ·rw[if_pos (show cL (kD k',d0).1=some k by rw[vC,e]),if_pos (show(k',x).1=k from e)]
   exact Aba.mpr ⟨k',v,_,rfl,rfl,rv,JE rv h2⟩
  ·rw[if_neg (show ¬ cL (kD k',d0).1=some k by rw[vC]; simpa using e),if_neg (show ¬ (k',x).1=k from e)]
   exact Aba.mpr ⟨k',x,_,rfl,rfl,h1,JE rv h2⟩
theorem Ab2.snoc(rv:Abk K H d v) : ∀ {kds:List (aA×aA)} {kvs:List (aI×V)},Ab2 K H kds kvs->Ab2 K H (kds++[(kD k,d)]) (kvs++[(k,v)])
 | [],kvs,h=>by rw[Ab6.mp h]; exact Aba.mpr ⟨k,v,[],rfl,rfl,rv,Ab6.mpr rfl⟩
 | (k0,d0)::r,kvs,h=>by
  obtain⟨k',x,rr,rfl,rfl,h1,h2⟩:=Aba.mp h
  exact Aba.mpr ⟨k',x,_,rfl,rfl,h1,Ab2.snoc rv h2⟩
theorem HJ{kvs:List (aI×V)}(h:Ab2 K H kds kvs)(rv:Abk K H d v):Ab2 K H (putD kds k d) (putK kvs k v):=by
 unfold putD putK
 rw[Ao h]
 by_cases q:(kvs.any fun kv=>decide (kv.1=k))=true
 ·rw[if_pos q,if_pos q]; exact JE rv h
 ·rw[if_neg q,if_neg q]; exact Ab2.snoc rv h
theorem Ab2.length : ∀ {kds:List (aA×aA)} {kvs:List (aI×V)},Ab2 K H kds kvs->kvs.length=kds.length
 | [],kvs,h=>by rw[Ab6.mp h]; rfl
 | (k0,d0)::r,kvs,h=>by
  obtain⟨k',x,rr,rfl,rfl,h1,h2⟩:=Aba.mp h
  rw[fL,fL,Ab2.length h2]
theorem pA{x:V}(h:cL d=some k)(r:Abk K H d x):x=kV k:=by
 rw[KF h] at r
 exact Rm r
def gIx:aA->aA->Option aA
 | .list ds,.int i=>atI ds i
 | .tuple ds,.int i=>atI ds i
 | .str z,.int i=>if z.length≤sizeLine then(atI z.cps.toList i).bind fun c=>some (.str ⟨#[c]⟩) else none
 | .dict kds,d=>(cL d).bind fun k=>cN kds k
 | _,_=>none
theorem Aj{i:Int}(r:Aas K H ds xs)(h:atI ds i=some d) : ∃ v,atI xs i=some v/\Abk K H d v:=by
 unfold atI at h ⊢
 rw[r.length]
 obtain⟨j,h1,h2⟩:=XBs h
 obtain⟨v,h3,h4⟩:=r.get h2
 exact⟨v,by rw[h1]; exact h3,h4⟩
theorem Nc {α:Type}{xs:List α}{i:Int}{x:α}(h:atI xs i=some x) : ∃ j:Nat,xs[j]?=some x:=by
 unfold atI at h
 obtain⟨j,h1,h2⟩:=XBs h
 exact⟨j,h2⟩
section
variable {a:aT}{fa fb f:EF}
theorem dC (hu:X.A.units+40<cLine)(ha:DE X a fa)(hb:DE X b fb)(hs:CT b):DE X (.Subscript a b pos) (eOp gIx fa fb):=PE.imp (PE.or (PN QN ha hb hs) (RF hu ha hb hs)) fun σ H Q h=>by
 obtain⟨P,ρ,d,hP,rs,ef,k⟩:=h
 obtain⟨d1,e1,ef2⟩:=XBs ef
 obtain⟨d2,e2,ef3⟩:=XBs ef2
 clear ef ef2
 have seq:(∀ (H2:Hp) (v u:V),Ext H H2->Abk X.K (hid H2 P) d1 v->Abk X.K (hid H2 P) d2 u->rIx X.K v u H2 Q)->tOp (rIx X.K) (tF X.K 0 fa) (tF X.K 0 fb) σ H Q:=fun z=>
  ⟨P,ρ,d1,hP,rs,e1,dU fun v H1 x1 r1=>⟨P,ρ,d2,hP.ext x1,rs.ext (dD x1),e2,dU fun u H2 x2 r2=>z H2 v u (x1.trans x2) (r1.ext (dD x2)) r2⟩⟩
 cases d1 with
 | list ds=>
  cases d2 with
  | int i=>
   refine .inl (seq fun H2 v u x r1 r2=>.inl ?_)
   obtain⟨q,xs,rfl,hq,rr⟩:=Abl.mp r1
   obtain⟨w,h1,h2⟩:=Aj rr (show atI ds i=some d from ef3)
   exact⟨q,xs,i,w,rfl,Aaq.mp r2,Aau.sqL hq,h1,k.zero x h2⟩
  | _=>cases ef3
 | tuple ds=>
  cases d2 with
  | int i=>
   refine .inl (seq fun H2 v u x r1 r2=>.inr (.inl ?_))
   obtain⟨q,xs,rfl,hq,rr⟩:=Aap.mp r1
   obtain⟨w,h1,h2⟩:=Aj rr (show atI ds i=some d from ef3)
   exact⟨q,xs,i,w,rfl,Aaq.mp r2,SqT.of (Aau _ _ hq),h1,k.zero x h2⟩
  | _=>cases ef3
 | str z=>
  cases d2 with
  | int i=>
   have ef3:(if z.length≤sizeLine then(atI z.cps.toList i).bind fun c=>some (.str ⟨#[c]⟩) else none)=some d:=ef3
   by_cases hz:z.length≤sizeLine
   ·rw[if_pos hz] at ef3
    obtain⟨c,h1,h2⟩:=XBs ef3
    cases h2
    obtain⟨j,hj⟩:=Nc h1
    refine .inl (seq fun H2 v u x r1 r2=>.inr (.inr ⟨z,i,c,(Aa7.mp r1).1,Aaq.mp r2,hz,h1,k.zero x (Aa7.mpr ⟨rfl,IH (Aa7.mp r1).2 hj⟩)⟩))
   ·rw[if_neg hz] at ef3; cases ef3
  | _=>cases ef3
 | dict kds=>
  obtain⟨kk,h1,h2⟩:=XBs (show((cL d2).bind fun k=>cN kds k)=some d by cases d2 <;> exact ef3)
  refine .inr ⟨P,ρ,_,hP,rs,e1,dU fun v H1 x1 r1=>⟨P,ρ,d2,hP.ext x1,rs.ext (dD x1),e2,dU fun u H2 x2 r2=>?_⟩⟩
  obtain⟨q,kvs,rfl,hq,rr⟩:=Uy (r1.ext (dD x2)) h2
  rcases vH (k:=kk) rr with⟨n1,_⟩ | ⟨d',v',s1,s2,rd⟩
  ·rw[h2] at n1; cases n1
  ·rw[h2] at s1
   cases s1
   refine⟨q,v',rfl,.inl ⟨kvs.1,kvs.2,kk,.inl (Aau _ _ hq),pA h1 r2,s2.symm⟩,k.zero (x1.trans x2) rd⟩
 | _=>cases d2 <;> cases ef3
def OX (neg:Bool):aA->List (aA×aA)->Option aA
 | .tuple _,(_,.list _)::_=>none
 | .tuple k,(_,_)::kds=>if (bU k&&decide (cZ k≤6))=true then some (.bool (neg != (iI kds k).isSome)) else none
 | _,_=>none
def gIn (neg:Bool):aA->aA->Option aA
 | d,.list ds=>if (dE d&&noDicts ds)=true then some (.bool (neg != ds.any fun z=>cK z d)) else none
 | d,.tuple ds=>if (dE d&&noDicts ds)=true then some (.bool (neg != ds.any fun z=>cK z d)) else none
 | .str i,.str j=>some (.bool (neg != !(OC j i 0 j.length 1).isEmpty))
 | d,.dict kds=>if plK kds=true then(cL d).bind fun k=>some (.bool (neg != (cN kds k).isSome)) else OX neg d kds
 | _,_=>none
def LW (K:aK)(neg:Bool):R2:=fun x y H Q=>GC K neg x y H Q \/ (∃ i j,x = .str i/\y = .str j/\Q (.bl (neg != !(OC j i 0 j.length 1).isEmpty)) H) \/ ∃ a o,y = .ref a/\A4k H a x o/\Q (.bl (neg != o.isSome)) H
theorem IF (hu:X.A.units+100<cLine):OpR X (iC .In) (LW X.K false):=by
 intro pins s σ H x y v u Q I rx ry h
 rcases h with h | ⟨i,j,ex,ey,q⟩ | ⟨a,o,rfl,g,q⟩
 ·exact Jf hu pins s σ H x y v u Q I rx ry h
 ·exact Zv pins s σ H x y v u Q I rx ry ⟨i,j,ex,ey,by simpa using q⟩
 ·cases ry
  exact Dt (by omega) I g rx fun s' I'=>⟨.bl _,H,I',rfl,by simpa using q⟩
theorem Ta (hu:X.A.units+100<cLine):OpR X (iC .NotIn) (LW X.K true):=by
 intro pins s σ H x y v u Q I rx ry h
 rcases h with h | ⟨i,j,ex,ey,q⟩ | ⟨a,o,rfl,g,q⟩
 ·exact a7 hu pins s σ H x y v u Q I rx ry h
 ·exact Ts pins s σ H x y v u Q I rx ry ⟨i,j,ex,ey,by simpa using q⟩
 ·cases ry
  exact Kg (by omega) I g rx fun s' I'=>⟨.bl _,H,I',rfl,by simpa using q⟩
theorem CC{neg:Bool}:OpD K 0 (LW K neg) (gIn neg):=fun P H x y a b d Q hP ra rb e k=>by
 unfold gIn at e
 split at e
 ·obtain⟨hc,rfl⟩:=cX e
  have hc':=iU.mp hc
  exact .inl ⟨a,_,ra.ext Aau,.inl (rb.ext Aau),hc'.1,hc'.2,k.zero Ext.refl (Aax.mpr rfl)⟩
 ·obtain⟨hc,rfl⟩:=cX e
  have hc':=iU.mp hc
  exact .inl ⟨a,_,ra.ext Aau,.inr (rb.ext Aau),hc'.1,hc'.2,k.zero Ext.refl (Aax.mpr rfl)⟩
 ·cases e
  exact .inr (.inl ⟨_,_,(Aa7.mp ra).1,(Aa7.mp rb).1,k.zero Ext.refl (Aax.mpr rfl)⟩)
 ·rename_i kds
  by_cases pk:plK kds=true
  case neg=>
   rw[if_neg pk] at e
   have ek : ∃ m r,kds=(.none,m)::r:=by
    cases kds with
    | nil=>simp[plK] at pk
    | cons p r=>
     obtain⟨k0,m⟩:=p
     cases k0 <;> simp[plK] at pk
     exact⟨m,r,rfl⟩
   obtain⟨m,r,rfl⟩:=ek
   cases a with
   | tuple kk=>
    have hm : ∀ es,m ≠ .list es:=by
     rintro es rfl
     cases e
    replace e:(if (bU kk&&decide (cZ kk≤6))=true then some (mB (neg != (iI r kk).isSome)) else none)=some d:=by
     cases m with
     | list es=>exact absurd rfl (hm es)
     | _=>exact e
    obtain⟨hc,rfl⟩:=cX e
    have hc':bU kk=true/\cZ kk≤6:=by simpa using hc
    obtain⟨q,ts,rfl,hq,rr⟩:=(mU hm).mp rb
    obtain⟨b,xs,rfl,hb,rx⟩:=Aap.mp (ra.ext Aau)
    refine .inr (.inr ⟨q,fV ts.2 kk,rfl,.inr ⟨ts.2,kk,b,⟨_,.inl (Aau _ _ hq)⟩,rfl,⟨hc'.1,hc'.2,xs,hb,Aas.keys kk hc'.1 rx⟩,rfl⟩,k.zero Ext.refl (Aax.mpr ?_)⟩)
    rcases yW hc'.1 rr with⟨n1,n2⟩ | ⟨d',v',s1,s2,rd⟩
    ·rw[n1,n2]; rfl
    ·rw[s1,s2]; rfl
   | _=>simp[OX] at e
  rw[if_pos pk] at e
  obtain⟨kk,h1,h2⟩:=XBs e
  cases h2
  obtain⟨q,kvs,rfl,hq,rr⟩:=(oX pk).mp rb
  refine .inr (.inr ⟨q,fV kvs.2 kk,rfl,.inl ⟨kvs.1,kvs.2,kk,.inl (Aau _ _ hq),pA h1 ra,rfl⟩,k.zero Ext.refl (Aax.mpr ?_)⟩)
  rcases vH (k:=kk) rr with⟨n1,n2⟩ | ⟨d',v',s1,s2,rd⟩
  ·rw[n1,n2]; rfl
  ·rw[s1,s2]; rfl
 ·cases e
end
def dS:List aA->Option aA
 | [.list ds]=>some (.int ds.length)
 | [.tuple ds]=>some (.int ds.length)
 | [.dict kds]=>if plK kds=true then some (.int kds.length) else none
 | [.str z]=>if z.length≤sizeLine then some (.int z.length) else none
 | _=>none
theorem fQ(r:Aas K H [d] xs) : ∃ v,xs=[v]/\Abk K H d v:=by
 obtain⟨v,t,rfl,h1,h2⟩:=Aah.mp r
 obtain rfl:=Aan.mp h2
 exact⟨v,rfl,h1⟩
section
def OU (K:aK):List V->Hp->VK->Prop:=fun xs H Q=>(∃ p ys,xs=[.ref p]/\(SqL K H p ys \/ SqT K H p ys)/\Q (.int ys.length) H) \/ (∃ z,xs=[.str z]/\z.length≤sizeLine/\Q (.int z.length) H) \/ ∃ a ep kvs,xs=[V.ref a]/\H a=some (.dK ep kvs)/\Q (.int kvs.length) H
theorem kX:Adz X (.builtin "len") (OU X.K):=Asu.or (Arq.or Ym)
theorem kW:CallD K 0 (OU K) dS:=fun P H xs ds d Q hP r e k=>by
 unfold dS at e
 split at e
 ·cases e
  obtain⟨v,rfl,r'⟩:=fQ r
  replace r:=r'
  obtain⟨q,ys,rfl,hq,rr⟩:=Abl.mp r
  exact .inl ⟨q,ys,rfl,.inl (Aau.sqL hq),k.zero Ext.refl (Aaq.mpr (by rw[rr.length]))⟩
 ·cases e
  obtain⟨v,rfl,r'⟩:=fQ r
  replace r:=r'
  obtain⟨q,ys,rfl,hq,rr⟩:=Aap.mp r
  exact .inl ⟨q,ys,rfl,.inr (SqT.of (Aau _ _ hq)),k.zero Ext.refl (Aaq.mpr (by rw[rr.length]))⟩
 ·obtain⟨pk,rfl⟩:=cX e
  obtain⟨v,rfl,r'⟩:=fQ r
  replace r:=r'
  obtain⟨q,ys,rfl,hq,rr⟩:=(oX pk).mp r
  exact .inr (.inr ⟨q,ys.1,ys.2,rfl,Aau _ _ hq,k.zero Ext.refl (Aaq.mpr (by rw[rr.length]))⟩)
 ·obtain⟨hz,rfl⟩:=cX e
  obtain⟨v,rfl,r'⟩:=fQ r
  replace r:=r'
  exact .inr (.inl ⟨_,by rw[(Aa7.mp r).1],hz,k.zero Ext.refl (Aaq.mpr rfl)⟩)
 ·cases e
def lF:aA->String
 | .none=>"NoneType"
 | .bool _=>"bool"
 | .int _=>"int"
 | .str _=>"str"
 | .list _=>"list"
 | .tuple _=>"tuple"
 | .dict _=>"dict"
def TX:List String:=["int","bool","str","list","tuple","dict"]
theorem Pr (d:aA):lF d∈kinds:=by cases d <;> simp[lF,kinds]
theorem Oh:Adz X (.builtin "isinstance") (fun xs H Q=>∃ x T d,xs=[x,.ty T]/\Abk X.K H d x/\T∈TX/\Q (.bl (isK (lF d) T)) H):=by
 intro pins s σ H xs us Q I r h
 obtain⟨x,T,d,rfl,rd,hT,q⟩:=h
 have ek:=Mw (Pr d) hT
 have by_ty:TyOf X.K H x (.type (lF d))->aM (aU X.prog X.w) X.A (call (.builtin "isinstance") us) (EP X pins σ Q) X.xe s:=fun ty=>
  Sz pins s σ H _ us Q I r ⟨x,T,_,isK (lF d) T,rfl,ty,Alq.trans ek,q⟩
 cases d with
 | none=>obtain rfl:=Abt.mp rd; exact by_ty .non
 | bool b=>obtain rfl:=Aax.mp rd; exact by_ty (.bl _)
 | int b=>obtain rfl:=Aaq.mp rd; exact by_ty (.int _)
 | str b=>obtain⟨rfl,_⟩:=Aa7.mp rd; exact by_ty (.str _)
 | list b=>
  obtain⟨a,ys,rfl,h,_⟩:=Abl.mp rd
  obtain⟨u,w',rfl,ru,rw'⟩:=vals2 r
  cases rw'
  cases ru
  obtain⟨its,_,⟨o,n,e1,hc,_,_⟩,_⟩:=I.list h
  exact lX Bb I.kIn ⟨o,e1,hc⟩ (Alq.trans ek) (fun z=>nomatch z) fun tk=>⟨.bl _,H,I.tok tk,rfl,q⟩
 | tuple b=>obtain⟨_,_,rfl,h,_⟩:=Aap.mp rd; exact by_ty (.tup h)
 | dict b=>
  obtain⟨_,rfl,⟨_,h,_⟩ | ⟨_,h,_⟩ | ⟨_,h,_⟩⟩:=Adp.mp rd
  ·exact by_ty (.dK h)
  ·exact by_ty (.dT h)
  ·obtain⟨u,w',rfl,ru,rw'⟩:=vals2 r
   cases rw'
   cases ru
   obtain⟨⟨_,o,_,_,e1,hc,_⟩,_⟩:=I.hok _ _ h
   exact lX Bc I.kIn ⟨o,e1,hc.1⟩ (Alq.trans ek) (fun z=>nomatch z) fun tk=>⟨.bl _,H,I.tok tk,rfl,q⟩
def gW (T:String):aA->Option aA:=fun d=>some (.bool (isK (lF d) T))
variable {a:aT}{f:EF}{fa:AF}{apos cpos:bZ}
theorem CD(hgl:Gl X "isinstance")(hm:X.mg "isinstance" = none)(hg:Gl X x)(hmx:X.mg x=none)(hv:lU x=some (.type T))(hT:T∈TX)(he:DE X e f)
  (hn:x ≠ "__name__":=by decide) (hd:(x == ("__debug__" : aC))=false:=by decide) (hs1:cC (e::[.Name x p2]) X.env=(false,bY e X.env)::cC [.Name x p2] X.env:=by rfl)
  (hs2:cC (.Name x p2::[]) X.env=(false,bY (.Name x p2) X.env)::cC [] X.env:=by rfl) (hpl:(fX pos (cC [.Name x p2] X.env)).any (·.1)=false:=by rfl):DE X (.Call (.Name "isinstance" p) [e,.Name x p2] [] pos) (eUn (gW T) f):=
 PE.imp (TC Oh hgl hm boot_isinstance (lM he (lM (Fb hg hmx hv hn hd) oQ hs2) hs1) (by decide) (by decide) hs1 hpl) fun σ H Q gh=>by
  obtain⟨P,ρ,d,hP,rs,ef,k⟩:=gh
  obtain⟨d1,e1,ef⟩:=XBs ef
  cases ef
  exact⟨P,ρ,d1,hP,rs,e1,dU fun v H1 x1 r1=>⟨v,T,d1,rfl,r1.ext Aau,hT,k.zero x1 (Aax.mpr rfl)⟩⟩
def lJ:List aA->Option aA
 | [.list ds]=>some (.tuple ds)
 | [.tuple ds]=>some (.tuple ds)
 | _=>none
theorem sV:CallD K 0 (fun xs H Q=>∃ p ys,xs=[.ref p]/\((SqL K H p ys /\ ∀ l,H l=none->Q (.ref l) (upd H l (.tup ys))) \/ (SqT K H p ys/\Q (.ref p) H))) lJ:=fun P H xs ds d Q hP r e k=>by
 unfold lJ at e
 split at e
 ·cases e
  obtain⟨v,rfl,r'⟩:=fQ r
  replace r:=r'
  obtain⟨q,ys,rfl,hq,rr⟩:=Abl.mp r
  exact⟨q,ys,rfl,.inl ⟨Aau.sqL hq,fun l hl=>k.tup hP hl rr⟩⟩
 ·cases e
  obtain⟨v,rfl,r'⟩:=fQ r
  replace r:=r'
  obtain⟨q,ys,rfl,hq,rr⟩:=Aap.mp r
  exact⟨q,ys,rfl,.inr ⟨SqT.of (Aau _ _ hq),k.zero Ext.refl r⟩⟩
 ·cases e
def uH:List aA->Option aA
 | [.list ds]=>some (.list ds)
 | [.tuple ds]=>some (.list ds)
 | [.str z]=>if z.length≤sizeLine then some (.list (z.cps.toList.map fun c=>.str ⟨#[c]⟩)) else none
 | _=>none
def PF (K:aK):List V->Hp->VK->Prop:=fun xs H Q=>(∃ p ys,xs=[.ref p]/\(SqL K H p ys \/ SqT K H p ys) /\ ∀ l,H l=none->Q (.ref l) (upd H l (.lst ys))) \/ ∃ z:aC,xs=[.str z]/\z.length≤sizeLine /\ ∀ l,H l=none->Q (.ref l) (upd H l (.lst (z.cps.toList.map pZ)))
theorem Td (hc:X.calm=true):Adz X (.type "list") (PF X.K):=Aq1.or (Qk hc)
theorem WJ : ∀ {cs:List Nat},(∀ c∈cs,cR (.str ⟨#[c]⟩)=true)->Aas K H (cs.map fun c=>.str ⟨#[c]⟩) (cs.map pZ)
 | [],_=>Aan.mpr rfl
 | c::r,h=>Aah.mpr ⟨_,_,rfl,Aa7.mpr ⟨rfl,h c bM⟩,WJ fun c' m=>h c' (cF _ m)⟩
theorem Qs:CallD K 1 (PF K) uH:=fun P H xs ds d Q hP r e k=>by
 unfold uH at e
 split at e
 ·cases e
  obtain⟨v,rfl,r'⟩:=fQ r
  replace r:=r'
  obtain⟨q,ys,rfl,hq,rr⟩:=Abl.mp r
  exact .inl ⟨q,ys,rfl,.inl (Aau.sqL hq),fun l hl=>k.lst hP hl rr⟩
 ·cases e
  obtain⟨v,rfl,r'⟩:=fQ r
  replace r:=r'
  obtain⟨q,ys,rfl,hq,rr⟩:=Aap.mp r
  exact .inl ⟨q,ys,rfl,.inr (SqT.of (Aau _ _ hq)),fun l hl=>k.lst hP hl rr⟩
 ·obtain⟨hz,rfl⟩:=cX e
  obtain⟨v,rfl,r'⟩:=fQ r
  replace r:=r'
  refine .inr ⟨_,by rw[(Aa7.mp r).1],hz,fun l hl=>k.lst hP hl (WJ fun c m=>?_)⟩
  obtain⟨j,hj⟩:=Bv.mp m
  exact IH (Aa7.mp r).2 hj
 ·cases e
def tU:List aA->Option aA
 | [.int i]=>some (.int i)
 | [.bool b]=>some (.int (if b then 1 else 0))
 | _=>none
theorem Pu:CallD K 0 (fun xs H Q=>(∃ i,xs=[.int i]/\Q (.int i) H) \/ ∃ k,xs=[.bl k]/\Q (.int (if k then 1 else 0)) H) tU:=fun P H xs ds d Q hP r e k=>by
 unfold tU at e
 split at e
 ·cases e
  obtain⟨v,rfl,r'⟩:=fQ r
  replace r:=r'
  exact .inl ⟨_,by rw[Aaq.mp r],k.zero Ext.refl (Aaq.mpr rfl)⟩
 ·cases e
  obtain⟨v,rfl,r'⟩:=fQ r
  replace r:=r'
  exact .inr ⟨_,by rw[Aax.mp r],k.zero Ext.refl (Aaq.mpr rfl)⟩
 ·cases e
def rR:List aA->Option (List Bool)
 | []=>some []
 | .bool b::r=>(rR r).bind fun bs=>some (b::bs)
 | _::_=>none
def xK:List aA->Option aA
 | [.list ds]=>(rR ds).bind fun bs=>some (.bool (bs.all id))
 | _=>none
theorem UC : ∀ {ds:List aA} {xs:List V} {bs:List Bool},rR ds=some bs->Aas K H ds xs->xs=bs.map V.bl
 | [],xs,bs,e,r=>by
  cases e
  rw[Aan.mp r]; rfl
 | .bool b::ds,xs,bs,e,r=>by
  obtain⟨bs',e1,e2⟩:=XBs (show((rR ds).bind fun bs=>some (b::bs))=some bs from e)
  cases e2
  obtain⟨v,t,rfl,h1,h2⟩:=Aah.mp r
  rw[Aax.mp h1,UC e1 h2]; rfl
 | .none::_,_,_,e,_=>by cases e
 | .int _::_,_,_,e,_=>by cases e
 | .str _::_,_,_,e,_=>by cases e
 | .list _::_,_,_,e,_=>by cases e
 | .tuple _::_,_,_,e,_=>by cases e
 | .dict _::_,_,_,e,_=>by cases e
theorem Oj:CallD K 0 (fun xs H Q=>∃ p ys,xs=[.ref p]/\SqL K H p ys/\(∀ y∈ys,∃ b,y = .bl b)/\Q (.bl (allB ys)) H) xK:=fun P H xs ds d Q hP r e k=>by
 unfold xK at e
 split at e
 ·obtain⟨bs,e1,e2⟩:=XBs e
  cases e2
  obtain⟨v,rfl,r'⟩:=fQ r
  replace r:=r'
  obtain⟨q,ys,rfl,hq,rr⟩:=Abl.mp r
  obtain rfl:=UC e1 rr
  refine⟨q,_,rfl,Aau.sqL hq,fun y m=>?_,k.zero Ext.refl (Aax.mpr ?_)⟩
  ·obtain⟨b,_,rfl⟩:=cY.mp m
   exact⟨b,rfl⟩
  ·unfold allB
   rw[List.all_map]
   congr 2
   funext b
   cases b <;> rfl
 ·cases e
def cutD (ds:List aA)(lo hi:Option Int):List aA:=(ds.drop (HT.sIx ds.length 0 lo)).take (HT.sIx ds.length ds.length hi - HT.sIx ds.length 0 lo)
abbrev OF:=List (Option aA)->Option (Option Int)
def tOF (K:aK)(f:OF):TO:=fun σ H Q=>∃ P ρ o,Hid P H/\Am6 K (hid H P) ρ σ/\f ρ=some o /\ ∀ H',Ext H H'->Q o H'
abbrev DO (X:Cx)(e:Option aT)(f:OF):Prop:=PO X e (tOF X.K f)
def oN:OF:=fun _=>some none
def oS (f:EF):OF:=fun ρ=>(f ρ).bind fun d=>match d with
 | .int i=>some (some i)
 | _=>none
theorem PO.imp {o:Option aT}{t t':TO}(h:PO X o t)(w : ∀ σ H Q,t' σ H Q->t σ H Q):PO X o t':=fun pins s σ H Q I q=>h pins s σ H Q I (w _ _ _ q)
theorem RB:DO X none oN:=PO.imp Lm fun σ H Q gh=>by
 obtain⟨P,ρ,o,hP,rs,ef,k⟩:=gh
 cases ef
 exact k H Ext.refl
theorem QW (h:DE X e f):DO X (some e) (oS f):=PO.imp (Nz h) fun σ H Q gh=>by
 obtain⟨P,ρ,o,hP,rs,ef,k⟩:=gh
 obtain⟨d,e1,ef⟩:=XBs ef
 refine⟨P,ρ,d,hP,rs,e1,dU fun v H1 x1 r1=>?_⟩
 cases d with
 | int i=>cases ef; exact⟨i,Aaq.mp r1,k H1 x1⟩
 | _=>cases ef
theorem HF {α:Type}{c:Prop}[Decidable c]{x:Option α}{y:α}(h:(if c then x else none)=some y):c/\x=some y:=by
 by_cases e:c
 ·rw[if_pos e] at h; exact⟨e,h⟩
 ·rw[if_neg e] at h; cases h
def GV:aA->aA->aA->Option aA
 | .dict kds,k,x=>if plK kds=true then(cL k).bind fun k=>some ((cN kds k).getD x) else none
 | _,_,_=>none
def gX (fd fk fx:EF):EF:=fun ρ=>(fd ρ).bind fun d=>(fk ρ).bind fun k=>(fx ρ).bind fun x=>GV d k x
theorem oW {o k z:aT}{fd fk fx:EF}(hu:X.A.units+40<cLine)(ho:DE X o fd)(hk:DE X k fk)(hz:DE X z fx)(m:M2 X o "get" apos k z cpos:=by exact⟨rfl,rfl,rfl,rfl⟩):DE X (.Call (.Attribute o "get" apos) [k,z] [] cpos) (gX fd fk fx):=
 PE.imp (RZ hu ho hk hz m) fun σ H Q gh=>by
  obtain⟨P,ρ,d,hP,rs,ef,kk⟩:=gh
  obtain⟨d1,e1,ef2⟩:=XBs ef
  obtain⟨d2,e2,ef3⟩:=XBs ef2
  obtain⟨d3,e3,ef4⟩:=XBs ef3
  clear ef ef2 ef3
  cases d1 with
  | dict kds=>
   obtain⟨pk,ef5⟩:=HF (show(if plK kds=true then(cL d2).bind fun k=>some ((cN kds k).getD d3) else none)=some d from ef4)
   obtain⟨key,h1,h2⟩:=XBs ef5
   cases h2
   refine⟨P,ρ,_,hP,rs,e1,dU fun v H1 x1 r1=>?_⟩
   obtain⟨q,kvs,rfl,hq,rr⟩:=(oX pk).mp r1
   refine⟨q,rfl,.inl ⟨kvs.1,kvs.2,.inl (Aau _ _ hq)⟩,P,ρ,d2,hP.ext x1,rs.ext (dD x1),e2,dU fun u H2 x2 r2=>⟨P,ρ,d3,hP.ext (x1.trans x2),rs.ext (dD (x1.trans x2)),e3,dU fun w H3 x3 r3=>?_⟩⟩
   refine⟨fV kvs.2 key,.inl ⟨kvs.1,kvs.2,key,.inl (x3 _ _ (x2 _ _ (Aau _ _ hq))),pA h1 r2,rfl⟩,kk.zero ((x1.trans x2).trans x3) ?_⟩
   rcases vH (k:=key) (rr.ext (dD (x2.trans x3))) with⟨n1,n2⟩ | ⟨d',v',s1,s2,rd⟩
   ·rw[n1,n2]; exact r3
   ·rw[s1,s2]; exact rd
  | _=>cases ef4
theorem Res.dic{ep:Nat}{kvs:List (aI×V)}{q:aD}(hP:Hid P H)(h:Res K P 1 (.dict kds) H Q)(n:H q=none)(r:Ab2 K (hid H P) kds kvs):Q (.ref q) (upd H q (.dK ep kvs)):=by
 refine h (.ref q) _ [q] (Ext.new n) (lB.mpr ⟨by simp,.nil⟩) (fun a m=>?_) ⟨q,(ep,kvs),kvs.map fun _=>[],rfl,fJ,?_,?_⟩
 ·have:a=q:=by simpa using m
  subst this
  exact⟨n,_,fJ⟩
 ·have : ∀ l:List (aI×V),(l.map fun _=>([]:List aD)).flatten=[]:=fun l=>by
   induction l with
   | nil=>rfl
   | cons a l ih=>rw[dF,tP,ih]; rfl
  rw[this]
 ·have xe:Ext (hid H P) (hid (upd H q (.dK ep kvs)) (orL P [q])):=fun b o e=>by
   obtain⟨nb,e⟩:=Ac0.mp e
   have hb:b≠q:=jK e n
   exact gQ (fun z=>z.elim nb fun m=>hb (by simpa using m)) (by rw[dJ hb]; exact e)
  generalize hid (upd H q (.dK ep kvs)) (orL P [q])=B at xe
  generalize upd H q (.dK ep kvs)=H1
  clear h
  have go : ∀ (ds:List (aA×aA)) (xs:List (aI×V)),Ab2 K (hid H P) ds xs->All3 (fun(kd:aA×aA) (kv:aI×V) f=>kd.1=kD kv.1/\Aie K B H1 0 kd.2 kv.2 f) ds xs (xs.map fun _=>[]):=by
   intro ds
   induction ds with
   | nil=>intro xs r; rw[Ab6.mp r]; exact .nil
   | cons d ds ih=>
    intro xs r
    obtain⟨k',y,t,rfl,ek,h1,h2⟩:=Aba.mp (show Ab2 K (hid H P) ((d.1,d.2)::ds) xs from r)
    exact .cons ⟨ek,rfl,h1.ext xe⟩ (ih t h2)
  exact go kds kvs r
theorem sQ:DF 1 X (.Dict [] [] pos) (eC (.dict [])):=PE.imp Wb fun σ H Q gh=>by
 obtain⟨P,ρ,d,hP,rs,ef,k⟩:=gh
 cases ef
 exact fun q hq=>k.dic hP hq (Ab6.mpr rfl)
def GR:List aA->Option aA
 | [.dict kds]=>if plK kds=true then some (.dict kds) else none
 | _=>none
theorem Rc:Adz X (.type "dict") (fun xs H Q=>∃ a ep kvs,xs=[.ref a]/\H a=some (.dK ep kvs) /\ ∀ p n,H p=none->Q (.ref p) (upd H p (.dK n kvs))):=by
 intro pins s σ H xs us Q I r h
 obtain⟨a,ep,kvs,rfl,ha,q⟩:=h
 obtain⟨u,rfl,ru⟩:=vals1 r
 cases ru
 exact Vp I (.inl ha) fun p n s' hp I'=>⟨.ref p,_,I',rfl,q p n hp⟩
theorem Pq:CallD K 1 (fun xs H Q=>∃ a ep kvs,xs=[.ref a]/\H a=some (.dK ep kvs) /\ ∀ p n,H p=none->Q (.ref p) (upd H p (.dK n kvs))) GR:=fun P H xs ds d Q hP r e k=>by
 unfold GR at e
 split at e
 ·obtain⟨pk,rfl⟩:=cX e
  obtain⟨v,rfl,r'⟩:=fQ r
  replace r:=r'
  obtain⟨q,ys,rfl,hq,rr⟩:=(oX pk).mp r
  exact⟨q,ys.1,ys.2,rfl,Aau _ _ hq,fun l n hl=>k.dic hP hl rr⟩
 ·cases e
end
section
variable {ρ:bA}
theorem VG : ∀ {ds:List aA} {xs:List V} {Fs:List (List aD)},All3 (Afo K B H 0) ds xs Fs->Aas K B ds xs/\Fs.flatten=[]:=by
 intro ds xs Fs h
 induction h with
 | nil=>exact⟨Aan.mpr rfl,rfl⟩
 | cons h t ih=>
  obtain⟨rfl,r⟩:=h
  exact⟨Aah.mpr ⟨_,_,rfl,r,ih.1⟩,by rw[tP,ih.2]; rfl⟩
theorem Qu : ∀ {ds:List (aA×aA)} {xs:List (aI×V)} {Fs:List (List aD)},All3 (fun(kd:aA×aA) (kv:aI×V) f=>kd.1=kD kv.1/\Afo K B H 0 kd.2 kv.2 f) ds xs Fs->Ab2 K B ds xs/\Fs.flatten=[]:=by
 intro ds xs Fs h
 induction h with
 | nil=>exact⟨Ab6.mpr rfl,rfl⟩
 | @cons p q F ds xs Fs h t ih=>
  obtain⟨k,d⟩:=p
  obtain⟨k',v⟩:=q
  obtain⟨ek,rfl,r⟩:=h
  exact⟨Aba.mpr ⟨_,_,_,rfl,ek,r,ih.1⟩,by rw[tP,ih.2]; rfl⟩
theorem JO : ∀ {ds:List aA} {xs:List V},Aas K B ds xs->All3 (Afo K B H1 0) ds xs (xs.map fun _=>[])/\(xs.map fun _=>([]:List aD)).flatten=[]
 | [],xs,r=>by rw[Aan.mp r]; exact⟨.nil,rfl⟩
 | d::ds,xs,r=>by
  obtain⟨y,t,rfl,h1,h2⟩:=Aah.mp r
  obtain⟨q1,q2⟩:=JO h2
  exact⟨.cons ⟨rfl,h1⟩ q1,by rw[dF,tP,q2]; rfl⟩
theorem WK : ∀ {ds:List (aA×aA)} {xs:List (aI×V)},Ab2 K B ds xs->All3 (fun(kd:aA×aA) (kv:aI×V) f=>kd.1=kD kv.1/\Afo K B H1 0 kd.2 kv.2 f) ds xs (xs.map fun _=>[])/\(xs.map fun _=>([]:List aD)).flatten=[]
 | [],xs,r=>by rw[Ab6.mp r]; exact⟨.nil,rfl⟩
 | (k,d)::ds,xs,r=>by
  obtain⟨k',y,t,rfl,ek,h1,h2⟩:=Aba.mp r
  obtain⟨q1,q2⟩:=WK h2
  exact⟨.cons ⟨ek,rfl,h1⟩ q1,by rw[dF,tP,q2]; rfl⟩
theorem Sta.write {p:aD}{d':aA}(S:Sta K H0 P0 B0 ρ σ H fp)(hi:i<ρ.length)(hv:σ[i]?=some (some (.ref p)))(hp:p∈fp i)(ho:(∃ xs,o = .lst xs) \/ ∃ q:DQ,o=dO q)
  (new:Aie K (L2.hid H (Hd P0 fp)) (upd H p o) 1 d' (.ref p) (fp i)):Sta K H0 P0 B0 (ρ.set i (some (1,d'))) σ (upd H p o) fp:=by
 have hb:L2.hid (upd H p o) (Hd P0 fp)=L2.hid H (Hd P0 fp):=by
  funext b
  unfold L2.hid
  by_cases q:Hd P0 fp b
  ·rw[if_pos q,if_pos q]
  ·rw[if_neg q,if_neg q]
   exact dJ fun z=>q (.inr ⟨i,by rw[z]; exact hp⟩)
 refine⟨by simp[S.len],S.nd,S.dj,fun j a m=>⟨(S.own j a m).1,?_⟩,fun b u e=>?_,S.hd,by rw[hb]; exact S.base,fun j n d e=>?_⟩
 ·by_cases q:a=p
  ·subst q
   rcases ho with⟨xs,rfl⟩ | ⟨xs,rfl⟩
   ·exact .inl ⟨xs,fJ⟩
   ·exact .inr ⟨xs,fJ⟩
  ·rw[dJ q]; exact(S.own j a m).2
 ·rw[dJ (jK e (S.own i p hp).1)]; exact S.ext b u e
 ·by_cases q:j=i
  ·subst q
   rw[rJ hi] at e
   cases e
   exact⟨_,hv,by rw[hb]; exact new⟩
  ·rw[nE (fun z=>q z.symm)] at e
   obtain⟨v,h1,h2⟩:=S.slot j n d e
   refine⟨v,h1,?_⟩
   rw[hb]
   exact h2.keep Ext.refl fun a m=>dJ fun z=>q (S.dj j i a m (by rw[z]; exact hp))
theorem Sta.lst1(S:Sta K H0 P0 B0 ρ σ H fp)(e:ρ[i]?=some (some (1,.list ds))) : ∃ p xs,σ[i]?=some (some (.ref p))/\H p=some (.lst xs)/\Aas K (L2.hid H (Hd P0 fp)) ds xs /\
  ∀ ds' xs',Aas K (L2.hid H (Hd P0 fp)) ds' xs'->Sta K H0 P0 B0 (ρ.set i (some (1,.list ds'))) σ (upd H p (.lst xs')) fp:=by
 obtain⟨v,h1,h2⟩:=S.slot i 1 _ e
 obtain⟨p,xs,Fs,rfl,hp,hF,h3⟩:=h2
 obtain⟨r,hn⟩:=VG h3
 rw[hn] at hF
 refine⟨p,xs,h1,hp,r,fun ds' xs' r'=>S.write (dR.mp e).1 h1 (by rw[hF]; exact bM) (.inl ⟨_,rfl⟩) ?_⟩
 obtain⟨q1,q2⟩:=JO (H1:=upd H p (.lst xs')) r'
 exact⟨p,xs',_,rfl,fJ,by rw[hF,q2],q1⟩
theorem Sta.dic1 {ds:List (aA×aA)}(S:Sta K H0 P0 B0 ρ σ H fp)(e:ρ[i]?=some (some (1,.dict ds))) : ∃ p ep xs,σ[i]?=some (some (.ref p))/\H p=some (.dK ep xs)/\Ab2 K (L2.hid H (Hd P0 fp)) ds xs /\
  ∀ n ds' xs',Ab2 K (L2.hid H (Hd P0 fp)) ds' xs'->Sta K H0 P0 B0 (ρ.set i (some (1,.dict ds'))) σ (upd H p (.dK n xs')) fp:=by
 obtain⟨v,h1,h2⟩:=S.slot i 1 _ e
 obtain⟨p,xs,Fs,rfl,hp,hF,h3⟩:=h2
 obtain⟨r,hn⟩:=Qu h3
 rw[hn] at hF
 refine⟨p,xs.1,xs.2,h1,hp,r,fun n ds' xs' r'=>S.write (dR.mp e).1 h1 (by rw[hF]; exact bM) (.inr ⟨.inl (n,xs'),rfl⟩) ?_⟩
 obtain⟨q1,q2⟩:=WK (H1:=upd H p (.dK n xs')) r'
 exact⟨p,(n,xs'),_,rfl,fJ,by rw[hF,q2],q1⟩
end
def getL (i:Nat)(ρ:bA):Option (List aA):=match ρ[i]? with
 | some (some (1,.list ds))=>some ds
 | _=>none
def pB (i:Nat)(ρ:bA):Option (List (aA×aA)):=match ρ[i]? with
 | some (some (1,.dict ds))=>some ds
 | _=>none
theorem qN{ρ:bA}(h:getL i ρ=some ds):ρ[i]?=some (some (1,.list ds)):=by
 unfold getL at h
 split at h
 ·rename_i e; cases h; exact e
 ·cases h
theorem DM{ρ:bA}{ds:List (aA×aA)}(h:pB i ρ=some ds):ρ[i]?=some (some (1,.dict ds)):=by
 unfold pB at h
 split at h
 ·rename_i e; cases h; exact e
 ·cases h
section
variable {k o:aT}{f g:EF}{apos cpos:bZ}
def jC (i:Nat)(m:Md)(f:EF):SF:=fun ρ=>(eV 0 m f ρ).bind fun d=>(getL i ρ).bind fun ds=>if ds.length<sizeLine then some (.nx (ρ.set i (some (1,.list (ds++[d]))))) else none
theorem vM (i:Nat)(m:Md)(he:DE X e f)(hN:X.N[i]?=some x:=by rfl)(hv:kK X.env.scope x:=by first | exact aR rfl | exact aX (aR rfl) | exact aX (aX rfl))(hd:(x == ("__debug__" : aC))=false:=by decide)
  (hcd:(x == ("__classdict__" : aC))=false:=by decide) (hbase:pK (.Name x px) "append" X.env (bY (.Name x px) X.env)=bY (.Name x px) X.env:=by rfl)
  (hfew:((fX cpos (cC (e::[]) X.env)).all (fun x=>!x.1)&&(AO cpos (AJ [] X.env)).all (fun x=>x.1.isSome)
   && decide ((e::[]).length+([]:List nF).length+(if ([]:List nF).isEmpty then 0 else 1)<30))=true:=by rfl)
  (hline:(apos.endLine == cpos.line)=true:=by rfl) (hs:cC (e::[]) X.env=(false,bY e X.env)::cC [] X.env:=by rfl) (hplain:(fX cpos (cC [] X.env)).any (·.1)=false:=by rfl)
  (hsw:mZ (.Call (.Attribute (.Name x px) "append" apos) [e] [] cpos) none pos.line X.env=pure false:=by rfl):DS X H0 P0 n0 (.Expr (.Call (.Attribute (.Name x px) "append" apos) [e] [] cpos) pos) (jC i m f):=
 PS.imp (HM (EM Bi PySem.F.slot_list_append PySem.F.type_list_append VF (mR hN hv hd hcd) (lM (ev (H0:=H0) (P0:=P0) m he) oQ hs) hbase hfew hline hs hplain) hsw) fun D σ H gh=>by
  obtain⟨B0,ρ,fp,o,S,ef,k⟩:=gh
  obtain⟨d,e1,ef2⟩:=XBs ef
  obtain⟨ds,e2,ef3⟩:=XBs ef2
  obtain⟨hl,rfl⟩:=cX ef3
  obtain⟨p,xs,h1,h2,_,_⟩:=S.lst1 (qN e2)
  refine⟨.ref p,h1,.inl ⟨rfl,xs,SqL.of h2⟩,B0,ρ,fp,d,S,e1,fun v H2 gh=>?_⟩
  obtain⟨fp2,S2,r2⟩:=gh
  obtain⟨p2,xs2,q1,q2,q3,q4⟩:=S2.lst1 (qN e2)
  have:p2=p:=by rw[h1] at q1; cases q1; rfl
  subst this
  exact⟨p2,xs2,v,rfl,rfl,q2,by rw[q3.length]; exact hl,k _ _ fp2 (q4 _ _ (q3.snoc r2.2))⟩
def OQ (i:Nat):SF:=fun ρ=>(getL i ρ).bind fun ds=>some (.nx (ρ.set i (some (1,.list []))))
def uD (i:Nat)(m:Md)(f:EF)(mk:Md)(g:EF):SF:=fun ρ=>(eV 0 m f ρ).bind fun d=>(getL i ρ).bind fun ds=>(eV 0 mk g ρ).bind fun k=>match k with
 | .int j=>(ixN ds.length j).bind fun j=>some (.nx (ρ.set i (some (1,.list (ds.set j d)))))
 | _=>none
theorem GU{m:Md}{ρ:bA}(S:Sta K H0 P0 B0 ρ σ H fp)(e:eV 0 m g ρ=some d)(hd:eQ d=true)(k : ∀ v H',Ext H H'->Abk K (hid H' (Hd P0 fp)) d v->Q v H'):tF K 0 g σ H Q:=by
 cases m with
 | s=>exact⟨Hd P0 fp,vS ρ,d,S.hid,S.viewS,e,dU k⟩
 | a=>
  obtain⟨d',ed,ef⟩:=XBs e
  obtain⟨fl,rfl⟩:=cX ef
  refine⟨P0,vA ρ,d',S.hd.ext S.ext,S.viewA,ed,dU fun v H' x r=>k v H' x (r.flat (fun a xs e=>?_) _ hd)⟩
  obtain⟨na,e⟩:=Ac0.mp e
  refine gQ (fun q=>?_) e
  rcases q with q | ⟨j,q⟩
  ·exact na q
  ·rcases((S.grow x).own j a q).2 with⟨ys,e2⟩ | ⟨ys,e2⟩ <;> rw[e] at e2 <;> first | cases e2 | (cases ys <;> simp[dO] at e2)
theorem Nk (i:Nat)(m mk:Md)(he:DE X e f)(hk:DE X k g)(hN:X.N[i]?=some x:=by rfl)(hv:kK X.env.scope x:=by first | exact aR rfl | exact aX (aR rfl) | exact aX (aX rfl))(hd:(x == ("__debug__" : aC))=false:=by decide)
  (hcd:(x == ("__classdict__" : aC))=false:=by decide)
  (ha : ∀ v,jW (.Subscript (.Name x px) k apos) X.env v=(do
   let ov ← pH [v] (bY (.Name x px) X.env)
   let iv ← pH [v,ov] (bY k X.env)
   standAt apos
   pH [v,ov,iv] (setItem ov iv v)
   release [v,ov,iv] []):=by intro _; rfl)
  (hs:swapsWithSole [.Subscript (.Name x px) k apos] e pos.line X.env=pure false:=by rfl) (hw:swappedStores [.Subscript (.Name x px) k apos] e X.env=pure none:=by rfl)
  (h1:(iO [.Subscript (.Name x px) k apos] X.env).map (·.2)=[jW (.Subscript (.Name x px) k apos) X.env]:=by rfl):DS X H0 P0 n0 (.Assign [.Subscript (.Name x px) k apos] e pos) (uD i m f mk g):=
 PS.imp (Hf (ev (H0:=H0) (P0:=P0) m he) (Gb (mR hN hv hd hcd) hk set_list ha) hs hw h1) fun D σ H gh=>by
  obtain⟨B0,ρ,fp,o,S,ef,kk⟩:=gh
  obtain⟨d,e1,ef2⟩:=XBs ef
  obtain⟨ds,e2,ef3⟩:=XBs ef2
  obtain⟨kd,e3,ef4⟩:=XBs ef3
  clear ef ef2 ef3
  cases kd with
  | int j=>
   obtain⟨jn,e5,ef5⟩:=XBs (show((ixN ds.length j).bind fun j=>some (Out.nx (ρ.set i (some (1,.list (ds.set j d))))))=some o from ef4)
   cases ef5
   refine⟨B0,ρ,fp,d,S,e1,fun v H2 gh=>?_⟩
   obtain⟨fp2,S2,r2⟩:=gh
   obtain⟨p,xs,h1,h2,_,_⟩:=S2.lst1 (qN e2)
   refine⟨.ref p,h1,GU S2 e3 (by simp[eQ]) fun u H3 x3 r3=>?_⟩
   have S3:=S2.grow x3
   obtain⟨p3,xs3,q1,q2,q3,q4⟩:=S3.lst1 (qN e2)
   have:p3=p:=by rw[h1] at q1; cases q1; rfl
   subst this
   exact⟨p3,xs3,j,jn,rfl,Aaq.mp r3,q2,by rw[q3.length]; exact e5,kk _ _ fp2 (q4 _ _ (q3.set (r2.2.ext (dD x3)) jn))⟩
  | _=>cases ef4
def lH (i:Nat)(m:Md)(f:EF)(mk:Md)(g:EF):SF:=fun ρ=>(eV 0 m f ρ).bind fun d=>(pB i ρ).bind fun kds=>(eV 0 mk g ρ).bind fun k=>(cL k).bind fun k=>if kds.length<sizeLine then some (.nx (ρ.set i (some (1,.dict (putD kds k d))))) else none
theorem yD (i:Nat)(m mk:Md)(hu:X.A.units+40<cLine)(he:DE X e f)(hk:DE X k g)(hN:X.N[i]?=some x:=by rfl)(hv:kK X.env.scope x:=by first | exact aR rfl | exact aX (aR rfl) | exact aX (aX rfl))(hd:(x == ("__debug__" : aC))=false:=by decide)
  (hcd:(x == ("__classdict__" : aC))=false:=by decide) (hs:mZ e (some (.Subscript (.Name x px) k apos)) pos.line X.env=pure false:=by rfl):DS X H0 P0 n0 (.Assign [.Subscript (.Name x px) k apos] e pos) (lH i m f mk g):=
 PS.imp (ZL hu (mR hN hv hd hcd) hk (ev (H0:=H0) (P0:=P0) m he) hs) fun D σ H gh=>by
  obtain⟨B0,ρ,fp,o,S,ef,kk⟩:=gh
  obtain⟨d,e1,ef2⟩:=XBs ef
  obtain⟨kds,e2,ef3⟩:=XBs ef2
  obtain⟨kd,e3,ef4⟩:=XBs ef3
  obtain⟨key,e4,ef5⟩:=XBs ef4
  obtain⟨hl,rfl⟩:=cX ef5
  clear ef ef2 ef3 ef4
  refine⟨B0,ρ,fp,d,S,e1,fun v H2 gh=>?_⟩
  obtain⟨fp2,S2,r2⟩:=gh
  obtain⟨p,ep,xs,h1,h2,_,_⟩:=S2.dic1 (DM e2)
  have hf:eQ kd=true:=by rw[KF e4]; cases key <;> simp[kD,eQ]
  refine⟨.ref p,h1,GU S2 e3 hf fun u H3 x3 r3=>?_⟩
  have S3:=S2.grow x3
  obtain⟨p3,ep3,xs3,q1,q2,q3,q4⟩:=S3.dic1 (DM e2)
  have:p3=p:=by rw[h1] at q1; cases q1; rfl
  subst this
  refine⟨p3,_,rfl,.inl ⟨ep3,xs3,key,q2,pA e4 r3,by rw[q3.length]; exact hl,rfl⟩,fun n=>kk _ _ fp2 (q4 n _ _ (HJ q3 (r2.2.ext (dD x3))))⟩
end
variable {a:aT}{f fa fb:EF}
def PL (K:aK):R2:=fun x y H Q=>∃ a b ys,x = .ref a/\y = .ref b/\SqT K H a []/\SqT K H b ys/\Q (.ref b) H
theorem Nt:OpR X (kH .Add) (PL X.K):=by
 intro pins s σ H x y v u Q I rx ry h
 obtain⟨a,b,ys,rfl,rfl,ha,hb,q⟩:=h
 cases rx
 cases ry
 obtain⟨its,r1,p1,_⟩:=I.tuple ha
 obtain⟨its2,r2,p2,_⟩:=I.tuple hb
 cases r1
 obtain⟨⟨cls,dd,data,sl⟩,ho,hc,n,hd⟩:=p1
 obtain⟨⟨cls2,dd2,data2,sl2⟩,ho2,hc2,n2,hd2⟩:=p2
 simp only at hc hd hc2 hd2
 subst hc hd hc2 hd2
 exact concat_meets ⟨_,ho,rfl⟩ ⟨_,ho2,rfl⟩ Av seq_tuple_add Bg Bj (Bl _ _)
  (tuple_addW0 a b _ _ n n2 dd dd2 sl sl2 rfl) ⟨ho,ho2,⟨.ref b,H,I,rfl,q⟩⟩
def ET:aA->aA->Option aA
 | .tuple xs,.tuple ys=>if xs.length+ys.length≤sizeLine then some (.tuple (xs++ys)) else none
 | _,_=>none
theorem Wo:OpD K 0 (fun x y H Q=>GS K x y H Q \/ PL K x y H Q) ET:=fun P H x y a b d Q hP ra rb e k=>by
 unfold ET at e
 split at e
 ·rename_i zs ys
  obtain⟨hc,rfl⟩:=cX e
  obtain⟨p,us,rfl,hp,r1⟩:=Aap.mp ra
  obtain⟨q,ws,rfl,hq,r2⟩:=Aap.mp rb
  have l1:=r1.length
  have l2:=r2.length
  cases zs with
  | nil=>
   have eu:us=[]:=by simpa using l1
   subst eu
   exact .inr ⟨p,q,ws,rfl,rfl,SqT.of (Aau _ _ hp),SqT.of (Aau _ _ hq),k.zero Ext.refl rb⟩
  | cons z zs=>
   refine .inl ⟨p,q,us,ws,rfl,rfl,SqT.of (Aau _ _ hp),SqT.of (Aau _ _ hq),fun z=>by rw[z] at l1; simp at l1,by rw[l1,l2]; exact hc,fun z=>?_,fun z r hr=>?_⟩
   ·subst z
    have:ys=[]:=by simpa using l2.symm
    subst this
    refine k.zero Ext.refl ?_
    rw[mG]
    exact ra
   ·exact k.tup hP hr (r1.append r2)
 ·cases e
theorem Nm (ha:DE X a fa)(hb:DE X b fb):DE X (.BinOp a .Add b pos) (eOp ET fa fb):=qB (A0i.or Nt) Wo ha hb
def BR:List aA->Option aA
 | [.int i,.int j]=>some (.int (if j > i then j else i))
 | _=>none
theorem Pa:CallD K 0 (fun xs H Q=>∃ i j,xs=[.int i,.int j]/\Q (.int (if j > i then j else i)) H) BR:=fun P H xs ds d Q hP r e k=>by
 unfold BR at e
 split at e
 ·cases e
  obtain⟨v,t,rfl,h1,h2⟩:=Aah.mp r
  obtain⟨v',rfl,h3⟩:=fQ h2
  rw[Aaq.mp h1,Aaq.mp h3]
  exact⟨_,_,rfl,k.zero Ext.refl (Aaq.mpr rfl)⟩
 ·cases e
end L2
namespace L2
open PySem PySem.Spec PyProof.Rows
variable {sl:Array (Option aE)}{us items:Array aE}{Q E:aE->aJ->Prop}{ds:List aA}{l a j it r:aD}{h h':aZ}{d:aA}{es:List aT}{ep k n i m N n0 cx:Nat}{s:aJ}{e tg:aT}{R:Result->aJ->Prop}{P prog:bT}{w:bI}{kvs:List (List aA×V)}{K:aK}{b:Bool}{u:aE}{x:aC}{xs ys:List V}{fp:Nat->List aD}{B H H0 B0:Hp}{v:V}{tl:TE}{kds:List (aA×aA)}{f fk:EF}{wr:List aD}{pins:List (aD×bH)}{A:cM}{p:Array Nat}{vs:List aE}{T:String}{kss:List (List aA)}{X:Cx}{P0:aD->Prop}{ρ:bA}{cpos pos tpos apos px:bZ}
theorem Ub {t sl:aD}{vl vu:aE}{lo hi:Option Int}(ht:IsTup s.heap t us)(hs:s.heap.IsSliceOf sl vl vu .none)(pl:pS vl lo)(pu:pS vu hi)
  (hw:HT.sIx us.size 0 lo=0/\HT.sIx us.size us.size hi=us.size) (h:Q (.ref t) s):aM (aU P w) A (pI (.ref t) (.ref sl)) Q E s:=by
 obtain⟨os,e1,e2,e3⟩:=id hs
 have ty:s.TypeIs (.ref sl) "slice":=⟨os,e1,e2⟩
 unfold pI
 try with_reducible refine jV ?_
 first | refine aF (aP ?_) | skip
 refine aF (wpAny_sequenceKey ht.typeIs (by decide) (aF (mY (name:=lV "__getitem__") ht.typeIs MQ (iN MQ ht.typeIs entry_tuple_getitem ?_ (args_tuple_getitem _ _)))))
 show aM _ _ (Cp (.ref t) >>= _) _ _ s
 refine aF (tupleItemsOf_ ht (aF (rB ty ?_)))
 rw[if_pos (by decide)]
 refine aF (HT.Ags hs pl pu ?_)
 have yes:(((HT.sIx us.size 0 lo:Nat):Int) == 0&&(1:Int) == 1&&(HT.sIx us.size us.size hi - HT.sIx us.size 0 lo) == us.size)=true:=by
  rw[hw.1,hw.2]
  simp
 show aM _ _ (if (((HT.sIx us.size 0 lo:Nat):Int) == 0&&(1:Int) == 1&&(HT.sIx us.size us.size hi - HT.sIx us.size 0 lo) == us.size)=true then _ else _) _ _ s
 rw[if_pos yes]
 unfold Builtin.Tuple.tupleIsExact
 refine aF (aF (rB ht.typeIs (aP ?_)))
 rw[if_pos (by decide)]
 exact aF (rC (aP ⟨_,rfl,aP h⟩))
def Ei (K:aK):V->Option Int->Option Int->Hp->VK->Prop:=fun x lo hi H Q=>∃ a xs,x = .ref a/\SqT K H a xs/\(HT.sIx xs.length 0 lo=0/\HT.sIx xs.length xs.length hi=xs.length)/\Q (.ref a) H
theorem A8n:SlR X (Ei X.K):=by
 intro pins s σ H x v vl vu lo hi sl Q I rx hs pl pu h
 obtain⟨a,xs,rfl,hx,hw,q⟩:=h
 cases rx
 obtain⟨its,r,ht,hz⟩:=I.tuple hx
 have hlen:its.toArray.size=xs.length:=by rw[dX]; exact r.length.symm
 exact⟨"tuple",_,MQ.lookup,ht.typeIs,Ub ht hs pl pu (by rw[hlen]; exact hw) ⟨.ref a,H,I,rfl,q⟩⟩
def xI (f:EF)(lo hi:OF):EF:=fun ρ=>(f ρ).bind fun d=>(lo ρ).bind fun l=>(hi ρ).bind fun h=>match d with
 | .tuple ds=>some (.tuple (cutD ds l h))
 | _=>none
theorem Qh{l h:Option Int}(hw:HT.sIx ds.length 0 l=0/\HT.sIx ds.length ds.length h=ds.length):cutD ds l h=ds:=by
 unfold cutD
 rw[hw.1,hw.2]
 simp
theorem QL {lo hi:Option aT}{fl fh:OF}{pp:bZ}(he:DE X e f)(hl:DO X lo fl)(hh:DO X hi fh):DE X (.Subscript e (.Slice lo hi none pp) pos) (xI f fl fh):=PE.imp (Wq (A8n.or Jd) he hl hh) fun σ H Q gh=>by
 obtain⟨P,ρ,d,hP,rs,ef,k⟩:=gh
 obtain⟨d1,e1,ef2⟩:=XBs ef
 obtain⟨l,e2,ef3⟩:=XBs ef2
 obtain⟨h,e3,ef4⟩:=XBs ef3
 clear ef ef2 ef3
 cases d1 with
 | tuple ds=>
  cases ef4
  refine⟨P,ρ,_,hP,rs,e1,dU fun v H1 x1 r1=>⟨P,ρ,l,hP.ext x1,rs.ext (dD x1),e2,fun H2 x2=>⟨P,ρ,h,hP.ext (x1.trans x2),rs.ext (dD (x1.trans x2)),e3,fun H3 x3=>?_⟩⟩⟩
  have r3:=r1.ext (dD (x2.trans x3))
  obtain⟨q,ys,rfl,hq,rr⟩:=Aap.mp r3
  by_cases hw:HT.sIx ds.length 0 l=0/\HT.sIx ds.length ds.length h=ds.length
  ·rw[Qh hw] at k
   exact .inl ⟨q,ys,rfl,SqT.of (Aau _ _ hq),by rw[rr.length]; exact hw,(k.mono ((x1.trans x2).trans x3)).zero Ext.refl r3⟩
  ·refine .inr ⟨q,ys,rfl,SqT.of (Aau _ _ hq),by rw[rr.length]; exact hw,fun p hp=>(k.mono ((x1.trans x2).trans x3)).tup (hP.ext ((x1.trans x2).trans x3)) hp ?_⟩
   unfold xP cutD
   rw[rr.length]
   exact(rr.drop _).take _
 | _=>cases ef4
def Ash (h:aZ)(d:aD)(es:Array nJ)(ep:Nat):Prop:=∃ o,h.get? d=some o/\o.ExactDict/\o.data = .dict es ep
theorem Ash.keep{d:aD}{es:Array nJ}(x:Ash h d es ep)(k : ∀ o,h.get? d=some o->h'.get? d=some o):Ash h' d es ep:=
 let ⟨o,e,r⟩:=x; ⟨o,k o e,r⟩
theorem Ash.ty{d:aD}{es:Array nJ}(x:Ash s.heap d es ep):s.TypeIs (.ref d) "dict":=let ⟨o,e,c,_⟩:=x; ⟨o,e,c.1⟩
section
variable {d:aD}{es:Array nJ}
theorem RS(nm:(d == iB)=false)(R:Ash s.heap d es ep)
  (q:Q (.ref s.heap.objs.size) { s with heap:=s.heap.push { cls:=.type "dict_keyiterator",data:=.fields #[.ref d,.int 0 0,.int es.size 0,.int ep 0] } }):aM (aU prog w) A (lR (.ref d)) Q E s:=by
 have ty:=R.ty
 obtain⟨o,eo,_,ed⟩:=R
 refine MH ty F.slot_dict_iter (iN F.slot_dict_iter ty F.entry_dict_iter
  ?_ (F.args_dict_iter_1 _))
 unfold Builtin.«dict.__iter__»
 refine aF ?_
 unfold Builtin.Dict.dictSlotNone
 refine aF (MJ ty ?_)
 show aM _ _ (pure (eP d)) _ _ s
 refine aP ?_
 show aM _ _ (OI d >>= _) _ _ s
 unfold OI
 rw[if_neg (show ¬ (d == iB)=true by rw[nm]; exact jZ)]
 refine aF (aP ?_)
 refine aF (AH eo ed ?_)
 refine aF (AG eo ed ?_)
 refine aF (jM (aP ⟨_,rfl,"dict_keyiterator",_,
  ⟨_,dA _ rfl,rfl⟩,FO.lookup,?_⟩))
 simpa [eU] using q
theorem TJ {e:nJ}{Q:Option aE->aJ->Prop}(K:s.heap.IsKeyIter it d i es.size ep)(R:Ash s.heap d es ep)(x:es[i]?=some e)
  (q : ∀ h',h'.IsKeyIter it d (i+1) es.size ep->nH it s.heap h'->Q (some e.key) { s with heap:=h' }):aM (aU prog w) A (fW (.ref it)) Q E s:=by
 obtain⟨oi,ei,ci,di⟩:=id K
 obtain⟨o,eo,_,ed⟩:=R
 unfold fW
 refine aF (rD (mY (name:=lV "__next__") K.typeIs
  FO (iN FO K.typeIs
   d8 ?_ (e8 _))))
 refine aF (aP ?_)
 refine aF ?_
 refine aF ?_
 first
  | refine aF (ME K.typeIs (aP ?_))
  | refine aF (MC K.typeIs (aP ?_))
 refine aF (MN ei di ?_)
 have own:FP "dict_keyiterator" = false:=by decide
 simp only[own,rL,if_false]
 show aM _ _ (if (eP d == dP)=true then _ else _) _ _ s
 rw[if_neg (show ¬ (eP d == dP)=true from jZ)]
 refine aF (aP ?_)
 refine aF (AH eo ed ?_)
 rw[if_neg (by simp)]
 refine aF (aP ?_)
 refine aF (AG eo ed ?_)
 rw[if_neg (by simp)]
 refine aP ?_
 simp only[show ¬ ((i:Int)<0) from by omega,if_false,xB,x]
 refine aF ?_
 first
  | refine aF (ME K.typeIs (aP ?_))
  | refine aF (MC K.typeIs (aP ?_))
 refine aF (wpAny_isOneOf_keyiter K.typeIs ?_)
 show aM _ _ (setField (.ref it) 1 (eU ((i:Int)+1)) >>= _) _ _ s
 refine aF (EW ei di (by simp) ?_)
 have K':(s.heap.update it (Obj.mapFields (·.setIfInBounds 1 (eU ((i:Int)+1))))).IsKeyIter it d (i+1) es.size ep:=
  ⟨_,BE _ ei (Obj.isFreed_of_fields (MZ di _)),(Obj.cls_mapFields ..).trans ci,by
   rw[MZ di]; simp[eU]⟩
 refine aF (jV ?_)
 refine aF (wpAny_isOneOf_keyiter (s:={ s with heap:=s.heap.update it (Obj.mapFields (·.setIfInBounds 1 (eU ((i:Int)+1)))) })
  K'.typeIs ?_)
 show aM _ _ (pure e.key) _ _ _
 exact aP (aP ⟨_,rfl,aP (q _ K' (xD ..))⟩)
theorem RA {Q:Option aE->aJ->Prop}(hh:A.handled=none)(K:s.heap.IsKeyIter it d i es.size ep)(R:Ash s.heap d es ep)(x:es.size≤i)
  (q : ∀ h',FN it s.heap h'->Q none { s with heap:=h' }):aM (aU prog w) A (fW (.ref it)) Q E s:=by
 obtain⟨oi,ei,ci,di⟩:=id K
 obtain⟨o,eo,_,ed⟩:=R
 unfold fW
 refine aF (rD (mY (name:=lV "__next__") K.typeIs
  FO (iN FO K.typeIs
   d8 ?_ (e8 _))))
 refine aF (aP ?_)
 refine aF ?_
 refine aF ?_
 first
  | refine aF (ME K.typeIs (aP ?_))
  | refine aF (MC K.typeIs (aP ?_))
 refine aF (MN ei di ?_)
 have own:FP "dict_keyiterator" = false:=by decide
 simp only[own,rL,if_false]
 show aM _ _ (if (eP d == dP)=true then _ else _) _ _ s
 rw[if_neg (show ¬ (eP d == dP)=true from jZ)]
 refine aF (aP ?_)
 refine aF (AH eo ed ?_)
 rw[if_neg (by simp)]
 refine aF (aP ?_)
 refine aF (AG eo ed ?_)
 rw[if_neg (by simp)]
 refine aP ?_
 simp only[show ¬ ((i:Int)<0) from by omega,if_false,xB,Array.getElem?_eq_none x]
 refine aF ?_
 first
  | refine aF (ME K.typeIs (aP ?_))
  | refine aF (MC K.typeIs (aP ?_))
 show aM _ _ (setField (.ref it) 0 .none >>= _) _ _ s
 refine aF (EW ei di (by simp) ?_)
 show aM _ _ (sZ (.type "StopIteration") [] >>= _) _ _ _
 refine aF ?_
 simp only[sZ,newTuple]
 refine aF (jM ?_ (by size_fits))
 refine aF (m:=tH _ _) (EY (a:=dP)
  (by first | rfl | (simp only[tH]; rfl)) ?_)
 refine jM ?_ (by size_fits)
 simp only[raiseNew]
 refine aF (MM ?_)
 rw[show A.in1.handled=none from hh]
 refine aF (aP (MG ?_))
 refine aF (AE (T:="StopIteration") (b:=true)
  ⟨_,dA _ rfl,rfl⟩ MS ?_)
 exact aP (q _ (((xD ..).extBut.push _).push _))
theorem Zl (hh:A.handled=none)(I d:aD)(ne:d≠I)(es:Array nJ)(ep:Nat) :
  Walks prog w A I [I,d] [I] es.size (fun i v=>∃ e,es[i]?=some e/\v=e.key) (fun i h=>h.IsKeyIter I d i es.size ep/\Ash h d es ep) where
 sub:=fun b hb=>by simp at hb; simp[hb]
 frame:=fun _ _ _ st hk=>⟨st.1.at fun o e=>hk I (by simp) o e,st.2.keep fun o e=>hk d (by simp) o e⟩
 item:=fun i s Q E hi st hQ=>by
  have hx:es[i]?=some es[i]:=Array.getElem?_eq_getElem hi
  refine TJ st.1 st.2 hx fun h' K' hs=>?_
  exact hQ _ h' s.toks ⟨_,hx,rfl⟩ ⟨K',st.2.keep fun o e=>hs.extBut d o ne e⟩ fun b o hb e=>hs.extBut b o (fun h=>hb (by simp[h])) e
 done:=fun s Q E st hQ=>RA hh st.1 st.2 (bE _) fun h' he=>hQ h' s.toks fun b o hb e=>he b o (fun h=>hb (by simp[h])) e
 self:=fun _ _ _ _ st hQ=>Aq st.1 hQ
theorem Ue:AI (.type "dict") "__len__" = pure (some (.builtin "dict.__len__")):=by rw[wG,wM]; kernel_rfl
theorem Qz(hh:A.handled=none)(nm:(d == iB)=false)(D:Ash s.heap d es ep)(S:aD)(res:aE)(c₀:Nat)(hSd:S≠d)
  (hS:s.heap.get? S=some { cls:=.type "list",data:=.seq #[] c₀ }) (hn:es.size≤sizeLine)
  (q : ∀ h' tk acc c',(∀ b o,b≠S->s.heap.get? b=some o->h'.get? b=some o)->h'.get? S=some { cls:=.type "list",dict:=none,data:=.seq acc c',slots:=#[] } ->
   ItemsOf (fun i v=>∃ e,es[i]?=some e/\v=e.key) acc es.size->R (.ok (.ret res)) { s with heap:=h',toks:=tk }) :
  aM (aU prog w) A.in1 (OG (.ref S) (.ref d) res)
   (fun fin s'=>match fin with | .done f=>R (.ok f) s' | .again c'=>c'.quiet=true/\oB (aU prog w) A c' R s') (fun e s'=>R (.error e) s') s:=by
 have ty:=D.ty
 unfold OG
 refine aF (rB ty ?_)
 have h1:Builtin.List.listSameRef (.ref S) (.ref d)=false:=by
  simp[Builtin.List.listSameRef,hSd]
 have h2:(oD "dict" == oD "list")=false:=by decide
 have h3:(oD "dict" == oD "tuple")=false:=by decide
 simp only[h1,h2,h3,Bool.or_false,rL,if_false]
 refine aF (RS nm D ?_)
 refine aF (jV ?_)
 have hd0:d<s.heap.objs.size:=by obtain⟨o,e,_⟩:=D; exact cA e
 have hS0:S<s.heap.objs.size:=cA hS
 have keepP : ∀ b o,s.heap.get? b=some o->(s.heap.push { cls:=.type "dict_keyiterator",data:=.fields #[.ref d,.int 0 0,.int es.size 0,.int ep 0] }).get? b=some o:=fun b o e=>bW _ e
 have D':Ash (s.heap.push { cls:=.type "dict_keyiterator",data:=.fields #[.ref d,.int 0 0,.int es.size 0,.int ep 0] }) d es ep:=D.keep fun o e=>keepP d o e
 have itG:(s.heap.push { cls:=.type "dict_keyiterator",data:=.fields #[.ref d,.int 0 0,.int es.size 0,.int ep 0] }).IsKeyIter s.heap.objs.size d 0 es.size ep:=⟨_,dA _ rfl,rfl,rfl⟩
 unfold Builtin.List.listLengthHint
 refine aF (AD (T:="dict") (v:=.ref d) (by obtain⟨o,e,c,_⟩:=D'; exact⟨o,e,c.1⟩) Ue ?_)
 wp_delta
 refine aF (AE (T:="dict") (v:=.ref d) (b:=true) (by obtain⟨o,e,c,_⟩:=D'; exact⟨o,e,c.1⟩) (by rw[wK]; kernel_rfl) ?_)
 show aM _ _ (typeOf (eP d) >>= _) _ _ _
 refine aF (rB (T:="dict") (v:=.ref d) (by obtain⟨o,e,c,_⟩:=D'; exact⟨o,e,c.1⟩) ?_)
 refine aP ?_
 rw[if_pos (by decide)]
 refine aF (rC ?_)
 refine aF ?_
 have S1:=keepP _ _ hS
 generalize(s.heap.push { cls:=.type "dict_keyiterator",data:=.fields #[.ref d,.int 0 0,.int es.size 0,.int ep 0] })=G at keepP D' S1 itG ⊢
 show aM _ _ (updateSeq S (·.push .none) >>= fun _=>updateSeq S (·.pop)) _ _ _
 refine aF (wpAny_updateSeq S1 rfl ?_)
 have S2:=BE (gK (·.push dP)) S1 rfl
 refine wpAny_updateSeq (hz:=by seq_fits) S2 rfl ?_
 have S3:=BE (gK (·.pop)) S2 rfl
 have other : ∀ b o,b≠S->G.get? b=some o->((G.update S (gK (·.push dP))).update S (gK (·.pop))).get? b=some o:=fun b o hb e=>
  (FM _ _ (eZ hb)).trans ((FM _ _ (eZ hb)).trans e)
 have hne:d≠s.heap.objs.size:=dQ hd0
 have hSf:S∉[s.heap.objs.size,d]:=fun hm=>by
  rcases cU.mp hm with z | z
  ·exact absurd hS0 (by rw[z]; exact kI _)
  ·exact hSd (bL.mp z)
 refine aP ⟨wJ F.plain_extend_loop _,codeAny_extend_loopS (Zl (A:=A.in1) hh s.heap.objs.size d hne es ep).toS hn _ hSf _ es.size 0 _ _ _ rfl (eR _)
  ⟨itG.at fun o e=>other _ o (nC hS0) e,D'.keep fun o e=>other _ o (eZ hSd) e⟩ S3 (ItemsOf.nil _) fun s' acc c' hm hS' hacc=>?_⟩
 rw[Moved.eq_with hm]
 refine q s'.heap s'.toks acc c' (fun b ob hb e=>hm.heap b ob (fun hmem=>?_) (other b ob hb (keepP _ _ e))) hS' hacc
 rcases cU.mp hmem with z | hmem
 ·exact hb z
 ·exact absurd (cA e) (by rw[bL.mp hmem]; exact kI _)
theorem Vx(hh:A.handled=none)(nm:(d == iB)=false)(D:Ash s.heap d es ep)(hn:es.size≤sizeLine)
  (q : ∀ h' tk acc c',(∀ b o,s.heap.get? b=some o->h'.get? b=some o)->h'.get? s.heap.objs.size=some { cls:=.type "list",dict:=none,data:=.seq acc c',slots:=#[] } ->
   ItemsOf (fun i v=>∃ e,es[i]?=some e/\v=e.key) acc es.size->Q (.ref s.heap.objs.size) { s with heap:=h',toks:=tk }):aM (aU prog w) A (call (.type "list") [.ref d]) Q E s:=by
 refine MT (Q₁:=fun obj s₁=>obj = .ref s.heap.objs.size/\s₁ = { s with heap:=s.heap.push { cls:=.type "list",data:=.seq #[] } })
  F.called_list (F.typeCall_list_1 _) F.entry_list_init (code_list_new _ ⟨rfl,rfl⟩) fun obj s₁ h₁=>?_
 obtain⟨rfl,rfl⟩:=h₁
 have hd0:d<s.heap.objs.size:=by obtain⟨o,e,_⟩:=D; exact cA e
 have N1:(s.heap.push { cls:=.type "list",data:=.seq #[] }).get? s.heap.objs.size=some { cls:=.type "list",data:=.seq #[] }:=dA _ rfl
 refine⟨⟨_,N1,rfl⟩,F.args_list_init_2 _ _,?_⟩
 show aM _ _ (do
  let old ← Builtin.List.listItems (.ref s.heap.objs.size)
  Builtin.List.listUpdate (.ref s.heap.objs.size) (fun _=>#[])
  letGo old.toList.reverse
  OG (.ref s.heap.objs.size) (.ref d) .none) _ _ _
 refine aF ?_
 unfold Builtin.List.listItems
 refine aF (mX N1 rfl (aP ?_))
 show aM _ _ (updateSeq s.heap.objs.size (fun _=>#[]) >>= fun _=>letGo (#[]:Array aE).toList.reverse >>= fun _=>
  OG (.ref s.heap.objs.size) (.ref d) .none) _ _ _
 refine aF (wpAny_updateSeq N1 rfl ?_)
 have N2:=BE (gK (fun _=>(#[]:Array aE))) N1 rfl
 have other : ∀ b o,b≠s.heap.objs.size->(s.heap.push { cls:=.type "list",data:=.seq #[] }).get? b=some o ->
   ((s.heap.push { cls:=.type "list",data:=.seq #[] }).update s.heap.objs.size (gK (fun _=>(#[]:Array aE)))).get? b=some o:=fun b o hb e=>(FM _ _ (eZ hb)).trans e
 refine aF (EZ ?_)
 refine Qz (A:=A.in1) hh nm (D.keep fun o e=>other d o (dQ hd0) (bW _ e)) s.heap.objs.size .none _ (nC hd0) N2 hn fun h' tk acc c' hk hS' hacc=>?_
 exact⟨rfl,q h' tk acc c' (fun b o e=>hk b o (dQ (cA e)) (other b o (dQ (cA e)) (bW _ e))) hS' hacc⟩
end
section
variable {σ:St}
theorem KM : ∀ {es:List nJ} {kvs:List (aI×V)} {vs:List (aI×aE)},KV kvs vs->PySem.Pairs (fC P w) es vs->Vals (kvs.map fun kv=>kV kv.1) (es.map (·.key))
 | [],kvs,vs,r,p=>by
  cases p
  cases r
  exact .nil
 | e::es,kvs,vs,r,p=>by
  cases p with
  | cons h hv t=>
   cases r with
   | cons h' t'=>
    refine .cons ?_ (KM t' t)
    show RelV (kV _) e.key
    rw[h'.1]
    rcases mW h with⟨i,tk,e1,e2⟩ | ⟨x,tk,e1,e2⟩
    ·rw[e1,e2]; exact⟨tk,rfl⟩
    ·rw[e1,e2]; exact⟨tk,rfl⟩
theorem Yy {es:Array nJ}{acc:Array aE}(h:ItemsOf (fun i v=>∃ e,es[i]?=some e/\v=e.key) acc es.size):acc.toList=es.toList.map (·.key):=by
 obtain⟨h1,h2⟩:=h
 apply NT
 intro i
 rw[dI]
 by_cases hi:i<acc.size
 ·have ha:acc.toList[i]?=some acc[i]:=by simp[hi]
  obtain⟨e,he,hv⟩:=h2 i acc[i] (by simp[hi])
  have he':es.toList[i]?=some e:=by simpa using he
  rw[ha,he',hv]
  rfl
 ·have ha:acc.toList[i]?=none:=by simp; omega
  have he:es.toList[i]?=none:=by simp; omega
  rw[ha,he]
  rfl
theorem Hg {ep0:Nat}{kvs:List (aI×V)}(I:Inv X pins σ H s)(ha:H a=some (.dK ep0 kvs)):kvs.length≤sizeLine/\(a == iB)=false /\ ∃ es ep,Ash s.heap a es ep/\Vals (kvs.map fun kv=>kV kv.1) (es.toList.map (·.key))/\es.size=kvs.length:=by
 obtain⟨z,nm,vs,r,o,es,ep,e1,e2,e3,_,e5,_⟩:=uG I.hok ha
 refine⟨z,nm,es,ep,⟨o,e1,e2,e3⟩,KM r e5,?_⟩
 have l1:=(KM r e5).length
 simp at l1
 exact l1.symm
theorem Qw (hc:X.calm=true):Adz X (.type "list") (fun xs H Q=>∃ a ep kvs,xs=[.ref a]/\H a=some (.dK ep kvs) /\ ∀ l,H l=none->Q (.ref l) (upd H l (.lst (kvs.map fun kv=>kV kv.1)))):=by
 intro pins s σ H xs us Q I r h
 obtain⟨a,ep1,kvs,rfl,ha,q⟩:=h
 obtain⟨u,rfl,ru⟩:=vals1 r
 cases ru
 obtain⟨z,nm,es,ep,D,rv,el⟩:=Hg I ha
 refine Vx (I.ok.hd hc) nm D (by omega) fun h' tk acc c' hk hS hacc=>?_
 have ea:=Yy hacc
 rw[← ea] at rv
 exact⟨.ref s.heap.objs.size,_,I.laid (o:=.lst (kvs.map fun kv=>kV kv.1)) hk (bE _) (show Ac9 X.prog X.w _ h' _ (.lst _) from⟨by rw[cV]; exact z,acc.toList,c',rv,by simpa using hS⟩),rfl,q _ I.fresh⟩
theorem VD : ∀ {kds:List (aA×aA)} {kvs:List (aI×V)},Ab2 K H kds kvs->(∀ kd∈kds,cR kd.1=true)->Aas K H (kds.map (·.1)) (kvs.map fun kv=>kV kv.1)
 | [],kvs,r,_=>by rw[Ab6.mp r]; exact Aan.mpr rfl
 | (k,d)::kds,kvs,r,h=>by
  obtain⟨k',x,rr,rfl,rfl,h1,h2⟩:=Aba.mp r
  refine Aah.mpr ⟨_,_,rfl,?_,VD h2 fun kd m=>h kd (cF _ m)⟩
  have hl:=h (kD k',d) bM
  cases k' with
  | inl i=>exact Aaq.mpr rfl
  | inr z=>exact Aa7.mpr ⟨rfl,hl⟩
def GY:List aA->Option aA
 | [.dict kds]=>if (plK kds&&kds.all fun kd=>cR kd.1)=true then some (.list (kds.map (·.1))) else none
 | _=>none
theorem Sd:CallD K 1 (fun xs H Q=>∃ a ep kvs,xs=[.ref a]/\H a=some (.dK ep kvs) /\ ∀ l,H l=none->Q (.ref l) (upd H l (.lst (kvs.map fun kv=>kV kv.1)))) GY:=fun P H xs ds d Q hP r e k=>by
 unfold GY at e
 split at e
 ·obtain⟨hl,rfl⟩:=cX e
  obtain⟨v,rfl,r'⟩:=fQ r
  obtain⟨pk,hl⟩:=iU.mp hl
  obtain⟨q,ys,rfl,hq,rr⟩:=(oX pk).mp r'
  exact⟨q,ys.1,ys.2,rfl,Aau _ _ hq,fun l hl'=>k.lst hP hl' (VD rr (fA.mp hl))⟩
 ·cases e
def pV (b:List (aA×aA)):List (aA×aA)->Bool
 | []=>true
 | (k,d)::r=>match (cL k).bind (cN b) with
  | none=>false
  | some e=>cK d e&&pV b r
def CA (a b:List (aA×aA)):Bool:=a.length == b.length&&pV b a
def valsOk (a:List (aA×aA)):Bool:=a.all fun kd=>dE kd.2
theorem Wj {b:List (aA×aA)}{k:aI}(h:valsOk b=true)(e:cN b k=some d):dE d=true:=by
 unfold cN at e
 cases q:b.find? fun kd=>decide (cL kd.1=some k) with
 | none=>rw[q] at e; cases e
 | some kd=>
  rw[q] at e
  have:kd.2=d:=by simpa using e
  subst this
  exact fA.mp h kd (Bu q)
theorem Ak (hu:X.A.units+100<cLine)(I:Inv X pins σ H s){kb:List (aA×aA)}{vb:List (aI×V)}{ub:List (aI×aE)}(rb:Ab2 X.K H kb vb)(qb:KV vb ub)(fb:valsOk kb=true) :
  ∀ {ka:List (aA×aA)} {va:List (aI×V)} {ua:List (aI×aE)},valsOk ka=true->Ab2 X.K H ka va->KV va ua->PySem.W.KeqHits X.A.in1 s ub ua (pV kb ka)
 | [],va,ua,_,ra,qa=>by
  obtain rfl:=Ab6.mp ra
  cases qa
  exact .nil
 | (k,d)::ka,va,ua,fa,ra,qa=>by
  obtain⟨k',x,rr,rfl,rfl,h1,h2⟩:=Aba.mp ra
  have fa':dE d=true/\valsOk ka=true:=by simpa [valsOk] using fa
  cases qa with
  | @cons _ u _ us h' t'=>
  obtain⟨g1,g2⟩:=h'
  obtain⟨uk,uv⟩:=u
  have e2:k'=uk:=g1
  subst e2
  have rel:=qb.val k'
  have eh:pV kb ((kD k',d)::ka)=(match cN kb k' with | none=>false | some e=>cK d e&&pV kb ka):=by
   show(match (cL (kD k')).bind (cN kb) with | none=>false | some e=>cK d e&&pV kb ka)=_
   rw[vC]
   rfl
  rcases vH (k:=k') rb with⟨n1,n2⟩ | ⟨d',v',s1,s2,rd⟩
  ·rw[n2] at rel
   rw[eh,n1]
   exact .miss rel.none_of
  ·rw[s2] at rel
   obtain⟨y,hy,ry⟩:=rel.some_of
   have f1:noDict d=true/\d.depth≤60:=by simpa [dE] using fa'.1
   have f2:noDict d'=true/\d'.depth≤60:=by simpa [dE] using Wj fb s1
   obtain⟨l1,as,ra'⟩:=kU I f1.1 h1 g2
   obtain⟨l2,bs,rb'⟩:=kU I f2.1 rd ry
   have eq:=SeqAt.eqAt_reads d d' X.A.in1 s uv y as bs ra' rb' l1 l2 (by
    have:X.A.in1.units=X.A.units+1:=rfl
    omega)
   rw[eh,s1]
   exact .hit hy eq (Ak hu I rb qb fb fa'.2 h2 t')
def OR (K:aK)(neg:Bool):R2:=fun x y H Q=>∃ ka kb,Abk K H (.dict ka) x/\Abk K H (.dict kb) y/\(plK ka=true/\plK kb=true)/\valsOk ka=true/\valsOk kb=true/\Q (.bl (neg != CA ka kb)) H
theorem Kc (hu:X.A.units+100<cLine):OpR X (iC .Eq) (OR X.K false):=by
 intro pins s σ H x y v u Q I rx ry h
 obtain⟨ka,kb,ra,rb,pk,fa,fb,q⟩:=h
 obtain⟨a,va,rfl,ha,ra⟩:=(oX pk.1).mp ra
 obtain⟨b,vb,rfl,hb,rb⟩:=(oX pk.2).mp rb
 cases rx
 cases ry
 obtain⟨_,na,ua,qa,da⟩:=uG I.hok ha
 obtain⟨_,nb,ub,qb,db⟩:=uG I.hok hb
 have l1:ka.length=ua.length:=(ra.length).symm.trans qa.length
 have l2:kb.length=ub.length:=(rb.length).symm.trans qb.length
 refine PySem.W.keq_eq na nb da db (by omega) (fun _=>Ak hu I rb qb fb fa ra qa) ?_
 rw[← l1,← l2]
 exact⟨.bl _,H,I,rfl,by simpa [CA] using q⟩
def uA (neg:Bool):aA->aA->Option aA
 | .dict a,.dict b=>if (valsOk a&&valsOk b&&(plK a&&plK b))=true then some (.bool (neg != CA a b)) else none
 | _,_=>none
theorem Ny{neg:Bool}:OpD K 0 (OR K neg) (uA neg):=fun P H x y a b d Q hP ra rb e k=>by
 unfold uA at e
 split at e
 ·obtain⟨hc,rfl⟩:=cX e
  have hc':=iU.mp hc
  have hv:=iU.mp hc'.1
  exact⟨_,_,ra.ext Aau,rb.ext Aau,iU.mp hc'.2,hv.1,hv.2,k.zero Ext.refl (Aax.mpr rfl)⟩
 ·cases e
end
open PySem
structure Sub (P:bT)(w:bI)(it:aD)(own:List aD)(St:Nat->aZ->Prop)(xs:Array aE):Prop where
 mem:it∈own
 obj : ∀ k h,St k h -> ∀ c∈own,∃ o,h.get? c=some o
 keep : ∀ k h h',St k h->(∀ c∈own,∀ o,h.get? c=some o->h'.get? c=some o)->St k h'
 item : ∀ (A:cM) (E:aE->aJ->Prop) (s:aJ) (Q:aE->aJ->Prop) (k:Nat) (x:aE),St k s.heap->xs[k]?=some x ->
  (∀ h',St (k+1) h'->nH it s.heap h'->Q x { s with heap:=h' })->aM (aU P w) A (pU (.ref it)) Q E s
 done : ∀ (A:cM) (E:aE->aJ->Prop) (s:aJ) (Q:aE->aJ->Prop) (k:Nat),A.handled=none->St k s.heap->xs[k]?=none ->
  (∀ h' e,FN it s.heap h'->(∃ o,h'.get? e=some o/\o.cls = .type "StopIteration")->E (.ref e) { s with heap:=h' })->aM (aU P w) A (pU (.ref it)) Q E s
section
theorem Vr {t:aD}(hj:s.heap.IsTupleIter j t k)(ht:s.heap.IsTuple t us)(hu:us[k]?=some u)
  (q : ∀ h',h'.IsTupleIter j t (k+1)->nH j s.heap h'->Q u { s with heap:=h' }):aM (aU P w) A (pU (.ref j)) Q E s:=by
 obtain⟨oj,g1,g2,g3⟩:=id hj
 obtain⟨ot,t1,_,nt,t2⟩:=ht
 unfold pU
 refine aF (mY (name:=lV "__next__") hj.typeIs NY (iN NY hj.typeIs F.entry_tuple_iterator_next ?_ (F.args_tuple_iterator_next_1 _)))
 show aM _ _ (lT (.ref j) 0 >>= _) _ _ s
 refine aF (fS g1 g3 (x:=.ref t) rfl ?_)
 show aM _ _ (if (eP t == dP)=true then _ else _) _ E s
 have ne : ¬ (eP t == dP)=true:=jZ
 rw[if_neg ne]
 show aM _ _ (lT (.ref j) 1 >>= _) _ _ s
 refine aF (fS g1 g3 (x:=.int k 0) rfl ?_)
 show aM _ _ (seqItems? (.ref t) >>= _) _ E s
 refine aF (mX t1 t2 ?_)
 simp only[xB,hu]
 refine aF (EW g1 g3 (by simp) (aP ⟨u,rfl,aP (q _ ⟨_,BE _ g1 (Obj.isFreed_of_fields (MZ g3 _)),(Obj.cls_mapFields ..).trans g2,?_⟩ (xD ..))⟩))
 rw[MZ g3]
 simp[eU]
theorem Yb {t:aD}(hh:A.handled=none)(hj:s.heap.IsTupleIter j t k)(ht:s.heap.IsTuple t us)(hu:us[k]?=none)
  (q : ∀ h' e,FN j s.heap h'->(∃ o,h'.get? e=some o/\o.cls = .type "StopIteration")->E (.ref e) { s with heap:=h' }):aM (aU P w) A (pU (.ref j)) Q E s:=by
 obtain⟨oj,g1,g2,g3⟩:=id hj
 obtain⟨ot,t1,_,nt,t2⟩:=ht
 unfold pU
 refine aF (mY (name:=lV "__next__") hj.typeIs NY (iN NY hj.typeIs F.entry_tuple_iterator_next ?_ (F.args_tuple_iterator_next_1 _)))
 show aM _ _ (lT (.ref j) 0 >>= _) _ _ s
 refine aF (fS g1 g3 (x:=.ref t) rfl ?_)
 show aM _ _ (if (eP t == dP)=true then _ else _) _ E s
 have ne : ¬ (eP t == dP)=true:=jZ
 rw[if_neg ne]
 show aM _ _ (lT (.ref j) 1 >>= _) _ _ s
 refine aF (fS g1 g3 (x:=.int k 0) rfl ?_)
 show aM _ _ (seqItems? (.ref t) >>= _) _ E s
 refine aF (mX t1 t2 ?_)
 simp only[xB,hu]
 refine aF (rC (aF (EW g1 g3 (by simp) ?_)))
 show aM _ _ (sZ (.type "StopIteration") [] >>= _) _ E _
 refine aF ?_
 simp only[sZ,newTuple]
 refine aF (jM ?_ (by size_fits))
 refine aF (m:=tH _ _) (EY (a:=dP) (by first | rfl | (simp only[tH]; rfl)) ?_)
 refine jM ?_ (by size_fits)
 simp only[raiseNew]
 refine aF (MM ?_)
 first | rw[show A.in1.handled=none from hh] | rw[hh]
 refine aF (aP (MG (q _ _ (((xD ..).extBut.push _).push _) ⟨_,dA _ rfl,rfl⟩)))
theorem Mr (j t:aD)(us:Array aE)(ne:t≠j):Sub P w j [j,t] (fun k h=>h.IsTupleIter j t k/\h.IsTuple t us) us where
 mem:=bM
 obj:=fun k h ⟨⟨o,e,_⟩,⟨o',e',_⟩⟩ c hc=>by
  rcases cU.mp hc with rfl | hc
  ·exact⟨o,e⟩
  ·rw[bL.mp hc]; exact⟨o',e'⟩
 keep:=fun k h h' ⟨⟨o,e,r⟩,⟨o',e',r'⟩⟩ kp=>⟨⟨o,kp j bM o e,r⟩,⟨o',kp t (by simp) o' e',r'⟩⟩
 item:=fun A E s Q k x ⟨a,b⟩ hx q=>Vr a b hx fun h' a' sb=>q h' ⟨a',b.extBut sb.extBut ne⟩ sb
 done:=fun A E s Q k hh ⟨a,b⟩ hx q=>Yb hh a b hx q
theorem Yk (j t:aD)(us:Array aE)(ne:t≠j):Sub P w j [j,t] (fun k h=>h.IsListIter j t k/\h.IsList t us) us where
 mem:=bM
 obj:=fun k h ⟨⟨o,e,_⟩,⟨o',e',_⟩⟩ c hc=>by
  rcases cU.mp hc with rfl | hc
  ·exact⟨o,e⟩
  ·rw[bL.mp hc]; exact⟨o',e'⟩
 keep:=fun k h h' ⟨⟨o,e,r⟩,⟨o',e',r'⟩⟩ kp=>⟨⟨o,kp j bM o e,r⟩,⟨o',kp t (by simp) o' e',r'⟩⟩
 item:=fun A E s Q k x ⟨a,b⟩ hx q=>wpAny_nextOf_list_item a b hx fun h' a' sb=>q h' ⟨a',b.extBut sb.extBut ne⟩ sb
 done:=fun A E s Q k hh ⟨a,b⟩ hx q=>wpAny_nextOf_list_end hh a b hx q
structure ZApart (z TI TO i1 i2:aD)(o1 o2:List aD):Prop where
 TIz:TI≠z
 TOz:TO≠z
 TITO:TI≠TO
 TI1:TI≠i1
 TI2:TI≠i2
 i12:i1≠i2
 z1:z∉o1
 z2:z∉o2
 TO1:TO∉o1
 TO2:TO∉o2
 x12:i1∉o2
 x21:i2∉o1
variable {z TI TO i1 i2:aD}{o1 o2:List aD}{S1 S2:Nat->aZ->Prop}{xs ys:Array aE}
def ZAt (z TI TO i1 i2:aD)(S1 S2:Nat->aZ->Prop)(f0:aE)(k:Nat)(h:aZ):Prop:=
 oG h z TI TO f0/\nG h TI (.ref i1) (.ref i2)/\(∃ a b,nG h TO a b)/\S1 k h/\S2 k h
theorem Sub.but {c:aD}{own:List aD}{St:Nat->aZ->Prop}(U:Sub P w it own St us)(st:St k h)(hc:c∉own)(e:FN c h h'):St k h':=
 U.keep k h h' st fun b hb o g=>e b o (fun q=>hc (q ▸ hb)) g
theorem Vu {x y:aE}(D:ZApart z TI TO i1 i2 o1 o2)(U:Sub P w i1 o1 S1 xs)(V:Sub P w i2 o2 S2 ys)(st:ZAt z TI TO i1 i2 S1 S2 .none k s.heap)(hx:xs[k]?=some x)(hy:ys[k]?=some y)
  (q : ∀ h',ZAt z TI TO i1 i2 S1 S2 (eU s.heap.objs.size) (k+1) h'->nG h' s.heap.objs.size x y->h'.objs.size=s.heap.objs.size+1 ->
   (∀ c o,c≠z->c≠TO->c≠i1->c≠i2->s.heap.get? c=some o->h'.get? c=some o)->Q (.ref s.heap.objs.size) { s with heap:=h' }) :
  aM (aU P w) A (Builtin.«zip.__next__» ⟨[.ref z],[]⟩) (fun fin s'=>∃ v,fin = .done (.ret v)/\Q v s') E s:=by
 obtain⟨gz,gI,⟨a,b,gO⟩,st1,st2⟩:=st
 have z1:i1≠z:=fun e=>D.z1 (e ▸ U.mem)
 have z2:i2≠z:=fun e=>D.z2 (e ▸ V.mem)
 have t1:TO≠i1:=fun e=>D.TO1 (e ▸ U.mem)
 have t2:TO≠i2:=fun e=>D.TO2 (e ▸ V.mem)
 show aM _ _ (lT (.ref z) 2 >>= _) _ E s
 refine aF (fS gz rfl (x:=.bool false) rfl ?_)
 show aM _ _ (lT (.ref z) 3 >>= _) _ E s
 refine aF (fS gz rfl (x:=.ref TI) rfl (aF (mX gI rfl ?_)))
 show aM _ _ (OD (.ref z) >>= _) _ E s
 refine aF ?_
 unfold OD
 refine aF (fS gz rfl (x:=.none) rfl (aP ?_))
 simp only[if_true]
 refine aF (rC (aF (fS gz rfl (x:=.ref TO) rfl ?_)))
 refine aF (kY gz (by simp) fun ha gza sa=>?_)
 replace gza:oG ha z TI TO .ellipsis:=gza
 refine aF ?_
 simp only[List.zipIdx_cons,List.zipIdx_nil,Ca,List.forIn_nil]
 refine aF (aF (MI ?_))
 show aM _ _ (pU (.ref i1) >>= _) _ _ _
 refine aF (U.item _ _ _ _ k x (U.but st1 D.z1 sa.extBut) hx fun hb st1b sb=>aP ?_)
 have gOb:nG hb TO a b:=sb.extBut _ _ t1 (sa.extBut _ _ D.TOz gO)
 refine aF (mX gOb rfl (aF (Ap gOb fun hc gOc sc=>?_)))
 replace gOc:nG hc TO x b:=gOc
 refine aF (EZ (aP (aF (aF (MI ?_)))))
 show aM _ _ (pU (.ref i2) >>= _) _ _ _
 refine aF (V.item _ _ _ _ k y (V.but (V.but (V.but st2 D.z2 sa.extBut) D.x12 sb.extBut) D.TO2 sc.extBut) hy fun hd st2d sd=>aP ?_)
 have gOd:nG hd TO x b:=sd.extBut _ _ t2 gOc
 refine aF (mX gOd rfl (aF (Ap gOd fun he gOe se=>?_)))
 replace gOe:nG he TO x y:=gOe
 refine aF (EZ (aP (aP ?_)))
 refine aF (mX gOe rfl (aF (MK ?_)))
 have size:he.objs.size=s.heap.objs.size:=by rw[se.1,sd.1,sc.1,sb.1,sa.1]
 have gze:oG he z TI TO .ellipsis:=se.extBut _ _ D.TOz.symm (sd.extBut _ _ z2.symm (sc.extBut _ _ D.TOz.symm (sb.extBut _ _ z1.symm gza)))
 have old : ∀ c o,c≠z->c≠TO->c≠i1->c≠i2->s.heap.get? c=some o->he.get? c=some o:=fun c o n1 n2 n3 n4 g=>se.extBut _ _ n2 (sd.extBut _ _ n4 (sc.extBut _ _ n2 (sb.extBut _ _ n3 (sa.extBut _ _ n1 g))))
 have st1e:S1 (k+1) he:=U.but (U.but (U.but st1b D.TO1 sc.extBut) D.x21 sd.extBut) D.TO1 se.extBut
 have st2e:S2 (k+1) he:=V.but st2d D.TO2 se.extBut
 have zlt:z<he.objs.size:=cA gze
 show aM _ _ (f7 (.ref z) (.ref he.objs.size) >>= _) _ _ _
 refine aF ?_
 unfold f7
 have gzf:oG (he.push { cls:=.type "tuple",data:=.seq #[x,y] }) z TI TO .ellipsis:=bW _ gze
 refine aF (kY gzf (by simp) fun hg gzg sg=>?_)
 replace gzg:oG hg z TI TO (eU he.objs.size):=gzg
 refine kY gzg (by simp) fun hi gzi si=>?_
 replace gzi:oG hi z TI TO (eU he.objs.size):=gzi
 have up : ∀ c o,c≠z->he.get? c=some o->hi.get? c=some o:=fun c o n1 g=>si.extBut _ _ n1 (sg.extBut _ _ n1 (bW _ g))
 have gT:nG hi he.objs.size x y:=si.extBut _ _ (nC zlt) (sg.extBut _ _ (nC zlt) (dA _ rfl))
 have sz:hi.objs.size=he.objs.size+1:=by rw[si.1,sg.1,xC]
 have st1i:S1 (k+1) hi:=U.keep _ _ _ st1e fun c hc o g=>up c o (fun e=>D.z1 (e ▸ hc)) g
 have st2i:S2 (k+1) hi:=V.keep _ _ _ st2e fun c hc o g=>up c o (fun e=>D.z2 (e ▸ hc)) g
 rw[size] at gzi gT sz
 refine aP ⟨_,rfl,?_⟩
 show Q (.ref he.objs.size) _
 rw[size]
 exact q hi ⟨gzi,up _ _ D.TIz (old _ _ D.TIz D.TITO D.TI1 D.TI2 gI),⟨x,y,up _ _ D.TOz gOe⟩,st1i,st2i⟩ gT sz fun c o n1 n2 n3 n4 g=>up c o n1 (old c o n1 n2 n3 n4 g)
theorem Wz {Q:Fin->aJ->Prop}(hh:A.handled=none)(D:ZApart z TI TO i1 i2 o1 o2)(U:Sub P w i1 o1 S1 xs)(V:Sub P w i2 o2 S2 ys)(st:ZAt z TI TO i1 i2 S1 S2 .none k s.heap)(hend:xs[k]?=none \/ ys[k]?=none)
  (q : ∀ h' e,(∀ c o,c≠z->c≠TO->c≠i1->c≠i2->s.heap.get? c=some o->h'.get? c=some o)->(∃ o,h'.get? e=some o/\o.cls = .type "StopIteration")->E (.ref e) { s with heap:=h' }) :
  aM (aU P w) A (Builtin.«zip.__next__» ⟨[.ref z],[]⟩) Q E s:=by
 obtain⟨gz,gI,⟨a,b,gO⟩,st1,st2⟩:=st
 have z1:i1≠z:=fun e=>D.z1 (e ▸ U.mem)
 have z2:i2≠z:=fun e=>D.z2 (e ▸ V.mem)
 have t1:TO≠i1:=fun e=>D.TO1 (e ▸ U.mem)
 show aM _ _ (lT (.ref z) 2 >>= _) _ E s
 refine aF (fS gz rfl (x:=.bool false) rfl ?_)
 show aM _ _ (lT (.ref z) 3 >>= _) _ E s
 refine aF (fS gz rfl (x:=.ref TI) rfl (aF (mX gI rfl ?_)))
 show aM _ _ (OD (.ref z) >>= _) _ E s
 refine aF ?_
 unfold OD
 refine aF (fS gz rfl (x:=.none) rfl (aP ?_))
 simp only[if_true]
 refine aF (rC (aF (fS gz rfl (x:=.ref TO) rfl ?_)))
 refine aF (kY gz (by simp) fun ha gza sa=>?_)
 replace gza:oG ha z TI TO .ellipsis:=gza
 refine aF ?_
 simp only[List.zipIdx_cons,List.zipIdx_nil,Ca,List.forIn_nil]
 refine aF (aF (MI ?_))
 show aM _ _ (pU (.ref i1) >>= _) _ _ _
 have far : ∀ {h':aZ} {e:aD},oG h' z TI TO .ellipsis->(∃ o,h'.get? e=some o/\o.cls = .type "StopIteration")->e≠z:=fun g ⟨o,g1,g2⟩ n=>by
  subst n
  rw[g] at g1
  cases g1
  simp at g2
 cases hx:xs[k]? with
 | none=>
  refine aF (U.done _ _ _ _ k hh (U.but st1 D.z1 sa.extBut) hx fun hb e sb he=>?_)
  have gzb:oG hb z TI TO .ellipsis:=sb _ _ z1.symm gza
  have ne:=far gzb he
  obtain⟨o,g1,g2⟩:=he
  exact kY gzb (by simp) fun hc _ sc=>q hc e (fun c o n1 _ n3 _ g=>sc.extBut _ _ n1 (sb _ _ n3 (sa.extBut _ _ n1 g))) ⟨o,sc.extBut _ _ ne g1,g2⟩
 | some x=>
  have hy:ys[k]?=none:=hend.resolve_left fun h=>by rw[hx] at h; cases h
  refine aF (U.item _ _ _ _ k x (U.but st1 D.z1 sa.extBut) hx fun hb st1b sb=>aP ?_)
  have gOb:nG hb TO a b:=sb.extBut _ _ t1 (sa.extBut _ _ D.TOz gO)
  refine aF (mX gOb rfl (aF (Ap gOb fun hc gOc sc=>?_)))
  refine aF (EZ (aP (aF (aF (MI ?_)))))
  show aM _ _ (pU (.ref i2) >>= _) _ _ _
  refine aF (V.done _ _ _ _ k hh (V.but (V.but (V.but st2 D.z2 sa.extBut) D.x12 sb.extBut) D.TO2 sc.extBut) hy fun hd e sd he=>?_)
  have gzd:oG hd z TI TO .ellipsis:=sd _ _ z2.symm (sc.extBut _ _ D.TOz.symm (sb.extBut _ _ z1.symm gza))
  have ne:=far gzd he
  obtain⟨o,g1,g2⟩:=he
  exact kY gzd (by simp) fun hf _ sf=>q hf e (fun c o n1 n2 n3 n4 g=>sf.extBut _ _ n1 (sd _ _ n4 (sc.extBut _ _ n2 (sb.extBut _ _ n3 (sa.extBut _ _ n1 g))))) ⟨o,sf.extBut _ _ ne g1,g2⟩
theorem Xd {x y:aE}{Q:Option aE->aJ->Prop}(D:ZApart z TI TO i1 i2 o1 o2)(U:Sub P w i1 o1 S1 xs)(V:Sub P w i2 o2 S2 ys)(st:ZAt z TI TO i1 i2 S1 S2 .none k s.heap)(hx:xs[k]?=some x)(hy:ys[k]?=some y)
  (q : ∀ h',ZAt z TI TO i1 i2 S1 S2 (eU s.heap.objs.size) (k+1) h'->nG h' s.heap.objs.size x y->h'.objs.size=s.heap.objs.size+1 ->
   (∀ c o,c≠z->c≠TO->c≠i1->c≠i2->s.heap.get? c=some o->h'.get? c=some o)->Q (some (.ref s.heap.objs.size)) { s with heap:=h' }):aM (aU P w) A (fW (.ref z)) Q E s:=by
 have ty:s.TypeIs (.ref z) "zip":=⟨_,st.1,rfl⟩
 unfold fW
 exact aF (rD (mY (name:=lV "__next__") ty NX (iN NX ty F.entry_zip_next (Vu D U V st hx hy fun h' a1 a2 a3 a4=>aP (q h' a1 a2 a3 a4)) (F.args_zip_next_1 _))))
theorem Xo {Q:Option aE->aJ->Prop}(hh:A.handled=none)(D:ZApart z TI TO i1 i2 o1 o2)(U:Sub P w i1 o1 S1 xs)(V:Sub P w i2 o2 S2 ys)(st:ZAt z TI TO i1 i2 S1 S2 .none k s.heap)(hend:xs[k]?=none \/ ys[k]?=none)
  (q : ∀ h',(∀ c o,c≠z->c≠TO->c≠i1->c≠i2->s.heap.get? c=some o->h'.get? c=some o)->Q none { s with heap:=h' }):aM (aU P w) A (fW (.ref z)) Q E s:=by
 have ty:s.TypeIs (.ref z) "zip":=⟨_,st.1,rfl⟩
 unfold fW
 refine aF (rD (mY (name:=lV "__next__") ty NX (iN NX ty F.entry_zip_next (Wz hh D U V st hend fun h' e kp ⟨o,g1,g2⟩=>?_) (F.args_zip_next_1 _))))
 exact aF (AE (T:="StopIteration") (b:=true) ⟨o,g1,g2⟩ MS (aP (q _ kp)))
end
def SqB (b:Bool)(h:aZ)(l:aD)(us:Array aE):Prop:=match b with
 | true=>h.IsList l us
 | false=>h.IsTuple l us
def itB (b:Bool)(l:aD):bH:={ cls:=.type (match b with | true=>"list_iterator" | false=>"tuple_iterator"),data:=.fields #[.ref l,.int 0 0] }
def StB (b:Bool)(j l:aD)(us:Array aE)(k:Nat)(h:aZ):Prop:=match b with
 | true=>h.IsListIter j l k/\h.IsList l us
 | false=>h.IsTupleIter j l k/\h.IsTuple l us
theorem EN(b:Bool)(j l:aD)(us:Array aE)(ne:l≠j):Sub P w j [j,l] (StB b j l us) us:=by
 cases b with
 | true=>exact Yk j l us ne
 | false=>exact Mr j l us ne
theorem SqB.keep(q:SqB b h l us)(k : ∀ o,h.get? l=some o->h'.get? l=some o):SqB b h' l us:=by
 cases b with
 | true=>
  obtain⟨o,e,r⟩:=q
  exact⟨o,k o e,r⟩
 | false=>
  obtain⟨o,e,r⟩:=q
  exact⟨o,k o e,r⟩
theorem StB.new(q:SqB b h l us)(e:h.get? j=some (itB b l)):StB b j l us 0 h:=by
 cases b with
 | true=>exact⟨⟨_,e,rfl,rfl⟩,q⟩
 | false=>exact⟨⟨_,e,rfl,rfl⟩,q⟩
section
variable {b1 b2:Bool}{l1 l2:aD}{xs ys:Array aE}
theorem YQ(h:SqB b s.heap l us)(q:Q (.ref s.heap.objs.size) { s with heap:=s.heap.push (itB b l) }):aM (aU P w) A (lR (.ref l)) Q E s:=by
 cases b with
 | true=>exact EX h q
 | false=>exact wpAny_pyIter_tuple h q
abbrev zA (b1:Bool)(h:aZ)(l1:aD):aZ:=h.push (itB b1 l1)
abbrev zB (b1 b2:Bool)(h:aZ)(l1 l2:aD):aZ:=(zA b1 h l1).push (itB b2 l2)
abbrev zC (b1 b2:Bool)(h:aZ)(l1 l2:aD):aZ:=(zB b1 b2 h l1 l2).push { cls:=.type "tuple",data:=.seq #[.ref h.objs.size,.ref (zA b1 h l1).objs.size] }
abbrev zD (b1 b2:Bool)(h:aZ)(l1 l2:aD):aZ:=(zC b1 b2 h l1 l2).push { cls:=.type "tuple",data:=.seq #[.none,.none] }
abbrev zE (b1 b2:Bool)(h:aZ)(l1 l2:aD):aZ:=(zD b1 b2 h l1 l2).push { cls:=.type "zip",data:=.fields #[.none,.bool false,.bool false,.ref (zB b1 b2 h l1 l2).objs.size,.ref (zC b1 b2 h l1 l2).objs.size] }
theorem Xl (b1 b2:Bool)(l1 l2:aD)(xs ys:Array aE) :
  Meets (Builtin.«zip.__new__» ⟨[.type "zip",.ref l1,.ref l2],[]⟩) (fun _ R s=>SqB b1 s.heap l1 xs/\SqB b2 s.heap l2 ys /\
   R (.ok (.ret (.ref (zD b1 b2 s.heap l1 l2).objs.size))) { s with heap:=zE b1 b2 s.heap l1 l2 }):=
 .of_wp fun prog w A R s h=>by
  obtain⟨hp,g,d,tk,os⟩:=s
  obtain⟨q1,q2,q⟩:=h
  have sz:=sub_zip
  have u1:SqB b1 (Shared.heap ⟨hp,g,d,tk,os⟩) l1 xs:=q1
  have u2:SqB b2 (Shared.heap ⟨hp.push (itB b1 l1),g,d,tk,os⟩) l2 ys:=q2.keep fun o e=>bW _ e
  wp_walk using YQ u1,YQ u2
  exact⟨_,rfl,q⟩
theorem Pc {l1 l2:Nat}(h1:l1<n)(h2:l2<n):ZApart (n+4) (n+2) (n+3) n (n+1) [n,l1] [n+1,l2]:=by
 have two : ∀ {a b c:Nat},a≠b->a≠c->a∉[b,c]:=fun h h' m=>by
  rcases cU.mp m with m | m
  ·exact h m
  ·exact h' (bL.mp m)
 have ne : ∀ {a b:Nat},a<b->a≠b:=dQ
 have en : ∀ {a b:Nat},b<a->a≠b:=nC
 exact⟨ne (by omega),ne (by omega),ne (by omega),en (by omega),en (by omega),ne (by omega),two (en (by omega)) (en (by omega)),two (en (by omega)) (en (by omega)),two (en (by omega)) (en (by omega)),two (en (by omega)) (en (by omega)),two (ne (by omega)) (en h2),two (en (by omega)) (en (by omega))⟩
theorem Xz(h1:SqB b1 s.heap l1 xs)(h2:SqB b2 s.heap l2 ys)
  (q : ∀ (z TI TO i1 i2:aD) (h':aZ),s.heap.objs.size≤z->s.heap.objs.size≤TI->s.heap.objs.size≤TO->s.heap.objs.size≤i1->s.heap.objs.size≤i2->ZApart z TI TO i1 i2 [i1,l1] [i2,l2]->ZAt z TI TO i1 i2 (StB b1 i1 l1 xs) (StB b2 i2 l2 ys) .none 0 h' ->
   (∀ c o,s.heap.get? c=some o->h'.get? c=some o)->Q (.ref z) { s with heap:=h' }):aM (aU P w) A (call (.type "zip") [.ref l1,.ref l2]) Q E s:=by
 refine callType_new F.called_zip (by decide) (F.typeCall_zip_2 _ _) (F.newCall_zip_2 _ _) (fun obj=>F.args_object_init_3 obj _ _) F.entry_zip_new (Xl b1 b2 l1 l2 xs ys) ⟨h1,h2,?_⟩
 have za:(zA b1 s.heap l1).objs.size=s.heap.objs.size+1:=xC ..
 have zb:(zB b1 b2 s.heap l1 l2).objs.size=s.heap.objs.size+2:=by rw[xC,za]
 have zc:(zC b1 b2 s.heap l1 l2).objs.size=s.heap.objs.size+3:=by rw[xC,zb]
 have zd:(zD b1 b2 s.heap l1 l2).objs.size=s.heap.objs.size+4:=by rw[xC,zc]
 have g5:(zE b1 b2 s.heap l1 l2).get? (zD b1 b2 s.heap l1 l2).objs.size=some _:=dA _ rfl
 have g4:(zE b1 b2 s.heap l1 l2).get? (zC b1 b2 s.heap l1 l2).objs.size=some _:=bW _ (dA _ rfl)
 have g3:(zE b1 b2 s.heap l1 l2).get? (zB b1 b2 s.heap l1 l2).objs.size=some _:=bW _ (bW _ (dA _ rfl))
 have g2:(zE b1 b2 s.heap l1 l2).get? (zA b1 s.heap l1).objs.size=some (itB b2 l2):=bW _ (bW _ (bW _ (dA _ (by cases b2 <;> rfl))))
 have g1:(zE b1 b2 s.heap l1 l2).get? s.heap.objs.size=some (itB b1 l1):=bW _ (bW _ (bW _ (bW _ (dA _ (by cases b1 <;> rfl)))))
 have all : ∀ c o,s.heap.get? c=some o->(zE b1 b2 s.heap l1 l2).get? c=some o:=fun c o x=>bW _ (bW _ (bW _ (bW _ (bW _ x))))
 have lt1:l1<s.heap.objs.size:=by
  cases b1 with
  | true=>obtain⟨o,e,_⟩:=h1; exact cA e
  | false=>obtain⟨o,e,_⟩:=h1; exact cA e
 have lt2:l2<s.heap.objs.size:=by
  cases b2 with
  | true=>obtain⟨o,e,_⟩:=h2; exact cA e
  | false=>obtain⟨o,e,_⟩:=h2; exact cA e
 refine⟨⟨_,g5,rfl⟩,q _ (zB b1 b2 s.heap l1 l2).objs.size (zC b1 b2 s.heap l1 l2).objs.size s.heap.objs.size (zA b1 s.heap l1).objs.size _ (by omega) (by omega) (by omega) (by omega) (by omega) ?_ ⟨g5,g3,⟨_,_,g4⟩,StB.new (h1.keep (all l1)) g1,StB.new (h2.keep (all l2)) g2⟩ all⟩
 have ap:=Pc lt1 lt2
 rw[← za,← zb,← zc,← zd] at ap
 exact ap
end
def ItB (b:Bool)(j l:aD)(k:Nat)(h:aZ):Prop:=match b with
 | true=>h.IsListIter j l k
 | false=>h.IsTupleIter j l k
theorem Ahi:StB b j l us k h↔ItB b j l k h/\SqB b h l us:=by cases b <;> exact Iff.rfl
theorem ItB.get(q:ItB b j l k h) : ∃ o,h.get? j=some o /\ ∀ v,o.data ≠ .cell v:=by
 cases b with
 | true=>
  obtain⟨o,e,_,d⟩:=q
  exact⟨o,e,fun v z=>by rw[d] at z; cases z⟩
 | false=>
  obtain⟨o,e,_,d⟩:=q
  exact⟨o,e,fun v z=>by rw[d] at z; cases z⟩
theorem ItB.keep(q:ItB b j l k h)(kp : ∀ o,h.get? j=some o->h'.get? j=some o):ItB b j l k h':=by
 cases b with
 | true=>
  obtain⟨o,e,r⟩:=q
  exact⟨o,kp o e,r⟩
 | false=>
  obtain⟨o,e,r⟩:=q
  exact⟨o,kp o e,r⟩
def SqV (b:Bool)(K:aK)(H:Hp)(a:aD)(xs:List V):Prop:=match b with
 | true=>SqL K H a xs
 | false=>SqT K H a xs
section
variable {σ:St}
theorem Inv.sqB(I:Inv X pins σ H s)(h:SqV b X.K H a xs) : ∃ its:List aE,Vals xs its/\SqB b s.heap a its.toArray:=by
 cases b with
 | true=>
  obtain⟨its,rv,p,_⟩:=I.list h
  exact⟨its,rv,p.isList⟩
 | false=>
  obtain⟨its,rv,p,_⟩:=I.tuple h
  exact⟨its,rv,p⟩
theorem Inv.sqV_inj(I:Inv X pins σ H s)(h:SqV b X.K H a xs)(h':SqV b X.K H a ys):xs=ys:=by
 cases b with
 | true=>exact I.list_inj h h'
 | false=>exact I.tuple_inj h h'
theorem Inv.turnM {t':Nat}{fp:List aD}(I:Inv X pins σ H s)(hf : ∀ b∈fp,iV X pins H b)(k : ∀ b o,b∉fp->s.heap.get? b=some o->h'.get? b=some o):Inv X pins σ H { s with heap:=h',toks:=t' }:=by
 have out : ∀ b u,H b=some u->b∉fp:=fun b u e m=>by
  rw[(hf b m).1] at e
  cases e
 have loc:X.env.locals∉fp:=fun m=>(hf _ m).2.1 rfl
 refine I.step (g':=s.gens) (d':=s.drawn) (ch:=fp) (fun b m=>⟨(hf b m).2.2.2.1,(hf b m).2.1,(hf b m).2.2.2.2.1,(hf b m).2.2.2.2.2⟩) (fun b o _ _ n e _=>k b o n e) (fun b o _ _ n e _=>⟨o.slots,k b o n e⟩) (fun _ _ _ _ n=>n)
  (fun b o n e=>⟨o,k b o n e⟩) (fun _ _ e=>e) (fun _ _ _ e=>e) (fun b ps e=>⟨#[],by rw[e]; simp⟩) (fun m hm=>?_) (fun b u e=>?_) I.bare
 ·obtain⟨o,es,ep,ho,r⟩:=hm
  exact⟨o,es,ep,k _ o loc ho,r⟩
 ·refine(I.hok b u e).stay (fun c v hc q=>k c v ?_ q) (fun _ q=>q) fun _ _ q=>q
  rcases hc with z | z
  ·rw[z]; exact out b u e
  ·exact out c _ z
end
def FS (K:aK)(b1 b2:Bool)(a1 a2:aD):It:=
  ⟨fun i H=>∃ xs ys x y,SqV b1 K H a1 xs/\SqV b2 K H a2 ys/\xs[i]?=some x/\ys[i]?=some y,
   fun i H v H'=>∃ T x y,H T=none/\v = .ref T/\(∀ xs,SqV b1 K H a1 xs->xs[i]?=some x)/\(∀ ys,SqV b2 K H a2 ys->ys[i]?=some y)/\H'=upd H T (.tup [x,y]),
   fun i H=>∃ xs ys,SqV b1 K H a1 xs/\SqV b2 K H a2 ys/\(xs.length≤i \/ ys.length≤i)⟩
def tnZ (b1 b2:Bool)(a1 a2 z TI TO i1 i2:aD)(i:Nat)(h:aZ):Prop:=oG h z TI TO .none/\nG h TI (.ref i1) (.ref i2)/\(∃ a b,nG h TO a b)/\ItB b1 i1 a1 i h/\ItB b2 i2 a2 i h
theorem Vh{cx}{pos:bZ}{b1 b2:Bool}{a1 a2 z TI TO i1 i2:aD}(D:ZApart z TI TO i1 i2 [i1,a1] [i2,a2])(n1:a1≠i1)(n2:a2≠i2) :
  Turn P w K (.Tuple es cx pos) (FS K b1 b2 a1 a2) [z,TI,TO,i1,i2] z (tnZ b1 b2 a1 a2 z TI TO i1 i2) where
 mem:=by simp
 obj:=fun i h ⟨g1,g2,⟨a,b,g3⟩,g4,g5⟩ c hc=>by
  simp only[cU,FE,or_false] at hc
  rcases hc with rfl | rfl | rfl | rfl | rfl
  ·exact⟨_,g1,fun v q=>by cases q⟩
  ·exact⟨_,g2,fun v q=>by cases q⟩
  ·exact⟨_,g3,fun v q=>by cases q⟩
  ·exact g4.get
  ·exact g5.get
 keep:=fun i h h' ⟨g1,g2,⟨a,b,g3⟩,g4,g5⟩ k=>⟨k z (by simp) _ g1,k TI (by simp) _ g2,⟨a,b,k TO (by simp) _ g3⟩,g4.keep (k i1 (by simp)),g5.keep (k i2 (by simp))⟩
 item:=by
  intro X hP hw hK hc i pins s σ H E I hf st hg
  subst hP hw hK
  obtain⟨xs,ys,x,y,q1,q2,hx,hy⟩:=hg
  obtain⟨us,r1,s1⟩:=I.sqB q1
  obtain⟨vs,r2,s2⟩:=I.sqB q2
  obtain⟨u,hu,ru⟩:=r1.get hx
  obtain⟨v,hv,rv⟩:=r2.get hy
  obtain⟨g1,g2,⟨pa,pb,g3⟩,g4,g5⟩:=st
  have zat:ZAt z TI TO i1 i2 (StB b1 i1 a1 us.toArray) (StB b2 i2 a2 vs.toArray) .none i s.heap:=⟨g1,g2,⟨pa,pb,g3⟩,Ahi.mpr ⟨g4,s1⟩,Ahi.mpr ⟨g5,s2⟩⟩
  have young : ∀ b∈[z,TI,TO,i1,i2],b<s.heap.objs.size:=fun b m=>by
   simp only[cU,FE,or_false] at m
   rcases m with rfl | rfl | rfl | rfl | rfl
   ·exact cA g1
   ·exact cA g2
   ·exact cA g3
   ·obtain⟨o,e,_⟩:=g4.get; exact cA e
   ·obtain⟨o,e,_⟩:=g5.get; exact cA e
  refine Xd D (EN b1 i1 a1 us.toArray n1) (EN b2 i2 a2 vs.toArray n2) zat (x:=u) (y:=v) (by simpa using hu) (by simpa using hv) fun h' zt pr sz old=>?_
  have fr:H s.heap.objs.size=none:=I.hok.fresh (bE _)
  have I0:Inv X pins σ (upd H s.heap.objs.size (.tup [x,y])) { s with heap:=s.heap.push { cls:=.type "tuple",data:=.seq #[u,v] } }:=
   I.laid (t':=s.toks) (o:=.tup [x,y]) (fun b ob q=>bW _ q) (bE _) ⟨by show 2≤sizeLine; decide,[u,v],.cons ru (.cons rv .nil),A5w.new _ _⟩
  have hf' : ∀ b∈[z,TI,TO,i1,i2],iV X pins (upd H s.heap.objs.size (.tup [x,y])) b:=fun b m=>⟨by rw[dJ (dQ (young b m))]; exact(hf b m).1,(hf b m).2⟩
  have I1:Inv X pins σ (upd H s.heap.objs.size (.tup [x,y])) { s with heap:=h' }:=I0.turnM (t':=s.toks) hf' fun b o n e=>by
   simp only[cU,FE,or_false,not_or] at n
   by_cases hb:b=s.heap.objs.size
   ·subst hb
    have e':(s.heap.push { cls:=.type "tuple",data:=.seq #[u,v] }).get? s.heap.objs.size=some { cls:=.type "tuple",data:=.seq #[u,v] }:=dA _ rfl
    have:some o=some _:=e.symm.trans e'
    rw[this]
    exact pr
   ·exact old b o n.1 n.2.2.1 n.2.2.2.1 n.2.2.2.2 ((Cj _ _ _ hb).symm.trans e)
  obtain⟨w1,w2,⟨wa,wb,w3⟩,w4,w5⟩:=zt
  have z1:i1≠z:=fun e=>D.z1 (e ▸ bM)
  have z2:i2≠z:=fun e=>D.z2 (e ▸ bM)
  refine⟨_,rfl,wpAny_letOwnedTupleGo_zip w1 fun h2 gz sb=>?_⟩
  have I2:Inv X pins σ (upd H s.heap.objs.size (.tup [x,y])) { s with heap:=h2 }:=I1.turnM (t':=s.toks) hf' fun b o n e=>sb.extBut b o (fun q=>n (by simp[q])) e
  exact⟨.ref s.heap.objs.size,_,I2,rfl,⟨_,x,y,fr,rfl,fun xs' h=>by rw[I.sqV_inj h q1]; exact hx,fun ys' h=>by rw[I.sqV_inj h q2]; exact hy,rfl⟩,
   ⟨gz,sb.extBut _ _ D.TIz w2,⟨wa,wb,sb.extBut _ _ D.TOz w3⟩,(Ahi.mp w4).1.keep fun o e=>sb.extBut _ _ z1 e,(Ahi.mp w5).1.keep fun o e=>sb.extBut _ _ z2 e⟩,fun b m=>(hf' b m).1⟩
 done:=by
  intro X hP hw hK hc i pins s σ H E I hf st hg
  subst hP hw hK
  obtain⟨xs,ys,q1,q2,hl⟩:=hg
  obtain⟨us,r1,s1⟩:=I.sqB q1
  obtain⟨vs,r2,s2⟩:=I.sqB q2
  obtain⟨g1,g2,g3,g4,g5⟩:=st
  have zat:ZAt z TI TO i1 i2 (StB b1 i1 a1 us.toArray) (StB b2 i2 a2 vs.toArray) .none i s.heap:=⟨g1,g2,g3,Ahi.mpr ⟨g4,s1⟩,Ahi.mpr ⟨g5,s2⟩⟩
  have l1:=r1.length
  have l2:=r2.length
  refine Xo (I.ok.hd hc) D (EN b1 i1 a1 us.toArray n1) (EN b2 i2 a2 vs.toArray n2) zat ?_ fun h' old=>⟨rfl,I.turnM (t':=s.toks) hf fun b o n e=>?_⟩
  ·rcases hl with hl | hl
   ·exact .inl (by simp; omega)
   ·exact .inr (by simp; omega)
  ·simp only[cU,FE,or_false,not_or] at n
   exact old b o n.1 n.2.2.1 n.2.2.2.1 n.2.2.2.2 e
 self:=fun _ _ _ _ _ st h=>wpAny_pyIter_zip st.1 h
section
variable {a b:aT}{p:bZ}
def Dh (K:aK)(ta:TA):TI:=fun σ H R=>ta σ H fun vs H1=>∃ a1 a2 b1 b2 xs ys,vs=[.ref a1,.ref a2]/\SqV b1 K H1 a1 xs/\SqV b2 K H1 a2 ys/\R (FS K b1 b2 a1 a2) H1
theorem Ha {ta:TA}(hg:Gl X "zip")(hm:X.mg "zip" = none)(ha:PA X [a,b] ta)(hs:cC [a,b] X.env=[(false,bY a X.env),(false,bY b X.env)]:=by rfl)(hs2:cC [b] X.env=[(false,bY b X.env)]:=by rfl) :
  PI X (.Tuple es cx tpos) (.Call (.Name "zip" p) [a,b] [] pos) (Dh X.K ta):=by
 intro pins s σ H R I h
 refine Call_ (uK I hg hm boot_zip (MU (thn (ha pos pins s σ H _ I h) fun us s1 ⟨vs,H1,I1,r1,q1⟩=>?_) (by rw[hs,hs2]) (by rw[hs2]; rfl)))
 obtain⟨a1,a2,b1,b2,xs,ys,rfl,k1,k2,q⟩:=q1
 cases r1 with
 | cons r rr=>
  cases rr with
  | cons r' rr=>
   cases rr
   cases r
   cases r'
   obtain⟨u1,_,w1⟩:=I1.sqB k1
   obtain⟨u2,_,w2⟩:=I1.sqB k2
   have m1:a1<s1.heap.objs.size:=by
    cases b1 with
    | true=>obtain⟨o,e,_⟩:=w1; exact cA e
    | false=>obtain⟨o,e,_⟩:=w1; exact cA e
   have m2:a2<s1.heap.objs.size:=by
    cases b2 with
    | true=>obtain⟨o,e,_⟩:=w2; exact cA e
    | false=>obtain⟨o,e,_⟩:=w2; exact cA e
   refine Xz w1 w2 fun z TI TO i1 i2 h' y0 y1 y2 y3 y4 D zat all=>wpAny_pyIter_zip zat.1 ?_
   refine⟨z,[z,TI,TO,i1,i2],_,_,H1,rfl,I1.kept (t':=s1.toks) all,Vh D (fun e=>?_) (fun e=>?_),⟨zat.1,zat.2.1,zat.2.2.1,(Ahi.mp zat.2.2.2.1).1,(Ahi.mp zat.2.2.2.2).1⟩,fun b m=>?_,q⟩
   ·exact kI _ (iR m1 (e ▸ y3))
   ·exact kI _ (iR m2 (e ▸ y4))
   ·have le:s1.heap.objs.size≤b:=by
     simp only[cU,FE,or_false] at m
     rcases m with rfl | rfl | rfl | rfl | rfl <;> assumption
    exact I1.fpOk le (I1.hok.fresh le)
def oT:aA->Option (List aA)
 | .list ds=>some ds
 | .tuple ds=>some ds
 | _=>none
def pairD (x y:aA):aA:=.tuple [x,y]
def iZ (fa:AF):AF:=fun ρ=>(fa ρ).bind fun ds=>match ds with
 | [x,y]=>(oT x).bind fun xs=>(oT y).bind fun ys=>some (wV pairD xs ys)
 | _=>none
theorem WI(e:oT d=some ds)(r:Abk K B d v) : ∃ a b xs,v = .ref a/\(∀ H2,Ext B H2->SqV b K H2 a xs)/\Aas K B ds xs:=by
 cases d with
 | list es=>
  cases e
  obtain⟨a,xs,rfl,h,rr⟩:=Abl.mp r
  exact⟨a,true,xs,rfl,fun H2 x2=>x2.sqL h,rr⟩
 | tuple es=>
  cases e
  obtain⟨a,xs,rfl,h,rr⟩:=Aap.mp r
  exact⟨a,false,xs,rfl,fun H2 x2=>SqT.of (x2 _ _ h),rr⟩
 | _=>cases e
theorem Ob{b1 b2:Bool}{a1 a2:aD}{es:List aA}(h1 : ∀ H2,Ext B H2->SqV b1 K H2 a1 xs)(h2 : ∀ H2,Ext B H2->SqV b2 K H2 a2 ys)(r1:Aas K B ds xs)(r2:Aas K B es ys) :
  ItD K B (FS K b1 b2 a1 a2) (wV pairD ds es):=fun i H2 x2=>by
 refine⟨fun d hd=>?_,fun e=>⟨xs,ys,h1 H2 x2,h2 H2 x2,?_⟩⟩
 ·rw[List.getElem?_zipWith] at hd
  cases c1:ds[i]? with
  | none=>rw[c1] at hd; simp at hd
  | some d1=>
   cases c2:es[i]? with
   | none=>rw[c1,c2] at hd; simp at hd
   | some d2=>
    rw[c1,c2] at hd
    have hd:pairD d1 d2=d:=by simpa using hd
    subst hd
    obtain⟨v1,g1,g2⟩:=r1.get c1
    obtain⟨v2,g3,g4⟩:=r2.get c2
    refine⟨⟨xs,ys,v1,v2,h1 H2 x2,h2 H2 x2,g1,g3⟩,?_⟩
    rintro x H3 ⟨T,x',y',fr,rfl,k1,k2,rfl⟩
    obtain rfl:v1=x':=eY (g1.symm.trans (k1 xs (h1 H2 x2)))
    obtain rfl:v2=y':=eY (g3.symm.trans (k2 ys (h2 H2 x2)))
    have ext:Ext H2 (upd H2 T (.tup [v1,v2])):=fun b u e=>by rw[dJ (jK e fr)]; exact e
    refine⟨ext,fun P2 hP2 xb=>?_⟩
    have nT : ¬ P2 T:=fun q=>by
     rcases hP2 T q with⟨o,e⟩ | ⟨o,e⟩ <;> rw[fr] at e <;> cases e
    have gT:hid (upd H2 T (.tup [v1,v2])) P2 T=some (.tup [v1,v2]):=gQ nT fJ
    have xx:Ext B (hid (upd H2 T (.tup [v1,v2])) P2):=xb.trans (dD ext)
    exact Aap.mpr ⟨T,_,rfl,gT,Aah.mpr ⟨_,_,rfl,g2.ext xx,Aah.mpr ⟨_,_,rfl,g4.ext xx,Aan.mpr rfl⟩⟩⟩
 ·rw[List.length_zipWith] at e
  rw[r1.length,r2.length]
  omega
theorem QT {fa:AF}(hg:Gl X "zip")(hm:X.mg "zip" = none)(ha:DA X [a,b] fa)(hs:cC [a,b] X.env=[(false,bY a X.env),(false,bY b X.env)]:=by rfl)(hs2:cC [b] X.env=[(false,bY b X.env)]:=by rfl) :
  DI X (.Tuple es cx tpos) (.Call (.Name "zip" p) [a,b] [] pos) (iZ fa):=PI.imp (Ha hg hm ha hs hs2) fun σ H R gh=>by
 obtain⟨P,ρ,ds,hP,rs,ef,k⟩:=gh
 obtain⟨as,e1,ef2⟩:=XBs ef
 clear ef
 match as,e1,ef2 with
 | [x,y],e1,ef2=>
  obtain⟨xs,e2,ef3⟩:=XBs (show((oT x).bind fun xs=>(oT y).bind fun ys=>some (wV pairD xs ys))=some ds from ef2)
  obtain⟨ys,e3,ef4⟩:=XBs ef3
  cases ef4
  refine⟨P,ρ,_,hP,rs,e1,fun vs H1 x1 r1=>?_⟩
  obtain⟨v,t,rfl,q1,q2⟩:=Aah.mp r1
  obtain⟨v',rfl,q3⟩:=fQ q2
  obtain⟨a1,b1,us,rfl,k1,w1⟩:=WI e2 q1
  obtain⟨a2,b2,us',rfl,k2,w2⟩:=WI e3 q3
  exact⟨a1,a2,b1,b2,us,us',rfl,k1 _ Aau,k2 _ Aau,k _ H1 x1 (Ob k1 k2 w1 w2)⟩
 | [],_,h=>cases h
 | [_],_,h=>cases h
 | _::_::_::_,_,h=>cases h
end
theorem Za:Adz X (.type "range") (fun xs H Q=>∃ j:Int,xs=[.int j] /\ ∀ a,H a=none->Q (.ref a) (upd H a (.rng 0 j))):=by
 intro pins s σ H xs us Q I r h
 obtain⟨j,rfl,q⟩:=h
 obtain⟨u,rfl,t,rfl⟩:=vals1 r
 refine call_range_1 ?_
 exact⟨.ref s.heap.objs.size,_,I.laid (o:=.rng 0 j) (fun b ob g=>bW _ g) (bE _) ⟨_,_,_,dA _ rfl⟩,rfl,q _ I.fresh⟩
def upTo (n:Nat):List aA:=(bR n).map fun(k:Nat)=>aQ k
def upV (n:Nat):List V:=(bR n).map fun(k:Nat)=>V.int k
theorem Qa (hc:X.calm=true):Adz X (.type "list") (fun xs H Q=>∃ a,∃ j:Int,xs=[.ref a]/\H a=some (.rng 0 j) /\ -4096≤j/\j≤4096 /\ ∀ l,H l=none->Q (.ref l) (upd H l (.lst (upV j.toNat)))):=by
 intro pins s σ H xs us Q I r h
 obtain⟨a,j,rfl,ha,h1,h2,q⟩:=h
 obtain⟨u,rfl,ru⟩:=vals1 r
 cases ru
 obtain⟨t,u,v,g⟩:=(show Ac9 X.prog X.w H s.heap a (.rng 0 j) from I.hok a _ ha)
 have hn:Builtin.Range.rangeSize 0 j 1=(j.toNat:Int):=by rw[rangeSize_one]; split <;> omega
 refine call_list_range (I.ok.hd hc) g (small_one (by omega) (by omega) (by omega) (by omega)) hn (by omega) fun h' tk acc' c' hk hS hacc=>?_
 have hv:Vals (upV j.toNat) acc'.toList:=by
  refine KO (by simp[upV,hacc.1]) fun i x u h1 h2=>?_
  obtain⟨t',rfl⟩:=hacc.2 i u (by simpa using h2)
  have hi:i<j.toNat:=by
   have:=(dR.mp h1).1
   simpa [upV] using this
  have:(upV j.toNat)[i]?=some (V.int i):=by simp[upV,hi]
  rw[this] at h1
  cases h1
  exact⟨t',by simp⟩
 exact⟨.ref s.heap.objs.size,_,I.laid (o:=.lst (upV j.toNat)) hk (bE _) (show Ac9 X.prog X.w _ h' _ (.lst (upV j.toNat)) from⟨by simp[upV,wH]; omega,acc'.toList,c',hv,by simpa using hS⟩),rfl,q _ I.fresh⟩
theorem Ox(n:Nat):Aas K H (upTo n) (upV n):=by
 unfold upTo upV
 generalize bR n=l
 induction l with
 | nil=>exact Aan.mpr rfl
 | cons a l ih=>exact Aah.mpr ⟨_,_,rfl,Aaq.mpr rfl,ih⟩
def YR:List aA->Option aA
 | [.int j]=>if -4096≤j/\j≤4096 then some (.list (upTo j.toNat)) else none
 | _=>none
theorem We{fe:EF}{p1 p2 pos1 pos2:bZ}(hc:X.calm=true)(g1:Gl X "list")(m1:X.mg "list" = none)(g2:Gl X "range")(m2:X.mg "range" = none)(he:DE X e fe)
  (hs1:cC [Expr.Call (.Name "range" p2) [e] [] pos2] X.env=[(false,bY (Expr.Call (.Name "range" p2) [e] [] pos2) X.env)]:=by rfl) (hs2:cC [e] X.env=[(false,bY e X.env)]:=by rfl) :
  DF 1 X (.Call (.Name "list" p1) [.Call (.Name "range" p2) [e] [] pos2] [] pos1) (aO YR (aH fe aN)):=by
 have h1:PE X (.Call (.Name "range" p2) [e] [] pos2) _:=JQ Za g2 m2 rfl (lM he oQ hs2) (by decide) (by decide) hs2 rfl
 have h2:PE X (.Call (.Name "list" p1) [.Call (.Name "range" p2) [e] [] pos2] [] pos1) _:=JQ (Qa hc) g1 m1 rfl (lM h1 oQ hs1) (by decide) (by decide) hs1 rfl
 refine PE.imp h2 fun σ H Q gh=>?_
 obtain⟨P,ρ,d,hP,rs,ef,k⟩:=gh
 obtain⟨ds0,e0,ef⟩:=XBs ef
 obtain⟨d1,e1,e0⟩:=XBs e0
 have e0:[d1]=ds0:=by simpa [aN] using e0
 subst e0
 cases d1 with
 | int j=>
  obtain⟨hl,rfl⟩:=cX (show(if -4096≤j/\j≤4096 then some (wO (upTo j.toNat)) else none)=some d from ef)
  refine⟨P,ρ,.int j,hP,rs,e1,dU fun v H1 x1 r1=>?_⟩
  obtain rfl:=Aaq.mp r1
  refine⟨j,rfl,fun a hn=>⟨a,j,rfl,fJ,hl.1,hl.2,fun l hl2=>?_⟩⟩
  have x2:Ext H (upd H1 a (.rng 0 j)):=x1.trans (Ext.new hn)
  exact(k.mono x2).lst (hP.ext x2) hl2 (Ox _)
 | _=>cases ef
theorem RH{k:aI}(h:(fC P w).is k u=true):RelV (kV k) u:=by
 rcases mW h with⟨i,tk,e1,e2⟩ | ⟨x,tk,e1,e2⟩
 ·rw[e1,e2]; exact⟨tk,rfl⟩
 ·rw[e1,e2]; exact⟨tk,rfl⟩
theorem LN : ∀ {kvs:List (aI×V)} {vs:List (aI×aE)} {i:Nat} {kv:aI×V},KV kvs vs->kvs[i]?=some kv -> ∃ u,vs[i]?=some u/\kv.1=u.1/\RelV kv.2 u.2
 | _,_,0,_,.cons h _,e=>by
  cases e
  exact⟨_,rfl,h.1,h.2⟩
 | _,_,i+1,_,.cons _ t,e=>by
  obtain⟨u,g⟩:=LN (i:=i) t (by simpa using e)
  exact⟨u,by simpa using g⟩
def FY (a:aD)(ep n:Nat):It:=
 ⟨fun i H=>∃ kvs kv,H a=some (.dK ep kvs)/\kvs.length=n/\kvs[i]?=some kv,fun i H x H'=>H'=H /\ ∀ kvs,H a=some (.dK ep kvs) -> ∃ kv,kvs[i]?=some kv/\x=kV kv.1,fun i H=>∃ kvs,H a=some (.dK ep kvs)/\kvs.length=n/\n≤i⟩
theorem Ol(a it:aD)(ep n:Nat):Turn P w K tg (FY a ep n) [it] it (fun i h=>h.IsKeyIter it a i n ep) where
 mem:=bL.mpr rfl
 obj:=fun i h ⟨o,e,_,d⟩ b hb=>by
  rw[bL.mp hb]
  exact⟨o,e,fun v z=>by rw[d] at z; cases z⟩
 keep:=fun i h h' st k=>st.at fun o e=>k it (bL.mpr rfl) o e
 item:=by
  intro X hP hw hK hc i pins s σ H E I hf st hg
  subst hP hw hK
  obtain⟨kvs,kv,ha,hn,hk⟩:=hg
  subst hn
  obtain⟨z,nm,vs,r,d⟩:=rW I.hok (.inl ha)
  have hl:kvs.length=vs.length:=r.length
  obtain⟨u,hu,r1,r2⟩:=LN r hk
  obtain⟨uk,uv⟩:=u
  rw[hl] at st
  refine wpAny_pyNext_dict_item st d hu fun key h' hkey st' sb=>?_
  have I1:Inv X pins σ H { s with heap:=h' }:=I.turnM (t':=s.toks) hf fun b o nb e=>sb.extBut b o (fun q=>nb (bL.mpr q)) e
  obtain⟨o,e,c,dd⟩:=id st'
  have r1':kv.1=uk:=r1
  refine⟨key,rfl,sG (s:={ s with heap:=h' }) e c dd (by decide) ⟨kV kv.1,H,I1,by rw[r1']; exact RH hkey,⟨rfl,fun kvs' h2=>?_⟩,by rw[hl]; exact st',fun b hb=>(hf b hb).1⟩⟩
  rw[ha] at h2
  cases h2
  exact⟨kv,hk,rfl⟩
 done:=by
  intro X hP hw hK hc i pins s σ H E I hf st hg
  subst hP hw hK
  obtain⟨kvs,ha,hn,hi⟩:=hg
  subst hn
  obtain⟨z,nm,vs,r,d⟩:=rW I.hok (.inl ha)
  have hl:kvs.length=vs.length:=r.length
  rw[hl] at st
  exact wpAny_pyNext_dict_end (I.ok.hd hc) st d (by simp; omega) fun h' eb=>⟨rfl,I.turnM (t':=s.toks) hf fun b o nb e=>eb b o (fun q=>nb (bL.mpr q)) e⟩
 self:=fun _ _ _ _ _ st h=>Aq st h
section
variable {l:aT}
def De (tl:TE):TI:=fun σ H R=>tl σ H fun x H1=>∃ a ep kvs,x = .ref a/\H1 a=some (.dK ep kvs)/\R (FY a ep kvs.length) H1
theorem Mf(hl:PE X l tl):PI X tg l (De tl):=by
 intro pins s σ H R I h
 refine thn (hl pins s σ H _ I h) fun v s1 gh=>?_
 obtain⟨x,H1,I1,r1,q1⟩:=gh
 obtain⟨a,ep,kvs,rfl,ha,q⟩:=q1
 cases r1
 obtain⟨z,nm,vs,r,d⟩:=rW I1.hok (.inl ha)
 have hn:kvs.length=vs.length:=r.length
 refine wpAny_pyIter_dict nm d ?_
 refine⟨s1.heap.objs.size,[s1.heap.objs.size],_,_,H1,rfl,I1.kept (t':=s1.toks) fun b o e=>bW _ e,Ol a _ ep kvs.length,⟨_,dA _ rfl,rfl,by rw[hn]; rfl⟩,fun b hb=>?_,q⟩
 rw[bL.mp hb]
 exact I1.fpOk (bE _) (I1.hok.fresh (bE _))
def iDK (f:EF):AF:=fun ρ=>(f ρ).bind fun d=>match d with
 | .dict kds=>if (plK kds&&kds.all fun kd=>cR kd.1)=true then some (kds.map (·.1)) else none
 | _=>none
theorem IZ {K:aK}{H:Hp} : ∀ {kds:List (aA×aA)} {kvs:List (aI×V)} {i:Nat} {kd:aA×aA},Ab2 K H kds kvs->kds[i]?=some kd -> ∃ kv,kvs[i]?=some kv/\kd.1=kD kv.1/\Abk K H kd.2 kv.2
 | (k,d)::ds,kvs,0,kd,r,e=>by
  obtain⟨k',y,t,rfl,ek,h1,h2⟩:=Aba.mp r
  cases e
  exact⟨(k',y),rfl,ek,h1⟩
 | (k,d)::ds,kvs,i+1,kd,r,e=>by
  obtain⟨k',y,t,rfl,ek,h1,h2⟩:=Aba.mp r
  obtain⟨kv,g1,g2⟩:=IZ (i:=i) h2 (by simpa using e)
  exact⟨kv,by simpa using g1,g2⟩
theorem Aa{k:aI}(h:cR (kD k)=true):Abk K H (kD k) (kV k):=by
 cases k with
 | inl i=>exact Aaq.mpr rfl
 | inr x=>exact Aa7.mpr ⟨rfl,h⟩
theorem Wu{kvs:List (aI×V)}(h:B a=some (.dK ep kvs))(r:Ab2 K B kds kvs)(hl:(kds.all fun kd=>cR kd.1)=true):ItD K B (FY a ep kvs.length) (kds.map (·.1)):=fun i H2 x2=>by
 have h2:=x2 _ _ h
 refine⟨fun d hd=>?_,fun e=>⟨kvs,h2,rfl,by rw[← e,cV,r.length]; exact bE _⟩⟩
 rw[dI] at hd
 obtain⟨kd,hk,rfl⟩:=nB.mp hd
 obtain⟨kv,g1,g2,g3⟩:=IZ r hk
 refine⟨⟨kvs,kv,h2,rfl,g1⟩,?_⟩
 rintro x H3 ⟨rfl,hx⟩
 obtain⟨kv',q1,rfl⟩:=hx kvs h2
 have:kv'=kv:=eY (q1.symm.trans g1)
 subst this
 refine⟨Ext.refl,fun P2 _ xb=>?_⟩
 show Abk K _ kd.1 _
 rw[g2]
 have:=fA.mp hl kd (fK hk)
 exact Aa (by rw[← g2]; exact this)
theorem QZ(h:DE X e f):DI X tg e (iDK f):=PI.imp (Mf h) fun σ H R gh=>by
 obtain⟨P,ρ,ds,hP,rs,ef,k⟩:=gh
 obtain⟨d,e1,ef⟩:=XBs ef
 cases d with
 | dict kds=>
  obtain⟨hl,rfl⟩:=cX ef
  refine⟨P,ρ,_,hP,rs,e1,dU fun v H1 x1 r1=>?_⟩
  obtain⟨pk,hl⟩:=iU.mp hl
  obtain⟨a,kvs,rfl,hq,rr⟩:=(oX pk).mp r1
  exact⟨a,kvs.1,kvs.2,rfl,Aau _ _ hq,k _ H1 x1 (Wu hq rr hl)⟩
 | _=>cases ef
end
theorem EC:entryFor table "dict.update.loop" = some Builtin.«dict.update.loop»:=Ax (by kernel_rfl)
theorem qO:plainId "dict.update.loop" = true:=by decide +kernel
theorem Sv:AI (.type "list") "keys" = pure none:=by rw[wG,wM]; kernel_rfl
theorem ZO{xs:Array aE}{Q:Option aE->aJ->Prop}(hx:s.heap.get? a=some { cls:=.type "list",dict:=none,data:=.seq xs k,slots:=sl })(hA:A.handled=none)
  (h : ∀ h' tk,(∀ b o,s.heap.get? b=some o->h'.get? b=some o)->Q none { s with heap:=h',toks:=tk }):aM (aU prog w) A (getAttr? (.ref a) "keys") Q E s:=by
 obtain⟨hp,g,d,tk,os⟩:=s
 have hT : ∀ tk',(⟨hp,g,d,tk',os⟩:aJ).TypeIs (.ref a) "list":=fun _=>⟨_,hx,rfl⟩
 have f1:=sub_AttributeError
 have f3:=Ck.lookup
 have f4:=Ck.bind (.ref a)
 have f5:=am_list_getattr_none
 unfold getAttr? getAttrBy? getAttrBy
 repeat (any_goals (first | assumption | exact hT _ | ((with_reducible show aM _ _ (call (Value.builtin "list.__getattribute__") _ _) _ _ _); refine call_meets Ck (hT _) am_entry_list_getattribute (F.args_list_getattribute_2 _ _) (meets_getattribute_miss_list a xs k sl _ _ Sv (by decide +kernel)) ⟨hx,hA,fun h' tk' e hx'=>?_⟩) | wp_step))
 obtain⟨t',u',he⟩:=hx'.there
 show aM _ _ (getattributeRaised _ _ _ _ _ _ _) _ _ _
 unfold getattributeRaised
 repeat (any_goals (first | assumption | wp_step))
 exact h _ _ hx'.keeps
def Aop (h:aZ)(D:aD)(wr:List aD)(items:Array aE)(kvs:List (aI×aE)):Prop:=
 ∀ (j:Nat) v,items[j]?=some v -> ∃ b kv p,v = .ref b/\kvs[j]?=some p/\h.IsTuple b #[kv,p.2]/\(fC prog w).is p.1 kv=true/\b≠D/\b∉wr
theorem Aop.keep{D:aD}{kvs:List (aI×aE)}(q:Aop (prog:=prog) (w:=w) h D wr items kvs)(k : ∀ b o,b≠D->b∉wr->h.get? b=some o->h'.get? b=some o):Aop (prog:=prog) (w:=w) h' D wr items kvs:=fun j v e=>by
 obtain⟨b,kv,p,rfl,e1,⟨o,e2,e3⟩,e4,e5,e6⟩:=q j v e
 exact⟨b,kv,p,rfl,e1,⟨o,k b o e5 e6 e2,e3⟩,e4,e5,e6⟩
theorem WE : ∀ (more kvs:List (aI×aE)),(oA kvs more).length≤kvs.length+more.length
 | [],kvs=>bE _
 | p::r,kvs=>by
  have h1:=WE r (sY kvs p.1 p.2)
  have h2:(sY kvs p.1 p.2).length≤kvs.length+1:=by
   unfold sY
   split <;> simp
  show(oA (sY kvs p.1 p.2) r).length≤_
  rw[fL]
  omega
theorem Zu{I:aD}{fp:List aD}{G:Array BG->Array BG->Prop}{St:Nat->aJ->Prop}
  (W:WalksS prog w A.in1 I fp wr G n (fun i v=>items[i]?=some v) St) (D:aD) (hDf:D∉fp) (kvs:List (aI×aE)) (hn:n≤sizeLine) (hkl:kvs.length=n) :
  ∀ (k i:Nat) (s:aJ),n - i=k->i≤n->St i s->s.heap.DictOf (fC prog w) D (oA [] (kvs.take i))->Aop (prog:=prog) (w:=w) s.heap D wr items kvs ->
   (∀ s',Moved (D::wr) G s s'->s'.heap.DictOf (fC prog w) D (oA [] kvs)->R (.ok (.ret .none)) s') ->
   oB (aU prog w) A (.builtin "dict.update.loop" ⟨[.ref D,.ref I,eU (i:Int),.none],[]⟩) R s:=by
 have hDw:D∉wr:=fun z=>hDf (W.sub _ z)
 have more : ∀ b∈wr,b∈D::wr:=fun b z=>cF _ z
 intro k
 induction k with
 | zero=>
  intro i s hk hi hst hS hT hR
  obtain rfl:i=n:=by omega
  refine AK EC ?_
  rw[BL qO _]
  show aM _ A.in1 (fW (.ref I) >>= _) _ _ s
  refine aF (W.done s _ _ hst fun s' hm=>?_)
  show aM _ A.in1 (Builtin.Dict.addKeywords D [] >>= fun _=>ret dP) _ _ s'
  refine aF (aP (aP (hR s' (hm.mono more) ?_)))
  obtain⟨o,es,ep,ho,r⟩:=hS
  rw[← hkl,Bp] at r
  exact⟨o,es,ep,hm.heap D o hDw ho,r⟩
 | succ k ih=>
  intro i s hk hi hst hS hT hR
  have hlt:i<n:=by omega
  refine AK EC ?_
  rw[BL qO _]
  show aM _ A.in1 (fW (.ref I) >>= _) _ _ s
  refine aF (W.item i s _ _ hlt hst fun v s' hPi hst' hm=>?_)
  have hT':=hT.keep (h':=s'.heap) fun b o _ h2 e=>hm.heap b o h2 e
  obtain⟨b,kv,p,rfl,e1,tb,e4,e5,e6⟩:=hT' i v hPi
  have hS':s'.heap.DictOf (fC prog w) D (oA [] (kvs.take i)):=by
   obtain⟨o,es,ep,ho,r⟩:=hS
   exact⟨o,es,ep,hm.heap D o hDw ho,r⟩
  have hstep:oA [] (kvs.take (i+1))=sY (oA [] (kvs.take i)) p.1 p.2:=by
   rw[NI,e1]
   simp[oA,Cc]
  have hlen:(oA [] (kvs.take i)).length≤sizeLine:=by
   have:=WE (kvs.take i) []
   rw[wW] at this
   simp at this
   omega
  refine aF (jV (aF (wpAny_tryCatch ?_)))
  unfold Builtin.Dict.pairItems
  refine aF (rB tb.typeIs ?_)
  obtain⟨ob,g1,g2,nb,g3⟩:=tb
  show aM _ _ (seqItems? (.ref b) >>= _) _ _ _
  refine aF (mX g1 g3 (aP ?_))
  show aM _ _ (pH [kv,p.2] (dictSet D kv p.2)) _ _ _
  refine jV (wpAny_dictSet_pairs (knd:=fC prog w) e4 hS' (fun h' d' sb=>?_) hlen)
  refine aP ⟨wJ qO _,?_⟩
  refine ih (i+1) _ (by omega) hlt (W.frame _ s' _ _ hst' (wU _) fun c hc o e=>?_) (by rw[hstep]; exact d') (hT'.keep fun b o h1 _ e=>(sb.2 b h1).trans e) fun s'' hm'' S4=>?_
  ·exact(sb.2 c (fun z=>hDf (z ▸ hc))).trans e
  ·exact hR s'' (Moved.trans W.gtrans ((hm.mono more).then_heap (wU _) fun c o hc e=>(sb.2 c (fun z=>hc (z ▸ bM))).trans e) hm'') S4
theorem Ql{nl:Nat}{kvs:List (aI×aE)}(hh:A.handled=none)(hl:s.heap.get? l=some { cls:=.type "list",dict:=none,data:=.seq items nl,slots:=sl })
  (hkl:kvs.length=items.size) (hz:items.size≤sizeLine) (hp : ∀ (j:Nat) v,items[j]?=some v -> ∃ b kv p,v = .ref b/\kvs[j]?=some p/\s.heap.IsTuple b #[kv,p.2]/\(fC prog w).is p.1 kv=true)
  (h : ∀ h' tk,h'.DictOf (fC prog w) s.heap.objs.size (oA [] kvs)->(∀ b o,s.heap.get? b=some o->h'.get? b=some o)->Q (.ref s.heap.objs.size) { s with heap:=h',toks:=tk }) :
  aM (aU prog w) A (call (.type "dict") [.ref l]) Q E s:=by
 refine MT (Q₁:=fun obj s₁=>obj = .ref s.heap.objs.size/\s₁ = { s with heap:=s.heap.push { cls:=.type "dict",data:=.dict #[] } }) F.kt_called_dict (F.kt_typeCall_dict_1 _) F.entry_dict_init (kt_code_dict_new _ ⟨rfl,rfl⟩) ?_
 rintro obj s₁ ⟨rfl,rfl⟩
 have dn:(s.heap.push { cls:=.type "dict",data:=.dict #[] }).DictOf (fC prog w) s.heap.objs.size []:=Heap.DictOf.new s.heap
 have l1:(s.heap.push { cls:=.type "dict",data:=.dict #[] }).get? l=some { cls:=.type "list",dict:=none,data:=.seq items nl,slots:=sl }:=bW _ hl
 refine⟨dn.typeIs,F.args_dict_init_2 _ _,?_⟩
 unfold Builtin.«dict.__init__»
 refine aF ?_
 unfold Builtin.Dict.selfAndRest
 refine aF (MJ dn.typeIs (aP ?_))
 show aM _ _ (OH "dict.__init__" s.heap.objs.size (.ref l) [] .none) _ _ _
 unfold OH
 refine aF (rB (T:="list") ⟨_,l1,rfl⟩ ?_)
 rw[if_pos (by decide)]
 refine aF (ZO l1 (by simp[hh]) fun h1 tk k1=>?_)
 show aM _ _ (rule _ >>= fun _=>lR (.ref l) >>= _) _ _ _
 have l2:h1.get? l=some { cls:=.type "list",dict:=none,data:=.seq items nl,slots:=sl }:=k1 _ _ l1
 have L2:h1.IsList l items:=⟨_,l2,rfl,nl,rfl⟩
 refine aF (rC (aF (EX L2 (aP ⟨wJ qO _,?_⟩))))
 have lS:l<s.heap.objs.size:=cA hl
 have d1:h1.DictOf (fC prog w) s.heap.objs.size []:=by
  obtain⟨o,es,ep,ho,r⟩:=dn
  exact⟨o,es,ep,k1 _ _ ho,r⟩
 have sD:s.heap.objs.size<h1.objs.size:=by
  obtain⟨o,es,ep,ho,r⟩:=d1
  exact cA ho
 have nI:l≠h1.objs.size:=dQ (AW lS sD)
 have nS:s.heap.objs.size∉[h1.objs.size,l]:=fun z=>by
  rcases cU.mp z with z | z
  ·exact absurd z (dQ sD)
  ·exact absurd (bL.mp z) (nC lS)
 have old : ∀ b o,s.heap.get? b=some o->(h1.push { cls:=.type "list_iterator",data:=.fields #[.ref l,.int 0 0] }).get? b=some o:=fun b o e=>bW _ (k1 _ _ (bW _ e))
 refine Zu (w:=w) ((Walks.list (by simp[hh]) _ l nI items).toS) s.heap.objs.size nS kvs hz hkl (items.size - 0) 0 _ rfl (eR _) ⟨⟨_,dA _ rfl,rfl,rfl⟩,L2.push _⟩ (d1.push _) ?_ fun s' hm S'=>?_
 ·intro j v e
  obtain⟨b,kv,p,rfl,e1,⟨o,e2,e3⟩,e4⟩:=hp j v e
  have lb:b<s.heap.objs.size:=cA e2
  exact⟨b,kv,p,rfl,e1,⟨o,old b o e2,e3⟩,e4,dQ lb,fun z=>absurd (bL.mp z) (dQ (AW lb sD))⟩
 ·obtain⟨h',g',d',tk',os'⟩:=s'
  obtain rfl:g'=s.gens:=hm.gens
  obtain rfl:d'=s.drawn:=hm.drawn
  obtain rfl:os'=s.os:=hm.os
  refine⟨rfl,h h' tk' S' fun b o e=>?_⟩
  have lb:b<s.heap.objs.size:=cA e
  refine hm.heap b o (fun z=>?_) (old b o e)
  rcases cU.mp z with z | z
  ·exact absurd z (dQ lb)
  ·exact absurd (bL.mp z) (dQ (AW lb sD))
theorem QH {α β:Type}{R R':α->β->Prop}(f : ∀ a b,R a b->R' a b) : ∀ {as:List α} {bs:List β},iD R as bs->iD R' as bs:=by
 intro as bs h
 induction h with
 | nil=>exact .nil
 | cons h _ ih=>exact .cons (f _ _ h) ih
abbrev GQ (K:aK)(H:Hp)(ys:List V)(ps:List (aI×V)):Prop:=iD (fun y (p:aI×V)=>∃ b,y=V.ref b/\SqT K H b [kV p.1,p.2]) ys ps
theorem Vc{σ:St}(I:Inv X pins σ H s) : ∀ {ys:List V} {ps:List (aI×V)} {its:List aE},GQ X.K H ys ps->Vals ys its ->
  ∃ kvs:List (aI×aE),KV ps kvs/\kvs.length=its.length /\ ∀ (j:Nat) v,its[j]?=some v -> ∃ b kv p,v = .ref b/\kvs[j]?=some p/\s.heap.IsTuple b #[kv,p.2]/\(fC X.prog X.w).is p.1 kv=true:=by
 intro ys ps its hp
 induction hp generalizing its with
 | nil=>
  intro r
  cases r
  exact⟨[],.nil,rfl,fun j v e=>by simp at e⟩
 | @cons y p ys ps hq t ih=>
  intro r
  obtain⟨b,e,q⟩:=hq
  subst e
  cases r with
  | cons r rr=>
   cases r
   obtain⟨kvs,h1,h2,h3⟩:=ih rr
   obtain⟨us,rv,tb,_⟩:=I.tuple q
   cases rv with
   | cons ra rb=>
    cases rb with
    | cons rb rc=>
     cases rc
     refine⟨(p.1,_)::kvs,.cons ⟨rfl,rb⟩ h1,by simp[h2],fun j v e=>?_⟩
     cases j with
     | zero=>
      cases e
      exact⟨b,_,(p.1,_),rfl,rfl,tb,sC ra⟩
     | succ j=>exact h3 j v (by simpa using e)
theorem Sh (hc:X.calm=true):Adz X (.type "dict") (fun xs H Q=>∃ p ys ps,xs=[.ref p]/\SqL X.K H p ys/\GQ X.K H ys ps /\ ∀ q n,H q=none->Q (.ref q) (upd H q (.dK n (oP [] ps)))):=by
 intro pins s σ H xs us Q I r h
 obtain⟨p,ys,ps,rfl,hp,hv,q⟩:=h
 obtain⟨u,rfl,ru⟩:=vals1 r
 cases ru
 obtain⟨its,rv,⟨o,n,ho,hc1,hc2,hc3⟩,hz⟩:=I.list hp
 obtain⟨kvs,h1,h2,h3⟩:=Vc I hv rv
 have e1:ys.length=its.length:=rv.length
 obtain⟨c,dct,dat,sl⟩:=o
 simp only at hc1 hc2 hc3
 subst hc1 hc2 hc3
 refine Ql (I.ok.hd hc) ho (kvs:=kvs) (by rw[dX]; exact h2) (by rw[dX]; omega) (fun j v e=>h3 j v (by simpa using e)) fun h' tk dd hk=>?_
 obtain⟨m,da⟩:=dd.dictAt
 have lz:(oP [] ps).length≤sizeLine:=by
  have l1:=XO ps []
  have l2:ps.length=kvs.length:=tN h1
  simp at l1
  omega
 exact⟨.ref s.heap.objs.size,_,I.laid (a:=s.heap.objs.size) (o:=.dK m (oP [] ps)) (t':=tk) hk (bE _) (BZ lz (beq_eq_false_iff_ne.mpr (eZ (dQ I.big))) (h1.merge .nil) da),rfl,q _ m I.fresh⟩
def rQ:List aA->Option (List (aI×aA))
 | []=>some []
 | .tuple [k,d]::r=>(cL k).bind fun k=>(rQ r).bind fun ps=>some ((k,d)::ps)
 | _::_=>none
def sO (ps:List (aI×aA))(kds:List (aA×aA)):List (aA×aA):=ps.foldl (fun acc p=>putD acc p.1 p.2) kds
def CB:List aA->Option aA
 | [.list ds]=>(rQ ds).bind fun ps=>some (.dict (sO ps []))
 | _=>none
theorem Zi : ∀ {ps:List (aI×aA)} {qs:List (aI×V)},iD (fun(p:aI×aA) (q:aI×V)=>p.1=q.1/\Abk K H p.2 q.2) ps qs -> ∀ {kds:List (aA×aA)} {kvs:List (aI×V)},Ab2 K H kds kvs->Ab2 K H (sO ps kds) (oP kvs qs):=by
 intro ps qs hp
 induction hp with
 | nil=>exact fun r=>r
 | @cons p q ps qs hq t ih=>
  intro kds kvs r
  have:=ih (HJ (k:=p.1) r hq.2)
  show Ab2 K H (sO _ (putD kds p.1 p.2)) (oP (putK kvs q.1 q.2) _)
  rw[← hq.1]
  exact this
theorem Wr : ∀ {ds:List aA} {ps:List (aI×aA)} {ys:List V},rQ ds=some ps->Aas K H ds ys -> ∃ qs:List (aI×V),iD (fun(y:V) (q:aI×V)=>∃ b,y=V.ref b/\H b=some (.tup [kV q.1,q.2])) ys qs/\iD (fun(p:aI×aA) (q:aI×V)=>p.1=q.1/\Abk K H p.2 q.2) ps qs:=by
 intro ds
 induction ds with
 | nil=>
  intro ps ys e r
  cases e
  rw[Aan.mp r]
  exact⟨[],.nil,.nil⟩
 | cons z ds ih=>
  intro ps ys e r
  cases z with
  | tuple zs=>
   cases zs with
   | nil=>cases e
   | cons k zs=>
    cases zs with
    | nil=>cases e
    | cons d zs=>
     cases zs with
     | cons _ _=>cases e
     | nil=>
      obtain⟨key,e1,e⟩:=XBs (show((cL k).bind fun k=>(rQ ds).bind fun ps=>some ((k,d)::ps))=some ps from e)
      obtain⟨ps',e2,e⟩:=XBs e
      cases e
      obtain⟨v,t,rfl,r1,r2⟩:=Aah.mp r
      obtain⟨qs,h1,h2⟩:=ih e2 r2
      obtain⟨b,xs,rfl,hb,rx⟩:=Aap.mp r1
      obtain⟨u1,t1,rfl,a1,a2⟩:=Aah.mp rx
      obtain⟨u2,rfl,a3⟩:=fQ a2
      rw[pA e1 a1] at hb
      exact⟨(key,u2)::qs,.cons ⟨b,rfl,hb⟩ h1,.cons ⟨rfl,a3⟩ h2⟩
  | _=>cases e
theorem Sj:CallD K 1 (fun xs H Q=>∃ p ys ps,xs=[.ref p]/\SqL K H p ys/\GQ K H ys ps /\ ∀ q n,H q=none->Q (.ref q) (upd H q (.dK n (oP [] ps)))) CB:=fun P H xs ds d Q hP r e k=>by
 unfold CB at e
 split at e
 ·obtain⟨ps,e1,e2⟩:=XBs e
  cases e2
  obtain⟨v,rfl,r'⟩:=fQ r
  obtain⟨q,ys,rfl,hq,rr⟩:=Abl.mp r'
  obtain⟨qs,h1,h2⟩:=Wr e1 rr
  refine⟨q,ys,qs,rfl,Aau.sqL hq,?_,fun l n hn=>k.dic hP hn (Zi h2 (Ab6.mpr rfl))⟩
  exact QH (fun y p ⟨b,e,hb⟩=>⟨b,e,SqT.of (Aau _ _ hb)⟩) h1
 ·cases e
abbrev TE3:=List aA×aD×aE
def jS (xs more:List TE3):List TE3:=more.foldl (fun acc p=>pG acc p.1 p.2.1 p.2.2) xs
theorem Sr {xs:List TE3}{k:List aA}{v:aE}{x:TE3}(m:x∈pG xs k a v):(x.1=k/\x.2.1=a) \/ ∃ y∈xs,x.1=y.1/\x.2.1=y.2.1:=by
 cases e:oC xs k with
 | none=>
  rw[storedH_new e] at m
  rcases oE.mp m with m | m
  ·exact .inr ⟨x,m,rfl,rfl⟩
  ·rw[bL.mp m]; exact .inl ⟨rfl,rfl⟩
 | some p=>
  rw[storedH_old e] at m
  obtain⟨y,my,rfl⟩:=cY.mp m
  refine .inr ⟨y,my,?_⟩
  unfold putAt
  by_cases q:y.1=k
  ·rw[if_pos q]; exact⟨rfl,rfl⟩
  ·rw[if_neg q]; exact⟨rfl,rfl⟩
theorem Si (xs:List TE3)(k:List aA)(a:aD)(v:aE):(pG xs k a v).length≤xs.length+1:=by
 cases e:oC xs k with
 | none=>rw[storedH_new e]; simp
 | some p=>rw[storedH_old e]; simp
theorem WZ : ∀ (more:List TE3) {xs:List TE3} {x:TE3},x∈jS xs more->(∃ p∈more,x.1=p.1/\x.2.1=p.2.1) \/ ∃ y∈xs,x.1=y.1/\x.2.1=y.2.1
 | [],xs,x,m=>.inr ⟨x,m,rfl,rfl⟩
 | p::r,xs,x,m=>by
  rcases WZ r (show x∈jS (pG xs p.1 p.2.1 p.2.2) r from m) with⟨q,mq,e⟩ | ⟨y,my,e1,e2⟩
  ·exact .inl ⟨q,cF _ mq,e⟩
  ·rcases Sr my with⟨a1,a2⟩ | ⟨z,mz,a1,a2⟩
   ·exact .inl ⟨p,bM,e1.trans a1,e2.trans a2⟩
   ·exact .inr ⟨z,mz,e1.trans a1,e2.trans a2⟩
theorem WW : ∀ (more xs:List TE3),(jS xs more).length≤xs.length+more.length
 | [],xs=>bE _
 | p::r,xs=>by
  have h1:=WW r (pG xs p.1 p.2.1 p.2.2)
  have h2:=Si xs p.1 p.2.1 p.2.2
  show(jS (pG xs p.1 p.2.1 p.2.2) r).length≤_
  rw[fL]
  omega
theorem UM {h0:aZ}{D:aD}{xs:List TE3}(e : ∀ o,h.get? D=some o->h'.get? D=some o)(hs : ∀ x∈xs,Agp h0 x.1 x.2.1)(hk : ∀ b o,h0.get? b=some o->h'.get? b=some o)(d:h.DictOfH (hZ prog w) D xs):h'.DictOfH (hZ prog w) D xs:=by
 obtain⟨o,es,ep,ho,h1,h2,h3,_,h5⟩:=d
 exact⟨o,es,ep,e o ho,h1,h2,h3,fun x hx=>(hs x hx).keep fun b o _ _ e _ _=>hk b o e,h5⟩
theorem Pv{I:aD}{fp:List aD}{G:Array BG->Array BG->Prop}{St:Nat->aJ->Prop}
  (W:WalksS prog w A.in1 I fp wr G n (fun i v=>items[i]?=some v) St) (D:aD) (hDf:D∉fp) (kvs:List TE3) (hn:n≤sizeLine) (hkl:kvs.length=n) (hu:A.units+40<cLine) {h0:aZ} (hD0:h0.get? D=none) (hw0 : ∀ b∈wr,h0.get? b=none)
  (hp : ∀ (j:Nat) v,items[j]?=some v -> ∃ b p,v = .ref b/\kvs[j]?=some p/\h0.IsTuple b #[.ref p.2.1,p.2.2]) (hk0 : ∀ p∈kvs,Agp h0 p.1 p.2.1) :
  ∀ (k i:Nat) (s:aJ),n - i=k->i≤n->St i s->s.heap.DictOfH (hZ prog w) D (jS [] (kvs.take i))->(∀ b o,h0.get? b=some o->s.heap.get? b=some o) ->
   (∀ s',Moved (D::wr) G s s'->s'.heap.DictOfH (hZ prog w) D (jS [] kvs)->R (.ok (.ret .none)) s') ->
   oB (aU prog w) A (.builtin "dict.update.loop" ⟨[.ref D,.ref I,eU (i:Int),.none],[]⟩) R s:=by
 have hDw:D∉wr:=fun z=>hDf (W.sub _ z)
 have more : ∀ b∈wr,b∈D::wr:=fun b z=>cF _ z
 have nw : ∀ b o,h0.get? b=some o->b∉wr:=fun b o e z=>by rw[hw0 b z] at e; cases e
 have nD : ∀ b o,h0.get? b=some o->b≠D:=fun b o e z=>by rw[z,hD0] at e; cases e
 have kin : ∀ i,∀ x∈jS [] (kvs.take i),Agp h0 x.1 x.2.1:=fun i x m=>by
  rcases WZ _ m with⟨p,mp,e1,e2⟩ | ⟨y,my,_⟩
  ·rw[e1,e2]; exact hk0 p (Bt mp)
  ·simp at my
 intro k
 induction k with
 | zero=>
  intro i s hk hi hst hS hT hR
  obtain rfl:i=n:=by omega
  refine AK EC ?_
  rw[BL qO _]
  show aM _ A.in1 (fW (.ref I) >>= _) _ _ s
  refine aF (W.done s _ _ hst fun s' hm=>?_)
  show aM _ A.in1 (Builtin.Dict.addKeywords D [] >>= fun _=>ret dP) _ _ s'
  refine aF (aP (aP (hR s' (hm.mono more) ?_)))
  have:=UM (h':=s'.heap) (fun o e=>hm.heap D o hDw e) (kin i) (fun b o e=>hm.heap b o (nw b o e) (hT b o e)) hS
  rw[← hkl,Bp] at this
  exact this
 | succ k ih=>
  intro i s hk hi hst hS hT hR
  have hlt:i<n:=by omega
  refine AK EC ?_
  rw[BL qO _]
  show aM _ A.in1 (fW (.ref I) >>= _) _ _ s
  refine aF (W.item i s _ _ hlt hst fun v s' hPi hst' hm=>?_)
  have hT' : ∀ b o,h0.get? b=some o->s'.heap.get? b=some o:=fun b o e=>hm.heap b o (nw b o e) (hT b o e)
  obtain⟨b,p,rfl,e1,tb0⟩:=hp i v hPi
  have tb:s'.heap.IsTuple b #[.ref p.2.1,p.2.2]:=by
   obtain⟨o,a1,a2⟩:=tb0
   exact⟨o,hT' b o a1,a2⟩
  have mp:p∈kvs:=fK e1
  have hS':s'.heap.DictOfH (hZ prog w) D (jS [] (kvs.take i)):=UM (fun o e=>hm.heap D o hDw e) (kin i) hT' hS
  have hstep:jS [] (kvs.take (i+1))=pG (jS [] (kvs.take i)) p.1 p.2.1 p.2.2:=by
   rw[NI,e1]
   simp[jS,Cc]
  have hlen:(jS [] (kvs.take i)).length≤sizeLine:=by
   have:=WW (kvs.take i) []
   rw[wW] at this
   simp at this
   omega
  have hkey:(hZ prog w).is s'.heap p.1 p.2.1:=(hk0 p mp).keep fun b o _ _ e _ _=>hT' b o e
  refine aF (jV (aF (wpAny_tryCatch ?_)))
  unfold Builtin.Dict.pairItems
  refine aF (rB tb.typeIs ?_)
  obtain⟨ob,g1,g2,nb,g3⟩:=tb
  show aM _ _ (seqItems? (.ref b) >>= _) _ _ _
  refine aF (mX g1 g3 (aP ?_))
  show aM _ _ (pH [.ref p.2.1,p.2.2] (dictSet D (.ref p.2.1) p.2.2)) _ _ _
  refine jV (wpAny_dictSet_heap (knd:=hZ prog w) ?_ hkey hS' (fun h' d' sb=>?_) hlen)
  ·show _+20<cLine
   have:A.in1.units=A.units+1:=rfl
   simp
   omega
  refine aP ⟨wJ qO _,?_⟩
  refine ih (i+1) _ (by omega) hlt (W.frame _ s' _ _ hst' (Nat.le_add_right _ _) fun c hc o e=>?_) (by rw[hstep]; exact d') (fun b o e=>(sb.2 b (nD b o e)).trans (hT' b o e)) fun s'' hm'' S4=>?_
  ·exact(sb.2 c (fun z=>hDf (z ▸ hc))).trans e
  ·exact hR s'' (Moved.trans W.gtrans ((hm.mono more).then_heap (Nat.le_add_right _ _) fun c o hc e=>(sb.2 c (fun z=>hc (z ▸ bM))).trans e) hm'') S4
theorem Ry{nl:Nat}{kvs:List TE3}(hu:A.units+90<cLine)(hh:A.handled=none)(hl:s.heap.get? l=some { cls:=.type "list",dict:=none,data:=.seq items nl,slots:=sl })
  (hkl:kvs.length=items.size) (hz:items.size≤sizeLine) (hp : ∀ (j:Nat) v,items[j]?=some v -> ∃ b p,v = .ref b/\kvs[j]?=some p/\s.heap.IsTuple b #[.ref p.2.1,p.2.2]) (hk0 : ∀ p∈kvs,Agp s.heap p.1 p.2.1)
  (h : ∀ h' tk,h'.DictOfH (hZ prog w) s.heap.objs.size (jS [] kvs)->(∀ b o,s.heap.get? b=some o->h'.get? b=some o)->Q (.ref s.heap.objs.size) { s with heap:=h',toks:=tk }) :
  aM (aU prog w) A (call (.type "dict") [.ref l]) Q E s:=by
 refine MT (Q₁:=fun obj s₁=>obj = .ref s.heap.objs.size/\s₁ = { s with heap:=s.heap.push { cls:=.type "dict",data:=.dict #[] } }) F.kt_called_dict (F.kt_typeCall_dict_1 _) F.entry_dict_init (kt_code_dict_new _ ⟨rfl,rfl⟩) ?_
 rintro obj s₁ ⟨rfl,rfl⟩
 have dn:(s.heap.push { cls:=.type "dict",data:=.dict #[] }).DictOfH (hZ prog w) s.heap.objs.size []:=Heap.DictOfH.new s.heap
 have l1:(s.heap.push { cls:=.type "dict",data:=.dict #[] }).get? l=some { cls:=.type "list",dict:=none,data:=.seq items nl,slots:=sl }:=bW _ hl
 refine⟨dn.typeIs,F.args_dict_init_2 _ _,?_⟩
 unfold Builtin.«dict.__init__»
 refine aF ?_
 unfold Builtin.Dict.selfAndRest
 refine aF (MJ dn.typeIs (aP ?_))
 show aM _ _ (OH "dict.__init__" s.heap.objs.size (.ref l) [] .none) _ _ _
 unfold OH
 refine aF (rB (T:="list") ⟨_,l1,rfl⟩ ?_)
 rw[if_pos (by decide)]
 refine aF (ZO l1 (by simp[hh]) fun h1 tk k1=>?_)
 show aM _ _ (rule _ >>= fun _=>lR (.ref l) >>= _) _ _ _
 have l2:h1.get? l=some { cls:=.type "list",dict:=none,data:=.seq items nl,slots:=sl }:=k1 _ _ l1
 have L2:h1.IsList l items:=⟨_,l2,rfl,nl,rfl⟩
 refine aF (rC (aF (EX L2 (aP ⟨wJ qO _,?_⟩))))
 have lS:l<s.heap.objs.size:=cA hl
 have d1:h1.DictOfH (hZ prog w) s.heap.objs.size []:=by
  obtain⟨o,es,ep,ho,a1,a2,a3,_,a5⟩:=dn
  exact⟨o,es,ep,k1 _ _ ho,a1,a2,a3,fun x hx=>by simp at hx,a5⟩
 have sD:s.heap.objs.size<h1.objs.size:=by
  obtain⟨o,es,ep,ho,r⟩:=d1
  exact cA ho
 have nI:l≠h1.objs.size:=dQ (AW lS sD)
 have nS:s.heap.objs.size∉[h1.objs.size,l]:=fun z=>by
  rcases cU.mp z with z | z
  ·exact absurd z (dQ sD)
  ·exact absurd (bL.mp z) (nC lS)
 have old : ∀ b o,s.heap.get? b=some o->(h1.push { cls:=.type "list_iterator",data:=.fields #[.ref l,.int 0 0] }).get? b=some o:=fun b o e=>bW _ (k1 _ _ (bW _ e))
 have out : ∀ b,s.heap.objs.size≤b->s.heap.get? b=none:=fun b hb=>by
  cases e:s.heap.get? b with
  | none=>rfl
  | some o=>exact absurd (cA e) (Nat.not_lt.mpr hb)
 have d2:(h1.push { cls:=.type "list_iterator",data:=.fields #[.ref l,.int 0 0] }).DictOfH (hZ prog w) s.heap.objs.size []:=by
  obtain⟨o,es,ep,ho,a1,a2,a3,_,a5⟩:=d1
  exact⟨o,es,ep,bW _ ho,a1,a2,a3,fun x hx=>by simp at hx,a5⟩
 refine Pv (w:=w) ((Walks.list (by simp[hh]) _ l nI items).toS) s.heap.objs.size nS kvs hz hkl (by simp; omega) (h0:=s.heap) (out _ (bE _)) (fun b z=>out b (by
  rw[bL.mp z]
  exact pO sD)) hp hk0 (items.size - 0) 0 _ rfl (eR _) ⟨⟨_,dA _ rfl,rfl,rfl⟩,L2.push _⟩ d2 old fun s' hm S'=>?_
 obtain⟨h',g',d',tk',os'⟩:=s'
 obtain rfl:g'=s.gens:=hm.gens
 obtain rfl:d'=s.drawn:=hm.drawn
 obtain rfl:os'=s.os:=hm.os
 refine⟨rfl,h h' tk' S' fun b o e=>?_⟩
 have lb:b<s.heap.objs.size:=cA e
 refine hm.heap b o (fun z=>?_) (old b o e)
 rcases cU.mp z with z | z
 ·exact absurd z (dQ lb)
 ·exact absurd (bL.mp z) (dQ (AW lb sD))
abbrev GL (K:aK)(H:Hp)(ys:List V)(ps:List (List aA×V)):Prop:=iD (fun y (p:List aA×V)=>∃ b c,y=V.ref b/\SqT K H b [.ref c,p.2]/\Alf H p.1 c) ys ps
def nR (kvs more:List (List aA×V)):List (List aA×V):=more.foldl (fun acc kv=>putK acc kv.1 kv.2) kvs
theorem XR : ∀ (more kvs:List (List aA×V)),(nR kvs more).length≤kvs.length+more.length
 | [],kvs=>by show kvs.length≤kvs.length+0; omega
 | p::r,kvs=>by
  have h1:=XR r (putK kvs p.1 p.2)
  have h2:=zH kvs p.1 p.2
  show(nR (putK kvs p.1 p.2) r).length≤_
  rw[fL]; omega
theorem KT.merge : ∀ {more:List (List aA×V)} {rs:List TE3} {kvs:List (List aA×V)} {vs:List TE3},KT H more rs->KT H kvs vs->KT H (nR kvs more) (jS vs rs):=by
 intro more rs kvs vs r
 induction r generalizing kvs vs with
 | nil=>intro q; exact q
 | @cons p q ps qs h t ih=>
  intro z
  obtain⟨h1,h2,h3⟩:=h
  have:=z.put p.1 h2 h3
  show KT H (nR (putK kvs p.1 p.2) ps) (jS (pG vs q.1 q.2.1 q.2.2) qs)
  rw[← h1]
  exact ih this
theorem VZ{σ:St}(I:Inv X pins σ H s) : ∀ {ys:List V} {ps:List (List aA×V)} {its:List aE},GL X.K H ys ps->Vals ys its ->
  ∃ kvs:List TE3,KT H ps kvs/\kvs.length=its.length/\(∀ (j:Nat) v,its[j]?=some v -> ∃ b p,v = .ref b/\kvs[j]?=some p/\s.heap.IsTuple b #[.ref p.2.1,p.2.2]) /\ ∀ p∈kvs,Agp s.heap p.1 p.2.1
 | _,_,_,.nil,.nil=>⟨[],.nil,rfl,fun j v e=>by simp at e,fun p m=>by simp at m⟩
 | _,_,_,.cons (b:=p) ⟨b,c,e,q,tk⟩ t,.cons r rr=>by
  subst e
  cases r
  obtain⟨kvs,h1,h2,h3,h4⟩:=VZ I t rr
  obtain⟨us,rv,tb,_⟩:=I.tuple q
  cases rv with
  | cons ra rb=>
   cases ra
   cases rb with
   | cons rb rc=>
    cases rc
    refine⟨(p.1,c,_)::kvs,.cons ⟨rfl,tk,rb⟩ h1,by simp[h2],fun j v e=>?_,fun z m=>?_⟩
    ·cases j with
     | zero=>
      cases e
      exact⟨b,(p.1,c,_),rfl,rfl,tb⟩
     | succ j=>exact h3 j v (by simpa using e)
    ·rcases cU.mp m with rfl | m
     ·exact key_of I.hok tk
     ·exact h4 z m
theorem KZ (hu:X.A.units+100<cLine)(hc:X.calm=true):Adz X (.type "dict") (fun xs H Q=>∃ p ys ps,xs=[.ref p]/\SqL X.K H p ys/\GL X.K H ys ps /\ ∀ q n,H q=none->Q (.ref q) (upd H q (.dT n (nR [] ps)))):=by
 intro pins s σ H xs us Q I r h
 obtain⟨p,ys,ps,rfl,hp,hv,q⟩:=h
 obtain⟨u,rfl,ru⟩:=vals1 r
 cases ru
 obtain⟨its,rv,⟨o,n,ho,hc1,hc2,hc3⟩,hz⟩:=I.list hp
 obtain⟨kvs,h1,h2,h3,h4⟩:=VZ I hv rv
 have e1:ys.length=its.length:=rv.length
 obtain⟨c,dct,dat,sl⟩:=o
 simp only at hc1 hc2 hc3
 subst hc1 hc2 hc3
 refine Ry (by omega) (I.ok.hd hc) ho (kvs:=kvs) (by rw[dX]; exact h2) (by rw[dX]; omega) (fun j v e=>h3 j v (by simpa using e)) h4 fun h' tk dd hk=>?_
 have lz:(nR [] ps).length≤sizeLine:=by
  have l1:=XR ps []
  have l2:ps.length=kvs.length:=tN h1
  simp at l1
  omega
 obtain⟨qo,es,ep,a1,a2,a3,a4,_,a5⟩:=dd
 have fr:H s.heap.objs.size=none:=I.hok.fresh (bE _)
 exact⟨.ref s.heap.objs.size,_,I.laid (a:=s.heap.objs.size) (o:=.dT ep (nR [] ps)) (t':=tk) hk (bE _) ⟨lz,beq_eq_false_iff_ne.mpr (eZ (dQ I.big)),_,(h1.merge .nil).keeps fun b zs e=>by rw[dJ (jK e fr)]; exact e,qo,es,a1,a2,a3,a4,a5⟩,rfl,q _ ep I.fresh⟩
def rU:List aA->Option (List (List aA×aA))
 | []=>some []
 | .tuple [.tuple k,d]::r=>if (bU k&&decide (cZ k≤6))=true then(rU r).bind fun ps=>some ((k,d)::ps) else none
 | _::_=>none
def kB (kds:List (aA×aA))(k:List aA)(d:aA):List (aA×aA):=if (iI kds k).isSome=true then kds.map fun kd=>if cK kd.1 (.tuple k)=true then(kd.1,d) else kd else kds++[(.tuple k,d)]
def xT (ps:List (List aA×aA))(kds:List (aA×aA)):List (aA×aA):=ps.foldl (fun acc p=>kB acc p.1 p.2) kds
def uS:List aA->Option aA
 | [.list ds]=>(rU ds).bind fun ps=>some (.dict ((.none,.none)::xT ps []))
 | _=>none
theorem JW{k:List aA}(hk:bU k=true)(rv:Abk K H d v) : ∀ {kds:List (aA×aA)} {kvs:List (List aA×V)},Abq K H kds kvs ->
  Abq K H (kds.map fun kd=>if cK kd.1 (.tuple k)=true then(kd.1,d) else kd) (kvs.map fun kv=>if kv.1=k then(kv.1,v) else kv)
 | [],kvs,h=>by rw[Ach.mp h]; exact Ach.mpr rfl
 | (k0,d0)::r,kvs,h=>by
  obtain⟨k',x,rr,rfl,⟨rfl,hk'⟩,h1,h2⟩:=Abe.mp h
  have e:cK (.tuple k') (.tuple k)=decide (k'=k):=by rw[ZU,yX _ _ hk' hk]
  rw[dF,dF]
  by_cases q:k'=k
  ·rw[if_pos q,if_pos (by rw[e]; exact decide_eq_true q)]
   exact Abe.mpr ⟨k',v,_,rfl,⟨rfl,hk'⟩,rv,JW hk rv h2⟩
  ·rw[if_neg q,if_neg (by rw[e,decide_eq_false q]; simp)]
   exact Abe.mpr ⟨k',x,_,rfl,⟨rfl,hk'⟩,h1,JW hk rv h2⟩
theorem Abq.snoc{k:List aA}(hk:bU k=true)(rv:Abk K H d v) : ∀ {kds:List (aA×aA)} {kvs:List (List aA×V)},Abq K H kds kvs->Abq K H (kds++[(.tuple k,d)]) (kvs++[(k,v)])
 | [],kvs,h=>by rw[Ach.mp h]; exact Abe.mpr ⟨k,v,[],rfl,⟨rfl,hk⟩,rv,Ach.mpr rfl⟩
 | (k0,d0)::r,kvs,h=>by
  obtain⟨k',x,rr,rfl,e,h1,h2⟩:=Abe.mp h
  exact Abe.mpr ⟨k',x,_,rfl,e,h1,Abq.snoc hk rv h2⟩
theorem SN{k:List aA}(hk:bU k=true)(h:Abq K H kds kvs)(rv:Abk K H d v):Abq K H (kB kds k d) (putK kvs k v):=by
 unfold kB putK
 rw[IU]
 rcases yW hk h with⟨n1,n2⟩ | ⟨d',v',s1,s2,_⟩
 ·rw[n1,n2,if_neg (by simp),if_neg (by simp)]
  exact Abq.snoc hk rv h
 ·rw[s1,s2,if_pos (show(some d').isSome=true from rfl),if_pos (show(some v').isSome=true from rfl)]
  exact JW hk rv h
theorem WN : ∀ {ps:List (List aA×aA)} {qs:List (List aA×V)},iD (fun(p:List aA×aA) (q:List aA×V)=>p.1=q.1/\bU p.1=true/\Abk K H p.2 q.2) ps qs -> ∀ {kds:List (aA×aA)} {kvs:List (List aA×V)},Abq K H kds kvs->Abq K H (xT ps kds) (nR kvs qs)
 | _,_,.nil,_,_,r=>r
 | _,_,.cons (a:=p) (b:=q) ⟨e,hk,h⟩ t,kds,kvs,r=>by
  have:=SN hk r h
  have:=WN t this
  show Abq K H (xT _ (kB kds p.1 p.2)) (nR (putK kvs q.1 q.2) _)
  rw[← e]
  exact this
theorem TL : ∀ {ds:List aA} {ps:List (List aA×aA)} {ys:List V},rU ds=some ps->Aas K H ds ys -> ∃ qs:List (List aA×V),iD (fun(y:V) (q:List aA×V)=>∃ b c,y=V.ref b/\H b=some (.tup [.ref c,q.2])/\Alf H q.1 c) ys qs/\iD (fun(p:List aA×aA) (q:List aA×V)=>p.1=q.1/\bU p.1=true/\Abk K H p.2 q.2) ps qs
 | [],ps,ys,e,r=>by
  cases e
  rw[Aan.mp r]
  exact⟨[],.nil,.nil⟩
 | d0::ds,ps,ys,e,r=>by
  unfold rU at e
  split at e
  ·rename_i e0; cases e0
  ·rename_i k d r0 e0
   cases e0
   obtain⟨hc,e⟩:=HF e
   have hc':bU k=true/\cZ k≤6:=by simpa using hc
   obtain⟨ps',e2,e⟩:=XBs e
   cases e
   obtain⟨v,t,rfl,r1,r2⟩:=Aah.mp r
   obtain⟨qs,h1,h2⟩:=TL e2 r2
   obtain⟨b,xs,rfl,hb,rx⟩:=Aap.mp r1
   obtain⟨u1,t1,rfl,a1,a2⟩:=Aah.mp rx
   obtain⟨u2,rfl,a3⟩:=fQ a2
   obtain⟨c,zs,rfl,hz,rz⟩:=Aap.mp a1
   exact⟨(k,u2)::qs,.cons ⟨b,c,rfl,hb,hc'.1,hc'.2,zs,hz,Aas.keys k hc'.1 rz⟩ h1,.cons ⟨rfl,hc'.1,a3⟩ h2⟩
  ·cases e
theorem Alf.ext {H':Hp}(x:Ext H H'){k:List aA}{c:aD}(t:Alf H k c):Alf H' k c:=t.keep fun b xs e=>x _ _ e
theorem LJ:CallD K 0 (fun xs H Q=>∃ p ys ps,xs=[.ref p]/\SqL K H p ys/\GL K H ys ps /\ ∀ q n,H q=none->Q (.ref q) (upd H q (.dT n (nR [] ps)))) uS:=fun P H xs ds d Q hP r e k=>by
 unfold uS at e
 split at e
 ·obtain⟨ps,e1,e2⟩:=XBs e
  cases e2
  obtain⟨v,rfl,r'⟩:=fQ r
  obtain⟨q,ys,rfl,hq,rr⟩:=Abl.mp r'
  obtain⟨qs,h1,h2⟩:=TL e1 rr
  refine⟨q,ys,qs,rfl,Aau.sqL hq,?_,fun l n hn=>?_⟩
  ·exact QH (fun y p ⟨b,c,e,hb,tk⟩=>⟨b,c,e,SqT.of (Aau _ _ hb),tk.ext Aau⟩) h1
  ·refine k.zero (Ext.new hn) ((mU).mpr ⟨l,(n,_),rfl,gQ (hP.new hn) fJ,?_⟩)
   refine Abq.ext (fun b o e=>?_) (WN h2 (Ach.mpr rfl))
   obtain⟨nb,e⟩:=Ac0.mp e
   exact gQ nb (Ext.new hn _ _ e)
 ·cases e
def FV (a:aD)(ep n:Nat):It:=
  ⟨fun i H=>∃ kvs kv,H a=some (.dK ep kvs)/\kvs.length=n/\kvs[i]?=some kv,
   fun i H v H'=>∃ T kv,H T=none/\v = .ref T/\(∀ kvs,H a=some (.dK ep kvs)->kvs[i]?=some kv)/\H'=upd H T (.tup [kV kv.1,kv.2]),
   fun i H=>∃ kvs,H a=some (.dK ep kvs)/\kvs.length=n/\n≤i⟩
theorem Um:entryFor table "dict_itemiterator.__iter__" = some Builtin.«dict_keyiterator.__iter__»:=entryFor_alias (id':="dict_keyiterator.__iter__") (by kernel_rfl) rfl (by decide +kernel) (by kernel_rfl)
theorem XU(hT:s.TypeIs (.ref it) "dict_itemiterator")(h:Q (.ref it) s):aM (aU prog w) A (lR (.ref it)) Q E s:=by
 refine MH hT d7 (iN d7 hT Um ?_ (F.args_dict_itemiterator_iter_1 _))
 show aM _ _ (ret (.ref it)) _ _ s
 exact aP ⟨_,rfl,"dict_itemiterator",_,hT,BI.lookup,h⟩
theorem Qt{cx}{pos:bZ}(a it:aD)(ep n:Nat) :
  Turn P w K (.Tuple es cx pos) (FV a ep n) [it] it (fun i h=>∃ ok ov,rK h it a i n ep ok ov) where
 mem:=bL.mpr rfl
 obj:=fun i h ⟨ok,ov,g⟩ b hb=>by
  rw[bL.mp hb]
  exact⟨_,g,fun v z=>by cases z⟩
 keep:=fun i h h' ⟨ok,ov,g⟩ k=>⟨ok,ov,k it (bL.mpr rfl) _ g⟩
 item:=by
  intro X hP hw hK hc i pins s σ H E I hf st hg
  subst hP hw hK
  obtain⟨kvs,kv,ha,hn,hk⟩:=hg
  subst hn
  obtain⟨z,nm,vs,r,d⟩:=rW I.hok (.inl ha)
  have hl:kvs.length=vs.length:=r.length
  obtain⟨u,hu,r1,r2⟩:=LN r hk
  obtain⟨uk,uv⟩:=u
  obtain⟨ok,ov,st⟩:=st
  rw[hl] at st
  have young:it<s.heap.objs.size:=cA st
  refine wpAny_pyNext_items_item st d hu fun key h' hkey eo pr sz keep=>?_
  have r1':kv.1=uk:=r1
  have rk:RelV (kV kv.1) key:=by rw[r1']; exact RH hkey
  have fr:H s.heap.objs.size=none:=I.hok.fresh (bE _)
  have I0:Inv X pins σ (upd H s.heap.objs.size (.tup [kV kv.1,kv.2])) { s with heap:=s.heap.push { cls:=.type "tuple",data:=.seq #[key,uv] },toks:=s.toks }:=
   I.laid (t':=s.toks) (o:=.tup [kV kv.1,kv.2]) (fun b ob q=>bW _ q) (bE _) ⟨by show 2≤sizeLine; decide,[key,uv],.cons rk (.cons r2 .nil),A5w.new _ _⟩
  have hf' : ∀ b∈[it],iV X pins (upd H s.heap.objs.size (.tup [kV kv.1,kv.2])) b:=fun b m=>⟨by rw[dJ (dQ (by rw[bL.mp m]; exact young))]; exact(hf b m).1,(hf b m).2⟩
  have I1:Inv X pins σ (upd H s.heap.objs.size (.tup [kV kv.1,kv.2])) { s with heap:=h',toks:=s.toks }:=I0.turnM (t':=s.toks) hf' fun b o n g=>by
   have n:b≠it:=fun q=>n (bL.mpr q)
   by_cases hb:b=s.heap.objs.size
   ·subst hb
    have e':(s.heap.push { cls:=.type "tuple",data:=.seq #[key,uv] }).get? s.heap.objs.size=some { cls:=.type "tuple",data:=.seq #[key,uv] }:=dA _ rfl
    have:some o=some _:=g.symm.trans e'
    rw[this]
    exact pr
   ·exact keep b o n ((Cj _ _ _ hb).symm.trans g)
  refine⟨_,rfl,wpAny_letOwnedTupleGo_items eo fun h2 ge sb=>?_⟩
  have I2:Inv X pins σ (upd H s.heap.objs.size (.tup [kV kv.1,kv.2])) { s with heap:=h2,toks:=s.toks }:=I1.turnM (t':=s.toks) hf' fun b o n g=>sb.extBut b o (fun q=>n (bL.mpr q)) g
  exact⟨.ref s.heap.objs.size,_,I2,rfl,⟨_,kv,fr,rfl,fun kvs' h=>by rw[ha] at h; cases h; exact hk,rfl⟩,⟨_,_,by rw[hl]; exact ge⟩,fun b m=>(hf' b m).1⟩
 done:=by
  intro X hP hw hK hc i pins s σ H E I hf st hg
  subst hP hw hK
  obtain⟨kvs,ha,hn,hi⟩:=hg
  subst hn
  obtain⟨z,nm,vs,r,d⟩:=rW I.hok (.inl ha)
  have hl:kvs.length=vs.length:=r.length
  obtain⟨ok,ov,st⟩:=st
  rw[hl] at st
  exact wpAny_pyNext_items_end (I.ok.hd hc) st d (by simp; omega) fun h' eb=>⟨rfl,I.turnM (t':=s.toks) hf fun b o nb e=>eb b o (fun q=>nb (bL.mpr q)) e⟩
 self:=fun _ _ _ _ _ st h=>by
  obtain⟨ok,ov,st⟩:=st
  exact XU ⟨_,st,rfl⟩ h
section
variable {l:aT}
def Da (tl:TE):TI:=fun σ H R=>tl σ H fun x H1=>∃ a ep kvs,x = .ref a/\H1 a=some (.dK ep kvs)/\R (FV a ep kvs.length) H1
theorem Xg(hl:PE X l tl)(hbase:pK l "items" X.env (bY l X.env)=bY l X.env:=by rfl)(hline:(apos.endLine == pos.line)=true:=by rfl):PI X (.Tuple es cx tpos) (.Call (.Attribute l "items" apos) [] [] pos) (Da tl):=by
 intro pins s σ H R I h
 refine As (T:="dict") (id:="dict.items") hbase rfl hline F.plainAttrs_dict OA F.type_dict_items (thn (hl pins s σ H _ I h) fun v s1 gh=>?_)
 obtain⟨x,H1,I1,r1,q1⟩:=gh
 obtain⟨a,ep,kvs,rfl,ha,q⟩:=q1
 cases r1
 obtain⟨z,nm,vs,r,d⟩:=rW I1.hok (.inl ha)
 obtain⟨_,_,vs2,_,dd⟩:=uG I1.hok ha
 have hn:kvs.length=vs.length:=r.length
 refine⟨dd.typeIs,dd.mapOf.noDict,?_⟩
 show aM _ _ (callWith pos (.builtin "dict.items") [.ref a] [] []) _ _ _
 refine method_meetsIn OA F.entry_dict_items rfl (PySem.evalArgs_none ⟨rfl,dd.typeIs,F.args_dict_items_1 _,_,meets_dict_items _ a nm,⟨vs2,dd⟩,?_⟩)
 show aM _ _ (lR (.ref s1.heap.objs.size)) _ _ _
 have d2:(s1.heap.push { cls:=.type "dict_items",data:=.fields #[.ref a] }).DictAt (fC X.prog X.w) a vs ep:=by
  obtain⟨o,es,ho,rr⟩:=d
  exact⟨o,es,bW _ ho,rr⟩
 refine wpAny_pyIter_items (knd:=fC X.prog X.w) (d:=a) (kvs:=vs) (ep:=ep) ⟨_,dA _ rfl,rfl,rfl⟩ d2 ?_
 have all : ∀ b o,s1.heap.get? b=some o->((s1.heap.push { cls:=.type "dict_items",data:=.fields #[.ref a] }).push { cls:=.type "dict_itemiterator",data:=.fields #[.none,.bool false,.ref a,.int 0 0,.int vs.length 0,.int ep 0,.none,.none] }).get? b=some o:=fun b o e=>bW _ (bW _ e)
 refine⟨_,[_],_,_,H1,rfl,I1.kept (t':=s1.toks) all,Qt a _ ep kvs.length,⟨.none,.none,?_⟩,fun b hb=>?_,q⟩
 ·rw[hn]
  exact dA _ rfl
 ·rw[bL.mp hb]
  have le:s1.heap.objs.size≤(s1.heap.push { cls:=.type "dict_items",data:=.fields #[.ref a] }).objs.size:=by
   rw[xC]
   omega
  exact I1.fpOk le (I1.hok.fresh le)
def iDI (f:EF):AF:=fun ρ=>(f ρ).bind fun d=>match d with
 | .dict kds=>if (plK kds&&kds.all fun kd=>cR kd.1)=true then some (kds.map fun kd=>.tuple [kd.1,kd.2]) else none
 | _=>none
theorem Zf{kvs:List (aI×V)}(h:B a=some (.dK ep kvs))(r:Ab2 K B kds kvs)(hl:(kds.all fun kd=>cR kd.1)=true):ItD K B (FV a ep kvs.length) (kds.map fun kd=>.tuple [kd.1,kd.2]):=fun i H2 x2=>by
 have h2:=x2 _ _ h
 refine⟨fun d hd=>?_,fun e=>⟨kvs,h2,rfl,by rw[← e,cV,r.length]; exact bE _⟩⟩
 rw[dI] at hd
 obtain⟨kd,hk,rfl⟩:=nB.mp hd
 obtain⟨kv,g1,g2,g3⟩:=IZ r hk
 refine⟨⟨kvs,kv,h2,rfl,g1⟩,?_⟩
 rintro x H3 ⟨T,kv',fr,rfl,hx,rfl⟩
 have:kv'=kv:=eY ((hx kvs h2).symm.trans g1)
 subst this
 have ext:Ext H2 (upd H2 T (.tup [kV kv'.1,kv'.2])):=fun b u e=>by rw[dJ (jK e fr)]; exact e
 refine⟨ext,fun P2 hP2 xb=>?_⟩
 have nT : ¬ P2 T:=fun q=>by
  rcases hP2 T q with⟨o,e⟩ | ⟨o,e⟩ <;> rw[fr] at e <;> cases e
 have gT:hid (upd H2 T (.tup [kV kv'.1,kv'.2])) P2 T=some (.tup [kV kv'.1,kv'.2]):=gQ nT fJ
 have xx:Ext B (hid (upd H2 T (.tup [kV kv'.1,kv'.2])) P2):=xb.trans (dD ext)
 have lay:=fA.mp hl kd (fK hk)
 refine Aap.mpr ⟨T,_,rfl,gT,Aah.mpr ⟨_,_,rfl,?_,Aah.mpr ⟨_,_,rfl,g3.ext xx,Aan.mpr rfl⟩⟩⟩
 rw[g2]
 exact Aa (by rw[← g2]; exact lay)
theorem Vd(h:DE X l f)(hbase:pK l "items" X.env (bY l X.env)=bY l X.env:=by rfl)(hline:(apos.endLine == pos.line)=true:=by rfl):DI X (.Tuple es cx tpos) (.Call (.Attribute l "items" apos) [] [] pos) (iDI f):=PI.imp (Xg h hbase hline) fun σ H R gh=>by
 obtain⟨P,ρ,ds,hP,rs,ef,k⟩:=gh
 obtain⟨d,e1,ef⟩:=XBs ef
 cases d with
 | dict kds=>
  obtain⟨hl,rfl⟩:=cX ef
  refine⟨P,ρ,_,hP,rs,e1,dU fun v H1 x1 r1=>?_⟩
  obtain⟨pk,hl⟩:=iU.mp hl
  obtain⟨a,kvs,rfl,hq,rr⟩:=(oX pk).mp r1
  exact⟨a,kvs.1,kvs.2,rfl,Aau _ _ hq,k _ H1 x1 (Zf hq rr hl)⟩
 | _=>cases ef
end
open PySem PySem.W PyProof.Rows
def evT {α:Type}(lt:Nat->Nat->Bool):KasT α->α
 | .ret a=>a
 | .ask i j k=>evT lt (k (lt i j))
theorem uO {α β:Type}(lt:Nat->Nat->Bool)(f:α->KasT β) : ∀ t:KasT α,evT lt (t.bind f)=evT lt (f (evT lt t))
 | .ret _=>rfl
 | .ask i j k=>uO lt f (k (lt i j))
structure Ord (lt:Nat->Nat->Bool):Prop where
 asym : ∀ a b,lt a b=true->lt b a=false
 tr : ∀ a b c,lt b a=false->lt c b=false->lt c a=false
section
variable {lt:Nat->Nat->Bool}(O:Ord lt)
abbrev at' (p:Array Nat)(i:Nat):Nat:=p.getD i 0
def fY (lt:Nat->Nat->Bool)(p:Array Nat)(m:Nat):Prop:=∀ i j,i≤j->j<m->lt (at' p j) (at' p i)=false
def rN (lt:Nat->Nat->Bool)(p:Array Nat)(m:Nat):Prop:=∀ i j,i≤j->j<m->lt (at' p i) (at' p j)=false
include O
theorem Ord.refl (a:Nat):lt a a=false:=by
 cases h:lt a a with
 | false=>rfl
 | true=>exact absurd (O.asym a a h) (by rw[h]; decide)
theorem Nh(h1:1≤n)(h:fY lt p n)(hl:lt (at' p n) (at' p (n - 1))=false):fY lt p (n+1):=fun i j hij hj=>by
 by_cases c:j<n
 ·exact h i j hij c
 ·obtain rfl:j=n:=by omega
  by_cases d:i=j
  ·subst d; exact O.refl _
  ·exact O.tr _ _ _ (h i (j - 1) (by omega) (by omega)) hl
theorem yL(h1:1≤n)(h:rN lt p n)(hl:lt (at' p (n - 1)) (at' p n)=false):rN lt p (n+1):=fun i j hij hj=>by
 by_cases c:j<n
 ·exact h i j hij c
 ·obtain rfl:j=n:=by omega
  by_cases d:i=j
  ·subst d; exact O.refl _
  ·exact O.tr _ _ _ hl (h i (j - 1) (by omega) (by omega))
theorem Lj (p:Array Nat):fY lt p 1:=fun i j hij hj=>by
 obtain rfl:j=0:=by omega
 obtain rfl:i=0:=by omega
 exact O.refl _
theorem HL : ∀ (f n:Nat),1≤n->fY lt p n->n≤evT lt (kas_asc p f n)/\evT lt (kas_asc p f n)≤n+f/\fY lt p (evT lt (kas_asc p f n))/\(evT lt (kas_asc p f n)<n+f->lt (at' p (evT lt (kas_asc p f n))) (at' p (evT lt (kas_asc p f n) - 1))=true)
 | 0,n,h1,h=>⟨bE _,bE _,h,fun z=>absurd z (by show ¬ n<n+0; omega)⟩
 | f+1,n,h1,h=>by
  have e:evT lt (kas_asc p (f+1) n)=evT lt (if lt (at' p n) (at' p (n - 1))=true then KasT.ret n else kas_asc p f (n+1)):=rfl
  rw[e]
  by_cases c:lt (at' p n) (at' p (n - 1))=true
  ·rw[if_pos c]
   exact⟨bE _,by show n≤n+(f+1); omega,h,fun _=>c⟩
  ·rw[if_neg c]
   obtain⟨a1,a2,a3,a4⟩:=HL f (n+1) (by omega) (Nh O h1 h (by simpa using c))
   exact⟨by omega,by omega,a3,fun z=>a4 (by omega)⟩
theorem JX(h:fY lt p k) : ∀ (f l r:Nat),l≤r->r≤k->r - l≤f->(∀ i<l,lt (at' p k) (at' p i)=false)->(∀ i,r≤i->i<k->lt (at' p i) (at' p k)=false) ->
  evT lt (kas_place p k f l r)≤k/\(∀ i<evT lt (kas_place p k f l r),lt (at' p k) (at' p i)=false) /\ ∀ i,evT lt (kas_place p k f l r)≤i->i<k->lt (at' p i) (at' p k)=false
 | 0,l,r,h1,h2,h3,hl,hr=>by
  have e:evT lt (kas_place p k 0 l r)=l:=rfl
  obtain rfl:l=r:=by omega
  rw[e]
  exact⟨h2,hl,hr⟩
 | f+1,l,r,h1,h2,h3,hl,hr=>by
  unfold kas_place
  by_cases c:l ≥ r
  ·rw[if_pos c]
   obtain rfl:l=r:=by omega
   exact⟨h2,hl,hr⟩
  ·rw[if_neg c]
   show evT lt (if lt (at' p k) (at' p ((l+r) / 2))=true then kas_place p k f l ((l+r) / 2) else kas_place p k f ((l+r) / 2+1) r)≤k/\_
   by_cases d:lt (at' p k) (at' p ((l+r) / 2))=true
   ·have e:evT lt (KasT.ask (p.getD k 0) (p.getD ((l+r) / 2) 0) fun c=>if c=true then kas_place p k f l ((l+r) / 2) else kas_place p k f ((l+r) / 2+1) r)=evT lt (kas_place p k f l ((l+r) / 2)):=by
     show evT lt (if lt (at' p k) (at' p ((l+r) / 2))=true then _ else _)=_
     rw[if_pos d]
    rw[e,if_pos d]
    exact JX h f l ((l+r) / 2) (by omega) (by omega) (by omega) hl fun i a b=>O.tr _ _ _ (O.asym _ _ d) (h _ i a b)
   ·have d':lt (at' p k) (at' p ((l+r) / 2))=false:=by simpa using d
    have e:evT lt (KasT.ask (p.getD k 0) (p.getD ((l+r) / 2) 0) fun c=>if c=true then kas_place p k f l ((l+r) / 2) else kas_place p k f ((l+r) / 2+1) r)=evT lt (kas_place p k f ((l+r) / 2+1) r):=by
     show evT lt (if lt (at' p k) (at' p ((l+r) / 2))=true then _ else _)=_
     rw[if_neg d]
    rw[e,if_neg d]
    refine JX h f ((l+r) / 2+1) r (by omega) h2 (by omega) (fun i hi=>?_) hr
    exact O.tr _ _ _ (h i ((l+r) / 2) (by omega) (by omega)) d'
end
theorem at_of(i:Nat):at' p i=(p[i]?).getD 0:=Array.getD_eq_getD_getElem?
theorem QR{l:Nat}(hk:k<p.size)(hl:l≤k)(i:Nat):at' (bubble p k (k - l)) i=if i=l then at' p k else if l<i/\i≤k then at' p (i - 1) else at' p i:=by
 have e:k - (k - l)=l:=by omega
 have q:=getElem?_bubble hk (k - l) (by omega) i
 rw[e] at q
 simp only[at_of,q]
 split
 ·rfl
 ·split <;> rfl
theorem lK{j:Nat}(hj:j≤p.size)(k:Nat):at' (kas_rev p i j) k=if i≤k/\k<j then at' p (i+j - 1 - k) else at' p k:=by
 have q:=getElem?_mirror_all (i:=i) hj k
 simp only[at_of]
 unfold kas_rev
 rw[q]
 split <;> rfl
theorem IQ (p:Array Nat)(i j:Nat):(kas_rev p i j).size=p.size:=mirror_size _ _ _ _
theorem qM (p:Array Nat)(i j:Nat):(kas_rev p i j).Perm p:=mirror_perm _ _ _ _
section
variable {lt:Nat->Nat->Bool}(O:Ord lt)
include O
theorem RO : ∀ (f:Nat) (p:Array Nat) (k:Nat),fY lt p k->k+f≤p.size->(evT lt (kas_bin f p k)).Perm p/\fY lt (evT lt (kas_bin f p k)) (k+f)
 | 0,p,k,h,_=>⟨FR _,h⟩
 | f+1,p,k,h,hz=>by
  have e:evT lt (kas_bin (f+1) p k)=evT lt (kas_bin f (bubble p k (k - evT lt (kas_place p k k 0 k))) (k+1)):=by
   show evT lt ((kas_place p k k 0 k).bind fun l=>kas_bin f (bubble p k (k - l)) (k+1))=_
   rw[uO]
  obtain⟨h1,h2,h3⟩:=JX O h k 0 k (eR _) (bE _) (by omega) (fun i hi=>absurd hi (by omega)) (fun i a b=>absurd b (by omega))
  rw[e]
  generalize evT lt (kas_place p k k 0 k)=l at h1 h2 h3
  have hk:k<p.size:=by omega
  have A':fY lt (bubble p k (k - l)) (k+1):=fun i j hij hj=>by
   rw[QR hk h1,QR hk h1]
   by_cases ci:i=l
   ·rw[if_pos ci]
    by_cases cj:j=l
    ·rw[if_pos cj]; exact O.refl _
    ·rw[if_neg cj,if_pos ⟨by omega,by omega⟩]
     exact h3 (j - 1) (by omega) (by omega)
   ·rw[if_neg ci]
    by_cases cj:j=l
    ·rw[if_pos cj,if_neg (by omega)]
     exact h2 i (by omega)
    ·rw[if_neg cj]
     by_cases di:l<i/\i≤k
     ·rw[if_pos di,if_pos ⟨by omega,by omega⟩]
      exact h (i - 1) (j - 1) (by omega) (by omega)
     ·rw[if_neg di]
      by_cases dj:l<j/\j≤k
      ·rw[if_pos dj]
       exact h i (j - 1) (by omega) (by omega)
      ·rw[if_neg dj]
       exact h i j hij (by omega)
  obtain⟨a1,a2⟩:=RO f (bubble p k (k - l)) (k+1) A' (by rw[bubble_size]; omega)
  exact⟨a1.trans (bubble_perm _ _ _),by rw[show k+(f+1)=k+1+f by omega]; exact a2⟩
structure Fall (lt:Nat->Nat->Bool)(p:Array Nat)(n q:Nat):Prop where
 pos:q+1≤n
 dsc:rN lt p n
 eq : ∀ i j,n - (q+1)≤i->i<n->n - (q+1)≤j->j<n->lt (at' p i) (at' p j)=false
theorem Fall.rev{q:Nat}(F:Fall lt p n q)(hz:n≤p.size):Fall lt (kas_rev p (n - (q+1)) n) n q:=by
 have hp:=F.pos
 refine⟨hp,fun i j hij hj=>?_,fun i j a b c d=>?_⟩
 ·rw[lK hz,lK hz]
  by_cases ci:n - (q+1)≤i/\i<n
  ·rw[if_pos ci,if_pos ⟨by omega,hj⟩]
   exact F.eq _ _ (by omega) (by omega) (by omega) (by omega)
  ·rw[if_neg ci]
   by_cases cj:n - (q+1)≤j/\j<n
   ·rw[if_pos cj]
    exact F.dsc _ _ (by omega) (by omega)
   ·rw[if_neg cj]
    exact F.dsc i j hij hj
 ·rw[lK hz,lK hz,if_pos ⟨a,b⟩,if_pos ⟨c,d⟩]
  exact F.eq _ _ (by omega) (by omega) (by omega) (by omega)
theorem DJ : ∀ (f:Nat) (p:Array Nat) (n q:Nat),Fall lt p n q->n+f≤p.size->(evT lt (kas_desc f p n q)).1.Perm p/\n≤(evT lt (kas_desc f p n q)).2.1/\(evT lt (kas_desc f p n q)).2.1≤n+f/\Fall lt (evT lt (kas_desc f p n q)).1 (evT lt (kas_desc f p n q)).2.1 (evT lt (kas_desc f p n q)).2.2
 | 0,p,n,q,F,_=>⟨FR _,bE _,bE _,F⟩
 | f+1,p,n,q,F,hz=>by
  have hp:=F.pos
  have e:evT lt (kas_desc (f+1) p n q)=evT lt (if lt (at' p n) (at' p (n - 1))=true then(if q > 0 then kas_desc f (kas_rev p (n - (q+1)) n) (n+1) 0 else kas_desc f p (n+1) 0) else KasT.ask (p.getD (n - 1) 0) (p.getD n 0) fun d=>if d=true then .ret (p,n,q) else kas_desc f p (n+1) (q+1)):=rfl
  rw[e]
  by_cases c:lt (at' p n) (at' p (n - 1))=true
  ·rw[if_pos c]
   by_cases hq:q > 0
   ·rw[if_pos hq]
    have F':=F.rev O (by omega)
    have hn:at' (kas_rev p (n - (q+1)) n) n=at' p n:=by rw[lK (by omega),if_neg (by omega)]
    have F2:Fall lt (kas_rev p (n - (q+1)) n) (n+1) 0:=by
     refine⟨by omega,yL O (by omega) F'.dsc ?_,fun i j a b c' d=>?_⟩
     ·rw[hn,lK (by omega),if_pos ⟨by omega,by omega⟩]
      exact O.tr _ _ _ (O.asym _ _ c) (F.eq _ _ (by omega) (by omega) (by omega) (by omega))
     ·obtain rfl:i=n:=by omega
      obtain rfl:j=i:=by omega
      exact O.refl _
    obtain⟨a1,a2,a3,a4⟩:=DJ f _ (n+1) 0 F2 (by rw[IQ]; omega)
    exact⟨a1.trans (qM _ _ _),by omega,by omega,a4⟩
   ·rw[if_neg hq]
    have F2:Fall lt p (n+1) 0:=by
     refine⟨by omega,yL O (by omega) F.dsc (O.asym _ _ c),fun i j a b c' d=>?_⟩
     obtain rfl:i=n:=by omega
     obtain rfl:j=i:=by omega
     exact O.refl _
    obtain⟨a1,a2,a3,a4⟩:=DJ f _ (n+1) 0 F2 (by omega)
    exact⟨a1,by omega,by omega,a4⟩
  ·rw[if_neg c]
   have c':lt (at' p n) (at' p (n - 1))=false:=by simpa using c
   have e2:evT lt (KasT.ask (p.getD (n - 1) 0) (p.getD n 0) fun d=>if d=true then .ret (p,n,q) else kas_desc f p (n+1) (q+1))=evT lt (if lt (at' p (n - 1)) (at' p n)=true then .ret (p,n,q) else kas_desc f p (n+1) (q+1)):=rfl
   rw[e2]
   by_cases d:lt (at' p (n - 1)) (at' p n)=true
   ·rw[if_pos d]
    exact⟨FR _,bE _,by show n≤n+(f+1); omega,F⟩
   ·rw[if_neg d]
    have d':lt (at' p (n - 1)) (at' p n)=false:=by simpa using d
    have F2:Fall lt p (n+1) (q+1):=by
     refine⟨by omega,yL O (by omega) F.dsc d',fun i j a b a' b'=>?_⟩
     by_cases ci:i=n
     ·by_cases cj:j=n
      ·rw[ci,cj]; exact O.refl _
      ·rw[ci]
       exact O.tr _ _ _ (F.eq (n - 1) j (by omega) (by omega) (by omega) (by omega)) c'
     ·by_cases cj:j=n
      ·rw[cj]
       exact O.tr _ _ _ d' (F.eq i (n - 1) (by omega) (by omega) (by omega) (by omega))
      ·exact F.eq i j (by omega) (by omega) (by omega) (by omega)
    obtain⟨a1,a2,a3,a4⟩:=DJ f _ (n+1) (q+1) F2 (by omega)
    exact⟨a1,by omega,by omega,a4⟩
end
section
variable {lt:Nat->Nat->Bool}(O:Ord lt)
include O
theorem Mh(h:rN lt p n)(hz:n≤p.size):fY lt (kas_rev p 0 n) n:=fun i j hij hj=>by
 rw[lK hz,lK hz,if_pos ⟨eR _,hj⟩,if_pos ⟨eR _,by omega⟩]
 exact h _ _ (by omega) (by omega)
theorem SC(h1:1≤n)(hn:n≤m)(hz:m≤p.size)(h:rN lt p n):(evT lt (kas_tail3 n m p)).2.Perm p/\(evT lt (kas_tail3 n m p)).1≤m/\1≤(evT lt (kas_tail3 n m p)).1/\fY lt (evT lt (kas_tail3 n m p)).2 (evT lt (kas_tail3 n m p)).1:=by
 unfold kas_tail3
 rw[uO]
 obtain⟨a1,a2,a3,_⟩:=HL O (m - n) n h1 (Mh O h (by omega))
 exact⟨qM _ _ _,by show evT lt (kas_asc (kas_rev p 0 n) (m - n) n)≤m; omega,by show 1≤evT lt (kas_asc (kas_rev p 0 n) (m - n) n); omega,a3⟩
theorem SM(h1:1≤n)(hn:n+1≤m)(hz:m≤p.size)(h:rN lt p (n+1)):(evT lt (kas_descPart n m p)).2.Perm p/\(evT lt (kas_descPart n m p)).1≤m/\1≤(evT lt (kas_descPart n m p)).1/\fY lt (evT lt (kas_descPart n m p)).2 (evT lt (kas_descPart n m p)).1:=by
 have F0:Fall lt p (n+1) 0:=⟨by omega,h,fun i j a b c d=>by
  obtain rfl:i=n:=by omega
  obtain rfl:j=i:=by omega
  exact O.refl _⟩
 obtain⟨a1,a2,a3,a4⟩:=DJ O (m - (n+1)) p (n+1) 0 F0 (by omega)
 unfold kas_descPart
 rw[uO]
 generalize evT lt (kas_desc (m - (n+1)) p (n+1) 0)=r at a1 a2 a3 a4
 have hs:r.1.size=p.size:=a1.size_eq
 split
 ·have F':=a4.rev O (by omega)
  obtain⟨b1,b2,b3,b4⟩:=SC O (by omega) (by omega) (by rw[IQ]; omega) F'.dsc (m:=m)
  exact⟨b1.trans ((qM _ _ _).trans a1),b2,b3,b4⟩
 ·obtain⟨b1,b2,b3,b4⟩:=SC O (by omega) (by omega) (by omega) a4.dsc (m:=m)
  exact⟨b1.trans a1,b2,b3,b4⟩
theorem VA(h1:1≤m)(hz:m≤p.size):(evT lt (kas_count m p)).2.Perm p/\(evT lt (kas_count m p)).1≤m/\1≤(evT lt (kas_count m p)).1/\fY lt (evT lt (kas_count m p)).2 (evT lt (kas_count m p)).1:=by
 obtain⟨a1,a2,a3,a4⟩:=HL O (m - 1) 1 (bE _) (Lj O p)
 unfold kas_count
 rw[uO]
 generalize evT lt (kas_asc p (m - 1) 1)=n at a1 a2 a3 a4
 by_cases c:(n == m)=true
 ·rw[if_pos c]
  exact⟨FR _,by show n≤m; omega,a1,a3⟩
 ·rw[if_neg c]
  have hnm:n≠m:=by simpa using c
  have hl:=a4 (by omega)
  by_cases d:n > 1
  ·rw[if_pos d]
   show(evT lt (if lt (at' p 0) (at' p (n - 1))=true then KasT.ret (n,p) else kas_descPart n m (kas_rev p 0 n))).2.Perm p/\(evT lt (if lt (at' p 0) (at' p (n - 1))=true then KasT.ret (n,p) else kas_descPart n m (kas_rev p 0 n))).1≤m/\1≤(evT lt (if lt (at' p 0) (at' p (n - 1))=true then KasT.ret (n,p) else kas_descPart n m (kas_rev p 0 n))).1/\fY lt (evT lt (if lt (at' p 0) (at' p (n - 1))=true then KasT.ret (n,p) else kas_descPart n m (kas_rev p 0 n))).2 (evT lt (if lt (at' p 0) (at' p (n - 1))=true then KasT.ret (n,p) else kas_descPart n m (kas_rev p 0 n))).1
   by_cases e:lt (at' p 0) (at' p (n - 1))=true
   ·rw[if_pos e]
    exact⟨FR _,by show n≤m; omega,a1,a3⟩
   ·rw[if_neg e]
    have e':lt (at' p 0) (at' p (n - 1))=false:=by simpa using e
    have same : ∀ i j,i<n->j<n->lt (at' p i) (at' p j)=false:=fun i j hi hj=>
     O.tr _ (at' p 0) _ (O.tr _ _ _ (a3 j (n - 1) (by omega) (by omega)) e') (a3 0 i (eR _) hi)
    have D:rN lt (kas_rev p 0 n) (n+1):=by
     refine yL O a1 (fun i j hij hj=>?_) ?_
     ·rw[lK (by omega),lK (by omega),if_pos ⟨eR _,by omega⟩,if_pos ⟨eR _,hj⟩]
      exact same _ _ (by omega) (by omega)
     ·rw[lK (by omega),lK (by omega),if_pos ⟨eR _,by omega⟩,if_neg (by omega)]
      exact O.tr _ _ _ (O.asym _ _ hl) (same _ _ (by omega) (by omega))
    obtain⟨b1,b2,b3,b4⟩:=SM O a1 (by omega) (by rw[IQ]; exact hz) D (m:=m)
    exact⟨b1.trans (qM _ _ _),b2,b3,b4⟩
  ·rw[if_neg d]
   obtain rfl:n=1:=by omega
   exact SM O (bE _) (by omega) hz (yL O (bE _) (fun i j hij hj=>by
    obtain rfl:j=0:=by omega
    obtain rfl:i=0:=by omega
    exact O.refl _) (O.asym _ _ hl))
theorem RW(h1:1≤n):(evT lt (kas_sort n)).Perm (gL (bR n))/\fY lt (evT lt (kas_sort n)) n:=by
 have hs:(gL (bR n)).size=n:=by simp
 obtain⟨a1,a2,a3,a4⟩:=VA O h1 (by rw[hs]; exact bE _) (p:=gL (bR n))
 unfold kas_sort
 rw[uO]
 generalize evT lt (kas_count n (gL (bR n)))=r at a1 a2 a3 a4
 have hz:r.2.size=n:=a1.size_eq.trans hs
 split
 ·have em:max r.1 1=r.1:=by omega
  rw[em]
  obtain⟨b1,b2⟩:=RO O (n - r.1) r.2 r.1 a4 (by omega)
  exact⟨b1.trans a1,by rw[show r.1+(n - r.1)=n by omega] at b2; exact b2⟩
 ·have:r.1=n:=by omega
  exact⟨a1,by rw[this] at a4; exact a4⟩
end
def gM {α:Type}(lt:Nat->Nat->Bool)(N:Nat):KasT α->Prop
 | .ret _=>True
 | .ask i j k=>(i<N/\j<N)/\gM lt N (k (lt i j))
theorem uQ {α β:Type}{lt:Nat->Nat->Bool}{N:Nat}{f:α->KasT β} : ∀ {t:KasT α},gM lt N t->gM lt N (f (evT lt t))->gM lt N (t.bind f)
 | .ret _,_,h=>h
 | .ask i j k,h,h2=>⟨h.1,uQ (t:=k (lt i j)) h.2 h2⟩
theorem QE {α:Type}{lt:Nat->Nat->Bool}{N:Nat}{cmp:Nat->Nat->(Bool->aJ->Prop)->aJ->Prop}{s:aJ}(hc : ∀ i j (C:Bool->aJ->Prop),i<N->j<N->C (lt i j) s->cmp i j C s){Q:α->aJ->Prop} : ∀ {t:KasT α},gM lt N t->Q (evT lt t) s->t.kasWp cmp Q s
 | .ret _,_,h=>h
 | .ask i j k,h,q=>hc i j _ h.1.1 h.1.2 (QE hc (t:=k (lt i j)) h.2 q)
abbrev El (N:Nat)(p:Array Nat):Prop:=∀ x∈p,x<N
theorem El.at(h:El N p)(h0:0<N)(i:Nat):at' p i<N:=by
 rw[at_of]
 cases e:p[i]? with
 | none=>exact h0
 | some v=>exact h v (Array.mem_of_getElem? e)
theorem El.perm{q:Array Nat}(h:El N p)(x:q.Perm p):El N q:=fun v m=>h v (x.mem_iff.mp m)
section
variable {lt:Nat->Nat->Bool}(h0:0<N)
include h0
theorem GZ(h:El N p) : ∀ f n,gM lt N (kas_asc p f n)
 | 0,_=>trivial
 | f+1,n=>by
  refine⟨⟨h.at h0 _,h.at h0 _⟩,?_⟩
  show gM lt N (if lt (at' p n) (at' p (n - 1))=true then KasT.ret n else kas_asc p f (n+1))
  by_cases c:lt (at' p n) (at' p (n - 1))=true
  ·rw[if_pos c]; trivial
  ·rw[if_neg c]; exact GZ h f (n+1)
theorem IS(h:El N p) : ∀ f l r,gM lt N (kas_place p k f l r)
 | 0,_,_=>trivial
 | f+1,l,r=>by
  unfold kas_place
  by_cases c:l ≥ r
  ·rw[if_pos c]; trivial
  ·rw[if_neg c]
   refine⟨⟨h.at h0 _,h.at h0 _⟩,?_⟩
   show gM lt N (if lt (at' p k) (at' p ((l+r) / 2))=true then kas_place p k f l ((l+r) / 2) else kas_place p k f ((l+r) / 2+1) r)
   by_cases d:lt (at' p k) (at' p ((l+r) / 2))=true
   ·rw[if_pos d]; exact IS h f _ _
   ·rw[if_neg d]; exact IS h f _ _
theorem YK : ∀ (f:Nat) (p:Array Nat) (k:Nat),El N p->gM lt N (kas_bin f p k)
 | 0,_,_,_=>trivial
 | f+1,p,k,h=>uQ (IS h0 h k 0 k) (YK f _ _ (h.perm (bubble_perm _ _ _)))
theorem CI : ∀ (f:Nat) (p:Array Nat) (n q:Nat),El N p->gM lt N (kas_desc f p n q)/\El N (evT lt (kas_desc f p n q)).1
 | 0,_,_,_,h=>⟨trivial,h⟩
 | f+1,p,n,q,h=>by
  have e:evT lt (kas_desc (f+1) p n q)=evT lt (if lt (at' p n) (at' p (n - 1))=true then(if q > 0 then kas_desc f (kas_rev p (n - (q+1)) n) (n+1) 0 else kas_desc f p (n+1) 0) else KasT.ask (p.getD (n - 1) 0) (p.getD n 0) fun d=>if d=true then .ret (p,n,q) else kas_desc f p (n+1) (q+1)):=rfl
  have g:gM lt N (kas_desc (f+1) p n q)↔(at' p n<N/\at' p (n - 1)<N)/\gM lt N (if lt (at' p n) (at' p (n - 1))=true then(if q > 0 then kas_desc f (kas_rev p (n - (q+1)) n) (n+1) 0 else kas_desc f p (n+1) 0) else KasT.ask (p.getD (n - 1) 0) (p.getD n 0) fun d=>if d=true then .ret (p,n,q) else kas_desc f p (n+1) (q+1)):=Iff.rfl
  rw[g,e]
  by_cases c:lt (at' p n) (at' p (n - 1))=true
  ·rw[if_pos c]
   by_cases hq:q > 0
   ·rw[if_pos hq]
    obtain⟨a,b⟩:=CI f _ (n+1) 0 (h.perm (qM p (n - (q+1)) n))
    exact⟨⟨⟨h.at h0 _,h.at h0 _⟩,a⟩,b⟩
   ·rw[if_neg hq]
    obtain⟨a,b⟩:=CI f _ (n+1) 0 h
    exact⟨⟨⟨h.at h0 _,h.at h0 _⟩,a⟩,b⟩
  ·rw[if_neg c]
   have e2:evT lt (KasT.ask (p.getD (n - 1) 0) (p.getD n 0) fun d=>if d=true then .ret (p,n,q) else kas_desc f p (n+1) (q+1))=evT lt (if lt (at' p (n - 1)) (at' p n)=true then .ret (p,n,q) else kas_desc f p (n+1) (q+1)):=rfl
   have g2:gM lt N (KasT.ask (p.getD (n - 1) 0) (p.getD n 0) fun d=>if d=true then .ret (p,n,q) else kas_desc f p (n+1) (q+1))↔(at' p (n - 1)<N/\at' p n<N)/\gM lt N (if lt (at' p (n - 1)) (at' p n)=true then .ret (p,n,q) else kas_desc f p (n+1) (q+1)):=Iff.rfl
   rw[g2,e2]
   by_cases d:lt (at' p (n - 1)) (at' p n)=true
   ·rw[if_pos d]
    exact⟨⟨⟨h.at h0 _,h.at h0 _⟩,⟨h.at h0 _,h.at h0 _⟩,trivial⟩,h⟩
   ·rw[if_neg d]
    obtain⟨a,b⟩:=CI f _ (n+1) (q+1) h
    exact⟨⟨⟨h.at h0 _,h.at h0 _⟩,⟨h.at h0 _,h.at h0 _⟩,a⟩,b⟩
theorem ZF(n m:Nat)(h:El N p):gM lt N (kas_tail3 n m p):=uQ (GZ h0 (h.perm (qM _ _ _)) _ _) trivial
theorem ZN(n m:Nat)(h:El N p):gM lt N (kas_descPart n m p):=by
 obtain⟨a,b⟩:=CI h0 (lt:=lt) (m - (n+1)) p (n+1) 0 h
 refine uQ a ?_
 split
 ·exact ZF h0 _ _ (b.perm (qM _ _ _))
 ·exact ZF h0 _ _ b
theorem Wy(m:Nat)(h:El N p):gM lt N (kas_count m p):=by
 refine uQ (GZ h0 h _ _) ?_
 generalize evT lt (kas_asc p (m - 1) 1)=n
 by_cases c:(n == m)=true
 ·rw[if_pos c]; trivial
 ·rw[if_neg c]
  by_cases d:n > 1
  ·rw[if_pos d]
   refine⟨⟨h.at h0 _,h.at h0 _⟩,?_⟩
   show gM lt N (if lt (at' p 0) (at' p (n - 1))=true then KasT.ret (n,p) else kas_descPart n m (kas_rev p 0 n))
   by_cases e:lt (at' p 0) (at' p (n - 1))=true
   ·rw[if_pos e]; trivial
   ·rw[if_neg e]; exact ZN h0 _ _ (h.perm (qM _ _ _))
  ·rw[if_neg d]; exact ZN h0 _ _ h
end
theorem Np {lt:Nat->Nat->Bool}(O:Ord lt)(h1:1≤n):gM lt n (kas_sort n):=by
 have hs:(gL (bR n)).size=n:=by simp
 have h:El n (gL (bR n)):=fun x m=>by simpa using m
 refine uQ (Wy (by omega) n h) ?_
 obtain⟨a1,_⟩:=VA O h1 (by rw[hs]; exact bE _) (p:=gL (bR n))
 generalize evT lt (kas_count n (gL (bR n)))=r at a1
 split
 ·exact YK (by omega) _ _ _ (h.perm a1)
 ·trivial
theorem Of {lt:Nat->Nat->Bool}(O:Ord lt)(h1:1≤n){cmp:Nat->Nat->(Bool->aJ->Prop)->aJ->Prop}(hc : ∀ i j (C:Bool->aJ->Prop),i<n->j<n->C (lt i j) s->cmp i j C s){G:Array Nat->aJ->Prop}
  (h : ∀ p:Array Nat,p.Perm (gL (bR n))->fY lt p n->G p s):(kas_sort n).kasWp cmp G s:=
 QE hc (Np O h1) (h _ (RW O h1).1 (RW O h1).2)
abbrev Cu (a:aD)(h h':aZ):Prop:=∀ b o,b≠a->h.get? b=some o->h'.get? b=some o
abbrev kT (h:aZ)(a:aD)(vs:List aE):aZ:=((h.update a (gK fun _=>#[])).push (gJ "tuple" vs.toArray 0)).push (gJ "list" #[] 0)
theorem Le:Cu a h (kT h a vs):=fun b o hb e=>
 bW _ (bW _ (((xD h a (gK fun _=>(#[]:Array aE))).2 b hb).trans e))
theorem La{κ:SortKind}{lt:Nat->Nat->Bool}{P:PySem.Fin->aJ->Prop}(O:Ord lt)(ho:s.heap.get? a=some (gJ "list" vs.toArray n))(h2:2≤vs.length)(h64:vs.length<64)
  (hk : ∀ (Q:SortKind->aJ->Prop),Q κ { s with heap:=kT s.heap a vs }->aM (aU prog w) A (keyKind' vs.toArray) Q E { s with heap:=kT s.heap a vs })
  (hc : ∀ i j (C:Bool->aJ->Prop),i<vs.length->j<vs.length->C (lt i j) { s with heap:=kT s.heap a vs }->aM (aU prog w) A (keyLt' κ (vs.getD i dP) (vs.getD j dP)) C (fun _ _=>False) { s with heap:=kT s.heap a vs })
  (h : ∀ p:Array Nat,p.Perm (gL (bR vs.length))->fY lt p vs.length->P (.done (.ret .none)) { s with heap:=sortedHeap s.heap a vs (gL (p.toList.map fun i=>vs.getD i dP)) }) :
  aM (aU prog w) A (Builtin.«list.sort» ⟨[.ref a],[]⟩) P E s:=by
 have lz:vs.length≤sizeLine:=by rw[wH]; omega
 have ha:a<s.heap.objs.size:=cA ho
 obtain⟨e1,ho1⟩ : ∃ e,(s.heap.update a (gK fun _=>(#[]:Array aE))).get? a=some (gJ "list" #[] e):=⟨_,get?_update_seq ho fun _=>#[]⟩
 have hoM:(kT s.heap a vs).get? a=some (gJ "list" #[] e1):=bW _ (bW _ ho1)
 rw[list_sort_plain]
 refine aF (listItems_at ho rfl (aF (listUpdate_at ho rfl (aF (seqEpoch_at ho1 rfl (aF (MK (aF (ML (jV ?_) (eR _))) (by simpa using lz))))) (by rw[dX]; exact lz) (eR _))))
 show aM (aU prog w) A _ P E { s with heap:=kT s.heap a vs }
 dsimp only
 have big : ¬ vs.toArray.size<2:=by rw[dX]; omega
 rw[if_neg big,if_neg big]
 refine aF (hk _ ?_)
 have eS:SortSt.mk' κ (vs.toArray.zip vs.toArray) #[] 7 none=kas_st κ (pairsOf vs) (gL (bR vs.length)):=by
  have e:=kas_range (pairsOf vs)
  rw[pairsOf_size] at e
  unfold kas_st
  rw[e]
  rfl
 have run:=kas_runs (prog:=prog) (w:=w) (A:=A) (κ:=κ) (it:=pairsOf vs) (E:=E) (s:={ s with heap:=kT s.heap a vs }) (Q:=fun _ st' s'=>s' = { s with heap:=kT s.heap a vs } /\ ∃ p:Array Nat,p.Perm (gL (bR vs.length))/\fY lt p vs.length/\arrOf st'=p.map (kas_item (pairsOf vs))/\failedOf st'=none)
  (G:=fun p s'=>s' = { s with heap:=kT s.heap a vs }/\p.Perm (gL (bR vs.length))/\fY lt p vs.length) h2 h64 (fun p' st' s' a1 a2 a3 ⟨b1,b2,b3⟩=>⟨b1,p',b2,b3,a2,a3⟩)
  (Of O (by omega) (fun i j C hi hj q=>by
   unfold kas_cmp
   rw[kas_item_eq,kas_item_eq]
   exact hc i j C hi hj q) fun p b1 b2=>⟨rfl,b1,b2⟩)
 rw[← eS] at run
 refine aF (kZ run ?_ fun _ _ e=>e)
 rintro⟨⟨⟩,st'⟩ s' ⟨rfl,p,b1,b2,har,hf⟩
 dsimp only
 have hout:(arrOf st').map (·.2)=gL (p.toList.map fun i=>vs.getD i dP):=by
  apply Cs.mp
  rw[har,Array.map_map,Array.toList_map]
  exact oF fun i _=>congrArg Prod.snd (kas_item_eq vs i)
 have hps:p.size=vs.length:=by
  have:=b1.size_eq
  simpa using this
 have hsz:(gL (p.toList.map fun i=>vs.getD i dP)).size≤sizeLine:=by
  rw[dX,cV,BK,hps]; exact lz
 rw[hout]
 refine aF (seqEpoch_at hoM rfl (aF (listUpdate_at hoM rfl ?_ (eR _) (Nat.le_succ_of_le hsz))))
 rw[hf]
 simp only[bne_self_eq_false,rL,if_false]
 exact aP (h p b1 b2)
theorem Pb{κ:SortKind}{lt:Nat->Nat->Bool}(O:Ord lt)(hl:s.heap.IsList l vs.toArray)(h2:2≤vs.length)(h64:vs.length<64)
  (hk : ∀ h',(∀ b o,s.heap.get? b=some o->h'.get? b=some o) -> ∀ (A':cM) (E':aE->aJ->Prop) (R:SortKind->aJ->Prop),R κ { s with heap:=h' }->aM (aU prog w) A' (keyKind' vs.toArray) R E' { s with heap:=h' })
  (hc : ∀ h',(∀ b o,s.heap.get? b=some o->h'.get? b=some o) -> ∀ (A':cM),A'.units≤A.units+4 -> ∀ i j (C:Bool->aJ->Prop),i<vs.length->j<vs.length->C (lt i j) { s with heap:=h' }->aM (aU prog w) A' (keyLt' κ (vs.getD i dP) (vs.getD j dP)) C (fun _ _=>False) { s with heap:=h' })
  (h : ∀ p:Array Nat,p.Perm (gL (bR vs.length))->fY lt p vs.length->Q (.ref (s.heap.objs.size+1)) { s with heap:=sortedAll s.heap vs (gL (p.toList.map fun i=>vs.getD i dP)) }) :
  aM (aU prog w) A (call (.builtin "sorted") [.ref l]) Q E s:=by
 refine Calls.call_function_entry kind_sorted plain_sorted entry_sorted (args_sorted1 _) ?_
 unfold Builtin.«sorted»
 refine aF (m:=checkCount "sorted" 1 1 _) (aP (aF (collect_list hl (aF (ML ?_)))))
 have z:((s.heap.push (gJ "list" #[] 0)).update s.heap.objs.size (gK (· ++ vs.toArray))).objs.size=s.heap.objs.size+1:=by rw[Heap.size_update,size_push']
 have hoL:(((s.heap.push (gJ "list" #[] 0)).update s.heap.objs.size (gK (· ++ vs.toArray))).push (gJ "list" vs.toArray 0)).get? (s.heap.objs.size+1)=some (gJ "list" vs.toArray 0):=z ▸ dA _ rfl
 have kept : ∀ b o,s.heap.get? b=some o->(kT (((s.heap.push (gJ "list" #[] 0)).update s.heap.objs.size (gK (· ++ vs.toArray))).push (gJ "list" vs.toArray 0)) (s.heap.objs.size+1) vs).get? b=some o:=fun b o e=>by
  have hb:=cA e
  refine Le b o (fun q=>?_) (bW _ (((xD _ s.heap.objs.size _).2 b (fun q=>?_)).trans (bW _ e)))
  ·exact absurd hb (by rw[q]; exact Nat.not_lt.mpr (wU _))
  ·exact absurd hb (by rw[q]; exact kI _)
 show aM _ _ _ _ _ { s with heap:=((s.heap.push (gJ "list" #[] 0)).update s.heap.objs.size (gK (· ++ vs.toArray))).push (gJ "list" vs.toArray 0) }
 rw[z]
 refine aF (jV (iN slot_list_sort ⟨_,hoL,rfl⟩ entry_list_sort (La (s:={ s with heap:=_ }) O hoL h2 h64 (fun R q=>hk _ kept _ _ R q) (fun i j C hi hj q=>hc _ kept _ ?_ i j C hi hj q) fun p b1 b2=>⟨_,rfl,?_⟩) (args_list_sort _)))
 ·first | (show A.units+1≤A.units+4; omega) | (show A.units+1+1≤A.units+4; omega) | (show A.units+1+1+1≤A.units+4; omega)
 ·exact aP ⟨_,rfl,h p b1 b2⟩
def gP:aA->List Int
 | .int i=>[0,i]
 | .str x=>1::x.cps.toList.map oH
 | _=>[2]
def cW (ks:List aA):List (List Int):=ks.map gP
theorem VR (a b:List (List Int))(h:a<b) : ¬ b<a:=List.lt_asymm h
theorem UU (a b c:List (List Int))(h1 : ¬ b<a)(h2 : ¬ c<b) : ¬ c<a:=by
 have h1:a≤b:=h1
 have h2:b≤c:=h2
 exact List.le_trans h1 h2
theorem IW {e:aA}(h1:(∃ i,d = .int i) \/ ∃ x,d = .str x)(h2:(∃ i,e = .int i) \/ ∃ x,e = .str x)(h:gP d=gP e):d=e:=by
 rcases h1 with⟨i,rfl⟩ | ⟨x,rfl⟩ <;> rcases h2 with⟨j,rfl⟩ | ⟨y,rfl⟩
 ·simp[gP] at h; rw[h]
 ·simp[gP] at h
 ·simp[gP] at h
 ·have h':x.cps.toList.map oH=y.cps.toList.map oH:=by simpa [gP] using h
  have:x.cps.toList=y.cps.toList:=(List.map_inj_right (fun a b q=>Int.ofNat.inj q)).mp h'
  have:x=y:=by
   cases x; cases y
   simp only at this
   rw[Cs.mp this]
  rw[this]
def OY (kss:List (List aA))(i j:Nat):Bool:=decide (cW (kss.getD i [])<cW (kss.getD j []))
theorem Ja (kss:List (List aA)):Ord (OY kss):=by
 refine⟨fun a b h=>?_,fun a b c h1 h2=>?_⟩
 ·have:=VR _ _ (of_decide_eq_true h)
  exact decide_eq_false this
 ·exact decide_eq_false (UU _ _ _ (of_decide_eq_false h1) (of_decide_eq_false h2))
theorem Abk.tupK{ks:List aA}(r:Abk K H (.tuple ks) v)(h1:bU ks=true)(h2:cZ ks≤6) : ∃ a,v = .ref a/\Alf H ks a:=by
 obtain⟨a,xs,e,s,r⟩:=Aap.mp r
 exact⟨a,e,h1,h2,xs,s,Aas.keys ks h1 r⟩
def nY:List aA->Option (List (List aA))
 | []=>some []
 | .tuple ks::r=>if bU ks=true/\cZ ks≤6 then(nY r).bind fun kss=>some (ks::kss) else none
 | _::_=>none
theorem SE : ∀ {ds:List aA} {kss:List (List aA)},nY ds=some kss->ds=kss.map eI /\ ∀ ks∈kss,bU ks=true/\cZ ks≤6
 | [],kss,h=>by cases h; exact⟨rfl,fun _ m=>by simp at m⟩
 | .tuple ks::r,kss,h=>by
  by_cases c:bU ks=true/\cZ ks≤6
  ·have h':((nY r).bind fun kss=>some (ks::kss))=some kss:=by
    have:(if bU ks=true/\cZ ks≤6 then(nY r).bind fun kss=>some (ks::kss) else none)=some kss:=h
    rw[if_pos c] at this
    exact this
   obtain⟨k2,e1,e2⟩:=XBs h'
   cases e2
   obtain⟨q1,q2⟩:=SE e1
   refine⟨by rw[q1]; rfl,fun x m=>?_⟩
   rcases cU.mp m with rfl | m
   ·exact c
   ·exact q2 x m
  ·have:(if bU ks=true/\cZ ks≤6 then(nY r).bind fun kss=>some (ks::kss) else none)=some kss:=h
   rw[if_neg c] at this
   cases this
 | .none::_,_,h=>by cases h
 | .bool _::_,_,h=>by cases h
 | .int _::_,_,h=>by cases h
 | .str _::_,_,h=>by cases h
 | .list _::_,_,h=>by cases h
 | .dict _::_,_,h=>by cases h
open PySem PySem.Spec PySem.W PyProof.Rows
def gZ:List aA->List aA->Bool
 | [],[]=>true
 | .int _::r,.int _::r'=>gZ r r'
 | .str _::r,.str _::r'=>gZ r r'
 | _,_=>false
theorem QX (i j:Int)(r r':List aA):(cW (.int i::r)<cW (.int j::r'))↔i<j \/ i=j/\cW r<cW r':=by
 show(gP (.int i)::cW r<gP (.int j)::cW r')↔_
 rw[BC]
 simp[gP,BC]
theorem map_lt (xs ys:List Nat):(xs.map oH<ys.map oH)↔xs<ys:=by
 induction xs generalizing ys with
 | nil=>cases ys <;> simp
 | cons x r ih=>
  cases ys with
  | nil=>simp
  | cons y r'=>
   rw[dF,dF,BC,BC,ih]
   have h1:(oH x<oH y)↔x<y:=Int.ofNat_lt
   have h2:(oH x=oH y)↔x=y:=⟨fun e=>Int.ofNat.inj e,fun e=>by rw[e]⟩
   rw[h1,h2]
theorem YZ (x y:aC)(r r':List aA):(cW (.str x::r)<cW (.str y::r'))↔x.cps.toList<y.cps.toList \/ x=y/\cW r<cW r':=by
 show(gP (.str x)::cW r<gP (.str y)::cW r')↔_
 rw[BC]
 have h1:(gP (.str x)<gP (.str y))↔x.cps.toList<y.cps.toList:=by
  show((1:Int)::x.cps.toList.map oH<(1:Int)::y.cps.toList.map oH)↔_
  rw[BC,map_lt]
  simp
 have h2:(gP (.str x)=gP (.str y))↔x=y:=⟨fun e=>by
  have:=IW (.inr ⟨x,rfl⟩) (.inr ⟨y,rfl⟩) e
  injection this,fun e=>by rw[e]⟩
 rw[h1,h2]
section
variable {Q:Bool->aJ->Prop}
theorem LX : ∀ (ks ks':List aA) {vs vs':List aE} {as as':List aD} (i:Nat),gZ ks ks'=true->pM s.heap vs ks as->pM s.heap vs' ks' as'->Q (decide (cW ks<cW ks')) s->KatLex prog w A b false Q (vs.zip vs') i s
 | [],[],vs,vs',as,as',i,_,r,r',h=>by
  cases r; cases r'
  exact kat_nil h
 | .int x::ks,.int y::ks',vs,vs',as,as',i,hs,r,r',h=>by
  cases r with
  | cons r1 r2=>
   cases r' with
   | cons r1' r2'=>
    cases r1 with
    | int _ t=>
     cases r1' with
     | int _ u=>
      rw[Bo]
      refine kat_cons ((fC prog w).eqBool (a:=.inl x) (b:=.inl y) (LB _ _ x t) (LB _ _ y u) ?_)
      refine kat_go (fun e=>kat_yes ?_) fun e=>kat_no ?_
      ·have e':x=y:=by simpa using e
       subst e'
       refine LX ks ks' (i+1) (by simpa [gZ] using hs) r2 r2' ?_
       have:decide (cW (.int x::ks)<cW (.int x::ks'))=decide (cW ks<cW ks'):=decide_eq_decide.mpr (by rw[QX]; simp)
       rw[← this]; exact h
      ·have e':x≠y:=by simpa using e
       have:decide (cW (.int x::ks)<cW (.int y::ks'))=decide (x<y):=decide_eq_decide.mpr (by rw[QX]; simp[e'])
       rw[this] at h
       cases(b&&i == 0) with
       | true=>exact oneLt_int h
       | false=>exact kat_one _ _ (lt_int h)
 | .str x::ks,.str y::ks',vs,vs',as,as',i,hs,r,r',h=>by
  cases r with
  | cons r1 r2=>
   cases r' with
   | cons r1' r2'=>
    cases r1 with
    | str _ t=>
     cases r1' with
     | str _ u=>
      rw[Bo]
      refine kat_cons ((fC prog w).eqBool (a:=.inr x) (b:=.inr y) (LC _ _ x t) (LC _ _ y u) ?_)
      refine kat_go (fun e=>kat_yes ?_) fun e=>kat_no ?_
      ·have e':x=y:=by simpa using e
       subst e'
       refine LX ks ks' (i+1) (by simpa [gZ] using hs) r2 r2' ?_
       have:decide (cW (.str x::ks)<cW (.str x::ks'))=decide (cW ks<cW ks'):=decide_eq_decide.mpr (by rw[YZ]; simp[List.lt_irrefl])
       rw[← this]; exact h
      ·have e':x≠y:=by simpa using e
       have:decide (cW (.str x::ks)<cW (.str y::ks'))=decide (x.cps.toList<y.cps.toList):=decide_eq_decide.mpr (by rw[YZ]; simp[e'])
       rw[this] at h
       cases(b&&i == 0) with
       | true=>exact oneLt_str h
       | false=>exact kat_one _ _ (lt_str h)
end
def mL:List aA->Option String
 | .int _::_=>some "int"
 | .str _::_=>some "str"
 | _=>none
theorem Ya {M:Model}{k:List aA}{b:aD}(hd:Agp h k b)(hk:mL k=some T) :
  ∃ o xs n f,h.get? b=some o/\o.cls = .type "tuple" /\ o.data = .seq xs n/\xs[0]?=some f/\Looks M h (typeOf f) (.type T):=by
 obtain⟨_,_,as,r⟩:=hd
 obtain⟨a,o,xs,n,e,ho,hc,hd,hi⟩:=vK r
 cases e
 match k,hk,hi with
 | .int i::r,hk,hi=>
  cases hk
  generalize hx:xs.toList=l at hi
  cases hi with
  | cons h1 _=>
   cases h1 with
   | int _ t=>exact⟨o,xs,n,.int i t,ho,hc,hd,by rw[← Array.getElem?_toList,hx]; rfl,Looks.of_pure rfl⟩
 | .str x::r,hk,hi=>
  cases hk
  generalize hx:xs.toList=l at hi
  cases hi with
  | cons h1 _=>
   cases h1 with
   | str _ t=>exact⟨o,xs,n,.str x t,ho,hc,hd,by rw[← Array.getElem?_toList,hx]; rfl,Looks.of_pure rfl⟩
abbrev Ahg (h:aZ)(vs:List aE)(kss:List (List aA)):Prop:=iD (fun v k=>∃ b,v=eP b/\Agp h k b) vs kss
theorem VB {M:Model}{h:aZ}{T:String} : ∀ {vs:List aE} {kss:List (List aA)},Ahg h vs kss->(∀ k∈kss,mL k=some T) -> ∃ fs,KatTups h vs fs/\fs.length=vs.length /\ ∀ f∈fs,Looks M h (typeOf f) (.type T)
 | _,_,.nil,_=>⟨[],KatTups.nil,rfl,fun _ m=>by simp at m⟩
 | _,_,.cons ⟨b,e,hd⟩ t,hk=>by
  obtain⟨fs,h1,h2,h3⟩:=VB (M:=M) t fun k m=>hk k (cF _ m)
  obtain⟨o,xs,n,f,q1,q2,q3,q4,q5⟩:=Ya (M:=M) hd (hk _ bM)
  subst e
  refine⟨f::fs,KatTups.cons q1 q2 q3 q4 h1,by rw[fL,fL,h2],fun g m=>?_⟩
  rcases cU.mp m with rfl | m
  ·exact q5
  ·exact h3 g m
theorem Ahg.get : ∀ {vs:List aE} {kss:List (List aA)},Ahg h vs kss -> ∀ i,i<vs.length -> ∃ b,vs.getD i dP = .ref b/\Agp h (kss.getD i []) b/\kss.getD i []∈kss
 | _,_,.nil,i,hi=>absurd hi (by simp)
 | _,_,.cons ⟨b,e,hd⟩ t,0,_=>⟨b,e,hd,bM⟩
 | _,_,.cons _ t,i+1,hi=>by
  obtain⟨b,q1,q2,q3⟩:=Ahg.get t i (by simpa using hi)
  exact⟨b,by simpa using q1,by simpa using q2,by simpa using cF _ q3⟩
theorem Ahg.keep(k : ∀ b o,h.get? b=some o->h'.get? b=some o) : ∀ {vs:List aE} {kss:List (List aA)},Ahg h vs kss->Ahg h' vs kss
 | _,_,.nil=>.nil
 | _,_,.cons ⟨b,e,hd⟩ t=>.cons ⟨b,e,hd.keep fun b o _ _ q _ _=>k b o q⟩ (Ahg.keep k t)
theorem JR : ∀ {k k':List aA},gZ k k'=true->k.length=k'.length
 | [],[],_=>rfl
 | .int _::r,.int _::r',h=>by rw[fL,fL,JR (k:=r) (k':=r') (by simpa [gZ] using h)]
 | .str _::r,.str _::r',h=>by rw[fL,fL,JR (k:=r) (k':=r') (by simpa [gZ] using h)]
theorem JN : ∀ {vs:List aE} {ks:List aA} {as:List aD},pM h vs ks as->vs.length=ks.length
 | _,_,_,.nil=>rfl
 | _,_,_,.cons _ t=>by rw[fL,fL,JN t]
theorem Rr(hl:s.heap.IsList l vs.toArray)(ht:Ahg s.heap vs kss)(hT:T = "int" \/ T = "str")(hk : ∀ k∈kss,mL k=some T)(hs : ∀ k∈kss,∀ k'∈kss,gZ k k'=true)(h2:2≤vs.length)(h64:vs.length<64)
  (h : ∀ p:Array Nat,p.Perm (gL (bR vs.length))->fY (OY kss) p vs.length->Q (.ref (s.heap.objs.size+1)) { s with heap:=sortedAll s.heap vs (gL (p.toList.map fun i=>vs.getD i dP)) }) :
  aM (aU prog w) A (call (.builtin "sorted") [.ref l]) Q E s:=by
 refine Pb (κ:=tuples' (oD T != oD "tuple")) (Ja kss) hl h2 h64 (fun h' kp A' E' R q=>?_) (fun h' kp A' _ i j C hi hj q=>?_) h
 ·obtain⟨fs,f1,f2,f3⟩:=VB (M:=aU prog w) (ht.keep kp) hk
  exact kat_kind (s:={ s with heap:=h' }) f1 (by omega) f3 (by rcases hT with rfl | rfl <;> decide) q
 ·have ht':=ht.keep kp
  obtain⟨b,e1,⟨_,_,as,r1⟩,m1⟩:=ht'.get i hi
  obtain⟨b',e2,⟨_,_,as',r2⟩,m2⟩:=ht'.get j hj
  rw[e1,e2]
  obtain⟨_,o,xs,n,z,ho,_,hd,hr⟩:=vK r1
  cases z
  obtain⟨_,o',xs',n',z,ho',_,hd',hr'⟩:=vK r2
  cases z
  have hsm:=hs _ m1 _ m2
  have l1:=JN hr
  have l2:=JN hr'
  have ll:=JR hsm
  have:decide (xs.size<xs'.size)=false:=decide_eq_false (by simp only[BK] at l1 l2; omega)
  refine kat_lt (s:={ s with heap:=h' }) ho hd ho' hd' ?_
  rw[this]
  exact LX _ _ 0 hsm hr hr' q
theorem Ve{P:PySem.Fin->aJ->Prop}(ho:s.heap.get? a=some (gJ "list" vs.toArray n))(h2:vs.length<2)(h:P (.done (.ret .none)) { s with heap:=sortedHeap s.heap a vs vs.toArray }) :
  aM (aU prog w) A (Builtin.«list.sort» ⟨[.ref a],[]⟩) P E s:=by
 have lz:vs.length≤sizeLine:=by rw[wH]; omega
 obtain⟨e1,ho1⟩ : ∃ e,(s.heap.update a (gK fun _=>(#[]:Array aE))).get? a=some (gJ "list" #[] e):=⟨_,get?_update_seq ho fun _=>#[]⟩
 have hoM:(kT s.heap a vs).get? a=some (gJ "list" #[] e1):=bW _ (bW _ ho1)
 rw[list_sort_plain]
 refine aF (listItems_at ho rfl (aF (listUpdate_at ho rfl (aF (seqEpoch_at ho1 rfl (aF (MK (aF (ML (jV ?_) (eR _))) (by simpa using lz))))) (by rw[dX]; exact lz) (eR _))))
 show aM (aU prog w) A _ P E { s with heap:=kT s.heap a vs }
 dsimp only
 have few:vs.toArray.size<2:=by rw[dX]; exact h2
 rw[if_pos few,if_pos few]
 refine aF (aP ?_)
 rw[StateT.run_pure]
 refine aF (aP ?_)
 dsimp only
 have hout:(arrOf (SortSt.mk' general' (vs.toArray.zip vs.toArray) #[] 7 none)).map (·.2)=vs.toArray:=by
  show(vs.toArray.zip vs.toArray).map (·.2)=vs.toArray
  apply Cs.mp
  have : ∀ l:List aE,FH (fun x=>x.snd) (l.zip l)=l:=fun l=>by
   induction l with
   | nil=>rfl
   | cons a l ih=>rw[Bo,dF,ih]
  simpa using this vs
 rw[hout]
 refine aF (seqEpoch_at hoM rfl (aF (listUpdate_at hoM rfl ?_ (eR _) (Nat.le_succ_of_le (by rw[dX]; exact lz)))))
 simp only[bne_self_eq_false,rL,if_false]
 exact aP h
theorem Qd(hl:s.heap.IsList l vs.toArray)(h2:vs.length<2)(h:Q (.ref (s.heap.objs.size+1)) { s with heap:=sortedAll s.heap vs vs.toArray }) :
  aM (aU prog w) A (call (.builtin "sorted") [.ref l]) Q E s:=by
 refine Calls.call_function_entry kind_sorted plain_sorted entry_sorted (args_sorted1 _) ?_
 unfold Builtin.«sorted»
 refine aF (m:=checkCount "sorted" 1 1 _) (aP (aF (collect_list hl (aF (ML ?_)))))
 have z:((s.heap.push (gJ "list" #[] 0)).update s.heap.objs.size (gK (· ++ vs.toArray))).objs.size=s.heap.objs.size+1:=by rw[Heap.size_update,size_push']
 have hoL:(((s.heap.push (gJ "list" #[] 0)).update s.heap.objs.size (gK (· ++ vs.toArray))).push (gJ "list" vs.toArray 0)).get? (s.heap.objs.size+1)=some (gJ "list" vs.toArray 0):=z ▸ dA _ rfl
 show aM _ _ _ _ _ { s with heap:=((s.heap.push (gJ "list" #[] 0)).update s.heap.objs.size (gK (· ++ vs.toArray))).push (gJ "list" vs.toArray 0) }
 rw[z]
 refine aF (jV (iN slot_list_sort ⟨_,hoL,rfl⟩ entry_list_sort (Ve (s:={ s with heap:=_ }) hoL h2 ⟨_,rfl,?_⟩) (args_list_sort _)))
 exact aP ⟨_,rfl,h⟩
theorem HE : ∀ {a b:List aA},gZ a b=true->cW a=cW b->a=b
 | [],[],_,_=>rfl
 | .int i::r,.int j::r',h,e=>by
  have h':gZ r r'=true:=by simpa [gZ] using h
  have e':gP (.int i)=gP (.int j)/\cW r=cW r':=by simpa [cW] using e
  rw[IW (.inl ⟨i,rfl⟩) (.inl ⟨j,rfl⟩) e'.1,HE h' e'.2]
 | .str x::r,.str y::r',h,e=>by
  have h':gZ r r'=true:=by simpa [gZ] using h
  have e':gP (.str x)=gP (.str y)/\cW r=cW r':=by simpa [cW] using e
  rw[IW (.inr ⟨x,rfl⟩) (.inr ⟨y,rfl⟩) e'.1,HE h' e'.2]
def leT (a b:List aA):Bool:=!decide (cW b<cW a)
theorem Aj4 {a b:List aA}:leT a b=true ↔ ¬ cW b<cW a:=by simp[leT]
theorem Ze (a b c:List aA)(h1:leT a b=true)(h2:leT b c=true):leT a c=true:=Aj4.mpr (UU _ _ _ (Aj4.mp h1) (Aj4.mp h2))
theorem Yt (a b:List aA):(leT a b||leT b a)=true:=by
 by_cases h:cW b<cW a
 ·have:=VR _ _ h
  simp[leT,h,this]
 ·simp[leT,h]
theorem Vq {a b:List aA}(hs:gZ a b=true)(h1:leT a b=true)(h2:leT b a=true):a=b:=by
 have h1:cW a≤cW b:=Aj4.mp h1
 have h2:cW b≤cW a:=Aj4.mp h2
 exact HE hs (List.le_antisymm h1 h2)
def nN (kss:List (List aA)):List (List aA):=kss.mergeSort leT
def sameAll (kss:List (List aA)):Bool:=kss.all fun k=>kss.all fun k'=>gZ k k'
def okT (kss:List (List aA)):Bool:=decide (kss.length<2)||(sameAll kss&&kss.all fun k=>(mL k).isSome)
theorem EA (kss:List (List aA)):(nN kss).Perm kss:=List.mergeSort_perm kss leT
theorem Rj (kss:List (List aA)):(nN kss).Pairwise fun a b=>leT a b=true:=List.pairwise_mergeSort Ze Yt kss
theorem VQ {qs:List (List aA)}(hs:okT kss=true)(hp:qs.Perm kss)(hr:qs.Pairwise fun a b=>leT a b=true):qs=nN kss:=by
 have hp':qs.Perm (nN kss):=hp.trans (EA kss).symm
 by_cases h2:kss.length<2
 ·have l1:qs.length<2:=by rw[hp.length_eq]; exact h2
  match qs,l1,hp' with
  | [],_,hp'=>exact(List.nil_perm.mp hp').symm
  | [q],_,hp'=>exact List.singleton_perm.mp hp'
 ·have hs':sameAll kss=true:=by
   have:(sameAll kss&&kss.all fun k=>(mL k).isSome)=true:=by simpa [okT,h2] using hs
   exact(iU.mp this).1
  refine List.Perm.eq_of_pairwise (fun a b ma mb h1 h2=>Vq ?_ h1 h2) hr (Rj kss) hp'
  have ma':=hp.mem_iff.mp ma
  have mb':=(EA kss).mem_iff.mp mb
  exact fA.mp (fA.mp hs' a ma') b mb'
theorem same_kind : ∀ {k k':List aA},gZ k k'=true->mL k=mL k'
 | [],[],_=>rfl
 | .int _::_,.int _::_,_=>rfl
 | .str _::_,.str _::_,_=>rfl
theorem Km {k:List aA}(h:mL k=some T):T = "int" \/ T = "str":=by
 unfold mL at h
 split at h
 ·cases h; exact .inl rfl
 ·cases h; exact .inr rfl
 ·cases h
theorem Qm(hl:s.heap.IsList l vs.toArray)(ht:Ahg s.heap vs kss)(ok:okT kss=true)(h64:vs.length<64)
  (h : ∀ p:List Nat,p.Perm (bR vs.length)->p.map (fun i=>kss.getD i [])=nN kss->Q (.ref (s.heap.objs.size+1)) { s with heap:=sortedAll s.heap vs (gL (p.map fun i=>vs.getD i dP)) }) :
  aM (aU prog w) A (call (.builtin "sorted") [.ref l]) Q E s:=by
 have ln:vs.length=kss.length:=tN ht
 have idp : ∀ {α:Type} (xs:List α) (d:α),(bR xs.length).map (fun i=>xs.getD i d)=xs:=fun xs d=>by
  apply Ce
  ·simp
  ·intro i h1 h2
   simp at h1
   simp[h1]
 by_cases h2:vs.length<2
 ·refine Qd hl h2 ?_
  have:=h (bR vs.length) (List.Perm.refl _) (by
   rw[ln,idp kss]
   refine VQ ok (List.Perm.refl _) ?_
   match kss,ln with
   | [],_=>exact .nil
   | [k],_=>simp
   | _::_::_,ln=>simp at ln; omega)
  rw[idp vs] at this
  exact this
 ·have hs:sameAll kss=true/\(kss.all fun k=>(mL k).isSome)=true:=by
   have h2' : ¬ kss.length<2:=by omega
   have:(sameAll kss&&kss.all fun k=>(mL k).isSome)=true:=by simpa [okT,h2'] using ok
   exact iU.mp this
  obtain⟨k0,m0⟩ : ∃ k0,k0∈kss:=by
   cases hk:kss with
   | nil=>rw[hk] at ln; exact absurd ln (by simp; intro e; rw[e] at h2; simp at h2)
   | cons k r=>exact⟨k,bM⟩
  obtain⟨T,hT⟩:=Bn.mp (fA.mp hs.2 k0 m0)
  have sm : ∀ k∈kss,∀ k'∈kss,gZ k k'=true:=fun k m k' m'=>fA.mp (fA.mp hs.1 k m) k' m'
  refine Rr hl ht (Km hT) (fun k m=>(same_kind (sm k m k0 m0)).trans hT) sm (by omega) h64 fun p hp ha=>?_
  have hp':p.toList.Perm (bR vs.length):=by simpa using Array.perm_iff_toList_perm.mp hp
  have pl:p.toList.length=vs.length:=by rw[hp'.length_eq,Bw]
  refine h p.toList hp' (VQ ok ?_ ?_)
  ·have:=hp'.map (fun i=>kss.getD i [])
   rw[ln,idp kss] at this
   exact this
  ·rw[List.pairwise_map,c9]
   intro i j hi hj hij
   refine Aj4.mpr ?_
   have:=ha i j (pO hij) (by omega)
   have e1:at' p i=p.toList[i]:=by simp at hi; simp[at',hi]
   have e2:at' p j=p.toList[j]:=by simp at hj; simp[at',hj]
   rw[e1,e2] at this
   exact of_decide_eq_false this
abbrev uJ (H:Hp)(ys:List V)(kss:List (List aA)):Prop:=iD (fun y k=>∃ b,y=V.ref b/\Alf H k b) ys kss
theorem TR : ∀ {kss:List (List aA)} {ys:List V},(∀ ks∈kss,bU ks=true/\cZ ks≤6)->Aas K H (kss.map eI) ys->uJ H ys kss
 | [],ys,_,r=>by rw[Aan.mp r]; exact .nil
 | k::kss,ys,hk,r=>by
  obtain⟨v,t,rfl,r1,r2⟩:=Aah.mp r
  obtain⟨b,rfl,tk⟩:=r1.tupK (hk k bM).1 (hk k bM).2
  exact .cons ⟨b,rfl,tk⟩ (TR (fun x m=>hk x (cF _ m)) r2)
theorem SY {H':Hp}(x : ∀ c zs,H c=some (.tup zs)->H' c=some (.tup zs)) : ∀ {ys:List V} {kss:List (List aA)},uJ H ys kss->uJ H' ys kss
 | _,_,.nil=>.nil
 | _,_,.cons ⟨b,e,tk⟩ t=>.cons ⟨b,e,tk.keep x⟩ (SY x t)
theorem ZW(ok:HOk P w H h) : ∀ {ys:List V} {kss:List (List aA)} {vs:List aE},uJ H ys kss->Vals ys vs->Ahg h vs kss
 | _,_,_,.nil,.nil=>.nil
 | _,_,_,.cons ⟨b,e,tk⟩ t,.cons r rr=>by
  subst e
  cases r
  exact .cons ⟨b,rfl,key_of ok tk⟩ (ZW ok t rr)
def sF (p:List Nat)(ys:List V):List V:=p.map fun i=>ys.getD i .non
theorem UT : ∀ {ys:List V} {vs:List aE} (i:Nat),Vals ys vs->i<ys.length->RelV (ys.getD i .non) (vs.getD i dP)
 | _,_,0,.cons r _,_=>r
 | _,_,i+1,.cons _ t,h=>UT i t (by simpa using h)
theorem VN(r:Vals ys vs) : ∀ p:List Nat,(∀ i∈p,i<ys.length)->Vals (sF p ys) (p.map fun i=>vs.getD i dP)
 | [],_=>.nil
 | i::p,h=>.cons (UT i r (h i bM)) (VN r p fun j m=>h j (cF _ m))
theorem Tj:Adz X (.builtin "sorted") (fun xs H Q=>∃ p ys kss,xs=[.ref p]/\SqL X.K H p ys/\uJ H ys kss/\okT kss=true/\kss.length<64 /\
  ∀ l q,H l=none->q.Perm (bR ys.length)->q.map (fun i=>kss.getD i [])=nN kss->Q (.ref l) (upd H l (.lst (sF q ys)))):=by
 intro pins s σ H xs us Q I r h
 obtain⟨p,ys,kss,rfl,hp,rf,ok,hl,q⟩:=h
 obtain⟨u,rfl,ru⟩:=vals1 r
 cases ru
 obtain⟨its,rv,pl,hz⟩:=I.list hp
 have e1:ys.length=its.length:=rv.length
 have e2:ys.length=kss.length:=tN rf
 refine Qm pl.isList (ZW I.hok rf rv) ok (by omega) fun q' hp' hs=>?_
 have hq : ∀ i∈q',i<ys.length:=fun i m=>by
  have:=lC.mp (hp'.mem_iff.mp m)
  omega
 obtain⟨e,he⟩:=sortedAll_at s.heap its (gL (q'.map fun i=>its.getD i dP))
 have hn:H (s.heap.objs.size+1)=none:=I.hok.fresh (wU _)
 have lz:(sF q' ys).length≤sizeLine:=by
  unfold sF
  rw[cV,hp'.length_eq,Bw]
  omega
 exact⟨.ref (s.heap.objs.size+1),_,I.laid (t':=s.toks) (o:=.lst (sF q' ys)) (fun b ob g=>sortedAll_old g) (wU _) ⟨lz,_,e,VN rv q' hq,he⟩,rfl,q _ q' hn (by rw[e1]; exact hp') hs⟩
def xS:List aA->Option aA
 | [.list ds]=>(nY ds).bind fun kss=>if okT kss=true/\kss.length<64 then some (.list ((nN kss).map eI)) else none
 | _=>none
theorem UG : ∀ {kss:List (List aA)} {ys:List V} (i:Nat),Aas K H (kss.map eI) ys->i<ys.length->Abk K H (.tuple (kss.getD i [])) (ys.getD i .non)
 | [],ys,i,r,h=>by rw[Aan.mp r] at h; simp at h
 | k::kss,ys,0,r,h=>by
  obtain⟨v,t,rfl,r1,r2⟩:=Aah.mp r
  exact r1
 | k::kss,ys,i+1,r,h=>by
  obtain⟨v,t,rfl,r1,r2⟩:=Aah.mp r
  exact UG i r2 (by simpa using h)
theorem UE(r:Aas K H (kss.map eI) ys) : ∀ p:List Nat,(∀ i∈p,i<ys.length)->Aas K H ((p.map fun i=>kss.getD i []).map eI) (sF p ys)
 | [],_=>Aan.mpr rfl
 | i::p,h=>Aah.mpr ⟨_,_,rfl,UG i r (h i bM),UE r p fun j m=>h j (cF _ m)⟩
theorem Sq:CallD K 1 (fun xs H Q=>∃ p ys kss,xs=[.ref p]/\SqL K H p ys/\uJ H ys kss/\okT kss=true/\kss.length<64 /\
  ∀ l q,H l=none->q.Perm (bR ys.length)->q.map (fun i=>kss.getD i [])=nN kss->Q (.ref l) (upd H l (.lst (sF q ys)))) xS:=fun P H xs ds d Q hP r e k=>by
 unfold xS at e
 split at e
 ·obtain⟨kss,e1,e2⟩:=XBs e
  obtain⟨⟨ok,hl⟩,rfl⟩:=cX e2
  obtain⟨rfl,hk⟩:=SE e1
  obtain⟨v,rfl,r'⟩:=fQ r
  obtain⟨q,ys,rfl,hq,rr⟩:=Abl.mp r'
  refine⟨q,ys,kss,rfl,Aau.sqL hq,?_,ok,hl,fun l p hn hp hs=>?_⟩
  ·exact SY (fun c zs g=>Aau _ _ g) (TR hk rr)
  ·have hi : ∀ i∈p,i<ys.length:=fun i m=>lC.mp (hp.mem_iff.mp m)
   have:=UE rr p hi
   rw[hs] at this
   exact k.lst hP hn this
 ·cases e
theorem PX : ∀ {ns:List Int} {vs:List aE},Vals (ns.map V.int) vs->IntsAre vs ns
 | [],_,.nil=>.nil
 | n::ns,_,.cons ⟨t,e⟩ r=>by
  subst e
  exact .cons n t (PX r)
def rS:List aA->Option (List Int)
 | []=>some []
 | .int i::r=>(rS r).bind fun is=>some (i::is)
 | _::_=>none
theorem RE : ∀ {ds:List aA} {is:List Int},rS ds=some is->ds=is.map aQ
 | [],is,e=>by cases e; rfl
 | .int i::ds,is,e=>by
  obtain⟨is',e1,e2⟩:=XBs (show((rS ds).bind fun is=>some (i::is))=some is from e)
  cases e2
  rw[RE e1]
  rfl
 | .none::_,_,e=>by cases e
 | .bool _::_,_,e=>by cases e
 | .str _::_,_,e=>by cases e
 | .list _::_,_,e=>by cases e
 | .tuple _::_,_,e=>by cases e
 | .dict _::_,_,e=>by cases e
theorem XB : ∀ {is:List Int} {ys:List V},Aas K H (is.map aQ) ys->ys=is.map V.int
 | [],ys,r=>Aan.mp r
 | i::is,ys,r=>by
  obtain⟨v,t,rfl,r1,r2⟩:=Aah.mp r
  rw[Aaq.mp r1,XB r2]
  rfl
def sNo:SF:=fun _=>none
theorem Ec{s:cB}:DS X H0 P0 n0 s sNo:=fun pins st σ H D I q=>by
 obtain⟨B0,ρ,fp,o,S,ef,k⟩:=q
 cases ef
theorem Li {k k':aI}{v:aE}(r:RelV (kV k) u)(r':RelV (kV k') v):NH u v (decide (k=k')):=by
 intro prog w A E s Q q
 cases k with
 | inl i=>
  obtain⟨t,rfl⟩:=(show ∃ t,u=tL i t from r)
  cases k' with
  | inl j=>
   obtain⟨t',rfl⟩:=(show ∃ t,v=tL j t from r')
   refine SeqAt.EqAt.int_int i t j t' prog w E Q ?_
   have:(i == j)=decide ((jX i:aI)=jX j):=by
    rw[nK]; simp
   rw[this]; exact q
  | inr y=>
   obtain⟨t',rfl⟩:=(show ∃ t,v=tJ y t from r')
   exact SeqAt.EqAt.int_str i t y t' prog w E Q (by simpa using q)
 | inr x=>
  obtain⟨t,rfl⟩:=(show ∃ t,u=tJ x t from r)
  cases k' with
  | inl j=>
   obtain⟨t',rfl⟩:=(show ∃ t,v=tL j t from r')
   exact SeqAt.EqAt.str_int x t j t' prog w E Q (by simpa using q)
  | inr y=>
   obtain⟨t',rfl⟩:=(show ∃ t,v=tJ y t from r')
   refine SeqAt.EqAt.str_str x t y t' prog w E Q ?_
   have:(x == y)=decide ((iP x:aI)=iP y):=by
    rw[nK]; simp
   rw[this]; exact q
theorem Wk (l:aD)(us:Array aE)(n:Nat)(dd:Option aD)(sl:Array (Option aE))(x:aE)(e:aE->Bool)(he : ∀ y,y∈us->NH y x (e y))(top:Int)(j:Nat)(hj:j<us.size)(ht:(j:Int)<top)(hit:e us[j]=true) :
  ∀ (k i:Nat),j - i=k->i≤j->(∀ m (hm:m<us.size),i≤m->m<j->e us[m]=false)->Meets (Builtin.«list.index.loop» ⟨[.ref l,x,eU i,eU top],[]⟩)
   (fun _ R s=>s.heap.get? l=some { cls:=.type "list",dict:=dd,data:=.seq us n,slots:=sl }/\R (.ok (.ret (.int j s.toks))) { s with toks:=s.toks+1 }):=by
 intro k
 induction k with
 | zero=>
  intro i hk hij hno prog w A R s h
  obtain⟨hp,g,d,tk,os⟩:=s
  obtain⟨hl,h⟩:=h
  obtain rfl:i=j:=by omega
  wp_walk using wpAny_loadPart' hl
  rw[show(if (i:Int)<top then us[((i:Nat):Int).toNat]? else none)=some us[i] by simp[ht,hj]]
  refine aF (he _ (Array.getElem_mem hj) prog w _ _ _ _ ?_)
  rw[hit]
  wp_walk
  exact h
 | succ k ih=>
  intro i hk hij hno prog w A R s h
  obtain⟨hp,g,d,tk,os⟩:=s
  obtain⟨hl,h⟩:=h
  have lt:i<us.size:=by omega
  have lo:(i:Int)<top:=by omega
  wp_walk using wpAny_loadPart' hl
  rw[show(if (i:Int)<top then us[((i:Nat):Int).toNat]? else none)=some us[i] by simp[lo,lt]]
  refine aF (he _ (Array.getElem_mem lt) prog w _ _ _ _ ?_)
  rw[hno i lt (bE _) (by omega)]
  wp_walk
  rw[show((i:Int)+1)=((i+1:Nat):Int) by push_cast; rfl]
  refine⟨wJ NG _,AK MeetsSeq.entry_index_loop ?_⟩
  rw[BL NG _]
  exact ih (i+1) (by omega) (by omega) (fun m hm h1 h2=>hno m hm (by omega) h2) prog w A R _ ⟨hl,h⟩
theorem Ov (l:aD)(us:Array aE)(n:Nat)(dd:Option aD)(sl:Array (Option aE))(x:aE)(e:aE->Bool)(he : ∀ y,y∈us->NH y x (e y))(j:Nat)(hj:j<us.size)(small:(j:Int)<2 ^ 63 - 1)(hit:e us[j]=true)(hno : ∀ m (hm:m<us.size),m<j->e us[m]=false) :
  Meets (Builtin.«list.index» ⟨[.ref l,x],[]⟩) (fun _ R s=>s.heap.get? l=some { cls:=.type "list",dict:=dd,data:=.seq us n,slots:=sl }/\R (.ok (.ret (.int j s.toks))) { s with toks:=s.toks+1 }):=by
 intro prog w A R s h
 obtain⟨hp,g,d,tk,os⟩:=s
 obtain⟨hl,h⟩:=h
 wp_walk using wpAny_loadPart' hl
 rw[show((fun i:Int=>if i<0 then max 0 (i+(us.size:Int)) else i) ((none:Option Int).getD 0))=((0:Nat):Int) by simp,show((fun i:Int=>if i<0 then max 0 (i+(us.size:Int)) else i) ((none:Option Int).getD (2 ^ 63 - 1)))=2 ^ 63 - 1 by simp]
 refine⟨wJ NG _,AK MeetsSeq.entry_index_loop ?_⟩
 rw[BL NG _]
 exact Wk l us n dd sl x e he (2 ^ 63 - 1) j hj small hit _ 0 rfl (eR _) (fun m hm _ h2=>hno m hm h2) prog w A R _ ⟨hl,h⟩
def atK (ks:List aI)(k:aI):Option Nat:=ks.findIdx? fun y=>decide (y=k)
theorem SH {ks:List aI}{k:aI}{j:Nat}(h:atK ks k=some j):ks[j]?=some k /\ ∀ m,m<j->ks[m]?≠some k:=by
 obtain⟨hj,h1,h2⟩:=List.findIdx?_eq_some_iff_getElem.mp h
 refine⟨by rw[jY hj,of_decide_eq_true h1],fun m hm e=>?_⟩
 have:=h2 m hm
 have hl:m<ks.length:=by omega
 rw[jY hl] at e
 exact this (decide_eq_true (eY e))
theorem DX : ∀ {ks:List aI} {us:List aE},Vals (ks.map kV) us -> ∀ (m:Nat) (hm:m<us.length),∃ k,ks[m]?=some k/\RelV (kV k) us[m]
 | [],_,.nil,m,hm=>by simp at hm
 | k::ks,_::us,.cons h t,0,hm=>⟨k,rfl,h⟩
 | k::ks,_::us,.cons h t,m+1,hm=>by
  obtain⟨k',e,r⟩:=DX t m (by simpa using hm)
  exact⟨k',by simpa using e,by simpa using r⟩
def isV (k:aI)(u:aE):Bool:=match k,u with
 | .inl i,.int j _=>decide (j=i)
 | .inr x,.str y _=>decide (y=x)
 | _,_=>false
theorem HX {k k':aI}(r:RelV (kV k) u):isV k' u=decide (k=k'):=by
 cases k with
 | inl i=>
  obtain⟨t,rfl⟩:=(show ∃ t,u=tL i t from r)
  cases k' with
  | inl j=>simp[isV]
  | inr y=>simp[isV]
 | inr x=>
  obtain⟨t,rfl⟩:=(show ∃ t,u=tJ x t from r)
  cases k' with
  | inl j=>simp[isV]
  | inr y=>simp[isV]
def Kt (K:aK):V->List V->Hp->VK->Prop:=fun x vs H Q=>∃ p ks k j,x = .ref p/\vs=[kV k]/\SqL K H p (ks.map kV)/\atK ks k=some j/\Q (.int j) H
theorem UI {ks:List aI}{k:aI}{j:Nat}{us:List aE}{v:aE}(r:Vals (ks.map kV) us)(rk:RelV (kV k) v)(h:atK ks k=some j) :
  (∀ y,y∈us.toArray->NH y v (isV k y)) /\ ∃ hj:j<us.toArray.size,isV k us.toArray[j]=true /\ ∀ m (hm:m<us.toArray.size),m<j->isV k us.toArray[m]=false:=by
 obtain⟨h1,h2⟩:=SH h
 have hl:ks.length=us.length:=by simpa using r.length
 have hj:j<us.length:=by rw[← hl]; exact(dR.mp h1).1
 refine⟨fun y m=>?_,by simpa using hj,?_,fun m hm hlt=>?_⟩
 ·obtain⟨i,hi,rfl⟩:=wX (show y∈us by simpa using m)
  obtain⟨k',e,rr⟩:=DX r i hi
  rw[HX rr]
  exact Li rr rk
 ·obtain⟨k',e,rr⟩:=DX r j hj
  rw[h1] at e
  cases e
  show isV k us[j]=true
  rw[HX rr]
  simp
 ·have hm':m<us.length:=by simpa using hm
  obtain⟨k',e,rr⟩:=DX r m hm'
  show isV k us[m]=false
  rw[HX rr]
  exact decide_eq_false fun q=>h2 m hlt (q ▸ e)
theorem Yr:MtR X "list.index" (Kt X.K):=by
 intro pins s σ H x vs v us Q I rx rv h
 obtain⟨p,ks,k,j,rfl,rfl,hp,hj,q⟩:=h
 cases rx
 obtain⟨u,rfl,ru⟩:=rv.one
 obtain⟨its,r,pl,hz⟩:=I.list hp
 obtain⟨he,hlt,hit,hno⟩:=UI r ru hj
 obtain⟨⟨cls,dd,data,sl⟩,n,e,hc,_,hd⟩:=pl
 simp only at hc hd
 subst hc hd
 have hn:=sM
 have lz:its.toArray.size≤sizeLine:=by rw[dX,← r.length]; exact hz
 refine call_meets b8 ⟨_,e,rfl⟩ PySem.F.entry_list_index (PySem.F.args_list_index_2 _ _) (Ov p its.toArray n dd sl u (isV k) he j hlt (by omega) hit hno) ⟨e,⟨.int j,H,I.tok _,⟨_,rfl⟩,q⟩⟩
def mS:List aA->Option (List aI)
 | []=>some []
 | d::r=>(cL d).bind fun k=>(mS r).bind fun ks=>some (k::ks)
theorem KH : ∀ {ds:List aA} {xs:List V} {ks:List aI},mS ds=some ks->Aas K H ds xs->xs=ks.map kV
 | [],xs,ks,e,r=>by
  cases e
  exact Aan.mp r
 | d::ds,xs,ks,e,r=>by
  obtain⟨k,e1,e2⟩:=XBs (show((cL d).bind fun k=>(mS ds).bind fun ks=>some (k::ks))=some ks from e)
  obtain⟨ks',e3,e4⟩:=XBs e2
  cases e4
  obtain⟨v,t,rfl,h1,h2⟩:=Aah.mp r
  rw[pA e1 h1,KH e3 h2]
  rfl
def GH (ds:List aA)(d:aA):Option aA:=(mS ds).bind fun ks=>(cL d).bind fun k=>(atK ks k).bind fun j=>some (.int j)
section
variable {o k:aT}{fo:EF}
theorem Zd{r:aA}(h:GH ds d=some r) : ∃ ks kk j,mS ds=some ks/\cL d=some kk/\atK ks kk=some j/\r = .int j:=by
 obtain⟨ks,e1,h⟩:=XBs h
 obtain⟨kk,e2,h⟩:=XBs h
 obtain⟨j,e3,h⟩:=XBs h
 cases h
 exact⟨ks,kk,j,e1,e2,e3,rfl⟩
def IC:aA->aA->Option aA
 | .list ds,d=>GH ds d
 | _,_=>none
theorem Zz (ho:DE X o fo)(hk:DE X k fk)(hbase:pK o "index" X.env (bY o X.env)=bY o X.env:=by rfl)
  (hfew:((fX cpos (cC (k::[]) X.env)).all (fun x=>!x.1)&&(AO cpos (AJ [] X.env)).all (fun x=>x.1.isSome)
   && decide ((k::[]).length+([]:List nF).length+(if ([]:List nF).isEmpty then 0 else 1)<30))=true:=by rfl)
  (hline:(apos.endLine == cpos.line)=true:=by rfl) (hs:cC (k::[]) X.env=(false,bY k X.env)::cC [] X.env:=by rfl) (hplain:(fX cpos (cC [] X.env)).any (·.1)=false:=by rfl) :
  DE X (.Call (.Attribute o "index" apos) [k] [] cpos) (eOp IC fo fk):=
 PE.imp (EM Bi b8 PySem.F.type_list_index Yr ho (lM hk oQ hs) hbase hfew hline hs hplain) fun σ H Q gh=>by
  obtain⟨P,ρ,d,hP,rs,ef,kk⟩:=gh
  obtain⟨d1,e1,ef2⟩:=XBs ef
  obtain⟨d2,e2,ef3⟩:=XBs ef2
  cases d1 with
  | list ds=>
   obtain⟨ks,key,j,g1,g2,g3,rfl⟩:=Zd (show GH ds d2=some d from ef3)
   refine⟨P,ρ,_,hP,rs,e1,dU fun v H1 x1 r1=>?_⟩
   obtain⟨q,ys,rfl,hq,rr⟩:=Abl.mp r1
   obtain rfl:=KH g1 rr
   refine⟨.inl ⟨rfl,_,Aau.sqL hq⟩,P,ρ,d2,hP.ext x1,rs.ext (dD x1),e2,dU fun u H2 x2 r2=>?_⟩
   exact⟨q,ks,key,j,rfl,by rw[pA g2 r2],x2.sqL (Aau.sqL hq),g3,kk.zero (x1.trans x2) (Aaq.mpr rfl)⟩
  | _=>cases ef3
theorem WR : ∀ {ds:List aA} {xs:List V} (n:Nat),Aas K H ds xs->Aas K H (ds.eraseIdx n) (xs.eraseIdx n)
 | [],xs,n,r=>by
  rw[Aan.mp r]
  exact Aan.mpr rfl
 | d::ds,xs,0,r=>by
  obtain⟨v,t,rfl,h1,h2⟩:=Aah.mp r
  exact h2
 | d::ds,xs,n+1,r=>by
  obtain⟨v,t,rfl,h1,h2⟩:=Aah.mp r
  exact Aah.mpr ⟨v,_,rfl,h1,WR n h2⟩
theorem TM {j pos}:DF 1 X (.Constant .none j pos) (eC .none):=PE.imp YO fun σ H Q gh=>by
 obtain⟨P,ρ,d,hP,rs,ef,k⟩:=gh
 cases ef
 exact k .non H [] Ext.refl .nil (fun a m=>by simp at m) ⟨rfl,Abt.mpr rfl⟩
end
def Nn:V->List V->Hp->VK->Prop:=fun x vs H Q=>∃ p ks k j,x = .ref p/\vs=[kV k]/\H p=some (.lst (ks.map kV))/\atK ks k=some j/\Q .non (upd H p (.lst ((ks.eraseIdx j).map kV)))
theorem Yl:MtM X "list.remove" Nn:=by
 intro pins s σ H x vs v us Q I rx rv h
 obtain⟨p,ks,k,j,rfl,rfl,hp,hj,q⟩:=h
 cases rx
 obtain⟨u,rfl,ru⟩:=rv.one
 obtain⟨z,its,n,r,hl,e⟩:=I.lstM hp
 obtain⟨he,hlt,hit,hno⟩:=UI r ru hj
 refine call_meets F.slot_list_remove ⟨_,e,rfl⟩ F.entry_list_remove (F.args_list_remove_2 _ _) (MeetsSeq.list_remove p its.toArray n u (isV k) he j hlt hit hno (by rw[dX]; omega)) ⟨e,?_⟩
 have ee:(ks.eraseIdx j).map kV=(ks.map kV).eraseIdx j:=by
  have go : ∀ (xs:List aI) (n:Nat),(xs.eraseIdx n).map kV=(xs.map kV).eraseIdx n:=by
   intro xs
   induction xs with
   | nil=>intro n; simp
   | cons x xs ih=>
    intro n
    cases n with
    | zero=>rfl
    | succ n=>rw[wZ,dF,dF,wZ,ih]
  exact go ks j
 refine⟨.non,_,I.lset (its':=its.eraseIdx j) (ys:=(ks.eraseIdx j).map kV) hp e ?_ (by rw[ee]; exact r.eraseIdx j) ?_,rfl,q⟩
 ·show its.toArray.eraseIdxIfInBounds j=(its.eraseIdx j).toArray
  rw[List.eraseIdxIfInBounds_toArray]
 ·have:=UO (ks.map kV) j
  rw[ee]
  omega
def pE (i:Nat)(m:Md)(f:EF):SF:=fun ρ=>(eV 0 m f ρ).bind fun d=>(getL i ρ).bind fun ds=>(mS ds).bind fun ks=>(cL d).bind fun k=>(atK ks k).bind fun j=>some (.nx (ρ.set i (some (1,.list (ds.eraseIdx j)))))
theorem Oz (i:Nat)(m:Md)(he:DE X e f)(hN:X.N[i]?=some x:=by rfl)(hv:kK X.env.scope x:=by first | exact aR rfl | exact aX (aR rfl) | exact aX (aX rfl))(hd:(x == ("__debug__" : aC))=false:=by decide)
  (hcd:(x == ("__classdict__" : aC))=false:=by decide) (hbase:pK (.Name x px) "remove" X.env (bY (.Name x px) X.env)=bY (.Name x px) X.env:=by rfl)
  (hfew:((fX cpos (cC (e::[]) X.env)).all (fun x=>!x.1)&&(AO cpos (AJ [] X.env)).all (fun x=>x.1.isSome)
   && decide ((e::[]).length+([]:List nF).length+(if ([]:List nF).isEmpty then 0 else 1)<30))=true:=by rfl)
  (hline:(apos.endLine == cpos.line)=true:=by rfl) (hs:cC (e::[]) X.env=(false,bY e X.env)::cC [] X.env:=by rfl) (hplain:(fX cpos (cC [] X.env)).any (·.1)=false:=by rfl)
  (hsw:mZ (.Call (.Attribute (.Name x px) "remove" apos) [e] [] cpos) none pos.line X.env=pure false:=by rfl):DS X H0 P0 n0 (.Expr (.Call (.Attribute (.Name x px) "remove" apos) [e] [] cpos) pos) (pE i m f):=
 PS.imp (HM (EM Bi PySem.F.slot_list_remove PySem.F.type_list_remove Yl (mR hN hv hd hcd) (lM (ev (H0:=H0) (P0:=P0) m he) oQ hs) hbase hfew hline hs hplain) hsw) fun D σ H gh=>by
  obtain⟨B0,ρ,fp,o,S,ef,k⟩:=gh
  obtain⟨d,e1,ef2⟩:=XBs ef
  obtain⟨ds,e2,ef3⟩:=XBs ef2
  obtain⟨ks,e3,ef4⟩:=XBs ef3
  obtain⟨key,e4,ef5⟩:=XBs ef4
  obtain⟨j,e5,ef6⟩:=XBs ef5
  cases ef6
  obtain⟨p,xs,h1,h2,_,_⟩:=S.lst1 (qN e2)
  refine⟨.ref p,h1,.inl ⟨rfl,xs,SqL.of h2⟩,B0,ρ,fp,d,S,e1,fun v H2 gh=>?_⟩
  obtain⟨fp2,S2,r2⟩:=gh
  obtain⟨p2,xs2,q1,q2,q3,q4⟩:=S2.lst1 (qN e2)
  have:p2=p:=by rw[h1] at q1; cases q1; rfl
  subst this
  obtain rfl:=KH e3 q3
  have ee:(ks.eraseIdx j).map kV=(ks.map kV).eraseIdx j:=by
   have go : ∀ (xs:List aI) (n:Nat),(xs.eraseIdx n).map kV=(xs.map kV).eraseIdx n:=by
    intro xs
    induction xs with
    | nil=>intro n; simp
    | cons x xs ih=>
     intro n
     cases n with
     | zero=>rfl
     | succ n=>rw[wZ,dF,dF,wZ,ih]
   exact go ks j
  refine⟨p2,ks,key,j,rfl,by rw[pA e4 r2.2],q2,e5,?_⟩
  rw[ee]
  exact k _ _ fp2 (q4 _ _ (WR j q3))
section
variable {σ:St}
theorem Sta.writeN{p:aD}{o:HO}{d':aA}(S:Sta K H0 P0 B0 ρ σ H fp)(hi:i<ρ.length)(hv:σ[i]?=some (some v))(hp:p∈fp i)(ho:(∃ xs,o = .lst xs) \/ ∃ q:DQ,o=dO q)
  (new:Aie K (L2.hid H (Hd P0 fp)) (upd H p o) n d' v (fp i)):Sta K H0 P0 B0 (ρ.set i (some (n,d'))) σ (upd H p o) fp:=by
 have same:L2.hid (upd H p o) (Hd P0 fp)=L2.hid H (Hd P0 fp):=by
  funext b
  unfold L2.hid
  by_cases q:Hd P0 fp b
  ·rw[if_pos q,if_pos q]
  ·rw[if_neg q,if_neg q]
   exact dJ fun z=>q (.inr ⟨i,by rw[z]; exact hp⟩)
 refine⟨by simp[S.len],S.nd,S.dj,fun j a m=>⟨(S.own j a m).1,?_⟩,fun b u e=>?_,S.hd,by rw[same]; exact S.base,fun j n' d e=>?_⟩
 ·by_cases q:a=p
  ·subst q
   rcases ho with⟨xs,rfl⟩ | ⟨xs,rfl⟩
   ·exact .inl ⟨xs,fJ⟩
   ·exact .inr ⟨xs,fJ⟩
  ·rw[dJ q]; exact(S.own j a m).2
 ·rw[dJ (jK e (S.own i p hp).1)]; exact S.ext b u e
 ·by_cases q:j=i
  ·subst q
   rw[rJ hi] at e
   cases e
   exact⟨_,hv,by rw[same]; exact new⟩
  ·rw[nE (fun z=>q z.symm)] at e
   obtain⟨u,h1,h2⟩:=S.slot j n' d e
   refine⟨u,h1,?_⟩
   rw[same]
   exact h2.keep Ext.refl fun a m=>dJ fun z=>q (S.dj j i a m (by rw[z]; exact hp))
theorem own1{F:List aD}(h:Aie K B H 1 (.list ds) v F) : ∃ p xs,v = .ref p/\H p=some (.lst xs)/\F=[p]/\Aas K B ds xs:=by
 obtain⟨p,xs,Fs,rfl,hp,hF,h3⟩:=h
 obtain⟨r,hn⟩:=VG h3
 exact⟨p,xs,rfl,hp,by rw[hF,hn],r⟩
theorem CU{p:aD}(hp:H p=some (.lst xs))(r:Aas K B ds xs):Aie K B H 1 (.list ds) (.ref p) [p]:=by
 obtain⟨q1,q2⟩:=JO (H1:=H) r
 exact⟨p,xs,_,rfl,hp,by rw[q2],q1⟩
theorem Ek{a b:List aA}{F:List aD}(h:Aie K B H 2 (.tuple [.list a,.list b]) v F) :
  ∃ q p p' xs ys,v = .ref q/\B q=some (.tup [.ref p,.ref p'])/\F=[p,p']/\H p=some (.lst xs)/\H p'=some (.lst ys)/\Aas K B a xs/\Aas K B b ys:=by
 rcases h with⟨h0,_⟩ | ⟨_,q,us,Fs,rfl,hq,rfl,h3⟩
 ·cases h0
 ·cases h3 with
  | cons h1 t=>
   cases t with
   | cons h2 t=>
    cases t with
    | nil=>
     obtain⟨p,xs,rfl,hp,rfl,r⟩:=own1 h1
     obtain⟨p',ys,rfl,hp',rfl,r'⟩:=own1 h2
     exact⟨q,p,p',xs,ys,rfl,hq,rfl,hp,hp',r,r'⟩
theorem Lk{a b:List aA}{q p p':aD}(hq:B q=some (.tup [.ref p,.ref p']))(h1:H p=some (.lst xs))(h2:H p'=some (.lst ys))(r1:Aas K B a xs)(r2:Aas K B b ys) :
  Aie K B H 2 (.tuple [.list a,.list b]) (.ref q) [p,p']:=
 .inr ⟨by decide,q,_,[[p],[p']],rfl,hq,rfl,.cons (CU h1 r1) (.cons (CU h2 r2) .nil)⟩
end
section
variable {y:aC}{py spos kpos:bZ}{j:Nat}
def XZ (i j:Nat):SF:=fun ρ=>(getL i ρ).bind fun a=>(getL j ρ).bind fun b=>some (.rt (.tuple [.list a,.list b]))
theorem Vl (i j:Nat){x1}(hij:i≠j)(hN:X.N[i]?=some x:=by rfl)(hv:kK X.env.scope x:=by first | exact aR rfl | exact aX (aR rfl) | exact aX (aX rfl))(hd:(x == ("__debug__" : aC))=false:=by decide)
  (hcd:(x == ("__classdict__" : aC))=false:=by decide) (hN2:X.N[j]?=some y:=by rfl) (hv2:kK X.env.scope y:=by first | exact aR rfl | exact aX (aR rfl) | exact aX (aX rfl)) (hd2:(y == ("__debug__" : aC))=false:=by decide)
  (hcd2:(y == ("__classdict__" : aC))=false:=by decide):DS X H0 P0 2 (.Return (some (.Tuple [.Name x px,.Name y py] x1 tpos)) pos) (XZ i j):=
 PS.imp (BV (YV (lM (mR hN hv hd hcd) (lM (mR hN2 hv2 hd2 hcd2) oQ)))) fun D σ H gh=>by
  obtain⟨B0,ρ,fp,o,S,ef,k⟩:=gh
  obtain⟨a,e1,ef⟩:=XBs ef
  obtain⟨b,e2,ef⟩:=XBs ef
  cases ef
  obtain⟨v,h1,r1⟩:=S.slot i 1 _ (qN e1)
  obtain⟨v',h2,r2⟩:=S.slot j 1 _ (qN e2)
  obtain⟨p,xs,rfl,hp,hF,q1⟩:=own1 r1
  obtain⟨p',ys,rfl,hp',hF',q2⟩:=own1 r2
  have mp:p∈fp i:=by rw[hF]; exact bM
  have mp':p'∈fp j:=by rw[hF']; exact bM
  have hpp:p≠p':=fun z=>hij (S.dj i j p mp (by rw[z]; exact mp'))
  refine⟨_,h1,_,h2,by show 2≤sizeLine; rw[wH]; omega,fun q hq=>k _ _ ⟨[p,p'],S.ext.trans (Ext.new hq),?_,?_,?_⟩⟩
  ·simp[hpp]
  ·intro c m
   rcases cU.mp m with rfl | m
   ·exact⟨(S.own i _ mp).1,_,Ext.new hq _ _ hp⟩
   ·rw[bL.mp m]
    exact⟨(S.own j _ mp').1,_,Ext.new hq _ _ hp'⟩
  ·have nq : ∀ {c:aD} {oo:HO},H c=some oo->c≠q:=fun ec z=>by rw[z,hq] at ec; cases ec
   have xb:Ext (L2.hid H (Hd P0 fp)) (L2.hid (upd H q (.tup [.ref p,.ref p'])) (orL P0 [p,p'])):=fun c oo ec=>by
    obtain⟨nc,ec⟩:=Ac0.mp ec
    refine Ac0.mpr ⟨fun z=>?_,Ext.new hq _ _ ec⟩
    rcases z with z | z
    ·exact nc (.inl z)
    ·rcases cU.mp z with rfl | z
     ·exact nc (.inr ⟨i,mp⟩)
     ·rw[bL.mp z] at nc
      exact nc (.inr ⟨j,mp'⟩)
   refine Lk (xs:=xs) (ys:=ys) (Ac0.mpr ⟨fun z=>?_,fJ⟩) (Ext.new hq _ _ hp) (Ext.new hq _ _ hp') (q1.ext xb) (q2.ext xb)
   rcases z with z | z
   ·exact(S.hd.ext S.ext).new hq z
   ·rcases cU.mp z with z | z
    ·exact nq hp z.symm
    ·exact nq hp' (bL.mp z).symm
end
theorem Abq.length : ∀ {kds:List (aA×aA)} {ts:List (List aA×V)},Abq K H kds ts->ts.length=kds.length
 | [],ts,h=>by rw[Ach.mp h]; rfl
 | (k,d)::r,ts,h=>by
  obtain⟨k',x,rr,rfl,_,_,h2⟩:=Abe.mp h
  simp[Abq.length h2]
mutual
theorem Yq : ∀ d:aA,bQ d=true->eQ d=true
 | .int _,_=>by simp[eQ]
 | .str _,_=>by simp[eQ]
 | .tuple ds,h=>by
  simp only[eQ]
  exact KB ds (by simpa [bQ] using h)
 | .none,h=>by simp[bQ] at h
 | .bool _,h=>by simp[bQ] at h
 | .list _,h=>by simp[bQ] at h
 | .dict _,h=>by simp[bQ] at h
theorem KB : ∀ ds:List aA,bU ds=true->sN ds=true
 | [],_=>rfl
 | d::r,h=>by
  have h:bQ d=true/\bU r=true:=by simpa [bU] using h
  simp[sN,Yq d h.1,KB r h.2]
end
def EI (i:Nat)(ρ:bA):Option (List (aA×aA)):=match ρ[i]? with
 | some (some (9,.dict ((.none,.none)::kds)))=>some kds
 | _=>none
theorem WH{ds:List (aA×aA)}(h:EI i ρ=some ds):ρ[i]?=some (some (9,.dict ((.none,.none)::ds))):=by
 unfold EI at h
 split at h
 ·rename_i e; cases h; exact e
 ·cases h
theorem Yo{k:List aA}(h : ∀ kd∈kds,eQ kd.2=true)(hd:eQ d=true) : ∀ kd∈kB kds k d,eQ kd.2=true:=fun kd m=>by
 unfold kB at m
 split at m
 ·obtain⟨y,my,rfl⟩:=cY.mp m
  split
  ·exact hd
  ·exact h y my
 ·rcases oE.mp m with m | m
  ·exact h kd m
  ·rw[bL.mp m]; exact hd
section
variable {σ:St}
theorem Sta.dicT {ds:List (aA×aA)}(S:Sta K H0 P0 B0 ρ σ H fp)(e:ρ[i]?=some (some (9,.dict ((.none,.none)::ds)))) : ∃ p,∃ ts:Nat×List (List aA×V),σ[i]?=some (some (.ref p))/\H p=some (.dT ts.1 ts.2)/\(∀ kd∈ds,eQ kd.2=true)/\Abq K (L2.hid H (Hd P0 fp)) ds ts.2 /\
  ∀ ds' n' ts',(∀ kd∈ds',eQ kd.2=true)->Abq K (L2.hid H (Hd P0 fp)) ds' ts'->Sta K H0 P0 B0 (ρ.set i (some (9,.dict ((.none,.none)::ds')))) σ (upd H p (.dT n' ts')) fp:=by
 obtain⟨v,h1,h2⟩:=S.slot i 9 _ e
 rcases(show _ \/ ES _ _ _ _ _ _ from h2) with⟨z,_⟩ | ⟨kds,p,ts,ed,rfl,hp,hF,f,r⟩
 ·cases z
 cases ed
 refine⟨p,ts,h1,hp,f,r,fun ds' n' ts' f' r'=>S.writeN (dR.mp e).1 h1 (by rw[hF]; exact bM) (.inr ⟨.inr (n',ts'),rfl⟩) ?_⟩
 exact(aX ⟨ds',p,(n',ts'),rfl,rfl,fJ,hF,f',r'⟩:_ \/ ES _ _ _ _ _ _)
end
section
variable {k:aT}{g:EF}
theorem Yi:DF 9 X (.Dict [] [] pos) (eC (.dict [(.none,.none)])):=PE.imp Va fun σ H Q gh=>by
 obtain⟨P,ρ,d,hP,rs,ef,k⟩:=gh
 cases ef
 refine fun q hq=>k (.ref q) (upd H q (.dT 0 [])) [q] (Ext.new hq) (lB.mpr ⟨by simp,.nil⟩) (fun a m=>?_) (aX ⟨[],q,(0,[]),rfl,rfl,fJ,rfl,fun kd m=>by simp at m,Ach.mpr rfl⟩:_ \/ ES _ _ _ _ _ _)
 rw[bL.mp m]
 exact⟨hq,_,fJ⟩
def EK (i:Nat)(m:Md)(f:EF)(mk:Md)(g:EF):SF:=fun ρ=>(eV 0 m f ρ).bind fun d=>(EI i ρ).bind fun kds=>(eV 0 mk g ρ).bind fun k=>match k with
 | .tuple k=>if ((bU k=true/\cZ k≤6)/\eQ d=true)/\kds.length<sizeLine then some (.nx (ρ.set i (some (9,.dict ((.none,.none)::kB kds k d))))) else none
 | _=>none
theorem Kr (i:Nat)(m mk:Md)(hu:X.A.units+40<cLine)(he:DE X e f)(hk:DE X k g)(hN:X.N[i]?=some x:=by rfl)(hv:kK X.env.scope x:=by first | exact aR rfl | exact aX (aR rfl) | exact aX (aX rfl))(hd:(x == ("__debug__" : aC))=false:=by decide)
  (hcd:(x == ("__classdict__" : aC))=false:=by decide) (hs:mZ e (some (.Subscript (.Name x px) k apos)) pos.line X.env=pure false:=by rfl):DS X H0 P0 n0 (.Assign [.Subscript (.Name x px) k apos] e pos) (EK i m f mk g):=
 PS.imp (ZL hu (mR hN hv hd hcd) hk (ev (H0:=H0) (P0:=P0) m he) hs) fun D σ H gh=>by
  obtain⟨B0,ρ,fp,o,S,ef,kk⟩:=gh
  obtain⟨d,e1,ef2⟩:=XBs ef
  obtain⟨kds,e2,ef3⟩:=XBs ef2
  obtain⟨kd,e3,ef4⟩:=XBs ef3
  cases kd with
  | tuple key=>
   obtain⟨⟨⟨hkey,hfd⟩,hl⟩,rfl⟩:=cX ef4
   clear ef ef2 ef3 ef4
   refine⟨B0,ρ,fp,d,S,e1,fun v H2 gh=>?_⟩
   obtain⟨fp2,S2,r2⟩:=gh
   obtain⟨p,ts,h1,h2,_⟩:=S2.dicT (WH e2)
   have hf:eQ (.tuple key)=true:=by simp only[eQ]; exact KB _ hkey.1
   refine⟨.ref p,h1,GU S2 e3 hf fun u H3 x3 r3=>?_⟩
   have S3:=S2.grow x3
   obtain⟨p3,ts3,q1,q2,qf,q3,q4⟩:=S3.dicT (WH e2)
   have:p3=p:=by rw[h1] at q1; cases q1; rfl
   subst this
   obtain⟨b,rfl,tb⟩:=r3.tupK hkey.1 hkey.2
   refine⟨p3,_,rfl,.inr ⟨ts3.2,key,b,⟨_,q2⟩,rfl,tb.keep fun c zs e=>Aau _ _ e,by rw[q3.length]; exact hl,rfl⟩,fun n=>kk _ _ fp2 (q4 _ n _ (Yo qf hfd) (SN hkey.1 q3 (r2.2.ext (dD x3))))⟩
  | _=>cases ef4
end
section
variable {d v:aD}{es:Array nJ}{ok ov:aE}
theorem Ug (d:aD)(nm:(d == iB)=false) :
  MeetsIn P w (Builtin.«dict.items» ⟨[.ref d],[]⟩) (fun _ R s=>s.TypeIs (.ref d) "dict" /\ R (.ok (.ret (.ref s.heap.objs.size))) { s with heap:=s.heap.push { cls:=.type "dict_items",data:=.fields #[.ref d] } }):=
 .of_wp fun A R s gh=>by
  obtain⟨ty,g⟩:=gh
  unfold Builtin.«dict.items»
  refine aF ?_
  unfold Builtin.Dict.noArgs
  refine aF (MJ ty ?_)
  refine aP ?_
  show aM _ _ (OI d >>= _) _ _ _
  unfold OI
  rw[if_neg (show ¬ (d == iB)=true by rw[nm]; exact jZ)]
  exact aF (aP (aF (jM (aP ⟨_,rfl,g⟩))))
theorem Pj(V:s.heap.IsItemsView v d)(R:Ash s.heap d es ep)
  (q:Q (.ref s.heap.objs.size) { s with heap:=s.heap.push { cls:=.type "dict_itemiterator",data:=.fields #[.none,.bool false,.ref d,.int 0 0,.int es.size 0,.int ep 0,.none,.none] } }) :
  aM (aU P w) A (lR (.ref v)) Q E s:=by
 obtain⟨o1,e1,c1,d1⟩:=id V
 obtain⟨o,eo,_,ed⟩:=R
 refine MH V.typeIs F.slot_dict_items_iter (iN F.slot_dict_items_iter V.typeIs
  F.entry_dict_items_iter ?_ (F.args_dict_items_iter_1 _))
 unfold Builtin.«dict_items.__iter__»
 refine aF (aP (aF ?_))
 unfold Builtin.Dict_items.dictOf
 refine aF (fS e1 d1 (x:=.ref d) rfl (aP (aF ?_)))
 unfold Builtin.Dict_items.newIterator
 refine aF (AH eo ed (aF (AG eo ed ?_)))
 have own:FP "dict_itemiterator" = true:=by decide
 simp only[own,if_true]
 refine jM (aP ⟨_,rfl,"dict_itemiterator",_,⟨_,dA _ rfl,rfl⟩,
  BI.lookup,?_⟩) (by
   simp only[sizeOk,g7,dX,pQ,fL,Bx,wH]
   omega)
 simpa [eU,g7] using q
theorem Tz {e:nJ}{Q:Option aE->aJ->Prop}(K:rK s.heap it d i es.size ep ok ov)(R:Ash s.heap d es ep)(x:es[i]?=some e)
  (q : ∀ h',IsItemIterOut h' it d (i+1) es.size ep e.key e.val s.heap.objs.size->h'.get? s.heap.objs.size=some { cls:=.type "tuple",data:=.seq #[e.key,e.val] } ->
   (∀ b o,b≠it->s.heap.get? b=some o->h'.get? b=some o)->Q (some (.ref s.heap.objs.size)) { s with heap:=h' }):aM (aU P w) A (fW (.ref it)) Q E s:=by
 obtain⟨hp,g,dr,tk,os⟩:=s
 obtain⟨o,eo,_,ed⟩:=R
 have ty:Shared.TypeIs ⟨hp,g,dr,tk,os⟩ (.ref it) "dict_itemiterator":=⟨_,K,rfl⟩
 unfold fW
 refine aF (rD (mY (name:=lV "__next__") ty
  BI (iN BI ty
   d9 ?_ (f6 _))))
 refine aF (aP (aF (aF ?_)))
 first
  | refine aF (MF ty (aP ?_))
  | refine aF (MD ty (aP ?_))
 refine aF (MN K rfl ?_)
 have own:FP "dict_itemiterator" = true:=by decide
 simp only[own,if_true]
 show aM _ _ (if (eP d == dP)=true then _ else _) _ _ ⟨hp,g,dr,tk,os⟩
 rw[if_neg (show ¬ (eP d == dP)=true from jZ)]
 refine aF (aP (aF (AH eo ed ?_)))
 rw[if_neg (by simp)]
 refine aF (aP (aF (AG eo ed ?_)))
 rw[if_neg (by simp)]
 refine aP ?_
 simp only[show ¬ ((i:Int)<0) from by omega,if_false,xB,x]
 refine aF ?_
 first
  | refine aF (MF ty (aP ?_))
  | refine aF (MD ty (aP ?_))
 refine aF (Ar ty ?_)
 show aM _ _ (setField (.ref it) 3 (eU ((i:Int)+1)) >>= _) _ _ _
 refine aF (kY K (by simp) fun h1 K1 s1=>?_)
 have s1:nH it hp h1:=s1
 have K1:rK h1 it d (i+1) es.size ep ok ov:=by
  have z:((i+1:Nat):Int)=(i:Int)+1:=by omega
  unfold rK
  rw[z]
  simpa [eU] using K1
 have ty1:Shared.TypeIs ⟨h1,g,dr,tk,os⟩ (.ref it) "dict_itemiterator":=⟨_,K1,rfl⟩
 refine aF (jV (aF (Ar ty1 (aF (Ar ty1 ?_)))))
 show aM _ _ (f9 (.ref it) 6 e.key e.val) _ _ ⟨h1,g,dr,tk,os⟩
 unfold f9
 refine aF (MK ?_)
 have K2:rK (h1.push { cls:=.type "tuple",data:=.seq #[e.key,e.val] }) it d (i+1) es.size ep ok ov:=bW _ K1
 generalize eh:h1.push { cls:=.type "tuple",data:=.seq #[e.key,e.val] }=h2 at K2
 have z1:h1.objs.size=hp.objs.size:=s1.1
 have il:it<hp.objs.size:=cA K
 have t2:h2.get? hp.objs.size=some { cls:=.type "tuple",data:=.seq #[e.key,e.val] }:=by
  rw[← eh,← z1]
  exact dA _ rfl
 have k2 : ∀ b o,b≠it->hp.get? b=some o->h2.get? b=some o:=fun b o nb eb=>by
  rw[← eh]
  exact bW _ (s1.extBut b o nb eb)
 show aM _ _ (g6 (.ref it) >>= _) _ _ _
 rw[z1]
 clear eh K1 s1 ty1 z1
 refine aF ?_
 unfold g6
 refine aF (fS K2 rfl (x:=.none) rfl (aP ?_))
 simp only[if_true]
 refine aF (fS K2 rfl (x:=ok) rfl (aF (fS K2 rfl (x:=ov) rfl ?_)))
 refine aF (kY K2 (by simp) fun h3 K3 s3=>?_)
 have s3:nH it h2 h3:=s3
 have K3:rK h3 it d (i+1) es.size ep e.key ov:=K3
 refine aF (kY K3 (by simp) fun h4 K4 s4=>?_)
 have s4:nH it h3 h4:=s4
 have K4:rK h4 it d (i+1) es.size ep e.key e.val:=K4
 refine aF (kY K4 (by simp) fun h5 K5 s5=>?_)
 have s5:nH it h4 h5:=s5
 have K5:IsItemIterOut h5 it d (i+1) es.size ep e.key e.val hp.objs.size:=K5
 refine aF (kY K5 (by simp) fun h6 K6 s6=>?_)
 have s6:nH it h5 h6:=s6
 have up : ∀ b o,b≠it->h2.get? b=some o->h6.get? b=some o:=fun b o nb eb=>s6.extBut b o nb (s5.extBut b o nb (s4.extBut b o nb (s3.extBut b o nb eb)))
 exact aF (EZ (aP (aP ⟨_,rfl,aP (q h6 K6 (up _ _ (nC il) t2) fun b o nb eb=>up b o nb (k2 b o nb eb))⟩)))
theorem Ti {Q:Option aE->aJ->Prop}(hh:A.handled=none)(K:rK s.heap it d i es.size ep ok ov)(R:Ash s.heap d es ep)(x:es.size≤i)
  (q : ∀ h',FN it s.heap h'->Q none { s with heap:=h' }):aM (aU P w) A (fW (.ref it)) Q E s:=by
 obtain⟨o,eo,_,ed⟩:=R
 have ty:s.TypeIs (.ref it) "dict_itemiterator":=⟨_,K,rfl⟩
 unfold fW
 refine aF (rD (mY (name:=lV "__next__") ty
  BI (iN BI ty
   d9 ?_ (f6 _))))
 refine aF (aP (aF (aF ?_)))
 first
  | refine aF (MF ty (aP ?_))
  | refine aF (MD ty (aP ?_))
 refine aF (MN K rfl ?_)
 have own:FP "dict_itemiterator" = true:=by decide
 simp only[own,if_true]
 show aM _ _ (if (eP d == dP)=true then _ else _) _ _ s
 rw[if_neg (show ¬ (eP d == dP)=true from jZ)]
 refine aF (aP (aF (AH eo ed ?_)))
 rw[if_neg (by simp)]
 refine aF (aP (aF (AG eo ed ?_)))
 rw[if_neg (by simp)]
 refine aP ?_
 simp only[show ¬ ((i:Int)<0) from by omega,if_false,xB,Array.getElem?_eq_none x]
 refine aF ?_
 first
  | refine aF (MF ty (aP ?_))
  | refine aF (MD ty (aP ?_))
 show aM _ _ (setField (.ref it) 2 .none >>= _) _ _ s
 refine aF (EW K rfl (by simp) ?_)
 show aM _ _ (sZ (.type "StopIteration") [] >>= _) _ _ _
 refine aF ?_
 simp only[sZ,newTuple]
 refine aF (jM ?_ (by size_fits))
 refine aF (m:=tH _ _) (EY (a:=dP)
  (by first | rfl | (simp only[tH]; rfl)) ?_)
 refine jM ?_ (by size_fits)
 simp only[raiseNew]
 refine aF (MM ?_)
 rw[show A.in1.handled=none from hh]
 refine aF (aP (MG ?_))
 refine aF (AE (T:="StopIteration") (b:=true)
  ⟨_,dA _ rfl,rfl⟩ MS ?_)
 exact aP (q _ (((xD ..).extBut.push _).push _))
end
theorem uL(ok:HOk P w H h)(e:H a=some (.dT ep kvs)) :
  (a == iB)=false /\ ∃ es,Ash h a es ep/\es.size=kvs.length /\ ∀ (i:Nat) kv,kvs[i]?=some kv -> ∃ en b,es[i]?=some en/\en.key = .ref b/\Alf H kv.1 b/\RelV kv.2 en.val:=by
 obtain⟨z,nm,xs,r,o,es,h1,h2,h3,h4,_⟩:=(show Ac9 P w H h a (.dT ep kvs) from ok a _ e)
 have hl:es.size=kvs.length:=by
  have:=congrArg NO h4
  rw[cV,← tN r] at this
  simpa using this
 refine⟨nm,es,⟨o,h1,h2,h3⟩,hl,fun i kv hk=>?_⟩
 have go : ∀ {l:List (List aA×V)} {m:List (List aA×aD×aE)} {j:Nat},iD (fun(p:List aA×V) (q:List aA×aD×aE)=>p.1=q.1/\Alf H p.1 q.2.1/\RelV p.2 q.2.2) l m->l[j]?=some kv -> ∃ q,m[j]?=some q/\Alf H kv.1 q.2.1/\RelV kv.2 q.2.2:=by
  intro l m j q
  induction q generalizing j with
  | nil=>intro h; simp at h
  | cons h _ ih=>
   intro hj
   cases j with
   | zero=>cases hj; exact⟨_,rfl,h.2⟩
   | succ j=>exact ih (j:=j) (by simpa using hj)
 obtain⟨q,hq,t1,t2⟩:=go r hk
 have hq':es.toList[i]?=some (entryOfKey (hZ P w) q):=by rw[h4,dI,hq]; rfl
 exact⟨_,q.2.1,by simpa using hq',rfl,t1,t2⟩
def FX (a:aD)(ep n:Nat):It:=
 ⟨fun i H=>∃ kvs kv,H a=some (.dT ep kvs)/\kvs.length=n/\kvs[i]?=some kv,fun i H x H'=>H'=H /\ ∀ kvs,H a=some (.dT ep kvs) -> ∃ kv b,kvs[i]?=some kv/\x = .ref b/\Alf H kv.1 b,fun i H=>∃ kvs,H a=some (.dT ep kvs)/\kvs.length=n/\n≤i⟩
theorem Qp(a it:aD)(ep n:Nat):Turn P w K tg (FX a ep n) [it] it (fun i h=>h.IsKeyIter it a i n ep) where
 mem:=bL.mpr rfl
 obj:=fun i h ⟨o,e,_,d⟩ b hb=>by
  rw[bL.mp hb]
  exact⟨o,e,fun v z=>by rw[d] at z; cases z⟩
 keep:=fun i h h' st k=>st.at fun o e=>k it (bL.mpr rfl) o e
 item:=by
  intro X hP hw hK hc i pins s σ H E I hf st hg
  subst hP hw hK
  obtain⟨kvs,kv,ha,hn,hk⟩:=hg
  subst hn
  obtain⟨nm,es,R,hl,gt⟩:=uL I.hok ha
  obtain⟨en,b,he,ek,t1,t2⟩:=gt i kv hk
  rw[← hl] at st
  refine TJ st R he fun h' st' sb=>?_
  have I1:Inv X pins σ H { s with heap:=h' }:=I.turnM (t':=s.toks) hf fun b o nb e=>sb.extBut b o (fun q=>nb (bL.mpr q)) e
  obtain⟨o,e,c,dd⟩:=id st'
  refine⟨en.key,rfl,sG (s:={ s with heap:=h' }) e c dd (by decide) ⟨.ref b,H,I1,by rw[ek]; exact rfl,⟨rfl,fun kvs' h2=>?_⟩,by rw[← hl]; exact st',fun b hb=>(hf b hb).1⟩⟩
  rw[ha] at h2
  cases h2
  exact⟨kv,b,hk,rfl,t1⟩
 done:=by
  intro X hP hw hK hc i pins s σ H E I hf st hg
  subst hP hw hK
  obtain⟨kvs,ha,hn,hi⟩:=hg
  subst hn
  obtain⟨nm,es,R,hl,gt⟩:=uL I.hok ha
  rw[← hl] at st hi
  exact RA (I.ok.hd hc) st R hi fun h' eb=>⟨rfl,I.turnM (t':=s.toks) hf fun b o nb e=>eb b o (fun q=>nb (bL.mpr q)) e⟩
 self:=fun _ _ _ _ _ st h=>Aq st h
def GF (a:aD)(ep n:Nat):It:=
  ⟨fun i H=>∃ kvs kv,H a=some (.dT ep kvs)/\kvs.length=n/\kvs[i]?=some kv,
   fun i H v H'=>∃ T kv b,H T=none/\v = .ref T/\Alf H kv.1 b/\(∀ kvs,H a=some (.dT ep kvs)->kvs[i]?=some kv)/\H'=upd H T (.tup [.ref b,kv.2]),
   fun i H=>∃ kvs,H a=some (.dT ep kvs)/\kvs.length=n/\n≤i⟩
theorem Sl{cx}{pos:bZ}(a it:aD)(ep n:Nat) :
  Turn P w K (.Tuple es cx pos) (GF a ep n) [it] it (fun i h=>∃ ok ov,rK h it a i n ep ok ov) where
 mem:=bL.mpr rfl
 obj:=fun i h ⟨ok,ov,g⟩ b hb=>by
  rw[bL.mp hb]
  exact⟨_,g,fun v z=>by cases z⟩
 keep:=fun i h h' ⟨ok,ov,g⟩ k=>⟨ok,ov,k it (bL.mpr rfl) _ g⟩
 item:=by
  intro X hP hw hK hc i pins s σ H E I hf st hg
  subst hP hw hK
  obtain⟨kvs,kv,ha,hn,hk⟩:=hg
  subst hn
  obtain⟨nm,en,R,hl,gt⟩:=uL I.hok ha
  obtain⟨e,b,he,ek,t1,t2⟩:=gt i kv hk
  obtain⟨ok,ov,st⟩:=st
  rw[← hl] at st
  have young:it<s.heap.objs.size:=cA st
  refine Tz st R he fun h' eo pr keep=>?_
  have fr:H s.heap.objs.size=none:=I.hok.fresh (bE _)
  have I0:Inv X pins σ (upd H s.heap.objs.size (.tup [.ref b,kv.2])) { s with heap:=s.heap.push { cls:=.type "tuple",data:=.seq #[e.key,e.val] },toks:=s.toks }:=
   I.laid (t':=s.toks) (o:=.tup [.ref b,kv.2]) (fun b ob q=>bW _ q) (bE _) ⟨by show 2≤sizeLine; decide,[e.key,e.val],.cons (by rw[ek]; exact rfl) (.cons t2 .nil),A5w.new _ _⟩
  have hf' : ∀ c∈[it],iV X pins (upd H s.heap.objs.size (.tup [.ref b,kv.2])) c:=fun c m=>⟨by rw[dJ (dQ (by rw[bL.mp m]; exact young))]; exact(hf c m).1,(hf c m).2⟩
  have I1:Inv X pins σ (upd H s.heap.objs.size (.tup [.ref b,kv.2])) { s with heap:=h',toks:=s.toks }:=I0.turnM (t':=s.toks) hf' fun c o n g=>by
   have n:c≠it:=fun q=>n (bL.mpr q)
   by_cases hb:c=s.heap.objs.size
   ·subst hb
    have e':(s.heap.push { cls:=.type "tuple",data:=.seq #[e.key,e.val] }).get? s.heap.objs.size=some { cls:=.type "tuple",data:=.seq #[e.key,e.val] }:=dA _ rfl
    have:some o=some _:=g.symm.trans e'
    rw[this]
    exact pr
   ·exact keep c o n ((Cj _ _ _ hb).symm.trans g)
  refine⟨_,rfl,wpAny_letOwnedTupleGo_items eo fun h2 ge sb=>?_⟩
  have I2:Inv X pins σ (upd H s.heap.objs.size (.tup [.ref b,kv.2])) { s with heap:=h2,toks:=s.toks }:=I1.turnM (t':=s.toks) hf' fun b o n g=>sb.extBut b o (fun q=>n (bL.mpr q)) g
  exact⟨.ref s.heap.objs.size,_,I2,rfl,⟨_,kv,b,fr,rfl,t1,fun kvs' h=>by rw[ha] at h; cases h; exact hk,rfl⟩,⟨_,_,by rw[← hl]; exact ge⟩,fun b m=>(hf' b m).1⟩
 done:=by
  intro X hP hw hK hc i pins s σ H E I hf st hg
  subst hP hw hK
  obtain⟨kvs,ha,hn,hi⟩:=hg
  subst hn
  obtain⟨nm,en,R,hl,gt⟩:=uL I.hok ha
  obtain⟨ok,ov,st⟩:=st
  rw[← hl] at st hi
  exact Ti (I.ok.hd hc) st R hi fun h' eb=>⟨rfl,I.turnM (t':=s.toks) hf fun b o nb e=>eb b o (fun q=>nb (bL.mpr q)) e⟩
 self:=fun _ _ _ _ _ st h=>by
  obtain⟨ok,ov,st⟩:=st
  exact XU ⟨_,st,rfl⟩ h
section
variable {l:aT}
def Cw (tl:TE):TI:=fun σ H R=>tl σ H fun x H1=>∃ a ep kvs,x = .ref a/\H1 a=some (.dT ep kvs)/\R (FX a ep kvs.length) H1
theorem Vj(hl:PE X l tl):PI X tg l (Cw tl):=by
 intro pins s σ H R I h
 refine thn (hl pins s σ H _ I h) fun v s1 gh=>?_
 obtain⟨x,H1,I1,r1,q1⟩:=gh
 obtain⟨a,ep,kvs,rfl,ha,q⟩:=q1
 cases r1
 obtain⟨nm,en,D,hn,_⟩:=uL I1.hok ha
 refine RS nm D ?_
 refine⟨s1.heap.objs.size,[s1.heap.objs.size],_,_,H1,rfl,I1.kept (t':=s1.toks) fun b o e=>bW _ e,Qp a _ ep kvs.length,⟨_,dA _ rfl,rfl,by rw[← hn]; rfl⟩,fun b hb=>?_,q⟩
 rw[bL.mp hb]
 exact I1.fpOk (bE _) (I1.hok.fresh (bE _))
def Fn (tl:TE):TI:=fun σ H R=>tl σ H fun x H1=>∃ a ep kvs,x = .ref a/\H1 a=some (.dT ep kvs)/\R (GF a ep kvs.length) H1
theorem Os(hl:PE X l tl)(hbase:pK l "items" X.env (bY l X.env)=bY l X.env:=by rfl)(hline:(apos.endLine == pos.line)=true:=by rfl):PI X (.Tuple es cx tpos) (.Call (.Attribute l "items" apos) [] [] pos) (Fn tl):=by
 intro pins s σ H R I h
 refine As (T:="dict") (id:="dict.items") hbase rfl hline F.plainAttrs_dict OA F.type_dict_items (thn (hl pins s σ H _ I h) fun v s1 gh=>?_)
 obtain⟨x,H1,I1,r1,q1⟩:=gh
 obtain⟨a,ep,kvs,rfl,ha,q⟩:=q1
 cases r1
 obtain⟨nm,en,D,hn,_⟩:=uL I1.hok ha
 obtain⟨o,eo,xo,ed⟩:=id D
 refine⟨D.ty,fun b z=>by cases z; exact⟨o,eo,xo.2.1⟩,?_⟩
 show aM _ _ (callWith pos (.builtin "dict.items") [.ref a] [] []) _ _ _
 refine method_meetsIn OA F.entry_dict_items rfl (PySem.evalArgs_none ⟨rfl,D.ty,F.args_dict_items_1 _,_,Ug a nm,D.ty,?_⟩)
 show aM _ _ (lR (.ref s1.heap.objs.size)) _ _ _
 refine Pj (d:=a) (es:=en) (ep:=ep) ⟨_,dA _ rfl,rfl,rfl⟩ (D.keep fun o e=>bW _ e) ?_
 have all : ∀ b o,s1.heap.get? b=some o->((s1.heap.push { cls:=.type "dict_items",data:=.fields #[.ref a] }).push { cls:=.type "dict_itemiterator",data:=.fields #[.none,.bool false,.ref a,.int 0 0,.int en.size 0,.int ep 0,.none,.none] }).get? b=some o:=fun b o e=>bW _ (bW _ e)
 refine⟨_,[_],_,_,H1,rfl,I1.kept (t':=s1.toks) all,Sl a _ ep kvs.length,⟨.none,.none,?_⟩,fun b hb=>?_,q⟩
 ·rw[← hn]
  exact dA _ rfl
 ·rw[bL.mp hb]
  have le:s1.heap.objs.size≤(s1.heap.push { cls:=.type "dict_items",data:=.fields #[.ref a] }).objs.size:=by
   rw[xC]
   omega
  exact I1.fpOk le (I1.hok.fresh le)
theorem IE {K:aK}{H:Hp} : ∀ {kds:List (aA×aA)} {ts:List (List aA×V)} {i:Nat} {kd:aA×aA},Abq K H kds ts->kds[i]?=some kd -> ∃ kv,ts[i]?=some kv/\kd.1 = .tuple kv.1/\bU kv.1=true/\Abk K H kd.2 kv.2
 | (k,d)::ds,ts,0,kd,r,e=>by
  obtain⟨k',y,t,rfl,ek,h1,h2⟩:=Abe.mp r
  cases e
  exact⟨(k',y),rfl,ek.1,ek.2,h1⟩
 | (k,d)::ds,ts,i+1,kd,r,e=>by
  obtain⟨k',y,t,rfl,ek,h1,h2⟩:=Abe.mp r
  obtain⟨kv,g1,g2⟩:=IE (i:=i) h2 (by simpa using e)
  exact⟨kv,by simpa using g1,g2⟩
end
def mJ:aA->Bool
 | .tuple ds=>ds.all fun d=>match d with | .int _=>true | _=>false
 | _=>false
theorem UQ : ∀ {ks:List aA} {xs:List V},(ks.all fun d=>match d with | .int _=>true | _=>false)=true->Agk H ks xs->Aas K B ks xs
 | [],xs,_,h=>Aan.mpr (by simpa [Agk] using h)
 | d::r,xs,hi,h=>by
  have hi:=iU.mp (show(_&&_)=true from hi)
  simp only[Agk] at h
  obtain⟨x,rr,rfl,h1,h2⟩:=h
  cases d with
  | int i=>exact Aah.mpr ⟨x,rr,rfl,Aaq.mpr (by simpa [Aku] using h1),UQ hi.2 h2⟩
  | _=>simp at hi
theorem SB{P:aD->Prop}{ks:List aA}{b:aD}(hP:Hid P H)(hi:mJ (.tuple ks)=true)(t:Alf H ks b):Abk K (hid H P) (.tuple ks) (.ref b):=by
 obtain⟨_,_,xs,hb,kv⟩:=t
 refine Aap.mpr ⟨b,xs,rfl,gQ (fun q=>?_) hb,UQ hi kv⟩
 rcases hP b q with⟨o,e⟩ | ⟨o,e⟩
 ·rw[hb] at e; cases e
 ·rw[hb] at e; exact QP _ _ (eY e)
theorem VE{kd:aA×aA}(h:(kds.all fun kd=>mJ kd.1)=true)(e:kds[i]?=some kd):mJ kd.1=true:=fA.mp h kd (fK e)
section
variable {l:aT}
def iKR (f:EF):AF:=fun ρ=>(f ρ).bind fun d=>match d with
 | .dict ((.none,.none)::kds)=>if (kds.all fun kd=>mJ kd.1)=true then some (kds.map (·.1)) else none
 | _=>none
def iDR (f:EF):AF:=fun ρ=>(f ρ).bind fun d=>match d with
 | .dict ((.none,.none)::kds)=>if (kds.all fun kd=>mJ kd.1)=true then some (kds.map fun kd=>.tuple [kd.1,kd.2]) else none
 | _=>none
theorem Zn(h:B a=some (.dT ep kvs))(r:Abq K B kds kvs)(hl:(kds.all fun kd=>mJ kd.1)=true):ItD K B (FX a ep kvs.length) (kds.map (·.1)):=fun i H2 x2=>by
 have h2:=x2 _ _ h
 refine⟨fun d hd=>?_,fun e=>⟨kvs,h2,rfl,by rw[← e,cV,r.length]; exact bE _⟩⟩
 rw[dI] at hd
 obtain⟨kd,hk,rfl⟩:=nB.mp hd
 obtain⟨kv,g1,g2,_,g3⟩:=IE r hk
 refine⟨⟨kvs,kv,h2,rfl,g1⟩,?_⟩
 rintro x H3 ⟨rfl,hx⟩
 obtain⟨kv',b,q1,rfl,tk⟩:=hx kvs h2
 have:kv'=kv:=eY (q1.symm.trans g1)
 subst this
 refine⟨Ext.refl,fun P2 hP2 xb=>?_⟩
 show Abk K _ kd.1 _
 have:=VE hl hk
 rw[g2] at this ⊢
 exact SB hP2 this tk
theorem Wf(h:DE X e f):DI X tg e (iKR f):=PI.imp (Vj h) fun σ H R gh=>by
 obtain⟨P,ρ,ds,hP,rs,ef,k⟩:=gh
 obtain⟨d,e1,ef⟩:=XBs ef
 split at ef
 ·obtain⟨hl,rfl⟩:=cX ef
  refine⟨P,ρ,_,hP,rs,e1,dU fun v H1 x1 r1=>?_⟩
  obtain⟨a,kvs,rfl,hq,rr⟩:=(mU).mp r1
  exact⟨a,kvs.1,kvs.2,rfl,Aau _ _ hq,k _ H1 x1 (Zn hq rr hl)⟩
 ·cases ef
theorem Pz(h:B a=some (.dT ep kvs))(r:Abq K B kds kvs)(hl:(kds.all fun kd=>mJ kd.1)=true):ItD K B (GF a ep kvs.length) (kds.map fun kd=>.tuple [kd.1,kd.2]):=fun i H2 x2=>by
 have h2:=x2 _ _ h
 refine⟨fun d hd=>?_,fun e=>⟨kvs,h2,rfl,by rw[← e,cV,r.length]; exact bE _⟩⟩
 rw[dI] at hd
 obtain⟨kd,hk,rfl⟩:=nB.mp hd
 obtain⟨kv,g1,g2,_,g3⟩:=IE r hk
 refine⟨⟨kvs,kv,h2,rfl,g1⟩,?_⟩
 rintro x H3 ⟨T,kv',b,fr,rfl,tk,hx,rfl⟩
 have:kv'=kv:=eY ((hx kvs h2).symm.trans g1)
 subst this
 have ext:Ext H2 (upd H2 T (.tup [.ref b,kv'.2])):=fun b u e=>by rw[dJ (jK e fr)]; exact e
 refine⟨ext,fun P2 hP2 xb=>?_⟩
 have nT : ¬ P2 T:=fun q=>by
  rcases hP2 T q with⟨o,e⟩ | ⟨o,e⟩ <;> rw[fr] at e <;> cases e
 have gT:hid (upd H2 T (.tup [.ref b,kv'.2])) P2 T=some (.tup [.ref b,kv'.2]):=gQ nT fJ
 have xx:Ext B (hid (upd H2 T (.tup [.ref b,kv'.2])) P2):=xb.trans (dD ext)
 have lay:=VE hl hk
 rw[g2] at lay
 refine Aap.mpr ⟨T,_,rfl,gT,Aah.mpr ⟨_,_,rfl,?_,Aah.mpr ⟨_,_,rfl,g3.ext xx,Aan.mpr rfl⟩⟩⟩
 rw[g2]
 exact(SB hP2 lay tk).ext (dD ext)
theorem VX(h:DE X l f)(hbase:pK l "items" X.env (bY l X.env)=bY l X.env:=by rfl)(hline:(apos.endLine == pos.line)=true:=by rfl):DI X (.Tuple es cx tpos) (.Call (.Attribute l "items" apos) [] [] pos) (iDR f):=PI.imp (Os h hbase hline) fun σ H R gh=>by
 obtain⟨P,ρ,ds,hP,rs,ef,k⟩:=gh
 obtain⟨d,e1,ef⟩:=XBs ef
 split at ef
 ·obtain⟨hl,rfl⟩:=cX ef
  refine⟨P,ρ,_,hP,rs,e1,dU fun v H1 x1 r1=>?_⟩
  obtain⟨a,kvs,rfl,hq,rr⟩:=(mU).mp r1
  exact⟨a,kvs.1,kvs.2,rfl,Aau _ _ hq,k _ H1 x1 (Pz hq rr hl)⟩
 ·cases ef
def QB:aA->aA->aA->Option aA
 | .dict ((.none,.none)::kds),.tuple k,x=>if (bU k&&decide (cZ k≤6))=true then some ((iI kds k).getD x) else none
 | _,_,_=>none
def uI (fd fk fx:EF):EF:=fun ρ=>(fd ρ).bind fun d=>(fk ρ).bind fun k=>(fx ρ).bind fun x=>QB d k x
theorem QV {o k z:aT}{fd fx:EF}(hu:X.A.units+40<cLine)(ho:DE X o fd)(hk:DE X k fk)(hz:DE X z fx)(m:M2 X o "get" apos k z cpos:=by exact⟨rfl,rfl,rfl,rfl⟩):DE X (.Call (.Attribute o "get" apos) [k,z] [] cpos) (uI fd fk fx):=
 PE.imp (RZ hu ho hk hz m) fun σ H Q gh=>by
  obtain⟨P,ρ,d,hP,rs,ef,kk⟩:=gh
  obtain⟨d1,e1,ef2⟩:=XBs ef
  obtain⟨d2,e2,ef3⟩:=XBs ef2
  obtain⟨d3,e3,ef4⟩:=XBs ef3
  clear ef ef2 ef3
  unfold QB at ef4
  split at ef4
  ·rename_i kds key
   obtain⟨hc,rfl⟩:=cX ef4
   have hc:bU key=true/\cZ key≤6:=by simpa using hc
   refine⟨P,ρ,_,hP,rs,e1,dU fun v H1 x1 r1=>?_⟩
   obtain⟨q,kvs,rfl,hq,rr⟩:=(mU).mp r1
   refine⟨q,rfl,.inr ⟨kvs.2,kvs.1,.inl (Aau _ _ hq)⟩,P,ρ,_,hP.ext x1,rs.ext (dD x1),e2,dU fun u H2 x2 r2=>⟨P,ρ,_,hP.ext (x1.trans x2),rs.ext (dD (x1.trans x2)),e3,dU fun w H3 x3 r3=>?_⟩⟩
   obtain⟨b,xs,rfl,hb,rx⟩:=Aap.mp (r2.ext (Ext.trans Aau x3))
   refine⟨fV kvs.2 key,.inr ⟨kvs.2,key,b,⟨_,.inl (x3 _ _ (x2 _ _ (Aau _ _ hq)))⟩,rfl,⟨hc.1,hc.2,xs,hb,Aas.keys key hc.1 rx⟩,rfl⟩,kk.zero ((x1.trans x2).trans x3) ?_⟩
   rcases yW hc.1 (rr.ext (dD (x2.trans x3))) with⟨n1,n2⟩ | ⟨d',v',s1,s2,rd⟩
   ·rw[n1,n2]; exact r3
   ·rw[s1,s2]; exact rd
  ·cases ef4
def BO:aA->aA->Option aA
 | .dict ((.none,.none)::kds),.tuple k=>if (bU k&&decide (cZ k≤6))=true then iI kds k else none
 | _,_=>none
theorem Jz {a b:aT}{fa fb:EF}(hu:X.A.units+40<cLine)(ha:DE X a fa)(hb:DE X b fb)(hs:CT b):DE X (.Subscript a b pos) (eOp BO fa fb):=PE.imp (RF hu ha hb hs) fun σ H Q gh=>by
 obtain⟨P,ρ,d,hP,rs,ef,kk⟩:=gh
 obtain⟨d1,e1,ef2⟩:=XBs ef
 obtain⟨d2,e2,ef3⟩:=XBs ef2
 clear ef ef2
 unfold BO at ef3
 split at ef3
 ·rename_i kds key
  obtain⟨hc,ed⟩:=HF ef3
  have hc:bU key=true/\cZ key≤6:=by simpa using hc
  refine⟨P,ρ,_,hP,rs,e1,dU fun v H1 x1 r1=>⟨P,ρ,_,hP.ext x1,rs.ext (dD x1),e2,dU fun u H2 x2 r2=>?_⟩⟩
  obtain⟨q,kvs,rfl,hq,rr⟩:=(mU).mp r1
  obtain⟨c,xs,rfl,hb',rx⟩:=Aap.mp (r2.ext Aau)
  rcases yW hc.1 (rr.ext (dD x2)) with⟨n1,n2⟩ | ⟨d',v',s1,s2,rd⟩
  ·rw[ed] at n1; cases n1
  ·rw[ed] at s1
   cases s1
   exact⟨q,v',rfl,.inr ⟨kvs.2,key,c,⟨_,.inl (x2 _ _ (Aau _ _ hq))⟩,rfl,⟨hc.1,hc.2,xs,hb',Aas.keys key hc.1 rx⟩,s2.symm⟩,kk.zero (x1.trans x2) rd⟩
 ·cases ef3
end
theorem Nf{is:List Int}(hh:A.handled=none)(hl:s.heap.IsList l vs.toArray)(hi:IntsAre vs is)
  (h : ∀ t h' tk,(∀ b o,s.heap.get? b=some o->h'.get? b=some o)->Q (.int is.sum t) { s with heap:=h',toks:=tk }):aM (aU P w) A (call (.builtin "sum") [.ref l]) Q E s:=by
 obtain⟨xs,e⟩:=hi.allInts.items
 have e2:is=numsOf (intItems xs).toList:=by
  rw[← e]
  exact hi.numsOf.symm
 rw[e] at hl
 refine sum_intListG hh hl fun h' tk t' hk=>?_
 have:=h t' h' tk hk
 rw[e2,nums_intItems] at this
 rw[preSum_eq,List.take_of_length_le (by simp)]
 exact this
theorem Zw:lU "sum" = some (.builtin "sum"):=by kernel_rfl
theorem Pm (hc:X.calm=true):Adz X (.builtin "sum") (fun xs H Q=>∃ p,∃ is:List Int,xs=[.ref p]/\SqL X.K H p (is.map V.int)/\Q (.int is.sum) H):=by
 intro pins s σ H xs us Q I r h
 obtain⟨p,is,rfl,hp,q⟩:=h
 obtain⟨u,rfl,ru⟩:=vals1 r
 cases ru
 obtain⟨its,rv,pl,_⟩:=I.list hp
 refine Nf (I.ok.hd hc) pl.isList (PX rv) fun t h' tk hk=>?_
 exact⟨.int is.sum,H,I.kept (t':=tk) fun b o e=>hk b o e,⟨t,rfl⟩,q⟩
def GP:List aA->Option aA
 | [.list ds]=>(rS ds).bind fun is=>some (.int is.sum)
 | _=>none
theorem Qf:CallD K 0 (fun xs H Q=>∃ p,∃ is:List Int,xs=[.ref p]/\SqL K H p (is.map V.int)/\Q (.int is.sum) H) GP:=fun P H xs ds d Q hP r e k=>by
 unfold GP at e
 split at e
 ·obtain⟨is,e1,e2⟩:=XBs e
  cases e2
  obtain rfl:=RE e1
  obtain⟨v,rfl,r'⟩:=fQ r
  obtain⟨q,ys,rfl,hq,rr⟩:=Abl.mp r'
  obtain rfl:=XB rr
  exact⟨q,is,rfl,Aau.sqL hq,k.zero Ext.refl (Aaq.mpr rfl)⟩
 ·cases e
open PySem PySem.SetTable
def lp (mask:Nat)(s:Nat×Nat):Nat->Nat×Nat
 | 0=>s
 | m+1=>leap mask (lp mask s m).1 (lp mask s m).2
open PySem PySem.Spec PyProof.Rows PySem.SetTable
instance memK (k:aI)(acc:List aI):Decidable (k∈acc):=decidable_of_iff (acc.any (fun x=>decide (x=k))=true) (by simp[NW])
section
variable {a b:aT}{g:EF}{kpos:bZ}
def ix2 (c:Int):aA->Option aA
 | .tuple [.list a,.list b]=>if c=0 then some (.list a) else if c=1 then some (.list b) else none
 | _=>none
def rT (c:Int)(f:EF):EF:=fun ρ=>(f ρ).bind (ix2 c)
theorem CN {c:Int}{jj}(h:DF 2 X e f)(hs:CT (.Constant (.int c) jj kpos):=by exact fun _ _=>rfl):DF 1 X (.Subscript e (.Constant (.int c) jj kpos) pos) (rT c f):=
 PE.imp (PN QN h YL hs) fun σ H Q gh=>by
  obtain⟨P,ρ,d,hP,rs,ef,k⟩:=gh
  obtain⟨d2,e1,ef⟩:=XBs ef
  unfold ix2 at ef
  split at ef
  ·rename_i la lb
   refine⟨P,ρ,_,hP,rs,e1,fun v H' Fr xx nd fr r=>?_⟩
   obtain⟨q,p,p',xs,ys,rfl,hq,rfl,hp,hp',r1,r2⟩:=Ek r
   have hq':=(Ac0.mp hq).2
   by_cases c0:c=0
   ·rw[if_pos c0] at ef
    cases ef
    subst c0
    refine .inr (.inl ⟨q,_,0,.ref p,rfl,rfl,SqT.of hq',rfl,k _ _ [p] xx (by simp) (fun z m=>fr z (by rw[bL.mp m]; simp)) (CU hp (r1.ext (iL fun z hz=>?_)))⟩)
    rcases hz with hz | hz
    ·exact .inl hz
    ·exact .inr (by rw[bL.mp hz]; simp)
   ·rw[if_neg c0] at ef
    obtain⟨c1,rfl⟩:=cX ef
    subst c1
    refine .inr (.inl ⟨q,_,1,.ref p',rfl,rfl,SqT.of hq',rfl,k _ _ [p'] xx (by simp) (fun z m=>fr z (by rw[bL.mp m]; simp)) (CU hp' (r2.ext (iL fun z hz=>?_)))⟩)
    rcases hz with hz | hz
    ·exact .inl hz
    ·exact .inr (by rw[bL.mp hz]; simp)
  ·cases ef
def XX (m:Md)(t:BF)(i:Nat)(f:EF):SF:=fun ρ=>(bV m t ρ).bind fun b=>if b=true then kQ i 1 ρ else dB 1 .s f ρ
theorem Xu {c:aT}{t:BF}(m:Md)(i:Nat)(hc:DT X c t)(he:DF 1 X e f)(hN:X.N[i]?=some x:=by rfl)(hv:kK X.env.scope x:=by first | exact aR rfl | exact aX (aR rfl) | exact aX (aX rfl))(hd:(x == ("__debug__" : aC))=false:=by decide)
  (hcd:(x == ("__classdict__" : aC))=false:=by decide):DS X H0 P0 1 (.Return (some (.IfExp c (.Name x px) e kpos)) pos) (XX m t i f):=
 PS.imp (BV (TK (evB (H0:=H0) (P0:=P0) m hc) (mR hN hv hd hcd) (ev (H0:=H0) (P0:=P0) .s he))) fun D σ H gh=>by
  obtain⟨B0,ρ,fp,o,S,ef,k⟩:=gh
  obtain⟨b,e1,ef⟩:=XBs ef
  refine⟨B0,ρ,fp,b,S,e1,fun H1 S1=>?_⟩
  cases b with
  | true=>
   replace ef:kQ i 1 ρ=some o:=by simpa using ef
   unfold kQ at ef
   cases q:ρ[i]? with
   | none=>rw[q] at ef; simp at ef
   | some z=>
    cases z with
    | none=>rw[q] at ef; simp at ef
    | some z=>
     obtain⟨n,d⟩:=z
     rw[q] at ef
     obtain⟨rfl,rfl⟩:=cX ef
     obtain⟨v,h1,h2⟩:=S1.slot i _ d q
     refine rA ⟨v,h1,k v H1 ⟨fp i,S1.ext,S1.nd i,fun a m=>⟨(S1.own i a m).1,?_⟩,h2.keep (iL fun a h=>?_) fun a m=>rfl⟩⟩
     ·rcases(S1.own i a m).2 with⟨xs,e⟩ | ⟨xs,e⟩
      ·exact⟨_,e⟩
      ·exact⟨_,e⟩
     ·rcases h with h | h
      ·exact .inl h
      ·exact .inr ⟨_,h⟩
  | false=>
   replace ef:dB 1 .s f ρ=some o:=by simpa using ef
   obtain⟨d,e2,ef⟩:=XBs ef
   cases ef
   exact qT ⟨B0,ρ,fp,d,S1,e2,fun v H' t=>k v H' t.ret⟩
end
section
variable {σ:St}
theorem WL (k0 d0:aA)(r:List (aA×aA))(k:aI):cN ((k0,d0)::r) k=if cL k0=some k then some d0 else cN r k:=by
 unfold cN
 rw[iT]
 by_cases h:cL k0=some k
 ·rw[if_pos h]; simp[h]
 ·rw[if_neg h]; simp[h]
end
def Ml:V->List V->Hp->VK->Prop:=fun x vs H Q=>∃ d ep kvs k y,x = .ref d/\vs=[kV k,y]/\H d=some (.dK ep kvs)/\kvs.length<sizeLine /\
 ((∃ u,fV kvs k=some u/\Q u H) \/ (fV kvs k=none /\ ∀ n,Q y (upd H d (.dK n (putK kvs k y)))))
theorem Zk:MtM X "dict.setdefault" Ml:=by
 intro pins s σ H x vs v us Q I rx rv h
 obtain⟨d,ep,kvs,k,y,rfl,rfl,e,l,q⟩:=h
 cases rx
 cases rv with
 | cons rk rr=>
  cases rr with
  | cons ry rr=>
   cases rr
   obtain⟨z,hd,ws,rel,dd⟩:=uG I.hok e
   refine call_meetsIn b9 dd.typeIs PySem.F.entry_dict_setdefault (PySem.F.args_dict_setdefault_3 _ _ _) (kt_meets_setdefault (fC X.prog X.w) d (sC rk) hd _) ⟨ws,dd,by rw[← rel.length]; exact z,fun w hw=>?_,fun hn h' dd' sb=>?_⟩
   ·have rl:=rel.val k
    rcases q with⟨u,hu,q⟩ | ⟨hu,q⟩
    ·rw[hu] at rl
     obtain⟨w',e1,e2⟩:=rl.some_of
     have e3:w'=w:=by rw[e1] at hw; exact eY hw
     subst e3
     exact⟨u,H,I.tok _,e2,q⟩
    ·rw[hu] at rl
     have:=rl.none_of
     rw[this] at hw
     cases hw
   ·have rl:=rel.val k
    rcases q with⟨u,hu,q⟩ | ⟨hu,q⟩
    ·rw[hu] at rl
     obtain⟨w',e1,e2⟩:=rl.some_of
     rw[e1] at hn
     cases hn
    ·have hl:(putK kvs k y).length≤sizeLine:=by have:=zH kvs k y; omega
     have he : ∃ q,h'.get? d=some q:=let ⟨q,_,_,hq,_⟩:=dd'; ⟨q,hq⟩
     obtain⟨n,da⟩:=dd'.dictAt
     exact⟨y,_,HZ I (by rw[e]; exact pL) sb he (BZ hl hd (rel.put k ry) da),ry,q n⟩
section
variable {c k v e2:aT}{fc:BF}{fv f2:EF}{y:aC}{p1 p2 p3 ap cp:bZ}{j:Nat}
def sSD (i j:Nat)(mc:Md)(fc:BF)(mk:Md)(fk:EF)(mv:Md)(fv:EF)(m2:Md)(f2:EF):SF:=fun ρ=>(bV mc fc ρ).bind fun b=>if b=true then
  (eV 0 mk fk ρ).bind fun kd=>(eV 0 mv fv ρ).bind fun d=>(cL kd).bind fun key=>(pB j ρ).bind fun kds=>match d with
   | .int n=>if i<ρ.length/\kds.length<sizeLine then some (.nx (match cN kds key with
    | some u=>ρ.set i (some (0,u))
    | none=>(ρ.set j (some (1,.dict (putD kds key (.int n))))).set i (some (0,.int n)))) else none
   | _=>none
 else(eV 0 m2 f2 ρ).bind fun d=>if i<ρ.length then some (.nx (ρ.set i (some (0,d)))) else none
theorem Fi (i j:Nat)(mc mk mv m2:Md)(hN:X.N.Nodup)(hc:DT X c fc)(hk:DE X k fk)(hv:DE X v fv)(he:DE X e2 f2)(hi:X.N[i]?=some x:=by rfl)(hx:kA X.env.scope x:=by first | exact aR rfl | exact aX rfl)
  (hj:X.N[j]?=some y:=by rfl) (hy:kK X.env.scope y:=by first | exact aR rfl | exact aX (aR rfl) | exact aX (aX rfl)) (hd:(y == ("__debug__" : aC))=false:=by decide)
  (hcd:(y == ("__classdict__" : aC))=false:=by decide) (hbase:pK (.Name y p2) "setdefault" X.env (bY (.Name y p2) X.env)=bY (.Name y p2) X.env:=by rfl)
  (hfew:((fX cp (cC (k::[v]) X.env)).all (fun x=>!x.1)&&(AO cp (AJ [] X.env)).all (fun x=>x.1.isSome)
   && decide ((k::[v]).length+([]:List nF).length+(if ([]:List nF).isEmpty then 0 else 1)<30))=true:=by rfl)
  (hline:(ap.endLine == cp.line)=true:=by rfl) (hs:cC (k::[v]) X.env=(false,bY k X.env)::cC [v] X.env:=by rfl) (hs2:cC (v::[]) X.env=(false,bY v X.env)::cC [] X.env:=by rfl) (hplain:(fX cp (cC [v] X.env)).any (·.1)=false:=by rfl)
  (hsw:mZ (.IfExp c (.Call (.Attribute (.Name y p2) "setdefault" ap) [k,v] [] cp) e2 p3) (some (.Name x p1)) pos.line X.env=pure false:=by rfl) (hf:X.fn x=true \/ X.env.scope.names.lookup x=some .local:=by first | exact .inl rfl | exact .inr rfl | assumption) :
  DS X H0 P0 n0 (.Assign [.Name x p1] (.IfExp c (.Call (.Attribute (.Name y p2) "setdefault" ap) [k,v] [] cp) e2 p3) pos) (sSD i j mc fc mk fk mv fv m2 f2):=
 PS.imp (YS hN hi hx (TK (evB (H0:=H0) (P0:=P0) mc hc) (EM c6 b9 PySem.F.type_dict_setdefault Zk (mR hj hy hd hcd) (lM (ev (H0:=H0) (P0:=P0) mk hk) (lM (ev (H0:=H0) (P0:=P0) mv hv) oQ hs2) hs) hbase hfew hline hs hplain) (ev (H0:=H0) (P0:=P0) m2 he)) hsw hf) fun D σ H gh=>by
  obtain⟨B0,ρ,fp,o,S,ef,kk⟩:=gh
  obtain⟨b,e1,ef2⟩:=XBs ef
  refine⟨B0,ρ,fp,b,S,e1,fun H1 S1=>?_⟩
  cases b with
  | false=>
   refine qT ?_
   obtain⟨d,g1,g2⟩:=XBs (show((eV 0 m2 f2 ρ).bind fun d=>if i<ρ.length then some (Out.nx (ρ.set i (some (0,d)))) else none)=some o from ef2)
   obtain⟨hl,rfl⟩:=cX g2
   refine⟨B0,ρ,fp,d,S1,g1,fun u H2 t=>?_⟩
   obtain⟨fp',S'⟩:=t.set hl
   exact kk _ _ fp' S'
  | true=>
   refine rA ?_
   obtain⟨kd,g1,ef3⟩:=XBs (show((eV 0 mk fk ρ).bind fun kd=>(eV 0 mv fv ρ).bind fun d=>(cL kd).bind fun key=>(pB j ρ).bind fun kds=>match d with
    | .int n=>if i<ρ.length/\kds.length<sizeLine then some (Out.nx (match cN kds key with
     | some u=>ρ.set i (some (0,u))
     | none=>(ρ.set j (some (1,.dict (putD kds key (.int n))))).set i (some (0,.int n)))) else none
    | _=>none)=some o from ef2)
   obtain⟨d,g2,ef4⟩:=XBs ef3
   obtain⟨key,g3,ef5⟩:=XBs ef4
   obtain⟨kds,g4,ef6⟩:=XBs ef5
   clear ef ef2 ef3 ef4 ef5
   cases d with
   | int n=>
    obtain⟨⟨hl,hz⟩,rfl⟩:=cX ef6
    obtain⟨p,ep,xs,h1,h2,_,_⟩:=S1.dic1 (DM g4)
    refine⟨.ref p,h1,.inr (.inr (.inl ⟨rfl,.inl ⟨ep,xs,h2⟩⟩)),B0,ρ,fp,kd,S1,g1,fun v1 H2 gh=>?_⟩
    obtain⟨fp2,S2,r2⟩:=gh
    have ev1:v1=kV key:=pA g3 r2.2
    refine⟨B0,ρ,fp2,.int n,S2,g2,fun v2 H3 gh=>?_⟩
    obtain⟨fp3,S3,r3⟩:=gh
    have ev2:v2 = .int n:=Aaq.mp r3.2
    subst ev1 ev2
    obtain⟨p3,ep3,xs3,q1,q2,q3,q4⟩:=S3.dic1 (DM g4)
    have:p3=p:=by rw[h1] at q1; cases q1; rfl
    subst this
    refine⟨p3,ep3,xs3,key,.int n,rfl,rfl,q2,by rw[q3.length]; exact hz,?_⟩
    rcases vH (k:=key) q3 with⟨n1,n2⟩ | ⟨d',v',s1,s2,rd⟩
    ·refine .inr ⟨n2,fun m=>?_⟩
     rw[n1] at kk
     have S4:=q4 m _ _ (HJ (k:=key) (d:=.int n) (v:=.int n) q3 (Aaq.mpr rfl))
     obtain⟨fp',S'⟩:=S4.set0 (i:=i) (d:=.int n) (v:=.int n) (Aaq.mpr rfl) (by simpa using hl)
     exact kk _ _ fp' S'
    ·refine .inl ⟨v',s2,?_⟩
     rw[s1] at kk
     obtain⟨fp',S'⟩:=S3.set0 (i:=i) rd hl
     exact kk _ _ fp' S'
   | _=>cases ef6
end
section
variable {σ:St}{j:Nat}
def AL (σ:St)(H:Hp)(i j:Nat)(k:aI):Prop:=∃ p ep xs q,σ[i]?=some (some (.ref p))/\H p=some (.dK ep xs)/\fV xs k=some (.ref q)/\σ[j]?=some (some (.ref q))
theorem AL.set {k:aI}{l:Nat}(h:AL σ H i j k)(hi:l≠i)(hj:l≠j):AL (σ.set l (some v)) H i j k:=by
 obtain⟨p,ep,xs,q,h1,h2,h3,h4⟩:=h
 exact⟨p,ep,xs,q,by rw[nE hi]; exact h1,h2,h3,by rw[nE hj]; exact h4⟩
end
abbrev pY (h:aZ)(r l:aD)(i:Int):Prop:=h.get? r=some { cls:=.type "reversed",dict:=none,data:=.fields #[.ref l,eU i],slots:=#[] }
theorem Adw:PySem.Slot "reversed" "__next__" "reversed.__next__":=
 .of (owner:="reversed") (n:="__next__") (by rw[wG,wM]; kernel_rfl) (by decide +kernel) (by decide +kernel) (by decide +kernel)
  (by first | exact .inl (by decide +kernel) | exact .inr (by decide +kernel)) (by rw[wK]; kernel_rfl)
theorem XS:entryFor table "reversed.__next__" = some Builtin.«reversed.__next__»:=Ax (by kernel_rfl)
theorem UK:Manifest.owners.lookup (String.ofList "reversed".toList.reverse.reverse)=some Manifest.sig_reversed:=by kernel_rfl
theorem XJ (a:aE):argsOk "reversed.__next__" ⟨[a],[]⟩:=by
 unfold argsOk
 rw[signature?_of (id:="reversed.__next__") (n:="__next__".toList.reverse) (o:="reversed".toList.reverse) (by kernel_rfl) UK]
 kernel_rfl
theorem XQ:PySem.Slot "reversed" "__iter__" "reversed.__iter__":=
 .of (owner:="reversed") (n:="__iter__") (by rw[wG,wM]; kernel_rfl) (by decide +kernel) (by decide +kernel) (by decide +kernel)
  (by first | exact .inl (by decide +kernel) | exact .inr (by decide +kernel)) (by rw[wK]; kernel_rfl)
theorem Up:entryFor table "reversed.__iter__" = some Builtin.«dict_keyiterator.__iter__»:=
 entryFor_alias (id':="dict_keyiterator.__iter__") (by kernel_rfl) (by first | rfl | decide +kernel | (unfold String.splitOn; simp +decide [String.splitOnAux])) (by decide +kernel) (by kernel_rfl)
theorem Tu (a:aE):argsOk "reversed.__iter__" ⟨[a],[]⟩:=by
 unfold argsOk
 rw[signature?_of (id:="reversed.__iter__") (n:="__iter__".toList.reverse) (o:="reversed".toList.reverse) (by kernel_rfl) UK]
 kernel_rfl
theorem Xr{Q:Option aE->aJ->Prop}(hr:pY s.heap r l (k:Int))(hl:IsTup s.heap l us)(hz:us.size≤sizeLine)(hu:us[k]?=some u)
  (q : ∀ h' t',pY h' r l ((k:Int) - 1)->nH r s.heap h'->Q (some u) { s with heap:=h',toks:=t' }):aM (aU P w) A (fW (.ref r)) Q E s:=by
 have ty:s.TypeIs (.ref r) "reversed":=⟨_,hr,rfl⟩
 unfold fW
 refine aF (rD (mY (name:=lV "__next__") ty Adw (iN Adw ty XS ?_ (XJ _))))
 show aM _ _ (lT (.ref r) 0 >>= _) _ _ s
 refine aF (fS hr rfl (x:=.ref l) rfl ?_)
 show aM _ _ (lT (.ref r) 1 >>= _) _ _ s
 refine aF (fS hr rfl (x:=eU k) rfl ?_)
 have h0 : ¬ ((k:Int)<0):=by omega
 show aM _ _ (if (k:Int)<0 then _ else _) _ _ s
 rw[if_neg h0]
 have tt:s.TypeIs (.ref l) "tuple":=by
  obtain⟨o,e,c,_⟩:=hl
  exact⟨o,e,c⟩
 show aM _ _ (specialOf (.ref l) (lV "__getitem__") >>= _) _ _ s
 refine aF (AD tt F.slot_tuple_getitem.lookup ?_)
 show aM _ _ (mkInt (k:Int) >>= _) _ _ s
 refine aF (wpAny_mkInt ?_)
 have hk:k<us.size:=(Array.getElem?_eq_some_iff.mp hu).1
 have hb:(us.size:Int)<2 ^ 63:=by
  have:us.size≤sizeLine:=hz
  unfold sizeLine at this
  omega
 refine aF (rD (PyProof.Rows.getItem_tuple hl (j:=k) (x:=u) (by omega) (by omega) ?_ hu ?_))
 ·unfold seqIndex?
  simp only
  rw[if_neg h0]
  simp[hk]
 show aM _ _ (lT (.ref r) 1 >>= _) _ _ _
 refine aF (fS hr rfl (x:=eU k) rfl ?_)
 show aM _ _ (setField (.ref r) 1 (eU ((k:Int) - 1)) >>= _) _ _ _
 refine aF (kY hr (by simp) fun h' g sb=>aP ⟨u,rfl,aP (q h' _ g sb)⟩)
theorem Yc{i:Int}{Q:Option aE->aJ->Prop}(hh:A.handled=none)(hr:pY s.heap r l i)(h0:i<0)(q : ∀ h',(∀ b o,b≠r->s.heap.get? b=some o->h'.get? b=some o)->Q none { s with heap:=h' }):aM (aU P w) A (fW (.ref r)) Q E s:=by
 have ty:s.TypeIs (.ref r) "reversed":=⟨_,hr,rfl⟩
 unfold fW
 refine aF (rD (mY (name:=lV "__next__") ty Adw (iN Adw ty XS ?_ (XJ _))))
 show aM _ _ (lT (.ref r) 0 >>= _) _ _ s
 refine aF (fS hr rfl (x:=.ref l) rfl ?_)
 show aM _ _ (lT (.ref r) 1 >>= _) _ _ s
 refine aF (fS hr rfl (x:=eU i) rfl ?_)
 show aM _ _ (if i<0 then _ else _) _ _ s
 rw[if_pos h0]
 refine aF (rC (aF (aF ?_)))
 refine kY hr (by simp) fun h1 g1 sb1=>?_
 refine kY g1 (by simp) fun h2 g2 sb2=>?_
 refine aF ?_
 show aM _ _ (sZ (.type "StopIteration") [] >>= _) _ _ _
 refine aF ?_
 simp only[sZ,newTuple]
 refine aF (jM ?_ (by size_fits))
 refine aF (m:=tH _ _) (EY (a:=dP) (by first | rfl | (simp only[tH]; rfl)) ?_)
 refine jM ?_ (by size_fits)
 simp only[raiseNew]
 refine aF (MM ?_)
 first | rw[show A.in1.handled=none from hh] | rw[hh]
 refine aF (aP (MG ?_))
 refine aF (AE (T:="StopIteration") (b:=true) ⟨_,dA _ rfl,rfl⟩ MS ?_)
 exact aP (q _ fun b o nb e=>bW _ (bW _ (sb2.extBut b o nb (sb1.extBut b o nb e))))
theorem SU{i:Int}(hr:pY s.heap r l i)(q:Q (.ref r) s):aM (aU P w) A (lR (.ref r)) Q E s:=by
 have ty:s.TypeIs (.ref r) "reversed":=⟨_,hr,rfl⟩
 refine MH ty XQ (iN XQ ty Up ?_ (Tu _))
 show aM _ _ (ret (.ref r)) _ _ s
 exact aP ⟨_,rfl,"reversed",_,ty,Adw.lookup,q⟩
theorem Tc{Q₁:aE->aJ->Prop}(hl:IsTup s.heap l us)(hz:us.size≤sizeLine)
  (q : ∀ t',Q₁ (.ref s.heap.objs.size) { s with heap:=s.heap.push { cls:=.type "reversed",data:=.fields #[.ref l,eU ((us.size:Int) - 1)] },toks:=t' }) :
  oB (aU P w) A (.call (.builtin "reversed.__new__") ⟨[.type "reversed",.ref l],[]⟩) (wants Q₁ E) s:=by
 have hsub:isSubtype (.type "reversed") (.type "reversed")=pure true:=by rw[wK]; kernel_rfl
 refine codeAny_call_builtin (by decide +kernel) (Ax (by kernel_rfl):entryFor table "reversed.__new__" = some Builtin.«reversed.__new__») (EY (show checkBuiltinCall "reversed.__new__" ⟨[.type "reversed",.ref l],[]⟩=pure () by kernel_rfl) ?_)
 have ty:s.TypeIs (.ref l) "tuple":=hl.typeIs
 have hb:(us.size:Int)<2 ^ 63:=by
  have:us.size≤sizeLine:=hz
  unfold sizeLine at this
  omega
 have f1:AI (.type "tuple") "__reversed__" = pure none:=by rw[wG,wM]; kernel_rfl
 have f2:isSubtype (.type "tuple") (.type "dict")=pure false:=by rw[wK]; kernel_rfl
 have f3:=F.slot_tuple_getitem.lookup
 unfold Builtin.«reversed.__new__»
 iterate 33 wp_step
 refine PyProof.Rows.len_tuple hl hb ?_
 refine aF (aP ?_)
 show aM _ _ (newObj (.type "reversed") (.fields #[.ref l,eU ((us.size:Int) - 1)]) >>= _) _ _ _
 refine aF (jM ?_ (by size_fits))
 exact aP (q _)
theorem Tt:PySem.Slot "reversed" "__init__" "object.__init__":=
 .of (owner:="object") (n:="__init__") (by rw[wG,wM]; kernel_rfl) (by decide +kernel) (by decide +kernel) (by decide +kernel)
  (by first | exact .inl (by decide +kernel) | exact .inr (by decide +kernel)) (by rw[wK]; kernel_rfl)
theorem Aj9:TypeCalled "reversed" "reversed.__new__" "object.__init__":=by
 have mro:mroOf (.type "reversed")=pure [.type "reversed",.type "object"]:=by rw[mroOf_type]; kernel_rfl
 have lk:AI (.type "reversed") "__new__" = pure (some (.builtin "reversed.__new__")):=by rw[wG,wM]; kernel_rfl
 exact⟨by decide +kernel,by decide +kernel,⟨_,_,mro⟩,madeBy_type mro lk (by decide +kernel),by decide +kernel,by rw[wK]; kernel_rfl,Tt⟩
theorem Ux(hl:IsTup s.heap l us)(hz:us.size≤sizeLine)
  (q : ∀ t',Q (.ref s.heap.objs.size) { s with heap:=s.heap.push { cls:=.type "reversed",data:=.fields #[.ref l,eU ((us.size:Int) - 1)] },toks:=t' }):aM (aU P w) A (call (.type "reversed") [.ref l]) Q E s:=by
 refine MT (Q₁:=fun u s1=>u = .ref s.heap.objs.size /\ ∃ t',s1 = { s with heap:=s.heap.push { cls:=.type "reversed",data:=.fields #[.ref l,eU ((us.size:Int) - 1)] },toks:=t' }) Aj9 (by kernel_rfl) F.entry_object_init (Tc hl hz (fun t'=>⟨rfl,t',rfl⟩)) fun obj s₁ h₁=>?_
 obtain⟨rfl,t',rfl⟩:=h₁
 have ty:Shared.TypeIs { s with heap:=s.heap.push { cls:=.type "reversed",data:=.fields #[.ref l,eU ((us.size:Int) - 1)] },toks:=t' } (.ref s.heap.objs.size) "reversed":=⟨_,dA _ rfl,rfl⟩
 refine⟨ty,F.args_object_init_2 _ _,?_⟩
 exact object_init_meets Aj9.init.lookup Aj9.made (by decide) P w A.in1 _ _ ⟨ty,rfl,q t'⟩
def FT (K:aK)(a:aD)(n:Nat):It:=
 ⟨fun i H=>∃ xs,SqT K H a xs/\xs.length=n/\i<n,fun i H x H'=>H'=H /\ ∀ xs,SqT K H a xs->xs[n - 1 - i]?=some x,fun i H=>n≤i⟩
theorem Wn(a r:aD)(n:Nat):Turn P w K tg (FT K a n) [r] r (fun i h=>pY h r a ((n:Int) - 1 - i)) where
 mem:=bL.mpr rfl
 obj:=fun i h st b hb=>by
  rw[bL.mp hb]
  exact⟨_,st,fun v z=>by
   have z':Data.fields _=Data.cell v:=z
   cases z'⟩
 keep:=fun i h h' st k=>k r (bL.mpr rfl) _ st
 item:=by
  intro X hP hw hK hc i pins s σ H E I hf st hg
  subst hP hw hK
  obtain⟨xs,hq,hn,hi⟩:=hg
  obtain⟨its,rv,p,hz⟩:=I.tuple hq
  have hl:xs.length=its.length:=rv.length
  obtain⟨x,hx⟩ : ∃ x,xs[n - 1 - i]?=some x:=⟨_,jY (by omega)⟩
  obtain⟨u,hu,ru⟩:=rv.get hx
  have ei:((n:Int) - 1 - i)=((n - 1 - i:Nat):Int):=by omega
  rw[ei] at st
  refine Xr st p (by rw[dX,← hl]; exact hz) (u:=u) (by simpa using hu) fun h' t' st' sb=>?_
  have I1:Inv X pins σ H { s with heap:=h',toks:=t' }:=I.turnM (t':=t') hf fun b o nb e=>sb.extBut b o (fun q=>nb (bL.mpr q)) e
  have st2:pY h' r a ((n:Int) - 1 - ((i+1:Nat):Int)):=by
   have e2:((n:Int) - 1 - ((i+1:Nat):Int))=((n - 1 - i:Nat):Int) - 1:=by omega
   rw[e2]
   exact st'
  exact⟨u,rfl,sG (s:={ s with heap:=h',toks:=t' }) (n:="reversed") st2 rfl rfl (by decide) ⟨x,H,I1,ru,⟨rfl,fun xs' h=>by rw[I.tuple_inj h hq]; exact hx⟩,st2,fun b hb=>(hf b hb).1⟩⟩
 done:=by
  intro X hP hw hK hc i pins s σ H E I hf st hg
  subst hP hw hK
  have hg':n≤i:=hg
  exact Yc (I.ok.hd hc) st (by omega) fun h' eb=>⟨rfl,I.turnM (t':=s.toks) hf fun b o nb e=>eb b o (fun q=>nb (bL.mpr q)) e⟩
 self:=fun _ _ _ _ _ st h=>SU st h
section
variable {a:aT}{p:bZ}
def Fj (K:aK)(ta:TA):TI:=fun σ H R=>ta σ H fun vs H1=>∃ a1 xs,vs=[.ref a1]/\SqT K H1 a1 xs/\R (FT K a1 xs.length) H1
theorem Ib {ta:TA}(hg:Gl X "reversed")(hm:X.mg "reversed" = none)(ha:PA X [a] ta)(hs:cC [a] X.env=[(false,bY a X.env)]:=by rfl):PI X tg (.Call (.Name "reversed" p) [a] [] pos) (Fj X.K ta):=by
 intro pins s σ H R I h
 refine Call_ (uK I hg hm boot_reversed (MU (thn (ha pos pins s σ H _ I h) fun us s1 ⟨vs,H1,I1,r1,q1⟩=>?_) hs (by rfl)))
 obtain⟨a1,xs,rfl,k1,q⟩:=q1
 obtain⟨u,rfl,ru⟩:=vals1 r1
 cases ru
 obtain⟨its,rv,ho,hz⟩:=I1.tuple k1
 have hl:xs.length=its.length:=rv.length
 refine Ux ho (by rw[dX,← hl]; exact hz) fun t'=>?_
 have g:pY (s1.heap.push { cls:=.type "reversed",data:=.fields #[.ref a1,eU ((its.toArray.size:Int) - 1)] }) s1.heap.objs.size a1 ((its.toArray.size:Int) - 1):=dA _ rfl
 refine SU g ?_
 refine⟨s1.heap.objs.size,[s1.heap.objs.size],_,_,H1,rfl,I1.kept (t':=t') fun b o e=>bW _ e,Wn a1 _ xs.length,?_,fun b hb=>?_,q⟩
 ·have e:((xs.length:Int) - 1 - ((0:Nat):Int))=((its.toArray.size:Int) - 1):=by
   rw[dX,hl]
   simp
  show pY _ _ _ ((xs.length:Int) - 1 - ((0:Nat):Int))
  rw[e]
  exact g
 ·rw[bL.mp hb]
  exact I1.fpOk (bE _) (I1.hok.fresh (bE _))
def iRw (fa:AF):AF:=fun ρ=>(fa ρ).bind fun ds=>match ds with
 | [.tuple xs]=>some xs.reverse
 | _=>none
theorem Oe{a1:aD}(h1 : ∀ H2,Ext B H2->SqT K H2 a1 xs)(r1:Aas K B ds xs):ItD K B (FT K a1 xs.length) ds.reverse:=fun i H2 x2=>by
 have hl:=r1.length
 refine⟨fun d hd=>?_,fun e=>?_⟩
 ·have hi:i<ds.length:=by
   have:=(dR.mp hd).1
   simpa using this
  rw[List.getElem?_reverse hi] at hd
  obtain⟨v1,g1,g2⟩:=r1.get hd
  refine⟨⟨xs,h1 H2 x2,rfl,by omega⟩,?_⟩
  rintro x H3 ⟨rfl,hx⟩
  have:=hx xs (h1 _ x2)
  rw[hl] at this
  obtain rfl:v1=x:=eY (g1.symm.trans this)
  exact⟨Ext.refl,fun P2 _ xb=>g2.ext xb⟩
 ·have e':ds.length=i:=by simpa using e
  show xs.length≤i
  omega
theorem Ir {fa:AF}(hg:Gl X "reversed")(hm:X.mg "reversed" = none)(ha:DA X [a] fa)(hs:cC [a] X.env=[(false,bY a X.env)]:=by rfl) :
  DI X tg (.Call (.Name "reversed" p) [a] [] pos) (iRw fa):=PI.imp (Ib hg hm ha hs) fun σ H R gh=>by
 obtain⟨P,ρ,ds,hP,rs,ef,k⟩:=gh
 obtain⟨as,e1,ef2⟩:=XBs ef
 clear ef
 split at ef2
 ·cases ef2
  refine⟨P,ρ,_,hP,rs,e1,fun vs H1 x1 r1=>?_⟩
  obtain⟨v,rfl,q1⟩:=fQ r1
  obtain⟨a1,xs,rfl,hr,rr⟩:=Aap.mp q1
  exact⟨a1,xs,rfl,Aau.sqT (.inl (.inl hr)),k _ H1 x1 (Oe (fun H2 x2=>x2.sqT (.inl (.inl hr))) rr)⟩
 ·cases ef2
end
open PySem PySem.W PySem.Calls PyProof.Rows Att
def xU (ns:List Int):Prop:=∀ x∈ns,mH x≤1048576
theorem weigh : ∀ {ns:List Int} {x:Int},x∈ns->mH x≤WData.weightAll (ns.map WData.int)
 | n::ns,x,m=>by
  rw[dF,WData.weightAll]
  have e:WData.weight (.int n)=mH n:=by
   rw[WData.weight]
   rfl
  rcases cU.mp m with rfl | m
  ·rw[e]; omega
  ·have:=weigh m
   omega
theorem Vk {ns:List Int}(h:WData.layableAll [WData.list (ns.map WData.int)]=true):xU ns:=fun x m=>by
 have h1:WData.layable (.list (ns.map .int))=true:=by simpa [WData.layableAll] using h
 have h2:WData.weight (.list (ns.map WData.int))≤2 ^ 20:=of_decide_eq_true (iU.mp h1).2
 rw[WData.weight] at h2
 have:=weigh m
 omega
theorem Tn {l:OpenLaw}{q:bT}{loose:List aC}{XP:(aC->Option aE)->aZ->Prop}{YP:bI->aZ->Prop}{d:DefRec}
  (hn:l.most=some n) (hdf:d.params.defaults=[])
  (call : ∀ (w:bI) (s₀ s₁:aJ) (mg mb:aC->Option aE) (fa:aD) (o:bH) (pm cd doc:aE) (a:aD) (vs:List aE) (ns:List Int),
   xU ns->Ground q loose [] XP w s₀ mg mb s₁.heap->YP w s₁.heap ->
   s₁.heap.get? fa=some o->o.data = .func (docDef d.name d.params d.body d.scope pm cd doc)->s₁.heap.CodeRec cd d.name->mg d.name=some (.ref fa) ->
   s₁.heap.get? a=some { cls:=.type "list",data:=.seq vs.toArray }->IntsAre vs ns->ns.length≤n->s₁.gens = #[] ->
   oB (aU l.prog w) wL (.call (.ref fa) ⟨[.ref a],[]⟩) (fun r s'=>r = .ok (.ret (.bool true))/\OldK s₁.heap s'.heap/\s'.os=s₁.os/\rM s'.gens) s₁) :
  WalkO q loose XP YP l.row.toRowW d [] (fun f vs=>PySem.call f vs):=by
 intro w s₀ s₁ mg mb G Y fa o pm cd doc dV kV ho hd hcd hD hmg hg args vals as hpre hlay hrd hwl hlo
 obtain rfl:dV = .none:=Dflts.none hD hdf
 obtain rfl:kV = .none:=Dflts.noKw hD
 obtain⟨a,vs,ns,rfl,rfl,hobj,hints,hlen⟩:=Pe hn hpre hwl
 refine enter_call (codeAny_mono (call w s₀ s₁ mg mb fa o pm cd doc a vs ns (Vk hlay) G Y ho (fd_plain hd) hcd hmg hobj hints hlen hg) fun r s' hq=>?_)
 obtain⟨rfl,h2,h3,h4⟩:=hq
 exact⟨.inl ⟨.bool true,.bool true,[],rfl,fun _=>rfl,.bool true,Pp l _,fun _=>⟨List.Pairwise.nil,fun _ hm=>(nomatch hm)⟩⟩,h2,h3,h4⟩
theorem A6x {l:Bf}{q:bT}{loose:List aC}{XP:(aC->Option aE)->aZ->Prop}{YP:bI->aZ->Prop}{d:DefRec}{K:Params->aK}{CX:bI->CXT}{sp:bI->Sp}
  (hn:l.most=some n) (hn2:n≤sizeLine) (hdf:d.params.defaults=[]) (hr:Room k wL)
  (hY : ∀ (w:bI) (h:aZ),YP w h->(K w.params).In h)
  (F : ∀ (w:bI) (mg:aC->Option aE) (fa:aD) (h:aZ),(K w.params).In h->h.Ns dM mg->mg d.name=some (.ref fa) ->
   ∃ fd:gV,(∀ (s:aJ) (u:aE),BindsTo s fd ⟨[u],[]⟩ [(x,u)]) /\
    ∀ base:aZ,(K w.params).In base->base.Ns dM mg->FnOk l.prog w (K w.params) mg base (CX w) k fa fd [x] (sp w))
  (hsp : ∀ (w:bI) (H:Hp) (a:aD) (ns:List Int),xU ns->ns.length≤n->Only H->SqL (K w.params) H a (ns.map V.int)->sp w [.ref a] H (fun v _=>v = .bl true) fun _ _ _=>False)
  (hCX : ∀ (w:bI) (H:Hp) (s:aJ) (e:aE) (s':aJ),CX w [] H s (fun _ _ _=>False) e s'->False) :
  PySem.W.WalkO q loose XP YP l.row.toRowW d [] (fun f vs=>PySem.call f vs):=by
 refine Tn hn hdf fun w s₀ s₁ mg mb fa o pm cd doc a vs ns hB G Y ho hd hcd hmg hobj hints hlen hg=>?_
 have KX:=hY w _ Y
 obtain⟨fd,hb,hF⟩:=F w mg fa _ KX G.T.g hmg
 exact Wx KX G.T.g G.T.b G.T.builtins G.T.nolimit hg hobj hints (eO hlen hn2) hr hF hb (fun H hO hS=>hsp w H a ns hB hlen hO hS) fun H e s'=>hCX w H s₁ e s'
def jO:aA->aA->Option aA:=g2C (fun i j=>(i.natAbs<2 ^ 64 \/ j.natAbs<2 ^ 64) \/ mH i+mH j≤134217728) fun i j=>.int (i*j)
section
variable {a b:aT}{fa fb:EF}
theorem Mq:OpR X (kH .Mult) (rI (fun i j=>(i.natAbs<2 ^ 64 \/ j.natAbs<2 ^ 64) \/ mH i+mH j≤134217728) fun i j=>.int (i*j)):=by
 intro pins s σ H x y v u Q I rx ry ⟨i,j,ex,ey,hc,q⟩
 rcases hc with hc | hc
 ·exact VC pins s σ H x y v u Q I rx ry ⟨i,j,ex,ey,.inl hc,q⟩
 ·exact opI (fun i j _ _ _ _ _ hc q=>mul_int q (c8 (bE _) (bE _) hc)) pins s σ H x y v u Q I rx ry ⟨i,j,ex,ey,hc,q⟩
theorem qJ (ha:DE X a fa)(hb:DE X b fb):DE X (.BinOp a .Mult b pos) (eOp jO fa fb):=qB Mq (AB (fun _ _ h=>h) fun _ _ _=>Aaq.mpr rfl) ha hb
end
end L2
namespace Aw
open PySem L2
def top (i:Nat):cB:=PySem.Challenge.pw_askwithin_k30_many_more_than_listed.main.body.getD i (.Pass ⟨0,0,0,0⟩)
abbrev KJ:cB:=top 4
abbrev Re:List aC:=["lines","names","line","term"]
abbrev vV:List aC:=["lines"]
theorem Alh:FnScope Re vV (bX KJ):=⟨rfl,rfl,rfl,by decide +kernel,rfl,by decide +kernel,by decide +kernel⟩
abbrev CW:cB:=top 5
abbrev SR:List aC:=["terms","known"]
abbrev uY:List aC:=["terms","known"]
theorem Aqz:FnScope SR uY (bX CW):=⟨rfl,rfl,rfl,by decide +kernel,rfl,by decide +kernel,by decide +kernel⟩
abbrev CV:cB:=top 7
abbrev UD:List aC:=["lines","k","elsewhere"]
abbrev yN:List aC:=["lines","k"]
theorem Arh:FnScope UD yN (bX CV):=⟨rfl,rfl,rfl,by decide +kernel,rfl,by decide +kernel,by decide +kernel⟩
abbrev zI:cB:=top 8
abbrev KN:List aC:=["lines","left","k","wanted","j"]
abbrev zK:List aC:=["lines","left","k"]
theorem Akl:FnScope KN zK (bX zI):=⟨rfl,rfl,rfl,by decide +kernel,rfl,by decide +kernel,by decide +kernel⟩
abbrev KR:cB:=top 9
abbrev Sy:List aC:=["lines","left","k","parent"]
abbrev zR:List aC:=["lines","left"]
theorem Akn:FnScope Sy zR (bX KR):=⟨rfl,rfl,rfl,by decide +kernel,rfl,by decide +kernel,by decide +kernel⟩
abbrev LV:cB:=top 10
abbrev Jy:List aC:=["lines","taken","left","ear"]
abbrev qG:List aC:=["lines"]
theorem A0m:FnScope Jy qG (bX LV):=⟨rfl,rfl,rfl,by decide +kernel,rfl,by decide +kernel,by decide +kernel⟩
abbrev MA:cB:=top 11
abbrev Gh:List aC:=["lines","rest"]
abbrev xR:List aC:=["lines"]
theorem A0u:FnScope Gh xR (bX MA):=⟨rfl,rfl,rfl,by decide +kernel,rfl,by decide +kernel,by decide +kernel⟩
abbrev GW:cB:=top 14
abbrev Ho:List aC:=["line","row","known","found","term","number","wanted"]
abbrev sL:List aC:=["line","row","known"]
theorem A4b:FnScope Ho sL (bX GW):=⟨rfl,rfl,rfl,by decide +kernel,rfl,by decide +kernel,by decide +kernel⟩
abbrev JZ:cB:=top 15
abbrev Pi:List aC:=["book","line"]
abbrev vJ:List aC:=["book","line"]
theorem Anq:FnScope Pi vJ (bX JZ):=⟨rfl,rfl,rfl,by decide +kernel,rfl,by decide +kernel,by decide +kernel⟩
abbrev JT:cB:=top 16
abbrev Ou:List aC:=["rows","number","own"]
abbrev yY:List aC:=["rows"]
theorem Ant:FnScope Ou yY (bX JT):=⟨rfl,rfl,rfl,by decide +kernel,rfl,by decide +kernel,by decide +kernel⟩
abbrev LI:cB:=top 17
abbrev Uc:List aC:=["rows"]
abbrev zV:List aC:=["rows"]
theorem Ah0:FnScope Uc zV (bX LI):=⟨rfl,rfl,rfl,by decide +kernel,rfl,by decide +kernel,by decide +kernel⟩
abbrev EG:cB:=top 18
abbrev XD:List aC:=["book","lines"]
abbrev zT:List aC:=["book","lines"]
theorem Ah6:FnScope XD zT (bX EG):=⟨rfl,rfl,rfl,by decide +kernel,rfl,by decide +kernel,by decide +kernel⟩
abbrev KD:cB:=top 19
abbrev Rb:List aC:=["found","line","rows","told","known","row","more"]
abbrev zF:List aC:=["found","line","rows"]
theorem Amt:FnScope Rb zF (bX KD):=⟨rfl,rfl,rfl,by decide +kernel,rfl,by decide +kernel,by decide +kernel⟩
abbrev IM:cB:=top 20
abbrev Vt:List aC:=["lines","rows","found","line","own"]
abbrev yT:List aC:=["lines","rows"]
theorem Aqj:FnScope Vt yT (bX IM):=⟨rfl,rfl,rfl,by decide +kernel,rfl,by decide +kernel,by decide +kernel⟩
abbrev DR:cB:=top 22
abbrev UJ:List aC:=["book","line"]
abbrev yV:List aC:=["book","line"]
theorem An0:FnScope UJ yV (bX DR):=⟨rfl,rfl,rfl,by decide +kernel,rfl,by decide +kernel,by decide +kernel⟩
abbrev EE:cB:=top 23
abbrev XI:List aC:=["book","lines"]
abbrev zW:List aC:=["book","lines"]
theorem Ah1:FnScope XI zW (bX EE):=⟨rfl,rfl,rfl,by decide +kernel,rfl,by decide +kernel,by decide +kernel⟩
abbrev ED:cB:=top 24
abbrev XE:List aC:=["book","lines"]
abbrev zU:List aC:=["book","lines"]
theorem Ah2:FnScope XE zU (bX ED):=⟨rfl,rfl,rfl,by decide +kernel,rfl,by decide +kernel,by decide +kernel⟩
abbrev DB:cB:=top 25
abbrev RU:List aC:=["line","other"]
abbrev yU:List aC:=["line","other"]
theorem Arm:FnScope RU yU (bX DB):=⟨rfl,rfl,rfl,by decide +kernel,rfl,by decide +kernel,by decide +kernel⟩
abbrev JF:cB:=top 26
abbrev Wv:List aC:=["line","row","names"]
abbrev vE:List aC:=["line","row","names"]
theorem Asj:FnScope Wv vE (bX JF):=⟨rfl,rfl,rfl,by decide +kernel,rfl,by decide +kernel,by decide +kernel⟩
abbrev zG:cB:=top 27
abbrev KW:List aC:=["lines","kept","rest"]
abbrev zP:List aC:=["lines","kept"]
theorem Akv:FnScope KW zP (bX zG):=⟨rfl,rfl,rfl,by decide +kernel,rfl,by decide +kernel,by decide +kernel⟩
abbrev IR:cB:=top 28
abbrev Wp:List aC:=["line","counts","names","sums","row","number","key"]
abbrev yS:List aC:=["line","counts","names"]
theorem Aqn:FnScope Wp yS (bX IR):=⟨rfl,rfl,rfl,by decide +kernel,rfl,by decide +kernel,by decide +kernel⟩
abbrev CH:cB:=top 29
abbrev ZY:List aC:=["line","counts","names","sums"]
abbrev yF:List aC:=["line","counts","names","sums"]
theorem Au9:FnScope ZY yF (bX CH):=⟨rfl,rfl,rfl,by decide +kernel,rfl,by decide +kernel,by decide +kernel⟩
abbrev zY:cB:=top 30
abbrev LL:List aC:=["lines","kept","told","ear","parent","names"]
abbrev zZ:List aC:=["lines","kept"]
theorem Agt:FnScope LL zZ (bX zY):=⟨rfl,rfl,rfl,by decide +kernel,rfl,by decide +kernel,by decide +kernel⟩
abbrev MB:cB:=top 31
abbrev Hw:List aC:=["book","lines","counts","rest","total","known","number","k"]
abbrev xX:List aC:=["book","lines"]
theorem Azh:FnScope Hw xX (bX MB):=⟨rfl,rfl,rfl,by decide +kernel,rfl,by decide +kernel,by decide +kernel⟩
abbrev KU:cB:=top 33
abbrev Sg:List aC:=["_law_script","_law_k"]
abbrev qS:List aC:=["_law_script","_law_k"]
theorem Akx:FnScope Sg qS (bX KU):=⟨rfl,rfl,rfl,by decide +kernel,rfl,by decide +kernel,by decide +kernel⟩
abbrev KQ:cB:=top 34
abbrev So:List aC:=["_law_cell_here","_law_k","_law_size","_law_number"]
abbrev zJ:List aC:=["_law_cell_here","_law_k","_law_size"]
theorem Aks:FnScope So zJ (bX KQ):=⟨rfl,rfl,rfl,by decide +kernel,rfl,by decide +kernel,by decide +kernel⟩
abbrev KS:cB:=top 35
abbrev Ru:List aC:=["_law_script","_law_base","_law_few","_law_book_here","_law_k","_law_cell_here","_law_rows","_law_j","_law_more","_law_row"]
abbrev zQ:List aC:=["_law_script"]
theorem Akk:FnScope Ru zQ (bX KS):=⟨rfl,rfl,rfl,by decide +kernel,rfl,by decide +kernel,by decide +kernel⟩
abbrev LD:cB:=top 36
abbrev Tq:List aC:=["_law_script","_law_book_here","_law_k"]
abbrev vX:List aC:=["_law_script","_law_book_here","_law_k"]
theorem Aiv:FnScope Tq vX (bX LD):=⟨rfl,rfl,rfl,by decide +kernel,rfl,by decide +kernel,by decide +kernel⟩
abbrev KY:cB:=top 37
abbrev Sx:List aC:=["_law_script","_law_book_here","_law_lines","_law_k","_law_own","_law_terms"]
abbrev zO:List aC:=["_law_script","_law_book_here"]
theorem Akq:FnScope Sx zO (bX KY):=⟨rfl,rfl,rfl,by decide +kernel,rfl,by decide +kernel,by decide +kernel⟩
abbrev LM:cB:=top 38
abbrev Ut:List aC:=["_law_book_here","_law_lines","_law_counts","_law_table_here","_law_terms","_law_found","_law_row","_law_value","_law_total","_law_product"]
abbrev AA:List aC:=["_law_book_here","_law_lines"]
theorem Afh:FnScope Ut AA (bX LM):=⟨rfl,rfl,rfl,by decide +kernel,rfl,by decide +kernel,by decide +kernel⟩
abbrev KI:cB:=top 39
abbrev Py:List aC:=["_law_script","_law_book_here","_law_lines","_law_names","_law_k"]
abbrev zM:List aC:=["_law_script","_law_book_here"]
theorem Amp:FnScope Py zM (bX KI):=⟨rfl,rfl,rfl,by decide +kernel,rfl,by decide +kernel,by decide +kernel⟩
abbrev EH:cB:=top 40
abbrev XW:List aC:=["_law_book_here","_law_lines","_law_ahead","_law_table_here","_law_terms","_law_found","_law_row"]
abbrev zX:List aC:=["_law_book_here","_law_lines"]
theorem Afr:FnScope XW zX (bX EH):=⟨rfl,rfl,rfl,by decide +kernel,rfl,by decide +kernel,by decide +kernel⟩
abbrev LK:cB:=top 41
abbrev Tg:List aC:=["_law_book_here","_law_lines","_law_wanted","_law_found"]
abbrev zN:List aC:=["_law_book_here","_law_lines","_law_wanted"]
theorem Aja:FnScope Tg zN (bX LK):=⟨rfl,rfl,rfl,by decide +kernel,rfl,by decide +kernel,by decide +kernel⟩
abbrev oI:cB:=top 42
abbrev GN:List aC:=["_law_script","_law_book_here","_law_kept","_law_star_here","_law_way_here","_law_first","_law_second","_law_turned"]
abbrev PK:List aC:=["_law_script"]
theorem A9v:FnScope GN PK (bX oI):=⟨rfl,rfl,rfl,by decide +kernel,rfl,by decide +kernel,by decide +kernel⟩
structure Blt (mg:aC->Option aE):Prop where
 «isinstance» : mg "isinstance" = none
 «int» : mg "int" = none
 «bool» : mg "bool" = none
 «abs» : mg "abs" = none
 «range» : mg "range" = none
 «len» : mg "len" = none
 «str» : mg "str" = none
 «all» : mg "all" = none
 «any» : mg "any" = none
 «list» : mg "list" = none
 «tuple» : mg "tuple" = none
 «dict» : mg "dict" = none
 «set» : mg "set" = none
 «sorted» : mg "sorted" = none
 «sum» : mg "sum" = none
 «min» : mg "min" = none
 «max» : mg "max" = none
 «enumerate» : mg "enumerate" = none
 «zip» : mg "zip" = none
 «reversed» : mg "reversed" = none
 «ValueError» : mg "ValueError" = none
structure Cst (mg:aC->Option aE):Prop where
 MOST_WAYS : ∃ t,mg "MOST_WAYS" = some (.int 4096 t)
set_option maxHeartbeats 4000000
variable {P:bT}{w:bI}{K:aK}{mg:aC->Option aE}{base:aZ}{f:aD}{fd:gV}
def Rg:SF:=(bB (bP 1 1 .s (eC (.dict [])))
 (bB (eG .s (iIt (aB 0)) (gNm 2) (eG .s (iIt (eOp gIx (aB 2) (eC (.int 1)))) (gNm 3) (sIf .s (bOf (eUn (gW "str") (aB 3))) (lH 1 .s (eC (.bool true)) .s (aB 3)) gY)))
 (lD 1 (dB 1 .s (aO GY (aH (aB 1) aN))))))
def oZ:List aA->Option aA:=fnD 1 4 Rg
theorem Ri (F:Fun K "names_of" "names_of" KJ f fd)(B:Blt mg)(C:Cst mg):FnOk P w K mg base CX0 1 f fd vV (spF K 1 oZ):=by
 have nd:=Alh.nd
 exact eB F Alh rfl (by decide) fun cdv A outer s H E P0 hr=>by
  have hu:=dY hr
  have hv:=dZ hr
  exact(bK (cH (i:=1) 1 .s nd rfl (by first | exact aR rfl | exact aX rfl) sQ)
   (bK (hW fT rfl (eT (aG 0)) (iY (i:=2) nd rfl (by first | exact aR rfl | exact aX rfl)) (bN (hW fT rfl (eT (dC hv (aG 2) bD (fun _ _=>rfl))) (iY (i:=3) nd rfl (by first | exact aR rfl | exact aX rfl)) (bN (jF .s (yA (CD (T:="str") rfl B.isinstance rfl B.str PyProof.Rows.boot_str (by decide) (aG 3))) (bN (yD 1 .s .s hv QD (aG 3))) kS)))))
   (qL 1 (bN (eF .s (jU (Qw rfl) Sd rfl B.list PyProof.Rows.boot_list (aL (aG 1) aS)))))))
def Xm:SF:=(dB 0 .s (aO lJ (aH (eLC [none,some 1] (iIt (aB 0)) (gB 0) dG (gX (aB 1) (aB 0) (aB 0))) aN)))
def nU:List aA->Option aA:=fnD 2 2 Xm
theorem Zj (F:Fun K "put_in" "put_in" CW f fd)(B:Blt mg)(C:Cst mg):FnOk P w K mg base CX0 1 f fd uY (spF K 0 nU):=by
 have nd:=Aqz.nd
 exact eB F Aqz rfl (by decide) fun cdv A outer s H E P0 hr=>by
  have hu:=dY hr
  have hv:=dZ hr
  exact(bN (eF .s (jU sW sV rfl B.tuple wN (aL (cT (n:=1) (iJ rfl (iA (N:=["term","known"]) (cap:=[none,some 1]) (out:=(bX CW).names) (XN:=SR) rfl rfl (by decide +kernel) rfl) hE (eT (aG 0)) (fun cl C s₀ H₀ ex=>⟨jB (j:=0) (show(["term","known"]:List aC).Nodup by decide +kernel) rfl (aR rfl),jI,(oW hv (aG 1) (aG 0) (aG 0))⟩))) aS))))
def Iy:SF:=(bB (sIf .s (bOf (eOp gNe (aO dS (aH (aB 1) aN)) (aO dS (aH (eOp gIx (aB 0) (eC (.int 1))) aN)))) (dB 1 .s (eC .none)) gY)
 (bB (bP 3 1 .s (aO GR (aH (aB 2) aN)))
 (bB (eG .s (iZ (aH (eOp gIx (aB 0) (eC (.int 1))) (aH (aB 1) aN))) (pX 4 5) (bB (sSD 6 3 .s (bOf (eUn (gW "str") (aB 4))) .s (aB 4) .s (aB 5) .s (aB 4))
 (sIf .s (bOf (eOp gNe (aB 5) (aB 6))) (dB 1 .s (eC .none)) gY)))
 (kQ 3 1))))
def mN:List aA->Option aA:=fnD 3 7 Iy
theorem Kl (F:Fun K "fits" "fits" GW f fd)(B:Blt mg)(C:Cst mg):FnOk P w K mg base CX0 1 f fd sL (spF K 1 mN):=by
 have nd:=A4b.nd
 exact eB F A4b rfl (by decide) fun cdv A outer s H E P0 hr=>by
  have hu:=dY hr
  have hv:=dZ hr
  exact(bK (jF .s (hU (LS hu) LZ (jA kX kW rfl B.len lW (aL (aG 1) aS)) (jA kX kW rfl B.len lW (aL (dC hv (aG 0) bD (fun _ _=>rfl)) aS)) (hX _)) (bN (eF .s TM)) kS)
   (bK (cH (i:=3) 1 .s nd rfl (by first | exact aR rfl | exact aX rfl) (jU Rc Pq rfl B.dict FB (aL (aG 2) aS)))
   (bK (hW fT rfl (QT rfl B.zip (aL (dC hv (aG 0) bD (fun _ _=>rfl)) (aL (aG 1) aS))) (uU (i:=4) (j:=5) rfl nd rfl rfl (by first | exact aR rfl | exact aX rfl) (by first | exact aR rfl | exact aX rfl)) (bK (Fi 6 3 .s .s .s .s nd (yA (CD (T:="str") rfl B.isinstance rfl B.str PyProof.Rows.boot_str (by decide) (aG 4))) (aG 4) (aG 5) (aG 4))
   (bN (jF .s (hU (LS hu) LZ (aG 5) (aG 6) (hX _)) (bN (eF .s TM)) kS))))
   (bN (CP 3)))))
def Og:SF:=(dB 0 .s (gX (aB 0) (eOp gIx (aB 1) (eC (.int 0))) (fE aN)))
def lO:List aA->Option aA:=fnD 2 2 Og
theorem Qb (F:Fun K "rows_of" "rows_of" JZ f fd)(B:Blt mg)(C:Cst mg):FnOk P w K mg base CX0 1 f fd vJ (spF K 0 lO):=by
 have nd:=Anq.nd
 exact eB F Anq rfl (by decide) fun cdv A outer s H E P0 hr=>by
  have hu:=dY hr
  have hv:=dZ hr
  exact(bN (eF .s (oW hv (aG 0) (dC hv (aG 1) bD (fun _ _=>rfl)) (cT (n:=1) (iK aS)))))
def Ys:SF:=(bB (bP 1 0 .s (eC (.int 1)))
 (bB (eG .s (iIt (aB 0)) (gNm 2) (bP 1 0 .s (eOp jP (aB 1) (aO BR (aH (eC (.int 1)) (aH (aO dS (aH (aB 2) aN)) aN))))))
 (dB 0 .s (aB 1))))
def sU:List aA->Option aA:=fnD 1 3 Ys
theorem Qx (F:Fun K "ways_of" "ways_of" JT f fd)(B:Blt mg)(C:Cst mg):FnOk P w K mg base CX0 1 f fd yY (spF K 0 sU):=by
 have nd:=Ant.nd
 exact eB F Ant rfl (by decide) fun cdv A outer s H E P0 hr=>by
  have hu:=dY hr
  have hv:=dZ hr
  exact(bK (cH (i:=1) 0 .s nd rfl (by first | exact aR rfl | exact aX rfl) bD)
   (bK (hW fT rfl (eT (aG 0)) (iY (i:=2) nd rfl (by first | exact aR rfl | exact aX rfl)) (bN (cH (i:=1) 0 .s nd rfl (by first | exact aR rfl | exact aX rfl) (sI (aG 1) (jA (Oy rfl) Pa rfl B.max PyProof.Rows.boot_max (aL bD (aL (jA kX kW rfl B.len lW (aL (aG 2) aS)) aS)))))))
   (bN (eF .s (aG 1)))))
def Sk:SF:=(bB (sIf .s (bOf (eOp gLt (aB 1) (aO dS (aH (aB 0) aN)))) (dB 0 .s (eOp gIx (aB 0) (aB 1))) gY)
 (bB (sIf .s (bOf (eOp gEq (aO dS (aH (aB 0) aN)) (eC (.int 0)))) (dB 0 .s (eOp dH (eOp jO (eOp jO (aB 1) (aB 1)) (eC (.int 7919))) (eC (.int 31)))) gY)
 (dB 0 .s (eOp dH (eOp jO (eOp gIx (aB 0) (eOp fN (aB 1) (aO dS (aH (aB 0) aN)))) (eOp dH (aB 1) (eC (.int 2)))) (eOp jO (eOp jO (aB 1) (aB 1)) (eC (.int 69621)))))))
def iM:List aA->Option aA:=fnD 2 2 Sk
theorem Tp (F:Fun K "_law_cell" "_law_cell" KU f fd)(B:Blt mg)(C:Cst mg):FnOk P w K mg base CX0 1 f fd qS (spF K 0 iM):=by
 have nd:=Akx.nd
 exact eB F Akx rfl (by decide) fun cdv A outer s H E P0 hr=>by
  have hu:=dY hr
  have hv:=dZ hr
  exact(bK (jF .s (hU (Bi4.or Zm) Ij (aG 1) (jA kX kW rfl B.len lW (aL (aG 0) aS)) (hX _)) (bN (eF .s (dC hv (aG 0) (aG 1) (fun _ _=>rfl)))) kS)
   (bK (jF .s (hU (sH hu) sJ (jA kX kW rfl B.len lW (aL (aG 0) aS)) bD (hX _)) (bN (eF .s (eX (qJ (qJ (aG 1) (aG 1)) bD) bD))) kS)
   (bN (eF .s (eX (qJ (dC hv (aG 0) (iW (aG 1) (jA kX kW rfl B.len lW (aL (aG 0) aS))) (fun _ _=>rfl)) (eX (aG 1) bD)) (qJ (qJ (aG 1) (aG 1)) bD))))))
def Rk:SF:=(bB (bP 3 0 .s (eOp jP (eOp dH (eOp dH (eOp fN (aB 0) (eC (.int 2147483629))) (eOp jP (eC (.int 5)) (aB 1))) (eC (.int 1))) (eOp dH (eC (.int 48271)) (eOp jP (aB 1) (aB 1)))))
 (dB 0 .s (eOp fN (eOp fN (eOp jP (aB 3) (aB 3)) (eC (.int 2147483647))) (aB 2))))
def nX:List aA->Option aA:=fnD 3 4 Rk
theorem Te (F:Fun K "_law_draw" "_law_draw" KQ f fd)(B:Blt mg)(C:Cst mg):FnOk P w K mg base CX0 1 f fd zJ (spF K 0 nX):=by
 have nd:=Aks.nd
 exact eB F Aks rfl (by decide) fun cdv A outer s H E P0 hr=>by
  have hu:=dY hr
  have hv:=dZ hr
  exact(bK (cH (i:=3) 0 .s nd rfl (by first | exact aR rfl | exact aX rfl) (sI (eX (eX (iW (aG 0) bD) (sI bD (aG 1))) bD) (eX bD (sI (aG 1) (aG 1)))))
   (bN (eF .s (iW (iW (sI (aG 3) (aG 3)) bD) (aG 2)))))
def Uu:SF:=(bB (bP 2 1 .s (fE aN))
 (bB (eG .s (iIt (aB 1)) (pX 3 4) (bB (bP 5 1 .s (eC (.dict [])))
 (bB (eG .s (iIt (gX (aB 0) (aB 3) (fE aN))) (gNm 6) (bB (bP 7 0 .s (eOp gIx (aB 6) (aO tU (aH (eOp gEq (eOp gIx (aB 4) (eC (.int 1))) (eC (.str "x"))) aN))))
 (lH 5 .a (eOp dH (gX (aB 5) (aB 7) (eC (.int 0))) (eC (.int 1))) .s (aB 7))))
 (lD 5 (jC 2 .s (aB 5))))))
 (lD 2 (bB (sIf .s (bOf (eOp gEq (aO dS (aH (aB 2) aN)) (eC (.int 0)))) (dB 0 .s (eC (.int 1))) gY)
 (bB (bP 8 0 .s (eC (.int 0)))
 (bB (eG .s (iDK (eOp gIx (aB 2) (eC (.int 0)))) (gNm 7) (bB (bP 9 0 .s (eC (.int 1)))
 (bB (eG .s (iIt (aB 2)) (gNm 5) (bP 9 0 .s (eOp jO (aB 9) (gX (aB 5) (aB 7) (eC (.int 0))))))
 (bP 8 0 .s (eOp dH (aB 8) (aB 9))))))
 (dB 0 .s (aB 8))))))))
def wB:List aA->Option aA:=fnD 2 10 Uu
theorem Uv (F:Fun K "_law_star_wanted" "_law_star_wanted" LM f fd)(B:Blt mg)(C:Cst mg):FnOk P w K mg base CX0 1 f fd AA (spF K 0 wB):=by
 have nd:=Afh.nd
 exact eB F Afh rfl (by decide) fun cdv A outer s H E P0 hr=>by
  have hu:=dY hr
  have hv:=dZ hr
  exact(bK (cH (i:=2) 1 .s nd rfl (by first | exact aR rfl | exact aX rfl) (iK aS))
   (bK (hW fT rfl (eT (aG 1)) (uU (i:=3) (j:=4) rfl nd rfl rfl (by first | exact aR rfl | exact aX rfl) (by first | exact aR rfl | exact aX rfl)) (bK (cH (i:=5) 1 .s nd rfl (by first | exact aR rfl | exact aX rfl) sQ)
   (bK (hW fT rfl (eT (oW hv (aG 0) (aG 3) (cT (n:=1) (iK aS)))) (iY (i:=6) nd rfl (by first | exact aR rfl | exact aX rfl)) (bK (cH (i:=7) 0 .s nd rfl (by first | exact aR rfl | exact aX rfl) (dC hv (aG 6) (jU Om Pu rfl B.int PyProof.Rows.boot_int (aL (BX (sH hu) sJ (dC hv (aG 4) bD (fun _ _=>rfl)) fH (hX _)) aS)) (fun _ _=>rfl)))
   (bN (yD 5 .a .s hv (eX (oW hv (aG 5) (aG 7) bD) bD) (aG 7)))))
   (qL 5 (bN (vM 2 .s (aG 5)))))))
   (qL 2 (bK (jF .s (hU (sH hu) sJ (jA kX kW rfl B.len lW (aL (aG 2) aS)) bD (hX _)) (bN (eF .s bD)) kS)
   (bK (cH (i:=8) 0 .s nd rfl (by first | exact aR rfl | exact aX rfl) bD)
   (bK (hW fT rfl (QZ (dC hv (aG 2) bD (fun _ _=>rfl))) (iY (i:=7) nd rfl (by first | exact aR rfl | exact aX rfl)) (bK (cH (i:=9) 0 .s nd rfl (by first | exact aR rfl | exact aX rfl) bD)
   (bK (hW fT rfl (eT (aG 2)) (iY (i:=5) nd rfl (by first | exact aR rfl | exact aX rfl)) (bN (cH (i:=9) 0 .s nd rfl (by first | exact aR rfl | exact aX rfl) (qJ (aG 9) (oW hv (aG 5) (aG 7) bD)))))
   (bN (cH (i:=8) 0 .s nd rfl (by first | exact aR rfl | exact aX rfl) (eX (aG 8) (aG 9)))))))
   (bN (eF .s (aG 8)))))))))
def Ur:SF:=(bB (sIf .s (bOf (eOp gEq (aO dS (aH (aB 1) aN)) (eC (.int 0)))) (dB 0 .s (eC (.int 1))) gY)
 (bB (bP 2 0 .s (eC .none))
 (bB (eG .s (iRw (aH (aB 1) aN)) (pX 3 4) (bB (bP 5 1 .s (eC (.dict [])))
 (bB (eG .s (iIt (gX (aB 0) (aB 3) (fE aN))) (gNm 6) (sIf .s (bOf (eOp xH (aB 2) (eC .none))) (lH 5 .a (eOp dH (gX (aB 5) (eOp gIx (aB 6) (eC (.int 0))) (eC (.int 0))) (eC (.int 1))) .s (eOp gIx (aB 6) (eC (.int 0)))) (lH 5 .a (eOp dH (gX (aB 5) (eOp gIx (aB 6) (eC (.int 0))) (eC (.int 0))) (gX (aB 2) (eOp gIx (aB 6) (eC (.int 1))) (eC (.int 0)))) .s (eOp gIx (aB 6) (eC (.int 0))))))
 (lD 5 (bP 2 0 .s (aB 5))))))
 (dB 0 .s (aO GP (aH (eLC [none,some 2] (iDK (aB 2)) (gB 0) dG (eOp gIx (aB 1) (aB 0))) aN))))))
def wC:List aA->Option aA:=fnD 2 7 Ur
theorem Uw (F:Fun K "_law_way_wanted" "_law_way_wanted" EH f fd)(B:Blt mg)(C:Cst mg):FnOk P w K mg base CX0 1 f fd zX (spF K 0 wC):=by
 have nd:=Afr.nd
 exact eB F Afr rfl (by decide) fun cdv A outer s H E P0 hr=>by
  have hu:=dY hr
  have hv:=dZ hr
  exact(bK (jF .s (hU (sH hu) sJ (jA kX kW rfl B.len lW (aL (aG 1) aS)) bD (hX _)) (bN (eF .s bD)) kS)
   (bK (cH (i:=2) 0 .s nd rfl (by first | exact aR rfl | exact aX rfl) qE)
   (bK (hW fT rfl (Ir rfl B.reversed (aL (aG 1) aS)) (uU (i:=3) (j:=4) rfl nd rfl rfl (by first | exact aR rfl | exact aX rfl) (by first | exact aR rfl | exact aX rfl)) (bK (cH (i:=5) 1 .s nd rfl (by first | exact aR rfl | exact aX rfl) sQ)
   (bK (hW fT rfl (eT (oW hv (aG 0) (aG 3) (cT (n:=1) (iK aS)))) (iY (i:=6) nd rfl (by first | exact aR rfl | exact aX rfl)) (bN (jF .s (hU Hn Ks (aG 2) qE (hX _)) (bN (yD 5 .a .s hv (eX (oW hv (aG 5) (dC hv (aG 6) bD (fun _ _=>rfl)) bD) bD) (dC hv (aG 6) bD (fun _ _=>rfl)))) (bN (yD 5 .a .s hv (eX (oW hv (aG 5) (dC hv (aG 6) bD (fun _ _=>rfl)) bD) (oW hv (aG 2) (dC hv (aG 6) bD (fun _ _=>rfl)) bD)) (dC hv (aG 6) bD (fun _ _=>rfl)))))))
   (qL 5 (bN (cH (i:=2) 0 .s nd rfl (by first | exact aR rfl | exact aX rfl) (aG 5)))))))
   (bN (eF .s (jA (Pm rfl) Qf rfl B.sum Zw (aL (cT (n:=1) (iJ rfl (iA (N:=["_law_value","_law_ahead"]) (cap:=[none,some 2]) (out:=(bX EH).names) (XN:=XW) rfl rfl (by decide +kernel) rfl) hE (QZ (aG 2)) (fun cl C s₀ H₀ ex=>⟨jB (j:=0) (show(["_law_value","_law_ahead"]:List aC).Nodup by decide +kernel) rfl (aR rfl),jI,(dC hv (aG 1) (aG 0) (fun _ _=>rfl))⟩))) aS)))))))
def Xt:SF:=(bB (bP 2 0 .s (aO oZ (aH (eOp ET (xI (aB 0) oN (oS (aB 1))) (xI (aB 0) (oS (eOp dH (aB 1) (eC (.int 1)))) oN)) aN)))
 (dB 1 .s (eLC [none,some 2] (iIt (aO oZ (aH (fG (aH (eOp gIx (aB 0) (aB 1)) aN)) aN))) (gB 0) (bOf (eOp (gIn false) (aB 0) (aB 1))) (aB 0))))
def vB:List aA->Option aA:=fnD 2 3 Xt
theorem Zq (F:Fun K "shared" "shared" CV f fd)(B:Blt mg)(C:Cst mg)(D_names_of:Def P w K mg base "names_of" 1 vV (spF K 1 oZ)):FnOk P w K mg base CX0 2 f fd yN (spF K 1 vB):=by
 have nd:=Arh.nd
 exact eB F Arh rfl (by decide) fun cdv A outer s H E P0 hr=>by
  have hu:=dY hr
  have hv:=dZ hr
  exact(bK (cH (i:=2) 0 .s nd rfl (by first | exact aR rfl | exact aX rfl) (cT (n:=1) (cJ D_names_of (hr.mono (by decide)) rfl (aL (Nm (QL (aG 0) RB (QW (aG 1))) (QL (aG 0) (QW (eX (aG 1) bD)) RB)) aS))))
   (bN (eF .s (iJ rfl (iA (N:=["name","elsewhere"]) (cap:=[none,some 2]) (out:=(bX CV).names) (XN:=UD) rfl rfl (by decide +kernel) rfl) hE (eT (cT (n:=1) (cJ D_names_of (hr.mono (by decide)) rfl (aL (jR (aL (dC hv (aG 0) (aG 1) (fun _ _=>rfl)) aS)) aS)))) (fun cl C s₀ H₀ ex=>⟨jB (j:=0) (show(["name","elsewhere"]:List aC).Nodup by decide +kernel) rfl (aR rfl),HD (hU (IF hu) CC (aG 0) (aG 1) (by with_unfolding_all rfl)),(aG 0)⟩)))))
def LH:SF:=(sIf .s (bOf (eOp gGt (aO sU (aH (aB 0) aN)) (eC (.int 4096)))) sNo gY)
def vY:List aA->Option aA:=fnD 1 1 LH
theorem Uk (F:Fun K "refuse_rows" "refuse_rows" LI f fd)(B:Blt mg)(C:Cst mg)(D_ways_of:Def P w K mg base "ways_of" 1 yY (spF K 0 sU)):FnOk P w K mg base CX0 2 f fd zV (spF K 0 vY):=by
 obtain⟨_,h_MOST_WAYS⟩:=C.MOST_WAYS
 have nd:=Ah0.nd
 exact eB F Ah0 rfl (by decide) fun cdv A outer s H E P0 hr=>by
  have hu:=dY hr
  have hv:=dZ hr
  exact(bN (jF .s (hU PP QU (cJ D_ways_of (hr.mono (by decide)) rfl (aL (aG 0) aS)) (Vi (i:=4096) rfl h_MOST_WAYS ⟨_,rfl⟩) (hX _)) (bN Ec) kS))
def Qe:SF:=(bB (bP 3 1 .s (fE aN))
 (bB (eG .s (iIt (aB 0)) (gNm 4) (eG .s (iKR (aB 2)) (gNm 5) (bB (bP 6 0 .s (aO mN (aH (aB 1) (aH (aB 5) (aH (aB 4) aN)))))
 (sIf .s (bOf (eOp nO (aB 6) (eC .none))) (jC 3 .s (aB 6)) gY))))
 (kQ 3 1)))
def vW:List aA->Option aA:=fnD 3 7 Qe
theorem Sn (F:Fun K "extended" "extended" KD f fd)(B:Blt mg)(C:Cst mg)(D_fits:Def P w K mg base "fits" 1 sL (spF K 1 mN)):FnOk P w K mg base CX0 2 f fd zF (spF K 1 vW):=by
 have nd:=Amt.nd
 exact eB F Amt rfl (by decide) fun cdv A outer s H E P0 hr=>by
  have hu:=dY hr
  have hv:=dZ hr
  exact(bK (cH (i:=3) 1 .s nd rfl (by first | exact aR rfl | exact aX rfl) (iK aS))
   (bK (hW fT rfl (eT (aG 0)) (iY (i:=4) nd rfl (by first | exact aR rfl | exact aX rfl)) (bN (hW fT rfl (Wf (aG 2)) (iY (i:=5) nd rfl (by first | exact aR rfl | exact aX rfl)) (bK (cH (i:=6) 0 .s nd rfl (by first | exact aR rfl | exact aX rfl) (cT (n:=1) (cJ D_fits (hr.mono (by decide)) rfl (aL (aG 1) (aL (aG 5) (aL (aG 4) aS))))))
   (bN (jF .s (hU CK DC (aG 6) qE (hX _)) (bN (vM 3 .s (aG 6))) kS))))))
   (bN (CP 3))))
def Yp:SF:=(dB 1 .s (aO xS (aH (eLC [none,some 1] (iIt (aO lO (aH (aB 0) (aH (aB 1) aN)))) (gB 0) (bOf (eOp nO (aO mN (aH (aB 1) (aH (aB 0) (aH (eC (.dict [])) aN)))) (eC .none))) (aB 0)) aN)))
def sS:List aA->Option aA:=fnD 2 2 Yp
theorem Qn (F:Fun K "fitting" "fitting" DR f fd)(B:Blt mg)(C:Cst mg)(D_fits:Def P w K mg base "fits" 1 sL (spF K 1 mN))(D_rows_of:Def P w K mg base "rows_of" 1 vJ (spF K 0 lO)):FnOk P w K mg base CX0 2 f fd yV (spF K 1 sS):=by
 have nd:=An0.nd
 exact eB F An0 rfl (by decide) fun cdv A outer s H E P0 hr=>by
  have hu:=dY hr
  have hv:=dZ hr
  exact(bN (eF .s (jA Tj Sq rfl B.sorted PyProof.Rows.boot_sorted (aL (cT (n:=1) (iJ rfl (iA (N:=["row","line"]) (cap:=[none,some 1]) (out:=(bX DR).names) (XN:=UJ) rfl rfl (by decide +kernel) rfl) hE (eT (cJ D_rows_of (hr.mono (by decide)) rfl (aL (aG 0) (aL (aG 1) aS)))) (fun cl C s₀ H₀ ex=>⟨jB (j:=0) (show(["row","line"]:List aC).Nodup by decide +kernel) rfl (aR rfl),HD (hU CK DC (cT (n:=1) (cJ D_fits (hr.mono (by decide)) rfl (aL (aG 1) (aL (aG 0) (aL (cT (n:=1) sQ) aS))))) qE (hX _)),(aG 0)⟩))) aS))))
def Xy:SF:=(dB 1 .s (eLC [none,some 1] (iIt (aO oZ (aH (fG (aH (aB 0) aN)) aN))) (gB 0) (bOf (eOp (gIn false) (aB 0) (eOp gIx (aB 1) (eC (.int 1))))) (aB 0)))
def vF:List aA->Option aA:=fnD 2 2 Xy
theorem Pk (F:Fun K "common" "common" DB f fd)(B:Blt mg)(C:Cst mg)(D_names_of:Def P w K mg base "names_of" 1 vV (spF K 1 oZ)):FnOk P w K mg base CX0 2 f fd yU (spF K 1 vF):=by
 have nd:=Arm.nd
 exact eB F Arm rfl (by decide) fun cdv A outer s H E P0 hr=>by
  have hu:=dY hr
  have hv:=dZ hr
  exact(bN (eF .s (iJ rfl (iA (N:=["name","other"]) (cap:=[none,some 1]) (out:=(bX DB).names) (XN:=RU) rfl rfl (by decide +kernel) rfl) hE (eT (cT (n:=1) (cJ D_names_of (hr.mono (by decide)) rfl (aL (jR (aL (aG 0) aS)) aS)))) (fun cl C s₀ H₀ ex=>⟨jB (j:=0) (show(["name","other"]:List aC).Nodup by decide +kernel) rfl (aR rfl),HD (hU (IF hu) CC (aG 0) (dC hv (aG 1) bD (fun _ _=>rfl)) (by with_unfolding_all rfl)),(aG 0)⟩))))
def Yj:SF:=(dB 0 .s (aO nU (aH (aB 2) (aH (aO mN (aH (aB 0) (aH (aB 1) (aH (eC (.dict [])) aN)))) aN))))
def oY:List aA->Option aA:=fnD 3 3 Yj
theorem Oi (F:Fun K "key_of" "key_of" JF f fd)(B:Blt mg)(C:Cst mg)(D_put_in:Def P w K mg base "put_in" 1 uY (spF K 0 nU))(D_fits:Def P w K mg base "fits" 1 sL (spF K 1 mN)):FnOk P w K mg base CX0 2 f fd vE (spF K 0 oY):=by
 have nd:=Asj.nd
 exact eB F Asj rfl (by decide) fun cdv A outer s H E P0 hr=>by
  have hu:=dY hr
  have hv:=dZ hr
  exact(bN (eF .s (cJ D_put_in (hr.mono (by decide)) rfl (aL (aG 2) (aL (cT (n:=1) (cJ D_fits (hr.mono (by decide)) rfl (aL (aG 0) (aL (aG 1) (aL (cT (n:=1) sQ) aS))))) aS)))))
def Rl:SF:=(bB (bP 1 0 .s (eOp fN (eOp kN (aO iM (aH (aB 0) (aH (eC (.int 1)) aN))) (eC (.int 8))) (eOp gIx (fE (aH (eC (.int 9)) (aH (eOp jP (eOp qZ (eC (.int 10)) (eC (.int 34))) (eOp qZ (eC (.int 10)) (eC (.int 35)))) aN))) (eOp fN (aO iM (aH (aB 0) (aH (eC (.int 1)) aN))) (eC (.int 2))))))
 (bB (bP 2 0 .s (eOp dH (eC (.int 2)) (eOp fN (eOp kN (aO iM (aH (aB 0) (aH (eC (.int 1)) aN))) (eC (.int 2))) (eC (.int 6)))))
 (bB (bP 3 1 .s (eC (.dict [])))
 (bB (eG .s (iR1 (aH (eOp dH (eC (.int 1)) (eOp fN (aO iM (aH (aB 0) (aH (eC (.int 0)) aN))) (eC (.int 5)))) aN)) (gNm 4) (bB (bP 5 0 .s (aO iM (aH (aB 0) (aH (eOp dH (eC (.int 2)) (aB 4)) aN))))
 (bB (bP 6 1 .s (fE aN))
 (bB (eG .s (iR1 (aH (eOp fN (aB 5) (eC (.int 61))) aN)) (gNm 7) (bB (bP 8 0 .s (eOp dH (aO iM (aH (aB 0) (aH (eOp dH (eC (.int 7)) (eOp fN (aB 7) (eC (.int 50)))) aN))) (eOp jP (aB 7) (aB 4))))
 (bB (sIf .s (bOf (eOp gEq (eOp fN (eOp kN (aB 5) (eC (.int 61))) (eC (.int 3))) (eC (.int 0)))) (bP 9 0 .s (fG (aH (aB 1) (aH (eOp dH (aB 1) (aB 7)) aN)))) (sIf .s (bOf (eOp gEq (eOp fN (eOp kN (aB 5) (eC (.int 61))) (eC (.int 3))) (eC (.int 1)))) (bP 9 0 .s (fG (aH (eOp dH (aB 1) (aO nX (aH (aB 8) (aH (aB 7) (aH (aB 2) aN))))) (aH (eOp dH (aB 1) (aO nX (aH (aB 8) (aH (eOp dH (aB 7) (eC (.int 60))) (aH (aB 2) aN))))) aN)))) (bP 9 0 .s (fG (aH (eOp dH (aB 1) (aB 7)) (aH (eOp dH (aB 1) (aO nX (aH (aB 8) (aH (aB 7) (aH (aB 2) aN))))) aN))))))
 (sIf .a (bOf (eOp (gIn true) (aB 9) (aB 6))) (jC 6 .s (aB 9)) gY))))
 (lD 6 (lH 3 .s (aB 6) .s (eOp gIx (fE (aH (eC (.str "t")) (aH (eC (.str "u")) (aH (eC (.str "t1")) (aH (eC (.str "x")) (aH (eC (.str "v")) aN)))))) (aB 4))))))))
 (kQ 3 1)))))
def vQ:List aA->Option aA:=fnD 1 10 Rl
theorem Tf (F:Fun K "_law_book" "_law_book" KS f fd)(B:Blt mg)(C:Cst mg)(D__law_cell:Def P w K mg base "_law_cell" 1 qS (spF K 0 iM))(D__law_draw:Def P w K mg base "_law_draw" 1 zJ (spF K 0 nX)):FnOk P w K mg base CX0 2 f fd zQ (spF K 1 vQ):=by
 have nd:=Akk.nd
 exact eB F Akk rfl (by decide) fun cdv A outer s H E P0 hr=>by
  have hu:=dY hr
  have hv:=dZ hr
  exact(bK (cH (i:=1) 0 .s nd rfl (by first | exact aR rfl | exact aX rfl) (iW (sP (cJ D__law_cell (hr.mono (by decide)) rfl (aL (aG 0) (aL bD aS))) bD) (dC hv (cT (n:=1) (iK (aL bD (aL (sI (YD bD bD) (YD bD bD)) aS)))) (iW (cJ D__law_cell (hr.mono (by decide)) rfl (aL (aG 0) (aL bD aS))) bD) (fun _ _=>rfl))))
   (bK (cH (i:=2) 0 .s nd rfl (by first | exact aR rfl | exact aX rfl) (eX bD (iW (sP (cJ D__law_cell (hr.mono (by decide)) rfl (aL (aG 0) (aL bD aS))) bD) bD)))
   (bK (cH (i:=3) 1 .s nd rfl (by first | exact aR rfl | exact aX rfl) sQ)
   (bK (CG .s fT rfl (yZ rfl B.range (aL (eX bD (iW (cJ D__law_cell (hr.mono (by decide)) rfl (aL (aG 0) (aL bD aS))) bD)) aS)) (iY (i:=4) nd rfl (by first | exact aR rfl | exact aX rfl)) (bK (cH (i:=5) 0 .s nd rfl (by first | exact aR rfl | exact aX rfl) (cJ D__law_cell (hr.mono (by decide)) rfl (aL (aG 0) (aL (eX bD (aG 4)) aS))))
   (bK (cH (i:=6) 1 .s nd rfl (by first | exact aR rfl | exact aX rfl) (iK aS))
   (bK (CG .s fT rfl (yZ rfl B.range (aL (iW (aG 5) bD) aS)) (iY (i:=7) nd rfl (by first | exact aR rfl | exact aX rfl)) (bK (cH (i:=8) 0 .s nd rfl (by first | exact aR rfl | exact aX rfl) (eX (cJ D__law_cell (hr.mono (by decide)) rfl (aL (aG 0) (aL (eX bD (iW (aG 7) bD)) aS))) (sI (aG 7) (aG 4))))
   (bK (jF .s (hU (sH hu) sJ (iW (sP (aG 5) bD) bD) bD (hX _)) (bN (cH (i:=9) 0 .s nd rfl (by first | exact aR rfl | exact aX rfl) (jR (aL (aG 1) (aL (eX (aG 1) (aG 7)) aS))))) (bN (jF .s (hU (sH hu) sJ (iW (sP (aG 5) bD) bD) bD (hX _)) (bN (cH (i:=9) 0 .s nd rfl (by first | exact aR rfl | exact aX rfl) (jR (aL (eX (aG 1) (cJ D__law_draw (hr.mono (by decide)) rfl (aL (aG 8) (aL (aG 7) (aL (aG 2) aS))))) (aL (eX (aG 1) (cJ D__law_draw (hr.mono (by decide)) rfl (aL (aG 8) (aL (eX (aG 7) bD) (aL (aG 2) aS))))) aS))))) (bN (cH (i:=9) 0 .s nd rfl (by first | exact aR rfl | exact aX rfl) (jR (aL (eX (aG 1) (aG 7)) (aL (eX (aG 1) (cJ D__law_draw (hr.mono (by decide)) rfl (aL (aG 8) (aL (aG 7) (aL (aG 2) aS))))) aS))))))))
   (bN (jF .a (hU (Ta hu) CC (aG 9) (aG 6) (by with_unfolding_all rfl)) (bN (vM 6 .s (aG 9))) kS)))))
   (qL 6 (bN (yD 3 .s .s hv (aG 6) (dC hv (cT (n:=1) (iK (aL fH (aL fH (aL fH (aL fH (aL fH aS))))))) (aG 4) (fun _ _=>rfl)))))))))
   (bN (CP 3))))))
end Aw
namespace Aw
open PySem L2
set_option maxHeartbeats 4000000
variable {P:bT}{w:bI}{K:aK}{mg:aC->Option aE}{base:aZ}{f:aD}{fd:gV}
def Th:SF:=(dB 0 .s (eOp gIx (fE (aH (eC (.str "t")) (aH (eC (.str "u")) (aH (eC (.str "t1")) (aH (eC (.str "x")) (aH (eC (.str "v")) aN)))))) (eOp fN (eOp fN (aO iM (aH (aB 0) (aH (eOp dH (eC (.int 57)) (aB 2)) aN))) (eOp dH (aO dS (aH (aB 1) aN)) (eC (.int 1)))) (eC (.int 5)))))
def qP:List aA->Option aA:=fnD 3 3 Th
theorem Ua (F:Fun K "_law_table" "_law_table" LD f fd)(B:Blt mg)(C:Cst mg)(D__law_cell:Def P w K mg base "_law_cell" 1 qS (spF K 0 iM)):FnOk P w K mg base CX0 2 f fd vX (spF K 0 qP):=by
 have nd:=Aiv.nd
 exact eB F Aiv rfl (by decide) fun cdv A outer s H E P0 hr=>by
  have hu:=dY hr
  have hv:=dZ hr
  exact(bN (eF .s (dC hv (cT (n:=1) (iK (aL fH (aL fH (aL fH (aL fH (aL fH aS))))))) (iW (iW (cJ D__law_cell (hr.mono (by decide)) rfl (aL (aG 0) (aL (eX bD (aG 2)) aS))) (eX (jA kX kW rfl B.len lW (aL (aG 1) aS)) bD)) bD) (fun _ _=>rfl))))
def Rt:SF:=(bB (bP 3 0 .s (aO vB (aH (aO lJ (aH (eLC [none,some 0] (iIt (aB 1)) (gB 0) dG (eOp gIx (aB 1) (aB 0))) aN)) (aH (eOp IC (aB 1) (aB 2)) aN))))
 (bB (eG .s (iIt (aB 1)) (gNm 4) (sIf .s (tW (bOf (eOp gNe (aB 4) (aB 2))) (bOf (aO xK (aH (eLC [none,some 0,some 4] (iIt (aB 3)) (gB 0) dG (eOp (gIn false) (aB 0) (eOp gIx (eOp gIx (aB 1) (aB 2)) (eC (.int 1))))) aN)))) (dB 0 .s (aB 4)) gY))
 (dB 0 .s (eC .none))))
def vR:List aA->Option aA:=fnD 3 5 Rt
theorem Ss (F:Fun K "parent_of" "parent_of" zI f fd)(B:Blt mg)(C:Cst mg)(D_shared:Def P w K mg base "shared" 2 yN (spF K 1 vB)):FnOk P w K mg base CX0 3 f fd zK (spF K 0 vR):=by
 have nd:=Akl.nd
 exact eB F Akl rfl (by decide) fun cdv A outer s H E P0 hr=>by
  have hu:=dY hr
  have hv:=dZ hr
  exact(bK (cH (i:=3) 0 .s nd rfl (by first | exact aR rfl | exact aX rfl) (cT (n:=1) (cJ D_shared (hr.mono (by decide)) rfl (aL (jU sW sV rfl B.tuple wN (aL (cT (n:=1) (iJ rfl (iA (N:=["j","lines"]) (cap:=[none,some 0]) (out:=(bX zI).names) (XN:=KN) rfl rfl (by decide +kernel) rfl) hE (eT (aG 1)) (fun cl C s₀ H₀ ex=>⟨jB (j:=0) (show(["j","lines"]:List aC).Nodup by decide +kernel) rfl (aR rfl),jI,(dC hv (aG 1) (aG 0) (fun _ _=>rfl))⟩))) aS)) (aL (Zz (aG 1) (aG 2)) aS)))))
   (bK (hW fT rfl (eT (aG 1)) (iY (i:=4) nd rfl (by first | exact aR rfl | exact aX rfl)) (bN (jF .s (PC (Fy (hU (LS hu) LZ (aG 4) (aG 2) (hX _)) (Ki (yA (jA (Yu rfl) Oj rfl B.all boot_all (aL (cT (n:=1) (iJ rfl (iA (N:=["name","lines","j"]) (cap:=[none,some 0,some 4]) (out:=(bX zI).names) (XN:=KN) rfl rfl (by decide +kernel) rfl) hE (eT (aG 3)) (fun cl C s₀ H₀ ex=>⟨jB (j:=0) (show(["name","lines","j"]:List aC).Nodup by decide +kernel) rfl (aR rfl),jI,(BX (IF hu) CC (aG 0) (dC hv (dC hv (aG 1) (aG 2) (fun _ _=>rfl)) bD (fun _ _=>rfl)) (by with_unfolding_all rfl))⟩))) aS)))))) (bN (eF .s (aG 4))) kS)))
   (bN (eF .s qE))))
def LG:SF:=(qA .s (aO vY (aH (eLC [none,some 0] (iIt (aB 1)) (gB 0) dG (aO lO (aH (aB 1) (aH (aB 0) aN)))) aN)))
def vZ:List aA->Option aA:=fnD 2 2 LG
theorem Uo (F:Fun K "refuse_ways" "refuse_ways" EG f fd)(B:Blt mg)(C:Cst mg)(D_rows_of:Def P w K mg base "rows_of" 1 vJ (spF K 0 lO))(D_refuse_rows:Def P w K mg base "refuse_rows" 2 zV (spF K 0 vY)):FnOk P w K mg base CX0 3 f fd zT (spF K 0 vZ):=by
 have nd:=Ah6.nd
 exact eB F Ah6 rfl (by decide) fun cdv A outer s H E P0 hr=>by
  have hu:=dY hr
  have hv:=dZ hr
  exact(bN (HS .s (cJ D_refuse_rows (hr.mono (by decide)) rfl (aL (cT (n:=1) (iJ rfl (iA (N:=["line","book"]) (cap:=[none,some 0]) (out:=(bX EG).names) (XN:=XD) rfl rfl (by decide +kernel) rfl) hE (eT (aG 1)) (fun cl C s₀ H₀ ex=>⟨jB (j:=0) (show(["line","book"]:List aC).Nodup by decide +kernel) rfl (aR rfl),jI,(cJ D_rows_of (hr.mono (by decide)) rfl (aL (aG 1) (aL (aG 0) aS)))⟩))) aS))))
def Xf:SF:=(bB (bP 2 0 .s (fE (aH (eC (.dict [])) aN)))
 (bB (eG .s (iZ (aH (aB 0) (aH (aB 1) aN))) (pX 3 4) (bP 2 0 .s (aO vW (aH (aB 2) (aH (aB 3) (aH (aB 4) aN))))))
 (dB 0 .s (aB 2))))
def vG:List aA->Option aA:=fnD 2 5 Xf
theorem a9 (F:Fun K "walked" "walked" IM f fd)(B:Blt mg)(C:Cst mg)(D_extended:Def P w K mg base "extended" 2 zF (spF K 1 vW)):FnOk P w K mg base CX0 3 f fd yT (spF K 0 vG):=by
 have nd:=Aqj.nd
 exact eB F Aqj rfl (by decide) fun cdv A outer s H E P0 hr=>by
  have hu:=dY hr
  have hv:=dZ hr
  exact(bK (cH (i:=2) 0 .s nd rfl (by first | exact aR rfl | exact aX rfl) (cT (n:=1) (iK (aL (cT (n:=1) sQ) aS))))
   (bK (hW fT rfl (QT rfl B.zip (aL (aG 0) (aL (aG 1) aS))) (uU (i:=3) (j:=4) rfl nd rfl rfl (by first | exact aR rfl | exact aX rfl) (by first | exact aR rfl | exact aX rfl)) (bN (cH (i:=2) 0 .s nd rfl (by first | exact aR rfl | exact aX rfl) (cT (n:=1) (cJ D_extended (hr.mono (by decide)) rfl (aL (aG 2) (aL (aG 3) (aL (aG 4) aS))))))))
   (bN (eF .s (aG 2)))))
def Tv:SF:=(dB 1 .s (eLC [none,some 0] (iIt (aB 1)) (gB 0) dG (aO sS (aH (aB 1) (aH (aB 0) aN)))))
def sX:List aA->Option aA:=fnD 2 2 Tv
theorem Uh (F:Fun K "all_fitting" "all_fitting" EE f fd)(B:Blt mg)(C:Cst mg)(D_fitting:Def P w K mg base "fitting" 2 yV (spF K 1 sS)):FnOk P w K mg base CX0 3 f fd zW (spF K 1 sX):=by
 have nd:=Ah1.nd
 exact eB F Ah1 rfl (by decide) fun cdv A outer s H E P0 hr=>by
  have hu:=dY hr
  have hv:=dZ hr
  exact(bN (eF .s (iJ rfl (iA (N:=["line","book"]) (cap:=[none,some 0]) (out:=(bX EE).names) (XN:=XI) rfl rfl (by decide +kernel) rfl) hE (eT (aG 1)) (fun cl C s₀ H₀ ex=>⟨jB (j:=0) (show(["line","book"]:List aC).Nodup by decide +kernel) rfl (aR rfl),jI,(cT (n:=1) (cJ D_fitting (hr.mono (by decide)) rfl (aL (aG 1) (aL (aG 0) aS))))⟩))))
def Xa:SF:=(bB (bP 3 9 .s (eC (.dict [(.none,.none)])))
 (bB (eG .s (iDR (aB 1)) (pX 4 5) (bB (bP 6 0 .s (aO oY (aH (aB 0) (aH (aB 4) (aH (aB 2) aN)))))
 (EK 3 .a (eOp dH (uI (aB 3) (aB 6) (eC (.int 0))) (aB 5)) .s (aB 6))))
 (lD 3 (dB 0 .s (aB 3)))))
def uZ:List aA->Option aA:=fnD 3 7 Xa
theorem Oq (F:Fun K "summed" "summed" IR f fd)(B:Blt mg)(C:Cst mg)(D_key_of:Def P w K mg base "key_of" 2 vE (spF K 0 oY)):FnOk P w K mg base CX0 3 f fd yS (spF K 0 uZ):=by
 have nd:=Aqn.nd
 exact eB F Aqn rfl (by decide) fun cdv A outer s H E P0 hr=>by
  have hu:=dY hr
  have hv:=dZ hr
  exact(bK (cH (i:=3) 9 .s nd rfl (by first | exact aR rfl | exact aX rfl) Yi)
   (bK (hW fT rfl (VX (aG 1)) (uU (i:=4) (j:=5) rfl nd rfl rfl (by first | exact aR rfl | exact aX rfl) (by first | exact aR rfl | exact aX rfl)) (bK (cH (i:=6) 0 .s nd rfl (by first | exact aR rfl | exact aX rfl) (cJ D_key_of (hr.mono (by decide)) rfl (aL (aG 0) (aL (aG 4) (aL (aG 2) aS)))))
   (bN (Kr 3 .a .s hv (eX (QV hv (aG 3) (aG 6) bD) (aG 5)) (aG 6)))))
   (qL 3 (bN (eF .s (aG 3))))))
def Nr:SF:=(dB 0 .s (aO uS (aH (eLC [none,none,some 3,some 0,some 2] (iDR (aB 1)) (gB2 0 1) dG (fG (aH (aB 0) (aH (eOp jO (aB 1) (uI (aB 2) (aO oY (aH (aB 3) (aH (aB 0) (aH (aB 4) aN)))) (eC (.int 0)))) aN)))) aN)))
def uV:List aA->Option aA:=fnD 4 4 Nr
theorem Wd (F:Fun K "times" "times" CH f fd)(B:Blt mg)(C:Cst mg)(D_key_of:Def P w K mg base "key_of" 2 vE (spF K 0 oY)):FnOk P w K mg base CX0 3 f fd yF (spF K 0 uV):=by
 have nd:=Au9.nd
 exact eB F Au9 rfl (by decide) fun cdv A outer s H E P0 hr=>by
  have hu:=dY hr
  have hv:=dZ hr
  exact(bN (eF .s (jU (KZ hu rfl) LJ rfl B.dict FB (aL (cT (n:=1) (iJ rfl (iA (N:=["row","number","sums","line","names"]) (cap:=[none,none,some 3,some 0,some 2]) (out:=(bX CH).names) (XN:=ZY) rfl rfl (by decide +kernel) rfl) YU (VX (aG 1)) (fun cl C s₀ H₀ ex=>⟨SJ (i:=0) (j:=1) rfl (show(["row","number","sums","line","names"]:List aC).Nodup by decide +kernel) rfl rfl (aR rfl) (aR rfl),jI,(jR (aL (aG 0) (aL (qJ (aG 1) (QV hv (aG 2) (cJ D_key_of (hr.mono (by decide)) rfl (aL (aG 3) (aL (aG 0) (aL (aG 4) aS)))) bD)) aS)))⟩))) aS))))
def Rz:SF:=(bB (bP 2 1 .s (fE aN))
 (bB (eG .s (iR1 (aH (eOp fN (eOp kN (aO iM (aH (aB 0) (aH (eC (.int 0)) aN))) (eC (.int 5))) (eC (.int 6))) aN)) (gNm 3) (bB (bP 4 0 .s (eOp gIx (fE (aH (eC (.str "a")) (aH (eC (.str "ab")) (aH (eC (.str "abc")) (aH (eC (.str "b")) (aH (eC (.str "x1")) aN)))))) (aB 3)))
 (bB (bP 5 0 .s (eOp gIx (fE (aH (fG (aH (eC (.str "x")) (aH (aB 4) aN))) (aH (fG (aH (aB 4) (aH (eC (.str "x")) aN))) aN))) (eOp fN (eOp kN (aO iM (aH (aB 0) (aH (eC (.int 62)) aN))) (eOp gIx (fE (aH (eC (.int 1)) (aH (eC (.int 2)) (aH (eC (.int 4)) (aH (eC (.int 8)) (aH (eC (.int 16)) aN)))))) (aB 3))) (eC (.int 2)))))
 (jC 2 .s (fG (aH (aO qP (aH (aB 0) (aH (aB 1) (aH (aB 3) aN)))) (aH (aB 5) aN)))))))
 (lD 2 (dB 0 .s (aO lJ (aH (aB 2) aN))))))
def vP:List aA->Option aA:=fnD 2 6 Rz
theorem To (F:Fun K "_law_star" "_law_star" KY f fd)(B:Blt mg)(C:Cst mg)(D__law_cell:Def P w K mg base "_law_cell" 1 qS (spF K 0 iM))(D__law_table:Def P w K mg base "_law_table" 2 vX (spF K 0 qP)):FnOk P w K mg base CX0 3 f fd zO (spF K 0 vP):=by
 have nd:=Akq.nd
 exact eB F Akq rfl (by decide) fun cdv A outer s H E P0 hr=>by
  have hu:=dY hr
  have hv:=dZ hr
  exact(bK (cH (i:=2) 1 .s nd rfl (by first | exact aR rfl | exact aX rfl) (iK aS))
   (bK (CG .s fT rfl (yZ rfl B.range (aL (iW (sP (cJ D__law_cell (hr.mono (by decide)) rfl (aL (aG 0) (aL bD aS))) bD) bD) aS)) (iY (i:=3) nd rfl (by first | exact aR rfl | exact aX rfl)) (bK (cH (i:=4) 0 .s nd rfl (by first | exact aR rfl | exact aX rfl) (dC hv (cT (n:=1) (iK (aL fH (aL fH (aL fH (aL fH (aL fH aS))))))) (aG 3) (fun _ _=>rfl)))
   (bK (cH (i:=5) 0 .s nd rfl (by first | exact aR rfl | exact aX rfl) (dC hv (cT (n:=1) (iK (aL (jR (aL fH (aL (aG 4) aS))) (aL (jR (aL (aG 4) (aL fH aS))) aS)))) (iW (sP (cJ D__law_cell (hr.mono (by decide)) rfl (aL (aG 0) (aL bD aS))) (dC hv (cT (n:=1) (iK (aL bD (aL bD (aL bD (aL bD (aL bD aS))))))) (aG 3) (fun _ _=>rfl))) bD) (fun _ _=>rfl)))
   (bN (vM 2 .s (jR (aL (cJ D__law_table (hr.mono (by decide)) rfl (aL (aG 0) (aL (aG 1) (aL (aG 3) aS)))) (aL (aG 5) aS))))))))
   (qL 2 (bN (eF .s (jU sW sV rfl B.tuple wN (aL (aG 2) aS)))))))
def Qq:SF:=(bB (bP 2 1 .s (fE aN))
 (bB (bP 3 0 .s (fE (aH (eC (.str "s")) (aH (eC (.str "ss")) (aH (eC (.str "s1")) (aH (eC (.str "r1")) (aH (eC (.str "r")) (aH (eC (.str "q")) aN))))))))
 (bB (eG .s (iR1 (aH (eOp fN (eOp kN (aO iM (aH (aB 0) (aH (eC (.int 0)) aN))) (eC (.int 30))) (eC (.int 6))) aN)) (gNm 4) (jC 2 .s (fG (aH (aO qP (aH (aB 0) (aH (aB 1) (aH (eOp oR (eC (.int 4)) (aB 4)) aN)))) (aH (fG (aH (eOp gIx (aB 3) (aB 4)) (aH (eOp gIx (aB 3) (eOp dH (aB 4) (eC (.int 1)))) aN))) aN)))))
 (lD 2 (dB 0 .s (aO lJ (aH (aB 2) aN)))))))
def vU:List aA->Option aA:=fnD 2 5 Qq
theorem Rx (F:Fun K "_law_way" "_law_way" KI f fd)(B:Blt mg)(C:Cst mg)(D__law_cell:Def P w K mg base "_law_cell" 1 qS (spF K 0 iM))(D__law_table:Def P w K mg base "_law_table" 2 vX (spF K 0 qP)):FnOk P w K mg base CX0 3 f fd zM (spF K 0 vU):=by
 have nd:=Amp.nd
 exact eB F Amp rfl (by decide) fun cdv A outer s H E P0 hr=>by
  have hu:=dY hr
  have hv:=dZ hr
  exact(bK (cH (i:=2) 1 .s nd rfl (by first | exact aR rfl | exact aX rfl) (iK aS))
   (bK (cH (i:=3) 0 .s nd rfl (by first | exact aR rfl | exact aX rfl) (cT (n:=1) (iK (aL fH (aL fH (aL fH (aL fH (aL fH (aL fH aS)))))))))
   (bK (CG .s fT rfl (yZ rfl B.range (aL (iW (sP (cJ D__law_cell (hr.mono (by decide)) rfl (aL (aG 0) (aL bD aS))) bD) bD) aS)) (iY (i:=4) nd rfl (by first | exact aR rfl | exact aX rfl)) (bN (vM 2 .s (jR (aL (cJ D__law_table (hr.mono (by decide)) rfl (aL (aG 0) (aL (aG 1) (aL (LP bD (aG 4)) aS)))) (aL (jR (aL (dC hv (aG 3) (aG 4) (fun _ _=>rfl)) (aL (dC hv (aG 3) (eX (aG 4) bD) (fun _ _=>rfl)) aS))) aS))))))
   (qL 2 (bN (eF .s (jU sW sV rfl B.tuple wN (aL (aG 2) aS))))))))
def Rp:SF:=(bB (eG .s (iIt (aB 1)) (gNm 2) (bB (bP 3 0 .s (aO vR (aH (aB 0) (aH (aB 1) (aH (aB 2) aN)))))
 (sIf .s (bOf (eOp nO (aB 3) (eC .none))) (dB 0 .s (fG (aH (aB 2) (aH (aB 3) aN)))) gY)))
 (dB 0 .s (eC .none)))
def lQ:List aA->Option aA:=fnD 2 4 Rp
theorem Su (F:Fun K "first_ear" "first_ear" KR f fd)(B:Blt mg)(C:Cst mg)(D_parent_of:Def P w K mg base "parent_of" 3 zK (spF K 0 vR)):FnOk P w K mg base CX0 4 f fd zR (spF K 0 lQ):=by
 have nd:=Akn.nd
 exact eB F Akn rfl (by decide) fun cdv A outer s H E P0 hr=>by
  have hu:=dY hr
  have hv:=dZ hr
  exact(bK (hW fT rfl (eT (aG 1)) (iY (i:=2) nd rfl (by first | exact aR rfl | exact aX rfl)) (bK (cH (i:=3) 0 .s nd rfl (by first | exact aR rfl | exact aX rfl) (cJ D_parent_of (hr.mono (by decide)) rfl (aL (aG 0) (aL (aG 1) (aL (aG 2) aS)))))
   (bN (jF .s (hU CK DC (aG 3) qE (hX _)) (bN (eF .s (jR (aL (aG 2) (aL (aG 3) aS))))) kS))))
   (bN (eF .s qE)))
def Hy:SF:=(bB (bP 1 1 .s (fE aN))
 (bB (bP 2 1 .s (aO YR (aH (aO dS (aH (aB 0) aN)) aN)))
 (bB (bP 3 0 .a (aO lQ (aH (aB 0) (aH (aB 2) aN))))
 (bB (whD .s (bOf (eOp nO (aB 3) (eC .none))) (bB (jC 1 .s (aB 3))
 (bB (pE 2 .s (eOp gIx (aB 3) (eC (.int 0))))
 (bP 3 0 .a (aO lQ (aH (aB 0) (aH (aB 2) aN)))))) 100)
 (XZ 1 2)))))
def kF:List aA->Option aA:=fnD 1 4 Hy
theorem Kw (F:Fun K "ears" "ears" LV f fd)(B:Blt mg)(C:Cst mg)(D_first_ear:Def P w K mg base "first_ear" 4 zR (spF K 0 lQ)):FnOk P w K mg base CX0 5 f fd qG (spF K 2 kF):=by
 have nd:=A0m.nd
 exact eB F A0m rfl (by decide) fun cdv A outer s H E P0 hr=>by
  have hu:=dY hr
  have hv:=dZ hr
  exact(bK (cH (i:=1) 1 .s nd rfl (by first | exact aR rfl | exact aX rfl) (iK aS))
   (bK (cH (i:=2) 1 .s nd rfl (by first | exact aR rfl | exact aX rfl) (We rfl rfl B.list rfl B.range (jA kX kW rfl B.len lW (aL (aG 0) aS))))
   (bK (cH (i:=3) 0 .a nd rfl (by first | exact aR rfl | exact aX rfl) (cJ D_first_ear (hr.mono (by decide)) rfl (aL (aG 0) (aL (aG 2) aS))))
   (bK (Vf .s 100 fT (hU CK DC (aG 3) qE (hX _)) (bK (vM 1 .s (aG 3))
   (bK (Oz 2 .s (dC hv (aG 3) bD (fun _ _=>rfl)))
   (bN (cH (i:=3) 0 .a nd rfl (by first | exact aR rfl | exact aX rfl) (cJ D_first_ear (hr.mono (by decide)) rfl (aL (aG 0) (aL (aG 2) aS))))))))
   (bN (Vl 1 2 (by decide)))))))
def Jw:SF:=(bB (bP 1 1 .s (rT 1 (aO kF (aH (aB 0) aN))))
 (XX .a (bOf (eOp gGt (aO dS (aH (aB 1) aN)) (eC (.int 1)))) 1 (fE aN)))
def qC:List aA->Option aA:=fnD 1 2 Jw
theorem Ly (F:Fun K "ring" "ring" MA f fd)(B:Blt mg)(C:Cst mg)(D_ears:Def P w K mg base "ears" 5 qG (spF K 2 kF)):FnOk P w K mg base CX0 6 f fd xR (spF K 1 qC):=by
 have nd:=A0u.nd
 exact eB F A0u rfl (by decide) fun cdv A outer s H E P0 hr=>by
  have hu:=dY hr
  have hv:=dZ hr
  exact(bK (cH (i:=1) 1 .s nd rfl (by first | exact aR rfl | exact aX rfl) (CN (cJ D_ears (hr.mono (by decide)) rfl (aL (aG 0) aS))))
   (bN (Xu .a 1 (hU PP QU (jA kX kW rfl B.len lW (aL (aG 1) aS)) bD (hX _)) (iK aS))))
def Se:SF:=(bB (bP 2 0 .s (rT 1 (aO kF (aH (aB 0) aN))))
 (dB 0 .s (aO vG (aH (aO lJ (aH (eLC [none,some 0] (iIt (aB 2)) (gB 0) dG (eOp gIx (aB 1) (aB 0))) aN)) (aH (eLC [none,some 1] (iIt (aB 2)) (gB 0) dG (eOp gIx (aB 1) (aB 0))) aN)))))
def vT:List aA->Option aA:=fnD 2 3 Se
theorem Tr (F:Fun K "walk_rest" "walk_rest" zG f fd)(B:Blt mg)(C:Cst mg)(D_walked:Def P w K mg base "walked" 3 yT (spF K 0 vG))(D_ears:Def P w K mg base "ears" 5 qG (spF K 2 kF)):FnOk P w K mg base CX0 6 f fd zP (spF K 0 vT):=by
 have nd:=Akv.nd
 exact eB F Akv rfl (by decide) fun cdv A outer s H E P0 hr=>by
  have hu:=dY hr
  have hv:=dZ hr
  exact(bK (cH (i:=2) 0 .s nd rfl (by first | exact aR rfl | exact aX rfl) (cT (n:=1) (CN (cJ D_ears (hr.mono (by decide)) rfl (aL (aG 0) aS)))))
   (bN (eF .s (cJ D_walked (hr.mono (by decide)) rfl (aL (jU sW sV rfl B.tuple wN (aL (cT (n:=1) (iJ rfl (iA (N:=["k","lines"]) (cap:=[none,some 0]) (out:=(bX zG).names) (XN:=KW) rfl rfl (by decide +kernel) rfl) hE (eT (aG 2)) (fun cl C s₀ H₀ ex=>⟨jB (j:=0) (show(["k","lines"]:List aC).Nodup by decide +kernel) rfl (aR rfl),jI,(dC hv (aG 1) (aG 0) (fun _ _=>rfl))⟩))) aS)) (aL (cT (n:=1) (iJ rfl (iA (N:=["k","kept"]) (cap:=[none,some 1]) (out:=(bX zG).names) (XN:=KW) rfl rfl (by decide +kernel) rfl) hE (eT (aG 2)) (fun cl C s₀ H₀ ex=>⟨jB (j:=0) (show(["k","kept"]:List aC).Nodup by decide +kernel) rfl (aR rfl),jI,(dC hv (aG 1) (aG 0) (fun _ _=>rfl))⟩))) aS))))))
def Uq:SF:=(bB (bP 2 1 .s (eLC [none] (iIt (aB 1)) (gB 0) dG (aO uS (aH (eLC [none] (iIt (aB 0)) (gB 0) dG (fG (aH (aB 0) (aH (eC (.int 1)) aN)))) aN))))
 (bB (eG .s (iIt (rT 0 (aO kF (aH (aB 0) aN)))) (pX 3 4) (bB (bP 5 0 .s (aO vF (aH (eOp gIx (aB 0) (aB 3)) (aH (eOp gIx (aB 0) (aB 4)) aN))))
 (uD 2 .a (aO uV (aH (eOp gIx (aB 0) (aB 4)) (aH (eOp gIx (aB 2) (aB 4)) (aH (aB 5) (aH (aO uZ (aH (eOp gIx (aB 0) (aB 3)) (aH (eOp gIx (aB 2) (aB 3)) (aH (aB 5) aN)))) aN))))) .s (aB 4))))
 (kQ 2 1)))
def wA:List aA->Option aA:=fnD 2 6 Uq
theorem Us (F:Fun K "count_parents" "count_parents" zY f fd)(B:Blt mg)(C:Cst mg)(D_common:Def P w K mg base "common" 2 yU (spF K 1 vF))(D_summed:Def P w K mg base "summed" 3 yS (spF K 0 uZ))(D_times:Def P w K mg base "times" 3 yF (spF K 0 uV))(D_ears:Def P w K mg base "ears" 5 qG (spF K 2 kF)):FnOk P w K mg base CX0 6 f fd zZ (spF K 1 wA):=by
 have nd:=Agt.nd
 exact eB F Agt rfl (by decide) fun cdv A outer s H E P0 hr=>by
  have hu:=dY hr
  have hv:=dZ hr
  exact(bK (by first | exact(Vo (i:=2) .s rfl nd rfl (by first | exact aR rfl | exact aX rfl) (iA (N:=["rows"]) (cap:=[none]) (out:=(bX zY).names) (XN:=LL) rfl rfl (by decide +kernel) rfl) hE (eT (aG 1)) (fun cl C s₀ H₀ ex=>⟨jB (j:=0) (show(["rows"]:List aC).Nodup by decide +kernel) rfl (aR rfl),jI,(jU (KZ hu rfl) LJ rfl B.dict FB (aL (cT (n:=1) (iJ rfl (iA (N:=["row"]) (cap:=[none]) rfl rfl rfl rfl) hE (eT (aG 0)) (fun cl C s₀ H₀ ex=>⟨jB (j:=0) (show(["row"]:List aC).Nodup by decide +kernel) rfl (aR rfl),jI,(jR (aL (aG 0) (aL bD aS)))⟩))) aS))⟩)) | exact(cH (i:=2) 1 .s nd rfl (by first | exact aR rfl | exact aX rfl) (iJ rfl (iA (N:=["rows"]) (cap:=[none]) (out:=(bX zY).names) (XN:=LL) rfl rfl (by decide +kernel) rfl) hE (eT (aG 1)) (fun cl C s₀ H₀ ex=>⟨jB (j:=0) (show(["rows"]:List aC).Nodup by decide +kernel) rfl (aR rfl),jI,(jU (KZ hu rfl) LJ rfl B.dict FB (aL (cT (n:=1) (iJ rfl (iA (N:=["row"]) (cap:=[none]) rfl rfl rfl rfl) hE (eT (aG 0)) (fun cl C s₀ H₀ ex=>⟨jB (j:=0) (show(["row"]:List aC).Nodup by decide +kernel) rfl (aR rfl),jI,(jR (aL (aG 0) (aL bD aS)))⟩))) aS))⟩))))
   (bK (hW fT rfl (eT (cT (n:=1) (CN (cJ D_ears (hr.mono (by decide)) rfl (aL (aG 0) aS))))) (uU (i:=3) (j:=4) rfl nd rfl rfl (by first | exact aR rfl | exact aX rfl) (by first | exact aR rfl | exact aX rfl)) (bK (cH (i:=5) 0 .s nd rfl (by first | exact aR rfl | exact aX rfl) (cT (n:=1) (cJ D_common (hr.mono (by decide)) rfl (aL (dC hv (aG 0) (aG 3) (fun _ _=>rfl)) (aL (dC hv (aG 0) (aG 4) (fun _ _=>rfl)) aS)))))
   (bN (Nk 2 .a .s (cJ D_times (hr.mono (by decide)) rfl (aL (dC hv (aG 0) (aG 4) (fun _ _=>rfl)) (aL (dC hv (aG 2) (aG 4) (fun _ _=>rfl)) (aL (aG 5) (aL (cJ D_summed (hr.mono (by decide)) rfl (aL (dC hv (aG 0) (aG 3) (fun _ _=>rfl)) (aL (dC hv (aG 2) (aG 3) (fun _ _=>rfl)) (aL (aG 5) aS)))) aS))))) (aG 4)))))
   (bN (CP 2))))
def LF:SF:=(qA .s (aO vZ (aH (aB 0) (aH (aO lJ (aH (eLC [none,some 1] (iIt (aO qC (aH (aB 1) aN))) (gB 0) dG (eOp gIx (aB 1) (aB 0))) aN)) aN))))
def qQ:List aA->Option aA:=fnD 2 2 LF
theorem Ul (F:Fun K "refuse_ring" "refuse_ring" ED f fd)(B:Blt mg)(C:Cst mg)(D_refuse_ways:Def P w K mg base "refuse_ways" 3 zT (spF K 0 vZ))(D_ring:Def P w K mg base "ring" 6 xR (spF K 1 qC)):FnOk P w K mg base CX0 7 f fd zU (spF K 0 qQ):=by
 have nd:=Ah2.nd
 exact eB F Ah2 rfl (by decide) fun cdv A outer s H E P0 hr=>by
  have hu:=dY hr
  have hv:=dZ hr
  exact(bN (HS .s (cJ D_refuse_ways (hr.mono (by decide)) rfl (aL (aG 0) (aL (jU sW sV rfl B.tuple wN (aL (cT (n:=1) (iJ rfl (iA (N:=["k","lines"]) (cap:=[none,some 1]) (out:=(bX ED).names) (XN:=XE) rfl rfl (by decide +kernel) rfl) hE (eT (cT (n:=1) (cJ D_ring (hr.mono (by decide)) rfl (aL (aG 1) aS)))) (fun cl C s₀ H₀ ex=>⟨jB (j:=0) (show(["k","lines"]:List aC).Nodup by decide +kernel) rfl (aR rfl),jI,(dC hv (aG 1) (aG 0) (fun _ _=>rfl))⟩))) aS)) aS)))))
def Hi:SF:=(bB (qA .s (aO qQ (aH (aB 0) (aH (aB 1) aN))))
 (bB (bP 2 0 .s (aO wA (aH (aB 1) (aH (aO sX (aH (aB 0) (aH (aB 1) aN))) aN))))
 (bB (bP 3 0 .s (rT 1 (aO kF (aH (aB 1) aN))))
 (bB (bP 4 0 .s (eC (.int 0)))
 (bB (eG .s (iIt (aO vT (aH (aB 1) (aH (aB 2) aN)))) (gNm 5) (bB (bP 6 0 .s (eC (.int 1)))
 (bB (eG .s (iIt (aB 3)) (gNm 7) (bP 6 0 .s (eOp jO (aB 6) (eOp BO (eOp gIx (aB 2) (aB 7)) (aO nU (aH (eOp gIx (eOp gIx (aB 1) (aB 7)) (eC (.int 1))) (aH (aB 5) aN)))))))
 (bP 4 0 .s (eOp dH (aB 4) (aB 6))))))
 (dB 0 .s (aB 4)))))))
def nP:List aA->Option aA:=fnD 2 8 Hi
theorem Nb (F:Fun K "many" "many" MB f fd)(B:Blt mg)(C:Cst mg)(D_put_in:Def P w K mg base "put_in" 1 uY (spF K 0 nU))(D_all_fitting:Def P w K mg base "all_fitting" 3 zW (spF K 1 sX))(D_ears:Def P w K mg base "ears" 5 qG (spF K 2 kF))(D_walk_rest:Def P w K mg base "walk_rest" 6 zP (spF K 0 vT))(D_count_parents:Def P w K mg base "count_parents" 6 zZ (spF K 1 wA))(D_refuse_ring:Def P w K mg base "refuse_ring" 7 zU (spF K 0 qQ)):FnOk P w K mg base CX0 8 f fd xX (spF K 0 nP):=by
 have nd:=Azh.nd
 exact eB F Azh rfl (by decide) fun cdv A outer s H E P0 hr=>by
  have hu:=dY hr
  have hv:=dZ hr
  exact(bK (HS .s (cJ D_refuse_ring (hr.mono (by decide)) rfl (aL (aG 0) (aL (aG 1) aS))))
   (bK (cH (i:=2) 0 .s nd rfl (by first | exact aR rfl | exact aX rfl) (cT (n:=1) (cJ D_count_parents (hr.mono (by decide)) rfl (aL (aG 1) (aL (cT (n:=1) (cJ D_all_fitting (hr.mono (by decide)) rfl (aL (aG 0) (aL (aG 1) aS)))) aS)))))
   (bK (cH (i:=3) 0 .s nd rfl (by first | exact aR rfl | exact aX rfl) (cT (n:=1) (CN (cJ D_ears (hr.mono (by decide)) rfl (aL (aG 1) aS)))))
   (bK (cH (i:=4) 0 .s nd rfl (by first | exact aR rfl | exact aX rfl) bD)
   (bK (hW fT rfl (eT (cJ D_walk_rest (hr.mono (by decide)) rfl (aL (aG 1) (aL (aG 2) aS)))) (iY (i:=5) nd rfl (by first | exact aR rfl | exact aX rfl)) (bK (cH (i:=6) 0 .s nd rfl (by first | exact aR rfl | exact aX rfl) bD)
   (bK (hW fT rfl (eT (aG 3)) (iY (i:=7) nd rfl (by first | exact aR rfl | exact aX rfl)) (bN (cH (i:=6) 0 .s nd rfl (by first | exact aR rfl | exact aX rfl) (qJ (aG 6) (Jz hv (dC hv (aG 2) (aG 7) (fun _ _=>rfl)) (cJ D_put_in (hr.mono (by decide)) rfl (aL (dC hv (dC hv (aG 1) (aG 7) (fun _ _=>rfl)) bD (fun _ _=>rfl)) (aL (aG 5) aS))) (fun _ _=>rfl))))))
   (bN (cH (i:=4) 0 .s nd rfl (by first | exact aR rfl | exact aX rfl) (eX (aG 4) (aG 6)))))))
   (bN (eF .s (aG 4))))))))
def Tw:SF:=(bB (bP 3 0 .s (aO nP (aH (aB 0) (aH (aB 1) aN))))
 (dB 0 .s (pD (eUn (gW "int") (aB 3)) (pD (xO (eUn (gW "bool") (aB 3))) (eOp gEq (aB 3) (aB 2))))))
def mV:List aA->Option aA:=fnD 3 4 Tw
theorem Ud (F:Fun K "_law_right" "_law_right" LK f fd)(B:Blt mg)(C:Cst mg)(D_many:Def P w K mg base "many" 8 xX (spF K 0 nP)):FnOk P w K mg base CX0 9 f fd zN (spF K 0 mV):=by
 have nd:=Aja.nd
 exact eB F Aja rfl (by decide) fun cdv A outer s H E P0 hr=>by
  have hu:=dY hr
  have hv:=dZ hr
  exact(bK (cH (i:=3) 0 .s nd rfl (by first | exact aR rfl | exact aX rfl) (cJ D_many (hr.mono (by decide)) rfl (aL (aG 0) (aL (aG 1) aS))))
   (bN (eF .s (BY (CD (T:="int") rfl B.isinstance rfl B.int PyProof.Rows.boot_int (by decide) (aG 3)) (BY (Hz (CD (T:="bool") rfl B.isinstance rfl B.bool PyProof.Rows.boot_bool (by decide) (aG 3))) (QF (BX (sH hu) sJ (aG 3) (aG 2) (hX _))))))))
end Aw
namespace Aw
open PySem L2
set_option maxHeartbeats 4000000
variable {P:bT}{w:bI}{K:aK}{mg:aC->Option aE}{base:aZ}{f:aD}{fd:gV}
def Fl:SF:=(bB (bP 1 0 .s (aO vQ (aH (aB 0) aN)))
 (bB (bP 2 0 .s (aO CB (aH (eLC [none,none] (iDI (aB 1)) (gB2 0 1) dG (fG (aH (aB 0) (aH (aO uH (aH (aB 1) aN)) aN)))) aN)))
 (bB (bP 3 0 .s (aO vP (aH (aB 0) (aH (aB 1) aN))))
 (bB (bP 4 0 .s (aO vU (aH (aB 0) (aH (aB 1) aN))))
 (bB (bP 5 0 .s (aO wB (aH (aB 2) (aH (aB 3) aN))))
 (bB (bP 6 0 .s (aO wC (aH (aB 2) (aH (aB 4) aN))))
 (bB (sIf .s (bOr (pF (bOf (aO mV (aH (aB 1) (aH (aB 3) (aH (aB 5) aN)))))) (pF (bOf (aO mV (aH (aB 1) (aH (aB 4) (aH (aB 6) aN))))))) (dB 0 .s (eC (.bool false))) gY)
 (bB (bP 7 0 .s (aO lJ (aH (eLC [none,some 3] (iR1 (aH (aO dS (aH (aB 3) aN)) aN)) (gB 0) dG (eOp gIx (aB 1) (eOp oR (eOp oR (aO dS (aH (aB 1) aN)) (eC (.int 1))) (aB 0)))) aN)))
 (dB 0 .s (pD (aO mV (aH (aB 1) (aH (aB 7) (aH (aB 5) aN)))) (pD (aO mV (aH (aB 1) (aH (aB 4) (aH (aB 6) aN)))) (eOp (uA false) (aB 1) (aB 2)))))))))))))
def ER:List aA->Option aA:=fnD 1 8 Fl
theorem Gy (F:Fun K "law" "law" oI f fd)(B:Blt mg)(C:Cst mg)(D__law_star_wanted:Def P w K mg base "_law_star_wanted" 1 AA (spF K 0 wB))(D__law_way_wanted:Def P w K mg base "_law_way_wanted" 1 zX (spF K 0 wC))(D__law_book:Def P w K mg base "_law_book" 2 zQ (spF K 1 vQ))(D__law_star:Def P w K mg base "_law_star" 3 zO (spF K 0 vP))(D__law_way:Def P w K mg base "_law_way" 3 zM (spF K 0 vU))(D__law_right:Def P w K mg base "_law_right" 9 zN (spF K 0 mV)):FnOk P w K mg base CX0 10 f fd PK (spF K 0 ER):=by
 have nd:=A9v.nd
 exact eB F A9v rfl (by decide) fun cdv A outer s H E P0 hr=>by
  have hu:=dY hr
  have hv:=dZ hr
  exact(bK (cH (i:=1) 0 .s nd rfl (by first | exact aR rfl | exact aX rfl) (cT (n:=1) (cJ D__law_book (hr.mono (by decide)) rfl (aL (aG 0) aS))))
   (bK (cH (i:=2) 0 .s nd rfl (by first | exact aR rfl | exact aX rfl) (cT (n:=1) (jU (Sh rfl) Sj rfl B.dict FB (aL (cT (n:=1) (iJ rfl (iA (N:=["_law_table_here","_law_rows"]) (cap:=[none,none]) (out:=(bX oI).names) (XN:=GN) rfl rfl (by decide +kernel) rfl) YU (Vd (aG 1)) (fun cl C s₀ H₀ ex=>⟨SJ (i:=0) (j:=1) rfl (show(["_law_table_here","_law_rows"]:List aC).Nodup by decide +kernel) rfl rfl (aR rfl) (aR rfl),jI,(jR (aL (aG 0) (aL (cT (n:=1) (jU (Td rfl) Qs rfl B.list PyProof.Rows.boot_list (aL (aG 1) aS))) aS)))⟩))) aS))))
   (bK (cH (i:=3) 0 .s nd rfl (by first | exact aR rfl | exact aX rfl) (cJ D__law_star (hr.mono (by decide)) rfl (aL (aG 0) (aL (aG 1) aS))))
   (bK (cH (i:=4) 0 .s nd rfl (by first | exact aR rfl | exact aX rfl) (cJ D__law_way (hr.mono (by decide)) rfl (aL (aG 0) (aL (aG 1) aS))))
   (bK (cH (i:=5) 0 .s nd rfl (by first | exact aR rfl | exact aX rfl) (cJ D__law_star_wanted (hr.mono (by decide)) rfl (aL (aG 2) (aL (aG 3) aS))))
   (bK (cH (i:=6) 0 .s nd rfl (by first | exact aR rfl | exact aX rfl) (cJ D__law_way_wanted (hr.mono (by decide)) rfl (aL (aG 2) (aL (aG 4) aS))))
   (bK (jF .s (PC (Fe (QG (yA (cJ D__law_right (hr.mono (by decide)) rfl (aL (aG 1) (aL (aG 3) (aL (aG 5) aS)))))) (Gd (QG (yA (cJ D__law_right (hr.mono (by decide)) rfl (aL (aG 1) (aL (aG 4) (aL (aG 6) aS))))))))) (bN (eF .s QD)) kS)
   (bK (cH (i:=7) 0 .s nd rfl (by first | exact aR rfl | exact aX rfl) (jU sW sV rfl B.tuple wN (aL (cT (n:=1) (iJ rfl (iA (N:=["_law_k","_law_star_here"]) (cap:=[none,some 3]) (out:=(bX oI).names) (XN:=GN) rfl rfl (by decide +kernel) rfl) hE (Hv (yZ rfl B.range (aL (jA kX kW rfl B.len lW (aL (aG 3) aS)) aS))) (fun cl C s₀ H₀ ex=>⟨jB (j:=0) (show(["_law_k","_law_star_here"]:List aC).Nodup by decide +kernel) rfl (aR rfl),jI,(dC hv (aG 1) (LP (LP (jA kX kW rfl B.len lW (aL (aG 1) aS)) bD) (aG 0)) (fun _ _=>rfl))⟩))) aS)))
   (bN (eF .s (BY (cJ D__law_right (hr.mono (by decide)) rfl (aL (aG 1) (aL (aG 7) (aL (aG 5) aS)))) (BY (cJ D__law_right (hr.mono (by decide)) rfl (aL (aG 1) (aL (aG 4) (aL (aG 6) aS)))) (QF (BX (Kc hu) Ny (aG 1) (aG 2) (hX _)))))))))))))))
end Aw
namespace L2
open PySem PySem.Spec PyProof.Rows
variable {F G:SF}{T:aA->bA->Option bA}{ds:List aA}{ρ:bA}{f:EF}{d:aA}{fi:AF}{n i:Nat}
theorem Xb(P:Nat->bA->Prop)(h0:P 0 ρ)
  (step : ∀ i d ρ,ds[i]?=some d->P i ρ -> ∃ ρ1 ρ2,T d ρ=some ρ1/\(F ρ1=some (.nx ρ2) \/ F ρ1=some (.ct ρ2))/\P (i+1) ρ2) : ∃ ρ',jD F T ds ρ=some (.nx ρ')/\P ds.length ρ':=by
 have go : ∀ (rest:List aA) (i:Nat) (ρ:bA),ds.drop i=rest->i+rest.length=ds.length->P i ρ -> ∃ ρ',jD F T rest ρ=some (.nx ρ')/\P ds.length ρ':=by
  intro rest
  induction rest with
  | nil=>
   intro i ρ _ hl p
   simp at hl
   subst hl
   exact⟨ρ,rfl,p⟩
  | cons d r ih=>
   intro i ρ hd hl p
   have hi:ds[i]?=some d:=by
    have:=congrArg (·[0]?) hd
    simpa using this
   obtain⟨ρ1,ρ2,e1,e2,p2⟩:=step i d ρ hi p
   have hd2:ds.drop (i+1)=r:=by
    have:=congrArg List.tail hd
    simpa using this
   obtain⟨ρ',e3,p3⟩:=ih (i+1) ρ2 hd2 (by simp at hl; omega) p2
   refine⟨ρ',?_,p3⟩
   show((T d ρ).bind fun ρ1=>(F ρ1).bind fun o=>match o with
    | .nx ρ'=>jD F T r ρ'
    | .ct ρ'=>jD F T r ρ'
    | .bk ρ'=>some (.nx ρ')
    | .rt d=>some (.rt d))=some (.nx ρ')
   rw[e1]
   rcases e2 with e2 | e2
   ·simp only[cG,e2]; exact e3
   ·simp only[cG,e2]; exact e3
 exact go ds 0 ρ (by simp) (by simp) h0
theorem Ag {T:aA->List (Option aA)->Option (List (Option aA))}{t:BF}{ρ:List (Option aA)}(g:aA->aA) : ∀ (ds:List aA),(∀ d∈ds,∃ ρ1,T d ρ=some ρ1/\t ρ1=some true/\f ρ1=some (g d))->lcD T t f ρ ds=some (ds.map g)
 | [],_=>rfl
 | d::r,h=>by
  obtain⟨ρ1,e1,e2,e3⟩:=h d bM
  have e4:=Ag g r fun d' m=>h d' (cF _ m)
  show((T d ρ).bind fun ρ1=>(t ρ1).bind fun c=>if c=true then(f ρ1).bind fun y=>(lcD T t f ρ r).bind fun ys=>some (y::ys) else lcD T t f ρ r)=some (g d::r.map g)
  simp[e1,e2,e3,e4]
theorem Hq{ρ':bA}(h:F ρ=some (.nx ρ')):bB F G ρ=G ρ':=by
 unfold bB
 rw[h]
 rfl
theorem Ih(h:F ρ=some (.rt d)):bB F G ρ=some (.rt d):=by
 unfold bB
 rw[h]
 rfl
theorem HC {m:Md}{o:Out}(h:aV m fi ρ=some ds)(h2:jD F T ds ρ=some o):eG m fi T F ρ=some o:=by
 unfold eG
 rw[h]
 exact h2
theorem Ee {np:Nat}{body:SF}(hl:ds.length=np)(h:body (ds.map (fun d=>some (0,d))++AY (n - np) none)=some (.rt d)):fnD np n body ds=some d:=by
 unfold fnD
 rw[if_pos hl,h]
 rfl
theorem Gi{k:Nat}(h:k≤ds.length):cutD ds none (some (k:Int))=ds.take k:=by
 unfold cutD
 rw[HT.Awm,HT.Ay2]
 simp[Nat.min_eq_left h]
theorem vD(h:n≤100000):n≤sizeLine:=eO h (by decide)
theorem yE(h:n≤100000):n<sizeLine:=rE h (by decide)
def letter (c:Nat):Bool:=decide (97≤c)&&decide (c≤122)
def figure (c:Nat):Bool:=decide (48≤c)&&decide (c≤57)
def Jm (c:Nat):Bool:=letter c||figure c
def Es (cs:List Nat):Prop:=∃ c r,cs=c::r/\letter c=true/\(∀ x∈cs,Jm x=true)/\cs.length≤12
def nameS (z:aC):Prop:=Es z.cps.toList
theorem iX (a:Int){b:Int}(h:0<b):0≤a%b/\a%b<b:=⟨Int.emod_nonneg _ (by omega),Int.emod_lt_of_pos _ h⟩
def Goes (F:SF)(ρ:bA)(P:Out->Prop):Prop:=∃ o,F ρ=some o/\P o
variable {P:Out->Prop}{m:Md}
theorem Goes.mono {P':Out->Prop}(h:Goes F ρ P)(k : ∀ o,P o->P' o):Goes F ρ P':=by
 obtain⟨o,e,p⟩:=h
 exact⟨o,e,k o p⟩
theorem jG {ρ':bA}(h:F ρ=some (.nx ρ'))(k:Goes G ρ' P):Goes (bB F G) ρ P:=by
 obtain⟨o,e,p⟩:=k
 exact⟨o,by rw[Hq h]; exact e,p⟩
theorem gG (I:bA->Prop)(h:Goes F ρ fun o=>∃ ρ',o = .nx ρ'/\I ρ')(k : ∀ ρ',I ρ'->Goes G ρ' P):Goes (bB F G) ρ P:=by
 obtain⟨o,e,ρ',rfl,i⟩:=h
 exact jG e (k ρ' i)
theorem HW(h:F ρ=some (.rt d))(k:P (.rt d)):Goes (bB F G) ρ P:=⟨_,Ih h,k⟩
theorem PM {t:BF}{b:Bool}(h:bV m t ρ=some b)(k:Goes (if b=true then F else G) ρ P):Goes (sIf m t F G) ρ P:=by
 obtain⟨o,e,p⟩:=k
 refine⟨o,?_,p⟩
 show((bV m t ρ).bind fun b=>if b=true then F ρ else G ρ)=some o
 rw[h]
 cases b
 ·exact e
 ·exact e
theorem jQ {t:BF}(h:bV m t ρ=some true)(k:Goes F ρ P):Goes (sIf m t F G) ρ P:=PM h k
theorem mQ {t:BF}(h:bV m t ρ=some false)(k:Goes G ρ P):Goes (sIf m t F G) ρ P:=PM h k
theorem qK (k:P (.nx ρ)):Goes gY ρ P:=⟨_,rfl,k⟩
theorem rX {t:BF}(h:bV m t ρ=some false):sIf m t F gY ρ=some (.nx ρ):=by
 unfold sIf
 rw[h]
 rfl
theorem yI (h:Goes F ρ fun o=>∃ d,o = .rt d/\P o):Goes (bB F G) ρ P:=by
 obtain⟨o,e,d,rfl,p⟩:=h
 exact HW e p
theorem dW(h:f (vS ρ)=some d)(k:P (.rt d)):Goes (dB n .s f) ρ P:=⟨_,by
 unfold dB eV
 simp only[h,cG],k⟩
theorem LQ(h:eV n m f ρ=some d)(hl:i<ρ.length)(k:P (.nx (ρ.set i (some (n,d))))):Goes (bP i n m f) ρ P:=
 ⟨_,by unfold bP; rw[h]; simp only[cG,if_pos hl],k⟩
theorem nQ(h:f (vS ρ)=some d)(hl:i<ρ.length)(k:P (.nx (ρ.set i (some (n,d))))):Goes (bP i n .s f) ρ P:=LQ h hl k
theorem qH(h:Goes F (frz i ρ) P):Goes (lD i F) ρ P:=h
theorem Ic(h:n≤1000000):GJ 0 (n:Int)=some ((bR n).map fun(k:Nat)=>aQ k):=by
 unfold GJ
 rw[if_pos (by omega)]
 simp
theorem xV {fa:AF}{ρ:List (Option aA)}(h:fa ρ=some [.int n])(hn:n≤1000000):iR1 fa ρ=some ((bR n).map fun(k:Nat)=>aQ k):=by
 have e:=Ic hn
 generalize some ((bR n).map fun(k:Nat)=>aQ k)=y at e ⊢
 rw[← e]
 unfold iR1
 rw[h,cG]
theorem avS(h:fi (vS ρ)=some ds):aV .s fi ρ=some ds:=h
theorem QI(I:Nat->bA->Prop)(h:aV m fi ρ=some ds)(h0:I 0 ρ)
  (step : ∀ i d ρ,ds[i]?=some d->I i ρ -> ∃ ρ1,T d ρ=some ρ1/\Goes F ρ1 fun o=>∃ ρ2,(o = .nx ρ2 \/ o = .ct ρ2)/\I (i+1) ρ2) (k : ∀ ρ',I ds.length ρ'->P (.nx ρ')):Goes (eG m fi T F) ρ P:=by
 obtain⟨ρ',e,i⟩:=Xb (F:=F) (T:=T) I h0 fun i d ρ hd p=>by
  obtain⟨ρ1,e1,o,e2,ρ2,e3,p2⟩:=step i d ρ hd p
  refine⟨ρ1,ρ2,e1,?_,p2⟩
  rcases e3 with rfl | rfl
  ·exact .inl e2
  ·exact .inr e2
 exact⟨_,HC h e,k ρ' i⟩
theorem CQ(I:Nat->bA->Prop)(h:aV m fi ρ=some ((bR n).map fun(k:Nat)=>aQ k))(h0:I 0 ρ)
  (step : ∀ (i:Nat) ρ,i<n->I i ρ -> ∃ ρ1,T (.int i) ρ=some ρ1/\Goes F ρ1 fun o=>∃ ρ2,(o = .nx ρ2 \/ o = .ct ρ2)/\I (i+1) ρ2) (k : ∀ ρ',I n ρ'->P (.nx ρ')):Goes (eG m fi T F) ρ P:=by
 refine QI I h h0 (fun i d ρ hd p=>?_) (by simpa using k)
 have hlt:i<n:=by
  have:=(dR.mp hd).1
  simpa using this
 rw[dI,wY hlt] at hd
 have:aQ (i:Int)=d:=by simpa using hd
 subst this
 exact step i ρ hlt p
theorem eJ {np:Nat}{body:SF}{Q:aA->Prop}(hl:ds.length=np)(h:Goes body (ds.map (fun d=>some (0,d))++AY (n - np) none) fun o=>∃ d,o = .rt d/\Q d) : ∃ d,fnD np n body ds=some d/\Q d:=by
 obtain⟨o,e,d,rfl,q⟩:=h
 exact⟨d,Ee hl e,q⟩
theorem YC {cap:List (Option Nat)}{T:aA->List (Option aA)->Option (List (Option aA))}{t:BF}{ρ:List (Option aA)}(g:aA->aA)(h1:fi ρ=some ds)(h2:ds.length≤100000)
  (h : ∀ d∈ds,∃ ρ1,T d (kM cap ρ)=some ρ1/\t ρ1=some true/\f ρ1=some (g d)):eLC cap fi T t f ρ=some (.list (ds.map g)):=by
 unfold eLC
 rw[h1,cG,Ag g ds h,cG,if_pos (vD h2)]
end L2
namespace L2
open PySem PySem.Spec PyProof.Rows
variable {f:EF}{ds:List aA}{d:aA}{kds:List (aA×aA)}
variable {F G:SF}{ρ:bA}{P:Out->Prop}{m:Md}
theorem gH{ρ:List (Option aA)}(h:f ρ=some (.list ds)):iIt f ρ=some ds:=by
 unfold iIt
 rw[h]
 rfl
theorem yC{ρ:List (Option aA)}(h:f ρ=some (.tuple ds)):iIt f ρ=some ds:=by
 unfold iIt
 rw[h]
 rfl
theorem bG {fa:AF}{g:List aA->Option aA}{ρ:List (Option aA)}(h:fa ρ=some ds)(h2:g ds=some d):aO g fa ρ=some d:=by
 unfold aO
 rw[h]
 exact h2
theorem aY {fa fb:EF}{g:aA->aA->Option aA}{ρ:List (Option aA)}{a b:aA}(h:fa ρ=some a)(h2:fb ρ=some b)(h3:g a b=some d):eOp g fa fb ρ=some d:=by
 unfold eOp
 rw[h,h2]
 exact h3
theorem uP {i:Nat}(h:f (vS ρ)=some d)(hg:getL i ρ=some ds)(hl:ds.length<100000)(k:P (.nx (ρ.set i (some (1,.list (ds++[d])))))):Goes (jC i .s f) ρ P:=⟨_,by
 unfold jC eV
 simp only[h,cG,hg,if_pos (yE (pO hl))],k⟩
theorem ZH {i:Nat}{g:EF}{kd:aA}{key:aI}(h:f (vS ρ)=some d)(hg:pB i ρ=some kds)(hk:g (vS ρ)=some kd)(ha:cL kd=some key)(hl:kds.length<100000)(k:P (.nx (ρ.set i (some (1,.dict (putD kds key d)))))):Goes (lH i .s f .s g) ρ P:=⟨_,by
 unfold lH eV
 simp only[h,cG,hg,hk,ha,if_pos (yE (pO hl))],k⟩
def Fo (d:aA):Prop:=(∃ z,d = .str z/\nameS z) \/ ∃ i,d = .int i
theorem DD : ∀ {ts:List aA},(∀ t∈ts,bQ t=true)->bU ts=true
 | [],_=>by simp[bU]
 | t::r,h=>by
  simp only[bU,xF]
  exact⟨h t bM,DD fun x m=>h x (cF _ m)⟩
theorem DP {n:Nat} : ∀ {ts:List aA},(∀ t∈ts,t.depth≤n)->cZ ts≤n
 | [],_=>by simp[cZ]
 | t::r,h=>by
  simp only[cZ]
  exact Nat.max_le.mpr ⟨h t bM,DP fun x m=>h x (cF _ m)⟩
theorem zL : ∀ {ts:List aA},(∀ t∈ts,noDict t=true)->noDicts ts=true
 | [],_=>by simp[noDicts]
 | t::r,h=>by
  simp only[noDicts,xF]
  exact⟨h t bM,zL fun x m=>h x (cF _ m)⟩
structure Kn (kds:List (aA×aA)):Prop where
 fit : ∀ kd∈kds,(∃ z,kd.1 = .str z)/\Fo kd.2
 once:(kds.map (·.1)).Nodup
theorem Kn.int(h:Kn kds)(i:Int):cN kds (.inl i)=none:=by
 have:(kds.find? fun kd=>decide (cL kd.1=some (.inl i)))=none:=by
  rw[NS]
  intro kd m
  obtain⟨⟨z,e⟩,_⟩:=h.fit kd m
  simp[e,cL]
 unfold cN
 rw[this]
 rfl
theorem xW(h : ∀ kd∈kds,kd.1 ≠ .none):plK kds=true:=by
 cases kds with
 | nil=>rfl
 | cons p r=>
  obtain⟨k,d⟩:=p
  have:=h (k,d) bM
  cases k <;> first | rfl | exact absurd rfl this
theorem RD : ∀ {kss:List (List aA)},(∀ k∈kss,bU k=true/\cZ k≤6)->nY (kss.map eI)=some kss
 | [],_=>rfl
 | k::r,h=>by
  show(if bU k=true/\cZ k≤6 then(nY (r.map eI)).bind fun kss=>some (k::kss) else none)=_
  rw[if_pos (h k bM),RD fun x m=>h x (cF _ m)]
  rfl
end L2
namespace L2
open PySem PySem.Spec PyProof.Rows
variable {f:EF}{i n:Nat}{d:aA}
variable {F G:SF}{ρ:bA}{P:Out->Prop}{m:Md}
theorem jJ {α β:Type}{fi:AF}{T:aA->bA->Option bA}{xs:List α}{q:α->aA}(g:β->α->β)(I:Nat->β->bA->Prop){b0:β}(h:aV m fi ρ=some (xs.map q))(h0:I 0 b0 ρ)
  (step : ∀ i x b ρ,xs[i]?=some x->I i b ρ -> ∃ ρ1,T (q x) ρ=some ρ1/\Goes F ρ1 fun o=>∃ ρ2,(o = .nx ρ2 \/ o = .ct ρ2)/\I (i+1) (g b x) ρ2) (k : ∀ ρ',I xs.length (xs.foldl g b0) ρ'->P (.nx ρ')):Goes (eG m fi T F) ρ P:=by
 refine QI (fun i ρ=>I i ((xs.take i).foldl g b0) ρ) h h0 (fun i d ρ hd p=>?_) (fun ρ' p=>k ρ' (by simpa using p))
 rw[dI] at hd
 obtain⟨x,hx,rfl⟩:=nB.mp hd
 obtain⟨ρ1,e1,g1⟩:=step i x _ ρ hx p
 refine⟨ρ1,e1,g1.mono fun o ⟨ρ2,e,q⟩=>⟨ρ2,e,?_⟩⟩
 have:xs.take (i+1)=xs.take i++[x]:=by rw[NI,hx]; rfl
 rw[this,Cc]
 exact q
def aft (F:SF)(T:aA->bA->Option bA)(ds:List aA):Out->Option Out
 | .nx ρ=>jD F T ds ρ
 | .ct ρ=>jD F T ds ρ
 | .bk ρ=>some (.nx ρ)
 | .rt d=>some (.rt d)
theorem TN {T:aA->List (Option aA)->Option (List (Option aA))}{t:BF}{ρ:List (Option aA)}{α:Type}{q:α->aA}(p:α->Bool)(g:α->aA) : ∀ (xs:List α),
  (∀ x∈xs,∃ ρ1,T (q x) ρ=some ρ1/\t ρ1=some (p x)/\(p x=true->f ρ1=some (g x)))->lcD T t f ρ (xs.map q)=some ((xs.filter p).map g)
 | [],_=>rfl
 | x::xs,h=>by
  obtain⟨ρ1,e1,e2,e3⟩:=h x bM
  have ih:=TN p g xs fun y m=>h y (cF _ m)
  show((T (q x) ρ).bind fun ρ1=>(t ρ1).bind fun c=>if c=true then(f ρ1).bind fun y=>(lcD T t f ρ (xs.map q)).bind fun ys=>some (y::ys) else lcD T t f ρ (xs.map q))=_
  rw[e1,cG,e2,cG,ih]
  cases hp:p x with
  | true=>rw[if_pos rfl,e3 hp,List.filter_cons_of_pos hp]; rfl
  | false=>rw[if_neg (by simp),List.filter_cons_of_neg (by simp[hp])]
theorem jH {cap:List (Option Nat)}{fi:AF}{T:aA->List (Option aA)->Option (List (Option aA))}{t:BF}{ρ:List (Option aA)}{α:Type}{xs:List α}{q:α->aA}(p:α->Bool)(g:α->aA)(h1:fi ρ=some (xs.map q))(h2:xs.length≤100000)
  (h : ∀ x∈xs,∃ ρ1,T (q x) (kM cap ρ)=some ρ1/\t ρ1=some (p x)/\(p x=true->f ρ1=some (g x))):eLC cap fi T t f ρ=some (.list ((xs.filter p).map g)):=by
 unfold eLC
 rw[h1,cG,TN p g xs h,cG,if_pos (vD (by simpa using h2))]
theorem YG(h:eV n m f ρ=some d)(hl:i<ρ.length):bP i n m f ρ=some (.nx (ρ.set i (some (n,d)))):=by
 obtain⟨o,e,q⟩:=LQ (P:=fun o=>o = .nx (ρ.set i (some (n,d)))) h hl rfl
 rw[e,q]
theorem cQ(h:f (vS ρ)=some d)(hl:i<ρ.length)(k:Goes G (ρ.set i (some (n,d))) P):Goes (bB (bP i n .s f) G) ρ P:=jG (YG h hl) k
theorem Lp(h:f (vA ρ)=some d)(hf:gD n d=true)(hl:i<ρ.length)(k:Goes G (ρ.set i (some (n,d))) P):Goes (bB (bP i n .a f) G) ρ P:=
 jG (YG (m:=.a) (by show((f (vA ρ)).bind fun d=>if (gD n d||(tV ρ&&decide (n<9)&&iH n d)||(qW ρ&&decide (n=0)&&ftD d))=true then some d else none)=_; rw[h,cG,hf,FQ,FQ,if_pos rfl]) hl) k
theorem GT {fa:EF}{g:aA->Option aA}{ρ:List (Option aA)}{a:aA}(h:fa ρ=some a)(h3:g a=some d):eUn g fa ρ=some d:=by
 unfold eUn
 rw[h]
 exact h3
theorem bO{g:AF}{ρ:List (Option aA)}{ds:List aA}(h:f ρ=some d)(h2:g ρ=some ds):aH f g ρ=some (d::ds):=by
 unfold aH
 rw[h,h2]
 rfl
end L2
namespace L2
def iG {α:Type}[DecidableEq α](acc:List α)(z:α):List α:=if z∈acc then acc else acc++[z]
def oO {α:Type}[DecidableEq α](zs:List α):List α:=zs.foldl iG []
section
variable {α:Type}[DecidableEq α]
theorem Ava {acc:List α}{z x:α}:x∈iG acc z↔x∈acc \/ x=z:=by
 unfold iG
 split
 ·rename_i h
  exact⟨.inl,fun q=>q.elim id fun e=>e ▸ h⟩
 ·simp
theorem VW {x:α} : ∀ (zs acc:List α),x∈zs.foldl iG acc↔x∈acc \/ x∈zs
 | [],acc=>by simp
 | z::zs,acc=>by
  rw[pR,VW zs,Ava]
  simp only[cU]
  constructor
  ·rintro((h | h) | h)
   ·exact .inl h
   ·exact .inr (.inl h)
   ·exact .inr (.inr h)
  ·rintro(h | h | h)
   ·exact .inl (.inl h)
   ·exact .inl (.inr h)
   ·exact .inr h
theorem Aqh {x:α}{zs:List α}:x∈oO zs↔x∈zs:=by
 unfold oO
 rw[VW]
 simp
theorem SI (acc:List α)(z:α):(iG acc z).length≤acc.length+1:=by
 unfold iG
 split <;> simp
theorem DV : ∀ (zs acc:List α),(zs.foldl iG acc).length≤acc.length+zs.length
 | [],acc=>by simp
 | z::zs,acc=>by
  have h1:=DV zs (iG acc z)
  have h2:=SI acc z
  rw[pR,fL]
  omega
end
open PySem PySem.Spec PyProof.Rows
structure KnR (R:aA->Prop)(kds:List (aA×aA)):Prop where
 fit : ∀ kd∈kds,(∃ z,kd.1 = .str z)/\R kd.2
 once:(kds.map (·.1)).Nodup
variable {R:aA->Prop}{kds:List (aA×aA)}
theorem KnR.look (h:KnR R kds) : ∀ kd∈kds,∃ z,kd.1 = .str z/\cN kds (.inr z)=some kd.2:=by
 obtain⟨hf,ho⟩:=h
 induction kds with
 | nil=>intro _ m; simp at m
 | cons a r ih=>
  rw[dF,lB] at ho
  intro kd m
  obtain⟨z,ez⟩:=(hf kd m).1
  refine⟨z,ez,?_⟩
  rcases cU.mp m with rfl | m
  ·simp[cN,iT,ez,cL]
  ·obtain⟨z',e1,e2⟩:=ih (fun x m=>hf x (cF _ m)) ho.2 kd m
   obtain rfl:z'=z:=by
    have q:=e1.symm.trans ez
    injection q
   have hne : ¬ cL a.1=some (.inr z'):=fun q=>ho.1 (cY.mpr ⟨kd,m,by rw[e1]; exact(KF q).symm⟩)
   have e3:cN (a::r) (.inr z')=cN r (.inr z'):=by simp[cN,iT,hne]
   rw[e3]
   exact e2
theorem KnR.hit (h:KnR R kds)(hs : ∀ d,R d->cK d d=true) : ∀ {r:List (aA×aA)},(∀ kd∈r,kd∈kds)->pV kds r=true
 | [],_=>rfl
 | (k,d)::r,hr=>by
  have m:=hr (k,d) bM
  obtain⟨z,e,q⟩:=h.look (k,d) m
  have e':k = .str z:=e
  have q':cN kds (.inr z)=some d:=q
  subst e'
  simp only[pV,cL,cG,q',hs d (h.fit (cI z,d) m).2,xE]
  exact h.hit hs fun kd mm=>hr kd (cF _ mm)
theorem KnR.pl (h:KnR R kds):plK kds=true:=xW fun kd m=>by
 obtain⟨⟨z,e⟩,_⟩:=h.fit kd m
 rw[e]
 exact fun q=>nomatch q
theorem KnR.eqK (h:KnR R kds)(hs : ∀ d,R d->cK d d=true)(ho : ∀ d,R d->dE d=true)(neg:Bool):uA neg (.dict kds) (.dict kds)=some (.bool (neg != true)):=by
 have h1:valsOk kds=true:=fA.mpr fun kd m=>ho _ (h.fit kd m).2
 have h2:=h.hit hs (r:=kds) fun _ m=>m
 simp[uA,h1,CA,h2,h.pl]
def bJ (r:List Int):aA:=.tuple (r.map aQ)
def bS (rs:List (List Int)):aA:=.list (rs.map bJ)
theorem IG (r:List Int):bQ (bJ r)=true:=by
 show bU (r.map aQ)=true
 refine DD fun t m=>?_
 obtain⟨i,_,rfl⟩:=cY.mp m
 rfl
theorem UB (rs:List (List Int)):bU (rs.map bJ)=true:=DD fun t m=>by
 obtain⟨r,_,rfl⟩:=cY.mp m
 exact IG r
theorem Oo (rs:List (List Int)):cK (bS rs) (bS rs)=true:=by
 have:=yX _ _ (UB rs) (UB rs)
 simp[bS,cK,this]
theorem Fu {n j:Nat}(h:j<n):ixN n (j:Int)=some j:=by
 unfold ixN
 rw[if_pos (by omega),if_pos (by omega)]
 simp
theorem yB {fd fk fx:EF}{ρ:List (Option aA)}{kds:List (aA×aA)}{kd x:aA}{key:aI}(h1:fd ρ=some (.dict kds))(h2:fk ρ=some kd)(ha:cL kd=some key)(h3:fx ρ=some x)(hp:plK kds=true:=by first | assumption | rfl | simp):gX fd fk fx ρ=some ((cN kds key).getD x):=by
 unfold gX
 rw[h1,cG,h2,cG,h3,cG]
 show(if plK kds=true then(cL kd).bind fun k=>some ((cN kds k).getD x) else none)=_
 rw[if_pos hp,ha]
 rfl
end L2
namespace L2
open PySem PySem.Spec PyProof.Rows
variable {F G:SF}{ρ:bA}{P:Out->Prop}{m:Md}
def fO {α β:Type}(g:β->α->Option β):β->List α->Option β
 | b,[]=>some b
 | b,x::xs=>(g b x).bind fun b'=>fO g b' xs
def BP {β:Type}(I:β->bA->Prop)(r:aA)(t:Option β)(o:Out):Prop:=match t with
 | none=>o = .rt r
 | some b=>∃ ρ2,o = .nx ρ2/\I b ρ2
def AC {β:Type}(I:β->bA->Prop)(r:aA)(t:Option β)(o:Out):Prop:=match t with
 | none=>o = .rt r
 | some b=>∃ ρ2,(o = .nx ρ2 \/ o = .ct ρ2)/\I b ρ2
theorem WQ {α β:Type}(g:β->α->Option β)(x:α) : ∀ (xs:List α) (b:β),fO g b (xs++[x])=(fO g b xs).bind fun b'=>g b' x
 | [],b=>by
  show((g b x).bind fun b'=>some b')=g b x
  cases g b x <;> rfl
 | y::ys,b=>by
  show((g b y).bind fun b'=>fO g b' (ys++[x]))=((g b y).bind fun b'=>fO g b' ys).bind _
  cases g b y with
  | none=>rfl
  | some b'=>exact WQ g x ys b'
theorem QS {T:aA->bA->Option bA}{α β:Type}{q:α->aA}(g:β->α->Option β)(I:β->bA->Prop)(r:aA){all:List α}{b0:β}
  (step : ∀ pre x post b ρ,all=pre++x::post->fO g b0 pre=some b->I b ρ -> ∃ ρ1,T (q x) ρ=some ρ1/\Goes F ρ1 (AC I r (g b x))) : ∀ {xs pre:List α} {b:β} {ρ:bA},all=pre++xs->fO g b0 pre=some b->I b ρ -> ∃ o,jD F T (xs.map q) ρ=some o/\BP I r (fO g b xs) o
 | [],pre,b,ρ,_,_,h0=>⟨_,rfl,ρ,rfl,h0⟩
 | x::xs,pre,b,ρ,ha,hb,h0=>by
  obtain⟨ρ1,e1,o,e2,h⟩:=step pre x xs b ρ ha hb h0
  have e:jD F T ((x::xs).map q) ρ=aft F T (xs.map q) o:=by
   show((T (q x) ρ).bind fun ρ1=>(F ρ1).bind fun o=>_)=_
   rw[e1,cG,e2,cG]
   cases o <;> rfl
  rw[e]
  show ∃ o',aft F T (xs.map q) o=some o'/\BP I r ((g b x).bind fun b'=>fO g b' xs) o'
  cases hg:g b x with
  | none=>
   rw[hg] at h
   have h:o = .rt r:=h
   subst h
   exact⟨_,rfl,rfl⟩
  | some b'=>
   rw[hg] at h
   obtain⟨ρ2,ho,i2⟩:=h
   obtain⟨o',e',h'⟩:=QS g I r step (pre:=pre++[x]) (xs:=xs) (by simpa using ha) (by rw[WQ,hb]; exact hg) i2
   rcases ho with rfl | rfl
   ·exact⟨o',e',h'⟩
   ·exact⟨o',e',h'⟩
theorem Lv {α β:Type}{fi:AF}{T:aA->bA->Option bA}{xs:List α}{q:α->aA}{b0:β}(g:β->α->Option β)(I:β->bA->Prop)(r:aA)(h:aV m fi ρ=some (xs.map q))(h0:I b0 ρ)
  (step : ∀ pre x post b ρ,xs=pre++x::post->fO g b0 pre=some b->I b ρ -> ∃ ρ1,T (q x) ρ=some ρ1/\Goes F ρ1 (AC I r (g b x))):Goes (eG m fi T F) ρ (BP I r (fO g b0 xs)):=by
 obtain⟨o,e,h'⟩:=QS g I r step (xs:=xs) (pre:=[]) (by simp) rfl h0
 exact⟨o,HC h e,h'⟩
theorem Mn {β:Type}(I:β->bA->Prop)(r:aA)(t:Option β)(h:Goes F ρ (BP I r t))(k1:t=none->P (.rt r))(k2 : ∀ b,t=some b -> ∀ ρ',I b ρ'->Goes G ρ' P):Goes (bB F G) ρ P:=by
 obtain⟨o,e,h⟩:=h
 cases t with
 | none=>
  have h:o = .rt r:=h
  subst h
  exact HW e (k1 rfl)
 | some b=>
  obtain⟨ρ2,rfl,i2⟩:=h
  exact jG e (k2 b rfl ρ2 i2)
def dN (p:aC×Int):aA×aA:=(.str p.1,.int p.2)
def DN (kn:List (aC×Int)):List (aA×aA):=kn.map dN
def cS (kn:List (aC×Int))(z:aC):Option Int:=(kn.find? fun p=>decide (p.1=z)).map (·.2)
theorem CS (kn:List (aC×Int))(z:aC):cN (DN kn) (.inr z)=(cS kn z).map aQ:=by
 unfold cN cS DN
 induction kn with
 | nil=>rfl
 | cons p r ih=>
  rw[dF,iT,iT]
  have e:cL (dN p).1=some (.inr p.1):=rfl
  rw[e]
  by_cases h:p.1=z
  ·simp[h,dN]
  ·have h' : ¬ (some (iP p.1:aI)=some (iP z)):=fun q=>h (by injection q with q; injection q)
   rw[decide_eq_false h',decide_eq_false h]
   exact ih
theorem Xh (kn:List (aC×Int))(i:Int):cN (DN kn) (.inl i)=none:=by
 unfold cN DN
 have:((kn.map dN).find? fun kd=>decide (cL kd.1=some (.inl i)))=none:=by
  rw[NS]
  intro kd m
  obtain⟨p,_,rfl⟩:=cY.mp m
  simp[dN,cL]
 rw[this]
 rfl
theorem Nj {kn:List (aC×Int)}{z:aC}(h:cS kn z=none)(v:Int):putD (DN kn) (.inr z) (.int v)=DN (kn++[(z,v)]):=by
 unfold putD DN
 have hn : ¬ ((kn.map dN).any fun kd=>decide (cL kd.1=some (.inr z)))=true:=fun q=>by
  obtain⟨kd,m,e⟩:=NW.mp q
  obtain⟨p,mp,rfl⟩:=cY.mp m
  have e':p.1=z:=by
   have:=of_decide_eq_true e
   have:some (iP p.1:aI)=some (iP z):=this
   injection this with this
   injection this
  unfold cS at h
  have h2:=MX.mp h
  have:=NS.mp h2 p mp
  exact this (decide_eq_true e')
 rw[if_neg hn,iS]
 rfl
theorem DU {kn:List (aC×Int)}{z:aC}(h:cS kn z=none)(v:Int)(y:aC):cS (kn++[(z,v)]) y=if y=z then some v else cS kn y:=by
 unfold cS at *
 rw[List.find?_append]
 by_cases e:y=z
 ·subst e
  rw[if_pos rfl,MX.mp h]
  simp
 ·rw[if_neg e]
  have e' : ¬ z=y:=fun q=>e q.symm
  cases q:kn.find? fun p=>decide (p.1=y) with
  | none=>simp[e']
  | some p=>rfl
def gS (kn:List (aC×Int))(p:aI×Int):Option (List (aC×Int)):=match p.1 with
 | .inl i=>if p.2=i then some kn else none
 | .inr z=>match cS kn z with
  | some u=>if p.2=u then some kn else none
  | none=>some (kn++[(z,p.2)])
theorem vI : ∀ {ps:List (aI×Int)} {kn kn':List (aC×Int)},fO gS kn ps=some kn' ->
  (∀ z u,cS kn z=some u->cS kn' z=some u)/\(∀ p∈ps,(∀ i,p.1 = .inl i->p.2=i) /\ ∀ z,p.1 = .inr z->cS kn' z=some p.2)/\(∀ z u,cS kn' z=some u->cS kn z=some u \/ ∃ p∈ps,p.1 = .inr z)
 | [],kn,kn',h=>by
  cases h
  exact⟨fun _ _ e=>e,fun _ m=>by simp at m,fun _ _ e=>.inl e⟩
 | (.inl i,v)::ps,kn,kn',h=>by
  obtain⟨k1,e1,e2⟩:=XBs (show((gS kn (.inl i,v)).bind fun b'=>fO gS b' ps)=some kn' from h)
  have e1:(if v=i then some kn else none)=some k1:=e1
  obtain⟨hv,rfl⟩:=cX e1
  obtain⟨a,b,c⟩:=vI e2
  refine⟨a,fun p m=>?_,fun z u e=>(c z u e).imp id fun⟨p,m,q⟩=>⟨p,cF _ m,q⟩⟩
  rcases cU.mp m with rfl | m
  ·exact⟨fun i' q=>(by cases q; exact hv),fun z q=>(by cases q)⟩
  ·exact b p m
 | (.inr z,v)::ps,kn,kn',h=>by
  obtain⟨k1,e1,e2⟩:=XBs (show((gS kn (.inr z,v)).bind fun b'=>fO gS b' ps)=some kn' from h)
  obtain⟨a,b,c⟩:=vI e2
  cases hl:cS kn z with
  | some u=>
   have e1:(match cS kn z with | some u=>if v=u then some kn else none | none=>some (kn++[(z,v)]))=some k1:=e1
   rw[hl] at e1
   obtain⟨hv,rfl⟩:=cX e1
   refine⟨a,fun p m=>?_,fun z' u' e=>(c z' u' e).imp id fun⟨p,m,q⟩=>⟨p,cF _ m,q⟩⟩
   rcases cU.mp m with rfl | m
   ·exact⟨fun i' q=>(by cases q),fun z' q=>(by cases q; rw[a z u hl,hv])⟩
   ·exact b p m
  | none=>
   have e1:(match cS kn z with | some u=>if v=u then some kn else none | none=>some (kn++[(z,v)]))=some k1:=e1
   rw[hl] at e1
   cases e1
   refine⟨fun y u e=>a y u (by rw[DU hl,if_neg fun q=>by rw[q,hl] at e; cases e]; exact e),fun p m=>?_,fun y u e=>?_⟩
   ·rcases cU.mp m with rfl | m
    ·exact⟨fun i' q=>(by cases q),fun z' q=>(by cases q; exact a z v (by rw[DU hl,if_pos rfl]))⟩
    ·exact b p m
   ·rcases c y u e with q | ⟨p,m,q⟩
    ·rw[DU hl] at q
     by_cases hy:y=z
     ·exact .inr ⟨_,bM,by rw[hy]⟩
     ·rw[if_neg hy] at q
      exact .inl q
    ·exact .inr ⟨p,cF _ m,q⟩
theorem yP : ∀ {ps:List (aI×Int)} {kn:List (aC×Int)},(∀ p∈ps,∀ i,p.1 = .inl i->p.2=i)->(∀ p∈ps,∀ z u,p.1 = .inr z->cS kn z=some u->p.2=u)->(∀ p∈ps,∀ p'∈ps,∀ z,p.1 = .inr z->p'.1 = .inr z->p.2=p'.2) -> ∃ kn',fO gS kn ps=some kn'
 | [],kn,_,_,_=>⟨kn,rfl⟩
 | (.inl i,v)::ps,kn,h1,h2,h3=>by
  have hv:v=i:=h1 _ bM i rfl
  obtain⟨kn',e⟩:=yP (kn:=kn) (fun p m=>h1 p (cF _ m)) (fun p m=>h2 p (cF _ m)) (fun p m p' m'=>h3 p (cF _ m) p' (cF _ m'))
  refine⟨kn',?_⟩
  show((if v=i then some kn else none).bind fun b'=>fO gS b' ps)=some kn'
  rw[if_pos hv]
  exact e
 | (.inr z,v)::ps,kn,h1,h2,h3=>by
  cases hl:cS kn z with
  | some u=>
   have hv:v=u:=h2 _ bM z u rfl hl
   obtain⟨kn',e⟩:=yP (kn:=kn) (fun p m=>h1 p (cF _ m)) (fun p m=>h2 p (cF _ m)) (fun p m p' m'=>h3 p (cF _ m) p' (cF _ m'))
   refine⟨kn',?_⟩
   show((match cS kn z with | some u=>if v=u then some kn else none | none=>some (kn++[(z,v)])).bind fun b'=>fO gS b' ps)=some kn'
   rw[hl]
   show((if v=u then some kn else none).bind fun b'=>fO gS b' ps)=some kn'
   rw[if_pos hv]
   exact e
  | none=>
   obtain⟨kn',e⟩:=yP (kn:=kn++[(z,v)]) (fun p m=>h1 p (cF _ m)) (fun p m y u q e=>by
    rw[DU hl] at e
    by_cases hy:y=z
    ·rw[if_pos hy] at e
     cases e
     exact h3 p (cF _ m) _ bM z (by rw[q,hy]) rfl
    ·rw[if_neg hy] at e
     exact h2 p (cF _ m) y u q e) (fun p m p' m'=>h3 p (cF _ m) p' (cF _ m'))
   refine⟨kn',?_⟩
   show((match cS kn z with | some u=>if v=u then some kn else none | none=>some (kn++[(z,v)])).bind fun b'=>fO gS b' ps)=some kn'
   rw[hl]
   exact e
end L2
namespace Aw
open PySem L2
variable {x:Bool}{f:EF}{ρ:List (Option aA)}{b a:Int}{F:SF}{i:Nat}{fa:AF}
abbrev s0 (d:aA):L2.Slot:=some (0,d)
abbrev lI (ms:List Int):aA:=.list (ms.map aQ)
theorem yJ (a b:Int):gEq (.int a) (.int b)=some (.bool (decide (a=b))):=by
 show some (mB (cK (.int a) (.int b)))=_
 congr 2
theorem YH (p q:aA)(x:Int):gIx (.list [p,q]) (.int (x%2))=some (if x%2=0 then p else q):=by
 have h:=iX x (show(0:Int)<2 by decide)
 rcases(show x%2=0 \/ x%2=1 by omega) with e | e <;> rw[e] <;> rfl
theorem ZP {α:Type}{q:α->aA}{xs:List α}{j:Nat}{x:α}(h:xs[j]?=some x):gIx (.list (xs.map q)) (.int j)=some (q x):=yG (by rw[dI,h]; rfl)
abbrev tK (ks:List aI):aA:=.tuple (ks.map kD)
abbrev tI (row:List Int):aA:=.tuple (row.map aQ)
def tZ:Option (List (aC×Int))->aA
 | none=>.none
 | some kn=>.dict (DN kn)
def QC (p:aI×Int):aA:=pairD (kD p.1) (.int p.2)
theorem Xe (ks:List aI)(row:List Int):wV pairD (ks.map kD) (row.map aQ)=(ks.zip row).map QC:=by
 rw[List.zipWith_map,List.zip,List.map_zipWith]
 rfl
theorem ZM (k:aI):gW "str" (kD k)=some (.bool (match k with | .inr _=>true | .inl _=>false)):=by
 cases k <;> simp[gW,lF,isK,kD]
theorem ne_int (a b:Int):gNe (.int a) (.int b)=some (.bool (decide (a≠b))):=by
 have:cK (.int a) (.int b)=decide (a=b):=by
  rw[show cK (.int a) (.int b)=(a == b) by simp[cK],nK]
  simp
 simp[gNe,dE,noDict,nA,this]
def eK (ks:List aI)(row:List Int)(kn:List (aC×Int)):Option (List (aC×Int)):=if row.length=ks.length then fO gS kn (ks.zip row) else none
theorem uX (ds:List aA):dS [.tuple ds]=some (.int ds.length):=by simp[dS]
theorem Js {ks:List aI}{row:List Int}{g:EF}(h1:f ρ=some (tI row))(h2:g ρ=some (tK ks)) :
  eOp gNe (aO dS (aH f aN)) (aO dS (aH g aN)) ρ=some (.bool (decide (row.length≠ks.length))):=by
 refine aY (a:=.int row.length) (b:=.int ks.length) (bG (bO h1 rfl) (by rw[uX,cV])) (bG (bO h2 rfl) (by rw[uX,cV])) ?_
 rw[ne_int]
 congr 2
 rw[nK]
 simp
 omega
theorem gR{b:Bool}(h:f ρ=some (.bool b)):bOf f ρ=some b:=by
 unfold bOf
 rw[h]
 rfl
theorem Zt (L:L2.Slot)(R K:L2.Slot)(kn:List (aC×Int))(hkn:kn.length≤1000)(p:aI×Int)(x6:L2.Slot) :
  Goes (bB (sSD 6 3 .s (bOf (eUn (gW "str") (aB 4))) .s (aB 4) .s (aB 5) .s (aB 4)) (sIf .s (bOf (eOp gNe (aB 5) (aB 6))) (dB 1 .s (eC .none)) gY)) [L,R,K,some (1,.dict (DN kn)),some (0,kD p.1),some (0,.int p.2),x6]
   (AC (fun kn' ρ'=>∃ x4 x5 x6:L2.Slot,ρ'=[L,R,K,some (1,.dict (DN kn')),x4,x5,x6]) .none (gS kn p)):=by
 have lz:(DN kn).length<sizeLine:=yE (by simp[DN]; omega)
 obtain⟨t,v⟩:=p
 cases t with
 | inl i=>
  have e1:sSD 6 3 .s (bOf (eUn (gW "str") (aB 4))) .s (aB 4) .s (aB 5) .s (aB 4) [L,R,K,some (1,.dict (DN kn)),some (0,.int i),some (0,.int v),x6]=some (.nx [L,R,K,some (1,.dict (DN kn)),some (0,.int i),some (0,.int v),some (0,.int i)]):=by
   have b:bV .s (bOf (eUn (gW "str") (aB 4))) [L,R,K,some (1,.dict (DN kn)),some (0,.int i),some (0,.int v),x6]=some false:=gR (GT (a:=.int i) rfl (ZM (.inl i)))
   unfold sSD
   rw[b,cG,if_neg jZ]
   rfl
  refine jG e1 ?_
  have e2:bV .s (bOf (eOp gNe (aB 5) (aB 6))) [L,R,K,some (1,.dict (DN kn)),some (0,.int i),some (0,.int v),some (0,.int i)]=some (decide (v≠i)):=gR (aY (a:=.int v) (b:=.int i) rfl rfl (ne_int v i))
  by_cases h:v=i
  ·refine mQ (e2.trans (by simp[h])) (qK ?_)
   show AC _ _ (if v=i then some kn else none) _
   rw[if_pos h]
   exact⟨_,.inl rfl,_,_,_,rfl⟩
  ·refine jQ (e2.trans (by simp[h])) (dW (d:=.none) rfl ?_)
   show AC _ _ (if v=i then some kn else none) _
   rw[if_neg h]
   rfl
 | inr z=>
  have b:bV .s (bOf (eUn (gW "str") (aB 4))) [L,R,K,some (1,.dict (DN kn)),some (0,.str z),some (0,.int v),x6]=some true:=gR (GT (a:=.str z) rfl (ZM (.inr z)))
  cases hl:cS kn z with
  | some u=>
   have e1:sSD 6 3 .s (bOf (eUn (gW "str") (aB 4))) .s (aB 4) .s (aB 5) .s (aB 4) [L,R,K,some (1,.dict (DN kn)),some (0,.str z),some (0,.int v),x6]=some (.nx [L,R,K,some (1,.dict (DN kn)),some (0,.str z),some (0,.int v),some (0,.int u)]):=by
    unfold sSD
    rw[b,cG,if_pos rfl]
    show(if 6<7/\(DN kn).length<sizeLine then some (Out.nx (match cN (DN kn) (.inr z) with
     | some u=>[L,R,K,some (1,.dict (DN kn)),some (0,.str z),some (0,.int v),some (0,u)]
     | none=>[L,R,K,some (1,.dict (putD (DN kn) (.inr z) (.int v))),some (0,.str z),some (0,.int v),some (0,.int v)])) else none)=_
    rw[if_pos ⟨by omega,lz⟩,CS,hl]
    rfl
   refine jG e1 ?_
   have e2:bV .s (bOf (eOp gNe (aB 5) (aB 6))) [L,R,K,some (1,.dict (DN kn)),some (0,.str z),some (0,.int v),some (0,.int u)]=some (decide (v≠u)):=gR (aY (a:=.int v) (b:=.int u) rfl rfl (ne_int v u))
   have ef:gS kn (.inr z,v)=if v=u then some kn else none:=by
    show(match cS kn z with | some u=>if v=u then some kn else none | none=>some (kn++[(z,v)]))=_
    rw[hl]
   rw[ef]
   by_cases h:v=u
   ·refine mQ (e2.trans (by simp[h])) (qK ?_)
    rw[if_pos h]
    exact⟨_,.inl rfl,_,_,_,rfl⟩
   ·refine jQ (e2.trans (by simp[h])) (dW (d:=.none) rfl ?_)
    rw[if_neg h]
    rfl
  | none=>
   have e1:sSD 6 3 .s (bOf (eUn (gW "str") (aB 4))) .s (aB 4) .s (aB 5) .s (aB 4) [L,R,K,some (1,.dict (DN kn)),some (0,.str z),some (0,.int v),x6]=some (.nx [L,R,K,some (1,.dict (DN (kn++[(z,v)]))),some (0,.str z),some (0,.int v),some (0,.int v)]):=by
    unfold sSD
    rw[b,cG,if_pos rfl]
    show(if 6<7/\(DN kn).length<sizeLine then some (Out.nx (match cN (DN kn) (.inr z) with
     | some u=>[L,R,K,some (1,.dict (DN kn)),some (0,.str z),some (0,.int v),some (0,u)]
     | none=>[L,R,K,some (1,.dict (putD (DN kn) (.inr z) (.int v))),some (0,.str z),some (0,.int v),some (0,.int v)])) else none)=_
    rw[if_pos ⟨by omega,lz⟩,CS,hl,Nj hl]
    rfl
   refine jG e1 ?_
   have e2:bV .s (bOf (eOp gNe (aB 5) (aB 6))) [L,R,K,some (1,.dict (DN (kn++[(z,v)]))),some (0,.str z),some (0,.int v),some (0,.int v)]=some (decide (v≠v)):=gR (aY (a:=.int v) (b:=.int v) rfl rfl (ne_int v v))
   have ef:gS kn (.inr z,v)=some (kn++[(z,v)]):=by
    show(match cS kn z with | some u=>if v=u then some kn else none | none=>some (kn++[(z,v)]))=_
    rw[hl]
   rw[ef]
   exact mQ (e2.trans (by simp)) (qK ⟨_,.inl rfl,_,_,_,rfl⟩)
theorem JI : ∀ {ps:List (aI×Int)} {kn kn':List (aC×Int)},fO gS kn ps=some kn'->kn'.length≤kn.length+ps.length
 | [],kn,kn',h=>by cases h; simp
 | p::ps,kn,kn',h=>by
  obtain⟨k1,e1,e2⟩:=XBs (show((gS kn p).bind fun b'=>fO gS b' ps)=some kn' from h)
  have h1:=JI e2
  have h2:k1.length≤kn.length+1:=by
   unfold gS at e1
   split at e1
   ·obtain⟨_,rfl⟩:=cX e1; omega
   ·split at e1
    ·obtain⟨_,rfl⟩:=cX e1; omega
    ·cases e1; simp
  rw[fL]
  omega
theorem Uz (a b:aI):cK (kD a) (kD b)=decide (a=b):=by
 cases a with
 | inl i=>cases b with
  | inl j=>
   rw[show cK (kD (.inl i)) (kD (.inl j))=(i == j) by simp[kD,cK],nK]
   simp
  | inr y=>simp[kD,cK]
 | inr x=>cases b with
  | inl j=>simp[kD,cK]
  | inr y=>
   rw[show cK (kD (.inr x)) (kD (.inr y))=(x == y) by simp[kD,cK],nK]
   simp
theorem ZE (a b:aI):gEq (kD a) (kD b)=some (.bool (decide (a=b))):=by
 have h1 : ∀ k:aI,dE (kD k)=true:=fun k=>by cases k <;> rfl
 unfold gEq
 rw[h1 a,h1 b,Uz]
 rfl
theorem plN (kn:List (aC×Int)):plK (DN kn)=true:=xW fun kd m=>by
 obtain⟨p,_,rfl⟩:=cY.mp m
 exact fun q=>nomatch q
theorem ZT {c:Prop}[Decidable c]{α:Type}{a:Option α}{b:α}(h:(if c then a else none)=some b):c/\a=some b:=by
 by_cases q:c
 ·rw[if_pos q] at h; exact⟨q,h⟩
 ·rw[if_neg q] at h; cases h
def GD (I:bA->Prop)(t:Option aA)(o:Out):Prop:=match t with
 | some r=>o = .rt r
 | none=>∃ ρ2,o = .nx ρ2/\I ρ2
def PH (I:bA->Prop)(t:Option aA)(o:Out):Prop:=match t with
 | some r=>o = .rt r
 | none=>∃ ρ2,(o = .nx ρ2 \/ o = .ct ρ2)/\I ρ2
theorem YA{T:aA->bA->Option bA}{α:Type}{q:α->aA}(I:bA->Prop)(g:α->Option aA) : ∀ {xs:List α} {ρ:bA},I ρ ->
  (∀ x∈xs,∀ ρ,I ρ -> ∃ ρ1,T (q x) ρ=some ρ1/\Goes F ρ1 (PH I (g x))) -> ∃ o,jD F T (xs.map q) ρ=some o/\GD I (xs.findSome? g) o
 | [],ρ,h0,_=>⟨_,rfl,ρ,rfl,h0⟩
 | x::xs,ρ,h0,step=>by
  obtain⟨ρ1,e1,o,e2,h⟩:=step x bM ρ h0
  have e:jD F T ((x::xs).map q) ρ=aft F T (xs.map q) o:=by
   show((T (q x) ρ).bind fun ρ1=>(F ρ1).bind fun o=>_)=_
   rw[e1,cG,e2,cG]
   cases o <;> rfl
  rw[e,FJ]
  cases hg:g x with
  | some r=>
   rw[hg] at h
   have h:o = .rt r:=h
   subst h
   exact⟨_,rfl,rfl⟩
  | none=>
   rw[hg] at h
   obtain⟨ρ2,ho,i2⟩:=h
   obtain⟨o',e',h'⟩:=YA I g i2 fun y m=>step y (cF _ m)
   rcases ho with rfl | rfl
   ·exact⟨o',e',h'⟩
   ·exact⟨o',e',h'⟩
theorem ZC {m:Md}{ρ:bA}{α:Type}{fi:AF}{T:aA->bA->Option bA}{xs:List α}{q:α->aA}(I:bA->Prop)(g:α->Option aA)(h:aV m fi ρ=some (xs.map q))(h0:I ρ)
  (step : ∀ x∈xs,∀ ρ,I ρ -> ∃ ρ1,T (q x) ρ=some ρ1/\Goes F ρ1 (PH I (g x))):Goes (eG m fi T F) ρ (GD I (xs.findSome? g)):=by
 obtain⟨o,e,h'⟩:=YA I g h0 step
 exact⟨o,HC h e,h'⟩
theorem RG {G:SF}{ρ:bA}{P:Out->Prop}(I:bA->Prop)(t:Option aA)(h:Goes F ρ (GD I t))(k1 : ∀ r,t=some r->P (.rt r))(k2:t=none -> ∀ ρ',I ρ'->Goes G ρ' P):Goes (bB F G) ρ P:=by
 obtain⟨o,e,h⟩:=h
 cases t with
 | some r=>
  have h:o = .rt r:=h
  subst h
  exact HW e (k1 r rfl)
 | none=>
  obtain⟨ρ2,rfl,i2⟩:=h
  exact jG e (k2 rfl ρ2 i2)
theorem XT {α β:Type}{f g:α->Option β} : ∀ {xs:List α},(∀ x∈xs,f x=g x)->xs.findSome? f=xs.findSome? g
 | [],_=>rfl
 | x::xs,h=>by
  rw[FJ,FJ,h x bM,XT fun y m=>h y (cF _ m)]
theorem getD_some {α:Type}{xs:List α}(d0:α)(h:i<xs.length):xs[i]?=some (xs.getD i d0):=by
 rw[mE,jY h]
 rfl
theorem getD_mem {α:Type}{xs:List α}(d0:α)(h:i<xs.length):xs.getD i d0∈xs:=fK (getD_some d0 h)
theorem CJ {a b:EF}{y:Bool}(h:a ρ=some (.bool x))(h2:x=true->b ρ=some (.bool y)):pD a b ρ=some (.bool (x&&y)):=by
 unfold pD
 cases x with
 | true=>rw[h,cG,show asB (.bool true)=some true from rfl,cG,if_pos rfl,h2 rfl]; rfl
 | false=>rw[h,cG,show asB (.bool false)=some false from rfl,cG,if_neg (by simp)]; rfl
theorem mP{ds:List aA}(h:fa ρ=some ds)(hl:ds.length≤1000:=by simp):fG fa ρ=some (.tuple ds):=by
 unfold fG
 rw[h,cG,if_pos (vD (by omega))]
theorem HA{ds:List aA}(h:fa ρ=some ds)(hl:ds.length≤1000:=by simp):fE fa ρ=some (.list ds):=by
 unfold fE
 rw[h,cG,if_pos (vD (by omega))]
abbrev Ln:=aC×List aI
def bC (l:Ln):aA:=.tuple [.str l.1,.tuple (l.2.map kD)]
abbrev lnD:Ln:=("",[])
theorem Rn (xs:List aI):noDicts (xs.map kD)=true:=zL fun t m=>by
 obtain⟨x,_,rfl⟩:=cY.mp m
 cases x <;> rfl
def asI:aA->Int
 | .int i=>i
 | _=>0
theorem uR (r:List Int):(r.map aQ).map asI=r:=by
 rw[fD]
 have:(asI∘aQ)=id:=rfl
 rw[this,List.map_id]
theorem mT (r:List Int):bU (r.map aQ)=true:=DD fun t m=>by
 obtain⟨i,_,rfl⟩:=cY.mp m
 rfl
theorem vL (r:List Int):cZ (r.map aQ)≤1:=DP fun t m=>by
 obtain⟨i,_,rfl⟩:=cY.mp m
 simp[nA]
theorem RP (r:List Int):dE (bJ r)=true:=by
 have h1:noDicts (r.map aQ)=true:=zL fun t m=>by
  obtain⟨i,_,rfl⟩:=cY.mp m
  rfl
 have h2:cZ (r.map aQ)≤1:=DP fun t m=>by
  obtain⟨i,_,rfl⟩:=cY.mp m
  simp[nA]
 simp[dE,bJ,noDict,h1,nA]
 omega
theorem Ng {a b:List Int}(h:bJ a=bJ b):a=b:=by
 have h:=MV h
 exact(uR a).symm.trans ((congrArg (FH asI) h).trans (uR b))
theorem HH (a b:List Int):cK (bJ a) (bJ b)=decide (a=b):=by
 rw[JH _ _ (IG a) (IG b),decide_eq_decide]
 exact⟨Ng,fun e=>by rw[e]⟩
def srt (R:List (List Int)):List (List Int):=(nN (R.map fun r=>r.map aQ)).map fun k=>k.map asI
theorem CZ (R:List (List Int)):(srt R).Perm R:=by
 have h:=(EA (R.map fun r=>r.map aQ)).map fun k=>k.map asI
 rw[fD] at h
 have e:(R.map ((fun k=>k.map asI)∘fun r=>r.map aQ))=R:=by
  have:((fun k=>k.map asI)∘fun r=>r.map aQ)=(id:List Int->List Int):=by funext r; exact uR r
  rw[this,List.map_id]
 rw[e] at h
 exact h
theorem Lo {R:List (List Int)}{r:List Int}:r∈srt R↔r∈R:=(CZ R).mem_iff
theorem Mm (R:List (List Int)):(srt R).length=R.length:=(CZ R).length_eq
theorem Pd (R:List (List Int)):nY (R.map bJ)=some (R.map fun r=>r.map aQ):=by
 have:=RD (kss:=R.map fun r=>r.map aQ) fun k m=>by
  obtain⟨r,_,rfl⟩:=cY.mp m
  have:=vL r
  exact⟨mT r,by omega⟩
 rw[fD] at this
 exact this
theorem VT : ∀ (a b:List Int),a.length=b.length->gZ (a.map aQ) (b.map aQ)=true
 | [],[],_=>rfl
 | x::a,y::b,h=>VT a b (by simpa using h)
 | [],_::_,h=>by simp at h
 | _::_,[],h=>by simp at h
theorem Ku {R:List (List Int)}{n:Nat}(hn:1≤n)(hw : ∀ r∈R,r.length=n)(hl:R.length<64):xS [bS R]=some (bS (srt R)):=by
 show((nY (R.map bJ)).bind fun kss=>if okT kss=true/\kss.length<64 then some (wO ((nN kss).map eI)) else none)=_
 rw[Pd,cG]
 have ok:okT (R.map fun r=>r.map aQ)=true:=by
  unfold okT
  rw[Cr]
  refine .inr (iU.mpr ⟨fA.mpr fun k mk=>fA.mpr fun k' mk'=>?_,fA.mpr fun k mk=>?_⟩)
  ·obtain⟨a,ma,rfl⟩:=cY.mp mk
   obtain⟨b,mb,rfl⟩:=cY.mp mk'
   exact VT a b ((hw a ma).trans (hw b mb).symm)
  ·obtain⟨a,ma,rfl⟩:=cY.mp mk
   have:=hw a ma
   cases a with
   | nil=>simp at this; omega
   | cons x r=>rfl
 rw[if_pos ⟨ok,by rw[cV]; exact hl⟩]
 unfold bS srt
 rw[fD]
 congr 2
 refine oF fun k mk=>?_
 obtain⟨a,_,rfl⟩:=cY.mp ((EA _).mem_iff.mp mk)
 show _=eI (((a.map aQ).map asI).map aQ)
 rw[uR]
structure Bk (kds:List (aA×aA))(B:aC->List (List Int))(wd:aC->Nat):Prop where
 pl:plK kds=true
 at_ : ∀ t,(cN kds (.inr t)).getD (.list [])=bS (B t)
 few : ∀ t,(B t).length<64
 pos : ∀ t,1≤wd t
 wid : ∀ t,∀ r∈B t,r.length=wd t
theorem Bk.get {kds:List (aA×aA)}{B:aC->List (List Int)}{wd:aC->Nat}(b:Bk kds B wd){fd fk:EF}{t:aC}(h1:fd ρ=some (.dict kds))(h2:fk ρ=some (.str t)):gX fd fk (fE aN) ρ=some (bS (B t)):=by
 rw[yB h1 h2 (key:=.inr t) rfl (x:=.list []) rfl b.pl,b.at_]
theorem jN (c:Int)(n:Nat)(h:0<n):fN (.int c) (.int n)=some (.int (c%n)):=by
 show(if 0<(n:Int) then some (aQ (c%(n:Int))) else none)=_
 rw[if_pos (by omega)]
theorem uF (c:Int)(n:Nat)(h:0<n)(h2:n<1000:=by omega):kN (.int c) (.int n)=some (.int (c / n)):=by
 show(if 0<(n:Int)/\(n:Int)<1073741824 then some (aQ (c / (n:Int))) else none)=_
 rw[if_pos (by omega)]
theorem xQ(h:a.natAbs<2 ^ 64):jP (.int a) (.int b)=some (.int (a*b)):=by
 show(if (a.natAbs<2 ^ 64 \/ b.natAbs<2 ^ 64) \/ (a.natAbs<2 ^ 1000/\b.natAbs<2 ^ 1000) then some (aQ (a*b)) else none)=_
 rw[if_pos (.inl (.inl h))]
theorem mul_r(h:b.natAbs<2 ^ 64):jP (.int a) (.int b)=some (.int (a*b)):=by
 show(if (a.natAbs<2 ^ 64 \/ b.natAbs<2 ^ 64) \/ (a.natAbs<2 ^ 1000/\b.natAbs<2 ^ 1000) then some (aQ (a*b)) else none)=_
 rw[if_pos (.inl (.inr h))]
theorem Ff(h:a.natAbs<2 ^ 200)(h2:b.natAbs<2 ^ 200):jP (.int a) (.int b)=some (.int (a*b)):=by
 show(if (a.natAbs<2 ^ 64 \/ b.natAbs<2 ^ 64) \/ (a.natAbs<2 ^ 1000/\b.natAbs<2 ^ 1000) then some (aQ (a*b)) else none)=_
 have hp:(2:Nat) ^ 200≤2 ^ 1000:=NB (by decide) (by decide)
 rw[if_pos (.inr ⟨iR h hp,iR h2 hp⟩)]
theorem Am {k:Nat}(h:k≤100):qZ (.int 10) (.int k)=some (.int (10 ^ k)):=by
 show(if 0≤(k:Int)/\(k:Int)≤1000000/\(10:Int).natAbs<2 ^ 64 then some (aQ (10 ^ (k:Int).toNat)) else none)=_
 rw[if_pos ⟨by omega,by omega,by decide⟩]
 rfl
theorem Pf:((10:Int) ^ 35).natAbs<2 ^ 200:=by decide
theorem Ke {a b:BF}{y:Bool}(h:a ρ=some x)(h2:x=false->b ρ=some y):bOr a b ρ=some (x||y):=by
 unfold bOr
 rw[h]
 cases x with
 | true=>rfl
 | false=>exact h2 rfl
theorem Ac(h:f ρ=some (.bool x)):pF (bOf f) ρ=some (!x):=by
 unfold pF
 rw[gR h]
 rfl
theorem WY (R:List (List Int)):noDicts (R.map bJ)=true:=zL fun t m=>by
 obtain⟨r,_,rfl⟩:=cY.mp m
 have:=RP r
 unfold dE at this
 exact(iU.mp this).1
theorem Ll (neg:Bool)(r:List Int)(R:List (List Int)):gIn neg (bJ r) (bS R)=some (.bool (neg != decide (r∈R))):=by
 show(if (dE (bJ r)&&noDicts (R.map bJ))=true then some (mB (neg != (R.map bJ).any fun z=>cK z (bJ r))) else none)=_
 rw[RP,WY,OJ,if_pos rfl]
 have:((R.map bJ).any fun z=>cK z (bJ r))=decide (r∈R):=by
  rw[List.any_map]
  by_cases h:r∈R
  ·rw[decide_eq_true h]
   exact NW.mpr ⟨r,h,by simp[HH]⟩
  ·rw[decide_eq_false h,List.any_eq_false]
   intro x mx
   simp only[Function.comp,HH,decide_eq_true_eq]
   exact fun e=>h (e ▸ mx)
 rw[this]
theorem Et{x y:aA}{xs ys:List aA}(h:fa ρ=some [x,y])(hx:oT x=some xs)(hy:oT y=some ys):iZ fa ρ=some (wV pairD xs ys):=by
 unfold iZ
 rw[h]
 show((oT x).bind fun xs=>(oT y).bind fun ys=>some (wV pairD xs ys))=_
 rw[hx,hy]
 rfl
abbrev Tb:=aC×List (List Int)
def kdL (L:List Tb):List (aA×aA):=L.map fun p=>(cI p.1,bS p.2)
theorem HI {ρ:bA}{P:Out->Prop}{n:Nat}{d:aA}(h:ρ[i]?=some (some (n,d)))(k:P (.rt d)):Goes (kQ i n) ρ P:=⟨_,by
 unfold kQ
 rw[h]
 show(if n=n then some (Out.rt d) else none)=_
 rw[if_pos rfl],k⟩
theorem Xp (a:List Int):(bJ a).depth≤2:=by
 have:=vL a
 show cZ (a.map aQ)+1≤2
 omega
theorem Od (R:List (List Int)):dE (bS R)=true:=by
 have h2:cZ (R.map bJ)≤2:=DP fun t m=>by
  obtain⟨r,_,rfl⟩:=cY.mp m
  exact Xp r
 unfold dE
 show(noDicts (R.map bJ)&&decide (cZ (R.map bJ)+1≤60))=true
 rw[WY,decide_eq_true (by omega)]
 rfl
def atL (L:List Tb)(t:aC):List (List Int):=((L.find? fun p=>decide (p.1=t)).map (·.2)).getD []
theorem TZ (t:aC) : ∀ L:List Tb,cN (kdL L) (.inr t)=(L.find? fun p=>decide (p.1=t)).map fun p=>bS p.2
 | []=>rfl
 | p::L=>by
  show cN ((.str p.1,bS p.2)::kdL L) (.inr t)=_
  rw[WL,iT]
  by_cases h:p.1=t
  ·rw[if_pos (by rw[h]; rfl),decide_eq_true h]; rfl
  ·rw[if_neg (fun e=>h (by injection e with e; injection e)),decide_eq_false h,TZ t L]
theorem Kb (L:List Tb)(t:aC):(cN (kdL L) (.inr t)).getD (.list [])=bS (atL L t):=by
 rw[TZ]
 unfold atL
 cases L.find? fun p=>decide (p.1=t) <;> rfl
theorem LY (L:List Tb):plK (kdL L)=true:=xW fun kd m=>by
 obtain⟨p,_,rfl⟩:=cY.mp m
 exact fun q=>nomatch q
theorem Kv {L:List Tb}{t:aC}{r:List Int}(h:r∈atL L t) : ∃ p∈L,p.1=t/\p.2=atL L t:=by
 unfold atL at h ⊢
 cases e:L.find? fun p=>decide (p.1=t) with
 | none=>rw[e] at h; simp at h
 | some p=>
  have h2:=List.find?_some (p:=fun(p:Tb)=>decide (p.1=t)) e
  exact⟨p,Bu e,by simpa using h2,rfl⟩
theorem Fq {L:List Tb}(nd:(L.map (·.1)).Nodup):KnR (fun d=>∃ T:List (List Int),d=bS T) (kdL L):=by
 refine⟨fun kd m=>?_,?_⟩
 ·obtain⟨p,_,rfl⟩:=cY.mp m
  exact⟨⟨_,rfl⟩,_,rfl⟩
 ·unfold kdL
  rw[fD,show((fun x=>x.1)∘fun(p:Tb)=>(cI p.1,bS p.2))=cI∘(·.1) from rfl,← fD]
  exact(List.pairwise_map.mpr (nd.imp fun h e=>h (by injection e)))
end Aw
namespace L2
open PySem PySem.Spec PyProof.Rows
variable {l:List aI}{v u:aC->Int}{e p k M n:Nat}{R:Nat->List (List Int)}{r:List Int}{zs:List aC}{L:List Nat}{β:Type}{ls:Nat->List aI}
def tv (v:aC->Int):aI->Int
 | .inl i=>i
 | .inr z=>v z
section
abbrev Ct:=Nat->List Int->Prop
def qU (ls:Nat->List aI)(S:Nat->Prop)(e p:Nat):Prop:=S e/\S p/\e≠p /\ ∀ z,(.inr z:aI)∈ls e -> ∀ k,S k->k≠e->(.inr z:aI)∈ls k->(.inr z:aI)∈ls p
def less (S:Nat->Prop)(e:Nat):Nat->Prop:=fun k=>S k/\k≠e
theorem TF(h:l.map (tv v)=l.map (tv u)){z:aC}(m:(.inr z:aI)∈l):v z=u z:=List.map_inj_left.mp h _ m
theorem CL(h : ∀ z,(.inr z:aI)∈l->v z=u z):l.map (tv v)=l.map (tv u):=oF fun k m=>by
 cases k with
 | inl i=>rfl
 | inr z=>exact h z m
open Classical in
theorem glue {S:Nat->Prop}(E:qU ls S e p)(hp : ∀ z,(.inr z:aI)∈ls e->(.inr z:aI)∈ls p->v z=u z) : ∃ v2:aC->Int,(∀ k,less S e k->(ls k).map (tv v2)=(ls k).map (tv v))/\(ls e).map (tv v2)=(ls e).map (tv u):=by
 refine⟨fun z=>if (.inr z:aI)∈ls e then u z else v z,fun k hk=>CL fun z mz=>?_,CL fun z mz=>if_pos mz⟩
 show(if (.inr z:aI)∈ls e then u z else v z)=v z
 by_cases m:(.inr z:aI)∈ls e
 ·rw[if_pos m]
  exact(hp z m (E.2.2.2 z m k hk.1 hk.2 mz)).symm
 ·rw[if_neg m]
def xZ (ls:Nat->List aI):(Nat->Prop)->List (Nat×Nat)->(Nat->Prop)->Prop
 | S,[],R=>∀ k,S k↔R k
 | S,q::es,R=>qU ls S q.1 q.2/\xZ ls (less S q.1) es R
theorem IJ {R:Nat->Prop} : ∀ {es:List (Nat×Nat)} {S:Nat->Prop},xZ ls S es R->(∀ k,R k->S k) /\ ∀ q∈es,S q.1/\S q.2
 | [],S,h=>⟨fun k r=>(h k).mpr r,fun q m=>by simp at m⟩
 | q::es,S,h=>by
  obtain⟨a,b⟩:=IJ h.2
  refine⟨fun k r=>(a k r).1,fun x m=>?_⟩
  rcases cU.mp m with rfl | m
  ·exact⟨h.1.1,h.1.2.1⟩
  ·exact⟨(b x m).1.1,(b x m).2.1⟩
end
open PySem PySem.Spec PyProof.Rows Aw
theorem qR{p:aI×Int}(m:p∈l.zip (l.map (tv v))):p.1∈l/\p.2=tv v p.1:=by
 obtain⟨j,hj,rfl⟩:=wX m
 rw[BA,cV,Nat.min_self] at hj
 rw[NP,NQ]
 exact⟨tO _,rfl⟩
theorem Rv{k:aI}(m:k∈l):(k,tv v k)∈l.zip (l.map (tv v)):=by
 obtain⟨j,hj,rfl⟩:=wX m
 have h:j<(l.zip (l.map (tv v))).length:=by rw[BA,cV,Nat.min_self]; exact hj
 have:=tO h
 rwa [NP,NQ] at this
theorem LO (l:List aI)(v:aC->Int) : ∃ kn,eK l (l.map (tv v)) []=some kn /\ ∀ z,(.inr z:aI)∈l->cS kn z=some (v z):=by
 obtain⟨kn,e⟩:=yP (ps:=l.zip (l.map (tv v))) (kn:=[]) (fun p m i q=>by rw[(qR m).2,q]; rfl) (fun p _ z u _ e=>by cases e) (fun p m p' m' z q q'=>by rw[(qR m).2,(qR m').2,q,q'])
 refine⟨kn,?_,fun z m=>?_⟩
 ·unfold eK
  rw[if_pos (by rw[cV])]
  exact e
 ·exact((vI e).2.1 _ (Rv (v:=v) m)).2 z rfl
theorem Ayg:(∃ kn,eK l r []=some kn) ↔ ∃ v,r=l.map (tv v):=by
 constructor
 ·rintro⟨kn,h⟩
  unfold eK at h
  by_cases hl:r.length=l.length
  ·rw[if_pos hl] at h
   obtain⟨_,b,_⟩:=vI h
   refine⟨fun z=>(cS kn z).getD 0,Ce (by rw[cV]; exact hl) fun j h1 h2=>?_⟩
   rw[NQ]
   have hj:j<l.length:=by omega
   have hz:j<(l.zip r).length:=by rw[BA]; omega
   have:=b (l.zip r)[j] (tO hz)
   rw[NP] at this
   cases hk:l[j] with
   | inl i=>exact this.1 i hk
   | inr z=>
    have e:=this.2 z hk
    show r[j]=(cS kn z).getD 0
    rw[e]
    rfl
  ·rw[if_neg hl] at h
   cases h
 ·rintro⟨v,rfl⟩
  obtain⟨kn,e,_⟩:=LO l v
  exact⟨kn,e⟩
def cP (l:List aI)(zs:List aC)(r:List Int):List Int:=zs.map fun z=>((eK l r []).bind fun kn=>cS kn z).getD 0
theorem yK(h : ∀ z∈zs,(.inr z:aI)∈l)(v:aC->Int):cP l zs (l.map (tv v))=zs.map v:=oF fun z m=>by
 obtain⟨kn,e,hl⟩:=LO l v
 rw[e]
 show(cS kn z).getD 0=v z
 rw[hl z (h z m)]
 rfl
abbrev nL:=List (List (List Int))
def tb (t:nL):Ct:=fun k r=>r∈t.getD k []
def GG (ls:Nat->List aI)(t:nL):Prop:=∀ k r,r∈t.getD k [] -> ∃ v,r=(ls k).map (tv v)
section
variable {cm:Nat->Nat->List aC}
def Cm (ls:Nat->List aI)(cm:Nat->Nat->List aC):Prop:=∀ a b z,z∈cm a b↔(.inr z:aI)∈ls a/\(.inr z:aI)∈ls b
end
def bF {α:Type}(xs:List α)(f:α->Nat):Nat:=xs.foldr (fun x a=>f x+a) 0
def eA {α:Type}(xs:List α)(f:α->Nat):Nat:=xs.foldr (fun x a=>f x*a) 1
section
variable {α:Type}{xs ys:List α}{f g:α->Nat}
theorem eN (x:α)(xs:List α)(f:α->Nat):bF (x::xs) f=f x+bF xs f:=rfl
theorem jT (x:α)(xs:List α)(f:α->Nat):eA (x::xs) f=f x*eA xs f:=rfl
theorem fR : ∀ {xs:List α},(∀ x∈xs,f x=g x)->bF xs f=bF xs g
 | [],_=>rfl
 | x::xs,h=>by rw[eN,eN,h x bM,fR fun y m=>h y (cF _ m)]
theorem vO : ∀ {xs:List α},(∀ x∈xs,f x=g x)->eA xs f=eA xs g
 | [],_=>rfl
 | x::xs,h=>by rw[jT,jT,h x bM,vO fun y m=>h y (cF _ m)]
theorem sT : ∀ {xs:List α},(∀ x∈xs,f x=0)->bF xs f=0
 | [],_=>rfl
 | x::xs,h=>by rw[eN,h x bM,sT fun y m=>h y (cF _ m)]
theorem SS (a:Nat) : ∀ xs:List α,bF xs (fun x=>a*f x)=a*bF xs f
 | []=>rfl
 | x::xs=>by rw[eN,eN,SS a xs,Nat.mul_add]
theorem IP : ∀ xs:List α,bF xs (fun x=>f x+g x)=bF xs f+bF xs g
 | []=>rfl
 | x::xs=>by rw[eN,eN,eN,IP xs]; omega
theorem JK (h:α->β->Nat)(ys:List β) : ∀ xs:List α,bF xs (fun x=>bF ys (h x))=bF ys fun y=>bF xs fun x=>h x y
 | []=>(sT fun _ _=>rfl).symm
 | x::xs=>by
  rw[eN,JK h ys xs,← IP]
  rfl
theorem DL (p:xs.Perm ys):bF xs f=bF ys f:=by
 induction p with
 | nil=>rfl
 | cons x _ ih=>rw[eN,eN,ih]
 | swap x y l=>rw[eN,eN,eN,eN]; omega
 | trans _ _ a b=>rw[a,b]
theorem RT : ∀ xs ys:List α,bF (xs++ys) f=bF xs f+bF ys f
 | [],ys=>(wR _).symm
 | x::xs,ys=>by rw[BD,eN,eN,RT xs ys,AX]
theorem UH (h:β->List α) : ∀ zs:List β,bF (zs.flatMap h) f=bF zs fun z=>bF (h z) f
 | []=>rfl
 | z::zs=>by rw[Cd,RT,UH h zs]; rfl
theorem HV (h:β->Option α) : ∀ zs:List β,bF (zs.filterMap h) f=bF zs fun z=>match h z with | some x=>f x | none=>0
 | []=>rfl
 | z::zs=>by
  rw[eN,FK]
  cases e:h z with
  | none=>rw[HV h zs]; simp
  | some x=>rw[eN,HV h zs]
theorem SQ : ∀ xs:List α,bF xs (fun _=>1)=xs.length
 | []=>rfl
 | x::xs=>by rw[eN,SQ xs,fL]; omega
theorem ZR {m:Nat} : ∀ {xs:List α},(∀ x∈xs,f x≤m)->bF xs f≤xs.length*m
 | [],_=>eR _
 | x::xs,h=>by
  have:=ZR fun y m=>h y (cF _ m)
  have:=h x bM
  rw[eN,fL,NA]
  omega
theorem UA {x:α} : ∀ {xs:List α},x∈xs->f x≤bF xs f
 | y::xs,m=>by
  rw[eN]
  rcases cU.mp m with rfl | m
  ·omega
  ·have:=UA m
   omega
variable [BEq α][LawfulBEq α]
theorem EB {e:α} : ∀ {xs:List α},e∈xs->eA xs f=f e*eA (xs.erase e) f
 | x::xs,m=>by
  by_cases q:x=e
  ·subst q
   rw[NV]
   rfl
  ·have m':e∈xs:=(cU.mp m).resolve_left fun z=>q z.symm
   rw[NU (by simpa using q),jT,jT,EB m',Nat.mul_left_comm]
theorem vN {e:α} : ∀ {xs:List α},e∈xs->bF xs f=f e+bF (xs.erase e) f
 | x::xs,m=>by
  by_cases q:x=e
  ·subst q
   rw[NV]
   rfl
  ·have m':e∈xs:=(cU.mp m).resolve_left fun z=>q z.symm
   rw[NU (by simpa using q),eN,eN,vN m',Nat.add_left_comm]
end
abbrev Ch:=Nat->List Int
def chU (ρ:Ch)(k:Nat)(r:List Int):Ch:=fun j=>if j=k then r else ρ j
theorem qF (ρ:Ch)(k:Nat)(r:List Int):chU ρ k r k=r:=if_pos rfl
theorem oU {ρ:Ch}{j:Nat}(h:j≠k):chU ρ k r j=ρ j:=if_neg h
theorem Yh {ρ:Ch}{j:Nat}{q:List Int}(h:j≠k):chU (chU ρ k r) j q=chU (chU ρ j q) k r:=funext fun i=>by
 unfold chU
 by_cases a:i=j
 ·rw[if_pos a,if_neg fun b=>h (a.symm.trans b),if_pos a]
 ·by_cases b:i=k
  ·rw[if_neg a,if_pos b,if_pos b]
  ·rw[if_neg a,if_neg b,if_neg b,if_neg a]
def Sm (R:Nat->List (List Int)):List Nat->Ch->(Ch->Nat)->Nat
 | [],ρ,f=>f ρ
 | k::L,ρ,f=>bF (R k) fun r=>Sm R L (chU ρ k r) f
section
variable {f g:Ch->Nat}
theorem II : ∀ {L:List Nat} {ρ:Ch},(∀ ρ',(∀ j,j∉L->ρ' j=ρ j)->f ρ'=g ρ')->Sm R L ρ f=Sm R L ρ g
 | [],ρ,h=>h ρ fun _ _=>rfl
 | k::L,ρ,h=>fR fun r _=>II fun ρ' h'=>h ρ' fun j hj=>by
  rw[h' j fun m=>hj (cF _ m),oU fun q=>hj (by rw[q]; exact bM)]
theorem Kk{ρ:Ch}(h : ∀ ρ',(∀ j,j∉L->ρ' j=ρ j)->f ρ'=0):Sm R L ρ f=0:=by
 induction L generalizing ρ with
 | nil=>exact h ρ fun _ _=>rfl
 | cons k L ih=>
  refine sT fun r _=>ih fun ρ' h'=>h ρ' fun j hj=>?_
  rw[h' j fun m=>hj (cF _ m),oU fun q=>hj (by rw[q]; exact bM)]
theorem YN : ∀ {L:List Nat} {ρ:Ch},e∉L->Sm R L (chU ρ e r) f=Sm R L ρ fun ρ'=>f (chU ρ' e r)
 | [],ρ,_=>rfl
 | k::L,ρ,h=>fR fun q _=>by
  have hk:k≠e:=fun z=>h (by rw[z]; exact bM)
  show Sm R L (chU (chU ρ e r) k q) f=Sm R L (chU ρ k q) fun ρ'=>f (chU ρ' e r)
  rw[Yh hk]
  exact YN fun m=>h (cF _ m)
theorem QQ {α:Type}{xs:List α}{h:α->Ch->Nat} : ∀ {L:List Nat} {ρ:Ch},bF xs (fun x=>Sm R L ρ (h x))=Sm R L ρ fun ρ'=>bF xs fun x=>h x ρ'
 | [],ρ=>rfl
 | k::L,ρ=>by
  show bF xs (fun x=>bF (R k) fun r=>Sm R L (chU ρ k r) (h x))=bF (R k) fun r=>Sm R L (chU ρ k r) _
  rw[JK]
  exact fR fun r _=>QQ
theorem YT : ∀ {L:List Nat} {ρ:Ch},L.Nodup->e∈L->Sm R L ρ f=Sm R (L.erase e) ρ fun ρ'=>bF (R e) fun r=>f (chU ρ' e r)
 | k::L,ρ,nd,m=>by
  have nd':=lB.mp nd
  by_cases q:k=e
  ·subst q
   rw[NV]
   show bF (R k) (fun r=>Sm R L (chU ρ k r) f)=_
   rw[← QQ]
   exact fR fun r _=>YN nd'.1
  ·have m':e∈L:=(cU.mp m).resolve_left fun z=>q z.symm
   rw[NU (by simpa using q)]
   exact fR fun r _=>YT nd'.2 m'
end
section
variable {c:Nat->List Int->Nat}
def Cons (ls:Nat->List aI)(L:List Nat)(ρ:Ch):Prop:=∃ v,∀ k∈L,ρ k=(ls k).map (tv v)
open Classical in
def Wt (ls:Nat->List aI)(c:Nat->List Int->Nat)(L:List Nat)(ρ:Ch):Nat:=if Cons ls L ρ then eA L fun k=>c k (ρ k) else 0
def cUp (ls:Nat->List aI)(R:Nat->List (List Int))(zs:List aC)(c:Nat->List Int->Nat)(e p:Nat):Nat->List Int->Nat:=fun k r=>if k=p then c p r*bF (R e) (fun q=>if cP (ls e) zs q=cP (ls p) zs r then c e q else 0) else c k r
open Classical in
theorem Ld(nd:L.Nodup)(E:qU ls (fun k=>k∈L) e p)(hz : ∀ z,z∈zs↔(.inr z:aI)∈ls e/\(.inr z:aI)∈ls p)(hR : ∀ r∈R e,∃ v,r=(ls e).map (tv v))(ρ:Ch) :
  bF (R e) (fun r=>Wt ls c L (chU ρ e r))=Wt ls (cUp ls R zs c e p) (L.erase e) ρ:=by
 have me : ∀ k,k∈L.erase e↔k≠e/\k∈L:=fun k=>nd.mem_erase_iff
 have mp:p∈L.erase e:=(me p).mpr ⟨eZ E.2.2.1,E.2.1⟩
 by_cases hc:Cons ls (L.erase e) ρ
 ·obtain⟨v,hv⟩:=id hc
  have key : ∀ r∈R e,(Cons ls L (chU ρ e r)↔cP (ls e) zs r=cP (ls p) zs (ρ p)):=fun r m=>by
   obtain⟨u,rfl⟩:=hR r m
   rw[hv p mp,yK (fun z m=>((hz z).mp m).1),yK (fun z m=>((hz z).mp m).2)]
   constructor
   ·rintro⟨w,hw⟩
    have h1:=hw e E.1
    have h2:=hw p E.2.1
    rw[qF] at h1
    rw[oU (eZ E.2.2.1),hv p mp] at h2
    exact oF fun z m=>(TF h1 ((hz z).mp m).1).trans (TF h2 ((hz z).mp m).2).symm
   ·intro h
    obtain⟨w,h1,h2⟩:=glue E (v:=v) (u:=u) fun z a b=>(List.map_inj_left.mp h z ((hz z).mpr ⟨a,b⟩)).symm
    refine⟨w,fun k hk=>?_⟩
    by_cases q:k=e
    ·rw[q,qF,h2]
    ·rw[oU q,h1 k ⟨hk,q⟩,hv k ((me k).mpr ⟨q,hk⟩)]
  have one : ∀ r∈R e,Wt ls c L (chU ρ e r)=eA (L.erase e) (fun k=>c k (ρ k))*(if cP (ls e) zs r=cP (ls p) zs (ρ p) then c e r else 0):=fun r m=>by
   unfold Wt
   by_cases q:cP (ls e) zs r=cP (ls p) zs (ρ p)
   ·rw[if_pos ((key r m).mpr q),if_pos q,EB E.1,qF,ND]
    congr 1
    exact vO fun k hk=>by rw[oU ((me k).mp hk).1]
   ·rw[if_neg fun z=>q ((key r m).mp z),if_neg q]
    rfl
  rw[fR one,SS]
  unfold Wt
  rw[if_pos hc,EB mp,EB mp]
  unfold cUp
  rw[if_pos rfl]
  have:eA ((L.erase e).erase p) (fun k=>if k=p then c p (ρ k)*bF (R e) (fun q=>if cP (ls e) zs q=cP (ls p) zs (ρ k) then c e q else 0) else c k (ρ k))=eA ((L.erase e).erase p) fun k=>c k (ρ k):=vO fun k hk=>if_neg ((nd.erase e).mem_erase_iff.mp hk).1
  rw[this]
  exact Nat.mul_right_comm _ _ _
 ·unfold Wt
  rw[if_neg hc]
  refine sT fun r _=>if_neg fun⟨w,hw⟩=>hc ⟨w,fun k hk=>?_⟩
  rw[← hw k ((me k).mp hk).2,oU ((me k).mp hk).1]
theorem HK(nd:L.Nodup)(E:qU ls (fun k=>k∈L) e p)(hz : ∀ z,z∈zs↔(.inr z:aI)∈ls e/\(.inr z:aI)∈ls p)(hR : ∀ r∈R e,∃ v,r=(ls e).map (tv v))(ρ:Ch) :
  Sm R L ρ (Wt ls c L)=Sm R (L.erase e) ρ (Wt ls (cUp ls R zs c e p) (L.erase e)):=by
 rw[YT nd E.1]
 exact II fun ρ' _=>Ld nd E hz hR ρ'
def Akr (ls:Nat->List aI):List Nat->List (Nat×Nat)->Prop
 | _,[]=>True
 | L,q::es=>qU ls (fun k=>k∈L) q.1 q.2/\Akr ls (L.erase q.1) es
theorem Akr.of {P:Nat->Prop} : ∀ {es:List (Nat×Nat)} {L:List Nat} {S:Nat->Prop},L.Nodup->(∀ k,S k↔k∈L)->xZ ls S es P->Akr ls L es
 | [],_,_,_,_,_=>trivial
 | q::es,L,S,nd,h,E=>by
  have hS:S=fun k=>k∈L:=funext fun k=>propext (h k)
  refine⟨by rw[← hS]; exact E.1,Akr.of (nd.erase _) (fun k=>?_) E.2⟩
  rw[nd.mem_erase_iff]
  exact⟨fun z=>⟨z.2,(h k).mp z.1⟩,fun z=>⟨(h k).mpr z.2,z.1⟩⟩
def OV (ls:Nat->List aI)(R:Nat->List (List Int))(cm:Nat->Nat->List aC)(c:Nat->List Int->Nat)(es:List (Nat×Nat)):Nat->List Int->Nat:=es.foldl (fun c q=>cUp ls R (cm q.1 q.2) c q.1 q.2) c
theorem TU {cm:Nat->Nat->List aC}(hc:Cm ls cm)(hR : ∀ k,∀ r∈R k,∃ v,r=(ls k).map (tv v))(ρ:Ch) : ∀ {es:List (Nat×Nat)} {L:List Nat} {c:Nat->List Int->Nat},L.Nodup->Akr ls L es ->
  Sm R L ρ (Wt ls c L)=Sm R (es.foldl (fun L q=>L.erase q.1) L) ρ (Wt ls (OV ls R cm c es) (es.foldl (fun L q=>L.erase q.1) L))
 | [],_,_,_,_=>rfl
 | q::es,L,c,nd,E=>by
  rw[HK nd E.1 (hc q.1 q.2) (hR q.1) ρ]
  exact TU hc hR ρ (nd.erase _) E.2
def Cb (M n:Nat)(L:List Nat)(c:Nat->List Int->Nat):Prop:=∃ b:Nat->Nat,(∀ k∈L,∀ r,c k r≤M ^ b k)/\bF L (fun k=>b k+1)≤n
theorem Cb.le(h:Cb M n L c)(hM:1≤M)(m:k∈L)(r:List Int):c k r≤M ^ (n - 1):=by
 obtain⟨b,h1,h2⟩:=h
 have:=UA (f:=fun k=>b k+1) m
 exact eO (h1 k m r) (NB hM (by omega))
theorem Cb.one(h:L.length≤n):Cb M n L fun _ _=>1:=⟨fun _=>0,fun _ _ _=>bE _,by
 show bF L (fun _=>0+1)≤n
 have:bF L (fun _=>0+1)=L.length:=SQ L
 omega⟩
theorem Cb.step(nd:L.Nodup)(he:e∈L)(hp:p∈L)(hep:e≠p)(hl:(R e).length≤M)(h:Cb M n L c):Cb M n (L.erase e) (cUp ls R zs c e p):=by
 obtain⟨b,h1,h2⟩:=h
 have mp:p∈L.erase e:=nd.mem_erase_iff.mpr ⟨eZ hep,hp⟩
 refine⟨fun k=>if k=p then b p+(b e+1) else b k,fun k hk r=>?_,?_⟩
 ·show cUp ls R zs c e p k r≤M ^ (if k=p then b p+(b e+1) else b k)
  unfold cUp
  by_cases q:k=p
  ·rw[if_pos q,if_pos q,Nat.pow_add]
   refine NC (h1 p hp r) (eO (ZR (m:=M ^ b e) fun q _=>?_) ?_)
   ·split
    ·exact h1 e he _
    ·exact eR _
   ·rw[Nat.pow_succ,ND]
    exact Nat.mul_le_mul_left _ hl
  ·rw[if_neg q,if_neg q]
   exact h1 k (List.mem_of_mem_erase hk) r
 ·rw[vN he,vN mp] at h2
  show bF (L.erase e) (fun k=>(if k=p then b p+(b e+1) else b k)+1)≤n
  rw[vN mp,if_pos rfl]
  have:bF ((L.erase e).erase p) (fun k=>(if k=p then b p+(b e+1) else b k)+1)=bF ((L.erase e).erase p) fun k=>b k+1:=fR fun k hk=>by rw[if_neg ((nd.erase e).mem_erase_iff.mp hk).1]
  rw[this]
  omega
end
theorem VJ {α:Type}(f:α->Nat) : ∀ xs ys:List α,eA (xs++ys) f=eA xs f*eA ys f
 | [],ys=>(AV _).symm
 | x::xs,ys=>by rw[BD,jT,jT,VJ f xs ys,NF]
theorem Qv {α:Type}{f:α->Nat}{xs ys:List α}(p:xs.Perm ys):eA xs f=eA ys f:=by
 induction p with
 | nil=>rfl
 | cons x _ ih=>rw[jT,jT,ih]
 | swap x y l=>rw[jT,jT,jT,jT]; exact Nat.mul_left_comm _ _ _
 | trans _ _ a b=>rw[a,b]
theorem yO {α:Type}(g:β->α)(f:α->Nat) : ∀ xs:List β,bF (xs.map g) f=bF xs fun x=>f (g x)
 | []=>rfl
 | x::xs=>by rw[dF,eN,eN,yO g f xs]
theorem JY {α:Type}(g:β->α)(f:α->Nat) : ∀ xs:List β,eA (xs.map g) f=eA xs fun x=>f (g x)
 | []=>rfl
 | x::xs=>by rw[dF,jT,jT,JY g f xs]
theorem WX (n:Nat):(bR (n+1)).erase n=bR n:=by
 rw[Br,List.erase_append_right _ (by simp),NV,mG]
theorem JU (v:Int) : ∀ c:List Int,bF c (fun u=>if u=v then 1 else 0)=c.count v
 | []=>rfl
 | u::c=>by
  rw[eN,JU v c,List.count_cons]
  by_cases h:u=v
  ·subst h; simp; omega
  ·rw[if_neg h,if_neg (by simpa using h)]; omega
theorem QM (f:Int->Nat){V:List Int}(nd:V.Nodup) : ∀ {c:List Int},(∀ v∈c,v∈V)->bF c f=bF V fun v=>c.count v*f v
 | [],_=>(sT fun v _=>by rw[List.count_nil,Nat.zero_mul]).symm
 | u::c,h=>by
  have hu:=h u bM
  rw[eN,QM f nd fun v m=>h v (cF _ m)]
  have e:bF V (fun v=>(u::c).count v*f v)=bF V (fun v=>c.count v*f v+if u=v then f v else 0):=fR fun v _=>by
   rw[List.count_cons]
   by_cases q:u=v
   ·subst q; simp[NA]
   ·rw[if_neg (by simpa using q),if_neg q]; rfl
  rw[e,IP,Nat.add_comm]
  congr 1
  rw[vN hu,if_pos rfl,sT fun v m=>if_neg fun q=>?_]
  ·rfl
  ·exact((nd.mem_erase_iff).mp m).1 q.symm
theorem SV {g:List Int->Nat}(h0 : ∀ r∈R 0,∃ v,r=(ls 0).map (tv v))(c:Nat->List Int->Nat)(hc:c 0=g)(ρ:Ch):Sm R (bR 1) ρ (Wt ls c (bR 1))=bF (R 0) g:=by
 show bF (R 0) (fun r=>Wt ls c [0] (chU ρ 0 r))=_
 refine fR fun r m=>?_
 obtain⟨v,rfl⟩:=h0 r m
 unfold Wt
 rw[if_pos ⟨v,fun k mk=>by rw[bL.mp mk,qF]⟩]
 show c 0 (chU ρ 0 _ 0)*1=_
 rw[qF,hc,FD]
theorem TB {z:aC}{N:Nat}(hz : ∀ k,k≤N->(.inr z:aI)∈ls k)(hs : ∀ j k,j≤N->k≤N->j≠k -> ∀ y,(.inr y:aI)∈ls j->(.inr y:aI)∈ls k->y=z)(hR : ∀ k,∀ r∈R k,∃ v,r=(ls k).map (tv v))(ρ:Ch) : ∀ (i:Nat) (g:List Int->Nat),i≤N ->
  Sm R (bR (i+1)) ρ (Wt ls (fun k r=>if k=0 then g r else 1) (bR (i+1)))=bF (R 0) fun r=>g r*eA (bR i) fun k=>bF (R (k+1)) fun q=>if cP (ls (k+1)) [z] q=cP (ls 0) [z] r then 1 else 0
 | 0,g,_=>by
  rw[SV (hR 0) (g:=g) _ (funext fun r=>if_pos rfl) ρ]
  exact fR fun r _=>(FD _).symm
 | i+1,g,hi=>by
  have E:qU ls (fun k=>k∈bR (i+2)) (i+1) 0:=⟨by simp,by simp,by omega,fun y hy k mk hk hyk=>by
   have mk:=lC.mp mk
   rw[hs (i+1) k hi (by omega) (eZ hk) y hy hyk]
   exact hz 0 (eR _)⟩
  rw[HK rF E (zs:=[z]) (fun y=>⟨fun m=>by rw[bL.mp m]; exact⟨hz _ hi,hz _ (eR _)⟩,fun m=>bL.mpr (hs _ _ hi (eR _) (by omega) y m.1 m.2)⟩) (hR (i+1)) ρ,WX (i+1)]
  have ec:cUp ls R [z] (fun k r=>if k=0 then g r else 1) (i+1) 0=fun k r=>if k=0 then g r*(bF (R (i+1)) fun q=>if cP (ls (i+1)) [z] q=cP (ls 0) [z] r then 1 else 0) else 1:=by
   funext k r
   unfold cUp
   by_cases q:k=0
   ·rw[if_pos q,if_pos q]
    show(if (0:Nat)=0 then g r else 1)*(bF (R (i+1)) fun q=>if cP (ls (i+1)) [z] q=cP (ls 0) [z] r then(if i+1=0 then g q else 1) else 0)=_
    rw[if_pos rfl]
    congr 1
   ·rw[if_neg q,if_neg q]
    exact if_neg q
  rw[ec,TB hz hs hR ρ i _ (by omega)]
  refine fR fun r _=>?_
  rw[Br,VJ,NF]
  congr 1
  show _=_*(_*1)
  rw[FD,ND]
def nZ (ls:Nat->List aI)(R:Nat->List (List Int))(s:Nat->aC)(i:Nat)(g:List Int->Nat):List Int->Nat:=fun r=>bF (R (i+1)) fun q=>if cP (ls (i+1)) [s (i+1)] q=cP (ls i) [s (i+1)] r then g q else 0
def qY (ls:Nat->List aI)(R:Nat->List (List Int))(s:Nat->aC):Nat->(List Int->Nat)->Nat
 | 0,g=>bF (R 0) g
 | i+1,g=>qY ls R s i (nZ ls R s i g)
theorem RI {s:Nat->aC}{N:Nat}(h1 : ∀ k,k≤N->(.inr (s k):aI)∈ls k)(h2 : ∀ k,k≤N->(.inr (s (k+1)):aI)∈ls k)(hs : ∀ j k,j<k->k≤N -> ∀ y,(.inr y:aI)∈ls k->(.inr y:aI)∈ls j->k=j+1/\y=s k)(hR : ∀ k,∀ r∈R k,∃ v,r=(ls k).map (tv v))(ρ:Ch) : ∀ (i:Nat) (g:List Int->Nat),i≤N ->
  Sm R (bR (i+1)) ρ (Wt ls (fun k r=>if k=i then g r else 1) (bR (i+1)))=qY ls R s i g
 | 0,g,_=>SV (hR 0) (g:=g) _ (funext fun r=>if_pos rfl) ρ
 | i+1,g,hi=>by
  have E:qU ls (fun k=>k∈bR (i+2)) (i+1) i:=⟨by simp,by simp,by omega,fun y hy k mk hk hyk=>by
   have mk:=lC.mp mk
   obtain⟨e1,e2⟩:=hs k (i+1) (by omega) hi y hy hyk
   rw[e2]
   exact h2 i (by omega)⟩
  rw[HK rF E (zs:=[s (i+1)]) (fun y=>⟨fun m=>by rw[bL.mp m]; exact⟨h1 _ hi,h2 _ (by omega)⟩,fun m=>bL.mpr (hs i (i+1) (by omega) hi y m.1 m.2).2⟩) (hR (i+1)) ρ,WX (i+1)]
  have ec : ∀ ρ',Wt ls (cUp ls R [s (i+1)] (fun k r=>if k=i+1 then g r else 1) (i+1) i) (bR (i+1)) ρ'=Wt ls (fun k r=>if k=i then nZ ls R s i g r else 1) (bR (i+1)) ρ':=fun ρ'=>by
   unfold Wt
   split
   ·refine vO fun k m=>?_
    have m:=lC.mp m
    unfold cUp
    by_cases q:k=i
    ·rw[if_pos q]
     show(if i=i+1 then g (ρ' k) else 1)*(bF (R (i+1)) fun p=>if cP (ls (i+1)) [s (i+1)] p=cP (ls i) [s (i+1)] (ρ' k) then(if i+1=i+1 then g p else 1) else 0)=(if k=i then nZ ls R s i g (ρ' k) else 1)
     rw[if_neg (by omega),AV,if_pos q]
     unfold nZ
     refine fR fun p _=>?_
     rw[if_pos rfl]
    ·rw[if_neg q]
     show(if k=i+1 then g (ρ' k) else 1)=(if k=i then nZ ls R s i g (ρ' k) else 1)
     rw[if_neg q,if_neg (by omega)]
   ·rfl
  rw[II (g:=Wt ls (fun k r=>if k=i then nZ ls R s i g r else 1) (bR (i+1))) fun ρ' _=>ec ρ']
  exact RI h1 h2 hs hR ρ i _ (by omega)
section
variable {α:Type}[DecidableEq α]
def lE (A:List (α×Nat))(k:α)(n:Nat):List (α×Nat):=if (A.lookup k).isSome=true then A.map fun p=>if p.1=k then(p.1,n) else p else A++[(k,n)]
theorem nV (j a:α)(m:Nat)(A:List (α×Nat)):((a,m)::A).lookup j=if j=a then some m else A.lookup j:=by
 rw[kJ]
 by_cases h:j=a
 ·rw[show(j == a)=true from by simpa using h,if_pos h]
 ·rw[show(j == a)=false from by simpa using h,if_neg h]
theorem Ao7 {k:α} : ∀ {A:List (α×Nat)},A.lookup k=none↔k∉A.map (·.1)
 | []=>by simp
 | (a,m)::A=>by
  rw[nV,dF,cU]
  by_cases h:k=a
  ·simp[h]
  ·rw[if_neg h,Ao7]
   simp[h]
theorem Zx (A:List (α×Nat))(k:α)(n:Nat)(j:α):(lE A k n).lookup j=if j=k then some n else A.lookup j:=by
 unfold lE
 split
 ·rename_i h
  have go : ∀ A:List (α×Nat),(j=k->(A.lookup k).isSome=true)->(A.map fun p=>if p.1=k then(p.1,n) else p).lookup j=if j=k then some n else A.lookup j:=by
   intro A
   induction A with
   | nil=>
    intro h
    by_cases q:j=k
    ·exact absurd (h q) (by simp)
    ·rw[if_neg q]
     rfl
   | cons p A ih=>
    intro h
    obtain⟨a,m⟩:=p
    have e:((a,m)::A).map (fun p=>if p.1=k then(p.1,n) else p)=(a,if a=k then n else m)::A.map fun p=>if p.1=k then(p.1,n) else p:=by
     rw[dF]
     by_cases q:a=k
     ·simp[q]
     ·simp[q]
    rw[e,nV,nV]
    by_cases q:j=a
    ·rw[if_pos q,if_pos q,q]
     by_cases w:a=k
     ·rw[if_pos w,if_pos w]
     ·rw[if_neg w,if_neg w]
    ·rw[if_neg q,if_neg q]
     refine ih fun z=>?_
     have:=h z
     rwa [nV,if_neg (z ▸ q)] at this
  exact go A fun _=>h
 ·rename_i h
  have h:A.lookup k=none:=by
   cases e:A.lookup k with
   | none=>rfl
   | some x=>rw[e] at h; exact absurd rfl h
  have go : ∀ A:List (α×Nat),(A++[(k,n)]).lookup j=(A.lookup j).or (if j=k then some n else none):=by
   intro A
   induction A with
   | nil=>exact nV j k n []
   | cons p A ih=>
    obtain⟨a,m⟩:=p
    rw[BD,nV,nV]
    by_cases q:j=a
    ·rw[if_pos q,if_pos q]
     rfl
    ·rw[if_neg q,if_neg q]
     exact ih
  rw[go]
  by_cases q:j=k
  ·rw[if_pos q,if_pos q,q,h]
   rfl
  ·rw[if_neg q,if_neg q]
   simp
theorem Ph (A:List (α×Nat))(k:α)(n:Nat):(lE A k n).map (·.1)=if k∈A.map (·.1) then A.map (·.1) else A.map (·.1)++[k]:=by
 unfold lE
 by_cases h:k∈A.map (·.1)
 ·have hs:(A.lookup k).isSome=true:=by
   cases e:A.lookup k with
   | none=>exact absurd h (Ao7.mp e)
   | some x=>rfl
  rw[if_pos hs,if_pos h,fD]
  refine oF fun p _=>?_
  show(if p.1=k then(p.1,n) else p).1=p.1
  split <;> rfl
 ·rw[if_neg h,Ao7.mpr h,if_neg (by simp),iS]
  rfl
def kC (A:List (α×Nat))(k:α)(n:Nat):List (α×Nat):=lE A k ((A.lookup k).getD 0+n)
def qV (key:β->α)(w:β->Nat)(xs:List β)(A:List (α×Nat)):List (α×Nat):=xs.foldl (fun A x=>kC A (key x) (w x)) A
theorem JV (key:β->α)(w:β->Nat)(k:α) : ∀ (xs:List β) (A:List (α×Nat)),((qV key w xs A).lookup k).getD 0=(A.lookup k).getD 0+bF xs fun x=>if key x=k then w x else 0
 | [],A=>rfl
 | x::xs,A=>by
  show((qV key w xs (kC A (key x) (w x))).lookup k).getD 0=_
  rw[JV key w k xs,eN]
  unfold kC
  rw[Zx]
  by_cases h:k=key x
  ·rw[if_pos h,if_pos h.symm,h]
   show _+_+_=_
   omega
  ·rw[if_neg h,if_neg (eZ h)]
   omega
theorem JP (key:β->α)(w:β->Nat) : ∀ (xs:List β) (A:List (α×Nat)),(A.map (·.1)).Nodup->((qV key w xs A).map (·.1)).Nodup/\(∀ k,k∈(qV key w xs A).map (·.1)↔k∈A.map (·.1) \/ ∃ x∈xs,key x=k)/\(qV key w xs A).length≤A.length+xs.length
 | [],A,nd=>⟨nd,fun k=>by simp[qV],bE _⟩
 | x::xs,A,nd=>by
  have e:=Ph A (key x) ((A.lookup (key x)).getD 0+w x)
  have nd':((kC A (key x) (w x)).map (·.1)).Nodup:=by
   unfold kC
   rw[e]
   split
   ·exact nd
   ·rename_i h
    exact rG.mpr ⟨nd,by simp,fun a ha b hb z=>h (by rw[bL.mp hb] at z; rw[← z]; exact ha)⟩
  have hm : ∀ k,k∈(kC A (key x) (w x)).map (·.1)↔k∈A.map (·.1) \/ key x=k:=fun k=>by
   unfold kC
   rw[e]
   split
   ·rename_i h
    exact⟨.inl,fun z=>z.elim id fun z=>z ▸ h⟩
   ·rw[oE,bL]
    exact or_congr_right eq_comm
  have hl:(kC A (key x) (w x)).length≤A.length+1:=by
   unfold kC lE
   split <;> simp
  obtain⟨h1,h2,h3⟩:=JP key w xs (kC A (key x) (w x)) nd'
  refine⟨h1,fun k=>?_,by rw[fL]; exact eO h3 (by omega)⟩
  refine(h2 k).trans ?_
  rw[hm,or_assoc]
  refine or_congr_right ?_
  constructor
  ·rintro(z | ⟨y,my,z⟩)
   ·exact⟨x,bM,z⟩
   ·exact⟨y,cF _ my,z⟩
  ·rintro⟨y,my,z⟩
   rcases cU.mp my with rfl | my
   ·exact .inl z
   ·exact .inr ⟨y,my,z⟩
theorem HB {p:α×Nat} : ∀ {A:List (α×Nat)},(A.map (·.1)).Nodup->p∈A->A.lookup p.1=some p.2
 | (a,m)::A,nd,h=>by
  rw[nV]
  have nd:=lB.mp nd
  rcases cU.mp h with rfl | h
  ·exact if_pos rfl
  ·rw[if_neg fun z=>nd.1 (by rw[← z]; exact cY.mpr ⟨p,h,rfl⟩)]
   exact HB nd.2 h
theorem Xs (key:β->α)(w:β->Nat)(xs:List β){V:List α}(nd:V.Nodup)(h : ∀ x∈xs,key x∈V):(bF V fun v=>bF xs fun x=>if key x=v then w x else 0)=bF xs w:=by
 rw[JK]
 refine fR fun x m=>?_
 rw[vN (h x m),if_pos rfl,sT fun v mv=>if_neg fun z=>?_]
 ·rfl
 ·exact((nd.mem_erase_iff).mp mv).1 z.symm
end
def gF:List (List (List Int))->List Int->Nat
 | [],_=>1
 | Q::rest,r=>bF Q fun q=>if q.getD 0 0=r.getD 1 0 then gF rest q else 0
def hF:List (List (List Int))->Int->Nat
 | [],_=>0
 | Q::rest,v=>bF Q fun q=>if q.getD 0 0=v then gF rest q else 0
theorem Cv (Q:List (List Int))(rest:List (List (List Int)))(r:List Int):gF (Q::rest) r=hF (Q::rest) (r.getD 1 0):=rfl
theorem Qi{s:Nat->aC} : ∀ {i:Nat} {g g':List Int->Nat},(∀ r∈R i,g r=g' r)->qY ls R s i g=qY ls R s i g'
 | 0,g,g',h=>fR h
 | i+1,g,g',h=>by
  have:nZ ls R s i g=nZ ls R s i g':=funext fun r=>fR fun q m=>by rw[h q m]
  show qY ls R s i _=qY ls R s i _
  rw[this]
end L2
namespace Aw
open PySem L2
variable {n k i j:Nat}{f g:EF}{ρ:List (Option aA)}{d:aA}{ls:List Ln}{ds:List aA}{l a b:Ln}{z x y qual:aC}{L:List Nat}{P:Out->Prop}{ks:List aI}{kds:List (aA×aA)}{B:aC->List (List Int)}{wd:aC->Nat}{β:Type}{r:List Int}{zs ps ts:List aC}{v:aC->Int}{R:List (List Int)}{c:List Int->Nat}{K:aK}{st:cB}
theorem evA{ρ:bA}(h:f (vA ρ)=some d)(hf:gD n d=true):eV n .a f ρ=some d:=by
 show((f (vA ρ)).bind fun d=>if (gD n d||(tV ρ&&decide (n<9)&&iH n d)||(qW ρ&&decide (n=0)&&ftD d))=true then some d else none)=_
 rw[h,cG,hf,FQ,FQ,if_pos rfl]
def gE (l:Ln):Prop:=l.2.length≤6 /\ ∀ k∈l.2,cR (kD k)=true
abbrev lN (cs:List Nat):aA:=.list (cs.map fun(c:Nat)=>aQ c)
abbrev lsD (ls:List Ln):aA:=.tuple (ls.map bC)
abbrev lZ (zs:List aC):aA:=.list (zs.map cI)
theorem Jj (cs:List Nat):dS [lN cs]=some (.int cs.length):=by simp[dS]
def Dk:aI->Option aC
 | .inr z=>some z
 | .inl _=>none
def fP (ks:List aI):List aC:=ks.filterMap Dk
def eE (ls:List (aC×List aI)):List aC:=oO (ls.flatMap fun l=>fP l.2)
def kt (z:aC):aA×aA:=(.str z,.bool true)
theorem Hj (acc:List aC)(z:aC):((acc.map kt).any fun kd=>decide (cL kd.1=some (.inr z)))=decide (z∈acc):=by
 induction acc with
 | nil=>rfl
 | cons y r ih=>
  rw[dF,xA,ih]
  have:cL (kt y).1=some (.inr y):=rfl
  rw[this]
  by_cases h:z=y
  ·subst h; simp
  ·have h' : ¬ y=z:=fun e=>h e.symm
   simp[h,h']
theorem Me (acc:List aC)(z:aC):putD (acc.map kt) (.inr z) (.bool true)=(iG acc z).map kt:=by
 unfold putD iG
 rw[Hj]
 by_cases h:z∈acc
 ·rw[if_pos (by simpa using h),if_pos h,fD]
  refine oF fun y _=>?_
  show(if cL (kt y).1=some (.inr z) then((kt y).1,mB true) else kt y)=kt y
  split <;> rfl
 ·rw[if_neg (by simpa using h),if_neg h,iS]
  rfl
def gN (acc:List aC)(k:aI):List aC:=match k with
 | .inr z=>iG acc z
 | .inl _=>acc
theorem GO : ∀ (ks:List aI) (acc:List aC),ks.foldl gN acc=(fP ks).foldl iG acc
 | [],_=>rfl
 | .inl i::ks,acc=>GO ks acc
 | .inr z::ks,acc=>GO ks (iG acc z)
theorem Hc (acc:List aC)(k:aI):(gN acc k).length≤acc.length+1:=by
 cases k with
 | inl i=>exact wU _
 | inr z=>exact SI acc z
theorem Gu {acc:List aC}{k:aI}(h : ∀ z∈acc,cR (.str z)=true)(hk:cR (kD k)=true) : ∀ z∈gN acc k,cR (.str z)=true:=by
 cases k with
 | inl i=>exact h
 | inr z=>exact fun y m=>(Ava.mp m).elim (h y) fun e=>e ▸ hk
theorem IT {ls:List (aC×List aI)}(h : ∀ l∈ls,gE l)(hn:ls.length≤100):oZ [.tuple (ls.map bC)]=some (.list ((eE ls).map cI)):=by
 have : ∃ d,oZ [.tuple (ls.map bC)]=some d/\d = .list ((eE ls).map cI):=by
  refine eJ rfl ?_
  refine cQ (n:=1) (d:=.dict []) rfl (by simp) ?_
  refine gG (fun ρ'=>∃ x2 x3:L2.Slot,(∀ z∈eE ls,cR (.str z)=true)/\ρ'=[s0 (.tuple (ls.map bC)),some (1,.dict ((eE ls).map kt)),x2,x3]) ?_ ?_
  ·refine jJ (xs:=ls) (q:=bC) (b0:=[]) (fun acc l=>l.2.foldl gN acc) (fun i acc ρ'=>∃ x2 x3:L2.Slot,acc.length≤6*i/\(∀ z∈acc,cR (.str z)=true)/\ρ'=[s0 (.tuple (ls.map bC)),some (1,.dict (acc.map kt)),x2,x3]) (avS (yC rfl)) ⟨none,none,bE _,fun _ m=>by simp at m,rfl⟩ ?_ ?_
   ·rintro i l acc _ hx ⟨x2,x3,ha,hy,rfl⟩
    have hl:=h l (fK hx)
    have hi:i<ls.length:=(dR.mp hx).1
    refine⟨[s0 (.tuple (ls.map bC)),some (1,.dict (acc.map kt)),s0 (bC l),x3],rfl,?_⟩
    refine jJ (xs:=l.2) (q:=kD) (b0:=acc) gN (fun j acc' ρ'=>∃ x3:L2.Slot,acc'.length≤6*i+j/\(∀ z∈acc',cR (.str z)=true)/\ρ'=[s0 (.tuple (ls.map bC)),some (1,.dict (acc'.map kt)),s0 (bC l),x3]) (avS (yC (by simp[vS,eOp,aB,eC,bC,gIx,atI,ixN]))) ⟨x3,ha,hy,rfl⟩ ?_ ?_
    ·rintro j k acc' _ hk ⟨x3,ha',hy',rfl⟩
     have hj:j<l.2.length:=(dR.mp hk).1
     have h6:=hl.1
     refine⟨[s0 (.tuple (ls.map bC)),some (1,.dict (acc'.map kt)),s0 (bC l),s0 (kD k)],rfl,?_⟩
     have g1:=Hc acc' k
     have g2:=Gu hy' (hl.2 k (fK hk))
     cases k with
     | inl v=>exact mQ (by simp[bV,vS,eUn,aB,bOf,asB,gW,lF,isK,kD]) (qK ⟨_,.inl rfl,_,by omega,g2,rfl⟩)
     | inr z=>
      refine jQ (by simp[bV,vS,eUn,aB,bOf,asB,gW,lF,isK,kD]) (ZH (d:=.bool true) (kd:=.str z) (key:=.inr z) (kds:=acc'.map kt) rfl rfl rfl rfl (by simp; omega) ⟨_,.inl rfl,s0 (.str z),by omega,g2,?_⟩)
      rw[Me]
      rfl
    ·rintro _ ⟨x3,ha',hy',rfl⟩
     have h6:=hl.1
     exact⟨_,.inl rfl,_,_,by omega,hy',rfl⟩
   ·rintro _ ⟨x2,x3,ha,hy,rfl⟩
    have e:ls.foldl (fun acc l=>l.2.foldl gN acc) []=eE ls:=by
     unfold eE oO
     rw[List.foldl_flatMap]
     congr 1
     funext acc l
     exact GO l.2 acc
    rw[e] at hy ⊢
    exact⟨_,rfl,x2,x3,hy,rfl⟩
  rintro _ ⟨x2,x3,hy,rfl⟩
  refine qH (dW (d:=.list ((eE ls).map cI)) (bG (ds:=[.dict ((eE ls).map kt)]) rfl ?_) ⟨_,rfl,rfl⟩)
  have hp:plK ((eE ls).map kt)=true:=xW fun kd m=>by
   obtain⟨z,_,rfl⟩:=cY.mp m
   exact fun q=>nomatch q
  show(if (plK ((eE ls).map kt)&&((eE ls).map kt).all (fun kd=>cR kd.1))=true then some (wO (((eE ls).map kt).map (·.1))) else none)=_
  rw[hp,xE,if_pos (fA.mpr fun kd m=>by
   obtain⟨z,mz,rfl⟩:=cY.mp m
   exact hy z mz),fD]
  rfl
 obtain⟨d,e,rfl⟩:=this
 exact e
theorem ZX (y z:aC):cK (.str y) (.str z)=decide (y=z):=by
 rw[show cK (.str y) (.str z)=(y == z) by simp[cK],nK]
 simp
theorem Ma (zs:List aC)(z:aC):((zs.map cI).any fun d=>cK d (.str z))=decide (z∈zs):=by
 rw[List.any_map,nK]
 simp[ZX]
theorem Sf (zs:List aC):noDicts (zs.map cI)=true:=zL fun t m=>by
 obtain⟨z,_,rfl⟩:=cY.mp m
 rfl
theorem Lx (neg:Bool)(zs:List aC)(z:aC):gIn neg (.str z) (.list (zs.map cI))=some (.bool (neg != decide (z∈zs))):=by
 show(if (dE (.str z)&&noDicts (zs.map cI))=true then some (mB (neg != (zs.map cI).any fun d=>cK d (.str z))) else none)=_
 rw[Sf,Ma,show dE (.str z)=true from rfl,OJ,if_pos rfl]
theorem any_keys (ks:List aI)(z:aC):((ks.map kD).any fun d=>cK d (.str z))=decide (z∈fP ks):=by
 induction ks with
 | nil=>rfl
 | cons k r ih=>
  rw[dF,xA,ih]
  cases k with
  | inl i=>
   have:cK (kD (.inl i)) (.str z)=false:=by simp[kD,cK]
   rw[this]
   rfl
  | inr y=>
   have:cK (kD (.inr y)) (.str z)=decide (y=z):=ZX y z
   rw[this]
   show(decide (y=z)||decide (z∈fP r))=decide (z∈y::fP r)
   by_cases e:y=z
   ·subst e; simp
   ·have e' : ¬ z=y:=fun q=>e q.symm
    simp[e,e']
theorem RK (z:aC)(ks:List aI):gIn false (.str z) (.tuple (ks.map kD))=some (.bool (decide (z∈fP ks))):=by
 show(if (dE (.str z)&&noDicts (ks.map kD))=true then some (mB (false != (ks.map kD).any fun d=>cK d (.str z))) else none)=_
 rw[Rn,any_keys,show dE (.str z)=true from rfl,OJ,if_pos rfl]
 simp
def lG (ls:List (aC×List aI))(k:Nat):List (aC×List aI):=ls.take k++ls.drop (k+1)
def CO (ls:List (aC×List aI))(k:Nat)(l:aC×List aI):List aC:=(eE [l]).filter fun z=>decide (z∈eE (lG ls k))
theorem Ad{lo hi:OF}{l u:Option Int}(e1:f ρ=some (.tuple ds))(e2:lo ρ=some l)(e3:hi ρ=some u):xI f lo hi ρ=some (.tuple (cutD ds l u)):=by
 unfold xI
 rw[e1,cG,e2,cG,e3,cG]
theorem Ye(k:Nat)(h:k≤ds.length):cutD ds (some (k:Int)) none=ds.drop k:=by
 unfold cutD
 rw[HT.Ay2,HT.Awm,Nat.min_eq_left h]
 exact List.take_of_length_le (by simp)
theorem b5 {ls:List (aC×List aI)}(h : ∀ l∈ls,gE l)(hn:ls.length≤50){l:aC×List aI}(hk:ls[k]?=some l):vB [.tuple (ls.map bC),.int k]=some (.list ((CO ls k l).map cI)):=by
 have hlt:k<ls.length:=(dR.mp hk).1
 have hrl:(lG ls k).length≤100:=by
  unfold lG
  rw[pQ,wW,Bz]
  omega
 have : ∃ d,vB [.tuple (ls.map bC),.int k]=some d/\d = .list ((CO ls k l).map cI):=by
  refine eJ rfl ?_
  have er:=IT (ls:=lG ls k) (fun x m=>h x (by
   rcases oE.mp m with m | m
   ·exact Bt m
   ·exact List.mem_of_mem_drop m)) hrl
  have el:=IT (ls:=[l]) (fun x m=>by rw[bL.mp m]; exact h l (fK hk)) (by simp)
  refine cQ (d:=.list ((eE (lG ls k)).map cI)) (bG (ds:=[.tuple ((lG ls k).map bC)]) (bO (aY (a:=.tuple ((ls.take k).map bC)) (b:=.tuple ((ls.drop (k+1)).map bC)) ?_ ?_ ?_) rfl) er) (by simp) ?_
  ·have:=Ad (ds:=ls.map bC) (f:=aB 0) (lo:=oN) (hi:=oS (aB 1)) (ρ:=vS [s0 (.tuple (ls.map bC)),s0 (.int k),none]) (l:=none) (u:=some (k:Int)) rfl rfl rfl
   rw[Gi (by simpa using pO hlt),← List.map_take] at this
   exact this
  ·have:=Ad (ds:=ls.map bC) (f:=aB 0) (lo:=oS (eOp dH (aB 1) (eC (.int 1)))) (hi:=oN) (ρ:=vS [s0 (.tuple (ls.map bC)),s0 (.int k),none]) (l:=some ((k+1:Nat):Int)) (u:=none) rfl rfl rfl
   rw[Ye _ (by simp; omega),← List.map_drop] at this
   exact this
  ·show(if ((ls.take k).map bC).length+((ls.drop (k+1)).map bC).length≤sizeLine then some (eI ((ls.take k).map bC++(ls.drop (k+1)).map bC)) else none)=_
   rw[if_pos (vD (by simp; omega)),← iS]
   rfl
  refine dW (d:=.list ((CO ls k l).map cI)) ?_ ⟨_,rfl,rfl⟩
  refine jH (xs:=eE [l]) (q:=cI) (fun z=>decide (z∈eE (lG ls k))) cI (gH (bG (ds:=[.tuple ([l].map bC)]) ?_ el)) ?_ fun z _=>?_
  ·have:gIx (.tuple (ls.map bC)) (.int k)=some (bC l):=yG (by rw[dI,hk]; rfl)
   refine bO ?_ rfl
   have h2:(1:Nat)≤sizeLine:=vD (by omega)
   unfold fG
   rw[bO (aY (a:=.tuple (ls.map bC)) (b:=.int k) rfl rfl this) rfl]
   simp[h2]
  ·have:(eE [l]).length≤6:=by
    have h1:=DV (fP l.2) []
    have h2:(fP l.2).length≤l.2.length:=NN _ _
    have h3:=(h l (fK hk)).1
    have e:eE [l]=(fP l.2).foldl iG []:=by
     unfold eE oO
     simp
    rw[e]
    simp at h1
    omega
   omega
  ·refine⟨[some (.str z),some (.list ((eE (lG ls k)).map cI))],rfl,?_,fun _=>rfl⟩
   have:=Lx false (eE (lG ls k)) z
   simp[eV,bV,aV,vS,eOp,eUn,aB,eC,aO,fE,aH,aN,bOf,asB,iIt,itemsOf,dH,oR,jP,fN,kN,g2I,g2C,gLt,gGt,dS,gW,lF,isK,gEq,dE,noDict,noDicts,nA,cZ,cK,this]
 obtain⟨d,e,rfl⟩:=this
 exact e
theorem Ais {ls:List (aC×List aI)}:z∈eE ls ↔ ∃ l∈ls,z∈fP l.2:=by
 unfold eE
 rw[Aqh,NJ]
theorem Avm {ls:List (aC×List aI)}{l:aC×List aI}:l∈lG ls k ↔ ∃ j,j≠k/\ls[j]?=some l:=by
 unfold lG
 rw[oE,Bv,Bv]
 constructor
 ·rintro(⟨j,hj⟩ | ⟨j,hj⟩)
  ·rw[List.getElem?_take] at hj
   by_cases h:j<k
   ·rw[if_pos h] at hj
    exact⟨j,by omega,hj⟩
   ·rw[if_neg h] at hj
    cases hj
  ·rw[List.getElem?_drop] at hj
   exact⟨_,by omega,hj⟩
 ·rintro⟨j,hne,hj⟩
  by_cases h:j<k
  ·exact .inl ⟨j,by rw[List.getElem?_take,if_pos h]; exact hj⟩
  ·exact .inr ⟨j - (k+1),by rw[List.getElem?_drop,show k+1+(j - (k+1))=j by omega]; exact hj⟩
theorem oV(h:i<ls.length):gIx (lsD ls) (.int i)=some (bC (ls.getD i lnD)):=yG (by rw[dI,getD_some lnD h]; rfl)
def nms (ls:List Ln)(i:Nat):List aC:=fP (ls.getD i lnD).2
def rO (ls:List Ln)(L:List Nat)(k j:Nat):Prop:=∀ z∈nms ls k,z∈nms ls j \/ ∀ o∈L,o≠k->z∉nms ls o
instance (ls:List Ln)(L:List Nat)(k j:Nat):Decidable (rO ls L k j):=by unfold rO; infer_instance
def gC (ls:List Ln)(L:List Nat)(k j:Nat):Bool:=decide (j≠k)&&decide (rO ls L k j)
def kE (p:Nat×Nat):aA:=.tuple [.int p.1,.int p.2]
def oK:Option (Nat×Nat)->aA
 | none=>.none
 | some p=>kE p
def fI (ls:List Ln)(L:List Nat):Option (Nat×Nat):=L.findSome? fun k=>(L.find? (gC ls L k)).map fun j=>(k,j)
theorem nen (a b:Nat):gNe (.int a) (.int b)=some (.bool (decide (a≠b))):=by
 rw[ne_int]
 congr 2
 rw[nK]
 simp
 omega
theorem Hx(h:k∈L) : ∃ i:Nat,L[i]?=some k/\IC (lN L) (.int k)=some (.int i):=by
 have e1 : ∀ xs:List Nat,mS (xs.map fun(c:Nat)=>aQ c)=some (xs.map fun(c:Nat)=>(.inl (c:Int):aI)):=fun xs=>by
  induction xs with
  | nil=>rfl
  | cons x xs ih=>
   show((cL (.int (x:Int))).bind fun k=>(mS (xs.map fun(c:Nat)=>aQ c)).bind fun ks=>some (k::ks))=_
   rw[ih]
   rfl
 obtain⟨i,hi⟩ : ∃ i,atK (L.map fun(c:Nat)=>(.inl (c:Int):aI)) (.inl (k:Int))=some i:=by
  unfold atK
  cases e:(L.map fun(c:Nat)=>(.inl (c:Int):aI)).findIdx? fun y=>decide (y = .inl (k:Int)) with
  | some i=>exact⟨i,rfl⟩
  | none=>
   have:=List.findIdx?_eq_none_iff.mp e (.inl (k:Int)) (cY.mpr ⟨k,h,rfl⟩)
   simp at this
 refine⟨i,?_,?_⟩
 ·have:=(SH hi).1
  rw[dI] at this
  obtain⟨x,ex,e⟩:=nB.mp this
  have:x=k:=by
   have:(x:Int)=k:=by injection e
   omega
  rw[ex,this]
 ·show((mS (L.map fun(c:Nat)=>aQ c)).bind fun ks=>(cL (.int (k:Int))).bind fun k=>(atK ks k).bind fun j=>some (aQ j))=_
  rw[e1,cG]
  show((atK _ (.inl (k:Int))).bind fun j=>some (aQ j))=_
  rw[hi]
  rfl
theorem Zp(nd:L.Nodup)(h1:L[i]?=some k)(h2:L[j]?=some k):i=j:=by
 obtain⟨a1,a2⟩:=dR.mp h1
 obtain⟨b1,b2⟩:=dR.mp h2
 have pw:=c9.mp nd
 rcases Nat.lt_trichotomy i j with h | h | h
 ·exact absurd (a2.trans b2.symm) (pw i j a1 b1 h)
 ·exact h
 ·exact absurd (b2.trans a2.symm) (pw j i b1 a1 h)
theorem ZD {α:Type}(g:α->Bool) : ∀ xs:List α,rR (xs.map fun x=>mB (g x))=some (xs.map g)
 | []=>rfl
 | x::xs=>by
  show((rR (xs.map fun x=>mB (g x))).bind fun bs=>some (g x::bs))=_
  rw[ZD g xs]
  rfl
theorem Po(ho : ∀ l∈ls,gE l)(hL : ∀ o∈L,o<ls.length)(nd:L.Nodup)(hl:L.length≤50)(hk:k∈L):vR [lsD ls,lN L,.int k]=some (match L.find? (gC ls L k) with | some j=>.int j | none=>.none):=by
 have : ∃ d,vR [lsD ls,lN L,.int k]=some d/\d=(match L.find? (gC ls L k) with | some j=>.int j | none=>.none):=by
  refine eJ rfl ?_
  let sub:List Ln:=L.map fun j=>ls.getD j lnD
  obtain⟨i,hi,ei⟩:=Hx hk
  have hsub : ∀ l∈sub,gE l:=fun l m=>by
   obtain⟨j,mj,rfl⟩:=cY.mp m
   exact ho _ (getD_mem lnD (hL j mj))
  have hsi:sub[i]?=some (ls.getD k lnD):=by
   show(L.map fun j=>ls.getD j lnD)[i]?=_
   rw[dI,hi]
   rfl
  have es:=b5 hsub (by show(L.map _).length≤50; simpa using hl) hsi
  let W:List aC:=CO sub i (ls.getD k lnD)
  have lc:eLC [none,some 0] (iIt (aB 1)) (gB 0) dG (eOp gIx (aB 1) (aB 0)) (vS [s0 (lsD ls),s0 (lN L),s0 (.int k),none,none])=some (.list (sub.map bC)):=by
   have:=jH (cap:=[none,some 0]) (fi:=iIt (aB 1)) (T:=gB 0) (t:=dG) (f:=eOp gIx (aB 1) (aB 0)) (ρ:=vS [s0 (lsD ls),s0 (lN L),s0 (.int k),none,none]) (xs:=L) (q:=fun(j:Nat)=>aQ j) (fun _=>true) (fun j=>bC (ls.getD j lnD)) (gH rfl) (by omega) fun j mj=>⟨[some (.int j),some (lsD ls)],rfl,rfl,fun _=>aY (a:=lsD ls) (b:=.int j) rfl rfl (oV (hL j mj))⟩
   rw[this,mF.mpr (by simp)]
   show some (wO _)=some (wO ((L.map fun j=>ls.getD j lnD).map bC))
   rw[fD]
   rfl
  refine cQ (d:=lZ W) (bG (ds:=[.tuple (sub.map bC),.int i]) (bO (bG (bO lc rfl) rfl) (bO (aY (a:=lN L) (b:=.int k) rfl rfl ei) rfl)) es) (by simp) ?_
  have memW : ∀ z,z∈W↔z∈nms ls k /\ ∃ o∈L,o≠k/\z∈nms ls o:=fun z=>by
   show z∈(eE [ls.getD k lnD]).filter (fun z=>decide (z∈eE (lG sub i)))↔_
   rw[AZ,Ais]
   constructor
   ·rintro⟨⟨l,ml,hz⟩,h2⟩
    rw[bL.mp ml] at hz
    refine⟨hz,?_⟩
    obtain⟨l',ml',hz'⟩:=Ais.mp (of_decide_eq_true h2)
    obtain⟨j,hj,ej⟩:=Avm.mp ml'
    have ej:(L.map fun j=>ls.getD j lnD)[j]?=some l':=ej
    rw[dI] at ej
    obtain⟨o,eo,rfl⟩:=nB.mp ej
    refine⟨o,fK eo,fun q=>hj ?_,hz'⟩
    exact Zp nd (by rw[← q]; exact eo) hi
   ·rintro⟨hz,o,mo,ne,hz'⟩
    refine⟨⟨_,bL.mpr rfl,hz⟩,decide_eq_true (Ais.mpr ⟨ls.getD o lnD,Avm.mpr ?_,hz'⟩)⟩
    obtain⟨j,hj,ej⟩:=wX mo
    refine⟨j,fun q=>ne ?_,?_⟩
    ·obtain⟨b1,b2⟩:=dR.mp hi
     subst q
     rw[← ej,b2]
    ·show(L.map fun j=>ls.getD j lnD)[j]?=_
     rw[dI,jY hj,ej]
     rfl
  have hWl:W.length≤100:=by
   have h1:W.length≤(eE [ls.getD k lnD]).length:=NM _ _
   have h2:=DV (fP (ls.getD k lnD).2) []
   have h3:(fP (ls.getD k lnD).2).length≤(ls.getD k lnD).2.length:=NN _ _
   have h4:=(ho _ (getD_mem lnD (hL k hk))).1
   have e:eE [ls.getD k lnD]=(fP (ls.getD k lnD).2).foldl iG []:=by
    unfold eE oO
    simp
   rw[e] at h1
   simp only[Bx,wR] at h2
   omega
  let A:L2.Slot:=s0 (lsD ls)
  let B:L2.Slot:=s0 (lN L)
  let C:L2.Slot:=s0 (.int k)
  let E:L2.Slot:=s0 (lZ W)
  refine RG (fun ρ'=>∃ x4:L2.Slot,ρ'=[A,B,C,E,x4]) (L.findSome? fun j=>if gC ls L k j=true then some (.int j) else none) (ZC (xs:=L) (q:=fun(j:Nat)=>aQ j) (fun ρ'=>∃ x4:L2.Slot,ρ'=[A,B,C,E,x4]) _ (avS (gH rfl)) ⟨none,rfl⟩ ?_) ?_ ?_
  ·rintro j mj _ ⟨x4,rfl⟩
   refine⟨[A,B,C,E,s0 (.int j)],rfl,?_⟩
   have f1:eOp gNe (aB 4) (aB 2) (vS [A,B,C,E,s0 (.int j)])=some (.bool (decide (j≠k))):=aY (a:=.int j) (b:=.int k) rfl rfl (nen j k)
   have lc2:=jH (cap:=[none,some 0,some 4]) (fi:=iIt (aB 3)) (T:=gB 0) (t:=dG) (f:=eOp (gIn false) (aB 0) (eOp gIx (eOp gIx (aB 1) (aB 2)) (eC (.int 1)))) (ρ:=vS [A,B,C,E,s0 (.int j)]) (xs:=W) (q:=cI) (fun _=>true) (fun z=>.bool (decide (z∈nms ls j))) (gH rfl) (by omega) fun z mz=>⟨[some (.str z),some (lsD ls),some (.int j)],rfl,rfl,fun _=>aY (a:=.str z) (b:=tK (ls.getD j lnD).2) rfl (aY (aY (a:=lsD ls) (b:=.int j) rfl rfl (oV (hL j mj))) rfl rfl) (RK z _)⟩
   rw[mF.mpr (by simp)] at lc2
   have f2:aO xK (aH (eLC [none,some 0,some 4] (iIt (aB 3)) (gB 0) dG (eOp (gIn false) (aB 0) (eOp gIx (eOp gIx (aB 1) (aB 2)) (eC (.int 1))))) aN) (vS [A,B,C,E,s0 (.int j)])=some (.bool (decide (rO ls L k j))):=by
    refine bG (bO lc2 rfl) ?_
    show((rR (W.map fun z=>mB (decide (z∈nms ls j)))).bind fun bs=>some (mB (bs.all id)))=_
    rw[ZD,cG,List.all_map]
    congr 2
    rw[nK,fA,decide_eq_true_eq]
    constructor
    ·intro h z mz
     by_cases q : ∃ o∈L,o≠k/\z∈nms ls o
     ·exact .inl (of_decide_eq_true (h z ((memW z).mpr ⟨mz,q⟩)))
     ·exact .inr fun o mo ne hz=>q ⟨o,mo,ne,hz⟩
    ·intro h z mz
     obtain⟨h1,o,mo,ne,hz⟩:=(memW z).mp mz
     rcases h z h1 with q | q
     ·exact decide_eq_true q
     ·exact absurd hz (q o mo ne)
   have tb:bV .s (tW (bOf (eOp gNe (aB 4) (aB 2))) (bOf (aO xK (aH (eLC [none,some 0,some 4] (iIt (aB 3)) (gB 0) dG (eOp (gIn false) (aB 0) (eOp gIx (eOp gIx (aB 1) (aB 2)) (eC (.int 1))))) aN)))) [A,B,C,E,s0 (.int j)]=some (gC ls L k j):=by
    simp only[bV,tW,bOf,f1,f2,cG,asB]
    unfold gC
    cases decide (j≠k) <;> rfl
   cases hb:gC ls L k j with
   | true=>exact jQ (tb.trans (by rw[hb])) (dW (d:=.int j) rfl rfl)
   | false=>exact mQ (tb.trans (by rw[hb])) (qK ⟨_,.inl rfl,_,rfl⟩)
  ·intro r hr
   refine⟨_,rfl,?_⟩
   have : ∀ xs:List Nat,(xs.findSome? fun j=>if gC ls L k j=true then some (aQ j) else none)=(xs.find? (gC ls L k)).map fun(j:Nat)=>aQ j:=fun xs=>by
    induction xs with
    | nil=>rfl
    | cons x xs ih=>
     rw[iT,FJ]
     cases gC ls L k x with
     | true=>rfl
     | false=>exact ih
   rw[this] at hr
   obtain⟨j,e,rfl⟩:=nB.mp hr
   rw[e]
  ·rintro hz _ ⟨x4,rfl⟩
   refine dW (d:=.none) rfl ⟨_,rfl,?_⟩
   have : ∀ xs:List Nat,(xs.findSome? fun j=>if gC ls L k j=true then some (aQ j) else none)=(xs.find? (gC ls L k)).map fun(j:Nat)=>aQ j:=fun xs=>by
    induction xs with
    | nil=>rfl
    | cons x xs ih=>
     rw[iT,FJ]
     cases gC ls L k x with
     | true=>rfl
     | false=>exact ih
   rw[this] at hz
   rw[MX.mp hz]
 obtain⟨d,e,rfl⟩:=this
 exact e
theorem XA(ho : ∀ l∈ls,gE l)(hL : ∀ o∈L,o<ls.length)(nd:L.Nodup)(hl:L.length≤50):lQ [lsD ls,lN L]=some (oK (fI ls L)):=by
 have : ∃ d,lQ [lsD ls,lN L]=some d/\d=oK (fI ls L):=by
  refine eJ rfl ?_
  let A:L2.Slot:=s0 (lsD ls)
  let B:L2.Slot:=s0 (lN L)
  have key:(L.findSome? fun k=>((L.find? (gC ls L k)).map fun j=>kE (k,j)))=(fI ls L).map kE:=by
   unfold fI
   rw[List.map_findSome?]
   refine XT fun k _=>?_
   show _=Option.map kE ((L.find? (gC ls L k)).map fun j=>(k,j))
   rw[Option.map_map]
   rfl
  refine RG (fun ρ'=>∃ x2 x3:L2.Slot,ρ'=[A,B,x2,x3]) (L.findSome? fun k=>((L.find? (gC ls L k)).map fun j=>kE (k,j))) (ZC (xs:=L) (q:=fun(k:Nat)=>aQ k) (fun ρ'=>∃ x2 x3:L2.Slot,ρ'=[A,B,x2,x3]) _ (avS (gH rfl)) ⟨none,none,rfl⟩ ?_) ?_ ?_
  ·rintro k mk _ ⟨x2,x3,rfl⟩
   refine⟨[A,B,s0 (.int k),x3],rfl,?_⟩
   have ep:=Po ho hL nd hl mk
   cases hf:L.find? (gC ls L k) with
   | none=>
    rw[hf] at ep
    exact cQ (d:=.none) (bG (ds:=[lsD ls,lN L,.int k]) rfl ep) (by simp) (mQ rfl (qK ⟨_,.inl rfl,_,_,rfl⟩))
   | some j=>
    rw[hf] at ep
    exact cQ (d:=.int j) (bG (ds:=[lsD ls,lN L,.int k]) rfl ep) (by simp) (jQ rfl (dW (d:=kE (k,j)) rfl rfl))
  ·intro r hr
   rw[key] at hr
   obtain⟨p,e,rfl⟩:=nB.mp hr
   exact⟨_,rfl,by rw[e]; rfl⟩
  ·rintro hz _ ⟨x2,x3,rfl⟩
   rw[key] at hz
   exact dW (d:=.none) rfl ⟨_,rfl,by rw[MX.mp hz]; rfl⟩
 obtain⟨d,e,rfl⟩:=this
 exact e
def eGo (ls:List Ln):Nat->List Nat->List (Nat×Nat)×List Nat
 | 0,L=>([],L)
 | n+1,L=>match fI ls L with
  | none=>([],L)
  | some p=>(p::(eGo ls n (L.erase p.1)).1,(eGo ls n (L.erase p.1)).2)
theorem JS{p:Nat×Nat}(h:fI ls L=some p):p.1∈L/\p.2∈L:=by
 unfold fI at h
 obtain⟨k,mk,h⟩:=d6 h
 obtain⟨j,hj,rfl⟩:=nB.mp h
 exact⟨mk,Bu hj⟩
theorem ZJ : ∀ {n:Nat} {L:List Nat},L.length≤n->fI ls (eGo ls n L).2=none
 | 0,L,h=>by
  have:L=[]:=d4.mp (by omega)
  subst this
  rfl
 | n+1,L,h=>by
  unfold eGo
  cases hf:fI ls L with
  | none=>exact hf
  | some p=>
   refine ZJ ?_
   rw[By (JS hf).1]
   omega
theorem RN {ls:List Ln} : ∀ {n:Nat} {L:List Nat},(eGo ls n L).1.length≤n/\(eGo ls n L).2.length≤L.length
 | 0,L=>⟨by simp[eGo],bE _⟩
 | n+1,L=>by
  unfold eGo
  cases hf:fI ls L with
  | none=>exact⟨by simp,bE _⟩
  | some p=>
   obtain⟨h1,h2⟩:=RN (ls:=ls) (n:=n) (L:=L.erase p.1)
   have:=List.length_erase_le (a:=p.1) (l:=L)
   exact⟨by simp; omega,by show(eGo ls n (L.erase p.1)).2.length≤L.length; omega⟩
theorem Pn(h:k∈L) : ∃ i,atK (L.map fun(c:Nat)=>(.inl (c:Int):aI)) (.inl (k:Int))=some i/\L.eraseIdx i=L.erase k:=by
 induction L with
 | nil=>simp at h
 | cons x xs ih=>
  by_cases q:x=k
  ·subst q
   exact⟨0,by simp[atK,List.findIdx?_cons],by simp⟩
  ·have hm:k∈xs:=by
    rcases cU.mp h with e | m
    ·exact absurd e.symm q
    ·exact m
   obtain⟨i,e1,e2⟩:=ih hm
   refine⟨i+1,?_,?_⟩
   ·unfold atK at e1 ⊢
    rw[dF,List.findIdx?_cons]
    have:decide ((.inl (x:Int):aI) = .inl (k:Int))=false:=decide_eq_false fun e=>q (by
     have:(x:Int)=k:=by injection e
     omega)
    rw[this]
    simp only[rL,if_false]
    rw[e1]
    rfl
   ·rw[wZ,e2,NU (by simpa using q)]
theorem PY : ∀ xs:List Nat,mS (xs.map fun(c:Nat)=>aQ c)=some (xs.map fun(c:Nat)=>(.inl (c:Int):aI))
 | []=>rfl
 | x::xs=>by
  show((cL (.int (x:Int))).bind fun k=>(mS (xs.map fun(c:Nat)=>aQ c)).bind fun ks=>some (k::ks))=_
  rw[PY xs]
  rfl
theorem Hh {ρ:bA}(h:f (vS ρ)=some (.int k))(hg:getL i ρ=some (L.map fun(c:Nat)=>aQ c))(hk:k∈L)(kk:P (.nx (ρ.set i (some (1,lN (L.erase k)))))):Goes (pE i .s f) ρ P:=by
 obtain⟨j,e1,e2⟩:=Pn hk
 refine⟨_,?_,kk⟩
 have e0:eV 0 .s f ρ=some (.int k):=h
 unfold pE
 rw[e0,cG,hg,cG,PY,cG]
 show((atK _ (.inl (k:Int))).bind fun j=>some (Out.nx (ρ.set i (some (1,.list ((L.map fun(c:Nat)=>aQ c).eraseIdx j))))))=_
 rw[e1,cG]
 have:(L.map fun(c:Nat)=>aQ c).eraseIdx j=(L.erase k).map fun(c:Nat)=>aQ c:=by
  rw[← e2]
  have go : ∀ (xs:List Nat) (n:Nat),(xs.map fun(c:Nat)=>aQ c).eraseIdx n=(xs.eraseIdx n).map fun(c:Nat)=>aQ c:=by
   intro xs
   induction xs with
   | nil=>intro n; simp
   | cons x xs ih=>
    intro n
    cases n with
    | zero=>rfl
    | succ n=>rw[dF,wZ,wZ,dF,ih]
  exact go L j
 rw[this]
abbrev lP (ps:List (Nat×Nat)):aA:=.list (ps.map kE)
theorem UW (t:Option (Nat×Nat)):gD 0 (oK t)=true:=by cases t <;> rfl
theorem ZQ {ls:List Ln}(ho : ∀ l∈ls,gE l) : ∀ (n fuel:Nat) {L:List Nat} {ps:List (Nat×Nat)},L.length≤n->n<fuel->(∀ o∈L,o<ls.length)->L.Nodup->L.length≤50->ps.length+n≤100 ->
  ∃ x3,whD .s (bOf (eOp nO (aB 3) (eC .none))) (bB (jC 1 .s (aB 3)) (bB (pE 2 .s (eOp gIx (aB 3) (eC (.int 0)))) (bP 3 0 .a (aO lQ (aH (aB 0) (aH (aB 2) aN)))))) fuel [s0 (lsD ls),some (1,lP ps),some (1,lN L),s0 (oK (fI ls L))]
   = some (.nx [s0 (lsD ls),some (1,lP (ps++(eGo ls n L).1)),some (1,lN (eGo ls n L).2),x3])
 | n,0,L,ps,_,hf,_,_,_,_=>by omega
 | 0,fuel+1,L,ps,h0,_,_,_,_,_=>by
  have:L=[]:=d4.mp (by omega)
  subst this
  refine⟨s0 (oK (fI ls [])),?_⟩
  rw[show(eGo ls 0 []).1=[] from rfl,mG]
  rfl
 | n+1,fuel+1,L,ps,hn,hf,hL,nd,hl,hp=>by
  unfold eGo
  cases hfe:fI ls L with
  | none=>
   refine⟨s0 (oK none),?_⟩
   rw[mG]
   rfl
  | some p=>
   obtain⟨m1,m2⟩:=JS hfe
   have nd':(L.erase p.1).Nodup:=nd.erase p.1
   have hL' : ∀ o∈L.erase p.1,o<ls.length:=fun o m=>hL o (List.mem_of_mem_erase m)
   have hlen:(L.erase p.1).length≤n:=by rw[By m1]; omega
   have hlen2:(L.erase p.1).length≤50:=by rw[By m1]; omega
   obtain⟨x3,ih⟩:=ZQ ho n fuel (L:=L.erase p.1) (ps:=ps++[p]) hlen (by omega) hL' nd' hlen2 (by simp; omega)
   have body:Goes (bB (jC 1 .s (aB 3)) (bB (pE 2 .s (eOp gIx (aB 3) (eC (.int 0)))) (bP 3 0 .a (aO lQ (aH (aB 0) (aH (aB 2) aN)))))) [s0 (lsD ls),some (1,lP ps),some (1,lN L),s0 (kE p)]
     fun o=>o = .nx [s0 (lsD ls),some (1,lP (ps++[p])),some (1,lN (L.erase p.1)),s0 (oK (fI ls (L.erase p.1)))]:=by
    refine gG (fun ρ'=>ρ'=[s0 (lsD ls),some (1,lP (ps++[p])),some (1,lN L),s0 (kE p)]) (uP (d:=kE p) (ds:=ps.map kE) rfl rfl (by simp; omega) ⟨_,rfl,by simp⟩) ?_
    rintro _ rfl
    refine gG (fun ρ'=>ρ'=[s0 (lsD ls),some (1,lP (ps++[p])),some (1,lN (L.erase p.1)),s0 (kE p)]) (Hh (L:=L) (k:=p.1) rfl rfl m1 ⟨_,rfl,rfl⟩) ?_
    rintro _ rfl
    refine LQ (m:=.a) (d:=oK (fI ls (L.erase p.1))) ?_ (by simp) rfl
    exact evA (bG (ds:=[lsD ls,lN (L.erase p.1)]) rfl (XA ho hL' nd' hlen2)) (UW _)
   obtain⟨o,eo,rfl⟩:=body
   refine⟨x3,?_⟩
   show((bB (jC 1 .s (aB 3)) (bB (pE 2 .s (eOp gIx (aB 3) (eC (.int 0)))) (bP 3 0 .a (aO lQ (aH (aB 0) (aH (aB 2) aN))))) [s0 (lsD ls),some (1,lP ps),some (1,lN L),s0 (kE p)]).bind fun o=>match o with
    | .nx ρ'=>whD .s (bOf (eOp nO (aB 3) (eC .none))) (bB (jC 1 .s (aB 3)) (bB (pE 2 .s (eOp gIx (aB 3) (eC (.int 0)))) (bP 3 0 .a (aO lQ (aH (aB 0) (aH (aB 2) aN)))))) fuel ρ'
    | .ct ρ'=>whD .s (bOf (eOp nO (aB 3) (eC .none))) (bB (jC 1 .s (aB 3)) (bB (pE 2 .s (eOp gIx (aB 3) (eC (.int 0)))) (bP 3 0 .a (aO lQ (aH (aB 0) (aH (aB 2) aN)))))) fuel ρ'
    | .bk ρ'=>some (.nx ρ')
    | .rt d=>some (.rt d))=_
   rw[eo,cG]
   show whD .s _ _ fuel _=_
   rw[ih,Ci]
   rfl
def cO (ls:List Ln):List (Nat×Nat)×List Nat:=eGo ls ls.length (bR ls.length)
theorem Ah(ho : ∀ l∈ls,gE l)(hn:ls.length≤50):kF [lsD ls]=some (.tuple [lP (cO ls).1,lN (cO ls).2]):=by
 have : ∃ d,kF [lsD ls]=some d/\d = .tuple [lP (cO ls).1,lN (cO ls).2]:=by
  refine eJ rfl ?_
  refine cQ (d:=.list []) rfl (by simp) ?_
  refine cQ (d:=lN (bR ls.length)) (bG (ds:=[.int ls.length]) (bO (bG (ds:=[lsD ls]) rfl (by rw[uX,cV])) rfl) ?_) (by simp) ?_
  ·show(if -4096≤(ls.length:Int)/\(ls.length:Int)≤4096 then some (wO (L2.upTo (ls.length:Int).toNat)) else none)=_
   rw[if_pos ⟨by omega,by omega⟩]
   rfl
  have hL : ∀ o∈bR ls.length,o<ls.length:=fun o m=>lC.mp m
  have nd:(bR ls.length).Nodup:=rF
  have hl:(bR ls.length).length≤50:=by simpa using hn
  refine Lp (d:=oK (fI ls (bR ls.length))) (bG (ds:=[lsD ls,lN (bR ls.length)]) rfl (XA ho hL nd hl)) (UW _) (by simp) ?_
  obtain⟨x3,e⟩:=ZQ ho ls.length 100 (L:=bR ls.length) (ps:=[]) (by simp) (by omega) hL nd hl (by simp; omega)
  refine jG e ?_
  exact⟨_,rfl,_,rfl,rfl⟩
 obtain⟨d,e,rfl⟩:=this
 exact e
theorem Yn{p:Nat×Nat}(h:fI ls L=some p):p.2≠p.1/\rO ls L p.1 p.2:=by
 unfold fI at h
 obtain⟨k,mk,h⟩:=d6 h
 obtain⟨j,hj,rfl⟩:=nB.mp h
 have:=List.find?_some hj
 unfold gC at this
 obtain⟨h1,h2⟩:=iU.mp this
 exact⟨of_decide_eq_true h1,of_decide_eq_true h2⟩
theorem Aft:z∈fP ks↔(.inr z:aI)∈ks:=by
 unfold fP
 rw[FG]
 constructor
 ·rintro⟨k,m,e⟩
  cases k with
  | inl i=>cases e
  | inr y=>cases e; exact m
 ·exact fun m=>⟨_,m,rfl⟩
def lsF (ls:List Ln):Nat->List aI:=fun k=>(ls.getD k lnD).2
theorem RM : ∀ {n:Nat} {L:List Nat},L.Nodup->xZ (lsF ls) (fun k=>k∈L) (eGo ls n L).1 (fun k=>k∈(eGo ls n L).2)
 | 0,L,_=>fun k=>Iff.rfl
 | n+1,L,nd=>by
  cases h:fI ls L with
  | none=>
   have e:eGo ls (n+1) L=([],L):=by
    show(match fI ls L with | none=>([],L) | some p=>(p::(eGo ls n (L.erase p.1)).1,(eGo ls n (L.erase p.1)).2))=_
    rw[h]
   rw[e]
   exact fun k=>Iff.rfl
  | some p=>
   have e:eGo ls (n+1) L=(p::(eGo ls n (L.erase p.1)).1,(eGo ls n (L.erase p.1)).2):=by
    show(match fI ls L with | none=>([],L) | some p=>(p::(eGo ls n (L.erase p.1)).1,(eGo ls n (L.erase p.1)).2))=_
    rw[h]
   rw[e]
   obtain⟨m1,m2⟩:=JS h
   obtain⟨ne,cov⟩:=Yn h
   refine⟨⟨m1,m2,eZ ne,fun z mz k hk hne mzk=>?_⟩,?_⟩
   ·rcases cov z (Aft.mpr mz) with c | c
    ·exact Aft.mp c
    ·exact absurd (Aft.mpr mzk) (c k hk hne)
   ·have e2:less (fun k=>k∈L) p.1=fun k=>k∈L.erase p.1:=funext fun k=>propext (by rw[nd.mem_erase_iff]; exact And.comm)
    rw[e2]
    exact RM (nd.erase _)
theorem ID (ls:List Ln):xZ (lsF ls) (fun k=>k<ls.length) (cO ls).1 (fun k=>k∈(cO ls).2):=by
 have:=RM (ls:=ls) (n:=ls.length) (L:=bR ls.length) rF
 have e:(fun k=>k∈bR ls.length)=fun k=>k<ls.length:=funext fun k=>propext lC
 rw[e] at this
 exact this
theorem HY (T:aA)(ks:List aI)(row:List Int)(kn:List (aC×Int))(hk:ks.length≤100)(hn:kn.length≤100):mN [.tuple [T,tK ks],tI row,.dict (DN kn)]=some (tZ (eK ks row kn)):=by
 have : ∃ d,mN [.tuple [T,tK ks],tI row,.dict (DN kn)]=some d/\d=tZ (eK ks row kn):=by
  refine eJ rfl ?_
  have e1:bV .s (bOf (eOp gNe (aO dS (aH (aB 1) aN)) (aO dS (aH (eOp gIx (aB 0) (eC (.int 1))) aN)))) [some (0,.tuple [T,tK ks]),some (0,tI row),some (0,.dict (DN kn)),none,none,none,none]=some (decide (row.length≠ks.length)):=gR (Js (ks:=ks) (row:=row) rfl rfl)
  by_cases hl:row.length=ks.length
  ·refine jG (rX (e1.trans (by simp[hl]))) ?_
   refine cQ (n:=1) (d:=.dict (DN kn)) (bG (ds:=[.dict (DN kn)]) rfl (by show(if plK (DN kn)=true then some (MW (DN kn)) else none)=_; rw[plN]; rfl)) (by simp) ?_
   have lz:(ks.zip row).length≤100:=by rw[BA]; omega
   refine Mn (fun kn' ρ'=>∃ x4 x5 x6:L2.Slot,ρ'=[some (0,.tuple [T,tK ks]),some (0,tI row),some (0,.dict (DN kn)),some (1,.dict (DN kn')),x4,x5,x6]) .none (fO gS kn (ks.zip row)) (Lv (xs:=ks.zip row) (q:=QC) (b0:=kn) gS _ .none (avS ?_) ⟨none,none,none,rfl⟩ ?_) ?_ ?_
   ·show iZ (aH (eOp gIx (aB 0) (eC (.int 1))) (aH (aB 1) aN)) (vS [some (0,.tuple [T,tK ks]),some (0,tI row),some (0,.dict (DN kn)),some (1,.dict (DN kn)),none,none,none])=_
    unfold iZ
    rw[show aH (eOp gIx (aB 0) (eC (.int 1))) (aH (aB 1) aN) (vS [some (0,.tuple [T,tK ks]),some (0,tI row),some (0,.dict (DN kn)),some (1,.dict (DN kn)),none,none,none])=some [tK ks,tI row] from rfl,← Xe]
    rfl
   ·rintro pre p post kn' _ hpre hf ⟨x4,x5,x6,rfl⟩
    have hle:kn'.length≤1000:=by
     have h1:=JI hf
     have h2:pre.length≤(ks.zip row).length:=by rw[hpre]; simp
     omega
    exact⟨[some (0,.tuple [T,tK ks]),some (0,tI row),some (0,.dict (DN kn)),some (1,.dict (DN kn')),some (0,kD p.1),some (0,.int p.2),x6],rfl,Zt _ _ _ kn' hle p x6⟩
   ·intro hf
    refine⟨_,rfl,?_⟩
    unfold eK
    rw[if_pos hl,hf]
    rfl
   ·rintro kn' hf _ ⟨x4,x5,x6,rfl⟩
    refine⟨_,rfl,_,rfl,?_⟩
    unfold eK
    rw[if_pos hl,hf]
    rfl
  ·refine yI (jQ (e1.trans (by simp[hl])) (dW (d:=.none) rfl ⟨_,rfl,_,rfl,?_⟩))
   unfold eK
   rw[if_neg hl]
   rfl
 obtain⟨d,e,rfl⟩:=this
 exact e
theorem UP(b:Bk kds B wd)(t:aC)(K:aA):lO [.dict kds,.tuple [.str t,K]]=some (bS (B t)):=by
 have : ∃ d,lO [.dict kds,.tuple [.str t,K]]=some d/\d=bS (B t):=by
  refine eJ rfl (dW (d:=bS (B t)) (b.get (t:=t) rfl rfl) ⟨_,rfl,rfl⟩)
 obtain⟨d,e,rfl⟩:=this
 exact e
abbrev Kn:=List (aC×Int)
def knD (kn:Kn):aA:=.dict (DN kn)
def gA (kns:List Kn)(ks:List aI)(rows:List (List Int)):List Kn:=kns.flatMap fun kn=>rows.filterMap fun r=>eK ks r kn
theorem JB {α:Type}(f:α->Option β) : ∀ (xs:List α) (acc:List β),xs.foldl (fun a x=>a++(f x).toList) acc=acc++xs.filterMap f
 | [],acc=>by simp
 | x::xs,acc=>by
  rw[pR,JB f xs,FK]
  cases f x <;> simp
theorem VO {α:Type}(f:α->List β) : ∀ (xs:List α) (acc:List β),xs.foldl (fun a x=>a++f x) acc=acc++xs.flatMap f
 | [],acc=>by simp
 | x::xs,acc=>by
  rw[pR,VO f xs,Cd,Ci]
def cE (R:List (List Int))(c:List Int->Nat):List (aA×aA):=R.map fun r=>(bJ r,.int (c r))
def cD (R:List (List Int))(c:List Int->Nat):aA:=.dict ((.none,.none)::cE R c)
theorem Wm (r:List Int):mJ (bJ r)=true:=by
 show((r.map aQ).all _)=true
 exact fA.mpr fun d m=>by
  obtain⟨i,_,rfl⟩:=cY.mp m
  rfl
theorem RC (R:List (List Int))(c:List Int->Nat):((cE R c).all fun kd=>mJ kd.1)=true:=fA.mpr fun kd m=>by
 obtain⟨r,_,rfl⟩:=cY.mp m
 exact Wm r
theorem Lr (h:f ρ=some (cD R c)):iKR f ρ=some (R.map bJ):=by
 unfold iKR
 rw[h]
 show(if ((cE R c).all fun kd=>mJ kd.1)=true then some ((cE R c).map (·.1)) else none)=_
 rw[if_pos (RC R c)]
 unfold cE
 rw[fD]
 rfl
theorem SZ (h:f ρ=some (cD R c)):iDR f ρ=some (R.map fun r=>eI [bJ r,.int (c r)]):=by
 unfold iDR
 rw[h]
 show(if ((cE R c).all fun kd=>mJ kd.1)=true then some ((cE R c).map fun kd=>eI [kd.1,kd.2]) else none)=_
 rw[if_pos (RC R c)]
 unfold cE
 rw[fD]
 rfl
theorem Sa (t:aC)(ks:List aI)(rows:List (List Int))(kns:List Kn)(hk:ks.length≤100)(hn : ∀ kn∈kns,kn.length≤100)(hm:kns.length*rows.length≤90000)(c:List Int->Nat) :
  vW [.list (kns.map knD),bC (t,ks),cD rows c]=some (.list ((gA kns ks rows).map knD)):=by
 have : ∃ d,vW [.list (kns.map knD),bC (t,ks),cD rows c]=some d/\d = .list ((gA kns ks rows).map knD):=by
  refine eJ rfl ?_
  refine cQ (n:=1) (d:=.list []) rfl (by simp) ?_
  let A:List L2.Slot:=[s0 (.list (kns.map knD)),s0 (bC (t,ks)),s0 (cD rows c)]
  refine gG (fun ρ'=>∃ x4 x5 x6:L2.Slot,ρ'=A++[some (1,.list ((gA kns ks rows).map knD)),x4,x5,x6]) ?_ ?_
  ·refine jJ (xs:=kns) (q:=knD) (b0:=[]) (fun acc kn=>acc++rows.filterMap fun r=>eK ks r kn) (fun i acc ρ'=>∃ x4 x5 x6:L2.Slot,acc.length≤i*rows.length/\ρ'=A++[some (1,.list (acc.map knD)),x4,x5,x6]) (avS (gH rfl)) ⟨none,none,none,eR _,rfl⟩ ?_ ?_
   ·rintro i kn acc _ hx ⟨x4,x5,x6,ha,rfl⟩
    have hi:i<kns.length:=(dR.mp hx).1
    have hkn:=hn kn (fK hx)
    have hle:(i+1)*rows.length≤90000:=eO (Nat.mul_le_mul_right _ hi) hm
    have hs:(i+1)*rows.length=i*rows.length+rows.length:=NA _ _
    refine⟨A++[some (1,.list (acc.map knD)),s0 (knD kn),x5,x6],rfl,?_⟩
    refine jJ (xs:=rows) (q:=bJ) (b0:=acc) (fun acc r=>acc++(eK ks r kn).toList) (fun j acc' ρ'=>∃ x5 x6:L2.Slot,acc'.length≤acc.length+j/\ρ'=A++[some (1,.list (acc'.map knD)),s0 (knD kn),x5,x6]) (avS (Lr (c:=c) rfl)) ⟨x5,x6,bE _,rfl⟩ ?_ ?_
    ·rintro j r acc' _ hr ⟨x5,x6,ha',rfl⟩
     have hj:j<rows.length:=(dR.mp hr).1
     refine⟨A++[some (1,.list (acc'.map knD)),s0 (knD kn),s0 (bJ r),x6],rfl,?_⟩
     have hf:=HY (.str t) ks r kn hk hkn
     refine cQ (d:=tZ (eK ks r kn)) (bG (ds:=[.tuple [.str t,tK ks],tI r,.dict (DN kn)]) rfl hf) (by simp[A]) ?_
     cases hfa:eK ks r kn with
     | none=>exact mQ (gR (aY (a:=tZ none) (b:=.none) rfl rfl rfl)) (qK ⟨_,.inl rfl,_,_,by simpa using(by omega:acc'.length≤acc.length+(j+1)),by rw[Option.toList_none,mG]; rfl⟩)
     | some kn'=>
      refine jQ (gR (aY (a:=tZ (some kn')) (b:=.none) rfl rfl rfl)) (uP (d:=knD kn') (ds:=acc'.map knD) rfl rfl (by simp; omega) ⟨_,.inl rfl,_,_,by simp; omega,by rw[Option.toList_some,iS]; rfl⟩)
    ·rintro _ ⟨x5,x6,ha',rfl⟩
     refine⟨_,.inl rfl,_,_,_,?_,by rw[JB]⟩
     rw[JB] at ha'
     omega
   ·rintro _ ⟨x4,x5,x6,ha,rfl⟩
    rw[VO]
    exact⟨_,rfl,_,_,_,rfl⟩
  rintro _ ⟨x4,x5,x6,rfl⟩
  exact HI rfl ⟨_,rfl,rfl⟩
 obtain⟨d,e,rfl⟩:=this
 exact e
def mK (B:aC->List (List Int)):List Ln->Nat
 | []=>1
 | l::r=>max 1 (B l.1).length*mK B r
theorem TV (B:aC->List (List Int)) : ∀ (ls:List Ln) (a:Int),ls.foldl (fun a l=>a*((max 1 (B l.1).length:Nat):Int)) a=a*(mK B ls:Int)
 | [],a=>by simp[mK]
 | l::r,a=>by
  rw[pR,TV B r]
  show _=a*((max 1 (B l.1).length*mK B r:Nat):Int)
  rw[Int.natCast_mul,Int.mul_assoc]
theorem PJ (ds:List aA):dS [.list ds]=some (.int ds.length):=by simp[dS]
theorem Px(hB : ∀ t,(B t).length<64)(ls:List Ln):sU [.list (ls.map fun l=>bS (B l.1))]=some (.int (mK B ls)):=by
 have : ∃ d,sU [.list (ls.map fun l=>bS (B l.1))]=some d/\d = .int (mK B ls):=by
  refine eJ rfl ?_
  refine cQ (d:=.int 1) rfl (by simp) ?_
  refine gG (fun ρ'=>∃ x3:L2.Slot,ρ'=[s0 (.list (ls.map fun l=>bS (B l.1))),s0 (.int (mK B ls)),x3]) ?_ ?_
  ·refine jJ (xs:=ls) (q:=fun l=>bS (B l.1)) (b0:=(1:Int)) (fun a l=>a*((max 1 (B l.1).length:Nat):Int)) (fun i a ρ'=>∃ x3:L2.Slot,ρ'=[s0 (.list (ls.map fun l=>bS (B l.1))),s0 (.int a),x3]) (avS (gH rfl)) ⟨none,rfl⟩ ?_ ?_
   ·rintro i l a _ hx ⟨x3,rfl⟩
    refine⟨[s0 (.list (ls.map fun l=>bS (B l.1))),s0 (.int a),s0 (bS (B l.1))],rfl,?_⟩
    have h64:=hB l.1
    generalize hr:B l.1=R at h64 ⊢
    have em:BR [.int 1,.int (R.map bJ).length]=some (.int ((max 1 R.length:Nat):Int)):=by
     show some (aQ (if ((R.map bJ).length:Int) > 1 then((R.map bJ).length:Int) else 1))=_
     rw[cV]
     congr 2
     split <;> omega
    have hf:(((max 1 R.length:Nat):Int)).natAbs<2 ^ 64:=by omega
    exact nQ (d:=.int (a*((max 1 R.length:Nat):Int))) (aY (a:=.int a) (b:=.int ((max 1 R.length:Nat):Int)) rfl (bG (ds:=[.int 1,.int (R.map bJ).length]) (bO rfl (bO (bG (ds:=[bS R]) rfl (PJ _)) rfl)) em) (mul_r hf)) (by simp) ⟨_,.inl rfl,_,rfl⟩
   ·rintro _ ⟨x3,rfl⟩
    rw[TV,Int.one_mul]
    exact⟨_,rfl,x3,rfl⟩
  rintro _ ⟨x3,rfl⟩
  exact dW rfl ⟨_,rfl,rfl⟩
 obtain⟨d,e,rfl⟩:=this
 exact e
theorem Mv(b:Bk kds B wd)(ls:List Ln)(hl:ls.length≤1000)(e1:ρ[0]?.join=some (.dict kds))(e2:ρ[1]?.join=some (.tuple (ls.map bC))) :
  eLC [none,some 0] (iIt (aB 1)) (gB 0) dG (aO lO (aH (aB 1) (aH (aB 0) aN))) ρ=some (.list (ls.map fun l=>bS (B l.1))):=by
 have e:=YC (cap:=[none,some 0]) (fi:=iIt (aB 1)) (T:=gB 0) (t:=dG) (f:=aO lO (aH (aB 1) (aH (aB 0) aN))) (ρ:=ρ) (ds:=ls.map bC) (fun d=>match d with | .tuple [.str t,_]=>bS (B t) | d=>d) (yC e2) (by rw[cV]; omega) (fun d m=>by
  obtain⟨l,_,rfl⟩:=cY.mp m
  refine⟨[some (bC l),some (.dict kds)],?_,rfl,bG (ds:=[.dict kds,bC l]) rfl (UP b l.1 _)⟩
  show some ((kM [none,some 0] ρ).set 0 (some (bC l)))=_
  simp[kM,e1])
 rw[e,fD]
 rfl
theorem Ot(b:Bk kds B wd)(ls:List Ln)(hl:ls.length≤1000)(hw:mK B ls≤4096):vZ [.dict kds,.tuple (ls.map bC)]=some .none:=by
 have e1:vY [.list (ls.map fun l=>bS (B l.1))]=some .none:=by
  have c:bV .s (bOf (eOp gGt (aO sU (aH (aB 0) aN)) (eC (.int 4096)))) [s0 (.list (ls.map fun l=>bS (B l.1)))]=some false:=gR (aY (a:=.int (mK B ls)) (b:=.int 4096) (bG (ds:=[.list (ls.map fun l=>bS (B l.1))]) rfl (Px b.few ls)) rfl (by
   show some (mB (decide ((mK B ls:Int) > 4096)))=_
   rw[decide_eq_false (by omega)]))
  show outD (LH [s0 (.list (ls.map fun l=>bS (B l.1)))])=_
  unfold LH
  rw[rX c]
  rfl
 show outD (LG [s0 (.dict kds),s0 (.tuple (ls.map bC))])=_
 have e2:eV 0 .s (aO vY (aH (eLC [none,some 0] (iIt (aB 1)) (gB 0) dG (aO lO (aH (aB 1) (aH (aB 0) aN)))) aN)) [s0 (.dict kds),s0 (.tuple (ls.map bC))]=some .none:=
  bG (bO (Mv b ls hl rfl rfl) rfl) e1
 unfold LG qA
 rw[e2]
 rfl
theorem Lb (kns:List Kn)(ks:List aI)(rows:List (List Int)):(gA kns ks rows).length≤kns.length*rows.length:=by
 unfold gA
 induction kns with
 | nil=>simp
 | cons kn r ih=>
  rw[Cd,pQ,fL,NA]
  have:=NN (fun r=>eK ks r kn) rows
  omega
theorem Nq{kn kn':Kn}(h:eK ks r kn=some kn'):kn'.length≤kn.length+ks.length:=by
 unfold eK at h
 obtain⟨h1,h2⟩:=ZT h
 have:=JI h2
 rw[BA] at this
 omega
def rowOf (zs:List aC)(kn:Kn):List Int:=zs.map fun z=>(cS kn z).getD 0
theorem Zc{kn:Kn}(hl:zs.length≤1000)(h : ∀ z∈zs,∃ v,cS kn z=some v):nU [.list (zs.map cI),knD kn]=some (bJ (rowOf zs kn)):=by
 have : ∃ d,nU [.list (zs.map cI),knD kn]=some d/\d=bJ (rowOf zs kn):=by
  refine eJ rfl ?_
  have e:=YC (cap:=[none,some 1]) (fi:=iIt (aB 0)) (T:=gB 0) (t:=dG) (f:=gX (aB 1) (aB 0) (aB 0)) (ρ:=vS [s0 (.list (zs.map cI)),s0 (knD kn)]) (ds:=zs.map cI) (fun d=>match d with | .str z=>.int ((cS kn z).getD 0) | d=>d) (gH rfl) (by rw[cV]; omega) (fun d m=>by
   obtain⟨z,mz,rfl⟩:=cY.mp m
   obtain⟨v,hv⟩:=h z mz
   refine⟨[some (.str z),some (knD kn)],rfl,rfl,?_⟩
   have:=yB (fd:=aB 1) (fk:=aB 0) (fx:=aB 0) (ρ:=[some (.str z),some (knD kn)]) (kds:=DN kn) (kd:=.str z) (x:=.str z) (key:=.inr z) rfl rfl rfl rfl (plN kn)
   rw[this,CS]
   show _=some (aQ ((cS kn z).getD 0))
   rw[hv]
   rfl)
  rw[fD] at e
  have e':zs.map ((fun d=>match d with | .str z=>aQ ((cS kn z).getD 0) | d=>d)∘cI)=(rowOf zs kn).map aQ:=by
   unfold rowOf
   rw[fD]
   rfl
  rw[e'] at e
  exact dW (d:=bJ (rowOf zs kn)) (bG (bO e rfl) rfl) ⟨_,rfl,rfl⟩
 obtain⟨d,e,rfl⟩:=this
 exact e
def cmL (a b:Ln):List aC:=(eE [a]).filter fun z=>decide (z∈fP b.2)
theorem A1v:z∈cmL a b↔(.inr z:aI)∈a.2/\(.inr z:aI)∈b.2:=by
 unfold cmL
 rw[AZ,Ais,decide_eq_true_eq,Aft]
 refine and_congr_left fun _=>?_
 constructor
 ·rintro⟨l,m,h⟩
  rw[bL.mp m] at h
  exact Aft.mp h
 ·exact fun h=>⟨a,bL.mpr rfl,Aft.mpr h⟩
theorem WD(h:gE l):(eE [l]).length≤6:=by
 have h1:=DV (fP l.2) []
 have h2:(fP l.2).length≤l.2.length:=NN _ _
 have h3:=h.1
 have e:eE [l]=(fP l.2).foldl iG []:=by
  unfold eE oO
  simp
 rw[e]
 simp at h1
 omega
theorem Je(h:gE a):(cmL a b).length≤6:=eO (NM _ _) (WD h)
theorem Zo(ha:gE a):vF [bC a,bC b]=some (.list ((cmL a b).map cI)):=by
 have el:=IT (ls:=[a]) (fun x m=>by rw[bL.mp m]; exact ha) (by simp)
 have : ∃ d,vF [bC a,bC b]=some d/\d = .list ((cmL a b).map cI):=by
  refine eJ rfl ?_
  refine dW (d:=.list ((cmL a b).map cI)) ?_ ⟨_,rfl,rfl⟩
  refine jH (xs:=eE [a]) (q:=cI) (fun z=>decide (z∈fP b.2)) cI (gH (bG (ds:=[.tuple ([a].map bC)]) (bO (mP rfl) rfl) el)) (eO (WD ha) (by decide)) fun z _=>?_
  refine⟨[some (.str z),some (bC b)],rfl,?_,fun _=>rfl⟩
  exact gR (aY (a:=.str z) (b:=.tuple (b.2.map kD)) rfl rfl (RK z b.2))
 obtain⟨d,e,rfl⟩:=this
 exact e
theorem YF(h6:l.2.length≤6)(hz : ∀ z∈zs,(.inr z:aI)∈l.2)(hl:zs.length≤1000)(hr : ∃ v,r=l.2.map (tv v)):oY [bC l,tI r,.list (zs.map cI)]=some (bJ (cP l.2 zs r)):=by
 obtain⟨v,rfl⟩:=hr
 obtain⟨kn,ef,hk⟩:=LO l.2 v
 have e1:=HY (.str l.1) l.2 (l.2.map (tv v)) [] (by omega) (by simp)
 rw[ef] at e1
 have e2:=Zc (zs:=zs) (kn:=kn) hl fun z m=>⟨_,hk z (hz z m)⟩
 have e3:rowOf zs kn=cP l.2 zs (l.2.map (tv v)):=by
  rw[yK hz]
  exact oF fun z m=>by rw[hk z (hz z m)]; rfl
 have : ∃ d,oY [bC l,tI (l.2.map (tv v)),.list (zs.map cI)]=some d/\d=bJ (cP l.2 zs (l.2.map (tv v))):=by
  refine eJ rfl ?_
  refine dW (d:=bJ (cP l.2 zs (l.2.map (tv v)))) (bG (ds:=[.list (zs.map cI),knD kn]) (bO rfl (bO (bG (ds:=[bC l,tI (l.2.map (tv v)),.dict []]) rfl e1) rfl)) (by rw[← e3]; exact e2)) ⟨_,rfl,rfl⟩
 obtain⟨d,e,rfl⟩:=this
 exact e
theorem IY {a b:List Int}(h:a.map aQ=b.map aQ):a=b:=by
 have:=congrArg (FH asI) h
 rwa [uR,uR] at this
abbrev LR:=Ln×List (List Int)
def fZ:List LR->Nat
 | []=>1
 | p::r=>max 1 p.2.length*fZ r
theorem RY : ∀ ps,1≤fZ ps
 | []=>bE _
 | p::r=>NC (Nat.le_max_left 1 p.2.length) (RY r)
theorem IL : ∀ xs ys,fZ (xs++ys)=fZ xs*fZ ys
 | [],ys=>(AV _).symm
 | p::r,ys=>by
  show max 1 p.2.length*fZ (r++ys)=max 1 p.2.length*fZ r*fZ ys
  rw[IL r ys,NF]
theorem UN (ps:List LR)(i:Nat):fZ (ps.take i)≤fZ ps:=by
 have e:fZ ps=fZ (ps.take i)*fZ (ps.drop i):=by rw[← IL,List.take_append_drop]
 rw[e]
 exact Nat.le_mul_of_pos_right _ (RY _)
def kO (ps:List LR):List Kn:=ps.foldl (fun kns p=>gA kns p.1.2 p.2) [[]]
theorem An {α:Type}(f g:α->aA) : ∀ ps:List α,wV pairD (ps.map f) (ps.map g)=ps.map fun p=>pairD (f p) (g p)
 | []=>rfl
 | p::r=>by
  rw[dF,dF,List.zipWith_cons_cons,An f g r,dF]
theorem Pw (K:List Nat)(l:Nat->Ln)(R:Nat->List (List Int))(c:Nat->List Int->Nat)(hl:K.length≤16)(h6 : ∀ k∈K,(l k).2.length≤6)(hw:fZ (K.map fun k=>(l k,R k))≤4096) :
  vG [.tuple (K.map fun k=>bC (l k)),.list (K.map fun k=>cD (R k) (c k))]=some (.list ((kO (K.map fun k=>(l k,R k))).map knD))/\(kO (K.map fun k=>(l k,R k))).length≤4096:=by
 have hG:kO (K.map fun k=>(l k,R k))=K.foldl (fun kns k=>gA kns (l k).2 (R k)) [[]]:=by
  unfold kO
  rw[List.foldl_map]
 rw[hG]
 have : ∃ d,vG [.tuple (K.map fun k=>bC (l k)),.list (K.map fun k=>cD (R k) (c k))]=some d/\d = .list ((K.foldl (fun kns k=>gA kns (l k).2 (R k)) [[]]).map knD)/\(K.foldl (fun kns k=>gA kns (l k).2 (R k)) [[]]).length≤4096:=by
  refine eJ rfl ?_
  refine cQ (d:=.list ([[]].map knD)) (HA (ds:=[.dict []]) rfl) (by simp) ?_
  let A:List L2.Slot:=[s0 (.tuple (K.map fun k=>bC (l k))),s0 (.list (K.map fun k=>cD (R k) (c k)))]
  refine gG (fun ρ'=>∃ x3 x4:L2.Slot,(K.foldl (fun kns k=>gA kns (l k).2 (R k)) [[]]).length≤4096/\ρ'=A++[s0 (.list ((K.foldl (fun kns k=>gA kns (l k).2 (R k)) [[]]).map knD)),x3,x4]) ?_ ?_
  ·refine jJ (xs:=K) (q:=fun k=>pairD (bC (l k)) (cD (R k) (c k))) (b0:=[[]]) (fun kns k=>gA kns (l k).2 (R k)) (fun i kns ρ'=>∃ x3 x4:L2.Slot,kns.length≤fZ ((K.map fun k=>(l k,R k)).take i)/\(∀ kn∈kns,kn.length≤6*i)/\ρ'=A++[s0 (.list (kns.map knD)),x3,x4]) (avS ?_) ⟨none,none,bE _,fun kn m=>by rw[bL.mp m]; simp,rfl⟩ ?_ ?_
   ·rw[← An]
    exact Et rfl rfl rfl
   ·rintro i k kns _ hx ⟨x3,x4,hk,hkn,rfl⟩
    have hi:i<K.length:=(dR.mp hx).1
    have h6':=h6 k (fK hx)
    have ht:(K.map fun k=>(l k,R k)).take (i+1)=(K.map fun k=>(l k,R k)).take i++[(l k,R k)]:=by rw[NI,dI,hx]; rfl
    have hway:fZ ((K.map fun k=>(l k,R k)).take (i+1))=fZ ((K.map fun k=>(l k,R k)).take i)*max 1 (R k).length:=by
     rw[ht,IL]
     show _*(max 1 (R k).length*1)=_
     rw[FD]
    have hm:kns.length*(R k).length≤fZ ((K.map fun k=>(l k,R k)).take (i+1)):=by
     rw[hway]
     exact NC hk (Nat.le_max_right _ _)
    have hle:=UN (K.map fun k=>(l k,R k)) (i+1)
    refine⟨A++[s0 (.list (kns.map knD)),s0 (bC (l k)),s0 (cD (R k) (c k))],rfl,?_⟩
    refine nQ (d:=.list ((gA kns (l k).2 (R k)).map knD)) (bG (ds:=[.list (kns.map knD),bC ((l k).1,(l k).2),cD (R k) (c k)]) rfl (Sa (l k).1 (l k).2 (R k) kns (by omega) (fun kn m=>by have:=hkn kn m; omega) (by omega) (c k))) (by simp[A]) ⟨_,.inl rfl,_,_,eO (Lb _ _ _) hm,fun kn' m=>?_,rfl⟩
    obtain⟨kn,mk,m⟩:=NJ.mp m
    obtain⟨r,_,e⟩:=FG.mp m
    have:=Nq e
    have:=hkn kn mk
    omega
   ·rintro _ ⟨x3,x4,h1,h2,rfl⟩
    exact⟨_,rfl,_,_,eO h1 (eO (UN _ _) hw),rfl⟩
  rintro _ ⟨x3,x4,h1,rfl⟩
  exact dW rfl ⟨_,rfl,rfl,h1⟩
 obtain⟨d,e,rfl,h1⟩:=this
 exact⟨e,h1⟩
def fM (kn:Kn):aC->Int:=fun z=>(cS kn z).getD 0
def tT (kn:Kn)(v:aC->Int)(ks:List aI):Prop:=∀ z,(.inr z:aI)∈ks->cS kn z=some (v z)
theorem LA{kn kn':Kn}(h:eK ks r kn=some kn'):r.length=ks.length/\(∀ z u,cS kn z=some u->cS kn' z=some u) /\ ∀ p∈ks.zip r,(∀ i,p.1 = .inl i->p.2=i) /\ ∀ z,p.1 = .inr z->cS kn' z=some p.2:=by
 unfold eK at h
 obtain⟨h1,h2⟩:=ZT h
 obtain⟨a,b,_⟩:=vI h2
 exact⟨h1,a,b⟩
theorem SK{kn kn':Kn}(h:eK ks r kn=some kn'):r=ks.map (tv (fM kn'))/\tT kn' (fM kn') ks:=by
 obtain⟨hl,_,b⟩:=LA h
 have key : ∀ j (hj:j<ks.length) (hr:j<r.length),(∀ i,ks[j] = .inl i->r[j]=i) /\ ∀ z,ks[j] = .inr z->cS kn' z=some r[j]:=fun j hj hr=>by
  have hz:j<(ks.zip r).length:=by rw[BA]; omega
  have:=b (ks.zip r)[j] (tO hz)
  rw[NP] at this
  exact this
 refine⟨Ce (by rw[cV]; exact hl) fun j h1 h2=>?_,fun z mz=>?_⟩
 ·rw[NQ]
  have hj:j<ks.length:=by omega
  obtain⟨k1,k2⟩:=key j hj h1
  cases hk:ks[j] with
  | inl i=>exact k1 i hk
  | inr z=>
   show r[j]=(cS kn' z).getD 0
   rw[k2 z hk]
   rfl
 ·obtain⟨j,hj,e⟩:=wX mz
  have:=(key j hj (by omega)).2 z e
  unfold fM
  rw[this]
  rfl
theorem Hm {kn kn':Kn}(h:tT kn (fM kn) ks)(k : ∀ z u,cS kn z=some u->cS kn' z=some u):tT kn' (fM kn') ks/\ks.map (tv (fM kn'))=ks.map (tv (fM kn)):=by
 have e : ∀ z,(.inr z:aI)∈ks->cS kn' z=some (fM kn z):=fun z m=>k z _ (h z m)
 have e2 : ∀ z,(.inr z:aI)∈ks->fM kn' z=fM kn z:=fun z m=>by
  show(cS kn' z).getD 0=_
  rw[e z m]
  rfl
 exact⟨fun z m=>by rw[e2 z m]; exact e z m,CL e2⟩
def FZ (ps:List LR)(kn:Kn):Prop:=∀ p∈ps,tT kn (fM kn) p.1.2/\p.1.2.map (tv (fM kn))∈p.2
theorem UL : ∀ (rest don:List LR) (kns:List Kn),(∀ kn∈kns,FZ don kn) -> ∀ kn∈rest.foldl (fun kns p=>gA kns p.1.2 p.2) kns,FZ (don++rest) kn
 | [],don,kns,h=>by rw[mG]; exact h
 | q::rest,don,kns,h=>by
  have e:don++q::rest=(don++[q])++rest:=by simp
  rw[e,pR]
  refine UL rest (don++[q]) _ fun kn m=>?_
  obtain⟨k0,mk,m⟩:=NJ.mp m
  obtain⟨r,mr,ef⟩:=FG.mp m
  intro p mp
  rcases oE.mp mp with mp | mp
  ·obtain⟨a,b⟩:=h k0 mk p mp
   obtain⟨c,d⟩:=Hm a (LA ef).2.1
   exact⟨c,d ▸ b⟩
  ·rw[bL.mp mp]
   obtain⟨a,b⟩:=SK ef
   exact⟨b,a ▸ mr⟩
theorem Zr (ps:List LR) : ∀ kn∈kO ps,FZ ps kn:=by
 have:=UL ps [] [[]] fun kn _ p m=>by simp at m
 rwa [List.nil_append] at this
def sR (kn:Kn)(v:aC->Int):Prop:=∀ z u,cS kn z=some u->u=v z
theorem RQ{kn:Kn}(h:sR kn v) : ∃ kn',eK ks (ks.map (tv v)) kn=some kn'/\sR kn' v:=by
 obtain⟨kn',e⟩:=yP (ps:=ks.zip (ks.map (tv v))) (kn:=kn) (fun p m i q=>by rw[(qR m).2,q]; rfl) (fun p m z u q e=>by rw[(qR m).2,q,h z u e]; rfl) (fun p m p' m' z q q'=>by rw[(qR m).2,(qR m').2,q,q'])
 refine⟨kn',?_,fun z u eu=>?_⟩
 ·unfold eK
  rw[if_pos (by rw[cV])]
  exact e
 ·obtain⟨_,b,c⟩:=vI e
  rcases c z u eu with c | ⟨p,mp,q⟩
  ·exact h z u c
  ·have e1:=(b p mp).2 z q
   rw[eu] at e1
   rw[eY e1,(qR mp).2,q]
   rfl
theorem Lz {kn:Kn}(h:tT kn v ks){k:aI}(mk:k∈ks):gX (aB 1) (aB 0) (aB 0) [some (kD k),some (knD kn)]=some (.int (tv v k)):=by
 cases k with
 | inl i=>
  rw[yB (fd:=aB 1) (fk:=aB 0) (fx:=aB 0) (kds:=DN kn) (kd:=.int i) (x:=.int i) (key:=.inl i) rfl rfl rfl rfl (plN kn),Xh]
  rfl
 | inr z=>
  rw[yB (fd:=aB 1) (fk:=aB 0) (fx:=aB 0) (kds:=DN kn) (kd:=.str z) (x:=.str z) (key:=.inr z) rfl rfl rfl rfl (plN kn),CS,h z mk]
  rfl
theorem Qy{kn:Kn}(hl:ks.length≤1000)(h:tT kn v ks):nU [tK ks,knD kn]=some (bJ (ks.map (tv v))):=by
 have : ∃ d,nU [tK ks,knD kn]=some d/\d=bJ (ks.map (tv v)):=by
  refine eJ rfl ?_
  have e:=jH (cap:=[none,some 1]) (fi:=iIt (aB 0)) (T:=gB 0) (t:=dG) (f:=gX (aB 1) (aB 0) (aB 0)) (ρ:=vS [s0 (tK ks),s0 (knD kn)]) (xs:=ks) (q:=kD) (fun _=>true) (fun k=>aQ (tv v k)) (yC rfl) (by omega) fun k mk=>⟨[some (kD k),some (knD kn)],rfl,rfl,fun _=>Lz h mk⟩
  rw[mF.mpr fun _ _=>rfl] at e
  refine dW (d:=bJ (ks.map (tv v))) (bG (bO e rfl) ?_) ⟨_,rfl,rfl⟩
  show some (eI _)=some (eI ((ks.map (tv v)).map aQ))
  rw[fD]
  rfl
 obtain⟨d,e,rfl⟩:=this
 exact e
abbrev SA:=List (List Int×Nat)
def sE (A:SA):List (aA×aA):=A.map fun p=>(bJ p.1,.int p.2)
def sD (A:SA):aA:=.dict ((.none,.none)::sE A)
theorem HQ (k:List Int) : ∀ A:SA,iI (sE A) (k.map aQ)=(A.lookup k).map fun(n:Nat)=>aQ n
 | []=>rfl
 | (a,n)::A=>by
  show iI ((.tuple (a.map aQ),.int n)::sE A) (k.map aQ)=_
  rw[DY (mT a) (mT k),HQ k A,kJ]
  by_cases h:a=k
  ·subst h
   rw[if_pos rfl,beq_self_eq_true]
   rfl
  ·rw[if_neg (fun z=>h (IY z)),show(k == a)=false from by simpa using fun z=>h z.symm]
def qX (A:SA)(k:List Int)(n:Nat):SA:=if (A.lookup k).isSome=true then A.map fun p=>if p.1=k then(p.1,n) else p else A++[(k,n)]
theorem Ge (A:SA)(k:List Int)(n:Nat):kB (sE A) (k.map aQ) (.int n)=sE (qX A k n):=by
 unfold kB qX
 rw[HQ,MY]
 split
 ·unfold sE
  rw[fD,fD]
  refine oF fun p _=>?_
  show(if cK (bJ p.1) (bJ k)=true then(bJ p.1,aQ n) else(bJ p.1,aQ p.2))=(fun p:List Int×Nat=>(bJ p.1,aQ p.2)) (if p.1=k then(p.1,n) else p)
  rw[HH]
  by_cases h:p.1=k
  ·rw[if_pos (decide_eq_true h),if_pos h]
  ·rw[if_neg (by simpa using h),if_neg h]
 ·unfold sE
  rw[iS]
  rfl
theorem Kj (A:SA)(k:List Int)(n:Nat):(qX A k n).length≤A.length+1:=by
 unfold qX
 split <;> simp
theorem uT (j a:List Int)(m:Nat)(A:SA):((a,m)::A).lookup j=if j=a then some m else A.lookup j:=by
 rw[kJ]
 by_cases h:j=a
 ·rw[show(j == a)=true from by simpa using h,if_pos h]
 ·rw[show(j == a)=false from by simpa using h,if_neg h]
theorem Xj (A:SA)(k:List Int)(n:Nat)(j:List Int):(qX A k n).lookup j=if j=k then some n else A.lookup j:=by
 unfold qX
 split
 ·rename_i h
  have go : ∀ A:SA,(j=k->(A.lookup k).isSome=true)->(A.map fun p=>if p.1=k then(p.1,n) else p).lookup j=if j=k then some n else A.lookup j:=by
   intro A
   induction A with
   | nil=>
    intro h
    by_cases q:j=k
    ·exact absurd (h q) (by simp)
    ·rw[if_neg q]
     rfl
   | cons p A ih=>
    intro h
    obtain⟨a,m⟩:=p
    have e:((a,m)::A).map (fun p=>if p.1=k then(p.1,n) else p)=(a,if a=k then n else m)::A.map fun p=>if p.1=k then(p.1,n) else p:=by
     rw[dF]
     by_cases q:a=k
     ·simp[q]
     ·simp[q]
    rw[e,uT,uT]
    by_cases q:j=a
    ·rw[if_pos q,if_pos q,q]
     by_cases w:a=k
     ·rw[if_pos w,if_pos w]
     ·rw[if_neg w,if_neg w]
    ·rw[if_neg q,if_neg q]
     refine ih fun z=>?_
     have:=h z
     rwa [uT,if_neg (z ▸ q)] at this
  exact go A fun _=>h
 ·rename_i h
  have h:A.lookup k=none:=by
   cases e:A.lookup k with
   | none=>rfl
   | some x=>rw[e] at h; exact absurd rfl h
  have go : ∀ A:SA,(A++[(k,n)]).lookup j=(A.lookup j).or (if j=k then some n else none):=by
   intro A
   induction A with
   | nil=>exact uT j k n []
   | cons p A ih=>
    obtain⟨a,m⟩:=p
    rw[BD,uT,uT]
    by_cases q:j=a
    ·rw[if_pos q,if_pos q]
     rfl
    ·rw[if_neg q,if_neg q]
     exact ih
  rw[go]
  by_cases q:j=k
  ·rw[if_pos q,if_pos q,q,h]
   rfl
  ·rw[if_neg q,if_neg q]
   simp
section
variable {ρ:bA}
theorem Vg {k:List aA}(h:f (vA ρ)=some d)(hg:EI i ρ=some kds)(hk:g (vS ρ)=some (.tuple k))(h1:bU k=true)(h2:cZ k≤6)(h3:eQ d=true)(hl:kds.length<100000)(kk:P (.nx (ρ.set i (some (9,.dict ((.none,.none)::kB kds k d)))))):Goes (EK i .a f .s g) ρ P:=⟨_,by
 have e1:eV 0 .a f ρ=some d:=evA h h3
 have e2:eV 0 .s g ρ=some (.tuple k):=hk
 unfold EK
 rw[e1,cG,hg,cG,e2,cG]
 show(if ((bU k=true/\cZ k≤6)/\eQ d=true)/\kds.length<sizeLine then some (Out.nx (ρ.set i (some (9,.dict ((.none,.none)::kB kds k d))))) else none)=_
 rw[if_pos ⟨⟨⟨h1,h2⟩,h3⟩,yE (pO hl)⟩],kk⟩
end
theorem Ai {fd fk fx:EF}{A:SA}{k:List Int}(hd:fd ρ=some (sD A))(hk:fk ρ=some (bJ k))(hx:fx ρ=some (.int 0)):uI fd fk fx ρ=some (.int ((A.lookup k).getD 0:Nat)):=by
 unfold uI
 rw[hd,cG,hk,cG,hx,cG]
 show(if (bU (k.map aQ)&&decide (cZ (k.map aQ)≤6))=true then some ((iI (sE A) (k.map aQ)).getD (.int 0)) else none)=_
 rw[mT,xE,if_pos (decide_eq_true (eO (vL k) (by decide))),HQ]
 cases A.lookup k <;> rfl
def oM (ks:List aI)(zs:List aC)(c:List Int->Nat)(A:SA)(r:List Int):SA:=qX A (cP ks zs r) ((A.lookup (cP ks zs r)).getD 0+c r)
theorem WM (ks:List aI)(zs:List aC)(c:List Int->Nat)(k:List Int) : ∀ (R:List (List Int)) (A:SA),((R.foldl (oM ks zs c) A).lookup k).getD 0=(A.lookup k).getD 0+bF R fun r=>if cP ks zs r=k then c r else 0
 | [],A=>rfl
 | r::R,A=>by
  rw[pR,WM ks zs c k R,eN]
  unfold oM
  rw[Xj]
  by_cases h:k=cP ks zs r
  ·rw[if_pos h,if_pos h.symm,h]
   show _+_+_=_
   omega
  ·rw[if_neg h,if_neg (eZ h)]
   omega
theorem Yz(h6:l.2.length≤6)(hz : ∀ z∈zs,(.inr z:aI)∈l.2)(hzl:zs.length≤1000)(hR : ∀ r∈R,∃ v,r=l.2.map (tv v))(hl:R.length≤1000)(c:List Int->Nat) :
  uZ [bC l,cD R c,.list (zs.map cI)]=some (sD (R.foldl (oM l.2 zs c) [])):=by
 have : ∃ d,uZ [bC l,cD R c,.list (zs.map cI)]=some d/\d=sD (R.foldl (oM l.2 zs c) []):=by
  refine eJ rfl ?_
  refine cQ (n:=9) (d:=sD []) rfl (by simp) ?_
  let A0:List L2.Slot:=[s0 (bC l),s0 (cD R c),s0 (.list (zs.map cI))]
  refine gG (fun ρ'=>∃ x4 x5 x6:L2.Slot,ρ'=A0++[some (9,sD (R.foldl (oM l.2 zs c) [])),x4,x5,x6]) ?_ ?_
  ·refine jJ (xs:=R) (q:=fun r=>eI [bJ r,.int (c r)]) (b0:=([]:SA)) (oM l.2 zs c) (fun i A ρ'=>∃ x4 x5 x6:L2.Slot,A.length≤i/\ρ'=A0++[some (9,sD A),x4,x5,x6]) (avS (SZ rfl)) ⟨none,none,none,bE _,rfl⟩ ?_ ?_
   ·rintro i r A _ hx ⟨x4,x5,x6,ha,rfl⟩
    have hi:i<R.length:=(dR.mp hx).1
    have mr:=fK hx
    refine⟨A0++[some (9,sD A),s0 (bJ r),s0 (.int (c r)),x6],rfl,?_⟩
    refine cQ (d:=bJ (cP l.2 zs r)) (bG (ds:=[bC l,tI r,.list (zs.map cI)]) rfl (YF h6 hz hzl (hR r mr))) (by simp[A0]) ?_
    refine Vg (d:=.int ((A.lookup (cP l.2 zs r)).getD 0+c r:Nat)) (kds:=sE A) (aY (a:=.int ((A.lookup (cP l.2 zs r)).getD 0:Nat)) (b:=.int (c r)) (Ai (A:=A) (k:=cP l.2 zs r) rfl rfl rfl) rfl rfl) rfl rfl (mT _) (eO (vL _) (by decide)) rfl (by unfold sE; rw[cV]; omega) ⟨_,.inl rfl,_,_,_,?_,by rw[Ge]; rfl⟩
    have:=Kj A (cP l.2 zs r) ((A.lookup (cP l.2 zs r)).getD 0+c r)
    show(qX _ _ _).length≤_
    omega
   ·rintro _ ⟨x4,x5,x6,ha,rfl⟩
    exact⟨_,rfl,_,_,_,rfl⟩
  rintro _ ⟨x4,x5,x6,rfl⟩
  exact qH (dW rfl ⟨_,rfl,rfl⟩)
 obtain⟨d,e,rfl⟩:=this
 exact e
theorem Nw(h:r∉R):iI (cE R c) (r.map aQ)=none:=by
 induction R with
 | nil=>rfl
 | cons a R ih=>
  show iI ((.tuple (a.map aQ),.int (c a))::cE R c) (r.map aQ)=_
  rw[DY (mT a) (mT r),if_neg fun z=>h (by rw[IY z]; exact bM)]
  exact ih fun m=>h (cF _ m)
theorem Oa(h:r∈R):iI (cE R c) (r.map aQ)=some (.int (c r)):=by
 induction R with
 | nil=>simp at h
 | cons a R ih=>
  show iI ((.tuple (a.map aQ),.int (c a))::cE R c) (r.map aQ)=_
  rw[DY (mT a) (mT r)]
  by_cases q:a=r
  ·rw[if_pos (by rw[q]),q]
  ·rw[if_neg fun z=>q (IY z)]
   exact ih ((cU.mp h).resolve_left fun z=>q z.symm)
theorem SG : ∀ (R Q:List (List Int)),(Q++R).Nodup->xT (R.map fun r=>(r.map aQ,aQ (c r))) (cE Q c)=cE (Q++R) c
 | [],Q,_=>by rw[mG]; rfl
 | r::R,Q,nd=>by
  have hr:r∉Q:=fun m=>(rG.mp nd).2.2 r m r bM rfl
  show xT (R.map fun r=>(r.map aQ,aQ (c r))) (kB (cE Q c) (r.map aQ) (.int (c r)))=_
  have:kB (cE Q c) (r.map aQ) (.int (c r))=cE (Q++[r]) c:=by
   unfold kB
   rw[Nw hr,if_neg (by simp)]
   unfold cE
   rw[iS]
   rfl
  rw[this,SG R (Q++[r]) (by simpa using nd),Ci]
  rfl
theorem YE : ∀ (U:List (List Int)),rU (U.map fun r=>eI [bJ r,.int (c r)])=some (U.map fun r=>(r.map aQ,aQ (c r)))
 | []=>rfl
 | r::U=>by
  show(if (bU (r.map aQ)&&decide (cZ (r.map aQ)≤6))=true then(rU (U.map fun r=>eI [bJ r,.int (c r)])).bind fun ps=>some ((r.map aQ,aQ (c r))::ps) else none)=_
  rw[mT,xE,if_pos (decide_eq_true (eO (vL r) (by decide))),YE U]
  rfl
theorem YJ(nd:R.Nodup)(c:List Int->Nat):uS [.list (R.map fun r=>eI [bJ r,.int (c r)])]=some (cD R c):=by
 show(rU _).bind _=_
 rw[YE,cG,show([]:List (aA×aA))=cE [] c from rfl,SG R [] (by simpa using nd)]
 rfl
theorem Gj {a b:Nat}(h:a<2 ^ 64):jO (.int a) (.int b)=some (.int (a*b:Nat)):=by
 show(if ((a:Int).natAbs<2 ^ 64 \/ _) \/ _ then some (aQ ((a:Int)*(b:Int))) else none)=_
 rw[if_pos (.inl (.inl (by simpa using h)))]
 rfl
theorem Xx(h6:l.2.length≤6)(hz : ∀ z∈zs,(.inr z:aI)∈l.2)(hzl:zs.length≤1000)(hR : ∀ r∈R,∃ v,r=l.2.map (tv v))(nd:R.Nodup)(hl:R.length≤1000)(c:List Int->Nat)(hc : ∀ r∈R,c r<2 ^ 64)(A:SA) :
  uV [bC l,cD R c,.list (zs.map cI),sD A]=some (cD R fun r=>c r*(A.lookup (cP l.2 zs r)).getD 0):=by
 have : ∃ d,uV [bC l,cD R c,.list (zs.map cI),sD A]=some d/\d=cD R fun r=>c r*(A.lookup (cP l.2 zs r)).getD 0:=by
  refine eJ rfl ?_
  have e:=jH (cap:=[none,none,some 3,some 0,some 2]) (fi:=iDR (aB 1)) (T:=gB2 0 1) (t:=dG) (f:=fG (aH (aB 0) (aH (eOp jO (aB 1) (uI (aB 2) (aO oY (aH (aB 3) (aH (aB 0) (aH (aB 4) aN)))) (eC (.int 0)))) aN)))
   (ρ:=vS [s0 (bC l),s0 (cD R c),s0 (.list (zs.map cI)),s0 (sD A)]) (xs:=R) (q:=fun r=>eI [bJ r,.int (c r)]) (fun _=>true) (fun r=>eI [bJ r,.int (c r*(A.lookup (cP l.2 zs r)).getD 0:Nat)]) (SZ rfl) (by omega) fun r mr=>
    ⟨[some (bJ r),some (.int (c r)),some (sD A),some (bC l),some (.list (zs.map cI))],rfl,rfl,fun _=>mP (bO rfl (bO (aY (a:=.int (c r)) (b:=.int ((A.lookup (cP l.2 zs r)).getD 0:Nat)) rfl (Ai (A:=A) (k:=cP l.2 zs r) rfl (bG (ds:=[bC l,tI r,.list (zs.map cI)]) rfl (YF h6 hz hzl (hR r mr))) rfl) (Gj (hc r mr))) rfl))⟩
  rw[mF.mpr fun _ _=>rfl] at e
  exact dW (d:=cD R fun r=>c r*(A.lookup (cP l.2 zs r)).getD 0) (bG (bO e rfl) (YJ nd fun r=>c r*(A.lookup (cP l.2 zs r)).getD 0)) ⟨_,rfl,rfl⟩
 obtain⟨d,e,rfl⟩:=this
 exact e
theorem Gw (R:List (List Int))(c:List Int->Nat):rV (cE R c)=true:=by
 induction R with
 | nil=>rfl
 | cons r R ih=>
  show(ftD (.int (c r))&&rV (cE R c))=true
  rw[ih]
  rfl
theorem Gr (R:List (List Int))(c:List Int->Nat):ftD (cD R c)=true:=by
 show ftM ((.none,.none)::cE R c)=true
 simp only[ftM]
 exact Gw R c
theorem Xq {ρ:bA}{j:Int}{jn:Nat}(h:f (vA ρ)=some d)(ho:qW ρ=true)(hf:ftD d=true)(hg:getL i ρ=some ds)(hk:g (vS ρ)=some (.int j))(hj:ixN ds.length j=some jn)(k:P (.nx (ρ.set i (some (1,.list (ds.set jn d)))))):Goes (uD i .a f .s g) ρ P:=by
 refine⟨_,?_,k⟩
 have e1:eV 0 .a f ρ=some d:=by
  show((f (vA ρ)).bind fun d=>if (gD 0 d||(tV ρ&&decide (0<9)&&iH 0 d)||(qW ρ&&decide (0=0)&&ftD d))=true then some d else none)=_
  rw[h,cG,ho,hf,if_pos (by simp)]
 have e2:eV 0 .s g ρ=some (.int j):=hk
 unfold uD
 rw[e1,cG,hg,cG,e2,cG]
 show((ixN ds.length j).bind fun j=>some (Out.nx (ρ.set i (some (1,.list (ds.set j d))))))=_
 rw[hj,cG]
def cmF (ls:List Ln)(a b:Nat):List aC:=cmL (ls.getD a lnD) (ls.getD b lnD)
theorem Gz (ls:List Ln):Cm (lsF ls) (cmF ls):=fun a b z=>A1v
def tdD (t:nL):aA:=.list (t.map bS)
abbrev tR (t:nL):Nat->List (List Int):=fun k=>t.getD k []
def tcL (n:Nat)(R:Nat->List (List Int))(c:Nat->List Int->Nat):List aA:=(bR n).map fun k=>cD (R k) (c k)
def tcD (n:Nat)(R:Nat->List (List Int))(c:Nat->List Int->Nat):aA:=.list (tcL n R c)
section
variable {p:Nat}{R:Nat->List (List Int)}{c:Nat->List Int->Nat}
theorem EJ (h:k<n):gIx (tcD n R c) (.int k)=some (cD (R k) (c k)):=yG (by unfold tcL; rw[dI,wY h]; rfl)
theorem Ii:(tcL n R c).length=n:=by unfold tcL; simp
theorem Hu {c2:Nat->List Int->Nat}(h : ∀ j,j≠p->c2 j=c j):(tcL n R c).set p (cD (R p) (c2 p))=tcL n R c2:=by
 unfold tcL
 refine NT fun i=>?_
 rw[List.getElem?_set]
 by_cases q:p=i
 ·subst q
  rw[if_pos rfl]
  by_cases hl:p<n
  ·rw[if_pos (by simpa using hl),dI,wY hl]
   rfl
  ·rw[if_neg (by simpa using hl),dI,BB (by simpa using hl)]
   rfl
 ·rw[if_neg q,dI,dI]
  cases e:(bR n)[i]? with
  | none=>rfl
  | some j=>
   have:j=i:=by
    have:=dR.mp e
    obtain⟨_,w⟩:=this
    simpa using w.symm
   subst this
   show some (cD (R j) (c j))=some (cD (R j) (c2 j))
   rw[h j (eZ q)]
end
theorem map_range {α:Type}(f:α->β)(d:α) : ∀ t:List α,t.map f=(bR t.length).map fun k=>f (t.getD k d):=fun t=>by
 refine NT fun i=>?_
 rw[dI,dI]
 by_cases h:i<t.length
 ·rw[wY h,jY h]
  simp[mE,h]
 ·rw[BB (by omega),BB (by simpa using h)]
  rfl
def mM (L:List Nat)(es:List (Nat×Nat))(i:Nat):List Nat:=(es.take i).foldl (fun L q=>L.erase q.1) L
theorem Ab {ls:Nat->List aI} : ∀ {es:List (Nat×Nat)} {L:List Nat} {i:Nat} {q:Nat×Nat},Akr ls L es->L.Nodup->es[i]?=some q->qU ls (fun k=>k∈mM L es i) q.1 q.2/\(mM L es i).Nodup/\mM L es (i+1)=(mM L es i).erase q.1
 | e::es,L,0,q,E,nd,h=>by
  cases h
  exact⟨E.1,nd,rfl⟩
 | e::es,L,i+1,q,E,nd,h=>by
  have:=Ab (i:=i) E.2 (nd.erase _) (by simpa using h)
  exact this
theorem BU(ho : ∀ l∈ls,gE l)(h:k<ls.length):gE (ls.getD k lnD):=by
 have:ls.getD k lnD=ls[k]:=by simp[mE,h]
 rw[this]
 exact ho _ (tO h)
theorem ZG (ls:List Ln):Akr (lsF ls) (bR ls.length) (cO ls).1:=Akr.of rF (fun k=>lC.symm) (ID ls)
def jE (ls:List Ln)(t:nL):Nat->List Int->Nat:=OV (lsF ls) (tR t) (cmF ls) (fun _ _=>1) (cO ls).1
theorem Wa(ho : ∀ l∈ls,gE l)(hn:ls.length≤50){t:nL}(hl:t.length=ls.length)(hf:GG (lsF ls) t){M:Nat}(hM:1≤M)(hM2:M≤1000)(hs : ∀ k,(t.getD k []).length≤M)(nd : ∀ k,(t.getD k []).Nodup)(hb:M ^ (ls.length - 1)<2 ^ 64) :
  wA [lsD ls,tdD t]=some (tcD ls.length (tR t) (jE ls t))/\Cb M ls.length (mM (bR ls.length) (cO ls).1 (cO ls).1.length) (jE ls t):=by
 obtain⟨_,s2⟩:=IJ (ID ls)
 have : ∃ d,wA [lsD ls,tdD t]=some d/\d=tcD ls.length (tR t) (jE ls t)/\Cb M ls.length (mM (bR ls.length) (cO ls).1 (cO ls).1.length) (jE ls t):=by
  refine eJ rfl ?_
  have e0:=jH (cap:=[none]) (fi:=iIt (aB 1)) (T:=gB 0) (t:=dG) (f:=aO uS (aH (eLC [none] (iIt (aB 0)) (gB 0) dG (fG (aH (aB 0) (aH (eC (.int 1)) aN)))) aN)) (ρ:=vS [s0 (lsD ls),s0 (tdD t),none,none,none,none]) (xs:=t) (q:=bS) (fun _=>true) (fun rows=>cD rows fun _=>1) (gH rfl) (by omega) fun rows m=>⟨[some (bS rows)],rfl,rfl,fun _=>by
   have h1:rows.length≤M/\rows.Nodup:=by
    obtain⟨k,hk,rfl⟩:=wX m
    have e:t.getD k []=t[k]:=by simp[mE,hk]
    rw[← e]
    exact⟨hs k,nd k⟩
   have e1:=jH (cap:=[none]) (fi:=iIt (aB 0)) (T:=gB 0) (t:=dG) (f:=fG (aH (aB 0) (aH (eC (.int 1)) aN))) (ρ:=[some (bS rows)]) (xs:=rows) (q:=bJ) (fun _=>true) (fun r=>eI [bJ r,.int (1:Nat)]) (gH rfl) (by omega) fun r _=>⟨[some (bJ r)],rfl,rfl,fun _=>rfl⟩
   rw[mF.mpr fun _ _=>rfl] at e1
   exact bG (bO e1 rfl) (YJ h1.2 fun _=>1)⟩
  rw[mF.mpr fun _ _=>rfl] at e0
  have e2:wO (t.map fun rows=>cD rows fun _=>1)=tcD ls.length (tR t) fun _ _=>1:=by
   rw[map_range _ [] t,hl]
   rfl
  rw[e2] at e0
  refine cQ (n:=1) (d:=tcD ls.length (tR t) fun _ _=>1) e0 (by simp) ?_
  refine gG (fun ρ'=>Cb M ls.length (mM (bR ls.length) (cO ls).1 (cO ls).1.length) (jE ls t) /\ ∃ x3 x4 x5:L2.Slot,ρ'=[s0 (lsD ls),s0 (tdD t),some (1,tcD ls.length (tR t) (jE ls t)),x3,x4,x5]) ?_ ?_
  ·refine jJ (xs:=(cO ls).1) (q:=kE) (b0:=fun _ _=>1) (fun c q=>cUp (lsF ls) (tR t) (cmF ls q.1 q.2) c q.1 q.2) (fun i c ρ'=>Cb M ls.length (mM (bR ls.length) (cO ls).1 i) c /\ ∃ x3 x4 x5:L2.Slot,(∀ y∈[x3,x4,x5],∀ z,y≠some (9,z))/\ρ'=[s0 (lsD ls),s0 (tdD t),some (1,tcD ls.length (tR t) c),x3,x4,x5]) (avS (gH ?_)) ⟨Cb.one (by simp[mM]),none,none,none,by simp,rfl⟩ ?_ ?_
   ·show((aO kF (aH (aB 0) aN)) (vS [s0 (lsD ls),s0 (tdD t),some (1,tcD ls.length (tR t) fun _ _=>1),none,none,none])).bind (ix2 0)=_
    rw[bG (ds:=[lsD ls]) rfl (Ah ho hn)]
    rfl
   ·rintro i q c _ hq ⟨cb,x3,x4,x5,_,rfl⟩
    obtain⟨m1,m2⟩:=s2 q (fK hq)
    obtain⟨E1,nd1,er⟩:=Ab (ZG ls) rF hq
    have o1:=BU ho m1
    have o2:=BU ho m2
    refine⟨[s0 (lsD ls),s0 (tdD t),some (1,tcD ls.length (tR t) c),s0 (.int q.1),s0 (.int q.2),x5],rfl,?_⟩
    refine cQ (d:=.list ((cmF ls q.1 q.2).map cI)) (bG (ds:=[bC (ls.getD q.1 lnD),bC (ls.getD q.2 lnD)]) (bO (aY (a:=lsD ls) (b:=.int q.1) rfl rfl (oV m1)) (bO (aY (a:=lsD ls) (b:=.int q.2) rfl rfl (oV m2)) rfl)) (Zo o1)) (by simp) ?_
    have hzl:(cmF ls q.1 q.2).length≤1000:=eO (Je o1) (by decide)
    have hsm:=Yz (l:=ls.getD q.1 lnD) o1.1 (zs:=cmF ls q.1 q.2) (fun z m=>(A1v.mp m).1) hzl (R:=t.getD q.1 []) (hf q.1) (eO (hs _) hM2) (c q.1)
    have htm:=Xx (l:=ls.getD q.2 lnD) o2.1 (zs:=cmF ls q.1 q.2) (fun z m=>(A1v.mp m).2) hzl (R:=t.getD q.2 []) (hf q.2) (nd _) (eO (hs _) hM2) (c q.2) (fun r _=>rE (cb.le hM E1.2.1 r) hb) ((t.getD q.1 []).foldl (oM (ls.getD q.1 lnD).2 (cmF ls q.1 q.2) (c q.1)) [])
    have hcu:(fun r=>c q.2 r*(((t.getD q.1 []).foldl (oM (ls.getD q.1 lnD).2 (cmF ls q.1 q.2) (c q.1)) []).lookup (cP (ls.getD q.2 lnD).2 (cmF ls q.1 q.2) r)).getD 0)=cUp (lsF ls) (tR t) (cmF ls q.1 q.2) c q.1 q.2 q.2:=funext fun r=>by
     rw[WM]
     unfold cUp
     rw[if_pos rfl]
     show _*(0+_)=_
     rw[wR]
     rfl
    rw[hcu] at htm
    refine Xq (d:=cD (tR t q.2) (cUp (lsF ls) (tR t) (cmF ls q.1 q.2) c q.1 q.2 q.2)) (j:=q.2) (jn:=q.2) (ds:=tcL ls.length (tR t) c) (bG (ds:=[bC (ls.getD q.2 lnD),cD (tR t q.2) (c q.2),.list ((cmF ls q.1 q.2).map cI),sD ((t.getD q.1 []).foldl (oM (ls.getD q.1 lnD).2 (cmF ls q.1 q.2) (c q.1)) [])])
     (bO (aY (a:=lsD ls) (b:=.int q.2) rfl rfl (oV m2)) (bO (aY (a:=tcD ls.length (tR t) c) (b:=.int q.2) rfl rfl (EJ m2)) (bO rfl (bO (bG (ds:=[bC (ls.getD q.1 lnD),cD (tR t q.1) (c q.1),.list ((cmF ls q.1 q.2).map cI)]) (bO (aY (a:=lsD ls) (b:=.int q.1) rfl rfl (oV m1)) (bO (aY (a:=tcD ls.length (tR t) c) (b:=.int q.1) rfl rfl (EJ m1)) rfl)) hsm) rfl)))) htm)
     (by simp[qW,s0]) (Gr _ _) rfl rfl (Fu (by rw[Ii]; exact m2)) ⟨_,.inl rfl,?_,s0 (.int q.1),s0 (.int q.2),s0 (.list ((cmF ls q.1 q.2).map cI)),by simp[s0],?_⟩
    ·rw[er]
     exact cb.step nd1 E1.1 E1.2.1 E1.2.2.1 (hs _)
    ·rw[Hu (p:=q.2) (c2:=cUp (lsF ls) (tR t) (cmF ls q.1 q.2) c q.1 q.2) fun j hj=>funext fun r=>by unfold cUp; rw[if_neg hj]]
     rfl
   ·rintro _ ⟨cb,x3,x4,x5,_,rfl⟩
    exact⟨_,rfl,cb,x3,x4,x5,rfl⟩
  rintro _ ⟨cb,x3,x4,x5,rfl⟩
  exact HI rfl ⟨_,rfl,rfl,cb⟩
 obtain⟨d,e,rfl,cb⟩:=this
 exact⟨e,cb⟩
theorem Kp{kn kn':Kn}(h:eK ks r kn=some kn')(v:aC->Int):sR kn' v↔sR kn v/\r=ks.map (tv v):=by
 obtain⟨h1,h2⟩:=SK h
 obtain⟨_,h3,_⟩:=LA h
 constructor
 ·intro a
  refine⟨fun z u e=>a z u (h3 z u e),?_⟩
  rw[h1]
  exact CL fun z m=>a z _ (h2 z m)
 ·rintro⟨a,e⟩
  obtain⟨kn2,e2,a2⟩:=RQ (ks:=ks) a
  rw[← e,h] at e2
  cases e2
  exact a2
theorem Nu (kn:Kn):sR kn (fM kn):=fun z u e=>by
 unfold fM
 rw[e]
 rfl
section
variable {ls:Nat->List aI}{R:Nat->List (List Int)}{c:Nat->List Int->Nat}
def nM (ls:Nat->List aI)(R:Nat->List (List Int))(L:List Nat)(kns:List Kn):List Kn:=L.foldl (fun kns k=>gA kns (ls k) (R k)) kns
theorem KG : ∀ (L:List Nat) (kns:List Kn),nM ls R L kns=kns.flatMap fun kn=>nM ls R L [kn]
 | [],kns=>by
  show kns=kns.flatMap fun kn=>[kn]
  simp
 | k::L,kns=>by
  show nM ls R L (gA kns (ls k) (R k))=kns.flatMap fun kn=>nM ls R L (gA [kn] (ls k) (R k))
  rw[KG L]
  unfold gA
  rw[List.flatMap_assoc]
  congr 1
  funext kn
  rw[KG L ([kn].flatMap _)]
  simp
theorem SX : ∀ (L D:List Nat) (kn:Kn) (ρ:Ch),(D++L).Nodup->(∀ v,(∀ k∈D,ρ k=(ls k).map (tv v))↔sR kn v) ->
  bF (nM ls R L [kn]) (fun kn=>eA (D++L) fun k=>c k ((ls k).map (tv (fM kn))))=Sm R L ρ (Wt ls c (D++L))
 | [],D,kn,ρ,nd,h=>by
  have hv:=(h (fM kn)).mpr (Nu kn)
  show eA (D++[]) _+0=Wt ls c (D++[]) ρ
  rw[mG]
  unfold Wt
  rw[if_pos ⟨fM kn,hv⟩,Nat.add_zero]
  exact vO fun k m=>by rw[hv k m]
 | k::L,D,kn,ρ,nd,h=>by
  have eD:D++k::L=(D++[k])++L:=by simp
  have kD':k∉D:=fun m=>(rG.mp nd).2.2 k m k bM rfl
  have kj : ∀ j∈D,j≠k:=fun j m z=>kD' (by rw[← z]; exact m)
  have kL:k∉L:=(lB.mp (rG.mp nd).2.1).1
  show bF (nM ls R L (gA [kn] (ls k) (R k))) _=bF (R k) fun r=>Sm R L (chU ρ k r) _
  rw[KG,UH]
  have ee:gA [kn] (ls k) (R k)=(R k).filterMap fun r=>eK (ls k) r kn:=by
   unfold gA
   simp
  rw[ee,HV]
  refine fR fun r _=>?_
  cases e:eK (ls k) r kn with
  | some kn1=>
   show bF (nM ls R L [kn1]) _=_
   rw[eD] at nd ⊢
   refine SX L (D++[k]) kn1 (chU ρ k r) nd fun v=>?_
   rw[Kp e,← h v]
   constructor
   ·intro g
    refine⟨fun j hj=>?_,?_⟩
    ·have:=g j (NK _ hj)
     rwa [oU (kj j hj)] at this
    ·have:=g k (mD _ bM)
     rwa [qF] at this
   ·rintro⟨g1,g2⟩ j hj
    rcases oE.mp hj with hj | hj
    ·rw[oU (kj j hj)]
     exact g1 j hj
    ·rw[bL.mp hj,qF]
     exact g2
  | none=>
   refine(Kk fun ρ' hρ=>?_).symm
   unfold Wt
   refine if_neg fun gh=>?_
   obtain⟨v,hv⟩:=gh
   have a:sR kn v:=(h v).mp fun j hj=>by
    have h1:=hv j (NK _ hj)
    have jL:j∉L:=fun m=>(rG.mp nd).2.2 j hj j (cF _ m) rfl
    rw[hρ j jL,oU (kj j hj)] at h1
    exact h1
   have h2:=hv k (mD _ bM)
   rw[hρ k kL,qF] at h2
   obtain⟨kn2,e2,_⟩:=RQ (ks:=ls k) a
   rw[← h2,e] at e2
   cases e2
theorem Xk(nd:L.Nodup)(ρ:Ch):bF (nM ls R L [[]]) (fun kn=>eA L fun k=>c k ((ls k).map (tv (fM kn))))=Sm R L ρ (Wt ls c L):=
 SX L [] [] ρ nd fun v=>⟨fun _ z u e=>by simp[cS] at e,fun _ k m=>by simp at m⟩
end
theorem SO (ls:List Ln) : ∀ (n:Nat) (L:List Nat),(eGo ls n L).1.foldl (fun L q=>L.erase q.1) L=(eGo ls n L).2
 | 0,L=>rfl
 | n+1,L=>by
  unfold eGo
  cases e:fI ls L with
  | none=>rfl
  | some p=>exact SO ls n (L.erase p.1)
theorem DK (ls:List Ln):(cO ls).1.foldl (fun L q=>L.erase q.1) (bR ls.length)=(cO ls).2:=SO ls _ _
theorem Wh (ls:List Ln):mM (bR ls.length) (cO ls).1 (cO ls).1.length=(cO ls).2:=by
 unfold mM
 rw[Bp]
 exact DK ls
theorem KA {α:Type}(f:α->Nat) : ∀ (xs:List α) (a:Nat),xs.foldl (fun a x=>a*f x) a=a*eA xs f
 | [],a=>(FD a).symm
 | x::xs,a=>by rw[pR,KA f xs,jT,NF]
theorem JL {α:Type}(f:α->Nat) : ∀ (xs:List α) (a:Nat),xs.foldl (fun a x=>a+f x) a=a+bF xs f
 | [],a=>rfl
 | x::xs,a=>by rw[pR,JL f xs,eN,AX]
def kP (ls:List Ln)(t:nL):List LR:=(cO ls).2.map fun k=>(ls.getD k lnD,t.getD k [])
theorem yH(h:k∈(cO ls).2):k<ls.length:=(IJ (ID ls)).1 k h
theorem Vs (ls:List Ln):(cO ls).2.length≤ls.length:=by
 have:=(RN (ls:=ls) (n:=ls.length) (L:=bR ls.length)).2
 rw[Bw] at this
 exact this
theorem Fv (ls:List Ln)(t:nL):kO (kP ls t)=nM (lsF ls) (tR t) (cO ls).2 [[]]:=by
 unfold kO kP nM
 rw[List.foldl_map]
 rfl
theorem JJ(ho : ∀ l∈ls,gE l)(hn:ls.length≤50)(h:f ρ=some (lsD ls)):rT 1 (aO kF (aH f aN)) ρ=some (lN (cO ls).2):=by
 unfold rT
 rw[bG (ds:=[lsD ls]) (bO h rfl) (Ah ho hn)]
 rfl
theorem Tx(ho : ∀ l∈ls,gE l)(hn:ls.length≤16){t:nL}(c:Nat->List Int->Nat)(hw:fZ (kP ls t)≤4096) :
  vT [lsD ls,tcD ls.length (tR t) c]=some (.list ((kO (kP ls t)).map knD))/\(kO (kP ls t)).length≤4096:=by
 have hr:=Vs ls
 obtain⟨e,h1⟩:=Pw (cO ls).2 (fun k=>ls.getD k lnD) (tR t) c (by omega) (fun k mk=>(BU ho (yH mk)).1) hw
 refine⟨?_,h1⟩
 have : ∃ d,vT [lsD ls,tcD ls.length (tR t) c]=some d/\d = .list ((kO (kP ls t)).map knD):=by
  refine eJ rfl ?_
  refine cQ (d:=lN (cO ls).2) (JJ ho (by omega) rfl) (by simp) ?_
  have e1:=jH (cap:=[none,some 0]) (fi:=iIt (aB 2)) (T:=gB 0) (t:=dG) (f:=eOp gIx (aB 1) (aB 0)) (ρ:=vS [s0 (lsD ls),s0 (tcD ls.length (tR t) c),s0 (lN (cO ls).2)]) (xs:=(cO ls).2) (q:=fun(k:Nat)=>aQ k) (fun _=>true) (fun k=>bC (ls.getD k lnD)) (gH rfl) (by omega) fun k mk=>⟨[some (.int k),some (lsD ls)],rfl,rfl,fun _=>aY (a:=lsD ls) (b:=.int k) rfl rfl (oV (yH mk))⟩
  have e2:=jH (cap:=[none,some 1]) (fi:=iIt (aB 2)) (T:=gB 0) (t:=dG) (f:=eOp gIx (aB 1) (aB 0)) (ρ:=vS [s0 (lsD ls),s0 (tcD ls.length (tR t) c),s0 (lN (cO ls).2)]) (xs:=(cO ls).2) (q:=fun(k:Nat)=>aQ k) (fun _=>true) (fun k=>cD (tR t k) (c k)) (gH rfl) (by omega) fun k mk=>⟨[some (.int k),some (tcD ls.length (tR t) c)],rfl,rfl,fun _=>aY (a:=tcD ls.length (tR t) c) (b:=.int k) rfl rfl (EJ (yH mk))⟩
  rw[mF.mpr fun _ _=>rfl] at e1 e2
  exact dW (d:=.list ((kO (kP ls t)).map knD)) (bG (bO (bG (bO e1 rfl) rfl) (bO e2 rfl)) e) ⟨_,rfl,rfl⟩
 obtain⟨d,e,rfl⟩:=this
 exact e
theorem YB {a b:Nat}(h:b<2 ^ 64):jO (.int a) (.int b)=some (.int (a*b:Nat)):=by
 show(if (_ \/ (b:Int).natAbs<2 ^ 64) \/ _ then some (aQ ((a:Int)*(b:Int))) else none)=_
 rw[if_pos (.inl (.inr (by simpa using h)))]
 rfl
theorem Hr {fa fb:EF}(ha:fa ρ=some (cD R c))(hb:fb ρ=some (bJ r))(m:r∈R):eOp BO fa fb ρ=some (.int (c r)):=aY ha hb (by
 show(if (bU (r.map aQ)&&decide (cZ (r.map aQ)≤6))=true then iI (cE R c) (r.map aQ) else none)=_
 rw[mT,xE,if_pos (decide_eq_true (eO (vL r) (by decide))),Oa m])
def mI (ls:Nat->List aI)(R:Nat->List (List Int))(n:Nat):Nat:=Sm R (bR n) (fun _=>[]) (Wt ls (fun _ _=>1) (bR n))
theorem Mx(ho : ∀ l∈ls,gE l)(hn:ls.length≤16){t:nL}(hl:t.length=ls.length)(hf:GG (lsF ls) t){M:Nat}(hM:1≤M)(hM2:M≤1000)(hs : ∀ k,(t.getD k []).length≤M)(nd : ∀ k,(t.getD k []).Nodup)(hb:M ^ (ls.length - 1)<2 ^ 64)
  (er:qQ [.dict kds,lsD ls]=some .none) (ef:sX [.dict kds,lsD ls]=some (tdD t)) (hw:fZ (kP ls t)≤4096):nP [.dict kds,lsD ls]=some (.int (mI (lsF ls) (tR t) ls.length:Nat)):=by
 obtain⟨ec,cb⟩:=Wa ho (by omega) hl hf hM hM2 hs nd hb
 rw[Wh] at cb
 obtain⟨ew,lw⟩:=Tx ho hn (t:=t) (jE ls t) hw
 let num:Kn->Nat:=fun kn=>eA (cO ls).2 fun k=>jE ls t k ((lsF ls k).map (tv (fM kn)))
 have tot:mI (lsF ls) (tR t) ls.length=bF (kO (kP ls t)) num:=by
  unfold mI
  rw[TU (Gz ls) (fun k r m=>hf k r m) _ rF (ZG ls),DK,Fv]
  refine(Xk ?_ _).symm
  rw[← DK]
  have go : ∀ (es:List (Nat×Nat)) (L:List Nat),L.Nodup->(es.foldl (fun L q=>L.erase q.1) L).Nodup:=by
   intro es
   induction es with
   | nil=>exact fun L h=>h
   | cons q es ih=>exact fun L h=>ih _ (h.erase _)
  exact go _ _ rF
 have : ∃ d,nP [.dict kds,lsD ls]=some d/\d = .int (mI (lsF ls) (tR t) ls.length:Nat):=by
  refine eJ rfl ?_
  refine jG (ρ':=[s0 (.dict kds),s0 (lsD ls),none,none,none,none,none,none]) (by
   show qA .s (aO qQ (aH (aB 0) (aH (aB 1) aN))) [s0 (.dict kds),s0 (lsD ls),none,none,none,none,none,none]=_
   unfold qA
   rw[show eV 0 .s (aO qQ (aH (aB 0) (aH (aB 1) aN))) [s0 (.dict kds),s0 (lsD ls),none,none,none,none,none,none]=some .none from bG rfl er]
   rfl) ?_
  refine cQ (d:=tcD ls.length (tR t) (jE ls t)) (bG (ds:=[lsD ls,tdD t]) (bO rfl (bO (bG rfl ef) rfl)) ec) (by simp) ?_
  refine cQ (d:=lN (cO ls).2) (JJ ho (by omega) rfl) (by simp) ?_
  refine cQ (d:=.int 0) rfl (by simp) ?_
  let A:List L2.Slot:=[s0 (.dict kds),s0 (lsD ls),s0 (tcD ls.length (tR t) (jE ls t)),s0 (lN (cO ls).2)]
  refine gG (fun ρ'=>∃ x5 x6 x7:L2.Slot,ρ'=A++[s0 (.int (mI (lsF ls) (tR t) ls.length:Nat)),x5,x6,x7]) ?_ ?_
  ·refine jJ (xs:=kO (kP ls t)) (q:=knD) (b0:=(0:Nat)) (fun a kn=>a+num kn) (fun _ a ρ'=>∃ x5 x6 x7:L2.Slot,ρ'=A++[s0 (.int (a:Nat)),x5,x6,x7]) (avS (gH (bG (ds:=[lsD ls,tcD ls.length (tR t) (jE ls t)]) rfl ew))) ⟨none,none,none,rfl⟩ ?_ ?_
   ·rintro i kn a _ hx ⟨x5,x6,x7,rfl⟩
    have got:=Zr (kP ls t) kn (fK hx)
    refine⟨A++[s0 (.int (a:Nat)),s0 (knD kn),x6,x7],rfl,?_⟩
    refine cQ (d:=.int (1:Nat)) rfl (by simp[A]) ?_
    refine gG (fun ρ'=>∃ x7:L2.Slot,ρ'=A++[s0 (.int (a:Nat)),s0 (knD kn),s0 (.int (num kn:Nat)),x7]) ?_ ?_
    ·refine jJ (xs:=(cO ls).2) (q:=fun(k:Nat)=>aQ k) (b0:=(1:Nat)) (fun b k=>b*jE ls t k ((lsF ls k).map (tv (fM kn)))) (fun _ b ρ'=>∃ x7:L2.Slot,ρ'=A++[s0 (.int (a:Nat)),s0 (knD kn),s0 (.int (b:Nat)),x7]) (avS (gH rfl)) ⟨x7,rfl⟩ ?_ ?_
     ·rintro j k b _ hk ⟨x7,rfl⟩
      have mk:=fK hk
      have lk:=yH mk
      obtain⟨g1,g2⟩:=got (ls.getD k lnD,t.getD k []) (cY.mpr ⟨k,mk,rfl⟩)
      refine⟨A++[s0 (.int (a:Nat)),s0 (knD kn),s0 (.int (b:Nat)),s0 (.int (k:Nat))],rfl,?_⟩
      refine nQ (d:=.int (b*jE ls t k ((lsF ls k).map (tv (fM kn))):Nat)) (aY (a:=.int (b:Nat)) (b:=.int (jE ls t k ((lsF ls k).map (tv (fM kn))):Nat)) rfl (Hr (R:=tR t k) (c:=jE ls t k) (r:=(lsF ls k).map (tv (fM kn))) (aY (a:=tcD ls.length (tR t) (jE ls t)) (b:=.int k) rfl rfl (EJ lk)) (bG (ds:=[tK (lsF ls k),knD kn]) (bO (aY (a:=bC (ls.getD k lnD)) (b:=.int 1) (aY (a:=lsD ls) (b:=.int k) rfl rfl (oV lk)) rfl rfl) rfl) (Qy (eO (BU ho lk).1 (by decide)) g1)) g2) (YB (rE (cb.le hM mk _) hb))) (by simp[A]) ⟨_,.inl rfl,_,rfl⟩
     ·rintro _ ⟨x7,rfl⟩
      rw[KA,AV]
      exact⟨_,rfl,_,rfl⟩
    rintro _ ⟨x7,rfl⟩
    exact nQ (d:=.int (a+num kn:Nat)) (aY (a:=.int (a:Nat)) (b:=.int (num kn:Nat)) rfl rfl rfl) (by simp[A]) ⟨_,.inl rfl,_,_,_,rfl⟩
   ·rintro _ ⟨x5,x6,x7,rfl⟩
    rw[JL,wR,← tot]
    exact⟨_,rfl,_,_,_,rfl⟩
  rintro _ ⟨x5,x6,x7,rfl⟩
  exact dW rfl ⟨_,rfl,rfl⟩
 obtain⟨d,e,rfl⟩:=this
 exact e
def ftR (B:aC->List (List Int))(l:Ln):List (List Int):=srt ((B l.1).filter fun r=>(eK l.2 r []).isSome)
theorem Bdj:r∈ftR B l↔r∈B l.1 /\ ∃ v,r=l.2.map (tv v):=by
 unfold ftR
 rw[Lo,AZ]
 refine and_congr_right fun _=>?_
 rw[Bn]
 exact Ayg
theorem Ky (B:aC->List (List Int))(l:Ln):(ftR B l).length≤(B l.1).length:=by
 unfold ftR
 rw[Mm]
 exact NM _ _
theorem Qc (b:Bk kds B wd)(h6:l.2.length≤6):sS [.dict kds,bC l]=some (bS (ftR B l)):=by
 have es:xS [bS ((B l.1).filter fun r=>(eK l.2 r []).isSome)]=some (bS (ftR B l)):=Ku (b.pos l.1) (fun r m=>b.wid l.1 r (AZ.mp m).1) (rE (NM _ _) (b.few l.1))
 have : ∃ d,sS [.dict kds,bC l]=some d/\d=bS (ftR B l):=by
  have e:=jH (cap:=[none,some 1]) (fi:=iIt (aO lO (aH (aB 0) (aH (aB 1) aN)))) (T:=gB 0) (t:=bOf (eOp nO (aO mN (aH (aB 1) (aH (aB 0) (aH (eC (.dict [])) aN)))) (eC .none))) (f:=aB 0)
   (ρ:=vS [s0 (.dict kds),s0 (bC l)]) (xs:=B l.1) (q:=bJ) (fun r=>(eK l.2 r []).isSome) bJ (gH (bG (ds:=[.dict kds,bC l]) rfl (UP b l.1 _))) (by have:=b.few l.1; omega) (fun r m=>by
    refine⟨[some (bJ r),some (bC l)],rfl,?_,fun _=>rfl⟩
    have hf:=HY (.str l.1) l.2 r [] (by omega) (by simp)
    refine gR (aY (a:=tZ (eK l.2 r [])) (b:=.none) (bG (ds:=[bC l,tI r,.dict (DN [])]) rfl hf) rfl ?_)
    cases eK l.2 r [] <;> rfl)
  refine eJ rfl (dW (d:=bS (ftR B l)) (bG (bO e rfl) es) ⟨_,rfl,rfl⟩)
 obtain⟨d,e,rfl⟩:=this
 exact e
theorem Ui (b:Bk kds B wd)(h6 : ∀ l∈ls,l.2.length≤6)(hn:ls.length≤50):sX [.dict kds,lsD ls]=some (tdD (ls.map (ftR B))):=by
 have : ∃ d,sX [.dict kds,lsD ls]=some d/\d=tdD (ls.map (ftR B)):=by
  have e:=jH (cap:=[none,some 0]) (fi:=iIt (aB 1)) (T:=gB 0) (t:=dG) (f:=aO sS (aH (aB 1) (aH (aB 0) aN)))
   (ρ:=vS [s0 (.dict kds),s0 (lsD ls)]) (xs:=ls) (q:=bC) (fun _=>true) (fun l=>bS (ftR B l)) rfl (by omega) fun l m=>⟨[some (bC l),some (.dict kds)],rfl,rfl,fun _=>bG (ds:=[.dict kds,bC l]) rfl (Qc b (h6 l m))⟩
  rw[mF.mpr fun _ _=>rfl] at e
  refine eJ rfl (dW (d:=tdD (ls.map (ftR B))) ?_ ⟨_,rfl,rfl⟩)
  unfold tdD
  rw[fD]
  exact e
 obtain⟨d,e,rfl⟩:=this
 exact e
theorem HU (ls:List Ln):GG (lsF ls) (ls.map (ftR B)):=fun k r m=>by
 rw[mE,dI] at m
 unfold lsF
 rw[mE]
 cases h:ls[k]? with
 | none=>rw[h] at m; simp at m
 | some l=>
  rw[h] at m
  exact(Bdj.mp m).2
theorem ZV {m:Nat}(hm:1≤m) : ∀ {ps:List LR},(∀ p∈ps,p.2.length≤m)->fZ ps≤m ^ ps.length
 | [],_=>bE _
 | p::ps,h=>by
  rw[fL,Nat.pow_succ,ND]
  exact NC (Nat.max_le.mpr ⟨hm,h p bM⟩) (ZV hm fun q mq=>h q (cF _ mq))
theorem Rq(h:fI ls L=none)(hk:k∈L)(hj:j∈L)(hjk:j≠k) : ¬ rO ls L k j:=fun c=>by
 have h1:=List.findSome?_eq_none_iff.mp h k hk
 have h2:L.find? (gC ls L k)=none:=by
  cases e:L.find? (gC ls L k) with
  | none=>rfl
  | some x=>rw[e] at h1; cases h1
 have h3:=NS.mp h2 j hj
 refine h3 ?_
 unfold gC
 rw[decide_eq_true hjk,decide_eq_true c]
 rfl
theorem SL(h : ∀ L:List Nat,L.Nodup->(∀ k∈L,k<ls.length)->2≤L.length -> ∃ k∈L,∃ j∈L,j≠k/\rO ls L k j):(cO ls).2.length≤1:=by
 have e:fI ls (cO ls).2=none:=ZJ (by simp)
 have nd:(cO ls).2.Nodup:=by
  rw[← DK]
  have go : ∀ (es:List (Nat×Nat)) (L:List Nat),L.Nodup->(es.foldl (fun L q=>L.erase q.1) L).Nodup:=by
   intro es
   induction es with
   | nil=>exact fun L h=>h
   | cons q es ih=>exact fun L h=>ih _ (h.erase _)
  exact go _ _ rF
 refine Classical.byContradiction fun z=>?_
 obtain⟨k,hk,j,hj,hjk,c⟩:=h _ nd (fun k m=>yH m) (by omega)
 exact Rq e hk hj hjk c
theorem Xn(ho : ∀ l∈ls,gE l)(hn:ls.length≤50)(h1:(cO ls).2.length≤1):qC [lsD ls]=some (lN []):=by
 have : ∃ d,qC [lsD ls]=some d/\d=lN []:=by
  refine eJ rfl ?_
  refine cQ (n:=1) (d:=lN (cO ls).2) (JJ ho hn rfl) (by simp) ?_
  have c:bV .a (bOf (eOp gGt (aO dS (aH (aB 1) aN)) (eC (.int 1)))) [s0 (lsD ls),some (1,lN (cO ls).2)]=some (decide (1<(cO ls).2.length)):=gR (aY (a:=.int (cO ls).2.length) (b:=.int 1) (bG (ds:=[lN (cO ls).2]) rfl (Jj _)) rfl (by
   show some (mB (decide (((cO ls).2.length:Int) > 1)))=_
   congr 2
   rw[nK,decide_eq_true_eq,decide_eq_true_eq]
   omega))
  rw[decide_eq_false (by omega)] at c
  refine⟨.rt (lN []),?_,_,rfl,rfl⟩
  show(bV .a _ [s0 (lsD ls),some (1,lN (cO ls).2)]).bind _=_
  rw[c]
  rfl
 obtain⟨d,e,rfl⟩:=this
 exact e
theorem Qg (b:Bk kds B wd)(ho : ∀ l∈ls,gE l)(hn:ls.length≤50)(h1:(cO ls).2.length≤1):qQ [.dict kds,lsD ls]=some .none:=by
 have e1:=jH (cap:=[none,some 1]) (fi:=iIt (aO qC (aH (aB 1) aN))) (T:=gB 0) (t:=dG) (f:=eOp gIx (aB 1) (aB 0)) (ρ:=vS [s0 (.dict kds),s0 (lsD ls)]) (xs:=([]:List Nat)) (q:=fun(k:Nat)=>aQ k) (fun _=>true) (fun k=>bC (ls.getD k lnD)) (gH (bG (ds:=[lsD ls]) rfl (Xn ho hn h1))) (by simp) fun k mk=>by simp at mk
 rw[mF.mpr fun _ _=>rfl] at e1
 have e2:=Ot b [] (by simp) (show mK B []≤4096 by show 1≤4096; decide)
 show outD (LF [s0 (.dict kds),s0 (lsD ls)])=_
 have e3:eV 0 .s (aO vZ (aH (aB 0) (aH (aO lJ (aH (eLC [none,some 1] (iIt (aO qC (aH (aB 1) aN))) (gB 0) dG (eOp gIx (aB 1) (aB 0))) aN)) aN))) [s0 (.dict kds),s0 (lsD ls)]=some .none:=
  bG (bO rfl (bO (bG (bO e1 rfl) rfl) rfl)) e2
 unfold LF qA
 rw[e3]
 rfl
theorem EL(h:k<ls.length):tR (ls.map (ftR B)) k=ftR B (ls.getD k lnD):=by
 show(ls.map (ftR B)).getD k []=_
 simp[mE,h]
theorem PZ(h : ¬ k<ls.length):tR (ls.map (ftR B)) k=[]:=by
 show(ls.map (ftR B)).getD k []=[]
 rw[mE,BB (by simpa using h)]
 rfl
theorem VU (b:Bk kds B wd)(h6 : ∀ t,(B t).length≤60)(nd : ∀ t,(B t).Nodup)(ho : ∀ l∈ls,gE l)(hn:ls.length≤5)(h1:(cO ls).2.length≤1):nP [.dict kds,lsD ls]=some (.int (mI (lsF ls) (tR (ls.map (ftR B))) ls.length:Nat)):=by
 have hs : ∀ k,((ls.map (ftR B)).getD k []).length≤60:=fun k=>by
  by_cases h:k<ls.length
  ·rw[show(ls.map (ftR B)).getD k []=_ from EL h]
   exact eO (Ky B _) (h6 _)
  ·rw[show(ls.map (ftR B)).getD k []=_ from PZ h]
   simp
 refine Mx ho (by omega) (cV _) (HU ls) (M:=60) (by decide) (by decide) hs (fun k=>?_) (rE (NB (by decide) (show ls.length - 1≤4 by omega)) (by decide)) (Qg b ho (by omega) h1) (Ui b (fun l m=>(ho l m).1) (by omega)) (eO (ZV (m:=60) (by decide) fun p m=>by
  obtain⟨k,_,rfl⟩:=cY.mp m
  exact hs k) (eO (NB (by decide) (show(kP ls (ls.map (ftR B))).length≤1 by unfold kP; rw[cV]; exact h1)) (by decide)))
 by_cases h:k<ls.length
 ·rw[show(ls.map (ftR B)).getD k []=_ from EL h]
  exact(CZ _).nodup_iff.mpr ((nd _).sublist List.filter_sublist)
 ·rw[show(ls.map (ftR B)).getD k []=_ from PZ h]
  exact pP
theorem HR(h:x≠y)(a b:Int) : ∃ v,[a,b]=([.inr x,.inr y]:List aI).map (tv v)/\v x=a/\v y=b:=⟨fun z=>if z=x then a else b,by
 show [a,b]=[if x=x then a else b,if y=x then a else b]
 rw[if_pos rfl,if_neg (eZ h)],if_pos rfl,if_neg (eZ h)⟩
theorem PQ(h:x≠y)(a b:Int):cP [.inr x,.inr y] [x] [a,b]=[a]:=by
 obtain⟨v,e,hx,_⟩:=HR h a b
 rw[e,yK (fun z m=>by rw[bL.mp m]; simp)]
 show [v x]=[a]
 rw[hx]
theorem PV(h:x≠y)(a b:Int):cP [.inr x,.inr y] [y] [a,b]=[b]:=by
 obtain⟨v,e,_,hy⟩:=HR h a b
 rw[e,yK (fun z m=>by rw[bL.mp m]; simp)]
 show [v y]=[b]
 rw[hy]
theorem CM(h:r.length=2) : ∃ a b,r=[a,b]:=by
 match r,h with
 | [a,b],_=>exact⟨a,b,rfl⟩
theorem IB {t:aC}(h:x≠y)(hw : ∀ r∈B t,r.length=2):(ftR B (t,[.inr x,.inr y])).Perm (B t):=by
 unfold ftR
 rw[mF.mpr fun r m=>?_]
 ·exact CZ _
 ·obtain⟨a,b,rfl⟩:=CM (hw r m)
  obtain⟨v,e,_⟩:=HR h a b
  obtain⟨kn,ek⟩:=Ayg.mpr ⟨v,e⟩
  show(eK [.inr x,.inr y] [a,b] []).isSome=true
  rw[ek]
  rfl
theorem Ko {α:Type}{xs:List α}(nd:xs.Nodup)(hi:i<xs.length)(hj:j<xs.length)(h:xs[i]?=xs[j]?):i=j:=(List.getElem?_inj hi nd).mp h
abbrev StP:=aC×Bool×aC
def stK (p:StP):List aI:=if p.2.1=true then [.inr p.2.2,.inr "x"] else [.inr "x",.inr p.2.2]
def stL (p:StP):Ln:=(p.1,stK p)
def stC (p:StP)(r:List Int):Int:=r.getD (if p.2.1=true then 1 else 0) 0
abbrev pd:StP:=("",false,"")
structure StG (ps:List StP):Prop where
 nd:(ps.map (·.2.2)).Nodup
 nx : ∀ p∈ps,p.2.2 ≠ "x"
 lay : ∀ p∈ps,cR (.str p.2.2)=true
 n5:ps.length≤5
theorem Asp {p:StP}:(.inr y:aI)∈stK p↔y = "x" \/ y=p.2.2:=by
 unfold stK
 split <;> simp[or_comm]
theorem Iv {p:StP}(h:p.2.2 ≠ "x")(hr:r.length=2):cP (stK p) ["x"] r=[stC p r]:=by
 obtain⟨a,b,rfl⟩:=CM hr
 unfold stK stC
 split
 ·exact PV h a b
 ·exact PQ (eZ h) a b
theorem He {p:StP}(h:p.2.2 ≠ "x")(hw : ∀ t,∀ r∈B t,r.length=2):(ftR B (stL p)).Perm (B p.1):=by
 unfold stL stK
 split
 ·exact IB h (hw _)
 ·exact IB (eZ h) (hw _)
theorem HG {α:Type}(f:α->Ln){ps:List α}(d:α)(h:k<ps.length):(ps.map f).getD k lnD=f (ps.getD k d):=by
 simp[mE,h]
section
variable {ps:List StP}
theorem Ji (g:StG ps)(hj:j<ps.length)(hk:k<ps.length)(h:(ps.getD j pd).2.2=(ps.getD k pd).2.2):j=k:=by
 refine Ko g.nd (by simpa using hj) (by simpa using hk) ?_
 rw[dI,dI,getD_some pd hj,getD_some pd hk]
 exact congrArg some h
theorem SW (g:StG ps)(hj:j<ps.length)(hk:k<ps.length)(hjk:j≠k)(h1:(.inr y:aI)∈stK (ps.getD j pd))(h2:(.inr y:aI)∈stK (ps.getD k pd)):y = "x":=by
 rcases Asp.mp h1 with z | z
 ·exact z
 ·rcases Asp.mp h2 with w | w
  ·exact w
  ·exact absurd (Ji g hj hk (z.symm.trans w)) hjk
theorem BW (ps:List StP)(h:k<ps.length):lsF (ps.map stL) k=stK (ps.getD k pd):=by
 show((ps.map stL).getD k lnD).2=_
 rw[HG stL pd h]
 rfl
theorem Er (g:StG ps) : ∀ l∈ps.map stL,gE l:=fun l m=>by
 obtain⟨p,mp,rfl⟩:=cY.mp m
 refine⟨?_,fun k mk=>?_⟩
 ·show(stK p).length≤6
  unfold stK
  split <;> simp
 ·cases k with
  | inl i=>rfl
  | inr y=>
   rcases Asp.mp mk with z | z
   ·rw[z]; decide +kernel
   ·rw[z]; exact g.lay p mp
theorem Mu (g:StG ps):(cO (ps.map stL)).2.length≤1:=SL fun L nd hL h2=>by
 have hl : ∀ k∈L,k<ps.length:=fun k m=>by simpa using hL k m
 obtain⟨k,j,r,rfl⟩ : ∃ k j r,L=k::j::r:=by
  match L,h2 with
  | k::j::r,_=>exact⟨k,j,r,rfl⟩
 have hkj:j≠k:=fun e=>(lB.mp nd).1 (by rw[e]; exact bM)
 have nm : ∀ i,i<ps.length -> ∀ z,z∈nms (ps.map stL) i↔(.inr z:aI)∈stK (ps.getD i pd):=fun i hi z=>by
  show z∈fP ((ps.map stL).getD i lnD).2↔_
  rw[HG stL pd hi]
  exact Aft
 refine⟨k,bM,j,by simp,hkj,fun z mz=>?_⟩
 have hk:=hl k bM
 have hj:=hl j (by simp)
 by_cases q:z = "x"
 ·exact .inl ((nm j hj z).mpr (Asp.mpr (.inl q)))
 ·exact .inr fun o ho hok mo=>q (SW g hk (hl o ho) (eZ hok) ((nm k hk z).mp mz) ((nm o (hl o ho) z).mp mo))
theorem JG (hw : ∀ t,∀ r∈B t,r.length=2){p0:StP}{tl:List StP}(g:StG (p0::tl)){V:List Int}(nd:V.Nodup)(hV : ∀ r∈B p0.1,stC p0 r∈V) :
  mI (lsF ((p0::tl).map stL)) (tR (((p0::tl).map stL).map (ftR B))) (tl.length+1)=bF V fun v=>eA (p0::tl) fun p=>((B p.1).map (stC p)).count v:=by
 let ps:=p0::tl
 have hl:ps.length=tl.length+1:=rfl
 have at0 : ∀ k,k≤tl.length->k<ps.length:=fun k h=>by omega
 have px : ∀ k,k<ps.length->(ps.getD k pd).2.2 ≠ "x":=fun k h=>g.nx _ (getD_mem pd h)
 have rp : ∀ k,k<ps.length->(tR ((ps.map stL).map (ftR B)) k).Perm (B (ps.getD k pd).1):=fun k h=>by
  rw[EL (by simpa using h),HG stL pd h]
  exact He (px k h) hw
 have ky : ∀ k,k<ps.length -> ∀ r∈tR ((ps.map stL).map (ftR B)) k,cP (lsF (ps.map stL) k) ["x"] r=[stC (ps.getD k pd) r]:=fun k h r m=>by
  rw[BW ps h]
  exact Iv (px k h) (hw _ r ((rp k h).mem_iff.mp m))
 unfold mI
 have e0:(fun(_:Nat) (_:List Int)=>1)=fun k r=>if k=0 then(fun _=>1) r else 1:=by
  funext k r
  split <;> rfl
 rw[e0,TB (z:="x") (N:=tl.length) (fun k h=>by rw[BW ps (at0 k h)]; exact Asp.mpr (.inl rfl)) (fun j k hj hk hjk y h1 h2=>by
  rw[BW ps (at0 j hj)] at h1
  rw[BW ps (at0 k hk)] at h2
  exact SW g (at0 j hj) (at0 k hk) hjk h1 h2) (fun k r m=>HU (ps.map stL) k r m) _ tl.length _ (bE _)]
 have e1 : ∀ r∈tR ((ps.map stL).map (ftR B)) 0,(1*eA (bR tl.length) fun k=>bF (tR ((ps.map stL).map (ftR B)) (k+1)) fun q=>if cP (lsF (ps.map stL) (k+1)) ["x"] q=cP (lsF (ps.map stL) 0) ["x"] r then 1 else 0)=eA tl fun p=>((B p.1).map (stC p)).count (stC p0 r):=fun r m=>by
  rw[AV,ky 0 (by omega) r m]
  have e2 : ∀ k∈bR tl.length,(bF (tR ((ps.map stL).map (ftR B)) (k+1)) fun q=>if cP (lsF (ps.map stL) (k+1)) ["x"] q=[stC (ps.getD 0 pd) r] then 1 else 0)=((B (tl.getD k pd).1).map (stC (tl.getD k pd))).count (stC p0 r):=fun k mk=>by
   have hk:k+1<ps.length:=by have:=lC.mp mk; omega
   rw[fR (g:=fun q=>if stC (tl.getD k pd) q=stC p0 r then 1 else 0) fun q mq=>?_,DL (rp (k+1) hk),← JU,yO]
   ·rfl
   ·rw[ky (k+1) hk q mq]
    show(if [stC (tl.getD k pd) q]=[stC p0 r] then 1 else 0)=_
    by_cases z:stC (tl.getD k pd) q=stC p0 r
    ·rw[if_pos (by rw[z]),if_pos z]
    ·rw[if_neg (fun w=>z (by injection w)),if_neg z]
  rw[vO e2]
  have e3:=map_range (fun p:StP=>((B p.1).map (stC p)).count (stC p0 r)) pd tl
  rw[← JY (fun k=>((B (tl.getD k pd).1).map (stC (tl.getD k pd))).count (stC p0 r)) (fun n=>n),← e3,JY]
 rw[fR e1,DL (rp 0 (by omega))]
 show bF (B p0.1) (fun r=>eA tl fun p=>((B p.1).map (stC p)).count (stC p0 r))=_
 rw[← yO (stC p0) (fun v=>eA tl fun p=>((B p.1).map (stC p)).count v),QM _ nd fun v m=>?_]
 ·rfl
 ·obtain⟨r,mr,rfl⟩:=cY.mp m
  exact hV r mr
end
theorem max_mem : ∀ {L:List Nat},L≠[] -> ∃ k∈L,∀ j∈L,j≤k
 | [k],_=>⟨k,bM,fun j m=>by rw[bL.mp m]; exact bE _⟩
 | k::l::L,_=>by
  obtain⟨m,mm,hm⟩:=max_mem (L:=l::L) (by simp)
  by_cases h:m≤k
  ·refine⟨k,bM,fun j mj=>?_⟩
   rcases cU.mp mj with rfl | mj
   ·exact bE _
   ·exact eO (hm j mj) h
  ·refine⟨m,cF _ mm,fun j mj=>?_⟩
   rcases cU.mp mj with rfl | mj
   ·omega
   ·exact hm j mj
def wyK (s:Nat->aC)(k:Nat):List aI:=[.inr (s k),.inr (s (k+1))]
def wyL (s:Nat->aC)(ts:List aC):List Ln:=(bR ts.length).map fun k=>(ts.getD k "",wyK s k)
structure WyG (s:Nat->aC)(ts:List aC):Prop where
 inj : ∀ i j,i≤5->j≤5->s i=s j->i=j
 lay : ∀ i,i≤5->cR (.str (s i))=true
 n5:ts.length≤5
section
variable {s:Nat->aC}
theorem GM(h:k<ts.length):(wyL s ts).getD k lnD=(ts.getD k "",wyK s k):=by
 unfold wyL
 rw[mE,dI,wY h]
 rfl
theorem uN:(wyL s ts).length=ts.length:=by simp[wyL]
theorem uM(h:k<ts.length):lsF (wyL s ts) k=wyK s k:=by
 show((wyL s ts).getD k lnD).2=_
 rw[GM h]
theorem An3:(.inr y:aI)∈wyK s k↔y=s k \/ y=s (k+1):=by simp[wyK]
theorem IV (g:WyG s ts)(hj:j<k)(hk:k<ts.length)(h1:(.inr y:aI)∈wyK s k)(h2:(.inr y:aI)∈wyK s j):k=j+1/\y=s k:=by
 have n5:=g.n5
 rcases An3.mp h1 with e | e <;> rcases An3.mp h2 with f | f
 ·have:=g.inj k j (by omega) (by omega) (e.symm.trans f); omega
 ·have:=g.inj k (j+1) (by omega) (by omega) (e.symm.trans f)
  exact⟨this,e⟩
 ·have:=g.inj (k+1) j (by omega) (by omega) (e.symm.trans f); omega
 ·have:=g.inj (k+1) (j+1) (by omega) (by omega) (e.symm.trans f); omega
theorem Ex (g:WyG s ts) : ∀ l∈wyL s ts,gE l:=fun l m=>by
 obtain⟨k,mk,rfl⟩:=cY.mp m
 have hk:=lC.mp mk
 have n5:=g.n5
 refine⟨by simp[wyK],fun q mq=>?_⟩
 cases q with
 | inl i=>rfl
 | inr y=>
  rcases An3.mp mq with z | z
  ·rw[z]; exact g.lay _ (by omega)
  ·rw[z]; exact g.lay _ (by omega)
theorem Mp (g:WyG s ts):(cO (wyL s ts)).2.length≤1:=SL fun L nd hL h2=>by
 have hl : ∀ k∈L,k<ts.length:=fun k m=>by rw[← uN (s:=s)]; exact hL k m
 obtain⟨k,mk,hk⟩:=max_mem (L:=L) (fun e=>by rw[e] at h2; simp at h2)
 have nm : ∀ i,i<ts.length -> ∀ z,z∈nms (wyL s ts) i↔(.inr z:aI)∈wyK s i:=fun i hi z=>by
  show z∈fP ((wyL s ts).getD i lnD).2↔_
  rw[GM hi]
  exact Aft
 have lk:=hl k mk
 by_cases h : ∃ j∈L,j+1=k
 ·obtain⟨j,mj,rfl⟩:=h
  refine⟨j+1,mk,j,mj,by omega,fun z mz=>?_⟩
  by_cases q:z=s (j+1)
  ·exact .inl ((nm j (hl j mj) z).mpr (An3.mpr (.inr q)))
  ·refine .inr fun o ho hok mo=>q ?_
   have:=hk o ho
   exact(IV g (j:=o) (k:=j+1) (by omega) lk ((nm _ lk z).mp mz) ((nm o (hl o ho) z).mp mo)).2
 ·obtain⟨j,mj,hj⟩ : ∃ j∈L,j≠k:=by
   match L,nd,h2 with
   | a::b::r,nd,_=>
    by_cases e:a=k
    ·exact⟨b,by simp,fun z=>(lB.mp nd).1 (by rw[e,← z]; exact bM)⟩
    ·exact⟨a,bM,e⟩
  refine⟨k,mk,j,mj,hj,fun z mz=>.inr fun o ho hok mo=>h ⟨o,ho,?_⟩⟩
  have:=hk o ho
  exact(IV g (j:=o) (k:=k) (by omega) lk ((nm _ lk z).mp mz) ((nm o (hl o ho) z).mp mo)).1.symm
theorem Mo (hw : ∀ t,∀ r∈B t,r.length=2){t0:aC}{tl:List aC}(g:WyG s (t0::tl)) :
  mI (lsF (wyL s (t0::tl))) (tR ((wyL s (t0::tl)).map (ftR B))) (tl.length+1)=bF (B t0) (gF (tl.map B)):=by
 let ts:=t0::tl
 have hl:ts.length=tl.length+1:=rfl
 have n5:tl.length+1≤5:=g.n5
 have ne : ∀ k,k<ts.length->s k≠s (k+1):=fun k h e=>by have:=g.inj k (k+1) (by omega) (by omega) e; omega
 have rp : ∀ k,k<ts.length->(tR ((wyL s ts).map (ftR B)) k).Perm (B (ts.getD k "")):=fun k h=>by
  rw[EL (by rw[uN]; exact h),GM h]
  exact IB (ne k h) (hw _)
 have e0:(fun(_:Nat) (_:List Int)=>1)=fun k r=>if k=tl.length then(fun _=>1) r else 1:=by
  funext k r
  split <;> rfl
 unfold mI
 rw[e0,RI (s:=s) (N:=tl.length) (fun k h=>by rw[uM (show k<ts.length by omega)]; exact An3.mpr (.inl rfl)) (fun k h=>by rw[uM (show k<ts.length by omega)]; exact An3.mpr (.inr rfl)) (fun j k hj hk y h1 h2=>by
  rw[uM (show k<ts.length by omega)] at h1
  rw[uM (show j<ts.length by omega)] at h2
  exact IV g hj (show k<ts.length by omega) h1 h2) (fun k r m=>HU (wyL s ts) k r m) _ tl.length _ (bE _)]
 have go : ∀ i,i≤tl.length->qY (lsF (wyL s ts)) (tR ((wyL s ts).map (ftR B))) s i (gF ((tl.drop i).map B))=bF (B t0) (gF (tl.map B)):=by
  intro i
  induction i with
  | zero=>
   intro _
   show bF (tR ((wyL s ts).map (ftR B)) 0) _=_
   rw[DL (rp 0 (by omega)),List.drop_zero]
   rfl
  | succ i ih=>
   intro hi
   rw[← ih (by omega)]
   show qY _ _ s i (nZ _ _ s i _)=_
   refine Qi fun r mr=>?_
   have e1:(tl.drop i).map B=B (ts.getD (i+1) "")::(tl.drop (i+1)).map B:=by
    rw[Cg (by omega),dF]
    congr 1
    show B tl[i]=B ((t0::tl).getD (i+1) "")
    simp[mE,show i<tl.length by omega]
   rw[e1]
   unfold nZ
   show(bF (tR ((wyL s ts).map (ftR B)) (i+1)) _)=bF (B (ts.getD (i+1) "")) fun q=>if q.getD 0 0=r.getD 1 0 then gF ((tl.drop (i+1)).map B) q else 0
   rw[← DL (rp (i+1) (by omega))]
   refine fR fun q mq=>?_
   obtain⟨a,b,rfl⟩:=CM (hw _ r ((rp i (by omega)).mem_iff.mp mr))
   obtain⟨c,d,rfl⟩:=CM (hw _ q ((rp (i+1) (by omega)).mem_iff.mp mq))
   rw[uM (by omega),uM (by omega)]
   unfold wyK
   rw[PQ (ne (i+1) (by omega)) c d,PV (ne i (by omega)) a b]
   show(if [c]=[b] then _ else 0)=if c=b then _ else 0
   by_cases z:c=b
   ·rw[if_pos (by rw[z]),if_pos z]
   ·rw[if_neg (fun w=>z (by injection w)),if_neg z]
 have:=go tl.length (bE _)
 rw[Cf] at this
 exact this
end
theorem Jq {a b:Int}(h:a.natAbs<2 ^ 64):jO (.int a) (.int b)=some (.int (a*b)):=by
 show(if (a.natAbs<2 ^ 64 \/ b.natAbs<2 ^ 64) \/ mH a+mH b≤134217728 then some (aQ (a*b)) else none)=_
 rw[if_pos (.inl (.inl h))]
theorem LU {a b:Int}(h:b.natAbs<2 ^ 64):jO (.int a) (.int b)=some (.int (a*b)):=by
 show(if (a.natAbs<2 ^ 64 \/ b.natAbs<2 ^ 64) \/ mH a+mH b≤134217728 then some (aQ (a*b)) else none)=_
 rw[if_pos (.inl (.inr h))]
theorem ZA {ns:List Int}{i:Int}(a:0≤i)(b:i<ns.length) : ∃ c,gIx (lI ns) (.int i)=some (.int c)/\c∈ns:=by
 obtain⟨j,rfl⟩:=tQ a
 have hj:j<ns.length:=by omega
 exact⟨ns[j],ZP (jY hj),tO hj⟩
theorem QO (ns:List Int):dS [lI ns]=some (.int ns.length):=by simp[dS]
theorem qI (ns:List Int){k:Int}(h0:0≤k)(h1:k≤1000) : ∃ c,iM [lI ns,.int k]=some (.int c):=by
 have : ∃ d,iM [lI ns,.int k]=some d /\ ∃ c,d = .int c:=by
  refine eJ rfl ?_
  have hk:k.natAbs<2 ^ 64:=by omega
  have hkk:jO (.int k) (.int k)=some (.int (k*k)):=Jq hk
  by_cases hl:k<(ns.length:Int)
  ·obtain⟨c,e,_⟩:=ZA h0 hl
   exact yI (jQ (by simp[fnD,bB,bP,dB,kQ,sIf,jC,OQ,uD,lH,lD,frz,gY,eV,bV,aV,vS,vA,eOp,eUn,aB,eC,aO,fG,fE,aH,aN,bOf,pF,tW,bOr,asB,pD,eOr,xO,gX,GV,eIf,gNm,getL,pB,outD,iIt,itemsOf,dH,oR,jP,fN,kN,qZ,g2I,g2C,gLt,gLe,gGt,gGe,dS,gW,lF,isK,lJ,uH,tU,gEq,gNe,dE,noDict,noDicts,nA,cZ,cK,gD,eQ,dG,gB,hl]) (dW (d:=.int c) (aY (a:=lI ns) (b:=.int k) rfl rfl e) ⟨_,rfl,_,rfl,c,rfl⟩))
  ·refine jG (rX (by simp[fnD,bB,bP,dB,kQ,sIf,jC,OQ,uD,lH,lD,frz,gY,eV,bV,aV,vS,vA,eOp,eUn,aB,eC,aO,fG,fE,aH,aN,bOf,pF,tW,bOr,asB,pD,eOr,xO,gX,GV,eIf,gNm,getL,pB,outD,iIt,itemsOf,dH,oR,jP,fN,kN,qZ,g2I,g2C,gLt,gLe,gGt,gGe,dS,gW,lF,isK,lJ,uH,tU,gEq,gNe,dE,noDict,noDicts,nA,cZ,cK,gD,eQ,dG,gB,hl])) ?_
   have e2:bV .s (bOf (eOp gEq (aO dS (aH (aB 0) aN)) (eC (.int 0)))) [s0 (lI ns),s0 (.int k)]=some (decide ((ns.length:Int)=0)):=gR (aY (a:=.int ns.length) (b:=.int 0) (bG (ds:=[lI ns]) rfl (QO ns)) rfl (yJ _ _))
   by_cases hz:(ns.length:Int)=0
   ·exact yI (jQ (e2.trans (by rw[decide_eq_true hz])) (dW (d:=.int (k*k*7919+31)) (aY (a:=.int (k*k*7919)) (b:=.int 31) (aY (a:=.int (k*k)) (b:=.int 7919) (aY (a:=.int k) (b:=.int k) rfl rfl hkk) rfl (LU (by decide))) rfl rfl) ⟨_,rfl,_,rfl,_,rfl⟩))
   ·refine jG (rX (e2.trans (by rw[decide_eq_false hz]))) ?_
    have hz':(0:Int)<ns.length:=by omega
    obtain⟨v,e,_⟩:=ZA (ns:=ns) (i:=k%(ns.length:Int)) (iX _ hz').1 (iX _ hz').2
    exact dW (d:=.int (v*(k+2)+k*k*69621)) (aY (a:=.int (v*(k+2))) (b:=.int (k*k*69621)) (aY (a:=.int v) (b:=.int (k+2)) (aY (a:=lI ns) (b:=.int (k%(ns.length:Int))) rfl (aY (a:=.int k) (b:=.int ns.length) rfl (bG (ds:=[lI ns]) rfl (QO ns)) (jN k ns.length (by omega))) e) (aY (a:=.int k) (b:=.int 2) rfl rfl rfl) (LU (by omega))) (aY (a:=.int (k*k)) (b:=.int 69621) (aY (a:=.int k) (b:=.int k) rfl rfl hkk) rfl (LU (by decide))) rfl) ⟨_,rfl,_,rfl⟩
 obtain⟨d,e,c,rfl⟩:=this
 exact⟨c,e⟩
theorem ZZ (c:Int){k:Int}(h0:0≤k)(h1:k≤1000)(hn:0<n) : ∃ v:Nat,nX [.int c,.int k,.int n]=some (.int v)/\v<n:=by
 have : ∃ d,nX [.int c,.int k,.int n]=some d /\ ∃ v:Nat,d = .int v/\v<n:=by
  refine eJ rfl ?_
  have b:=iX c (show(0:Int)<((2147483629:Nat):Int) by omega)
  have hkk:k*k≤1000*1000:=Int.mul_le_mul h1 h1 h0 (by omega)
  have hkk0:0≤k*k:=Int.mul_nonneg h0 h0
  have mk:jP (.int k) (.int k)=some (.int (k*k)):=xQ (by omega)
  obtain⟨A,hA⟩ : ∃ A:Int,A=c%((2147483629:Nat):Int)+5*k+1:=⟨_,rfl⟩
  obtain⟨B,hB⟩ : ∃ B:Int,B=48271+k*k:=⟨_,rfl⟩
  generalize k*k=q at *
  have hAB:0≤A*B/\A*B≤2200000000*2000000:=⟨Int.mul_nonneg (by omega) (by omega),Int.mul_le_mul (by omega) (by omega) (by omega) (by omega)⟩
  refine cQ (d:=.int (A*B)) (aY (a:=.int A) (b:=.int B) (aY (a:=.int (c%((2147483629:Nat):Int)+5*k)) (b:=.int 1) (aY (a:=.int (c%((2147483629:Nat):Int))) (b:=.int (5*k)) (aY (a:=.int c) (b:=.int (2147483629:Nat)) rfl rfl (jN c 2147483629 (by omega))) (aY (a:=.int 5) (b:=.int k) rfl rfl (xQ (by decide))) rfl) rfl (by rw[hA]; rfl)) (aY (a:=.int 48271) (b:=.int q) rfl (aY (a:=.int k) (b:=.int k) rfl rfl mk) (by rw[hB]; rfl)) (xQ (by omega))) (by simp) ?_
  generalize A*B=N at hAB
  have bd:=iX (N*N%((2147483647:Nat):Int)) (show(0:Int)<(n:Int) by omega)
  obtain⟨v,ev⟩:=tQ bd.1
  exact dW (d:=.int v) (aY (a:=.int (N*N%((2147483647:Nat):Int))) (b:=.int n) (aY (a:=.int (N*N)) (b:=.int (2147483647:Nat)) (aY (a:=.int N) (b:=.int N) rfl rfl (xQ (by omega))) rfl (jN _ 2147483647 (by omega))) rfl ((jN _ n hn).trans (by rw[ev]))) ⟨_,rfl,v,rfl,by omega⟩
 obtain⟨d,e,c,rfl,h⟩:=this
 exact⟨c,e,h⟩
def TAB:List aC:=["t","u","t1","x","v"]
theorem YM(h:k<5):gIx (.list (TAB.map cI)) (.int k)=some (.str (TAB.getD k ""))/\TAB.getD k "" ∈ TAB:=by
 rcases(show k=0 \/ k=1 \/ k=2 \/ k=3 \/ k=4 by omega) with e | e | e | e | e <;> subst e <;> exact⟨rfl,by decide +kernel⟩
theorem RV (ns:List Int)(L:List Tb){k:Int}(h0:0≤k)(h4:k≤4) : ∃ t∈TAB,qP [lI ns,.dict (kdL L),.int k]=some (.str t):=by
 obtain⟨c,ec⟩:=qI ns (k:=57+k) (by omega) (by omega)
 have hz:(0:Int)<((L.length+1:Nat):Int):=by omega
 obtain⟨j,ej⟩:=tQ (iX (c%((L.length+1:Nat):Int)) (show(0:Int)<(5:Nat) by decide)).1
 have hj:j<5:=by have:=(iX (c%((L.length+1:Nat):Int)) (show(0:Int)<(5:Nat) by decide)).2; omega
 obtain⟨e1,m1⟩:=YM hj
 refine⟨TAB.getD j "",m1,?_⟩
 have : ∃ d,qP [lI ns,.dict (kdL L),.int k]=some d/\d = .str (TAB.getD j ""):=by
  refine eJ rfl ?_
  exact dW (d:=.str (TAB.getD j "")) (aY (a:=.list (TAB.map cI)) (b:=.int j) rfl (aY (a:=.int (c%((L.length+1:Nat):Int))) (b:=.int (5:Nat)) (aY (a:=.int c) (b:=.int ((L.length+1:Nat):Int)) (bG (ds:=[lI ns,.int (57+k)]) rfl ec) (aY (a:=.int L.length) (b:=.int 1) (bG (ds:=[.dict (kdL L)]) rfl (by
   show(if plK (kdL L)=true then some (aQ (kdL L).length) else none)=_
   rw[if_pos (LY L)]
   unfold kdL
   rw[cV])) rfl rfl) (jN _ _ (by omega))) rfl ((jN _ 5 (by omega)).trans (by rw[ej]))) e1) ⟨_,rfl,rfl⟩
 obtain⟨d,e,rfl⟩:=this
 exact e
def OWN:List aC:=["a","ab","abc","b","x1"]
theorem Io(h:k<5):gIx (.list (OWN.map cI)) (.int k)=some (.str (OWN.getD k ""))/\OWN.take k++[OWN.getD k ""]=OWN.take (k+1):=by
 rcases(show k=0 \/ k=1 \/ k=2 \/ k=3 \/ k=4 by omega) with e | e | e | e | e <;> subst e <;> exact⟨rfl,rfl⟩
theorem Lh(h:k<5):gIx (.list [.int 1,.int 2,.int 4,.int 8,.int 16]) (.int k)=some (.int ((2 ^ k:Nat):Int))/\2 ^ k≤16:=by
 rcases(show k=0 \/ k=1 \/ k=2 \/ k=3 \/ k=4 by omega) with e | e | e | e | e <;> subst e <;> exact⟨rfl,by decide⟩
theorem Mi (t:aC)(f:Bool)(o:aC):bC (stL (t,f,o)) = .tuple [.str t,if f=true then .tuple [.str o,.str "x"] else .tuple [.str "x",.str o]]:=by
 cases f <;> rfl
theorem Lu (ns:List Int)(L:List Tb) : ∃ ps:List StP,vP [lI ns,.dict (kdL L)]=some (lsD (ps.map stL))/\StG ps:=by
 have : ∃ d,vP [lI ns,.dict (kdL L)]=some d /\ ∃ ps:List StP,d=lsD (ps.map stL)/\ps.length≤5/\ps.map (·.2.2)=OWN.take ps.length:=by
  refine eJ rfl ?_
  obtain⟨c0,ec0⟩:=qI ns (k:=0) (by omega) (by omega)
  obtain⟨c62,ec62⟩:=qI ns (k:=62) (by omega) (by omega)
  obtain⟨n,en⟩:=tQ (iX (c0 / (5:Nat)) (show(0:Int)<(6:Nat) by decide)).1
  have hn:n≤5:=by have:=(iX (c0 / (5:Nat)) (show(0:Int)<(6:Nat) by decide)).2; omega
  refine cQ (n:=1) (d:=.list []) rfl (by simp) ?_
  refine gG (fun ρ'=>∃ (ps:List StP) (x3 x4 x5:L2.Slot),ps.length=n/\ps.map (·.2.2)=OWN.take n/\ρ'=[s0 (lI ns),s0 (.dict (kdL L)),some (1,.list ((ps.map stL).map bC)),x3,x4,x5]) ?_ ?_
  ·refine CQ (n:=n) (fun i ρ'=>∃ (ps:List StP) (x3 x4 x5:L2.Slot),ps.length=i/\ps.map (·.2.2)=OWN.take i/\ρ'=[s0 (lI ns),s0 (.dict (kdL L)),some (1,.list ((ps.map stL).map bC)),x3,x4,x5]) (avS (xV (bO (aY (a:=.int (c0 / (5:Nat))) (b:=.int (6:Nat)) (aY (a:=.int c0) (b:=.int (5:Nat)) (bG (ds:=[lI ns,.int 0]) rfl ec0) rfl (uF c0 5 (by omega))) rfl ((jN _ 6 (by omega)).trans (by rw[en]))) rfl) (by omega))) ⟨[],none,none,none,rfl,rfl,rfl⟩ ?_ ?_
   ·rintro k _ hk ⟨ps,x3,x4,x5,hl,hps,rfl⟩
    obtain⟨eo,to⟩:=Io (show k<5 by omega)
    obtain⟨ep,hp16⟩:=Lh (show k<5 by omega)
    obtain⟨t,mt,et⟩:=RV ns L (k:=(k:Int)) (by omega) (by omega)
    generalize OWN.getD k "" = o at eo to
    generalize hP:2 ^ k=P at ep hp16
    have P0:0<P:=by rw[← hP]; exact Nat.two_pow_pos k
    refine⟨[s0 (lI ns),s0 (.dict (kdL L)),some (1,.list ((ps.map stL).map bC)),s0 (.int k),x4,x5],rfl,?_⟩
    refine cQ (d:=.str o) (aY (a:=.list (OWN.map cI)) (b:=.int k) rfl rfl eo) (by simp) ?_
    have tw:=YH (.tuple [.str "x",.str o]) (.tuple [.str o,.str "x"]) (c62 / (P:Nat))
    obtain⟨f,hf⟩ : ∃ f:Bool,(if c62 / ((P:Nat):Int)%2=0 then eI [.str "x",.str o] else .tuple [.str o,.str "x"])=if f=true then .tuple [.str o,.str "x"] else .tuple [.str "x",.str o]:=by
     by_cases z:c62 / ((P:Nat):Int)%2=0
     ·exact⟨false,by rw[if_pos z]; rfl⟩
     ·exact⟨true,by rw[if_neg z]; rfl⟩
    rw[hf] at tw
    refine cQ (d:=if f=true then .tuple [.str o,.str "x"] else .tuple [.str "x",.str o]) (aY (a:=.list [.tuple [.str "x",.str o],.tuple [.str o,.str "x"]]) (b:=.int (c62 / ((P:Nat):Int)%2)) (HA (bO (mP rfl) (bO (g:=aN) (mP rfl) rfl))) (aY (a:=.int (c62 / ((P:Nat):Int))) (b:=.int (2:Nat)) (aY (a:=.int c62) (b:=.int (P:Nat)) (bG (ds:=[lI ns,.int 62]) rfl ec62) (aY (a:=.list [.int 1,.int 2,.int 4,.int 8,.int 16]) (b:=.int k) rfl rfl ep) (uF c62 P P0 (by omega))) rfl (jN _ 2 (by omega))) tw) (by simp) ?_
    refine uP (d:=bC (stL (t,f,o))) (ds:=(ps.map stL).map bC) (by
     rw[Mi]
     exact mP (bO (bG (ds:=[lI ns,.dict (kdL L),.int k]) rfl et) (bO (g:=aN) rfl rfl))) rfl (by simp; omega) ⟨_,.inl rfl,ps++[(t,f,o)],_,_,_,by simp[hl],by rw[iS,hps]; exact to,by rw[iS,iS]; rfl⟩
   ·rintro _ ⟨ps,x3,x4,x5,hl,hps,rfl⟩
    exact⟨_,rfl,ps,x3,x4,x5,hl,hps,rfl⟩
  rintro _ ⟨ps,x3,x4,x5,hl,hps,rfl⟩
  exact qH (dW (d:=lsD (ps.map stL)) rfl ⟨_,rfl,ps,rfl,by omega,by rw[hl]; exact hps⟩)
 obtain⟨d,e,ps,rfl,h5,hps⟩:=this
 have mem : ∀ p∈ps,p.2.2∈OWN:=fun p m=>Bt (i:=ps.length) (by rw[← hps]; exact cY.mpr ⟨p,m,rfl⟩)
 exact⟨ps,e,by rw[hps]; exact List.Nodup.sublist (List.take_sublist _ _) (by decide +kernel),fun p m=>(by decide +kernel : ∀ z∈OWN,z ≠ "x") _ (mem p m),fun p m=>(by decide +kernel : ∀ z∈OWN,cR (.str z)=true) _ (mem p m),h5⟩
def WAY:List aC:=["s","ss","s1","r1","r","q"]
def wyS (k:Nat):aC:=WAY.getD k ""
theorem YW(h:k<6):gIx (.list (WAY.map cI)) (.int k)=some (.str (wyS k)):=by
 rcases(show k=0 \/ k=1 \/ k=2 \/ k=3 \/ k=4 \/ k=5 by omega) with e | e | e | e | e | e <;> subst e <;> rfl
theorem Ef(h:ts.length≤5):WyG wyS ts:=⟨fun i j hi hj e=>(by decide +kernel : ∀ i j:Fin 6,wyS i.val=wyS j.val->i.val=j.val) ⟨i,by omega⟩ ⟨j,by omega⟩ e,fun i hi=>(by decide +kernel : ∀ i:Fin 6,cR (.str (wyS i.val))=true) ⟨i,by omega⟩,h⟩
theorem Nd (s:Nat->aC)(ts:List aC)(t:aC):wyL s (ts++[t])=wyL s ts++[(t,wyK s ts.length)]:=by
 unfold wyL
 rw[pQ,List.length_singleton,Br,iS]
 congr 1
 ·refine oF fun k mk=>?_
  have hk:=lC.mp mk
  simp[mE,NR hk]
 ·simp[mE]
theorem Jb (ns:List Int)(L:List Tb) : ∃ ts:List aC,vU [lI ns,.dict (kdL L)]=some (lsD (wyL wyS ts))/\ts.length≤5:=by
 have : ∃ d,vU [lI ns,.dict (kdL L)]=some d /\ ∃ ts:List aC,d=lsD (wyL wyS ts)/\ts.length≤5:=by
  refine eJ rfl ?_
  obtain⟨c0,ec0⟩:=qI ns (k:=0) (by omega) (by omega)
  obtain⟨n,en⟩:=tQ (iX (c0 / (30:Nat)) (show(0:Int)<(6:Nat) by decide)).1
  have hn:n≤5:=by have:=(iX (c0 / (30:Nat)) (show(0:Int)<(6:Nat) by decide)).2; omega
  refine cQ (n:=1) (d:=.list []) rfl (by simp) ?_
  refine cQ (d:=.list (WAY.map cI)) rfl (by simp) ?_
  refine gG (fun ρ'=>∃ (ts:List aC) (x4:L2.Slot),ts.length=n/\ρ'=[s0 (lI ns),s0 (.dict (kdL L)),some (1,.list ((wyL wyS ts).map bC)),s0 (.list (WAY.map cI)),x4]) ?_ ?_
  ·refine CQ (n:=n) (fun i ρ'=>∃ (ts:List aC) (x4:L2.Slot),ts.length=i/\ρ'=[s0 (lI ns),s0 (.dict (kdL L)),some (1,.list ((wyL wyS ts).map bC)),s0 (.list (WAY.map cI)),x4]) (avS (xV (bO (aY (a:=.int (c0 / (30:Nat))) (b:=.int (6:Nat)) (aY (a:=.int c0) (b:=.int (30:Nat)) (bG (ds:=[lI ns,.int 0]) rfl ec0) rfl (uF c0 30 (by omega))) rfl ((jN _ 6 (by omega)).trans (by rw[en]))) rfl) (by omega))) ⟨[],none,rfl,rfl⟩ ?_ ?_
   ·rintro k _ hk ⟨ts,x4,hl,rfl⟩
    obtain⟨t,mt,et⟩:=RV ns L (k:=4 - (k:Int)) (by omega) (by omega)
    refine⟨[s0 (lI ns),s0 (.dict (kdL L)),some (1,.list ((wyL wyS ts).map bC)),s0 (.list (WAY.map cI)),s0 (.int k)],rfl,?_⟩
    refine uP (d:=bC (t,wyK wyS k)) (ds:=(wyL wyS ts).map bC) (mP (bO (bG (ds:=[lI ns,.dict (kdL L),.int (4 - (k:Int))]) (bO rfl (bO rfl (bO (aY (a:=.int 4) (b:=.int k) rfl rfl rfl) rfl))) et) (bO (g:=aN) (mP (hl:=by simp[wyK]) (bO (aY (a:=.list (WAY.map cI)) (b:=.int k) rfl rfl (YW (by omega))) (bO (g:=aN) (aY (a:=.list (WAY.map cI)) (b:=.int ((k+1:Nat):Int)) rfl (aY (a:=.int k) (b:=.int 1) rfl rfl (by show some (aQ ((k:Int)+1))=_; congr 2)) (YW (by omega))) rfl))) rfl))) rfl (by rw[cV,uN]; omega) ⟨_,.inl rfl,ts++[t],s0 (.int k),by simp[hl],?_⟩
    rw[Nd,iS,hl]
    rfl
   ·rintro _ ⟨ts,x4,hl,rfl⟩
    exact⟨_,rfl,ts,x4,hl,rfl⟩
  rintro _ ⟨ts,x4,hl,rfl⟩
  exact qH (dW (d:=lsD (wyL wyS ts)) rfl ⟨_,rfl,ts,rfl,by omega⟩)
 obtain⟨d,e,ts,rfl,h⟩:=this
 exact⟨ts,e,h⟩
theorem ZS {A:List Tb}{t:aC}(h:t∉A.map (·.1))(R:List (List Int)):putD (kdL A) (.inr t) (bS R)=kdL (A++[(t,R)]):=by
 unfold putD
 have hn : ¬ ((kdL A).any fun kd=>decide (cL kd.1=some (.inr t)))=true:=fun q=>by
  obtain⟨kd,m,e⟩:=NW.mp q
  obtain⟨p,mp,rfl⟩:=cY.mp m
  have e:=of_decide_eq_true e
  have e:some (iP p.1:aI)=some (iP t):=e
  injection e with e
  injection e with e
  exact h (cY.mpr ⟨p,mp,e⟩)
 rw[if_neg hn]
 unfold kdL
 rw[iS]
 rfl
theorem VH : ∀ (M A:List Tb),((A++M).map (·.1)).Nodup->sO (M.map fun p=>(iP p.1,bS p.2)) (kdL A)=kdL (A++M)
 | [],A,_=>by simp[sO]
 | p::M,A,h=>by
  show sO (M.map fun p=>(iP p.1,bS p.2)) (putD (kdL A) (.inr p.1) (bS p.2))=_
  have hn:p.1∉A.map (·.1):=fun m=>by
   rw[iS] at h
   exact(rG.mp h).2.2 p.1 m p.1 (by simp) rfl
  rw[ZS hn,VH M (A++[(p.1,p.2)]) (by simpa using h)]
  simp
theorem RX : ∀ L:List Tb,rQ (L.map fun p=>eI [.str p.1,bS p.2])=some (L.map fun p=>(iP p.1,bS p.2))
 | []=>rfl
 | p::L=>by
  show((rQ (L.map fun p=>eI [.str p.1,bS p.2])).bind fun r=>some ((iP p.1,bS p.2)::r))=_
  rw[RX L]
  rfl
theorem Yf {L:List Tb}(nd:(L.map (·.1)).Nodup):CB [.list (L.map fun p=>eI [.str p.1,bS p.2])]=some (.dict (kdL L)):=by
 show((rQ (L.map fun p=>eI [.str p.1,bS p.2])).bind fun ps=>some (MW (sO ps [])))=_
 rw[RX,cG,show([]:List (aA×aA))=kdL [] from rfl,VH L [] (by simpa using nd)]
 rfl
theorem Zb {L:List Tb}(ly : ∀ p∈L,cR (.str p.1)=true)(h:f ρ=some (.dict (kdL L))):iDI f ρ=some (L.map fun p=>eI [.str p.1,bS p.2]):=by
 unfold iDI
 rw[h]
 show(if (plK (kdL L)&&(kdL L).all fun kd=>cR kd.1)=true then some ((kdL L).map fun kd=>eI [kd.1,kd.2]) else none)=_
 rw[LY,xE,if_pos (fA.mpr fun kd m=>by
  obtain⟨p,mp,rfl⟩:=cY.mp m
  exact ly p mp)]
 unfold kdL
 rw[fD]
 rfl
theorem Lf {t:aC}(h:t∈TAB):cR (.str t)=true:=(by decide +kernel : ∀ t∈TAB,cR (.str t)=true) t h
structure BkG (L:List Tb):Prop where
 nd:(L.map (·.1)).Nodup
 tab : ∀ p∈L,p.1∈TAB
 few : ∀ p∈L,p.2.length≤60
 once : ∀ p∈L,p.2.Nodup
 row : ∀ p∈L,∀ r∈p.2,r.length=2
theorem BkG.atR {L:List Tb}(o:BkG L)(t:aC):(atL L t).length≤60/\(atL L t).Nodup /\ ∀ r∈atL L t,r.length=2:=by
 by_cases h:atL L t=[]
 ·rw[h]
  exact⟨by simp,pP,fun r m=>by simp at m⟩
 ·obtain⟨r,mr⟩:=List.exists_mem_of_ne_nil _ h
  obtain⟨p,mp,rfl,e⟩:=Kv mr
  rw[← e]
  exact⟨o.few p mp,o.once p mp,o.row p mp⟩
theorem BkG.bk {L:List Tb}(o:BkG L):Bk (kdL L) (atL L) fun _=>2:=⟨LY L,Kb L,fun t=>rE (o.atR t).1 (by decide),fun _=>by decide,fun t=>(o.atR t).2.2⟩
theorem Xv(h:k<5):TAB.take k++[TAB.getD k ""]=TAB.take (k+1)/\TAB.getD k "" ∉ TAB.take k:=by
 rcases(show k=0 \/ k=1 \/ k=2 \/ k=3 \/ k=4 by omega) with e | e | e | e | e <;> subst e <;> exact⟨rfl,by decide +kernel⟩
theorem Nl (ns:List Int) : ∃ L:List Tb,vQ [lI ns]=some (.dict (kdL L))/\BkG L:=by
 have : ∃ d,vQ [lI ns]=some d /\ ∃ L:List Tb,d = .dict (kdL L)/\BkG L:=by
  refine eJ rfl ?_
  obtain⟨c0,ec0⟩:=qI ns (k:=0) (by omega) (by omega)
  obtain⟨c1,ec1⟩:=qI ns (k:=1) (by omega) (by omega)
  have p34 : ∀ ρ,eOp qZ (eC (.int 10)) (eC (.int 34)) ρ=some (.int (10 ^ 34)):=fun ρ=>aY (a:=.int 10) (b:=.int (34:Nat)) rfl rfl (Am (by omega))
  have p35 : ∀ ρ,eOp qZ (eC (.int 10)) (eC (.int 35)) ρ=some (.int (10 ^ 35)):=fun ρ=>aY (a:=.int 10) (b:=.int (35:Nat)) rfl rfl (Am (by omega))
  obtain⟨M,hM,eM⟩ : ∃ M:Int,0<M/\gIx (.list [.int 9,.int (10 ^ 34*10 ^ 35)]) (.int (c1%2))=some (.int M):=by
   rw[YH]
   by_cases z:c1%2=0
   ·rw[if_pos z]; exact⟨9,by decide,rfl⟩
   ·rw[if_neg z]; exact⟨_,by decide,rfl⟩
  refine cQ (d:=.int (c1 / (8:Nat)%M)) (aY (a:=.int (c1 / (8:Nat))) (b:=.int M) (aY (a:=.int c1) (b:=.int (8:Nat)) (bG (ds:=[lI ns,.int 1]) rfl ec1) rfl (uF c1 8 (by omega))) (aY (a:=.list [.int 9,.int (10 ^ 34*10 ^ 35)]) (b:=.int (c1%2)) (HA (bO rfl (bO (g:=aN) (aY (a:=.int (10 ^ 34)) (b:=.int (10 ^ 35)) (p34 _) (p35 _) (Ff (by decide) Pf)) rfl))) (aY (a:=.int c1) (b:=.int (2:Nat)) (bG (ds:=[lI ns,.int 1]) rfl ec1) rfl (jN c1 2 (by omega))) eM) (by
   show(if 0<M then some (aQ (c1 / (8:Nat)%M)) else none)=_
   rw[if_pos hM])) (by simp) ?_
  generalize c1 / (8:Nat)%M=b
  obtain⟨w,ew⟩:=tQ (iX (c1 / (2:Nat)) (show(0:Int)<(6:Nat) by decide)).1
  refine cQ (d:=.int ((2+w:Nat):Int)) (aY (a:=.int 2) (b:=.int w) rfl (aY (a:=.int (c1 / (2:Nat))) (b:=.int (6:Nat)) (aY (a:=.int c1) (b:=.int (2:Nat)) (bG (ds:=[lI ns,.int 1]) rfl ec1) rfl (uF c1 2 (by omega))) rfl ((jN _ 6 (by omega)).trans (by rw[ew]))) (by
   show some (aQ (2+(w:Int)))=_
   congr 2)) (by simp) ?_
  generalize hf:2+w=f
  have f0:0<f:=by omega
  refine cQ (n:=1) (d:=.dict (kdL [])) rfl (by simp) ?_
  obtain⟨n,en⟩:=tQ (iX c0 (show(0:Int)<(5:Nat) by decide)).1
  have hn:n≤4:=by have:=(iX c0 (show(0:Int)<(5:Nat) by decide)).2; omega
  refine gG (fun ρ'=>∃ (L:List Tb) (x4 x5 x6 x7 x8 x9:L2.Slot),BkG L/\ρ'=[s0 (lI ns),s0 (.int b),s0 (.int (f:Nat)),some (1,.dict (kdL L)),x4,x5,x6,x7,x8,x9]) ?_ ?_
  ·refine CQ (n:=1+n) (fun i ρ'=>∃ (L:List Tb) (x4 x5 x6 x7 x8 x9:L2.Slot),(BkG L/\L.map (·.1)=TAB.take i)/\ρ'=[s0 (lI ns),s0 (.int b),s0 (.int (f:Nat)),some (1,.dict (kdL L)),x4,x5,x6,x7,x8,x9]) (avS (xV (n:=1+n) (bO (aY (a:=.int 1) (b:=.int n) rfl (aY (a:=.int c0) (b:=.int (5:Nat)) (bG (ds:=[lI ns,.int 0]) rfl ec0) rfl ((jN _ 5 (by omega)).trans (by rw[en]))) (by
     show some (aQ (1+(n:Int)))=_
     congr 2)) rfl) (by omega))) ⟨[],none,none,none,none,none,none,⟨⟨pP,fun _ m=>(by simp at m),fun _ m=>(by simp at m),fun _ m=>(by simp at m),fun _ m=>(by simp at m)⟩,rfl⟩,rfl⟩ ?_ ?_
   ·rintro k _ hk ⟨L,x4,x5,x6,x7,x8,x9,⟨o,hk5⟩,rfl⟩
    obtain⟨ti,tm⟩:=YM (show k<5 by omega)
    obtain⟨tt,tn⟩:=Xv (show k<5 by omega)
    generalize TAB.getD k "" = t at ti tm tt tn
    refine⟨[s0 (lI ns),s0 (.int b),s0 (.int (f:Nat)),some (1,.dict (kdL L)),s0 (.int k),x5,x6,x7,x8,x9],rfl,?_⟩
    obtain⟨c,ec⟩:=qI ns (k:=2+(k:Int)) (by omega) (by omega)
    refine cQ (d:=.int c) (bG (ds:=[lI ns,.int (2+(k:Int))]) rfl ec) (by simp) ?_
    refine cQ (n:=1) (d:=bS []) rfl (by simp) ?_
    obtain⟨m,em⟩:=tQ (iX c (show(0:Int)<(61:Nat) by decide)).1
    have hm:m≤60:=by have:=(iX c (show(0:Int)<(61:Nat) by decide)).2; omega
    let A:List L2.Slot:=[s0 (lI ns),s0 (.int b),s0 (.int (f:Nat)),some (1,.dict (kdL L)),s0 (.int k),s0 (.int c)]
    refine gG (fun ρ'=>∃ (R:List (List Int)) (x7 x8 x9:L2.Slot),(R.length≤60/\R.Nodup /\ ∀ r∈R,r.length=2)/\ρ'=A++[some (1,bS R),x7,x8,x9]) ?_ ?_
    ·refine CQ (n:=m) (fun i ρ'=>∃ (R:List (List Int)) (x7 x8 x9:L2.Slot),(R.length≤i/\R.Nodup /\ ∀ r∈R,r.length=2)/\ρ'=A++[some (1,bS R),x7,x8,x9]) (avS (xV (n:=m) (bO (aY (a:=.int c) (b:=.int (61:Nat)) rfl rfl ((jN _ 61 (by omega)).trans (by rw[em]))) rfl) (by omega))) ⟨[],x7,x8,x9,⟨bE _,pP,fun r m=>(by simp at m)⟩,rfl⟩ ?_ ?_
     ·rintro j _ hj ⟨R,x7,x8,x9,⟨h1,h2,h3⟩,rfl⟩
      refine⟨A++[some (1,bS R),s0 (.int j),x8,x9],rfl,?_⟩
      have hj50:=iX (j:Int) (show(0:Int)<(50:Nat) by decide)
      obtain⟨v,ev⟩:=qI ns (k:=7+(j:Int)%(50:Nat)) (by omega) (by omega)
      refine cQ (d:=.int (v+(j:Int)*k)) (aY (a:=.int v) (b:=.int ((j:Int)*k)) (bG (ds:=[lI ns,.int (7+(j:Int)%(50:Nat))]) (bO rfl (bO (aY (a:=.int 7) (b:=.int ((j:Int)%(50:Nat))) rfl (aY (a:=.int j) (b:=.int (50:Nat)) rfl rfl (jN _ 50 (by omega))) rfl) rfl)) ev) (aY (a:=.int j) (b:=.int k) rfl rfl (xQ (by omega))) rfl) (by simp[A]) ?_
      generalize v+(j:Int)*k=q
      refine gG (fun ρ'=>∃ a d:Int,ρ'=A++[some (1,bS R),s0 (.int j),s0 (.int q),s0 (bJ [a,d])]) ?_ ?_
      ·have t3 : ∀ y:Nat,bV .s (bOf (eOp gEq (eOp fN (eOp kN (aB 5) (eC (.int 61))) (eC (.int 3))) (eC (.int y)))) (A++[some (1,bS R),s0 (.int j),s0 (.int q),x9])=some (decide (c / (61:Nat)%(3:Nat)=y)):=fun y=>gR (aY (a:=.int (c / (61:Nat)%(3:Nat))) (b:=.int y) (aY (a:=.int (c / (61:Nat))) (b:=.int (3:Nat)) (aY (a:=.int c) (b:=.int (61:Nat)) rfl rfl (uF c 61 (by omega))) rfl (jN _ 3 (by omega))) rfl (yJ _ _))
       obtain⟨u,eu,_⟩:=ZZ q (k:=(j:Int)) (by omega) (by omega) (n:=f) f0
       obtain⟨u2,eu2,_⟩:=ZZ q (k:=(j:Int)+60) (by omega) (by omega) (n:=f) f0
       have d1:eOp dH (aB 1) (aO nX (aH (aB 8) (aH (aB 7) (aH (aB 2) aN)))) (vS (A++[some (1,bS R),s0 (.int j),s0 (.int q),x9]))=some (.int (b+u)):=aY (a:=.int b) (b:=.int u) rfl (bG (ds:=[.int q,.int j,.int f]) rfl eu) rfl
       have d2:eOp dH (aB 1) (aB 7) (vS (A++[some (1,bS R),s0 (.int j),s0 (.int q),x9]))=some (.int (b+j)):=aY (a:=.int b) (b:=.int j) rfl rfl rfl
       have d3:eOp dH (aB 1) (aO nX (aH (aB 8) (aH (eOp dH (aB 7) (eC (.int 60))) (aH (aB 2) aN)))) (vS (A++[some (1,bS R),s0 (.int j),s0 (.int q),x9]))=some (.int (b+u2)):=aY (a:=.int b) (b:=.int u2) rfl (bG (ds:=[.int q,.int ((j:Int)+60),.int f]) (bO rfl (bO (aY (a:=.int j) (b:=.int 60) rfl rfl rfl) rfl)) eu2) rfl
       by_cases z0:c / (61:Nat)%(3:Nat)=((0:Nat):Int)
       ·exact jQ ((t3 0).trans (by rw[decide_eq_true z0])) (nQ (d:=bJ [b,b+j]) (mP (bO rfl (bO (g:=aN) d2 rfl))) (by simp[A]) ⟨_,rfl,b,b+j,rfl⟩)
       refine mQ ((t3 0).trans (by rw[decide_eq_false z0])) ?_
       by_cases z1:c / (61:Nat)%(3:Nat)=((1:Nat):Int)
       ·exact jQ ((t3 1).trans (by rw[decide_eq_true z1])) (nQ (d:=bJ [b+u,b+u2]) (mP (bO d1 (bO (g:=aN) d3 rfl))) (by simp[A]) ⟨_,rfl,b+u,b+u2,rfl⟩)
       ·exact mQ ((t3 1).trans (by rw[decide_eq_false z1])) (nQ (d:=bJ [b+j,b+u]) (mP (bO d2 (bO (g:=aN) d1 rfl))) (by simp[A]) ⟨_,rfl,b+j,b+u,rfl⟩)
      rintro _ ⟨a,d,rfl⟩
      have tb:bV .a (bOf (eOp (gIn true) (aB 9) (aB 6))) (A++[some (1,bS R),s0 (.int j),s0 (.int q),s0 (bJ [a,d])])=some (true != decide ([a,d]∈R)):=gR (aY (a:=bJ [a,d]) (b:=bS R) rfl rfl (Ll true [a,d] R))
      by_cases hin:[a,d]∈R
      ·exact mQ (tb.trans (by rw[decide_eq_true hin]; rfl)) (qK ⟨_,.inl rfl,R,_,_,_,⟨by omega,h2,h3⟩,rfl⟩)
      ·refine jQ (tb.trans (by rw[decide_eq_false hin]; rfl)) (uP (d:=bJ [a,d]) (ds:=R.map bJ) rfl rfl (by rw[cV]; omega) ⟨_,.inl rfl,R++[[a,d]],s0 (.int j),s0 (.int q),s0 (bJ [a,d]),⟨by simp; omega,?_,fun r mr=>?_⟩,?_⟩)
       ·exact rG.mpr ⟨h2,by simp,fun x hx y hy e=>hin (by rw[bL.mp hy] at e; rw[← e]; exact hx)⟩
       ·rcases oE.mp mr with mr | mr
        ·exact h3 r mr
        ·rw[bL.mp mr]; rfl
       ·unfold bS
        rw[iS]
        rfl
     ·rintro _ ⟨R,x7,x8,x9,⟨h1,h2,h3⟩,rfl⟩
      exact⟨_,rfl,R,x7,x8,x9,⟨by omega,h2,h3⟩,rfl⟩
    rintro _ ⟨R,x7,x8,x9,⟨h1,h2,h3⟩,rfl⟩
    have hnk:t∉L.map (·.1):=by rw[hk5]; exact tn
    refine qH (ZH (d:=bS R) (kd:=.str t) (key:=.inr t) (kds:=kdL L) rfl rfl (aY (a:=.list (TAB.map cI)) (b:=.int k) rfl rfl ti) rfl (by
     have:=congrArg NO hk5
     simp only[cV,wW] at this
     unfold kdL
     rw[cV]
     omega) ⟨_,.inl rfl,L++[(t,R)],s0 (.int k),s0 (.int c),s0 (bS R),x7,x8,x9,⟨?_,by rw[iS,hk5]; exact tt⟩,by rw[ZS hnk]; rfl⟩)
    have app : ∀ p∈L++[(t,R)],p∈L \/ p=(t,R):=fun p m=>(oE.mp m).imp id bL.mp
    refine⟨?_,fun p m=>?_,fun p m=>?_,fun p m=>?_,fun p m=>?_⟩
    ·rw[iS]
     exact rG.mpr ⟨o.nd,by simp,fun x hx y hy e=>hnk (by rw[e,show y=t from bL.mp hy] at hx; exact hx)⟩
    ·rcases app p m with m | rfl
     ·exact o.tab p m
     ·exact tm
    ·rcases app p m with m | rfl
     ·exact o.few p m
     ·exact h1
    ·rcases app p m with m | rfl
     ·exact o.once p m
     ·exact h2
    ·rcases app p m with m | rfl
     ·exact o.row p m
     ·exact h3
   ·rintro _ ⟨L,x4,x5,x6,x7,x8,x9,⟨o,_⟩,rfl⟩
    exact⟨_,rfl,L,x4,x5,x6,x7,x8,x9,o,rfl⟩
  rintro _ ⟨L,x4,x5,x6,x7,x8,x9,o,rfl⟩
  exact HI rfl ⟨_,rfl,L,rfl,o⟩
 obtain⟨d,e,L,rfl,h⟩:=this
 exact⟨L,e,h⟩
abbrev IA:=List (Int×Nat)
def iE (A:IA):List (aA×aA):=A.map fun p=>(.int p.1,.int p.2)
theorem QA (A:IA):plK (iE A)=true:=xW fun kd m=>by
 obtain⟨p,_,rfl⟩:=cY.mp m
 intro z
 cases z
theorem HN (k:Int) : ∀ A:IA,cN (iE A) (.inl k)=(A.lookup k).map fun(n:Nat)=>aQ n
 | []=>rfl
 | (a,n)::A=>by
  show cN ((.int a,.int n)::iE A) (.inl k)=_
  rw[WL,HN k A,nV]
  by_cases h:k=a
  ·rw[if_pos (by rw[h]; rfl),if_pos h]
   rfl
  ·rw[if_neg (fun z=>h (by
    have z:some (jX a:aI)=some (jX k):=z
    injection z with z
    injection z with z
    exact z.symm)),if_neg h]
theorem Ip (A:IA)(k:Int)(n:Nat):putD (iE A) (.inl k) (.int n)=iE (lE A k n):=by
 have ha : ∀ a:Int,decide (cL (aQ a)=some (jX k))=decide (a=k):=fun a=>by
  rw[decide_eq_decide]
  exact⟨fun z=>(by
   have z:some (jX a:aI)=some (jX k):=z
   injection z with z
   injection z),fun z=>by rw[z]; rfl⟩
 have hany:((iE A).any fun kd=>decide (cL kd.1=some (.inl k)))=(A.lookup k).isSome:=by
  induction A with
  | nil=>rfl
  | cons p A ih=>
   obtain⟨a,m⟩:=p
   show(decide (cL (aQ a)=some (jX k))||(iE A).any fun kd=>decide (cL kd.1=some (.inl k)))=_
   rw[ih,ha,nV]
   by_cases h:k=a
   ·rw[if_pos h,decide_eq_true h.symm]
    rfl
   ·rw[if_neg h,decide_eq_false fun z=>h z.symm,Bool.false_or]
 unfold putD lE
 rw[hany]
 split
 ·unfold iE
  rw[fD,fD]
  refine oF fun p _=>?_
  show(if cL (aQ p.1)=some (jX k) then(aQ p.1,aQ n) else(aQ p.1,aQ p.2))=(fun p:Int×Nat=>(aQ p.1,aQ p.2)) (if p.1=k then(p.1,n) else p)
  have:=ha p.1
  by_cases h:p.1=k
  ·rw[decide_eq_true h] at this
   rw[if_pos (of_decide_eq_true this),if_pos h]
  ·rw[decide_eq_false h] at this
   rw[if_neg (of_decide_eq_false this),if_neg h]
 ·unfold iE
  rw[iS]
  rfl
theorem yM {fd fk fx:EF}{A:IA}{k:Int}(hd:fd ρ=some (.dict (iE A)))(hk:fk ρ=some (.int k))(hx:fx ρ=some (.int 0)):gX fd fk fx ρ=some (.int ((A.lookup k).getD 0:Nat)):=by
 rw[yB hd hk (key:=.inl k) rfl (x:=.int 0) hx (QA A),HN]
 cases A.lookup k <;> rfl
theorem Af{A:IA}(h:f ρ=some (.dict (iE A))):iDK f ρ=some ((A.map (·.1)).map aQ):=by
 unfold iDK
 rw[h]
 show(if (plK (iE A)&&(iE A).all fun kd=>cR kd.1)=true then some ((iE A).map (·.1)) else none)=_
 rw[QA,xE,if_pos (fA.mpr fun kd m=>by
  obtain⟨p,_,rfl⟩:=cY.mp m
  rfl)]
 unfold iE
 rw[fD,fD]
 rfl
theorem IK {ρ:bA}{A:IA}{k:Int}(h:f (vA ρ)=some (.int (n:Nat)))(hg:pB i ρ=some (iE A))(hk:g (vS ρ)=some (.int k))(hl:A.length<100000)(kk:P (.nx (ρ.set i (some (1,.dict (iE (lE A k n))))))):Goes (lH i .a f .s g) ρ P:=⟨_,by
 have e1:eV 0 .a f ρ=some (.int (n:Nat)):=evA h rfl
 have e2:eV 0 .s g ρ=some (.int k):=hk
 unfold lH
 rw[e1,cG,hg,cG,e2,cG,show cL (.int k)=some (.inl k) from rfl,cG,if_pos (yE (by unfold iE; rw[cV]; exact pO hl)),Ip],kk⟩
theorem GX(h:r.length=2)(hi:i<2):gIx (bJ r) (.int i)=some (.int (r.getD i 0)):=by
 refine yG ?_
 rw[dI,getD_some 0 (by omega)]
 rfl
section
variable {L:List Tb}{ps:List StP}
abbrev stA (L:List Tb)(p:StP):IA:=qV (stC p) (fun _=>1) (atL L p.1) []
theorem Vb (p:StP)(v:Int):((stA L p).lookup v).getD 0=((atL L p.1).map (stC p)).count v:=by
 rw[JV,← JU,yO]
 show 0+_=_
 rw[wR]
theorem JD (o:BkG L)(p:StP):((stA L p).map (·.1)).Nodup/\(∀ k,k∈(stA L p).map (·.1) ↔ ∃ r∈atL L p.1,stC p r=k)/\(stA L p).length≤60:=by
 obtain⟨h1,h2,h3⟩:=JP (stC p) (fun _=>1) (atL L p.1) ([]:IA) pP
 refine⟨h1,fun k=>(h2 k).trans (by simp),?_⟩
 have:=(o.atR p.1).1
 simp at h3
 exact eO h3 this
def stW (L:List Tb):List StP->Nat
 | []=>1
 | p::tl=>bF ((stA L p).map (·.1)) fun v=>eA (p::tl) fun q=>((atL L q.1).map (stC q)).count v
theorem Wg (o:BkG L)(g:StG ps):wB [.dict (kdL L),lsD (ps.map stL)]=some (.int (stW L ps:Nat)):=by
 have n5:=g.n5
 have : ∃ d,wB [.dict (kdL L),lsD (ps.map stL)]=some d/\d = .int (stW L ps:Nat):=by
  refine eJ rfl ?_
  refine cQ (n:=1) (d:=.list []) rfl (by simp) ?_
  let A:List L2.Slot:=[s0 (.dict (kdL L)),s0 (lsD (ps.map stL))]
  refine gG (fun ρ'=>∃ x3 x4 x5 x6 x7:L2.Slot,ρ'=A++[some (1,.list (ps.map fun p=>.dict (iE (stA L p)))),x3,x4,x5,x6,x7,none,none]) ?_ ?_
  ·refine jJ (xs:=ps) (q:=fun p=>bC (stL p)) (b0:=([]:List StP)) (fun a p=>a++[p]) (fun i a ρ'=>∃ x3 x4 x5 x6 x7:L2.Slot,a.length=i/\ρ'=A++[some (1,.list (a.map fun p=>.dict (iE (stA L p)))),x3,x4,x5,x6,x7,none,none]) (avS (yC (by show some (eI ((ps.map stL).map bC))=_; rw[fD]; rfl))) ⟨none,none,none,none,none,rfl,rfl⟩ ?_ ?_
   ·rintro i p a _ hx ⟨x3,x4,x5,x6,x7,ha,rfl⟩
    have hi:i<ps.length:=(dR.mp hx).1
    have mp:=fK hx
    have hw:=(o.atR p.1).2.2
    have h60:=(o.atR p.1).1
    let T:aA:=.tuple ((stK p).map kD)
    refine⟨A++[some (1,.list (a.map fun p=>.dict (iE (stA L p)))),s0 (.str p.1),s0 T,x5,x6,x7,none,none],rfl,?_⟩
    refine cQ (n:=1) (d:=.dict (iE [])) rfl (by simp[A]) ?_
    have et : ∀ ρ:List (Option aA),ρ[4]?.join=some T->aO tU (aH (eOp gEq (eOp gIx (aB 4) (eC (.int 1))) (eC (.str "x"))) aN) ρ=some (.int ((if p.2.1=true then 1 else 0:Nat):Int)):=fun ρ h=>by
     by_cases z:p.2.1=true
     ·have e1:gIx T (.int 1)=some (.str "x"):=by
       show gIx (.tuple ((stK p).map kD)) (.int 1)=_
       unfold stK
       rw[if_pos z]
       rfl
      rw[if_pos z]
      exact bG (ds:=[.bool true]) (bO (aY (a:=.str "x") (b:=.str "x") (aY (a:=T) (b:=.int 1) h rfl e1) rfl ((ZE (.inr "x") (.inr "x")).trans (by rw[decide_eq_true rfl]))) rfl) rfl
     ·have e1:gIx T (.int 1)=some (.str p.2.2):=by
       show gIx (.tuple ((stK p).map kD)) (.int 1)=_
       unfold stK
       rw[if_neg z]
       rfl
      rw[if_neg z]
      exact bG (ds:=[.bool false]) (bO (aY (a:=.str p.2.2) (b:=.str "x") (aY (a:=T) (b:=.int 1) h rfl e1) rfl ((ZE (.inr p.2.2) (.inr "x")).trans (by rw[decide_eq_false fun w=>g.nx p mp (by injection w)]))) rfl) rfl
    refine gG (fun ρ'=>∃ x6 x7:L2.Slot,ρ'=A++[some (1,.list (a.map fun p=>.dict (iE (stA L p)))),s0 (.str p.1),s0 T,some (1,.dict (iE (stA L p))),x6,x7,none,none]) ?_ ?_
    ·refine jJ (xs:=atL L p.1) (q:=bJ) (b0:=([]:IA)) (fun A r=>kC A (stC p r) 1) (fun j D ρ'=>∃ x6 x7:L2.Slot,D.length≤j/\ρ'=A++[some (1,.list (a.map fun p=>.dict (iE (stA L p)))),s0 (.str p.1),s0 T,some (1,.dict (iE D)),x6,x7,none,none]) (avS (gH (o.bk.get (t:=p.1) rfl rfl))) ⟨x6,x7,bE _,rfl⟩ ?_ ?_
     ·rintro j r D _ hr ⟨x6,x7,hD,rfl⟩
      have hj:j<(atL L p.1).length:=(dR.mp hr).1
      have r2:=hw r (fK hr)
      refine⟨A++[some (1,.list (a.map fun p=>.dict (iE (stA L p)))),s0 (.str p.1),s0 T,some (1,.dict (iE D)),s0 (bJ r),x7,none,none],rfl,?_⟩
      refine cQ (d:=.int (stC p r)) (aY (a:=bJ r) (b:=.int ((if p.2.1=true then 1 else 0:Nat):Int)) rfl (et _ rfl) (GX r2 (by split <;> omega))) (by simp[A]) ?_
      refine IK (A:=D) (k:=stC p r) (n:=(D.lookup (stC p r)).getD 0+1) (aY (a:=.int ((D.lookup (stC p r)).getD 0:Nat)) (b:=.int 1) (yM (A:=D) (k:=stC p r) rfl rfl rfl) rfl rfl) rfl rfl (by omega) ⟨_,.inl rfl,_,_,?_,rfl⟩
      show(lE _ _ _).length≤_
      unfold lE
      split
      ·rw[cV]; omega
      ·rw[pQ]; simp; omega
     ·rintro _ ⟨x6,x7,hD,rfl⟩
      exact⟨_,rfl,x6,x7,rfl⟩
    rintro _ ⟨x6,x7,rfl⟩
    refine qH (uP (d:=.dict (iE (stA L p))) (ds:=a.map fun p=>.dict (iE (stA L p))) rfl rfl (by rw[cV]; omega) ⟨_,.inl rfl,_,_,_,_,_,by simp[ha],by rw[iS]; rfl⟩)
   ·rintro _ ⟨x3,x4,x5,x6,x7,ha,rfl⟩
    refine⟨_,rfl,x3,x4,x5,x6,x7,?_⟩
    have : ∀ (xs a:List StP),xs.foldl (fun a p=>a++[p]) a=a++xs:=by
     intro xs
     induction xs with
     | nil=>intro a; simp
     | cons x xs ih=>intro a; rw[pR,ih]; simp
    rw[this,List.nil_append]
  rintro _ ⟨x3,x4,x5,x6,x7,rfl⟩
  refine qH ?_
  let C:aA:=.list (ps.map fun p=>.dict (iE (stA L p)))
  have tb:bV .s (bOf (eOp gEq (aO dS (aH (aB 2) aN)) (eC (.int 0)))) (A++[s0 C,x3,x4,x5,x6,x7,none,none])=some (decide ((ps.length:Int)=0)):=gR (aY (a:=.int ps.length) (b:=.int 0) (bG (ds:=[C]) rfl ((PJ _).trans (by rw[cV]))) rfl (yJ _ _))
  cases ps with
  | nil=>exact yI (jQ (tb.trans rfl) (dW (d:=.int 1) rfl ⟨_,rfl,_,rfl,rfl⟩))
  | cons p0 tl=>
   refine jG (rX (tb.trans (by rw[decide_eq_false (by simp; omega)]))) ?_
   refine cQ (d:=.int (0:Nat)) rfl (by simp[A,frz]) ?_
   obtain⟨k1,k2,k3⟩:=JD o p0
   refine gG (fun ρ'=>∃ x5 x7 x9:L2.Slot,ρ'=A++[s0 C,x3,x4,x5,x6,x7,s0 (.int (stW L (p0::tl):Nat)),x9]) ?_ ?_
   ·refine jJ (xs:=(stA L p0).map (·.1)) (q:=aQ) (b0:=(0:Nat)) (fun n v=>n+eA (p0::tl) fun q=>((atL L q.1).map (stC q)).count v) (fun _ n ρ'=>∃ x5 x7 x9:L2.Slot,ρ'=A++[s0 C,x3,x4,x5,x6,x7,s0 (.int (n:Nat)),x9]) (avS (Af (A:=stA L p0) (aY (a:=C) (b:=.int 0) rfl rfl (show gIx C (.int ((0:Nat):Int))=_ from ZP (q:=fun p=>MW (iE (stA L p))) (xs:=p0::tl) (j:=0) (x:=p0) rfl)))) ⟨x5,x7,none,rfl⟩ ?_ ?_
    ·rintro i v n _ hx ⟨x5,x7,x9,rfl⟩
     refine⟨A++[s0 C,x3,x4,x5,x6,s0 (.int v),s0 (.int (n:Nat)),x9],rfl,?_⟩
     refine cQ (d:=.int (1:Nat)) rfl (by simp[A]) ?_
     refine gG (fun ρ'=>∃ x5:L2.Slot,ρ'=A++[s0 C,x3,x4,x5,x6,s0 (.int v),s0 (.int (n:Nat)),s0 (.int (eA (p0::tl) fun q=>((atL L q.1).map (stC q)).count v:Nat))]) ?_ ?_
     ·refine jJ (xs:=p0::tl) (q:=fun p=>MW (iE (stA L p))) (b0:=(1:Nat)) (fun m q=>m*((atL L q.1).map (stC q)).count v) (fun _ m ρ'=>∃ x5:L2.Slot,ρ'=A++[s0 C,x3,x4,x5,x6,s0 (.int v),s0 (.int (n:Nat)),s0 (.int (m:Nat))]) (avS (gH rfl)) ⟨x5,rfl⟩ ?_ ?_
      ·rintro j q m _ hq ⟨x5,rfl⟩
       refine⟨A++[s0 C,x3,x4,s0 (.dict (iE (stA L q))),x6,s0 (.int v),s0 (.int (n:Nat)),s0 (.int (m:Nat))],rfl,?_⟩
       have hc:((atL L q.1).map (stC q)).count v<2 ^ 64:=rE List.count_le_length (rE (by rw[cV]; exact(o.atR q.1).1) (by decide))
       refine nQ (d:=.int (m*((atL L q.1).map (stC q)).count v:Nat)) (aY (a:=.int (m:Nat)) (b:=.int (((atL L q.1).map (stC q)).count v:Nat)) rfl ?_ (YB hc)) (by simp[A]) ⟨_,.inl rfl,_,rfl⟩
       rw[← Vb]
       exact yM (A:=stA L q) (k:=v) rfl rfl rfl
      ·rintro _ ⟨x5,rfl⟩
       rw[KA,AV]
       exact⟨_,rfl,x5,rfl⟩
     rintro _ ⟨x5,rfl⟩
     exact nQ (d:=.int (n+eA (p0::tl) fun q=>((atL L q.1).map (stC q)).count v:Nat)) (aY (a:=.int (n:Nat)) (b:=.int (eA (p0::tl) fun q=>((atL L q.1).map (stC q)).count v:Nat)) rfl rfl rfl) (by simp[A]) ⟨_,.inl rfl,_,_,_,rfl⟩
    ·rintro _ ⟨x5,x7,x9,rfl⟩
     rw[JL,wR]
     exact⟨_,rfl,x5,x7,x9,rfl⟩
   rintro _ ⟨x5,x7,x9,rfl⟩
   exact dW rfl ⟨_,rfl,rfl⟩
 obtain⟨d,e,rfl⟩:=this
 exact e
end
section
variable {L:List Tb}
def wyW (L:List Tb):List aC->Nat
 | []=>1
 | t::tl=>bF (atL L t) (gF (tl.map (atL L)))
def aW (R:List (List Int))(done:List (List (List Int))):IA:=qV (fun r:List Int=>r.getD 0 0) (gF done) R []
theorem RL (R:List (List Int))(done:List (List (List Int)))(v:Int):((aW R done).lookup v).getD 0=hF (R::done) v:=by
 unfold aW
 rw[JV]
 show 0+_=_
 rw[wR]
 rfl
def ahD:List (List (List Int))->aA
 | []=>.none
 | R::done=>.dict (iE (aW R done))
theorem Ga(done:List (List (List Int)))(h:f ρ=some (ahD done)):bOf (eOp xH f (eC .none)) ρ=some (decide (done=[])):=by
 cases done with
 | nil=>exact gR (aY (a:=.none) (b:=.none) h rfl rfl)
 | cons R d=>exact gR (aY (a:=.dict (iE (aW R d))) (b:=.none) h rfl rfl)
theorem Wc {V:List Int}{A:IA}(hV:V=A.map (·.1))(nd:V.Nodup):rS (A.map fun p=>aQ (p.2:Nat))=some (A.map fun p=>((p.2:Nat):Int))/\(A.map fun p=>((p.2:Nat):Int)).sum=((bF V fun v=>(A.lookup v).getD 0:Nat):Int):=by
 constructor
 ·clear hV nd
  induction A with
  | nil=>rfl
  | cons p A ih=>
   rw[dF,dF]
   show((rS (A.map fun p=>aQ (p.2:Nat))).bind fun is=>some (((p.2:Nat):Int)::is))=_
   rw[ih]
   rfl
 ·subst hV
  rw[yO,fR (g:=fun p:Int×Nat=>p.2) fun p m=>by rw[HB nd m]; rfl]
  clear nd
  induction A with
  | nil=>rfl
  | cons p A ih=>
   rw[dF,List.sum_cons,eN,ih]
   omega
theorem Mz (o:BkG L)(h5:ts.length≤5):wC [.dict (kdL L),lsD (wyL wyS ts)]=some (.int (wyW L ts:Nat)):=by
 have : ∃ d,wC [.dict (kdL L),lsD (wyL wyS ts)]=some d/\d = .int (wyW L ts:Nat):=by
  refine eJ rfl ?_
  have tb:bV .s (bOf (eOp gEq (aO dS (aH (aB 1) aN)) (eC (.int 0)))) [s0 (.dict (kdL L)),s0 (lsD (wyL wyS ts)),none,none,none,none,none]=some (decide ((ts.length:Int)=0)):=gR (aY (a:=.int ts.length) (b:=.int 0) (bG (ds:=[lsD (wyL wyS ts)]) rfl ((uX _).trans (by rw[cV,uN]))) rfl (yJ _ _))
  by_cases h0:(ts.length:Int)=0
  ·have:ts=[]:=FL (by omega)
   subst this
   exact yI (jQ (tb.trans rfl) (dW (d:=.int 1) rfl ⟨_,rfl,_,rfl,rfl⟩))
  refine jG (rX (tb.trans (by rw[decide_eq_false h0]))) ?_
  refine cQ (d:=ahD []) rfl (by simp) ?_
  let A:List L2.Slot:=[s0 (.dict (kdL L)),s0 (lsD (wyL wyS ts))]
  refine gG (fun ρ'=>∃ x3 x4 x5 x6:L2.Slot,ρ'=A++[s0 (ahD (ts.map (atL L))),x3,x4,x5,x6]) ?_ ?_
  ·refine jJ (xs:=(wyL wyS ts).reverse) (q:=bC) (b0:=([]:List (List (List Int)))) (fun d l=>atL L l.1::d) (fun i d ρ'=>∃ x3 x4 x5 x6:L2.Slot,ρ'=A++[s0 (ahD d),x3,x4,x5,x6]) (avS (by
    show some ((wyL wyS ts).map bC).reverse=_
    rw[NL])) ⟨none,none,none,none,rfl⟩ ?_ ?_
   ·rintro i l d _ hx ⟨x3,x4,x5,x6,rfl⟩
    have hw:=(o.atR l.1).2.2
    have h60:=(o.atR l.1).1
    refine⟨A++[s0 (ahD d),s0 (.str l.1),s0 (.tuple (l.2.map kD)),x5,x6],rfl,?_⟩
    refine cQ (n:=1) (d:=.dict (iE [])) rfl (by simp[A]) ?_
    refine gG (fun ρ'=>∃ x6:L2.Slot,ρ'=A++[s0 (ahD d),s0 (.str l.1),s0 (.tuple (l.2.map kD)),some (1,.dict (iE (aW (atL L l.1) d))),x6]) ?_ ?_
    ·refine jJ (xs:=atL L l.1) (q:=bJ) (b0:=([]:IA)) (fun D r=>kC D (r.getD 0 0) (gF d r)) (fun j D ρ'=>∃ x6:L2.Slot,D.length≤j/\ρ'=A++[s0 (ahD d),s0 (.str l.1),s0 (.tuple (l.2.map kD)),some (1,.dict (iE D)),x6]) (avS (gH (o.bk.get (t:=l.1) rfl rfl))) ⟨x6,bE _,rfl⟩ ?_ ?_
     ·rintro j r D _ hr ⟨x6,hD,rfl⟩
      have hj:j<(atL L l.1).length:=(dR.mp hr).1
      have r2:=hw r (fK hr)
      refine⟨A++[s0 (ahD d),s0 (.str l.1),s0 (.tuple (l.2.map kD)),some (1,.dict (iE D)),s0 (bJ r)],rfl,?_⟩
      have i0 : ∀ ρ:List (Option aA),ρ[6]?.join=some (bJ r)->eOp gIx (aB 6) (eC (.int 0)) ρ=some (.int (r.getD 0 0)):=fun ρ h=>aY (a:=bJ r) (b:=.int ((0:Nat):Int)) h rfl (GX r2 (by omega))
      have i1 : ∀ ρ:List (Option aA),ρ[6]?.join=some (bJ r)->eOp gIx (aB 6) (eC (.int 1)) ρ=some (.int (r.getD 1 0)):=fun ρ h=>aY (a:=bJ r) (b:=.int ((1:Nat):Int)) h rfl (GX r2 (by omega))
      have len:(kC D (r.getD 0 0) (gF d r)).length≤j+1:=by
       unfold kC lE
       split
       ·rw[cV]; omega
       ·rw[pQ]; simp; omega
      have tn:bV .s (bOf (eOp xH (aB 2) (eC .none))) (A++[s0 (ahD d),s0 (.str l.1),s0 (.tuple (l.2.map kD)),some (1,.dict (iE D)),s0 (bJ r)])=some (decide (d=[])):=Ga d rfl
      cases d with
      | nil=>
       refine jQ (tn.trans (by rw[decide_eq_true rfl])) (IK (A:=D) (k:=r.getD 0 0) (n:=(D.lookup (r.getD 0 0)).getD 0+gF [] r) (aY (a:=.int ((D.lookup (r.getD 0 0)).getD 0:Nat)) (b:=.int 1) (yM (A:=D) (k:=r.getD 0 0) rfl (i0 _ rfl) rfl) rfl rfl) rfl (i0 _ rfl) (by omega) ⟨_,.inl rfl,_,len,rfl⟩)
      | cons R d=>
       refine mQ (tn.trans (by rw[decide_eq_false (by simp)])) (IK (A:=D) (k:=r.getD 0 0) (n:=(D.lookup (r.getD 0 0)).getD 0+gF (R::d) r) (aY (a:=.int ((D.lookup (r.getD 0 0)).getD 0:Nat)) (b:=.int (gF (R::d) r:Nat)) (yM (A:=D) (k:=r.getD 0 0) rfl (i0 _ rfl) rfl) ?_ rfl) rfl (i0 _ rfl) (by omega) ⟨_,.inl rfl,_,len,rfl⟩)
       rw[Cv,← RL]
       exact yM (A:=aW R d) (k:=r.getD 1 0) rfl (i1 _ rfl) rfl
     ·rintro _ ⟨x6,hD,rfl⟩
      exact⟨_,rfl,x6,rfl⟩
    rintro _ ⟨x6,rfl⟩
    exact qH (nQ (d:=ahD (atL L l.1::d)) rfl (by simp[A,frz]) ⟨_,.inl rfl,_,_,_,_,rfl⟩)
   ·rintro _ ⟨x3,x4,x5,x6,rfl⟩
    refine⟨_,rfl,x3,x4,x5,x6,?_⟩
    have e1:(wyL wyS ts).reverse.foldl (fun d l=>atL L l.1::d) []=(wyL wyS ts).map fun l=>atL L l.1:=by
     rw[List.foldl_reverse]
     generalize wyL wyS ts=xs
     induction xs with
     | nil=>rfl
     | cons x xs ih=>rw[List.foldr_cons,ih]; rfl
    have e2:((wyL wyS ts).map fun l=>atL L l.1)=ts.map (atL L):=by
     rw[map_range (atL L) "" ts]
     unfold wyL
     rw[fD]
     rfl
    rw[e1,e2]
  rintro _ ⟨x3,x4,x5,x6,rfl⟩
  cases ts with
  | nil=>exact absurd rfl h0
  | cons t tl=>
   obtain⟨k1,k2,k3⟩:=JP (fun r:List Int=>r.getD 0 0) (gF (tl.map (atL L))) (atL L t) ([]:IA) pP
   have k3:(aW (atL L t) (tl.map (atL L))).length≤60:=by
    have:=(o.atR t).1
    simp at k3
    exact eO k3 this
   obtain⟨a1,a2⟩:=Wc (A:=aW (atL L t) (tl.map (atL L))) rfl k1
   have e:=jH (cap:=[none,some 2]) (fi:=iDK (aB 2)) (T:=gB 0) (t:=dG) (f:=eOp gIx (aB 1) (aB 0)) (ρ:=vS (A++[s0 (ahD ((t::tl).map (atL L))),x3,x4,x5,x6])) (xs:=aW (atL L t) (tl.map (atL L))) (q:=fun p=>aQ p.1) (fun _=>true) (fun p=>aQ (p.2:Nat)) ((Af (A:=aW (atL L t) (tl.map (atL L))) rfl).trans (by rw[fD]; rfl)) (by omega) fun p mp=>⟨[some (.int p.1),some (.dict (iE (aW (atL L t) (tl.map (atL L)))))],rfl,rfl,fun _=>aY (a:=.dict (iE (aW (atL L t) (tl.map (atL L))))) (b:=.int p.1) rfl rfl (by
    show cN (iE (aW (atL L t) (tl.map (atL L)))) (.inl p.1)=_
    rw[HN,show(aW (atL L t) (tl.map (atL L))).lookup p.1=some p.2 from HB k1 mp]
    rfl)⟩
   rw[mF.mpr fun _ _=>rfl] at e
   refine dW (d:=.int (wyW L (t::tl):Nat)) (bG (bO e rfl) ?_) ⟨_,rfl,rfl⟩
   show(rS _).bind _=_
   rw[a1,cG,a2]
   congr 3
   rw[fR (g:=fun v=>bF (atL L t) fun q=>if q.getD 0 0=v then gF (tl.map (atL L)) q else 0) fun v _=>RL _ _ v]
   exact Xs (fun q:List Int=>q.getD 0 0) (gF (tl.map (atL L))) (atL L t) k1 fun q mq=>(k2 _).mpr (.inr ⟨q,mq,rfl⟩)
 obtain⟨d,e,rfl⟩:=this
 exact e
end
theorem Hk {L:List Tb}(nd:(L.map (·.1)).Nodup):uA false (.dict (kdL L)) (.dict (kdL L))=some (.bool true):=
 (Fq nd).eqK (fun d ⟨T,e⟩=>by rw[e]; exact Oo T) (fun d ⟨T,e⟩=>by rw[e]; exact Od T) false
section
variable {L:List Tb}
theorem QY (ls:Nat->List aI)(R:Nat->List (List Int)):mI ls R 0=1:=by
 show Wt ls (fun _ _=>1) [] (fun _=>[])=1
 unfold Wt
 rw[if_pos ⟨fun _=>0,fun k m=>by simp at m⟩]
 rfl
theorem VM (o:BkG L){ps:List StP}(g:StG ps):nP [.dict (kdL L),lsD (ps.map stL)]=some (.int (stW L ps:Nat)):=by
 have e:=VU o.bk (fun t=>(o.atR t).1) (fun t=>(o.atR t).2.1) (Er g) (by rw[cV]; exact g.n5) (Mu g)
 rw[e]
 cases ps with
 | nil=>rw[show(FH stL []).length=0 from rfl,QY]; rfl
 | cons p tl=>
  obtain⟨k1,k2,_⟩:=JD o p
  have:=JG (B:=atL L) (fun t=>(o.atR t).2.2) g k1 fun r m=>(k2 _).mpr ⟨r,m,rfl⟩
  rw[show((p::tl).map stL).length=tl.length+1 by simp,this]
  rfl
theorem Zy (o:BkG L){ps:List StP}(g:StG ps):stW L ps.reverse=stW L ps:=by
 have key : ∀ {ps:List StP},StG ps -> ∀ {V:List Int},V.Nodup->(∀ p∈ps,∀ r∈atL L p.1,stC p r∈V)->ps≠[]->stW L ps=bF V fun v=>eA ps fun q=>((atL L q.1).map (stC q)).count v:=by
  intro ps g V nd hV hne
  cases ps with
  | nil=>exact absurd rfl hne
  | cons p tl=>
   obtain⟨k1,k2,_⟩:=JD o p
   have e1:=JG (B:=atL L) (fun t=>(o.atR t).2.2) g k1 fun r m=>(k2 _).mpr ⟨r,m,rfl⟩
   have e2:=JG (B:=atL L) (fun t=>(o.atR t).2.2) g nd (hV p bM)
   exact e1.symm.trans e2
 have g':StG ps.reverse:=⟨by rw[NL]; exact(Bq _).nodup_iff.mpr g.nd,fun p m=>g.nx p (FF.mp m),fun p m=>g.lay p (FF.mp m),by rw[List.length_reverse]; exact g.n5⟩
 by_cases h:ps=[]
 ·rw[h]; rfl
 have hV : ∀ p∈ps,∀ r∈atL L p.1,stC p r∈oO (ps.flatMap fun p=>(atL L p.1).map (stC p)):=fun p m r mr=>Aqh.mpr (NJ.mpr ⟨p,m,cY.mpr ⟨r,mr,rfl⟩⟩)
 have ndV:(oO (ps.flatMap fun p=>(atL L p.1).map (stC p))).Nodup:=by
  have go : ∀ (zs acc:List Int),acc.Nodup->(zs.foldl iG acc).Nodup:=by
   intro zs
   induction zs with
   | nil=>exact fun acc h=>h
   | cons z zs ih=>
    intro acc h
    refine ih _ ?_
    unfold iG
    split
    ·exact h
    ·rename_i hz
     exact rG.mpr ⟨h,by simp,fun a ha b hb e=>hz (by rw[bL.mp hb] at e; rw[← e]; exact ha)⟩
  exact go _ [] pP
 rw[key g ndV hV h,key g' ndV (fun p m=>hV p (FF.mp m)) (by simpa using h)]
 exact fR fun v _=>Qv (Bq ps)
theorem Wl (o:BkG L)(h5:ts.length≤5):nP [.dict (kdL L),lsD (wyL wyS ts)]=some (.int (wyW L ts:Nat)):=by
 have g:=Ef h5
 have e:=VU o.bk (fun t=>(o.atR t).1) (fun t=>(o.atR t).2.1) (Ex g) (by rw[uN]; exact h5) (Mp g)
 rw[e,uN]
 cases ts with
 | nil=>rw[show NO ([]:List aC)=0 from rfl,QY]; rfl
 | cons t tl=>rw[show(t::tl).length=tl.length+1 from rfl,Mo (B:=atL L) (fun t=>(o.atR t).2.2) g]; rfl
theorem JA(h:nP [.dict (kdL L),lsD ls]=some (.int (n:Nat))):mV [.dict (kdL L),lsD ls,.int (n:Nat)]=some (.bool true):=by
 have : ∃ d,mV [.dict (kdL L),lsD ls,.int (n:Nat)]=some d/\d = .bool true:=by
  refine eJ rfl ?_
  refine cQ (d:=.int (n:Nat)) (bG (ds:=[.dict (kdL L),lsD ls]) rfl h) (by simp) ?_
  have en:xO (eUn (gW "bool") (aB 3)) (vS [s0 (.dict (kdL L)),s0 (lsD ls),s0 (.int (n:Nat)),s0 (.int (n:Nat))])=some (.bool true):=rfl
  exact dW (d:=.bool (true&&(true&&true))) (CJ (GT (a:=.int (n:Nat)) rfl rfl) fun _=>CJ en fun _=>aY (a:=.int (n:Nat)) (b:=.int (n:Nat)) rfl rfl ((yJ _ _).trans (by rw[decide_eq_true rfl]))) ⟨_,rfl,rfl⟩
 obtain⟨d,e,rfl⟩:=this
 exact e
end
theorem Ww {α:Type}(f:α->aA)(d:α)(xs:List α):(bR xs.length).map (fun k=>f (xs.getD (xs.length - 1 - k) d))=xs.reverse.map f:=by
 refine NT fun i=>?_
 rw[dI,dI]
 by_cases h:i<xs.length
 ·rw[wY h,List.getElem?_reverse h,getD_some d (show xs.length - 1 - i<xs.length by omega)]
  rfl
 ·rw[BB (by simpa using h),BB (by simpa using h)]
  rfl
theorem Jp (ns:List Int)(hl:ns.length≤63)(hb:xU ns):ER [.list (ns.map .int)]=some (.bool true):=by
 have : ∃ d,ER [lI ns]=some d/\d = .bool true:=by
  refine eJ rfl ?_
  obtain⟨L,eL,o⟩:=Nl ns
  obtain⟨ps,eps,g⟩:=Lu ns L
  obtain⟨ts,ets,h5⟩:=Jb ns L
  have n5:=g.n5
  have hlen:L.length≤5:=by
   have:=List.Nodup.length_le_of_subset o.nd (l₂:=TAB) fun t m=>by
    obtain⟨p,mp,rfl⟩:=cY.mp m
    exact o.tab p mp
   rw[cV] at this
   exact this
  refine cQ (d:=.dict (kdL L)) (bG (ds:=[lI ns]) rfl eL) (by simp) ?_
  have e:=jH (cap:=[none,none]) (fi:=iDI (aB 1)) (T:=gB2 0 1) (t:=dG) (f:=fG (aH (aB 0) (aH (aO uH (aH (aB 1) aN)) aN))) (ρ:=vS [s0 (lI ns),s0 (.dict (kdL L)),none,none,none,none,none,none]) (xs:=L) (q:=fun p=>eI [.str p.1,bS p.2]) (fun _=>true) (fun p=>eI [.str p.1,bS p.2]) (Zb (fun p m=>Lf (o.tab p m)) rfl) (by omega) fun p mp=>⟨[some (.str p.1),some (bS p.2)],rfl,rfl,fun _=>mP (bO rfl (bO (g:=aN) (bG (ds:=[bS p.2]) rfl rfl) rfl))⟩
  rw[mF.mpr fun _ _=>rfl] at e
  refine cQ (d:=.dict (kdL L)) (bG (bO e rfl) (Yf o.nd)) (by simp) ?_
  let S:=lsD (ps.map stL)
  let W:=lsD (wyL wyS ts)
  refine cQ (d:=S) (bG (ds:=[lI ns,.dict (kdL L)]) rfl eps) (by simp) ?_
  refine cQ (d:=W) (bG (ds:=[lI ns,.dict (kdL L)]) rfl ets) (by simp) ?_
  refine cQ (d:=.int (stW L ps:Nat)) (bG (ds:=[.dict (kdL L),S]) rfl (Wg o g)) (by simp) ?_
  refine cQ (d:=.int (wyW L ts:Nat)) (bG (ds:=[.dict (kdL L),W]) rfl (Mz o h5)) (by simp) ?_
  have r1:=JA (VM o g)
  have r2:=JA (Wl o h5)
  have tb:bV .s (bOr (pF (bOf (aO mV (aH (aB 1) (aH (aB 3) (aH (aB 5) aN)))))) (pF (bOf (aO mV (aH (aB 1) (aH (aB 4) (aH (aB 6) aN))))))) [s0 (lI ns),s0 (.dict (kdL L)),s0 (.dict (kdL L)),s0 S,s0 W,s0 (.int (stW L ps:Nat)),s0 (.int (wyW L ts:Nat)),none]=some (!true || !true):=
   Ke (Ac (x:=true) (bG (ds:=[.dict (kdL L),S,.int (stW L ps:Nat)]) rfl r1)) fun _=>Ac (x:=true) (bG (ds:=[.dict (kdL L),W,.int (wyW L ts:Nat)]) rfl r2)
  refine jG (rX tb) ?_
  have g':StG ps.reverse:=⟨by rw[NL]; exact(Bq _).nodup_iff.mpr g.nd,fun p m=>g.nx p (FF.mp m),fun p m=>g.lay p (FF.mp m),by rw[List.length_reverse]; exact g.n5⟩
  have e2:=jH (cap:=[none,some 3]) (fi:=iR1 (aH (aO dS (aH (aB 3) aN)) aN)) (T:=gB 0) (t:=dG) (f:=eOp gIx (aB 1) (eOp oR (eOp oR (aO dS (aH (aB 1) aN)) (eC (.int 1))) (aB 0))) (ρ:=vS [s0 (lI ns),s0 (.dict (kdL L)),s0 (.dict (kdL L)),s0 S,s0 W,s0 (.int (stW L ps:Nat)),s0 (.int (wyW L ts:Nat)),none]) (xs:=bR (ps.map stL).length) (q:=fun(k:Nat)=>aQ k) (fun _=>true) (fun k=>bC ((ps.map stL).getD ((ps.map stL).length - 1 - k) lnD)) (xV (bO (bG (ds:=[S]) rfl ((uX _).trans (by rw[cV]))) rfl) (by rw[cV]; omega)) (by simp; omega) fun k mk=>⟨[some (.int k),some S],rfl,rfl,fun _=>by
   have hk:=lC.mp mk
   refine aY (a:=S) (b:=.int (((ps.map stL).length - 1 - k:Nat):Int)) rfl (aY (a:=.int ((ps.map stL).length - 1)) (b:=.int k) (aY (a:=.int (ps.map stL).length) (b:=.int 1) (bG (ds:=[S]) rfl ((uX _).trans (by rw[cV]))) rfl rfl) rfl ?_) (oV (by omega))
   show some (aQ (((ps.map stL).length:Int) - 1 - (k:Int)))=_
   congr 2
   omega⟩
  rw[mF.mpr fun _ _=>rfl,Ww bC lnD (ps.map stL),← NL] at e2
  refine cQ (d:=lsD (ps.reverse.map stL)) (bG (bO e2 rfl) rfl) (by simp) ?_
  have r3:=JA (VM o g')
  rw[Zy o g] at r3
  exact dW (d:=.bool (true&&(true&&true))) (CJ (bG (ds:=[.dict (kdL L),lsD (ps.reverse.map stL),.int (stW L ps:Nat)]) rfl r3) fun _=>CJ (bG (ds:=[.dict (kdL L),W,.int (wyW L ts:Nat)]) rfl r2) fun _=>aY (a:=.dict (kdL L)) (b:=.dict (kdL L)) rfl rfl (Hk o.nd)) ⟨_,rfl,rfl⟩
 obtain⟨d,e,rfl⟩:=this
 exact e
def EU (K:aK):Sp:=fun vs H Q _=>∃ (a:aD) (ns:List Int),vs=[.ref a]/\SqL K H a (ns.map V.int)/\ns.length≤63/\xU ns /\ ∀ H',Q (.bl true) H'
theorem Iq : ∀ vs H Q E,EU K vs H Q E->spF K 0 ER vs H Q E:=fun vs H Q E gh=>by
 obtain⟨a,ns,ev,hS,hl,hb,k⟩:=gh
 subst ev
 have e0:hid H (fun _=>False)=H:=by
  funext b
  unfold hid
  rw[if_neg (fun z=>z)]
 refine⟨fun _=>False,[.list (ns.map aQ)],.bool true,fun _ z=>z.elim,?_,Jp ns hl hb,dU fun v H' _ r=>?_⟩
 ·rw[e0]
  exact Aah.mpr ⟨_,_,rfl,Abl.mpr ⟨a,_,rfl,hS,UX ns⟩,Aan.mpr rfl⟩
 ·rw[Aax.mp r]
  exact k H'
def Hl (K:aK)(n:aC)(st:cB)(f:aD):Prop:=∃ (od an:Option aD) (sl:Array (Option aE)) (oc kV dc pm cd ct:aE),fF K dM n=some (some (.ref f))/\K.lookup f=some ⟨oc,od,.func (lA n n (lL st) (kG st) (bX st) .none kV dc pm an cd ct),sl⟩/\AQ K cd n=true/\tM K (.ref f)=true
def Hs (K:aK)(n:aC)(st:cB)(f:aD):Prop:=∃ fd,Fun K n n st f fd/\fF K dM n=some (some (.ref f))/\tM K (.ref f)=true
section
variable {n:aC}{f:aD}
theorem Biu {od an:Option aD}{sl:Array (Option aE)}{oc kV dc pm cd ct:aE}(a:fF K dM n=some (some (.ref f)))(l:K.lookup f=some ⟨oc,od,.func (lA n n (lL st) (kG st) (bX st) .none kV dc pm an cd ct),sl⟩)(c:AQ K cd n=true)(k:tM K (.ref f)=true):Hl K n st f:=⟨_,_,_,_,_,_,_,_,_,a,l,c,k⟩
theorem Adj {od an:Option aD}{sl:Array (Option aE)}{oc kV dc pm cd ct:aE}(a:fF K dM n=some (some (.ref f)))(l:K.lookup f=some ⟨oc,od,.func (lA n n (lL st) (kG st) (bX st) .none kV dc pm an cd ct),sl⟩)(c:AQ K cd n=true)(k:tM K (.ref f)=true):Hs K n st f:=⟨_,XY (st:=st) l c k,a,k⟩
def Hs.fd (h:Hs K n st f):gV:=Classical.choose h
theorem Hs.fn (h:Hs K n st f):Fun K n n st f h.fd:=(Cn h).1
theorem Hs.df {P:bT}{w:bI}{mg:aC->Option aE}{h base:aZ}{sp:Sp}(X:K.In h)(G:h.Ns dM mg)(H:Hs K n st f)(ok:FnOk P w K mg base CX0 k f H.fd ps sp)(b:Binds K H.fd ps []):Def P w K mg base n k ps sp:=⟨_,_,ok,Ay X G (Cn H).2.1,(Cn H).2.2,b⟩
end
theorem nW {us:List aE}(h:us.length=n+1) : ∃ a r,us=a::r/\r.length=n:=by
 cases us with
 | nil=>exact absurd h (by simp)
 | cons a r=>exact⟨a,r,rfl,Nat.succ.inj h⟩
theorem tY{f:aD}{fd:gV}(F:Fun K x qual st f fd)(hp:ps.length=1)(h : ∀ (kV doc pm:aE) (an:Option aD) (cdv ct:aE) a,AM (lA x qual (lL st) (kG st) (bX st) .none kV doc pm an cdv ct) ⟨[a],[]⟩=pure (ps.zip [a])):Binds K fd ps []:=F.binds fun kV doc pm an cdv ct u0 hl=>by
 have g0:=hl.trans hp
 clear hl
 obtain⟨a,u1,rfl,g1⟩:=nW g0
 cases FL g1
 exact h kV doc pm an cdv ct a
theorem iF{f:aD}{fd:gV}(F:Fun K x qual st f fd)(hp:ps.length=2)(h : ∀ (kV doc pm:aE) (an:Option aD) (cdv ct:aE) a b,AM (lA x qual (lL st) (kG st) (bX st) .none kV doc pm an cdv ct) ⟨[a,b],[]⟩=pure (ps.zip [a,b])):Binds K fd ps []:=F.binds fun kV doc pm an cdv ct u0 hl=>by
 have g0:=hl.trans hp
 clear hl
 obtain⟨a,u1,rfl,g1⟩:=nW g0
 obtain⟨b,u2,rfl,g2⟩:=nW g1
 cases FL g2
 exact h kV doc pm an cdv ct a b
theorem pW{f:aD}{fd:gV}(F:Fun K x qual st f fd)(hp:ps.length=3)(h : ∀ (kV doc pm:aE) (an:Option aD) (cdv ct:aE) a b c,AM (lA x qual (lL st) (kG st) (bX st) .none kV doc pm an cdv ct) ⟨[a,b,c],[]⟩=pure (ps.zip [a,b,c])):Binds K fd ps []:=F.binds fun kV doc pm an cdv ct u0 hl=>by
 have g0:=hl.trans hp
 clear hl
 obtain⟨a,u1,rfl,g1⟩:=nW g0
 obtain⟨b,u2,rfl,g2⟩:=nW g1
 obtain⟨c,u3,rfl,g3⟩:=nW g2
 cases FL g3
 exact h kV doc pm an cdv ct a b c
theorem Dj{f:aD}{fd:gV}(F:Fun K x qual st f fd)(hp:ps.length=4)(h : ∀ (kV doc pm:aE) (an:Option aD) (cdv ct:aE) a b c d,AM (lA x qual (lL st) (kG st) (bX st) .none kV doc pm an cdv ct) ⟨[a,b,c,d],[]⟩=pure (ps.zip [a,b,c,d])):Binds K fd ps []:=F.binds fun kV doc pm an cdv ct u0 hl=>by
 have g0:=hl.trans hp
 clear hl
 obtain⟨a,u1,rfl,g1⟩:=nW g0
 obtain⟨b,u2,rfl,g2⟩:=nW g1
 obtain⟨c,u3,rfl,g3⟩:=nW g2
 obtain⟨d,u4,rfl,g4⟩:=nW g3
 cases FL g4
 exact h kV doc pm an cdv ct a b c d
set_option maxHeartbeats 4000000 in
theorem all_mk {l:Bf}{w:bI}{h:aZ}{mg:aC->Option aE}{fa f_names_of f_put_in f_fits f_rows_of f_ways_of f__law_cell f__law_draw f__law_star_wanted f__law_way_wanted f_shared f_refuse_rows f_extended f_fitting f_common f_key_of f__law_book f__law_table f_parent_of f_refuse_ways f_walked f_all_fitting f_summed f_times f__law_star f__law_way f_first_ear f_ears f_ring f_walk_rest f_count_parents f_refuse_ring f_many f__law_right f_law:aD}(X:K.In h)(G:h.Ns dM mg)(hfa:mg "law" = some (.ref fa)){t_MOST_WAYS:Tok}
  (h_names_of:Hs K "names_of" KJ f_names_of) (h_put_in:Hs K "put_in" CW f_put_in) (h_fits:Hs K "fits" GW f_fits) (h_rows_of:Hs K "rows_of" JZ f_rows_of) (h_ways_of:Hs K "ways_of" JT f_ways_of) (h__law_cell:Hs K "_law_cell" KU f__law_cell) (h__law_draw:Hs K "_law_draw" KQ f__law_draw) (h__law_star_wanted:Hs K "_law_star_wanted" LM f__law_star_wanted) (h__law_way_wanted:Hs K "_law_way_wanted" EH f__law_way_wanted) (h_shared:Hs K "shared" CV f_shared) (h_refuse_rows:Hs K "refuse_rows" LI f_refuse_rows) (h_extended:Hs K "extended" KD f_extended) (h_fitting:Hs K "fitting" DR f_fitting) (h_common:Hs K "common" DB f_common) (h_key_of:Hs K "key_of" JF f_key_of) (h__law_book:Hs K "_law_book" KS f__law_book) (h__law_table:Hs K "_law_table" LD f__law_table) (h_parent_of:Hs K "parent_of" zI f_parent_of) (h_refuse_ways:Hs K "refuse_ways" EG f_refuse_ways) (h_walked:Hs K "walked" IM f_walked) (h_all_fitting:Hs K "all_fitting" EE f_all_fitting) (h_summed:Hs K "summed" IR f_summed) (h_times:Hs K "times" CH f_times) (h__law_star:Hs K "_law_star" KY f__law_star) (h__law_way:Hs K "_law_way" KI f__law_way) (h_first_ear:Hs K "first_ear" KR f_first_ear) (h_ears:Hs K "ears" LV f_ears) (h_ring:Hs K "ring" MA f_ring) (h_walk_rest:Hs K "walk_rest" zG f_walk_rest) (h_count_parents:Hs K "count_parents" zY f_count_parents) (h_refuse_ring:Hs K "refuse_ring" ED f_refuse_ring) (h_many:Hs K "many" MB f_many) (h__law_right:Hs K "_law_right" LK f__law_right) (h_law:Hl K "law" oI f_law)
  (z_isinstance:fF K dM "isinstance" = some none) (z_int:fF K dM "int" = some none) (z_bool:fF K dM "bool" = some none) (z_abs:fF K dM "abs" = some none) (z_range:fF K dM "range" = some none) (z_len:fF K dM "len" = some none) (z_str:fF K dM "str" = some none) (z_all:fF K dM "all" = some none) (z_any:fF K dM "any" = some none) (z_list:fF K dM "list" = some none) (z_tuple:fF K dM "tuple" = some none) (z_dict:fF K dM "dict" = some none) (z_set:fF K dM "set" = some none) (z_sorted:fF K dM "sorted" = some none) (z_sum:fF K dM "sum" = some none) (z_min:fF K dM "min" = some none) (z_max:fF K dM "max" = some none) (z_enumerate:fF K dM "enumerate" = some none) (z_zip:fF K dM "zip" = some none) (z_reversed:fF K dM "reversed" = some none) (z_ValueError:fF K dM "ValueError" = some none) (g_MOST_WAYS:fF K dM "MOST_WAYS" = some (some (.int 4096 t_MOST_WAYS))) :
  ∃ fd:gV,(∀ (s:aJ) (v:aE),BindsTo s fd ⟨[v],[]⟩ [("_law_script",v)]) /\ ∀ base:aZ,K.In base->base.Ns dM mg->FnOk l.prog w K mg base CX0 10 fa fd ["_law_script"] (EU K):=by
 obtain⟨_,an_law,_,_,kV_law,dc_law,pm_law,cd_law,ct_law,a_law,l_law,c_law,k_law⟩:=h_law
 have e:=hfa.symm.trans (Ay X G a_law)
 cases e
 have B:Blt mg:=⟨gU X G z_isinstance,gU X G z_int,gU X G z_bool,gU X G z_abs,gU X G z_range,gU X G z_len,gU X G z_str,gU X G z_all,gU X G z_any,gU X G z_list,gU X G z_tuple,gU X G z_dict,gU X G z_set,gU X G z_sorted,gU X G z_sum,gU X G z_min,gU X G z_max,gU X G z_enumerate,gU X G z_zip,gU X G z_reversed,gU X G z_ValueError⟩
 have C:Cst mg:=⟨⟨_,Ay X G g_MOST_WAYS⟩⟩
 refine⟨lA "law" "law" (lL oI) (kG oI) (bX oI) .none kV_law dc_law pm_law an_law cd_law ct_law,fun s v=>.of_eq rfl,fun base _ _=>?_⟩
 have D_names_of:Def l.prog w K mg base "names_of" 1 vV (spF K 1 oZ):=h_names_of.df X G (Ri h_names_of.fn B C ) (tY h_names_of.fn (ps:=vV) rfl fun _ _ _ _ _ _ _=>rfl)
 have D_put_in:Def l.prog w K mg base "put_in" 1 uY (spF K 0 nU):=h_put_in.df X G (Zj h_put_in.fn B C ) (iF h_put_in.fn (ps:=uY) rfl fun _ _ _ _ _ _ _ _=>rfl)
 have D_fits:Def l.prog w K mg base "fits" 1 sL (spF K 1 mN):=h_fits.df X G (Kl h_fits.fn B C ) (pW h_fits.fn (ps:=sL) rfl fun _ _ _ _ _ _ _ _ _=>rfl)
 have D_rows_of:Def l.prog w K mg base "rows_of" 1 vJ (spF K 0 lO):=h_rows_of.df X G (Qb h_rows_of.fn B C ) (iF h_rows_of.fn (ps:=vJ) rfl fun _ _ _ _ _ _ _ _=>rfl)
 have D_ways_of:Def l.prog w K mg base "ways_of" 1 yY (spF K 0 sU):=h_ways_of.df X G (Qx h_ways_of.fn B C ) (tY h_ways_of.fn (ps:=yY) rfl fun _ _ _ _ _ _ _=>rfl)
 have D__law_cell:Def l.prog w K mg base "_law_cell" 1 qS (spF K 0 iM):=h__law_cell.df X G (Tp h__law_cell.fn B C ) (iF h__law_cell.fn (ps:=qS) rfl fun _ _ _ _ _ _ _ _=>rfl)
 have D__law_draw:Def l.prog w K mg base "_law_draw" 1 zJ (spF K 0 nX):=h__law_draw.df X G (Te h__law_draw.fn B C ) (pW h__law_draw.fn (ps:=zJ) rfl fun _ _ _ _ _ _ _ _ _=>rfl)
 have D__law_star_wanted:Def l.prog w K mg base "_law_star_wanted" 1 AA (spF K 0 wB):=h__law_star_wanted.df X G (Uv h__law_star_wanted.fn B C ) (iF h__law_star_wanted.fn (ps:=AA) rfl fun _ _ _ _ _ _ _ _=>rfl)
 have D__law_way_wanted:Def l.prog w K mg base "_law_way_wanted" 1 zX (spF K 0 wC):=h__law_way_wanted.df X G (Uw h__law_way_wanted.fn B C ) (iF h__law_way_wanted.fn (ps:=zX) rfl fun _ _ _ _ _ _ _ _=>rfl)
 have D_shared:Def l.prog w K mg base "shared" 2 yN (spF K 1 vB):=h_shared.df X G (Zq h_shared.fn B C D_names_of) (iF h_shared.fn (ps:=yN) rfl fun _ _ _ _ _ _ _ _=>rfl)
 have D_refuse_rows:Def l.prog w K mg base "refuse_rows" 2 zV (spF K 0 vY):=h_refuse_rows.df X G (Uk h_refuse_rows.fn B C D_ways_of) (tY h_refuse_rows.fn (ps:=zV) rfl fun _ _ _ _ _ _ _=>rfl)
 have D_extended:Def l.prog w K mg base "extended" 2 zF (spF K 1 vW):=h_extended.df X G (Sn h_extended.fn B C D_fits) (pW h_extended.fn (ps:=zF) rfl fun _ _ _ _ _ _ _ _ _=>rfl)
 have D_fitting:Def l.prog w K mg base "fitting" 2 yV (spF K 1 sS):=h_fitting.df X G (Qn h_fitting.fn B C D_fits D_rows_of) (iF h_fitting.fn (ps:=yV) rfl fun _ _ _ _ _ _ _ _=>rfl)
 have D_common:Def l.prog w K mg base "common" 2 yU (spF K 1 vF):=h_common.df X G (Pk h_common.fn B C D_names_of) (iF h_common.fn (ps:=yU) rfl fun _ _ _ _ _ _ _ _=>rfl)
 have D_key_of:Def l.prog w K mg base "key_of" 2 vE (spF K 0 oY):=h_key_of.df X G (Oi h_key_of.fn B C D_put_in D_fits) (pW h_key_of.fn (ps:=vE) rfl fun _ _ _ _ _ _ _ _ _=>rfl)
 have D__law_book:Def l.prog w K mg base "_law_book" 2 zQ (spF K 1 vQ):=h__law_book.df X G (Tf h__law_book.fn B C D__law_cell D__law_draw) (tY h__law_book.fn (ps:=zQ) rfl fun _ _ _ _ _ _ _=>rfl)
 have D__law_table:Def l.prog w K mg base "_law_table" 2 vX (spF K 0 qP):=h__law_table.df X G (Ua h__law_table.fn B C D__law_cell) (pW h__law_table.fn (ps:=vX) rfl fun _ _ _ _ _ _ _ _ _=>rfl)
 have D_parent_of:Def l.prog w K mg base "parent_of" 3 zK (spF K 0 vR):=h_parent_of.df X G (Ss h_parent_of.fn B C D_shared) (pW h_parent_of.fn (ps:=zK) rfl fun _ _ _ _ _ _ _ _ _=>rfl)
 have D_refuse_ways:Def l.prog w K mg base "refuse_ways" 3 zT (spF K 0 vZ):=h_refuse_ways.df X G (Uo h_refuse_ways.fn B C D_rows_of D_refuse_rows) (iF h_refuse_ways.fn (ps:=zT) rfl fun _ _ _ _ _ _ _ _=>rfl)
 have D_walked:Def l.prog w K mg base "walked" 3 yT (spF K 0 vG):=h_walked.df X G (a9 h_walked.fn B C D_extended) (iF h_walked.fn (ps:=yT) rfl fun _ _ _ _ _ _ _ _=>rfl)
 have D_all_fitting:Def l.prog w K mg base "all_fitting" 3 zW (spF K 1 sX):=h_all_fitting.df X G (Uh h_all_fitting.fn B C D_fitting) (iF h_all_fitting.fn (ps:=zW) rfl fun _ _ _ _ _ _ _ _=>rfl)
 have D_summed:Def l.prog w K mg base "summed" 3 yS (spF K 0 uZ):=h_summed.df X G (Oq h_summed.fn B C D_key_of) (pW h_summed.fn (ps:=yS) rfl fun _ _ _ _ _ _ _ _ _=>rfl)
 have D_times:Def l.prog w K mg base "times" 3 yF (spF K 0 uV):=h_times.df X G (Wd h_times.fn B C D_key_of) (Dj h_times.fn (ps:=yF) rfl fun _ _ _ _ _ _ _ _ _ _=>rfl)
 have D__law_star:Def l.prog w K mg base "_law_star" 3 zO (spF K 0 vP):=h__law_star.df X G (To h__law_star.fn B C D__law_cell D__law_table) (iF h__law_star.fn (ps:=zO) rfl fun _ _ _ _ _ _ _ _=>rfl)
 have D__law_way:Def l.prog w K mg base "_law_way" 3 zM (spF K 0 vU):=h__law_way.df X G (Rx h__law_way.fn B C D__law_cell D__law_table) (iF h__law_way.fn (ps:=zM) rfl fun _ _ _ _ _ _ _ _=>rfl)
 have D_first_ear:Def l.prog w K mg base "first_ear" 4 zR (spF K 0 lQ):=h_first_ear.df X G (Su h_first_ear.fn B C D_parent_of) (iF h_first_ear.fn (ps:=zR) rfl fun _ _ _ _ _ _ _ _=>rfl)
 have D_ears:Def l.prog w K mg base "ears" 5 qG (spF K 2 kF):=h_ears.df X G (Kw h_ears.fn B C D_first_ear) (tY h_ears.fn (ps:=qG) rfl fun _ _ _ _ _ _ _=>rfl)
 have D_ring:Def l.prog w K mg base "ring" 6 xR (spF K 1 qC):=h_ring.df X G (Ly h_ring.fn B C D_ears) (tY h_ring.fn (ps:=xR) rfl fun _ _ _ _ _ _ _=>rfl)
 have D_walk_rest:Def l.prog w K mg base "walk_rest" 6 zP (spF K 0 vT):=h_walk_rest.df X G (Tr h_walk_rest.fn B C D_walked D_ears) (iF h_walk_rest.fn (ps:=zP) rfl fun _ _ _ _ _ _ _ _=>rfl)
 have D_count_parents:Def l.prog w K mg base "count_parents" 6 zZ (spF K 1 wA):=h_count_parents.df X G (Us h_count_parents.fn B C D_common D_summed D_times D_ears) (iF h_count_parents.fn (ps:=zZ) rfl fun _ _ _ _ _ _ _ _=>rfl)
 have D_refuse_ring:Def l.prog w K mg base "refuse_ring" 7 zU (spF K 0 qQ):=h_refuse_ring.df X G (Ul h_refuse_ring.fn B C D_refuse_ways D_ring) (iF h_refuse_ring.fn (ps:=zU) rfl fun _ _ _ _ _ _ _ _=>rfl)
 have D_many:Def l.prog w K mg base "many" 8 xX (spF K 0 nP):=h_many.df X G (Nb h_many.fn B C D_put_in D_all_fitting D_ears D_walk_rest D_count_parents D_refuse_ring) (iF h_many.fn (ps:=xX) rfl fun _ _ _ _ _ _ _ _=>rfl)
 have D__law_right:Def l.prog w K mg base "_law_right" 9 zN (spF K 0 mV):=h__law_right.df X G (Ud h__law_right.fn B C D_many) (pW h__law_right.fn (ps:=zN) rfl fun _ _ _ _ _ _ _ _ _=>rfl)
 exact(Gy (XY (st:=oI) l_law c_law k_law) B C D__law_star_wanted D__law_way_wanted D__law_book D__law_star D__law_way D__law_right).imp Iq
theorem walk {l:Bf}{q:bT}{loose:List aC}{XP:(aC->Option aE)->aZ->Prop}{YP:bI->aZ->Prop}{d:DefRec}{K:Params->aK}(hn:l.most=some 63)(hdf:d.params.defaults=[])
  (hY : ∀ (w:bI) (h:aZ),YP w h->(K w.params).In h)
  (F : ∀ (w:bI) (mg:aC->Option aE) (fa:aD) (h:aZ),(K w.params).In h->h.Ns dM mg->mg d.name=some (.ref fa) ->
   ∃ fd:gV,(∀ (s:aJ) (u:aE),BindsTo s fd ⟨[u],[]⟩ [("_law_script",u)]) /\ ∀ base:aZ,(K w.params).In base->base.Ns dM mg->FnOk l.prog w (K w.params) mg base CX0 10 fa fd ["_law_script"] (EU (K w.params))) :
  PySem.W.WalkO q loose XP YP l.row.toRowW d [] (fun f vs=>PySem.call f vs):=
 L2.A6x (n:=63) (k:=10) (x:="_law_script") (CX:=fun _=>CX0) (sp:=fun w=>EU (K w.params)) hn (by decide) hdf ⟨rfl,by decide,by decide⟩ hY F (fun _ _ a ns hb hl _ hS=>⟨a,ns,rfl,hS,hl,hb,fun _=>rfl⟩) fun _ _ _ _ _ z=>z
end Aw
def PySem.W.Fast.tw10817857417518205560:=0
def PySem.W.Fast.tw4245211358022211629:=0
def PySem.W.Fast.tw12440741871346084957:=0
def PySem.W.Fast.tw14927780473929718028:=0
def PySem.W.Fast.tw117243567772853066:=0
def PySem.W.Fast.tw11807061821822360805:=0
def PySem.W.Fast.tw5059158551061715750:=0
def PySem.W.Fast.tw2481530845852951319:=0
def PySem.W.Fast.tw12686549561754046338:=0
def PySem.W.Fast.tw1264104798591545224:=0
def PySem.W.Fast.tw7495086774775923122:=0
def PySem.W.Fast.tw12100954638811800755:=0
def PySem.W.Fast.tw10783219283842981130:=0
def PySem.W.Fast.tw522895899922324973:=0
def PySem.W.Fast.tw296137258010505300:=0
def PySem.W.Fast.tw12554465676899709842:=0
def PySem.W.Fast.tw8644498076142775650:=0
def PySem.W.Fast.tw15370230972609449954:=0
def PySem.W.Fast.tw17634875089326259644:=0
def PySem.W.Fast.tw2414582026424337090:=0
def PySem.W.Fast.tw9201718421956212460:=0
def PySem.W.Fast.tw12879358938149198881:=0
def PySem.W.Fast.tw13516815296403760173:=0
def PySem.W.Fast.tw9737116101325990770:=0
def PySem.W.Fast.tw4543097037722686235:=0
def PySem.W.Fast.tw16793330165410075181:=0
def PySem.W.Fast.tw4643033262467743615:=0
def PySem.W.Fast.tw17084771604433114635:=0
def PySem.W.Fast.tw6620982982414367149:=0
def PySem.W.Fast.tw18408368894748591777:=0
def PySem.W.Fast.tw12672877902062034285:=0
def PySem.W.Fast.tw1663468327706973889:=0
def PySem.W.Fast.tw7556246642956726746:=0
def PySem.W.Fast.tw3265531539692828588:=0
def PySem.W.Fast.tw2304940909356791199:=0
def PySem.W.Fast.tw11797368610852302943:=0
def PySem.W.Fast.tw7858872955621067362:=0
def PySem.W.Fast.tw16696057499580124188:=0
def PySem.W.Fast.tw1601916749189193579:=0
def PySem.W.Fast.tw9877273304172052760:=0
def PySem.W.Fast.tw2192442122134205071:=0
def PySem.W.Fast.tw9386088292256494491:=0
def PySem.W.Fast.tw18148614225818900582:=0
def PySem.W.Fast.tw13639103735501675515:=0
def PySem.W.Fast.tw11281392273810395900:=0
def PySem.W.Fast.tw7334671982379402299:=0
def PySem.W.Fast.tw3591964137568899881:=0
def PySem.W.Fast.tw10774711038902854081:=0
def PySem.W.Fast.tw3404772902097737328:=0
def PySem.W.Fast.tw8941419611164962788:=0
def PySem.W.Fast.tw10782672223818945297:=0
def PySem.W.Fast.tw9415226941803631771:=0
def PySem.W.Fast.tw15678890291779421144:=0
def PySem.W.Fast.tw8479475885713376940:=0
def PySem.W.Fast.tw12881509816539880522:=0
def PySem.W.Fast.tw11985918953607519092:=0
def PySem.W.Fast.tw12870232893858793031:=0
def PySem.W.Fast.tw11575093611430462355:=0
def PySem.W.Fast.tw15659443226802311942:=0
def PySem.W.Fast.tw17631008577549385727:=0
def PySem.W.Fast.tw17942183396090832305:=0
def PySem.W.Fast.tw8032813595123499113:=0
def PySem.W.Fast.tw5032495490947795125:=0
def PySem.W.Fast.tw5722730757488403364:=0
def PySem.W.Fast.tw9474083795883309300:=0
def PySem.W.Fast.tw16677856520060772534:=0
def PySem.W.Fast.tw8714649163627161084:=0
def PySem.W.Fast.tw6816316223131871007:=0
def PySem.W.Fast.tw2369402753487390474:=0
def PySem.W.Fast.tw3898982311862846778:=0
def PySem.W.Fast.tw16449043559836420519:=0
def PySem.W.Fast.tw16558107011099325517:=0
def PySem.W.Fast.tw12597338333658935:=0
def PySem.W.Fast.tw7385549890768688970:=0
def PySem.W.Fast.tw6415605830643884219:=0
def PySem.W.Fast.tw12882078054548097117:=0
def PySem.W.Fast.tw11875072952190524523:=0
def PySem.W.Fast.tw14230577337973939376:=0
def PySem.W.Fast.tw2677587239268411600:=0
def PySem.W.Fast.tw13139450859345551795:=0
def PySem.W.Fast.tw15228155263482594368:=0
def PySem.W.Fast.tw18365525244351627008:=0
def PySem.W.Fast.tw13559672474762214573:=0
def PySem.W.Fast.tw1306053021902868434:=0
def PySem.W.Fast.tw3319954721721905940:=0
def PySem.W.Fast.tw11460605767030928694:=0
def PySem.W.Fast.tw9102167657590743543:=0
def PySem.W.Fast.tw637085710015613221:=0
def PySem.W.Fast.tw2042555363021774156:=0
def PySem.W.Fast.tw15548450779156528190:=0
def PySem.W.Fast.tw16426102499054094536:=0
def PySem.W.Fast.tw4560505138026654764:=0
def PySem.W.Fast.tw11323108968227869307:=0
def PySem.W.Fast.tw1693287468768807613:=0
def PySem.W.Fast.tw16652537534776840209:=0
def PySem.W.Fast.tw4802843096270935898:=0
def PySem.W.Fast.tw16081219002246123979:=0
def PySem.W.Fast.tw11021023332590715158:=0
def PySem.W.Fast.tw15452103627734836603:=0
def PySem.W.Fast.tw2874843418013564021:=0
def PySem.W.Fast.tw1975790281949227873:=0
def PySem.W.Fast.tw14201608055046346052:=0
def PySem.W.Fast.tw2826885808751622808:=0
def PySem.W.Fast.tw7512844103749422907:=0
def PySem.W.Fast.tw2074338855472072173:=0
def PySem.W.Fast.tw14506882269432224941:=0
def PySem.W.Fast.tw3035779796125456838:=0
def PySem.W.Fast.tw3482783979561217919:=0
def PySem.W.Fast.tw10223445865327210408:=0
def PySem.W.Fast.tw531445834406743262:=0
def PySem.W.Fast.tw4086001005693238004:=0
def PySem.W.Fast.tw6091798815767909645:=0
def PySem.W.Fast.tw17195287660602928686:=0
def PySem.W.Fast.tw12867045241858843489:=0
def PySem.W.Fast.tw5555751754910766103:=0
def PySem.W.Fast.tw1748564923018114448:=0
def PySem.W.Fast.tw13798570870948546347:=0
def PySem.W.Fast.tw17784332658515308033:=0
def PySem.W.Fast.tw16398070397658285686:=0
def PySem.W.Fast.tw2129496170652040673:=0
def PySem.W.Fast.tw5305398230974959341:=0
def PySem.W.Fast.tw4850585524631618375:=0
def PySem.W.Fast.tw5044758779305042111:=0
def PySem.W.Fast.tw3136939061806504773:=0
def PySem.W.Fast.tw7046250196844893075:=0
def PySem.W.Fast.tw12878351169921656328:=0
def PySem.W.Fast.tw7026395759871762455:=0
def PySem.W.Fast.tw952392361275432989:=0
def PySem.W.Fast.tw7277505492517403765:=0
def PySem.W.Fast.tw16430600857680934582:=0
def PySem.W.Fast.tw3872871563602595144:=0
def PySem.W.Fast.tw6556947840409791399:=0
def PySem.W.Fast.tw8823491504459291047:=0
def PySem.W.Fast.tw3982776234031859039:=0
def PySem.W.Fast.tw101817634187626847:=0
def PySem.W.Fast.tw10221783981563016589:=0
def PySem.W.Fast.tw6175266641385016763:=0
def PySem.W.Fast.tw2818037726408051254:=0
def PySem.W.Fast.tw9741931365197000165:=0
def PySem.W.Fast.tw5756207951453045231:=0
def PySem.W.Fast.tw12380628454656655402:=0
def PySem.W.Fast.tw1625920480886147511:=0
def PySem.W.Fast.tw11833913499292304553:=0
def PySem.W.Fast.tw4398414584911228579:=0
def PySem.W.Fast.tw532204562861952403:=0
def PySem.W.Fast.tw9283647788476012030:=0
def PySem.W.Fast.tw1206417758889302976:=0
def PySem.W.Fast.tw761147345802572485:=0
def PySem.W.Fast.tw11154711269063904007:=0
def PySem.W.Fast.tw17450832217925832918:=0
def PySem.W.Fast.tw13342301574303776981:=0
def PySem.W.Fast.tw14349161004197745466:=0
def PySem.W.Fast.tw6451006886165233208:=0
def PySem.W.Fast.tw15762212904041974533:=0
def PySem.W.Fast.tw1785967468103061070:=0
def PySem.W.Fast.tw10464004387157282562:=0
def PySem.W.Fast.tw10690218240224853112:=0
def PySem.W.Fast.tw11625119384298546969:=0
def PySem.W.Fast.tw13121174259949171360:=0
def PySem.W.Fast.tw12338095980931602638:=0
def PySem.W.Fast.tw12558576855071420477:=0
def PySem.W.Fast.tw17935162022625391854:=0
def PySem.W.Fast.tw7476824665815385592:=0
def PySem.W.Fast.tw793052009942858002:=0
def PySem.W.Fast.tw8940493221087852144:=0
def PySem.W.Fast.tw7692079792155360774:=0
def PySem.W.Fast.tw10402276822447433946:=0
def PySem.W.Fast.tw888265077575033644:=0
def PySem.W.Fast.tw13104163098391962102:=0
def PySem.W.Fast.tw16230016029512637836:=0
def PySem.W.Fast.tw1015779175436336356:=0
def PySem.W.Fast.tw14669679226976534740:=0
def PySem.W.Fast.tw6910204624084581012:=0
def PySem.W.Fast.tw2480797013483225538:=0
def PySem.W.Fast.tw13841374670631950969:=0
def PySem.W.Fast.tw16297439515595118756:=0
def PySem.W.Fast.tw3458844847582350611:=0
def PySem.W.Fast.tw8469739994346221051:=0
def PySem.W.Fast.tw17151100735115851092:=0
def PySem.W.Fast.tw10224041010308314305:=0
def PySem.W.Fast.tw12104790472869383990:=0
def PySem.W.Fast.tw5723092625743020016:=0
def PySem.W.Fast.tw10893764657821745148:=0
def PySem.W.Fast.tw3302902680949768906:=0
def PySem.W.Fast.tw6379049341775879399:=0
def PySem.W.Fast.tw8683897743363956537:=0
def PySem.W.Fast.tw11084235069183603227:=0
def PySem.W.Fast.tw142257906402544014:=0
def PySem.W.Fast.tw5678400211468447141:=0
def PySem.W.Fast.tw3564710123513686742:=0
def PySem.W.Fast.tw14656925912697251305:=0
def PySem.W.Fast.tw16934876037580471624:=0
def PySem.W.Fast.tw12933415544810762531:=0
def PySem.W.Fast.tw9650489806902277324:=0
def PySem.W.Fast.tw4265399623497300216:=0
def PySem.W.Fast.tw13024398293460584552:=0
def PySem.W.Fast.tw15545238403789532574:=0
def PySem.W.Fast.tw18083602435658203566:=0
def PySem.W.Fast.tw13599426572393765201:=0
def PySem.W.Fast.tw12290690439048950500:=0
def PySem.W.Fast.tw1085915724681496772:=0
def PySem.W.Fast.tw2248845988913877380:=0
def PySem.W.Fast.tw5312966160851732481:=0
def PySem.W.Fast.tw6727069047556865600:=0
def PySem.W.Fast.tw1179302165694082787:=0
def PySem.W.Fast.tw6692058777436906773:=0
def PySem.W.Fast.tw13674801804707248825:=0
def PySem.W.Fast.tw3122045999087076044:=0
def PySem.W.Fast.tw12117949936834715403:=0
def PySem.W.Fast.tw8674928683776745957:=0
def PySem.W.Fast.tw10499375495966306948:=0
def PySem.W.Fast.tw6429729222268813867:=0
def PySem.W.Fast.tw8544679766190942538:=0
def PySem.W.Fast.tw2280231027895006575:=0
def PySem.W.Fast.tw5965169467011275150:=0
def PySem.W.Fast.tw7466723869453845237:=0
def PySem.W.Fast.tw17890861842038511798:=0
def PySem.W.Fast.tw14495073316607852308:=0
def PySem.W.Fast.tw1667402486067110542:=0
def PySem.W.Fast.tw17993724773686887211:=0
def PySem.W.Fast.tw3002740265718572303:=0
def PySem.W.Fast.tw3113816688630937467:=0
def PySem.W.Fast.tw2006236117910018371:=0
def PySem.W.Fast.tw802287028478464035:=0
def PySem.W.Fast.tw12923115087802179525:=0
def PySem.W.Fast.tw3398974701517246259:=0
def PySem.W.Fast.tw11747580931083107183:=0
def PySem.W.Fast.tw18410309686140978157:=0
open PySem PySem.W PyProof.Rows
set_option maxRecDepth 100000 in
set_option maxHeartbeats 0 in
theorem PySem.Challenge.cw_askwithin_k30_many_more_than_listed_holds : PySem.Challenge.rw_askwithin_k30_many_more_than_listed.Holds := by
 w_on; o_law; k_head; (case hw=>w_witness2)
 k_fill
 refine Aw.walk (l:=PySem.Challenge.rw_askwithin_k30_many_more_than_listed) rfl rfl (fun w h Y=>PySem.W.kIn_of Y) ?F
 case F=>
  intro w mg fa h KX G hmg
  refine' Aw.all_mk KX G hmg (Aw.Adj ?_ ?_ ?_ ?_) (Aw.Adj ?_ ?_ ?_ ?_) (Aw.Adj ?_ ?_ ?_ ?_) (Aw.Adj ?_ ?_ ?_ ?_) (Aw.Adj ?_ ?_ ?_ ?_) (Aw.Adj ?_ ?_ ?_ ?_) (Aw.Adj ?_ ?_ ?_ ?_) (Aw.Adj ?_ ?_ ?_ ?_) (Aw.Adj ?_ ?_ ?_ ?_) (Aw.Adj ?_ ?_ ?_ ?_) (Aw.Adj ?_ ?_ ?_ ?_) (Aw.Adj ?_ ?_ ?_ ?_) (Aw.Adj ?_ ?_ ?_ ?_) (Aw.Adj ?_ ?_ ?_ ?_) (Aw.Adj ?_ ?_ ?_ ?_) (Aw.Adj ?_ ?_ ?_ ?_) (Aw.Adj ?_ ?_ ?_ ?_) (Aw.Adj ?_ ?_ ?_ ?_) (Aw.Adj ?_ ?_ ?_ ?_) (Aw.Adj ?_ ?_ ?_ ?_) (Aw.Adj ?_ ?_ ?_ ?_) (Aw.Adj ?_ ?_ ?_ ?_) (Aw.Adj ?_ ?_ ?_ ?_) (Aw.Adj ?_ ?_ ?_ ?_) (Aw.Adj ?_ ?_ ?_ ?_) (Aw.Adj ?_ ?_ ?_ ?_) (Aw.Adj ?_ ?_ ?_ ?_) (Aw.Adj ?_ ?_ ?_ ?_) (Aw.Adj ?_ ?_ ?_ ?_) (Aw.Adj ?_ ?_ ?_ ?_) (Aw.Adj ?_ ?_ ?_ ?_) (Aw.Adj ?_ ?_ ?_ ?_) (Aw.Adj ?_ ?_ ?_ ?_) (Aw.Biu ?_ ?_ ?_ ?_)  ?_ ?_ ?_ ?_ ?_ ?_ ?_ ?_ ?_ ?_ ?_ ?_ ?_ ?_ ?_ ?_ ?_ ?_ ?_ ?_ ?_ ?_
  any_goals k_is
