import PyProof.Rows.All
import Wide.All
import OpenK.AllK
import Wide.FinOn
import Lean
import PyProof.EqAt
import PyProof.EqKinds
import PyProof.TupleCall
import PyProof.TupleOfStr
import PyProof.ListStr
import KE.KSortTup
import PyProof.Rows.SortShellK
import PyProof.MeetsSeq2
import PyProof.FactsAll.list_4
import PyProof.AutoSeq1
import PyProof.ConsumeWalk
import PyProof.ListMulRoad
import PyProof.Rows.SeqMore
import PyProof.FactsAll.tuple_2
import KE.KTryMore
import OpenK.KOwn
import PyProof.Rows.CatchBare
import KE.KIsAll
import PyProof.ExcArgsOwn
import PyProof.ExcAttrAll.ValueError
import KE.RegKTryMore
import KE.RegKIsAll
import PyProof.StrCalls2
import PyProof.StrLawsChain
import PyProof.StrLawsTight
import PyProof.Rows.StrNews
import KE.KIntText
import PyProof.Rows.StrNews2
import PyProof.Rows.StrLast
import PyProof.ZipIter
import PyProof.TupleIter
import PyProof.AttrMissHeap
import PyProof.Rows.SortStr
import PyProof.SetKind
import PyProof.Rows.SetFrom
import PyProof.AutoListH
import PyProof.ListNew
import PyProof.FactsAll.list_2
import PyProof.ListRange
import PyProof.CollectWalk
import PyProof.EnumMake
import PyProof.DictItemsLoops
import PyProof.DictWalks
import PyProof.DictValues
import PyProof.WalksMore
import PyProof.SeqI3
import PyProof.Rows.SumAny
import PyProof.MeetsDictList
import PySem.Challenge.RW_askwithin_k08_books_made
open PySem renaming PyData->aA,Addr->aB,Str->aD,Value->aE,Shared->aG,wpAny_bind->aL,wpAny->aO,model->aP,Heap->aR,Expr->aS,Obj->aT,World->aX,Program->bA,wpAny_pure->bB,eval->bC,starEach->bF,Pos->bG,Stmt->bL,Around->bQ,mainGlobals->bR,Paired->cZ,Env->dI,compareOp->eJ,backTo->eQ,FuncData->eY,Scope->gD,sysModules->gK,wpAny_mono->gY,codeAny->gZ,wpAny_holding->iG,bootBuiltins->iH,swapsWith->iW,attributeBase->iX,binaryOp->jO,assignEach->jP,boot_len->jQ,NameKind->jT,merged->kL,Spec->kN,holding->lW,assign->lX,Result->lY,ReadsAll->lZ,Reads->mB,DictEntry->mF,sizeLine_eq->mY,wpAny_truthy_bool->nV,stored->nX,foldedSetIterable->nY,codeAny_mono->nZ,codeAny_builtin->oA,Keyword->oF,BindsTo->oI,valueAt->pO,typeLookup->pP,sliceBounds->pQ,relabel->pR,callerA->pS,GenState->pY,wpAny_typeOf->rT,wpAny_specialOf->rV,wpAny_call_entry->rW,plainId_quiet->rX,keywordEach->rY,behindInMarks->rZ,backToKw->sA,SetTable->sE,wpAny_updateSeq->uN,wpAny_passesOwn->uO,wpAny_newObj_type->uP,updateSeq->uQ,setFlight->uR,scanBound->uS,mem_of_lookup->uV,wpAny_typeNameOf_keyiter->yA,wpAny_typeNameOfWhole_keyiter->yB,wpAny_pyIter_list->yC,wpAny_newList->yD,wpAny_isInstance->yE,wpAny_dictEntries->yF,wpAny_Call_Name_kw->yG,subscripted->yH,letOwnedTupleGo->yI,wpAny_callSpecial?_slot->CY,unbindBehindTheSuite->CZ,codeAny_call_builtin->DB,evalArgs_none->DC,SetTable->DV,Builtin->DX
open PySem.W renaming Frag->aI,nsIn->cH,mg_none_of->fG,mg_of->gT,kitOne->jA,kia_one->jB,findIn->jC,fnOf->jR,keepIn->kM,emptyDict->lC,instObj->mC,codeIn->pU,exmOne->sF,plainGet->uW,lookIn->yK,isFn->yL,hideAll_get->yM,hasDictIn->yN,excIn->yO,takerIn->DD,plainOver->DH,plainGet_of->DJ,of_hideAll->DK,methodObj->DL,makesIn->DM,kitx_list->DN,kitx_dict->DP,callWith_K->DR,OpenLaw->DU
open Or renaming inl->bI,inr->bJ
open PySem.Heap renaming lt_size->bK,get?_push_of_some->cF,get?_push_size->dU,get?_update_self->pW,get?_update_other->pX,size_push->vH,SameBut->vI
open Nat renaming le_refl->bM,ne_of_lt->cK,zero_le->eE,lt_of_lt_of_le->gN,lt_irrefl->jE,le_trans->kO,ne_of_gt->lE,le_succ->nC,lt_trans->sI,le_of_lt->sJ,lt_succ_of_lt->yV,le_of_eq->yW,add_assoc->yX,min_eq_left->ED
open PySem.PyData renaming str->bP,int->bY,canLay0->cQ,eqv->dF,depthAll->eZ,bool->jD,depth->jS,tuple->mZ,eqvAll->nA,list->sG,canLayAll0->sH,strOk->yS
open Option renaming bind_some->bS,map_eq_some_iff->mD,map_some->oB,join_some->uX,isSome_iff_exists->uY,none->yU,isSome_map->EB
open List renaming mem_cons_self->cA,mem_cons_of_mem->cI,mem_cons->cN,length_map->cU,range->dC,mem_singleton->dG,mem_map->dH,size_toArray->dP,map_cons->dR,replicate->dZ,getElem?_eq_some_iff->eK,length_cons->eN,getElem?_map->eX,all_eq_true->gV,nodup_cons->hJ,lookup->iC,toArray->iI,find?_cons->iJ,map_map->jF,getElem?_set_ne->jG,getElem?_eq_getElem->jH,flatten_cons->jI,mem_range->jU,mem_append->kP,lookup_cons->kQ,getElem?_set_self->kR,mem_append_right->lF,mem_flatten->mE,mem_of_getElem?->nD,length_take->nE,replicate_succ->oE,pairwise_map->sL,nodup_append->sM,map_append->sN,length_append->sO,getElem?_cons_zero->sP,getElem?_cons_succ->sQ,foldl_cons->sR,cons_lt_cons_iff->sS,length->uZ,getElem_mem->vB,getElem?_append_left->vC,filter_eq_self->vD,cons_append->vE,append_nil->vF,any_cons->vG,take_of_length_le->yY,take_add_one->yZ,mem_of_mem_take->zA,le_trans->zB,zip_cons_cons->EE,take_length->EG,pairwise_mergeSort->EH,of_mem_zip->EI,not_mem_nil->EJ,nodup_nil->EK,mergeSort_perm->EL,mem_filterMap->EM,mem_append_left->EN,map_take->EO,getElem?_append_right->ER,flatten_singleton->ES,flatten_append->ET,filterMap_cons->EU,eq_nil_of_length_eq_zero->EV,mem_or_eq_of_mem_set->HM,drop_eq_getElem_cons->HN
open PySem.Value renaming ref->dB,none->eU,type->gM,builtin->sC,str->uT,int->uU
open PySem.NameKind renaming free->eW
open Option.some renaming inj->fA,injEq->pV
open PySem.Obj renaming mapSeq->gE
open PyProof.Rows renaming envOfC->gL,seqObj->jN,AllBare->mH,boot_sorted->yP,boot_list->yQ,boot_int->yR,callWith_type1->DY,boot_bool->DZ,boot_tuple->HL
open Ne renaming symm->gU
open Sum renaming inr->hE,inl->pT
open False renaming elim->iD
open True renaming intro->iY
open PySem.Str renaming join->iZ,ofString->yJ
open Int renaming eq_ofNat_of_zero_le->kS,ofNat->lG,toNat_natCast->zC
open Bool renaming and_eq_true_iff->kT,false_ne_true->nF,false_eq_true->nG,true_or->qA,and_eq_true->zG,or_false->FD
open Array renaming length_toList->mG,toList_inj->vL,getElem?_eq_getElem->HS
open PySem.Paired renaming length->nB
open PySem.F renaming called_set->oG,slot_dict_keyiterator_next->vJ,slot_tuple_hash->zD,slot_dict_values->zE,slot_list_getattribute->EY,type_list_append->HE,slot_list_append->HF,slot_dict_clear->HG,plainAttrs_list->HH,excBase_ValueError->HI,entry_tuple_add->HJ,args_tuple_add_2->HK,entry_dict_keyiterator_next->HQ,args_dict_keyiterator_next_1->HR
open PySem.Builtin.Str renaming occurrences->oH
open PySem.Expr renaming Call->pZ
open ForInStep renaming yield->sT
open PySem.Builtin.Tuple renaming tupleHashOf->sU
open PySem.Builtin.List renaming listExtendWith->sV,listSameRef->zF,listLengthHint->FC
open PySem.Around renaming under_plainId->sW
open Classical renaming choose_spec->vK
open Array.Perm renaming refl->vM
open PySem.PassesOwn renaming never->yT
open PySem.PyData.tuple renaming inj->EA
open List.Nodup renaming length_le_of_subset->EW
open PySem.Heap.SameBut renaming update->EX
open PyProof.Rows.F renaming plain_set_update_loop->EZ
open PySem.Calls renaming call_function_entry->FA
open List.Perm renaming eq_of_pairwise->HP
theorem XBs {α β:Type}{x:Option α}{f:α->Option β}{b:β}(h:x.bind f=some b) : ∃ a,x=some a/\f a=some b:=Option.bind_eq_some_iff.mp h
set_option Elab.async false
set_option bootstrap.genMatcherCode false
set_option genSizeOfSpec false
set_option linter.all false
set_option maxRecDepth 100000
set_option exponentiation.threshold 2000
namespace L2
open PySem PySem.Spec PyProof.Rows
noncomputable instance decEqData:DecidableEq aA:=fun a b=>Classical.propDecidable (a=b)
mutual
noncomputable def bD:aA->Bool
 | .int _=>true
 | .str x=>cQ (.str x)
 | .tuple ds=>cJ ds
 | _=>false
noncomputable def cJ:List aA->Bool
 | []=>true
 | d::r=>bD d&&cJ r
end
mutual
theorem wF : ∀ d:aA,bD d=true->d.canLay0=true
 | .int _,_=>by simp[cQ]
 | .str x,h=>by simpa [bD] using h
 | .tuple ds,h=>by
  simp only[cQ]
  exact AH ds (by simpa [bD] using h)
 | .none,h=>by simp[bD] at h
 | .bool _,h=>by simp[bD] at h
 | .list _,h=>by simp[bD] at h
 | .dict _,h=>by simp[bD] at h
theorem AH : ∀ ds:List aA,cJ ds=true->sH ds=true
 | [],_=>by simp[sH]
 | d::r,h=>by
  have h':bD d=true/\cJ r=true:=by simpa [cJ] using h
  simp only[sH,wF d h'.1,AH r h'.2,Bool.and_self]
end
mutual
theorem keyD_eqv : ∀ x y:aA,bD x=true->bD y=true->dF x y=decide (x=y)
 | .int i,.int j,_,_=>by
  by_cases e:i=j
  ·subst e; simp[dF]
  ·have : ¬ bY i = .int j:=fun q=>e (PyData.int.inj q)
   simp[dF,e]
 | .str i,.str j,_,_=>by
  by_cases e:i=j
  ·subst e; simp[dF]
  ·simp[dF,e]
 | .tuple xs,.tuple ys,h1,h2=>by
  have e:=wU xs ys (by simpa [bD] using h1) (by simpa [bD] using h2)
  simp only[dF,e]
  by_cases q:xs=ys
  ·subst q; simp
  ·have : ¬ mZ xs = .tuple ys:=fun z=>q (EA z)
   rw[decide_eq_false q,decide_eq_false this]
 | .int _,.str _,_,_=>by simp[dF]
 | .int _,.tuple _,_,_=>by simp[dF]
 | .str _,.int _,_,_=>by simp[dF]
 | .str _,.tuple _,_,_=>by simp[dF]
 | .tuple _,.int _,_,_=>by simp[dF]
 | .tuple _,.str _,_,_=>by simp[dF]
 | .none,_,h,_=>by simp[bD] at h
 | .bool _,_,h,_=>by simp[bD] at h
 | .list _,_,h,_=>by simp[bD] at h
 | .dict _,_,h,_=>by simp[bD] at h
 | .int _,.none,_,h=>by simp[bD] at h
 | .int _,.bool _,_,h=>by simp[bD] at h
 | .int _,.list _,_,h=>by simp[bD] at h
 | .int _,.dict _,_,h=>by simp[bD] at h
 | .str _,.none,_,h=>by simp[bD] at h
 | .str _,.bool _,_,h=>by simp[bD] at h
 | .str _,.list _,_,h=>by simp[bD] at h
 | .str _,.dict _,_,h=>by simp[bD] at h
 | .tuple _,.none,_,h=>by simp[bD] at h
 | .tuple _,.bool _,_,h=>by simp[bD] at h
 | .tuple _,.list _,_,h=>by simp[bD] at h
 | .tuple _,.dict _,_,h=>by simp[bD] at h
theorem wU : ∀ xs ys:List aA,cJ xs=true->cJ ys=true->nA xs ys=decide (xs=ys)
 | [],[],_,_=>by simp[nA]
 | [],_::_,_,_=>by simp[nA]
 | _::_,[],_,_=>by simp[nA]
 | x::xs,y::ys,h1,h2=>by
  have h1':bD x=true/\cJ xs=true:=by simpa [cJ] using h1
  have h2':bD y=true/\cJ ys=true:=by simpa [cJ] using h2
  simp only[nA,keyD_eqv x y h1'.1 h2'.1,wU xs ys h1'.2 h2'.2]
  by_cases e:x=y
  ·subst e
   by_cases q:xs=ys
   ·subst q; simp
   ·simp[q]
  ·simp[e]
end
mutual
noncomputable def mK (w:aX):aA->Int
 | .int i=>hashInt i
 | .str x=>hashStr w x
 | .tuple ds=>reduceHash (sU (iN w ds))
 | _=>0
noncomputable def iN (w:aX):List aA->List Int
 | []=>[]
 | d::r=>mK w d::iN w r
end
mutual
noncomputable def nL:aA->Nat
 | .tuple ds=>kZ ds+1
 | _=>1
noncomputable def kZ:List aA->Nat
 | []=>0
 | d::r=>nL d+kZ r
end
theorem CO (a b:List aA):kZ (a++b)=kZ a+kZ b:=by
 induction a with
 | nil=>simp[kZ]
 | cons x r ih=>simp only[vE,kZ,ih]; omega
theorem CM (w:aX)(a b:List aA):iN w (a++b)=iN w a++iN w b:=by
 induction a with
 | nil=>rfl
 | cons x r ih=>simp only[vE,iN,ih]
section
variable {prog:bA}{w:aX}
theorem pC {h:aR}{v:aE}{ks:List aA}{as:List aB}(r:mB h v (.tuple ks) as) : ∃ a o vs n,v = .ref a/\h.get? a=some o/\o.cls = .type "tuple" /\ o.data = .seq vs n/\lZ h vs.toList ks as:=by
 cases r with
 | tuple h1 h2 h3 h4=>exact⟨_,_,_,_,rfl,h1,h2,h3,h4⟩
mutual
theorem BJ : ∀ (d:aA) {A:bQ} {E:aE->aG->Prop} {s:aG} {v:aE} {as:List aB} {Q:Int->aG->Prop},A.units+d.depth<cLine->bD d=true->mB s.heap v d as ->
  Q (mK w d) { s with toks:=s.toks+nL d }->aO (aP prog w) A (pyHash v) Q E s
 | .int i,A,E,s,v,as,Q,hu,hk,r,h=>by
  cases r with
  | int _ t=>exact wpAny_pyHash_int (by simpa [mK,nL] using h)
 | .str x,A,E,s,v,as,Q,hu,hk,r,h=>by
  cases r with
  | str _ t=>exact wpAny_pyHash_str (by simpa [mK,nL] using h)
 | .tuple ks,A,E,s,v,as,Q,hu,hk,r,h=>by
  obtain⟨a,o,items,n,rfl,ho,hc,hd,hi⟩:=pC r
  have hT:s.TypeIs (.ref a) "tuple":=⟨o,ho,hc⟩
  have hdep:A.units+(eZ ks+1)<cLine:=by simpa [jS] using hu
  unfold pyHash
  first | unfold pyHashByItsType | skip
  first | refine aL (wpAny_cRoomFor_or (.inr (by omega)) ?_) | skip
  refine aL (rV hT zD.lookup ?_)
  rw[if_neg (by rw[beq_builtin_none]; exact nF)]
  refine aL (rV hT zD.lookup ?_)
  refine aL (wpAny_callSpecialIfBoundUnlessNone?_slot hT zD (rW zD hT F.entry_tuple_hash ?_ (F.args_tuple_hash_1 _)))
  show aO _ _ (Builtin.Tuple.tupleItemsOf (.ref a) >>= _) _ _ s
  refine aL (wpAny_tupleItemsOf ho hd ?_)
  refine aL ?_
  rw[← Array.forIn_toList]
  refine wpAny_forIn_list _
   (fun rest (b:Array Int) s'=>∃ done left bs,ks=done++left/\lZ s.heap rest left bs/\b.toList=iN w done/\s' = { s with toks:=s.toks+kZ done })
   _ ?_ ?_ _ _ ⟨[],ks,as,rfl,hi,rfl,rfl⟩
  ·rintro x rest b s' ⟨done,left,bs,e,hl,hb,rfl⟩
   cases hl with
   | @cons _ _ d ds as1 bs1 h1 hl'=>
    have hm:d∈ks:=by rw[e]; exact lF _ cA
    have hk':cJ ks=true:=by simpa [bD] using hk
    refine aL (CC ks hm (by
     have:A.in1.units=A.units+1:=rfl
     omega) hk' h1 ?_)
    first
     | exact bB ⟨done++[d],ds,bs1,by simp[e],hl',by simp[hb,CM,iN],by simp[CO,kZ,yX]⟩
     | exact aL (bB (bB ⟨done++[d],ds,bs1,by simp[e],hl',by simp[hb,CM,iN],by simp[CO,kZ,yX]⟩))
  ·rintro b s' ⟨done,left,bs,e,hl,hb,rfl⟩
   cases hl
   rw[vF] at e
   subst e
   show aO _ _ (retInt (sU b.toList)) _ _ _
   rw[hb]
   refine wpAny_ret_mkInt ?_
   show aO _ _ (if (decide (-(2:Int) ^ 63≤sU (iN w ks))&&decide (sU (iN w ks)<2 ^ 63))=true then _ else _) Q E _
   simp only[mK,nL] at h
   unfold reduceHash at h
   by_cases hr:(decide (-(2:Int) ^ 63≤sU (iN w ks))&&decide (sU (iN w ks)<2 ^ 63))=true
   ·rw[if_pos hr]
    rw[if_pos hr] at h
    exact bB (by simpa [yX] using h)
   ·rw[if_neg hr]
    rw[if_neg hr] at h
    exact aL (wpAny_rule (bB (by simpa [yX] using h)))
 | .none,A,E,s,v,as,Q,hu,hk,r,h=>by simp[bD] at hk
 | .bool _,A,E,s,v,as,Q,hu,hk,r,h=>by simp[bD] at hk
 | .list _,A,E,s,v,as,Q,hu,hk,r,h=>by simp[bD] at hk
 | .dict _,A,E,s,v,as,Q,hu,hk,r,h=>by simp[bD] at hk
theorem CC : ∀ (ks:List aA) {d:aA},d∈ks -> ∀ {A:bQ} {E:aE->aG->Prop} {s:aG} {v:aE} {as:List aB} {Q:Int->aG->Prop},A.units+eZ ks<cLine->cJ ks=true->mB s.heap v d as ->
  Q (mK w d) { s with toks:=s.toks+nL d }->aO (aP prog w) A (pyHash v) Q E s
 | [],_,hm,_,_,_,_,_,_,_,_,_,_=>by simp at hm
 | k::ks,d,hm,A,E,s,v,as,Q,hu,hk,r,h=>by
  have hk':bD k=true/\cJ ks=true:=by simpa [cJ] using hk
  have hdep:A.units+max k.depth (eZ ks)<cLine:=by simpa [eZ] using hu
  by_cases e:d=k
  ·exact BJ k (by omega) hk'.1 (e ▸ r) (by rw[← e]; exact h)
  ·have hm':d∈ks:=by
    rcases cN.mp hm with q | q
    ·exact absurd q e
    ·exact q
   exact CC ks hm' (by omega) hk'.2 r h
end
end
section
variable {prog:bA}{w:aX}
mutual
theorem AG : ∀ (d:aA) (n:Nat) {A:bQ} {E:aE->aG->Prop} {s:aG} {v:aE} {as:List aB} {Q:Bool->aG->Prop},d.depth≤n->bD d=true->mB s.heap v d as ->
  Q true s->aO (aP prog w) A (eqIsQuiet n v) Q E s
 | .int i,n,A,E,s,v,as,Q,hu,hk,r,h=>by
  cases r with
  | int _ t=>
   rw[eqIsQuiet_byValue n (by rfl)]
   exact bB h
 | .str x,n,A,E,s,v,as,Q,hu,hk,r,h=>by
  cases r with
  | str _ t=>
   rw[eqIsQuiet_byValue n (by rfl)]
   exact bB h
 | .tuple ks,n,A,E,s,v,as,Q,hu,hk,r,h=>by
  obtain⟨a,o,items,m,rfl,ho,hc,hd,hi⟩:=pC r
  have hT:s.TypeIs (.ref a) "tuple":=⟨o,ho,hc⟩
  have hdep:eZ ks+1≤n:=by simpa [jS] using hu
  obtain⟨n,rfl⟩ : ∃ m,n=m+1:=⟨n - 1,by omega⟩
  have hk':cJ ks=true:=by simpa [bD] using hk
  unfold eqIsQuiet
  refine aL (rV hT F.slot_tuple_eq.lookup ?_)
  refine aL (yE hT isSubtype_tuple_tuple ?_)
  simp only[Bool.not_true,nG,if_false]
  refine aL (wpAny_seqItems ho hd ?_)
  refine aL ?_
  rw[← Array.forIn_toList]
  refine wpAny_forIn_list _ (fun rest r s'=>r.1=none/\s'=s /\ ∃ ds bs,lZ s.heap rest ds bs /\ ∀ d∈ds,d∈ks) _ ?_ ?_ _ _ ⟨rfl,rfl,ks,as,hi,fun _ h=>h⟩
  ·rintro v rest r s' ⟨hr,rfl,ds,bs,hl,hall⟩
   cases hl with
   | @cons _ _ d ds as1 bs1 h1 hl'=>
    refine aL (BK ks (hall d cA) n (by omega) hk' h1 ?_)
    simp only[Bool.not_true,nG,if_false]
    exact bB ⟨rfl,rfl,ds,bs1,hl',fun u hu'=>hall u (cI _ hu')⟩
  ·rintro⟨r1,r2⟩ s' ⟨hr,rfl,_⟩
   simp only at hr
   subst hr
   exact bB h
 | .none,n,A,E,s,v,as,Q,hu,hk,r,h=>by simp[bD] at hk
 | .bool _,n,A,E,s,v,as,Q,hu,hk,r,h=>by simp[bD] at hk
 | .list _,n,A,E,s,v,as,Q,hu,hk,r,h=>by simp[bD] at hk
 | .dict _,n,A,E,s,v,as,Q,hu,hk,r,h=>by simp[bD] at hk
theorem BK : ∀ (ks:List aA) {d:aA},d∈ks -> ∀ (n:Nat) {A:bQ} {E:aE->aG->Prop} {s:aG} {v:aE} {as:List aB} {Q:Bool->aG->Prop},eZ ks≤n->cJ ks=true->mB s.heap v d as ->
  Q true s->aO (aP prog w) A (eqIsQuiet n v) Q E s
 | [],_,hm,_,_,_,_,_,_,_,_,_,_,_=>by simp at hm
 | k::ks,d,hm,n,A,E,s,v,as,Q,hu,hk,r,h=>by
  have hk':bD k=true/\cJ ks=true:=by simpa [cJ] using hk
  have hdep:max k.depth (eZ ks)≤n:=by simpa [eZ] using hu
  by_cases e:d=k
  ·exact AG k n (by omega) hk'.1 (e ▸ r) h
  ·have hm':d∈ks:=by
    rcases cN.mp hm with q | q
    ·exact absurd q e
    ·exact q
   exact BK ks hm' n (by omega) hk'.2 r h
end
mutual
theorem BW {h h':aR}(kp : ∀ b o vs n,h.get? b=some o->o.cls = .type "tuple" -> o.data = .seq vs n->h'.get? b=some o) : ∀ (d:aA) {v:aE} {as:List aB},bD d=true->mB h v d as->mB h' v d as
 | .int i,v,as,hk,r=>by
  cases r with
  | int _ t=>exact .int i t
 | .str x,v,as,hk,r=>by
  cases r with
  | str _ t=>exact .str x t
 | .tuple ks,v,as,hk,r=>by
  obtain⟨a,o,items,m,rfl,ho,hc,hd,hi⟩:=pC r
  exact .tuple (kp _ _ _ _ ho hc hd) hc hd (CU kp ks (by simpa [bD] using hk) hi)
 | .none,v,as,hk,r=>by simp[bD] at hk
 | .bool _,v,as,hk,r=>by simp[bD] at hk
 | .list _,v,as,hk,r=>by simp[bD] at hk
 | .dict _,v,as,hk,r=>by simp[bD] at hk
theorem CU {h h':aR}(kp : ∀ b o vs n,h.get? b=some o->o.cls = .type "tuple" -> o.data = .seq vs n->h'.get? b=some o) : ∀ (ds:List aA) {vs:List aE} {as:List aB},cJ ds=true->lZ h vs ds as->lZ h' vs ds as
 | [],vs,as,hk,r=>by
  cases r with
  | nil=>exact .nil
 | d::ds,vs,as,hk,r=>by
  have hk':bD d=true/\cJ ds=true:=by simpa [cJ] using hk
  cases r with
  | cons r1 r2=>exact .cons (BW kp d hk'.1 r1) (CU kp ds hk'.2 r2)
end
def Ah8 (h:aR)(ks:List aA)(a:aB):Prop:=cJ ks=true/\eZ ks≤6 /\ ∃ as,mB h (.ref a) (.tuple ks) as
theorem Ah8.keep {h h':aR}{ks:List aA}{a:aB}(kp : ∀ b o vs n,h.get? b=some o->o.cls = .type "tuple" -> o.data = .seq vs n->h'.get? b=some o)(k:Ah8 h ks a):Ah8 h' ks a:=
 ⟨k.1,k.2.1,k.2.2.choose,BW kp (.tuple ks) (by simpa [bD] using k.1) k.2.2.choose_spec⟩
noncomputable def lO (prog:bA)(w:aX):HeapKind prog w (List aA) where
 is:=Ah8
 hash:=fun ks=>mK w (.tuple ks)
 draws:=fun ks=>nL (.tuple ks)
 room:=fun A=>A.units+20<cLine
 inj:=fun {h a x y} hx hy=>by
  obtain⟨k1,_,as,r1⟩:=hx
  obtain⟨k2,_,bs,r2⟩:=hy
  exact EA (reads_det (fun _ _ e _=>e) r2 r1).1
 keeps:=fun {h h' k a d o es ep} x ho hd hs=>x.keep fun b ob vs n hb _ hd'=>by
  have hne:b≠d:=by
   rintro rfl
   rw[ho] at hb
   cases hb
   rw[hd] at hd'
   cases hd'
  exact(hs.2 b hne).trans hb
 pyHash:=fun {A E s k a Q} hu hk h=>by
  obtain⟨k1,k2,as,r⟩:=hk
  exact BJ (.tuple k) (by simp only[jS]; omega) (by simpa [bD] using k1) r h
 eqBool:=fun {A E s x y a b Q} hu hx hy h=>by
  obtain⟨k1,d1,as,r1⟩:=hx
  obtain⟨k2,d2,bs,r2⟩:=hy
  have e:=keyD_eqv (.tuple x) (.tuple y) (by simpa [bD] using k1) (by simpa [bD] using k2)
  have e2:decide ((mZ x) = .tuple y)=decide (x=y):=by
   by_cases q:x=y
   ·subst q; simp
   ·rw[decide_eq_false q,decide_eq_false (fun z=>q (EA z))]
  have:=SeqAt.eqAt_reads (.tuple x) (.tuple y) A s (.ref a) (.ref b) as bs r1 r2 (wF _ (by simpa [bD] using k1)) (wF _ (by simpa [bD] using k2)) (by simp only[jS]; omega)
  rw[e,e2] at this
  exact this prog w E Q h
 quiet:=fun {A E s k a Q} hk h=>by
  obtain⟨k1,k2,as,r⟩:=hk
  exact AG (.tuple k) 8 (by simp only[jS]; omega) (by simpa [bD] using k1) r h
end
abbrev aM:=Sum Int aD
noncomputable def keyIs:aM->aE->Bool
 | .inl k,v=>Value.isInt k v
 | .inr x,v=>Value.isStrOf x v
noncomputable def keyH (w:aX):aM->Int
 | .inl k=>hashInt k
 | .inr x=>hashStr w x
theorem kJ : ∀ {k:aM} {v:aE},keyIs k v=true->(∃ i t,k=pT i/\v=uU i t) \/ (∃ x t,k=hE x/\v=uT x t)
 | .inl i,v,h=>by
  obtain⟨t,e⟩:=Value.isInt_shape (k:=i) (v:=v) h
  exact .inl ⟨i,t,rfl,e⟩
 | .inr x,v,h=>by
  obtain⟨t,e⟩:=Value.isStrOf_shape (x:=x) (v:=v) h
  exact .inr ⟨x,t,rfl,e⟩
theorem keyIs_int (i:Int)(t:Tok):keyIs (.inl i) (.int i t)=true:=by simp[keyIs,Value.isInt]
theorem keyIs_str (x:aD)(t:Tok):keyIs (.inr x) (.str x t)=true:=by simp[keyIs,Value.isStrOf]
theorem key_ll (a b:Int):decide ((pT a:aM)=pT b)=(a == b):=by
 by_cases e:a=b
 ·subst e; simp
 ·have h : ¬ (pT a:aM)=pT b:=fun q=>e (Sum.inl.inj q)
  rw[decide_eq_false h]
  exact(beq_eq_false_iff_ne.mpr e).symm
theorem key_rr (a b:aD):decide ((hE a:aM)=hE b)=decide (a=b):=by
 by_cases e:a=b
 ·subst e; simp
 ·have h : ¬ (hE a:aM)=hE b:=fun q=>e (Sum.inr.inj q)
  rw[decide_eq_false h,decide_eq_false e]
theorem key_lr (a:Int)(b:aD):decide ((pT a:aM)=hE b)=false:=decide_eq_false (fun q=>nomatch q)
theorem key_rl (a:aD)(b:Int):decide ((hE a:aM)=pT b)=false:=decide_eq_false (fun q=>nomatch q)
noncomputable def cV (prog:bA)(w:aX):PySem.KeyKind prog w aM where
 is:=keyIs
 hash:=keyH w
 inj:=fun v a b ha hb=>by
  rcases kJ ha with⟨i,t,rfl,rfl⟩ | ⟨x,t,rfl,rfl⟩
  ·rcases kJ hb with⟨j,u,rfl,e⟩ | ⟨y,u,rfl,e⟩
   ·injection e with e1 _; rw[e1]
   ·exact nomatch e
  ·rcases kJ hb with⟨j,u,rfl,e⟩ | ⟨y,u,rfl,e⟩
   ·exact nomatch e
   ·injection e with e1 _; rw[e1]
 byValue:=fun k v h=>by
  rcases kJ h with⟨i,t,rfl,rfl⟩ | ⟨x,t,rfl,rfl⟩ <;> rfl
 pyHash:=fun hv h=>by
  rcases kJ hv with⟨i,t,rfl,rfl⟩ | ⟨x,t,rfl,rfl⟩
  ·exact wpAny_pyHash_int h
  ·exact wpAny_pyHash_str h
 eqBool:=fun hu hv h=>by
  rcases kJ hu with⟨i,t,rfl,rfl⟩ | ⟨x,t,rfl,rfl⟩
  ·rcases kJ hv with⟨j,u,rfl,rfl⟩ | ⟨y,u,rfl,rfl⟩
   ·rw[key_ll] at h; exact wpAny_eqBool_int h
   ·rw[key_lr] at h; exact SeqAt.EqAt.int_str i t y u _ _ _ _ h
  ·rcases kJ hv with⟨j,u,rfl,rfl⟩ | ⟨y,u,rfl,rfl⟩
   ·rw[key_rl] at h; exact SeqAt.EqAt.str_int x t j u _ _ _ _ h
   ·rw[key_rr] at h; exact wpAny_eqBool_str h
 «strs»:=fun k x t v h=>by
  rcases kJ h with⟨i,u,rfl,e⟩ | ⟨y,u,rfl,e⟩
  ·exact nomatch e
  ·injection e with e1 _
   subst e1
   cases v <;> rfl
theorem xP (prog:bA)(w:aX)(i:Int)(t:Tok):(cV prog w).is (.inl i) (.int i t)=true:=keyIs_int i t
theorem xO (prog:bA)(w:aX)(x:aD)(t:Tok):(cV prog w).is (.inr x) (.str x t)=true:=keyIs_str x t
inductive V where
 | non | bl (b:Bool) | int (i:Int) | str (x:aD) | byt (b:Array UInt8) | flt (b:UInt64) | ref (a:aB) | ty (n:String)
 deriving DecidableEq
def RelV:V->aE->Prop
 | .non,u=>u=eU
 | .bl b,u=>u=Value.bool b
 | .int i,u=>∃ t,u=uU i t
 | .str x,u=>∃ t,u=uT x t
 | .byt b,u=>∃ t,u=Value.bytes b t
 | .flt b,u=>∃ t,u=Value.float b t
 | .ref a,u=>u=dB a
 | .ty n,u=>u=gM n
abbrev Vals:List V->List aE->Prop:=cZ RelV
theorem Vals.length {xs:List V}{us:List aE}(r:Vals xs us):xs.length=us.length:=nB r
theorem Vals.get : ∀ {xs:List V} {us:List aE} {i:Nat} {x:V},Vals xs us->xs[i]?=some x -> ∃ u,us[i]?=some u/\RelV x u
 | _,_,_,_,.nil,e=>by simp at e
 | _,_,0,_,.cons r _,e=>by simp at e; subst e; exact⟨_,rfl,r⟩
 | _,_,i+1,x,.cons _ t,e=>by
  obtain⟨u,h1,h2⟩:=Vals.get (i:=i) (x:=x) t (by simpa using e)
  exact⟨u,by simpa using h1,h2⟩
theorem Vals.set {x:V}{u:aE}(r:RelV x u) : ∀ {xs:List V} {us:List aE} (i:Nat),Vals xs us->Vals (xs.set i x) (us.set i u)
 | _,_,_,.nil=>.nil
 | _,_,0,.cons _ t=>.cons r t
 | _,_,i+1,.cons q t=>.cons q (Vals.set r i t)
theorem Vals.append : ∀ {xs ys:List V} {us ws:List aE},Vals xs us->Vals ys ws->Vals (xs++ys) (us++ws)
 | _,_,_,_,.nil,s=>s
 | _,_,_,_,.cons r t,s=>.cons r (Vals.append t s)
theorem Vals.take : ∀ {xs:List V} {us:List aE} (n:Nat),Vals xs us->Vals (xs.take n) (us.take n)
 | _,_,0,_=>.nil
 | _,_,_+1,.nil=>.nil
 | _,_,n+1,.cons r t=>.cons r (Vals.take n t)
theorem Vals.drop : ∀ {xs:List V} {us:List aE} (n:Nat),Vals xs us->Vals (xs.drop n) (us.drop n)
 | _,_,0,r=>r
 | _,_,_+1,.nil=>.nil
 | _,_,n+1,.cons _ t=>Vals.drop n t
def Amh:Option V->Option aE->Prop
 | some v,some u=>RelV v u
 | none,none=>True
 | _,_=>False
def KV {κ:Type}:List (κ×V)->List (κ×aE)->Prop:=cZ fun(p:κ×V) (q:κ×aE)=>p.1=q.1/\RelV p.2 q.2
noncomputable def kV:aM->V
 | .inl i=>.int i
 | .inr x=>.str x
inductive HO where
 | lst (xs:List V)
 | tup (xs:List V)
 | dK (ep:Nat) (kvs:List (aM×V)) | dT (ep:Nat) (kvs:List (List aA×V))
 | set (S:Int->Bool) (n:Nat)
 | ins (C dx:aB) (fs:List (aD×V))
 | own (x:aB)
 | xd (fs:List (aD×V))
 | met (f x:aB)
 | rng (lo hi:Int)
 | frz (o:aT) (u:HO)
 | tbl (ps:Array aE)
 | ext (φ:aR->Prop)
abbrev Hp:=aB->Option HO
noncomputable def upd (H:Hp)(a:aB)(o:HO):Hp:=fun b=>if b=a then some o else H b
theorem dQ {H:Hp}{a:aB}{o:HO}:upd H a o a=some o:=by unfold upd; rw[if_pos rfl]
theorem bH {H:Hp}{a b:aB}{o:HO}(h:b≠a):upd H a o b=H b:=by unfold upd; rw[if_neg h]
theorem ne_of {H:Hp}{a b:aB}{o u:HO}(h:H a=some o)(h':H b=some u)(d:o≠u):a≠b:=by
 intro e; subst e; rw[h] at h'; exact d (fA h')
theorem fP {H:Hp}{a b:aB}{o:HO}(h:H a=some o)(h':H b=none):a≠b:=by
 intro e; subst e; rw[h] at h'; cases h'
mutual
def Agn (H:Hp):aA->V->Prop
 | .int i,v=>v = .int i
 | .str x,v=>v = .str x
 | .tuple ds,v=>∃ a xs,v = .ref a/\H a=some (.tup xs)/\Ad4 H ds xs
 | _,_=>False
def Ad4 (H:Hp):List aA->List V->Prop
 | [],vs=>vs=[]
 | d::r,vs=>∃ x rr,vs=x::rr/\Agn H d x/\Ad4 H r rr
end
mutual
theorem Agn.keep {H H':Hp}(ht : ∀ b xs,H b=some (.tup xs)->H' b=some (.tup xs)) : ∀ {d:aA} {v:V},Agn H d v->Agn H' d v
 | .int _,_,k=>by simpa [Agn] using k
 | .str _,_,k=>by simpa [Agn] using k
 | .tuple ds,_,k=>by
  simp only[Agn] at k ⊢
  obtain⟨a,xs,e,h,ks⟩:=k
  exact⟨a,xs,e,ht _ _ h,Ad4.keep ht ks⟩
 | .none,_,k=>by simp[Agn] at k
 | .bool _,_,k=>by simp[Agn] at k
 | .list _,_,k=>by simp[Agn] at k
 | .dict _,_,k=>by simp[Agn] at k
theorem Ad4.keep {H H':Hp}(ht : ∀ b xs,H b=some (.tup xs)->H' b=some (.tup xs)) : ∀ {ds:List aA} {vs:List V},Ad4 H ds vs->Ad4 H' ds vs
 | [],_,k=>by simpa [Ad4] using k
 | d::ds,_,k=>by
  simp only[Ad4] at k ⊢
  obtain⟨x,r,e,k1,k2⟩:=k
  exact⟨x,r,e,Agn.keep ht k1,Ad4.keep ht k2⟩
end
def Ait (H:Hp)(ks:List aA)(a:aB):Prop:=cJ ks=true/\eZ ks≤6 /\ ∃ xs,H a=some (.tup xs)/\Ad4 H ks xs
theorem Ait.keep {H H':Hp}{ks:List aA}{a:aB}(k:Ait H ks a)(ht : ∀ b xs,H b=some (.tup xs)->H' b=some (.tup xs)):Ait H' ks a:=
 ⟨k.1,k.2.1,k.2.2.choose,ht _ _ k.2.2.choose_spec.1,k.2.2.choose_spec.2.keep ht⟩
def TupP (h:aR)(a:aB)(its:Array aE):Prop:=IsTup h a its /\ ∃ o,h.get? a=some o/\o.dict=none
theorem TupP.new (h:aR)(its:Array aE):TupP (h.push { cls:=.type "tuple",data:=.seq its }) h.objs.size its:=⟨IsTup.new _ _,_,dU _ rfl,rfl⟩
section
variable (P:bA)(w:aX)
def Ace (H:Hp)(h:aR)(a:aB):HO->Prop
 | .lst xs=>xs.length≤sizeLine /\ ∃ (its:List aE) (n:Nat),Vals xs its/\h.get? a=some { cls:=.type "list",data:=.seq its.toArray n }
 | .tup xs=>xs.length≤sizeLine /\ ∃ its:List aE,Vals xs its/\TupP h a its.toArray
 | .dK ep kvs=>kvs.length≤sizeLine/\(a == gK)=false /\ ∃ vs,KV kvs vs/\h.DictAt (cV P w) a vs ep
 | .dT ep kvs=>kvs.length≤sizeLine/\(a == gK)=false /\ ∃ xs:List (List aA×aB×aE),
   cZ (fun(p:List aA×V) (q:List aA×aB×aE)=>p.1=q.1/\Ait H p.1 q.2.1/\RelV p.2 q.2.2) kvs xs /\
   ∃ o es,h.get? a=some o/\o.ExactDict/\o.data = .dict es ep/\es.toList=xs.map (entryOfKey (lO P w))/\(xs.map (·.1)).Nodup
 | .set S n=>h.SetOf (intKind P w) a S n
 | .ins C dx fs=>H dx=some (.own a)/\fs.length≤1000/\dx≠a/\h.get? a=some (mC C dx) /\
   ∃ mA,h.Ns1 dx mA/\(∀ f,Amh (fs.lookup f) (mA f))/\PySem.Within mA (fs.map (·.1))
 | .own _=>∃ o,h.get? a=some o
 | .xd fs=>∃ mA,h.Ns1 a mA /\ ∀ f,Amh (fs.lookup f) (mA f)
 | .rng lo hi=>∃ t u v,h.get? a=some { cls:=.type "range",data:=.fields #[.int lo t,.int hi u,.int 1 v] }
 | .frz o u=>h.get? a=some o/\Ace H h a u
 | .tbl ps=>h.get? a=some { cls:=.none,data:=.fields ps }
 | .met f x=>h.get? a=some (DL (.ref f) (.ref x))
 | .ext φ=>φ h/\(∃ o,h.get? a=some o) /\ ∀ h1 h2:aR,φ h1->(∀ o,h1.get? a=some o->h2.get? a=some o)->φ h2
def HOk (H:Hp)(h:aR):Prop:=∀ a o,H a=some o->Ace P w H h a o
end
section
variable {P:bA}{w:aX}{H H':Hp}{h h':aR}{a:aB}{o:HO}
theorem Ace.lt (x:Ace P w H h a o):a<h.objs.size:=by
 cases o with
 | lst xs=>obtain⟨_,_,_,_,e⟩:=x; exact bK e
 | tup xs=>obtain⟨_,_,_,p⟩:=x; exact p.1.lt
 | dK ep kvs=>obtain⟨_,_,_,_,o,_,e,_⟩:=x; exact bK e
 | dT ep kvs=>obtain⟨_,_,_,_,o,_,e,_⟩:=x; exact bK e
 | set S n=>obtain⟨o,_,_,_,e,_⟩:=x; exact bK e
 | ins C dx fs=>obtain⟨_,_,_,e,_⟩:=x; exact bK e
 | own y=>obtain⟨_,e⟩:=x; exact bK e
 | xd fs=>obtain⟨_,⟨_,_,_,e,_⟩,_⟩:=x; exact bK e
 | rng lo hi=>obtain⟨_,_,_,e⟩:=x; exact bK e
 | frz ob u=>obtain⟨e,_⟩:=x; exact bK e
 | tbl ps=>exact bK (show h.get? a=some _ from x)
 | met f y=>exact bK (show h.get? a=some _ from x)
 | ext φ=>obtain⟨_,⟨_,e⟩,_⟩:=x; exact bK e
theorem Paired.mapP {α β:Type}{F G:α->β->Prop} : ∀ {l₁:List α} {l₂:List β},cZ F l₁ l₂->(∀ a b,F a b->G a b)->cZ G l₁ l₂:=by
 intro l₁ l₂ h
 induction h with
 | nil=>exact fun _=>.nil
 | cons r _ ih=>exact fun f=>.cons (f _ _ r) (ih f)
theorem Ace.stay (x:Ace P w H h a o)(k : ∀ b u,(b=a \/ H b=some (.own a))->h.get? b=some u->h'.get? b=some u)
  (ho : ∀ b,H b=some (.own a)->H' b=some (.own a)) (ht : ∀ b xs,H b=some (.tup xs)->H' b=some (.tup xs)):Ace P w H' h' a o:=by
 induction o with
 | lst xs=>obtain⟨z,its,n,r,e⟩:=x; exact⟨z,its,n,r,k _ _ (.inl rfl) e⟩
 | tup xs=>obtain⟨z,its,r,⟨ob,e,c⟩,ob2,e2,c2⟩:=x; exact⟨z,its,r,⟨ob,k _ _ (.inl rfl) e,c⟩,ob2,k _ _ (.inl rfl) e2,c2⟩
 | dK ep kvs=>obtain⟨z,y,vs,r,ob,es,e,c⟩:=x; exact⟨z,y,vs,r,ob,es,k _ _ (.inl rfl) e,c⟩
 | dT ep kvs=>
  obtain⟨z,y,xs,r,ob,es,e,c⟩:=x
  exact⟨z,y,xs,Paired.mapP r fun p q z=>⟨z.1,z.2.1.keep ht,z.2.2⟩,ob,es,k _ _ (.inl rfl) e,c⟩
 | set S n=>obtain⟨ob,es,ep,t,e,c⟩:=x; exact⟨ob,es,ep,t,k _ _ (.inl rfl) e,c⟩
 | ins C dx fs=>
  obtain⟨d,z,ne,e,mA,⟨od,es,ep,e2,c⟩,r⟩:=x
  exact⟨ho _ d,z,ne,k _ _ (.inl rfl) e,mA,⟨od,es,ep,k _ _ (.inr d) e2,c⟩,r⟩
 | own y=>obtain⟨ob,e⟩:=x; exact⟨ob,k _ _ (.inl rfl) e⟩
 | xd fs=>obtain⟨mA,⟨od,es,ep,e,c⟩,r⟩:=x; exact⟨mA,⟨od,es,ep,k _ _ (.inl rfl) e,c⟩,r⟩
 | rng lo hi=>obtain⟨t,u,v,e⟩:=x; exact⟨t,u,v,k _ _ (.inl rfl) e⟩
 | frz ob u ih=>obtain⟨e,q⟩:=x; exact⟨k _ _ (.inl rfl) e,ih q⟩
 | tbl ps=>
  have e:h.get? a=some { cls:=.none,data:=.fields ps }:=x
  show h'.get? a=some { cls:=.none,data:=.fields ps }
  exact k a _ (.inl rfl) e
 | met f y=>
  have e:h.get? a=some (DL (.ref f) (.ref y)):=x
  show h'.get? a=some (DL (.ref f) (.ref y))
  exact k a _ (.inl rfl) e
 | ext φ=>obtain⟨p,⟨o,e⟩,st⟩:=x; exact⟨st _ _ p fun o q=>k _ _ (.inl rfl) q,⟨o,k _ _ (.inl rfl) e⟩,st⟩
theorem HOk.lt (x:HOk P w H h)(e:H a=some o):a<h.objs.size:=(x a o e).lt
theorem HOk.fresh (x:HOk P w H h)(e:h.objs.size≤a):H a=none:=by
 cases q:H a with
 | none=>rfl
 | some u=>exact absurd (gN (x.lt q) e) (jE _)
theorem HOk.kept (x:HOk P w H h)(k : ∀ b u,h.get? b=some u->h'.get? b=some u):HOk P w H h':=fun a o e=>
 (x a o e).stay (fun b u _ q=>k b u q) (fun _ q=>q) fun _ _ q=>q
theorem HOk.laid (x:HOk P w H h)(k : ∀ b u,h.get? b=some u->h'.get? b=some u)(hp:h.objs.size≤a)(new:Ace P w (upd H a o) h' a o):HOk P w (upd H a o) h':=fun b u e=>by
 have hn:=x.fresh hp
 by_cases hb:b=a
 ·subst hb; rw[dQ] at e; cases e; exact new
 ·rw[bH hb] at e
  exact(x b u e).stay (fun c v _ q=>k c v q) (fun c q=>by rw[bH (fP q hn)]; exact q) fun c xs q=>by rw[bH (fP q hn)]; exact q
end
def Rd (H:Hp)(a:aB)(u:HO):Prop:=H a=some u \/ ∃ o,H a=some (.frz o u)
theorem Rd.ok {P:bA}{w:aX}{H:Hp}{h:aR}{a:aB}{u:HO}(r:Rd H a u)(x:HOk P w H h):Ace P w H h a u:=by
 rcases r with r | ⟨o,r⟩
 ·exact x a u r
 ·obtain⟨_,q⟩:=x a _ r
  exact q
def qB:Option HO->Prop
 | some (.lst _)=>True
 | some (.dK _ _)=>True
 | some (.dT _ _)=>True
 | some (.set _ _)=>True
 | some (.ins _ _ _)=>True
 | some (.ext _)=>True
 | _=>False
section
variable {P:bA}{w:aX}{H:Hp}{h h':aR}{x e:aB}{o':HO}
theorem HOk.write (ok:HOk P w H h)(mu:qB (H x))(he:e=x \/ H e=some (.own x))(k : ∀ b u,b≠e->h.get? b=some u->h'.get? b=some u)(heo : ∃ u,h'.get? e=some u)
  (new:Ace P w (upd H x o') h' x o'):HOk P w (upd H x o') h':=fun b u q=>by
 have nown : ∀ c y,H c=some (.own y)->c≠x:=fun c y r z=>by subst z; rw[r] at mu; exact mu
 have ntup : ∀ c xs,H c=some (.tup xs)->c≠x:=fun c xs r z=>by subst z; rw[r] at mu; exact mu
 by_cases hb:b=x
 ·subst hb; rw[dQ] at q; cases q; exact new
 ·rw[bH hb] at q
  by_cases hbe:b=e
  ·have q':H b=some (.own x):=by
    rcases he with z | z
    ·exact absurd (hbe.trans z) hb
    ·rw[hbe]; exact z
   rw[q] at q'; cases q'
   obtain⟨v,hv⟩:=heo
   exact⟨v,by rw[hbe]; exact hv⟩
  ·refine(ok b u q).stay (fun c v hc r=>k c v ?_ r) (fun c r=>by rw[bH (nown c b r)]; exact r) fun c xs r=>by rw[bH (ntup c xs r)]; exact r
   rcases hc with rfl | hc
   ·exact hbe
   ·rintro rfl
    rcases he with z | z
    ·exact nown c b hc z
    ·rw[hc] at z; cases z; exact hb rfl
end
structure Un (fs ex:List aB)(H H':Hp)(h h':aR):Prop where
 keep : ∀ b o,h.get? b=some o->H b=none->b∉fs->b∉ex->h'.get? b=some o
 slot : ∀ b o,h.get? b=some o->H b=none->b∈fs->b∉ex -> ∃ sl,h'.get? b=some { o with slots:=sl }
 free : ∀ b o,h.get? b=some o->H b=none->b∉ex->H' b=none
 there : ∀ b o,h.get? b=some o->b∉ex -> ∃ o',h'.get? b=some o'
 tups : ∀ b xs,H b=some (.tup xs)->H' b=some (.tup xs)
 frzs : ∀ b o u,H b=some (.frz o u)->H' b=some (.frz o u)
 tbls : ∀ b ps,H b=some (.tbl ps) -> ∃ more,H' b=some (.tbl (ps++more))
section
variable {fs fs' ex ex':List aB}{H H1 H2:Hp}{h h1 h2 h':aR}{a x e:aB}{o:HO}
theorem Un.any (u:Un fs ex H H1 h h1){b:aB}{ob:aT}(q:h.get? b=some ob)(n:H b=none)(hx:b∉ex) : ∃ sl,h1.get? b=some { ob with slots:=sl }:=by
 by_cases hb:b∈fs
 ·exact u.slot b ob q n hb hx
 ·exact⟨ob.slots,u.keep b ob q n hb hx⟩
theorem Un.trans (a:Un fs ex H H1 h h1)(b:Un fs ex H1 H2 h1 h2):Un fs ex H H2 h h2 where
 keep:=fun c ob q n hc hx=>b.keep c ob (a.keep c ob q n hc hx) (a.free c ob q n hx) hc hx
 slot:=fun c ob q n hc hx=>by
  obtain⟨sl,e1⟩:=a.slot c ob q n hc hx
  obtain⟨sl',e2⟩:=b.slot c _ e1 (a.free c ob q n hx) hc hx
  exact⟨sl',e2⟩
 free:=fun c ob q n hx=>by
  obtain⟨o',e1⟩:=a.there c ob q hx
  exact b.free c o' e1 (a.free c ob q n hx) hx
 there:=fun c ob q hx=>by
  obtain⟨o',e1⟩:=a.there c ob q hx
  exact b.there c o' e1 hx
 tups:=fun c xs q=>b.tups c xs (a.tups c xs q)
 frzs:=fun c ob xs q=>b.frzs c ob xs (a.frzs c ob xs q)
 tbls:=fun c ps q=>by
  obtain⟨m1,e1⟩:=a.tbls c ps q
  obtain⟨m2,e2⟩:=b.tbls c _ e1
  exact⟨m1++m2,by rw[e2,Array.append_assoc]⟩
theorem Un.kept (k : ∀ b u,h.get? b=some u->h'.get? b=some u):Un fs ex H H h h':=
 ⟨fun b ob q _ _ _=>k b ob q,fun b ob q _ _ _=>⟨ob.slots,k b ob q⟩,fun _ _ _ n _=>n,fun b ob q _=>⟨ob,k b ob q⟩,fun _ _ q=>q,fun _ _ _ q=>q,fun _ ps q=>⟨#[],by rw[q]; simp⟩⟩
theorem Un.refl:Un fs ex H H h h:=Un.kept fun _ _ q=>q
theorem Un.laid (k : ∀ b u,h.get? b=some u->h'.get? b=some u)(hp:h.objs.size≤a)(hn:H a=none):Un fs ex H (upd H a o) h h' where
 keep:=fun b u q _ _ _=>k b u q
 slot:=fun b u q _ _ _=>⟨u.slots,k b u q⟩
 free:=fun b u q n _=>by rw[bH (cK (gN (bK q) hp))]; exact n
 there:=fun b u q _=>⟨u,k b u q⟩
 tups:=fun b xs q=>by rw[bH (fP q hn)]; exact q
 frzs:=fun b u xs q=>by rw[bH (fP q hn)]; exact q
 tbls:=fun b ps q=>⟨#[],by rw[bH (fP q hn),q]; simp⟩
theorem Un.write (mu:qB (H x))(he:e=x \/ H e=some (.own x))(k : ∀ b u,b≠e->h.get? b=some u->h'.get? b=some u)(heo : ∃ u,h'.get? e=some u):Un fs ex H (upd H x o) h h':=by
 have hx : ∀ b,H b=none->b≠x:=fun b n z=>by subst z; rw[n] at mu; exact mu
 have hb : ∀ b,H b=none->b≠e:=fun b n z=>by
  subst z
  rcases he with r | r
  ·exact hx b n r
  ·rw[n] at r; cases r
 have hm : ∀ b u,H b=some u -> ¬ qB (some u)->b≠x:=fun b u q nm z=>by subst z; rw[q] at mu; exact nm mu
 refine⟨fun b u q n _ _=>k b u (hb b n) q,fun b u q n _ _=>⟨u.slots,k b u (hb b n) q⟩,fun b u q n _=>by rw[bH (hx b n)]; exact n,fun b u q _=>?_,
  fun b xs q=>by rw[bH (hm b _ q fun z=>z)]; exact q,fun b u xs q=>by rw[bH (hm b _ q fun z=>z)]; exact q,fun b ps q=>⟨#[],by rw[bH (hm b _ q fun z=>z),q]; simp⟩⟩
 by_cases hbe:b=e
 ·subst hbe; exact heo
 ·exact⟨u,k b u hbe q⟩
end
noncomputable def trk (h:aR)(H:Hp):List aB:=(dC h.objs.size).filter fun a=>(H a).isSome
noncomputable def hidT (h:aR)(H:Hp):aR:=PySem.W.hideAll h (trk h H)
theorem hidT_size (h:aR)(H:Hp):(hidT h H).objs.size=h.objs.size:=PySem.W.hideAll_size _ _
theorem hidT_get {h:aR}{H:Hp}{b:aB}{o:aT}(e:h.get? b=some o)(n:H b=none):(hidT h H).get? b=some o:=
 yM _ e fun hm=>by
  have q:(H b).isSome=true:=(List.mem_filter.mp hm).2
  rw[n] at q; simp at q
theorem of_hidT {h:aR}{H:Hp}{b:aB}{o:aT}(e:(hidT h H).get? b=some o):h.get? b=some o/\H b=none:=by
 have e':h.get? b=some o:=DK (trk h H) e
 refine⟨e',?_⟩
 cases q:H b with
 | none=>rfl
 | some x=>
  have hm:b∈trk h H:=List.mem_filter.mpr ⟨jU.mpr (bK e'),by simp[q]⟩
  have z:(hidT h H).get? b=none:=PySem.W.hideAll_none (trk h H) hm
  rw[z] at e; cases e
noncomputable def allNews (g h:aR)(L:aB):List (aB×aT):=(dC h.objs.size).filterMap fun a=>if a=L \/ (g.get? a).isSome=true then none else(h.get? a).map fun o=>(a,o)
noncomputable def rest (g h:aR)(L d:aB):List (aB×aT):=(allNews g h L).filter fun p=>decide (p.1≠d)
structure Mod (K:aI)(mg:aD->Option aE)(base:aR):Prop where
 kin:K.In base
 glob:base.Ns bR mg
 blt : ∃ mb,base.Ns builtinsNs mb /\ ∀ x:aD,x ≠ "__name__" -> mb x=iH x
 nolimit:base.NoLimit
structure Cx where
 prog:bA
 w:aX
 K:aI
 mg:aD->Option aE
 base:aR
 A:bQ
 N:List aD
 s₀:aG
 H₀:Hp
 env:dI
 outer:List dI
 stack:List dI
 ex:List aB
 fn:aD->Bool
 calm:Bool
 pn:List (aB×aT)
 xe:aE->aG->Prop
noncomputable def frs (l:List dI):List aB:=l.filterMap (·.frame)
noncomputable abbrev Cx.fs (X:Cx):List aB:=frs X.outer
def mI (sc:gD)(x:aD):Prop:=sc.names.lookup x=some .local \/ sc.names.lookup x=some .cell \/ sc.names.lookup x=some .free
def jV (sc:gD)(x:aD):Prop:=sc.names.lookup x=some .local \/ sc.names.lookup x=some .cell
def Look (env:dI)(h:aR)(m:aD->Option aE)(x:aD)(u:aE):Prop:=
 (env.kindOf x=some .local/\m x=some u) \/ ((env.kindOf x=some .cell \/ env.kindOf x=some .free) /\ ∃ c,env.cells.lookup x=some c/\h.IsCell c (some u))
structure Cx.Ok (X:Cx):Prop where
 mod:Mod X.K X.mg X.base
 kind:X.env.scope.kind = .function
 glob:X.env.globals=bR
 blt:X.env.builtins=builtinsNs
 above:X.s₀.heap.objs.size≤X.env.locals
 inj : ∀ x y c,X.env.cells.lookup x=some c->X.env.cells.lookup y=some c->x=y
 has : ∀ x,(X.env.kindOf x=some .cell \/ X.env.kindOf x=some .free) -> ∃ c,X.env.cells.lookup x=some c
 cab : ∀ x c,X.fn x=true->X.env.cells.lookup x=some c->X.s₀.heap.objs.size≤c
 hd:X.calm=true->X.A.handled=none
 frames:X.A.frames=some X.stack
 stk:X.stack=X.outer \/ (X.stack=X.env::X.outer/\X.env.frame=some X.env.locals)
 exf : ∀ b∈X.ex,b≠X.env.locals /\ ∀ x c,X.env.cells.lookup x=some c->c≠b
 bs : ∀ b o,X.base.get? b=some o->X.s₀.heap.get? b=some o/\X.H₀ b=none
 bsz:X.base.objs.size≤X.s₀.heap.objs.size
 noex : ∀ b o,X.base.get? b=some o->b∉X.ex
 exfs : ∀ b∈X.ex,b∉X.fs
 funs:X.s₀.heap.FunFrames X.base X.outer
 frf : ∀ b∈X.fs,X.H₀ b=none
structure Inv (X:Cx)(pins:List (aB×aT))(σ:List (Option V))(H:Hp)(s:aG):Prop where
 ok:X.Ok
 os:s.os=X.s₀.os
 bare:mH s.gens
 base:Un X.fs X.ex X.H₀ H X.s₀.heap s.heap
 loc : ∃ m,s.heap.Ns X.env.locals m /\ ∀ (i:Nat) (x:aD) (v:V),X.N[i]?=some x->σ[i]?=some (some v)->mI X.env.scope x -> ∃ u,RelV v u/\Look X.env s.heap m x u
 cell : ∀ x c,X.env.cells.lookup x=some c -> ∃ v,s.heap.IsCell c v
 free:H X.env.locals=none
 freeC : ∀ x c,X.env.cells.lookup x=some c->H c=none
 pin : ∀ p∈X.pn++pins,s.heap.get? p.1=some p.2/\H p.1=none/\p.1≠X.env.locals/\p.1∉X.fs /\ ∀ v,p.2.data ≠ .cell v
 hok:HOk X.prog X.w H s.heap
 len:σ.length=X.N.length
section
variable {X:Cx}{pins:List (aB×aT)}{σ:List (Option V)}{H H':Hp}{s:aG}{h':aR}
theorem Cx.Ok.nofr (ok:X.Ok){b:aB}{o:aT}(e:X.base.get? b=some o):b∉X.fs:=fun hb=>by
 have:=(ok.funs.mem hb).1
 rw[e] at this; cases this
theorem Inv.bs (I:Inv X pins σ H s) : ∀ b o,X.base.get? b=some o->s.heap.get? b=some o/\H b=none:=fun b o e=>
 ⟨I.base.keep b o (I.ok.bs b o e).1 (I.ok.bs b o e).2 (I.ok.nofr e) (I.ok.noex b o e),I.base.free b o (I.ok.bs b o e).1 (I.ok.bs b o e).2 (I.ok.noex b o e)⟩
theorem Inv.bk (I:Inv X pins σ H s) : ∀ b o,X.base.get? b=some o->s.heap.get? b=some o:=fun b o e=>(I.bs b o e).1
theorem Inv.mod (I:Inv X pins σ H s):Mod X.K X.mg X.base:=I.ok.mod
theorem Inv.kIn (I:Inv X pins σ H s):X.K.In s.heap:=I.ok.mod.kin.keeps I.bk
theorem Inv.lt (I:Inv X pins σ H s):X.env.locals<s.heap.objs.size:=let ⟨_,hn,_⟩:=I.loc; hn.lt
theorem Inv.sz (I:Inv X pins σ H s):X.s₀.heap.objs.size≤s.heap.objs.size:=kO I.ok.above (sJ I.lt)
theorem Inv.nofs (I:Inv X pins σ H s){a:aB}(h:s.heap.objs.size≤a):a∉X.fs:=fun hb=>by
 obtain⟨_,o,ho,_⟩:=I.ok.funs.mem hb
 exact absurd (gN (bK ho) (kO I.sz h)) (jE _)
theorem Inv.cne (I:Inv X pins σ H s) : ∀ x c,X.env.cells.lookup x=some c->c≠X.env.locals:=fun x c e z=>by
 obtain⟨v,o,ho,hd⟩:=I.cell x c e
 obtain⟨m,⟨o',es,ep,ho',hd',_⟩,_⟩:=I.loc
 rw[z,ho'] at ho; cases ho; rw[hd'] at hd; cases hd
theorem Inv.funs (I:Inv X pins σ H s):s.heap.FunFrames X.base X.outer:=by
 have all : ∀ (l:List dI),(∀ b∈frs l,b∈X.fs)->X.s₀.heap.FunFrames X.base l->s.heap.FunFrames X.base l:=by
  intro l
  induction l with
  | nil=>intro _ _; trivial
  | cons env r ih=>
   intro hs hl
   obtain⟨hk,⟨L,o,hf,hn,ho,hd⟩,hr⟩:=hl
   have hL:L∈X.fs:=hs L (by unfold frs; rw[EU,hf]; exact cA)
   obtain⟨sl,e⟩:=I.base.slot L o ho (I.ok.frf L hL) hL fun z=>I.ok.exfs L z hL
   exact⟨hk,⟨L,_,hf,hn,e,hd⟩,ih (fun b hb=>hs b (by unfold frs; rw[EU,hf]; exact cI _ hb)) hr⟩
 exact all X.outer (fun _ hb=>hb) I.ok.funs
theorem Inv.stack (I:Inv X pins σ H s):s.heap.FunFrames X.base X.stack:=by
 rcases I.ok.stk with e | ⟨e,hf⟩
 ·rw[e]; exact I.funs
 ·rw[e]
  obtain⟨m,hn,_⟩:=I.loc
  refine .cons (by rw[I.ok.kind]; decide) hf hn ?_ I.funs
  exact Heap.get?_none_of_le (kO I.ok.bsz I.ok.above)
theorem Inv.stkSub (I:Inv X pins σ H s) : ∀ b∈frs X.stack,b∈X.env.locals::X.fs:=fun b hb=>by
 rcases I.ok.stk with e | ⟨e,hf⟩
 ·rw[e] at hb; exact cI _ hb
 ·rw[e] at hb
  unfold frs at hb
  rw[EU,hf] at hb
  exact hb
theorem Inv.stkFree (I:Inv X pins σ H s) : ∀ b∈frs X.stack,H b=none:=fun b hb=>by
 rcases cN.mp (I.stkSub b hb) with e | hb
 ·rw[e]; exact I.free
 ·obtain⟨_,o,ho,_⟩:=I.ok.funs.mem hb
  exact I.base.free b o ho (I.ok.frf b hb) fun z=>I.ok.exfs b z hb
theorem Inv.step {g':Array pY}{t':Nat}{d':Drawn}{ch:List aB}(I:Inv X pins σ H s)
  (hch : ∀ b∈ch,(b∈X.ex \/ X.s₀.heap.objs.size≤b)/\b≠X.env.locals/\(∀ x c,X.env.cells.lookup x=some c->c≠b) /\ ∀ p∈X.pn++pins,p.1≠b)
  (keep : ∀ b o,b≠X.env.locals->b∉X.fs->b∉ch->s.heap.get? b=some o->H b=none->h'.get? b=some o)
  (slot : ∀ b o,b≠X.env.locals->b∈X.fs->b∉ch->s.heap.get? b=some o->H b=none -> ∃ sl,h'.get? b=some { o with slots:=sl }) (free : ∀ b o,b∉ch->s.heap.get? b=some o->H b=none->H' b=none)
  (there : ∀ b o,b∉ch->s.heap.get? b=some o -> ∃ o',h'.get? b=some o')
  (tups : ∀ b xs,H b=some (.tup xs)->H' b=some (.tup xs)) (frzs : ∀ b o u,H b=some (.frz o u)->H' b=some (.frz o u)) (tbls : ∀ b ps,H b=some (.tbl ps) -> ∃ more,H' b=some (.tbl (ps++more)))
  (ns : ∀ m,s.heap.Ns X.env.locals m->h'.Ns X.env.locals m) (hok:HOk X.prog X.w H' h') (hg:mH g') :
  Inv X pins σ H' { s with heap:=h',gens:=g',drawn:=d',toks:=t' }:=by
 have neL : ∀ b o,X.s₀.heap.get? b=some o->b≠X.env.locals:=fun b o e=>cK (gN (bK e) I.ok.above)
 have neC : ∀ b o,X.s₀.heap.get? b=some o->b∉X.ex->b∉ch:=fun b o e hx hb=>by
  rcases(hch b hb).1 with z | z
  ·exact hx z
  ·exact absurd (gN (bK e) z) (jE _)
 have cellK : ∀ x c,X.env.cells.lookup x=some c -> ∀ v,s.heap.IsCell c v->h'.IsCell c v:=fun x c e v gh=>by
  obtain⟨o,ho,hd⟩:=gh
  have nch:c∉ch:=fun z=>(hch c z).2.2.1 x c e rfl
  by_cases hc:c∈X.fs
  ·obtain⟨sl,q⟩:=slot c o (I.cne x c e) hc nch ho (I.freeC x c e)
   exact⟨_,q,hd⟩
  ·exact⟨o,keep c o (I.cne x c e) hc nch ho (I.freeC x c e),hd⟩
 refine⟨I.ok,I.os,hg,⟨fun b o e n hb hx=>?_,fun b o e n hb hx=>?_,fun b o e n hx=>?_,fun b o e hx=>?_,fun b xs e=>tups b xs (I.base.tups b xs e),fun b o xs e=>frzs b o xs (I.base.frzs b o xs e),fun b ps e=>?_⟩,?_,fun x c e=>?_,?_,fun x c e=>?_,fun p hp=>?_,hok,I.len⟩
 ·exact keep b o (neL b o e) hb (neC b o e hx) (I.base.keep b o e n hb hx) (I.base.free b o e n hx)
 ·obtain⟨sl,e1⟩:=I.base.slot b o e n hb hx
  obtain⟨sl',e2⟩:=slot b _ (neL b o e) hb (neC b o e hx) e1 (I.base.free b o e n hx)
  exact⟨sl',e2⟩
 ·obtain⟨o',e1⟩:=I.base.there b o e hx
  exact free b o' (neC b o e hx) e1 (I.base.free b o e n hx)
 ·obtain⟨o',e1⟩:=I.base.there b o e hx
  exact there b o' (neC b o e hx) e1
 ·obtain⟨m1,e1⟩:=I.base.tbls b ps e
  obtain⟨m2,e2⟩:=tbls b _ e1
  exact⟨m1++m2,by rw[e2,Array.append_assoc]⟩
 ·obtain⟨m,hn,hl⟩:=I.loc
  refine⟨m,ns m hn,fun i x v e1 e2 e3=>?_⟩
  obtain⟨u,r,l⟩:=hl i x v e1 e2 e3
  refine⟨u,r,?_⟩
  rcases l with l | ⟨k,c,e,z⟩
  ·exact .inl l
  ·exact .inr ⟨k,c,e,cellK x c e _ z⟩
 ·obtain⟨v,z⟩:=I.cell x c e
  exact⟨v,cellK x c e v z⟩
 ·obtain⟨m,⟨o,_,_,ho,_⟩,_⟩:=I.loc
  exact free _ o (fun z=>(hch _ z).2.1 rfl) ho I.free
 ·obtain⟨v,o,ho,hd⟩:=I.cell x c e
  exact free c o (fun z=>(hch c z).2.2.1 x c e rfl) ho (I.freeC x c e)
 ·obtain⟨e,n,ne,nf,d⟩:=I.pin p hp
  have nch:p.1∉ch:=fun z=>(hch p.1 z).2.2.2 p hp rfl
  exact⟨keep p.1 p.2 ne nf nch e n,free p.1 p.2 nch e n,ne,nf,d⟩
theorem Inv.un {t':Nat}(I:Inv X pins σ H s)(u:Un X.fs [] H H' s.heap h')(hok:HOk X.prog X.w H' h'):Inv X pins σ H' { s with heap:=h',toks:=t' }:=by
 obtain⟨m,⟨o,es,ep,ho,r⟩,_⟩:=id I.loc
 obtain⟨sl,hL⟩:=u.any ho I.free (by simp)
 exact I.step (g':=s.gens) (d':=s.drawn) (ch:=[]) (fun _ z=>nomatch z) (fun b o _ hb _ e n=>u.keep b o e n hb (by simp)) (fun b o _ hb _ e n=>u.slot b o e n hb (by simp)) (fun b o _ e n=>u.free b o e n (by simp)) (fun b o _ e=>u.there b o e (by simp)) u.tups u.frzs u.tbls (fun m' hm=>by
  obtain⟨o',es',ep',ho',r'⟩:=hm
  rw[ho] at ho'; cases ho'
  exact⟨_,es',ep',hL,r'⟩) hok I.bare
theorem Inv.call {g':Array pY}{t':Nat}{d':Drawn}{ch:List aB}(I:Inv X pins σ H s)(u:Un (frs X.stack) ch H H' s.heap h')(hok:HOk X.prog X.w H' h')(hg:mH g')
  (hch : ∀ b∈ch,(b∈X.ex \/ X.s₀.heap.objs.size≤b)/\b≠X.env.locals/\(∀ x c,X.env.cells.lookup x=some c->c≠b) /\ ∀ p∈X.pn++pins,p.1≠b) :
  Inv X pins σ H' { s with heap:=h',gens:=g',drawn:=d',toks:=t' }:=by
 obtain⟨m,⟨o,es,ep,ho,r⟩,_⟩:=id I.loc
 obtain⟨sl,hL⟩:=u.any ho I.free fun z=>(hch _ z).2.1 rfl
 exact I.step (ch:=ch) hch (fun b o hL hb hc e n=>u.keep b o e n (fun z=>(cN.mp (I.stkSub b z)).elim hL hb) hc) (fun b o _ _ hc e n=>u.any e n hc) (fun b o hc e n=>u.free b o e n hc) (fun b o hc e=>u.there b o e hc) u.tups u.frzs u.tbls (fun m' hm=>by
  obtain⟨o',es',ep',ho',r'⟩:=hm
  rw[ho] at ho'; cases ho'
  exact⟨_,es',ep',hL,r'⟩) hok hg
theorem Inv.turned {t':Nat}{it:aB}(I:Inv X pins σ H s)(k : ∀ b o,b≠it->s.heap.get? b=some o->h'.get? b=some o)(hn:H it=none)(hL:it≠X.env.locals)
  (h1:it∈X.ex \/ X.s₀.heap.objs.size≤it) (h2 : ∀ x c,X.env.cells.lookup x=some c->c≠it) (h3 : ∀ p∈X.pn++pins,p.1≠it):Inv X pins σ H { s with heap:=h',toks:=t' }:=by
 have nit : ∀ b u,H b=some u->b≠it:=fun b u e z=>by rw[z,hn] at e; cases e
 refine I.step (g':=s.gens) (d':=s.drawn) (ch:=[it]) (fun b hb=>?_) (fun b o _ _ hc e _=>k b o (fun z=>hc (by simp[z])) e) (fun b o _ _ hc e _=>⟨o.slots,k b o (fun z=>hc (by simp[z])) e⟩) (fun _ _ _ _ n=>n)
  (fun b o hc e=>⟨o,k b o (fun z=>hc (by simp[z])) e⟩) (fun _ _ e=>e) (fun _ _ _ e=>e) (fun b ps e=>⟨#[],by rw[e]; simp⟩) (fun m hm=>?_) (fun b u e=>?_) I.bare
 ·have e:b=it:=by simpa using hb
  subst e
  exact⟨h1,hL,h2,h3⟩
 ·obtain⟨o,es,ep,ho,r⟩:=hm
  exact⟨o,es,ep,k _ o (gU hL) ho,r⟩
 ·refine(I.hok b u e).stay (fun c v hc q=>k c v ?_ q) (fun _ q=>q) fun _ _ q=>q
  rcases hc with z | z
  ·rw[z]; exact nit b u e
  ·exact nit c _ z
theorem Inv.tok (I:Inv X pins σ H s)(t:Nat):Inv X pins σ H { s with toks:=t }:=I.un (h':=s.heap) (t':=t) Un.refl I.hok
theorem Inv.kept {t':Nat}(I:Inv X pins σ H s)(k : ∀ b u,s.heap.get? b=some u->h'.get? b=some u):Inv X pins σ H { s with heap:=h',toks:=t' }:=I.un (Un.kept k) (I.hok.kept k)
theorem Inv.laid {a:aB}{o:HO}{t':Nat}(I:Inv X pins σ H s)(k : ∀ b u,s.heap.get? b=some u->h'.get? b=some u)(hp:s.heap.objs.size≤a)(new:Ace X.prog X.w (upd H a o) h' a o) :
  Inv X pins σ (upd H a o) { s with heap:=h',toks:=t' }:=I.un (Un.laid k hp (I.hok.fresh hp)) (I.hok.laid k hp new)
theorem Inv.write {x e:aB}{o:HO}{t':Nat}(I:Inv X pins σ H s)(mu:qB (H x))(he:e=x \/ H e=some (.own x))(k : ∀ b u,b≠e->s.heap.get? b=some u->h'.get? b=some u)(heo : ∃ u,h'.get? e=some u)
  (new:Ace X.prog X.w (upd H x o) h' x o):Inv X pins σ (upd H x o) { s with heap:=h',toks:=t' }:=I.un (Un.write mu he k heo) (I.hok.write mu he k heo new)
theorem Inv.pins_of {pins':List (aB×aT)}(I:Inv X pins σ H s)(h : ∀ p∈pins',s.heap.get? p.1=some p.2/\H p.1=none/\p.1≠X.env.locals/\p.1∉X.fs /\ ∀ v,p.2.data ≠ .cell v):Inv X pins' σ H s:=
 ⟨I.ok,I.os,I.bare,I.base,I.loc,I.cell,I.free,I.freeC,fun p hp=>(kP.mp hp).elim (fun z=>I.pin p (EN _ z)) (h p),I.hok,I.len⟩
theorem vU {N:List aD}(hN:N.Nodup){i j:Nat}{x:aD}(a:N[i]?=some x)(b:N[j]?=some x):i=j:=by
 obtain⟨h1,e1⟩:=eK.mp a
 obtain⟨h2,e2⟩:=eK.mp b
 exact(List.getElem_inj hN).mp (e1.trans e2.symm)
theorem zK {M:Model}{A:bQ}{E:aE->aG->Prop}{i:Nat}{x:aD}{v:V}{u:aE}{Q:Unit->aG->Prop}(I:Inv X pins σ H s)(hN:X.N.Nodup)(hi:X.N[i]?=some x)(hx:jV X.env.scope x)(r:RelV v u)
  (h : ∀ s',Inv X pins (σ.set i (some v)) H s'->(∃ a,vI a s.heap s'.heap/\(a=X.env.locals \/ X.env.cells.lookup x=some a))->Q () s') (hf:X.fn x=true \/ X.env.scope.names.lookup x=some .local:=by first | exact .inl rfl | exact .inr rfl | assumption):aO M A (storeName X.env x u) Q E s:=by
 obtain⟨m,hn,hl⟩:=id I.loc
 have hcls:(X.env.scope.kind == .class||(X.env.scope.kind == .module&&X.env.locals != X.env.globals))=false:=by rw[I.ok.kind]; rfl
 have hiσ:i<σ.length:=by rw[I.len]; exact(eK.mp hi).1
 have cne:=I.cne
 have tracked : ∀ {a:aB} {h':aR},(∃ o,s.heap.get? a=some o/\H a=none)->vI a s.heap h'->HOk X.prog X.w H h':=fun {a h'} ha hs b ob e=>by
  obtain⟨_,_,hfree⟩:=ha
  refine(I.hok b ob e).stay (fun c w' hc q=>(hs.2 c ?_).trans q) (fun _ q=>q) fun _ _ q=>q
  rintro rfl
  rcases hc with rfl | hc
  ·rw[hfree] at e; cases e
  ·rw[hfree] at hc; cases hc
 rcases hx with hk | hk
 ·refine wpAny_storeName_local hk hn (fun h' hn' hs=>?_) hcls
  obtain⟨oL,_,_,hoL,_⟩:=id hn
  refine h _ ⟨I.ok,I.os,I.bare,⟨fun b o e n hb hx=>?_,fun b o e n hb hx=>?_,I.base.free,fun b o e hx=>?_,I.base.tups,I.base.frzs,I.base.tbls⟩,⟨_,hn',fun j y v' e1 e2 e3=>?_⟩,fun y c e=>?_,I.free,I.freeC,fun p hp=>?_,tracked ⟨oL,hoL,I.free⟩ hs,by simpa using I.len⟩ ⟨_,hs,.inl rfl⟩
  ·exact(hs.2 b (cK (gN (bK e) I.ok.above))).trans (I.base.keep b o e n hb hx)
  ·obtain⟨sl,e1⟩:=I.base.slot b o e n hb hx
   exact⟨sl,(hs.2 b (cK (gN (bK e) I.ok.above))).trans e1⟩
  ·obtain⟨o',e1⟩:=I.base.there b o e hx
   exact⟨o',(hs.2 b (cK (gN (bK e) I.ok.above))).trans e1⟩
  ·by_cases hj:j=i
   ·subst hj
    rw[hi] at e1; cases e1
    rw[kR hiσ] at e2
    cases e2
    exact⟨u,r,.inl ⟨hk,by simp⟩⟩
   ·rw[jG (gU hj)] at e2
    obtain⟨u',r',q⟩:=hl j y v' e1 e2 e3
    refine⟨u',r',?_⟩
    rcases q with⟨k,e⟩ | ⟨k,c,e,z⟩
    ·refine .inl ⟨k,?_⟩
     have:y≠x:=fun e=>hj (vU hN e1 (e ▸ hi))
     simp[this,e]
    ·exact .inr ⟨k,c,e,z.sameBut hs (cne y c e)⟩
  ·obtain⟨w',z⟩:=I.cell y c e
   exact⟨w',z.sameBut hs (cne y c e)⟩
  ·obtain⟨e,n,ne,nf,d⟩:=I.pin p hp
   exact⟨(hs.2 p.1 ne).trans e,n,ne,nf,d⟩
 ·have hfn:X.fn x=true:=by
   rcases hf with z | z
   ·exact z
   ·rw[z] at hk; cases hk
  obtain⟨c,hc⟩:=I.ok.has x (.inl hk)
  obtain⟨w',z⟩:=I.cell x c hc
  refine wpAny_storeName_cell I.ok.kind hk hc z (fun h' hc' hs=>?_)
  obtain⟨oc,hoc,hocd⟩:=id z
  refine h { s with heap:=h' } ⟨I.ok,I.os,I.bare,⟨fun b o e n hb hx=>?_,fun b o e n hb hx=>?_,I.base.free,fun b o e hx=>?_,I.base.tups,I.base.frzs,I.base.tbls⟩,⟨m,hn.sameBut hs (gU (cne x c hc)),fun j y v' e1 e2 e3=>?_⟩,fun y c' e=>?_,I.free,I.freeC,fun p hp=>?_,tracked ⟨oc,hoc,I.freeC x c hc⟩ hs,by simpa using I.len⟩ ⟨c,hs,.inr hc⟩
  ·exact(hs.2 b (cK (gN (bK e) (I.ok.cab x c hfn hc)))).trans (I.base.keep b o e n hb hx)
  ·obtain⟨sl,e1⟩:=I.base.slot b o e n hb hx
   exact⟨sl,(hs.2 b (cK (gN (bK e) (I.ok.cab x c hfn hc)))).trans e1⟩
  ·obtain⟨o',e1⟩:=I.base.there b o e hx
   exact⟨o',(hs.2 b (cK (gN (bK e) (I.ok.cab x c hfn hc)))).trans e1⟩
  ·by_cases hj:j=i
   ·subst hj
    rw[hi] at e1; cases e1
    rw[kR hiσ] at e2
    cases e2
    exact⟨u,r,.inr ⟨.inl hk,c,hc,hc'⟩⟩
   ·rw[jG (gU hj)] at e2
    obtain⟨u',r',q⟩:=hl j y v' e1 e2 e3
    refine⟨u',r',?_⟩
    rcases q with q | ⟨k,c',e,z'⟩
    ·exact .inl q
    ·refine .inr ⟨k,c',e,z'.sameBut hs ?_⟩
     rintro rfl
     exact hj (vU hN e1 (I.ok.inj _ _ _ e hc ▸ hi))
  ·by_cases hcc:c'=c
   ·subst hcc; exact⟨_,hc'⟩
   ·obtain⟨w2,z2⟩:=I.cell y c' e
    exact⟨w2,z2.sameBut hs hcc⟩
  ·obtain⟨e,n,ne,nf,d⟩:=I.pin p hp
   refine⟨(hs.2 p.1 ?_).trans e,n,ne,nf,d⟩
   intro q
   rw[q,hoc] at e
   have q':oc=p.2:=fA e
   exact d w' (by rw[← q']; exact hocd)
theorem vT {M:Model}{A:bQ}{E:aE->aG->Prop}{i:Nat}{x:aD}{v:V}{u:aE}{Q:Unit->aG->Prop}(I:Inv X pins σ H s)(hN:X.N.Nodup)(hi:X.N[i]?=some x)(hx:jV X.env.scope x)(r:RelV v u)
  (h : ∀ s',Inv X pins (σ.set i (some v)) H s'->Q () s') (hf:X.fn x=true \/ X.env.scope.names.lookup x=some .local:=by first | exact .inl rfl | exact .inr rfl | assumption):aO M A (storeName X.env x u) Q E s:=
 zK I hN hi hx r (fun s' I' _=>h s' I') hf
theorem Inv.call' {s':aG}{ch:List aB}(I:Inv X pins σ H s)(ho:s'.os=s.os)(u:Un (frs X.stack) ch H H' s.heap s'.heap)(hok:HOk X.prog X.w H' s'.heap)(hg:mH s'.gens)
  (hch : ∀ b∈ch,(b∈X.ex \/ X.s₀.heap.objs.size≤b)/\b≠X.env.locals/\(∀ x c,X.env.cells.lookup x=some c->c≠b) /\ ∀ p∈X.pn++pins,p.1≠b):Inv X pins σ H' s':=by
 obtain⟨h',g',d',t',o'⟩:=s'
 have e:o'=s.os:=ho
 subst e
 exact I.call (g':=g') (t':=t') (d':=d') u hok hg hch
end
abbrev XK:=aE->Option aB->Hp->Prop
abbrev St:=List (Option V)
abbrev VK:=V->Hp->Prop
abbrev TE:=St->Hp->VK->Prop
abbrev TT:=St->Hp->(Bool->Hp->Prop)->Prop
abbrev TA:=St->Hp->(List V->Hp->Prop)->Prop
structure Ends where
 nx:St->Hp->Prop
 rt:VK
 bk:St->Hp->Prop:=fun _ _=>False
 ct:St->Hp->Prop:=fun _ _=>False
abbrev TS:=Ends->St->Hp->Prop
def EP (X:Cx)(pins:List (aB×aT))(σ:St)(Q:VK)(u:aE)(s':aG):Prop:=∃ v H',Inv X pins σ H' s'/\RelV v u/\Q v H'
def TP (X:Cx)(pins:List (aB×aT))(σ:St)(Q:Bool->Hp->Prop)(b:Bool)(s':aG):Prop:=∃ H',Inv X pins σ H' s'/\Q b H'
def AP (X:Cx)(pins:List (aB×aT))(σ:St)(Q:List V->Hp->Prop)(us:List aE)(s':aG):Prop:=∃ vs H',Inv X pins σ H' s'/\Vals vs us/\Q vs H'
def SP (X:Cx)(pins:List (aB×aT))(D:Ends)(f:Flow)(s':aG):Prop:=
 match f with
 | .next=>∃ σ' H',Inv X pins σ' H' s'/\D.nx σ' H'
 | .brk=>∃ σ' H',Inv X pins σ' H' s'/\D.bk σ' H'
 | .cont=>∃ σ' H',Inv X pins σ' H' s'/\D.ct σ' H'
 | .ret u=>∃ v σ' H',Inv X pins σ' H' s'/\RelV v u/\D.rt v H'
def PE (X:Cx)(e:aS)(t:TE):Prop:=
 ∀ (pins:List (aB×aT)) (s:aG) (σ:St) (H:Hp) (Q:VK),Inv X pins σ H s->t σ H Q->aO (aP X.prog X.w) X.A (bC e X.env) (EP X pins σ Q) X.xe s
def PT (X:Cx)(e:aS)(t:TT):Prop:=
 ∀ (pins:List (aB×aT)) (s:aG) (σ:St) (H:Hp) (Q:Bool->Hp->Prop),Inv X pins σ H s->t σ H Q->aO (aP X.prog X.w) X.A (isTrue e X.env (bC e X.env)) (TP X pins σ Q) X.xe s
def PW (X:Cx)(e:aS)(t:TT):Prop:=
 ∀ (whole:Sem aE) (pins:List (aB×aT)) (s:aG) (σ:St) (H:Hp) (Q:Bool->Hp->Prop),Inv X pins σ H s->t σ H Q->aO (aP X.prog X.w) X.A (isTrue e X.env whole) (TP X pins σ Q) X.xe s
theorem PW.pt {X:Cx}{e:aS}{t:TT}(h:PW X e t):PT X e t:=h _
def PA (X:Cx)(es:List aS)(t:TA):Prop:=
 ∀ (pos:bG) (pins:List (aB×aT)) (s:aG) (σ:St) (H:Hp) (Q:List V->Hp->Prop),Inv X pins σ H s->t σ H Q->aO (aP X.prog X.w) X.A (spliced (eQ pos (bF es X.env))) (AP X pins σ Q) X.xe s
def PS (X:Cx)(st:bL)(t:TS):Prop:=
 ∀ (pins:List (aB×aT)) (s:aG) (σ:St) (H:Hp) (D:Ends),Inv X pins σ H s->t D σ H->aO (aP X.prog X.w) X.A (exec st X.env) (SP X pins D) X.xe s
def PSs (X:Cx)(st:List bL)(t:TS):Prop:=
 ∀ (pins:List (aB×aT)) (s:aG) (σ:St) (H:Hp) (D:Ends),Inv X pins σ H s->t D σ H->aO (aP X.prog X.w) X.A (execs st X.env) (SP X pins D) X.xe s
theorem thn {α:Type}{t:Sem α}{Q Q':α->aG->Prop}{M:Model}{A:bQ}{E:aE->aG->Prop}{s:aG}(h:aO M A t Q E s)(hQ : ∀ a s,Q a s->Q' a s):aO M A t Q' E s:=gY h hQ fun _ _ x=>x
section
variable {X:Cx}
noncomputable abbrev tVar (i:Nat):TE:=fun σ H Q=>∃ v,σ[i]?=some (some v)/\Q v H
noncomputable abbrev tC (v:V):TE:=fun _ H Q=>Q v H
theorem oQ {i:Nat}{x:aD}{pos:bG}(hN:X.N[i]?=some x)(hv:mI X.env.scope x)(hd:(x == ("__debug__" : aD))=false:=by decide)(hcd:(x == ("__classdict__" : aD))=false:=by decide):PE X (.Name x pos) (tVar i):=by
 intro pins s σ H Q I h
 obtain⟨v,e,h⟩:=h
 obtain⟨m,hn,hl⟩:=I.loc
 obtain⟨u,r,l⟩:=hl i x v hN e hv
 have fin:EP X pins σ Q u s:=⟨v,H,I,r,h⟩
 rcases l with⟨hk,hm⟩ | ⟨hk,c,hc,hcell⟩
 ·exact wpAny_Name (wpAny_loadName_local I.ok.kind hk hn hm fin) hd
 ·rcases hk with hk | hk
  ·exact wpAny_Name (wpAny_loadName_cell I.ok.kind hk hc hcell fin) hd
  ·exact wpAny_Name (wpAny_loadName_free I.ok.kind hk hc hcell fin hcd) hd
theorem pe_int {i j pos}:PE X (.Constant (.int i) j pos) (tC (.int i)):=fun _ _ _ H _ I h=>wpAny_Constant_int ⟨.int i,H,I.tok _,⟨_,rfl⟩,h⟩
theorem pe_bl {b j pos}:PE X (.Constant (.bool b) j pos) (tC (.bl b)):=fun _ _ _ H _ I h=>Constant_bool ⟨.bl b,H,I,rfl,h⟩
theorem pe_non {j pos}:PE X (.Constant .none j pos) (tC .non):=fun _ _ _ H _ I h=>Constant_none ⟨.non,H,I,rfl,h⟩
theorem pe_str {x j pos}:PE X (.Constant (.str x) j pos) (tC (.str x)):=fun _ _ _ H _ I h=>Calls.Constant_str ⟨.str x,H,I.tok _,⟨_,rfl⟩,h⟩
def Gl (X:Cx)(x:aD):Prop:=X.env.kindOf x=some .globalImplicit
theorem oW {E:aE->aG->Prop}{pins:List (aB×aT)}{s:aG}{σ:St}{H:Hp}{x:aD}{u:aE}{pos:bG}{Q:aE->aG->Prop}(I:Inv X pins σ H s)(hg:Gl X x)(hm:X.mg x=some u)(h:Q u s)
  (hd:(x == ("__debug__" : aD))=false:=by decide):aO (aP X.prog X.w) X.A (bC (.Name x pos) X.env) Q E s:=
 Calls.Name_function_global I.ok.kind hg (Calls.loadGlobal_global (by rw[I.ok.glob]; exact I.mod.glob.keeps I.bk) hm h) hd
theorem qK {E:aE->aG->Prop}{pins:List (aB×aT)}{s:aG}{σ:St}{H:Hp}{x:aD}{u:aE}{pos:bG}{Q:aE->aG->Prop}(I:Inv X pins σ H s)(hg:Gl X x)(hm:X.mg x=none)(hv:iH x=some u)(h:Q u s)
  (hn:x ≠ "__name__":=by decide) (hd:(x == ("__debug__" : aD))=false:=by decide):aO (aP X.prog X.w) X.A (bC (.Name x pos) X.env) Q E s:=by
 obtain⟨mb,h1,h2⟩:=I.mod.blt
 exact Calls.Name_function_global I.ok.kind hg (Calls.loadGlobal_builtin (by rw[I.ok.glob]; exact I.mod.glob.keeps I.bk) hm (by rw[I.ok.blt]; exact h1.keeps I.bk) ((h2 x hn).trans hv) h) hd
theorem pe_glob {x:aD}{v:V}{u:aE}{pos:bG}(hg:Gl X x)(hm:X.mg x=some u)(r:RelV v u)(hd:(x == ("__debug__" : aD))=false:=by decide):PE X (.Name x pos) (tC v):=
 fun _ _ _ H _ I h=>oW I hg hm ⟨v,H,I,r,h⟩ hd
theorem pe_bltn {x:aD}{v:V}{u:aE}{pos:bG}(hg:Gl X x)(hm:X.mg x=none)(hv:iH x=some u)(r:RelV v u)(hn:x ≠ "__name__":=by decide)(hd:(x == ("__debug__" : aD))=false:=by decide):PE X (.Name x pos) (tC v):=
 fun _ _ _ H _ I h=>qK I hg hm hv ⟨v,H,I,r,h⟩ hn hd
variable {a b:aS}{ta tb:TE}{pos:bG}
noncomputable def tB (t:TE):TT:=fun σ H Q=>t σ H fun x H1=>∃ c,x = .bl c/\Q c H1
theorem pt_val {e:aS}{t:TE}(h:PE X e t)(he : ∀ whole,isTrue e X.env whole=(do let v ← whole; standAt e.pos; lW [v] (truthy v)):=by intro _; rfl):PT X e (tB t):=by
 intro pins s σ H Q I hw
 refine isTrue_plain (thn (h pins s σ H _ I hw) fun v s1 ⟨x,H1,I1,r1,q1⟩=>?_) (he _)
 obtain⟨d,rfl,q⟩:=q1
 cases r1
 exact nV ⟨H1,I1,q⟩
variable {tA tB':TT}{rest:List aS}
noncomputable def tAnd (t u:TT):TT:=fun σ H Q=>t σ H fun c H1=>if c=true then u σ H1 Q else Q false H1
noncomputable def tOr (t u:TT):TT:=fun σ H Q=>t σ H fun c H1=>if c=true then Q true H1 else u σ H1 Q
noncomputable def tNot (t:TT):TT:=fun σ H Q=>t σ H fun c H1=>Q (!c) H1
theorem pw_and1 (ha:PT X a tA):PW X (.BoolOp .And [a] pos) tA:=by
 intro wh pins s σ H Q I h
 refine isTrue_and (thn (ha pins s σ H Q I h) fun c s1 e=>?_)
 cases c with
 | true=>exact isTrue_and_nil e
 | false=>exact e
theorem pw_or1 (ha:PT X a tA):PW X (.BoolOp .Or [a] pos) tA:=by
 intro wh pins s σ H Q I h
 refine isTrue_or (thn (ha pins s σ H Q I h) fun c s1 e=>?_)
 cases c with
 | false=>exact isTrue_or_nil e
 | true=>exact e
theorem pw_and (ha:PT X a tA)(hb:PW X (.BoolOp .And (b::rest) pos) tB'):PW X (.BoolOp .And (a::b::rest) pos) (tAnd tA tB'):=by
 intro wh pins s σ H Q I h
 refine isTrue_and (thn (ha pins s σ H _ I h) fun c s1 gh=>?_)
 obtain⟨H1,I1,q1⟩:=gh
 cases c with
 | true=>exact hb wh pins s1 σ H1 Q I1 q1
 | false=>exact⟨H1,I1,q1⟩
theorem pw_or (ha:PT X a tA)(hb:PW X (.BoolOp .Or (b::rest) pos) tB'):PW X (.BoolOp .Or (a::b::rest) pos) (tOr tA tB'):=by
 intro wh pins s σ H Q I h
 refine isTrue_or (thn (ha pins s σ H _ I h) fun c s1 gh=>?_)
 obtain⟨H1,I1,q1⟩:=gh
 cases c with
 | true=>exact⟨H1,I1,q1⟩
 | false=>exact hb wh pins s1 σ H1 Q I1 q1
theorem pt_not (ha:PT X a tA):PT X (.UnaryOp .Not a pos) (tNot tA):=by
 intro pins s σ H Q I h
 exact isTrue_not (ha pins s σ H (fun c H1=>Q (!c) H1) I h)
noncomputable def tAndV (ta tb:TE):TE:=fun σ H Q=>ta σ H fun x H1=>∃ c,x = .bl c/\if c=true then tb σ H1 Q else Q (.bl false) H1
noncomputable def tNotV (ta:TE):TE:=fun σ H Q=>ta σ H fun x H1=>∃ c,x = .bl c/\Q (.bl (!c)) H1
theorem pe_one {op}{t:TE}(h:PE X a t):PE X (.BoolOp op [a] pos) t:=fun pins s σ H Q I hw=>BoolOp_one (h pins s σ H Q I hw)
theorem pe_and (ha:PE X a ta)(hb:PE X (.BoolOp .And (b::rest) pos) tb):PE X (.BoolOp .And (a::b::rest) pos) (tAndV ta tb):=by
 intro pins s σ H Q I h
 refine BoolOp_and (thn (ha pins s σ H _ I h) fun v s1 gh=>?_)
 obtain⟨x,H1,I1,r1,q1⟩:=gh
 obtain⟨c,rfl,q1⟩:=q1
 cases r1
 refine nV ?_
 cases c with
 | true=>exact hb pins s1 σ H1 Q I1 q1
 | false=>exact⟨.bl false,H1,I1,rfl,q1⟩
theorem pe_not (ha:PE X a ta):PE X (.UnaryOp .Not a pos) (tNotV ta):=by
 intro pins s σ H Q I h
 refine UnaryOp_ (thn (ha pins s σ H _ I h) fun v s1 gh=>?_)
 obtain⟨x,H1,I1,r1,q1⟩:=gh
 obtain⟨c,rfl,q1⟩:=q1
 cases r1
 exact not_of (nV ⟨.bl (!c),H1,I1,rfl,q1⟩)
end
def SqL (K:aI)(H:Hp)(a:aB)(xs:List V):Prop:=
 Rd H a (.lst xs) \/
  ∃ (o:aT) (its:Array aE) (n:Nat),K.lookup a=some o/\o.cls = .type "list" /\ o.dict=none/\o.data = .seq its n/\its.size≤sizeLine/\Vals xs its.toList
def SqT (K:aI)(H:Hp)(a:aB)(xs:List V):Prop:=
 Rd H a (.tup xs) \/
  ∃ (o:aT) (its:Array aE) (n:Nat),K.lookup a=some o/\o.cls = .type "tuple" /\ o.data = .seq its n/\its.size≤sizeLine/\Vals xs its.toList
noncomputable def absV:aE->Option V
 | .none=>some .non
 | .bool b=>some (.bl b)
 | .int i _=>some (.int i)
 | .str x _=>some (.str x)
 | .bytes b _=>some (.byt b)
 | .float b _=>some (.flt b)
 | .ref a=>some (.ref a)
 | .type n=>some (.ty n)
 | _=>none
theorem RelV.abs {x:V}{u:aE}(r:RelV x u):absV u=some x:=by
 cases x with
 | non=>cases r; rfl
 | bl _=>cases r; rfl
 | int _=>obtain⟨t,rfl⟩:=r; rfl
 | str _=>obtain⟨t,rfl⟩:=r; rfl
 | byt _=>obtain⟨t,rfl⟩:=r; rfl
 | flt _=>obtain⟨t,rfl⟩:=r; rfl
 | ref _=>cases r; rfl
 | ty _=>cases r; rfl
theorem RelV.inj {x y:V}{u:aE}(r:RelV x u)(q:RelV y u):x=y:=fA (r.abs.symm.trans q.abs)
theorem Vals.inj : ∀ {xs ys:List V} {us:List aE},Vals xs us->Vals ys us->xs=ys:=by
 intro xs ys us h
 induction h generalizing ys with
 | nil=>intro h; cases h; rfl
 | cons r _ ih=>
  intro h
  cases h with
  | cons r' t'=>rw[r.inj r',ih t']
section
variable {X:Cx}{pins:List (aB×aT)}{σ:St}{H:Hp}{s:aG}{a:aB}{xs ys:List V}
theorem SqL.of {K:aI}(h:H a=some (.lst xs)):SqL K H a xs:=.inl (.inl h)
theorem SqT.of {K:aI}(h:H a=some (.tup xs)):SqT K H a xs:=.inl (.inl h)
theorem Inv.list (I:Inv X pins σ H s)(h:SqL X.K H a xs) : ∃ its:List aE,Vals xs its/\PlainL s.heap a its.toArray/\xs.length≤sizeLine:=by
 rcases h with h | ⟨o,its,n,hk,hc,hd,hs,hz,r⟩
 ·obtain⟨z,its,n,r,e⟩:=h.ok I.hok
  exact⟨its,r,⟨_,n,e,rfl,rfl,rfl⟩,z⟩
 ·refine⟨its.toList,r,⟨o,n,I.kIn a o hk,hc,hd,by simpa using hs⟩,?_⟩
  have e:=r.length
  simp only[mG] at e
  omega
theorem Inv.tuple (I:Inv X pins σ H s)(h:SqT X.K H a xs) : ∃ its:List aE,Vals xs its/\IsTup s.heap a its.toArray/\xs.length≤sizeLine:=by
 rcases h with h | ⟨o,its,n,hk,hc,hs,hz,r⟩
 ·obtain⟨z,its,r,p⟩:=h.ok I.hok
  exact⟨its,r,p.1,z⟩
 ·refine⟨its.toList,r,⟨o,I.kIn a o hk,hc,n,by simpa using hs⟩,?_⟩
  have e:=r.length
  simp only[mG] at e
  omega
theorem Inv.list_inj (I:Inv X pins σ H s)(h:SqL X.K H a xs)(h':SqL X.K H a ys):xs=ys:=by
 obtain⟨its,r,⟨o,n,e,_,_,d⟩,_⟩:=I.list h
 obtain⟨its',r',⟨o',n',e',_,_,d'⟩,_⟩:=I.list h'
 rw[e] at e'; cases e'
 rw[d] at d'
 injection d' with d1 _
 have:its=its':=by simpa using congrArg Array.toList d1
 subst this
 exact r.inj r'
theorem Inv.tuple_inj (I:Inv X pins σ H s)(h:SqT X.K H a xs)(h':SqT X.K H a ys):xs=ys:=by
 obtain⟨its,r,⟨o,e,_,n,d⟩,_⟩:=I.tuple h
 obtain⟨its',r',⟨o',e',_,n',d'⟩,_⟩:=I.tuple h'
 rw[e] at e'; cases e'
 rw[d] at d'
 injection d' with d1 _
 have:its=its':=by simpa using congrArg Array.toList d1
 subst this
 exact r.inj r'
end
noncomputable abbrev Cx.wish (X:Cx)(E:aE->aG->Prop):Cx:={ X with xe:=E }
noncomputable abbrev Cx.nox (X:Cx):Cx:=X.wish fun _ _=>False
theorem Cx.Ok.wish {X:Cx}(ok:X.Ok)(E:aE->aG->Prop):(X.wish E).Ok:=
 ⟨ok.mod,ok.kind,ok.glob,ok.blt,ok.above,ok.inj,ok.has,ok.cab,ok.hd,ok.frames,ok.stk,ok.exf,ok.bs,ok.bsz,ok.noex,ok.exfs,ok.funs,ok.frf⟩
theorem Cx.Ok.unwish {X:Cx}{E:aE->aG->Prop}(ok:(X.wish E).Ok):X.Ok:=
 ⟨ok.mod,ok.kind,ok.glob,ok.blt,ok.above,ok.inj,ok.has,ok.cab,ok.hd,ok.frames,ok.stk,ok.exf,ok.bs,ok.bsz,ok.noex,ok.exfs,ok.funs,ok.frf⟩
section
variable {X:Cx}{pins:List (aB×aT)}{σ:St}{H:Hp}{s:aG}{E:aE->aG->Prop}
theorem Inv.wish (I:Inv X pins σ H s)(E:aE->aG->Prop):Inv (X.wish E) pins σ H s:=⟨I.ok.wish E,I.os,I.bare,I.base,I.loc,I.cell,I.free,I.freeC,I.pin,I.hok,I.len⟩
theorem Inv.unwish (I:Inv (X.wish E) pins σ H s):Inv X pins σ H s:=⟨I.ok.unwish,I.os,I.bare,I.base,I.loc,I.cell,I.free,I.freeC,I.pin,I.hok,I.len⟩
theorem SP.unwish {D:Ends}{f:Flow}{s':aG}(h:SP (X.wish E) pins D f s'):SP X pins D f s':=by
 cases f with
 | next=>obtain⟨σ',H',I,q⟩:=h; exact⟨σ',H',I.unwish,q⟩
 | brk=>obtain⟨σ',H',I,q⟩:=h; exact⟨σ',H',I.unwish,q⟩
 | cont=>obtain⟨σ',H',I,q⟩:=h; exact⟨σ',H',I.unwish,q⟩
 | ret u=>obtain⟨v,σ',H',I,r,q⟩:=h; exact⟨v,σ',H',I.unwish,r,q⟩
theorem PSs.nox {st:List bL}{t:TS}(h:PSs X.nox st t):PSs X st t:=fun pins s σ H D I hw=>
 gY (h pins s σ H D (I.wish _) hw) (fun _ _ q=>q.unwish) fun _ _ z=>iD z
end
section
variable {X:Cx}{st:bL}{rest:List bL}{t u:TS}{e:aS}{te:TE}{pos:bG}
noncomputable def tNext:TS:=fun D σ H=>D.nx σ H
noncomputable def tSeq (t u:TS):TS:=fun D σ H=>t { D with nx:=u D } σ H
theorem pss_nil:PSs X [] tNext:=fun _ _ σ H _ I h=>wpAny_execs_nil ⟨σ,H,I,h⟩
theorem tX (h1:PS X st t)(h2:PSs X rest u):PSs X (st::rest) (tSeq t u):=by
 intro pins s σ H D I h
 refine wpAny_execs_cons (thn (h1 pins s σ H { D with nx:=u D } I h) fun f s1 q=>?_)
 cases f with
 | next=>
  obtain⟨σ',H',I',q⟩:=q
  exact h2 pins s1 σ' H' D I' q
 | ret v=>exact q
 | brk=>exact q
 | cont=>exact q
theorem qS (h1:PS X st t):PSs X [st] t:=by
 intro pins s σ H D I h
 refine wpAny_execs_cons (thn (h1 pins s σ H D I h) fun f s1 q=>?_)
 cases f with
 | next=>exact wpAny_execs_nil q
 | ret v=>exact q
 | brk=>exact q
 | cont=>exact q
theorem Inv.quiet {pins:List (aB×aT)}{σ:St}{H:Hp}{s:aG}(I:Inv X pins σ H s):interactive X.env=false:=by simp[interactive,I.ok.kind]
noncomputable def tDrop (te:TE):TS:=fun D σ H=>te σ H fun _ H1=>D.nx σ H1
theorem oT (he:PE X e te)(hs:iW e none pos.line X.env=pure false:=by rfl):PS X (.Expr e pos) (tDrop te):=by
 intro pins s σ H D I h
 exact wpAny_Expr_any (thn (he pins s σ H _ I h) fun v s1 ⟨x,H1,I1,r1,q1⟩=>⟨σ,H1,I1,q1⟩) I.quiet hs
noncomputable def tRet (te:TE):TS:=fun D σ H=>te σ H D.rt
theorem ps_ret (he:PE X e te):PS X (.Return (some e) pos) (tRet te):=by
 intro pins s σ H D I h
 exact wpAny_Return_some (thn (he pins s σ H _ I h) fun v s1 ⟨x,H1,I1,r1,q1⟩=>⟨x,σ,H1,I1,r1,q1⟩)
noncomputable def tIfS (c:TT)(t u:TS):TS:=fun D σ H=>c σ H fun b H1=>if b=true then t D σ H1 else u D σ H1
theorem ps_if {c:aS}{a b:List bL}{tc:TT}(hc:PT X c tc)(ha:PSs X a t)(hb:PSs X b u):PS X (.If c a b pos) (tIfS tc t u):=by
 intro pins s σ H D I h
 refine wpAny_If (thn (hc pins s σ H _ I h) fun d s1 gh=>?_)
 obtain⟨H1,I1,q1⟩:=gh
 cases d with
 | true=>exact ha pins s1 σ H1 D I1 q1
 | false=>exact hb pins s1 σ H1 D I1 q1
end
abbrev TG:=V->St->Hp->(St->Hp->Prop)->Prop
abbrev TGs:=List V->St->Hp->(St->Hp->Prop)->Prop
def PG (X:Cx)(target:aS)(t:TG):Prop:=
 ∀ (pins:List (aB×aT)) (s:aG) (σ:St) (H:Hp) (v:V) (u:aE) (Q:St->Hp->Prop),Inv X pins σ H s->RelV v u->t v σ H Q ->
  aO (aP X.prog X.w) X.A (lX target X.env u) (fun _ s'=>∃ σ' H',Inv X pins σ' H' s'/\Q σ' H') X.xe s
def PGs (X:Cx)(ts:List aS)(t:TGs):Prop:=
 ∀ (pins:List (aB×aT)) (s:aG) (σ:St) (H:Hp) (vs:List V) (us:List aE) (Q:St->Hp->Prop),Inv X pins σ H s->Vals vs us->t vs σ H Q ->
  aO (aP X.prog X.w) X.A (assignInOrder ((jP ts X.env).map (·.2)) us) (fun _ s'=>∃ σ' H',Inv X pins σ' H' s'/\Q σ' H') X.xe s
abbrev TSet:=V->V->V->Hp->(Hp->Prop)->Prop
def PSet (X:Cx)(t:TSet):Prop:=
 ∀ (pins:List (aB×aT)) (s:aG) (σ:St) (H:Hp) (o i v:V) (ov iv u:aE) (Q:Hp->Prop),Inv X pins σ H s->RelV o ov->RelV i iv->RelV v u->t o i v H Q ->
  aO (aP X.prog X.w) X.A (setItem ov iv u) (fun _ s'=>∃ H',Inv X pins σ H' s'/\Q H') X.xe s
section
variable {X:Cx}{pos:bG}
noncomputable def gName (i:Nat):TG:=fun v σ H Q=>Q (σ.set i (some v)) H
theorem qP {i:Nat}{x:aD}(hN:X.N.Nodup)(hi:X.N[i]?=some x)(hx:jV X.env.scope x)(hf:X.fn x=true \/ X.env.scope.names.lookup x=some .local:=by first | exact .inl rfl | exact .inr rfl | assumption):PG X (.Name x pos) (gName i):=by
 intro pins s σ H v u Q I r h
 exact wpAny_assign_Name (vT I hN hi hx r (fun s' I'=>⟨_,H,I',h⟩) hf)
noncomputable def gNil:TGs:=fun vs σ H Q=>vs=[]/\Q σ H
noncomputable def gCons (t:TG)(u:TGs):TGs:=fun vs σ H Q=>∃ v r,vs=v::r/\t v σ H fun σ' H'=>u r σ' H' Q
theorem pgs_nil:PGs X [] gNil:=by
 intro pins s σ H vs us Q I r h
 obtain⟨e,h⟩:=h
 subst e
 cases r
 exact assignInOrder_nil ⟨σ,H,I,h⟩
theorem pgs_cons {e:aS}{es:List aS}{t:TG}{u:TGs}(h1:PG X e t)(h2:PGs X es u)
  (hs:(jP (e::es) X.env).map (·.2)=lX e X.env::(jP es X.env).map (·.2):=by rfl):PGs X (e::es) (gCons t u):=by
 intro pins s σ H vs us Q I r h
 obtain⟨v,vr,e1,h⟩:=h
 subst e1
 cases r with
 | cons r rr=>
  rw[hs]
  refine assignInOrder_cons (thn (h1 pins s σ H _ _ _ I r h) fun _ s1 gh=>?_)
  obtain⟨σ1,H1,I1,q1⟩:=gh
  exact h2 pins s1 σ1 H1 _ _ Q I1 rr q1
noncomputable def gTup (K:aI)(n:Nat)(t:TGs):TG:=fun v σ H Q=>∃ a xs,v = .ref a/\SqT K H a xs/\xs.length=n/\t xs σ H Q
theorem pg_tup {es:List aS}{k:Nat}{t:TGs}{n:Nat}(hc:X.calm=true)(h:PGs X es t)
  (hn:(jP es X.env).length=n:=by rfl) (hst:(jP es X.env).findIdx? (·.1)=none:=by rfl):PG X (.Tuple es k pos) (gTup X.K n t):=by
 intro pins s σ H v u Q I r hw
 obtain⟨a,xs,e1,hq,hl,hw⟩:=hw
 subst e1
 cases r
 obtain⟨its,rv,ht,hz⟩:=I.tuple hq
 refine assign_Tuple_tuple (I.ok.hd hc) ht (by simp[hn,← hl,rv.length]) hst fun h' hx=>?_
 have I1:Inv X pins σ H { s with heap:=h' }:=I.kept (t':=s.toks) fun b o e=>hx b o (cK (bK e)) e
 exact h pins _ σ H xs _ Q I1 (by simpa using rv) hw
noncomputable def gSub (to ti:TE)(t:TSet):TG:=fun v σ H Q=>to σ H fun o H1=>ti σ H1 fun i H2=>t o i v H2 fun H3=>Q σ H3
theorem pg_sub {o i:aS}{to ti:TE}{t:TSet}(ho:PE X o to)(hi:PE X i ti)(hs:PSet X t)
  (ha : ∀ v,lX (.Subscript o i pos) X.env v=(do
   let ov ← lW [v] (bC o X.env)
   let iv ← lW [v,ov] (bC i X.env)
   standAt pos
   lW [v,ov,iv] (setItem ov iv v)
   release [v,ov,iv] []):=by intro _; rfl):PG X (.Subscript o i pos) (gSub to ti t):=by
 intro pins s σ H v u Q I r h
 rw[ha]
 refine aL (iG (thn (ho pins s σ H _ I h) fun ov s1 gh=>?_))
 obtain⟨x,H1,I1,r1,q1⟩:=gh
 refine aL (iG (thn (hi pins s1 σ H1 _ I1 q1) fun iv s2 gh=>?_))
 obtain⟨y,H2,I2,r2,q2⟩:=gh
 refine aL (wpAny_standAt (aL (iG (thn (hs pins s2 σ H2 x y v ov iv u _ I2 r1 r2 r q2) fun _ s3 gh=>?_))))
 obtain⟨H3,I3,q3⟩:=gh
 exact wpAny_release ⟨σ,H3,I3,q3⟩
noncomputable def tAsg (te:TE)(g:TG):TS:=fun D σ H=>te σ H fun x H1=>g x σ H1 D.nx
theorem ps_asg {tg e:aS}{te:TE}{g:TG}(he:PE X e te)(hg:PG X tg g)(hs:swapsWithSole [tg] e pos.line X.env=pure false:=by rfl)(hw:swappedStores [tg] e X.env=pure none:=by rfl)
  (h1:(jP [tg] X.env).map (·.2)=[lX tg X.env]:=by rfl):PS X (.Assign [tg] e pos) (tAsg te g):=by
 intro pins s σ H D I h
 refine wpAny_Assign_stores (thn (he pins s σ H _ I h) fun v s1 ⟨x,H1,I1,r1,q1⟩=>?_) hs hw
 rw[h1]
 exact thn (hg pins s1 σ H1 x v _ I1 r1 q1) fun _ s2 q=>q
theorem ps_set {i:Nat}{x:aD}{e:aS}{te:TE}{pos':bG}(hN:X.N.Nodup)(hi:X.N[i]?=some x)(hx:jV X.env.scope x)(he:PE X e te)(hs:iW e (some (.Name x pos')) pos.line X.env=pure false:=by rfl)(hf:X.fn x=true \/ X.env.scope.names.lookup x=some .local:=by first | exact .inl rfl | exact .inr rfl | assumption) :
  PS X (.Assign [.Name x pos'] e pos) (tAsg te (gName i)):=by
 intro pins s σ H D I h
 refine wpAny_Assign_Name (thn (he pins s σ H _ I h) fun v s1 ⟨y,H1,I1,r1,q1⟩=>?_) hs
 exact vT I1 hN hi hx r1 (fun s2 I2=>⟨_,H1,I2,q1⟩) hf
end
structure It where
 go:Nat->Hp->Prop
 yld:Nat->Hp->V->Hp->Prop
 stop:Nat->Hp->Prop
def FpOk (X:Cx)(pins:List (aB×aT))(H:Hp)(b:aB):Prop:=
 H b=none/\b≠X.env.locals/\b∉X.fs/\(b∈X.ex \/ X.s₀.heap.objs.size≤b)/\(∀ x c,X.env.cells.lookup x=some c->c≠b) /\ ∀ p∈X.pn++pins,p.1≠b
theorem Inv.fpOk {X:Cx}{pins:List (aB×aT)}{σ:St}{H H':Hp}{s:aG}{b:aB}(I:Inv X pins σ H s)(hb:s.heap.objs.size≤b)(hn:H' b=none):FpOk X pins H' b:=by
 refine⟨hn,lE (gN I.lt hb),I.nofs hb,.inr (kO I.sz hb),fun x c e z=>?_,fun p hp z=>?_⟩
 ·obtain⟨v,q⟩:=I.cell x c e
  exact absurd (gN q.lt (by rw[z]; exact hb)) (jE _)
 ·exact absurd (gN (bK (I.pin p hp).1) (by rw[z]; exact hb)) (jE _)
structure Turn (P:bA)(w:aX)(K:aI)(tg:aS)(J:It)(fp:List aB)(it:aB)(tn:Nat->aR->Prop):Prop where
 mem:it∈fp
 obj : ∀ i h,tn i h -> ∀ b∈fp,∃ o,h.get? b=some o /\ ∀ v,o.data ≠ .cell v
 keep : ∀ i h h',tn i h->(∀ b∈fp,∀ o,h.get? b=some o->h'.get? b=some o)->tn i h'
 item : ∀ (X:Cx),X.prog=P->X.w=w->X.K=K->X.calm=true -> ∀ (i:Nat) (pins:List (aB×aT)) (s:aG) (σ:St) (H:Hp) (E:aE->aG->Prop),Inv X pins σ H s->(∀ b∈fp,FpOk X pins H b)->tn i s.heap->J.go i H ->
  aO (aP P w) X.A (pyNext (.ref it)) (fun r s1=>∃ u,r=some u /\
   aO (aP P w) X.A (yI tg (.ref it) u) (fun _ s2=>∃ x H',Inv X pins σ H' s2/\RelV x u/\J.yld i H x H'/\tn (i+1) s2.heap /\ ∀ b∈fp,H' b=none) E s1) E s
 done : ∀ (X:Cx),X.prog=P->X.w=w->X.K=K->X.calm=true -> ∀ (i:Nat) (pins:List (aB×aT)) (s:aG) (σ:St) (H:Hp) (E:aE->aG->Prop),Inv X pins σ H s->(∀ b∈fp,FpOk X pins H b)->tn i s.heap->J.stop i H ->
  aO (aP P w) X.A (pyNext (.ref it)) (fun r s1=>r=none/\Inv X pins σ H s1) E s
 self : ∀ (A:bQ) (i:Nat) (s:aG) (Q:aE->aG->Prop) (E:aE->aG->Prop),tn i s.heap->Q (.ref it) s->aO (aP P w) A (pyIter (.ref it)) Q E s
abbrev TI:=St->Hp->(It->Hp->Prop)->Prop
def PIE (X:Cx)(pins:List (aB×aT))(σ:St)(tg:aS)(R:It->Hp->Prop)(itv:aE)(s2:aG):Prop:=
 ∃ (it:aB) (fp:List aB) (tn:Nat->aR->Prop) (J:It) (H':Hp),itv = .ref it/\Inv X pins σ H' s2/\Turn X.prog X.w X.K tg J fp it tn/\tn 0 s2.heap/\(∀ b∈fp,FpOk X pins H' b)/\R J H'
def PI (X:Cx)(tg iter:aS)(wi:TI):Prop:=
 ∀ (pins:List (aB×aT)) (s:aG) (σ:St) (H:Hp) (R:It->Hp->Prop),Inv X pins σ H s->wi σ H R ->
  aO (aP X.prog X.w) X.A (bC iter X.env) (fun v s1=>aO (aP X.prog X.w) X.A (pyIter v) (PIE X pins σ tg R) X.xe s1) X.xe s
theorem go_of {M:Model}{A:bQ}{E:aE->aG->Prop}{s:aG}{tg:aS}{it:aB}{u:aE}{o:aT}{n:String}{vs:Array aE}{Q:Unit->aG->Prop}(ho:s.heap.get? it=some o)(hc:o.cls = .type n)(hd:o.data = .fields vs)
    (hn:["enumerate","zip","dict_itemiterator","dict_reverseitemiterator","odict_iterator","itertools.zip_longest","itertools.pairwise"].contains n=false) (hQ:Q () s):aO M A (yI tg (.ref it) u) Q E s:=by
  unfold yI
  cases tg <;> first
    | exact bB hQ
    | (cases u <;> first
        | exact bB hQ
        | (refine aL (wpAny_load ho ?_)
           rw[hc,hd]
           show aO M A (if (["enumerate","zip","dict_itemiterator","dict_reverseitemiterator","odict_iterator","itertools.zip_longest","itertools.pairwise"].contains n&&vs[0]? == some (rawInt _))=true then _ else _) Q E s
           rw[if_neg (by intro h; rw[hn,Bool.false_and] at h; cases h)]
           exact bB hQ))
noncomputable def vO (K:aI)(a:aB):It:=
 ⟨fun i H=>∃ xs x,SqL K H a xs/\xs[i]?=some x,fun i H x H'=>H'=H /\ ∀ xs,SqL K H a xs->xs[i]?=some x,fun i H=>∃ xs,SqL K H a xs/\xs.length≤i⟩
noncomputable def vN (K:aI)(a:aB):It:=
 ⟨fun i H=>∃ xs x,SqT K H a xs/\xs[i]?=some x,fun i H x H'=>H'=H /\ ∀ xs,SqT K H a xs->xs[i]?=some x,fun i H=>∃ xs,SqT K H a xs/\xs.length≤i⟩
noncomputable def sY (lo:Int)(n:Nat):It:=⟨fun i _=>i<n,fun i H x H'=>H'=H/\x = .int (lo+i),fun i _=>n≤i⟩
theorem turn_list {P:bA}{w:aX}{K:aI}{tg:aS}(a it:aB):Turn P w K tg (vO K a) [it] it (fun i h=>h.IsListIter it a i) where
 mem:=by simp
 obj:=fun i h st b hb=>by
  have e:b=it:=by simpa using hb
  subst e
  obtain⟨o,e,c,d⟩:=st
  exact⟨o,e,fun v z=>by rw[d] at z; cases z⟩
 keep:=fun i h h' st k=>st.at fun o e=>k it (by simp) o e
 item:=by
  intro X hP hw hK hc i pins s σ H E I hf st hg
  subst hP hw hK
  obtain⟨xs,x,hq,hx⟩:=hg
  obtain⟨its,rv,p,hz⟩:=I.list hq
  obtain⟨u,hu,ru⟩:=rv.get hx
  obtain⟨f0,f1,f2,f3,f4,f5⟩:=hf it (by simp)
  refine wpAny_pyNext_list_item st p.isList (x:=u) (by simpa using hu) fun h' st' sb=>?_
  have I1:Inv X pins σ H { s with heap:=h' }:=I.turned (t':=s.toks) (fun b o hb e=>(sb.2 b hb).trans e) f0 f1 f3 f4 f5
  obtain⟨o,e,c,d⟩:=id st'
  exact⟨u,rfl,go_of (s:={ s with heap:=h' }) e c d (by decide) ⟨x,H,I1,ru,⟨rfl,fun ys hy=>by rw[I.list_inj hy hq]; exact hx⟩,st',fun b hb=>(hf b hb).1⟩⟩
 done:=by
  intro X hP hw hK hc i pins s σ H E I hf st hg
  subst hP hw hK
  obtain⟨xs,hq,hx⟩:=hg
  obtain⟨its,rv,p,hz⟩:=I.list hq
  obtain⟨f0,f1,f2,f3,f4,f5⟩:=hf it (by simp)
  have hl:=rv.length
  exact wpAny_pyNext_list_end (I.ok.hd hc) st p.isList (by simp; omega) fun h' eb=>⟨rfl,I.turned (t':=s.toks) (fun b o hb e=>eb b o hb e) f0 f1 f3 f4 f5⟩
 self:=fun _ _ _ _ _ st h=>wpAny_pyIter_listiter st h
theorem turn_tuple {P:bA}{w:aX}{K:aI}{tg:aS}(a it:aB):Turn P w K tg (vN K a) [it] it (fun i h=>h.IsTupleIter it a i) where
 mem:=by simp
 obj:=fun i h st b hb=>by
  have e:b=it:=by simpa using hb
  subst e
  obtain⟨o,e,c,d⟩:=st
  exact⟨o,e,fun v z=>by rw[d] at z; cases z⟩
 keep:=fun i h h' st k=>st.at fun o e=>k it (by simp) o e
 item:=by
  intro X hP hw hK hc i pins s σ H E I hf st hg
  subst hP hw hK
  obtain⟨xs,x,hq,hx⟩:=hg
  obtain⟨its,rv,p,hz⟩:=I.tuple hq
  obtain⟨u,hu,ru⟩:=rv.get hx
  obtain⟨f0,f1,f2,f3,f4,f5⟩:=hf it (by simp)
  refine wpAny_pyNext_tuple_item st (show s.heap.IsTuple a its.toArray from p) (x:=u) (by simpa using hu) fun h' st' sb=>?_
  have I1:Inv X pins σ H { s with heap:=h' }:=I.turned (t':=s.toks) (fun b o hb e=>(sb.2 b hb).trans e) f0 f1 f3 f4 f5
  obtain⟨o,e,c,d⟩:=id st'
  exact⟨u,rfl,go_of (s:={ s with heap:=h' }) e c d (by decide) ⟨x,H,I1,ru,⟨rfl,fun ys hy=>by rw[I.tuple_inj hy hq]; exact hx⟩,st',fun b hb=>(hf b hb).1⟩⟩
 done:=by
  intro X hP hw hK hc i pins s σ H E I hf st hg
  subst hP hw hK
  obtain⟨xs,hq,hx⟩:=hg
  obtain⟨its,rv,p,hz⟩:=I.tuple hq
  obtain⟨f0,f1,f2,f3,f4,f5⟩:=hf it (by simp)
  have hl:=rv.length
  exact wpAny_pyNext_tuple_end (I.ok.hd hc) st (show s.heap.IsTuple a its.toArray from p) (by simp; omega) fun h' eb=>⟨rfl,I.turned (t':=s.toks) (fun b o hb e=>eb b o hb e) f0 f1 f3 f4 f5⟩
 self:=fun _ _ _ _ _ st h=>wpAny_pyIter_tupleiter st h
theorem turn_range {P:bA}{w:aX}{K:aI}{tg:aS}(it:aB)(lo:Int)(n:Nat):Turn P w K tg (sY lo n) [it] it (fun i h=>IsRangeIter h it (lo+(i:Nat)*1) ((n:Int) - (i:Nat)) 1) where
 mem:=by simp
 obj:=fun i h st b hb=>by
  have e:b=it:=by simpa using hb
  subst e
  exact⟨_,st,fun v z=>by
   have z':Data.fields _=Data.cell v:=z
   cases z'⟩
 keep:=fun i h h' st k=>k it (by simp) _ st
 item:=by
  intro X hP hw hK hc i pins s σ H E I hf st hg
  subst hP hw hK
  obtain⟨f0,f1,f2,f3,f4,f5⟩:=hf it (by simp)
  have W:=Walks.range (prog:=X.prog) (w:=X.w) (I.ok.hd hc) it lo 1 n
  refine W.item i s _ _ hg st fun v h' tk hv st' kk=>?_
  obtain⟨t,rfl⟩:=hv
  have I1:Inv X pins σ H { s with heap:=h',toks:=tk }:=I.turned (fun b o hb e=>kk b o (by simpa using hb) e) f0 f1 f3 f4 f5
  refine⟨_,rfl,go_of (s:={ s with heap:=h',toks:=tk }) (n:="range_iterator") st' rfl rfl (by decide) ⟨.int (lo+i),H,I1,⟨t,?_⟩,⟨rfl,rfl⟩,st',fun b hb=>(hf b hb).1⟩⟩
  rw[Int.mul_one]
 done:=by
  intro X hP hw hK hc i pins s σ H E I hf st hg
  subst hP hw hK
  obtain⟨f0,f1,f2,f3,f4,f5⟩:=hf it (by simp)
  exact wpAny_pyNext_range_end (I.ok.hd hc) st (by have:n≤i:=hg; omega) fun h' eb=>⟨rfl,I.turned (t':=s.toks) (fun b o hb e=>eb b o hb e) f0 f1 f3 f4 f5⟩
 self:=fun _ _ _ _ _ st h=>wpAny_pyIter_rangeiter st h
section
variable {X:Cx}{tg:aS}
noncomputable def iList (K:aI)(tl:TE):TI:=fun σ H R=>tl σ H fun x H1=>∃ a,x = .ref a/\(∃ xs,SqL K H1 a xs)/\R (vO K a) H1
noncomputable def iTup (K:aI)(tl:TE):TI:=fun σ H R=>tl σ H fun x H1=>∃ a,x = .ref a/\(∃ xs,SqT K H1 a xs)/\R (vN K a) H1
theorem pi_list {l:aS}{tl:TE}(hl:PE X l tl):PI X tg l (iList X.K tl):=by
 intro pins s σ H R I h
 refine thn (hl pins s σ H _ I h) fun v s1 gh=>?_
 obtain⟨x,H1,I1,r1,q1⟩:=gh
 obtain⟨a,e,⟨xs,hq⟩,q⟩:=q1
 subst e
 cases r1
 obtain⟨its,rv,p,hz⟩:=I1.list hq
 refine yC p.isList ?_
 refine⟨s1.heap.objs.size,[s1.heap.objs.size],_,_,H1,rfl,I1.kept (t':=s1.toks) fun b o e=>cF _ e,turn_list a _,⟨_,dU _ rfl,rfl,rfl⟩,fun b hb=>?_,q⟩
 have e:b=s1.heap.objs.size:=by simpa using hb
 subst e
 exact I1.fpOk (bM _) (I1.hok.fresh (bM _))
theorem pi_tup {l:aS}{tl:TE}(hl:PE X l tl):PI X tg l (iTup X.K tl):=by
 intro pins s σ H R I h
 refine thn (hl pins s σ H _ I h) fun v s1 gh=>?_
 obtain⟨x,H1,I1,r1,q1⟩:=gh
 obtain⟨a,e,⟨xs,hq⟩,q⟩:=q1
 subst e
 cases r1
 obtain⟨its,rv,p,hz⟩:=I1.tuple hq
 refine wpAny_pyIter_tuple (show s1.heap.IsTuple a its.toArray from p) ?_
 refine⟨s1.heap.objs.size,[s1.heap.objs.size],_,_,H1,rfl,I1.kept (t':=s1.toks) fun b o e=>cF _ e,turn_tuple a _,⟨_,dU _ rfl,rfl,rfl⟩,fun b hb=>?_,q⟩
 have e:b=s1.heap.objs.size:=by simpa using hb
 subst e
 exact I1.fpOk (bM _) (I1.hok.fresh (bM _))
theorem range_it {pins:List (aB×aT)}{σ:St}{H:Hp}{s:aG}{R:It->Hp->Prop}{E:aE->aG->Prop}{lo hi:Int}{t u v:Tok}{tk:Nat}(I:Inv X pins σ H s)(h1 : -(2 ^ 62)≤lo)(h2:lo<2 ^ 62)(h3 : -(2 ^ 62)≤hi)(h4:hi<2 ^ 62)
  (q:R (sY lo (hi - lo).toNat) H):aO (aP X.prog X.w) X.A (pyIter (.ref s.heap.objs.size)) (PIE X pins σ tg R) E { s with heap:=s.heap.push { cls:=.type "range",data:=.fields #[.int lo t,.int hi u,.int 1 v] },toks:=tk }:=by
 refine wpAny_pyIter_range (IsRange.new ..) (small_one h1 h2 h3 h4) ?_
 have I1:Inv X pins σ H { s with heap:=s.heap.push { cls:=.type "range",data:=.fields #[.int lo t,.int hi u,.int 1 v] },toks:=tk }:=I.kept fun b o e=>cF _ e
 refine⟨(s.heap.push { cls:=.type "range",data:=.fields #[.int lo t,.int hi u,.int 1 v] }).objs.size,[(s.heap.push { cls:=.type "range",data:=.fields #[.int lo t,.int hi u,.int 1 v] }).objs.size],_,_,H,rfl,
  I1.kept (t':=tk) fun b o e=>cF _ e,turn_range _ lo (hi - lo).toNat,?_,fun b hb=>?_,q⟩
 ·have e1:lo+((0:Nat):Int)*1=lo:=by simp
  have e2:(((hi - lo).toNat:Nat):Int) - ((0:Nat):Int)=Builtin.Range.rangeSize lo hi 1:=by rw[rangeSize_one]; split <;> omega
  show IsRangeIter _ _ (lo+((0:Nat):Int)*1) ((((hi - lo).toNat:Nat):Int) - ((0:Nat):Int)) 1
  rw[e1,e2]
  exact dU _ rfl
 ·have e:b=(s.heap.push { cls:=.type "range",data:=.fields #[.int lo t,.int hi u,.int 1 v] }).objs.size:=by simpa using hb
  subst e
  exact I1.fpOk (bM _) (I1.hok.fresh (bM _))
noncomputable def iRng1 (ta:TA):TI:=fun σ H R=>ta σ H fun vs H1=>∃ j:Int,vs=[.int j] /\ -(2 ^ 62)≤j/\j<2 ^ 62/\R (sY 0 j.toNat) H1
theorem pi_range1 {a:aS}{ta:TA}{p pos:bG}(hg:Gl X "range")(hm:X.mg "range" = none)(ha:PA X [a] ta)(hs:bF [a] X.env=[(false,bC a X.env)]:=by rfl):PI X tg (.Call (.Name "range" p) [a] [] pos) (iRng1 ta):=by
 intro pins s σ H R I h
 refine Call_ (qK I hg hm boot_range (DY (thn (ha pos pins s σ H _ I h) fun us s1 ⟨vs,H1,I1,r1,q1⟩=>?_) hs rfl))
 obtain⟨j,e,q1,q2,q⟩:=q1
 subst e
 cases r1 with
 | cons r rr=>
  cases rr
  obtain⟨t,rfl⟩:=r
  exact call_range_1 (range_it I1 (by omega) (by omega) q1 q2 (by simpa using q))
noncomputable def tFor (wi:TI)(g:TG)(tb:TS):TS:=fun D σ H=>wi σ H fun J H1=>∃ W:Nat->Nat->St->Hp->Prop,(∃ m,W 0 m σ H1) /\ ∀ i m σ H,W i m σ H ->
 (J.stop i H/\D.nx σ H) \/ (J.go i H /\ ∃ N:St->Hp->Prop,(∀ σ' H',N σ' H' -> ∃ m',m'<m/\W (i+1) m' σ' H') /\ ∀ x H',J.yld i H x H'->g x σ H' fun σ2 H2=>tb { D with nx:=N,ct:=N,bk:=D.nx } σ2 H2)
noncomputable def qJ (fp:List aB)(h:aR):List (aB×aT):=fp.filterMap fun b=>(h.get? b).map fun o=>(b,o)
theorem uC {fp:List aB}{h:aR}{b:aB}{o:aT}(hb:b∈fp)(e:h.get? b=some o):(b,o)∈qJ fp h:=EM.mpr ⟨b,hb,by rw[e]; rfl⟩
theorem of_pinsAt {fp:List aB}{h:aR}{p:aB×aT}(hp:p∈qJ fp h):p.1∈fp/\h.get? p.1=some p.2:=by
 obtain⟨b,hb,e⟩:=EM.mp hp
 cases q:h.get? b with
 | none=>rw[q] at e; cases e
 | some o=>
  rw[q] at e
  have e':(b,o)=p:=fA e
  subst e'
  exact⟨hb,q⟩
theorem Inv.pinned {pins:List (aB×aT)}{σ:St}{H:Hp}{s:aG}{fp:List aB}(I:Inv X pins σ H s)(hf : ∀ b∈fp,FpOk X pins H b)(ho : ∀ b∈fp,∃ o,s.heap.get? b=some o /\ ∀ v,o.data ≠ .cell v):Inv X (pins++qJ fp s.heap) σ H s:=
 I.pins_of fun p hp=>(kP.mp hp).elim (fun z=>I.pin p (lF _ z)) fun z=>by
  obtain⟨hb,e⟩:=of_pinsAt z
  obtain⟨f0,f1,f2,_⟩:=hf p.1 hb
  obtain⟨o,e',d⟩:=ho p.1 hb
  rw[e] at e'; cases e'
  exact⟨e,f0,f1,f2,d⟩
theorem Inv.unpinned {pins pl:List (aB×aT)}{σ:St}{H:Hp}{s:aG}(I:Inv X (pins++pl) σ H s):Inv X pins σ H s:=I.pins_of fun p hp=>I.pin p (lF _ (EN _ hp))
theorem ps_for {iter:aS}{body:List bL}{wi:TI}{g:TG}{tb:TS}{pos:bG}(hp:PassesOwn (aP X.prog X.w) X.A X.env X.xe)(hc:X.calm=true)(hi:PI X tg iter wi)(hg:PG X tg g)(hb:PSs X body tb)
  (hs : ∀ x,nY iter X.env x=pure x:=by intro _; rfl):PS X (.For tg iter body [] pos) (tFor wi g tb):=by
 intro pins s σ H D I h
 refine wpAny_For (thn (hi pins s σ H _ I h) fun v s1 h1=>thn h1 fun itv s2 h2=>?_) hs
 obtain⟨it,fp,tn,J,H2,e,I2,T,st2,f2,W,⟨m0,w0⟩,turn⟩:=h2
 subst e
 have stat : ∀ {H':Hp},(∀ b∈fp,H' b=none) -> ∀ b∈fp,FpOk X pins H' b:=fun hn b hb=>⟨hn b hb,(f2 b hb).2⟩
 refine codeAny_forLoop_any (fun n s'=>∃ i σ' H',Inv X pins σ' H' s'/\tn i s'.heap/\(∀ b∈fp,H' b=none)/\W i n σ' H') ?_ m0 ⟨0,σ,H2,I2,st2,fun b hb=>(f2 b hb).1,w0⟩
 rintro n s3 ⟨i,σ3,H3,I3,st3,fr3,w3⟩
 rcases turn i n σ3 H3 w3 with⟨stop,qn⟩ | ⟨go,N,hN,step⟩
 ·refine uO hp (thn (T.done X rfl rfl rfl hc i pins s3 σ3 H3 X.xe I3 (stat fr3) st3 stop) fun r s4 gh=>?_)
  obtain⟨hr,I4⟩:=gh
  subst hr
  exact wpAny_execs_nil ⟨σ3,H3,I4,qn⟩
 ·refine uO hp (thn (T.item X rfl rfl rfl hc i pins s3 σ3 H3 X.xe I3 (stat fr3) st3 go) fun r s4 gh=>?_)
  obtain⟨u,hr,h4⟩:=gh
  subst hr
  refine uO hp (thn h4 fun _ s5 gh=>?_)
  obtain⟨x,H5,I5,r5,y5,st5,fr5⟩:=gh
  have I5':=I5.pinned (stat fr5) (T.obj _ _ st5)
  refine uO hp (thn (hg _ s5 σ3 H5 x u _ I5' r5 (step x H5 y5)) fun _ s6 gh=>?_)
  obtain⟨σ6,H6,I6,q6⟩:=gh
  refine uO hp (thn (hb _ s6 σ6 H6 _ I6 q6) fun f s7 q7=>?_)
  have again : ∀ {σ7:St} {H7:Hp},Inv X (pins++qJ fp s5.heap) σ7 H7 s7->N σ7 H7 -> ∃ m,m<n /\ ∃ i σ' H',Inv X pins σ' H' s7/\tn i s7.heap/\(∀ b∈fp,H' b=none)/\W i m σ' H':=fun {σ7 H7} I7 n7=>by
   obtain⟨m',hm,w7⟩:=hN σ7 H7 n7
   refine⟨m',hm,i+1,σ7,H7,I7.unpinned,T.keep _ _ _ st5 fun b hb o e=>(I7.pin (b,o) (lF _ (lF _ (uC hb e)))).1,fun b hb=>?_,w7⟩
   obtain⟨o,e,d⟩:=T.obj _ _ st5 b hb
   exact(I7.pin (b,o) (lF _ (lF _ (uC hb e)))).2.1
  cases f with
  | next=>obtain⟨σ7,H7,I7,n7⟩:=q7; exact again I7 n7
  | cont=>obtain⟨σ7,H7,I7,n7⟩:=q7; exact again I7 n7
  | brk=>obtain⟨σ7,H7,I7,q7⟩:=q7; exact⟨σ7,H7,I7.unpinned,q7⟩
  | ret v=>obtain⟨x7,σ7,H7,I7,r7,q7⟩:=q7; exact⟨x7,σ7,H7,I7.unpinned,r7,q7⟩
end
abbrev R2:=V->V->Hp->VK->Prop
def OpR (X:Cx)(f:aE->aE->Sem aE)(r:R2):Prop:=
 ∀ (pins:List (aB×aT)) (s:aG) (σ:St) (H:Hp) (x y:V) (v u:aE) (Q:VK),Inv X pins σ H s->RelV x v->RelV y u->r x y H Q ->
  aO (aP X.prog X.w) X.A (f v u) (EP X pins σ Q) X.xe s
def UnR (X:Cx)(f:aE->Sem aE)(r:V->Hp->VK->Prop):Prop:=
 ∀ (pins:List (aB×aT)) (s:aG) (σ:St) (H:Hp) (x:V) (v:aE) (Q:VK),Inv X pins σ H s->RelV x v->r x H Q ->
  aO (aP X.prog X.w) X.A (f v) (EP X pins σ Q) X.xe s
def Acv (X:Cx)(f:aE)(r:List V->Hp->VK->Prop):Prop:=
 ∀ (pins:List (aB×aT)) (s:aG) (σ:St) (H:Hp) (xs:List V) (us:List aE) (Q:VK),Inv X pins σ H s->Vals xs us->r xs H Q ->
  aO (aP X.prog X.w) X.A (call f us) (EP X pins σ Q) X.xe s
noncomputable def tOp (r:R2)(ta tb:TE):TE:=fun σ H Q=>ta σ H fun x H1=>tb σ H1 fun y H2=>r x y H2 Q
noncomputable def tUn (r:V->Hp->VK->Prop)(ta:TE):TE:=fun σ H Q=>ta σ H fun x H1=>r x H1 Q
noncomputable def rI (C:Int->Int->Prop)(g:Int->Int->V):R2:=fun x y H Q=>∃ i j,x = .int i/\y = .int j/\C i j/\Q (g i j) H
noncomputable def rI0 (g:Int->Int->V):R2:=fun x y H Q=>∃ i j,x = .int i/\y = .int j/\Q (g i j) H
def rU (g:Int->V):V->Hp->VK->Prop:=fun x H Q=>∃ i,x = .int i/\Q (g i) H
section
variable {X:Cx}{a b c:aS}{ta tb tc:TE}{pos:bG}
theorem binT (ha:PE X a ta)(hb:PE X b tb){pins:List (aB×aT)}{s:aG}{σ:St}{H:Hp}{R:V->V->Hp->Prop}(I:Inv X pins σ H s)
  (h:ta σ H fun x H1=>tb σ H1 fun y H2=>R x y H2) {Q:aE->aG->Prop} {f:aE->aE->Sem aE}
  (hf : ∀ v u s2 x y H2,Inv X pins σ H2 s2->RelV x v->RelV y u->R x y H2->aO (aP X.prog X.w) X.A (f v u) Q X.xe s2) :
  aO (aP X.prog X.w) X.A (bC a X.env) (fun v s₁=>aO (aP X.prog X.w) X.A (bC b X.env) (fun u s₂=>aO (aP X.prog X.w) X.A (f v u) Q X.xe s₂) X.xe s₁) X.xe s:=by
 refine thn (ha pins s σ H _ I h) fun v s1 gh=>?_
 obtain⟨x,H1,I1,r1,q1⟩:=gh
 refine thn (hb pins s1 σ H1 _ I1 q1) fun u s2 gh=>?_
 obtain⟨y,H2,I2,r2,q2⟩:=gh
 exact hf v u s2 x y H2 I2 r1 r2 q2
theorem pe_op {op:Operator}{r:R2}(ho:OpR X (jO op) r)(ha:PE X a ta)(hb:PE X b tb):PE X (.BinOp a op b pos) (tOp r ta tb):=by
 intro pins s σ H Q I h
 exact wpAny_BinOp (binT ha hb I h fun v u s2 x y H2 I2 rx ry q=>ho pins s2 σ H2 x y v u Q I2 rx ry q)
theorem pe_un {op:UnaryOp}{r:V->Hp->VK->Prop}(ho:UnR X (unaryOp op) r)(ha:PE X a ta):PE X (.UnaryOp op a pos) (tUn r ta):=by
 intro pins s σ H Q I h
 exact UnaryOp_ (thn (ha pins s σ H _ I h) fun v s1 ⟨x,H1,I1,r1,q1⟩=>ho pins s1 σ H1 x v Q I1 r1 q1)
theorem opI {f:aE->aE->Sem aE}{C:Int->Int->Prop}{g:Int->Int->Int}
  (rule : ∀ (i j:Int) (t u:Tok) (s:aG) (Q:aE->aG->Prop) (E:aE->aG->Prop),C i j->Q (.int (g i j) s.toks) { s with toks:=s.toks+1 }->aO (aP X.prog X.w) X.A (f (.int i t) (.int j u)) Q E s) :
  OpR X f (rI C fun i j=>.int (g i j)):=by
 intro pins s σ H x y v u Q I rx ry h
 obtain⟨i,j,rfl,rfl,hc,q⟩:=h
 obtain⟨t,rfl⟩:=rx
 obtain⟨t',rfl⟩:=ry
 exact rule i j t t' s _ _ hc ⟨.int (g i j),H,I.tok _,⟨_,rfl⟩,q⟩
theorem opI0 {f:aE->aE->Sem aE}{g:Int->Int->Int}
  (rule : ∀ (i j:Int) (t u:Tok) (s:aG) (Q:aE->aG->Prop) (E:aE->aG->Prop),Q (.int (g i j) s.toks) { s with toks:=s.toks+1 }->aO (aP X.prog X.w) X.A (f (.int i t) (.int j u)) Q E s) :
  OpR X f (rI0 fun i j=>.int (g i j)):=by
 intro pins s σ H x y v u Q I rx ry h
 obtain⟨i,j,rfl,rfl,q⟩:=h
 obtain⟨t,rfl⟩:=rx
 obtain⟨t',rfl⟩:=ry
 exact rule i j t t' s _ _ ⟨.int (g i j),H,I.tok _,⟨_,rfl⟩,q⟩
theorem opB0 {f:aE->aE->Sem aE}{g:Int->Int->Bool}
  (rule : ∀ (i j:Int) (t u:Tok) (s:aG) (Q:aE->aG->Prop) (E:aE->aG->Prop),Q (.bool (g i j)) s->aO (aP X.prog X.w) X.A (f (.int i t) (.int j u)) Q E s) :
  OpR X f (rI0 fun i j=>.bl (g i j)):=by
 intro pins s σ H x y v u Q I rx ry h
 obtain⟨i,j,rfl,rfl,q⟩:=h
 obtain⟨t,rfl⟩:=rx
 obtain⟨t',rfl⟩:=ry
 exact rule i j t t' s _ _ ⟨.bl (g i j),H,I,rfl,q⟩
def CPow (i j:Int):Prop:=0≤j/\j≤1000000/\i.natAbs<2 ^ 64
def CMul (i j:Int):Prop:=(-(2 ^ 64)<i/\i<2 ^ 64) \/ (-(2 ^ 64)<j/\j<2 ^ 64)
theorem CMul.ok {i j:Int}(h:CMul i j):IntMulOk i j:=by
 rcases h with⟨h1,h2⟩ | ⟨h1,h2⟩
 ·exact .of_left (intBits_le_64 h1 h2)
 ·exact .of_right (intBits_le_64 h1 h2)
theorem op_add:OpR X (jO .Add) (rI0 fun i j=>.int (i+j)):=opI0 fun _ _ _ _ _ _ _ q=>add_int q
theorem op_mul:OpR X (jO .Mult) (rI CMul fun i j=>.int (i*j)):=opI fun _ _ _ _ _ _ _ hc q=>mul_int q hc.ok
theorem op_mod:OpR X (jO .Mod) (rI (fun _ j=>0<j) fun i j=>.int (i%j)):=opI fun i j _ _ _ _ _ hc q=>by
 have h1:(0:Int)<j:=hc
 exact mod_int' (by omega) (by rw[Int.fmod_eq_emod_of_nonneg i (by omega)]; exact q)
theorem op_pow:OpR X (jO .Pow) (rI CPow fun i j=>.int (i ^ j.toNat)):=opI fun _ _ _ _ _ _ _ hc q=>pow_int_small hc.1 hc.2.1 hc.2.2 q
theorem unI {f:aE->Sem aE}{g:Int->Int}
  (rule : ∀ (i:Int) (t:Tok) (s:aG) (Q:aE->aG->Prop) (E:aE->aG->Prop),Q (.int (g i) s.toks) { s with toks:=s.toks+1 }->aO (aP X.prog X.w) X.A (f (.int i t)) Q E s) :
  UnR X f (rU fun i=>.int (g i)):=by
 intro pins s σ H x v Q I rx h
 obtain⟨i,rfl,q⟩:=h
 obtain⟨t,rfl⟩:=rx
 exact rule i t s _ _ ⟨.int (g i),H,I.tok _,⟨_,rfl⟩,q⟩
theorem un_neg:UnR X (unaryOp .USub) (rU fun i=>.int (-i)):=unI fun _ _ _ _ _ q=>neg_int q
end
section
variable {X:Cx}{a b c:aS}{ta tb tc:TE}{pos:bG}
theorem fin_bl {pins:List (aB×aT)}{σ:St}{H:Hp}{s:aG}{Q:VK}{k k':Bool}(I:Inv X pins σ H s)(q:Q (.bl k) H)(e:k=k'):EP X pins σ Q (.bool k') s:=by
 subst e
 exact⟨.bl k,H,I,rfl,q⟩
theorem op_lt:OpR X (eJ .Lt) (rI0 fun i j=>.bl (decide (i<j))):=opB0 fun _ _ _ _ _ _ _ q=>lt_int q
theorem op_le:OpR X (eJ .LtE) (rI0 fun i j=>.bl (decide (i≤j))):=opB0 fun _ _ _ _ _ _ _ q=>le_int q
theorem op_gt:OpR X (eJ .Gt) (rI0 fun i j=>.bl (decide (j<i))):=opB0 fun _ _ _ _ _ _ _ q=>gt_int q
theorem op_lt_str:OpR X (eJ .Lt) (fun x y H Q=>∃ i j,x = .str i/\y = .str j/\Q (.bl (decide (i.cps.toList<j.cps.toList))) H):=by
 intro pins s σ H x y v u Q I rx ry h
 obtain⟨i,j,rfl,rfl,q⟩:=h
 obtain⟨t,rfl⟩:=rx
 obtain⟨t',rfl⟩:=ry
 exact lt_str (fin_bl I q rfl)
theorem op_in_str:OpR X (eJ .In) (fun x y H Q=>∃ i j,x = .str i/\y = .str j/\Q (.bl (!(oH j i 0 j.length 1).isEmpty)) H):=by
 intro pins s σ H x y v u Q I rx ry h
 obtain⟨i,j,rfl,rfl,q⟩:=h
 obtain⟨t,rfl⟩:=rx
 obtain⟨t',rfl⟩:=ry
 exact in_str (fin_bl I q rfl)
theorem OpR.or {f:aE->aE->Sem aE}{r r':R2}(h:OpR X f r)(h':OpR X f r'):OpR X f (fun x y H Q=>r x y H Q \/ r' x y H Q):=by
 intro pins s σ H x y v u Q I rx ry q
 rcases q with q | q
 ·exact h pins s σ H x y v u Q I rx ry q
 ·exact h' pins s σ H x y v u Q I rx ry q
theorem eT (b:aS){op:CmpOp}(h:op ≠ .In:=by decide)(h2:op ≠ .NotIn:=by decide):rZ op b=false:=by
 have e1:(op == CmpOp.In)=false:=by cases op <;> first | rfl | exact absurd rfl h
 have e2:(op == CmpOp.NotIn)=false:=by cases op <;> first | rfl | exact absurd rfl h2
 cases b <;> simp[rZ,e1,e2]
theorem pe_cmpR {op:CmpOp}{r:R2}(ho:OpR X (eJ op) r)(ha:PE X a ta)(hb:PE X b tb)(hm:rZ op b=false):PE X (.Compare a [op] [b] pos) (tOp r ta tb):=by
 intro pins s σ H Q I h
 exact wpAny_Compare1 (binT ha hb I h fun v u s2 x y H2 I2 rx ry q=>ho pins s2 σ H2 x y v u Q I2 rx ry q) hm
noncomputable def tTest (t:TE):TT:=fun σ H Q=>t σ H fun x H'=>∃ k,x = .bl k/\Q k H'
theorem pt_cmpR {op:CmpOp}{r:R2}(ho:OpR X (eJ op) r)(ha:PE X a ta)(hb:PE X b tb)(hm:rZ op b=false):PT X (.Compare a [op] [b] pos) (tTest (tOp r ta tb)):=by
 intro pins s σ H Q I h
 refine wpAny_isTrue_Compare1 (thn (ha pins s σ H _ I h) fun v s1 ⟨x,H1,I1,r1,q1⟩=>thn (hb pins s1 σ H1 _ I1 q1) fun u s2 ⟨y,H2,I2,r2,q2⟩=>
  thn (ho pins s2 σ H2 x y v u _ I2 r1 r2 q2) fun c s3 ⟨z,H3,I3,r3,k,e,q3⟩=>?_) hm
 subst e
 cases r3
 exact nV ⟨H3,I3,q3⟩
noncomputable def tChain (r r':R2)(ta tb tc:TE):TE:=fun σ H Q=>ta σ H fun x H1=>tb σ H1 fun y H2=>r x y H2 fun z H3=>∃ k,z = .bl k /\
 (if k=true then tc σ H3 fun w' H4=>r' y w' H4 Q else Q (.bl false) H3)
theorem pe_chain {op op':CmpOp}{r r':R2}(ho:OpR X (eJ op) r)(ho':OpR X (eJ op') r')(ha:PE X a ta)(hb:PE X b tb)(hc:PE X c tc)
  (hm:lastMarks [op,op'] [b,c]=false:=by with_unfolding_all rfl):PE X (.Compare a [op,op'] [b,c] pos) (tChain r r' ta tb tc):=by
 intro pins s σ H Q I h
 refine Compare_chain (thn (ha pins s σ H _ I h) fun v s1 ⟨x,H1,I1,r1,q1⟩=>chain_link (thn (hb pins s1 σ H1 _ I1 q1) fun u s2 ⟨y,H2,I2,r2,q2⟩=>
  thn (ho pins s2 σ H2 x y v u _ I2 r1 r2 q2) fun d s3 ⟨z,H3,I3,r3,k,e,q3⟩=>?_)) hm
 subst e
 cases r3
 refine nV ?_
 cases k with
 | false=>exact ite_ff ⟨.bl false,H3,I3,rfl,q3⟩
 | true=>exact ite_tt (chain_last (thn (hc pins s3 σ H3 _ I3 q3) fun w' s4 ⟨z',H4,I4,r4,q4⟩=>ho' pins s4 σ H4 y z' u w' Q I4 r2 r4 q4))
theorem pt_chain {op op':CmpOp}{r r':R2}(ho:OpR X (eJ op) r)(ho':OpR X (eJ op') r')(ha:PE X a ta)(hb:PE X b tb)(hc:PE X c tc)
  (hm:lastMarks [op,op'] [b,c]=false:=by with_unfolding_all rfl):PT X (.Compare a [op,op'] [b,c] pos) (tTest (tChain r r' ta tb tc)):=by
 intro pins s σ H Q I h
 refine isTrue_chain (thn (ha pins s σ H _ I h) fun v s1 ⟨x,H1,I1,r1,q1⟩=>test_link (thn (hb pins s1 σ H1 _ I1 q1) fun u s2 ⟨y,H2,I2,r2,q2⟩=>
  thn (ho pins s2 σ H2 x y v u _ I2 r1 r2 q2) fun d s3 ⟨z,H3,I3,r3,k,e,q3⟩=>?_)) hm
 subst e
 cases r3
 refine nV ?_
 cases k with
 | false=>
  obtain⟨k',e',q'⟩:=q3
  cases e'
  exact ite_ff ⟨H3,I3,q'⟩
 | true=>
  refine ite_tt (test_last (thn (hc pins s3 σ H3 _ I3 q3) fun w' s4 ⟨z',H4,I4,r4,q4⟩=>thn (ho' pins s4 σ H4 y z' u w' _ I4 r2 r4 q4) fun d' s5 gh=>?_))
  obtain⟨z2,H5,I5,r5,k2,e2,q5⟩:=gh
  subst e2
  cases r5
  exact nV ⟨H5,I5,q5⟩
theorem oO:(sizeLine:Nat)<2 ^ 63:=by rw[mY]; decide
theorem op_add_str:OpR X (jO .Add) (fun x y H Q=>∃ i j,x = .str i/\y = .str j/\i.length+j.length≤sizeLine/\Q (.str (i++j)) H):=by
 intro pins s σ H x y v u Q I rx ry h
 obtain⟨i,j,rfl,rfl,hz,q⟩:=h
 obtain⟨t,rfl⟩:=rx
 obtain⟨t',rfl⟩:=ry
 exact add_str (fun t' tk=>⟨.str (i++j),H,I.tok _,⟨_,rfl⟩,q⟩) hz
theorem vals1 {x:V}{us:List aE}(r:Vals [x] us) : ∃ u,us=[u]/\RelV x u:=by
 cases r with
 | cons r1 r2=>cases r2; exact⟨_,rfl,r1⟩
theorem vals2 {x y:V}{us:List aE}(r:Vals [x,y] us) : ∃ u w',us=[u,w']/\RelV x u/\RelV y w':=by
 cases r with
 | cons r1 r2=>
  cases r2 with
  | cons r3 r4=>cases r4; exact⟨_,_,rfl,r1,r3⟩
theorem call_int1:Acv X (.type "int") (fun xs H Q=>(∃ i,xs=[.int i]/\Q (.int i) H) \/ ∃ k,xs=[.bl k]/\Q (.int (if k then 1 else 0)) H):=by
 intro pins s σ H xs us Q I r h
 rcases h with⟨i,rfl,q⟩ | ⟨k,rfl,q⟩
 ·obtain⟨u,rfl,t,rfl⟩:=vals1 r
  exact call_int_int ⟨.int i,H,I,⟨_,rfl⟩,q⟩
 ·obtain⟨u,rfl,r1⟩:=vals1 r
  cases r1
  exact call_int_bool ⟨.int (if k then 1 else 0),H,I.tok _,⟨_,rfl⟩,q⟩
theorem FG:Acv X (.type "str") (fun xs H Q=>∃ i,xs=[.int i]/\i.natAbs.log2<1920/\Q (.str (toString i)) H):=by
 intro pins s σ H xs us Q I r h
 obtain⟨i,rfl,hz,q⟩:=h
 obtain⟨u,rfl,t,rfl⟩:=vals1 r
 exact PySem.P.str_of_int hz ⟨.str _,H,I.tok _,⟨_,rfl⟩,q⟩
end
structure ObjM (h:aR)(x dx C:aB)(mA:aD->Option aE):Prop where
 obj:h.get? x=some (mC C dx)
 ns:h.Ns1 dx mA
 ne:dx≠x
theorem lookIn_ns {h:aR}{dx:aB}{mA:aD->Option aE}(n:h.Ns1 dx mA) : ∃ od,h.get? dx=some od /\ ∀ name,yK name od=some (mA name):=by
 obtain⟨o,es,ep,ho,hd,hk,_,hm⟩:=n
 refine⟨o,ho,fun name=>?_⟩
 have e:=hm name
 unfold nsFind findBy at e
 rw[← Array.find?_toList] at e
 unfold yK
 rw[hd]
 dsimp only
 split
 ·rename_i y q
  rw[q] at e
  exact congrArg some e
 ·rename_i q
  rw[q] at e
  have a:es.toList.any (·.refKey)=false:=by
   rw[List.any_eq_false]
   intro y hy
   obtain⟨z,t,hkey⟩:=hk y (Array.mem_toList_iff.mp hy)
   simp[DictEntry.refKey,hkey]
  have a' : ¬ es.toList.any (·.refKey)=true:=by rw[a]; exact nF
  rw[if_neg a']
  exact congrArg some e
theorem ObjM.look {h:aR}{x dx C:aB}{mA:aD->Option aE}(I:ObjM h x dx C mA) : ∃ od,PySem.W.InstAt h x (mC C dx) C (some od) /\ ∀ name,yK name od=some (mA name):=
 let ⟨od,ho,hl⟩:=lookIn_ns I.ns
 ⟨od,⟨I.obj,rfl,rfl,ho⟩,hl⟩
section
variable {prog:bA}{w:aX}{A:bQ}{E:aE->aG->Prop}{s:aG}{K:aI}{x dx C f:aB}{mA:aD->Option aE}{name:aD}{v:aE}
theorem get_map {expr:Bool}{Q:aE->aG->Prop}(X:K.In s.heap)(I:ObjM s.heap x dx C mA)(hg:uW K C name=true)(hh:yN K C=true)
  (ha:jC K (.ref C) name=some none) (hv:mA name=some v) (hv':PySem.W.handedIn v=true) (h:Q v { s with toks:=s.toks+1 }) :
  aO (aP prog w) A (getAttr (.ref x) name expr) Q E s:=by
 obtain⟨od,J,hl⟩:=I.look
 exact PySem.W.get_value X J (DJ hg).1 (PySem.W.findObj_own hh ha rfl (by rw[hl,hv])) hv' h
theorem get_meth {pl:Sem Bool}{Q:aE×List aE->aG->Prop}(X:K.In s.heap)(I:ObjM s.heap x dx C mA)(hg:uW K C name=true)
  (hf:jC K (.ref C) name=some (some (.ref f))) (ht:yL K (.ref f)=true) (hv:mA name=none) (h:Q (.ref f,[.ref x]) s) :
  aO (aP prog w) A (getMethod (.ref x) name pl) Q E s:=by
 obtain⟨od,J,hl⟩:=I.look
 exact PySem.W.method_fn X J (DJ hg).1 (DJ hg).2 hf (beq_iff_eq.mp ht) (by show(yK name od).map (·.isSome)=some false; rw[hl,hv]; rfl) h
theorem set_map {ns:List aD}{Q:Unit->aG->Prop}(X:K.In s.heap)(I:ObjM s.heap x dx C mA)
  (hs:jC K (.ref C) "__setattr__" = some (some (.builtin "object.__setattr__"))) (hp:DH K C=true) (ht:DD K C name=some none) (hh:yN K C=true)
  (hw:PySem.Within mA ns) (hsz:ns.length≤sizeLine)
  (h : ∀ h',ObjM h' x dx C (fun y=>if y=name then some v else mA y)->vI dx s.heap h'->Q () { s with heap:=h',toks:=s.toks+2 }) :
  aO (aP prog w) A (setAttr (.ref x) name v) Q E s:=by
 obtain⟨od,J,hl⟩:=I.look
 refine PySem.W.set_plain X J hs (PySem.W.osa_open (s:={ s with toks:=s.toks+1 }) (r:=none) X J hp ht fun b=>?_)
 obtain⟨cd,hc,hd'⟩:=PySem.W.any_some hh
 have hx:s.heap.get? x=some ⟨.ref C,some dx,.plain,#[]⟩:=I.obj
 refine aL (bB (aL (aL (wpAny_loadPart hx (aL (PySem.W.Looks.here (s:={ s with toks:=s.toks+1 }) (PySem.W.looks_clsIn X hc) ?_))))))
 rw[hd']
 refine bB (a:=some dx) (aL (bB (aL ?_)))
 refine wpAny_nsSet1 (s:={ s with toks:=s.toks+1 }) I.ns fun h' hn2 hs2=>?_
 obtain⟨oD,esD,epD,hoD,hdD,hcD⟩:=hn2.count (PySem.Within.cons name v hw)
 refine aL (wpAny_lookBehind hoD (by rw[hdD]; exact pastItsLine_dict (kO hcD (by rw[eN]; omega))) ?_)
 exact bB (h _ ⟨(hs2.2 _ (gU I.ne)).trans I.obj,hn2,I.ne⟩ hs2)
theorem make_map {R:lY->aG->Prop}{vs:List aE}{kw:List (aD×aE)}(X:K.In s.heap)(hm:DM K C=true)
  (hi:jC K (.ref C) "__init__" = some (some (.ref f))) (hf:PySem.W.typeIn K (.ref f)=some (.type "function"))
  (h:gZ (aP prog w) (A.under (.builtin "type.__call__" ⟨.ref C::vs,kw⟩)) (.call (.ref f) ⟨.ref (s.heap.objs.size+1)::vs,kw⟩) (PySem.W.InitBack (s.heap.objs.size+1) R)
   { s with heap:=(s.heap.push lC).push (mC C s.heap.objs.size) }) :
  gZ (aP prog w) A (.call (.ref C) ⟨vs,kw⟩) R s:=by
 obtain⟨hh,g,d,t,os⟩:=s
 exact PySem.W.make_core (PySem.W.makes_of X hm) (PySem.W.looks_findIn X hi) (fun self=>PySem.W.bind_fn X self hf) (.inl rfl) h
end
noncomputable def fS (f:aD)(v:V):List (aD×V)->List (aD×V)
 | []=>[(f,v)]
 | (g,x)::r=>if g=f then(g,v)::r else(g,x)::fS f v r
theorem CD (f g:aD)(v:V) : ∀ fs:List (aD×V),(fS f v fs).lookup g=if g=f then some v else fs.lookup g
 | []=>by
  show iC g [(f,v)]=_
  by_cases h:g=f
  ·have hb:(g == f)=true:=beq_iff_eq.mpr h
   simp only[iC,hb,if_pos h]
  ·have hb:(g == f)=false:=beq_eq_false_iff_ne.mpr h
   simp only[iC,hb,if_neg h]
 | (k,x)::r=>by
  have ih:=CD f g v r
  rw[show fS f v ((k,x)::r)=(if k=f then(k,v)::r else(k,x)::fS f v r) from rfl]
  by_cases hk:k=f
  ·rw[if_pos hk]
   by_cases h:g=k
   ·have hb:(g == k)=true:=beq_iff_eq.mpr h
    simp only[iC,hb,if_pos (h.trans hk)]
   ·have hb:(g == k)=false:=beq_eq_false_iff_ne.mpr h
    simp only[iC,hb,if_neg (fun e:g=f=>h (e.trans hk.symm))]
  ·rw[if_neg hk]
   by_cases h:g=k
   ·have hb:(g == k)=true:=beq_iff_eq.mpr h
    simp only[iC,hb,if_neg (fun e:g=f=>hk (h.symm.trans e))]
   ·have hb:(g == k)=false:=beq_eq_false_iff_ne.mpr h
    simp only[iC,hb]
    exact ih
theorem wQ (f:aD)(v:V) : ∀ fs:List (aD×V),f∈(fS f v fs).map (·.1) /\ ∀ g,g∈fs.map (·.1)->g∈(fS f v fs).map (·.1)
 | []=>⟨by simp[fS],fun g h=>by simp at h⟩
 | (k,x)::r=>by
  obtain⟨i1,i2⟩:=wQ f v r
  rw[show fS f v ((k,x)::r)=(if k=f then(k,v)::r else(k,x)::fS f v r) from rfl]
  by_cases hk:k=f
  ·rw[if_pos hk]
   subst hk
   exact⟨by simp,fun g h=>by simpa using h⟩
  ·rw[if_neg hk]
   refine⟨?_,fun g h=>?_⟩
   ·rw[dR]
    exact cI _ i1
   ·rw[dR] at h ⊢
    rcases cN.mp h with e | e
    ·exact cN.mpr (.inl e)
    ·exact cI _ (i2 g e)
theorem CA (f:aD)(v:V) : ∀ fs:List (aD×V),(fS f v fs).length≤fs.length+1
 | []=>by simp[fS]
 | (k,x)::r=>by
  have ih:=CA f v r
  rw[show fS f v ((k,x)::r)=(if k=f then(k,v)::r else(k,x)::fS f v r) from rfl]
  by_cases hk:k=f
  ·rw[if_pos hk,eN,eN]; omega
  ·rw[if_neg hk,eN,eN]; omega
theorem Amh.some_of {v:V}{o:Option aE}(r:Amh (some v) o) : ∃ u,o=some u/\RelV v u:=by
 cases o with
 | none=>exact(show False from r).elim
 | some u=>exact⟨u,rfl,r⟩
theorem Amh.none_of {o:Option aE}(r:Amh none o):o=none:=by
 cases o with
 | none=>rfl
 | some u=>exact(show False from r).elim
theorem handed_of {v:V}{u:aE}(r:RelV v u):PySem.W.handedIn u=true:=by
 cases v with
 | non=>cases(show u=eU from r); rfl
 | bl b=>cases(show u=Value.bool b from r); rfl
 | int i=>obtain⟨t,e⟩:=(show ∃ t,u=uU i t from r); cases e; rfl
 | str x=>obtain⟨t,e⟩:=(show ∃ t,u=uT x t from r); cases e; rfl
 | byt b=>obtain⟨t,e⟩:=(show ∃ t,u=Value.bytes b t from r); cases e; rfl
 | flt b=>obtain⟨t,e⟩:=(show ∃ t,u=Value.float b t from r); cases e; rfl
 | ref a=>cases(show u=dB a from r); rfl
 | ty n=>cases(show u=gM n from r); rfl
section
variable {P:bA}{w:aX}{H H':Hp}{h h':aR}{a C dx:aB}{fs fs':List (aD×V)}
theorem tD (hok:HOk P w H h)(e:H a=some (.ins C dx fs)) : ∃ mA,ObjM h a dx C mA/\(∀ f,Amh (fs.lookup f) (mA f))/\PySem.Within mA (fs.map (·.1))/\fs.length≤1000/\H dx=some (.own a):=by
 obtain⟨d,z,ne,ob,mA,n,r,q⟩:=(show Ace P w H h a (.ins C dx fs) from hok a _ e)
 exact⟨mA,⟨ob,n,ne⟩,r,q,z,d⟩
end
structure Cls (K:aI)(C:aB):Prop where
 pg:uW K C Str.empty=true
 hd:yN K C=true
 po:DH K C=true
 sa:jC K (.ref C) "__setattr__" = some (some (.builtin "object.__setattr__"))
theorem Cls.get {K:aI}{C:aB}(c:Cls K C)(f:aD):uW K C f=true:=c.pg
def Ah5 (K:aI)(C:aB)(f:aD):Prop:=jC K (.ref C) f=some none
theorem Ah5.taker {K:aI}{C:aB}{f:aD}(n:Ah5 K C f):DD K C f=some none:=by
 unfold DD
 rw[show jC K (.ref C) f=some none from n]
 rfl
structure Meth (K:aI)(C:aB)(m:aD)(f:aB):Prop where
 at_:jC K (.ref C) m=some (some (.ref f))
 fn:yL K (.ref f)=true
 kp:kM K (.ref f)=true
section
variable {X:Cx}{pins:List (aB×aT)}{σ:St}{H:Hp}{s:aG}{a C dx:aB}{fs:List (aD×V)}{f:aD}{v:V}{A:bQ}{E:aE->aG->Prop}
theorem getattr_ok {b:Bool}{Q:aE->aG->Prop}(I:Inv X pins σ H s)(e:H a=some (.ins C dx fs))(c:Cls X.K C)(n:Ah5 X.K C f)(l:fs.lookup f=some v)
  (h : ∀ u s',Inv X pins σ H s'->RelV v u->Q u s'):aO (aP X.prog X.w) A (getAttr (.ref a) f b) Q E s:=by
 obtain⟨mA,O,r,_,_,_⟩:=tD I.hok e
 obtain⟨u,hu,ru⟩:=Amh.some_of (v:=v) (o:=mA f) (by rw[← l]; exact r f)
 exact get_map I.kIn O (c.get f) c.hd n hu (handed_of ru) (h u _ (I.tok _) ru)
theorem BR {m:aD}{g:aB}{pl:Sem Bool}{Q:aE×List aE->aG->Prop}(I:Inv X pins σ H s)(e:H a=some (.ins C dx fs))(c:Cls X.K C)(k:Meth X.K C m g)(l:fs.lookup m=none)
  (h:Q (.ref g,[.ref a]) s):aO (aP X.prog X.w) A (getMethod (.ref a) m pl) Q E s:=by
 obtain⟨mA,O,r,_,_,_⟩:=tD I.hok e
 have hn:mA m=none:=Amh.none_of (by rw[← l]; exact r m)
 exact get_meth I.kIn O (c.get m) k.at_ k.fn hn h
theorem setattr_ok {y:V}{u:aE}{Q:Unit->aG->Prop}(I:Inv X pins σ H s)(e:H a=some (.ins C dx fs))(c:Cls X.K C)(n:Ah5 X.K C f)(hl:fs.length<1000)(ry:RelV y u)
  (h : ∀ s',Inv X pins σ (upd H a (.ins C dx (fS f y fs))) s'->Q () s'):aO (aP X.prog X.w) A (setAttr (.ref a) f u) Q E s:=by
 obtain⟨mA,O,r,wi,_,ho⟩:=tD I.hok e
 have hz:(fs.map (·.1)).length≤sizeLine:=by rw[cU,mY]; omega
 refine set_map I.kIn O c.sa c.po n.taker c.hd wi hz fun h' O' sb=>h _ ?_
 have hd : ∃ o,h'.get? dx=some o:=let ⟨o,_,_,e',_⟩:=O'.ns; ⟨o,e'⟩
 refine I.write (x:=a) (e:=dx) (by rw[e]; exact iY) (.inr ho) (fun b q hb z=>(sb.2 b hb).trans z) hd ?_
 refine⟨by rw[bH O.ne]; exact ho,?_,O.ne,O'.obj,_,O'.ns,fun g=>?_,fun g hg=>?_⟩
 ·have:=CA f y fs; omega
 ·show Amh ((fS f y fs).lookup g) (if g=f then some u else mA g)
  rw[CD]
  by_cases q:g=f
  ·rw[if_pos q,if_pos q]; exact ry
  ·rw[if_neg q,if_neg q]; exact r g
 ·by_cases q:g=f
  ·rw[q]; exact(wQ f y fs).1
  ·refine(wQ f y fs).2 g (wi g fun z=>hg ?_)
   show(if g=f then some u else mA g)=none
   rw[if_neg q]; exact z
theorem Inv.made (I:Inv X pins σ H s):Inv X pins σ (upd (upd H s.heap.objs.size (.own (s.heap.objs.size+1))) (s.heap.objs.size+1) (.ins C s.heap.objs.size []))
  { s with heap:=(s.heap.push lC).push (mC C s.heap.objs.size) }:=by
 have e1:(s.heap.push lC).get? s.heap.objs.size=some lC:=dU s.heap rfl
 have e2:((s.heap.push lC).push (mC C s.heap.objs.size)).get? (s.heap.objs.size+1)=some (mC C s.heap.objs.size):=by
  have:=dU (s.heap.push lC) (o:=mC C s.heap.objs.size) rfl
  rwa [vH] at this
 have e3:(s.heap.push lC).Ns s.heap.objs.size (fun _=>none):=⟨lC,#[],_,e1,rfl,(fun e he=>absurd he (by simp)),fun _=>rfl⟩
 have I1:=I.laid (a:=s.heap.objs.size) (o:=.own (s.heap.objs.size+1)) (h':=s.heap.push lC) (t':=s.toks) (fun b u q=>cF _ q) (bM _) ⟨_,e1⟩
 refine I1.laid (a:=s.heap.objs.size+1) (o:=.ins C s.heap.objs.size []) (t':=s.toks) (fun b u q=>cF _ q) (yW (vH _ _)) ?_
 have ne:s.heap.objs.size≠s.heap.objs.size+1:=cK (Nat.lt_succ_self _)
 refine⟨by rw[bH ne,dQ],eE _,ne,e2,fun _=>none,(Heap.Ns1.of_empty e3).at fun o q=>cF _ q,fun _=>iY,fun y hy=>absurd rfl hy⟩
theorem attr_of {prog:bA}{w:aX}{env:dI}{e:aS}{f:aD}{pos:bG}{s:aG}{Q:aE->aG->Prop}(hb:iX e f env (bC e env)=bC e env)
  (h:aO (aP prog w) A (bC e env) (fun o s₁=>aO (aP prog w) A (getAttr o f true) Q E s₁) E s):aO (aP prog w) A (bC (.Attribute e f pos) env) Q E s:=
 Attribute_any_ h (by rw[arm_eval_Attribute,hb])
end
noncomputable def tFld (K:aI)(ta:TE)(f:aD):TE:=fun σ H Q=>ta σ H fun x H1=>∃ a C dx fs v,x = .ref a/\H1 a=some (.ins C dx fs)/\Cls K C/\Ah5 K C f/\fs.lookup f=some v/\Q v H1
noncomputable def sFld (K:aI)(ta tv:TE)(f:aD):TS:=fun D σ H=>tv σ H fun y H1=>ta σ H1 fun x H2=>∃ a C dx fs,x = .ref a/\H2 a=some (.ins C dx fs)/\Cls K C/\Ah5 K C f/\fs.length<1000 /\
 D.nx σ (upd H2 a (.ins C dx (fS f y fs)))
section
variable {X:Cx}{o e value:aS}{f:aD}{pos pos' tpos:bG}{ta tv:TE}
theorem pe_fld (he:PE X e ta)(hb:iX e f X.env (bC e X.env)=bC e X.env):PE X (.Attribute e f pos) (tFld X.K ta f):=by
 intro pins s σ H Q I h
 refine attr_of hb (thn (he pins s σ H _ I h) fun u s1 gh=>?_)
 obtain⟨x,H1,I1,rx,a,C,dx,fs,v,ex,ea,c,n,l,q⟩:=gh
 subst ex
 obtain rfl:u=dB a:=rx
 exact getattr_ok I1 ea c n l fun u' s2 I2 ru=>⟨v,H1,I2,ru,q⟩
theorem ps_fld (ha:PE X o ta)(hv:PE X value tv)(hs:iW value (some (.Attribute o f pos')) pos.line X.env=pure false):PS X (.Assign [.Attribute o f pos'] value pos) (sFld X.K ta tv f):=by
 intro pins s σ H D I h
 refine plainObj_wpAny_Assign_Attribute (thn (hv pins s σ H _ I h) fun u s1 ⟨y,H1,I1,ry,q⟩=>thn (ha pins s1 σ H1 _ I1 q) fun ov s2 ⟨x,H2,I2,rx,a,C,dx,fs,ex,ea,c,n,l,q2⟩=>?_) hs
 subst ex
 obtain rfl:ov=dB a:=rx
 exact setattr_ok I2 ea c n l ry fun s3 I3=>⟨σ,_,I3,q2⟩
end
section
variable {X:Cx}{pins:List (aB×aT)}{σ:St}{H:Hp}{s:aG}{A:bQ}{E:aE->aG->Prop}{Q:aE->aG->Prop}{c:aE}{b:Bool}
inductive TyOf (K:aI)(H:Hp):V->aE->Prop where
 | non:TyOf K H .non (.type "NoneType")
 | bl (x:Bool):TyOf K H (.bl x) (.type "bool")
 | int (i:Int):TyOf K H (.int i) (.type "int")
 | str (x:aD):TyOf K H (.str x) (.type "str")
 | flt (x:UInt64):TyOf K H (.flt x) (.type "float")
 | lst {a:aB} {xs:List V} (e:H a=some (.lst xs)):TyOf K H (.ref a) (.type "list")
 | frz {a:aB} {o:aT} {xs:List V} (e:H a=some (.frz o (.lst xs))):TyOf K H (.ref a) (.type "list")
 | tup {a:aB} {xs:List V} (e:H a=some (.tup xs)):TyOf K H (.ref a) (.type "tuple")
 | dK {a:aB} {ep:Nat} {kvs:List (aM×V)} (e:H a=some (.dK ep kvs)):TyOf K H (.ref a) (.type "dict")
 | dT {a:aB} {ep:Nat} {kvs:List (List aA×V)} (e:H a=some (.dT ep kvs)):TyOf K H (.ref a) (.type "dict")
 | ins {a C dx:aB} {fs:List (aD×V)} (e:H a=some (.ins C dx fs)) (cl:Cls K C) (ha:jC K (.ref C) "__class__" = some (some (.builtin "object.__class__")))
   (hn:PySem.W.specialIn K (.builtin "object.__class__") "__get__" = some (some (.builtin "getset_descriptor.__get__"))) (htk:PySem.W.takesIn K (.builtin "object.__class__")=some true)
   (hm:PySem.W.mroIn K C (.type "object")=some true):TyOf K H (.ref a) (.ref C)
theorem isinst_ok {x:V}{u t:aE}(I:Inv X pins σ H s)(rx:RelV x u)(ty:TyOf X.K H x t)(e:jA X.K t c=some b)(h : ∀ tk,Q (.bool b) { s with toks:=tk }) :
  aO (aP X.prog X.w) A (call (.builtin "isinstance") [u,c]) Q E s:=by
 cases ty with
 | non=>cases(show u=eU from rx); exact jB PySem.W.kitx_none I.kIn iY e (fun z=>nomatch z) h
 | bl y=>cases(show u=Value.bool y from rx); exact jB PySem.W.kitx_bool I.kIn iY e (fun z=>nomatch z) h
 | int i=>obtain⟨t,q⟩:=(show ∃ t,u=uU i t from rx); cases q; exact jB PySem.W.kitx_int I.kIn iY e (fun z=>nomatch z) h
 | str y=>obtain⟨t,q⟩:=(show ∃ t,u=uT y t from rx); cases q; exact jB PySem.W.kitx_str I.kIn iY e (fun z=>nomatch z) h
 | flt y=>obtain⟨t,q⟩:=(show ∃ t,u=Value.float y t from rx); cases q; exact jB PySem.W.kitx_float I.kIn iY e (fun z=>nomatch z) h
 | @lst a xs ea=>
  cases(show u=dB a from rx)
  obtain⟨_,_,n,_,h1⟩:=(show Ace X.prog X.w H s.heap a (.lst xs) from I.hok a _ ea)
  exact jB DN I.kIn ⟨_,h1,rfl⟩ e (fun z=>nomatch z) h
 | @frz a ob xs ea=>
  cases(show u=dB a from rx)
  obtain⟨_,_,_,n,_,h1⟩:=(show Ace X.prog X.w H s.heap a (.frz ob (.lst xs)) from I.hok a _ ea)
  exact jB DN I.kIn ⟨_,h1,rfl⟩ e (fun z=>nomatch z) h
 | @tup a xs ea=>
  cases(show u=dB a from rx)
  obtain⟨_,_,_,p⟩:=(show Ace X.prog X.w H s.heap a (.tup xs) from I.hok a _ ea)
  obtain⟨o,h1,h2,_⟩:=p.1
  exact jB PySem.W.kitx_tuple I.kIn ⟨o,h1,h2⟩ e (fun z=>nomatch z) h
 | @dK a ep kvs ea=>
  cases(show u=dB a from rx)
  obtain⟨_,_,vs,_,p⟩:=(show Ace X.prog X.w H s.heap a (.dK ep kvs) from I.hok a _ ea)
  obtain⟨o,es,h1,h2,_⟩:=p
  exact jB DP I.kIn ⟨o,h1,h2.1⟩ e (fun z=>nomatch z) h
 | @dT a ep kvs ea=>
  cases(show u=dB a from rx)
  obtain⟨_,_,xs,_,o,es,h1,h2,_⟩:=(show Ace X.prog X.w H s.heap a (.dT ep kvs) from I.hok a _ ea)
  exact jB DP I.kIn ⟨o,h1,h2.1⟩ e (fun z=>nomatch z) h
 | @ins a C dx fs ea cl ha hn htk hm=>
  cases(show u=dB a from rx)
  obtain⟨mA,O,_⟩:=tD I.hok ea
  obtain⟨od,J,_⟩:=O.look
  exact jB (PySem.W.kitx_own (cl.get _) cl.hd ha hn htk hm) I.kIn J e (fun z=>nomatch z) h
end
structure Room (k:Nat)(A:bQ):Prop where
 hd:A.handled=none
 dp:A.depth+3*k+5<recursionLimit
 un:A.units+16*k+200<cLine
theorem Room.mono {j k:Nat}{A:bQ}(r:Room k A)(h:j≤k):Room j A:=⟨r.hd,by have:=r.dp; omega,by have:=r.un; omega⟩
theorem Room.deeper {k:Nat}{A:bQ}(r:Room (k+1) A)(env:dI):Room k (A.deeper env):=
 ⟨r.hd,by have:=r.dp; show A.depth+1+3*k+5<_; omega,by have:=r.un; show A.units+3+16*k+200<_; omega⟩
theorem make_depth {A:bQ}{C:aB}{us:List aE}{kw:List (aD×aE)}:(A.under (.builtin "type.__call__" ⟨.ref C::us,kw⟩)).depth=A.depth+1:=by
 first | rfl | simp[Around.under,Code.weight,Code.isCreation,Code.isGuard,Code.isCaller,Code.frames,Code.isFrame,guardIds]
theorem make_units {A:bQ}{C:aB}{us:List aE}{kw:List (aD×aE)}:(A.under (.builtin "type.__call__" ⟨.ref C::us,kw⟩)).units=A.units+1:=by
 first | rfl | simp[Around.under,Code.cUnits,Code.frames,Code.isFrame]
theorem Room.make {k:Nat}{A:bQ}(r:Room (k+1) A)(C:aB)(us:List aE)(kw:List (aD×aE)):Room k (A.under (.builtin "type.__call__" ⟨.ref C::us,kw⟩)):=
 ⟨r.hd,by have:=r.dp; rw[make_depth]; omega,by have:=r.un; rw[make_units]; omega⟩
theorem Room.depth {k:Nat}{A:bQ}(r:Room k A):A.depth<recursionLimit:=by have:=r.dp; omega
theorem Room.units {k:Nat}{A:bQ}(r:Room k A):A.units+64<cLine:=by have:=r.un; omega
noncomputable abbrev tNil:TA:=fun _ H Q=>Q [] H
noncomputable abbrev tCons (ta:TE)(tr:TA):TA:=fun σ H Q=>ta σ H fun x H1=>tr σ H1 fun xs H2=>Q (x::xs) H2
section
variable {X:Cx}{e:aS}{es:List aS}{te:TE}{t:TA}{pos:bG}
theorem kX:PA X [] tNil:=fun _ _ _ _ H Q I h=>Calls.spliced_nil ⟨[],H,I,.nil,h⟩
theorem iR (ha:PE X e te)(hr:PA X es t)(hs:bF (e::es) X.env=(false,bC e X.env)::bF es X.env:=by rfl):PA X (e::es) (tCons te t):=by
 intro pos pins s σ H Q I h
 rw[hs]
 show aO _ _ (spliced ((false,bC e X.env)::eQ pos (bF es X.env))) _ _ s
 refine Calls.spliced_cons (thn (ha pins s σ H _ I h) fun u s1 gh=>?_)
 obtain⟨x,H1,I1,r1,q1⟩:=gh
 exact thn (hr pos pins s1 σ H1 _ I1 q1) fun us s2 ⟨xs,H2,I2,r2,q2⟩=>⟨x::xs,H2,I2,.cons r1 r2,q2⟩
noncomputable def tTup (t:TA):TE:=fun σ H Q=>t σ H fun xs H1=>xs.length≤sizeLine /\ ∀ p,H1 p=none->Q (.ref p) (upd H1 p (.tup xs))
noncomputable def tLst (t:TA):TE:=fun σ H Q=>t σ H fun xs H1=>xs.length≤sizeLine /\ ∀ p,H1 p=none->Q (.ref p) (upd H1 p (.lst xs))
theorem pe_tup {x1}(h:PA X es t):PE X (.Tuple es x1 pos) (tTup t):=by
 intro pins s σ H Q I hq
 refine wpAny_Tuple_spliced (thn (h pos pins s σ H _ I hq) fun us s1 ⟨xs,H1,I1,r,z,q⟩=>⟨by rw[← r.length]; exact z,?_⟩)
 have hf:H1 s1.heap.objs.size=none:=I1.hok.fresh (bM _)
 refine⟨.ref s1.heap.objs.size,upd H1 s1.heap.objs.size (.tup xs),I1.laid (t':=s1.toks) (fun b u e=>cF _ e) (bM _) ?_,rfl,q _ hf⟩
 exact⟨z,us,r,⟨_,dU _ rfl,rfl,_,rfl⟩,_,dU _ rfl,rfl⟩
theorem pe_lst (h:PA X es t):PE X (.List es pos) (tLst t):=by
 intro pins s σ H Q I hq
 refine wpAny_List_spliced (thn (h pos pins s σ H _ I hq) fun us s1 ⟨xs,H1,I1,r,z,q⟩=>⟨by rw[← r.length]; exact z,?_⟩)
 have hf:H1 s1.heap.objs.size=none:=I1.hok.fresh (bM _)
 refine⟨.ref s1.heap.objs.size,upd H1 s1.heap.objs.size (.lst xs),I1.laid (t':=s1.toks) (fun b u e=>cF _ e) (bM _) ?_,rfl,q _ hf⟩
 exact⟨z,us,0,r,dU _ rfl⟩
end
abbrev Sp:=List V->Hp->VK->XK->Prop
abbrev CXT:=List dI->Hp->aG->XK->aE->aG->Prop
structure Env0 (P:bA)(w:aX)(K:aI)(mg:aD->Option aE)(base:aR)(A:bQ)(outer:List dI)(s:aG)(H:Hp):Prop where
 frames:A.frames=some outer
 mod:Mod K mg base
 bs : ∀ b o,base.get? b=some o->s.heap.get? b=some o/\H b=none
 bsz:base.objs.size≤s.heap.objs.size
 funs:s.heap.FunFrames base outer
 frf : ∀ b∈frs outer,H b=none
 hok:HOk P w H s.heap
 bare:mH s.gens
def CE (outer:List dI)(P:bA)(w:aX)(H:Hp)(s:aG)(Q:VK)(u:aE)(s':aG):Prop:=
 ∃ v H',s'.os=s.os/\mH s'.gens/\Un (frs outer) [] H H' s.heap s'.heap/\HOk P w H' s'.heap/\RelV v u/\Q v H'
def CR (CX:CXT)(outer:List dI)(P:bA)(w:aX)(H:Hp)(s:aG)(Q:VK)(E:XK)(r:lY)(s':aG):Prop:=
 match r with
 | .ok (.ret u)=>CE outer P w H s Q u s'
 | .ok _=>False
 | .error e=>CX outer H s E e s'
structure FnOk (P:bA)(w:aX)(K:aI)(mg:aD->Option aE)(base:aR)(CX:CXT)(k:Nat)(f:aB)(fd:eY)(ps:List aD)(sp:Sp):Prop where
 len : ∀ vs H Q E,sp vs H Q E->vs.length=ps.length
 run : ∀ (A:bQ) (outer:List dI) (s:aG) (H:Hp) (args:Args) (us:List aE) (vs:List V) (Q:VK) (E:XK),Room k A->Env0 P w K mg base A outer s H->oI s fd args (ps.zip us)->Vals vs us->sp vs H Q E ->
  gZ (aP P w) A (.call (.ref f) args) (CR CX outer P w H s Q E) s
theorem FnOk.imp {P:bA}{w:aX}{K:aI}{mg:aD->Option aE}{base:aR}{CX:CXT}{k:Nat}{f:aB}{fd:eY}{ps:List aD}{sp sp':Sp}(F:FnOk P w K mg base CX k f fd ps sp)
  (h : ∀ vs H Q E,sp' vs H Q E->sp vs H Q E):FnOk P w K mg base CX k f fd ps sp':=
 ⟨fun vs H Q E q=>F.len vs H Q E (h _ _ _ _ q),fun A outer s H args us vs Q E hr he hb hv hs=>F.run A outer s H args us vs Q E hr he hb hv (h _ _ _ _ hs)⟩
theorem Env0.make {P:bA}{w:aX}{K:aI}{mg:aD->Option aE}{base:aR}{A:bQ}{outer:List dI}{s:aG}{H:Hp}(e:Env0 P w K mg base A outer s H)(C:aB)(us:List aE)(kw:List (aD×aE)) :
  Env0 P w K mg base (A.under (.builtin "type.__call__" ⟨.ref C::us,kw⟩)) outer s H:=⟨by first | exact e.frames | (simpa [Around.under,Code.envs,Code.isFrame,pushEnvs] using e.frames),e.mod,e.bs,e.bsz,e.funs,e.frf,e.hok,e.bare⟩
section
variable {X:Cx}{pins:List (aB×aT)}{σ:St}{H:Hp}{s s':aG}
theorem Inv.env0 (I:Inv X pins σ H s):Env0 X.prog X.w X.K X.mg X.base X.A X.stack s H:=
 ⟨I.ok.frames,I.ok.mod,I.bs,kO I.ok.bsz I.sz,I.stack,I.stkFree,I.hok,I.bare⟩
theorem Inv.after {Q:VK}{u:aE}(I:Inv X pins σ H s)(h:CE X.stack X.prog X.w H s Q u s'):EP X pins σ Q u s':=by
 obtain⟨v,H',os,bare,un,hok,r,q⟩:=h
 obtain⟨hh,g,d,t,os'⟩:=s'
 obtain rfl:os'=s.os:=os
 exact⟨v,H',I.call (h':=hh) (g':=g) (d':=d) (t':=t) (ch:=[]) un hok bare (fun b z=>absurd z (by simp)),r,q⟩
end
noncomputable def tCall (sp:Sp)(dvs:List V)(E:XK)(t:TA):TE:=fun σ H Q=>t σ H fun vs H1=>sp (vs++dvs) H1 Q E
def Binds (K:aI)(fd:eY)(ps:List aD)(ds:List aE):Prop:=
 ∀ (s:aG) (us:List aE),K.In s.heap->(us++ds).length=ps.length->oI s fd ⟨us,[]⟩ (ps.zip (us++ds))
theorem Binds.all {K:aI}{fd:eY}{ps:List aD}(h : ∀ us:List aE,us.length=ps.length->bindArgs fd ⟨us,[]⟩=pure (ps.zip us)):Binds K fd ps []:=fun s us _ hl=>by
 rw[vF] at hl ⊢
 exact .of_eq (h us hl)
def Passes (CX:CXT)(X:Cx)(E:XK):Prop:=∀ (pins:List (aB×aT)) (σ:St) (H:Hp) (s:aG) (e:aE) (s':aG),Inv X pins σ H s->CX X.stack H s E e s'->X.xe e s'
section
variable {X:Cx}{CX:CXT}{k:Nat}{f C:aB}{fd:eY}{ps:List aD}{sp:Sp}{dvs:List V}{ds:List aE}{E:XK}{x m:aD}{p pos apos:bG}{e o:aS}{es:List aS}{ta:TE}{t:TA}
theorem run_fn {pins:List (aB×aT)}{σ:St}{H:Hp}{s:aG}{Q:VK}{us:List aE}{vs:List V}(F:FnOk X.prog X.w X.K X.mg X.base CX k f fd ps sp)(hr:Room k X.A)(hb:Binds X.K fd ps ds)(hd:Vals dvs ds)(hx:Passes CX X E)
  (I:Inv X pins σ H s) (r:Vals vs us) (h:sp (vs++dvs) H Q E):aO (aP X.prog X.w) X.A (call (.ref f) us) (EP X pins σ Q) X.xe s:=by
 have r2:Vals (vs++dvs) (us++ds):=r.append hd
 have hl:(us++ds).length=ps.length:=by rw[← r2.length]; exact F.len _ _ _ _ h
 refine wpAny_call (nZ (F.run X.A X.stack s H ⟨us,[]⟩ (us++ds) (vs++dvs) Q E hr I.env0 (hb s us I.kIn hl) r2 h) fun r s' hq=>?_)
 cases r with
 | error e=>exact hx pins σ H s e s' I hq
 | ok fl=>
  cases fl with
  | ret u=>exact I.after hq
  | next=>exact iD hq
  | brk=>exact iD hq
  | cont=>exact iD hq
theorem pe_call (F:FnOk X.prog X.w X.K X.mg X.base CX k f fd ps sp)(hr:Room k X.A)(hg:Gl X x)(hm:X.mg x=some (.ref f))(hk:kM X.K (.ref f)=true)(hb:Binds X.K fd ps ds)(hd:Vals dvs ds)(hx:Passes CX X E)
  (ha:PA X (e::es) t) (hdb:(x == ("__debug__" : aD))=false:=by decide) (he:bF (e::es) X.env=(false,bC e X.env)::bF es X.env:=by rfl) (hpl:(eQ pos (bF es X.env)).any (·.1)=false:=by rfl) :
  PE X (.Call (.Name x p) (e::es) [] pos) (tCall sp dvs E t):=by
 intro pins s σ H Q I h
 refine yG (oW I hg hm ?_ hdb)
 refine DR (h₀:=X.base) I.ok.mod.kin hk (thn (ha pos pins s σ H _ I h) fun us s1 ⟨vs,H1,I1,r,q⟩=>⟨I1.kIn,?_⟩) he hpl
 exact run_fn F hr hb hd hx I1 r q
structure Mk (K:aI)(C f:aB):Prop where
 makes:DM K C=true
 init:jC K (.ref C) "__init__" = some (some (.ref f))
 fn:yL K (.ref f)=true
 kp:kM K (.ref C)=true
end
structure FnScope (N P:List aD)(sc:gD):Prop where
 kind:sc.kind = .function
 co:sc.isCoroutine=false
 gen:sc.isGenerator=false
 nd:N.Nodup
 pre:N.take P.length=P
 par : ∀ x∈P,sc.names.lookup x=some .local \/ sc.names.lookup x=some .cell
 nofree : ∀ y∈sc.names,y.2 ≠ .free
theorem AM {kindOf:aD->Option jT}{x:aD} : ∀ {binds:List (aD×aE)} {m:aD->Option aE},(∀ v,(x,v)∉binds)->bindL kindOf binds m x=m x
 | [],_,_=>rfl
 | (n,v)::r,m,h=>by
  unfold bindL
  rw[AM fun w hw=>h w (cI _ hw)]
  split
  ·have:x≠n:=by rintro rfl; exact h v cA
   simp[this]
  ·rfl
theorem zV {kindOf:aD->Option jT}{x:aD} : ∀ {binds:List (aD×aE)} {m:aD->Option aE},(∀ v,(x,v)∉binds)->bindC kindOf binds m x=m x
 | [],_,_=>rfl
 | (n,v)::r,m,h=>by
  unfold bindC
  rw[zV fun w hw=>h w (cI _ hw)]
  split
  ·rfl
  ·have:x≠n:=by rintro rfl; exact h v cA
   simp[this]
theorem zQ {kindOf:aD->Option jT}{x:aD}{v:aE} : ∀ {P:List aD} {vs:List aE} {i:Nat} {m:aD->Option aE},P.Nodup->P[i]?=some x->vs[i]?=some v->kindOf x=some .local ->
  bindL kindOf (P.zip vs) m x=some v
 | [],_,_,_,_,h,_,_=>by simp at h
 | _::_,[],_,_,_,_,h,_=>by simp at h
 | p::P,w::vs,0,m,nd,h1,h2,hk=>by
  simp at h1 h2; subst h1; subst h2
  show bindL kindOf ((p,w)::P.zip vs) m p=_
  unfold bindL
  rw[AM fun v hv=>(hJ.mp nd).1 (EI hv).1,if_pos hk]
  simp
 | p::P,w::vs,i+1,m,nd,h1,h2,hk=>by
  show bindL kindOf ((p,w)::P.zip vs) m x=_
  unfold bindL
  exact zQ (i:=i) (hJ.mp nd).2 (by simpa using h1) (by simpa using h2) hk
theorem AK {kindOf:aD->Option jT}{x:aD}{v:aE} : ∀ {P:List aD} {vs:List aE} {i:Nat} {m:aD->Option aE},P.Nodup->P[i]?=some x->vs[i]?=some v->kindOf x≠some .local ->
  bindC kindOf (P.zip vs) m x=some v
 | [],_,_,_,_,h,_,_=>by simp at h
 | _::_,[],_,_,_,_,h,_=>by simp at h
 | p::P,w::vs,0,m,nd,h1,h2,hk=>by
  simp at h1 h2; subst h1; subst h2
  show bindC kindOf ((p,w)::P.zip vs) m p=_
  unfold bindC
  rw[zV fun v hv=>(hJ.mp nd).1 (EI hv).1,if_neg hk]
  simp
 | p::P,w::vs,i+1,m,nd,h1,h2,hk=>by
  show bindC kindOf ((p,w)::P.zip vs) m x=_
  unfold bindC
  exact AK (i:=i) (hJ.mp nd).2 (by simpa using h1) (by simpa using h2) hk
noncomputable def start (N:List aD)(vs:List V):St:=vs.map some++dZ (N.length - vs.length) none
noncomputable def cxOf (CX:CXT)(P:bA)(w:aX)(K:aI)(mg:aD->Option aE)(base:aR)(N:List aD)(qual:aD)(scope:gD)(f:aB)(cd:aE)(A:bQ)(outer:List dI)(s:aG)(H:Hp)(E:XK):Cx where
 prog:=P
 w:=w
 K:=K
 mg:=mg
 base:=base
 A:=A.deeper (gL qual scope s.heap.objs.size f cd)
 N:=N
 s₀:=s
 H₀:=H
 env:=gL qual scope s.heap.objs.size f cd
 outer:=outer
 stack:=gL qual scope s.heap.objs.size f cd::outer
 ex:=[]
 calm:=true
 fn:=fun _=>true
 pn:=[]
 xe:=fun e s'=>aO (aP P w) (A.deeper (gL qual scope s.heap.objs.size f cd)) (leaving (gL qual scope s.heap.objs.size f cd) e) (fun _ s''=>CX outer H s E e s'') (fun e' s''=>CX outer H s E e' s'') s'
theorem cell_has {sc:gD}{n:Nat}{x:aD}(h:sc.names.lookup x=some .cell) : ∃ c,(cellsFrom n sc.names []).lookup x=some c:=by
 have q:=PySem.W.cellsFrom_some sc.names n [] (.inl h)
 exact uY.mp q
theorem inv_start {CX:CXT}{P:bA}{w:aX}{K:aI}{mg:aD->Option aE}{base:aR}{N ps:List aD}{qual:aD}{scope:gD}{f:aB}{cd:aE}{A:bQ}{outer:List dI}{s s1:aG}{H:Hp}{E:XK}{us:List aE}{vs:List V}
  (S:FnScope N ps scope) (hd:A.handled=none) (e0:Env0 P w K mg base A outer s H) (hl:vs.length=ps.length) (r:Vals vs us)
  (x:InCallC s s.heap.objs.size (bindL (gL qual scope s.heap.objs.size f cd).kindOf (ps.zip us) fun _=>none) (cellsFrom (s.heap.objs.size+1) scope.names []) (bindC (gL qual scope s.heap.objs.size f cd).kindOf (ps.zip us) fun _=>none) s1) :
  Inv (cxOf CX P w K mg base N qual scope f cd A outer s H E) [] (start N vs) H s1:=by
 have hpl:ps.length≤N.length:=by have:=congrArg uZ S.pre; rw[nE] at this; omega
 obtain⟨h1,tk,rfl,hk⟩:=x.done
 have noA : ∀ b:aB,b∉(cxOf CX P w K mg base N qual scope f cd A outer s H E).ex:=fun b z=>absurd (show b∈([]:List aB) from z) (by simp)
 refine⟨⟨e0.mod,S.kind,rfl,rfl,bM _,fun y z c h1 h2=>?_,fun y hy=>?_,fun y c _ h=>?_,fun _=>hd,Around.frames_deeper e0.frames,.inr ⟨rfl,rfl⟩,fun b z=>absurd z (noA b),e0.bs,e0.bsz,fun b _ _=>noA b,fun b z=>absurd z (noA b),e0.funs,e0.frf⟩,
  rfl,e0.bare,Un.kept hk,⟨_,x.toInCall.ns,fun i y v h1 h2 h3=>?_⟩,fun y c h=>⟨_,x.cell y c h⟩,e0.hok.fresh (bM _),fun y c h=>?_,fun p hp=>absurd (show p∈([]:List (aB×aT)) from hp) (by simp),e0.hok.kept hk,?_⟩
 ·exact name_of_addr x.apart (uV h1) (uV h2)
 ·have hy:scope.names.lookup y=some .cell \/ scope.names.lookup y=some .free:=hy
  rcases hy with hy | hy
  ·exact cell_has hy
  ·exact absurd rfl (S.nofree _ (uV hy))
 ·exact sJ (x.above y c (uV h))
 ·have hi:i<vs.length:=by
   unfold start at h2
   by_cases hi:i<vs.length
   ·exact hi
   ·rw[ER (by simpa using hi)] at h2
    rw[List.getElem?_replicate] at h2
    split at h2 <;> cases h2
  have ha:vs[i]?=some v:=by
   unfold start at h2
   rw[vC (by simpa using hi),eX] at h2
   cases e:vs[i]? with
   | none=>rw[e] at h2; cases h2
   | some a=>rw[e] at h2; cases h2; rfl
  obtain⟨u,hu,rv⟩:=r.get ha
  have hp:ps[i]?=some y:=by
   rw[← S.pre,List.getElem?_take_of_lt (by omega)]; exact h1
  have ndP:ps.Nodup:=by rw[← S.pre]; exact S.nd.sublist (List.take_sublist _ _)
  refine⟨u,rv,?_⟩
  rcases S.par y (nD hp) with k | k
  ·exact .inl ⟨k,zQ ndP hp hu k⟩
  ·obtain⟨c,e⟩:=cell_has (n:=s.heap.objs.size+1) k
   refine .inr ⟨.inl k,c,e,?_⟩
   have q:=x.cell y c e
   rw[AK ndP hp hu (by show scope.names.lookup y≠_; rw[k]; decide)] at q
   exact q
 ·exact e0.hok.fresh (sJ (x.above y c (uV h)))
 ·unfold start
  show _=N.length
  rw[sO,cU,List.length_replicate]
  omega
theorem fn_of {CX:CXT}{P:bA}{w:aX}{K:aI}{mg:aD->Option aE}{base:aR}{k:Nat}{f:aB}{name qual:aD}{params:Arguments}{body:List bL}{scope:gD}{dV kV doc pm cdv ct oc:aE}{an od:Option aB}
  {osl:Array (Option aE)} {N ps:List aD} {sp:Sp} (lk:K.lookup f=some ⟨oc,od,.func (jR name qual params body scope dV kV doc pm an cdv ct),osl⟩) (hcd:pU K cdv qual=true) (S:FnScope N ps scope)
  (len : ∀ vs H Q E,sp vs H Q E->vs.length=ps.length)
  (hbody : ∀ (A:bQ) (outer:List dI) (s:aG) (H:Hp) (vs:List V) (Q:VK) (E:XK),Room k (A.deeper (gL qual scope s.heap.objs.size f cdv))->sp vs H Q E ->
   ∃ t,PSs (cxOf CX P w K mg base N qual scope f cdv A outer s H E) body t/\t { nx:=fun _ H'=>Q .non H',rt:=Q } (start N vs) H) :
  FnOk P w K mg base CX (k+1) f (jR name qual params body scope dV kV doc pm an cdv ct) ps sp:=by
 refine⟨len,fun A outer s H args us vs Q E hr e0 hb r hsp=>?_⟩
 have hl:=len _ _ _ _ hsp
 have KX:K.In s.heap:=e0.mod.kin.keeps fun b o e=>(e0.bs b o e).1
 have lim:s.heap.NoLimit:=e0.mod.nolimit.keeps fun b o e=>(e0.bs b o e).1
 have hkind : ∀ y∈ps.zip us,scope.names.lookup y.1=some .local \/ (scope.names.lookup y.1=some .cell/\((cellsFrom (s.heap.objs.size+1) scope.names []).lookup y.1).isSome=true):=fun⟨n,v⟩ hy=>by
  rcases S.par n (EI hy).1 with q | q
  ·exact .inl q
  ·exact .inr ⟨q,PySem.W.cellsFrom_some _ _ _ (.inl q)⟩
 refine codeAny_call_function hr.depth (KX _ _ lk) rfl S.co S.gen rfl (PySem.W.codeRec_of KX hcd) (hb _ _ _ _ ?_)
 refine wpAny_newFunctionEnv_cells S.kind hkind fun env he s1 x=>?_
 subst he
 refine⟨lim.keeps x.toInCall.keep,codeAny_func ?_⟩
 obtain⟨t,ht,hq⟩:=hbody A outer s H vs Q E (hr.deeper _) hsp
 have I:Inv (cxOf CX P w K mg base N qual scope f cdv A outer s H E) [] (start N vs) H s1:=inv_start S hr.hd e0 hl r x
 refine gY (ht [] s1 (start N vs) H _ I hq) (fun fl s' hs=>?_) fun e s' hs=>hs
 have fin : ∀ {σ':St} {H':Hp} {v:V} {u:aE},Inv (cxOf CX P w K mg base N qual scope f cdv A outer s H E) [] σ' H' s'->RelV v u->Q v H'->CE outer P w H s Q u s':=
  fun {σ' H' v u} J rv q=>⟨v,H',J.os,J.bare,J.base,J.hok,rv,q⟩
 cases fl with
 | ret u=>
  obtain⟨v,σ',H',J,rv,q⟩:=hs
  exact fin J rv q
 | next=>
  obtain⟨σ',H',J,q⟩:=hs
  exact fin (v:=V.non) (u:=eU) J rfl q
 | brk=>
  obtain⟨_,_,_,q⟩:=hs
  exact iD q
 | cont=>
  obtain⟨_,_,_,q⟩:=hs
  exact iD q
section
variable {X:Cx}{x:aD}{p pos:bG}{e:aS}{es:List aS}{t:TA}{id T:String}{r:List V->Hp->VK->Prop}
noncomputable def tCB (r:List V->Hp->VK->Prop)(t:TA):TE:=fun σ H Q=>t σ H fun vs H1=>r vs H1 Q
theorem qT (hc:Acv X (.builtin id) r)(hg:Gl X x)(hm:X.mg x=none)(hv:iH x=some (.builtin id))(ha:PA X (e::es) t)(hn:x ≠ "__name__":=by decide)(hdb:(x == ("__debug__" : aD))=false:=by decide)
  (he:bF (e::es) X.env=(false,bC e X.env)::bF es X.env:=by rfl) (hpl:(eQ pos (bF es X.env)).any (·.1)=false:=by rfl):PE X (.Call (.Name x p) (e::es) [] pos) (tCB r t):=by
 intro pins s σ H Q I h
 refine yG (qK I hg hm hv ?_ hn hdb)
 exact PyProof.Rows.callWith_builtin1 (thn (ha pos pins s σ H _ I h) fun us s1 ⟨vs,H1,I1,r1,q1⟩=>hc pins s1 σ H1 vs us Q I1 r1 q1) he hpl
theorem zR (hc:Acv X (.type T) r)(hg:Gl X x)(hm:X.mg x=none)(hv:iH x=some (.type T))(ha:PA X (e::es) t)(hn:x ≠ "__name__":=by decide)(hdb:(x == ("__debug__" : aD))=false:=by decide)
  (he:bF (e::es) X.env=(false,bC e X.env)::bF es X.env:=by rfl) (hpl:(eQ pos (bF es X.env)).any (·.1)=false:=by rfl):PE X (.Call (.Name x p) (e::es) [] pos) (tCB r t):=by
 intro pins s σ H Q I h
 refine yG (qK I hg hm hv ?_ hn hdb)
 exact DY (thn (ha pos pins s σ H _ I h) fun us s1 ⟨vs,H1,I1,r1,q1⟩=>hc pins s1 σ H1 vs us Q I1 r1 q1) he hpl
end
section
variable {κ:Type}[DecidableEq κ]
noncomputable def eO (kvs:List (κ×V))(k:κ):Option V:=(kvs.find? fun kv=>decide (kv.1=k)).map (·.2)
noncomputable def putK (kvs:List (κ×V))(k:κ)(v:V):List (κ×V):=
 if (kvs.any fun kv=>decide (kv.1=k))=true then kvs.map (fun kv=>if kv.1=k then(kv.1,v) else kv) else kvs++[(k,v)]
theorem qW {p:κ×V}{r:List (κ×V)}{k:κ}(e:p.1=k):eO (p::r) k=some p.2:=by simp[eO,iJ,e]
theorem oY {p:κ×V}{r:List (κ×V)}{k:κ}(e : ¬ p.1=k):eO (p::r) k=eO r k:=by simp[eO,iJ,e]
theorem tQ (k:κ) : ∀ kvs:List (κ×V),(kvs.any fun kv=>decide (kv.1=k))=(eO kvs k).isSome
 | []=>rfl
 | p::r=>by
  rw[vG]
  by_cases e:p.1=k
  ·simp only[qW e,decide_eq_true e,qA,Option.isSome_some]
  ·rw[oY e,decide_eq_false e,Bool.false_or]; exact tQ k r
theorem xK (kvs:List (κ×V))(k:κ)(v:V):(putK kvs k v).length≤kvs.length+1:=by
 unfold putK
 split
 ·rw[cU]; omega
 ·rw[sO,eN,List.length_nil]; omega
theorem putK_new {kvs:List (κ×V)}{k:κ}(v:V)(h:eO kvs k=none):putK kvs k v=kvs++[(k,v)]:=by
 unfold putK
 rw[tQ,h]
 exact if_neg (by decide)
theorem Amh.isSome_eq {o:Option V}{u:Option aE}(r:Amh o u):o.isSome=u.isSome:=by
 cases o with
 | none=>cases u with
  | none=>rfl
  | some _=>exact(show False from r).elim
 | some _=>cases u with
  | none=>exact(show False from r).elim
  | some _=>rfl
theorem Amh.getD {o:Option V}{u:Option aE}{d:V}{d':aE}(r:Amh o u)(rd:RelV d d'):RelV (o.getD d) (u.getD d'):=by
 cases o with
 | none=>cases u with
  | none=>exact rd
  | some _=>exact(show False from r).elim
 | some _=>cases u with
  | none=>exact(show False from r).elim
  | some _=>exact r
theorem KV.val {kvs:List (κ×V)}{vs:List (κ×aE)}(r:KV kvs vs)(k:κ):Amh (eO kvs k) (pO vs k):=by
 unfold KV at r
 induction r with
 | nil=>exact iY
 | @cons p q ps qs h t ih=>
  obtain⟨h1,h2⟩:=h
  by_cases e:p.1=k
  ·have e':q.1=k:=h1.symm.trans e
   have b:pO (q::qs) k=some q.2:=by simp[pO,iJ,e']
   rw[qW e,b]; exact h2
  ·have e' : ¬ q.1=k:=fun z=>e (h1.trans z)
   have b:pO (q::qs) k=pO qs k:=by simp[pO,iJ,e']
   rw[oY e,b]; exact ih
theorem KV.any {kvs:List (κ×V)}{vs:List (κ×aE)}(r:KV kvs vs)(k:κ):(kvs.any fun kv=>decide (kv.1=k))=vs.any fun kv=>decide (kv.1=k):=by
 unfold KV at r
 induction r with
 | nil=>rfl
 | cons h t ih=>rw[vG,vG,ih,h.1]
theorem KV.repl {kvs:List (κ×V)}{vs:List (κ×aE)}(r:KV kvs vs)(k:κ){y:V}{u:aE}(ry:RelV y u) :
  KV (kvs.map fun kv=>if kv.1=k then(kv.1,y) else kv) (vs.map fun kv=>if kv.1=k then(kv.1,u) else kv):=by
 unfold KV at r ⊢
 induction r with
 | nil=>exact .nil
 | @cons p q ps qs h t ih=>
  rw[dR,dR]
  refine .cons ?_ ih
  obtain⟨h1,h2⟩:=h
  by_cases e:p.1=k
  ·rw[if_pos e,if_pos (h1.symm.trans e)]; exact⟨h1,ry⟩
  ·rw[if_neg e,if_neg (fun z=>e (h1.trans z))]; exact⟨h1,h2⟩
theorem KV.put {kvs:List (κ×V)}{vs:List (κ×aE)}(r:KV kvs vs)(k:κ){y:V}{u:aE}(ry:RelV y u):KV (putK kvs k y) (nX vs k u):=by
 unfold putK nX
 rw[r.any k]
 by_cases e:(vs.any fun kv=>decide (kv.1=k))=true
 ·rw[if_pos e,if_pos e]; exact r.repl k ry
 ·rw[if_neg e,if_neg e]; exact Paired.snoc r ⟨rfl,ry⟩
theorem KV.length {kvs:List (κ×V)}{vs:List (κ×aE)}(r:KV kvs vs):kvs.length=vs.length:=nB r
end
theorem kV_is {P:bA}{w:aX}{k:aM}{u:aE}(r:RelV (kV k) u):(cV P w).is k u=true:=by
 cases k with
 | inl i=>obtain⟨t,e⟩:=(show ∃ t,u=uU i t from r); subst e; exact xP P w i t
 | inr x=>obtain⟨t,e⟩:=(show ∃ t,u=uT x t from r); subst e; exact xO P w x t
abbrev KT (H:Hp):List (List aA×V)->List (List aA×aB×aE)->Prop:=cZ fun p q=>p.1=q.1/\Ait H p.1 q.2.1/\RelV p.2 q.2.2
theorem KT.val {H:Hp}{kvs:List (List aA×V)}{xs:List (List aA×aB×aE)}(r:KT H kvs xs)(k:List aA):Amh (eO kvs k) ((atKey xs k).map (·.2)):=by
 induction r with
 | nil=>exact iY
 | @cons p q ps qs h t ih=>
  obtain⟨h1,_,h2⟩:=h
  by_cases e:p.1=k
  ·have e':q.1=k:=h1.symm.trans e
   have b:atKey (q::qs) k=some q.2:=by simp[atKey,iJ,e']
   rw[qW e,b]; exact h2
  ·have e' : ¬ q.1=k:=fun z=>e (h1.trans z)
   have b:atKey (q::qs) k=atKey qs k:=by simp[atKey,iJ,e']
   rw[oY e,b]; exact ih
theorem KT.repl {H:Hp}{kvs:List (List aA×V)}{xs:List (List aA×aB×aE)}(r:KT H kvs xs)(k:List aA){y:V}{u:aE}(ry:RelV y u) :
  KT H (kvs.map fun kv=>if kv.1=k then(kv.1,y) else kv) (xs.map (putAt k u)):=by
 induction r with
 | nil=>exact .nil
 | @cons p q ps qs h t ih=>
  rw[dR,dR]
  refine .cons ?_ ih
  obtain⟨h1,h2,h3⟩:=h
  unfold putAt
  by_cases e:p.1=k
  ·rw[if_pos e,if_pos (h1.symm.trans e)]; exact⟨h1,h2,ry⟩
  ·rw[if_neg e,if_neg (fun z=>e (h1.trans z))]; exact⟨h1,h2,h3⟩
theorem KT.put {H:Hp}{kvs:List (List aA×V)}{xs:List (List aA×aB×aE)}(r:KT H kvs xs)(k:List aA){b:aB}{y:V}{u:aE}(hb:Ait H k b)(ry:RelV y u) :
  KT H (putK kvs k y) (storedH xs k b u):=by
 have e:(kvs.any fun kv=>decide (kv.1=k))=(atKey xs k).isSome:=by
  rw[tQ,(r.val k).isSome_eq,EB]
 unfold putK storedH
 rw[e]
 by_cases q:(atKey xs k).isSome=true
 ·rw[if_pos q,if_pos q]; exact r.repl k ry
 ·rw[if_neg q,if_neg q]; exact Paired.snoc r ⟨rfl,hb,ry⟩
theorem KT.keeps {H H':Hp}{kvs:List (List aA×V)}{xs:List (List aA×aB×aE)}(r:KT H kvs xs)(ht : ∀ b ys,H b=some (.tup ys)->H' b=some (.tup ys)):KT H' kvs xs:=
 Paired.mapP r fun _ _ z=>⟨z.1,z.2.1.keep ht,z.2.2⟩
section
variable {P:bA}{w:aX}{H:Hp}{h:aR}{a:aB}
theorem rd_of {u:HO}(ok:HOk P w H h)(e:Rd H a u):Ace P w H h a u:=e.ok ok
theorem mO {ep:Nat}{kvs:List (aM×V)}(ok:HOk P w H h)(e:Rd H a (.dK ep kvs)):kvs.length≤sizeLine/\(a == gK)=false /\ ∃ vs,KV kvs vs/\h.DictAt (cV P w) a vs ep:=
 show Ace P w H h a (.dK ep kvs) from rd_of ok e
theorem dk_rd {ep:Nat}{kvs:List (aM×V)}(ok:HOk P w H h)(e:Rd H a (.dK ep kvs)):kvs.length≤sizeLine/\(a == gK)=false /\ ∃ vs,KV kvs vs/\h.DictOf (cV P w) a vs:=
 let ⟨z,y,vs,r,d⟩:=mO ok e; ⟨z,y,vs,r,d.dictOf⟩
theorem dk_of {ep:Nat}{kvs:List (aM×V)}(ok:HOk P w H h)(e:H a=some (.dK ep kvs)):kvs.length≤sizeLine/\(a == gK)=false /\ ∃ vs,KV kvs vs/\h.DictOf (cV P w) a vs:=dk_rd ok (.inl e)
theorem uL {P:bA}{w:aX}{A:bQ}(hu:A.units+40<cLine):(lO P w).room A.in1:=by
 show A.in1.units+20<cLine
 have:A.in1.units=A.units+1:=rfl
 omega
mutual
theorem BA (ok:HOk P w H h) : ∀ (d:aA) {v:V} {u:aE},Agn H d v->RelV v u -> ∃ as,mB h u d as
 | .int i,v,u,k,r=>by
  have e:v = .int i:=by simpa [Agn] using k
  subst e
  obtain⟨t,rfl⟩:=r
  exact⟨_,.int i t⟩
 | .str x,v,u,k,r=>by
  have e:v = .str x:=by simpa [Agn] using k
  subst e
  obtain⟨t,rfl⟩:=r
  exact⟨_,.str x t⟩
 | .tuple ds,v,u,k,r=>by
  simp only[Agn] at k
  obtain⟨a,xs,rfl,e,ks⟩:=k
  cases r
  obtain⟨_,its,rv,⟨o,h1,h2,n,h3⟩,_⟩:=(show Ace P w H h a (.tup xs) from ok a _ e)
  obtain⟨as,ra⟩:=AO ok ds ks rv
  exact⟨as,.tuple h1 h2 h3 (by simpa using ra)⟩
 | .none,v,u,k,r=>by simp[Agn] at k
 | .bool _,v,u,k,r=>by simp[Agn] at k
 | .list _,v,u,k,r=>by simp[Agn] at k
 | .dict _,v,u,k,r=>by simp[Agn] at k
theorem AO (ok:HOk P w H h) : ∀ (ds:List aA) {vs:List V} {us:List aE},Ad4 H ds vs->Vals vs us -> ∃ as,lZ h us ds as
 | [],vs,us,k,r=>by
  have e:vs=[]:=by simpa [Ad4] using k
  subst e
  cases r
  exact⟨_,.nil⟩
 | d::ds,vs,us,k,r=>by
  simp only[Ad4] at k
  obtain⟨x,rr,rfl,k1,k2⟩:=k
  cases r with
  | cons r1 r2=>
   obtain⟨as,ra⟩:=BA ok d k1 r1
   obtain⟨bs,rb⟩:=AO ok ds k2 r2
   exact⟨_,.cons ra rb⟩
end
theorem oP {ks:List aA}(ok:HOk P w H h)(e:Ait H ks a):(lO P w).is h ks a:=by
 obtain⟨k1,k2,xs,e,ks'⟩:=e
 refine⟨k1,k2,?_⟩
 exact BA ok (.tuple ks) (v:=.ref a) (u:=.ref a) (by simp only[Agn]; exact⟨a,xs,rfl,e,ks'⟩) rfl
theorem dt_rd {kvs:List (List aA×V)}(ok:HOk P w H h)(e : ∃ ep,Rd H a (.dT ep kvs)):kvs.length≤sizeLine/\(a == gK)=false /\
  ∃ xs,KT H kvs xs/\h.DictOfH (lO P w) a xs:=by
 obtain⟨ep,e⟩:=e
 obtain⟨z,y,xs,r,o,es,h1,h2,h3,h4,h5⟩:=(show Ace P w H h a (.dT ep kvs) from rd_of ok e)
 refine⟨z,y,xs,r,o,es,ep,h1,h2,h3,h4,fun x hx=>?_,h5⟩
 have all : ∀ {l:List (List aA×V)} {m:List (List aA×aB×aE)},KT H l m -> ∀ x∈m,(lO P w).is h x.1 x.2.1:=by
  intro l m q
  induction q with
  | nil=>intro x hx; exact nomatch hx
  | @cons p q ps qs hq t ih=>
   intro x hx
   rcases cN.mp hx with e | hx
   ·subst e
    exact oP ok (by rw[← hq.1]; exact hq.2.1)
   ·exact ih x hx
 exact all r x hx
theorem dt_of {ep:Nat}{kvs:List (List aA×V)}(ok:HOk P w H h)(e:H a=some (.dT ep kvs)):kvs.length≤sizeLine/\(a == gK)=false /\
  ∃ xs,KT H kvs xs/\h.DictOfH (lO P w) a xs:=dt_rd ok ⟨ep,.inl e⟩
end
def DGet (H:Hp)(a:aB)(y:V)(r:Option V):Prop:=
 (∃ ep kvs k,Rd H a (.dK ep kvs)/\y=kV k/\r=eO kvs k) \/ ∃ kvs k b,(∃ ep,Rd H a (.dT ep kvs))/\y = .ref b/\Ait H k b/\r=eO kvs k
def DPut (H:Hp)(a:aB)(y v:V)(H':Nat->Hp):Prop:=
 (∃ ep kvs k,H a=some (.dK ep kvs)/\y=kV k/\kvs.length<sizeLine/\H'=fun n=>upd H a (.dK n (putK kvs k v))) \/
 ∃ kvs k b,(∃ ep,H a=some (.dT ep kvs))/\y = .ref b/\Ait H k b/\kvs.length<sizeLine/\H'=fun n=>upd H a (.dT n (putK kvs k v))
theorem DGet.k {H:Hp}{a:aB}{ep:Nat}{kvs:List (aM×V)}{k:aM}(e:H a=some (.dK ep kvs)):DGet H a (kV k) (eO kvs k):=.inl ⟨ep,kvs,k,.inl e,rfl,rfl⟩
theorem DGet.t {H:Hp}{a b:aB}{ep:Nat}{kvs:List (List aA×V)}{k:List aA}(e:H a=some (.dT ep kvs))(eb:Ait H k b):DGet H a (.ref b) (eO kvs k):=.inr ⟨kvs,k,b,⟨ep,.inl e⟩,rfl,eb,rfl⟩
theorem DPut.k {H:Hp}{a:aB}{ep:Nat}{kvs:List (aM×V)}{k:aM}{v:V}(e:H a=some (.dK ep kvs))(hl:kvs.length<sizeLine):DPut H a (kV k) v (fun n=>upd H a (.dK n (putK kvs k v))):=.inl ⟨ep,kvs,k,e,rfl,hl,rfl⟩
theorem DPut.t {H:Hp}{a b:aB}{ep:Nat}{kvs:List (List aA×V)}{k:List aA}{v:V}(e:H a=some (.dT ep kvs))(eb:Ait H k b)(hl:kvs.length<sizeLine) :
  DPut H a (.ref b) v (fun n=>upd H a (.dT n (putK kvs k v))):=.inr ⟨kvs,k,b,⟨ep,e⟩,rfl,eb,hl,rfl⟩
section
variable {X:Cx}{pins:List (aB×aT)}{σ:St}{H:Hp}{s:aG}{a:aB}{y v:V}{u r:aE}{o:Option V}{A:bQ}{E:aE->aG->Prop}
theorem Inv.big (I:Inv X pins σ H s):gK<s.heap.objs.size:=by
 have h:bR<s.heap.objs.size:=(I.mod.glob.keeps I.bk).lt
 exact sI (by decide) h
theorem d_getItem {Q:aE->aG->Prop}(hu:A.units+40<cLine)(I:Inv X pins σ H s)(g:DGet H a y (some v))(ry:RelV y u)(h : ∀ w' s',Inv X pins σ H s'->RelV v w'->Q w' s') :
  aO (aP X.prog X.w) A (getItem (.ref a) u) Q E s:=by
 rcases g with⟨ep,kvs,k,e,ey,l⟩ | ⟨kvs,k,b,e,ey,eb,l⟩
 ·subst ey
  obtain⟨z,hd,vs,rel,dd⟩:=dk_rd I.hok e
  obtain⟨w',hw,rw'⟩:=Amh.some_of (v:=v) (o:=pO vs k) (by rw[l]; exact rel.val k)
  exact wpAny_getItem_of (kV_is ry) dd.mapOf hw (h w' _ (I.tok _) rw')
 ·subst ey
  cases(show u=dB b from ry)
  obtain⟨z,hd,xs,rel,dd⟩:=dt_rd I.hok e
  obtain⟨w',hw,rw'⟩:=Amh.some_of (v:=v) (o:=(atKey xs k).map (·.2)) (by rw[l]; exact rel.val k)
  obtain⟨p,hp,hp2⟩:=mD.mp hw
  refine wpAny_getItem_heap (uL hu) (oP I.hok eb) dd hp ?_
  rw[hp2]
  exact h w' _ (I.tok _) rw'
theorem d_in {Q:aE->aG->Prop}(hu:A.units+40<cLine)(I:Inv X pins σ H s)(g:DGet H a y o)(ry:RelV y u)(h : ∀ s',Inv X pins σ H s'->Q (.bool o.isSome) s') :
  aO (aP X.prog X.w) A (eJ .In u (.ref a)) Q E s:=by
 rcases g with⟨ep,kvs,k,e,ey,l⟩ | ⟨kvs,k,b,e,ey,eb,l⟩
 ·subst ey
  obtain⟨z,hd,vs,rel,dd⟩:=dk_rd I.hok e
  refine wpAny_in_of (kV_is ry) hd dd.mapOf ?_
  rw[← (rel.val k).isSome_eq,← l]
  exact h _ (I.tok _)
 ·subst ey
  cases(show u=dB b from ry)
  obtain⟨z,hd,xs,rel,dd⟩:=dt_rd I.hok e
  refine wpAny_in_heap (uL hu) (oP I.hok eb) hd dd ?_
  have q:=(rel.val k).isSome_eq
  rw[EB] at q
  rw[← q,← l]
  exact h _ (I.tok _)
theorem d_notIn {Q:aE->aG->Prop}(hu:A.units+40<cLine)(I:Inv X pins σ H s)(g:DGet H a y o)(ry:RelV y u)(h : ∀ s',Inv X pins σ H s'->Q (.bool (!o.isSome)) s') :
  aO (aP X.prog X.w) A (eJ .NotIn u (.ref a)) Q E s:=by
 rcases g with⟨ep,kvs,k,e,ey,l⟩ | ⟨kvs,k,b,e,ey,eb,l⟩
 ·subst ey
  obtain⟨z,hd,vs,rel,dd⟩:=dk_rd I.hok e
  refine wpAny_notIn_of (kV_is ry) hd dd.mapOf ?_
  rw[← (rel.val k).isSome_eq,← l]
  exact h _ (I.tok _)
 ·subst ey
  cases(show u=dB b from ry)
  obtain⟨z,hd,xs,rel,dd⟩:=dt_rd I.hok e
  refine wpAny_notIn_heap (uL hu) (oP I.hok eb) hd dd ?_
  have q:=(rel.val k).isSome_eq
  rw[EB] at q
  rw[← q,← l]
  exact h _ (I.tok _)
theorem tO {h':aR}{t':Nat}{ob:HO}(I:Inv X pins σ H s)(mu:qB (H a))(hs:vI a s.heap h')(he : ∃ q,h'.get? a=some q)(new:Ace X.prog X.w (upd H a ob) h' a ob) :
  Inv X pins σ (upd H a ob) { s with heap:=h',toks:=t' }:=
 I.write (x:=a) (e:=a) mu (.inl rfl) (fun b q hb z=>(hs.2 b hb).trans z) he new
theorem dk_new {P:bA}{w:aX}{H':Hp}{h':aR}{kvs:List (aM×V)}{vs:List (aM×aE)}(z:kvs.length≤sizeLine)(hd:(a == gK)=false)(rel:KV kvs vs){ep:Nat}(dd:h'.DictAt (cV P w) a vs ep) :
  Ace P w H' h' a (.dK ep kvs):=⟨z,hd,vs,rel,dd⟩
theorem d_setItem {H':Nat->Hp}{Q:Unit->aG->Prop}(hu:A.units+40<cLine)(I:Inv X pins σ H s)(g:DPut H a y v H')(ry:RelV y u)(rv:RelV v r)(h : ∀ n s',Inv X pins σ (H' n) s'->Q () s') :
  aO (aP X.prog X.w) A (setItem (.ref a) u r) Q E s:=by
 rcases g with⟨ep,kvs,k,e,ey,l,eH⟩ | ⟨kvs,k,b,e,ey,eb,l,eH⟩
 ·subst ey eH
  obtain⟨z,hd,vs,rel,dd⟩:=dk_of I.hok e
  have hz:vs.length≤sizeLine:=by rw[← rel.length]; exact z
  have hl:(putK kvs k v).length≤sizeLine:=by have:=xK kvs k v; omega
  refine wpAny_setItem_pairs (hsz:=hz) (kV_is ry) dd fun h' dd' hs=>?_
  have he : ∃ q,h'.get? a=some q:=let ⟨q,_,_,hq,_⟩:=dd'; ⟨q,hq⟩
  obtain⟨n,da⟩:=dd'.dictAt
  exact h n _ (tO I (by rw[e]; exact iY) hs he (dk_new hl hd (rel.put k rv) da))
 ·subst ey eH
  cases(show u=dB b from ry)
  obtain⟨ep0,e⟩:=e
  obtain⟨z,hd,xs,rel,dd⟩:=dt_of I.hok e
  have hz:xs.length≤sizeLine:=by rw[← nB rel]; exact z
  have hl:(putK kvs k v).length≤sizeLine:=by have:=xK kvs k v; omega
  refine wpAny_setItem_heap (hsz:=hz) (uL hu) (oP I.hok eb) dd fun h' dd' hs=>?_
  obtain⟨q,es,ep,hq,h2,h3,h4,_,h5⟩:=dd'
  refine h ep _ ?_
  refine tO I (by rw[e]; exact iY) hs ⟨q,hq⟩ ⟨hl,hd,_,(rel.put k eb rv).keeps fun c ys ec=>?_,q,es,hq,h2,h3,h4,h5⟩
  rw[bH (ne_of ec e (fun z=>nomatch z))]
  exact ec
end
section
variable {X:Cx}{pins:List (aB×aT)}{σ:St}{H:Hp}{s:aG}{a:aB}{kvs:List (aM×V)}{k:aM}{u:aE}{A:bQ}{E:aE->aG->Prop}
theorem d_len {ep:Nat}{Q:aE->aG->Prop}(I:Inv X pins σ H s)(e:Rd H a (.dK ep kvs))(h : ∀ t s',Inv X pins σ H s'->Q (.int kvs.length t) s'):aO (aP X.prog X.w) A (call (.builtin "len") [.ref a]) Q E s:=by
 obtain⟨z,hd,vs,rel,dd⟩:=dk_rd I.hok e
 refine call_len_dict hd dd (by rw[← rel.length]; rw[mY] at z; omega) ?_
 rw[← rel.length]
 exact h _ _ (I.tok _)
end
def NoSl (i:aS):Prop:=∀ ov iv,yH i false ov iv=operate [ov,iv] (getItem ov iv)
theorem subD_of {prog:bA}{w:aX}{A:bQ}{E:aE->aG->Prop}{s:aG}{env:dI}{value slice:aS}{pos:bG}{T id:String}{Q:aE->aG->Prop}
  (hl:pP (.type T) "__getitem__" = pure (some (.builtin id))) (hs:NoSl slice)
  (h:aO (aP prog w) A (bC value env) (fun o s₁=>aO (aP prog w) A (bC slice env) (fun i s₂=>s₂.TypeIs o T/\aO (aP prog w) A (getItem o i) Q E s₂) E s₁) E s) :
  aO (aP prog w) A (bC (.Subscript value slice pos) env) Q E s:=by
 refine Subscript_ (gY h (fun o s₁ h₁=>gY h₁ (fun i s₂ h₂=>?_) fun _ _ x=>x) fun _ _ x=>x)
 obtain⟨hT,h₂⟩:=h₂
 unfold subscriptTail
 refine aL ?_
 rw[getitemInPython_of_ne hT.not_modules]
 refine aL (rV hT hl ?_)
 have fin:aO (aP prog w) A (yH slice false o i) (fun r s₃=>aO (aP prog w) A (letTemporaryGo value o r >>= fun _=>pure r) Q E s₃) E s₂:=by
  rw[hs o i]
  exact wpAny_operating (gY h₂ (fun r s₃ h₃=>aL (wpAny_letTemporaryGo (bB h₃))) fun _ _ x=>x)
 first
  | exact bB (aL fin)
  | exact aL (bB (aL fin))
  | exact aL fin
theorem dict_typeIs {X:Cx}{pins:List (aB×aT)}{σ:St}{H:Hp}{s:aG}{a:aB}{y:V}{o:Option V}(I:Inv X pins σ H s)(g:DGet H a y o):s.TypeIs (.ref a) "dict":=by
 rcases g with⟨ep,kvs,k,e,_,_⟩ | ⟨kvs,k,b,e,_,_,_⟩
 ·obtain⟨_,_,vs,_,dd⟩:=dk_rd I.hok e
  exact dd.typeIs
 ·obtain⟨_,_,xs,_,dd⟩:=dt_rd I.hok e
  exact dd.typeIs
noncomputable def tDGet (td ty:TE):TE:=fun σ H Q=>td σ H fun x H1=>ty σ H1 fun y H2=>∃ a v,x = .ref a/\DGet H2 a y (some v)/\Q v H2
noncomputable def sDPut (td ty tv:TE):TS:=fun D σ H=>tv σ H fun v H1=>td σ H1 fun x H2=>ty σ H2 fun y H3=>∃ a H4,x = .ref a/\DPut H3 a y v H4 /\ ∀ n,D.nx σ (H4 n)
section
variable {X:Cx}{o i e value:aS}{pos pos' tpos:bG}{td ty tv:TE}
theorem pe_dget (hu:X.A.units+40<cLine)(ho:PE X o td)(hi:PE X i ty)(hs:NoSl i):PE X (.Subscript o i pos) (tDGet td ty):=by
 intro pins s σ H Q I h
 refine subD_of PySem.F.slot_dict_getitem.lookup hs (thn (ho pins s σ H _ I h) fun u s1 ⟨x,H1,I1,rx,q1⟩=>thn (hi pins s1 σ H1 _ I1 q1) fun iv s2 gh=>?_)
 obtain⟨y,H2,I2,ry,a,v,ex,g,q2⟩:=gh
 subst ex
 obtain rfl:u=dB a:=rx
 exact⟨dict_typeIs I2 g,d_getItem hu I2 g ry fun w' s3 I3 rw'=>⟨v,H2,I3,rw',q2⟩⟩
theorem ps_dput (hu:X.A.units+40<cLine)(ho:PE X o td)(hi:PE X i ty)(hv:PE X value tv)(hs:iW value (some (.Subscript o i pos')) pos.line X.env=pure false) :
  PS X (.Assign [.Subscript o i pos'] value pos) (sDPut td ty tv):=by
 intro pins s σ H D I h
 refine wpAny_Assign_Subscript (thn (hv pins s σ H _ I h) fun r s1 ⟨v,H1,I1,rv,q1⟩=>thn (ho pins s1 σ H1 _ I1 q1) fun u s2 ⟨x,H2,I2,rx,q2⟩=>thn (hi pins s2 σ H2 _ I2 q2) fun iv s3 ⟨y,H3,I3,ry,a,H4,ex,g,q3⟩=>?_) hs
 subst ex
 obtain rfl:u=dB a:=rx
 exact d_setItem hu I3 g ry rv fun n s4 I4=>⟨σ,H4 n,I4,q3 n⟩
end
theorem dk_empty {P:bA}{w:aX}{H:Hp}(h:aR)(hb:gK<h.objs.size):Ace P w H (h.push { cls:=.type "dict",data:=.dict #[] }) h.objs.size (.dK 0 []):=
 ⟨eE _,beq_eq_false_iff_ne.mpr (gU (cK hb)),[],.nil,_,#[],dU _ rfl,⟨rfl,rfl,rfl⟩,rfl,fun _ he=>by simp at he,Pairs.nil,EK⟩
theorem dt_empty {P:bA}{w:aX}{H:Hp}(h:aR)(hb:gK<h.objs.size):Ace P w H (h.push { cls:=.type "dict",data:=.dict #[] }) h.objs.size (.dT 0 []):=
 ⟨eE _,beq_eq_false_iff_ne.mpr (gU (cK hb)),[],.nil,_,#[],dU _ rfl,⟨rfl,rfl,rfl⟩,rfl,rfl,EK⟩
noncomputable def tDNewK:TE:=fun _ H Q=>∀ p,H p=none->Q (.ref p) (upd H p (.dK 0 []))
noncomputable def tDNewT:TE:=fun _ H Q=>∀ p,H p=none->Q (.ref p) (upd H p (.dT 0 []))
section
variable {X:Cx}{pos:bG}
theorem vZ:PE X (.Dict [] [] pos) tDNewK:=fun pins s σ H Q I h=>
 wpAny_Dict_empty ⟨.ref s.heap.objs.size,_,I.laid (a:=s.heap.objs.size) (o:=.dK 0 []) (t':=s.toks) (fun _ _ q=>cF _ q) (bM _) (dk_empty s.heap I.big),rfl,h _ (I.hok.fresh (bM _))⟩
theorem pe_dnewT:PE X (.Dict [] [] pos) tDNewT:=fun pins s σ H Q I h=>
 wpAny_Dict_empty ⟨.ref s.heap.objs.size,_,I.laid (a:=s.heap.objs.size) (o:=.dT 0 []) (t':=s.toks) (fun _ _ q=>cF _ q) (bM _) (dt_empty s.heap I.big),rfl,h _ (I.hok.fresh (bM _))⟩
end
def tPairs:List (TE×TE)->St->Hp->(List (V×V)->Hp->Prop)->Prop
 | [],_,H,Q=>Q [] H
 | (tk,tv)::r,σ,H,Q=>tk σ H fun x H1=>tv σ H1 fun y H2=>tPairs r σ H2 fun ps H3=>Q ((x,y)::ps) H3
abbrev VV:List (V×V)->List (aE×aE)->Prop:=cZ fun p q=>RelV p.1 q.1/\RelV p.2 q.2
def PPs (X:Cx)(pos:bG)(keys:List (Option aS))(values:List aS)(trs:List (TE×TE)):Prop:=
 ∀ (pins:List (aB×aT)) (s:aG) (σ:St) (H:Hp) (Q:List (V×V)->Hp->Prop),Inv X pins σ H s->tPairs trs σ H Q ->
  aO (aP X.prog X.w) X.A (evalPairs (pairTrees keys values X.env pos)) (fun vs s'=>∃ ps H',Inv X pins σ H' s'/\VV ps vs/\Q ps H') X.xe s
theorem pps_nil {X:Cx}{pos:bG}:PPs X pos [] [] []:=fun pins s σ H Q I h=>pairTrees_nil_walk ⟨[],H,I,.nil,h⟩
theorem pps_cons {X:Cx}{pos:bG}{k v:aS}{ks:List (Option aS)}{vs:List aS}{tk tv:TE}{trs:List (TE×TE)}(hk:PE X k tk)(hv:PE X v tv)(hr:PPs X pos ks vs trs) :
  PPs X pos (some k::ks) (v::vs) ((tk,tv)::trs):=fun pins s σ H Q I h=>
 pairTrees_cons_walk (thn (hk pins s σ H _ I h) fun u s1 ⟨x,H1,I1,rx,q1⟩=>thn (hv pins s1 σ H1 _ I1 q1) fun w2 s2 ⟨y,H2,I2,ry,q2⟩=>
  thn (hr pins s2 σ H2 _ I2 q2) fun ws s3 ⟨ps,H3,I3,rel,q3⟩=>⟨(x,y)::ps,H3,I3,.cons ⟨rx,ry⟩ rel,q3⟩)
noncomputable def mU (kvs more:List (aM×V)):List (aM×V):=more.foldl (fun acc kv=>putK acc kv.1 kv.2) kvs
theorem KV.merge : ∀ {more:List (aM×V)} {rs:List (aM×aE)} {kvs:List (aM×V)} {vs:List (aM×aE)},KV more rs->KV kvs vs->KV (mU kvs more) (kL vs rs):=by
 intro more rs kvs vs r
 unfold KV at r
 induction r generalizing kvs vs with
 | nil=>intro q; exact q
 | @cons p q ps qs h t ih=>
  intro r0
  have e:KV (putK kvs p.1 p.2) (nX vs q.1 q.2):=by
   have:=r0.put p.1 h.2
   rw[← h.1]; exact this
  exact ih e
theorem CP : ∀ (more kvs:List (aM×V)),(mU kvs more).length≤kvs.length+more.length
 | [],kvs=>by show kvs.length≤kvs.length+0; omega
 | p::r,kvs=>by
  have h1:=CP r (putK kvs p.1 p.2)
  have h2:=xK kvs p.1 p.2
  show(mU (putK kvs p.1 p.2) r).length≤_
  rw[eN]; omega
theorem BS {P:bA}{w:aX} : ∀ {kvs:List (aM×V)} {ws:List (aE×aE)},VV (kvs.map fun kv=>(kV kv.1,kv.2)) ws -> ∃ rs,Carries (cV P w) ws rs/\KV kvs rs
 | [],_,r=>by rw[List.map_nil] at r; cases r; exact⟨[],iY,.nil⟩
 | p::kvs,_,r=>by
  rw[dR] at r
  cases r with
  | @cons a b as bs h t=>
   obtain⟨rs,c,q⟩:=BS (P:=P) (w:=w) t
   obtain⟨b1,b2⟩:=b
   exact⟨(p.1,b2)::rs,⟨kV_is h.1,rfl,c⟩,.cons ⟨rfl,h.2⟩ q⟩
end L2
namespace HT
open PySem PyProof.Rows
section
variable {prog:bA}{w:aX}{A:bQ}{E:aE->aG->Prop}{s:aG}
theorem cat_tup {t b:aB}{vs ws:List aE}{Q:aE->aG->Prop}(ht:IsTup s.heap t vs.toArray)(hb:IsTup s.heap b ws.toArray)(hv:vs≠[])
  (h1:ws=[]->Q (.ref t) s) (h2:ws≠[]->Q (.ref s.heap.objs.size) { s with heap:=s.heap.push { cls:=.type "tuple",data:=.seq (vs++ws).toArray } })
  (hsz:vs.length+ws.length≤sizeLine):aO (aP prog w) A (jO .Add (.ref t) (.ref b)) Q E s:=by
 obtain⟨⟨cls,dd,data,sl⟩,ho,hc,n,hd⟩:=id ht
 obtain⟨⟨cls2,dd2,data2,sl2⟩,ho2,hc2,n2,hd2⟩:=id hb
 simp only at hc hd hc2 hd2
 subst hc hd hc2 hd2
 have e:vs.toArray++ws.toArray=(vs++ws).toArray:=by simp
 by_cases hw:ws=[]
 ·exact concat_meets ⟨_,ho,rfl⟩ ⟨_,ho2,rfl⟩ noFill_tuple_add seq_tuple_add PySem.F.slot_tuple_add HJ (HK _ _)
   (tuple_addW1 t b vs.toArray ws.toArray n n2 dd dd2 sl sl2 (by simpa using hv) (by simp[hw])) ⟨ho,ho2,h1 hw⟩
 ·refine concat_meets ⟨_,ho,rfl⟩ ⟨_,ho2,rfl⟩ noFill_tuple_add seq_tuple_add PySem.F.slot_tuple_add HJ (HK _ _)
   (tuple_addW2 t b vs.toArray ws.toArray n n2 dd dd2 sl sl2 (by simpa using hv) (by simpa using hw) (by rw[dP,dP]; exact hsz)) ⟨ho,ho2,?_⟩
  rw[e]
  exact h2 hw
noncomputable def sIx (n d:Nat):Option Int->Nat
 | none=>d
 | some v=>if v<0 then(v+(n:Int)).toNat else min v.toNat n
theorem Aly (n d:Nat):sIx n d none=d:=rfl
theorem sIx_nat (n d k:Nat):sIx n d (some (k:Int))=min k n:=by
 show(if (k:Int)<0 then((k:Int)+(n:Int)).toNat else min (k:Int).toNat n)=min k n
 rw[if_neg (by omega),zC]
end
end HT
namespace L2
open PySem PySem.Spec PyProof.Rows
abbrev TO:=St->Hp->(Option Int->Hp->Prop)->Prop
def PO (X:Cx)(e:Option aS)(t:TO):Prop:=
 ∀ (pins:List (aB×aT)) (s:aG) (σ:St) (H:Hp) (Q:Option Int->Hp->Prop),Inv X pins σ H s->t σ H Q ->
  aO (aP X.prog X.w) X.A (evalPart e X.env) (fun u s'=>∃ o H',Inv X pins σ H' s'/\IsPart u o/\Q o H') X.xe s
noncomputable def tNoPart:TO:=fun _ H Q=>Q none H
noncomputable def tPart (t:TE):TO:=fun σ H Q=>t σ H fun x H1=>∃ i,x = .int i/\Q (some i) H1
section
variable {X:Cx}{e:aS}{te:TE}{lo hi:Option aS}{tl th:TO}{pos p2:bG}
theorem po_none:PO X none tNoPart:=by
 intro pins s σ H Q I h
 rw[evalPart_none]
 exact bB ⟨none,H,I,.none,h⟩
theorem po_some (h:PE X e te):PO X (some e) (tPart te):=by
 intro pins s σ H Q I hw
 rw[evalPart_some]
 refine thn (h pins s σ H _ I hw) fun u s1 gh=>?_
 obtain⟨x,H1,I1,r1,q1⟩:=gh
 obtain⟨i,rfl,q⟩:=q1
 obtain⟨t,rfl⟩:=r1
 exact⟨some i,H1,I1,.int i t,q⟩
def SlR (X:Cx)(r:V->Option Int->Option Int->Hp->VK->Prop):Prop:=
 ∀ (pins:List (aB×aT)) (s:aG) (σ:St) (H:Hp) (x:V) (v vl vu:aE) (lo hi:Option Int) (sl:aB) (Q:VK),Inv X pins σ H s->RelV x v->s.heap.IsSliceOf sl vl vu .none->IsPart vl lo->IsPart vu hi->r x lo hi H Q ->
  ∃ T id,pP (.type T) "__getitem__" = pure (some (.builtin id))/\s.TypeIs v T/\aO (aP X.prog X.w) X.A (getItem v (.ref sl)) (EP X pins σ Q) X.xe s
noncomputable def tSl (r:V->Option Int->Option Int->Hp->VK->Prop)(te:TE)(tl th:TO):TE:=fun σ H Q=>te σ H fun x H1=>tl σ H1 fun l H2=>th σ H2 fun u H3=>r x l u H3 Q
theorem pe_slice {r:V->Option Int->Option Int->Hp->VK->Prop}(hr:SlR X r)(he:PE X e te)(hl:PO X lo tl)(hu:PO X hi th):PE X (.Subscript e (.Slice lo hi none p2) pos) (tSl r te tl th):=by
 intro pins s σ H Q I h
 refine Subscript_ (thn (he pins s σ H _ I h) fun v s1 gh=>?_)
 obtain⟨x,H1,I1,r1,q1⟩:=gh
 refine wpAny_Slice (thn (hl pins s1 σ H1 _ I1 q1) fun vl s2 ⟨l,H2,I2,pl,q2⟩=>thn (hu pins s2 σ H2 _ I2 q2) fun vu s3 gh=>?_)
 obtain⟨u,H3,I3,pu,q3⟩:=gh
 rw[evalPart_none]
 refine bB ?_
 have I4:Inv X pins σ H3 { s3 with heap:=s3.heap.push { cls:=.type "slice",data:=.fields #[vl,vu,.none] } }:=I3.kept (t':=s3.toks) fun b ob q=>cF _ q
 obtain⟨T,id,hT,ht,hg⟩:=hr pins { s3 with heap:=s3.heap.push { cls:=.type "slice",data:=.fields #[vl,vu,.none] } } σ H3 x v vl vu l u s3.heap.objs.size Q I4 r1 (Heap.IsSliceOf.new ..) pl pu q3
 show aO (aP X.prog X.w) X.A (subscriptTail e (.Slice lo hi none p2) v (.ref s3.heap.objs.size)) (EP X pins σ Q) X.xe { s3 with heap:=s3.heap.push { cls:=.type "slice",data:=.fields #[vl,vu,.none] } }
 exact tail_any (ops:=[.ref s3.heap.objs.size,v]) ht hT hg (by with_unfolding_all rfl)
noncomputable def cutV (xs:List V)(lo hi:Option Int):List V:=(xs.drop (HT.sIx xs.length 0 lo)).take (HT.sIx xs.length xs.length hi - HT.sIx xs.length 0 lo)
theorem cutV_length (xs:List V)(lo hi:Option Int):(cutV xs lo hi).length≤xs.length:=by
 unfold cutV
 rw[nE,List.length_drop]
 omega
noncomputable def rCatT (K:aI):R2:=fun x y H Q=>∃ a b xs ys,x = .ref a/\y = .ref b/\SqT K H a xs/\SqT K H b ys/\xs≠[]/\xs.length+ys.length≤sizeLine /\
 (ys=[]->Q (.ref a) H)/\(ys≠[] -> ∀ p,H p=none->Q (.ref p) (upd H p (.tup (xs++ys))))
theorem Vals.nil_iff {xs:List V}{us:List aE}(r:Vals xs us):us=[]↔xs=[]:=by
 cases r with
 | nil=>simp
 | cons _ _=>simp
theorem op_catT:OpR X (jO .Add) (rCatT X.K):=by
 intro pins s σ H x y v u Q I rx ry h
 obtain⟨a,b,xs,ys,rfl,rfl,ha,hb,hx,hz,q1,q2⟩:=h
 cases rx
 cases ry
 obtain⟨its,r1,p1,_⟩:=I.tuple ha
 obtain⟨its2,r2,p2,_⟩:=I.tuple hb
 refine HT.cat_tup p1 p2 (fun z=>hx (r1.nil_iff.mp z)) (fun z=>⟨.ref a,H,I,rfl,q1 (r2.nil_iff.mp z)⟩) (fun z=>?_) (by rw[← r1.length,← r2.length]; exact hz)
 refine⟨.ref s.heap.objs.size,_,I.laid (t':=s.toks) (o:=.tup (xs++ys)) (fun b ob q=>cF _ q) (bM _) ?_,rfl,q2 (fun w=>z (r2.nil_iff.mpr w)) _ (I.hok.fresh (bM _))⟩
 exact⟨by rw[sO]; exact hz,_,r1.append r2,TupP.new _ _⟩
end
noncomputable def ixN (n:Nat)(i:Int):Option Nat:=if 0≤i then(if i<n then some i.toNat else none) else if -(n:Int)≤i then some (i+n).toNat else none
noncomputable def atI {α:Type}(xs:List α)(i:Int):Option α:=(ixN xs.length i).bind fun j=>xs[j]?
theorem ixN_seq {n:Nat}{i:Int}{j:Nat}(h:ixN n i=some j):seqIndex? i n=some j/\j<n /\ -(n:Int)≤i/\i<n:=by
 unfold ixN at h
 by_cases h0:0≤i
 ·rw[if_pos h0] at h
  by_cases h1:i<n
  ·rw[if_pos h1] at h
   have e:i.toNat=j:=fA h
   exact⟨by rw[seqIndex_of h0 h1,e],by omega,by omega,h1⟩
  ·rw[if_neg h1] at h; cases h
 ·rw[if_neg h0] at h
  by_cases h1 : -(n:Int)≤i
  ·rw[if_pos h1] at h
   have e:(i+n).toNat=j:=fA h
   exact⟨by rw[seqIndex_neg (by omega) h1,e],by omega,h1,by omega⟩
  ·rw[if_neg h1] at h; cases h
theorem atI_get {α:Type}{xs:List α}{i:Int}{v:α}(h:atI xs i=some v) : ∃ j,seqIndex? i xs.length=some j/\xs[j]?=some v/\j<xs.length /\ -(xs.length:Int)≤i/\i<xs.length:=by
 unfold atI at h
 cases e:ixN xs.length i with
 | none=>rw[e] at h; cases h
 | some j=>
  rw[e] at h
  obtain⟨h1,h2,h3,h4⟩:=ixN_seq e
  exact⟨j,h1,h,h2,h3,h4⟩
theorem nO {α:Type}{xs:List α}{j:Nat}{v:α}(h:xs[j]?=some v):atI xs (j:Int)=some v:=by
 have hj:j<xs.length:=(eK.mp h).1
 have e:ixN xs.length (j:Int)=some j:=by
  unfold ixN
  rw[if_pos (by omega),if_pos (by omega)]; simp
 unfold atI; rw[e]; exact h
def PlainIx (b:aS):Prop:=∀ o i,yH b false o i=operate [o,i] (getItem o i)
def IxR (X:Cx)(r:R2):Prop:=
 ∀ (value slice:aS) (pins:List (aB×aT)) (s:aG) (σ:St) (H:Hp) (x y:V) (v u:aE) (Q:VK),Inv X pins σ H s->RelV x v->RelV y u->r x y H Q ->
  yH slice false v u=operate [v,u] (getItem v u)->aO (aP X.prog X.w) X.A (subscriptTail value slice v u) (EP X pins σ Q) X.xe s
def MtR (X:Cx)(id:String)(r:V->List V->Hp->VK->Prop):Prop:=
 ∀ (pins:List (aB×aT)) (s:aG) (σ:St) (H:Hp) (x:V) (xs:List V) (v:aE) (us:List aE) (Q:VK),Inv X pins σ H s->RelV x v->Vals xs us->r x xs H Q ->
  aO (aP X.prog X.w) X.A (call (.builtin id) (v::us)) (EP X pins σ Q) X.xe s
section
variable {X:Cx}{a b:aS}{ta tb:TE}{pos:bG}
theorem IxR.or {r r':R2}(h:IxR X r)(h':IxR X r'):IxR X (fun x y H Q=>r x y H Q \/ r' x y H Q):=by
 intro value slice pins s σ H x y v u Q I rx ry q hs
 rcases q with q | q
 ·exact h value slice pins s σ H x y v u Q I rx ry q hs
 ·exact h' value slice pins s σ H x y v u Q I rx ry q hs
theorem pe_ix {r:R2}(hr:IxR X r)(ha:PE X a ta)(hb:PE X b tb)(hs:PlainIx b):PE X (.Subscript a b pos) (tOp r ta tb):=by
 intro pins s σ H Q I h
 exact Subscript_ (binT ha hb I h fun v u s2 x y H2 I2 rx ry q=>hr a b pins s2 σ H2 x y v u Q I2 rx ry q (hs _ _))
noncomputable def rIxL (K:aI):R2:=fun x y H Q=>∃ p xs i v,x = .ref p/\y = .int i/\SqL K H p xs/\atI xs i=some v/\Q v H
noncomputable def rIxT (K:aI):R2:=fun x y H Q=>∃ p xs i v,x = .ref p/\y = .int i/\SqT K H p xs/\atI xs i=some v/\Q v H
noncomputable def rIxS:R2:=fun x y H Q=>∃ z i c,x = .str z/\y = .int i/\z.length≤sizeLine/\atI z.cps.toList i=some c/\Q (.str ⟨#[c]⟩) H
theorem ix_list:IxR X (rIxL X.K):=by
 intro value slice pins s σ H x y v u Q I rx ry h hs
 obtain⟨p,xs,i,z,rfl,rfl,hq,he,q⟩:=h
 cases rx
 obtain⟨t,rfl⟩:=ry
 obtain⟨its,r,pl,hz⟩:=I.list hq
 obtain⟨j,h1,h2,h3,h4,h5⟩:=atI_get he
 obtain⟨w,ew,rw'⟩:=r.get h2
 have hl:=r.length
 have hn:=oO
 have fin:EP X pins σ Q w s:=⟨z,H,I,rw',q⟩
 by_cases h0:0≤i
 ·have hj:i.toNat=j:=by
   rw[seqIndex_of h0 h5] at h1
   exact fA h1
  exact item_listR pl.isList h0 (by omega) (by rw[hj]; simpa using ew) fin hs
 ·have hj:(i+(its.toArray.size:Int)).toNat=j:=by
   rw[seqIndex_neg (by omega) h4] at h1
   rw[dP,← hl]
   exact fA h1
  exact subscriptTail_builtinR (x:=w) pl.isList.typeIs slot_list_getitem.lookup
   (wpAny_getItem_list_neg (Q:=fun r s'=>r=w/\EP X pins σ Q r s') pl.isList (by omega) (by rw[dP] <;> omega) (by omega) (by rw[hj]; simpa using ew) ⟨rfl,fin⟩) hs
theorem ix_tup:IxR X (rIxT X.K):=by
 intro value slice pins s σ H x y v u Q I rx ry h hs
 obtain⟨p,xs,i,z,rfl,rfl,hq,he,q⟩:=h
 cases rx
 obtain⟨t,rfl⟩:=ry
 obtain⟨its,r,pl,hz⟩:=I.tuple hq
 obtain⟨j,h1,h2,h3,h4,h5⟩:=atI_get he
 obtain⟨w,ew,rw'⟩:=r.get h2
 have hl:=r.length
 have hn:=oO
 have fin:EP X pins σ Q w s:=⟨z,H,I,rw',q⟩
 exact subscriptTail_builtinR (x:=w) pl.typeIs slot_tuple_getitem.lookup
  (getItem_tuple (j:=j) (Q:=fun r s'=>r=w/\EP X pins σ Q r s') pl (by omega) (by omega) (by rw[dP,← hl]; exact h1) (by simpa using ew) ⟨rfl,fin⟩) hs
theorem ix_str:IxR X rIxS:=by
 intro value slice pins s σ H x y v u Q I rx ry h hs
 obtain⟨z,i,c,rfl,rfl,hz,he,q⟩:=h
 obtain⟨t,rfl⟩:=rx
 obtain⟨t',rfl⟩:=ry
 obtain⟨j,h1,h2,h3,h4,h5⟩:=atI_get he
 have hl:z.cps.toList.length=z.length:=by simp[Str.length]
 rw[hl] at h1 h4 h5
 have hn:=oO
 exact tail_any (typeIs_str s z t) slot_str_getitem.lookup (getItem_str (c:=c) (by
  have e1:decide (i < -(2 ^ 63:Int))=false:=decide_eq_false (by omega)
  have e2:decide (i ≥ 2 ^ 63)=false:=decide_eq_false (by omega)
  rw[e1,e2,FD]) (by rw[h1]; simpa using h2) ⟨.str ⟨#[c]⟩,H,I.tok _,⟨_,rfl⟩,q⟩) hs
noncomputable def rIx (K:aI):R2:=fun x y H Q=>rIxL K x y H Q \/ rIxT K x y H Q \/ rIxS x y H Q
theorem ix_seq:IxR X (rIx X.K):=ix_list.or (ix_tup.or ix_str)
theorem mapSeq_set (its:List aE)(n j:Nat)(u:aE):gE (·.setIfInBounds j u) { cls:=.type "list",data:=.seq its.toArray n } = { cls:=.type "list",data:=.seq (its.set j u).toArray n }:=by
 simp[gE]
theorem Inv.lst {pins:List (aB×aT)}{σ:St}{H:Hp}{s:aG}{p:aB}{xs:List V}(I:Inv X pins σ H s)(h:H p=some (.lst xs)) :
  ∃ (its:List aE) (n:Nat),Vals xs its/\s.heap.get? p=some { cls:=.type "list",data:=.seq its.toArray n }/\xs.length≤sizeLine:=by
 obtain⟨z,its,n,r,e⟩:=I.hok p _ h
 exact⟨its,n,r,e,z⟩
theorem Inv.lstUpd {pins:List (aB×aT)}{σ:St}{H:Hp}{s:aG}{p:aB}{xs ys:List V}{its its':List aE}{n n':Nat}{f:aT->aT}(I:Inv X pins σ H s)(h:H p=some (.lst xs))
  (ho:s.heap.get? p=some { cls:=.type "list",data:=.seq its.toArray n }) (hf:f { cls:=.type "list",data:=.seq its.toArray n } = { cls:=.type "list",data:=.seq its'.toArray n' }) (r:Vals ys its') (hz:ys.length≤sizeLine) (t:Nat) :
  Inv X pins σ (upd H p (.lst ys)) { s with heap:=s.heap.update p f,toks:=t }:=by
 have e:(s.heap.update p f).get? p=some { cls:=.type "list",data:=.seq its'.toArray n' }:=by
  rw[pW f ho (by rw[hf] <;> rfl),hf]
 refine I.write (x:=p) (e:=p) (by rw[h]; trivial) (.inl rfl) (fun b u hb q=>(pX _ _ (gU hb)).trans q) ⟨_,e⟩ ?_
 exact⟨hz,its',n',r,e⟩
def rSetL:V->V->V->Hp->(Hp->Prop)->Prop:=fun o i v H Q=>∃ p xs k j,o = .ref p/\i = .int k/\H p=some (.lst xs)/\ixN xs.length k=some j/\Q (upd H p (.lst (xs.set j v)))
theorem set_list:PSet X rSetL:=by
 intro pins s σ H o i v ov iv u Q I ro ri rv h
 obtain⟨p,xs,k,j,rfl,rfl,hp,hj,q⟩:=h
 cases ro
 obtain⟨t,rfl⟩:=ri
 obtain⟨its,n,r,ho,hz⟩:=I.lst hp
 obtain⟨h1,h2,h3,h4⟩:=ixN_seq hj
 have hl:=r.length
 have hn:=oO
 have I':Inv X pins σ (upd H p (.lst (xs.set j v))) { s with heap:=s.heap.update p (gE (·.setIfInBounds j u)) }:=
  I.lstUpd hp ho (mapSeq_set its n j u) (r.set rv j) (by rw[List.length_set]; exact hz) s.toks
 by_cases h0:0≤k
 ·have hk:k.toNat=j:=by
   rw[seqIndex_of h0 h4] at h1
   exact fA h1
  exact PySem.W.ki_setAt ho h0 (by omega) (by rw[dP,← hl]; exact h4) (by rw[hk]; exact⟨_,I',q⟩)
 ·have hk:(k+(its.toArray.size:Int)).toNat=j:=by
   rw[seqIndex_neg (by omega) h3] at h1
   rw[dP,← hl]
   exact fA h1
  exact PySem.W.ki_setBack ho (by omega) (by rw[dP,← hl]; exact h3) (by omega) (by rw[hk]; exact⟨_,I',q⟩)
theorem FW (lo hi:Option Int)(n:Nat):(pQ lo hi none n).1=((HT.sIx n 0 lo:Nat):Int)/\(pQ lo hi none n).2.1=((HT.sIx n n hi:Nat):Int)/\(pQ lo hi none n).2.2=1:=by
 refine⟨?_,?_,rfl⟩
 ·cases lo with
  | none=>simp[pQ,HT.sIx]
  | some i=>
   simp only[pQ,HT.sIx,Option.getD_none,show(1:Int) > 0 by decide,if_true]
   by_cases h:i<0
   ·simp only[h,if_true] <;> omega
   ·simp only[h,if_false] <;> omega
 ·cases hi with
  | none=>simp[pQ,HT.sIx]
  | some i=>
   simp only[pQ,HT.sIx,Option.getD_none,show(1:Int) > 0 by decide,if_true]
   by_cases h:i<0
   ·simp only[h,if_true] <;> omega
   ·simp only[h,if_false] <;> omega
theorem GI (its:List aE)(lo hi:Option Int):slicePick its.toArray lo hi none=((its.drop (HT.sIx its.length 0 lo)).take (HT.sIx its.length its.length hi - HT.sIx its.length 0 lo)).toArray:=by
 obtain⟨h1,h2,h3⟩:=FW lo hi its.toArray.size
 unfold slicePick
 rw[h1,h2,h3]
 simp only[sliceRange_one,pick_run,dP] <;> rfl
def rSlL (K:aI):V->Option Int->Option Int->Hp->VK->Prop:=fun x lo hi H Q=>∃ a xs,x = .ref a/\SqL K H a xs /\ ∀ p,H p=none->Q (.ref p) (upd H p (.lst (cutV xs lo hi)))
theorem sl_list:SlR X (rSlL X.K):=by
 intro pins s σ H x v vl vu lo hi sl Q I rx hs pl pu h
 obtain⟨a,xs,rfl,hx,q⟩:=h
 cases rx
 obtain⟨its,r,ht,hz⟩:=I.list hx
 have hlen:=r.length
 refine⟨"list",_,slot_list_getitem.lookup,ht.isList.typeIs,?_⟩
 refine wpAny_getItem_list_slice ht.isList hs pl pu .none (by simp) ?_ (by rw[dP] <;> omega)
 rw[GI,← hlen]
 refine⟨.ref s.heap.objs.size,_,I.laid (t':=s.toks) (o:=.lst (cutV xs lo hi)) (fun b ob q=>cF _ q) (bM _) ?_,rfl,q _ (I.hok.fresh (bM _))⟩
 exact⟨kO (cutV_length xs lo hi) hz,_,0,(r.drop (HT.sIx xs.length 0 lo)).take (HT.sIx xs.length xs.length hi - HT.sIx xs.length 0 lo),dU _ rfl⟩
theorem FV:OpR X (eJ .NotIn) (fun x y H Q=>∃ i j,x = .str i/\y = .str j/\Q (.bl (!(!(oH j i 0 j.length 1).isEmpty))) H):=by
 intro pins s σ H x y v u Q I rx ry h
 obtain⟨i,j,rfl,rfl,q⟩:=h
 obtain⟨t,rfl⟩:=rx
 obtain⟨t',rfl⟩:=ry
 exact notIn_str ⟨.bl _,H,I,rfl,q⟩
theorem Amj:Acv X (.builtin "len") (fun xs H Q=>∃ p ys,xs=[.ref p]/\(SqL X.K H p ys \/ SqT X.K H p ys)/\Q (.int ys.length) H):=by
 intro pins s σ H xs us Q I r h
 obtain⟨p,ys,rfl,hq,q⟩:=h
 obtain⟨u,rfl,rx⟩:=vals1 r
 cases rx
 have hn:=oO
 rcases hq with hq | hq
 ·obtain⟨its,r',pl,hz⟩:=I.list hq
  have hlen:=r'.length
  exact Calls.call_len_list pl.isList (by simp only[dP] <;> omega) ⟨.int ys.length,H,I.tok _,⟨s.toks+1,by rw[dP,hlen]⟩,q⟩
 ·obtain⟨its,r',pl,hz⟩:=I.tuple hq
  have hlen:=r'.length
  exact len_tuple pl (by simp only[dP] <;> omega) ⟨.int ys.length,H,I.tok _,⟨s.toks+1,by rw[dP,hlen]⟩,q⟩
theorem Aor:Acv X (.builtin "len") (fun xs H Q=>∃ z,xs=[.str z]/\z.length≤sizeLine/\Q (.int z.length) H):=by
 intro pins s σ H xs us Q I r h
 obtain⟨z,rfl,hz,q⟩:=h
 obtain⟨u,rfl,t,rfl⟩:=vals1 r
 have hn:=oO
 exact len_str (by omega) ⟨.int z.length,H,I.tok _,⟨_,rfl⟩,q⟩
theorem Acv.or {f:aE}{r r':List V->Hp->VK->Prop}(h:Acv X f r)(h':Acv X f r'):Acv X f (fun xs H Q=>r xs H Q \/ r' xs H Q):=by
 intro pins s σ H xs us Q I rs q
 rcases q with q | q
 ·exact h pins s σ H xs us Q I rs q
 ·exact h' pins s σ H xs us Q I rs q
theorem Ans:Acv X (.type "list") (fun xs H Q=>∃ p ys,xs=[.ref p]/\(SqL X.K H p ys \/ SqT X.K H p ys) /\ ∀ l,H l=none->Q (.ref l) (upd H l (.lst ys))):=by
 intro pins s σ H xs us Q I r h
 obtain⟨p,ys,rfl,hq,q⟩:=h
 obtain⟨u,rfl,rx⟩:=vals1 r
 cases rx
 have fin : ∀ (its:List aE),Vals ys its->ys.length≤sizeLine -> ∀ (h':aR) (c':Nat),(∀ b o',s.heap.get? b=some o'->h'.get? b=some o') ->
   h'.get? s.heap.objs.size=some { cls:=.type "list",dict:=none,data:=.seq its.toArray c',slots:=#[] }->EP X pins σ Q (.ref s.heap.objs.size) { s with heap:=h' }:=fun its r' hz h' c' kp e=>
  ⟨.ref s.heap.objs.size,_,I.laid (t':=s.toks) kp (bM _) (show Ace X.prog X.w _ h' _ (.lst ys) from⟨hz,its,c',r',e⟩),rfl,q _ (I.hok.fresh (bM _))⟩
 rcases hq with hq | hq
 ·obtain⟨its,r',pl,hz⟩:=I.list hq
  have hlen:=r'.length
  obtain⟨o,ho,hc,n,hd⟩:=pl.isList
  exact call_list_seq p (.inl rfl) ho hc hd (fun h' c' kp e=>fin its r' hz h' c' kp e) (by simp only[dP] <;> omega)
 ·obtain⟨its,r',pl,hz⟩:=I.tuple hq
  have hlen:=r'.length
  obtain⟨o,ho,hc,n,hd⟩:=pl
  exact call_list_seq p (.inr rfl) ho hc hd (fun h' c' kp e=>fin its r' hz h' c' kp e) (by simp only[dP] <;> omega)
theorem GH:Acv X (.type "tuple") (fun xs H Q=>∃ p ys,xs=[.ref p]/\((SqL X.K H p ys /\ ∀ l,H l=none->Q (.ref l) (upd H l (.tup ys))) \/ (SqT X.K H p ys/\Q (.ref p) H))):=by
 intro pins s σ H xs us Q I r h
 obtain⟨p,ys,rfl,h⟩:=h
 obtain⟨u,rfl,rx⟩:=vals1 r
 cases rx
 rcases h with⟨hq,q⟩ | ⟨hq,q⟩
 ·obtain⟨its,r',pl,hz⟩:=I.list hq
  have hlen:=r'.length
  refine call_tuple_list pl.isList (fun h' kp=>?_) (by simp only[dP] <;> omega)
  have I1:Inv X pins σ H { s with heap:=h' }:=I.kept (t':=s.toks) kp
  have I2:Inv X pins σ (upd H h'.objs.size (.tup ys)) { s with heap:=h'.push { cls:=.type "tuple",data:=.seq its.toArray } }:=
   I1.laid (t':=s.toks) (fun b o e=>cF _ e) (bM _) (show Ace X.prog X.w _ _ _ (.tup ys) from⟨hz,its,r',TupP.new _ _⟩)
  exact⟨.ref h'.objs.size,_,I2,rfl,q _ (I1.hok.fresh (bM _))⟩
 ·obtain⟨its,r',pl,hz⟩:=I.tuple hq
  exact call_tuple_same pl ⟨.ref p,H,I,rfl,q⟩
def tyV (K:aI)(T:String)(x:V)(H:Hp):Prop:=match x with
 | .str _=>T = "str"
 | .int _=>T = "int"
 | .ref p=>(T = "list" /\ ∃ xs,SqL K H p xs) \/ (T = "tuple" /\ ((∃ o,K.lookup p=some o/\o.cls = .type "tuple" /\ o.dict=none) \/ ∃ xs,H p=some (.tup xs))) \/
   (T = "dict" /\ ((∃ ep kvs,H p=some (.dK ep kvs)) \/ ∃ kvs,∃ ep,H p=some (.dT ep kvs))) \/ (T = "set" /\ ∃ S n,H p=some (.set S n))
 | _=>False
theorem tyV_is {pins:List (aB×aT)}{σ:St}{H:Hp}{s:aG}{T:String}{x:V}{v:aE}(I:Inv X pins σ H s)(r:RelV x v)(ty:tyV X.K T x H) :
  s.TypeIs v T /\ ∀ a,v = .ref a -> ∃ ob,s.heap.get? a=some ob/\ob.dict=none:=by
 cases x with
 | str z=>
  obtain⟨t,rfl⟩:=r
  cases(show T = "str" from ty)
  exact⟨typeIs_str s z t,fun _ e=>nomatch e⟩
 | int i=>
  obtain⟨t,rfl⟩:=r
  cases(show T = "int" from ty)
  exact⟨typeIs_int s i t,fun _ e=>nomatch e⟩
 | ref p=>
  cases r
  rcases ty with⟨rfl,xs,hq⟩ | ⟨rfl,⟨o,hk,hc,hd⟩ | ⟨xs,hx⟩⟩ | ⟨rfl,hk⟩ | ⟨rfl,S,n,hk⟩
  ·obtain⟨its,_,pl,_⟩:=I.list hq
   refine⟨pl.isList.typeIs,fun a e=>?_⟩
   cases e
   obtain⟨o,n,e,c,hd,_⟩:=pl
   exact⟨o,e,hd⟩
  ·refine⟨⟨o,I.kIn p o hk,hc⟩,fun a e=>?_⟩
   cases e
   exact⟨o,I.kIn _ o hk,hd⟩
  ·obtain⟨_,_,_,⟨o,e,c,_⟩,n⟩:=(show Ace X.prog X.w H s.heap p (.tup xs) from I.hok p _ hx)
   refine⟨⟨o,e,c⟩,fun a e=>?_⟩
   cases e
   exact n
  ·have z : ∃ o,s.heap.get? p=some o/\o.ExactDict:=by
    rcases hk with⟨ep,kvs,hk⟩ | ⟨kvs,ep,hk⟩
    ·obtain⟨_,_,_,_,o,_,e,ex,_⟩:=I.hok p _ hk
     exact⟨o,e,ex⟩
    ·obtain⟨_,_,_,_,o,_,e,ex,_⟩:=I.hok p _ hk
     exact⟨o,e,ex⟩
   obtain⟨o,e,ex⟩:=z
   refine⟨⟨o,e,ex.1⟩,fun a e2=>?_⟩
   cases e2
   exact⟨o,e,ex.2.1⟩
  ·obtain⟨o,_,_,_,e,ex,_⟩:=I.hok p _ hk
   refine⟨⟨o,e,ex.1⟩,fun a e2=>?_⟩
   cases e2
   exact⟨o,e,ex.2.1⟩
 | _=>exact iD ty
noncomputable def tBM0 (K:aI)(T:String)(r:V->List V->Hp->VK->Prop)(to:TE):TE:=fun σ H Q=>to σ H fun x H1=>tyV K T x H1/\r x [] H1 Q
noncomputable def tBM (K:aI)(T:String)(r:V->List V->Hp->VK->Prop)(to:TE)(t:TA):TE:=fun σ H Q=>to σ H fun x H1=>tyV K T x H1/\t σ H1 fun xs H2=>r x xs H2 Q
variable {o e:aS}{es:List aS}{to:TE}{t:TA}{name:aD}{apos cpos:bG}{T id:String}{r:V->List V->Hp->VK->Prop}
theorem pe_bm0 (pa:PlainAttrs T)(slot:Slot T name id)(hty:typeOf (.builtin id)=pure (.type "method_descriptor"))(hm:MtR X id r)(ho:PE X o to)
  (hbase:iX o name X.env (bC o X.env)=bC o X.env:=by rfl) (hline:(apos.endLine == cpos.line)=true:=by rfl):PE X (.Call (.Attribute o name apos) [] [] cpos) (tBM0 X.K T r to):=by
 intro pins s σ H Q I h
 refine wpAny_Call_method0_late hbase hline (thn (ho pins s σ H _ I h) fun v s1 gh=>?_)
 obtain⟨x,H1,I1,r1,ty,q1⟩:=gh
 obtain⟨h1,h2⟩:=tyV_is I1 r1 ty
 exact⟨T,id,pa,slot,hty,h1,h2,Calls.callWith_builtin rfl (DC (hm pins s1 σ H1 x [] v [] Q I1 r1 .nil q1))⟩
theorem pe_bm (pa:PlainAttrs T)(slot:Slot T name id)(hty:typeOf (.builtin id)=pure (.type "method_descriptor"))(hm:MtR X id r)(ho:PE X o to)(ha:PA X (e::es) t)
  (hbase:iX o name X.env (bC o X.env)=bC o X.env:=by rfl)
  (hfew:((eQ cpos (bF (e::es) X.env)).all (fun x=>!x.1)&&(sA cpos (rY [] X.env)).all (fun x=>x.1.isSome)
   && decide ((e::es).length+([]:List oF).length+(if ([]:List oF).isEmpty then 0 else 1)<30))=true:=by rfl)
  (hline:(apos.endLine == cpos.line)=true:=by rfl) (hs:bF (e::es) X.env=(false,bC e X.env)::bF es X.env:=by rfl) (hplain:(eQ cpos (bF es X.env)).any (·.1)=false:=by rfl) :
  PE X (.Call (.Attribute o name apos) (e::es) [] cpos) (tBM X.K T r to t):=by
 intro pins s σ H Q I h
 refine wpAny_Call_method_late hbase hfew hline rfl (thn (ho pins s σ H _ I h) fun v s1 gh=>?_)
 obtain⟨x,H1,I1,r1,ty,q1⟩:=gh
 obtain⟨h1,h2⟩:=tyV_is I1 r1 ty
 refine⟨T,id,pa,slot,hty,h1,h2,?_⟩
 have hA:=ha cpos pins s1 σ H1 _ I1 q1
 rw[hs] at hA ⊢
 refine Calls.callWith_builtin (by show(false||(eQ cpos (bF es X.env)).any (·.1))=false; rw[hplain] <;> rfl) (Calls.evalArgs_plain ?_)
 exact thn hA fun us s2 ⟨vs,H2,I2,r2,q2⟩=>hm pins s2 σ H2 x vs v us Q I2 r1 r2 q2
end
def MtM (X:Cx)(id:String)(r:V->List V->Hp->VK->Prop):Prop:=
 ∀ (pins:List (aB×aT)) (s:aG) (σ:St) (H:Hp) (x:V) (xs:List V) (v:aE) (us:List aE) (Q:VK),Inv X pins σ H s->RelV x v->Vals xs us->r x xs H Q ->
  aO (aP X.prog X.w) X.A (call (.builtin id) (v::us)) (EP X pins σ Q) X.xe s
theorem Vals.one : ∀ {x:V} {us:List aE},Vals [x] us -> ∃ u,us=[u]/\RelV x u:=by
 intro x us h
 cases h with
 | cons r t=>cases t; exact⟨_,rfl,r⟩
theorem Vals.zero : ∀ {us:List aE},Vals [] us->us=[]
 | _,.nil=>rfl
section
variable {X:Cx}{pins:List (aB×aT)}{σ:St}{H:Hp}{s:aG}{l b:aB}{xs ys zs:List V}
theorem Inv.lset {its its':List aE}{n:Nat}{f:Array aE->Array aE}{t':Nat}(I:Inv X pins σ H s)(hH:H l=some (.lst xs))
  (e:s.heap.get? l=some { cls:=.type "list",data:=.seq its.toArray n }) (hf:f its.toArray=its'.toArray) (hv:Vals ys its') (hz:ys.length≤sizeLine) :
  Inv X pins σ (upd H l (.lst ys)) { s with heap:=s.heap.update l (gE f),toks:=t' }:=by
 have q:=PySem.IsL.update e f
 rw[hf] at q
 refine I.write (x:=l) (e:=l) (by rw[hH]; exact trivial) (.inl rfl) (fun b' u hb hu=>(pX s.heap (gE f) (gU hb)).trans hu) ⟨_,q⟩ ?_
 exact⟨hz,its',_,hv,q⟩
theorem Inv.lnew {its:List aE}{t':Nat}(I:Inv X pins σ H s)(hv:Vals ys its)(hz:ys.length≤sizeLine) :
  Inv X pins σ (upd H s.heap.objs.size (.lst ys)) { s with heap:=s.heap.push { cls:=.type "list",data:=.seq its.toArray },toks:=t' }:=
 I.laid (fun _ _ q=>cF _ q) (bM _) ⟨hz,its,0,hv,dU _ rfl⟩
theorem Inv.fresh (I:Inv X pins σ H s):H s.heap.objs.size=none:=I.hok.fresh (bM _)
theorem Inv.lstM (I:Inv X pins σ H s)(hH:H l=some (.lst xs)):xs.length≤sizeLine /\ ∃ (its:List aE) (n:Nat),Vals xs its/\xs.length=its.length/\s.heap.get? l=some { cls:=.type "list",data:=.seq its.toArray n }:=by
 obtain⟨z,its,n,r,e⟩:=I.hok l _ hH
 exact⟨z,its,n,r,r.length,e⟩
end
section
variable {X:Cx}
def rAppend:V->List V->Hp->VK->Prop:=fun x vs H Q=>∃ l xs y,x = .ref l/\vs=[y]/\H l=some (.lst xs)/\xs.length<sizeLine/\Q .non (upd H l (.lst (xs++[y])))
theorem wK:MtM X "list.append" rAppend:=by
 intro pins s σ H x vs v us Q I rx rv h
 obtain⟨l,xs,y,rfl,rfl,hH,hz,q⟩:=h
 cases rx
 obtain⟨u,rfl,ru⟩:=rv.one
 obtain⟨z,its,n,r,hl,e⟩:=I.lstM hH
 refine call_meets F.slot_list_append ⟨_,e,rfl⟩ F.entry_list_append (F.args_list_append_2 _ _) (PySem.list_append l its.toArray n u (by rw[dP]; omega)) ⟨e,?_⟩
 refine⟨.non,_,I.lset (its':=its++[u]) hH e (by simp) (r.append (.cons ru .nil)) ?_,rfl,q⟩
 rw[sO,List.length_singleton]
 omega
end
end L2
namespace Att
open PySem PySem.W PySem.Calls PyProof.Rows
theorem HB {P:Params}{h:aR} : ∀ (ns:List Int) (vs:List aE),WellAll P h vs (ns.map WData.int)->IntsAre vs ns:=by
 intro ns
 induction ns with
 | nil=>
  intro vs w
  rw[List.map_nil] at w
  cases w
  exact .nil
 | cons n ns ih=>
  intro vs w
  rw[dR] at w
  cases w with
  | cons a b=>
   cases a
   exact .cons _ _ (ih _ b)
theorem script_of {l:OpenLaw}{n:Nat}(hn:l.most=some n){P:Params}{h:aR}{args:List WData}{vals:List aE}
  (hpre:l.row.toRowW.claim.pre args=true) (hwl:WellAll P h vals args) :
  ∃ a vs ns,vals=[dB a]/\args=[WData.list (ns.map WData.int)]/\h.get? a=some { cls:=.type "list",data:=.seq vs.toArray }/\IntsAre vs ns/\ns.length≤n:=by
 have hsh:WShape.hasAll [] args [.list .int]=true:=(pre_splitW hpre).1
 have hc:l.pre.holds [] { args:=args }=true:=(pre_splitW hpre).2
 obtain⟨d,r,rfl,h1,h2⟩:=hasAllW_cons hsh
 obtain rfl:=hasAllW_nil h2
 obtain⟨xs,rfl,h3⟩:=hasW_list h1
 obtain⟨ns,rfl⟩:=items_int h3
 have hlen:ns.length≤n:=by
  unfold OpenLaw.pre at hc
  have h4:(WTm.not (.lt (.lit (.int (n:Int))) (.len (.arg 0)))).holds [] { args:=[.list (ns.map .int)] }=true:=by
   have h4:=(holds_andW hc).1
   rw[hn] at h4
   exact h4
  have h5:=condW_of h4 (w_not (w_lt w_lit (w_len_list (w_arg rfl))))
  rw[cU] at h5
  refine Nat.le_of_not_lt fun q=>?_
  have q':(n:Int)<((ns.length:Nat):Int):=by omega
  first
   | (rw[decide_eq_true q'] at h5; exact absurd h5 (by decide))
   | (simp at h5; omega)
 cases hwl with
 | cons w1 w2=>
  cases w2
  cases w1 with
  | list ho hall=>exact⟨_,_,ns,rfl,rfl,ho,HB ns _ hall,hlen⟩
theorem post_true (l:OpenLaw)(args:List WData):l.row.toRowW.claim.post args (.bool true) args=true:=
 postW_of (r:=l.row.toRowW) (X:=(true == true))
  (show WShape.has [] (.bool true) .bool=true by first | rfl | decide | simp[WShape.has,WShape.arms,WShape.armsAll])
  (show(WTm.eq .res (.lit (.bool true))).value [] { args:=args,res:=some (.bool true),after:=args }=some (.bool (true == true)) from w_eq_bool (w_res rfl) w_lit) rfl
theorem attach_call {l:OpenLaw}{n:Nat}{q:bA}{loose:List aD}{XP:(aD->Option aE)->aR->Prop}{YP:aX->aR->Prop}{d:DefRec}
  (hn:l.most=some n) (hdf:d.params.defaults=[])
  (call : ∀ (w:aX) (s₀ s₁:aG) (mg mb:aD->Option aE) (fa:aB) (o:aT) (pm cd doc:aE) (a:aB) (vs:List aE) (ns:List Int),
   Ground q loose [] XP w s₀ mg mb s₁.heap->YP w s₁.heap ->
   s₁.heap.get? fa=some o->o.data = .func (docDef d.name d.params d.body d.scope pm cd doc)->s₁.heap.CodeRec cd d.name->mg d.name=some (.ref fa) ->
   s₁.heap.get? a=some { cls:=.type "list",data:=.seq vs.toArray }->IntsAre vs ns->ns.length≤n->s₁.gens = #[] ->
   gZ (aP l.prog w) pS (.call (.ref fa) ⟨[.ref a],[]⟩) (fun r s'=>r = .ok (.ret (.bool true))/\OldK s₁.heap s'.heap/\s'.os=s₁.os/\mH s'.gens) s₁) :
  WalkO q loose XP YP l.row.toRowW d [] (fun f vs=>PySem.call f vs):=by
 intro w s₀ s₁ mg mb G Y fa o pm cd doc dV kV ho hd hcd hD hmg hg args vals as hpre hlay hrd hwl hlo
 obtain rfl:dV = .none:=Dflts.none hD hdf
 obtain rfl:kV = .none:=Dflts.noKw hD
 obtain⟨a,vs,ns,rfl,rfl,hobj,hints,hlen⟩:=script_of hn hpre hwl
 refine enter_call (nZ (call w s₀ s₁ mg mb fa o pm cd doc a vs ns G Y ho (fd_plain hd) hcd hmg hobj hints hlen hg) fun r s' hq=>?_)
 obtain⟨rfl,h2,h3,h4⟩:=hq
 exact⟨.inl ⟨.bool true,.bool true,[],rfl,fun _=>rfl,.bool true,post_true l _,fun _=>⟨List.Pairwise.nil,fun _ hm=>(nomatch hm)⟩⟩,h2,h3,h4⟩
end Att
namespace L2
open PySem PySem.Spec PyProof.Rows
theorem zO : ∀ {vs:List aE} {ns:List Int},IntsAre vs ns->Vals (ns.map V.int) vs
 | _,_,.nil=>.nil
 | _,_,.cons n t h=>.cons ⟨t,rfl⟩ (zO h)
def Only (H:Hp):Prop:=∀ b,H b=none \/ ∃ o xs,H b=some (.frz o (.lst xs))
theorem law_call {P:bA}{w:aX}{K:aI}{mg mb:aD->Option aE}{CX:CXT}{k:Nat}{fa a:aB}{fd:eY}{x:aD}{sp:Sp}{s₁:aG}{vs:List aE}{ns:List Int}
  (KX:K.In s₁.heap) (hns:s₁.heap.Ns bR mg) (hb:s₁.heap.Ns builtinsNs mb) (hbb : ∀ x:aD,x ≠ "__name__" -> mb x=iH x) (hlim:s₁.heap.NoLimit) (hg:s₁.gens = #[])
  (ha:s₁.heap.get? a=some { cls:=.type "list",data:=.seq vs.toArray }) (hi:IntsAre vs ns) (hl:ns.length≤sizeLine) (hr:Room k pS)
  (F : ∀ base:aR,K.In base->base.Ns bR mg->FnOk P w K mg base CX k fa fd [x] sp) (hbind : ∀ (s:aG) (u:aE),oI s fd ⟨[u],[]⟩ [(x,u)])
  (hsp : ∀ H:Hp,Only H->SqL K H a (ns.map V.int)->sp [.ref a] H (fun v _=>v = .bl true) fun _ _ _=>False)
  (hCX : ∀ H e s',CX [] H s₁ (fun _ _ _=>False) e s'->False) :
  gZ (aP P w) pS (.call (.ref fa) ⟨[.ref a],[]⟩) (fun r s'=>r = .ok (.ret (.bool true))/\OldK s₁.heap s'.heap/\s'.os=s₁.os/\mH s'.gens) s₁:=by
 have rv:=zO hi
 have lenV:=hi.length
 have core : ∀ H:Hp,Only H->SqL K H a (ns.map V.int)->HOk P w H s₁.heap->(∀ b,H b≠none->b=a)->(H a≠none->K.lookup a=none) ->
   gZ (aP P w) pS (.call (.ref fa) ⟨[.ref a],[]⟩) (fun r s'=>r = .ok (.ret (.bool true))/\OldK s₁.heap s'.heap/\s'.os=s₁.os/\mH s'.gens) s₁:=by
  intro H hO hS hok hA hK
  have base_of : ∀ {b:aB} {o:aT},s₁.heap.get? b=some o->H b=none->(hidT s₁.heap H).get? b=some o:=fun e n=>hidT_get e n
  have noA : ∀ {b:aB} {o:aT} {es:Array mF} {ep:Nat},s₁.heap.get? b=some o->o.data = .dict es ep->H b=none:=fun {b o es ep} e d=>by
   cases q:H b with
   | none=>rfl
   | some u=>
    have e':b=a:=hA b (by rw[q]; simp)
    subst e'
    rw[ha] at e; cases e
    have d':Data.seq vs.toArray _=Data.dict es ep:=d
    cases d'
  have nsK : ∀ {b:aB} {m:aD->Option aE},s₁.heap.Ns b m->(hidT s₁.heap H).Ns b m:=fun {b m} ⟨o,es,ep,e,d,r⟩=>⟨o,es,ep,base_of e (noA e d),d,r⟩
  have hKb:K.In (hidT s₁.heap H):=fun b o e=>base_of (KX b o e) (by
   cases q:H b with
   | none=>rfl
   | some u=>
    have e':b=a:=hA b (by rw[q]; simp)
    subst e'
    rw[hK (by rw[q]; simp)] at e; cases e)
  have hM:Mod K mg (hidT s₁.heap H):=⟨hKb,nsK hns,⟨mb,nsK hb,hbb⟩,let ⟨mc,h1,h2⟩:=hlim; ⟨mc,nsK h1,h2⟩⟩
  have e0:Env0 P w K mg (hidT s₁.heap H) pS [] s₁ H:=⟨rfl,hM,fun b o e=>of_hidT e,yW (hidT_size _ _),trivial,fun b hb=>absurd (show b∈([]:List aB) from hb) (by simp),hok,.of_eq hg⟩
  refine nZ ((F _ hKb (nsK hns)).run pS [] s₁ H ⟨[.ref a],[]⟩ [.ref a] [.ref a] _ _ hr e0 (hbind s₁ (.ref a)) (.cons rfl .nil) (hsp H hO hS)) fun r s' h=>?_
  cases r with
  | error e=>exact(hCX H e s' h).elim
  | ok fl=>
   cases fl with
   | next=>exact iD h
   | brk=>exact iD h
   | cont=>exact iD h
   | ret u=>
    obtain⟨v,H',os,bare,un,hok',r',q⟩:=h
    have q':v = .bl true:=q
    subst q'
    obtain rfl:u=Value.bool true:=r'
    refine⟨rfl,OldK.of_keep fun b o e=>?_,os,bare⟩
    cases q:H b with
    | none=>exact un.keep b o e q (by intro z; exact absurd (show b∈([]:List aB) from z) (by simp)) (by simp)
    | some u=>
     rcases hO b with z | ⟨ob,xs,z⟩
     ·rw[q] at z; cases z
     ·have z2:=un.frzs b ob _ z
      obtain⟨e1,_⟩:=hok b _ z
      obtain⟨e2,_⟩:=hok' b _ z2
      rw[e] at e1; cases e1
      exact e2
 cases hk:K.lookup a with
 | some o=>
  have e:=KX a o hk
  rw[ha] at e
  cases e
  refine core (fun _=>none) (fun _=>.inl rfl) (.inr ⟨_,vs.toArray,_,hk,rfl,rfl,rfl,by rw[dP,lenV]; exact hl,by simpa using rv⟩) (fun b u z=>by have z':(none:Option HO)=some u:=z; cases z') (fun b z=>absurd rfl z) fun z=>absurd rfl z
 | none=>
  refine core (fun b=>if b=a then some (.frz { cls:=.type "list",data:=.seq vs.toArray } (.lst (ns.map V.int))) else none) (fun b=>?_) (.inl (.inr ⟨{ cls:=.type "list",data:=.seq vs.toArray },if_pos rfl⟩)) (fun b u z=>?_) (fun b z=>?_) fun _=>hk
  ·by_cases hb:b=a
   ·exact .inr ⟨_,_,if_pos hb⟩
   ·exact .inl (if_neg hb)
  ·by_cases hb:b=a
   ·have z':=(if_pos hb).symm.trans z
    cases z'
    subst hb
    exact⟨ha,by rw[cU]; exact hl,vs,_,rv,ha⟩
   ·have z':=(if_neg hb).symm.trans z
    cases z'
  ·by_cases hb:b=a
   ·exact hb
   ·exact absurd (if_neg hb) z
theorem walk_of {l:DU}{n k:Nat}{q:bA}{loose:List aD}{XP:(aD->Option aE)->aR->Prop}{YP:aX->aR->Prop}{d:DefRec}{K:Params->aI}{CX:aX->CXT}{sp:aX->Sp}{x:aD}
  (hn:l.most=some n) (hn2:n≤sizeLine) (hdf:d.params.defaults=[]) (hr:Room k pS)
  (hY : ∀ (w:aX) (h:aR),YP w h->(K w.params).In h)
  (F : ∀ (w:aX) (mg:aD->Option aE) (fa:aB) (h:aR),(K w.params).In h->h.Ns bR mg->mg d.name=some (.ref fa) ->
   ∃ fd:eY,(∀ (s:aG) (u:aE),oI s fd ⟨[u],[]⟩ [(x,u)]) /\
    ∀ base:aR,(K w.params).In base->base.Ns bR mg->FnOk l.prog w (K w.params) mg base (CX w) k fa fd [x] (sp w))
  (hsp : ∀ (w:aX) (H:Hp) (a:aB) (ns:List Int),ns.length≤n->Only H->SqL (K w.params) H a (ns.map V.int)->sp w [.ref a] H (fun v _=>v = .bl true) fun _ _ _=>False)
  (hCX : ∀ (w:aX) (H:Hp) (s:aG) (e:aE) (s':aG),CX w [] H s (fun _ _ _=>False) e s'->False) :
  PySem.W.WalkO q loose XP YP l.row.toRowW d [] (fun f vs=>PySem.call f vs):=by
 refine Att.attach_call hn hdf fun w s₀ s₁ mg mb fa o pm cd doc a vs ns G Y ho hd hcd hmg hobj hints hlen hg=>?_
 have KX:=hY w _ Y
 obtain⟨fd,hb,hF⟩:=F w mg fa _ KX G.T.g hmg
 exact law_call KX G.T.g G.T.b G.T.builtins G.T.nolimit hg hobj hints (kO hlen hn2) hr hF hb (fun H hO hS=>hsp w H a ns hlen hO hS) fun H e s'=>hCX w H s₁ e s'
noncomputable def inClass (s:bL)(j:Nat):bL:=match s with
 | .ClassDef _ _ _ body _ _ _ _ _ _ _=>body.getD j (.Pass ⟨0,0,0,0⟩)
 | _=>.Pass ⟨0,0,0,0⟩
noncomputable def kG (s:bL):Arguments:=match s with
 | .FunctionDef _ a _ _ _ _ _ _ _ _=>a
 | _=>{ posonlyargs:=[],args:=[],vararg:=none,kwonlyargs:=[],kw_defaults:=[],kwarg:=none,defaults:=[] }
noncomputable def iB (s:bL):List bL:=match s with
 | .FunctionDef _ _ b _ _ _ _ _ _ _=>b
 | _=>[]
noncomputable def bU (s:bL):gD:=match s with
 | .FunctionDef _ _ _ _ _ _ sc _ _ _=>sc
 | _=>{ kind:=.function,names:=[],isGenerator:=false,isCoroutine:=false }
noncomputable abbrev CX0:CXT:=fun _ _ _ _ _ _=>False
noncomputable abbrev E0:XK:=fun _ _ _=>False
theorem pass0 {X:Cx}:Passes CX0 X E0:=fun _ _ _ _ _ _ _ h=>h.elim
structure Fun (K:aI)(x qual:aD)(st:bL)(f:aB)(fd:eY):Prop where
 ex : ∃ (oc:aE) (od:Option aB) (kV doc pm:aE) (an:Option aB) (cdv ct:aE) (osl:Array (Option aE)),
  fd=jR x qual (kG st) (iB st) (bU st) .none kV doc pm an cdv ct/\K.lookup f=some ⟨oc,od,.func fd,osl⟩/\pU K cdv qual=true
 kp:kM K (.ref f)=true
section
variable {P:bA}{w:aX}{K:aI}{mg:aD->Option aE}{base:aR}
theorem Fun.ok {x qual:aD}{st:bL}{f:aB}{fd:eY}{N ps:List aD}{k:Nat}{sp:Sp}(F:Fun K x qual st f fd)(S:FnScope N ps (bU st))(len : ∀ vs H Q E,sp vs H Q E->vs.length=ps.length)
  (hbody : ∀ (cdv:aE) (A:bQ) (outer:List dI) (s:aG) (H:Hp) (vs:List V) (Q:VK) (E:XK),Room k (A.deeper (gL qual (bU st) s.heap.objs.size f cdv))->sp vs H Q E ->
   ∃ t,PSs (cxOf CX0 P w K mg base N qual (bU st) f cdv A outer s H E).nox (iB st) t/\t { nx:=fun _ H'=>Q .non H',rt:=Q } (start N vs) H):FnOk P w K mg base CX0 (k+1) f fd ps sp:=by
 obtain⟨oc,od,kV,doc,pm,an,cdv,ct,osl,rfl,lk,hcd⟩:=F.ex
 refine fn_of lk hcd S len fun A outer s H vs Q E hr hsp=>?_
 obtain⟨t,h,q⟩:=hbody cdv A outer s H vs Q E hr hsp
 exact⟨t,h.nox,q⟩
theorem Fun.binds {x qual:aD}{st:bL}{f:aB}{fd:eY}{ps:List aD}(F:Fun K x qual st f fd)
  (h : ∀ (kV doc pm:aE) (an:Option aB) (cdv ct:aE) (us:List aE),us.length=ps.length->bindArgs (jR x qual (kG st) (iB st) (bU st) .none kV doc pm an cdv ct) ⟨us,[]⟩=pure (ps.zip us)):Binds K fd ps []:=by
 obtain⟨oc,od,kV,doc,pm,an,cdv,ct,osl,rfl,lk,hcd⟩:=F.ex
 exact .all (h kV doc pm an cdv ct)
theorem fun_mk {x qual:aD}{st:bL}{f:aB}{oc:aE}{od an:Option aB}{osl:Array (Option aE)}{kV doc pm cdv ct:aE}(l:K.lookup f=some ⟨oc,od,.func (jR x qual (kG st) (iB st) (bU st) .none kV doc pm an cdv ct),osl⟩)
  (c:pU K cdv qual=true) (k:kM K (.ref f)=true):Fun K x qual st f (jR x qual (kG st) (iB st) (bU st) .none kV doc pm an cdv ct):=⟨⟨oc,od,kV,doc,pm,an,cdv,ct,osl,rfl,l,c⟩,k⟩
end
theorem fN {A:bQ}{k:Nat}(hr:Room k A):A.units+40<cLine:=Nat.lt_of_le_of_lt (Nat.add_le_add_left (by decide:40≤64) _) hr.units
section
variable {X:Cx}
theorem pv (i:Nat){x:aD}{pos:bG}(hN:X.N[i]?=some x:=by rfl)(hv:mI X.env.scope x:=by first | exact bI rfl | exact bJ (bI rfl) | exact bJ (bJ rfl))(hd:(x == ("__debug__" : aD))=false:=by decide)
  (hcd:(x == ("__classdict__" : aD))=false:=by decide):PE X (.Name x pos) (tVar i):=oQ hN hv hd hcd
theorem call_lenD:Acv X (.builtin "len") (fun xs H Q=>∃ a ep kvs,xs=[V.ref a]/\H a=some (.dK ep kvs)/\Q (.int kvs.length) H):=by
 intro pins s σ H xs us Q I r h
 obtain⟨a,ep,kvs,rfl,ha,q⟩:=h
 obtain⟨u,rfl,ru⟩:=vals1 r
 cases ru
 exact d_len I (.inl ha) fun t s' I'=>⟨.int kvs.length,H,I',⟨t,rfl⟩,q⟩
end
theorem iteF {A B:Prop}(h:B):if false=true then A else B:=by
 rw[if_neg nF]
 exact h
theorem iteT {A B:Prop}(h:A):if true=true then A else B:=by
 rw[if_pos rfl]
 exact h
def Same (H H':Hp):Prop:=∀ b o,H b=some o->H' b=some o
theorem Same.trans {H H1 H2:Hp}(a:Same H H1)(b:Same H1 H2):Same H H2:=fun c o h=>b c o (a c o h)
theorem Same.free {H H':Hp}(e:Same H H'){l:aB}(h:H' l=yU):H l=yU:=by
 cases q:H l with
 | none=>rfl
 | some o=>
  rw[e l o q] at h
  cases h
theorem Same.seq {K:aI}{H H':Hp}{a:aB}{xs:List V}(e:Same H H')(h:SqL K H a xs):SqL K H' a xs:=by
 rcases h with(h | ⟨o,h⟩) | h
 ·exact .inl (.inl (e _ _ h))
 ·exact .inl (.inr ⟨o,e _ _ h⟩)
 ·exact .inr h
section
variable {prog:bA}{w:aX}{A:bQ}{R:lY->aG->Prop}{s:aG}
theorem compLoop_wp {elt target iter:aS}{ifs:List aS}{scope:gD}{pos:bG}{it acc:aE}{env:dI}(I:Nat->aG->Prop)
  (turn : ∀ n s,I n s->aO (aP prog w) A (pyNext it) (fun r s₁=>match r with
   | none=>R (.ok .next) s₁
   | some v=>aO (aP prog w) A (yI target it v) (fun _ s₂=>aO (aP prog w) A (lX target env v) (fun _ s₃=>
     aO (aP prog w) A (forIn ifs true fun c r=>if r=true then do let ok ← isTrue c env (bC c env); pure (sT ok) else pure (sT r)) (fun ok s₄=>
      if ok=true then aO (aP prog w) A (bC elt env) (fun x s₅=>
       aO (aP prog w) A (call (.builtin "list.append") [acc,x]) (fun _ s₆=>∃ m,m<n/\I m s₆) (fun _ _=>False) s₅) (fun _ _=>False) s₄
      else ∃ m,m<n/\I m s₄) (fun _ _=>False) s₃) (fun _ _=>False) s₂) (fun _ _=>False) s₁) (fun _ _=>False) s)
  (n:Nat) (h:I n s):gZ (aP prog w) A (.compLoop (.ListComp elt [⟨target,iter,ifs,0⟩] scope pos) 0 it acc env) R s:=by
 refine codeAny_loop rfl I (fun n s hI=>?_) n h
 refine wpAny_noted ?_
 rw[compTurn_list]
 refine aL (wpAny_standAt (aL (gY (turn n s hI) (fun r s₁ h₁=>?_) fun _ _ h'=>h'.elim)))
 cases r with
 | none=>exact bB h₁
 | some v=>
  refine aL (gY h₁ (fun _ s₂ h₂=>?_) fun _ _ h'=>h'.elim)
  refine aL (gY h₂ (fun _ s₃ h₃=>aL (gY h₃ (fun ok s₄ h₄=>?_) fun _ _ h'=>h'.elim)) fun _ _ h'=>h'.elim)
  cases ok with
  | false=>exact bB ⟨rfl,h₄⟩
  | true=>
   exact aL (aL (gY h₄ (fun x s₅ h₅=>aL (gY h₅ (fun _ s₆ h₆=>bB (bB ⟨rfl,h₆⟩)) fun _ _ h'=>h'.elim)) fun _ _ h'=>h'.elim))
end
theorem cellOf_eq {env:dI}{n:aD}{c:aB}(h:env.cells.lookup n=some c):cellOf env n=pure c:=by
 unfold cellOf
 rw[h]
noncomputable def eD (env:dI):List (aD×jT)->List (aD×aB)->List (aD×aB)
 | [],cs=>cs
 | (n,k)::r,cs=>eD env r (if (k == eW)=true then(match env.cells.lookup n with | some c=>(n,c)::cs | none=>cs) else cs)
theorem CS {sc:gD}{env:dI}(h : ∀ n,(n,eW)∈sc.names -> ∃ c,env.cells.lookup n=some c):closureFor sc env=pure (eD env sc.names []):=by
 unfold closureFor
 generalize sc.names=l at h
 have go : ∀ (l:List (aD×jT)) (cs:List (aD×aB)),(∀ n,(n,eW)∈l -> ∃ c,env.cells.lookup n=some c) ->
   (forIn l cs (fun(x:aD×jT) (r:List (aD×aB))=>if (x.2 == eW)=true then(do let c ← cellOf env x.1; pure (sT ((x.1,c)::r))) else pure (sT r)):Sem (List (aD×aB)))=pure (eD env l cs):=by
  intro l
  induction l with
  | nil=>intro cs _; rfl
  | cons p r ih=>
   intro cs hl
   obtain⟨n,k⟩:=p
   rw[List.forIn_cons]
   have hr : ∀ n,(n,eW)∈r -> ∃ c,env.cells.lookup n=some c:=fun n hn=>hl n (cI _ hn)
   cases hk:(k == eW) with
   | true=>
    have ek:k=eW:=by simpa using hk
    subst ek
    obtain⟨c,hc⟩:=hl n cA
    have e1:eD env ((n,eW)::r) cs=eD env r ((n,c)::cs):=by
     show eD env r (if (eW == eW)=true then(match env.cells.lookup n with | some c=>(n,c)::cs | none=>cs) else cs)=_
     rw[hc]; rfl
    rw[e1]
    simp only[cellOf_eq hc,hk,if_true]
    exact ih ((n,c)::cs) hr
   | false=>
    have e1:eD env ((n,k)::r) cs=eD env r cs:=by
     show eD env r (if (k == eW)=true then(match env.cells.lookup n with | some c=>(n,c)::cs | none=>cs) else cs)=_
     rw[hk]; rfl
    rw[e1]
    simp only[hk,nG,if_false]
    exact ih cs hr
 have e:=go l [] h
 simp only[e]
 rfl
theorem xB {env:dI} : ∀ (l:List (aD×jT)) (cs:List (aD×aB)),(∀ x c,cs.lookup x=some c->env.cells.lookup x=some c) -> ∀ x c,(eD env l cs).lookup x=some c->env.cells.lookup x=some c
 | [],cs,h,x,c,e=>h x c e
 | (n,k)::r,cs,h,x,c,e=>by
  refine xB r _ ?_ x c e
  intro y d q
  by_cases hk:(k == eW)=true
  ·rw[if_pos hk] at q
   cases hc:env.cells.lookup n with
   | none=>rw[hc] at q; exact h y d q
   | some a=>
    rw[hc] at q
    by_cases hy:(y == n)=true
    ·simp only[kQ,hy] at q
     have:y=n:=by simpa using hy
     rw[this,hc]; exact q
    ·have hy':(y == n)=false:=by simpa using hy
     simp only[kQ,hy'] at q
     exact h y d q
  ·rw[if_neg hk] at q; exact h y d q
theorem CL {env:dI}{x:aD}{c:aB}(hx:env.cells.lookup x=some c) : ∀ (l:List (aD×jT)) (cs:List (aD×aB)),cs.lookup x=some c->(eD env l cs).lookup x=some c
 | [],cs,h=>h
 | (n,k)::r,cs,h=>by
  refine CL hx r _ ?_
  by_cases hk:(k == eW)=true
  ·rw[if_pos hk]
   cases hc:env.cells.lookup n with
   | none=>exact h
   | some a=>
    by_cases hy:(x == n)=true
    ·have:x=n:=by simpa using hy
     subst this
     rw[hx] at hc; cases hc
     simp[kQ]
    ·have hy':(x == n)=false:=by simpa using hy
     simp only[kQ,hy']; exact h
  ·rw[if_neg hk]; exact h
theorem xC {env:dI}{x:aD}{c:aB}(hx:env.cells.lookup x=some c) : ∀ (l:List (aD×jT)) (cs:List (aD×aB)),(x,eW)∈l->(eD env l cs).lookup x=some c
 | [],cs,h=>by simp at h
 | (n,k)::r,cs,h=>by
  rcases cN.mp h with e | h
  ·cases e
   refine CL hx r _ ?_
   rw[if_pos (by rfl),hx]
   simp[kQ]
  ·exact xC hx r _ h
theorem CG {sc:gD}{env:dI}(x:aD):(pR sc env).names.lookup x=(sc.names.lookup x).map fun k=>if (k == eW&&env.scope.kind == .function&&env.kindOf x == some .cell)=true then NameKind.cell else k:=by
 unfold pR
 induction sc.names with
 | nil=>rfl
 | cons p r ih=>
  obtain⟨n,k⟩:=p
  show iC x ((if (k == eW&&env.scope.kind == .function&&env.kindOf n == some .cell)=true then(n,NameKind.cell) else(n,k))::List.map _ r)=_
  by_cases hy:(x == n)=true
  ·have:x=n:=by simpa using hy
   subst this
   by_cases hc:(k == eW&&env.scope.kind == .function&&env.kindOf x == some .cell)=true
   ·rw[if_pos hc]
    simp only[kQ,hy,oB]
    rw[if_pos hc]
   ·rw[if_neg hc]
    simp only[kQ,hy,oB]
    rw[if_neg hc]
  ·have hy':(x == n)=false:=by simpa using hy
   have e2:iC x ((n,k)::r)=iC x r:=by simp only[kQ,hy']
   rw[e2]
   by_cases hc:(k == eW&&env.scope.kind == .function&&env.kindOf n == some .cell)=true
   ·rw[if_pos hc]
    simp only[kQ,hy']
    exact ih
   ·rw[if_neg hc]
    simp only[kQ,hy']
    exact ih
theorem lookup_mem {α:Type}{x:aD}{v:α} : ∀ {l:List (aD×α)},l.lookup x=some v->(x,v)∈l
 | [],h=>by simp at h
 | (n,k)::r,h=>by
  by_cases hy:(x == n)=true
  ·have:x=n:=by simpa using hy
   subst this
   simp[kQ] at h
   subst h
   exact cA
  ·have hy':(x == n)=false:=by simpa using hy
   simp only[kQ,hy'] at h
   exact cI _ (lookup_mem h)
noncomputable def fW (X:Cx)(N:List aD)(sc:gD)(cl:List (aD×aB))(C:aB)(s₀:aG)(H₀:Hp)(ex:List aB):Cx:=
 { X with N:=N,s₀:=s₀,H₀:=H₀,env:=compEnvC sc cl C X.env,outer:=X.stack,ex:=ex,fn:=fun _=>false,pn:=[],xe:=fun _ _=>False }
structure CompScope (X:Cx)(N:List aD)(cap:List (Option Nat))(sc:gD):Prop where
 kind:sc.kind = .function
 nocell : ∀ y∈sc.names,y.2 ≠ .cell
 nm : ∀ y∈sc.names,y.2 = .local->sc.names.lookup y.1=some .local
 fre : ∀ y∈sc.names,y.2 = .free->X.env.scope.names.lookup y.1=some .cell \/ X.env.scope.names.lookup y.1=some .free
 len:cap.length=N.length
 cap : ∀ (i j:Nat),cap[i]?=some (some j) -> ∃ x,N[i]?=some x/\X.N[j]?=some x/\sc.names.lookup x=some .free
noncomputable def capt (cap:List (Option Nat))(σ:St):St:=cap.map fun o=>o.bind fun j=>(σ[j]?).join
def PIfs (X:Cx)(ifs:List aS)(t:TT):Prop:=
 ∀ (pins:List (aB×aT)) (s:aG) (σ:St) (H:Hp) (Q:Bool->Hp->Prop),Inv X pins σ H s->t σ H Q ->
  aO (aP X.prog X.w) X.A (forIn ifs true fun c r=>if r=true then do let ok ← isTrue c X.env (bC c X.env); pure (sT ok) else pure (sT r)) (TP X pins σ Q) X.xe s
noncomputable def tTrue:TT:=fun _ H Q=>Q true H
theorem pif_nil {X:Cx}:PIfs X [] tTrue:=fun _ _ _ H _ I h=>wpAny_tests_nil ⟨H,I,h⟩
def LcGo (cap:List (Option Nat))(J:It)(g:TG)(tc:TT)(te:TE)(σ:St)(H1:Hp)(Q:VK):Prop:=∀ D,H1 D=none ->
 ∃ W:Nat->Nat->List V->St->Hp->Prop,(∃ m,W 0 m [] (capt cap σ) (upd H1 D (.lst []))) /\
  ∀ i m ys σ' H',W i m ys σ' H'->H' D=some (.lst ys)/\((J.stop i H'/\Q (.ref D) H') \/
   (J.go i H'/\ys.length<sizeLine /\ ∃ M:List V->St->Hp->Prop,(∀ zs σ2 H2,M zs σ2 H2 -> ∃ m',m'<m/\W (i+1) m' zs σ2 H2) /\ ∀ x H2,J.yld i H' x H2->g x σ' H2 fun σ3 H3=>tc σ3 H3 fun b H4=>
    if b=true then te σ3 H4 fun y H5=>H5 D=some (.lst ys)/\M (ys++[y]) σ3 (upd H5 D (.lst (ys++[y]))) else M ys σ3 H4))
noncomputable def tLC (cap:List (Option Nat))(wi:TI)(g:TG)(tc:TT)(te:TE):TE:=fun σ H Q=>wi σ H fun J H1=>LcGo cap J g tc te σ H1 Q
section
variable {X:Cx}{N:List aD}{cap:List (Option Nat)}{sc:gD}{pins:List (aB×aT)}{σ:St}{H:Hp}{s:aG}
theorem CompScope.cells (S:CompScope X N cap sc)(ok:X.Ok) : ∀ n,(n,eW)∈sc.names -> ∃ c,X.env.cells.lookup n=some c:=fun n hn=>ok.has n (S.fre _ hn rfl)
theorem cxComp_ok (S:CompScope X N cap sc){fp:List aB}(I:Inv X pins σ H s)(hf : ∀ b∈fp,FpOk X pins H b)(hl : ∀ b∈fp,b<s.heap.objs.size) :
  (fW X N sc (eD X.env sc.names []) s.heap.objs.size s H fp).Ok:=by
 have sub : ∀ x c,(eD X.env sc.names []).lookup x=some c->X.env.cells.lookup x=some c:=xB sc.names [] (fun x c e=>by simp at e)
 refine⟨I.ok.mod,?_,I.ok.glob,I.ok.blt,bM _,?_,?_,?_,I.ok.hd,I.ok.frames,.inl rfl,?_,I.bs,kO I.ok.bsz I.sz,?_,?_,I.stack,I.stkFree⟩
 ·exact S.kind
 ·intro x y c h1 h2
  exact I.ok.inj x y c (sub x c h1) (sub y c h2)
 ·intro x hx
  have hk:(pR sc X.env).names.lookup x=some .cell \/ (pR sc X.env).names.lookup x=some .free:=hx
  have hfree:sc.names.lookup x=some .free:=by
   rw[CG] at hk
   cases e:sc.names.lookup x with
   | none=>rw[e] at hk; simp at hk
   | some k=>
    rw[e] at hk
    have hm:=lookup_mem e
    have nc:=S.nocell _ hm
    simp only[oB,pV] at hk
    by_cases hc:(k == eW&&X.env.scope.kind == .function&&X.env.kindOf x == some .cell)=true
    ·have:(k == eW)=true:=by
      simp only[zG] at hc; exact hc.1.1
     rw[show k=eW by simpa using this]
    ·rw[if_neg hc] at hk
     rcases hk with q | q
     ·exact absurd q nc
     ·rw[q]
  obtain⟨c,hc⟩:=S.cells I.ok x (lookup_mem hfree)
  exact⟨c,xC hc _ _ (lookup_mem hfree)⟩
 ·intro x c h1 _
  exact absurd (show false=true from h1) nF
 ·intro b hb
  refine⟨cK (hl b hb),fun x c e=>(hf b hb).2.2.2.2.1 x c (sub x c e)⟩
 ·intro b o e hb
  rcases(hf b hb).2.2.2.1 with z | z
  ·exact I.ok.noex b o e z
  ·exact absurd (gN (bK e) (kO I.ok.bsz z)) (jE _)
 ·intro b hb hz
  obtain⟨_,h1,h2,_⟩:=hf b hb
  rcases cN.mp (I.stkSub b hz) with e | e
  ·exact h1 e
  ·exact h2 e
theorem inv_comp (S:CompScope X N cap sc){fp:List aB}{h':aR}{tk:Nat}(I:Inv X pins σ H s)(hf : ∀ b∈fp,FpOk X pins H b)(hl : ∀ b∈fp,b<s.heap.objs.size)
  (hn:h'.Ns s.heap.objs.size fun _=>none) (hk : ∀ b o,s.heap.get? b=some o->h'.get? b=some o) :
  Inv (fW X N sc (eD X.env sc.names []) s.heap.objs.size s H fp) [] (capt cap σ) H { s with heap:=h',toks:=tk }:=by
 have sub : ∀ x c,(eD X.env sc.names []).lookup x=some c->X.env.cells.lookup x=some c:=xB sc.names [] (fun x c e=>by simp at e)
 have fr:H s.heap.objs.size=none:=I.hok.fresh (bM _)
 refine⟨cxComp_ok S I hf hl,rfl,I.bare,Un.kept hk,⟨_,hn,fun i x v e1 e2 e3=>?_⟩,fun x c e=>?_,fr,fun x c e=>I.freeC x c (sub x c e),fun p hp=>by simp[fW] at hp,I.hok.kept hk,?_⟩
 ·have e2':(cap.map fun o=>o.bind fun j=>(σ[j]?).join)[i]?=some (some v):=e2
  rw[eX] at e2'
  cases hc:cap[i]? with
  | none=>rw[hc] at e2'; simp at e2'
  | some o=>
   rw[hc] at e2'
   simp only[oB,pV] at e2'
   cases o with
   | none=>simp at e2'
   | some j=>
    have e2':(σ[j]?).join=some v:=e2'
    have ej:σ[j]?=some (some v):=by
     cases q:σ[j]? with
     | none=>rw[q] at e2'; simp at e2'
     | some z=>rw[q] at e2'; simp at e2'; rw[e2']
    obtain⟨y,n1,n2,fr1⟩:=S.cap i j hc
    have exy:x=y:=fA (e1.symm.trans n1)
    subst exy
    have hmem:=lookup_mem fr1
    have hkind:=S.fre _ hmem rfl
    obtain⟨m,_,hlk⟩:=I.loc
    obtain⟨u,r,l⟩:=hlk j x v n2 ej (.inr hkind)
    refine⟨u,r,.inr ⟨?_,?_⟩⟩
    ·show(pR sc X.env).names.lookup x=some .cell \/ (pR sc X.env).names.lookup x=some .free
     rw[CG,fr1]
     simp only[oB,pV]
     by_cases hc:(eW == eW&&X.env.scope.kind == .function&&X.env.kindOf x == some .cell)=true
     ·exact .inl (if_pos hc)
     ·exact .inr (if_neg hc)
    ·rcases l with⟨k1,_⟩ | ⟨_,c,hc1,hcell⟩
     ·exfalso
      have k1':X.env.scope.names.lookup x=some .local:=k1
      rcases hkind with q | q
      ·rw[k1'] at q; cases q
      ·rw[k1'] at q; cases q
     ·obtain⟨oc,h1,h2⟩:=hcell
      exact⟨c,xC hc1 _ _ hmem,oc,hk _ _ h1,h2⟩
 ·obtain⟨v,oc,h1,h2⟩:=I.cell x c (sub x c e)
  exact⟨v,oc,hk _ _ h1,h2⟩
 ·show(cap.map _).length=N.length
  rw[cU,S.len]
theorem comp_back {fp:List aB}{cl:List (aD×aB)}{σ':St}{H':Hp}{s':aG}{pl:List (aB×aT)}(I:Inv X pins σ H s)(hf : ∀ b∈fp,FpOk X pins H b)
  (I':Inv (fW X N sc cl s.heap.objs.size s H fp) pl σ' H' s'):Inv X pins σ H' s':=
 I.call' I'.os (show Un (frs X.stack) fp H H' s.heap s'.heap from I'.base) I'.hok I'.bare fun b hb=>⟨(hf b hb).2.2.2.1,(hf b hb).2.1,(hf b hb).2.2.2.2.1,(hf b hb).2.2.2.2.2⟩
end
section
variable {X:Cx}{N:List aD}{cap:List (Option Nat)}{sc:gD}{elt iter tg:aS}{ifs:List aS}{pos:bG}{wi:TI}{g:TG}{tc:TT}{te:TE}
def Block (X:Cx)(N:List aD)(sc:gD)(tg elt:aS)(ifs:List aS)(g:TG)(tc:TT)(te:TE):Prop:=
 ∀ (cl:List (aD×aB)) (C:aB) (s₀:aG) (H₀:Hp) (ex:List aB),PG (fW X N sc cl C s₀ H₀ ex) tg g/\PIfs (fW X N sc cl C s₀ H₀ ex) ifs tc/\PE (fW X N sc cl C s₀ H₀ ex) elt te
theorem lc_core {pins:List (aB×aT)}{σ:St}{H:Hp}{s:aG}{RR:aE->aB->lY->aG->Prop}{E:aE->aG->Prop}(hc:X.calm=true)(S:CompScope X N cap sc)(hb:Block X N sc tg elt ifs g tc te)
  {it:aB} {fp:List aB} {tn:Nat->aR->Prop} {J:It} {Q:VK} (I:Inv X pins σ H s) (T:Turn X.prog X.w X.K tg J fp it tn) (st:tn 0 s.heap) (hf : ∀ b∈fp,FpOk X pins H b)
  (q:LcGo cap J g tc te σ H Q)
  (hRR : ∀ (D:aB) (s₀:aG) (H₀:Hp) (σ':St) (H':Hp) (s':aG),Inv X pins σ H₀ s₀->(∀ b∈fp,FpOk X pins H₀ b)->Inv (fW X N sc (eD X.env sc.names []) s₀.heap.objs.size s₀ H₀ fp) [] σ' H' s'->Q (.ref D) H' ->
   RR (.ref D) s₀.heap.objs.size (.ok .next) s') :
  aO (aP X.prog X.w) X.A (newList []) (fun acc s₃=>aO (aP X.prog X.w) X.A (newFunctionEnv sc X.env.globals (eD X.env sc.names []) [] X.env.qual none .none (some X.env)) (fun cenv s₄=>
   gZ (aP X.prog X.w) X.A (.compStart (.ListComp elt [⟨tg,iter,ifs,0⟩] sc pos) 0 (.ref it) acc { cenv with scope:=pR sc X.env }) (RR acc cenv.locals) s₄) E s₃) E s:=by
 have hl : ∀ b∈fp,b<s.heap.objs.size:=fun b hb=>by
  obtain⟨o,e,_⟩:=T.obj 0 _ st b hb
  exact bK e
 refine uP (wpAny_newFunctionEnv S.nocell (by intro y hy; simp at hy) (fun h₁ hns₁ hsb₁=>?_) S.kind)
 dsimp only at hns₁ hsb₁ ⊢
 have I0:Inv X pins σ (upd H s.heap.objs.size (.lst [])) { s with heap:=s.heap.push { cls:=.type "list",data:=.seq ([]:List aE).toArray },toks:=s.toks }:=I.lnew (ys:=[]) .nil (by simp)
 obtain⟨W,⟨m0,w0⟩,turn⟩:=q s.heap.objs.size I.fresh
 generalize hs0:({ s with heap:=s.heap.push { cls:=.type "list",data:=.seq ([]:List aE).toArray },toks:=s.toks }:aG)=s0 at I0
 have hh:s.heap.push { cls:=.type "list",dict:=none,data:=.seq ([]:List aE).toArray }=s0.heap:=by rw[← hs0]
 have ht0:s0.toks=s.toks:=by rw[← hs0]
 have hg0:s0.gens=s.gens/\s0.drawn=s.drawn/\s0.os=s.os:=by rw[← hs0]; exact⟨rfl,rfl,rfl⟩
 rw[hh] at hns₁ hsb₁ ⊢
 have old0 : ∀ b o,s.heap.get? b=some o->s0.heap.get? b=some o:=fun b o e=>by rw[← hh]; exact cF _ e
 have old1 : ∀ b o,s0.heap.get? b=some o->h₁.get? b=some o:=fun b o e=>hsb₁.extBut b o (cK (bK e)) (cF _ e)
 have hl0 : ∀ b∈fp,b<s0.heap.objs.size:=fun b hb=>by
  obtain⟨o,e,_⟩:=T.obj 0 _ st b hb
  exact bK (old0 b o e)
 have hf0 : ∀ b∈fp,FpOk X pins (upd H s.heap.objs.size (.lst [])) b:=fun b hb=>by
  refine⟨?_,(hf b hb).2⟩
  rw[bH (cK (hl b hb))]
  exact(hf b hb).1
 have I1:Inv (fW X N sc (eD X.env sc.names []) s0.heap.objs.size s0 (upd H s.heap.objs.size (.lst [])) fp) [] (capt cap σ) (upd H s.heap.objs.size (.lst [])) { s0 with heap:=h₁,toks:=s.toks+0 }:=
  inv_comp S I0 hf0 hl0 hns₁ old1
 obtain⟨pg,pf,pe⟩:=hb (eD X.env sc.names []) s0.heap.objs.size s0 (upd H s.heap.objs.size (.lst [])) fp
 have st1:tn 0 h₁:=T.keep _ _ _ st fun b hb o e=>old1 b o (old0 b o e)
 have stat : ∀ {H':Hp},(∀ b∈fp,H' b=none) -> ∀ b∈fp,FpOk (fW X N sc (eD X.env sc.names []) s0.heap.objs.size s0 (upd H s.heap.objs.size (.lst [])) fp) [] H' b:=fun hn b hb=>
  ⟨hn b hb,(I1.ok.exf b hb).1,I1.ok.exfs b hb,.inl hb,(I1.ok.exf b hb).2,fun p hp=>by simp[fW] at hp⟩
 have loop : ∀ s3:aG,s3 = { s0 with heap:=h₁,toks:=s.toks+0 } ->
   gZ (aP X.prog X.w) X.A (.compLoop (.ListComp elt [⟨tg,iter,ifs,0⟩] sc pos) 0 (.ref it) (.ref s.heap.objs.size) (compEnvC sc (eD X.env sc.names []) s0.heap.objs.size X.env)) (RR (.ref s.heap.objs.size) s0.heap.objs.size) s3:=by
  rintro s3 rfl
  refine compLoop_wp (fun n s'=>∃ i ys σ' H',Inv (fW X N sc (eD X.env sc.names []) s0.heap.objs.size s0 (upd H s.heap.objs.size (.lst [])) fp) [] σ' H' s'/\tn i s'.heap/\(∀ b∈fp,H' b=none)/\W i n ys σ' H') ?_ m0
   ⟨0,[],capt cap σ,_,I1,st1,fun b hb=>(hf0 b hb).1,w0⟩
  rintro n s3 ⟨i,ys,σ3,H3,I3,st3,fr3,w3⟩
  obtain⟨hD,h3⟩:=turn i n ys σ3 H3 w3
  rcases h3 with⟨stop,qn⟩ | ⟨go,hlen,M,hM,step⟩
  ·refine thn (T.done (fW X N sc (eD X.env sc.names []) s0.heap.objs.size s0 (upd H s.heap.objs.size (.lst [])) fp) rfl rfl rfl hc i [] s3 σ3 H3 (fun _ _=>False) I3 (stat fr3) st3 stop) fun r s4 gh=>?_
   obtain⟨hr,I4⟩:=gh
   subst hr
   exact hRR _ s0 _ σ3 H3 s4 I0 hf0 I4 qn
  ·refine thn (T.item (fW X N sc (eD X.env sc.names []) s0.heap.objs.size s0 (upd H s.heap.objs.size (.lst [])) fp) rfl rfl rfl hc i [] s3 σ3 H3 (fun _ _=>False) I3 (stat fr3) st3 go) fun r s4 gh=>?_
   obtain⟨u,hr,h4⟩:=gh
   subst hr
   refine thn h4 fun _ s5 gh=>?_
   obtain⟨x,H5,I5,r5,y5,st5,fr5⟩:=gh
   have I5':=I5.pinned (stat fr5) (T.obj _ _ st5)
   refine thn (pg _ s5 σ3 H5 x u _ I5' r5 (step x H5 y5)) fun _ s6 gh=>?_
   obtain⟨σ6,H6,I6,q6⟩:=gh
   refine thn (pf _ s6 σ6 H6 _ I6 q6) fun b s7 gh=>?_
   obtain⟨H7,I7,q7⟩:=gh
   have again : ∀ {s8:aG} {H8:Hp} {zs:List V},Inv (fW X N sc (eD X.env sc.names []) s0.heap.objs.size s0 (upd H s.heap.objs.size (.lst [])) fp) ([]++qJ fp s5.heap) σ6 H8 s8->M zs σ6 H8 ->
     ∃ m,m<n /\ ∃ i ys σ' H',Inv (fW X N sc (eD X.env sc.names []) s0.heap.objs.size s0 (upd H s.heap.objs.size (.lst [])) fp) [] σ' H' s8/\tn i s8.heap/\(∀ b∈fp,H' b=none)/\W i m ys σ' H':=fun {s8 H8 zs} I8 w8=>by
    obtain⟨m',hm,w8⟩:=hM _ _ _ w8
    refine⟨m',hm,i+1,zs,σ6,H8,I8.unpinned,T.keep _ _ _ st5 fun b hb o e=>(I8.pin (b,o) (lF _ (lF _ (uC hb e)))).1,fun b hb=>?_,w8⟩
    obtain⟨o,e,d⟩:=T.obj _ _ st5 b hb
    exact(I8.pin (b,o) (lF _ (lF _ (uC hb e)))).2.1
   cases b with
   | false=>
    rw[if_neg nF] at q7 ⊢
    exact again I7 q7
   | true=>
    rw[if_pos rfl] at q7 ⊢
    refine thn (pe _ s7 σ6 H7 _ I7 q7) fun v s8 gh=>?_
    obtain⟨y,H8,I8,r8,hD8,w8⟩:=gh
    refine thn (wK _ s8 σ6 H8 (.ref s.heap.objs.size) [y] (.ref s.heap.objs.size) [v] (fun _ H9=>H9=upd H8 s.heap.objs.size (.lst (ys++[y]))) I8 rfl (.cons r8 .nil) ⟨_,ys,y,rfl,rfl,hD8,hlen,rfl⟩) fun _ s9 gh=>?_
    obtain⟨_,H9,I9,_,e9⟩:=gh
    subst e9
    exact again I9 w8
 have e3:({ s with heap:=h₁,toks:=s.toks+([]:List (aD×aE)).length }:aG) = { s0 with heap:=h₁,toks:=s.toks+0 }:=by
  rw[← hs0]; rfl
 have fin:=codeAny_compStart_list (loop _ rfl) (T.self X.A 0 _ _ _ st1 (loop _ rfl))
 rw[← e3] at fin
 exact fin
theorem pe_lc (hc:X.calm=true)(S:CompScope X N cap sc)(hi:PI X tg iter wi)(hb:Block X N sc tg elt ifs g tc te)(hs : ∀ x,nY iter X.env x=pure x:=by intro _; rfl) :
  PE X (.ListComp elt [⟨tg,iter,ifs,0⟩] sc pos) (tLC cap wi g tc te):=by
 intro pins s σ H Q I h
 rw[eval_ListComp]
 refine wpAny_comprehension_free rfl hs (CS (S.cells I.ok)) S.kind S.nm (thn (hi pins s σ H _ I h) fun v s1 h1=>thn h1 fun itv s2 h2=>?_)
 obtain⟨it,fp,tn,J,H2,e,I2,T,st2,f2,q2⟩:=h2
 subst e
 refine lc_core hc S hb I2 T st2 f2 q2 ?_
 intro D s₀ H₀ σ' H' s' I0 f0 I' qD
 obtain⟨m,hn,_⟩:=id I'.loc
 have IX:=comp_back I0 f0 I'
 refine⟨m,hn,fun h' hs'=>⟨.ref D,H',?_,rfl,qD⟩⟩
 exact IX.turned (fun b o hb e=>(hs'.2 b hb).trans e) I'.free (lE I0.lt) (.inr I0.sz) (fun x c e z=>by
  obtain⟨v,oc,h1,_⟩:=I0.cell x c e
  exact absurd (bK h1) (by rw[z]; exact jE _)) fun p hp z=>by
   have h1:=(I0.pin p hp).1
   exact absurd (bK h1) (by rw[z]; exact jE _)
theorem ps_setLC {i:Nat}{x:aD}{px spos:bG}(hc:X.calm=true)(hN:X.N.Nodup)(hi':X.N[i]?=some x)(hx:jV X.env.scope x)(S:CompScope X N cap sc)(hi:PI X tg iter wi)(hb:Block X N sc tg elt ifs g tc te)
  (hsw:iW (.ListComp elt [⟨tg,iter,ifs,0⟩] sc pos) (some (.Name x px)) spos.line X.env=pure true:=by rfl)
  (hs : ∀ x,nY iter X.env x=pure x:=by intro _; rfl) (hf:X.fn x=true \/ X.env.scope.names.lookup x=some .local:=by first | exact .inl rfl | exact .inr rfl | assumption) :
  PS X (.Assign [.Name x px] (.ListComp elt [⟨tg,iter,ifs,0⟩] sc pos) spos) (tAsg (tLC cap wi g tc te) (gName i)):=by
 intro pins s σ H D I h
 rw[exec_Assign_Name_used _ _ _ _ hsw]
 refine aL (wpAny_standAt (aL ?_))
 refine aL (gY (wpAny_comprehension_free rfl hs (CS (S.cells I.ok)) S.kind S.nm
  (thn (hi pins s σ H _ I h) fun v s1 h1=>thn h1 fun itv s2 h2=>?_)) (fun _ s' hq=>bB (bB hq)) fun _ _ e=>e)
 obtain⟨it,fp,tn,J,H2,e,I2,T,st2,f2,q2⟩:=h2
 subst e
 refine lc_core hc S hb I2 T st2 f2 q2 ?_
 intro D' s₀ H₀ σ' H' s' I0 f0 I' qD
 obtain⟨m,hn,_⟩:=id I'.loc
 have IX:=comp_back I0 f0 I'
 have cellNe : ∀ x c,X.env.cells.lookup x=some c->c≠s₀.heap.objs.size:=fun x c e z=>by
  obtain⟨v,oc,h1,_⟩:=I0.cell x c e
  exact absurd (bK h1) (by rw[z]; exact jE _)
 refine wpAny_assign_Name (zK IX hN hi' hx (show RelV (.ref D') (.ref D') from rfl) (fun s3 I3 ch=>?_) hf)
 obtain⟨a,sb,ha⟩:=ch
 have hne:s₀.heap.objs.size≠a:=by
  rcases ha with z | z
  ·rw[z]; exact lE I0.lt
  ·exact fun q=>cellNe x a z q.symm
 refine⟨m,Heap.Ns.sameBut hn sb hne,fun h' hs'=>⟨_,H',?_,qD⟩⟩
 exact I3.turned (fun b o hb e=>(hs'.2 b hb).trans e) I'.free (lE I0.lt) (.inr I0.sz) cellNe fun p hp z=>by
  have h1:=(I0.pin p hp).1
  exact absurd (bK h1) (by rw[z]; exact jE _)
end
noncomputable def compChk (out:List (aD×jT))(XN N:List aD)(cap:List (Option Nat))(ns:List (aD×jT)):Bool:=
 ns.all (fun y=>y.2 != .cell)&&ns.all (fun y=>y.2 != .local||ns.lookup y.1 == some .local)&&ns.all (fun y=>y.2 != .free||out.lookup y.1 == some .cell||out.lookup y.1 == some .free) &&
 cap.length == N.length&&(cap.zip N).all (fun p=>match p.1 with | none=>true | some j=>XN[j]? == some p.2&&ns.lookup p.2 == some .free)
theorem lQ {X:Cx}{N:List aD}{cap:List (Option Nat)}{sc:gD}{out:List (aD×jT)}{XN:List aD}(h1:X.env.scope.names=out)(h2:X.N=XN)(chk:compChk out XN N cap sc.names=true)(hk:sc.kind = .function):CompScope X N cap sc:=by
 unfold compChk at chk
 simp only[zG,gV,bne_iff_ne,ne_eq,Bool.or_eq_true,beq_iff_eq] at chk
 obtain⟨⟨⟨⟨c1,c2⟩,c3⟩,c4⟩,c5⟩:=chk
 refine⟨hk,c1,fun y hy e=>?_,fun y hy e=>?_,c4,fun i j e=>?_⟩
 ·rcases c2 y hy with q | q
  ·exact absurd e q
  ·exact q
 ·rw[h1]
  rcases c3 y hy with(q | q) | q
  ·exact absurd e q
  ·exact .inl q
  ·exact .inr q
 ·have hi:=(eK.mp e).1
  have hi':i<N.length:=by omega
  have hm:(cap[i],N[i])∈cap.zip N:=by
   have:(cap.zip N)[i]?=some (cap[i],N[i]):=by
    rw[List.getElem?_zip_eq_some]
    exact⟨jH hi,jH hi'⟩
   exact nD this
  have q:=c5 _ hm
  have ec:cap[i]=some j:=by
   rw[jH hi] at e
   exact fA e
  rw[ec] at q
  simp only[zG,beq_iff_eq] at q
  exact⟨N[i],jH hi',by rw[h2]; exact q.1,q.2⟩
abbrev Ext (H H':Hp):Prop:=∀ b o,H b=some o->H' b=some o
theorem Ext.refl {H:Hp}:Ext H H:=fun _ _ e=>e
theorem Ext.trans {H H1 H2:Hp}(a:Ext H H1)(b:Ext H1 H2):Ext H H2:=fun x o e=>b x o (a x o e)
theorem Ext.new {H:Hp}{p:aB}{o:HO}(n:H p=none):Ext H (upd H p o):=fun b u e=>by
 rw[bH (fP e n)]; exact e
theorem Ext.rd {H H':Hp}(x:Ext H H'){a:aB}{u:HO}(r:Rd H a u):Rd H' a u:=by
 rcases r with r | ⟨o,r⟩
 ·exact .inl (x _ _ r)
 ·exact .inr ⟨o,x _ _ r⟩
theorem Ext.sqL {K:aI}{H H':Hp}(x:Ext H H'){a:aB}{xs:List V}(h:SqL K H a xs):SqL K H' a xs:=h.imp x.rd id
theorem Ext.none {H H':Hp}(x:Ext H H'){a:aB}(h:H' a=yU):H a=yU:=by
 cases e:H a with
 | none=>rfl
 | some o=>rw[x a o e] at h; cases h
theorem Ext.ty {K:aI}{H H':Hp}(x:Ext H H'){v:V}{t:aE}(h:TyOf K H v t):TyOf K H' v t:=by
 cases h with
 | non=>exact .non
 | bl b=>exact .bl b
 | int i=>exact .int i
 | str y=>exact .str y
 | flt y=>exact .flt y
 | lst e=>exact .lst (x _ _ e)
 | frz e=>exact .frz (x _ _ e)
 | tup e=>exact .tup (x _ _ e)
 | dK e=>exact .dK (x _ _ e)
 | dT e=>exact .dT (x _ _ e)
 | ins e cl ha hn htk hm=>exact .ins (x _ _ e) cl ha hn htk hm
open Classical in
noncomputable def hid (H:Hp)(P:aB->Prop):Hp:=fun a=>if P a then none else H a
theorem Ac6 {H:Hp}{P:aB->Prop}{a:aB}{o:HO}:hid H P a=some o ↔ ¬ P a/\H a=some o:=by
 unfold hid
 by_cases h:P a <;> simp[h]
theorem fY {H:Hp}{P:aB->Prop}{a:aB}{o:HO}(n : ¬ P a)(e:H a=some o):hid H P a=some o:=Ac6.mpr ⟨n,e⟩
theorem Aa3 {H:Hp}{P:aB->Prop}:Ext (hid H P) H:=fun _ _ e=>(Ac6.mp e).2
theorem cT {H H':Hp}{P:aB->Prop}(x:Ext H H'):Ext (hid H P) (hid H' P):=fun b o e=>by
 obtain⟨n,e⟩:=Ac6.mp e
 exact fY n (x b o e)
theorem gC {H:Hp}{P P':aB->Prop}(s : ∀ a,P' a->P a):Ext (hid H P) (hid H P'):=fun b o e=>by
 obtain⟨n,e⟩:=Ac6.mp e
 exact fY (fun q=>n (s b q)) e
inductive DQ where
 | inl (kvs:Nat×List (aM×V)) | inr (ts:Nat×List (List aA×V)) | ins (C dx:aB) (fs:List (aD×V))
noncomputable def dO:DQ->HO
 | .inl kvs=>.dK kvs.1 kvs.2
 | .inr ts=>.dT ts.1 ts.2
 | .ins C dx fs=>.ins C dx fs
def Hid (P:aB->Prop)(H:Hp):Prop:=∀ a,P a->(∃ xs,H a=some (.lst xs)) \/ ∃ q:DQ,H a=some (dO q)
theorem Hid.ext {P:aB->Prop}{H H':Hp}(h:Hid P H)(x:Ext H H'):Hid P H':=fun a p=>(h a p).imp (fun⟨xs,e⟩=>⟨xs,x _ _ e⟩) fun⟨xs,e⟩=>⟨xs,x _ _ e⟩
theorem Hid.new {P:aB->Prop}{H:Hp}(h:Hid P H){a:aB}(n:H a=none) : ¬ P a:=fun p=>by
 rcases h a p with⟨xs,e⟩ | ⟨xs,e⟩ <;> rw[n] at e <;> cases e
theorem Hid.tup {P:aB->Prop}{H:Hp}(h:Hid P H){a:aB}{xs:List V}(e:H a=some (.tup xs)):hid H P a=some (.tup xs):=fY (fun p=>by
 rcases h a p with⟨ys,e2⟩ | ⟨ys,e2⟩ <;> rw[e] at e2 <;> first | cases e2 | (cases ys <;> simp[dO] at e2)) e
abbrev orL (P:aB->Prop)(F:List aB):aB->Prop:=fun a=>P a \/ a∈F
theorem orL_nil {P:aB->Prop}:orL P []=P:=by
 funext a
 simp[orL]
noncomputable def kD:aM->aA
 | .inl i=>.int i
 | .inr x=>.str x
noncomputable def oddO (a:aB)(kvs:Nat×List (V×V)):HO:=.ext fun h=>kvs.2.length≤sizeLine/\(a == gK)=false /\ ∃ o es,h.get? a=some o/\o.ExactDict/\o.data = .dict es kvs.1/\cZ (fun(p:V×V) (e:mF)=>RelV p.1 e.key/\RelV p.2 e.val) kvs.2 es.toList
noncomputable def cY (K:aI)(c:aD):Option aE:=(cH K bR c).join
def ExAt (x:aB)(cls:aE)(h:aR):Prop:=∃ o,h.get? x=some o/\o.cls=cls /\ ∃ vs,o.data = .fields vs
noncomputable def exO (cls:aE)(a:aB):HO:=.ext (ExAt a cls)
def RepX (K:aI)(H:Hp)(kds:List (aA×aA))(a:aB):Prop:=(∃ c cls,kds=[(.none,.str c),(.none,.none)]/\cY K c=some cls/\H a=some (exO cls a)) \/ ∃ c,kds=[(.none,.str c),(.none,.bool false)]/\cY K c=some (.ref a)
theorem RepX.mark {K:aI}{H:Hp}{kds:List (aA×aA)}{a:aB}(h:RepX K H kds a) : ∃ c m,kds=[(.none,.str c),(.none,m)]:=by
 rcases h with⟨c,_,e,_⟩ | ⟨c,e,_⟩
 ·exact⟨c,_,e⟩
 ·exact⟨c,_,e⟩
theorem RepX.ext {K:aI}{H H':Hp}(x:Ext H H'){kds:List (aA×aA)}{a:aB}(h:RepX K H kds a):RepX K H' kds a:=h.imp (fun⟨c,cls,e,h1,h2⟩=>⟨c,cls,e,h1,x _ _ h2⟩) id
mutual
def Abb (K:aI)(H:Hp):aA->V->Prop
 | .none,v=>v = .non
 | .bool b,v=>v = .bl b
 | .int i,v=>v = .int i
 | .str x,v=>v = .str x/\cQ (.str x)=true
 | .list ds,v=>∃ a xs,v = .ref a/\SqL K H a xs/\Aaq K H ds xs
 | .tuple ds,v=>∃ a xs,v = .ref a/\H a=some (.tup xs)/\Aaq K H ds xs
 | .dict kds,v=>∃ a,v = .ref a/\((∃ kvs:Nat×List (aM×V),H a=some (.dK kvs.1 kvs.2)/\Abj K H kds kvs.2) \/ (∃ ts:Nat×List (List aA×V),H a=some (.dT ts.1 ts.2)/\RepT K H kds ts.2) \/ (∃ xs,H a=some (oddO a xs)/\RepE K H kds xs.2) \/ RepX K H kds a \/ RepI K H kds a)
def Aaq (K:aI)(H:Hp):List aA->List V->Prop
 | [],xs=>xs=[]
 | d::ds,xs=>∃ x r,xs=x::r/\Abb K H d x/\Aaq K H ds r
def Abj (K:aI)(H:Hp):List (aA×aA)->List (aM×V)->Prop
 | [],xs=>xs=[]
 | (k,d)::ds,xs=>∃ k' x r,xs=(k',x)::r/\k=kD k'/\Abb K H d x/\Abj K H ds r
def Acg (K:aI)(H:Hp):List (aA×aA)->List (List aA×V)->Prop
 | [],xs=>xs=[]
 | (k,d)::ds,xs=>∃ k' x r,xs=(k',x)::r/\(k = .tuple k'/\cJ k'=true)/\Abb K H d x/\Acg K H ds r
def RepT (K:aI)(H:Hp):List (aA×aA)->List (List aA×V)->Prop
 | [],_=>False
 | (k,_)::ds,xs=>k = .none/\Acg K H ds xs
def RepE (K:aI)(H:Hp):List (aA×aA)->List (V×V)->Prop
 | [],_=>False
 | (k,m)::ds,xs=>k = .none/\ds=[(.none,.none)]/\Aoz K H m xs
def Aoz (K:aI)(H:Hp):aA->List (V×V)->Prop
 | .list es,xs=>Ag9 K H es xs
 | _,_=>False
def Ag9 (K:aI)(H:Hp):List aA->List (V×V)->Prop
 | [],xs=>xs=[]
 | d::ds,xs=>∃ x r,xs=x::r/\Aj1 K H d x/\Ag9 K H ds r
def Aj1 (K:aI)(H:Hp):aA->V×V->Prop
 | .tuple ds,x=>Aaq K H ds [x.1,x.2]
 | _,_=>False
def RepI (K:aI)(H:Hp):List (aA×aA)->aB->Prop
 | [],_=>False
 | (k,m)::ds,a=>k = .none /\ ∃ c C dx fs,m = .str c/\cY K c=some (.ref C)/\H a=some (.ins C dx fs)/\Ahd K H ds fs
def Ahd (K:aI)(H:Hp):List (aA×aA)->List (aD×V)->Prop
 | [],fs=>fs=[]
 | (k,m)::ds,fs=>∃ f x r,fs=(f,x)::r/\k = .none/\Aj1 K H m (.str f,x)/\Ahd K H ds r
end
noncomputable def plK:List (aA×aA)->Bool
 | (.none,_)::_=>false
 | _=>true
section
variable {K:aI}{H H':Hp}
theorem Abz {v:V}:Abb K H .none v↔v = .non:=by simp[Abb]
theorem Aat {b:Bool}{v:V}:Abb K H (.bool b) v↔v = .bl b:=by simp[Abb]
theorem Aam {b:Int}{v:V}:Abb K H (.int b) v↔v = .int b:=by simp[Abb]
theorem Aap {b:aD}{v:V}:Abb K H (.str b) v↔v = .str b/\cQ (.str b)=true:=by simp only[Abb]
theorem Aa9 {ds:List aA}{v:V}:Abb K H (.list ds) v ↔ ∃ a xs,v = .ref a/\SqL K H a xs/\Aaq K H ds xs:=by simp only[Abb]
theorem Aa1 {ds:List aA}{v:V}:Abb K H (.tuple ds) v ↔ ∃ a xs,v = .ref a/\H a=some (.tup xs)/\Aaq K H ds xs:=by simp only[Abb]
theorem Abn {ds:List (aA×aA)}{v:V}:Abb K H (.dict ds) v ↔ ∃ a,v = .ref a/\((∃ kvs:Nat×List (aM×V),H a=some (.dK kvs.1 kvs.2)/\Abj K H ds kvs.2) \/ (∃ ts:Nat×List (List aA×V),H a=some (.dT ts.1 ts.2)/\RepT K H ds ts.2) \/ (∃ xs,H a=some (oddO a xs)/\RepE K H ds xs.2) \/ RepX K H ds a \/ RepI K H ds a):=by simp only[Abb]
theorem Agl {k m:aA}{ds:List (aA×aA)}{a:aB}:RepI K H ((k,m)::ds) a↔k = .none /\ ∃ c C dx fs,m = .str c/\cY K c=some (.ref C)/\H a=some (.ins C dx fs)/\Ahd K H ds fs:=by simp only[RepI]
theorem Aiq {fs:List (aD×V)}:Ahd K H [] fs↔fs=[]:=by simp[Ahd]
theorem Ac0 {k m:aA}{ds:List (aA×aA)}{fs:List (aD×V)}:Ahd K H ((k,m)::ds) fs ↔ ∃ f x r,fs=(f,x)::r/\k = .none/\Aj1 K H m (.str f,x)/\Ahd K H ds r:=by simp only[Ahd]
theorem AQ : ∀ {ds:List (aA×aA)} {fs:List (aD×V)},Ahd K H ds fs -> ∀ p∈ds,p.1 = .none
 | [],_,_,p,m=>by simp at m
 | (k,d)::ds,fs,h,p,m=>by
  obtain⟨_,_,_,_,rfl,_,h2⟩:=Ac0.mp h
  rcases cN.mp m with rfl | m
  ·rfl
  ·exact AQ h2 p m
theorem tH {ds:List (aA×aA)}{a:aB}(h:RepX K H ds a \/ RepI K H ds a) : ∃ c r,ds=(.none,.str c)::r /\ ∀ p∈r,p.1 = .none:=by
 rcases h with h | h
 ·obtain⟨c,m,rfl⟩:=h.mark
  exact⟨c,_,rfl,fun p m=>by rw[dG.mp m]⟩
 ·cases ds with
  | nil=>simp[RepI] at h
  | cons p r=>
   obtain⟨k,m⟩:=p
   obtain⟨rfl,c,_,_,_,rfl,_,_,h2⟩:=Agl.mp h
   exact⟨c,r,rfl,AQ h2⟩
theorem Afu {k m:aA}{ds:List (aA×aA)}{xs:List (V×V)}:RepE K H ((k,m)::ds) xs↔k = .none/\ds=[(.none,.none)]/\Aoz K H m xs:=by simp only[RepE]
theorem repm_list {m:aA}{xs:List (V×V)}(h:Aoz K H m xs) : ∃ es,m = .list es/\Ag9 K H es xs:=by
 cases m with
 | list es=>exact⟨es,rfl,by simpa only[Aoz] using h⟩
 | _=>simp[Aoz] at h
theorem repe_nil {xs:List (V×V)}:Ag9 K H [] xs↔xs=[]:=by simp[Ag9]
theorem An8 {d:aA}{ds:List aA}{xs:List (V×V)}:Ag9 K H (d::ds) xs ↔ ∃ x r,xs=x::r/\Aj1 K H d x/\Ag9 K H ds r:=by simp only[Ag9]
theorem pD {ds:List (aA×aA)}{xs:List (V×V)}(h:RepE K H ds xs) : ∃ es,ds=[(.none,.list es),(.none,.none)]/\Ag9 K H es xs:=by
 cases ds with
 | nil=>simp[RepE] at h
 | cons p r=>
  obtain⟨k,m⟩:=p
  obtain⟨rfl,rfl,h1⟩:=Afu.mp h
  obtain⟨es,rfl,h2⟩:=repm_list h1
  exact⟨es,rfl,h2⟩
theorem Acn {xs:List (List aA×V)}:Acg K H [] xs↔xs=[]:=by simp[Acg]
theorem Abp {k d:aA}{ds:List (aA×aA)}{xs:List (List aA×V)}:Acg K H ((k,d)::ds) xs ↔ ∃ k' x r,xs=(k',x)::r/\(k = .tuple k'/\cJ k'=true)/\Abb K H d x/\Acg K H ds r:=by simp only[Acg]
theorem Ack {k m:aA}{ds:List (aA×aA)}{xs:List (List aA×V)}:RepT K H ((k,m)::ds) xs↔k = .none/\Acg K H ds xs:=by simp only[RepT]
theorem rept_not {ds:List (aA×aA)}{xs:List (List aA×V)}(hk:plK ds=true) : ¬ RepT K H ds xs:=by
 cases ds with
 | nil=>simp[RepT]
 | cons p r=>
  obtain⟨k,d⟩:=p
  intro h
  rw[(Ack.mp h).1] at hk
  simp[plK] at hk
theorem qV {ds:List (aA×aA)}{v:V}(hk:plK ds=true):Abb K H (.dict ds) v ↔ ∃ a,∃ kvs:Nat×List (aM×V),v = .ref a/\H a=some (.dK kvs.1 kvs.2)/\Abj K H ds kvs.2:=by
 rw[Abn]
 constructor
 ·rintro⟨a,e,⟨kvs,h,r⟩ | ⟨ts,h,r⟩ | ⟨xs,h,r⟩ | r⟩
  case inr.inr.inr=>
   obtain⟨_,_,rfl,_⟩:=tH r
   simp[plK] at hk
  ·exact⟨a,kvs,e,h,r⟩
  ·exact absurd r (rept_not hk)
  ·obtain⟨es,rfl,_⟩:=pD r
   simp[plK] at hk
 ·rintro⟨a,kvs,e,h,r⟩
  exact⟨a,e,.inl ⟨kvs,h,r⟩⟩
theorem wN {ds:List (aA×aA)}{v:V}{a:aB}{kvs:Nat×List (aM×V)}(e:v = .ref a)(h:H a=some (.dK kvs.1 kvs.2))(r:Abj K H ds kvs.2):Abb K H (.dict ds) v:=Abn.mpr ⟨a,e,.inl ⟨kvs,h,r⟩⟩
theorem Aal {xs:List V}:Aaq K H [] xs↔xs=[]:=by simp[Aaq]
theorem Aad {d:aA}{ds:List aA}{xs:List V}:Aaq K H (d::ds) xs ↔ ∃ x r,xs=x::r/\Abb K H d x/\Aaq K H ds r:=by simp only[Aaq]
theorem Aba {xs:List (aM×V)}:Abj K H [] xs↔xs=[]:=by simp[Abj]
theorem Aav {k d:aA}{ds:List (aA×aA)}{xs:List (aM×V)}:Abj K H ((k,d)::ds) xs ↔ ∃ k' x r,xs=(k',x)::r/\k=kD k'/\Abb K H d x/\Abj K H ds r:=by simp only[Abj]
theorem mW {m:aA}{ds:List (aA×aA)}{v:V}(hm : ∀ es,m ≠ .list es:=by intro _ z; cases z)(hm2 : ∀ c,m ≠ .str c:=by intro _ z; cases z):Abb K H (.dict ((.none,m)::ds)) v ↔ ∃ a,∃ ts:Nat×List (List aA×V),v = .ref a/\H a=some (.dT ts.1 ts.2)/\Acg K H ds ts.2:=by
 rw[Abn]
 constructor
 ·rintro⟨a,e,⟨kvs,h,r⟩ | ⟨ts,h,r⟩ | ⟨xs,h,r⟩ | r⟩
  case inr.inr.inr=>
   obtain⟨_,_,z,_⟩:=tH r
   cases z
   exact absurd rfl (hm2 _)
  ·obtain⟨k',_,_,_,ek,_⟩:=Aav.mp r
   cases k' <;> simp[kD] at ek
  ·exact⟨a,ts,e,h,(Ack.mp r).2⟩
  ·obtain⟨es,z,_⟩:=pD r
   cases z
   exact absurd rfl (hm es)
 ·rintro⟨a,ts,e,h,r⟩
  exact⟨a,e,.inr (.inl ⟨ts,h,Ack.mpr ⟨rfl,r⟩⟩)⟩
end
mutual
theorem Abb.ext {K:aI}{H H':Hp}(x:Ext H H') : ∀ {d:aA} {v:V},Abb K H d v->Abb K H' d v
 | .none,_,h=>Abz.mpr (Abz.mp h)
 | .bool _,_,h=>Aat.mpr (Aat.mp h)
 | .int _,_,h=>Aam.mpr (Aam.mp h)
 | .str _,_,h=>Aap.mpr (Aap.mp h)
 | .list ds,_,h=>by
  obtain⟨a,xs,e,s,r⟩:=Aa9.mp h
  exact Aa9.mpr ⟨a,xs,e,x.sqL s,Aaq.ext x r⟩
 | .tuple ds,_,h=>by
  obtain⟨a,xs,e,s,r⟩:=Aa1.mp h
  exact Aa1.mpr ⟨a,xs,e,x _ _ s,Aaq.ext x r⟩
 | .dict ds,_,h=>by
  obtain⟨a,e,⟨kvs,r,q⟩ | ⟨ts,r,q⟩ | ⟨xs,r,q⟩ | r⟩:=Abn.mp h
  ·exact Abn.mpr ⟨a,e,.inl ⟨kvs,x _ _ r,Abj.ext x q⟩⟩
  ·exact Abn.mpr ⟨a,e,.inr (.inl ⟨ts,x _ _ r,RepT.ext x q⟩)⟩
  ·exact Abn.mpr ⟨a,e,.inr (.inr (.inl ⟨xs,x _ _ r,RepE.ext x q⟩))⟩
  ·exact Abn.mpr ⟨a,e,.inr (.inr (.inr (r.imp (fun r=>r.ext x) fun r=>RepI.ext x r)))⟩
theorem RepI.ext {K:aI}{H H':Hp}(x:Ext H H') : ∀ {ds:List (aA×aA)} {a:aB},RepI K H ds a->RepI K H' ds a
 | [],_,h=>absurd h (by simp[RepI])
 | (k,d)::ds,_,h=>by
  obtain⟨e,c,C,dx,fs,e1,e2,e3,h2⟩:=Agl.mp h
  exact Agl.mpr ⟨e,c,C,dx,fs,e1,e2,x _ _ e3,Ahd.ext x h2⟩
theorem Ahd.ext {K:aI}{H H':Hp}(x:Ext H H') : ∀ {ds:List (aA×aA)} {fs:List (aD×V)},Ahd K H ds fs->Ahd K H' ds fs
 | [],_,h=>Aiq.mpr (Aiq.mp h)
 | (k,d)::ds,_,h=>by
  obtain⟨f,y,r,e,ek,h1,h2⟩:=Ac0.mp h
  exact Ac0.mpr ⟨f,y,r,e,ek,Aj1.ext x h1,Ahd.ext x h2⟩
theorem Aaq.ext {K:aI}{H H':Hp}(x:Ext H H') : ∀ {ds:List aA} {vs:List V},Aaq K H ds vs->Aaq K H' ds vs
 | [],_,h=>Aal.mpr (Aal.mp h)
 | d::ds,_,h=>by
  obtain⟨y,r,e,h1,h2⟩:=Aad.mp h
  exact Aad.mpr ⟨y,r,e,Abb.ext x h1,Aaq.ext x h2⟩
theorem Abj.ext {K:aI}{H H':Hp}(x:Ext H H') : ∀ {ds:List (aA×aA)} {vs:List (aM×V)},Abj K H ds vs->Abj K H' ds vs
 | [],_,h=>Aba.mpr (Aba.mp h)
 | (k,d)::ds,_,h=>by
  obtain⟨k',y,r,e,ek,h1,h2⟩:=Aav.mp h
  exact Aav.mpr ⟨k',y,r,e,ek,Abb.ext x h1,Abj.ext x h2⟩
theorem Acg.ext {K:aI}{H H':Hp}(x:Ext H H') : ∀ {ds:List (aA×aA)} {vs:List (List aA×V)},Acg K H ds vs->Acg K H' ds vs
 | [],_,h=>Acn.mpr (Acn.mp h)
 | (k,d)::ds,_,h=>by
  obtain⟨k',y,r,e,ek,h1,h2⟩:=Abp.mp h
  exact Abp.mpr ⟨k',y,r,e,ek,Abb.ext x h1,Acg.ext x h2⟩
theorem RepT.ext {K:aI}{H H':Hp}(x:Ext H H') : ∀ {ds:List (aA×aA)} {vs:List (List aA×V)},RepT K H ds vs->RepT K H' ds vs
 | [],_,h=>absurd h (by simp[RepT])
 | (k,d)::ds,_,h=>Ack.mpr ⟨(Ack.mp h).1,Acg.ext x (Ack.mp h).2⟩
theorem RepE.ext {K:aI}{H H':Hp}(x:Ext H H') : ∀ {ds:List (aA×aA)} {vs:List (V×V)},RepE K H ds vs->RepE K H' ds vs
 | [],_,h=>absurd h (by simp[RepE])
 | (k,d)::ds,_,h=>Afu.mpr ⟨(Afu.mp h).1,(Afu.mp h).2.1,Aoz.ext x (Afu.mp h).2.2⟩
theorem Aoz.ext {K:aI}{H H':Hp}(x:Ext H H') : ∀ {d:aA} {vs:List (V×V)},Aoz K H d vs->Aoz K H' d vs
 | .list es,_,h=>by
  rw[Aoz] at h ⊢
  exact Ag9.ext x h
 | .none,_,h=>absurd h (by simp[Aoz])
 | .bool _,_,h=>absurd h (by simp[Aoz])
 | .int _,_,h=>absurd h (by simp[Aoz])
 | .str _,_,h=>absurd h (by simp[Aoz])
 | .tuple _,_,h=>absurd h (by simp[Aoz])
 | .dict _,_,h=>absurd h (by simp[Aoz])
theorem Ag9.ext {K:aI}{H H':Hp}(x:Ext H H') : ∀ {ds:List aA} {vs:List (V×V)},Ag9 K H ds vs->Ag9 K H' ds vs
 | [],_,h=>repe_nil.mpr (repe_nil.mp h)
 | d::ds,_,h=>by
  obtain⟨y,r,e,h1,h2⟩:=An8.mp h
  exact An8.mpr ⟨y,r,e,Aj1.ext x h1,Ag9.ext x h2⟩
theorem Aj1.ext {K:aI}{H H':Hp}(x:Ext H H') : ∀ {d:aA} {y:V×V},Aj1 K H d y->Aj1 K H' d y
 | .tuple ds,_,h=>by
  rw[Aj1] at h ⊢
  exact Aaq.ext x h
 | .none,_,h=>absurd h (by simp[Aj1])
 | .bool _,_,h=>absurd h (by simp[Aj1])
 | .int _,_,h=>absurd h (by simp[Aj1])
 | .str _,_,h=>absurd h (by simp[Aj1])
 | .list _,_,h=>absurd h (by simp[Aj1])
 | .dict _,_,h=>absurd h (by simp[Aj1])
end
section
variable {K:aI}{H H':Hp}
theorem Aaq.length : ∀ {ds:List aA} {vs:List V},Aaq K H ds vs->vs.length=ds.length
 | [],_,h=>by rw[Aal.mp h]; rfl
 | d::ds,_,h=>by
  obtain⟨y,r,e,h1,h2⟩:=Aad.mp h
  rw[e,eN,eN,Aaq.length h2]
theorem Aaq.get : ∀ {ds:List aA} {vs:List V} {i:Nat} {d:aA},Aaq K H ds vs->ds[i]?=some d -> ∃ v,vs[i]?=some v/\Abb K H d v
 | [],_,_,_,h,e=>by simp at e
 | d::ds,_,0,d',h,e=>by
  obtain⟨y,r,rfl,h1,h2⟩:=Aad.mp h
  have:d=d':=by simpa using e
  subst this
  exact⟨y,rfl,h1⟩
 | d::ds,_,i+1,d',h,e=>by
  obtain⟨y,r,rfl,h1,h2⟩:=Aad.mp h
  obtain⟨v,h3,h4⟩:=Aaq.get h2 (by simpa using e)
  exact⟨v,by simpa using h3,h4⟩
theorem Aaq.append : ∀ {ds es:List aA} {vs ws:List V},Aaq K H ds vs->Aaq K H es ws->Aaq K H (ds++es) (vs++ws)
 | [],es,_,_,h,g=>by rw[Aal.mp h]; exact g
 | d::ds,es,_,_,h,g=>by
  obtain⟨y,r,rfl,h1,h2⟩:=Aad.mp h
  exact Aad.mpr ⟨y,_,rfl,h1,Aaq.append h2 g⟩
theorem Aaq.snoc {ds:List aA}{vs:List V}{d:aA}{v:V}(h:Aaq K H ds vs)(g:Abb K H d v):Aaq K H (ds++[d]) (vs++[v]):=
 h.append (Aad.mpr ⟨v,[],rfl,g,Aal.mpr rfl⟩)
theorem Aaq.drop : ∀ {ds:List aA} {vs:List V} (n:Nat),Aaq K H ds vs->Aaq K H (ds.drop n) (vs.drop n)
 | _,_,0,h=>h
 | [],_,n+1,h=>by rw[Aal.mp h]; exact Aal.mpr rfl
 | d::ds,_,n+1,h=>by
  obtain⟨y,r,rfl,h1,h2⟩:=Aad.mp h
  exact Aaq.drop n h2
theorem Aaq.take : ∀ {ds:List aA} {vs:List V} (n:Nat),Aaq K H ds vs->Aaq K H (ds.take n) (vs.take n)
 | _,_,0,h=>Aal.mpr rfl
 | [],_,n+1,h=>by rw[Aal.mp h]; exact Aal.mpr rfl
 | d::ds,_,n+1,h=>by
  obtain⟨y,r,rfl,h1,h2⟩:=Aad.mp h
  exact Aad.mpr ⟨y,_,rfl,h1,Aaq.take n h2⟩
theorem Aaq.set {d:aA}{v:V}(g:Abb K H d v) : ∀ {ds:List aA} {vs:List V} (n:Nat),Aaq K H ds vs->Aaq K H (ds.set n d) (vs.set n v)
 | [],_,n,h=>by rw[Aal.mp h]; exact Aal.mpr rfl
 | e::ds,_,0,h=>by
  obtain⟨y,r,rfl,h1,h2⟩:=Aad.mp h
  exact Aad.mpr ⟨v,r,rfl,g,h2⟩
 | e::ds,_,n+1,h=>by
  obtain⟨y,r,rfl,h1,h2⟩:=Aad.mp h
  exact Aad.mpr ⟨y,_,rfl,h1,Aaq.set g n h2⟩
theorem zJ : ∀ ns:List Int,Aaq K H (ns.map bY) (ns.map V.int)
 | []=>Aal.mpr rfl
 | n::r=>Aad.mpr ⟨_,_,rfl,Aam.mpr rfl,zJ r⟩
theorem rep_key_inv {k:aM}{v:V}(h:Abb K H (kD k) v):v=kV k:=by
 cases k with
 | inl i=>exact Aam.mp h
 | inr x=>exact(Aap.mp h).1
mutual
theorem Abb.key {K:aI}{H:Hp} : ∀ (d:aA) {v:V},bD d=true->Abb K H d v->Agn H d v
 | .int i,v,_,h=>by simpa [Agn] using Aam.mp h
 | .str i,v,_,h=>by simpa [Agn] using(Aap.mp h).1
 | .tuple ds,v,k,h=>by
  obtain⟨a,xs,e,s,r⟩:=Aa1.mp h
  simp only[Agn]
  exact⟨a,xs,e,s,Aaq.keys ds (by simpa [bD] using k) r⟩
 | .none,v,k,_=>by simp[bD] at k
 | .bool _,v,k,_=>by simp[bD] at k
 | .list _,v,k,_=>by simp[bD] at k
 | .dict _,v,k,_=>by simp[bD] at k
theorem Aaq.keys {K:aI}{H:Hp} : ∀ (ds:List aA) {vs:List V},cJ ds=true->Aaq K H ds vs->Ad4 H ds vs
 | [],vs,_,h=>by simpa [Ad4] using Aal.mp h
 | d::ds,vs,k,h=>by
  have k':bD d=true/\cJ ds=true:=by simpa [cJ] using k
  obtain⟨y,r,e,h1,h2⟩:=Aad.mp h
  simp only[Ad4]
  exact⟨y,r,e,Abb.key d k'.1 h1,Aaq.keys ds k'.2 h2⟩
end
end
mutual
noncomputable def eP:aA->Bool
 | .list _=>false
 | .dict _=>false
 | .tuple ds=>oJ ds
 | _=>true
noncomputable def oJ:List aA->Bool
 | []=>true
 | d::r=>eP d&&oJ r
end
mutual
theorem Abb.flat {K:aI}{H H':Hp}(x : ∀ a xs,H a=some (.tup xs)->H' a=some (.tup xs)) : ∀ (d:aA) {v:V},eP d=true->Abb K H d v->Abb K H' d v
 | .none,_,_,h=>Abz.mpr (Abz.mp h)
 | .bool _,_,_,h=>Aat.mpr (Aat.mp h)
 | .int _,_,_,h=>Aam.mpr (Aam.mp h)
 | .str _,_,_,h=>Aap.mpr (Aap.mp h)
 | .tuple ds,_,f,h=>by
  obtain⟨a,xs,e,s,r⟩:=Aa1.mp h
  exact Aa1.mpr ⟨a,xs,e,x _ _ s,Aaq.flat x ds (by simpa [eP] using f) r⟩
 | .list _,_,f,_=>by simp[eP] at f
 | .dict _,_,f,_=>by simp[eP] at f
theorem Aaq.flat {K:aI}{H H':Hp}(x : ∀ a xs,H a=some (.tup xs)->H' a=some (.tup xs)) : ∀ (ds:List aA) {vs:List V},oJ ds=true->Aaq K H ds vs->Aaq K H' ds vs
 | [],_,_,h=>Aal.mpr (Aal.mp h)
 | d::ds,_,f,h=>by
  have f':eP d=true/\oJ ds=true:=by simpa [oJ] using f
  obtain⟨y,r,e,h1,h2⟩:=Aad.mp h
  exact Aad.mpr ⟨y,r,e,Abb.flat x d f'.1 h1,Aaq.flat x ds f'.2 h2⟩
end
inductive All3 {α β γ:Type}(R:α->β->γ->Prop):List α->List β->List γ->Prop
 | nil:All3 R [] [] []
 | cons {a b c as bs cs}:R a b c->All3 R as bs cs->All3 R (a::as) (b::bs) (c::cs)
theorem All3.imp {α β γ:Type}{R S:α->β->γ->Prop} : ∀ {as:List α} {bs:List β} {cs:List γ},All3 R as bs cs->(∀ a b c,c∈cs->R a b c->S a b c)->All3 S as bs cs:=by
 intro as bs cs h
 induction h with
 | nil=>exact fun _=>.nil
 | cons h _ ih=>exact fun f=>.cons (f _ _ _ cA h) (ih fun a b c m=>f a b c (cI _ m))
def Aeh (K:aI)(B H:Hp):Nat->aA->V->List aB->Prop
 | 0,d,v,F=>F=[]/\Abb K B d v
 | n+1,d,v,F=>match d with
  | .list ds=>∃ p xs Fs,v = .ref p/\H p=some (.lst xs)/\F=p::Fs.flatten/\All3 (Aeh K B H n) ds xs Fs
  | .dict kds=>∃ p,∃ kvs:Nat×List (aM×V),∃ Fs,v = .ref p/\H p=some (.dK kvs.1 kvs.2)/\F=p::Fs.flatten/\All3 (fun(kd:aA×aA) (kv:aM×V) f=>kd.1=kD kv.1/\Aeh K B H n kd.2 kv.2 f) kds kvs.2 Fs
  | .tuple ds=>(n=0/\F=[]/\Abb K B (.tuple ds) v) \/ (n≠0 /\ ∃ p xs Fs,v = .ref p/\B p=some (.tup xs)/\F=Fs.flatten/\All3 (Aeh K B H n) ds xs Fs)
  | d=>F=[]/\Abb K B d v
theorem Aeh.keep {K:aI}{B B' H H':Hp}(xb:Ext B B') : ∀ {n:Nat} {d:aA} {v:V} {F:List aB},(∀ a∈F,H' a=H a)->Aeh K B H n d v F->Aeh K B' H' n d v F
 | 0,d,v,F,_,h=>⟨h.1,h.2.ext xb⟩
 | n+1,.list ds,v,F,kp,h=>by
  obtain⟨p,xs,Fs,e,hp,rfl,q⟩:=h
  refine⟨p,xs,Fs,e,(kp p cA).trans hp,rfl,q.imp fun a b c m r=>Aeh.keep xb (fun z hz=>kp z (cI _ (mE.mpr ⟨c,m,hz⟩))) r⟩
 | n+1,.dict kds,v,F,kp,h=>by
  obtain⟨p,xs,Fs,e,hp,rfl,q⟩:=h
  refine⟨p,xs,Fs,e,(kp p cA).trans hp,rfl,q.imp fun a b c m r=>⟨r.1,Aeh.keep xb (fun z hz=>kp z (cI _ (mE.mpr ⟨c,m,hz⟩))) r.2⟩⟩
 | n+1,.none,v,F,_,h=>⟨h.1,h.2.ext xb⟩
 | n+1,.bool _,v,F,_,h=>⟨h.1,h.2.ext xb⟩
 | n+1,.int _,v,F,_,h=>⟨h.1,h.2.ext xb⟩
 | n+1,.str _,v,F,_,h=>⟨h.1,h.2.ext xb⟩
 | n+1,.tuple ds,v,F,kp,h=>by
  rcases h with⟨h0,h1,h2⟩ | ⟨h0,p,xs,Fs,e,hp,rfl,q⟩
  ·exact .inl ⟨h0,h1,h2.ext xb⟩
  ·exact .inr ⟨h0,p,xs,Fs,e,xb _ _ hp,rfl,q.imp fun a b c m r=>Aeh.keep xb (fun z hz=>kp z (mE.mpr ⟨c,m,hz⟩)) r⟩
theorem AU {K:aI}{B:Hp}{R:aA->V->List aB->Prop}(f : ∀ d v F,R d v F->Abb K B d v) : ∀ {ds:List aA} {xs:List V} {Fs:List (List aB)},All3 R ds xs Fs->Aaq K B ds xs:=by
 intro ds xs Fs h
 induction h with
 | nil=>exact Aal.mpr rfl
 | cons h _ ih=>exact Aad.mpr ⟨_,_,rfl,f _ _ _ h,ih⟩
theorem all3_repk {K:aI}{B:Hp}{R:aA×aA->aM×V->List aB->Prop}(f : ∀ d v F,R d v F->d.1=kD v.1/\Abb K B d.2 v.2) : ∀ {ds:List (aA×aA)} {xs:List (aM×V)} {Fs:List (List aB)},All3 R ds xs Fs->Abj K B ds xs:=by
 intro ds xs Fs h
 induction h with
 | nil=>exact Aba.mpr rfl
 | @cons p q F ds xs Fs h _ ih=>
  obtain⟨k,d⟩:=p
  obtain⟨k',v⟩:=q
  exact Aav.mpr ⟨_,_,_,rfl,(f _ _ _ h).1,(f _ _ _ h).2,ih⟩
theorem Aeh.share {K:aI}{B B' H:Hp}(xb:Ext B B') : ∀ {n:Nat} {d:aA} {v:V} {F:List aB},(∀ a∈F,∀ o,H a=some o->B' a=some o)->Aeh K B H n d v F->Abb K B' d v
 | 0,d,v,F,_,h=>h.2.ext xb
 | n+1,.list ds,v,F,kp,h=>by
  obtain⟨p,xs,Fs,e,hp,rfl,q⟩:=h
  refine Aa9.mpr ⟨p,xs,e,SqL.of (kp p cA _ hp),?_⟩
  exact AU (fun d v F r=>r) (q.imp fun a b c m r=>Aeh.share xb (fun z hz=>kp z (cI _ (mE.mpr ⟨c,m,hz⟩))) r)
 | n+1,.dict kds,v,F,kp,h=>by
  obtain⟨p,xs,Fs,e,hp,rfl,q⟩:=h
  refine wN e (kp p cA _ hp) ?_
  exact all3_repk (fun d v F r=>r) (q.imp fun a b c m r=>⟨r.1,Aeh.share xb (fun z hz=>kp z (cI _ (mE.mpr ⟨c,m,hz⟩))) r.2⟩)
 | n+1,.none,v,F,_,h=>h.2.ext xb
 | n+1,.bool _,v,F,_,h=>h.2.ext xb
 | n+1,.int _,v,F,_,h=>h.2.ext xb
 | n+1,.str _,v,F,_,h=>h.2.ext xb
 | n+1,.tuple ds,v,F,kp,h=>by
  rcases h with⟨h0,h1,h2⟩ | ⟨h0,p,xs,Fs,e,hp,rfl,q⟩
  ·exact h2.ext xb
  ·refine Aa1.mpr ⟨p,xs,e,xb _ _ hp,?_⟩
   exact AU (fun d v F r=>r) (q.imp fun a b c m r=>Aeh.share xb (fun z hz=>kp z (mE.mpr ⟨c,m,hz⟩)) r)
noncomputable def dX:Nat->aA->Bool
 | 0,d=>eP d
 | n+1,.list ds=>ds.all (dX n)
 | n+1,.dict kds=>kds.all fun kd=>dX n kd.2
 | n+2,.tuple ds=>ds.all (dX (n+1))
 | n+1,d=>eP d
theorem Aeh.flat {K:aI}{B B' H:Hp}(xb : ∀ a xs,B a=some (.tup xs)->B' a=some (.tup xs)) : ∀ {n:Nat} {d:aA} {v:V} {F:List aB},dX n d=true->Aeh K B H n d v F->Aeh K B' H n d v F
 | 0,d,v,F,f,h=>⟨h.1,h.2.flat xb d f⟩
 | n+1,.list ds,v,F,f,h=>by
  obtain⟨p,xs,Fs,e,hp,rfl,q⟩:=h
  refine⟨p,xs,Fs,e,hp,rfl,?_⟩
  have f' : ∀ d∈ds,dX n d=true:=by simpa [dX] using f
  clear hp f e
  induction q with
  | nil=>exact .nil
  | cons h t ih=>exact .cons (Aeh.flat xb (f' _ cA) h) (ih fun d m=>f' d (cI _ m))
 | n+1,.dict kds,v,F,f,h=>by
  obtain⟨p,xs,Fs,e,hp,rfl,q⟩:=h
  refine⟨p,xs,Fs,e,hp,rfl,?_⟩
  have f' : ∀ d∈kds,dX n d.2=true:=fun d m=>by
   have:kds.all (fun kd=>dX n kd.2)=true:=by simpa [dX] using f
   exact gV.mp this d m
  clear hp f e
  obtain⟨xe,xs⟩:=xs
  replace q:All3 _ kds xs Fs:=q
  induction q with
  | nil=>exact .nil
  | cons h t ih=>exact .cons ⟨h.1,Aeh.flat xb (f' _ cA) h.2⟩ (ih fun d m=>f' d (cI _ m))
 | n+1,.none,v,F,f,h=>⟨h.1,h.2.flat xb _ f⟩
 | n+1,.bool _,v,F,f,h=>⟨h.1,h.2.flat xb _ f⟩
 | n+1,.int _,v,F,f,h=>⟨h.1,h.2.flat xb _ f⟩
 | n+1,.str _,v,F,f,h=>⟨h.1,h.2.flat xb _ f⟩
 | 1,.tuple ds,v,F,f,h=>by
  rcases h with⟨h0,h1,h2⟩ | ⟨h0,_⟩
  ·exact .inl ⟨h0,h1,h2.flat xb _ f⟩
  ·exact absurd rfl h0
 | n+2,.tuple ds,v,F,f,h=>by
  rcases h with⟨h0,_⟩ | ⟨h0,p,xs,Fs,e,hp,rfl,q⟩
  ·exact absurd h0 (by omega)
  ·refine .inr ⟨h0,p,xs,Fs,e,xb _ _ hp,rfl,?_⟩
   have f' : ∀ d∈ds,dX (n+1) d=true:=by simpa [dX] using f
   clear hp f e
   induction q with
   | nil=>exact .nil
   | cons h t ih=>exact .cons (Aeh.flat xb (f' _ cA) h) (ih fun d m=>f' d (cI _ m))
theorem All3.of {α β γ:Type}{R:α->β->γ->Prop} : ∀ {as:List α} {bs:List β} {cs:List γ},All3 R as bs cs -> ∀ c∈cs,∃ a b,R a b c:=by
 intro as bs cs h
 induction h with
 | nil=>exact fun c m=>by simp at m
 | cons h _ ih=>
  intro c m
  rcases cN.mp m with rfl | m
  ·exact⟨_,_,h⟩
  ·exact ih c m
mutual
noncomputable def ndD:aA->Bool
 | .dict kds=>ndM kds
 | .list ds=>ndDs ds
 | .tuple ds=>ndDs ds
 | _=>true
noncomputable def ndDs:List aA->Bool
 | []=>true
 | d::r=>ndD d&&ndDs r
noncomputable def ndM:List (aA×aA)->Bool
 | (.none,.none)::r=>ndKs r
 | _=>false
noncomputable def ndKs:List (aA×aA)->Bool
 | []=>true
 | (_,d)::r=>ndD d&&ndKs r
end
noncomputable def gO:Nat->aA->Bool
 | 0,d=>ndD d
 | n+1,.list ds=>ds.all (gO n)
 | n+1,.dict kds=>kds.all fun kd=>gO n kd.2
 | _,_=>false
theorem dO_lst (xs:List V) : ∀ q,HO.lst xs≠dO q:=fun q z=>by cases q <;> cases z
theorem dO_tup (xs:List V) : ∀ q,HO.tup xs≠dO q:=fun q z=>by cases q <;> cases z
theorem dO_frz (o:aT)(u:HO) : ∀ q,HO.frz o u≠dO q:=fun q z=>by cases q <;> cases z
def NdX (H H':Hp):Prop:=∀ a o,H a=some o->(∀ q,o≠dO (.inl q))->H' a=some o
mutual
theorem Abb.nd {K:aI}{H H':Hp}(x:NdX H H') : ∀ (d:aA) {v:V},ndD d=true->Abb K H d v->Abb K H' d v
 | .none,_,_,h=>Abz.mpr (Abz.mp h)
 | .bool _,_,_,h=>Aat.mpr (Aat.mp h)
 | .int _,_,_,h=>Aam.mpr (Aam.mp h)
 | .str _,_,_,h=>Aap.mpr (Aap.mp h)
 | .tuple ds,_,f,h=>by
  obtain⟨a,xs,e,s,r⟩:=Aa1.mp h
  exact Aa1.mpr ⟨a,xs,e,x _ _ s (fun q=>dO_tup _ _),Aaq.nd x ds (by simpa [ndD] using f) r⟩
 | .list ds,_,f,h=>by
  obtain⟨a,xs,e,s,r⟩:=Aa9.mp h
  refine Aa9.mpr ⟨a,xs,e,s.imp (fun s=>?_) id,Aaq.nd x ds (by simpa [ndD] using f) r⟩
  rcases s with s | ⟨o,s⟩
  ·exact .inl (x _ _ s (fun q=>dO_lst _ _))
  ·exact .inr ⟨o,x _ _ s (fun q=>dO_frz _ _ _)⟩
 | .dict [],_,f,_=>by simp[ndD,ndM] at f
 | .dict ((k,m)::kds),_,f,h=>by
  have f:ndM ((k,m)::kds)=true:=by simpa only[ndD] using f
  cases k <;> cases m <;> first | (simp[ndM] at f; done) | skip
  obtain⟨a,ts,e,s,r⟩:=(mW).mp h
  exact(mW).mpr ⟨a,ts,e,x _ _ s (fun q z=>by cases z),Acg.nd x kds (by simpa only[ndM] using f) r⟩
theorem Acg.nd {K:aI}{H H':Hp}(x:NdX H H') : ∀ (kds:List (aA×aA)) {ts:List (List aA×V)},ndKs kds=true->Acg K H kds ts->Acg K H' kds ts
 | [],_,_,h=>Acn.mpr (Acn.mp h)
 | (k,d)::r,_,f,h=>by
  have f':ndD d=true/\ndKs r=true:=by simpa [ndKs] using f
  obtain⟨k',y,rr,e,ek,h1,h2⟩:=Abp.mp h
  exact Abp.mpr ⟨k',y,rr,e,ek,Abb.nd x d f'.1 h1,Acg.nd x r f'.2 h2⟩
theorem Aaq.nd {K:aI}{H H':Hp}(x:NdX H H') : ∀ (ds:List aA) {vs:List V},ndDs ds=true->Aaq K H ds vs->Aaq K H' ds vs
 | [],_,_,h=>Aal.mpr (Aal.mp h)
 | d::ds,_,f,h=>by
  have f':ndD d=true/\ndDs ds=true:=by simpa [ndDs] using f
  obtain⟨y,r,e,h1,h2⟩:=Aad.mp h
  exact Aad.mpr ⟨y,r,e,Abb.nd x d f'.1 h1,Aaq.nd x ds f'.2 h2⟩
end
theorem Aeh.mut1 {K:aI}{B H:Hp} : ∀ {n:Nat} {d:aA} {v:V} {F:List aB},Aeh K B H n d v F -> ∀ a∈F,(∃ xs,H a=some (.lst xs)) \/ ∃ q,H a=some (dO (.inl q))
 | 0,d,v,F,h,a,m=>by rw[h.1] at m; simp at m
 | n+1,.list ds,v,F,h,a,m=>by
  obtain⟨p,xs,Fs,e,hp,rfl,q⟩:=h
  rcases cN.mp m with e1 | m2
  ·rw[e1]; exact .inl ⟨xs,hp⟩
  ·obtain⟨f,hf,ha⟩:=mE.mp m2
   obtain⟨_,_,r⟩:=q.of f hf
   exact Aeh.mut1 r a ha
 | n+1,.dict kds,v,F,h,a,m=>by
  obtain⟨p,xs,Fs,e,hp,rfl,q⟩:=h
  rcases cN.mp m with e1 | m2
  ·rw[e1]; exact .inr ⟨xs,hp⟩
  ·obtain⟨f,hf,ha⟩:=mE.mp m2
   obtain⟨_,_,r⟩:=q.of f hf
   exact Aeh.mut1 r.2 a ha
 | n+1,.none,v,F,h,a,m=>by rw[h.1] at m; simp at m
 | n+1,.bool _,v,F,h,a,m=>by rw[h.1] at m; simp at m
 | n+1,.int _,v,F,h,a,m=>by rw[h.1] at m; simp at m
 | n+1,.str _,v,F,h,a,m=>by rw[h.1] at m; simp at m
 | n+1,.tuple ds,v,F,h,a,m=>by
  rcases h with⟨_,h1,_⟩ | ⟨h0,p,xs,Fs,e,hp,rfl,q⟩
  ·rw[h1] at m; simp at m
  ·obtain⟨f,hf,ha⟩:=mE.mp m
   obtain⟨_,_,r⟩:=q.of f hf
   exact Aeh.mut1 r a ha
theorem Aeh.mut {K:aI}{B H:Hp}{n:Nat}{d:aA}{v:V}{F:List aB}(h:Aeh K B H n d v F) : ∀ a∈F,(∃ xs,H a=some (.lst xs)) \/ ∃ q:DQ,H a=some (dO q):=fun a m=>(h.mut1 a m).imp id fun⟨q,e⟩=>⟨.inl q,e⟩
mutual
noncomputable def ftD:aA->Bool
 | .dict kds=>ftM kds
 | .list _=>false
 | .tuple ds=>ftDs ds
 | _=>true
noncomputable def ftDs:List aA->Bool
 | []=>true
 | d::r=>ftD d&&ftDs r
noncomputable def ftM:List (aA×aA)->Bool
 | (.none,.none)::r=>ftKs r
 | _=>false
noncomputable def ftKs:List (aA×aA)->Bool
 | []=>true
 | (_,d)::r=>ftD d&&ftKs r
end
def FtX (H H':Hp):Prop:=∀ a o,H a=some o->((∃ xs,o = .tup xs) \/ ∃ q,o=dO (.inr q))->H' a=some o
mutual
theorem Abb.ft {K:aI}{H H':Hp}(x:FtX H H') : ∀ (d:aA) {v:V},ftD d=true->Abb K H d v->Abb K H' d v
 | .none,_,_,h=>Abz.mpr (Abz.mp h)
 | .bool _,_,_,h=>Aat.mpr (Aat.mp h)
 | .int _,_,_,h=>Aam.mpr (Aam.mp h)
 | .str _,_,_,h=>Aap.mpr (Aap.mp h)
 | .tuple ds,_,f,h=>by
  obtain⟨a,xs,e,s,r⟩:=Aa1.mp h
  exact Aa1.mpr ⟨a,xs,e,x _ _ s (.inl ⟨xs,rfl⟩),Aaq.ft x ds (by simpa [ftD] using f) r⟩
 | .list ds,_,f,h=>by simp[ftD] at f
 | .dict [],_,f,_=>by simp[ftD,ftM] at f
 | .dict ((k,m)::kds),_,f,h=>by
  have f:ftM ((k,m)::kds)=true:=by simpa only[ftD] using f
  cases k <;> cases m <;> first | (simp[ftM] at f; done) | skip
  obtain⟨a,ts,e,s,r⟩:=(mW).mp h
  exact(mW).mpr ⟨a,ts,e,x _ _ s (.inr ⟨ts,rfl⟩),Acg.ft x kds (by simpa only[ftM] using f) r⟩
theorem Acg.ft {K:aI}{H H':Hp}(x:FtX H H') : ∀ (kds:List (aA×aA)) {ts:List (List aA×V)},ftKs kds=true->Acg K H kds ts->Acg K H' kds ts
 | [],_,_,h=>Acn.mpr (Acn.mp h)
 | (k,d)::r,_,f,h=>by
  have f':ftD d=true/\ftKs r=true:=by simpa [ftKs] using f
  obtain⟨k',y,rr,e,ek,h1,h2⟩:=Abp.mp h
  exact Abp.mpr ⟨k',y,rr,e,ek,Abb.ft x d f'.1 h1,Acg.ft x r f'.2 h2⟩
theorem Aaq.ft {K:aI}{H H':Hp}(x:FtX H H') : ∀ (ds:List aA) {vs:List V},ftDs ds=true->Aaq K H ds vs->Aaq K H' ds vs
 | [],_,_,h=>Aal.mpr (Aal.mp h)
 | d::ds,_,f,h=>by
  have f':ftD d=true/\ftDs ds=true:=by simpa [ftDs] using f
  obtain⟨y,r,e,h1,h2⟩:=Aad.mp h
  exact Aad.mpr ⟨y,r,e,Abb.ft x d f'.1 h1,Aaq.ft x ds f'.2 h2⟩
end
theorem Aeh.nd {K:aI}{B B' H:Hp}(xb:NdX B B') : ∀ {n:Nat} {d:aA} {v:V} {F:List aB},gO n d=true->Aeh K B H n d v F->Aeh K B' H n d v F
 | 0,d,v,F,f,h=>⟨h.1,h.2.nd xb d f⟩
 | n+1,.list ds,v,F,f,h=>by
  obtain⟨p,xs,Fs,e,hp,rfl,q⟩:=h
  refine⟨p,xs,Fs,e,hp,rfl,?_⟩
  have f' : ∀ d∈ds,gO n d=true:=by simpa [gO] using f
  clear hp f e
  induction q with
  | nil=>exact .nil
  | cons h t ih=>exact .cons (Aeh.nd xb (f' _ cA) h) (ih fun d m=>f' d (cI _ m))
 | n+1,.dict kds,v,F,f,h=>by
  obtain⟨p,xs,Fs,e,hp,rfl,q⟩:=h
  refine⟨p,xs,Fs,e,hp,rfl,?_⟩
  have f' : ∀ d∈kds,gO n d.2=true:=fun d m=>by
   have:kds.all (fun kd=>gO n kd.2)=true:=by simpa [gO] using f
   exact gV.mp this d m
  clear hp f e
  obtain⟨xe,xs⟩:=xs
  replace q:All3 _ kds xs Fs:=q
  induction q with
  | nil=>exact .nil
  | cons h t ih=>exact .cons ⟨h.1,Aeh.nd xb (f' _ cA) h.2⟩ (ih fun d m=>f' d (cI _ m))
 | n+1,.none,v,F,f,h=>by simp[gO] at f
 | n+1,.bool _,v,F,f,h=>by simp[gO] at f
 | n+1,.int _,v,F,f,h=>by simp[gO] at f
 | n+1,.str _,v,F,f,h=>by simp[gO] at f
 | n+1,.tuple ds,v,F,f,h=>by simp[gO] at f
def Ai4 (K:aI)(B H:Hp)(d:aA)(v:V)(F:List aB):Prop:=∃ kds p,∃ ts:Nat×List (List aA×V),d = .dict ((.none,.none)::kds)/\v = .ref p/\H p=some (.dT ts.1 ts.2)/\F=[p]/\(∀ kd∈kds,eP kd.2=true)/\Acg K B kds ts.2
def HeldAt (K:aI)(B H:Hp)(kd:aA×aA)(kv:aM×V)(p:aB):Prop:=kd.1=kD kv.1/\kv.2 = .ref p/\Ai4 K B H kd.2 (.ref p) [p]
noncomputable abbrev insD (c:aD)(W Hd:aA):aA:=.dict [(.none,.str c),(.none,.tuple [.str "wide",W]),(.none,.tuple [.str "held",Hd])]
structure RepB (K:aI)(B H:Hp)(d:aA)(v:V)(F:List aB):Prop where
 ex : ∃ c C dx a w q kds hds,∃ kvs hvs:Nat×List (aM×V),∃ ps,d=insD c (.dict kds) (.dict hds)/\v = .ref a/\cY K c=some (.ref C)/\H a=some (.ins C dx [("wide",.ref w),("held",.ref q)])/\H w=some (.dK kvs.1 kvs.2)/\(∀ kd∈kds,eP kd.2=true)/\Abj K B kds kvs.2 /\
  H q=some (.dK hvs.1 hvs.2)/\F=a::w::q::ps/\All3 (HeldAt K B H) hds hvs.2 ps
def Afg (K:aI)(B H:Hp)(n:Nat)(d:aA)(v:V)(F:List aB):Prop:=if n=9 then(d = .none/\v = .non/\F=[]) \/ Ai4 K B H d v F \/ RepB K B H d v F else Aeh K B H n d v F
theorem Abj.flat {K:aI}{B B':Hp}(xb : ∀ a xs,B a=some (.tup xs)->B' a=some (.tup xs)) : ∀ {kds:List (aA×aA)} {ts:List (aM×V)},(∀ kd∈kds,eP kd.2=true)->Abj K B kds ts->Abj K B' kds ts
 | [],ts,_,h=>Aba.mpr (Aba.mp h)
 | (k,d)::r,ts,f,h=>by
  obtain⟨k',x,rr,e,ek,h1,h2⟩:=Aav.mp h
  exact Aav.mpr ⟨k',x,rr,e,ek,h1.flat xb _ (f (k,d) cA),Abj.flat xb (fun kd m=>f kd (cI _ m)) h2⟩
theorem Acg.flat {K:aI}{B B':Hp}(xb : ∀ a xs,B a=some (.tup xs)->B' a=some (.tup xs)) : ∀ {kds:List (aA×aA)} {ts:List (List aA×V)},(∀ kd∈kds,eP kd.2=true)->Acg K B kds ts->Acg K B' kds ts
 | [],ts,_,h=>Acn.mpr (Acn.mp h)
 | (k,d)::r,ts,f,h=>by
  obtain⟨k',x,rr,e,ek,h1,h2⟩:=Abp.mp h
  exact Abp.mpr ⟨k',x,rr,e,ek,h1.flat xb _ (f (k,d) cA),Acg.flat xb (fun kd m=>f kd (cI _ m)) h2⟩
section
variable {K:aI}{B B' H H':Hp}{n:Nat}{d:aA}{v:V}{F:List aB}
theorem Ai4.keep (xb:Ext B B')(kp : ∀ a∈F,H' a=H a)(h:Ai4 K B H d v F):Ai4 K B' H' d v F:=by
 obtain⟨kds,p,ts,e1,e2,hp,rfl,f,r⟩:=h
 exact⟨kds,p,ts,e1,e2,(kp p cA).trans hp,rfl,f,r.ext xb⟩
theorem Ai4.flat (xb : ∀ a xs,B a=some (.tup xs)->B' a=some (.tup xs))(h:Ai4 K B H d v F):Ai4 K B' H d v F:=by
 obtain⟨kds,p,ts,e1,e2,hp,rfl,f,r⟩:=h
 exact⟨kds,p,ts,e1,e2,hp,rfl,f,r.flat xb f⟩
theorem Ai4.share (xb:Ext B B')(kp : ∀ a∈F,∀ o,H a=some o->B' a=some o)(h:Ai4 K B H d v F):Abb K B' d v:=by
 obtain⟨kds,p,ts,rfl,e2,hp,rfl,f,r⟩:=h
 exact(mW).mpr ⟨p,ts,e2,kp p cA _ hp,r.ext xb⟩
theorem RepB.keep (xb:Ext B B')(kp : ∀ a∈F,H' a=H a)(h:RepB K B H d v F):RepB K B' H' d v F:=by
 obtain⟨c,C,dx,a,w,q,kds,hds,kvs,hvs,ps,e1,e2,e3,ha,hw,fl,rk,hq,rfl,h3⟩:=h.ex
 exact⟨c,C,dx,a,w,q,kds,hds,kvs,hvs,ps,e1,e2,e3,(kp a (by simp)).trans ha,(kp w (by simp)).trans hw,fl,rk.ext xb,(kp q (by simp)).trans hq,rfl,
  h3.imp fun kd kv p m r=>⟨r.1,r.2.1,r.2.2.keep xb fun b hb=>kp b (by rw[dG.mp hb]; simp[m])⟩⟩
theorem RepB.flat (xb : ∀ a xs,B a=some (.tup xs)->B' a=some (.tup xs))(h:RepB K B H d v F):RepB K B' H d v F:=by
 obtain⟨c,C,dx,a,w,q,kds,hds,kvs,hvs,ps,e1,e2,e3,ha,hw,fl,rk,hq,rfl,h3⟩:=h.ex
 exact⟨c,C,dx,a,w,q,kds,hds,kvs,hvs,ps,e1,e2,e3,ha,hw,fl,rk.flat xb fl,hq,rfl,h3.imp fun kd kv p m r=>⟨r.1,r.2.1,r.2.2.flat xb⟩⟩
theorem rep_ins {c:aD}{W D:aA}{C dx a:aB}{w q:V}(hc:cY K c=some (.ref C))(ha:H a=some (.ins C dx [("wide",w),("held",q)]))(h1:Abb K H W w)(h2:Abb K H D q):Abb K H (insD c W D) (.ref a):=by
 refine Abn.mpr ⟨a,rfl,.inr (.inr (.inr (.inr (Agl.mpr ⟨rfl,c,C,dx,_,rfl,hc,ha,Ac0.mpr ⟨_,_,_,rfl,rfl,?_,Ac0.mpr ⟨_,_,_,rfl,rfl,?_,Aiq.mpr rfl⟩⟩⟩))))⟩
 ·rw[Aj1]
  exact Aad.mpr ⟨_,_,rfl,Aap.mpr ⟨rfl,by decide +kernel⟩,Aad.mpr ⟨_,_,rfl,h1,Aal.mpr rfl⟩⟩
 ·rw[Aj1]
  exact Aad.mpr ⟨_,_,rfl,Aap.mpr ⟨rfl,by decide +kernel⟩,Aad.mpr ⟨_,_,rfl,h2,Aal.mpr rfl⟩⟩
theorem tT {c:aD}{W D:aA}{v:V}(h:Abb K H (insD c W D) v) : ∃ C dx a w q,v = .ref a/\cY K c=some (.ref C)/\H a=some (.ins C dx [("wide",w),("held",q)])/\Abb K H W w/\Abb K H D q:=by
 obtain⟨a,e,⟨kvs,_,r⟩ | ⟨ts,_,r⟩ | ⟨xs,_,r⟩ | r | r⟩:=Abn.mp h
 ·obtain⟨k',_,_,_,ek,_⟩:=Aav.mp r
  cases k' <;> cases ek
 ·obtain⟨_,_,_,_,⟨z,_⟩,_⟩:=Abp.mp (Ack.mp r).2
  cases z
 ·obtain⟨es,z,_⟩:=pD r
  cases z
 ·obtain⟨_,_,z⟩:=r.mark
  cases z
 ·obtain⟨_,c',C,dx,fs,z,hc,ha,r⟩:=Agl.mp r
  cases z
  obtain⟨f1,x1,r1,rfl,_,q1,r⟩:=Ac0.mp r
  obtain⟨f2,x2,r2,rfl,_,q2,r⟩:=Ac0.mp r
  rw[Aiq.mp r] at ha
  rw[Aj1] at q1 q2
  obtain⟨_,_,z1,p1,q1⟩:=Aad.mp q1
  obtain⟨_,_,z2,p2,q2⟩:=Aad.mp q2
  cases z1
  cases z2
  obtain⟨_,_,z1,p3,_⟩:=Aad.mp q1
  obtain⟨_,_,z2,p4,_⟩:=Aad.mp q2
  cases z1
  cases z2
  have e1:=(Aap.mp p1).1
  have e2:=(Aap.mp p2).1
  cases e1
  cases e2
  exact⟨C,dx,a,_,_,e,hc,ha,p3,p4⟩
theorem RepB.share (xb:Ext B B')(kp : ∀ a∈F,∀ o,H a=some o->B' a=some o)(h:RepB K B H d v F):Abb K B' d v:=by
 obtain⟨c,C,dx,a,w,q,kds,hds,kvs,hvs,ps,rfl,rfl,e3,ha,hw,fl,rk,hq,rfl,h3⟩:=h.ex
 refine rep_ins e3 (kp a (by simp) _ ha) (wN rfl (kp w (by simp) _ hw) (rk.ext xb)) (wN rfl (kp q (by simp) _ hq) ?_)
 have kp2 : ∀ p∈ps,∀ o,H p=some o->B' p=some o:=fun p m=>kp p (by simp[m])
 clear hq ha kp h
 obtain⟨xe,hvs⟩:=hvs
 replace h3:All3 _ hds hvs ps:=h3
 induction h3 with
 | nil=>exact Aba.mpr rfl
 | cons h t ih=>
  refine Aav.mpr ⟨_,_,_,rfl,h.1,?_,ih fun p m=>kp2 p (cI _ m)⟩
  have:=h.2.2.share xb fun b hb=>kp2 b (by rw[dG.mp hb]; exact cA)
  rw[h.2.1]
  exact this
theorem RepB.mut (h:RepB K B H d v F) : ∀ a∈F,(∃ xs,H a=some (.lst xs)) \/ ∃ q:DQ,H a=some (dO q):=by
 obtain⟨c,C,dx,a,w,q,kds,hds,kvs,hvs,ps,rfl,rfl,e3,ha,hw,fl,rk,hq,rfl,h3⟩:=h.ex
 intro b m
 simp only[cN] at m
 rcases m with rfl | rfl | rfl | m
 ·exact .inr ⟨.ins _ _ _,ha⟩
 ·exact .inr ⟨.inl _,hw⟩
 ·exact .inr ⟨.inl _,hq⟩
 ·obtain⟨_,_,_,_,kds,p,ts,_,e2,hp,_⟩:=h3.of b m
  cases e2
  exact .inr ⟨.inr ts,hp⟩
theorem Afg.keep (xb:Ext B B')(kp : ∀ a∈F,H' a=H a)(h:Afg K B H n d v F):Afg K B' H' n d v F:=by
 unfold Afg at h ⊢
 split at h
 ·rw[if_pos ‹_›]
  exact h.imp id fun h=>h.imp (fun h=>h.keep xb kp) fun h=>h.keep xb kp
 ·rw[if_neg ‹_›]
  exact Aeh.keep xb kp h
theorem Afg.share (xb:Ext B B')(kp : ∀ a∈F,∀ o,H a=some o->B' a=some o)(h:Afg K B H n d v F):Abb K B' d v:=by
 unfold Afg at h
 split at h
 ·rcases h with⟨rfl,rfl,_⟩ | h | h
  ·exact Abz.mpr rfl
  ·exact h.share xb kp
  ·exact h.share xb kp
 ·exact Aeh.share xb kp h
theorem Afg.flat (xb : ∀ a xs,B a=some (.tup xs)->B' a=some (.tup xs))(f:dX n d=true)(h:Afg K B H n d v F):Afg K B' H n d v F:=by
 unfold Afg at h ⊢
 split at h
 ·rw[if_pos ‹_›]
  exact h.imp id fun h=>h.imp (fun h=>h.flat xb) fun h=>h.flat xb
 ·rw[if_neg ‹_›]
  exact Aeh.flat xb f h
theorem Afg.nd (xb:NdX B B')(hn:n<9)(f:gO n d=true)(h:Afg K B H n d v F):Afg K B' H n d v F:=by
 unfold Afg at h ⊢
 rw[if_neg (by omega)] at h ⊢
 exact Aeh.nd xb f h
theorem Afg.mut (h:Afg K B H n d v F) : ∀ a∈F,(∃ xs,H a=some (.lst xs)) \/ ∃ q:DQ,H a=some (dO q):=by
 unfold Afg at h
 split at h
 ·rcases h with⟨_,_,rfl⟩ | ⟨kds,p,ts,e1,e2,hp,rfl,f,r⟩ | h
  ·exact fun a m=>by simp at m
  ·intro a m
   rw[dG.mp m]
   exact .inr ⟨.inr ts,hp⟩
  ·exact h.mut
 ·exact Aeh.mut h
end
abbrev EF:=List (Option aA)->Option aA
abbrev BF:=List (Option aA)->Option Bool
abbrev AF:=List (Option aA)->Option (List aA)
def Ajq (K:aI)(B:Hp)(ρ:List (Option aA))(σ:St):Prop:=∀ (i:Nat) d,ρ[i]?=some (some d) -> ∃ v,σ[i]?=some (some v)/\Abb K B d v
theorem Ajq.ext {K:aI}{B B':Hp}{ρ:List (Option aA)}{σ:St}(h:Ajq K B ρ σ)(x:Ext B B'):Ajq K B' ρ σ:=fun i d e=>let ⟨v,h1,h2⟩:=h i d e; ⟨v,h1,h2.ext x⟩
def Res (K:aI)(P:aB->Prop)(n:Nat)(d:aA)(H:Hp)(Q:VK):Prop:=
 ∀ v H' Fr,Ext H H'->Fr.Nodup->(∀ a∈Fr,H a=none /\ ∃ o,H' a=some o)->Afg K (hid H' (orL P Fr)) H' n d v Fr->Q v H'
section
variable {K:aI}{P:aB->Prop}{n:Nat}{d:aA}{H H':Hp}{Q:VK}{v:V}
theorem Res.zero (h:Res K P 0 d H Q)(x:Ext H H')(r:Abb K (hid H' P) d v):Q v H':=
 h v H' [] x .nil (fun a m=>by simp at m) ⟨rfl,by rw[orL_nil]; exact r⟩
theorem cR (h : ∀ v H',Ext H H'->Abb K (hid H' P) d v->Q v H'):Res K P 0 d H Q:=fun v H' Fr x _ _ r=>by
 obtain⟨rfl,r⟩:=r
 rw[orL_nil] at r
 exact h v H' x r
theorem Res.mono (h:Res K P n d H Q)(x:Ext H H'):Res K P n d H' Q:=fun v H2 Fr x2 nd fr r=>
 h v H2 Fr (x.trans x2) nd (fun a m=>⟨x.none (fr a m).1,(fr a m).2⟩) r
theorem Res.of (hP:Hid P H)(h:Res K P 0 d H Q):Res K P n d H Q:=fun v H2 Fr x2 nd fr r=>
 h.zero x2 (r.share (gC fun a p=>.inl p) fun a m o e=>fY (hP.new (fr a m).1) e)
theorem Res.lst {ds:List aA}{xs:List V}{p:aB}(hP:Hid P H)(h:Res K P 1 (.list ds) H Q)(n:H p=none)(r:Aaq K (hid H P) ds xs):Q (.ref p) (upd H p (.lst xs)):=by
 refine h (.ref p) _ [p] (Ext.new n) (hJ.mpr ⟨by simp,.nil⟩) (fun a m=>?_) ⟨p,xs,xs.map fun _=>[],rfl,dQ,?_,?_⟩
 ·have:a=p:=by simpa using m
  subst this
  exact⟨n,_,dQ⟩
 ·have : ∀ l:List V,(l.map fun _=>([]:List aB)).flatten=[]:=fun l=>by
   induction l with
   | nil=>rfl
   | cons a l ih=>rw[dR,jI,ih]; rfl
  rw[this]
 ·have xe:Ext (hid H P) (hid (upd H p (.lst xs)) (orL P [p])):=fun b o e=>by
   obtain⟨nb,e⟩:=Ac6.mp e
   have hb:=fP e n
   exact fY (fun q=>q.elim nb fun m=>hb (by simpa using m)) (by rw[bH hb]; exact e)
  generalize hid (upd H p (.lst xs)) (orL P [p])=B at xe
  generalize upd H p (.lst xs)=H1
  clear h
  have go : ∀ (ds:List aA) (xs:List V),Aaq K (hid H P) ds xs->All3 (Aeh K B H1 0) ds xs (xs.map fun _=>[]):=by
   intro ds
   induction ds with
   | nil=>intro xs r; rw[Aal.mp r]; exact .nil
   | cons d ds ih=>
    intro xs r
    obtain⟨y,t,rfl,h1,h2⟩:=Aad.mp r
    exact .cons ⟨rfl,h1.ext xe⟩ (ih t h2)
  exact go ds xs r
theorem Res.tup {ds:List aA}{xs:List V}{p:aB}(hP:Hid P H)(h:Res K P 0 (.tuple ds) H Q)(n:H p=none)(r:Aaq K (hid H P) ds xs):Q (.ref p) (upd H p (.tup xs)):=by
 refine h.zero (Ext.new n) (Aa1.mpr ⟨p,xs,rfl,fY (hP.new n) dQ,r.ext fun b o e=>?_⟩)
 obtain⟨nb,e⟩:=Ac6.mp e
 exact fY nb (Ext.new n _ _ e)
end
noncomputable def tF (K:aI)(n:Nat)(f:EF):TE:=fun σ H Q=>∃ P ρ d,Hid P H/\Ajq K (hid H P) ρ σ/\f ρ=some d/\Res K P n d H Q
noncomputable def tTF (K:aI)(f:BF):TT:=fun σ H Q=>∃ P ρ b,Hid P H/\Ajq K (hid H P) ρ σ/\f ρ=some b /\ ∀ H',Ext H H'->Q b H'
noncomputable def tAF (K:aI)(f:AF):TA:=fun σ H Q=>∃ P ρ ds,Hid P H/\Ajq K (hid H P) ρ σ/\f ρ=some ds /\ ∀ vs H',Ext H H'->Aaq K (hid H' P) ds vs->Q vs H'
abbrev DF (n:Nat)(X:Cx)(e:aS)(f:EF):Prop:=PE X e (tF X.K n f)
abbrev DE (X:Cx)(e:aS)(f:EF):Prop:=PE X e (tF X.K 0 f)
abbrev DT (X:Cx)(e:aS)(f:BF):Prop:=PT X e (tTF X.K f)
abbrev DW (X:Cx)(e:aS)(f:BF):Prop:=PW X e (tTF X.K f)
abbrev DA (X:Cx)(es:List aS)(f:AF):Prop:=PA X es (tAF X.K f)
section
variable {X:Cx}{e a b:aS}{es:List aS}{pos:bG}{n:Nat}
theorem PE.imp {t t':TE}(h:PE X e t)(w : ∀ σ H Q,t' σ H Q->t σ H Q):PE X e t':=fun pins s σ H Q I q=>h pins s σ H Q I (w _ _ _ q)
theorem PT.imp {t t':TT}(h:PT X e t)(w : ∀ σ H Q,t' σ H Q->t σ H Q):PT X e t':=fun pins s σ H Q I q=>h pins s σ H Q I (w _ _ _ q)
theorem PW.imp {t t':TT}(h:PW X e t)(w : ∀ σ H Q,t' σ H Q->t σ H Q):PW X e t':=fun whole pins s σ H Q I q=>h whole pins s σ H Q I (w _ _ _ q)
theorem PA.imp {t t':TA}(h:PA X es t)(w : ∀ σ H Q,t' σ H Q->t σ H Q):PA X es t':=fun pos pins s σ H Q I q=>h pos pins s σ H Q I (w _ _ _ q)
theorem bO {f:EF}(h:DF n X e f):DE X e f:=PE.imp h fun σ H Q ⟨P,ρ,d,hP,rs,ef,k⟩=>⟨P,ρ,d,hP,rs,ef,Res.of hP k⟩
noncomputable def aF (i:Nat):EF:=fun ρ=>(ρ[i]?).join
theorem AA {i:Nat}{ρ:List (Option aA)}{d:aA}(h:aF i ρ=some d):ρ[i]?=some (some d):=by
 unfold aF at h
 cases e:ρ[i]? with
 | none=>rw[e] at h; simp at h
 | some o=>rw[e] at h; simp at h; rw[h]
theorem aK (i:Nat){x:aD}(hN:X.N[i]?=some x:=by rfl)(hv:mI X.env.scope x:=by first | exact bI rfl | exact bJ (bI rfl) | exact bJ (bJ rfl))(hd:(x == ("__debug__" : aD))=false:=by decide)
  (hcd:(x == ("__classdict__" : aD))=false:=by decide):DE X (.Name x pos) (aF i):=PE.imp (oQ hN hv hd hcd) fun σ H Q gh=>by
 obtain⟨P,ρ,d,hP,rs,ef,k⟩:=gh
 obtain⟨v,h1,h2⟩:=rs i d (AA ef)
 exact⟨v,h1,k.zero Ext.refl h2⟩
noncomputable def eC (d:aA):EF:=fun _=>some d
theorem de_c {d:aA}{v:V}(h:PE X e (tC v))(hr : ∀ H,Abb X.K H d v):DE X e (eC d):=PE.imp h fun σ H Q gh=>by
 obtain⟨P,ρ,d',hP,rs,ef,k⟩:=gh
 cases ef
 exact k.zero Ext.refl (hr _)
theorem aU {i j}:DE X (.Constant (.int i) j pos) (eC (.int i)):=de_c pe_int fun _=>Aam.mpr rfl
theorem hU {i j}:DE X (.Constant (.bool i) j pos) (eC (.bool i)):=de_c pe_bl fun _=>Aat.mpr rfl
theorem qG {j}:DE X (.Constant .none j pos) (eC .none):=de_c pe_non fun _=>Abz.mpr rfl
theorem fZ {i j}(h:cQ (.str i)=true:=by decide +kernel):DE X (.Constant (.str i) j pos) (eC (.str i)):=de_c pe_str fun _=>Aap.mpr ⟨rfl,h⟩
theorem wI {x:aD}{i:Int}{u:aE}(hg:Gl X x)(hm:X.mg x=some u)(r:RelV (.int i) u)(hd:(x == ("__debug__" : aD))=false:=by decide):DE X (.Name x pos) (eC (.int i)):=de_c (pe_glob hg hm r hd) fun _=>Aam.mpr rfl
theorem vW {x:aD}{i:aD}{u:aE}(hg:Gl X x)(hm:X.mg x=some u)(r:RelV (.str i) u)(hl:cQ (.str i)=true:=by decide +kernel)(hd:(x == ("__debug__" : aD))=false:=by decide):DE X (.Name x pos) (eC (.str i)):=de_c (pe_glob hg hm r hd) fun _=>Aap.mpr ⟨rfl,hl⟩
noncomputable def aJ:AF:=fun _=>some []
noncomputable def aH (f:EF)(g:AF):AF:=fun ρ=>(f ρ).bind fun d=>(g ρ).bind fun ds=>some (d::ds)
theorem aW:DA X [] aJ:=PA.imp kX fun σ H Q gh=>by
 obtain⟨P,ρ,d,hP,rs,ef,k⟩:=gh
 cases ef
 exact k [] H Ext.refl (Aal.mpr rfl)
theorem aN {f:EF}{g:AF}(h1:DE X e f)(h2:DA X es g)(hs:bF (e::es) X.env=(false,bC e X.env)::bF es X.env:=by rfl):DA X (e::es) (aH f g):=
 PA.imp (iR h1 h2 hs) fun σ H Q gh=>by
  obtain⟨P,ρ,ds,hP,rs,ef,k⟩:=gh
  obtain⟨d,e1,ef⟩:=XBs ef
  obtain⟨r,e2,ef⟩:=XBs ef
  cases ef
  exact⟨P,ρ,d,hP,rs,e1,cR fun v H1 x1 r1=>⟨P,ρ,r,hP.ext x1,rs.ext (cT x1),e2,fun vs H2 x2 r2=>
   k _ _ (x1.trans x2) (Aad.mpr ⟨v,vs,rfl,r1.ext (cT x2),r2⟩)⟩⟩
noncomputable def fR (g:AF):EF:=fun ρ=>(g ρ).bind fun ds=>if ds.length≤sizeLine then some (.tuple ds) else none
noncomputable def dD (g:AF):EF:=fun ρ=>(g ρ).bind fun ds=>if ds.length≤sizeLine then some (.list ds) else none
theorem cP {α:Type}{c:Prop}[Decidable c]{x y:α}(h:(if c then some x else none)=some y):c/\x=y:=by
 by_cases q:c
 ·rw[if_pos q] at h; exact⟨q,fA h⟩
 ·rw[if_neg q] at h; cases h
theorem jZ {g:AF}{x1}(h:DA X es g):DE X (.Tuple es x1 pos) (fR g):=PE.imp (pe_tup h) fun σ H Q gh=>by
 obtain⟨P,ρ,d,hP,rs,ef,k⟩:=gh
 obtain⟨ds,e1,ef⟩:=XBs ef
 obtain⟨hl,rfl⟩:=cP ef
 exact⟨P,ρ,ds,hP,rs,e1,fun vs H1 x1 r1=>⟨by rw[r1.length]; exact hl,fun p hp=>(k.mono x1).tup (hP.ext x1) hp r1⟩⟩
theorem gH {g:AF}(h:DA X es g):DF 1 X (.List es pos) (dD g):=PE.imp (pe_lst h) fun σ H Q gh=>by
 obtain⟨P,ρ,d,hP,rs,ef,k⟩:=gh
 obtain⟨ds,e1,ef⟩:=XBs ef
 obtain⟨hl,rfl⟩:=cP ef
 exact⟨P,ρ,ds,hP,rs,e1,fun vs H1 x1 r1=>⟨by rw[r1.length]; exact hl,fun p hp=>(k.mono x1).lst (hP.ext x1) hp r1⟩⟩
def OpD (K:aI)(n:Nat)(r:R2)(g:aA->aA->Option aA):Prop:=
 ∀ (P:aB->Prop) (H:Hp) (x y:V) (a b d:aA) (Q:VK),Hid P H->Abb K (hid H P) a x->Abb K (hid H P) b y->g a b=some d->Res K P n d H Q->r x y H Q
noncomputable def eOp (g:aA->aA->Option aA)(fa fb:EF):EF:=fun ρ=>(fa ρ).bind fun a=>(fb ρ).bind fun b=>g a b
theorem opD_t {r:R2}{g:aA->aA->Option aA}{fa fb:EF}{K:aI}(hg:OpD K n r g) : ∀ σ H Q,tF K n (eOp g fa fb) σ H Q->tOp r (tF K 0 fa) (tF K 0 fb) σ H Q:=fun σ H Q gh=>by
 obtain⟨P,ρ,d,hP,rs,ef,k⟩:=gh
 obtain⟨d1,e1,ef⟩:=XBs ef
 obtain⟨d2,e2,ef⟩:=XBs ef
 exact⟨P,ρ,d1,hP,rs,e1,cR fun v H1 x1 r1=>⟨P,ρ,d2,hP.ext x1,rs.ext (cT x1),e2,cR fun u H2 x2 r2=>
  hg P H2 v u d1 d2 d Q (hP.ext (x1.trans x2)) (r1.ext (cT x2)) r2 ef (k.mono (x1.trans x2))⟩⟩
theorem df_op {op:Operator}{r:R2}{g:aA->aA->Option aA}{fa fb:EF}(ho:OpR X (jO op) r)(hg:OpD X.K n r g)(ha:DE X a fa)(hb:DE X b fb):DF n X (.BinOp a op b pos) (eOp g fa fb):=PE.imp (pe_op ho ha hb) (opD_t hg)
theorem mQ {op:CmpOp}{r:R2}{g:aA->aA->Option aA}{fa fb:EF}(ho:OpR X (eJ op) r)(hg:OpD X.K 0 r g)(ha:DE X a fa)(hb:DE X b fb)(hm:rZ op b=false):DE X (.Compare a [op] [b] pos) (eOp g fa fb):=PE.imp (pe_cmpR ho ha hb hm) (opD_t hg)
def UnD (K:aI)(n:Nat)(r:V->Hp->VK->Prop)(g:aA->Option aA):Prop:=
 ∀ (P:aB->Prop) (H:Hp) (x:V) (a d:aA) (Q:VK),Hid P H->Abb K (hid H P) a x->g a=some d->Res K P n d H Q->r x H Q
noncomputable def eUn (g:aA->Option aA)(fa:EF):EF:=fun ρ=>(fa ρ).bind g
theorem df_un {op:UnaryOp}{r:V->Hp->VK->Prop}{g:aA->Option aA}{fa:EF}(ho:UnR X (unaryOp op) r)(hg:UnD X.K n r g)(ha:DE X a fa):DF n X (.UnaryOp op a pos) (eUn g fa):=
 PE.imp (pe_un ho ha) fun σ H Q gh=>by
  obtain⟨P,ρ,d,hP,rs,ef,k⟩:=gh
  obtain⟨d1,e1,ef⟩:=XBs ef
  exact⟨P,ρ,d1,hP,rs,e1,cR fun v H1 x1 r1=>hg P H1 v d1 d Q (hP.ext x1) r1 ef (k.mono x1)⟩
def CallD (K:aI)(n:Nat)(r:List V->Hp->VK->Prop)(g:List aA->Option aA):Prop:=
 ∀ (P:aB->Prop) (H:Hp) (xs:List V) (ds:List aA) (d:aA) (Q:VK),Hid P H->Aaq K (hid H P) ds xs->g ds=some d->Res K P n d H Q->r xs H Q
noncomputable def aQ (g:List aA->Option aA)(fa:AF):EF:=fun ρ=>(fa ρ).bind g
variable {r:List V->Hp->VK->Prop}{g:List aA->Option aA}{fa:AF}{x:aD}{p:bG}{id T:String}
theorem fO (hc:Acv X (.builtin id) r)(hg:CallD X.K n r g)(hgl:Gl X x)(hm:X.mg x=none)(hv:iH x=some (.builtin id))(ha:DA X (e::es) fa)(hn:x ≠ "__name__":=by decide)(hdb:(x == ("__debug__" : aD))=false:=by decide)
  (he:bF (e::es) X.env=(false,bC e X.env)::bF es X.env:=by rfl) (hpl:(eQ pos (bF es X.env)).any (·.1)=false:=by rfl):DF n X (.Call (.Name x p) (e::es) [] pos) (aQ g fa):=
 PE.imp (qT hc hgl hm hv ha hn hdb he hpl) fun σ H Q gh=>by
  obtain⟨P,ρ,d,hP,rs,ef,k⟩:=gh
  obtain⟨d1,e1,ef⟩:=XBs ef
  exact⟨P,ρ,d1,hP,rs,e1,fun vs H1 x1 r1=>hg P H1 vs d1 d Q (hP.ext x1) r1 ef (k.mono x1)⟩
theorem qZ (hc:Acv X (.type T) r)(hg:CallD X.K n r g)(hgl:Gl X x)(hm:X.mg x=none)(hv:iH x=some (.type T))(ha:DA X (e::es) fa)(hn:x ≠ "__name__":=by decide)(hdb:(x == ("__debug__" : aD))=false:=by decide)
  (he:bF (e::es) X.env=(false,bC e X.env)::bF es X.env:=by rfl) (hpl:(eQ pos (bF es X.env)).any (·.1)=false:=by rfl):DF n X (.Call (.Name x p) (e::es) [] pos) (aQ g fa):=
 PE.imp (zR hc hgl hm hv ha hn hdb he hpl) fun σ H Q gh=>by
  obtain⟨P,ρ,d,hP,rs,ef,k⟩:=gh
  obtain⟨d1,e1,ef⟩:=XBs ef
  exact⟨P,ρ,d1,hP,rs,e1,fun vs H1 x1 r1=>hg P H1 vs d1 d Q (hP.ext x1) r1 ef (k.mono x1)⟩
noncomputable def asB:aA->Option Bool
 | .bool b=>some b
 | _=>none
theorem oZ {d:aA}{b:Bool}(h:asB d=some b):d = .bool b:=by
 cases d <;> simp[asB] at h
 rw[h]
noncomputable def bOf (f:EF):BF:=fun ρ=>(f ρ).bind asB
theorem gQ {f:EF}(h:DE X e f)(he : ∀ whole,isTrue e X.env whole=(do let v ← whole; standAt e.pos; lW [v] (truthy v)):=by intro _; rfl):DT X e (bOf f):=PT.imp (pt_val h he) fun σ H Q gh=>by
 obtain⟨P,ρ,b,hP,rs,ef,k⟩:=gh
 obtain⟨d,e1,ef⟩:=XBs ef
 cases oZ ef
 exact⟨P,ρ,_,hP,rs,e1,cR fun v H1 x1 r1=>⟨b,Aat.mp r1,k H1 x1⟩⟩
theorem gJ {op:CmpOp}{r:R2}{g:aA->aA->Option aA}{fa fb:EF}(ho:OpR X (eJ op) r)(hg:OpD X.K 0 r g)(ha:DE X a fa)(hb:DE X b fb)(hm:rZ op b=false):DT X (.Compare a [op] [b] pos) (bOf (eOp g fa fb)):=
 PT.imp (pt_cmpR ho ha hb hm) fun σ H Q gh=>by
  obtain⟨P,ρ,c,hP,rs,ef,k⟩:=gh
  obtain⟨d,e1,ef⟩:=XBs ef
  cases oZ ef
  exact opD_t hg σ H _ ⟨P,ρ,_,hP,rs,e1,cR fun v H1 x1 r1=>⟨c,Aat.mp r1,k H1 x1⟩⟩
noncomputable def fI (f:BF):BF:=fun ρ=>(f ρ).bind fun b=>some (!b)
noncomputable def bAnd (f g:BF):BF:=fun ρ=>(f ρ).bind fun b=>if b=true then g ρ else some false
noncomputable def bOr (f g:BF):BF:=fun ρ=>(f ρ).bind fun b=>if b=true then some true else g ρ
variable {fB gB:BF}{rest:List aS}
theorem iQ (h:DT X a fB):DT X (.UnaryOp .Not a pos) (fI fB):=PT.imp (pt_not h) fun σ H Q gh=>by
 obtain⟨P,ρ,c,hP,rs,ef,k⟩:=gh
 obtain⟨b,e1,ef⟩:=XBs ef
 cases ef
 exact⟨P,ρ,b,hP,rs,e1,fun H1 x1=>k H1 x1⟩
theorem dw_and1 (h:DT X a fB):DW X (.BoolOp .And [a] pos) fB:=pw_and1 h
theorem lJ (h:DT X a fB):DW X (.BoolOp .Or [a] pos) fB:=pw_or1 h
theorem dw_and (h:DT X a fB)(h2:DW X (.BoolOp .And (b::rest) pos) gB):DW X (.BoolOp .And (a::b::rest) pos) (bAnd fB gB):=PW.imp (pw_and h h2) fun σ H Q gh=>by
 obtain⟨P,ρ,c,hP,rs,ef,k⟩:=gh
 obtain⟨b,e1,ef⟩:=XBs ef
 refine⟨P,ρ,b,hP,rs,e1,fun H1 x1=>?_⟩
 cases b with
 | true=>exact iteT ⟨P,ρ,c,hP.ext x1,rs.ext (cT x1),by simpa using ef,fun H2 x2=>k H2 (x1.trans x2)⟩
 | false=>
  have:false=c:=by simpa using ef
  subst this
  exact iteF (k H1 x1)
theorem iM (h:DT X a fB)(h2:DW X (.BoolOp .Or (b::rest) pos) gB):DW X (.BoolOp .Or (a::b::rest) pos) (bOr fB gB):=PW.imp (pw_or h h2) fun σ H Q gh=>by
 obtain⟨P,ρ,c,hP,rs,ef,k⟩:=gh
 obtain⟨b,e1,ef⟩:=XBs ef
 refine⟨P,ρ,b,hP,rs,e1,fun H1 x1=>?_⟩
 cases b with
 | true=>
  have:true=c:=by simpa using ef
  subst this
  exact iteT (k H1 x1)
 | false=>exact iteF ⟨P,ρ,c,hP.ext x1,rs.ext (cT x1),by simpa using ef,fun H2 x2=>k H2 (x1.trans x2)⟩
theorem dt_w (h:DW X a fB):DT X a fB:=h.pt
noncomputable def eNot (f:EF):EF:=fun ρ=>(f ρ).bind fun d=>(asB d).bind fun b=>some (.bool (!b))
noncomputable def fK (f g:EF):EF:=fun ρ=>(f ρ).bind fun d=>(asB d).bind fun b=>if b=true then g ρ else some (.bool false)
variable {f1 f2:EF}
theorem mR {op}(h:DE X a f1):DE X (.BoolOp op [a] pos) f1:=pe_one h
theorem de_not (h:DE X a f1):DE X (.UnaryOp .Not a pos) (eNot f1):=PE.imp (pe_not h) fun σ H Q gh=>by
 obtain⟨P,ρ,c,hP,rs,ef,k⟩:=gh
 obtain⟨d,e1,ef⟩:=XBs ef
 obtain⟨b,e2,ef2⟩:=XBs ef
 clear ef
 have ef:=ef2
 clear ef2
 cases ef
 cases oZ e2
 exact⟨P,ρ,_,hP,rs,e1,cR fun v H1 x1 r1=>⟨b,Aat.mp r1,k.zero x1 (Aat.mpr rfl)⟩⟩
theorem jX (h:DE X a f1)(h2:DE X (.BoolOp .And (b::rest) pos) f2):DE X (.BoolOp .And (a::b::rest) pos) (fK f1 f2):=PE.imp (pe_and h h2) fun σ H Q gh=>by
 obtain⟨P,ρ,c,hP,rs,ef,k⟩:=gh
 obtain⟨d,e1,ef⟩:=XBs ef
 obtain⟨b,e2,ef2⟩:=XBs ef
 clear ef
 have ef:=ef2
 clear ef2
 cases oZ e2
 refine⟨P,ρ,_,hP,rs,e1,cR fun v H1 x1 r1=>⟨b,Aat.mp r1,?_⟩⟩
 cases b with
 | true=>exact iteT ⟨P,ρ,c,hP.ext x1,rs.ext (cT x1),by simpa using ef,k.mono x1⟩
 | false=>
  have:jD false=c:=by simpa using ef
  subst this
  exact iteF (k.zero x1 (Aat.mpr rfl))
noncomputable def mS (g g':aA->aA->Option aA)(fa fb fc:EF):EF:=fun ρ=>(fa ρ).bind fun a=>(fb ρ).bind fun b=>(g a b).bind fun z=>(asB z).bind fun t=>if t=true then(fc ρ).bind fun c=>g' b c else some (.bool false)
theorem chainD_t {r r':R2}{g g':aA->aA->Option aA}{fa fb fc:EF}{K:aI}(hg:OpD K 0 r g)(hg':OpD K 0 r' g') : ∀ σ H Q,tF K 0 (mS g g' fa fb fc) σ H Q->tChain r r' (tF K 0 fa) (tF K 0 fb) (tF K 0 fc) σ H Q:=fun σ H Q gh=>by
 obtain⟨P,ρ,d,hP,rs,ef,k⟩:=gh
 obtain⟨d1,e1,ef⟩:=XBs ef
 obtain⟨d2,e2,ef⟩:=XBs ef
 obtain⟨z,e3,ef⟩:=XBs ef
 obtain⟨t,e4,ef2⟩:=XBs ef
 clear ef
 have ef:=ef2
 clear ef2
 cases oZ e4
 refine⟨P,ρ,d1,hP,rs,e1,cR fun v H1 x1 r1=>⟨P,ρ,d2,hP.ext x1,rs.ext (cT x1),e2,cR fun u H2 x2 r2=>?_⟩⟩
 refine hg P H2 v u d1 d2 _ _ (hP.ext (x1.trans x2)) (r1.ext (cT x2)) r2 e3 (cR fun q H3 x3 r3=>⟨t,Aat.mp r3,?_⟩)
 cases t with
 | true=>
  obtain⟨d3,e5,ef⟩:=XBs (show((fc ρ).bind fun c=>g' d2 c)=some d by simpa using ef)
  exact iteT ⟨P,ρ,d3,hP.ext ((x1.trans x2).trans x3),rs.ext (cT ((x1.trans x2).trans x3)),e5,cR fun w H4 x4 r4=>
   hg' P H4 u w d2 d3 d Q (hP.ext (((x1.trans x2).trans x3).trans x4)) (r2.ext (cT (x3.trans x4))) r4 ef (k.mono (((x1.trans x2).trans x3).trans x4))⟩
 | false=>
  have:jD false=d:=by simpa using ef
  subst this
  exact iteF (k.zero ((x1.trans x2).trans x3) (Aat.mpr rfl))
end
abbrev Slot:=Option (Nat×aA)
abbrev aZ:=List Slot
noncomputable def vS (ρ:aZ):List (Option aA):=ρ.map fun s=>match s with | some (0,d)=>some d | _=>none
noncomputable def vA (ρ:aZ):List (Option aA):=ρ.map fun s=>s.map (·.2)
theorem vS_get {ρ:aZ}{i:Nat}{d:aA}(h:(vS ρ)[i]?=some (some d)):ρ[i]?=some (some (0,d)):=by
 unfold vS at h
 rw[eX] at h
 cases e:ρ[i]? with
 | none=>rw[e] at h; simp at h
 | some s=>
  rw[e] at h
  simp only[oB,pV] at h
  cases s with
  | none=>simp at h
  | some q=>
   obtain⟨n,d'⟩:=q
   cases n with
   | zero=>simp at h; rw[h]
   | succ n=>simp at h
theorem vA_get {ρ:aZ}{i:Nat}{d:aA}(h:(vA ρ)[i]?=some (some d)) : ∃ n,ρ[i]?=some (some (n,d)):=by
 unfold vA at h
 rw[eX] at h
 cases e:ρ[i]? with
 | none=>rw[e] at h; simp at h
 | some s=>
  rw[e] at h
  cases s with
  | none=>simp at h
  | some q=>
   obtain⟨n,d'⟩:=q
   simp at h
   exact⟨n,by rw[h]⟩
abbrev Hd (P0:aB->Prop)(fp:Nat->List aB):aB->Prop:=fun a=>P0 a \/ ∃ i,a∈fp i
structure Sta (K:aI)(H0:Hp)(P0:aB->Prop)(B0:Hp)(ρ:aZ)(σ:St)(H:Hp)(fp:Nat->List aB):Prop where
 len:σ.length=ρ.length
 nd : ∀ i,(fp i).Nodup
 dj : ∀ i j a,a∈fp i->a∈fp j->i=j
 own : ∀ i a,a∈fp i->H0 a=none/\((∃ xs,H a=some (.lst xs)) \/ ∃ q:DQ,H a=some (dO q))
 ext:Ext H0 H
 hd:Hid P0 H0
 base:Ext B0 (hid H (Hd P0 fp))
 slot : ∀ (i:Nat) n d,ρ[i]?=some (some (n,d)) -> ∃ v,σ[i]?=some (some v)/\Afg K (hid H (Hd P0 fp)) H n d v (fp i)
section
variable {K:aI}{H0 H H' B0:Hp}{P0:aB->Prop}{ρ:aZ}{σ:St}{fp:Nat->List aB}
theorem Sta.hid (S:Sta K H0 P0 B0 ρ σ H fp):Hid (Hd P0 fp) H:=fun a h=>by
 rcases h with h | ⟨i,h⟩
 ·exact S.hd.ext S.ext a h
 ·exact(S.own i a h).2
theorem Sta.np (S:Sta K H0 P0 B0 ρ σ H fp){i:Nat}{a:aB}(m:a∈fp i) : ¬ P0 a:=S.hd.new (S.own i a m).1
theorem Sta.grow (S:Sta K H0 P0 B0 ρ σ H fp)(x:Ext H H'):Sta K H0 P0 B0 ρ σ H' fp:=by
 refine⟨S.len,S.nd,S.dj,fun i a m=>⟨(S.own i a m).1,(S.own i a m).2.imp (fun⟨xs,e⟩=>⟨xs,x _ _ e⟩) fun⟨xs,e⟩=>⟨xs,x _ _ e⟩⟩,S.ext.trans x,S.hd,S.base.trans (cT x),fun i n d e=>?_⟩
 obtain⟨v,h1,h2⟩:=S.slot i n d e
 refine⟨v,h1,h2.keep (cT x) fun a m=>?_⟩
 rcases(S.own i a m).2 with⟨xs,e⟩ | ⟨xs,e⟩
 ·rw[e,x _ _ e]
 ·rw[e,x _ _ e]
theorem Sta.viewS (S:Sta K H0 P0 B0 ρ σ H fp):Ajq K (L2.hid H (Hd P0 fp)) (vS ρ) σ:=fun i d e=>by
 obtain⟨v,h1,h2⟩:=S.slot i 0 d (vS_get e)
 exact⟨v,h1,h2.2⟩
theorem Sta.viewA (S:Sta K H0 P0 B0 ρ σ H fp):Ajq K (L2.hid H P0) (vA ρ) σ:=fun i d e=>by
 obtain⟨n,e⟩:=vA_get e
 obtain⟨v,h1,h2⟩:=S.slot i n d e
 exact⟨v,h1,h2.share (gC fun a p=>.inl p) fun a m o e=>fY (S.np m) e⟩
def Tmp (K:aI)(H0:Hp)(P0:aB->Prop)(B0:Hp)(ρ:aZ)(σ:St)(n:Nat)(d:aA)(v:V)(H:Hp):Prop:=
 ∃ fp,Sta K H0 P0 B0 ρ σ H fp/\Afg K (L2.hid H (Hd P0 fp)) H n d v (fp ρ.length)
inductive Md | s | a
noncomputable def ownD (ρ:aZ):Bool:=ρ.all fun s=>match s with
 | some (0,_)=>true
 | some (1,.dict _)=>true
 | none=>true
 | _=>false
noncomputable def own9 (ρ:aZ):Bool:=ρ.all fun s=>match s with
 | some (9,_)=>false
 | _=>true
noncomputable def eV (n:Nat)(m:Md)(f:EF)(ρ:aZ):Option aA:=match m with
 | .s=>f (vS ρ)
 | .a=>(f (vA ρ)).bind fun d=>if (dX n d||(ownD ρ&&decide (n<9)&&gO n d)||(own9 ρ&&decide (n=0)&&ftD d))=true then some d else none
noncomputable def bV (m:Md)(f:BF)(ρ:aZ):Option Bool:=match m with
 | .s=>f (vS ρ)
 | .a=>f (vA ρ)
noncomputable def aV (m:Md)(f:AF)(ρ:aZ):Option (List aA):=match m with
 | .s=>f (vS ρ)
 | .a=>f (vA ρ)
noncomputable def tE (K:aI)(H0:Hp)(P0:aB->Prop)(n:Nat)(m:Md)(f:EF):TE:=fun σ H Q=>∃ B0 ρ fp d,Sta K H0 P0 B0 ρ σ H fp/\eV n m f ρ=some d /\ ∀ v H',Tmp K H0 P0 B0 ρ σ n d v H'->Q v H'
end
section
variable {X:Cx}{H0:Hp}{P0:aB->Prop}{e:aS}{n:Nat}
theorem Sta.trim {K:aI}{B0:Hp}{ρ:aZ}{σ:St}{H:Hp}{fp:Nat->List aB}(S:Sta K H0 P0 B0 ρ σ H fp) : ∃ fp',Sta K H0 P0 B0 ρ σ H fp' /\ ∀ i a,a∈fp' i->a∈fp i /\ ∃ n d,ρ[i]?=some (some (n,d)):=by
 let fp':Nat->List aB:=fun i=>match ρ[i]? with
  | some (some _)=>fp i
  | _=>[]
 have sub : ∀ i a,a∈fp' i->a∈fp i /\ ∃ n d,ρ[i]?=some (some (n,d)):=fun i a m=>by
  have m:a∈(match ρ[i]? with | some (some _)=>fp i | _=>[]):=m
  split at m
  ·rename_i x e
   exact⟨m,x.1,x.2,e⟩
  ·simp at m
 have same : ∀ i n d,ρ[i]?=some (some (n,d))->fp' i=fp i:=fun i n d e=>by
  show(match ρ[i]? with | some (some _)=>fp i | _=>[])=fp i
  rw[e]
 have xb:Ext (L2.hid H (Hd P0 fp)) (L2.hid H (Hd P0 fp')):=gC fun a h=>h.imp id fun⟨i,m⟩=>⟨i,(sub i a m).1⟩
 refine⟨fp',⟨S.len,fun i=>?_,fun i j a h1 h2=>S.dj i j a (sub i a h1).1 (sub j a h2).1,fun i a m=>S.own i a (sub i a m).1,S.ext,S.hd,S.base.trans xb,fun i n d e=>?_⟩,sub⟩
 ·show(match ρ[i]? with | some (some _)=>fp i | _=>[]).Nodup
  split
  ·exact S.nd i
  ·exact EK
 ·obtain⟨v,h1,h2⟩:=S.slot i n d e
  rw[same i n d e]
  exact⟨v,h1,h2.keep xb fun a m=>rfl⟩
theorem Sta.dicts {K:aI}{B0:Hp}{ρ:aZ}{σ:St}{H:Hp}{fp:Nat->List aB}(S:Sta K H0 P0 B0 ρ σ H fp)(ho:ownD ρ=true){i:Nat}{a:aB}{n:Nat}{d:aA}(m:a∈fp i)(e:ρ[i]?=some (some (n,d))) : ∃ q,H a=some (dO (.inl q)):=by
 have:=gV.mp ho _ (nD e)
 obtain⟨v,h1,h2⟩:=S.slot i n d e
 split at this
 ·rename_i z
  cases z
  rw[h2.1] at m
  simp at m
 ·rename_i kds z
  cases z
  obtain⟨p,xs,Fs,_,hp,hF,h3⟩:=h2
  have hn : ∀ {ds:List (aA×aA)} {ys:List (aM×V)} {Gs:List (List aB)},All3 (fun(kd:aA×aA) (kv:aM×V) f=>kd.1=kD kv.1/\Aeh K (L2.hid H (Hd P0 fp)) H 0 kd.2 kv.2 f) ds ys Gs->Gs.flatten=[]:=fun q=>by
   induction q with
   | nil=>rfl
   | cons h _ ih=>rw[jI,h.2.1,ih]; rfl
  rw[hF,hn h3] at m
  rw[dG.mp m]
  exact⟨xs,hp⟩
 ·rename_i z
  cases z
 ·cases this
theorem Sta.no9 {K:aI}{B0:Hp}{ρ:aZ}{σ:St}{H:Hp}{fp:Nat->List aB}(S:Sta K H0 P0 B0 ρ σ H fp)(ho:own9 ρ=true){i:Nat}{a:aB}{n:Nat}{d:aA}(m:a∈fp i)(e:ρ[i]?=some (some (n,d))) : ∀ q,H a≠some (dO (.inr q)):=fun q z=>by
 have:=gV.mp ho _ (nD e)
 have n9:n≠9:=fun w=>by subst w; simp at this
 obtain⟨v,h1,h2⟩:=S.slot i n d e
 unfold Afg at h2
 rw[if_neg n9] at h2
 rcases h2.mut1 a m with⟨xs,w⟩ | ⟨p,w⟩ <;> rw[z] at w <;> cases w
theorem ev_t {K:aI}{f:EF}(m:Md) : ∀ σ H Q,tE K H0 P0 n m f σ H Q->tF K n f σ H Q:=fun σ H Q gh=>by
 obtain⟨B0,ρ,fp,d,S,ef,k⟩:=gh
 cases m with
 | s=>
  refine⟨Hd P0 fp,vS ρ,d,S.hid,S.viewS,ef,fun v H' Fr x nd fr r=>k v H' ?_⟩
  have S':=S.grow x
  have hsub : ∀ a,Hd P0 (fun i=>if i=ρ.length then Fr else fp i) a->orL (Hd P0 fp) Fr a:=fun a h=>by
   rcases h with h | ⟨i,h⟩
   ·exact .inl (.inl h)
   ·by_cases hi:i=ρ.length
    ·simp only[hi,if_true] at h; exact .inr h
    ·simp only[hi,if_false] at h; exact .inl (.inr ⟨i,h⟩)
  have nfr : ∀ i a,a∈fp i->a∉Fr:=fun i a h1 h2=>by
   have:=(fr a h2).1
   rcases(S.own i a h1).2 with⟨xs,e⟩ | ⟨xs,e⟩ <;> rw[this] at e <;> first | cases e | (cases xs <;> simp[dO] at e)
  have xb:Ext (L2.hid H (Hd P0 fp)) (L2.hid H' (Hd P0 fun i=>if i=ρ.length then Fr else fp i)):=fun b o e=>by
   obtain⟨nb,e⟩:=Ac6.mp e
   refine fY (fun q=>?_) (x _ _ e)
   rcases q with q | ⟨j,q⟩
   ·exact nb (.inl q)
   ·by_cases hj:j=ρ.length
    ·simp only[hj,if_true] at q; rw[(fr b q).1] at e; cases e
    ·simp only[hj,if_false] at q; exact nb (.inr ⟨j,q⟩)
  refine⟨fun i=>if i=ρ.length then Fr else fp i,⟨S.len,fun i=>?_,fun i j a hi hj=>?_,fun i a hi=>?_,S'.ext,S.hd,S.base.trans xb,fun i n' d' e'=>?_⟩,?_⟩
  ·by_cases hi:i=ρ.length
   ·simp only[hi,if_true]; exact nd
   ·simp only[hi,if_false]; exact S.nd i
  ·by_cases h1:i=ρ.length <;> by_cases h2:j=ρ.length
   ·rw[h1,h2]
   ·simp only[h1,if_true] at hi; simp only[h2,if_false] at hj; exact absurd hi (nfr _ _ hj)
   ·simp only[h1,if_false] at hi; simp only[h2,if_true] at hj; exact absurd hj (nfr _ _ hi)
   ·simp only[h1,if_false] at hi; simp only[h2,if_false] at hj; exact S.dj i j a hi hj
  ·by_cases h1:i=ρ.length
   ·simp only[h1,if_true] at hi
    exact⟨S.ext.none (fr a hi).1,r.mut a hi⟩
   ·simp only[h1,if_false] at hi
    exact S'.own i a hi
  ·have hlt:=(eK.mp e').1
   have h1:i≠ρ.length:=by omega
   obtain⟨v',q1,q2⟩:=S'.slot i n' d' e'
   refine⟨v',q1,?_⟩
   simp only[h1,if_false]
   obtain⟨v2,p1,p2⟩:=S.slot i n' d' e'
   have ev:=fA (fA (p1.symm.trans q1))
   subst ev
   refine p2.keep xb fun a m=>?_
   rcases(S.own i a m).2 with⟨xs,e⟩ | ⟨xs,e⟩
   ·rw[e,x _ _ e]
   ·rw[e,x _ _ e]
  ·simp only[if_true]
   exact r.keep (gC hsub) fun a m=>rfl
 | a=>
  obtain⟨d',ed,ef⟩:=XBs ef
  obtain⟨fl,rfl⟩:=cP ef
  obtain⟨fp,S,trm⟩:=S.trim
  refine⟨P0,vA ρ,d',S.hd.ext S.ext,S.viewA,ed,fun v H' Fr x nd fr r=>k v H' ?_⟩
  have S':=S.grow x
  have nfr : ∀ i a,a∈fp i->a∉Fr:=fun i a h1 h2=>by
   have:=(fr a h2).1
   rcases(S.own i a h1).2 with⟨xs,e⟩ | ⟨xs,e⟩ <;> rw[this] at e <;> first | cases e | (cases xs <;> simp[dO] at e)
  have xb:Ext (L2.hid H (Hd P0 fp)) (L2.hid H' (Hd P0 fun i=>if i=ρ.length then Fr else fp i)):=fun b o e=>by
   obtain⟨nb,e⟩:=Ac6.mp e
   refine fY (fun q=>?_) (x _ _ e)
   rcases q with q | ⟨j,q⟩
   ·exact nb (.inl q)
   ·by_cases hj:j=ρ.length
    ·simp only[hj,if_true] at q; rw[(fr b q).1] at e; cases e
    ·simp only[hj,if_false] at q; exact nb (.inr ⟨j,q⟩)
  refine⟨fun i=>if i=ρ.length then Fr else fp i,⟨S.len,fun i=>?_,fun i j a hi hj=>?_,fun i a hi=>?_,S'.ext,S.hd,S.base.trans xb,fun i n' d' e'=>?_⟩,?_⟩
  ·by_cases hi:i=ρ.length
   ·simp only[hi,if_true]; exact nd
   ·simp only[hi,if_false]; exact S.nd i
  ·by_cases h1:i=ρ.length <;> by_cases h2:j=ρ.length
   ·rw[h1,h2]
   ·simp only[h1,if_true] at hi; simp only[h2,if_false] at hj; exact absurd hi (nfr _ _ hj)
   ·simp only[h1,if_false] at hi; simp only[h2,if_true] at hj; exact absurd hj (nfr _ _ hi)
   ·simp only[h1,if_false] at hi; simp only[h2,if_false] at hj; exact S.dj i j a hi hj
  ·by_cases h1:i=ρ.length
   ·simp only[h1,if_true] at hi
    exact⟨S.ext.none (fr a hi).1,r.mut a hi⟩
   ·simp only[h1,if_false] at hi
    exact S'.own i a hi
  ·have hlt:=(eK.mp e').1
   have h1:i≠ρ.length:=by omega
   obtain⟨v2,p1,p2⟩:=S.slot i n' d' e'
   refine⟨v2,p1,?_⟩
   simp only[h1,if_false]
   refine p2.keep xb fun a m=>?_
   rcases(S.own i a m).2 with⟨xs,e⟩ | ⟨xs,e⟩
   ·rw[e,x _ _ e]
   ·rw[e,x _ _ e]
  ·simp only[if_true]
   have up : ∀ a o,(L2.hid H' (orL P0 Fr)) a=some o->((∃ xs,o = .tup xs) \/ (ownD ρ=true /\ ∀ q,o≠dO (.inl q)) \/ (own9 ρ=true /\ ∃ q,o=dO (.inr q)))->(L2.hid H' (Hd P0 fun i=>if i=ρ.length then Fr else fp i)) a=some o:=fun a o e ho=>by
    obtain⟨na,e⟩:=Ac6.mp e
    refine fY (fun q=>?_) e
    rcases q with q | ⟨j,q⟩
    ·exact na (.inl q)
    ·by_cases hj:j=ρ.length
     ·simp only[hj,if_true] at q; exact na (.inr q)
     ·simp only[hj,if_false] at q
      rcases ho with⟨xs,rfl⟩ | ⟨ho,hq⟩ | ⟨ho,qq,rfl⟩
      ·rcases(S'.own j a q).2 with⟨ys,e2⟩ | ⟨ys,e2⟩ <;> rw[e] at e2 <;> first | cases e2 | (cases ys <;> simp[dO] at e2)
      ·obtain⟨_,n',d',e'⟩:=trm j a q
       obtain⟨z,ez⟩:=S'.dicts ho q e'
       rw[e] at ez
       injection ez with ez
       exact hq z ez
      ·obtain⟨_,n',d',e'⟩:=trm j a q
       exact absurd e (S'.no9 ho q e' qq)
   rcases Bool.or_eq_true_iff.mp fl with fl | fl3
   rcases Bool.or_eq_true_iff.mp fl with fl | fl
   ·exact r.flat (fun a xs e=>up a _ e (.inl ⟨xs,rfl⟩)) fl
   ·have fl:=kT.mp fl
    have fl1:=kT.mp fl.1
    exact r.nd (fun a o e hq=>up a o e (.inr (.inl ⟨fl1.1,hq⟩))) (of_decide_eq_true fl1.2) fl.2
   ·have fl:=kT.mp fl3
    have fl1:=kT.mp fl.1
    have z:=of_decide_eq_true fl1.2
    subst z
    exact⟨r.1,r.2.ft (fun a o e hq=>up a o e (hq.imp id fun hq=>.inr ⟨fl1.1,hq⟩)) _ fl.2⟩
theorem ev {f:EF}(m:Md)(h:DF n X e f):PE X e (tE X.K H0 P0 n m f):=PE.imp h (ev_t m)
noncomputable def tB' (K:aI)(H0:Hp)(P0:aB->Prop)(m:Md)(f:BF):TT:=fun σ H Q=>∃ B0 ρ fp b,Sta K H0 P0 B0 ρ σ H fp/\bV m f ρ=some b /\ ∀ H',Sta K H0 P0 B0 ρ σ H' fp->Q b H'
theorem evB {f:BF}(m:Md)(h:DT X e f):PT X e (tB' X.K H0 P0 m f):=PT.imp h fun σ H Q gh=>by
 obtain⟨B0,ρ,fp,b,S,ef,k⟩:=gh
 cases m with
 | s=>exact⟨Hd P0 fp,vS ρ,b,S.hid,S.viewS,ef,fun H' x=>k H' (S.grow x)⟩
 | a=>exact⟨P0,vA ρ,b,S.hd.ext S.ext,S.viewA,ef,fun H' x=>k H' (S.grow x)⟩
end
inductive Out where
 | nx (ρ:aZ) | rt (d:aA) | bk (ρ:aZ) | ct (ρ:aZ)
abbrev SF:=aZ->Option Out
def zH (K:aI)(H0:Hp)(P0:aB->Prop)(n0:Nat)(d:aA)(v:V)(H':Hp):Prop:=
 ∃ Fr,Ext H0 H'/\Fr.Nodup/\(∀ a∈Fr,H0 a=none /\ ∃ o,H' a=some o)/\Afg K (hid H' (orL P0 Fr)) H' n0 d v Fr
def EndOk (K:aI)(H0:Hp)(P0:aB->Prop)(B0:Hp)(n0:Nat)(D:Ends):Out->Prop
 | .nx ρ=>∀ σ H fp,Sta K H0 P0 B0 ρ σ H fp->D.nx σ H
 | .bk ρ=>∀ σ H fp,Sta K H0 P0 B0 ρ σ H fp->D.bk σ H
 | .ct ρ=>∀ σ H fp,Sta K H0 P0 B0 ρ σ H fp->D.ct σ H
 | .rt d=>∀ v H',zH K H0 P0 n0 d v H'->D.rt v H'
noncomputable def tS (K:aI)(H0:Hp)(P0:aB->Prop)(n0:Nat)(F:SF):TS:=fun D σ H=>∃ B0 ρ fp o,Sta K H0 P0 B0 ρ σ H fp/\F ρ=some o/\EndOk K H0 P0 B0 n0 D o
abbrev DS (X:Cx)(H0:Hp)(P0:aB->Prop)(n0:Nat)(s:bL)(F:SF):Prop:=PS X s (tS X.K H0 P0 n0 F)
abbrev DSs (X:Cx)(H0:Hp)(P0:aB->Prop)(n0:Nat)(s:List bL)(F:SF):Prop:=PSs X s (tS X.K H0 P0 n0 F)
section
variable {X:Cx}{H0:Hp}{P0:aB->Prop}{n0 n:Nat}{s:bL}{ss:List bL}{F G:SF}{e:aS}{f:EF}{pos:bG}
theorem PS.imp {t t':TS}(h:PS X s t)(w : ∀ D σ H,t' D σ H->t D σ H):PS X s t':=fun pins st σ H D I q=>h pins st σ H D I (w _ _ _ q)
theorem PSs.imp {t t':TS}(h:PSs X ss t)(w : ∀ D σ H,t' D σ H->t D σ H):PSs X ss t':=fun pins st σ H D I q=>h pins st σ H D I (w _ _ _ q)
noncomputable def eA:SF:=fun ρ=>some (.nx ρ)
noncomputable def bE (F G:SF):SF:=fun ρ=>(F ρ).bind fun o=>match o with
 | .nx ρ'=>G ρ'
 | o=>some o
theorem fE:DSs X H0 P0 n0 [] eA:=PSs.imp pss_nil fun D σ H gh=>by
 obtain⟨B0,ρ,fp,o,S,ef,k⟩:=gh
 cases ef
 exact k σ H fp S
theorem cC (h:DS X H0 P0 n0 s F):DSs X H0 P0 n0 [s] F:=qS h
theorem bN (h:DS X H0 P0 n0 s F)(h2:DSs X H0 P0 n0 ss G):DSs X H0 P0 n0 (s::ss) (bE F G):=PSs.imp (tX h h2) fun D σ H gh=>by
 obtain⟨B0,ρ,fp,o,S,ef,k⟩:=gh
 obtain⟨o1,e1,ef⟩:=XBs ef
 refine⟨B0,ρ,fp,o1,S,e1,?_⟩
 cases o1 with
 | nx ρ1=>exact fun σ1 H1 fp1 S1=>⟨B0,ρ1,fp1,o,S1,ef,k⟩
 | rt d=>cases ef; exact k
 | bk ρ1=>cases ef; exact k
 | ct ρ1=>cases ef; exact k
noncomputable def sIf (m:Md)(t:BF)(F G:SF):SF:=fun ρ=>(bV m t ρ).bind fun b=>if b=true then F ρ else G ρ
theorem fC {c:aS}{a b:List bL}{t:BF}(m:Md)(hc:DT X c t)(ha:DSs X H0 P0 n0 a F)(hb:DSs X H0 P0 n0 b G):DS X H0 P0 n0 (.If c a b pos) (sIf m t F G):=
 PS.imp (ps_if (evB m hc) ha hb) fun D σ H gh=>by
  obtain⟨B0,ρ,fp,o,S,ef,k⟩:=gh
  obtain⟨b,e1,ef⟩:=XBs ef
  refine⟨B0,ρ,fp,b,S,e1,fun H1 S1=>?_⟩
  cases b with
  | true=>exact iteT ⟨B0,ρ,fp,o,S1,by simpa using ef,k⟩
  | false=>exact iteF ⟨B0,ρ,fp,o,S1,by simpa using ef,k⟩
noncomputable def frz (i:Nat)(ρ:aZ):aZ:=match ρ[i]? with
 | some (some (_,d))=>ρ.set i (some (0,d))
 | _=>ρ
theorem Sta.frz {K:aI}{H B0:Hp}{ρ:aZ}{σ:St}{fp:Nat->List aB}(S:Sta K H0 P0 B0 ρ σ H fp)(i:Nat) : ∃ fp',Sta K H0 P0 B0 (L2.frz i ρ) σ H fp':=by
 unfold L2.frz
 cases e:ρ[i]? with
 | none=>exact⟨fp,S⟩
 | some s=>
  cases s with
  | none=>exact⟨fp,S⟩
  | some q=>
   obtain⟨n,d⟩:=q
   have hi:=(eK.mp e).1
   have hsub : ∀ a,Hd P0 (fun j=>if j=i then [] else fp j) a->Hd P0 fp a:=fun a h=>by
    rcases h with h | ⟨j,h⟩
    ·exact .inl h
    ·by_cases hj:j=i
     ·simp only[hj,if_true] at h; simp at h
     ·simp only[hj,if_false] at h; exact .inr ⟨j,h⟩
   refine⟨fun j=>if j=i then [] else fp j,⟨by simp[S.len],fun j=>?_,fun j k a h1 h2=>?_,fun j a h1=>?_,S.ext,S.hd,S.base.trans (gC hsub),fun j n' d' e'=>?_⟩⟩
   ·by_cases hj:j=i
    ·simp only[hj,if_true]; exact .nil
    ·simp only[hj,if_false]; exact S.nd j
   ·by_cases hj:j=i
    ·simp only[hj,if_true] at h1; simp at h1
    ·by_cases hk:k=i
     ·simp only[hk,if_true] at h2; simp at h2
     ·simp only[hj,if_false] at h1; simp only[hk,if_false] at h2; exact S.dj j k a h1 h2
   ·by_cases hj:j=i
    ·simp only[hj,if_true] at h1; simp at h1
    ·simp only[hj,if_false] at h1; exact S.own j a h1
   ·by_cases hj:j=i
    ·subst hj
     rw[kR hi] at e'
     cases e'
     obtain⟨v,h1,h2⟩:=S.slot j n d e
     refine⟨v,h1,?_⟩
     simp only[if_true]
     refine⟨rfl,h2.share (gC hsub) fun a m o q=>fY (fun z=>?_) q⟩
     rcases z with z | ⟨k,z⟩
     ·exact S.np m z
     ·by_cases hk:k=j
      ·simp only[hk,if_true] at z; simp at z
      ·simp only[hk,if_false] at z; exact hk (S.dj k j a z m)
    ·rw[jG (fun z=>hj z.symm)] at e'
     obtain⟨v,h1,h2⟩:=S.slot j n' d' e'
     refine⟨v,h1,?_⟩
     simp only[hj,if_false]
     exact h2.keep (gC hsub) fun a m=>rfl
noncomputable def sFrz (i:Nat)(F:SF):SF:=fun ρ=>F (frz i ρ)
theorem dss_frz (i:Nat)(h:DSs X H0 P0 n0 ss F):DSs X H0 P0 n0 ss (sFrz i F):=PSs.imp h fun D σ H ⟨B0,ρ,fp,o,S,ef,k⟩=>let ⟨fp',S'⟩:=S.frz i; ⟨B0,_,fp',o,S',ef,k⟩
theorem Tmp.set {K:aI}{H B0:Hp}{ρ:aZ}{σ:St}{d:aA}{v:V}{i:Nat}(t:Tmp K H0 P0 B0 ρ σ n d v H)(hi:i<ρ.length) : ∃ fp,Sta K H0 P0 B0 (ρ.set i (some (n,d))) (σ.set i (some v)) H fp:=by
 obtain⟨fp,S,r⟩:=t
 have hne:ρ.length≠i:=by omega
 have hsub : ∀ a,Hd P0 (fun j=>if j=i then fp ρ.length else if j=ρ.length then [] else fp j) a->Hd P0 fp a:=fun a h=>by
  rcases h with h | ⟨j,h⟩
  ·exact .inl h
  ·by_cases hj:j=i
   ·simp only[hj,if_true] at h; exact .inr ⟨_,h⟩
   ·by_cases hk:j=ρ.length
    ·simp only[hj,if_false,hk,if_true] at h
     rw[if_neg hne] at h
     simp at h
    ·simp only[hj,if_false,hk] at h; exact .inr ⟨j,h⟩
 have src : ∀ j a,a∈(if j=i then fp ρ.length else if j=ρ.length then [] else fp j)->(j=i/\a∈fp ρ.length) \/ (j≠i/\j≠ρ.length/\a∈fp j):=fun j a h=>by
  by_cases hj:j=i
  ·simp only[hj,if_true] at h; exact .inl ⟨hj,h⟩
  ·by_cases hk:j=ρ.length
   ·rw[if_neg hj,if_pos hk] at h; simp at h
   ·rw[if_neg hj,if_neg hk] at h; exact .inr ⟨hj,hk,h⟩
 refine⟨fun j=>if j=i then fp ρ.length else if j=ρ.length then [] else fp j,⟨by simp[S.len],fun j=>?_,fun j k a h1 h2=>?_,fun j a h1=>?_,S.ext,S.hd,S.base.trans (gC hsub),fun j n' d' e'=>?_⟩⟩
 ·by_cases hj:j=i
  ·rw[if_pos hj]; exact S.nd _
  ·by_cases hk:j=ρ.length
   ·rw[if_neg hj,if_pos hk]; exact .nil
   ·rw[if_neg hj,if_neg hk]; exact S.nd _
 ·rcases src j a h1 with⟨e1,m1⟩ | ⟨e1,l1,m1⟩ <;> rcases src k a h2 with⟨e2,m2⟩ | ⟨e2,l2,m2⟩
  ·rw[e1,e2]
  ·exact absurd (S.dj _ _ a m2 m1) l2
  ·exact absurd (S.dj _ _ a m1 m2) l1
  ·exact S.dj j k a m1 m2
 ·rcases src j a h1 with⟨e1,m1⟩ | ⟨e1,l1,m1⟩
  ·exact S.own _ a m1
  ·exact S.own _ a m1
 ·by_cases hj:j=i
  ·subst hj
   rw[kR hi] at e'
   cases e'
   refine⟨v,?_,?_⟩
   ·rw[kR (by rw[S.len]; exact hi)]
   ·rw[if_pos rfl]
    exact r.keep (gC hsub) fun a m=>rfl
  ·rw[jG (fun z=>hj z.symm)] at e'
   have hlt:=(eK.mp e').1
   have hk:j≠ρ.length:=by omega
   obtain⟨v',h1,h2⟩:=S.slot j n' d' e'
   refine⟨v',?_,?_⟩
   ·rw[jG (fun z=>hj z.symm)]; exact h1
   ·rw[if_neg hj,if_neg hk]
    exact h2.keep (gC hsub) fun a m=>rfl
noncomputable def cD (i n:Nat)(m:Md)(f:EF):SF:=fun ρ=>(eV n m f ρ).bind fun d=>if i<ρ.length then some (.nx (ρ.set i (some (n,d)))) else none
theorem dY {i:Nat}{x:aD}{pos':bG}(n:Nat)(m:Md)(hN:X.N.Nodup)(hi:X.N[i]?=some x)(hx:jV X.env.scope x)(he:DF n X e f)(hs:iW e (some (.Name x pos')) pos.line X.env=pure false:=by rfl)(hf:X.fn x=true \/ X.env.scope.names.lookup x=some .local:=by first | exact .inl rfl | exact .inr rfl | assumption) :
  DS X H0 P0 n0 (.Assign [.Name x pos'] e pos) (cD i n m f):=PS.imp (ps_set hN hi hx (ev m he) hs hf) fun D σ H gh=>by
 obtain⟨B0,ρ,fp,o,S,ef,k⟩:=gh
 obtain⟨d,e1,ef⟩:=XBs ef
 obtain⟨hl,rfl⟩:=cP ef
 refine⟨B0,ρ,fp,d,S,e1,fun v H' t=>?_⟩
 obtain⟨fp',S'⟩:=t.set hl
 exact k _ _ fp' S'
theorem Tmp.ret {K:aI}{H B0:Hp}{ρ:aZ}{σ:St}{d:aA}{v:V}(t:Tmp K H0 P0 B0 ρ σ n d v H):zH K H0 P0 n d v H:=by
 obtain⟨fp,S,r⟩:=t
 refine⟨fp ρ.length,S.ext,S.nd _,fun a m=>⟨(S.own _ a m).1,?_⟩,r.keep (gC fun a h=>?_) fun a m=>rfl⟩
 ·rcases(S.own _ a m).2 with⟨xs,e⟩ | ⟨xs,e⟩
  ·exact⟨_,e⟩
  ·exact⟨_,e⟩
 ·rcases h with h | h
  ·exact .inl h
  ·exact .inr ⟨_,h⟩
noncomputable def cL (n:Nat)(m:Md)(f:EF):SF:=fun ρ=>(eV n m f ρ).bind fun d=>some (.rt d)
theorem dA (m:Md)(he:DF n0 X e f):DS X H0 P0 n0 (.Return (some e) pos) (cL n0 m f):=PS.imp (ps_ret (ev m he)) fun D σ H gh=>by
 obtain⟨B0,ρ,fp,o,S,ef,k⟩:=gh
 obtain⟨d,e1,ef⟩:=XBs ef
 cases ef
 exact⟨B0,ρ,fp,d,S,e1,fun v H' t=>k v H' t.ret⟩
noncomputable def sRetV (i n0:Nat):SF:=fun ρ=>match ρ[i]? with
 | some (some (n,d))=>if n=n0 then some (.rt d) else none
 | _=>none
theorem ds_retV (i:Nat){x:aD}{p:bG}(hN:X.N[i]?=some x:=by rfl)(hv:mI X.env.scope x:=by first | exact bI rfl | exact bJ (bI rfl) | exact bJ (bJ rfl))(hd:(x == ("__debug__" : aD))=false:=by decide)
  (hcd:(x == ("__classdict__" : aD))=false:=by decide):DS X H0 P0 n0 (.Return (some (.Name x p)) pos) (sRetV i n0):=PS.imp (ps_ret (oQ hN hv hd hcd)) fun D σ H gh=>by
 obtain⟨B0,ρ,fp,o,S,ef,k⟩:=gh
 unfold sRetV at ef
 cases e:ρ[i]? with
 | none=>rw[e] at ef; simp at ef
 | some q=>
  cases q with
  | none=>rw[e] at ef; simp at ef
  | some q=>
   obtain⟨n,d⟩:=q
   rw[e] at ef
   obtain⟨rfl,rfl⟩:=cP ef
   obtain⟨v,h1,h2⟩:=S.slot i n d e
   refine⟨v,h1,k v H ⟨fp i,S.ext,S.nd i,fun a m=>⟨(S.own i a m).1,?_⟩,h2.keep (gC fun a h=>?_) fun a m=>rfl⟩⟩
   ·rcases(S.own i a m).2 with⟨xs,e⟩ | ⟨xs,e⟩
    ·exact⟨_,e⟩
    ·exact⟨_,e⟩
   ·rcases h with h | h
    ·exact .inl h
    ·exact .inr ⟨_,h⟩
end
section
variable {X:Cx}
theorem call_isinst:Acv X (.builtin "isinstance") (fun xs H Q=>∃ x T t b,xs=[x,.ty T]/\TyOf X.K H x t/\jA X.K t (.type T)=some b/\Q (.bl b) H):=by
 intro pins s σ H xs us Q I r h
 obtain⟨x,T,t,b,rfl,ty,e,q⟩:=h
 obtain⟨u,w',rfl,ru,rw'⟩:=vals2 r
 cases rw'
 exact isinst_ok I ru ty e fun tk=>⟨.bl b,H,I.tok tk,rfl,q⟩
end
section
variable {X:Cx}
noncomputable def sX (x:aD):It:=⟨fun i _=>i<x.cps.size,fun i H v H'=>H'=H /\ ∃ c,x.cps[i]?=some c/\v = .str ⟨#[c]⟩,fun i _=>x.cps.size≤i⟩
theorem zY {P:bA}{w:aX}{K:aI}{tg:aS}{it:aB}{x:aD}{tk0:Tok}{ty:String}
  (W : ∀ A':bQ,A'.handled=none->Walks P w A' it [it] [it] x.cps.size (SignAt x) (fun i h=>h.IsStrIter it ty x tk0 i))
  (sf : ∀ (A:bQ) (i:Nat) (s:aG) (Q:aE->aG->Prop) (E:aE->aG->Prop),s.heap.IsStrIter it ty x tk0 i->Q (.ref it) s->aO (aP P w) A (pyIter (.ref it)) Q E s)
  (hno:["enumerate","zip","dict_itemiterator","dict_reverseitemiterator","odict_iterator","itertools.zip_longest","itertools.pairwise"].contains ty=false) :
  Turn P w K tg (sX x) [it] it (fun i h=>h.IsStrIter it ty x tk0 i/\i≤x.cps.size) where
 mem:=by simp
 obj:=fun i h st b hb=>by
  have e:b=it:=by simpa using hb
  subst e
  obtain⟨o,e,_,d⟩:=st.1
  exact⟨o,e,fun v z=>by rw[d] at z; cases z⟩
 keep:=fun i h h' st k=>⟨let ⟨o,e,r⟩:=st.1; ⟨o,k it (by simp) o e,r⟩,st.2⟩
 item:=by
  intro X hP hw hK hc i pins s σ H E I hf st hg
  subst hP hw hK
  obtain⟨f0,f1,f2,f3,f4,f5⟩:=hf it (by simp)
  refine(W X.A (I.ok.hd hc)).item i s _ _ hg st.1 fun v h' tk hv st' kk=>?_
  obtain⟨c,u,hcx,rfl⟩:=hv
  have I1:Inv X pins σ H { s with heap:=h',toks:=tk }:=I.turned (fun b o hb e=>kk b o (by simpa using hb) e) f0 f1 f3 f4 f5
  obtain⟨o,e,hcl,d⟩:=id st'
  exact⟨_,rfl,go_of (s:={ s with heap:=h',toks:=tk }) e hcl d hno ⟨.str ⟨#[c]⟩,H,I1,⟨u,rfl⟩,⟨rfl,c,hcx,rfl⟩,⟨st',hg⟩,fun b hb=>(hf b hb).1⟩⟩
 done:=by
  intro X hP hw hK hc i pins s σ H E I hf st hg
  subst hP hw hK
  obtain⟨f0,f1,f2,f3,f4,f5⟩:=hf it (by simp)
  have hi:i=x.cps.size:=Nat.le_antisymm st.2 hg
  subst hi
  exact(W X.A (I.ok.hd hc)).done s _ _ st.1 fun h' tk kk=>⟨rfl,I.turned (fun b o hb e=>kk b o (by simpa using hb) e) f0 f1 f3 f4 f5⟩
 self:=fun A i s Q E st h=>sf A i s Q E st.1 h
noncomputable def iStr (tl:TE):TI:=fun σ H R=>tl σ H fun v H1=>∃ x,v = .str x/\R (sX x) H1
theorem pi_str {X:Cx}{tg l:aS}{tl:TE}(hl:PE X l tl):PI X tg l (iStr tl):=by
 intro pins s σ H R I h
 refine thn (hl pins s σ H _ I h) fun v s1 gh=>?_
 obtain⟨y,H1,I1,r1,q1⟩:=gh
 obtain⟨x,rfl,q⟩:=q1
 obtain⟨t,rfl⟩:=r1
 have fin : ∀ (o:aT) (ty:String),Turn X.prog X.w X.K tg (sX x) [s1.heap.objs.size] s1.heap.objs.size (fun i h=>h.IsStrIter s1.heap.objs.size ty x t i/\i≤x.cps.size)->(s1.heap.push o).IsStrIter s1.heap.objs.size ty x t 0 ->
   PIE X pins σ tg R (.ref s1.heap.objs.size) { s1 with heap:=s1.heap.push o }:=fun o ty T st=>by
  refine⟨s1.heap.objs.size,[s1.heap.objs.size],_,_,H1,rfl,I1.kept fun b o e=>cF _ e,T,⟨st,eE _⟩,fun b hb=>?_,q⟩
  have e:b=s1.heap.objs.size:=by simpa using hb
  subst e
  exact I1.fpOk (bM _) (I1.hok.fresh (bM _))
 cases ha:x.cps.all (· < 128)
 ·exact wpAny_pyIter_wide ha (fin _ "str_iterator" (zY (fun A' hA=>Walks.strWide hA _ x t) (fun A i s Q E st h=>wpAny_pyIter_striter_wide st h) (by decide)) ⟨_,dU _ rfl,rfl,rfl⟩)
 ·exact wpAny_pyIter_ascii ha (fin _ "str_ascii_iterator" (zY (fun A' hA=>Walks.strAscii hA _ x t) (fun A i s Q E st h=>wpAny_pyIter_striter_ascii st h) (by decide)) ⟨_,dU _ rfl,rfl,rfl⟩)
noncomputable def allB (xs:List V):Bool:=xs.all fun v=>decide (v = .bl true)
theorem zW (hc:X.calm=true):Acv X (.builtin "all") (fun xs H Q=>∃ p ys,xs=[.ref p]/\SqL X.K H p ys/\(∀ y∈ys,∃ b,y = .bl b)/\Q (.bl (allB ys)) H):=by
 intro pins s σ H xs us Q I r h
 obtain⟨p,ys,rfl,hs,hb,q⟩:=h
 obtain⟨u,rfl,ru⟩:=vals1 r
 cases ru
 obtain⟨its,rv,pl,hz⟩:=I.list hs
 have hl:=pl.isList
 have hlt:p<s.heap.objs.size:=by obtain⟨o,n,e,_⟩:=pl; exact bK e
 have hh:=I.ok.hd hc
 have len:=rv.length
 refine call_all_walk (yC hl ⟨s.heap.objs.size,_,_,_,_,_,fun i=>decide (ys[i]?=some (.bl true)),rfl,Walks.list (A:=X.A.in1) hh s.heap.objs.size p (cK hlt) its.toArray,
  ⟨⟨_,dU _ rfl,rfl,rfl⟩,hl.at fun o e=>cF _ e⟩,?_,?_⟩)
 ·intro i v s' Q' E' hv hq
  have hv':its[i]?=some v:=by simpa using hv
  have hi:i<ys.length:=by rw[len]; exact(eK.mp hv').1
  obtain⟨b,hy⟩:=hb ys[i] (vB hi)
  have hy':ys[i]?=some (.bl b):=by rw[jH hi,hy]
  obtain⟨u',h1,h2⟩:=rv.get hy'
  rw[hv'] at h1; cases h1
  cases h2
  refine nV ?_
  have:decide (ys[i]?=some (V.bl true))=b:=by rw[hy']; cases b <;> simp
  have hq:Q' (decide (ys[i]?=some (V.bl true))) s':=hq
  rw[this] at hq
  exact hq
 ·intro h' tk hk
  have e:((dC its.toArray.size).all fun i=>decide (ys[i]?=some (V.bl true)))=allB ys:=by
   have hn:its.toArray.size=ys.length:=by simp[len]
   rw[hn]
   unfold allB
   rw[Bool.eq_iff_iff]
   simp only[gV,jU,decide_eq_true_eq]
   constructor
   ·intro h v hv
    obtain⟨i,hi,rfl⟩:=List.getElem_of_mem hv
    have:=h i hi
    rw[jH hi] at this
    exact fA this
   ·intro h i hi
    rw[jH hi,h _ (vB hi)]
  rw[e]
  refine⟨.bl (allB ys),H,?_,rfl,q⟩
  exact I.kept fun b o eb=>hk b o (by simp; exact cK (bK eb)) (cF _ eb)
end
structure Def (P:bA)(w:aX)(K:aI)(mg:aD->Option aE)(base:aR)(x:aD)(k:Nat)(ps:List aD)(sp:Sp):Prop where
 ex : ∃ f fd,FnOk P w K mg base CX0 k f fd ps sp/\mg x=some (.ref f)/\kM K (.ref f)=true/\Binds K fd ps []
section
variable {X:Cx}{x:aD}{k:Nat}{ps:List aD}{sp:Sp}{e:aS}{es:List aS}{t:TA}{p pos:bG}
theorem pe_def (D:Def X.prog X.w X.K X.mg X.base x k ps sp)(hr:Room k X.A)(hg:Gl X x)(ha:PA X (e::es) t)(hdb:(x == ("__debug__" : aD))=false:=by decide)(he:bF (e::es) X.env=(false,bC e X.env)::bF es X.env:=by rfl)
  (hpl:(eQ pos (bF es X.env)).any (·.1)=false:=by rfl):PE X (.Call (.Name x p) (e::es) [] pos) (tCall sp [] E0 t):=by
 obtain⟨f,fd,F,hm,hk,hb⟩:=D.ex
 exact pe_call F hr hg hm hk hb .nil pass0 ha hdb he hpl
end
noncomputable def kitB (a b:String):Option Bool:=if (gM a == gM b)=true then some true else if PySem.W.kitMeta b=true then(fastBuiltinMro a).map (·.contains (.type b)) else none
theorem Ai1 {K:aI}{a b:String}:jA K (.type a) (.type b)=kitB a b:=rfl
noncomputable def kinds:List String:=["NoneType","bool","int","str","list","tuple","dict"]
noncomputable def isK (t T:String):Bool:=t == T||(t == "bool" && T == "int")
theorem kitB_all:(kinds.all fun t=>["int","bool","str","list","tuple","dict"].all fun T=>decide (kitB t T=some (isK t T)))=true:=by decide +kernel
theorem kitB_of {t T:String}(ht:t∈kinds)(hT:T∈["int","bool","str","list","tuple","dict"]):kitB t T=some (isK t T):=by
 have h:=gV.mp kitB_all t ht
 have h:=gV.mp h T hT
 exact of_decide_eq_true h
def Kd (K:aI)(H:Hp)(x:V)(t:String):Prop:=TyOf K H x (.type t)/\t∈kinds
theorem Kd.ext {K:aI}{H H':Hp}(x:Ext H H'){v:V}{t:String}(h:Kd K H v t):Kd K H' v t:=⟨x.ty h.1,h.2⟩
theorem Kd.int {K:aI}{H:Hp}{x:V}(h:Kd K H x "int") : ∃ i,x = .int i:=by
 obtain⟨h,_⟩:=h
 generalize e:gM "int" = t at h
 cases h <;> first | exact⟨_,rfl⟩ | exact absurd (Value.type.inj e) (by decide) | cases e
theorem Kd.str {K:aI}{H:Hp}{x:V}(h:Kd K H x "str") : ∃ i,x = .str i:=by
 obtain⟨h,_⟩:=h
 generalize e:gM "str" = t at h
 cases h <;> first | exact⟨_,rfl⟩ | exact absurd (Value.type.inj e) (by decide) | cases e
section
variable {X:Cx}
theorem pe_ty {x:aD}{T:String}{pos:bG}(hg:Gl X x)(hm:X.mg x=none)(hv:iH x=some (.type T))(hn:x ≠ "__name__":=by decide)(hd:(x == ("__debug__" : aD))=false:=by decide):PE X (.Name x pos) (tC (.ty T)):=
 pe_bltn hg hm hv rfl hn hd
end
theorem boot_isinstance:iH "isinstance" = some (.builtin "isinstance"):=by decide +kernel
theorem boot_all:iH "all" = some (.builtin "all"):=by decide +kernel
theorem bits_le {i:Int}{n:Nat}(h:i.natAbs<2 ^ n):Builtin.Int.intBits i≤n:=by
 unfold Builtin.Int.intBits
 split
 ·exact eE _
 ·rename_i hne
  have h0:i.natAbs≠0:=by
   intro z; apply hne; simp[Int.natAbs_eq_zero.mp z]
  have:=(Nat.log2_lt h0).mpr h
  omega
theorem op_mulB {X:Cx}:OpR X (jO .Mult) (rI (fun i j=>i.natAbs<2 ^ 1000/\j.natAbs<2 ^ 1000) fun i j=>.int (i*j)):=opI fun i j _ _ _ _ _ hc q=>
 mul_int q (PyProof.Rows.mulOk_of_bits (bits_le hc.1) (bits_le hc.2) (by decide))
theorem fU {A:bQ}{k:Nat}(hr:Room k A):A.units+100<cLine:=by
 have:=hr.un
 omega
theorem xM : ∀ {xs:List V} {us:List aE},xs.length=us.length->(∀ (j:Nat) x u,xs[j]?=some x->us[j]?=some u->RelV x u)->Vals xs us
 | [],[],_,_=>.nil
 | [],_::_,h,_=>by simp at h
 | _::_,[],h,_=>by simp at h
 | x::xs,u::us,h,r=>.cons (r 0 x u rfl rfl) (xM (by simpa using h) fun j y w h1 h2=>r (j+1) y w (by simpa using h1) (by simpa using h2))
noncomputable def rLeS:R2:=fun x y H Q=>∃ i j,x = .str i/\y = .str j/\Q (.bl (!(decide (j.cps.toList<i.cps.toList)))) H
noncomputable def signV (c:Nat):V:=.str ⟨#[c]⟩
section
variable {X:Cx}
theorem call_listS (hc:X.calm=true):Acv X (.type "list") (fun xs H Q=>∃ z:aD,xs=[.str z]/\z.length≤sizeLine /\ ∀ l,H l=none->Q (.ref l) (upd H l (.lst (z.cps.toList.map signV)))):=by
 intro pins s σ H xs us Q I r h
 obtain⟨z,rfl,hz,q⟩:=h
 obtain⟨u,rfl,t,rfl⟩:=vals1 r
 refine call_list_str (I.ok.hd hc) z t (fun h' tk acc' c' hk hS hacc=>?_) hz
 have hv:Vals (z.cps.toList.map signV) acc'.toList:=by
  refine xM (by simp[hacc.1]) fun j x u h1 h2=>?_
  obtain⟨c,t',hc1,rfl⟩:=hacc.2 j u (by simpa using h2)
  have:(z.cps.toList.map signV)[j]?=some (signV c):=by simp[hc1]
  rw[this] at h1
  cases h1
  exact⟨t',rfl⟩
 exact⟨.ref s.heap.objs.size,_,I.laid hk (bM _) (show Ace X.prog X.w _ h' _ (.lst (z.cps.toList.map signV)) from⟨by rw[cU,mG]; exact hz,acc'.toList,c',hv,by simpa using hS⟩),rfl,q _ I.fresh⟩
theorem tZ:OpR X (eJ .LtE) rLeS:=by
 intro pins s σ H x y v u Q I rx ry h
 obtain⟨i,j,rfl,rfl,q⟩:=h
 obtain⟨t,rfl⟩:=rx
 obtain⟨t',rfl⟩:=ry
 exact PySem.P.le_str ⟨.bl _,H,I,rfl,q⟩
theorem strsAre_of {ys:List aD} : ∀ {us:List aE},Vals (ys.map V.str) us->StrsAre us ys:=by
 induction ys with
 | nil=>intro us r; cases r; exact .nil
 | cons y r ih=>
  intro us h
  cases h with
  | cons h1 h2=>
   obtain⟨t,rfl⟩:=h1
   exact .cons y t (ih h2)
theorem mt_join:MtR X "str.join" (fun x vs H Q=>∃ sep l ys,x = .str sep/\vs=[.ref l]/\SqL X.K H l (ys.map V.str)/\(ys.map (·.length)).sum+ys.length*sep.length≤16777216/\Q (.str (iZ sep ys)) H):=by
 intro pins s σ H x xs v us Q I rx rv h
 obtain⟨sep,l,ys,rfl,rfl,hs,hok,q⟩:=h
 obtain⟨t,rfl⟩:=rx
 obtain⟨u,rfl,ru⟩:=vals1 rv
 cases ru
 obtain⟨its,r,pl,hz⟩:=I.list hs
 refine join_list pl.isList (by simpa using strsAre_of r) hok fun t' k=>?_
 have e:Txt.join sep ys=iZ sep ys:=StrLaws.glued_eq_join sep ys
 rw[e]
 exact⟨.str _,H,I.tok k,⟨t',rfl⟩,q⟩
theorem BQ : ∀ cs:List Nat,iZ ⟨#[]⟩ (cs.map fun c=>(⟨#[c]⟩:aD))=⟨cs.toArray⟩
 | []=>rfl
 | c::r=>by
  rw[dR,join_nil_cons,BQ r]
  show(⟨#[c]++r.toArray⟩:aD)=⟨(c::r).toArray⟩
  simp
end
def ItD (K:aI)(B:Hp)(J:It)(ds:List aA):Prop:=∀ (i:Nat) (H2:Hp),Ext B H2 ->
 (∀ d,ds[i]?=some d->J.go i H2 /\ ∀ x H3,J.yld i H2 x H3->Ext H2 H3 /\ ∀ P2,Hid P2 H2->Ext B (hid H2 P2)->Abb K (hid H3 P2) d x)/\(ds.length=i->J.stop i H2)
noncomputable def tI (K:aI)(f:AF):TI:=fun σ H R=>∃ P ρ ds,Hid P H/\Ajq K (hid H P) ρ σ/\f ρ=some ds /\ ∀ J H',Ext H H'->ItD K (hid H' P) J ds->R J H'
noncomputable def tI0 (K:aI)(f:AF):TI:=fun σ H R=>∃ P ρ ds,Hid P H/\Ajq K (hid H P) ρ σ/\f ρ=some ds /\ ∀ J H',Ext H H'->ItD K (fun _=>none) J ds->R J H'
abbrev DI (X:Cx)(tg e:aS)(f:AF):Prop:=PI X tg e (tI X.K f)
abbrev DI0 (X:Cx)(tg e:aS)(f:AF):Prop:=PI X tg e (tI0 X.K f)
noncomputable def itemsOf:aA->Option (List aA)
 | .list ds=>some ds
 | .tuple ds=>some ds
 | .str x=>some (x.cps.toList.map fun c=>.str ⟨#[c]⟩)
 | _=>none
noncomputable def iIt (f:EF):AF:=fun ρ=>(f ρ).bind itemsOf
section
variable {X:Cx}{tg e a b:aS}{p pos:bG}
theorem PI.imp {t t':TI}(h:PI X tg e t)(w : ∀ σ H R,t' σ H R->t σ H R):PI X tg e t':=fun pins s σ H R I q=>h pins s σ H R I (w _ _ _ q)
theorem PI.or {t t':TI}(h:PI X tg e t)(h':PI X tg e t'):PI X tg e (fun σ H R=>t σ H R \/ t' σ H R):=fun pins s σ H R I q=>q.elim (h pins s σ H R I) (h' pins s σ H R I)
theorem itd_list {K:aI}{B:Hp}{a:aB}{xs:List V}{ds:List aA}(h:SqL K B a xs)(r:Aaq K B ds xs):ItD K B (vO K a) ds:=fun i H2 x2=>by
 have h2:=x2.sqL h
 refine⟨fun d hd=>?_,fun e=>⟨xs,h2,by rw[r.length]; omega⟩⟩
 obtain⟨v,h3,h4⟩:=r.get hd
 refine⟨⟨xs,v,h2,h3⟩,?_⟩
 rintro x H3 ⟨rfl,hx⟩
 have:=h3.symm.trans (hx xs h2)
 cases this
 exact⟨Ext.refl,fun P2 _ xb=>h4.ext xb⟩
theorem itd_tup {K:aI}{B:Hp}{a:aB}{xs:List V}{ds:List aA}(h:B a=some (.tup xs))(r:Aaq K B ds xs):ItD K B (vN K a) ds:=fun i H2 x2=>by
 have h2:SqT K H2 a xs:=SqT.of (x2 _ _ h)
 refine⟨fun d hd=>?_,fun e=>⟨xs,h2,by rw[r.length]; omega⟩⟩
 obtain⟨v,h3,h4⟩:=r.get hd
 refine⟨⟨xs,v,h2,h3⟩,?_⟩
 rintro x H3 ⟨rfl,hx⟩
 have:some v=some x:=h3.symm.trans (hx xs h2)
 cases this
 exact⟨Ext.refl,fun P2 _ xb=>h4.ext xb⟩
theorem vR {z:aD}{i c:Nat}(h:cQ (.str z)=true)(hc:z.cps.toList[i]?=some c):cQ (.str ⟨#[c]⟩)=true:=by
 have hz : ∀ d∈z.cps,d<0x110000:=by
  have h':z.cps.all (· < 0x110000)=true:=by simpa only[cQ,yS] using h
  intro d hd
  exact of_decide_eq_true (Array.all_eq_true'.mp h' d hd)
 have:=hz c (by simpa using nD hc)
 simp[cQ,yS,this]
theorem itd_str {K:aI}{B:Hp}{z:aD}(hl:cQ (.str z)=true):ItD K B (sX z) (z.cps.toList.map fun c=>.str ⟨#[c]⟩):=fun i H2 x2=>by
 refine⟨fun d hd=>?_,fun e=>?_⟩
 ·rw[eX] at hd
  cases hc:z.cps.toList[i]? with
  | none=>rw[hc] at hd; simp at hd
  | some c=>
   rw[hc] at hd
   have hd:bP ⟨#[c]⟩=d:=by simpa using hd
   subst hd
   have hlt:i<z.cps.size:=by simpa using(eK.mp hc).1
   refine⟨hlt,?_⟩
   rintro x H3 ⟨rfl,c',hc',rfl⟩
   have:z.cps.toList[i]?=some c':=by simpa using hc'
   rw[hc] at this
   cases this
   exact⟨Ext.refl,fun P2 _ _=>Aap.mpr ⟨rfl,vR hl hc⟩⟩
 ·have:z.cps.size=i:=by simpa using e
  exact yW this
theorem itd_range {K:aI}{lo:Int}{n:Nat}{B:Hp}:ItD K B (sY lo n) ((dC n).map fun(k:Nat)=>bY (lo+k)):=fun i H2 x2=>by
 refine⟨fun d hd=>?_,fun e=>?_⟩
 ·have hlt:i<n:=by
   have:=(eK.mp hd).1
   simpa using this
  have hd':bY (lo+i)=d:=by
   rw[eX,List.getElem?_range hlt] at hd
   simpa using hd
  subst hd'
  refine⟨hlt,?_⟩
  rintro x H3 ⟨rfl,rfl⟩
  exact⟨Ext.refl,fun P2 _ _=>Aam.mpr rfl⟩
 ·have:n=i:=by simpa using e
  exact yW this
theorem mT {f:EF}(h:DE X e f):DI X tg e (iIt f):=PI.imp (PI.or (pi_list h) (PI.or (pi_tup h) (pi_str h))) fun σ H R gh=>by
 obtain⟨P,ρ,ds,hP,rs,ef,k⟩:=gh
 obtain⟨d,e1,ef⟩:=XBs ef
 cases d with
 | list ds'=>
  have:ds'=ds:=by simpa [itemsOf] using ef
  subst this
  refine .inl ⟨P,ρ,_,hP,rs,e1,cR fun v H1 x1 r1=>?_⟩
  obtain⟨a,xs,rfl,hr,rr⟩:=Aa9.mp r1
  exact⟨a,rfl,⟨xs,Aa3.sqL hr⟩,k _ H1 x1 (itd_list hr rr)⟩
 | tuple ds'=>
  have:ds'=ds:=by simpa [itemsOf] using ef
  subst this
  refine .inr (.inl ⟨P,ρ,_,hP,rs,e1,cR fun v H1 x1 r1=>?_⟩)
  obtain⟨a,xs,rfl,hr,rr⟩:=Aa1.mp r1
  exact⟨a,rfl,⟨xs,SqT.of (Aa3 _ _ hr)⟩,k _ H1 x1 (itd_tup hr rr)⟩
 | str z=>
  have:z.cps.toList.map (fun c=>bP ⟨#[c]⟩)=ds:=by simpa [itemsOf] using ef
  subst this
  refine .inr (.inr ⟨P,ρ,_,hP,rs,e1,cR fun v H1 x1 r1=>?_⟩)
  exact⟨z,(Aap.mp r1).1,k _ H1 x1 (itd_str (Aap.mp r1).2)⟩
 | _=>simp[itemsOf] at ef
noncomputable def rngD (lo hi:Int):Option (List aA):=if -(2 ^ 62)≤lo/\lo<2 ^ 62 /\ -(2 ^ 62)≤hi/\hi<2 ^ 62 then some ((dC (hi - lo).toNat).map fun(k:Nat)=>bY (lo+k)) else none
noncomputable def iR1 (fa:AF):AF:=fun ρ=>(fa ρ).bind fun ds=>match ds with
 | [.int j]=>rngD 0 j
 | _=>none
theorem rB {fa:AF}(hg:Gl X "range")(hm:X.mg "range" = none)(ha:DA X [a] fa)(hs:bF [a] X.env=[(false,bC a X.env)]:=by rfl):DI0 X tg (.Call (.Name "range" p) [a] [] pos) (iR1 fa):=PI.imp (pi_range1 hg hm ha hs) fun σ H R gh=>by
 obtain⟨P,ρ,ds,hP,rs,ef,k⟩:=gh
 obtain⟨as,e1,ef⟩:=XBs ef
 refine⟨P,ρ,as,hP,rs,e1,fun vs H1 x1 r1=>?_⟩
 split at ef
 ·rename_i j
  obtain⟨hb,rfl⟩:=cP ef
  obtain⟨v,t,rfl,h1,h2⟩:=Aad.mp r1
  obtain rfl:=Aal.mp h2
  obtain rfl:=Aam.mp h1
  have e0:(j - 0).toNat=j.toNat:=by simp
  refine⟨j,rfl,hb.2.2.1,hb.2.2.2,k _ H1 x1 ?_⟩
  rw[e0]
  exact itd_range
 ·cases ef
theorem di_of0 {f:AF}(h:DI0 X tg e f):DI X tg e f:=PI.imp h fun σ H R ⟨P,ρ,ds,hP,rs,ef,k⟩=>⟨P,ρ,ds,hP,rs,ef,fun J H' x it=>k J H' x fun i H2 x2=>by
 obtain⟨h1,h2⟩:=it i H2 (fun _ _ e=>by cases e)
 exact⟨fun d hd=>⟨(h1 d hd).1,fun v H3 y=>⟨((h1 d hd).2 v H3 y).1,fun P2 hp _=>((h1 d hd).2 v H3 y).2 P2 hp fun _ _ e=>by cases e⟩⟩,h2⟩⟩
noncomputable def tI' (K:aI)(H0:Hp)(P0:aB->Prop)(m:Md)(f:AF):TI:=fun σ H R=>∃ B0 ρ fp ds,Sta K H0 P0 B0 ρ σ H fp/\aV m f ρ=some ds /\ ∀ J B1 H',Sta K H0 P0 B1 ρ σ H' fp->Ext B0 B1->ItD K B1 J ds->R J H'
theorem Sta.rebase {K:aI}{H0 H B0 B1:Hp}{P0:aB->Prop}{ρ:aZ}{σ:St}{fp:Nat->List aB}(S:Sta K H0 P0 B0 ρ σ H fp)(b:Ext B1 (L2.hid H (Hd P0 fp))):Sta K H0 P0 B1 ρ σ H fp:=⟨S.len,S.nd,S.dj,S.own,S.ext,S.hd,b,S.slot⟩
variable {H0:Hp}{P0:aB->Prop}
theorem evI {f:AF}(h:DI X tg e f):PI X tg e (tI' X.K H0 P0 .s f):=PI.imp h fun σ H R ⟨B0,ρ,fp,ds,S,ef,k⟩=>
 ⟨Hd P0 fp,vS ρ,ds,S.hid,S.viewS,ef,fun J H' x it=>k J _ H' ((S.grow x).rebase Ext.refl) (S.grow x).base it⟩
theorem evI0 {f:AF}(m:Md)(h:DI0 X tg e f):PI X tg e (tI' X.K H0 P0 m f):=PI.imp h fun σ H R gh=>by
 obtain⟨B0,ρ,fp,ds,S,ef,k⟩:=gh
 have up : ∀ {J:It} {B:Hp},ItD X.K (fun _=>none) J ds->ItD X.K B J ds:=fun {J B} it i H2 x2=>by
  obtain⟨h1,h2⟩:=it i H2 (fun _ _ e=>by cases e)
  exact⟨fun d hd=>⟨(h1 d hd).1,fun v H3 y=>⟨((h1 d hd).2 v H3 y).1,fun P2 hp _=>((h1 d hd).2 v H3 y).2 P2 hp fun _ _ e=>by cases e⟩⟩,h2⟩
 cases m with
 | s=>exact⟨Hd P0 fp,vS ρ,ds,S.hid,S.viewS,ef,fun J H' x it=>k J _ H' (S.grow x) Ext.refl (up it)⟩
 | a=>exact⟨P0,vA ρ,ds,S.hd.ext S.ext,S.viewA,ef,fun J H' x it=>k J _ H' (S.grow x) Ext.refl (up it)⟩
end
noncomputable def tG (K:aI)(H0:Hp)(P0:aB->Prop)(T:aA->aZ->Option aZ):TG:=fun v σ H Q=>∃ B0 ρ fp d ρ',Sta K H0 P0 B0 ρ σ H fp/\Abb K (hid H (Hd P0 fp)) d v/\T d ρ=some ρ' /\ ∀ σ' fp',Sta K H0 P0 B0 ρ' σ' H fp'->Q σ' H
abbrev DG (X:Cx)(H0:Hp)(P0:aB->Prop)(tg:aS)(T:aA->aZ->Option aZ):Prop:=PG X tg (tG X.K H0 P0 T)
section
variable {X:Cx}{H0:Hp}{P0:aB->Prop}{n0:Nat}{pos:bG}
theorem PG.imp {tg:aS}{t t':TG}(h:PG X tg t)(w : ∀ v σ H Q,t' v σ H Q->t v σ H Q):PG X tg t':=fun pins s σ H v u Q I r q=>h pins s σ H v u Q I r (w _ _ _ _ q)
theorem Sta.Amq {K:aI}{H B0:Hp}{ρ:aZ}{σ:St}{fp:Nat->List aB}{d:aA}{v:V}{i:Nat}(S:Sta K H0 P0 B0 ρ σ H fp)(r:Abb K (L2.hid H (Hd P0 fp)) d v)(hi:i<ρ.length) : ∃ fp',Sta K H0 P0 B0 (ρ.set i (some (0,d))) (σ.set i (some v)) H fp':=by
 have hsub : ∀ a,Hd P0 (fun j=>if j=ρ.length then [] else fp j) a->Hd P0 fp a:=fun a h=>by
  rcases h with h | ⟨j,h⟩
  ·exact .inl h
  ·by_cases hj:j=ρ.length
   ·simp only[hj,if_true] at h; simp at h
   ·simp only[hj,if_false] at h; exact .inr ⟨j,h⟩
 have S2:Sta K H0 P0 B0 ρ σ H (fun j=>if j=ρ.length then [] else fp j):=by
  refine⟨S.len,fun j=>?_,fun j k a h1 h2=>?_,fun j a h1=>?_,S.ext,S.hd,S.base.trans (gC hsub),fun j n d e=>?_⟩
  ·by_cases hj:j=ρ.length
   ·simp only[hj,if_true]; exact .nil
   ·simp only[hj,if_false]; exact S.nd j
  ·by_cases hj:j=ρ.length
   ·simp only[hj,if_true] at h1; simp at h1
   ·by_cases hk:k=ρ.length
    ·simp only[hk,if_true] at h2; simp at h2
    ·simp only[hj,if_false] at h1; simp only[hk,if_false] at h2; exact S.dj j k a h1 h2
  ·by_cases hj:j=ρ.length
   ·simp only[hj,if_true] at h1; simp at h1
   ·simp only[hj,if_false] at h1; exact S.own j a h1
  ·have hlt:=(eK.mp e).1
   have hj:j≠ρ.length:=by omega
   obtain⟨v',h1,h2⟩:=S.slot j n d e
   refine⟨v',h1,?_⟩
   simp only[hj,if_false]
   exact h2.keep (gC hsub) fun a m=>rfl
 refine Tmp.set ⟨_,S2,?_⟩ hi
 simp only[if_true]
 exact⟨rfl,r.ext (gC hsub)⟩
noncomputable def gNm (i:Nat):aA->aZ->Option aZ:=fun d ρ=>if i<ρ.length then some (ρ.set i (some (0,d))) else none
theorem tK {i:Nat}{x:aD}(hN:X.N.Nodup)(hi:X.N[i]?=some x)(hx:jV X.env.scope x)(hf:X.fn x=true \/ X.env.scope.names.lookup x=some .local:=by first | exact .inl rfl | exact .inr rfl | assumption):DG X H0 P0 (.Name x pos) (gNm i):=
 PG.imp (qP hN hi hx hf) fun v σ H Q gh=>by
  obtain⟨B0,ρ,fp,d,ρ',S,r,ef,k⟩:=gh
  obtain⟨hl,rfl⟩:=cP ef
  obtain⟨fp',S'⟩:=S.Amq r hl
  exact k _ fp' S'
noncomputable def gPair (i j:Nat):aA->aZ->Option aZ:=fun d ρ=>match d with
 | .tuple [a,b]=>(gNm i a ρ).bind fun ρ'=>gNm j b ρ'
 | _=>none
theorem dg_pair {i j:Nat}{x y:aD}{p1 p2:bG}{k}(hc:X.calm=true)(hN:X.N.Nodup)(hi:X.N[i]?=some x)(hj:X.N[j]?=some y)(hx:jV X.env.scope x)(hy:jV X.env.scope y)
  (hf:X.fn x=true \/ X.env.scope.names.lookup x=some .local:=by first | exact .inl rfl | exact .inr rfl | assumption) (hf2:X.fn y=true \/ X.env.scope.names.lookup y=some .local:=by first | exact .inl rfl | exact .inr rfl | assumption)
  (hn:(jP [.Name x p1,.Name y p2] X.env).length=2:=by rfl) (hst:(jP [.Name x p1,.Name y p2] X.env).findIdx? (·.1)=none:=by rfl)
  (h1:(jP [.Name x p1,.Name y p2] X.env).map (·.2)=lX (.Name x p1) X.env::(jP [.Name y p2] X.env).map (·.2):=by rfl) (h2:(jP [.Name y p2] X.env).map (·.2)=lX (.Name y p2) X.env::(jP [] X.env).map (·.2):=by rfl):DG X H0 P0 (.Tuple [.Name x p1,.Name y p2] k pos) (gPair i j):=
 PG.imp (pg_tup hc (pgs_cons (qP hN hi hx hf) (pgs_cons (qP hN hj hy hf2) pgs_nil h2) h1) hn hst) fun v σ H Q gh=>by
  obtain⟨B0,ρ,fp,d,ρ',S,r,ef,k⟩:=gh
  unfold gPair at ef
  split at ef
  ·rename_i a b
   obtain⟨ρ1,e1,e2⟩:=XBs ef
   obtain⟨l1,rfl⟩:=cP e1
   obtain⟨l2,rfl⟩:=cP e2
   obtain⟨p,xs,rfl,hp,rr⟩:=Aa1.mp r
   obtain⟨v1,t1,rfl,r1,rr⟩:=Aad.mp rr
   obtain⟨v2,t2,rfl,r2,rr⟩:=Aad.mp rr
   obtain rfl:=Aal.mp rr
   refine⟨p,_,rfl,SqT.of (Aa3 _ _ hp),rfl,v1,_,rfl,v2,_,rfl,rfl,?_⟩
   have Sb:=S.rebase Ext.refl
   obtain⟨fp1,S1⟩:=Sb.Amq r1 l1
   obtain⟨fp2,S2⟩:=S1.Amq (r2.ext S1.base) l2
   exact k _ fp2 (S2.rebase (S.base.trans S2.base))
  ·cases ef
end
noncomputable def forD (F:SF)(T:aA->aZ->Option aZ):List aA->SF
 | [],ρ=>some (.nx ρ)
 | d::r,ρ=>(T d ρ).bind fun ρ1=>(F ρ1).bind fun o=>match o with
  | .nx ρ'=>forD F T r ρ'
  | .ct ρ'=>forD F T r ρ'
  | .bk ρ'=>some (.nx ρ')
  | .rt d=>some (.rt d)
noncomputable def sFor (m:Md)(fi:AF)(T:aA->aZ->Option aZ)(F:SF):SF:=fun ρ=>(aV m fi ρ).bind fun ds=>forD F T ds ρ
section
variable {X:Cx}{H0:Hp}{P0:aB->Prop}{n0:Nat}{pos:bG}{tg iter:aS}{body:List bL}{F:SF}{T:aA->aZ->Option aZ}{fi:AF}{m:Md}
theorem for_core (hp:PassesOwn (aP X.prog X.w) X.A X.env X.xe)(hc:X.calm=true)(hi:PI X tg iter (tI' X.K H0 P0 m fi))(hg:DG X H0 P0 tg T)(hb:DSs X H0 P0 n0 body F)
  (hs : ∀ x,nY iter X.env x=pure x:=by intro _; rfl):DS X H0 P0 n0 (.For tg iter body [] pos) (sFor m fi T F):=PS.imp (ps_for hp hc hi hg hb hs) fun D σ H gh=>by
 obtain⟨B0,ρ,fp,o,S,ef,k⟩:=gh
 obtain⟨ds,e1,ef⟩:=XBs ef
 refine⟨B0,ρ,fp,ds,S,e1,fun J B1 H' S1 xb it=>?_⟩
 refine⟨fun i m σ H=>m=ds.length - i/\i≤ds.length /\ ∃ ρ fp,Sta X.K H0 P0 B1 ρ σ H fp/\forD F T (ds.drop i) ρ=some o,⟨ds.length,by simp,eE _,ρ,fp,S1,by simpa using ef⟩,?_⟩
 rintro i m σ2 H2 ⟨rfl,hi,ρ2,fp2,S2,e2⟩
 have x2:=S2.base.trans Aa3
 obtain⟨go,st⟩:=it i H2 x2
 by_cases hlt:i<ds.length
 ·have hd:=jH hlt
  rw[HN hlt] at e2
  obtain⟨ρ3,e3,e2⟩:=XBs e2
  obtain⟨o3,e4,e2⟩:=XBs e2
  obtain⟨g1,g2⟩:=go _ hd
  refine .inr ⟨g1,fun σ' H'=>i+1≤ds.length /\ ∃ ρ fp,Sta X.K H0 P0 B1 ρ σ' H' fp/\forD F T (ds.drop (i+1)) ρ=some o,fun σ' H' ⟨h1,h2⟩=>⟨ds.length - (i+1),by omega,rfl,h1,h2⟩,fun x H3 y=>?_⟩
  obtain⟨x3,r3⟩:=g2 x H3 y
  refine⟨B1,ρ2,fp2,_,ρ3,S2.grow x3,r3 _ S2.hid S2.base,e3,fun σ4 fp4 S4=>⟨B1,ρ3,fp4,o3,S4,e4,?_⟩⟩
  cases o3 with
  | nx ρ5=>exact fun σ5 H5 fp5 S5=>⟨hlt,ρ5,fp5,S5,e2⟩
  | ct ρ5=>exact fun σ5 H5 fp5 S5=>⟨hlt,ρ5,fp5,S5,e2⟩
  | bk ρ5=>
   cases e2
   exact fun σ5 H5 fp5 S5=>k σ5 H5 fp5 (S5.rebase (xb.trans S5.base))
  | rt d=>
   cases e2
   exact k
 ·have e:i=ds.length:=by omega
  subst e
  rw[List.drop_length] at e2
  cases e2
  exact .inl ⟨st rfl,k σ2 H2 fp2 (S2.rebase (xb.trans S2.base))⟩
theorem ds_for (hp:PassesOwn (aP X.prog X.w) X.A X.env X.xe)(hc:X.calm=true)(hi:DI X tg iter fi)(hg:DG X H0 P0 tg T)(hb:DSs X H0 P0 n0 body F)
  (hs : ∀ x,nY iter X.env x=pure x:=by intro _; rfl):DS X H0 P0 n0 (.For tg iter body [] pos) (sFor .s fi T F):=for_core hp hc (evI hi) hg hb hs
theorem ds_for0 (m:Md)(hp:PassesOwn (aP X.prog X.w) X.A X.env X.xe)(hc:X.calm=true)(hi:DI0 X tg iter fi)(hg:DG X H0 P0 tg T)(hb:DSs X H0 P0 n0 body F)
  (hs : ∀ x,nY iter X.env x=pure x:=by intro _; rfl):DS X H0 P0 n0 (.For tg iter body [] pos) (sFor m fi T F):=for_core hp hc (evI0 m hi) hg hb hs
end
noncomputable def lcD (T:aA->List (Option aA)->Option (List (Option aA)))(t:BF)(f:EF)(ρ:List (Option aA)):List aA->Option (List aA)
 | []=>some []
 | d::r=>(T d ρ).bind fun ρ1=>(t ρ1).bind fun c=>if c=true then(f ρ1).bind fun y=>(lcD T t f ρ r).bind fun ys=>some (y::ys) else lcD T t f ρ r
noncomputable def capD (cap:List (Option Nat))(ρ:List (Option aA)):List (Option aA):=cap.map fun o=>o.bind fun j=>(ρ[j]?).join
noncomputable def eLC (cap:List (Option Nat))(fi:AF)(T:aA->List (Option aA)->Option (List (Option aA)))(t:BF)(f:EF):EF:=fun ρ=>(fi ρ).bind fun ds=>(lcD T t f (capD cap ρ) ds).bind fun ys=>if ds.length≤sizeLine then some (.list ys) else none
noncomputable def tGB (K:aI)(T:aA->List (Option aA)->Option (List (Option aA))):TG:=fun v σ H Q=>∃ P ρ d ρ',Hid P H/\Ajq K (hid H P) ρ σ/\Abb K (hid H P) d v/\T d ρ=some ρ' /\ ∀ σ',Ajq K (hid H P) ρ' σ'->Q σ' H
def TOk (T:aA->List (Option aA)->Option (List (Option aA))):Prop:=∀ d ρ ρ',T d ρ=some ρ' -> ∀ (i:Nat) d',ρ[i]?=some (some d')->ρ'[i]?=some (some d')
noncomputable def gG:BF:=fun _=>some true
noncomputable def gB (j:Nat):aA->List (Option aA)->Option (List (Option aA)):=fun d ρ=>match ρ[j]? with
 | some none=>some (ρ.set j (some d))
 | _=>none
theorem gB_some {j:Nat}{d:aA}{ρ ρ':List (Option aA)}(h:gB j d ρ=some ρ'):ρ[j]?=some none/\ρ.set j (some d)=ρ':=by
 unfold gB at h
 split at h
 ·rename_i e
  exact⟨e,fA h⟩
 ·cases h
theorem lH {j:Nat}:TOk (gB j):=fun d ρ ρ' e i d' h=>by
 obtain⟨hj,rfl⟩:=gB_some e
 by_cases q:j=i
 ·subst q; rw[hj] at h; cases h
 ·rw[jG q]; exact h
section
variable {X:Cx}{N:List aD}{cap:List (Option Nat)}{sc:gD}{elt iter tg c:aS}{ifs:List aS}{pos:bG}{fi:AF}{T:aA->List (Option aA)->Option (List (Option aA))}{t:BF}{f:EF}
theorem lL:PIfs X [] (tTF X.K gG):=fun pins s σ H Q I gh=>by
 obtain⟨P,ρ,b,hP,rs,ef,k⟩:=gh
 cases ef
 exact pif_nil pins s σ H Q I (k H Ext.refl)
theorem Ajq.set {K:aI}{B:Hp}{ρ:List (Option aA)}{σ:St}{d:aA}{v:V}{j:Nat}(h:Ajq K B ρ σ)(r:Abb K B d v)(hl:j<σ.length):Ajq K B (ρ.set j (some d)) (σ.set j (some v)):=fun i d' e=>by
 by_cases q:j=i
 ·subst q
  have hj:j<ρ.length:=by
   have:=(eK.mp e).1
   simpa using this
  rw[kR hj] at e
  cases e
  exact⟨v,kR hl,r⟩
 ·rw[jG q] at e
  obtain⟨w,h1,h2⟩:=h i d' e
  exact⟨w,by rw[jG q]; exact h1,h2⟩
def DGB (X:Cx)(tg:aS)(T:aA->List (Option aA)->Option (List (Option aA))):Prop:=
 ∀ (pins:List (aB×aT)) (s:aG) (σ:St) (H:Hp) (v:V) (u:aE) (Q:St->Hp->Prop),Inv X pins σ H s->RelV v u->tGB X.K T v σ H Q ->
  aO (aP X.prog X.w) X.A (lX tg X.env u) (fun _ s'=>∃ σ' H',Inv X pins σ' H' s'/\Q σ' H') X.xe s
theorem lN {j:Nat}{x:aD}(hN:X.N.Nodup)(hi:X.N[j]?=some x)(hx:jV X.env.scope x)(hf:X.fn x=true \/ X.env.scope.names.lookup x=some .local:=by first | exact .inl rfl | exact .inr rfl | assumption):DGB X (.Name x pos) (gB j):=fun pins s σ H v u Q I r gh=>by
 obtain⟨P,ρ,d,ρ',hP,rs,rd,ef,k⟩:=gh
 obtain⟨hj,rfl⟩:=gB_some ef
 have hl:j<σ.length:=by rw[I.len]; exact(eK.mp hi).1
 exact qP hN hi hx hf pins s σ H v u Q I r (k _ (rs.set rd hl))
theorem repS_cap {K:aI}{B:Hp}{ρ:List (Option aA)}{σ:St}(h:Ajq K B ρ σ):Ajq K B (capD cap ρ) (capt cap σ):=fun i d e=>by
 unfold capD at e
 unfold capt
 rw[eX] at e ⊢
 cases hc:cap[i]? with
 | none=>rw[hc] at e; simp at e
 | some o=>
  rw[hc] at e
  cases o with
  | none=>simp at e
  | some j=>
   simp only[oB,bS,pV] at e ⊢
   obtain⟨v,h1,h2⟩:=h j d (AA e)
   exact⟨v,by rw[h1]; rfl,h2⟩
theorem lcD_t {K:aI}(hT:TOk T) : ∀ σ H Q,tF K 1 (eLC cap fi T t f) σ H Q->tLC cap (tI K fi) (tGB K T) (tTF K t) (tF K 0 f) σ H Q:=fun σ H Q gh=>by
 obtain⟨P,ρ,d,hP,rs,ef,k⟩:=gh
 obtain⟨ds,e1,ef⟩:=XBs ef
 obtain⟨all,e2,ef⟩:=XBs ef
 obtain⟨hz,rfl⟩:=cP ef
 refine⟨P,ρ,ds,hP,rs,e1,fun J H1 x1 it A hA=>?_⟩
 have hPA:=(hP.ext x1).new hA
 have back : ∀ {H':Hp} {ys:List V},hid (upd H' A (.lst ys)) (orL P [A])=hid H' (orL P [A]):=fun {H' ys}=>by
  funext b
  unfold hid
  by_cases hb:orL P [A] b
  ·rw[if_pos hb,if_pos hb]
  ·rw[if_neg hb,if_neg hb]
   exact bH (fun z=>hb (.inr (by simp[z])))
 refine⟨fun i m ys σ' H'=>m=ds.length - i/\i≤ds.length/\H' A=some (.lst ys)/\Ext H1 H'/\Ext (hid H1 P) (hid H' (orL P [A]))/\Ajq K (hid H' (orL P [A])) (capD cap ρ) σ'/\ys.length≤i /\
  ∃ done rest,Aaq K (hid H' (orL P [A])) done ys/\lcD T t f (capD cap ρ) (ds.drop i)=some rest/\all=done++rest,⟨ds.length,?_⟩,?_⟩
 ·have xa:Ext (hid H1 P) (hid (upd H1 A (.lst [])) (orL P [A])):=fun b o e=>by
   obtain⟨nb,e⟩:=Ac6.mp e
   have hb:=fP e hA
   exact fY (fun z=>z.elim nb fun m=>hb (by simpa using m)) (by rw[bH hb]; exact e)
  exact⟨by simp,eE _,dQ,Ext.new hA,xa,(repS_cap (rs.ext (cT x1))).ext xa,eE _,[],all,Aal.mpr rfl,by simpa using e2,rfl⟩
 ·rintro i m ys σ' H' ⟨rfl,hi,hD,x2,xb,rs2,hl,done,rest,rd,e3,rfl⟩
  refine⟨hD,?_⟩
  obtain⟨go,st⟩:=it i H' (Aa3.trans x2)
  have hid2:Hid (orL P [A]) H':=fun a h=>by
   rcases h with h | h
   ·exact(hP.ext (x1.trans x2)) a h
   ·have:a=A:=by simpa using h
    subst this
    exact .inl ⟨_,hD⟩
  by_cases hlt:i<ds.length
  ·have hd:=jH hlt
   rw[HN hlt] at e3
   obtain⟨ρ1,e4,e3⟩:=XBs e3
   obtain⟨c,e5,e3⟩:=XBs e3
   obtain⟨g1,g2⟩:=go _ hd
   refine .inr ⟨g1,by omega,fun ys σ' H'=>i+1≤ds.length/\H' A=some (.lst ys)/\Ext H1 H'/\Ext (hid H1 P) (hid H' (orL P [A]))/\Ajq K (hid H' (orL P [A])) (capD cap ρ) σ'/\ys.length≤i+1 /\
    ∃ d2 r2,Aaq K (hid H' (orL P [A])) d2 ys/\lcD T t f (capD cap ρ) (ds.drop (i+1))=some r2/\done++rest=d2++r2,fun zs σ2 H2 h=>⟨ds.length - (i+1),by omega,rfl,h⟩,fun x H2 y=>?_⟩
   obtain⟨x3,r3⟩:=g2 x H2 y
   refine⟨orL P [A],capD cap ρ,_,ρ1,hid2.ext x3,rs2.ext (cT x3),r3 _ hid2 xb,e4,fun σ3 rs3=>?_⟩
   refine⟨orL P [A],ρ1,c,hid2.ext x3,rs3,e5,fun H4 x4=>?_⟩
   have rs4:Ajq K (hid H2 (orL P [A])) (capD cap ρ) σ3:=fun j d' e=>rs3 j d' (hT _ _ _ e4 j d' e)
   cases c with
   | false=>
    rw[if_neg nF] at e3
    refine iteF ⟨hlt,x4 _ _ (x3 _ _ hD),x2.trans (x3.trans x4),xb.trans (cT (x3.trans x4)),rs4.ext (cT x4),by omega,done,rest,rd.ext (cT (x3.trans x4)),e3,rfl⟩
   | true=>
    rw[if_pos rfl] at e3
    obtain⟨yd,e6,e3⟩:=XBs e3
    obtain⟨r2,e7,e3⟩:=XBs e3
    cases e3
    refine iteT ⟨orL P [A],ρ1,yd,hid2.ext (x3.trans x4),rs3.ext (cT x4),e6,cR fun v H5 x5 r5=>⟨x5 _ _ (x4 _ _ (x3 _ _ hD)),hlt,dQ,?_,?_,?_,by simp; omega,done++[yd],r2,?_,e7,by simp⟩⟩
    ·intro b o e
     rw[bH (fP e hA)]
     exact x5 _ _ (x4 _ _ (x3 _ _ (x2 _ _ e)))
    ·rw[back]; exact xb.trans (cT (x3.trans (x4.trans x5)))
    ·rw[back]; exact rs4.ext (cT (x4.trans x5))
    ·rw[back]; exact(rd.ext (cT (x3.trans (x4.trans x5)))).snoc r5
  ·have e:i=ds.length:=by omega
   subst e
   rw[List.drop_length] at e3
   cases e3
   rw[vF] at k
   refine .inl ⟨st rfl,?_⟩
   refine k (.ref A) H' [A] (x1.trans x2) (hJ.mpr ⟨by simp,.nil⟩) (fun a m=>?_) ⟨A,ys,ys.map fun _=>[],rfl,hD,?_,?_⟩
   ·have:a=A:=by simpa using m
    subst this
    exact⟨x1.none hA,_,hD⟩
   ·have : ∀ l:List V,(l.map fun _=>([]:List aB)).flatten=[]:=fun l=>by
     induction l with
     | nil=>rfl
     | cons a l ih=>rw[dR,jI,ih]; rfl
    rw[this]
   ·have go : ∀ (ds:List aA) (xs:List V),Aaq K (hid H' (orL P [A])) ds xs->All3 (Aeh K (hid H' (orL P [A])) H' 0) ds xs (xs.map fun _=>[]):=by
     intro ds
     induction ds with
     | nil=>intro xs r; rw[Aal.mp r]; exact .nil
     | cons d ds ih=>
      intro xs r
      obtain⟨y,t,rfl,h1,h2⟩:=Aad.mp r
      exact .cons ⟨rfl,h1⟩ (ih t h2)
    exact go _ _ rd
def DBlock (X:Cx)(N:List aD)(sc:gD)(tg elt:aS)(ifs:List aS)(T:aA->List (Option aA)->Option (List (Option aA)))(t:BF)(f:EF):Prop:=
 ∀ (cl:List (aD×aB)) (C:aB) (s₀:aG) (H₀:Hp) (ex:List aB),DGB (fW X N sc cl C s₀ H₀ ex) tg T/\PIfs (fW X N sc cl C s₀ H₀ ex) ifs (tTF X.K t)/\DE (fW X N sc cl C s₀ H₀ ex) elt f
theorem mL (hc:X.calm=true)(S:CompScope X N cap sc)(hT:TOk T)(hi:DI X tg iter fi)(hb:DBlock X N sc tg elt ifs T t f)(hs : ∀ x,nY iter X.env x=pure x:=by intro _; rfl) :
  DF 1 X (.ListComp elt [⟨tg,iter,ifs,0⟩] sc pos) (eLC cap fi T t f):=PE.imp (pe_lc hc S hi (g:=tGB X.K T) (tc:=tTF X.K t) (te:=tF X.K 0 f) hb hs) (lcD_t hT)
variable {H0:Hp}{P0:aB->Prop}{n0:Nat}
theorem ds_asgLC {i:Nat}{x:aD}{px spos:bG}(m:Md)(hc:X.calm=true)(hN:X.N.Nodup)(hi':X.N[i]?=some x)(hx:jV X.env.scope x)(S:CompScope X N cap sc)(hT:TOk T)(hi:DI X tg iter fi)(hb:DBlock X N sc tg elt ifs T t f)
  (hsw:iW (.ListComp elt [⟨tg,iter,ifs,0⟩] sc pos) (some (.Name x px)) spos.line X.env=pure true:=by rfl)
  (hs : ∀ x,nY iter X.env x=pure x:=by intro _; rfl) (hf:X.fn x=true \/ X.env.scope.names.lookup x=some .local:=by first | exact .inl rfl | exact .inr rfl | assumption) :
  DS X H0 P0 n0 (.Assign [.Name x px] (.ListComp elt [⟨tg,iter,ifs,0⟩] sc pos) spos) (cD i 1 m (eLC cap fi T t f)):=PS.imp (ps_setLC hc hN hi' hx S hi (g:=tGB X.K T) (tc:=tTF X.K t) (te:=tF X.K 0 f) hb hsw hs hf) fun D σ H gh=>by
 obtain⟨B0,ρ,fp,o,S,ef,k⟩:=gh
 obtain⟨d,e1,ef⟩:=XBs ef
 obtain⟨hl,rfl⟩:=cP ef
 refine lcD_t hT σ H _ (ev_t m σ H _ ⟨B0,ρ,fp,d,S,e1,fun v H' t=>?_⟩)
 obtain⟨fp',S'⟩:=t.set hl
 exact k _ _ fp' S'
end
noncomputable def outD:Option Out->Option aA
 | some (.rt d)=>some d
 | some (.nx _)=>some .none
 | _=>none
noncomputable def fnD (np n:Nat)(body:SF):List aA->Option aA:=fun ds=>if ds.length=np then outD (body (ds.map (fun d=>some (0,d))++dZ (n - np) none)) else none
noncomputable def spF (K:aI)(n0:Nat)(F:List aA->Option aA):Sp:=fun vs H Q _=>∃ P ds d,Hid P H/\Aaq K (hid H P) ds vs/\F ds=some d/\Res K P n0 d H Q
section
variable {P:bA}{w:aX}{K:aI}{mg:aD->Option aE}{base:aR}
theorem iK {x qual:aD}{st:bL}{f:aB}{fd:eY}{N ps:List aD}{k n0 np:Nat}{body:SF}(F:Fun K x qual st f fd)(S:FnScope N ps (bU st))(hnp:np=ps.length)(hN:ps.length≤N.length)
  (hb : ∀ (cdv:aE) (A:bQ) (outer:List dI) (s:aG) (H:Hp) (E:XK) (P0:aB->Prop),Room k (A.deeper (gL qual (bU st) s.heap.objs.size f cdv))->DSs (cxOf CX0 P w K mg base N qual (bU st) f cdv A outer s H E).nox H P0 n0 (iB st) body) :
  FnOk P w K mg base CX0 (k+1) f fd ps (spF K n0 (fnD np N.length body)):=by
 refine F.ok S (fun vs H Q E h=>?_) (fun cdv A outer s H vs Q E hr h=>?_)
 ·obtain⟨P,ds,d,_,r,ef,_⟩:=h
  unfold fnD at ef
  by_cases hl:ds.length=np
  ·rw[r.length,hl,hnp]
  ·rw[if_neg hl] at ef; cases ef
 ·obtain⟨P0,ds,d,hP,r,ef,k⟩:=h
  refine⟨_,hb cdv A outer s H E P0 hr,?_⟩
  unfold fnD at ef
  by_cases hl:ds.length=np
  case neg=>rw[if_neg hl] at ef; cases ef
  rw[if_pos hl] at ef
  rw[← hl] at ef
  have hlen:=r.length
  have S0:Sta K H P0 (hid H P0) (ds.map (fun d=>some (0,d))++dZ (N.length - ds.length) none) (start N vs) H (fun _=>[]):=by
   have eH:Hd P0 (fun _=>[])=P0:=by
    funext a
    simp[Hd]
   refine⟨by simp[start,hlen],fun _=>.nil,fun i j a h=>by simp at h,fun i a h=>by simp at h,Ext.refl,hP,by rw[eH]; exact Ext.refl,fun i n' d' e=>?_⟩
   rw[eH]
   by_cases hi:i<ds.length
   ·rw[vC (by simpa using hi),eX] at e
    cases q:ds[i]? with
    | none=>rw[q] at e; simp at e
    | some d2=>
     rw[q] at e
     have e':0=n'/\d2=d':=by simpa using e
     obtain⟨rfl,rfl⟩:=e'
     obtain⟨v,h1,h2⟩:=r.get q
     refine⟨v,?_,rfl,h2⟩
     unfold start
     rw[vC (by rw[cU,hlen]; exact hi),eX,h1]
     rfl
   ·rw[ER (by simpa using hi)] at e
    have:=nD e
    simp at this
  cases eb:body (ds.map (fun d=>some (0,d))++dZ (N.length - ds.length) none) with
  | none=>rw[eb] at ef; cases ef
  | some o=>
   rw[eb] at ef
   refine⟨_,_,_,o,S0,eb,?_⟩
   cases o with
   | rt d'=>
    cases ef
    exact fun v H' ⟨Fr,h1,h2,h3,h4⟩=>k v H' Fr h1 h2 h3 h4
   | nx ρ'=>
    cases ef
    intro σ' H' fp' S'
    refine k .non H' [] S'.ext .nil (fun a m=>by simp at m) ?_
    cases n0 with
    | zero=>exact⟨rfl,Abz.mpr rfl⟩
    | succ n=>
     unfold Afg
     split
     ·exact .inl ⟨rfl,rfl,rfl⟩
     ·exact⟨rfl,Abz.mpr rfl⟩
   | bk _=>cases ef
   | ct _=>cases ef
variable {X:Cx}{x:aD}{k n0 np:Nat}{ps:List aD}{F:List aA->Option aA}{e:aS}{es:List aS}{fa:AF}{p pos:bG}
theorem cX (D:Def X.prog X.w X.K X.mg X.base x k ps (spF X.K n0 F))(hr:Room k X.A)(hg:Gl X x)(ha:DA X (e::es) fa)(hdb:(x == ("__debug__" : aD))=false:=by decide)(he:bF (e::es) X.env=(false,bC e X.env)::bF es X.env:=by rfl)
  (hpl:(eQ pos (bF es X.env)).any (·.1)=false:=by rfl):DF n0 X (.Call (.Name x p) (e::es) [] pos) (aQ F fa):=
 PE.imp (pe_def D hr hg ha hdb he hpl) fun σ H Q gh=>by
  obtain⟨P,ρ,d,hP,rs,ef,k⟩:=gh
  obtain⟨ds,e1,ef⟩:=XBs ef
  refine⟨P,ρ,ds,hP,rs,e1,fun vs H1 x1 r1=>?_⟩
  show spF X.K n0 F (vs++[]) H1 Q E0
  rw[vF]
  exact⟨P,ds,d,hP.ext x1,r1,ef,k.mono x1⟩
end
noncomputable def g2I (g:Int->Int->aA):aA->aA->Option aA
 | .int i,.int j=>some (g i j)
 | _,_=>none
noncomputable def g2C (C:Int->Int->Prop)[∀ i j,Decidable (C i j)](g:Int->Int->aA):aA->aA->Option aA
 | .int i,.int j=>if C i j then some (g i j) else none
 | _,_=>none
section
variable {K:aI}
theorem opd_I0 {g:Int->Int->V}{gd:Int->Int->aA}(h : ∀ i j H,Abb K H (gd i j) (g i j)):OpD K 0 (rI0 g) (g2I gd):=fun P H x y a b d Q hP ra rb e k=>by
 unfold g2I at e
 split at e
 ·rename_i i j
  cases e
  exact⟨i,j,Aam.mp ra,Aam.mp rb,k.zero Ext.refl (h i j _)⟩
 ·cases e
theorem opd_I {C C':Int->Int->Prop}[∀ i j,Decidable (C' i j)]{g:Int->Int->V}{gd:Int->Int->aA}(hC : ∀ i j,C' i j->C i j)(h : ∀ i j H,Abb K H (gd i j) (g i j)):OpD K 0 (rI C g) (g2C C' gd):=fun P H x y a b d Q hP ra rb e k=>by
 unfold g2C at e
 split at e
 ·rename_i i j
  obtain⟨hc,rfl⟩:=cP e
  exact⟨i,j,Aam.mp ra,Aam.mp rb,hC i j hc,k.zero Ext.refl (h i j _)⟩
 ·cases e
end
section
variable {X:Cx}{a b c:aS}{fa fb fc:EF}{pos:bG}
noncomputable def gF:aA->aA->Option aA:=g2C (fun i j=>(i.natAbs<2 ^ 64 \/ j.natAbs<2 ^ 64) \/ (i.natAbs<2 ^ 1000/\j.natAbs<2 ^ 1000)) fun i j=>.int (i*j)
theorem op_mulAll:OpR X (jO .Mult) (rI (fun i j=>(i.natAbs<2 ^ 64 \/ j.natAbs<2 ^ 64) \/ (i.natAbs<2 ^ 1000/\j.natAbs<2 ^ 1000)) fun i j=>.int (i*j)):=by
 intro pins s σ H x y v u Q I rx ry h
 obtain⟨i,j,ex,ey,hc,q⟩:=h
 rcases hc with hc | hc
 ·refine op_mul pins s σ H x y v u Q I rx ry ⟨i,j,ex,ey,?_,q⟩
  rcases hc with hc | hc
  ·exact .inl ⟨by omega,by omega⟩
  ·exact .inr ⟨by omega,by omega⟩
 ·exact op_mulB pins s σ H x y v u Q I rx ry ⟨i,j,ex,ey,hc,q⟩
theorem kY (ha:DE X a fa)(hb:DE X b fb):DE X (.BinOp a .Mult b pos) (eOp gF fa fb):=df_op op_mulAll (opd_I (fun _ _ h=>h) fun _ _ _=>Aam.mpr rfl) ha hb
noncomputable def bX:aA->aA->Option aA:=g2C (fun _ j=>0<j) fun i j=>.int (i%j)
theorem eB (ha:DE X a fa)(hb:DE X b fb):DE X (.BinOp a .Mod b pos) (eOp bX fa fb):=df_op op_mod (opd_I (fun _ _ h=>h) fun _ _ _=>Aam.mpr rfl) ha hb
noncomputable def gPow:aA->aA->Option aA:=g2C (fun i j=>0≤j/\j≤1000000/\i.natAbs<2 ^ 64) fun i j=>.int (i ^ j.toNat)
theorem de_pow (ha:DE X a fa)(hb:DE X b fb):DE X (.BinOp a .Pow b pos) (eOp gPow fa fb):=df_op op_pow (opd_I (fun _ _ h=>h) fun _ _ _=>Aam.mpr rfl) ha hb
noncomputable def gNeg:aA->Option aA
 | .int i=>some (.int (-i))
 | _=>none
theorem de_neg (ha:DE X a fa):DE X (.UnaryOp .USub a pos) (eUn gNeg fa):=df_un un_neg (fun P H x a d Q hP r e k=>by
 unfold gNeg at e
 split at e
 ·cases e
  exact⟨_,Aam.mp r,k.zero Ext.refl (Aam.mpr rfl)⟩
 ·cases e) ha
theorem xA {x y:aD}(hx:cQ (.str x)=true)(hy:cQ (.str y)=true):cQ (.str (x++y))=true:=by
 have e:(x++y).cps=x.cps++y.cps:=rfl
 simp only[cQ,yS] at hx hy ⊢
 rw[e,Array.all_append,hx,hy]
 rfl
noncomputable def cE:aA->aA->Option aA
 | .int i,.int j=>some (.int (i+j))
 | .str x,.str y=>if x.length+y.length≤sizeLine then some (.str (x++y)) else none
 | .tuple (x::xs),.tuple ys=>if (x::xs).length+ys.length≤sizeLine then some (.tuple ((x::xs)++ys)) else none
 | _,_=>none
theorem opd_add {K:aI}:OpD K 0 (fun x y H Q=>rI0 (fun i j=>.int (i+j)) x y H Q \/ (∃ i j,x = .str i/\y = .str j/\i.length+j.length≤sizeLine/\Q (.str (i++j)) H) \/ rCatT K x y H Q) cE:=fun P H x y a b d Q hP ra rb e k=>by
 unfold cE at e
 split at e
 ·rename_i i j
  cases e
  exact .inl ⟨i,j,Aam.mp ra,Aam.mp rb,k.zero Ext.refl (Aam.mpr rfl)⟩
 ·rename_i i j
  obtain⟨hc,rfl⟩:=cP e
  exact .inr (.inl ⟨i,j,(Aap.mp ra).1,(Aap.mp rb).1,hc,k.zero Ext.refl (Aap.mpr ⟨rfl,xA (Aap.mp ra).2 (Aap.mp rb).2⟩)⟩)
 ·rename_i z zs ys
  obtain⟨hc,rfl⟩:=cP e
  obtain⟨p,us,rfl,hp,r1⟩:=Aa1.mp ra
  obtain⟨q,ws,rfl,hq,r2⟩:=Aa1.mp rb
  have l1:=r1.length
  have l2:=r2.length
  refine .inr (.inr ⟨p,q,us,ws,rfl,rfl,SqT.of (Aa3 _ _ hp),SqT.of (Aa3 _ _ hq),fun z=>by rw[z] at l1; simp at l1,by rw[l1,l2]; exact hc,fun z=>?_,fun z r hr=>?_⟩)
  ·subst z
   have:ys=[]:=by simpa using l2.symm
   subst this
   refine k.zero Ext.refl ?_
   rw[vF]
   exact ra
  ·exact k.tup hP hr (r1.append r2)
 ·cases e
theorem fX (ha:DE X a fa)(hb:DE X b fb):DE X (.BinOp a .Add b pos) (eOp cE fa fb):=df_op (op_add.or (op_add_str.or op_catT)) opd_add ha hb
mutual
noncomputable def noDict:aA->Bool
 | .dict _=>false
 | .list ds=>noDicts ds
 | .tuple ds=>noDicts ds
 | _=>true
noncomputable def noDicts:List aA->Bool
 | []=>true
 | d::r=>noDict d&&noDicts r
end
mutual
theorem kI {X:Cx}{pins:List (aB×aT)}{σ:St}{H:Hp}{s:aG}(I:Inv X pins σ H s) : ∀ {d:aA} {v:V} {u:aE},noDict d=true->Abb X.K H d v->RelV v u->d.canLay0=true /\ ∃ as,mB s.heap u d as
 | .none,v,u,_,h,r=>by
  obtain rfl:=Abz.mp h
  cases r; exact⟨by simp[cQ],_,.none⟩
 | .bool b,v,u,_,h,r=>by
  obtain rfl:=Aat.mp h
  cases r; exact⟨by simp[cQ],_,.bool b⟩
 | .int i,v,u,_,h,r=>by
  obtain rfl:=Aam.mp h
  obtain⟨t,rfl⟩:=r; exact⟨by simp[cQ],_,.int i t⟩
 | .str x,v,u,_,h,r=>by
  obtain⟨rfl,hl⟩:=Aap.mp h
  obtain⟨t,rfl⟩:=r; exact⟨hl,_,.str x t⟩
 | .list ds,v,u,n,h,r=>by
  obtain⟨a,xs,rfl,hs,hr⟩:=Aa9.mp h
  cases r
  obtain⟨its,rv,⟨o,m,e,hc,_,hd⟩,_⟩:=I.list hs
  obtain⟨hl,as,ha⟩:=xQ I (by simpa [noDict] using n) hr rv
  exact⟨by simpa [cQ] using hl,_,.list e hc hd (by simpa using ha)⟩
 | .tuple ds,v,u,n,h,r=>by
  obtain⟨a,xs,rfl,hs,hr⟩:=Aa1.mp h
  cases r
  obtain⟨its,rv,⟨o,e,hc,m,hd⟩,_⟩:=I.tuple (SqT.of hs)
  obtain⟨hl,as,ha⟩:=xQ I (by simpa [noDict] using n) hr rv
  exact⟨by simpa [cQ] using hl,_,.tuple e hc hd (by simpa using ha)⟩
 | .dict _,_,_,n,h,_=>by simp[noDict] at n
theorem xQ {X:Cx}{pins:List (aB×aT)}{σ:St}{H:Hp}{s:aG}(I:Inv X pins σ H s) : ∀ {ds:List aA} {vs:List V} {us:List aE},noDicts ds=true->Aaq X.K H ds vs->Vals vs us->sH ds=true /\ ∃ as,lZ s.heap us ds as
 | [],vs,us,_,h,r=>by
  obtain rfl:=Aal.mp h
  cases r; exact⟨by simp[sH],_,.nil⟩
 | d::ds,vs,us,n,h,r=>by
  have n':noDict d=true/\noDicts ds=true:=by simpa [noDicts] using n
  obtain⟨x,rr,rfl,h1,h2⟩:=Aad.mp h
  cases r with
  | cons r1 r2=>
   obtain⟨l1,as,ha⟩:=kI I n'.1 h1 r1
   obtain⟨l2,bs,hb⟩:=xQ I n'.2 h2 r2
   exact⟨by simp[sH,l1,l2],_,.cons ha hb⟩
end
noncomputable def dW (d:aA):Bool:=noDict d&&decide (d.depth≤60)
noncomputable def gEq:aA->aA->Option aA:=fun a b=>if (dW a&&dW b)=true then some (.bool (dF a b)) else none
noncomputable def gNe:aA->aA->Option aA:=fun a b=>if (dW a&&dW b)=true then some (.bool (!dF a b)) else none
noncomputable def rEqD (K:aI)(neg:Bool):R2:=fun x y H Q=>∃ da db,Abb K H da x/\Abb K H db y/\dW da=true/\dW db=true/\Q (.bl (neg != dF da db)) H
theorem iO (hu:X.A.units+100<cLine):OpR X (eJ .Eq) (rEqD X.K false):=by
 intro pins s σ H x y v u Q I rx ry h
 obtain⟨da,db,ra,rb,fa,fb,q⟩:=h
 have fa':noDict da=true/\da.depth≤60:=by simpa [dW] using fa
 have fb':noDict db=true/\db.depth≤60:=by simpa [dW] using fb
 obtain⟨la,as,ra⟩:=kI I fa'.1 ra rx
 obtain⟨lb,bs,rb⟩:=kI I fb'.1 rb ry
 exact SeqAt.compareEq_reads ra rb la lb (by omega) ⟨.bl _,H,I,rfl,by simpa using q⟩
theorem qM (hu:X.A.units+100<cLine):OpR X (eJ .NotEq) (rEqD X.K true):=by
 intro pins s σ H x y v u Q I rx ry h
 obtain⟨da,db,ra,rb,fa,fb,q⟩:=h
 have fa':noDict da=true/\da.depth≤60:=by simpa [dW] using fa
 have fb':noDict db=true/\db.depth≤60:=by simpa [dW] using fb
 obtain⟨la,as,ra⟩:=kI I fa'.1 ra rx
 obtain⟨lb,bs,rb⟩:=kI I fb'.1 rb ry
 exact SeqAt.compareNe_reads ra rb la lb (by omega) ⟨.bl _,H,I,rfl,by simpa using q⟩
theorem iP {K:aI}:OpD K 0 (rEqD K false) gEq:=fun P H x y a b d Q hP ra rb e k=>by
 obtain⟨hc,rfl⟩:=cP e
 have hc':dW a=true/\dW b=true:=by simpa using hc
 exact⟨a,b,ra.ext Aa3,rb.ext Aa3,hc'.1,hc'.2,k.zero Ext.refl (Aat.mpr (by simp))⟩
theorem qF {K:aI}:OpD K 0 (rEqD K true) gNe:=fun P H x y a b d Q hP ra rb e k=>by
 obtain⟨hc,rfl⟩:=cP e
 have hc':dW a=true/\dW b=true:=by simpa using hc
 exact⟨a,b,ra.ext Aa3,rb.ext Aa3,hc'.1,hc'.2,k.zero Ext.refl (Aat.mpr (by simp))⟩
noncomputable def rInD (K:aI)(neg:Bool):R2:=fun x y H Q=>∃ d ds,Abb K H d x/\(Abb K H (.list ds) y \/ Abb K H (.tuple ds) y)/\dW d=true/\noDicts ds=true/\Q (.bl (neg != ds.any fun z=>dF z d)) H
theorem op_inD (hu:X.A.units+100<cLine):OpR X (eJ .In) (rInD X.K false):=by
 intro pins s σ H x y v u Q I rx ry h
 obtain⟨d,ds,ra,rb,fa,fb,q⟩:=h
 have fa':noDict d=true/\d.depth≤60:=by simpa [dW] using fa
 obtain⟨la,as,ra⟩:=kI I fa'.1 ra rx
 rcases rb with rb | rb
 ·obtain⟨lb,bs,rb⟩:=kI I (by simpa [noDict] using fb) rb ry
  exact SeqAt.in_list_reads rb ra (by simpa [cQ] using lb) la (by omega) ⟨.bl _,H,I,rfl,by simpa using q⟩
 ·obtain⟨lb,bs,rb⟩:=kI I (by simpa [noDict] using fb) rb ry
  exact SeqAt.in_tuple_reads rb ra (by simpa [cQ] using lb) la (by omega) ⟨.bl _,H,I,rfl,by simpa using q⟩
theorem op_notInD (hu:X.A.units+100<cLine):OpR X (eJ .NotIn) (rInD X.K true):=by
 intro pins s σ H x y v u Q I rx ry h
 obtain⟨d,ds,ra,rb,fa,fb,q⟩:=h
 have fa':noDict d=true/\d.depth≤60:=by simpa [dW] using fa
 obtain⟨la,as,ra⟩:=kI I fa'.1 ra rx
 rcases rb with rb | rb
 ·obtain⟨lb,bs,rb⟩:=kI I (by simpa [noDict] using fb) rb ry
  exact SeqAt.notIn_list_reads rb ra (by simpa [cQ] using lb) la (by omega) ⟨.bl _,H,I,rfl,by simpa using q⟩
 ·obtain⟨lb,bs,rb⟩:=kI I (by simpa [noDict] using fb) rb ry
  exact SeqAt.notIn_tuple_reads rb ra (by simpa [cQ] using lb) la (by omega) ⟨.bl _,H,I,rfl,by simpa using q⟩
end
theorem PE.or {X:Cx}{e:aS}{t t':TE}(h:PE X e t)(h':PE X e t'):PE X e (fun σ H Q=>t σ H Q \/ t' σ H Q):=fun pins s σ H Q I q=>q.elim (h pins s σ H Q I) (h' pins s σ H Q I)
noncomputable def gLt:aA->aA->Option aA
 | .int i,.int j=>some (.bool (decide (i<j)))
 | .str i,.str j=>some (.bool (decide (i.cps.toList<j.cps.toList)))
 | _,_=>none
noncomputable def gLe:aA->aA->Option aA
 | .int i,.int j=>some (.bool (decide (i≤j)))
 | .str i,.str j=>some (.bool (!(decide (j.cps.toList<i.cps.toList))))
 | _,_=>none
noncomputable def gGt:aA->aA->Option aA:=g2I fun i j=>.bool (decide (j<i))
section
variable {K:aI}
theorem opd_lt:OpD K 0 (fun x y H Q=>rI0 (fun i j=>.bl (decide (i<j))) x y H Q \/ ∃ i j,x = .str i/\y = .str j/\Q (.bl (decide (i.cps.toList<j.cps.toList))) H) gLt:=fun P H x y a b d Q hP ra rb e k=>by
 unfold gLt at e
 split at e
 ·cases e
  exact .inl ⟨_,_,Aam.mp ra,Aam.mp rb,k.zero Ext.refl (Aat.mpr rfl)⟩
 ·cases e
  exact .inr ⟨_,_,(Aap.mp ra).1,(Aap.mp rb).1,k.zero Ext.refl (Aat.mpr rfl)⟩
 ·cases e
theorem opd_le:OpD K 0 (fun x y H Q=>rI0 (fun i j=>.bl (decide (i≤j))) x y H Q \/ rLeS x y H Q) gLe:=fun P H x y a b d Q hP ra rb e k=>by
 unfold gLe at e
 split at e
 ·cases e
  exact .inl ⟨_,_,Aam.mp ra,Aam.mp rb,k.zero Ext.refl (Aat.mpr rfl)⟩
 ·cases e
  exact .inr ⟨_,_,(Aap.mp ra).1,(Aap.mp rb).1,k.zero Ext.refl (Aat.mpr rfl)⟩
 ·cases e
theorem opd_gt:OpD K 0 (rI0 fun i j=>.bl (decide (j<i))) gGt:=opd_I0 fun _ _ _=>Aat.mpr rfl
end
noncomputable def cW:aA->Option aM
 | .int i=>some (.inl i)
 | .str x=>some (.inr x)
 | _=>none
theorem BM {d:aA}{k:aM}(h:cW d=some k):d=kD k:=by
 cases d <;> simp[cW] at h <;> subst h <;> rfl
noncomputable def cO (kds:List (aA×aA))(k:aM):Option aA:=(kds.find? fun kd=>decide (cW kd.1=some k)).map (·.2)
theorem pA (k:aM):cW (kD k)=some k:=by cases k <;> rfl
theorem wL {K:aI}{H:Hp}{k:aM} : ∀ {kds:List (aA×aA)} {kvs:List (aM×V)},Abj K H kds kvs->(cO kds k=none/\eO kvs k=none) \/ ∃ d v,cO kds k=some d/\eO kvs k=some v/\Abb K H d v
 | [],kvs,h=>by rw[Aba.mp h]; exact .inl ⟨rfl,rfl⟩
 | (k0,d)::r,kvs,h=>by
  obtain⟨k',x,rr,rfl,rfl,h1,h2⟩:=Aav.mp h
  by_cases e:k'=k
  ·refine .inr ⟨d,x,?_,qW e,h1⟩
   simp[cO,iJ,pA,e]
  ·have e1:cO ((kD k',d)::r) k=cO r k:=by simp[cO,iJ,pA,e]
   rw[e1,oY e]
   exact wL h2
theorem CF {K:aI}{H:Hp}{k:aM} : ∀ {kds:List (aA×aA)} {kvs:List (List aA×V)},Acg K H kds kvs->cO kds k=none
 | [],kvs,h=>rfl
 | (k0,d)::r,kvs,h=>by
  obtain⟨k',x,rr,rfl,⟨rfl,_⟩,h1,h2⟩:=Abp.mp h
  have e1:cO ((.tuple k',d)::r) k=cO r k:=by simp[cO,iJ,cW]
  rw[e1]
  exact CF h2
theorem rep_look {K:aI}{H:Hp}{k:aM}{kds:List (aA×aA)}{v:V}{d:aA}(h:Abb K H (.dict kds) v)(e:cO kds k=some d) : ∃ a,∃ kvs:Nat×List (aM×V),v = .ref a/\H a=some (.dK kvs.1 kvs.2)/\Abj K H kds kvs.2:=by
 obtain⟨a,ev,⟨kvs,h1,r⟩ | ⟨ts,h1,r⟩ | ⟨xs,h1,r⟩ | r⟩:=Abn.mp h
 case inr.inr.inr=>
  obtain⟨c,r',rfl,hn⟩:=tH r
  have:cO ((.none,.str c)::r') k=none:=by
   unfold cO
   rw[List.find?_eq_none.mpr fun p m=>?_]
   ·rfl
   ·have:p.1 = .none:=(cN.mp m).elim (fun z=>by rw[z]) (hn p)
    rw[this]
    simp[cW]
  rw[this] at e
  cases e
 case inr.inr.inl=>
  obtain⟨es,rfl,_⟩:=pD r
  cases e
 ·exact⟨a,kvs,ev,h1,r⟩
 ·cases kds with
  | nil=>simp[RepT] at r
  | cons p q=>
   obtain⟨k0,m⟩:=p
   obtain⟨rfl,r2⟩:=Ack.mp r
   have e1:cO ((.none,m)::q) k=cO q k:=by simp[cO,iJ,cW]
   rw[e1,CF r2] at e
   cases e
noncomputable def lookT (kds:List (aA×aA))(k:List aA):Option aA:=(kds.find? fun kd=>dF kd.1 (.tuple k)).map (·.2)
theorem eqv_tup (a b:List aA):dF (.tuple a) (.tuple b)=nA a b:=by simp[dF]
theorem lookT_cons {a k:List aA}{d:aA}{r:List (aA×aA)}(ha:cJ a=true)(hk:cJ k=true):lookT ((.tuple a,d)::r) k=if a=k then some d else lookT r k:=by
 have e:dF (.tuple a) (.tuple k)=decide (a=k):=by rw[eqv_tup,wU _ _ ha hk]
 unfold lookT
 rw[iJ,e]
 by_cases h:a=k
 ·rw[if_pos h,decide_eq_true h]; rfl
 ·rw[if_neg h,decide_eq_false h]
theorem BB {K:aI}{H:Hp}{k:List aA}(hk:cJ k=true) : ∀ {kds:List (aA×aA)} {kvs:List (List aA×V)},Acg K H kds kvs->(lookT kds k=none/\eO kvs k=none) \/ ∃ d v,lookT kds k=some d/\eO kvs k=some v/\Abb K H d v
 | [],kvs,h=>by rw[Acn.mp h]; exact .inl ⟨rfl,rfl⟩
 | (k0,d)::r,kvs,h=>by
  obtain⟨k',x,rr,rfl,⟨rfl,hk'⟩,h1,h2⟩:=Abp.mp h
  rw[lookT_cons hk' hk]
  by_cases e:k'=k
  ·rw[if_pos e]
   exact .inr ⟨d,x,rfl,qW e,h1⟩
  ·rw[if_neg e,oY e]
   exact BB hk h2
noncomputable def putD (kds:List (aA×aA))(k:aM)(d:aA):List (aA×aA):=
 if (kds.any fun kd=>decide (cW kd.1=some k))=true then kds.map fun kd=>if cW kd.1=some k then(kd.1,d) else kd else kds++[(kD k,d)]
theorem any_rep {K:aI}{H:Hp}{k:aM} : ∀ {kds:List (aA×aA)} {kvs:List (aM×V)},Abj K H kds kvs->(kds.any fun kd=>decide (cW kd.1=some k))=kvs.any fun kv=>decide (kv.1=k)
 | [],kvs,h=>by rw[Aba.mp h]; rfl
 | (k0,d)::r,kvs,h=>by
  obtain⟨k',x,rr,rfl,rfl,h1,h2⟩:=Aav.mp h
  rw[vG,vG,any_rep h2,pA]
  simp
theorem vY {K:aI}{H:Hp}{k:aM}{d:aA}{v:V}(rv:Abb K H d v) : ∀ {kds:List (aA×aA)} {kvs:List (aM×V)},Abj K H kds kvs ->
  Abj K H (kds.map fun kd=>if cW kd.1=some k then(kd.1,d) else kd) (kvs.map fun kv=>if kv.1=k then(kv.1,v) else kv)
 | [],kvs,h=>by rw[Aba.mp h]; exact Aba.mpr rfl
 | (k0,d0)::r,kvs,h=>by
  obtain⟨k',x,rr,rfl,rfl,h1,h2⟩:=Aav.mp h
  rw[dR,dR]
  by_cases e:k'=k
  ·rw[if_pos (show cW (kD k',d0).1=some k by rw[pA,e]),if_pos (show(k',x).1=k from e)]
   exact Aav.mpr ⟨k',v,_,rfl,rfl,rv,vY rv h2⟩
  ·rw[if_neg (show ¬ cW (kD k',d0).1=some k by rw[pA]; simpa using e),if_neg (show ¬ (k',x).1=k from e)]
   exact Aav.mpr ⟨k',x,_,rfl,rfl,h1,vY rv h2⟩
theorem Abj.snoc {K:aI}{H:Hp}{k:aM}{d:aA}{v:V}(rv:Abb K H d v) : ∀ {kds:List (aA×aA)} {kvs:List (aM×V)},Abj K H kds kvs->Abj K H (kds++[(kD k,d)]) (kvs++[(k,v)])
 | [],kvs,h=>by rw[Aba.mp h]; exact Aav.mpr ⟨k,v,[],rfl,rfl,rv,Aba.mpr rfl⟩
 | (k0,d0)::r,kvs,h=>by
  obtain⟨k',x,rr,rfl,rfl,h1,h2⟩:=Aav.mp h
  exact Aav.mpr ⟨k',x,_,rfl,rfl,h1,Abj.snoc rv h2⟩
theorem put_rep {K:aI}{H:Hp}{k:aM}{d:aA}{v:V}{kds:List (aA×aA)}{kvs:List (aM×V)}(h:Abj K H kds kvs)(rv:Abb K H d v):Abj K H (putD kds k d) (putK kvs k v):=by
 unfold putD putK
 rw[any_rep h]
 by_cases q:(kvs.any fun kv=>decide (kv.1=k))=true
 ·rw[if_pos q,if_pos q]; exact vY rv h
 ·rw[if_neg q,if_neg q]; exact Abj.snoc rv h
theorem Abj.length {K:aI}{H:Hp} : ∀ {kds:List (aA×aA)} {kvs:List (aM×V)},Abj K H kds kvs->kvs.length=kds.length
 | [],kvs,h=>by rw[Aba.mp h]; rfl
 | (k0,d0)::r,kvs,h=>by
  obtain⟨k',x,rr,rfl,rfl,h1,h2⟩:=Aav.mp h
  rw[eN,eN,Abj.length h2]
theorem pB {K:aI}{H:Hp}{d:aA}{x:V}{k:aM}(h:cW d=some k)(r:Abb K H d x):x=kV k:=by
 rw[BM h] at r
 exact rep_key_inv r
noncomputable def gIx:aA->aA->Option aA
 | .list ds,.int i=>atI ds i
 | .tuple ds,.int i=>atI ds i
 | .str z,.int i=>if z.length≤sizeLine then(atI z.cps.toList i).bind fun c=>some (.str ⟨#[c]⟩) else none
 | .dict kds,d=>(cW d).bind fun k=>cO kds k
 | _,_=>none
theorem atI_rep {K:aI}{H:Hp}{ds:List aA}{xs:List V}{i:Int}{d:aA}(r:Aaq K H ds xs)(h:atI ds i=some d) : ∃ v,atI xs i=some v/\Abb K H d v:=by
 unfold atI at h ⊢
 rw[r.length]
 obtain⟨j,h1,h2⟩:=XBs h
 obtain⟨v,h3,h4⟩:=r.get h2
 exact⟨v,by rw[h1]; exact h3,h4⟩
theorem atI_mem {α:Type}{xs:List α}{i:Int}{x:α}(h:atI xs i=some x) : ∃ j:Nat,xs[j]?=some x:=by
 unfold atI at h
 obtain⟨j,h1,h2⟩:=XBs h
 exact⟨j,h2⟩
section
variable {X:Cx}{a b e:aS}{es:List aS}{fa fb f:EF}{pos p:bG}
theorem fT (hu:X.A.units+40<cLine)(ha:DE X a fa)(hb:DE X b fb)(hs:PlainIx b):DE X (.Subscript a b pos) (eOp gIx fa fb):=PE.imp (PE.or (pe_ix ix_seq ha hb hs) (pe_dget hu ha hb hs)) fun σ H Q h=>by
 obtain⟨P,ρ,d,hP,rs,ef,k⟩:=h
 obtain⟨d1,e1,ef2⟩:=XBs ef
 obtain⟨d2,e2,ef3⟩:=XBs ef2
 clear ef ef2
 have seq:(∀ (H2:Hp) (v u:V),Ext H H2->Abb X.K (hid H2 P) d1 v->Abb X.K (hid H2 P) d2 u->rIx X.K v u H2 Q)->tOp (rIx X.K) (tF X.K 0 fa) (tF X.K 0 fb) σ H Q:=fun z=>
  ⟨P,ρ,d1,hP,rs,e1,cR fun v H1 x1 r1=>⟨P,ρ,d2,hP.ext x1,rs.ext (cT x1),e2,cR fun u H2 x2 r2=>z H2 v u (x1.trans x2) (r1.ext (cT x2)) r2⟩⟩
 cases d1 with
 | list ds=>
  cases d2 with
  | int i=>
   refine .inl (seq fun H2 v u x r1 r2=>.inl ?_)
   obtain⟨q,xs,rfl,hq,rr⟩:=Aa9.mp r1
   obtain⟨w,h1,h2⟩:=atI_rep rr (show atI ds i=some d from ef3)
   exact⟨q,xs,i,w,rfl,Aam.mp r2,Aa3.sqL hq,h1,k.zero x h2⟩
  | _=>cases ef3
 | tuple ds=>
  cases d2 with
  | int i=>
   refine .inl (seq fun H2 v u x r1 r2=>.inr (.inl ?_))
   obtain⟨q,xs,rfl,hq,rr⟩:=Aa1.mp r1
   obtain⟨w,h1,h2⟩:=atI_rep rr (show atI ds i=some d from ef3)
   exact⟨q,xs,i,w,rfl,Aam.mp r2,SqT.of (Aa3 _ _ hq),h1,k.zero x h2⟩
  | _=>cases ef3
 | str z=>
  cases d2 with
  | int i=>
   have ef3:(if z.length≤sizeLine then(atI z.cps.toList i).bind fun c=>some (.str ⟨#[c]⟩) else none)=some d:=ef3
   by_cases hz:z.length≤sizeLine
   ·rw[if_pos hz] at ef3
    obtain⟨c,h1,h2⟩:=XBs ef3
    cases h2
    obtain⟨j,hj⟩:=atI_mem h1
    refine .inl (seq fun H2 v u x r1 r2=>.inr (.inr ⟨z,i,c,(Aap.mp r1).1,Aam.mp r2,hz,h1,k.zero x (Aap.mpr ⟨rfl,vR (Aap.mp r1).2 hj⟩)⟩))
   ·rw[if_neg hz] at ef3; cases ef3
  | _=>cases ef3
 | dict kds=>
  obtain⟨kk,h1,h2⟩:=XBs (show((cW d2).bind fun k=>cO kds k)=some d by cases d2 <;> exact ef3)
  refine .inr ⟨P,ρ,_,hP,rs,e1,cR fun v H1 x1 r1=>⟨P,ρ,d2,hP.ext x1,rs.ext (cT x1),e2,cR fun u H2 x2 r2=>?_⟩⟩
  obtain⟨q,kvs,rfl,hq,rr⟩:=rep_look (r1.ext (cT x2)) h2
  rcases wL rr with⟨n1,_⟩ | ⟨d',v',s1,s2,rd⟩
  ·rw[h2] at n1; cases n1
  ·rw[h2] at s1
   cases s1
   refine⟨q,v',rfl,.inl ⟨kvs.1,kvs.2,kk,.inl (Aa3 _ _ hq),pB h1 r2,s2.symm⟩,k.zero (x1.trans x2) rd⟩
 | _=>cases d2 <;> cases ef3
noncomputable def gInT (neg:Bool):aA->List (aA×aA)->Option aA
 | .tuple _,(_,.list _)::_=>none
 | .tuple _,(_,.str _)::_=>none
 | .tuple k,(_,_)::kds=>if (cJ k&&decide (eZ k≤6))=true then some (.bool (neg != (lookT kds k).isSome)) else none
 | _,_=>none
noncomputable def gIn (neg:Bool):aA->aA->Option aA
 | d,.list ds=>if (dW d&&noDicts ds)=true then some (.bool (neg != ds.any fun z=>dF z d)) else none
 | d,.tuple ds=>if (dW d&&noDicts ds)=true then some (.bool (neg != ds.any fun z=>dF z d)) else none
 | .str i,.str j=>some (.bool (neg != !(oH j i 0 j.length 1).isEmpty))
 | d,.dict kds=>if plK kds=true then(cW d).bind fun k=>some (.bool (neg != (cO kds k).isSome)) else gInT neg d kds
 | _,_=>none
noncomputable def rInAll (K:aI)(neg:Bool):R2:=fun x y H Q=>rInD K neg x y H Q \/ (∃ i j,x = .str i/\y = .str j/\Q (.bl (neg != !(oH j i 0 j.length 1).isEmpty)) H) \/ ∃ a o,y = .ref a/\DGet H a x o/\Q (.bl (neg != o.isSome)) H
theorem op_inAll (hu:X.A.units+100<cLine):OpR X (eJ .In) (rInAll X.K false):=by
 intro pins s σ H x y v u Q I rx ry h
 rcases h with h | ⟨i,j,ex,ey,q⟩ | ⟨a,o,rfl,g,q⟩
 ·exact op_inD hu pins s σ H x y v u Q I rx ry h
 ·exact op_in_str pins s σ H x y v u Q I rx ry ⟨i,j,ex,ey,by simpa using q⟩
 ·cases ry
  exact d_in (by omega) I g rx fun s' I'=>⟨.bl _,H,I',rfl,by simpa using q⟩
theorem op_notInAll (hu:X.A.units+100<cLine):OpR X (eJ .NotIn) (rInAll X.K true):=by
 intro pins s σ H x y v u Q I rx ry h
 rcases h with h | ⟨i,j,ex,ey,q⟩ | ⟨a,o,rfl,g,q⟩
 ·exact op_notInD hu pins s σ H x y v u Q I rx ry h
 ·exact FV pins s σ H x y v u Q I rx ry ⟨i,j,ex,ey,by simpa using q⟩
 ·cases ry
  exact d_notIn (by omega) I g rx fun s' I'=>⟨.bl _,H,I',rfl,by simpa using q⟩
theorem opd_in {K:aI}{neg:Bool}:OpD K 0 (rInAll K neg) (gIn neg):=fun P H x y a b d Q hP ra rb e k=>by
 unfold gIn at e
 split at e
 ·obtain⟨hc,rfl⟩:=cP e
  have hc':=kT.mp hc
  exact .inl ⟨a,_,ra.ext Aa3,.inl (rb.ext Aa3),hc'.1,hc'.2,k.zero Ext.refl (Aat.mpr rfl)⟩
 ·obtain⟨hc,rfl⟩:=cP e
  have hc':=kT.mp hc
  exact .inl ⟨a,_,ra.ext Aa3,.inr (rb.ext Aa3),hc'.1,hc'.2,k.zero Ext.refl (Aat.mpr rfl)⟩
 ·cases e
  exact .inr (.inl ⟨_,_,(Aap.mp ra).1,(Aap.mp rb).1,k.zero Ext.refl (Aat.mpr rfl)⟩)
 ·rename_i kds
  by_cases pk:plK kds=true
  case neg=>
   rw[if_neg pk] at e
   have ek : ∃ m r,kds=(.none,m)::r:=by
    cases kds with
    | nil=>simp[plK] at pk
    | cons p r=>
     obtain⟨k0,m⟩:=p
     cases k0 <;> simp[plK] at pk
     exact⟨m,r,rfl⟩
   obtain⟨m,r,rfl⟩:=ek
   cases a with
   | tuple kk=>
    have hm : ∀ es,m ≠ .list es:=by
     rintro es rfl
     cases e
    have hm2 : ∀ c,m ≠ .str c:=by
     rintro c rfl
     cases e
    replace e:(if (cJ kk&&decide (eZ kk≤6))=true then some (jD (neg != (lookT r kk).isSome)) else none)=some d:=by
     cases m with
     | list es=>exact absurd rfl (hm es)
     | str es=>cases e
     | _=>exact e
    obtain⟨hc,rfl⟩:=cP e
    have hc':cJ kk=true/\eZ kk≤6:=by simpa using hc
    obtain⟨q,ts,rfl,hq,rr⟩:=(mW hm hm2).mp rb
    obtain⟨b,xs,rfl,hb,rx⟩:=Aa1.mp (ra.ext Aa3)
    refine .inr (.inr ⟨q,eO ts.2 kk,rfl,.inr ⟨ts.2,kk,b,⟨_,.inl (Aa3 _ _ hq)⟩,rfl,⟨hc'.1,hc'.2,xs,hb,Aaq.keys kk hc'.1 rx⟩,rfl⟩,k.zero Ext.refl (Aat.mpr ?_)⟩)
    rcases BB hc'.1 rr with⟨n1,n2⟩ | ⟨d',v',s1,s2,rd⟩
    ·rw[n1,n2]; rfl
    ·rw[s1,s2]; rfl
   | _=>simp[gInT] at e
  rw[if_pos pk] at e
  obtain⟨kk,h1,h2⟩:=XBs e
  cases h2
  obtain⟨q,kvs,rfl,hq,rr⟩:=(qV pk).mp rb
  refine .inr (.inr ⟨q,eO kvs.2 kk,rfl,.inl ⟨kvs.1,kvs.2,kk,.inl (Aa3 _ _ hq),pB h1 ra,rfl⟩,k.zero Ext.refl (Aat.mpr ?_)⟩)
  rcases wL rr with⟨n1,n2⟩ | ⟨d',v',s1,s2,rd⟩
  ·rw[n1,n2]; rfl
  ·rw[s1,s2]; rfl
 ·cases e
end
noncomputable def dJ:List aA->Option aA
 | [.list ds]=>some (.int ds.length)
 | [.tuple ds]=>some (.int ds.length)
 | [.dict kds]=>if plK kds=true then some (.int kds.length) else none
 | [.str z]=>if z.length≤sizeLine then some (.int z.length) else none
 | _=>none
theorem fF {K:aI}{H:Hp}{d:aA}{xs:List V}(r:Aaq K H [d] xs) : ∃ v,xs=[v]/\Abb K H d v:=by
 obtain⟨v,t,rfl,h1,h2⟩:=Aad.mp r
 obtain rfl:=Aal.mp h2
 exact⟨v,rfl,h1⟩
section
variable {X:Cx}
def rLen (K:aI):List V->Hp->VK->Prop:=fun xs H Q=>(∃ p ys,xs=[.ref p]/\(SqL K H p ys \/ SqT K H p ys)/\Q (.int ys.length) H) \/ (∃ z,xs=[.str z]/\z.length≤sizeLine/\Q (.int z.length) H) \/ ∃ a ep kvs,xs=[V.ref a]/\H a=some (.dK ep kvs)/\Q (.int kvs.length) H
theorem jM:Acv X (.builtin "len") (rLen X.K):=Amj.or (Aor.or call_lenD)
theorem jL {K:aI}:CallD K 0 (rLen K) dJ:=fun P H xs ds d Q hP r e k=>by
 unfold dJ at e
 split at e
 ·cases e
  obtain⟨v,rfl,r'⟩:=fF r
  replace r:=r'
  obtain⟨q,ys,rfl,hq,rr⟩:=Aa9.mp r
  exact .inl ⟨q,ys,rfl,.inl (Aa3.sqL hq),k.zero Ext.refl (Aam.mpr (by rw[rr.length]))⟩
 ·cases e
  obtain⟨v,rfl,r'⟩:=fF r
  replace r:=r'
  obtain⟨q,ys,rfl,hq,rr⟩:=Aa1.mp r
  exact .inl ⟨q,ys,rfl,.inr (SqT.of (Aa3 _ _ hq)),k.zero Ext.refl (Aam.mpr (by rw[rr.length]))⟩
 ·obtain⟨pk,rfl⟩:=cP e
  obtain⟨v,rfl,r'⟩:=fF r
  replace r:=r'
  obtain⟨q,ys,rfl,hq,rr⟩:=(qV pk).mp r
  exact .inr (.inr ⟨q,ys.1,ys.2,rfl,Aa3 _ _ hq,k.zero Ext.refl (Aam.mpr (by rw[rr.length]))⟩)
 ·obtain⟨hz,rfl⟩:=cP e
  obtain⟨v,rfl,r'⟩:=fF r
  replace r:=r'
  exact .inr (.inl ⟨_,by rw[(Aap.mp r).1],hz,k.zero Ext.refl (Aam.mpr rfl)⟩)
 ·cases e
noncomputable def kindD:aA->String
 | .none=>"NoneType"
 | .bool _=>"bool"
 | .int _=>"int"
 | .str _=>"str"
 | .list _=>"list"
 | .tuple _=>"tuple"
 | .dict _=>"dict"
noncomputable def isiNames:List String:=["int","bool","str","list","tuple","dict"]
theorem kindD_mem (d:aA):kindD d∈kinds:=by cases d <;> simp[kindD,kinds]
noncomputable def eR (T:String):aA->Option aA
 | .dict ((.none,.str _)::_)=>none
 | d=>some (.bool (isK (kindD d) T))
theorem call_isiD:Acv X (.builtin "isinstance") (fun xs H Q=>∃ x T d b,xs=[x,.ty T]/\Abb X.K H d x/\T∈isiNames/\eR T d=some (.bool b)/\Q (.bl b) H):=by
 intro pins s σ H xs us Q I r h
 obtain⟨x,T,d,b,rfl,rd,hT,hb,q⟩:=h
 have hb2:b=isK (kindD d) T:=by
  unfold eR at hb
  split at hb
  ·cases hb
  ·cases hb; rfl
 subst hb2
 have ek:=kitB_of (kindD_mem d) hT
 have by_ty:TyOf X.K H x (.type (kindD d))->aO (aP X.prog X.w) X.A (call (.builtin "isinstance") us) (EP X pins σ Q) X.xe s:=fun ty=>
  call_isinst pins s σ H _ us Q I r ⟨x,T,_,isK (kindD d) T,rfl,ty,Ai1.trans ek,q⟩
 cases d with
 | none=>obtain rfl:=Abz.mp rd; exact by_ty .non
 | bool b=>obtain rfl:=Aat.mp rd; exact by_ty (.bl _)
 | int b=>obtain rfl:=Aam.mp rd; exact by_ty (.int _)
 | str b=>obtain⟨rfl,_⟩:=Aap.mp rd; exact by_ty (.str _)
 | list b=>
  obtain⟨a,ys,rfl,h,_⟩:=Aa9.mp rd
  obtain⟨u,w',rfl,ru,rw'⟩:=vals2 r
  cases rw'
  cases ru
  obtain⟨its,_,⟨o,n,e1,hc,_,_⟩,_⟩:=I.list h
  exact jB DN I.kIn ⟨o,e1,hc⟩ (Ai1.trans ek) (fun z=>nomatch z) fun tk=>⟨.bl _,H,I.tok tk,rfl,q⟩
 | tuple b=>obtain⟨_,_,rfl,h,_⟩:=Aa1.mp rd; exact by_ty (.tup h)
 | dict b=>
  obtain⟨_,rfl,⟨_,h,_⟩ | ⟨_,h,_⟩ | ⟨_,h,_⟩ | h⟩:=Abn.mp rd
  case inr.inr.inr=>
   obtain⟨_,_,rfl,_⟩:=tH h
   cases hb
  ·exact by_ty (.dK h)
  ·exact by_ty (.dT h)
  ·obtain⟨u,w',rfl,ru,rw'⟩:=vals2 r
   cases rw'
   cases ru
   obtain⟨⟨_,_,o,_,e1,hc,_⟩,_⟩:=I.hok _ _ h
   exact jB DP I.kIn ⟨o,e1,hc.1⟩ (Ai1.trans ek) (fun z=>nomatch z) fun tk=>⟨.bl _,H,I.tok tk,rfl,q⟩
variable {e a b:aS}{es:List aS}{f:EF}{fa:AF}{p p2 pos apos cpos:bG}{x:aD}
theorem kA {T:String}(hgl:Gl X "isinstance")(hm:X.mg "isinstance" = none)(hg:Gl X x)(hmx:X.mg x=none)(hv:iH x=some (.type T))(hT:T∈isiNames)(he:DE X e f)
  (hn:x ≠ "__name__":=by decide) (hd:(x == ("__debug__" : aD))=false:=by decide) (hs1:bF (e::[.Name x p2]) X.env=(false,bC e X.env)::bF [.Name x p2] X.env:=by rfl)
  (hs2:bF (.Name x p2::[]) X.env=(false,bC (.Name x p2) X.env)::bF [] X.env:=by rfl) (hpl:(eQ pos (bF [.Name x p2] X.env)).any (·.1)=false:=by rfl):DE X (.Call (.Name "isinstance" p) [e,.Name x p2] [] pos) (eUn (eR T) f):=
 PE.imp (qT call_isiD hgl hm boot_isinstance (iR he (iR (pe_ty hg hmx hv hn hd) kX hs2) hs1) (by decide) (by decide) hs1 hpl) fun σ H Q gh=>by
  obtain⟨P,ρ,d,hP,rs,ef,k⟩:=gh
  obtain⟨d1,e1,ef⟩:=XBs ef
  have hb : ∃ b,d = .bool b:=by
   unfold eR at ef
   split at ef
   ·cases ef
   ·cases ef; exact⟨_,rfl⟩
  obtain⟨b,rfl⟩:=hb
  exact⟨P,ρ,d1,hP,rs,e1,cR fun v H1 x1 r1=>⟨v,T,d1,b,rfl,r1.ext Aa3,hT,ef,k.zero x1 (Aat.mpr rfl)⟩⟩
noncomputable def gTuple:List aA->Option aA
 | [.list ds]=>some (.tuple ds)
 | [.tuple ds]=>some (.tuple ds)
 | _=>none
theorem calld_tuple {K:aI}:CallD K 0 (fun xs H Q=>∃ p ys,xs=[.ref p]/\((SqL K H p ys /\ ∀ l,H l=none->Q (.ref l) (upd H l (.tup ys))) \/ (SqT K H p ys/\Q (.ref p) H))) gTuple:=fun P H xs ds d Q hP r e k=>by
 unfold gTuple at e
 split at e
 ·cases e
  obtain⟨v,rfl,r'⟩:=fF r
  replace r:=r'
  obtain⟨q,ys,rfl,hq,rr⟩:=Aa9.mp r
  exact⟨q,ys,rfl,.inl ⟨Aa3.sqL hq,fun l hl=>k.tup hP hl rr⟩⟩
 ·cases e
  obtain⟨v,rfl,r'⟩:=fF r
  replace r:=r'
  obtain⟨q,ys,rfl,hq,rr⟩:=Aa1.mp r
  exact⟨q,ys,rfl,.inr ⟨SqT.of (Aa3 _ _ hq),k.zero Ext.refl r⟩⟩
 ·cases e
noncomputable def gList:List aA->Option aA
 | [.list ds]=>some (.list ds)
 | [.tuple ds]=>some (.list ds)
 | [.str z]=>if z.length≤sizeLine then some (.list (z.cps.toList.map fun c=>.str ⟨#[c]⟩)) else none
 | _=>none
def rList (K:aI):List V->Hp->VK->Prop:=fun xs H Q=>(∃ p ys,xs=[.ref p]/\(SqL K H p ys \/ SqT K H p ys) /\ ∀ l,H l=none->Q (.ref l) (upd H l (.lst ys))) \/ ∃ z:aD,xs=[.str z]/\z.length≤sizeLine /\ ∀ l,H l=none->Q (.ref l) (upd H l (.lst (z.cps.toList.map signV)))
theorem FU (hc:X.calm=true):Acv X (.type "list") (rList X.K):=Ans.or (call_listS hc)
theorem BL {K:aI}{H:Hp} : ∀ {cs:List Nat},(∀ c∈cs,cQ (.str ⟨#[c]⟩)=true)->Aaq K H (cs.map fun c=>.str ⟨#[c]⟩) (cs.map signV)
 | [],_=>Aal.mpr rfl
 | c::r,h=>Aad.mpr ⟨_,_,rfl,Aap.mpr ⟨rfl,h c cA⟩,BL fun c' m=>h c' (cI _ m)⟩
theorem calld_list {K:aI}:CallD K 1 (rList K) gList:=fun P H xs ds d Q hP r e k=>by
 unfold gList at e
 split at e
 ·cases e
  obtain⟨v,rfl,r'⟩:=fF r
  replace r:=r'
  obtain⟨q,ys,rfl,hq,rr⟩:=Aa9.mp r
  exact .inl ⟨q,ys,rfl,.inl (Aa3.sqL hq),fun l hl=>k.lst hP hl rr⟩
 ·cases e
  obtain⟨v,rfl,r'⟩:=fF r
  replace r:=r'
  obtain⟨q,ys,rfl,hq,rr⟩:=Aa1.mp r
  exact .inl ⟨q,ys,rfl,.inr (SqT.of (Aa3 _ _ hq)),fun l hl=>k.lst hP hl rr⟩
 ·obtain⟨hz,rfl⟩:=cP e
  obtain⟨v,rfl,r'⟩:=fF r
  replace r:=r'
  refine .inr ⟨_,by rw[(Aap.mp r).1],hz,fun l hl=>k.lst hP hl (BL fun c m=>?_)⟩
  obtain⟨j,hj⟩:=List.mem_iff_getElem?.mp m
  exact vR (Aap.mp r).2 hj
 ·cases e
noncomputable def gInt:List aA->Option aA
 | [.int i]=>some (.int i)
 | [.bool b]=>some (.int (if b then 1 else 0))
 | _=>none
theorem calld_int {K:aI}:CallD K 0 (fun xs H Q=>(∃ i,xs=[.int i]/\Q (.int i) H) \/ ∃ k,xs=[.bl k]/\Q (.int (if k then 1 else 0)) H) gInt:=fun P H xs ds d Q hP r e k=>by
 unfold gInt at e
 split at e
 ·cases e
  obtain⟨v,rfl,r'⟩:=fF r
  replace r:=r'
  exact .inl ⟨_,by rw[Aam.mp r],k.zero Ext.refl (Aam.mpr rfl)⟩
 ·cases e
  obtain⟨v,rfl,r'⟩:=fF r
  replace r:=r'
  exact .inr ⟨_,by rw[Aat.mp r],k.zero Ext.refl (Aam.mpr rfl)⟩
 ·cases e
noncomputable def asBs:List aA->Option (List Bool)
 | []=>some []
 | .bool b::r=>(asBs r).bind fun bs=>some (b::bs)
 | _::_=>none
noncomputable def gAll:List aA->Option aA
 | [.list ds]=>(asBs ds).bind fun bs=>some (.bool (bs.all id))
 | _=>none
theorem asBs_rep {K:aI}{H:Hp} : ∀ {ds:List aA} {xs:List V} {bs:List Bool},asBs ds=some bs->Aaq K H ds xs->xs=bs.map V.bl
 | [],xs,bs,e,r=>by
  cases e
  rw[Aal.mp r]; rfl
 | .bool b::ds,xs,bs,e,r=>by
  obtain⟨bs',e1,e2⟩:=XBs (show((asBs ds).bind fun bs=>some (b::bs))=some bs from e)
  cases e2
  obtain⟨v,t,rfl,h1,h2⟩:=Aad.mp r
  rw[Aat.mp h1,asBs_rep e1 h2]; rfl
 | .none::_,_,_,e,_=>by cases e
 | .int _::_,_,_,e,_=>by cases e
 | .str _::_,_,_,e,_=>by cases e
 | .list _::_,_,_,e,_=>by cases e
 | .tuple _::_,_,_,e,_=>by cases e
 | .dict _::_,_,_,e,_=>by cases e
theorem AE {K:aI}:CallD K 0 (fun xs H Q=>∃ p ys,xs=[.ref p]/\SqL K H p ys/\(∀ y∈ys,∃ b,y = .bl b)/\Q (.bl (allB ys)) H) gAll:=fun P H xs ds d Q hP r e k=>by
 unfold gAll at e
 split at e
 ·obtain⟨bs,e1,e2⟩:=XBs e
  cases e2
  obtain⟨v,rfl,r'⟩:=fF r
  replace r:=r'
  obtain⟨q,ys,rfl,hq,rr⟩:=Aa9.mp r
  obtain rfl:=asBs_rep e1 rr
  refine⟨q,_,rfl,Aa3.sqL hq,fun y m=>?_,k.zero Ext.refl (Aat.mpr ?_)⟩
  ·obtain⟨b,_,rfl⟩:=dH.mp m
   exact⟨b,rfl⟩
  ·unfold allB
   rw[List.all_map]
   congr 2
   funext b
   cases b <;> rfl
 ·cases e
noncomputable def cutD (ds:List aA)(lo hi:Option Int):List aA:=(ds.drop (HT.sIx ds.length 0 lo)).take (HT.sIx ds.length ds.length hi - HT.sIx ds.length 0 lo)
abbrev OF:=List (Option aA)->Option (Option Int)
noncomputable def tOF (K:aI)(f:OF):TO:=fun σ H Q=>∃ P ρ o,Hid P H/\Ajq K (hid H P) ρ σ/\f ρ=some o /\ ∀ H',Ext H H'->Q o H'
abbrev DO (X:Cx)(e:Option aS)(f:OF):Prop:=PO X e (tOF X.K f)
noncomputable def oN:OF:=fun _=>some none
noncomputable def oS (f:EF):OF:=fun ρ=>(f ρ).bind fun d=>match d with
 | .int i=>some (some i)
 | _=>none
theorem PO.imp {o:Option aS}{t t':TO}(h:PO X o t)(w : ∀ σ H Q,t' σ H Q->t σ H Q):PO X o t':=fun pins s σ H Q I q=>h pins s σ H Q I (w _ _ _ q)
theorem kH:DO X none oN:=PO.imp po_none fun σ H Q gh=>by
 obtain⟨P,ρ,o,hP,rs,ef,k⟩:=gh
 cases ef
 exact k H Ext.refl
theorem iS (h:DE X e f):DO X (some e) (oS f):=PO.imp (po_some h) fun σ H Q gh=>by
 obtain⟨P,ρ,o,hP,rs,ef,k⟩:=gh
 obtain⟨d,e1,ef⟩:=XBs ef
 refine⟨P,ρ,d,hP,rs,e1,cR fun v H1 x1 r1=>?_⟩
 cases d with
 | int i=>cases ef; exact⟨i,Aam.mp r1,k H1 x1⟩
 | _=>cases ef
noncomputable def fH (f:EF)(lo hi:OF):EF:=fun ρ=>(f ρ).bind fun d=>(lo ρ).bind fun l=>(hi ρ).bind fun h=>match d with
 | .list ds=>some (.list (cutD ds l h))
 | _=>none
theorem jK {lo hi:Option aS}{fl fh:OF}{pp:bG}(he:DE X e f)(hl:DO X lo fl)(hh:DO X hi fh):DF 1 X (.Subscript e (.Slice lo hi none pp) pos) (fH f fl fh):=PE.imp (pe_slice sl_list he hl hh) fun σ H Q gh=>by
 obtain⟨P,ρ,d,hP,rs,ef,k⟩:=gh
 obtain⟨d1,e1,ef2⟩:=XBs ef
 obtain⟨l,e2,ef3⟩:=XBs ef2
 obtain⟨h,e3,ef4⟩:=XBs ef3
 clear ef ef2 ef3
 cases d1 with
 | list ds=>
  cases ef4
  refine⟨P,ρ,_,hP,rs,e1,cR fun v H1 x1 r1=>⟨P,ρ,l,hP.ext x1,rs.ext (cT x1),e2,fun H2 x2=>⟨P,ρ,h,hP.ext (x1.trans x2),rs.ext (cT (x1.trans x2)),e3,fun H3 x3=>?_⟩⟩⟩
  obtain⟨q,ys,rfl,hq,rr⟩:=Aa9.mp (r1.ext (cT (x2.trans x3)))
  refine⟨q,ys,rfl,Aa3.sqL hq,fun p hp=>(k.mono ((x1.trans x2).trans x3)).lst (hP.ext ((x1.trans x2).trans x3)) hp ?_⟩
  unfold cutV cutD
  rw[rr.length]
  exact(rr.drop _).take _
 | _=>cases ef4
noncomputable def asSs:List aA->Option (List aD)
 | []=>some []
 | .str x::r=>(asSs r).bind fun xs=>some (x::xs)
 | _::_=>none
theorem asSs_rep {K:aI}{H:Hp} : ∀ {ds:List aA} {xs:List V} {bs:List aD},asSs ds=some bs->Aaq K H ds xs->xs=bs.map V.str /\ ∀ b∈bs,cQ (.str b)=true
 | [],xs,bs,e,r=>by
  cases e
  rw[Aal.mp r]; exact⟨rfl,fun b m=>by simp at m⟩
 | .str b::ds,xs,bs,e,r=>by
  obtain⟨bs',e1,e2⟩:=XBs (show((asSs ds).bind fun bs=>some (b::bs))=some bs from e)
  cases e2
  obtain⟨v,t,rfl,h1,h2⟩:=Aad.mp r
  obtain⟨q1,q2⟩:=asSs_rep e1 h2
  rw[(Aap.mp h1).1,q1]
  refine⟨rfl,fun c m=>?_⟩
  rcases cN.mp m with rfl | m
  ·exact(Aap.mp h1).2
  ·exact q2 c m
 | .none::_,_,_,e,_=>by cases e
 | .int _::_,_,_,e,_=>by cases e
 | .bool _::_,_,_,e,_=>by cases e
 | .list _::_,_,_,e,_=>by cases e
 | .tuple _::_,_,_,e,_=>by cases e
 | .dict _::_,_,_,e,_=>by cases e
theorem lay_join {sep:aD}(hs:cQ (.str sep)=true) : ∀ {ys:List aD},(∀ b∈ys,cQ (.str b)=true)->cQ (.str (iZ sep ys))=true
 | [],_=>by
  have:iZ sep []=Str.empty:=by simp[iZ]
  rw[this]
  decide +kernel
 | [x],h=>by
  have:iZ sep [x]=x:=by simp[iZ]
  rw[this]
  exact h x cA
 | x::y::r,h=>by
  have e:iZ sep (x::y::r)=x++sep++iZ sep (y::r):=by
   rw[iZ]
   intro z; cases z
  rw[e]
  exact xA (xA (h x cA) hs) (lay_join hs fun b m=>h b (cI _ m))
noncomputable def gJoin:aA->aA->Option aA
 | .str sep,.list ds=>(asSs ds).bind fun ys=>if (ys.map (·.length)).sum+ys.length*sep.length≤16777216 then some (.str (iZ sep ys)) else none
 | _,_=>none
theorem de_join {g:EF}(ho:DE X a f)(he:DE X e g)(hbase:iX a "join" X.env (bC a X.env)=bC a X.env:=by rfl)
  (hfew:((eQ cpos (bF (e::[]) X.env)).all (fun x=>!x.1)&&(sA cpos (rY [] X.env)).all (fun x=>x.1.isSome)
   && decide ((e::[]).length+([]:List oF).length+(if ([]:List oF).isEmpty then 0 else 1)<30))=true:=by rfl)
  (hline:(apos.endLine == cpos.line)=true:=by rfl) (hs:bF (e::[]) X.env=(false,bC e X.env)::bF [] X.env:=by rfl) (hplain:(eQ cpos (bF [] X.env)).any (·.1)=false:=by rfl):DE X (.Call (.Attribute a "join" apos) [e] [] cpos) (eOp gJoin f g):=
 PE.imp (pe_bm PySem.F.plainAttrs_str PySem.F.slot_str_join PySem.F.type_str_join mt_join ho (iR he kX hs) hbase hfew hline hs hplain) fun σ H Q gh=>by
  obtain⟨P,ρ,d,hP,rs,ef,k⟩:=gh
  obtain⟨d1,e1,ef2⟩:=XBs ef
  obtain⟨d2,e2,ef3⟩:=XBs ef2
  clear ef ef2
  cases d1 with
  | str sep=>
   cases d2 with
   | list ds=>
    obtain⟨ys,h1,h2⟩:=XBs (show((asSs ds).bind fun ys=>if (ys.map (·.length)).sum+ys.length*sep.length≤16777216 then some (bP (iZ sep ys)) else none)=some d from ef3)
    obtain⟨hz,rfl⟩:=cP h2
    refine⟨P,ρ,_,hP,rs,e1,cR fun v H1 x1 r1=>⟨by rw[(Aap.mp r1).1]; rfl,P,ρ,_,hP.ext x1,rs.ext (cT x1),e2,cR fun u H2 x2 r2=>?_⟩⟩
    obtain⟨q,zs,rfl,hq,rr⟩:=Aa9.mp r2
    obtain⟨rfl,hl⟩:=asSs_rep h1 rr
    exact⟨sep,q,ys,(Aap.mp r1).1,rfl,Aa3.sqL hq,hz,k.zero (x1.trans x2) (Aap.mpr ⟨rfl,lay_join (Aap.mp r1).2 hl⟩)⟩
   | _=>cases ef3
  | _=>cases d2 <;> cases ef3
noncomputable def gGet2:aA->aA->aA->Option aA
 | .dict kds,k,x=>if plK kds=true then(cW k).bind fun k=>some ((cO kds k).getD x) else none
 | _,_,_=>none
noncomputable def eGet2 (fd fk fx:EF):EF:=fun ρ=>(fd ρ).bind fun d=>(fk ρ).bind fun k=>(fx ρ).bind fun x=>gGet2 d k x
theorem Res.dic {K:aI}{P:aB->Prop}{H:Hp}{Q:VK}{kds:List (aA×aA)}{ep:Nat}{kvs:List (aM×V)}{q:aB}(hP:Hid P H)(h:Res K P 1 (.dict kds) H Q)(n:H q=none)(r:Abj K (hid H P) kds kvs):Q (.ref q) (upd H q (.dK ep kvs)):=by
 refine h (.ref q) _ [q] (Ext.new n) (hJ.mpr ⟨by simp,.nil⟩) (fun a m=>?_) ⟨q,(ep,kvs),kvs.map fun _=>[],rfl,dQ,?_,?_⟩
 ·have:a=q:=by simpa using m
  subst this
  exact⟨n,_,dQ⟩
 ·have : ∀ l:List (aM×V),(l.map fun _=>([]:List aB)).flatten=[]:=fun l=>by
   induction l with
   | nil=>rfl
   | cons a l ih=>rw[dR,jI,ih]; rfl
  rw[this]
 ·have xe:Ext (hid H P) (hid (upd H q (.dK ep kvs)) (orL P [q])):=fun b o e=>by
   obtain⟨nb,e⟩:=Ac6.mp e
   have hb:=fP e n
   exact fY (fun z=>z.elim nb fun m=>hb (by simpa using m)) (by rw[bH hb]; exact e)
  generalize hid (upd H q (.dK ep kvs)) (orL P [q])=B at xe
  generalize upd H q (.dK ep kvs)=H1
  clear h
  have go : ∀ (ds:List (aA×aA)) (xs:List (aM×V)),Abj K (hid H P) ds xs->All3 (fun(kd:aA×aA) (kv:aM×V) f=>kd.1=kD kv.1/\Afg K B H1 0 kd.2 kv.2 f) ds xs (xs.map fun _=>[]):=by
   intro ds
   induction ds with
   | nil=>intro xs r; rw[Aba.mp r]; exact .nil
   | cons d ds ih=>
    intro xs r
    obtain⟨k',y,t,rfl,ek,h1,h2⟩:=Aav.mp (show Abj K (hid H P) ((d.1,d.2)::ds) xs from r)
    exact .cons ⟨ek,rfl,h1.ext xe⟩ (ih t h2)
  exact go kds kvs r
theorem df_dnew:DF 1 X (.Dict [] [] pos) (eC (.dict [])):=PE.imp vZ fun σ H Q gh=>by
 obtain⟨P,ρ,d,hP,rs,ef,k⟩:=gh
 cases ef
 exact fun q hq=>k.dic hP hq (Aba.mpr rfl)
end
section
variable {K:aI}{H0 H B0:Hp}{P0:aB->Prop}{ρ:aZ}{σ:St}{fp:Nat->List aB}{i:Nat}
theorem all3_zero {B:Hp} : ∀ {ds:List aA} {xs:List V} {Fs:List (List aB)},All3 (Aeh K B H 0) ds xs Fs->Aaq K B ds xs/\Fs.flatten=[]:=by
 intro ds xs Fs h
 induction h with
 | nil=>exact⟨Aal.mpr rfl,rfl⟩
 | cons h t ih=>
  obtain⟨rfl,r⟩:=h
  exact⟨Aad.mpr ⟨_,_,rfl,r,ih.1⟩,by rw[jI,ih.2]; rfl⟩
theorem all3_zeroK {B:Hp} : ∀ {ds:List (aA×aA)} {xs:List (aM×V)} {Fs:List (List aB)},All3 (fun(kd:aA×aA) (kv:aM×V) f=>kd.1=kD kv.1/\Aeh K B H 0 kd.2 kv.2 f) ds xs Fs->Abj K B ds xs/\Fs.flatten=[]:=by
 intro ds xs Fs h
 induction h with
 | nil=>exact⟨Aba.mpr rfl,rfl⟩
 | @cons p q F ds xs Fs h t ih=>
  obtain⟨k,d⟩:=p
  obtain⟨k',v⟩:=q
  obtain⟨ek,rfl,r⟩:=h
  exact⟨Aav.mpr ⟨_,_,_,rfl,ek,r,ih.1⟩,by rw[jI,ih.2]; rfl⟩
theorem BD {B H1:Hp} : ∀ {ds:List aA} {xs:List V},Aaq K B ds xs->All3 (Aeh K B H1 0) ds xs (xs.map fun _=>[])/\(xs.map fun _=>([]:List aB)).flatten=[]
 | [],xs,r=>by rw[Aal.mp r]; exact⟨.nil,rfl⟩
 | d::ds,xs,r=>by
  obtain⟨y,t,rfl,h1,h2⟩:=Aad.mp r
  obtain⟨q1,q2⟩:=BD h2
  exact⟨.cons ⟨rfl,h1⟩ q1,by rw[dR,jI,q2]; rfl⟩
theorem Sta.write {p:aB}{o:HO}{d':aA}(S:Sta K H0 P0 B0 ρ σ H fp)(hi:i<ρ.length)(hv:σ[i]?=some (some (.ref p)))(hp:p∈fp i)(ho:(∃ xs,o = .lst xs) \/ ∃ q:DQ,o=dO q)
  (new:Afg K (L2.hid H (Hd P0 fp)) (upd H p o) 1 d' (.ref p) (fp i)):Sta K H0 P0 B0 (ρ.set i (some (1,d'))) σ (upd H p o) fp:=by
 have hb:L2.hid (upd H p o) (Hd P0 fp)=L2.hid H (Hd P0 fp):=by
  funext b
  unfold L2.hid
  by_cases q:Hd P0 fp b
  ·rw[if_pos q,if_pos q]
  ·rw[if_neg q,if_neg q]
   exact bH fun z=>q (.inr ⟨i,by rw[z]; exact hp⟩)
 refine⟨by simp[S.len],S.nd,S.dj,fun j a m=>⟨(S.own j a m).1,?_⟩,fun b u e=>?_,S.hd,by rw[hb]; exact S.base,fun j n d e=>?_⟩
 ·by_cases q:a=p
  ·subst q
   rcases ho with⟨xs,rfl⟩ | ⟨xs,rfl⟩
   ·exact .inl ⟨xs,dQ⟩
   ·exact .inr ⟨xs,dQ⟩
  ·rw[bH q]; exact(S.own j a m).2
 ·rw[bH (fP e (S.own i p hp).1)]; exact S.ext b u e
 ·by_cases q:j=i
  ·subst q
   rw[kR hi] at e
   cases e
   exact⟨_,hv,by rw[hb]; exact new⟩
  ·rw[jG (fun z=>q z.symm)] at e
   obtain⟨v,h1,h2⟩:=S.slot j n d e
   refine⟨v,h1,?_⟩
   rw[hb]
   exact h2.keep Ext.refl fun a m=>bH fun z=>q (S.dj j i a m (by rw[z]; exact hp))
theorem Sta.lst1 {ds:List aA}(S:Sta K H0 P0 B0 ρ σ H fp)(e:ρ[i]?=some (some (1,.list ds))) : ∃ p xs,σ[i]?=some (some (.ref p))/\H p=some (.lst xs)/\Aaq K (L2.hid H (Hd P0 fp)) ds xs /\
  ∀ ds' xs',Aaq K (L2.hid H (Hd P0 fp)) ds' xs'->Sta K H0 P0 B0 (ρ.set i (some (1,.list ds'))) σ (upd H p (.lst xs')) fp:=by
 obtain⟨v,h1,h2⟩:=S.slot i 1 _ e
 obtain⟨p,xs,Fs,rfl,hp,hF,h3⟩:=h2
 obtain⟨r,hn⟩:=all3_zero h3
 rw[hn] at hF
 refine⟨p,xs,h1,hp,r,fun ds' xs' r'=>S.write (eK.mp e).1 h1 (by rw[hF]; exact cA) (.inl ⟨_,rfl⟩) ?_⟩
 obtain⟨q1,q2⟩:=BD r'
 exact⟨p,xs',_,rfl,dQ,by rw[hF,q2],q1⟩
end
noncomputable def getL (i:Nat)(ρ:aZ):Option (List aA):=match ρ[i]? with
 | some (some (1,.list ds))=>some ds
 | _=>none
theorem uB {i:Nat}{ρ:aZ}{ds:List aA}(h:getL i ρ=some ds):ρ[i]?=some (some (1,.list ds)):=by
 unfold getL at h
 split at h
 ·rename_i e; cases h; exact e
 ·cases h
section
variable {X:Cx}{H0:Hp}{P0:aB->Prop}{n0:Nat}{e k o:aS}{f g:EF}{x:aD}{px pos apos cpos spos:bG}{i:Nat}
noncomputable def sApp (i:Nat)(m:Md)(f:EF):SF:=fun ρ=>(eV 0 m f ρ).bind fun d=>(getL i ρ).bind fun ds=>if ds.length<sizeLine then some (.nx (ρ.set i (some (1,.list (ds++[d]))))) else none
theorem wR (i:Nat)(m:Md)(he:DE X e f)(hN:X.N[i]?=some x:=by rfl)(hv:mI X.env.scope x:=by first | exact bI rfl | exact bJ (bI rfl) | exact bJ (bJ rfl))(hd:(x == ("__debug__" : aD))=false:=by decide)
  (hcd:(x == ("__classdict__" : aD))=false:=by decide) (hbase:iX (.Name x px) "append" X.env (bC (.Name x px) X.env)=bC (.Name x px) X.env:=by rfl)
  (hfew:((eQ cpos (bF (e::[]) X.env)).all (fun x=>!x.1)&&(sA cpos (rY [] X.env)).all (fun x=>x.1.isSome)
   && decide ((e::[]).length+([]:List oF).length+(if ([]:List oF).isEmpty then 0 else 1)<30))=true:=by rfl)
  (hline:(apos.endLine == cpos.line)=true:=by rfl) (hs:bF (e::[]) X.env=(false,bC e X.env)::bF [] X.env:=by rfl) (hplain:(eQ cpos (bF [] X.env)).any (·.1)=false:=by rfl)
  (hsw:iW (.Call (.Attribute (.Name x px) "append" apos) [e] [] cpos) none pos.line X.env=pure false:=by rfl):DS X H0 P0 n0 (.Expr (.Call (.Attribute (.Name x px) "append" apos) [e] [] cpos) pos) (sApp i m f):=
 PS.imp (oT (pe_bm HH HF HE wK (oQ hN hv hd hcd) (iR (ev m he) kX hs) hbase hfew hline hs hplain) hsw) fun D σ H gh=>by
  obtain⟨B0,ρ,fp,o,S,ef,k⟩:=gh
  obtain⟨d,e1,ef2⟩:=XBs ef
  obtain⟨ds,e2,ef3⟩:=XBs ef2
  obtain⟨hl,rfl⟩:=cP ef3
  obtain⟨p,xs,h1,h2,_,_⟩:=S.lst1 (uB e2)
  refine⟨.ref p,h1,.inl ⟨rfl,xs,SqL.of h2⟩,B0,ρ,fp,d,S,e1,fun v H2 gh=>?_⟩
  obtain⟨fp2,S2,r2⟩:=gh
  obtain⟨p2,xs2,q1,q2,q3,q4⟩:=S2.lst1 (uB e2)
  have:p2=p:=by rw[h1] at q1; cases q1; rfl
  subst this
  exact⟨p2,xs2,v,rfl,rfl,q2,by rw[q3.length]; exact hl,k _ _ fp2 (q4 _ _ (q3.snoc r2.2))⟩
noncomputable def sSetL (i:Nat)(m:Md)(f:EF)(mk:Md)(g:EF):SF:=fun ρ=>(eV 0 m f ρ).bind fun d=>(getL i ρ).bind fun ds=>(eV 0 mk g ρ).bind fun k=>match k with
 | .int j=>(ixN ds.length j).bind fun j=>some (.nx (ρ.set i (some (1,.list (ds.set j d)))))
 | _=>none
theorem evInt {K:aI}{m:Md}{σ:St}{H B0:Hp}{ρ:aZ}{fp:Nat->List aB}{d:aA}(S:Sta K H0 P0 B0 ρ σ H fp)(e:eV 0 m g ρ=some d){Q:VK}(hd:eP d=true)(k : ∀ v H',Ext H H'->Abb K (hid H' (Hd P0 fp)) d v->Q v H'):tF K 0 g σ H Q:=by
 cases m with
 | s=>exact⟨Hd P0 fp,vS ρ,d,S.hid,S.viewS,e,cR k⟩
 | a=>
  obtain⟨d',ed,ef⟩:=XBs e
  obtain⟨fl,rfl⟩:=cP ef
  refine⟨P0,vA ρ,d',S.hd.ext S.ext,S.viewA,ed,cR fun v H' x r=>k v H' x (r.flat (fun a xs e=>?_) _ hd)⟩
  obtain⟨na,e⟩:=Ac6.mp e
  refine fY (fun q=>?_) e
  rcases q with q | ⟨j,q⟩
  ·exact na q
  ·rcases((S.grow x).own j a q).2 with⟨ys,e2⟩ | ⟨ys,e2⟩ <;> rw[e] at e2 <;> first | cases e2 | (cases ys <;> simp[dO] at e2)
theorem ds_setL (i:Nat)(m mk:Md)(he:DE X e f)(hk:DE X k g)(hN:X.N[i]?=some x:=by rfl)(hv:mI X.env.scope x:=by first | exact bI rfl | exact bJ (bI rfl) | exact bJ (bJ rfl))(hd:(x == ("__debug__" : aD))=false:=by decide)
  (hcd:(x == ("__classdict__" : aD))=false:=by decide)
  (ha : ∀ v,lX (.Subscript (.Name x px) k apos) X.env v=(do
   let ov ← lW [v] (bC (.Name x px) X.env)
   let iv ← lW [v,ov] (bC k X.env)
   standAt apos
   lW [v,ov,iv] (setItem ov iv v)
   release [v,ov,iv] []):=by intro _; rfl)
  (hs:swapsWithSole [.Subscript (.Name x px) k apos] e pos.line X.env=pure false:=by rfl) (hw:swappedStores [.Subscript (.Name x px) k apos] e X.env=pure none:=by rfl)
  (h1:(jP [.Subscript (.Name x px) k apos] X.env).map (·.2)=[lX (.Subscript (.Name x px) k apos) X.env]:=by rfl):DS X H0 P0 n0 (.Assign [.Subscript (.Name x px) k apos] e pos) (sSetL i m f mk g):=
 PS.imp (ps_asg (ev m he) (pg_sub (oQ hN hv hd hcd) hk set_list ha) hs hw h1) fun D σ H gh=>by
  obtain⟨B0,ρ,fp,o,S,ef,kk⟩:=gh
  obtain⟨d,e1,ef2⟩:=XBs ef
  obtain⟨ds,e2,ef3⟩:=XBs ef2
  obtain⟨kd,e3,ef4⟩:=XBs ef3
  clear ef ef2 ef3
  cases kd with
  | int j=>
   obtain⟨jn,e5,ef5⟩:=XBs (show((ixN ds.length j).bind fun j=>some (Out.nx (ρ.set i (some (1,.list (ds.set j d))))))=some o from ef4)
   cases ef5
   refine⟨B0,ρ,fp,d,S,e1,fun v H2 gh=>?_⟩
   obtain⟨fp2,S2,r2⟩:=gh
   obtain⟨p,xs,h1,h2,_,_⟩:=S2.lst1 (uB e2)
   refine⟨.ref p,h1,evInt S2 e3 (by simp[eP]) fun u H3 x3 r3=>?_⟩
   have S3:=S2.grow x3
   obtain⟨p3,xs3,q1,q2,q3,q4⟩:=S3.lst1 (uB e2)
   have:p3=p:=by rw[h1] at q1; cases q1; rfl
   subst this
   exact⟨p3,xs3,j,jn,rfl,Aam.mp r3,q2,by rw[q3.length]; exact e5,kk _ _ fp2 (q4 _ _ (q3.set (r2.2.ext (cT x3)) jn))⟩
  | _=>cases ef4
end
section
variable {X:Cx}{a b c:aS}{fa fb fc:EF}{pos:bG}
theorem de_chain {op op':CmpOp}{r r':R2}{g g':aA->aA->Option aA}(ho:OpR X (eJ op) r)(ho':OpR X (eJ op') r')(hg:OpD X.K 0 r g)(hg':OpD X.K 0 r' g')(ha:DE X a fa)(hb:DE X b fb)(hc:DE X c fc)
  (hm:lastMarks [op,op'] [b,c]=false:=by with_unfolding_all rfl):DE X (.Compare a [op,op'] [b,c] pos) (mS g g' fa fb fc):=PE.imp (pe_chain ho ho' ha hb hc hm) (chainD_t hg hg')
theorem dt_chain {op op':CmpOp}{r r':R2}{g g':aA->aA->Option aA}(ho:OpR X (eJ op) r)(ho':OpR X (eJ op') r')(hg:OpD X.K 0 r g)(hg':OpD X.K 0 r' g')(ha:DE X a fa)(hb:DE X b fb)(hc:DE X c fc)
  (hm:lastMarks [op,op'] [b,c]=false:=by with_unfolding_all rfl):DT X (.Compare a [op,op'] [b,c] pos) (bOf (mS g g' fa fb fc)):=PT.imp (pt_chain ho ho' ha hb hc hm) fun σ H Q gh=>by
 obtain⟨P,ρ,t,hP,rs,ef,k⟩:=gh
 obtain⟨d,e1,ef⟩:=XBs ef
 cases oZ ef
 exact chainD_t hg hg' σ H _ ⟨P,ρ,_,hP,rs,e1,cR fun v H1 x1 r1=>⟨t,Aat.mp r1,k H1 x1⟩⟩
noncomputable def gCat:aA->aA->Option aA
 | .list xs,.list ys=>if xs.length+ys.length≤sizeLine then some (.list (xs++ys)) else none
 | _,_=>none
theorem op_catS:OpR X (jO .Add) (fun x y H Q=>∃ l b xs zs,x = .ref l/\y = .ref b/\SqL X.K H l xs/\SqL X.K H b zs/\xs.length+zs.length≤sizeLine /\ ∀ p,H p=none->Q (.ref p) (upd H p (.lst (xs++zs)))):=by
 intro pins s σ H x y v u Q I rx ry h
 obtain⟨l,b,xs,zs,rfl,rfl,hH,hB,hz,q⟩:=h
 cases rx
 cases ry
 obtain⟨its,r,p1,z1⟩:=I.list hH
 obtain⟨its2,r2,p2,z2⟩:=I.list hB
 have l1:=r.length
 have l2:=r2.length
 obtain⟨⟨cls,dd,data,sl⟩,ho,hc,n,hd⟩:=p1.isList
 obtain⟨⟨cls2,dd2,data2,sl2⟩,ho2,hc2,n2,hd2⟩:=p2.isList
 simp only at hc hd hc2 hd2
 subst hc hd hc2 hd2
 refine concat_meets ⟨_,ho,rfl⟩ ⟨_,ho2,rfl⟩ noFill_list_add seq_list_add PySem.F.slot_list_add PySem.F.entry_list_add (PySem.F.args_list_add_2 _ _) (list_addW l b its.toArray its2.toArray n n2 dd dd2 sl sl2 (by simp only[dP]; omega)) ⟨ho,ho2,?_⟩
 have ea:its.toArray++its2.toArray=(its++its2).toArray:=by simp
 rw[ea]
 exact⟨.ref _,_,I.lnew (r.append r2) (by rw[sO]; omega),rfl,q _ I.fresh⟩
theorem lK (ha:DE X a fa)(hb:DE X b fb):DF 1 X (.BinOp a .Add b pos) (eOp gCat fa fb):=df_op op_catS (fun P H x y a b d Q hP ra rb e k=>by
 unfold gCat at e
 split at e
 ·obtain⟨hz,rfl⟩:=cP e
  obtain⟨p,xs,rfl,hp,r1⟩:=Aa9.mp ra
  obtain⟨q,ys,rfl,hq,r2⟩:=Aa9.mp rb
  exact⟨p,q,xs,ys,rfl,rfl,Aa3.sqL hp,Aa3.sqL hq,by rw[r1.length,r2.length]; exact hz,fun l hl=>k.lst hP hl (r1.append r2)⟩
 ·cases e) ha hb
end
def RawD (h:aR)(d:aB)(es:Array mF)(ep:Nat):Prop:=∃ o,h.get? d=some o/\o.ExactDict/\o.data = .dict es ep
theorem RawD.keep {h h':aR}{d:aB}{es:Array mF}{ep:Nat}(x:RawD h d es ep)(k : ∀ o,h.get? d=some o->h'.get? d=some o):RawD h' d es ep:=
 let ⟨o,e,r⟩:=x; ⟨o,k o e,r⟩
theorem RawD.ty {s:aG}{d:aB}{es:Array mF}{ep:Nat}(x:RawD s.heap d es ep):s.TypeIs (.ref d) "dict":=let ⟨o,e,c,_⟩:=x; ⟨o,e,c.1⟩
section
variable {prog:bA}{w:aX}{A:bQ}{E:aE->aG->Prop}{s:aG}{d it:aB}{es:Array mF}{ep i:Nat}
theorem raw_iter {Q:aE->aG->Prop}(nm:(d == gK)=false)(R:RawD s.heap d es ep)
  (q:Q (.ref s.heap.objs.size) { s with heap:=s.heap.push { cls:=.type "dict_keyiterator",data:=.fields #[.ref d,.int 0 0,.int es.size 0,.int ep 0] } }):aO (aP prog w) A (pyIter (.ref d)) Q E s:=by
 have ty:=R.ty
 obtain⟨o,eo,_,ed⟩:=R
 refine wpAny_pyIter_slot ty F.slot_dict_iter (rW F.slot_dict_iter ty F.entry_dict_iter
  ?_ (F.args_dict_iter_1 _))
 unfold Builtin.«dict.__iter__»
 refine aL ?_
 unfold Builtin.Dict.dictSlotNone
 refine aL (wpAny_notOrdered_dict ty ?_)
 refine bB ?_
 show aO _ _ (Builtin.Dict.showsAll d >>= _) _ _ s
 unfold Builtin.Dict.showsAll
 rw[if_neg (show ¬ (d == gK)=true by rw[nm]; exact nF)]
 refine aL (bB ?_)
 refine aL (yF eo ed ?_)
 refine aL (wpAny_dictEpoch eo ed ?_)
 refine aL (uP (bB ⟨_,rfl,"dict_keyiterator",_,
  ⟨_,dU _ rfl,rfl⟩,vJ.lookup,?_⟩))
 simpa [rawInt] using q
theorem raw_next {e:mF}{Q:Option aE->aG->Prop}(K:s.heap.IsKeyIter it d i es.size ep)(R:RawD s.heap d es ep)(x:es[i]?=some e)
  (q : ∀ h',h'.IsKeyIter it d (i+1) es.size ep->vI it s.heap h'->Q (some e.key) { s with heap:=h' }):aO (aP prog w) A (pyNext (.ref it)) Q E s:=by
 obtain⟨oi,ei,ci,di⟩:=id K
 obtain⟨o,eo,_,ed⟩:=R
 unfold pyNext
 refine aL (wpAny_attempt (CY K.typeIs
  vJ (rW vJ K.typeIs
   HQ ?_ (HR _))))
 refine aL (bB ?_)
 refine aL ?_
 refine aL ?_
 first
  | refine aL (yB K.typeIs (bB ?_))
  | refine aL (yA K.typeIs (bB ?_))
 refine aL (wpAny_fieldsOf ei di ?_)
 have own:Builtin.Dict_items.ownsTuple "dict_keyiterator" = false:=by decide
 simp only[own,nG,if_false]
 show aO _ _ (if (dB d == eU)=true then _ else _) _ _ s
 rw[if_neg (show ¬ (dB d == eU)=true from nF)]
 refine aL (bB ?_)
 refine aL (yF eo ed ?_)
 rw[if_neg (by simp)]
 refine aL (bB ?_)
 refine aL (wpAny_dictEpoch eo ed ?_)
 rw[if_neg (by simp)]
 refine bB ?_
 simp only[show ¬ ((i:Int)<0) from by omega,if_false,zC,x]
 refine aL ?_
 first
  | refine aL (yB K.typeIs (bB ?_))
  | refine aL (yA K.typeIs (bB ?_))
 refine aL (wpAny_isOneOf_keyiter K.typeIs ?_)
 show aO _ _ (setField (.ref it) 1 (rawInt ((i:Int)+1)) >>= _) _ _ s
 refine aL (wpAny_setField ei di (by simp) ?_)
 have K':(s.heap.update it (Obj.mapFields (·.setIfInBounds 1 (rawInt ((i:Int)+1))))).IsKeyIter it d (i+1) es.size ep:=
  ⟨_,pW _ ei (Obj.isFreed_of_fields (Obj.data_mapFields di _)),(Obj.cls_mapFields ..).trans ci,by
   rw[Obj.data_mapFields di]; simp[rawInt]⟩
 refine aL (iG ?_)
 refine aL (wpAny_isOneOf_keyiter
  K'.typeIs ?_)
 exact bB (bB ⟨_,rfl,bB (q _ K' (EX ..))⟩)
theorem raw_end {Q:Option aE->aG->Prop}(hh:A.handled=none)(K:s.heap.IsKeyIter it d i es.size ep)(R:RawD s.heap d es ep)(x:es.size≤i)
  (q : ∀ h',Heap.ExtBut it s.heap h'->Q none { s with heap:=h' }):aO (aP prog w) A (pyNext (.ref it)) Q E s:=by
 obtain⟨oi,ei,ci,di⟩:=id K
 obtain⟨o,eo,_,ed⟩:=R
 unfold pyNext
 refine aL (wpAny_attempt (CY K.typeIs
  vJ (rW vJ K.typeIs
   HQ ?_ (HR _))))
 refine aL (bB ?_)
 refine aL ?_
 refine aL ?_
 first
  | refine aL (yB K.typeIs (bB ?_))
  | refine aL (yA K.typeIs (bB ?_))
 refine aL (wpAny_fieldsOf ei di ?_)
 have own:Builtin.Dict_items.ownsTuple "dict_keyiterator" = false:=by decide
 simp only[own,nG,if_false]
 show aO _ _ (if (dB d == eU)=true then _ else _) _ _ s
 rw[if_neg (show ¬ (dB d == eU)=true from nF)]
 refine aL (bB ?_)
 refine aL (yF eo ed ?_)
 rw[if_neg (by simp)]
 refine aL (bB ?_)
 refine aL (wpAny_dictEpoch eo ed ?_)
 rw[if_neg (by simp)]
 refine bB ?_
 simp only[show ¬ ((i:Int)<0) from by omega,if_false,zC,Array.getElem?_eq_none x]
 refine aL ?_
 first
  | refine aL (yB K.typeIs (bB ?_))
  | refine aL (yA K.typeIs (bB ?_))
 show aO _ _ (setField (.ref it) 0 .none >>= _) _ _ s
 refine aL (wpAny_setField ei di (by simp) ?_)
 refine aL ?_
 simp only[newExc,newTuple]
 refine aL (uP ?_ (by size_fits))
 refine aL (wpAny_of_eq
  (by first | rfl | (simp only[firstArgMember]; rfl)) ?_)
 refine uP ?_ (by size_fits)
 simp only[raiseNew]
 refine aL (wpAny_handled ?_)
 rw[show A.in1.handled=none from hh]
 refine aL (bB (wpAny_throw ?_))
 refine aL (yE
  ⟨_,dU _ rfl,rfl⟩ isSubtype_stop ?_)
 exact bB (q _ (((EX ..).extBut.push _).push _))
theorem raw_walks (hh:A.handled=none)(I d:aB)(ne:d≠I)(es:Array mF)(ep:Nat) :
  Walks prog w A I [I,d] [I] es.size (fun i v=>∃ e,es[i]?=some e/\v=e.key) (fun i h=>h.IsKeyIter I d i es.size ep/\RawD h d es ep) where
 sub:=fun b hb=>by simp at hb; simp[hb]
 frame:=fun _ _ _ st hk=>⟨st.1.at fun o e=>hk I (by simp) o e,st.2.keep fun o e=>hk d (by simp) o e⟩
 item:=fun i s Q E hi st hQ=>by
  have hx:=HS hi
  refine raw_next st.1 st.2 hx fun h' K' hs=>?_
  exact hQ _ h' s.toks ⟨_,hx,rfl⟩ ⟨K',st.2.keep fun o e=>hs.extBut d o ne e⟩ fun b o hb e=>hs.extBut b o (fun h=>hb (by simp[h])) e
 done:=fun s Q E st hQ=>raw_end hh st.1 st.2 (bM _) fun h' he=>hQ h' s.toks fun b o hb e=>he b o (fun h=>hb (by simp[h])) e
 self:=fun _ _ _ _ st hQ=>wpAny_pyIter_keyiter st.1 hQ
theorem GM:pP (.type "dict") "__len__" = pure (some (.builtin "dict.__len__")):=by rw[typeLookup_type,builtinLookup_eq_fast]; kernel_rfl
theorem raw_extend {R:lY->aG->Prop}(hh:A.handled=none)(nm:(d == gK)=false)(D:RawD s.heap d es ep)(S:aB)(res:aE)(c₀:Nat)(hSd:S≠d)
  (hS:s.heap.get? S=some { cls:=.type "list",data:=.seq #[] c₀ }) (hn:es.size≤sizeLine)
  (q : ∀ h' tk acc c',(∀ b o,b≠S->s.heap.get? b=some o->h'.get? b=some o)->h'.get? S=some { cls:=.type "list",dict:=none,data:=.seq acc c',slots:=#[] } ->
   ItemsOf (fun i v=>∃ e,es[i]?=some e/\v=e.key) acc es.size->R (.ok (.ret res)) { s with heap:=h',toks:=tk }) :
  aO (aP prog w) A.in1 (sV (.ref S) (.ref d) res)
   (fun fin s'=>match fin with | .done f=>R (.ok f) s' | .again c'=>c'.quiet=true/\gZ (aP prog w) A c' R s') (fun e s'=>R (.error e) s') s:=by
 have ty:=D.ty
 unfold sV
 refine aL (rT ty ?_)
 have h1:zF (.ref S) (.ref d)=false:=by
  simp[zF,hSd]
 have h2:(gM "dict" == gM "list")=false:=by decide
 have h3:(gM "dict" == gM "tuple")=false:=by decide
 simp only[h1,h2,h3,FD,nG,if_false]
 refine aL (raw_iter nm D ?_)
 refine aL (iG ?_)
 have hd0:d<s.heap.objs.size:=by obtain⟨o,e,_⟩:=D; exact bK e
 have hS0:S<s.heap.objs.size:=bK hS
 have keepP : ∀ b o,s.heap.get? b=some o->(s.heap.push { cls:=.type "dict_keyiterator",data:=.fields #[.ref d,.int 0 0,.int es.size 0,.int ep 0] }).get? b=some o:=fun b o e=>cF _ e
 have D':RawD (s.heap.push { cls:=.type "dict_keyiterator",data:=.fields #[.ref d,.int 0 0,.int es.size 0,.int ep 0] }) d es ep:=D.keep fun o e=>keepP d o e
 have itG:(s.heap.push { cls:=.type "dict_keyiterator",data:=.fields #[.ref d,.int 0 0,.int es.size 0,.int ep 0] }).IsKeyIter s.heap.objs.size d 0 es.size ep:=⟨_,dU _ rfl,rfl,rfl⟩
 unfold FC
 refine aL (rV (T:="dict") (v:=.ref d) (by obtain⟨o,e,c,_⟩:=D'; exact⟨o,e,c.1⟩) GM ?_)
 wp_delta
 refine aL (yE (T:="dict") (v:=.ref d) (b:=true) (by obtain⟨o,e,c,_⟩:=D'; exact⟨o,e,c.1⟩) (by rw[isSubtype_type]; kernel_rfl) ?_)
 show aO _ _ (typeOf (dB d) >>= _) _ _ _
 refine aL (rT (T:="dict") (v:=.ref d) (by obtain⟨o,e,c,_⟩:=D'; exact⟨o,e,c.1⟩) ?_)
 refine bB ?_
 rw[if_pos (by decide)]
 refine aL (wpAny_rule ?_)
 refine aL ?_
 have S1:=keepP _ _ hS
 generalize(s.heap.push { cls:=.type "dict_keyiterator",data:=.fields #[.ref d,.int 0 0,.int es.size 0,.int ep 0] })=G at keepP D' S1 itG ⊢
 show aO _ _ (uQ S (·.push .none) >>= fun _=>uQ S (·.pop)) _ _ _
 refine aL (uN S1 rfl ?_)
 have S2:=pW (gE (·.push eU)) S1 rfl
 refine uN (hz:=by seq_fits) S2 rfl ?_
 have S3:=pW (gE (·.pop)) S2 rfl
 have other : ∀ b o,b≠S->G.get? b=some o->((G.update S (gE (·.push eU))).update S (gE (·.pop))).get? b=some o:=fun b o hb e=>
  (pX _ _ (gU hb)).trans ((pX _ _ (gU hb)).trans e)
 have hne:d≠s.heap.objs.size:=cK hd0
 have hSf:S∉[s.heap.objs.size,d]:=fun hm=>by
  rcases cN.mp hm with z | z
  ·exact absurd hS0 (by rw[z]; exact jE _)
  ·exact hSd (dG.mp z)
 refine bB ⟨rX F.plain_extend_loop _,codeAny_extend_loopS (raw_walks (A:=A.in1) hh s.heap.objs.size d hne es ep).toS hn _ hSf _ es.size 0 _ _ _ rfl (eE _)
  ⟨itG.at fun o e=>other _ o (lE hS0) e,D'.keep fun o e=>other _ o (gU hSd) e⟩ S3 (ItemsOf.nil _) fun s' acc c' hm hS' hacc=>?_⟩
 rw[Moved.eq_with hm]
 refine q s'.heap s'.toks acc c' (fun b ob hb e=>hm.heap b ob (fun hmem=>?_) (other b ob hb (keepP _ _ e))) hS' hacc
 rcases cN.mp hmem with z | hmem
 ·exact hb z
 ·exact absurd (bK e) (by rw[dG.mp hmem]; exact jE _)
theorem BY {Q:List aE->aG->Prop}(hh:A.handled=none)(nm:(d == gK)=false)(D:RawD s.heap d es ep)(hn:es.size≤sizeLine)
  (q : ∀ s' acc,(∀ b o,s.heap.get? b=some o->s'.heap.get? b=some o)->s'.gens=s.gens->s'.drawn=s.drawn->s'.os=s.os->ItemsOf (fun i v=>∃ e,es[i]?=some e/\v=e.key) acc es.size->Q acc.toList s') :
  aO (aP prog w) A (collect (.ref d)) Q E s:=by
 have hd0:d<s.heap.objs.size:=by obtain⟨o,e,_⟩:=D; exact bK e
 unfold collect
 refine aL (wpAny_runValue (oA F.entry_proto_collect ?_))
 rw[sW F.plain_proto_collect _]
 refine aL (uP ?_)
 refine bB ⟨rX F.plain_list_iadd _,oA F.entry_list_iadd ?_⟩
 rw[sW F.plain_list_iadd _]
 have fin : ∀ (r:lY) (s':aG),(r = .ok (.ret (.ref s.heap.objs.size)) /\ ∃ h' tk acc c',s' = { s with heap:=h',toks:=tk }/\(∀ b o,b≠s.heap.objs.size->(s.heap.push { cls:=.type "list",data:=.seq ([]:List aE).toArray }).get? b=some o->h'.get? b=some o) /\
   h'.get? s.heap.objs.size=some { cls:=.type "list",dict:=none,data:=.seq acc c',slots:=#[] }/\ItemsOf (fun i v=>∃ e,es[i]?=some e/\v=e.key) acc es.size) ->
   (match r with
    | .ok (.ret v)=>aO (aP prog w) A (match v with
      | .ref a=>do
       let o ← load a
       match o.data with
        | .seq xs _=>pure xs.toList
        | _=>unsupported "internal:collect"
      | _=>unsupported "internal:collect") Q E s'
    | .ok _=>False
    | .error e=>E e s'):=by
  rintro r s' ⟨rfl,h',tk,acc,c',rfl,hk,hS',hacc⟩
  refine aL (wpAny_load hS' ?_)
  exact bB (q { s with heap:=h',toks:=tk } acc (fun b o e=>hk b o (cK (bK e)) (cF _ e)) rfl rfl rfl hacc)
 refine gY (raw_extend
  (R:=fun r s'=>r = .ok (.ret (.ref s.heap.objs.size)) /\ ∃ h' tk acc c',s' = { s with heap:=h',toks:=tk }/\(∀ b o,b≠s.heap.objs.size->(s.heap.push { cls:=.type "list",data:=.seq ([]:List aE).toArray }).get? b=some o->h'.get? b=some o) /\
   h'.get? s.heap.objs.size=some { cls:=.type "list",dict:=none,data:=.seq acc c',slots:=#[] }/\ItemsOf (fun i v=>∃ e,es[i]?=some e/\v=e.key) acc es.size)
  hh nm (D.keep fun o e=>cF _ e) s.heap.objs.size _ 0 (lE hd0) (dU _ rfl) hn fun h' tk acc c' hk hS' hacc=>⟨rfl,h',tk,acc,c',rfl,hk,hS',hacc⟩) (fun f s' hf=>?_) fun e s' hf=>absurd hf.1 (by intro z; cases z)
 cases f with
 | done f=>exact fin _ s' hf
 | again c=>exact⟨hf.1,nZ hf.2 fun r s2 h2=>fin r s2 h2⟩
end
section
variable {X:Cx}{pins:List (aB×aT)}{σ:St}{H:Hp}{s:aG}
theorem xG {P:bA}{w:aX} : ∀ {es:List mF} {kvs:List (aM×V)} {vs:List (aM×aE)},KV kvs vs->PySem.Pairs (cV P w) es vs->Vals (kvs.map fun kv=>kV kv.1) (es.map (·.key))
 | [],kvs,vs,r,p=>by
  cases p
  cases r
  exact .nil
 | e::es,kvs,vs,r,p=>by
  cases p with
  | cons h hv t=>
   cases r with
   | cons h' t'=>
    refine .cons ?_ (xG t' t)
    show RelV (kV _) e.key
    rw[h'.1]
    rcases kJ h with⟨i,tk,e1,e2⟩ | ⟨x,tk,e1,e2⟩
    ·rw[e1,e2]; exact⟨tk,rfl⟩
    ·rw[e1,e2]; exact⟨tk,rfl⟩
theorem AR {es:Array mF}{acc:Array aE}(h:ItemsOf (fun i v=>∃ e,es[i]?=some e/\v=e.key) acc es.size):acc.toList=es.toList.map (·.key):=by
 obtain⟨h1,h2⟩:=h
 apply List.ext_getElem?
 intro i
 rw[eX]
 by_cases hi:i<acc.size
 ·have ha:acc.toList[i]?=some acc[i]:=by simp[hi]
  obtain⟨e,he,hv⟩:=h2 i acc[i] (by simp[hi])
  have he':es.toList[i]?=some e:=by simpa using he
  rw[ha,he',hv]
  rfl
 ·have ha:acc.toList[i]?=none:=by simp; omega
  have he:es.toList[i]?=none:=by simp; omega
  rw[ha,he]
  rfl
theorem dk_raw {ep0:Nat}{kvs:List (aM×V)}{a:aB}(I:Inv X pins σ H s)(ha:H a=some (.dK ep0 kvs)):kvs.length≤sizeLine/\(a == gK)=false /\ ∃ es ep,RawD s.heap a es ep/\Vals (kvs.map fun kv=>kV kv.1) (es.toList.map (·.key))/\es.size=kvs.length:=by
 obtain⟨z,nm,vs,r,o,es,ep,e1,e2,e3,_,e5,_⟩:=dk_of I.hok ha
 refine⟨z,nm,es,ep,⟨o,e1,e2,e3⟩,xG r e5,?_⟩
 have l1:=(xG r e5).length
 simp at l1
 exact l1.symm
theorem kt_addrs {H:Hp} : ∀ {kvs:List (List aA×V)} {ys:List (List aA×aB×aE)},cZ (fun p q=>p.1=q.1/\Ait H p.1 q.2.1/\RelV p.2 q.2.2) kvs ys->cZ (fun(p:List aA×V) (b:aB)=>Ait H p.1 b) kvs (ys.map fun y=>y.2.1):=by
 intro kvs ys h
 induction h with
 | nil=>exact .nil
 | cons h _ ih=>exact .cons h.2.1 ih
theorem AJ {P:bA}{w:aX} : ∀ (ys:List (List aA×aB×aE)),Vals ((ys.map fun y=>y.2.1).map V.ref) ((ys.map (entryOfKey (lO P w))).map (·.key))
 | []=>.nil
 | _::t=>.cons rfl (AJ t)
theorem AZ {K:aI} : ∀ {kds:List (aA×aA)} {kvs:List (aM×V)},Abj K H kds kvs->(∀ kd∈kds,cQ kd.1=true)->Aaq K H (kds.map (·.1)) (kvs.map fun kv=>kV kv.1)
 | [],kvs,r,_=>by rw[Aba.mp r]; exact Aal.mpr rfl
 | (k,d)::kds,kvs,r,h=>by
  obtain⟨k',x,rr,rfl,rfl,h1,h2⟩:=Aav.mp r
  refine Aad.mpr ⟨_,_,rfl,?_,AZ h2 fun kd m=>h kd (cI _ m)⟩
  have hl:=h (kD k',d) cA
  cases k' with
  | inl i=>exact Aam.mpr rfl
  | inr z=>exact Aap.mpr ⟨rfl,hl⟩
end
open PySem PySem.W PyProof.Rows
noncomputable def evT {α:Type}(lt:Nat->Nat->Bool):KasT α->α
 | .ret a=>a
 | .ask i j k=>evT lt (k (lt i j))
theorem oX {α β:Type}(lt:Nat->Nat->Bool)(f:α->KasT β) : ∀ t:KasT α,evT lt (t.bind f)=evT lt (f (evT lt t))
 | .ret _=>rfl
 | .ask i j k=>oX lt f (k (lt i j))
structure Ord (lt:Nat->Nat->Bool):Prop where
 asym : ∀ a b,lt a b=true->lt b a=false
 tr : ∀ a b c,lt b a=false->lt c b=false->lt c a=false
section
variable {lt:Nat->Nat->Bool}(O:Ord lt)
noncomputable abbrev at' (p:Array Nat)(i:Nat):Nat:=p.getD i 0
def fQ (lt:Nat->Nat->Bool)(p:Array Nat)(m:Nat):Prop:=∀ i j,i≤j->j<m->lt (at' p j) (at' p i)=false
def nJ (lt:Nat->Nat->Bool)(p:Array Nat)(m:Nat):Prop:=∀ i j,i≤j->j<m->lt (at' p i) (at' p j)=false
include O
theorem Ord.refl (a:Nat):lt a a=false:=by
 cases h:lt a a with
 | false=>rfl
 | true=>exact absurd (O.asym a a h) (by rw[h]; decide)
theorem asc_ext {p:Array Nat}{n:Nat}(h1:1≤n)(h:fQ lt p n)(hl:lt (at' p n) (at' p (n - 1))=false):fQ lt p (n+1):=fun i j hij hj=>by
 by_cases c:j<n
 ·exact h i j hij c
 ·obtain rfl:j=n:=by omega
  by_cases d:i=j
  ·subst d; exact O.refl _
  ·exact O.tr _ _ _ (h i (j - 1) (by omega) (by omega)) hl
theorem qR {p:Array Nat}{n:Nat}(h1:1≤n)(h:nJ lt p n)(hl:lt (at' p (n - 1)) (at' p n)=false):nJ lt p (n+1):=fun i j hij hj=>by
 by_cases c:j<n
 ·exact h i j hij c
 ·obtain rfl:j=n:=by omega
  by_cases d:i=j
  ·subst d; exact O.refl _
  ·exact O.tr _ _ _ hl (h i (j - 1) (by omega) (by omega))
theorem asc_one (p:Array Nat):fQ lt p 1:=fun i j hij hj=>by
 obtain rfl:j=0:=by omega
 obtain rfl:i=0:=by omega
 exact O.refl _
theorem asc_run {p:Array Nat} : ∀ (f n:Nat),1≤n->fQ lt p n->n≤evT lt (kas_asc p f n)/\evT lt (kas_asc p f n)≤n+f/\fQ lt p (evT lt (kas_asc p f n))/\(evT lt (kas_asc p f n)<n+f->lt (at' p (evT lt (kas_asc p f n))) (at' p (evT lt (kas_asc p f n) - 1))=true)
 | 0,n,h1,h=>⟨bM _,bM _,h,fun z=>absurd z (by show ¬ n<n+0; omega)⟩
 | f+1,n,h1,h=>by
  have e:evT lt (kas_asc p (f+1) n)=evT lt (if lt (at' p n) (at' p (n - 1))=true then KasT.ret n else kas_asc p f (n+1)):=rfl
  rw[e]
  by_cases c:lt (at' p n) (at' p (n - 1))=true
  ·rw[if_pos c]
   exact⟨bM _,by show n≤n+(f+1); omega,h,fun _=>c⟩
  ·rw[if_neg c]
   obtain⟨a1,a2,a3,a4⟩:=asc_run f (n+1) (by omega) (asc_ext O h1 h (by simpa using c))
   exact⟨by omega,by omega,a3,fun z=>a4 (by omega)⟩
theorem wO {p:Array Nat}{k:Nat}(h:fQ lt p k) : ∀ (f l r:Nat),l≤r->r≤k->r - l≤f->(∀ i<l,lt (at' p k) (at' p i)=false)->(∀ i,r≤i->i<k->lt (at' p i) (at' p k)=false) ->
  evT lt (kas_place p k f l r)≤k/\(∀ i<evT lt (kas_place p k f l r),lt (at' p k) (at' p i)=false) /\ ∀ i,evT lt (kas_place p k f l r)≤i->i<k->lt (at' p i) (at' p k)=false
 | 0,l,r,h1,h2,h3,hl,hr=>by
  have e:evT lt (kas_place p k 0 l r)=l:=rfl
  obtain rfl:l=r:=by omega
  rw[e]
  exact⟨h2,hl,hr⟩
 | f+1,l,r,h1,h2,h3,hl,hr=>by
  unfold kas_place
  by_cases c:l ≥ r
  ·rw[if_pos c]
   obtain rfl:l=r:=by omega
   exact⟨h2,hl,hr⟩
  ·rw[if_neg c]
   show evT lt (if lt (at' p k) (at' p ((l+r) / 2))=true then kas_place p k f l ((l+r) / 2) else kas_place p k f ((l+r) / 2+1) r)≤k/\_
   by_cases d:lt (at' p k) (at' p ((l+r) / 2))=true
   ·have e:evT lt (KasT.ask (p.getD k 0) (p.getD ((l+r) / 2) 0) fun c=>if c=true then kas_place p k f l ((l+r) / 2) else kas_place p k f ((l+r) / 2+1) r)=evT lt (kas_place p k f l ((l+r) / 2)):=by
     show evT lt (if lt (at' p k) (at' p ((l+r) / 2))=true then _ else _)=_
     rw[if_pos d]
    rw[e,if_pos d]
    exact wO h f l ((l+r) / 2) (by omega) (by omega) (by omega) hl fun i a b=>O.tr _ _ _ (O.asym _ _ d) (h _ i a b)
   ·have d':lt (at' p k) (at' p ((l+r) / 2))=false:=by simpa using d
    have e:evT lt (KasT.ask (p.getD k 0) (p.getD ((l+r) / 2) 0) fun c=>if c=true then kas_place p k f l ((l+r) / 2) else kas_place p k f ((l+r) / 2+1) r)=evT lt (kas_place p k f ((l+r) / 2+1) r):=by
     show evT lt (if lt (at' p k) (at' p ((l+r) / 2))=true then _ else _)=_
     rw[if_neg d]
    rw[e,if_neg d]
    refine wO h f ((l+r) / 2+1) r (by omega) h2 (by omega) (fun i hi=>?_) hr
    exact O.tr _ _ _ (h i ((l+r) / 2) (by omega) (by omega)) d'
end
theorem at_of {p:Array Nat}(i:Nat):at' p i=(p[i]?).getD 0:=Array.getD_eq_getD_getElem?
theorem bub_at {p:Array Nat}{k l:Nat}(hk:k<p.size)(hl:l≤k)(i:Nat):at' (bubble p k (k - l)) i=if i=l then at' p k else if l<i/\i≤k then at' p (i - 1) else at' p i:=by
 have e:k - (k - l)=l:=by omega
 have q:=getElem?_bubble hk (k - l) (by omega) i
 rw[e] at q
 simp only[at_of,q]
 split
 ·rfl
 ·split <;> rfl
theorem jJ {p:Array Nat}{i j:Nat}(hj:j≤p.size)(k:Nat):at' (kas_rev p i j) k=if i≤k/\k<j then at' p (i+j - 1 - k) else at' p k:=by
 have q:=getElem?_mirror_all (i:=i) hj k
 simp only[at_of]
 unfold kas_rev
 rw[q]
 split <;> rfl
theorem wA (p:Array Nat)(i j:Nat):(kas_rev p i j).size=p.size:=mirror_size _ _ _ _
theorem mV (p:Array Nat)(i j:Nat):(kas_rev p i j).Perm p:=mirror_perm _ _ _ _
section
variable {lt:Nat->Nat->Bool}(O:Ord lt)
include O
theorem bin_run : ∀ (f:Nat) (p:Array Nat) (k:Nat),fQ lt p k->k+f≤p.size->(evT lt (kas_bin f p k)).Perm p/\fQ lt (evT lt (kas_bin f p k)) (k+f)
 | 0,p,k,h,_=>⟨vM _,h⟩
 | f+1,p,k,h,hz=>by
  have e:evT lt (kas_bin (f+1) p k)=evT lt (kas_bin f (bubble p k (k - evT lt (kas_place p k k 0 k))) (k+1)):=by
   show evT lt ((kas_place p k k 0 k).bind fun l=>kas_bin f (bubble p k (k - l)) (k+1))=_
   rw[oX]
  obtain⟨h1,h2,h3⟩:=wO O h k 0 k (eE _) (bM _) (by omega) (fun i hi=>absurd hi (by omega)) (fun i a b=>absurd b (by omega))
  rw[e]
  generalize evT lt (kas_place p k k 0 k)=l at h1 h2 h3
  have hk:k<p.size:=by omega
  have A':fQ lt (bubble p k (k - l)) (k+1):=fun i j hij hj=>by
   rw[bub_at hk h1,bub_at hk h1]
   by_cases ci:i=l
   ·rw[if_pos ci]
    by_cases cj:j=l
    ·rw[if_pos cj]; exact O.refl _
    ·rw[if_neg cj,if_pos ⟨by omega,by omega⟩]
     exact h3 (j - 1) (by omega) (by omega)
   ·rw[if_neg ci]
    by_cases cj:j=l
    ·rw[if_pos cj,if_neg (by omega)]
     exact h2 i (by omega)
    ·rw[if_neg cj]
     by_cases di:l<i/\i≤k
     ·rw[if_pos di,if_pos ⟨by omega,by omega⟩]
      exact h (i - 1) (j - 1) (by omega) (by omega)
     ·rw[if_neg di]
      by_cases dj:l<j/\j≤k
      ·rw[if_pos dj]
       exact h i (j - 1) (by omega) (by omega)
      ·rw[if_neg dj]
       exact h i j hij (by omega)
  obtain⟨a1,a2⟩:=bin_run f (bubble p k (k - l)) (k+1) A' (by rw[bubble_size]; omega)
  exact⟨a1.trans (bubble_perm _ _ _),by rw[show k+(f+1)=k+1+f by omega]; exact a2⟩
structure Fall (lt:Nat->Nat->Bool)(p:Array Nat)(n q:Nat):Prop where
 pos:q+1≤n
 dsc:nJ lt p n
 eq : ∀ i j,n - (q+1)≤i->i<n->n - (q+1)≤j->j<n->lt (at' p i) (at' p j)=false
theorem Fall.rev {p:Array Nat}{n q:Nat}(F:Fall lt p n q)(hz:n≤p.size):Fall lt (kas_rev p (n - (q+1)) n) n q:=by
 have hp:=F.pos
 refine⟨hp,fun i j hij hj=>?_,fun i j a b c d=>?_⟩
 ·rw[jJ hz,jJ hz]
  by_cases ci:n - (q+1)≤i/\i<n
  ·rw[if_pos ci,if_pos ⟨by omega,hj⟩]
   exact F.eq _ _ (by omega) (by omega) (by omega) (by omega)
  ·rw[if_neg ci]
   by_cases cj:n - (q+1)≤j/\j<n
   ·rw[if_pos cj]
    exact F.dsc _ _ (by omega) (by omega)
   ·rw[if_neg cj]
    exact F.dsc i j hij hj
 ·rw[jJ hz,jJ hz,if_pos ⟨a,b⟩,if_pos ⟨c,d⟩]
  exact F.eq _ _ (by omega) (by omega) (by omega) (by omega)
theorem tW : ∀ (f:Nat) (p:Array Nat) (n q:Nat),Fall lt p n q->n+f≤p.size->(evT lt (kas_desc f p n q)).1.Perm p/\n≤(evT lt (kas_desc f p n q)).2.1/\(evT lt (kas_desc f p n q)).2.1≤n+f/\Fall lt (evT lt (kas_desc f p n q)).1 (evT lt (kas_desc f p n q)).2.1 (evT lt (kas_desc f p n q)).2.2
 | 0,p,n,q,F,_=>⟨vM _,bM _,bM _,F⟩
 | f+1,p,n,q,F,hz=>by
  have hp:=F.pos
  have e:evT lt (kas_desc (f+1) p n q)=evT lt (if lt (at' p n) (at' p (n - 1))=true then(if q > 0 then kas_desc f (kas_rev p (n - (q+1)) n) (n+1) 0 else kas_desc f p (n+1) 0) else KasT.ask (p.getD (n - 1) 0) (p.getD n 0) fun d=>if d=true then .ret (p,n,q) else kas_desc f p (n+1) (q+1)):=rfl
  rw[e]
  by_cases c:lt (at' p n) (at' p (n - 1))=true
  ·rw[if_pos c]
   by_cases hq:q > 0
   ·rw[if_pos hq]
    have F':=F.rev O (by omega)
    have hn:at' (kas_rev p (n - (q+1)) n) n=at' p n:=by rw[jJ (by omega),if_neg (by omega)]
    have F2:Fall lt (kas_rev p (n - (q+1)) n) (n+1) 0:=by
     refine⟨by omega,qR O (by omega) F'.dsc ?_,fun i j a b c' d=>?_⟩
     ·rw[hn,jJ (by omega),if_pos ⟨by omega,by omega⟩]
      exact O.tr _ _ _ (O.asym _ _ c) (F.eq _ _ (by omega) (by omega) (by omega) (by omega))
     ·obtain rfl:i=n:=by omega
      obtain rfl:j=i:=by omega
      exact O.refl _
    obtain⟨a1,a2,a3,a4⟩:=tW f _ (n+1) 0 F2 (by rw[wA]; omega)
    exact⟨a1.trans (mV _ _ _),by omega,by omega,a4⟩
   ·rw[if_neg hq]
    have F2:Fall lt p (n+1) 0:=by
     refine⟨by omega,qR O (by omega) F.dsc (O.asym _ _ c),fun i j a b c' d=>?_⟩
     obtain rfl:i=n:=by omega
     obtain rfl:j=i:=by omega
     exact O.refl _
    obtain⟨a1,a2,a3,a4⟩:=tW f _ (n+1) 0 F2 (by omega)
    exact⟨a1,by omega,by omega,a4⟩
  ·rw[if_neg c]
   have c':lt (at' p n) (at' p (n - 1))=false:=by simpa using c
   have e2:evT lt (KasT.ask (p.getD (n - 1) 0) (p.getD n 0) fun d=>if d=true then .ret (p,n,q) else kas_desc f p (n+1) (q+1))=evT lt (if lt (at' p (n - 1)) (at' p n)=true then .ret (p,n,q) else kas_desc f p (n+1) (q+1)):=rfl
   rw[e2]
   by_cases d:lt (at' p (n - 1)) (at' p n)=true
   ·rw[if_pos d]
    exact⟨vM _,bM _,by show n≤n+(f+1); omega,F⟩
   ·rw[if_neg d]
    have d':lt (at' p (n - 1)) (at' p n)=false:=by simpa using d
    have F2:Fall lt p (n+1) (q+1):=by
     refine⟨by omega,qR O (by omega) F.dsc d',fun i j a b a' b'=>?_⟩
     by_cases ci:i=n
     ·by_cases cj:j=n
      ·rw[ci,cj]; exact O.refl _
      ·rw[ci]
       exact O.tr _ _ _ (F.eq (n - 1) j (by omega) (by omega) (by omega) (by omega)) c'
     ·by_cases cj:j=n
      ·rw[cj]
       exact O.tr _ _ _ d' (F.eq i (n - 1) (by omega) (by omega) (by omega) (by omega))
      ·exact F.eq i j (by omega) (by omega) (by omega) (by omega)
    obtain⟨a1,a2,a3,a4⟩:=tW f _ (n+1) (q+1) F2 (by omega)
    exact⟨a1,by omega,by omega,a4⟩
end
section
variable {lt:Nat->Nat->Bool}(O:Ord lt)
include O
theorem rev_asc {p:Array Nat}{n:Nat}(h:nJ lt p n)(hz:n≤p.size):fQ lt (kas_rev p 0 n) n:=fun i j hij hj=>by
 rw[jJ hz,jJ hz,if_pos ⟨eE _,hj⟩,if_pos ⟨eE _,by omega⟩]
 exact h _ _ (by omega) (by omega)
theorem tail_run {p:Array Nat}{n m:Nat}(h1:1≤n)(hn:n≤m)(hz:m≤p.size)(h:nJ lt p n):(evT lt (kas_tail3 n m p)).2.Perm p/\(evT lt (kas_tail3 n m p)).1≤m/\1≤(evT lt (kas_tail3 n m p)).1/\fQ lt (evT lt (kas_tail3 n m p)).2 (evT lt (kas_tail3 n m p)).1:=by
 unfold kas_tail3
 rw[oX]
 obtain⟨a1,a2,a3,_⟩:=asc_run O (m - n) n h1 (rev_asc O h (by omega))
 exact⟨mV _ _ _,by show evT lt (kas_asc (kas_rev p 0 n) (m - n) n)≤m; omega,by show 1≤evT lt (kas_asc (kas_rev p 0 n) (m - n) n); omega,a3⟩
theorem part_run {p:Array Nat}{n m:Nat}(h1:1≤n)(hn:n+1≤m)(hz:m≤p.size)(h:nJ lt p (n+1)):(evT lt (kas_descPart n m p)).2.Perm p/\(evT lt (kas_descPart n m p)).1≤m/\1≤(evT lt (kas_descPart n m p)).1/\fQ lt (evT lt (kas_descPart n m p)).2 (evT lt (kas_descPart n m p)).1:=by
 have F0:Fall lt p (n+1) 0:=⟨by omega,h,fun i j a b c d=>by
  obtain rfl:i=n:=by omega
  obtain rfl:j=i:=by omega
  exact O.refl _⟩
 obtain⟨a1,a2,a3,a4⟩:=tW O (m - (n+1)) p (n+1) 0 F0 (by omega)
 unfold kas_descPart
 rw[oX]
 generalize evT lt (kas_desc (m - (n+1)) p (n+1) 0)=r at a1 a2 a3 a4
 have hs:=a1.size_eq
 split
 ·have F':=a4.rev O (by omega)
  obtain⟨b1,b2,b3,b4⟩:=tail_run O (by omega) (by omega) (by rw[wA]; omega) F'.dsc (m:=m)
  exact⟨b1.trans ((mV _ _ _).trans a1),b2,b3,b4⟩
 ·obtain⟨b1,b2,b3,b4⟩:=tail_run O (by omega) (by omega) (by omega) a4.dsc (m:=m)
  exact⟨b1.trans a1,b2,b3,b4⟩
theorem zN {p:Array Nat}{m:Nat}(h1:1≤m)(hz:m≤p.size):(evT lt (kas_count m p)).2.Perm p/\(evT lt (kas_count m p)).1≤m/\1≤(evT lt (kas_count m p)).1/\fQ lt (evT lt (kas_count m p)).2 (evT lt (kas_count m p)).1:=by
 obtain⟨a1,a2,a3,a4⟩:=asc_run O (m - 1) 1 (bM _) (asc_one O p)
 unfold kas_count
 rw[oX]
 generalize evT lt (kas_asc p (m - 1) 1)=n at a1 a2 a3 a4
 by_cases c:(n == m)=true
 ·rw[if_pos c]
  exact⟨vM _,by show n≤m; omega,a1,a3⟩
 ·rw[if_neg c]
  have hnm:n≠m:=by simpa using c
  have hl:=a4 (by omega)
  by_cases d:n > 1
  ·rw[if_pos d]
   show(evT lt (if lt (at' p 0) (at' p (n - 1))=true then KasT.ret (n,p) else kas_descPart n m (kas_rev p 0 n))).2.Perm p/\(evT lt (if lt (at' p 0) (at' p (n - 1))=true then KasT.ret (n,p) else kas_descPart n m (kas_rev p 0 n))).1≤m/\1≤(evT lt (if lt (at' p 0) (at' p (n - 1))=true then KasT.ret (n,p) else kas_descPart n m (kas_rev p 0 n))).1/\fQ lt (evT lt (if lt (at' p 0) (at' p (n - 1))=true then KasT.ret (n,p) else kas_descPart n m (kas_rev p 0 n))).2 (evT lt (if lt (at' p 0) (at' p (n - 1))=true then KasT.ret (n,p) else kas_descPart n m (kas_rev p 0 n))).1
   by_cases e:lt (at' p 0) (at' p (n - 1))=true
   ·rw[if_pos e]
    exact⟨vM _,by show n≤m; omega,a1,a3⟩
   ·rw[if_neg e]
    have e':lt (at' p 0) (at' p (n - 1))=false:=by simpa using e
    have same : ∀ i j,i<n->j<n->lt (at' p i) (at' p j)=false:=fun i j hi hj=>
     O.tr _ (at' p 0) _ (O.tr _ _ _ (a3 j (n - 1) (by omega) (by omega)) e') (a3 0 i (eE _) hi)
    have D:nJ lt (kas_rev p 0 n) (n+1):=by
     refine qR O a1 (fun i j hij hj=>?_) ?_
     ·rw[jJ (by omega),jJ (by omega),if_pos ⟨eE _,by omega⟩,if_pos ⟨eE _,hj⟩]
      exact same _ _ (by omega) (by omega)
     ·rw[jJ (by omega),jJ (by omega),if_pos ⟨eE _,by omega⟩,if_neg (by omega)]
      exact O.tr _ _ _ (O.asym _ _ hl) (same _ _ (by omega) (by omega))
    obtain⟨b1,b2,b3,b4⟩:=part_run O a1 (by omega) (by rw[wA]; exact hz) D (m:=m)
    exact⟨b1.trans (mV _ _ _),b2,b3,b4⟩
  ·rw[if_neg d]
   obtain rfl:n=1:=by omega
   exact part_run O (bM _) (by omega) hz (qR O (bM _) (fun i j hij hj=>by
    obtain rfl:j=0:=by omega
    obtain rfl:i=0:=by omega
    exact O.refl _) (O.asym _ _ hl))
theorem sort_run {n:Nat}(h1:1≤n):(evT lt (kas_sort n)).Perm (iI (dC n))/\fQ lt (evT lt (kas_sort n)) n:=by
 have hs:(iI (dC n)).size=n:=by simp
 obtain⟨a1,a2,a3,a4⟩:=zN O h1 (by rw[hs]; exact bM _)
 unfold kas_sort
 rw[oX]
 generalize evT lt (kas_count n (iI (dC n)))=r at a1 a2 a3 a4
 have hz:=a1.size_eq.trans hs
 split
 ·have em:max r.1 1=r.1:=by omega
  rw[em]
  obtain⟨b1,b2⟩:=bin_run O (n - r.1) r.2 r.1 a4 (by omega)
  exact⟨b1.trans a1,by rw[show r.1+(n - r.1)=n by omega] at b2; exact b2⟩
 ·have:r.1=n:=by omega
  exact⟨a1,by rw[this] at a4; exact a4⟩
end
def fM {α:Type}(lt:Nat->Nat->Bool)(N:Nat):KasT α->Prop
 | .ret _=>True
 | .ask i j k=>(i<N/\j<N)/\fM lt N (k (lt i j))
theorem oU {α β:Type}{lt:Nat->Nat->Bool}{N:Nat}{f:α->KasT β} : ∀ {t:KasT α},fM lt N t->fM lt N (f (evT lt t))->fM lt N (t.bind f)
 | .ret _,_,h=>h
 | .ask i j k,h,h2=>⟨h.1,oU h.2 h2⟩
theorem ok_wp {α:Type}{lt:Nat->Nat->Bool}{N:Nat}{cmp:Nat->Nat->(Bool->aG->Prop)->aG->Prop}{s:aG}(hc : ∀ i j (C:Bool->aG->Prop),i<N->j<N->C (lt i j) s->cmp i j C s){Q:α->aG->Prop} : ∀ {t:KasT α},fM lt N t->Q (evT lt t) s->t.kasWp cmp Q s
 | .ret _,_,h=>h
 | .ask i j k,h,q=>hc i j _ h.1.1 h.1.2 (ok_wp hc h.2 q)
abbrev El (N:Nat)(p:Array Nat):Prop:=∀ x∈p,x<N
theorem El.at {N:Nat}{p:Array Nat}(h:El N p)(h0:0<N)(i:Nat):at' p i<N:=by
 rw[at_of]
 cases e:p[i]? with
 | none=>exact h0
 | some v=>exact h v (Array.mem_of_getElem? e)
theorem El.perm {N:Nat}{p q:Array Nat}(h:El N p)(x:q.Perm p):El N q:=fun v m=>h v (x.mem_iff.mp m)
section
variable {lt:Nat->Nat->Bool}{N:Nat}(h0:0<N)
include h0
theorem asc_ok {p:Array Nat}(h:El N p) : ∀ f n,fM lt N (kas_asc p f n)
 | 0,_=>trivial
 | f+1,n=>by
  refine⟨⟨h.at h0 _,h.at h0 _⟩,?_⟩
  show fM lt N (if lt (at' p n) (at' p (n - 1))=true then KasT.ret n else kas_asc p f (n+1))
  by_cases c:lt (at' p n) (at' p (n - 1))=true
  ·rw[if_pos c]; trivial
  ·rw[if_neg c]; exact asc_ok h f (n+1)
theorem vV {p:Array Nat}{k:Nat}(h:El N p) : ∀ f l r,fM lt N (kas_place p k f l r)
 | 0,_,_=>trivial
 | f+1,l,r=>by
  unfold kas_place
  by_cases c:l ≥ r
  ·rw[if_pos c]; trivial
  ·rw[if_neg c]
   refine⟨⟨h.at h0 _,h.at h0 _⟩,?_⟩
   show fM lt N (if lt (at' p k) (at' p ((l+r) / 2))=true then kas_place p k f l ((l+r) / 2) else kas_place p k f ((l+r) / 2+1) r)
   by_cases d:lt (at' p k) (at' p ((l+r) / 2))=true
   ·rw[if_pos d]; exact vV h f _ _
   ·rw[if_neg d]; exact vV h f _ _
theorem bin_ok : ∀ (f:Nat) (p:Array Nat) (k:Nat),El N p->fM lt N (kas_bin f p k)
 | 0,_,_,_=>trivial
 | f+1,p,k,h=>oU (vV h0 h k 0 k) (bin_ok f _ _ (h.perm (bubble_perm _ _ _)))
theorem tJ : ∀ (f:Nat) (p:Array Nat) (n q:Nat),El N p->fM lt N (kas_desc f p n q)/\El N (evT lt (kas_desc f p n q)).1
 | 0,_,_,_,h=>⟨trivial,h⟩
 | f+1,p,n,q,h=>by
  have e:evT lt (kas_desc (f+1) p n q)=evT lt (if lt (at' p n) (at' p (n - 1))=true then(if q > 0 then kas_desc f (kas_rev p (n - (q+1)) n) (n+1) 0 else kas_desc f p (n+1) 0) else KasT.ask (p.getD (n - 1) 0) (p.getD n 0) fun d=>if d=true then .ret (p,n,q) else kas_desc f p (n+1) (q+1)):=rfl
  have g:fM lt N (kas_desc (f+1) p n q)↔(at' p n<N/\at' p (n - 1)<N)/\fM lt N (if lt (at' p n) (at' p (n - 1))=true then(if q > 0 then kas_desc f (kas_rev p (n - (q+1)) n) (n+1) 0 else kas_desc f p (n+1) 0) else KasT.ask (p.getD (n - 1) 0) (p.getD n 0) fun d=>if d=true then .ret (p,n,q) else kas_desc f p (n+1) (q+1)):=Iff.rfl
  rw[g,e]
  by_cases c:lt (at' p n) (at' p (n - 1))=true
  ·rw[if_pos c]
   by_cases hq:q > 0
   ·rw[if_pos hq]
    obtain⟨a,b⟩:=tJ f _ (n+1) 0 (h.perm (mV p (n - (q+1)) n))
    exact⟨⟨⟨h.at h0 _,h.at h0 _⟩,a⟩,b⟩
   ·rw[if_neg hq]
    obtain⟨a,b⟩:=tJ f _ (n+1) 0 h
    exact⟨⟨⟨h.at h0 _,h.at h0 _⟩,a⟩,b⟩
  ·rw[if_neg c]
   have e2:evT lt (KasT.ask (p.getD (n - 1) 0) (p.getD n 0) fun d=>if d=true then .ret (p,n,q) else kas_desc f p (n+1) (q+1))=evT lt (if lt (at' p (n - 1)) (at' p n)=true then .ret (p,n,q) else kas_desc f p (n+1) (q+1)):=rfl
   have g2:fM lt N (KasT.ask (p.getD (n - 1) 0) (p.getD n 0) fun d=>if d=true then .ret (p,n,q) else kas_desc f p (n+1) (q+1))↔(at' p (n - 1)<N/\at' p n<N)/\fM lt N (if lt (at' p (n - 1)) (at' p n)=true then .ret (p,n,q) else kas_desc f p (n+1) (q+1)):=Iff.rfl
   rw[g2,e2]
   by_cases d:lt (at' p (n - 1)) (at' p n)=true
   ·rw[if_pos d]
    exact⟨⟨⟨h.at h0 _,h.at h0 _⟩,⟨h.at h0 _,h.at h0 _⟩,trivial⟩,h⟩
   ·rw[if_neg d]
    obtain⟨a,b⟩:=tJ f _ (n+1) (q+1) h
    exact⟨⟨⟨h.at h0 _,h.at h0 _⟩,⟨h.at h0 _,h.at h0 _⟩,a⟩,b⟩
theorem tail_ok {p:Array Nat}(n m:Nat)(h:El N p):fM lt N (kas_tail3 n m p):=oU (asc_ok h0 (h.perm (mV _ _ _)) _ _) trivial
theorem part_ok {p:Array Nat}(n m:Nat)(h:El N p):fM lt N (kas_descPart n m p):=by
 obtain⟨a,b⟩:=tJ h0 (m - (n+1)) p (n+1) 0 h
 refine oU a ?_
 split
 ·exact tail_ok h0 _ _ (b.perm (mV _ _ _))
 ·exact tail_ok h0 _ _ b
theorem count_ok {p:Array Nat}(m:Nat)(h:El N p):fM lt N (kas_count m p):=by
 refine oU (asc_ok h0 h _ _) ?_
 generalize evT lt (kas_asc p (m - 1) 1)=n
 by_cases c:(n == m)=true
 ·rw[if_pos c]; trivial
 ·rw[if_neg c]
  by_cases d:n > 1
  ·rw[if_pos d]
   refine⟨⟨h.at h0 _,h.at h0 _⟩,?_⟩
   show fM lt N (if lt (at' p 0) (at' p (n - 1))=true then KasT.ret (n,p) else kas_descPart n m (kas_rev p 0 n))
   by_cases e:lt (at' p 0) (at' p (n - 1))=true
   ·rw[if_pos e]; trivial
   ·rw[if_neg e]; exact part_ok h0 _ _ (h.perm (mV _ _ _))
  ·rw[if_neg d]; exact part_ok h0 _ _ h
end
theorem sort_ok {lt:Nat->Nat->Bool}(O:Ord lt){n:Nat}(h1:1≤n):fM lt n (kas_sort n):=by
 have hs:(iI (dC n)).size=n:=by simp
 have h:El n (iI (dC n)):=fun x m=>by simpa using m
 refine oU (count_ok (by omega) n h) ?_
 obtain⟨a1,_⟩:=zN O h1 (by rw[hs]; exact bM _)
 generalize evT lt (kas_count n (iI (dC n)))=r at a1
 split
 ·exact bin_ok (by omega) _ _ _ (h.perm a1)
 ·trivial
theorem sort_wp {lt:Nat->Nat->Bool}(O:Ord lt){n:Nat}(h1:1≤n){cmp:Nat->Nat->(Bool->aG->Prop)->aG->Prop}{s:aG}(hc : ∀ i j (C:Bool->aG->Prop),i<n->j<n->C (lt i j) s->cmp i j C s){G:Array Nat->aG->Prop}
  (h : ∀ p:Array Nat,p.Perm (iI (dC n))->fQ lt p n->G p s):(kas_sort n).kasWp cmp G s:=
 ok_wp hc (sort_ok O h1) (h _ (sort_run O h1).1 (sort_run O h1).2)
section
variable {prog:bA}{w:aX}{A:bQ}{E:aE->aG->Prop}{s:aG}
abbrev FF (a:aB)(h h':aR):Prop:=∀ b o,b≠a->h.get? b=some o->h'.get? b=some o
noncomputable abbrev iF (h:aR)(a:aB)(vs:List aE):aR:=((h.update a (gE fun _=>#[])).push (jN "tuple" vs.toArray 0)).push (jN "list" #[] 0)
theorem mid_but {h:aR}{a:aB}{vs:List aE}:FF a h (iF h a vs):=fun b o hb e=>
 cF _ (cF _ (((EX h a (gE fun _=>(#[]:Array aE))).2 b hb).trans e))
theorem sort_by {a:aB}{vs:List aE}{n:Nat}{κ:SortKind}{lt:Nat->Nat->Bool}{P:PySem.Fin->aG->Prop}(O:Ord lt)(ho:s.heap.get? a=some (jN "list" vs.toArray n))(h2:2≤vs.length)(h64:vs.length<64)
  (hk : ∀ (Q:SortKind->aG->Prop),Q κ { s with heap:=iF s.heap a vs }->aO (aP prog w) A (keyKind' vs.toArray) Q E { s with heap:=iF s.heap a vs })
  (hc : ∀ i j (C:Bool->aG->Prop),i<vs.length->j<vs.length->C (lt i j) { s with heap:=iF s.heap a vs }->aO (aP prog w) A (keyLt' κ (vs.getD i eU) (vs.getD j eU)) C (fun _ _=>False) { s with heap:=iF s.heap a vs })
  (h : ∀ p:Array Nat,p.Perm (iI (dC vs.length))->fQ lt p vs.length->P (.done (.ret .none)) { s with heap:=sortedHeap s.heap a vs (iI (p.toList.map fun i=>vs.getD i eU)) }) :
  aO (aP prog w) A (Builtin.«list.sort» ⟨[.ref a],[]⟩) P E s:=by
 have lz:vs.length≤sizeLine:=by rw[mY]; omega
 have ha:a<s.heap.objs.size:=bK ho
 obtain⟨e1,ho1⟩ : ∃ e,(s.heap.update a (gE fun _=>(#[]:Array aE))).get? a=some (jN "list" #[] e):=⟨_,get?_update_seq ho fun _=>#[]⟩
 have hoM:(iF s.heap a vs).get? a=some (jN "list" #[] e1):=cF _ (cF _ ho1)
 rw[list_sort_plain]
 refine aL (listItems_at ho rfl (aL (listUpdate_at ho rfl (aL (seqEpoch_at ho1 rfl (aL (wpAny_newTuple (aL (yD (iG ?_) (eE _))) (by simpa using lz))))) (by rw[dP]; exact lz) (eE _))))
 show aO (aP prog w) A _ P E { s with heap:=iF s.heap a vs }
 dsimp only
 have big : ¬ vs.toArray.size<2:=by rw[dP]; omega
 rw[if_neg big,if_neg big]
 refine aL (hk _ ?_)
 have eS:SortSt.mk' κ (vs.toArray.zip vs.toArray) #[] 7 none=kas_st κ (pairsOf vs) (iI (dC vs.length)):=by
  have e:=kas_range (pairsOf vs)
  rw[pairsOf_size] at e
  unfold kas_st
  rw[e]
  rfl
 have run:=kas_runs (prog:=prog) (w:=w) (A:=A) (κ:=κ) (it:=pairsOf vs) (E:=E) (s:={ s with heap:=iF s.heap a vs }) (Q:=fun _ st' s'=>s' = { s with heap:=iF s.heap a vs } /\ ∃ p:Array Nat,p.Perm (iI (dC vs.length))/\fQ lt p vs.length/\arrOf st'=p.map (kas_item (pairsOf vs))/\failedOf st'=none)
  (G:=fun p s'=>s' = { s with heap:=iF s.heap a vs }/\p.Perm (iI (dC vs.length))/\fQ lt p vs.length) h2 h64 (fun p' st' s' a1 a2 a3 ⟨b1,b2,b3⟩=>⟨b1,p',b2,b3,a2,a3⟩)
  (sort_wp O (by omega) (fun i j C hi hj q=>by
   unfold kas_cmp
   rw[kas_item_eq,kas_item_eq]
   exact hc i j C hi hj q) fun p b1 b2=>⟨rfl,b1,b2⟩)
 rw[← eS] at run
 refine aL (gY run ?_ fun _ _ e=>e)
 rintro⟨⟨⟩,st'⟩ s' ⟨rfl,p,b1,b2,har,hf⟩
 dsimp only
 have hout:(arrOf st').map (·.2)=iI (p.toList.map fun i=>vs.getD i eU):=by
  apply vL.mp
  rw[har,Array.map_map,Array.toList_map]
  exact List.map_congr_left fun i _=>congrArg Prod.snd (kas_item_eq vs i)
 have hps:p.size=vs.length:=by
  have:=b1.size_eq
  simpa using this
 have hsz:(iI (p.toList.map fun i=>vs.getD i eU)).size≤sizeLine:=by
  rw[dP,cU,mG,hps]; exact lz
 rw[hout]
 refine aL (seqEpoch_at hoM rfl (aL (listUpdate_at hoM rfl ?_ (eE _) (Nat.le_succ_of_le hsz))))
 rw[hf]
 simp only[bne_self_eq_false,nG,if_false]
 exact bB (h p b1 b2)
end
noncomputable def fL:aA->List Int
 | .int i=>[0,i]
 | .str x=>1::x.cps.toList.map lG
 | _=>[2]
noncomputable def cM (ks:List aA):List (List Int):=ks.map fL
theorem AI (a b:List (List Int))(h:a<b) : ¬ b<a:=List.lt_asymm h
theorem zU (a b c:List (List Int))(h1 : ¬ b<a)(h2 : ¬ c<b) : ¬ c<a:=by
 have h1:=h1
 have h2:=h2
 exact zB h1 h2
theorem wG {d e:aA}(h1:(∃ i,d = .int i) \/ ∃ x,d = .str x)(h2:(∃ i,e = .int i) \/ ∃ x,e = .str x)(h:fL d=fL e):d=e:=by
 rcases h1 with⟨i,rfl⟩ | ⟨x,rfl⟩ <;> rcases h2 with⟨j,rfl⟩ | ⟨y,rfl⟩
 ·simp[fL] at h; rw[h]
 ·simp[fL] at h
 ·simp[fL] at h
 ·have h':x.cps.toList.map lG=y.cps.toList.map lG:=by simpa [fL] using h
  have:=(List.map_inj_right (fun a b q=>Int.ofNat.inj q)).mp h'
  have:x=y:=by
   cases x; cases y
   simp only at this
   rw[vL.mp this]
  rw[this]
noncomputable def ltOf (kss:List (List aA))(i j:Nat):Bool:=decide (cM (kss.getD i [])<cM (kss.getD j []))
theorem ord_of (kss:List (List aA)):Ord (ltOf kss):=by
 refine⟨fun a b h=>?_,fun a b c h1 h2=>?_⟩
 ·have:=AI _ _ (of_decide_eq_true h)
  exact decide_eq_false this
 ·exact decide_eq_false (zU _ _ _ (of_decide_eq_false h1) (of_decide_eq_false h2))
mutual
theorem Agn.rep {K:aI}{H:Hp} : ∀ (d:aA) {v:V},bD d=true->Agn H d v->Abb K H d v
 | .int i,v,_,h=>Aam.mpr (by simpa [Agn] using h)
 | .str i,v,k,h=>Aap.mpr ⟨by simpa [Agn] using h,by simpa [bD] using k⟩
 | .tuple ds,v,k,h=>by
  simp only[Agn] at h
  obtain⟨a,xs,e,s,r⟩:=h
  exact Aa1.mpr ⟨a,xs,e,s,Ad4.reps ds (by simpa [bD] using k) r⟩
 | .none,v,k,_=>by simp[bD] at k
 | .bool _,v,k,_=>by simp[bD] at k
 | .list _,v,k,_=>by simp[bD] at k
 | .dict _,v,k,_=>by simp[bD] at k
theorem Ad4.reps {K:aI}{H:Hp} : ∀ (ds:List aA) {vs:List V},cJ ds=true->Ad4 H ds vs->Aaq K H ds vs
 | [],vs,_,h=>Aal.mpr (by simpa [Ad4] using h)
 | d::ds,vs,k,h=>by
  have k':bD d=true/\cJ ds=true:=by simpa [cJ] using k
  simp only[Ad4] at h
  obtain⟨x,r,e,h1,h2⟩:=h
  exact Aad.mpr ⟨x,r,e,Agn.rep d k'.1 h1,Ad4.reps ds k'.2 h2⟩
end
theorem Ait.rep {K:aI}{H:Hp}{ks:List aA}{a:aB}(h:Ait H ks a):Abb K H (.tuple ks) (.ref a):=by
 obtain⟨k,_,xs,e,r⟩:=h
 exact Aa1.mpr ⟨a,xs,rfl,e,Ad4.reps ks k r⟩
noncomputable def asTs:List aA->Option (List (List aA))
 | []=>some []
 | .tuple ks::r=>if cJ ks=true/\eZ ks≤6 then(asTs r).bind fun kss=>some (ks::kss) else none
 | _::_=>none
theorem asTs_get : ∀ {ds:List aA} {kss:List (List aA)},asTs ds=some kss->ds=kss.map mZ /\ ∀ ks∈kss,cJ ks=true/\eZ ks≤6
 | [],kss,h=>by cases h; exact⟨rfl,fun _ m=>by simp at m⟩
 | .tuple ks::r,kss,h=>by
  by_cases c:cJ ks=true/\eZ ks≤6
  ·have h':((asTs r).bind fun kss=>some (ks::kss))=some kss:=by
    have:(if cJ ks=true/\eZ ks≤6 then(asTs r).bind fun kss=>some (ks::kss) else none)=some kss:=h
    rw[if_pos c] at this
    exact this
   obtain⟨k2,e1,e2⟩:=XBs h'
   cases e2
   obtain⟨q1,q2⟩:=asTs_get e1
   refine⟨by rw[q1]; rfl,fun x m=>?_⟩
   rcases cN.mp m with rfl | m
   ·exact c
   ·exact q2 x m
  ·have:(if cJ ks=true/\eZ ks≤6 then(asTs r).bind fun kss=>some (ks::kss) else none)=some kss:=h
   rw[if_neg c] at this
   cases this
 | .none::_,_,h=>by cases h
 | .bool _::_,_,h=>by cases h
 | .int _::_,_,h=>by cases h
 | .str _::_,_,h=>by cases h
 | .list _::_,_,h=>by cases h
 | .dict _::_,_,h=>by cases h
open PySem PySem.Spec PySem.W PyProof.Rows
noncomputable def gP:List aA->List aA->Bool
 | [],[]=>true
 | .int _::r,.int _::r'=>gP r r'
 | .str _::r,.str _::r'=>gP r r'
 | _,_=>false
theorem enc_int (i j:Int)(r r':List aA):(cM (.int i::r)<cM (.int j::r'))↔i<j \/ i=j/\cM r<cM r':=by
 show(fL (.int i)::cM r<fL (.int j)::cM r')↔_
 rw[sS]
 simp[fL,sS]
theorem map_lt (xs ys:List Nat):(xs.map lG<ys.map lG)↔xs<ys:=by
 induction xs generalizing ys with
 | nil=>cases ys <;> simp
 | cons x r ih=>
  cases ys with
  | nil=>simp
  | cons y r'=>
   rw[dR,dR,sS,sS,ih]
   have h1:(lG x<lG y)↔x<y:=Int.ofNat_lt
   have h2:(lG x=lG y)↔x=y:=⟨fun e=>Int.ofNat.inj e,fun e=>by rw[e]⟩
   rw[h1,h2]
theorem enc_str (x y:aD)(r r':List aA):(cM (.str x::r)<cM (.str y::r'))↔x.cps.toList<y.cps.toList \/ x=y/\cM r<cM r':=by
 show(fL (.str x)::cM r<fL (.str y)::cM r')↔_
 rw[sS]
 have h1:(fL (.str x)<fL (.str y))↔x.cps.toList<y.cps.toList:=by
  show((1:Int)::x.cps.toList.map lG<(1:Int)::y.cps.toList.map lG)↔_
  rw[sS,map_lt]
  simp
 have h2:(fL (.str x)=fL (.str y))↔x=y:=⟨fun e=>by
  have:=wG (.inr ⟨x,rfl⟩) (.inr ⟨y,rfl⟩) e
  injection this,fun e=>by rw[e]⟩
 rw[h1,h2]
section
variable {prog:bA}{w:aX}{A:bQ}{s:aG}{Q:Bool->aG->Prop}
theorem lex_ok {b:Bool} : ∀ (ks ks':List aA) {vs vs':List aE} {as as':List aB} (i:Nat),gP ks ks'=true->lZ s.heap vs ks as->lZ s.heap vs' ks' as'->Q (decide (cM ks<cM ks')) s->KatLex prog w A b false Q (vs.zip vs') i s
 | [],[],vs,vs',as,as',i,_,r,r',h=>by
  cases r; cases r'
  exact kat_nil h
 | .int x::ks,.int y::ks',vs,vs',as,as',i,hs,r,r',h=>by
  cases r with
  | cons r1 r2=>
   cases r' with
   | cons r1' r2'=>
    cases r1 with
    | int _ t=>
     cases r1' with
     | int _ u=>
      rw[EE]
      refine kat_cons ((cV prog w).eqBool (xP _ _ x t) (xP _ _ y u) ?_)
      refine kat_go (fun e=>kat_yes ?_) fun e=>kat_no ?_
      ·have e':x=y:=by simpa using e
       subst e'
       refine lex_ok ks ks' (i+1) (by simpa [gP] using hs) r2 r2' ?_
       have:decide (cM (.int x::ks)<cM (.int x::ks'))=decide (cM ks<cM ks'):=decide_eq_decide.mpr (by rw[enc_int]; simp)
       rw[← this]; exact h
      ·have e':x≠y:=by simpa using e
       have:decide (cM (.int x::ks)<cM (.int y::ks'))=decide (x<y):=decide_eq_decide.mpr (by rw[enc_int]; simp[e'])
       rw[this] at h
       cases(b&&i == 0) with
       | true=>exact oneLt_int h
       | false=>exact kat_one _ _ (lt_int h)
 | .str x::ks,.str y::ks',vs,vs',as,as',i,hs,r,r',h=>by
  cases r with
  | cons r1 r2=>
   cases r' with
   | cons r1' r2'=>
    cases r1 with
    | str _ t=>
     cases r1' with
     | str _ u=>
      rw[EE]
      refine kat_cons ((cV prog w).eqBool (xO _ _ x t) (xO _ _ y u) ?_)
      refine kat_go (fun e=>kat_yes ?_) fun e=>kat_no ?_
      ·have e':x=y:=by simpa using e
       subst e'
       refine lex_ok ks ks' (i+1) (by simpa [gP] using hs) r2 r2' ?_
       have:decide (cM (.str x::ks)<cM (.str x::ks'))=decide (cM ks<cM ks'):=decide_eq_decide.mpr (by rw[enc_str]; simp[List.lt_irrefl])
       rw[← this]; exact h
      ·have e':x≠y:=by simpa using e
       have:decide (cM (.str x::ks)<cM (.str y::ks'))=decide (x.cps.toList<y.cps.toList):=decide_eq_decide.mpr (by rw[enc_str]; simp[e'])
       rw[this] at h
       cases(b&&i == 0) with
       | true=>exact oneLt_str h
       | false=>exact kat_one _ _ (lt_str h)
end
noncomputable def kW:List aA->Option String
 | .int _::_=>some "int"
 | .str _::_=>some "str"
 | _=>none
theorem first_of {M:Model}{h:aR}{k:List aA}{b:aB}{T:String}(hd:Ah8 h k b)(hk:kW k=some T) :
  ∃ o xs n f,h.get? b=some o/\o.cls = .type "tuple" /\ o.data = .seq xs n/\xs[0]?=some f/\Looks M h (typeOf f) (.type T):=by
 obtain⟨_,_,as,r⟩:=hd
 obtain⟨a,o,xs,n,e,ho,hc,hd,hi⟩:=pC r
 cases e
 match k,hk,hi with
 | .int i::r,hk,hi=>
  cases hk
  generalize hx:xs.toList=l at hi
  cases hi with
  | cons h1 _=>
   cases h1 with
   | int _ t=>exact⟨o,xs,n,.int i t,ho,hc,hd,by rw[← Array.getElem?_toList,hx]; rfl,Looks.of_pure rfl⟩
 | .str x::r,hk,hi=>
  cases hk
  generalize hx:xs.toList=l at hi
  cases hi with
  | cons h1 _=>
   cases h1 with
   | str _ t=>exact⟨o,xs,n,.str x t,ho,hc,hd,by rw[← Array.getElem?_toList,hx]; rfl,Looks.of_pure rfl⟩
abbrev Agd (h:aR)(vs:List aE)(kss:List (List aA)):Prop:=cZ (fun v k=>∃ b,v=dB b/\Ah8 h k b) vs kss
theorem BE {M:Model}{h:aR}{T:String} : ∀ {vs:List aE} {kss:List (List aA)},Agd h vs kss->(∀ k∈kss,kW k=some T) -> ∃ fs,KatTups h vs fs/\fs.length=vs.length /\ ∀ f∈fs,Looks M h (typeOf f) (.type T)
 | _,_,.nil,_=>⟨[],KatTups.nil,rfl,fun _ m=>by simp at m⟩
 | _,_,.cons ⟨b,e,hd⟩ t,hk=>by
  obtain⟨fs,h1,h2,h3⟩:=BE (M:=M) t fun k m=>hk k (cI _ m)
  obtain⟨o,xs,n,f,q1,q2,q3,q4,q5⟩:=first_of (M:=M) hd (hk _ cA)
  subst e
  refine⟨f::fs,KatTups.cons q1 q2 q3 q4 h1,by rw[eN,eN,h2],fun g m=>?_⟩
  rcases cN.mp m with rfl | m
  ·exact q5
  ·exact h3 g m
theorem Agd.get {h:aR} : ∀ {vs:List aE} {kss:List (List aA)},Agd h vs kss -> ∀ i,i<vs.length -> ∃ b,vs.getD i eU = .ref b/\Ah8 h (kss.getD i []) b/\kss.getD i []∈kss
 | _,_,.nil,i,hi=>absurd hi (by simp)
 | _,_,.cons ⟨b,e,hd⟩ t,0,_=>⟨b,e,hd,cA⟩
 | _,_,.cons _ t,i+1,hi=>by
  obtain⟨b,q1,q2,q3⟩:=Agd.get t i (by simpa using hi)
  exact⟨b,by simpa using q1,by simpa using q2,by simpa using cI _ q3⟩
theorem Agd.keep {h h':aR}(k : ∀ b o,h.get? b=some o->h'.get? b=some o) : ∀ {vs:List aE} {kss:List (List aA)},Agd h vs kss->Agd h' vs kss
 | _,_,.nil=>.nil
 | _,_,.cons ⟨b,e,hd⟩ t=>.cons ⟨b,e,hd.keep fun b o _ _ q _ _=>k b o q⟩ (Agd.keep k t)
theorem wY : ∀ {k k':List aA},gP k k'=true->k.length=k'.length
 | [],[],_=>rfl
 | .int _::r,.int _::r',h=>by rw[eN,eN,wY (by simpa [gP] using h)]
 | .str _::r,.str _::r',h=>by rw[eN,eN,wY (by simpa [gP] using h)]
theorem wX {h:aR} : ∀ {vs:List aE} {ks:List aA} {as:List aB},lZ h vs ks as->vs.length=ks.length
 | _,_,_,.nil=>rfl
 | _,_,_,.cons _ t=>by rw[eN,eN,wX t]
section
variable {prog:bA}{w:aX}{A:bQ}{E:aE->aG->Prop}{s:aG}
theorem sort_few {a:aB}{vs:List aE}{n:Nat}{P:PySem.Fin->aG->Prop}(ho:s.heap.get? a=some (jN "list" vs.toArray n))(h2:vs.length<2)(h:P (.done (.ret .none)) { s with heap:=sortedHeap s.heap a vs vs.toArray }) :
  aO (aP prog w) A (Builtin.«list.sort» ⟨[.ref a],[]⟩) P E s:=by
 have lz:vs.length≤sizeLine:=by rw[mY]; omega
 obtain⟨e1,ho1⟩ : ∃ e,(s.heap.update a (gE fun _=>(#[]:Array aE))).get? a=some (jN "list" #[] e):=⟨_,get?_update_seq ho fun _=>#[]⟩
 have hoM:(iF s.heap a vs).get? a=some (jN "list" #[] e1):=cF _ (cF _ ho1)
 rw[list_sort_plain]
 refine aL (listItems_at ho rfl (aL (listUpdate_at ho rfl (aL (seqEpoch_at ho1 rfl (aL (wpAny_newTuple (aL (yD (iG ?_) (eE _))) (by simpa using lz))))) (by rw[dP]; exact lz) (eE _))))
 show aO (aP prog w) A _ P E { s with heap:=iF s.heap a vs }
 dsimp only
 have few:vs.toArray.size<2:=by rw[dP]; exact h2
 rw[if_pos few,if_pos few]
 refine aL (bB ?_)
 rw[StateT.run_pure]
 refine aL (bB ?_)
 dsimp only
 have hout:(arrOf (SortSt.mk' general' (vs.toArray.zip vs.toArray) #[] 7 none)).map (·.2)=vs.toArray:=by
  show(vs.toArray.zip vs.toArray).map (·.2)=vs.toArray
  apply vL.mp
  have : ∀ l:List aE,List.map (fun x=>x.snd) (l.zip l)=l:=fun l=>by
   induction l with
   | nil=>rfl
   | cons a l ih=>rw[EE,dR,ih]
  simpa using this vs
 rw[hout]
 refine aL (seqEpoch_at hoM rfl (aL (listUpdate_at hoM rfl ?_ (eE _) (Nat.le_succ_of_le (by rw[dP]; exact lz)))))
 simp only[bne_self_eq_false,nG,if_false]
 exact bB h
end
theorem enc_inj : ∀ {a b:List aA},gP a b=true->cM a=cM b->a=b
 | [],[],_,_=>rfl
 | .int i::r,.int j::r',h,e=>by
  have h':gP r r'=true:=by simpa [gP] using h
  have e':fL (.int i)=fL (.int j)/\cM r=cM r':=by simpa [cM] using e
  rw[wG (.inl ⟨i,rfl⟩) (.inl ⟨j,rfl⟩) e'.1,enc_inj h' e'.2]
 | .str x::r,.str y::r',h,e=>by
  have h':gP r r'=true:=by simpa [gP] using h
  have e':fL (.str x)=fL (.str y)/\cM r=cM r':=by simpa [cM] using e
  rw[wG (.inr ⟨x,rfl⟩) (.inr ⟨y,rfl⟩) e'.1,enc_inj h' e'.2]
noncomputable def leT (a b:List aA):Bool:=!decide (cM b<cM a)
theorem Ahp {a b:List aA}:leT a b=true ↔ ¬ cM b<cM a:=by simp[leT]
theorem leT_trans (a b c:List aA)(h1:leT a b=true)(h2:leT b c=true):leT a c=true:=Ahp.mpr (zU _ _ _ (Ahp.mp h1) (Ahp.mp h2))
theorem leT_total (a b:List aA):(leT a b||leT b a)=true:=by
 by_cases h:cM b<cM a
 ·have:=AI _ _ h
  simp[leT,h,this]
 ·simp[leT,h]
theorem leT_anti {a b:List aA}(hs:gP a b=true)(h1:leT a b=true)(h2:leT b a=true):a=b:=by
 have h1:=Ahp.mp h1
 have h2:=Ahp.mp h2
 exact enc_inj hs (List.le_antisymm h1 h2)
noncomputable def jW (kss:List (List aA)):List (List aA):=kss.mergeSort leT
noncomputable def sameAll (kss:List (List aA)):Bool:=kss.all fun k=>kss.all fun k'=>gP k k'
noncomputable def okT (kss:List (List aA)):Bool:=decide (kss.length<2)||(sameAll kss&&kss.all fun k=>(kW k).isSome)
theorem BP (kss:List (List aA)):(jW kss).Perm kss:=EL kss leT
theorem FN (kss:List (List aA)):(jW kss).Pairwise fun a b=>leT a b=true:=EH leT_trans leT_total kss
theorem AV {kss qs:List (List aA)}(hs:okT kss=true)(hp:qs.Perm kss)(hr:qs.Pairwise fun a b=>leT a b=true):qs=jW kss:=by
 have hp':=hp.trans (BP kss).symm
 by_cases h2:kss.length<2
 ·have l1:qs.length<2:=by rw[hp.length_eq]; exact h2
  match qs,l1,hp' with
  | [],_,hp'=>exact(List.nil_perm.mp hp').symm
  | [q],_,hp'=>exact List.singleton_perm.mp hp'
 ·have hs':sameAll kss=true:=by
   have:(sameAll kss&&kss.all fun k=>(kW k).isSome)=true:=by simpa [okT,h2] using hs
   exact(kT.mp this).1
  refine HP (fun a b ma mb h1 h2=>leT_anti ?_ h1 h2) hr (FN kss) hp'
  have ma':=hp.mem_iff.mp ma
  have mb':=(BP kss).mem_iff.mp mb
  exact gV.mp (gV.mp hs' a ma') b mb'
theorem same_kind : ∀ {k k':List aA},gP k k'=true->kW k=kW k'
 | [],[],_=>rfl
 | .int _::_,.int _::_,_=>rfl
 | .str _::_,.str _::_,_=>rfl
theorem kind_is {k:List aA}{T:String}(h:kW k=some T):T = "int" \/ T = "str":=by
 unfold kW at h
 split at h
 ·cases h; exact .inl rfl
 ·cases h; exact .inr rfl
 ·cases h
section
variable {X:Cx}
abbrev RefsT (H:Hp)(ys:List V)(kss:List (List aA)):Prop:=cZ (fun y k=>∃ b,y=V.ref b/\Ait H k b) ys kss
theorem refs_at {P:bA}{w:aX}{H:Hp}{h:aR}(ok:HOk P w H h) : ∀ {ys:List V} {kss:List (List aA)} {vs:List aE},RefsT H ys kss->Vals ys vs->Agd h vs kss
 | _,_,_,.nil,.nil=>.nil
 | _,_,_,.cons ⟨b,e,tk⟩ t,.cons r rr=>by
  subst e
  cases r
  exact .cons ⟨b,rfl,oP ok tk⟩ (refs_at ok t rr)
theorem intsA : ∀ {ns:List Int} {vs:List aE},Vals (ns.map V.int) vs->IntsAre vs ns
 | [],_,.nil=>.nil
 | n::ns,_,.cons ⟨t,e⟩ r=>by
  subst e
  exact .cons n t (intsA r)
noncomputable def asIs:List aA->Option (List Int)
 | []=>some []
 | .int i::r=>(asIs r).bind fun is=>some (i::is)
 | _::_=>none
theorem asIs_eq : ∀ {ds:List aA} {is:List Int},asIs ds=some is->ds=is.map bY
 | [],is,e=>by cases e; rfl
 | .int i::ds,is,e=>by
  obtain⟨is',e1,e2⟩:=XBs (show((asIs ds).bind fun is=>some (i::is))=some is from e)
  cases e2
  rw[asIs_eq e1]
  rfl
 | .none::_,_,e=>by cases e
 | .bool _::_,_,e=>by cases e
 | .str _::_,_,e=>by cases e
 | .list _::_,_,e=>by cases e
 | .tuple _::_,_,e=>by cases e
 | .dict _::_,_,e=>by cases e
theorem CI {K:aI}{H:Hp} : ∀ {is:List Int} {ys:List V},Aaq K H (is.map bY) ys->ys=is.map V.int
 | [],ys,r=>Aal.mp r
 | i::is,ys,r=>by
  obtain⟨v,t,rfl,r1,r2⟩:=Aad.mp r
  rw[Aam.mp r1,CI r2]
  rfl
end
theorem GW (a:Int)(t:Tok)(l:aB)(items:Array aE)(n:Nat)(dd:Option aB)(sl:Array (Option aE)) :
  Meets (Builtin.«int.__rmul__» ⟨[.int a t,.ref l],[]⟩) (fun _ R s=>s.heap.get? l=some { cls:=.type "list",dict:=dd,data:=.seq items n,slots:=sl }/\R (.ok (.ret Value.notImplemented)) s):=
 .of_wp fun prog w A R s h=>by obtain⟨hp,g,d,tk,os⟩:=s; obtain⟨hl,h⟩:=h; wp_walk; exact⟨_,rfl,h⟩
theorem list_times (l:aB)(items:Array aE)(n:Nat)(dd:Option aB)(sl:Array (Option aE))(x:Int)(u:Tok)(hc0 : ¬(!Builtin.List.listFitsIndex x)=true)(hc1 : ¬items.size*x.toNat > (2 ^ 63 - 1) / 8)(hc2 : ¬Builtin.List.listTooLong (items.size*x.toNat)=true) :
  Meets (Builtin.«list.__mul__» ⟨[.ref l,.int x u],[]⟩) (fun _ R s=>s.heap.get? l=some { cls:=.type "list",dict:=dd,data:=.seq items n,slots:=sl }/\R (.ok (.ret (dB s.heap.objs.size))) { s with heap:=s.heap.push { cls:=gM "list",data:=Data.seq (List.foldl (fun x1 x2=>x1++x2) #[] (dZ (if items.isEmpty=true then 0 else x.toNat) items)) } }):=
 .of_wp fun prog w A R s h=>by
  obtain⟨hp,g,d,tk,os⟩:=s; obtain⟨hl,h⟩:=h
  have hsz:=PySem.AutoListH.joined_fits hc2
  wp_walk using AutoSeq1.wpAny_loadPart' hl
  refine wpAny_ite_false (decide_eq_false (Nat.not_lt.mpr hsz)) ?_
  wp_walk using AutoSeq1.wpAny_loadPart' hl
  exact⟨_,rfl,h⟩
theorem flat_arr : ∀ (n:Nat) (acc its:Array aE),(List.foldl (· ++ ·) acc (dZ n its)).toList=acc.toList++(dZ n its.toList).flatten
 | 0,acc,its=>by simp
 | n+1,acc,its=>by
  rw[oE,sR,flat_arr n (acc++its) its,oE,jI,Array.toList_append,List.append_assoc]
theorem vals_rep {xs:List V}{us:List aE}(r:Vals xs us) : ∀ n:Nat,Vals (dZ n xs).flatten (dZ n us).flatten
 | 0=>.nil
 | n+1=>by
  rw[oE,oE,jI,jI]
  exact r.append (vals_rep r n)
theorem reps_rep {K:aI}{H:Hp}{ds:List aA}{xs:List V}(r:Aaq K H ds xs) : ∀ n:Nat,Aaq K H (dZ n ds).flatten (dZ n xs).flatten
 | 0=>Aal.mpr rfl
 | n+1=>by
  rw[oE,oE,jI,jI]
  exact r.append (reps_rep r n)
theorem wD {α:Type}(xs:List α)(n:Nat):(dZ n xs).flatten.length=n*xs.length:=by
 induction n with
 | zero=>simp
 | succ n ih=>rw[oE,jI,sO,ih]; rw[Nat.succ_mul]; omega
section
variable {X:Cx}{a b:aS}{fa fb:EF}{pos:bG}
noncomputable def rMulL (K:aI):R2:=fun x y H Q=>∃ a xs n,x = .ref a/\y = .int n/\SqL K H a xs /\ -1000≤n/\n<1000000/\xs.length*n.toNat≤1000000 /\ ∀ p,H p=none->Q (.ref p) (upd H p (.lst (dZ n.toNat xs).flatten))
theorem op_mulL:OpR X (jO .Mult) (rMulL X.K):=by
 intro pins s σ H x y v u Q I rx ry h
 obtain⟨a,xs,n,rfl,rfl,ha,hlo,hhi,hz,q⟩:=h
 cases rx
 obtain⟨t,rfl⟩:=ry
 obtain⟨its,r1,p1,_⟩:=I.list ha
 have hl:=r1.length
 obtain⟨⟨cls,dd,data,sl⟩,ho,hc,m,hd⟩:=p1.isList
 simp only at hc hd
 subst hc hd
 have sz:(dZ n.toNat its).flatten.length≤1000000:=by
  rw[wD,Nat.mul_comm,← hl]
  exact hz
 have hz':its.length*n.toNat≤1000000:=by rw[← hl]; exact hz
 have l2:1000000≤sizeLine:=by rw[mY]; omega
 have ea:(List.foldl (fun x1 x2=>x1++x2) #[] (dZ (if its.toArray.isEmpty=true then 0 else n.toNat) its.toArray))=(dZ n.toNat its).flatten.toArray:=by
  apply vL.mp
  rw[flat_arr]
  cases its with
  | nil=>
   have:(dZ n.toNat ([]:List aE)).flatten=[]:=by
    apply EV
    rw[wD]
    simp
   simp[this]
  | cons i r=>simp
 refine wpAny_binaryOp_repeat_ref (by decide) ⟨_,ho,rfl⟩ (fun s'=>typeIs_int s' n t) noFill_list_mul PySem.F.fills_int_mul PySem.F.slot_int_rmul repeat_list PySem.F.slot_int_index.lookup
   (call_meets PySem.F.slot_int_rmul (typeIs_int s n t) PySem.F.entry_int_rmul (PySem.F.args_int_rmul_2 _ _) (GW n t a its.toArray m dd sl) ⟨ho,rfl,⟨_,ho,rfl⟩,?_⟩)
 refine call_meets PySem.F.slot_list_mul ⟨_,ho,rfl⟩ PySem.F.entry_list_mul (PySem.F.args_list_mul_2 _ _) (list_times a its.toArray m dd sl n t (by simp[Builtin.List.listFitsIndex]; omega) (by rw[dP]; omega) (by rw[dP]; simp[Builtin.List.listTooLong]; omega)) ⟨ho,?_⟩
 rw[ea]
 exact⟨.ref _,_,I.lnew (vals_rep r1 _) (by rw[wD,Nat.mul_comm]; omega),rfl,q _ I.fresh⟩
noncomputable def gMulL:aA->aA->Option aA
 | .list xs,.int n=>if -1000≤n/\n<1000000/\xs.length*n.toNat≤1000000 then some (.list (dZ n.toNat xs).flatten) else none
 | _,_=>none
theorem df_mulL (ha:DE X a fa)(hb:DE X b fb):DF 1 X (.BinOp a .Mult b pos) (eOp gMulL fa fb):=df_op op_mulL (fun P H x y a b d Q hP ra rb e k=>by
 unfold gMulL at e
 split at e
 ·rename_i zs n
  obtain⟨hc,rfl⟩:=cP e
  obtain⟨p,us,rfl,hp,r1⟩:=Aa9.mp ra
  exact⟨p,us,n,rfl,Aam.mp rb,Aa3.sqL hp,hc.1,hc.2.1,by rw[r1.length]; exact hc.2.2,fun q hq=>k.lst hP hq (reps_rep r1 _)⟩
 ·cases e) ha hb
noncomputable def mP:List aA->Option aA
 | [.int i]=>if i.natAbs.log2<1920/\cQ (.str (toString i))=true then some (.str (toString i)) else none
 | _=>none
theorem calld_strI {K:aI}:CallD K 0 (fun xs H Q=>∃ i,xs=[.int i]/\i.natAbs.log2<1920/\Q (.str (toString i)) H) mP:=fun P H xs ds d Q hP r e k=>by
 unfold mP at e
 split at e
 ·obtain⟨hc,rfl⟩:=cP e
  obtain⟨v,rfl,r'⟩:=fF r
  exact⟨_,by rw[Aam.mp r'],hc.1,k.zero Ext.refl (Aap.mpr ⟨rfl,hc.2⟩)⟩
 ·cases e
end
noncomputable def CXR (base:aR)(P:bA)(w:aX):CXT:=fun outer H s E e s'=>∃ (ea:aB) (cls a0:aE) (H':Hp) (B:aR),e = .ref ea/\s'.os=s.os/\mH s'.gens/\Un (frs outer) [] H H' s.heap s'.heap/\HOk P w H' s'.heap /\
 base.StaysIn B/\(∀ b u,s.heap.get? b=some u->b∉frs outer -> ∃ u',B.get? b=some u')/\(∀ b o,H' b=some o -> ∃ u,B.get? b=some u)/\Heap.FlyingW B outer ea cls a0 s'.heap/\E cls none H'
noncomputable def EC (K:aI)(c:aD)(H:Hp):XK:=fun cls _ H'=>cY K c=some cls/\Ext H H'
theorem CXR.imp {base:aR}{P:bA}{w:aX}{outer:List dI}{H:Hp}{s s':aG}{E E':XK}{e:aE}(h:CXR base P w outer H s E e s')(k : ∀ cls H',E cls none H'->E' cls none H'):CXR base P w outer H s E' e s':=by
 obtain⟨ea,cls,a0,H',B,h1,h2,h3,h4,h5,h6,h7,h8,h9,q⟩:=h
 exact⟨ea,cls,a0,H',B,h1,h2,h3,h4,h5,h6,h7,h8,h9,k _ _ q⟩
structure XOk (X:Cx)(H:Hp)(c:aD):Prop where
 pass:Passes (CXR X.base X.prog X.w) X (EC X.K c H)
 made : ∀ {cls:aE} {pins:List (aB×aT)} {σ:St} {H1:Hp} {s1:aG} {h':aR} {e:aB} {args:List aE},cY X.K c=some cls->Inv X pins σ H1 s1->Ext H H1->Heap.MadeExcOf s1.heap h' e cls args->X.xe (.ref e) { s1 with heap:=h' }
theorem Ace.here {P:bA}{w:aX}{H:Hp}{h:aR}{a:aB}{o:HO}(x:Ace P w H h a o) : ∃ u,h.get? a=some u:=by
 cases o with
 | lst xs=>obtain⟨_,_,_,_,e⟩:=x; exact⟨_,e⟩
 | tup xs=>obtain⟨_,_,_,_,ob,e,_⟩:=x; exact⟨ob,e⟩
 | dK ep kvs=>obtain⟨_,_,_,_,o,_,e,_⟩:=x; exact⟨_,e⟩
 | dT ep kvs=>obtain⟨_,_,_,_,o,_,e,_⟩:=x; exact⟨_,e⟩
 | set S n=>obtain⟨o,_,_,_,e,_⟩:=x; exact⟨_,e⟩
 | ins C dx fs=>obtain⟨_,_,_,e,_⟩:=x; exact⟨_,e⟩
 | own y=>exact x
 | xd fs=>obtain⟨_,⟨_,_,_,e,_⟩,_⟩:=x; exact⟨_,e⟩
 | rng lo hi=>obtain⟨_,_,_,e⟩:=x; exact⟨_,e⟩
 | frz ob u=>obtain⟨e,_⟩:=x; exact⟨_,e⟩
 | tbl ps=>exact⟨_,show h.get? a=some _ from x⟩
 | met f y=>exact⟨_,show h.get? a=some _ from x⟩
 | ext φ=>obtain⟨_,e,_⟩:=x; exact e
theorem tV {B h:aR}{b:aB}{u u':aT}(k:B.StaysIn h)(e:B.get? b=some u')(q:h.get? b=some u):u'=u:=fA ((k b u' e).symm.trans q)
section
variable {P:bA}{w:aX}{K:aI}{mg:aD->Option aE}{base:aR}{N:List aD}{qual:aD}{scope:gD}{f:aB}{cd:aE}{A:bQ}{outer:List dI}{s:aG}{H:Hp}{E:XK}
theorem cxr_mk {pins:List (aB×aT)}{σ:St}{H':Hp}{s':aG}{h'' B:aR}{ea:aB}{cls a0:aE}
  (I:Inv (cxOf (CXR base P w) P w K mg base N qual scope f cd A outer s H E) pins σ H' s') (hin : ∀ b u,s.heap.get? b=some u->b∉frs outer -> ∃ u',B.get? b=some u') (hT : ∀ b o,H' b=some o -> ∃ u,B.get? b=some u)
  (f1:B.StaysIn s'.heap) (f2:Heap.FlyingW B outer ea cls a0 h'') (up:s'.heap.UpToSlots h'') (hb:base.StaysIn B) (q:E cls none H'):CXR base P w outer H s E (.ref ea) { s' with heap:=h'' }:=by
 have f3:=f2.1
 have U:Un (frs outer) [] H H' s.heap s'.heap:=I.base
 have fr : ∀ b∈frs outer,∃ o,s'.heap.get? b=some o /\ ∀ vs,o.data ≠ .fields vs:=fun b m=>(I.funs.mem m).2
 refine⟨ea,cls,a0,H',B,rfl,I.os,I.bare,⟨fun b o e n hb he=>?_,fun b o e n hb he=>?_,U.free,fun b o e he=>?_,U.tups,U.frzs,U.tbls⟩,fun a o e=>?_,hb,hin,hT,f2,q⟩
 ·have z:=U.keep b o e n hb he
  obtain⟨u',z2⟩:=hin b o e hb
  exact f3 b o (tV f1 z2 z ▸ z2)
 ·obtain⟨sl,z⟩:=U.slot b o e n hb he
  obtain⟨o2,z2,nf⟩:=fr b hb
  obtain⟨sl2,z3⟩:=up b o2 z2 nf
  have:o2 = { o with slots:=sl }:=fA (z2.symm.trans z)
  exact⟨sl2,by rw[z3,this]⟩
 ·by_cases hb:b∈frs outer
  ·obtain⟨o2,z2,nf⟩:=fr b hb
   obtain⟨sl2,z3⟩:=up b o2 z2 nf
   exact⟨_,z3⟩
  ·obtain⟨u',z2⟩:=hin b o e hb
   exact⟨u',f3 b u' z2⟩
 ·refine(I.hok a o e).stay (fun b u hb q=>?_) (fun _ q=>q) fun _ _ q=>q
  have ht : ∃ o2,H' b=some o2:=by
   rcases hb with rfl | hb
   ·exact⟨o,e⟩
   ·exact⟨_,hb⟩
  obtain⟨o2,ht⟩:=ht
  obtain⟨u',z2⟩:=hT b o2 ht
  exact f3 b u (tV f1 z2 q ▸ z2)
theorem CJ {X:Cx}{pins:List (aB×aT)}{σ:St}{H1:Hp}{s1:aG}(I:Inv X pins σ H1 s1){b:aB}{u:aT}(e:X.s₀.heap.get? b=some u)(n:b∉X.fs):b∉frs X.stack:=fun m=>by
 rcases cN.mp (I.stkSub b m) with z | z
 ·exact absurd (gN (bK e) I.ok.above) (by rw[z]; exact jE _)
 ·exact n z
theorem pass_def:Passes (CXR base P w) (cxOf (CXR base P w) P w K mg base N qual scope f cd A outer s H E) E:=fun pins σ H1 s1 e s' I h=>by
 obtain⟨ea,cls,a0,H',B,rfl,os,bare,un,hok,hb,hB,hT,fl,q⟩:=h
 have I':=I.call' (ch:=[]) os un hok bare (fun _ z=>nomatch z)
 refine wpAny_leaves_onW (base:=B) (env:=gL qual scope s.heap.objs.size f cd) (outer:=outer) (L:=s.heap.objs.size) I.ok.frames rfl fl fun h'' fl'' up=>?_
 refine cxr_mk I' (fun b u e n=>?_) hT fl.1 fl'' up hb q
 obtain⟨o',z⟩:=I.base.there b u e (by show b∉[]; simp)
 exact hB b o' z (CJ I e n)
theorem made_def {cls:aE}{pins:List (aB×aT)}{σ:St}{H1:Hp}{s1:aG}{h':aR}{e:aB}{args:List aE}(I:Inv (cxOf (CXR base P w) P w K mg base N qual scope f cd A outer s H E) pins σ H1 s1)(m:Heap.MadeExcOf s1.heap h' e cls args)(q:E cls none H1) :
  (cxOf (CXR base P w) P w K mg base N qual scope f cd A outer s H E).xe (.ref e) { s1 with heap:=h' }:=by
 have I':=I.kept (t':=s1.toks) m.keeps
 have hin : ∀ env∈(gL qual scope s.heap.objs.size f cd::outer),∀ b,env.frame=some b->b∈frs (gL qual scope s.heap.objs.size f cd::outer):=fun env he b hb=>EM.mpr ⟨env,he,hb⟩
 have hl:s1.heap.FunFrames base (gL qual scope s.heap.objs.size f cd::outer):=I.stack
 refine wpAny_leaves_madeW (base:=PySem.W.hideAll s1.heap (frs (gL qual scope s.heap.objs.size f cd::outer))) (h:=s1.heap) (env:=gL qual scope s.heap.objs.size f cd) (outer:=outer) (L:=s.heap.objs.size) I.ok.frames rfl (fun b o q=>DK _ q) (PySem.W.funFrames_hide hl hin) m fun h'' t fl tup hnt up=>?_
 refine cxr_mk I' (fun b u e n=>?_) (fun b o e=>?_) (fun b o e=>m.keeps b o (DK _ e)) fl up (fun b o e=>?_) q
 ·obtain⟨o',z⟩:=I.base.there b u e (by show b∉[]; simp)
  exact⟨o',yM _ z (CJ I e n)⟩
 ·have hn:b∉frs (gL qual scope s.heap.objs.size f cd::outer):=fun z=>by
   have:=I.stkFree b z
   rw[e] at this
   cases this
  obtain⟨u,hg⟩:=(I.hok b o e).here
  exact⟨u,yM _ hg hn⟩
 ·refine yM _ (I.bk b o e) fun z=>?_
  have:=(hl.mem z).1
  rw[e] at this
  cases this
theorem xok_def {c:aD}(q : ∀ cls H',cY K c=some cls->Ext H H'->E cls none H'):XOk (cxOf (CXR base P w) P w K mg base N qual scope f cd A outer s H E) H c:=
 ⟨fun pins σ H1 s1 e s' I h=>pass_def pins σ H1 s1 e s' I (h.imp fun cls H' z=>q cls H' z.1 z.2),fun hc I x m=>made_def I m (q _ _ hc x)⟩
end
abbrev FX:=Option aD->List aA->Option aA
noncomputable def spX (K:aI)(n0:Nat)(F:FX):Sp:=fun vs H Q E=>∃ P ds d z,Hid P H/\Aaq K (hid H P) ds vs/\F z ds=some d/\Res K P n0 d H Q /\ ∀ c,z=some c -> ∀ cls H',cY K c=some cls->Ext H H'->E cls none H'
noncomputable def rsD (c:aD):aA:=.dict [(.none,.str c),(.none,.bool true)]
noncomputable def isR:aA->Bool
 | .dict [(.none,.str _),(.none,.bool true)]=>true
 | _=>false
section
variable {P:bA}{w:aX}{K:aI}{mg:aD->Option aE}{base:aR}
theorem Fun.okX {CX:CXT}{x qual:aD}{st:bL}{f:aB}{fd:eY}{N ps:List aD}{k:Nat}{sp:Sp}(F:Fun K x qual st f fd)(S:FnScope N ps (bU st))(len : ∀ vs H Q E,sp vs H Q E->vs.length=ps.length)
  (hb : ∀ (cdv:aE) (A:bQ) (outer:List dI) (s:aG) (H:Hp) (vs:List V) (Q:VK) (E:XK),Room k (A.deeper (gL qual (bU st) s.heap.objs.size f cdv))->sp vs H Q E ->
   ∃ t,PSs (cxOf CX P w K mg base N qual (bU st) f cdv A outer s H E) (iB st) t/\t { nx:=fun _ H'=>Q .non H',rt:=Q } (start N vs) H):FnOk P w K mg base CX (k+1) f fd ps sp:=by
 obtain⟨oc,od,kV,doc,pm,an,cdv,ct,osl,rfl,lk,hcd⟩:=F.ex
 exact fn_of lk hcd S len fun A outer s H vs Q E hr hsp=>hb cdv A outer s H vs Q E hr hsp
theorem fn_core {N:List aD}{np n0:Nat}{body:SF}{H:Hp}{P0:aB->Prop}{vs:List V}{ds:List aA}{d:aA}{Q:VK}(hP:Hid P0 H)(r:Aaq K (hid H P0) ds vs)(ef:fnD np N.length body ds=some d)(k:Res K P0 n0 d H Q) :
  tS K H P0 n0 body { nx:=fun _ H'=>Q .non H',rt:=Q } (start N vs) H:=by
 unfold fnD at ef
 by_cases hl:ds.length=np
 case neg=>rw[if_neg hl] at ef; cases ef
 rw[if_pos hl] at ef
 rw[← hl] at ef
 have hlen:=r.length
 have eH:Hd P0 (fun _=>[])=P0:=by
  funext a
  simp[Hd]
 have S0:Sta K H P0 (hid H P0) (ds.map (fun d=>some (0,d))++dZ (N.length - ds.length) none) (start N vs) H (fun _=>[]):=by
  refine⟨by simp[start,hlen],fun _=>.nil,fun i j a h=>by simp at h,fun i a h=>by simp at h,Ext.refl,hP,by rw[eH]; exact Ext.refl,fun i n' d' e=>?_⟩
  rw[eH]
  by_cases hi:i<ds.length
  ·rw[vC (by simpa using hi),eX] at e
   cases q:ds[i]? with
   | none=>rw[q] at e; simp at e
   | some d2=>
    rw[q] at e
    have e':0=n'/\d2=d':=by simpa using e
    obtain⟨rfl,rfl⟩:=e'
    obtain⟨v,h1,h2⟩:=r.get q
    refine⟨v,?_,rfl,h2⟩
    unfold start
    rw[vC (by rw[cU,hlen]; exact hi),eX,h1]
    rfl
  ·rw[ER (by simpa using hi)] at e
   have:=nD e
   simp at this
 cases eb:body (ds.map (fun d=>some (0,d))++dZ (N.length - ds.length) none) with
 | none=>rw[eb] at ef; cases ef
 | some o=>
  rw[eb] at ef
  refine⟨_,_,_,o,S0,eb,?_⟩
  cases o with
  | rt d'=>
   cases ef
   exact fun v H' ⟨Fr,h1,h2,h3,h4⟩=>k v H' Fr h1 h2 h3 h4
  | nx ρ'=>
   cases ef
   intro σ' H' fp' S'
   refine k .non H' [] S'.ext .nil (fun a m=>by simp at m) ?_
   cases n0 with
   | zero=>exact⟨rfl,Abz.mpr rfl⟩
   | succ n=>
    unfold Afg
    split
    ·exact .inl ⟨rfl,rfl,rfl⟩
    ·exact⟨rfl,Abz.mpr rfl⟩
  | bk _=>cases ef
  | ct _=>cases ef
theorem oM {x qual:aD}{st:bL}{f:aB}{fd:eY}{N ps:List aD}{k n0 np:Nat}{body:Option aD->SF}(F:Fun K x qual st f fd)(S:FnScope N ps (bU st))(hnp:np=ps.length)(hN:ps.length≤N.length)
  (hb : ∀ (cdv:aE) (A:bQ) (outer:List dI) (s:aG) (H:Hp) (E:XK) (P0:aB->Prop) (z:Option aD),Room k (A.deeper (gL qual (bU st) s.heap.objs.size f cdv))->(∀ c,z=some c->XOk (cxOf (CXR base P w) P w K mg base N qual (bU st) f cdv A outer s H E) H c) ->
   DSs (cxOf (CXR base P w) P w K mg base N qual (bU st) f cdv A outer s H E) H P0 n0 (iB st) (body z)) :
  FnOk P w K mg base (CXR base P w) (k+1) f fd ps (spX K n0 fun z=>fnD np N.length (body z)):=by
 refine F.okX S (fun vs H Q E h=>?_) (fun cdv A outer s H vs Q E hr h=>?_)
 ·obtain⟨P,ds,d,z,_,r,ef,_⟩:=h
  have ef:fnD np N.length (body z) ds=some d:=ef
  unfold fnD at ef
  by_cases hl:ds.length=np
  ·rw[r.length,hl,hnp]
  ·rw[if_neg hl] at ef; cases ef
 ·obtain⟨P0,ds,d,z,hP,r,ef,k,kx⟩:=h
  exact⟨_,hb cdv A outer s H E P0 z hr fun c hc=>xok_def (kx c hc),fn_core hP r ef k⟩
variable {X:Cx}{x:aD}{k n0 np:Nat}{ps:List aD}{F:FX}{e:aS}{es:List aS}{fa:AF}{p pos:bG}
end
theorem isR_eq {d:aA}(h:isR d=true) : ∃ c,d=rsD c:=by
 unfold isR at h
 split at h
 ·exact⟨_,rfl⟩
 ·cases h
theorem kD_none {k:aM}(e:PyData.none=kD k):False:=by cases k <;> cases e
theorem rs_not {K:aI}{B H:Hp}{n:Nat}{c:aD}{v:V}{F:List aB} : ¬ Afg K B H n (rsD c) v F:=fun h=>by
 have hD : ¬ Abb K B (rsD c) v:=fun r=>by
  obtain⟨a,e,⟨kvs,_,r⟩ | ⟨ts,_,r⟩ | ⟨xs,h,r⟩ | r⟩:=Abn.mp r
  ·obtain⟨k',_,_,_,ek,_⟩:=Aav.mp r
   cases k' <;> cases ek
  ·obtain⟨_,_,_,_,⟨z,_⟩,_⟩:=Abp.mp (Ack.mp r).2
   cases z
  ·obtain⟨es,z,_⟩:=pD r
   cases z
  ·rcases r with(⟨_,_,z,_⟩ | ⟨_,z,_⟩) | r
   ·cases z
   ·cases z
   ·obtain⟨_,c',C,dx,fs,z,hc,ha,r⟩:=Agl.mp r
    obtain⟨f1,x1,r1,_,_,q1,_⟩:=Ac0.mp r
    simp[Aj1] at q1
 unfold Afg at h
 split at h
 ·rcases h with⟨z,_⟩ | ⟨kds,p,ts,z,_⟩ | ⟨⟨c',C,dx,a,w,q,kds,hds,kvs,hvs,ps,z,_⟩⟩ <;> cases z
 ·cases n with
  | zero=>exact hD h.2
  | succ n=>
   obtain⟨p,xs,Fs,e,hp,_,q⟩:=h
   obtain⟨_,xs⟩:=xs
   replace q:All3 _ _ xs Fs:=q
   cases q with
   | cons h _=>
    exact kD_none h.1
section
variable {X:Cx}{H0:Hp}{P0:aB->Prop}{x:aD}{k n0 n np:Nat}{ps:List aD}{F:FX}{e:aS}{es:List aS}{fa:AF}{p pos:bG}{z:Option aD}
noncomputable def qE (n:Nat)(m:Md)(f:EF):SF:=fun ρ=>(eV n m f ρ).bind fun d=>if isR d=true then some (.rt d) else some (.nx ρ)
theorem ds_exprX {f:EF}(n:Nat)(m:Md)(he:PE X e (tE X.K H0 P0 n m f))(hs:iW e none pos.line X.env=pure false:=by rfl):DS X H0 P0 n0 (.Expr e pos) (qE n m f):=PS.imp (oT he hs) fun D σ H gh=>by
 obtain⟨B0,ρ,fp,o,S,ef,k⟩:=gh
 obtain⟨d,e1,ef⟩:=XBs ef
 refine⟨B0,ρ,fp,d,S,e1,fun v H' t=>?_⟩
 by_cases h:isR d=true
 ·obtain⟨c,rfl⟩:=isR_eq h
  obtain⟨fp',_,r⟩:=t
  exact(rs_not r).elim
 ·rw[if_neg h] at ef
  cases ef
  obtain⟨fp',S',_⟩:=t
  exact k _ _ fp' S'
end
def VCls (K:aI)(c:aD):Prop:=∃ C,cH K bR c=some (some (.ref C))/\yO K C [.type "ValueError",.type "Exception",.type "BaseException",.type "object"] "ValueError.__new__" = true
theorem exc_obj {K:aI}{h:aR}{C:aB}{bmB:List aE}{newId:String}(X:K.In h)(q:yO K C bmB newId=true) :
  ∃ bm N nm q bs hdct sn sub ab col dd k0 k1 k2 k3 k5 mN,h.get? C=some (excClassObj nm q C N bs bm hdct sn sub ab col dd k0 k1 k2 k3 k5 newId)/\h.Ns N mN/\mN "__init__" = none/\OwnTail h bmB bm:=by
 unfold yO at q
 split at q
 ·rename_i dd cd sl ho
  split at q
  ·rename_i C' bm k0 k1 k2 k3 n k5 hm hs
   simp only[zG,beq_iff_eq,Bool.not_eq_true'] at q
   obtain⟨⟨⟨⟨⟨rfl,rfl⟩,hdel⟩,ht⟩,hok⟩,hni⟩:=q
   obtain⟨nm,bs,mro,ns,qn,hd,sn,sub,ab,col,del⟩:=cd
   dsimp only at hm hdel hok hni
   subst hm hdel
   have hsl:sl = #[k0,k1,k2,k3,some (.builtin n),k5]:=by
    obtain⟨l⟩:=sl
    simp only at hs
    rw[hs]
   subst hsl
   exact⟨bm,ns,nm,qn,bs,hd,sn,sub,ab,col,dd,k0,k1,k2,k3,k5,_,X _ _ ho,.of_isNs (PySem.W.isNs_of_in X hok),PySem.W.nsMap_none_of_in X hok hni,PySem.W.tail_of_in X ht⟩
  ·cases q
 ·cases q
noncomputable def sRaise (z:Option aD)(c:aD):SF:=fun _=>if z=some c then some (.rt (rsD c)) else none
section
variable {X:Cx}{H0:Hp}{P0:aB->Prop}{n0:Nat}{z:Option aD}{c t:aD}{np tp cpos pos:bG}{j:Nat}
theorem ds_raise (hz : ∀ c,z=some c->XOk X H0 c)(V:VCls X.K c)(hc:X.calm=true)(hg:Gl X c)(hd:(c == ("__debug__" : aD))=false:=by decide):DS X H0 P0 n0 (.Raise (some (.Call (.Name c np) [.Constant (.str t) j tp] [] cpos)) none pos) (sRaise z c):=by
 intro pins s σ H D I ⟨B0,ρ,fp,o,S,ef,k⟩
 obtain⟨he,_⟩:=cP ef
 obtain⟨C,hC,hx⟩:=V
 have hm:=gT I.mod.kin I.mod.glob hC
 have hcv:cY X.K c=some (.ref C):=by unfold cY; rw[hC]; rfl
 obtain⟨tl,N,nm,q,bs,hdct,sn,sub,ab,col,dd,k0,k1,k2,k3,k5,mN,oC,oN,hni,T⟩:=exc_obj I.mod.kin hx
 refine wpAny_Raise_call_subT (C:=C) (nm:=nm) (q:=q) (N:=N) (bs:=bs) (bm:=tl) (hdct:=hdct) (sn:=sn) (sub:=sub) (ab:=ab) (col:=col) (dd:=dd) (k0:=k0) (k1:=k1) (k2:=k2) (k3:=k3) (k5:=k5)
  HI (mN:=mN) (T.hasType HI.hasBase) (I.ok.hd hc) rfl hni (oW I hg hm ⟨rfl,?_⟩ hd)
 refine Calls.evalArgs_plain ?_
 refine thn ((iR pe_str kX) cpos pins s σ H (fun vs H1=>vs.length=1/\H1=H) I ⟨rfl,rfl⟩) fun vs s2 gh=>?_
 obtain⟨vv,H1,I1,r,hl,e1⟩:=gh
 subst e1
 have hl2:vs.length=1:=by rw[← r.length]; exact hl
 exact⟨rfl,by show vs.length≤sizeLine; rw[hl2]; decide,I1.bk _ _ oC,oN.keeps I1.bk,T.keeps I1.bk,fun h' e m=>(hz c he).made hcv I1 S.ext m⟩
end
theorem un_fly {l:List dI}{H H':Hp}{h h1 h2 B:aR}(un:Un (frs l) [] H H' h h1)(hB : ∀ b u,h.get? b=some u->b∉frs l -> ∃ u',B.get? b=some u')(f1:B.StaysIn h1)(f2:B.StaysIn h2)(up:h1.UpToSlots h2)
  (fr : ∀ b∈frs l,∃ o,h1.get? b=some o /\ ∀ vs,o.data ≠ .fields vs):Un (frs l) [] H H' h h2:=by
 refine⟨fun b o e n hb he=>?_,fun b o e n hb he=>?_,un.free,fun b o e he=>?_,un.tups,un.frzs,un.tbls⟩
 ·obtain⟨u',z2⟩:=hB b o e hb
  exact f2 b o (tV f1 z2 (un.keep b o e n hb he) ▸ z2)
 ·obtain⟨sl,z⟩:=un.slot b o e n hb he
  obtain⟨o2,z2,nf⟩:=fr b hb
  obtain⟨sl2,z3⟩:=up b o2 z2 nf
  have:o2 = { o with slots:=sl }:=fA (z2.symm.trans z)
  exact⟨sl2,by rw[z3,this]⟩
 ·by_cases hb:b∈frs l
  ·obtain⟨o2,z2,nf⟩:=fr b hb
   obtain⟨sl2,z3⟩:=up b o2 z2 nf
   exact⟨_,z3⟩
  ·obtain⟨u',z2⟩:=hB b o e hb
   exact⟨u',f2 b u' z2⟩
theorem hok_fly {P:bA}{w:aX}{H':Hp}{h1 h2 B:aR}(hok:HOk P w H' h1)(hT : ∀ b o,H' b=some o -> ∃ u,B.get? b=some u)(f1:B.StaysIn h1)(f2:B.StaysIn h2):HOk P w H' h2:=fun a o e=>by
 refine(hok a o e).stay (fun b u hb q=>?_) (fun _ q=>q) fun _ _ q=>q
 have ht : ∃ o2,H' b=some o2:=by
  rcases hb with rfl | hb
  ·exact⟨o,e⟩
  ·exact⟨_,hb⟩
 obtain⟨o2,ht⟩:=ht
 obtain⟨u',z2⟩:=hT b o2 ht
 exact f2 b u (tV f1 z2 q ▸ z2)
noncomputable abbrev Cx.held (X:Cx)(e:aB):Cx:={ X with A:=X.A.mark (some (.ref e)),calm:=false,xe:=fun _ _=>False }
noncomputable abbrev Cx.tries (X:Cx)(pins:List (aB×aT))(E:aE->aG->Prop):Cx:={ X with xe:=E,pn:=X.pn++pins }
section
variable {X:Cx}{pins pins':List (aB×aT)}{σ:St}{H H1:Hp}{s s1:aG}{e:aB}{E:aE->aG->Prop}
theorem Inv.held (I:Inv X pins σ H s)(e:aB):Inv (X.held e) pins σ H s:=⟨⟨I.ok.mod,I.ok.kind,I.ok.glob,I.ok.blt,I.ok.above,I.ok.inj,I.ok.has,I.ok.cab,fun h=>Bool.noConfusion h,I.ok.frames,I.ok.stk,I.ok.exf,I.ok.bs,I.ok.bsz,I.ok.noex,I.ok.exfs,I.ok.funs,I.ok.frf⟩,I.os,I.bare,I.base,I.loc,I.cell,I.free,I.freeC,I.pin,I.hok,I.len⟩
theorem Inv.unheld (ok:X.Ok)(I:Inv (X.held e) pins σ H s):Inv X pins σ H s:=⟨ok,I.os,I.bare,I.base,I.loc,I.cell,I.free,I.freeC,I.pin,I.hok,I.len⟩
theorem Cx.Ok.tries (ok:X.Ok):(X.tries pins E).Ok:=⟨ok.mod,ok.kind,ok.glob,ok.blt,ok.above,ok.inj,ok.has,ok.cab,ok.hd,ok.frames,ok.stk,ok.exf,ok.bs,ok.bsz,ok.noex,ok.exfs,ok.funs,ok.frf⟩
theorem Inv.tries (I:Inv X pins σ H s):Inv (X.tries pins E) [] σ H s:=⟨I.ok.tries,I.os,I.bare,I.base,I.loc,I.cell,I.free,I.freeC,fun p hp=>I.pin p (by simpa using hp),I.hok,I.len⟩
theorem Inv.untries (ok:X.Ok)(I:Inv (X.tries pins E) pins' σ H s):Inv X pins σ H s:=⟨ok,I.os,I.bare,I.base,I.loc,I.cell,I.free,I.freeC,fun p hp=>I.pin p (EN _ hp),I.hok,I.len⟩
def hndR (X:Cx)(nm:Option aD)(pos:bG)(Q:Flow->aG->Prop)(E:aE->aG->Prop):lY->aG->Prop:=fun r s₂=>match r with
 | .ok f=>(match nm with
  | none=>Q f s₂
  | some n=>aO (aP X.prog X.w) X.A (do bindName X.env n .none; CZ X.env n pos) (fun _ s₃=>Q f s₃) E s₂)
 | .error x=>cameBackBy (aP X.prog X.w) X.A X.env E x s₂
theorem caught {C:XK}{T:aD}{CT:aE}{v:aE}{s':aG}{np pos:bG}{b₀:bL}{suite:List bL}{rest:List ExceptHandler}{nm:Option aD}{Q:Flow->aG->Prop}
  (I:Inv X pins σ H1 s1) (hst:X.stack=X.env::X.outer) (hfr:X.env.frame=some X.env.locals) (h:CXR X.base X.prog X.w X.stack H1 s1 C v s') (hg:Gl X T) (hm:X.mg T=some CT) (hd:(T == ("__debug__" : aD))=false)
  (hex : ∀ cls H',C cls none H'->sF X.K cls CT=some true)
  (k : ∀ ea cls H' h5,C cls none H'->H' ea=none->s1.heap.get? ea=none ->
   (∀ {A':bQ} {Q':Unit->aG->Prop} {E':aE->aG->Prop},(∀ h6,Inv (X.held ea) pins σ H' { s' with heap:=h6 }->ExAt ea cls h6->Q' () { s' with heap:=h6 })->aO (aP X.prog X.w) A' (uR (.ref ea) none) Q' E' { s' with heap:=h5 }) ->
   gZ (aP X.prog X.w) (X.A.mark (some (.ref ea))) (.handlers (.ref ea) [.ExceptHandler none nm (b₀::suite) pos] X.env) (hndR X nm pos Q E) { s' with heap:=h5 }) :
  aO (aP X.prog X.w) X.A (noteFrame v X.env) (fun _ s₂=>aO (aP X.prog X.w) X.A (uR v none) (fun _ s₃=>
   aO (aP X.prog X.w) X.A (handleBy v X.env (.ExceptHandler (some (.Name T np)) nm (b₀::suite) pos::rest)) Q E s₃) E s₂) E s':=by
 obtain⟨ea,cls,a0,H',B,rfl,os,bare,un,hok,hb,hB,hT,fl,q⟩:=h
 have fr : ∀ b∈frs X.stack,∃ o,s'.heap.get? b=some o /\ ∀ vs,o.data ≠ .fields vs:=fun b m=>(fl.2.2.1.mem m).2
 have fl':Heap.FlyingW B (X.env::X.outer) ea cls a0 s'.heap:=hst ▸ fl
 refine wpAny_looks_onW (base:=B) (env:=X.env) (outer:=X.outer) (L:=X.env.locals) (by rw[I.ok.frames,hst]) hfr fl' fun h4 held4 sm4=>?_
 refine wpAny_landsW held4 fun h5 fl5 sm5=>?_
 have I5:Inv X pins σ H' { s' with heap:=h5 }:=I.call' (ch:=[]) os (un_fly un hB fl.1 fl5.1 (sm4.trans sm5) fr) (hok_fly hok hT fl.1 fl5.1) bare (fun _ z=>nomatch z)
 refine wpAny_handleBy_cons (codeAny_handlers_test (oW (X:=X.held ea) (I5.held ea) hg hm ?_ hd)) (by intro q; cases q)
 obtain⟨ob,hob,hoc⟩:=fl5.there
 have LT:PySem.W.Looks (aP X.prog X.w) h5 (typeOf (.ref ea)) cls:=by
  subst hoc
  exact(PySem.W.Looks.ld hob).andThen .now
 refine(PySem.W.exm_one I5.kIn LT (hex cls H' q)).here ?_
 have hH:H' ea=none:=by
  cases z:H' ea with
  | none=>rfl
  | some o=>
   obtain⟨u,z2⟩:=hT ea o z
   rw[fl.2.1] at z2
   cases z2
 have hs1:s1.heap.get? ea=none:=by
  cases z:s1.heap.get? ea with
  | none=>rfl
  | some o=>
   by_cases m:ea∈frs X.stack
   ·obtain⟨o2,z2,nf⟩:=fr ea m
    obtain⟨oe,ws,hoe,hoec,hoed,_⟩:=fl.first
    rw[z2] at hoe
    cases hoe
    exact absurd hoed (nf ws)
   ·obtain⟨u,z2⟩:=hB ea o z m
    rw[fl.2.1] at z2
    cases z2
 refine k ea cls H' h5 q hH hs1 fun {A' Q' E'} kk=>?_
 refine lands_againW fl5 fun h6 fl6 sm6=>kk h6 ?_ ?_
 ·exact(I.call' (s':={ s' with heap:=h6 }) (ch:=[]) os (un_fly un hB fl.1 fl6.1 ((sm4.trans sm5).trans sm6) fr) (hok_fly hok hT fl.1 fl6.1) bare (fun _ z=>nomatch z)).held ea
 ·obtain⟨oe,ws,hoe,hoec,hoed,_⟩:=fl6.first
  exact⟨oe,hoe,hoec,ws,hoed⟩
end
noncomputable def exD (c:aD):aA:=.dict [(.none,.str c),(.none,.none)]
theorem Sta.forget {K:aI}{H0 H B0:Hp}{P0:aB->Prop}{ρ:aZ}{σ:St}{fp:Nat->List aB}(S:Sta K H0 P0 B0 ρ σ H fp)(j:Nat):Sta K H0 P0 B0 (ρ.set j none) (σ.set j none) H fp:=by
 refine⟨by simp[S.len],S.nd,S.dj,S.own,S.ext,S.hd,S.base,fun i n d e=>?_⟩
 by_cases h:i=j
 ·subst h
  by_cases hl:i<ρ.length
  ·rw[kR hl] at e; cases e
  ·rw[List.getElem?_eq_none (by simpa using hl)] at e; cases e
 ·rw[jG (gU h)] at e ⊢
  exact S.slot i n d e
section
variable {X:Cx}{pins:List (aB×aT)}{σ:St}{H H1:Hp}{s s1:aG}{E:aE->aG->Prop}{D:Ends}{f:Flow}{ea:aB}
theorem sp_unheld (ok:X.Ok)(h:SP (X.held ea) pins D f s):SP X pins D f s:=by
 cases f with
 | next=>obtain⟨σ',H',I,q⟩:=h; exact⟨σ',H',I.unheld ok,q⟩
 | brk=>obtain⟨σ',H',I,q⟩:=h; exact⟨σ',H',I.unheld ok,q⟩
 | cont=>obtain⟨σ',H',I,q⟩:=h; exact⟨σ',H',I.unheld ok,q⟩
 | ret u=>obtain⟨v,σ',H',I,r,q⟩:=h; exact⟨v,σ',H',I.unheld ok,r,q⟩
theorem sp_untries (ok:X.Ok)(h:SP (X.tries pins E) [] D f s):SP X pins D f s:=by
 cases f with
 | next=>obtain⟨σ',H',I,q⟩:=h; exact⟨σ',H',I.untries ok,q⟩
 | brk=>obtain⟨σ',H',I,q⟩:=h; exact⟨σ',H',I.untries ok,q⟩
 | cont=>obtain⟨σ',H',I,q⟩:=h; exact⟨σ',H',I.untries ok,q⟩
 | ret u=>obtain⟨v,σ',H',I,r,q⟩:=h; exact⟨v,σ',H',I.untries ok,r,q⟩
theorem name_goes {M:Model}{A:bQ}{n:aD}{j:Nat}{pos:bG}{Q:Unit->aG->Prop}(I:Inv X pins σ H s)(hN:X.N.Nodup)(hj:X.N[j]?=some n)(hl:X.env.scope.names.lookup n=some .local)(h : ∀ s',Inv X pins (σ.set j none) H s'->Q () s') :
  aO M A (do bindName X.env n .none; CZ X.env n pos) Q E s:=by
 obtain⟨m,hn,hlk⟩:=id I.loc
 refine wpAny_nameGoes_keeps hl hn (by rw[I.ok.kind]; rfl) fun h' v hn' hs=>h _ ?_
 obtain⟨oL,_,_,hoL,_⟩:=id hn
 refine⟨I.ok,I.os,I.bare,⟨fun b o e n hb hx=>?_,fun b o e n hb hx=>?_,I.base.free,fun b o e hx=>?_,I.base.tups,I.base.frzs,I.base.tbls⟩,⟨_,hn',fun i y v' e1 e2 e3=>?_⟩,fun y c e=>?_,I.free,I.freeC,fun p hp=>?_,fun b ob e=>?_,by simpa using I.len⟩
 ·exact(hs.2 b (cK (gN (bK e) I.ok.above))).trans (I.base.keep b o e n hb hx)
 ·obtain⟨sl,e1⟩:=I.base.slot b o e n hb hx
  exact⟨sl,(hs.2 b (cK (gN (bK e) I.ok.above))).trans e1⟩
 ·obtain⟨o',e1⟩:=I.base.there b o e hx
  exact⟨o',(hs.2 b (cK (gN (bK e) I.ok.above))).trans e1⟩
 ·have hij:i≠j:=fun z=>by
   subst z
   by_cases q:i<σ.length
   ·rw[kR q] at e2; cases e2
   ·rw[List.getElem?_eq_none (by simpa using q)] at e2; cases e2
  rw[jG (gU hij)] at e2
  obtain⟨u',r',q⟩:=hlk i y v' e1 e2 e3
  refine⟨u',r',?_⟩
  rcases q with⟨k,e⟩ | ⟨k,c,e,z⟩
  ·refine .inl ⟨k,?_⟩
   have:y≠n:=fun e=>hij (vU hN e1 (e ▸ hj))
   simp[this,e]
  ·exact .inr ⟨k,c,e,z.sameBut hs (I.cne y c e)⟩
 ·obtain⟨w',z⟩:=I.cell y c e
  exact⟨w',z.sameBut hs (I.cne y c e)⟩
 ·obtain⟨e,n,ne,nf,d⟩:=I.pin p hp
  exact⟨(hs.2 p.1 ne).trans e,n,ne,nf,d⟩
 ·refine(I.hok b ob e).stay (fun c w' hc q=>(hs.2 c ?_).trans q) (fun _ q=>q) fun _ _ q=>q
  rintro rfl
  rcases hc with rfl | hc
  ·rw[I.free] at e; cases e
  ·rw[I.free] at hc; cases hc
end
noncomputable def isRc (c:aD):aA->Bool
 | .dict [(.none,.str c'),(.none,.bool true)]=>decide (c'=c)
 | _=>false
theorem isRc_eq {c:aD}{d:aA}(h:isRc c d=true):d=rsD c:=by
 unfold isRc at h
 split at h
 ·rw[of_decide_eq_true h]; rfl
 ·cases h
theorem isRc_rs (c:aD):isRc c (rsD c)=true:=by simp[isRc,rsD]
noncomputable def sTry (c:aD)(F:FX)(fa:AF)(V:aA->SF)(G:SF):SF:=fun ρ=>(fa (vS ρ)).bind fun ds=>(F (some c) ds).bind fun d=>if isRc c d=true then G ρ else(F none ds).bind fun d=>V d ρ
theorem try_rs {c:aD}{F:FX}{fa:AF}{V:aA->SF}{G:SF}{ρ:aZ}{ds:List aA}(h:fa (vS ρ)=some ds)(h1:F (some c) ds=some (rsD c)):sTry c F fa V G ρ=G ρ:=by
 unfold sTry
 rw[h,bS,h1,bS,if_pos (isRc_rs c)]
noncomputable def sAs (j:Nat)(c:aD)(G:SF):SF:=fun ρ=>if j<ρ.length then(G (ρ.set j (some (0,exD c)))).bind fun o=>match o with
 | .nx ρ'=>some (.nx (ρ'.set j none))
 | .bk ρ'=>some (.bk (ρ'.set j none))
 | .ct ρ'=>some (.ct (ρ'.set j none))
 | .rt d=>some (.rt d)
 else none
section
variable {X:Cx}{pins:List (aB×aT)}{σ:St}{H H':Hp}{s s6:aG}{ea:aB}{cls:aE}
theorem Inv.track (I:Inv X pins σ H' s6)(hH:H' ea=none)(hx:ExAt ea cls s6.heap)(h0:X.s₀.heap.get? ea=none)(hp : ∀ p∈X.pn++pins,p.1≠ea):Inv X pins σ (upd H' ea (exO cls ea)) s6:=by
 obtain⟨o,ho,hc,vs,hd⟩:=id hx
 have ne : ∀ b u,H' b=some u->b≠ea:=fun b u e z=>by rw[z,hH] at e; cases e
 refine⟨I.ok,I.os,I.bare,⟨I.base.keep,I.base.slot,fun b u e n hx=>?_,I.base.there,fun b xs e=>?_,fun b u xs e=>?_,fun b ps e=>?_⟩,I.loc,I.cell,?_,fun x c e=>?_,fun p m=>?_,fun b u e=>?_,I.len⟩
 ·rw[bH (fun z=>by rw[z,h0] at e; cases e)]; exact I.base.free b u e n hx
 ·rw[bH (ne b _ (I.base.tups b xs e))]; exact I.base.tups b xs e
 ·rw[bH (ne b _ (I.base.frzs b u xs e))]; exact I.base.frzs b u xs e
 ·obtain⟨m,z⟩:=I.base.tbls b ps e
  exact⟨m,by rw[bH (ne b _ z)]; exact z⟩
 ·rw[bH]
  ·exact I.free
  ·intro z
   obtain⟨m,⟨o',es,ep,ho',hd',_⟩,_⟩:=I.loc
   rw[z,ho] at ho'
   cases ho'
   rw[hd] at hd'
   cases hd'
 ·rw[bH]
  ·exact I.freeC x c e
  ·intro z
   obtain⟨v,o',ho',hd'⟩:=I.cell x c e
   rw[z,ho] at ho'
   cases ho'
   rw[hd] at hd'
   cases hd'
 ·obtain⟨e1,e2,e3,e4,e5⟩:=I.pin p m
  exact⟨e1,by rw[bH (hp p m)]; exact e2,e3,e4,e5⟩
 ·by_cases z:b=ea
  ·subst z
   rw[dQ] at e
   cases e
   refine⟨hx,⟨o,ho⟩,fun h1 h2 hh kk=>?_⟩
   obtain⟨o2,g1,g2⟩:=hh
   exact⟨o2,kk o2 g1,g2⟩
  ·rw[bH z] at e
   exact(I.hok b u e).stay (fun _ _ _ q=>q) (fun c q=>by rw[bH (ne c _ q)]; exact q) fun c xs q=>by rw[bH (ne c _ q)]; exact q
end
section
variable {X:Cx}{H0:Hp}{P0:aB->Prop}{n0 k n:Nat}{x c T:aD}{ps:List aD}{F:FX}{e:aS}{es:List aS}{fa:AF}{p cpos np hpos pos:bG}{CT:aE}{st b₀:bL}{suite:List bL}{V:aA->SF}{G:SF}{nm:Option aD}{W:TE->TS}
structure TryC (X:Cx)(c T:aD)(CT:aE):Prop where
 st:X.stack=X.env::X.outer
 fr:X.env.frame=some X.env.locals
 ex:X.ex=[]
 gl:Gl X T
 mt:X.mg T=some CT
 db:(T == ("__debug__" : aD))=false
 mc : ∀ cls,cY X.K c=some cls->sF X.K cls CT=some true
def CallAt (X:Cx)(ce:aS)(n:Nat)(F:FX)(fa:AF):Prop:=∀ {pins:List (aB×aT)} {σ:St} {H:Hp} {s:aG} {z:Option aD} {Q:VK} {P:aB->Prop} {ρ:List (Option aA)} {ds:List aA} {d:aA},Inv X pins σ H s->Hid P H->Ajq X.K (hid H P) ρ σ->fa ρ=some ds->F z ds=some d->Res X.K P n d H Q ->
  (∀ H1 s1 v s',Inv X pins σ H1 s1->Ext H H1->CXR X.base X.prog X.w X.stack H1 s1 (fun cls _ H'=>(∃ c,z=some c/\cY X.K c=some cls)/\Ext H1 H') v s'->X.xe v s') ->
  aO (aP X.prog X.w) X.A (bC ce X.env) (EP X pins σ Q) X.xe s
theorem try_core {ce:aS}(t:TryC X c T CT)(hcall : ∀ pins E,CallAt (X.tries pins E) ce n F fa)
  (hW : ∀ (pins:List (aB×aT)) (E:aE->aG->Prop) (te:TE),PE (X.tries pins E) ce te->PS (X.tries pins E) st (W te))
  (hV : ∀ {B0 ρ fp o D σ H d},Sta X.K H0 P0 B0 ρ σ H fp->V d ρ=some o->EndOk X.K H0 P0 B0 n0 D o -> ∀ te:TE,(∀ Q,(∀ v H',Tmp X.K H0 P0 B0 ρ σ n d v H'->Q v H')->te σ H Q)->W te D σ H)
  (hW2 : ∀ te:TE,∀ D σ H,(∀ Q,te σ H Q)->W te D σ H)
  (hs : ∀ (pins:List (aB×aT)) (s1:aG) (σ:St) (H1:Hp) (ea:aB) (cls:aE) (H':Hp) (h5:aR) (s':aG) (D:Ends) (B0:Hp) (ρ:aZ) (fp:Nat->List aB) (o:Out),Inv X pins σ H1 s1->cY X.K c=some cls->Ext H1 H'->H' ea=none->s1.heap.get? ea=none ->
   (∀ {A':bQ} {Q':Unit->aG->Prop} {E':aE->aG->Prop},(∀ h6,Inv (X.held ea) pins σ H' { s' with heap:=h6 }->ExAt ea cls h6->Q' () { s' with heap:=h6 })->aO (aP X.prog X.w) A' (uR (.ref ea) none) Q' E' { s' with heap:=h5 }) ->
   Sta X.K H0 P0 B0 ρ σ H1 fp->G ρ=some o->EndOk X.K H0 P0 B0 n0 D o ->
   gZ (aP X.prog X.w) (X.A.mark (some (.ref ea))) (.handlers (.ref ea) [.ExceptHandler none nm (b₀::suite) hpos] X.env) (hndR X nm hpos (SP X pins D) X.xe) { s' with heap:=h5 }) :
  DS X H0 P0 n0 (.Try [st] [.ExceptHandler (some (.Name T np)) nm (b₀::suite) hpos] [] [] pos) (sTry c F fa V G):=by
 intro pins s σ H D' I ⟨B0,ρ,fp,o,S,ef,k'⟩
 obtain⟨ds,e1,ef⟩:=XBs ef
 obtain⟨d,e2,ef⟩:=XBs ef
 refine wpAny_Try_except ?_
 have fin : ∀ Ex:aE->aG->Prop,(∀ te:TE,(∀ Q,te σ H Q = ∀ pins' s',Inv (X.tries pins Ex) pins' σ H s'->aO (aP X.prog X.w) X.A (bC ce X.env) (EP (X.tries pins Ex) pins' σ Q) Ex s')->W te D' σ H) ->
   aO (aP X.prog X.w) X.A (execs [st] X.env) (fun f s₁=>match f with | .next=>aO (aP X.prog X.w) X.A (execs [] X.env) (SP X pins D') X.xe s₁ | f=>SP X pins D' f s₁) Ex s:=fun Ex w=>by
  have hp:=qS (hW pins Ex (fun σ' H' Q'=>∀ pins' s',Inv (X.tries pins Ex) pins' σ' H' s'->aO (aP X.prog X.w) X.A (bC ce X.env) (EP (X.tries pins Ex) pins' σ' Q') Ex s') (fun pins' s' σ' H' Q' I' h=>h pins' s' I')) [] s σ H D' I.tries (w _ fun _=>rfl)
  refine thn hp fun f s₁ h=>?_
  have h2:=sp_untries I.ok h
  cases f with
  | next=>
   obtain⟨σ',H',I',q⟩:=h2
   exact pss_nil pins s₁ σ' H' D' I' q
  | brk=>exact h2
  | cont=>exact h2
  | ret u=>exact h2
 by_cases hR:isRc c d=true
 ·rw[if_pos hR] at ef
  have hd:=isRc_eq hR
  subst hd
  refine fin _ fun te hte=>hW2 te _ _ _ fun Q=>?_
  rw[hte]
  intro pins' s' I'
  refine hcall pins _ I' S.hid S.viewS e1 e2 (fun v H' Fr _ _ _ r=>(rs_not r).elim) (fun H1 s1 v s'' I1 x1 hc=>?_)
  refine caught (X:=X) (I1.untries I.ok) t.st t.fr hc t.gl t.mt t.db (fun cls H' z=>?_) fun ea cls H' h5 z hH hs1 ld=>?_
  ·obtain⟨⟨c',z1,z2⟩,_⟩:=z
   cases z1
   exact t.mc cls z2
  ·obtain⟨⟨c',z1,z2⟩,z3⟩:=z
   cases z1
   exact hs pins s1 σ H1 ea cls H' h5 s'' D' B0 ρ fp o (I1.untries I.ok) z2 z3 hH hs1 ld (S.grow x1) ef k'
 ·rw[if_neg hR] at ef
  obtain⟨d2,e3,ef⟩:=XBs ef
  refine fin _ fun te hte=>hV S ef k' te fun Q hQ=>?_
  rw[hte]
  intro pins' s' I'
  have efv:eV n .s (aQ (F none) fa) ρ=some d2:=by
   show(fa (vS ρ)).bind (fun ds=>F none ds)=some d2
   rw[e1]
   exact e3
  obtain⟨P,ρ',d',hP,rs,ef2,kk⟩:=ev_t .s σ H Q ⟨B0,ρ,fp,d2,S,efv,hQ⟩
  obtain⟨ds2,g1,g2⟩:=XBs ef2
  exact hcall pins _ (z:=none) I' hP rs g1 g2 kk (fun H1 s1 v s'' I1 x1 hc=>by
   obtain⟨_,_,_,_,_,_,_,_,_,_,_,_,_,_,⟨c',z,_⟩,_⟩:=hc
   cases z)
variable {y:aD}{py apos:bG}{i:Nat}
theorem suite0 (hG : ∀ ea,DSs (X.held ea) H0 P0 n0 (b₀::suite) G) : ∀ (pins:List (aB×aT)) (s1:aG) (σ:St) (H1:Hp) (ea:aB) (cls:aE) (H':Hp) (h5:aR) (s':aG) (D:Ends) (B0:Hp) (ρ:aZ) (fp:Nat->List aB) (o:Out),Inv X pins σ H1 s1->cY X.K c=some cls->Ext H1 H'->H' ea=none->s1.heap.get? ea=none ->
   (∀ {A':bQ} {Q':Unit->aG->Prop} {E':aE->aG->Prop},(∀ h6,Inv (X.held ea) pins σ H' { s' with heap:=h6 }->ExAt ea cls h6->Q' () { s' with heap:=h6 })->aO (aP X.prog X.w) A' (uR (.ref ea) none) Q' E' { s' with heap:=h5 }) ->
   Sta X.K H0 P0 B0 ρ σ H1 fp->G ρ=some o->EndOk X.K H0 P0 B0 n0 D o ->
   gZ (aP X.prog X.w) (X.A.mark (some (.ref ea))) (.handlers (.ref ea) [.ExceptHandler none none (b₀::suite) hpos] X.env) (hndR X none hpos (SP X pins D) X.xe) { s' with heap:=h5 }:=fun pins s1 σ H1 ea cls H' h5 s' D B0 ρ fp o I hc x hH hs1 ld S ef k=>
 codeAny_handlers_suite (ld fun h6 I6 x6=>gY (hG ea pins _ σ H' D I6 ⟨B0,ρ,fp,o,S.grow x,ef,k⟩) (fun f s2 h=>sp_unheld I.ok h) (fun _ _ z=>z.elim))
theorem suiteAs {j:Nat}{nn:aD}(hex:X.ex=[])(hN:X.N.Nodup)(hj:X.N[j]?=some nn)(hl:X.env.scope.names.lookup nn=some .local)(hG : ∀ ea,DSs (X.held ea) H0 P0 n0 (b₀::suite) G) : ∀ (pins:List (aB×aT)) (s1:aG) (σ:St) (H1:Hp) (ea:aB) (cls:aE) (H':Hp) (h5:aR) (s':aG) (D:Ends) (B0:Hp) (ρ:aZ) (fp:Nat->List aB) (o:Out),Inv X pins σ H1 s1->cY X.K c=some cls->Ext H1 H'->H' ea=none->s1.heap.get? ea=none ->
   (∀ {A':bQ} {Q':Unit->aG->Prop} {E':aE->aG->Prop},(∀ h6,Inv (X.held ea) pins σ H' { s' with heap:=h6 }->ExAt ea cls h6->Q' () { s' with heap:=h6 })->aO (aP X.prog X.w) A' (uR (.ref ea) none) Q' E' { s' with heap:=h5 }) ->
   Sta X.K H0 P0 B0 ρ σ H1 fp->sAs j c G ρ=some o->EndOk X.K H0 P0 B0 n0 D o ->
   gZ (aP X.prog X.w) (X.A.mark (some (.ref ea))) (.handlers (.ref ea) [.ExceptHandler none (some nn) (b₀::suite) hpos] X.env) (hndR X (some nn) hpos (SP X pins D) X.xe) { s' with heap:=h5 }:=fun pins s1 σ H1 ea cls H' h5 s' D B0 ρ fp o I hc x hH hs1 ld S ef k=>by
 refine codeAny_handlers_suite_as (ld fun h6 I6 x6=>?_)
 have h0:X.s₀.heap.get? ea=none:=by
  cases z:X.s₀.heap.get? ea with
  | none=>rfl
  | some u=>
   obtain⟨o',z2⟩:=I.base.there ea u z (by rw[hex]; simp)
   rw[hs1] at z2
   cases z2
 have hp : ∀ p∈X.pn++pins,p.1≠ea:=fun p m z=>by
  have:=(I.pin p m).1
  rw[z,hs1] at this
  cases this
 have I7:=I6.track hH x6 h0 hp
 unfold sAs at ef
 by_cases hjl:j<ρ.length
 case neg=>rw[if_neg hjl] at ef; cases ef
 rw[if_pos hjl] at ef
 obtain⟨o2,e2,ef⟩:=XBs ef
 refine vT (X:=X.held ea) I7 hN hj (.inl hl) (v:=.ref ea) rfl (fun s7 I8=>?_) (.inr hl)
 have S2:=(S.grow x).grow (Ext.new (o:=exO cls ea) hH)
 have nh : ¬ Hd P0 fp ea:=fun z=>by
  rcases(S.grow x).hid ea z with⟨_,q⟩ | ⟨_,q⟩ <;> rw[hH] at q <;> cases q
 obtain⟨fp3,S3⟩:=S2.Amq (i:=j) (d:=exD c) (v:=.ref ea) (Abn.mpr ⟨ea,rfl,.inr (.inr (.inr (.inl <| .inl ⟨c,cls,rfl,hc,fY nh dQ⟩)))⟩) hjl
 have go:=fun {f:Flow} {s2:aG} {E':aE->aG->Prop} (h:SP (X.held ea) pins { nx:=fun σ' H'=>D.nx (σ'.set j none) H',rt:=D.rt,bk:=fun σ' H'=>D.bk (σ'.set j none) H',ct:=fun σ' H'=>D.ct (σ'.set j none) H' } f s2)=>(show aO (aP X.prog X.w) X.A (do bindName X.env nn .none; CZ X.env nn hpos) (fun _ s₃=>SP X pins D f s₃) X.xe s2 from by
  cases f with
  | next=>obtain⟨σ',H',I',q⟩:=h; exact name_goes (I'.unheld I.ok) hN hj hl fun s3 I3=>⟨_,H',I3,q⟩
  | brk=>obtain⟨σ',H',I',q⟩:=h; exact name_goes (I'.unheld I.ok) hN hj hl fun s3 I3=>⟨_,H',I3,q⟩
  | cont=>obtain⟨σ',H',I',q⟩:=h; exact name_goes (I'.unheld I.ok) hN hj hl fun s3 I3=>⟨_,H',I3,q⟩
  | ret u=>obtain⟨v,σ',H',I',r,q⟩:=h; exact name_goes (I'.unheld I.ok) hN hj hl fun s3 I3=>⟨v,_,H',I3,r,q⟩)
 refine gY (hG ea pins s7 _ _ _ I8 ⟨B0,_,fp3,o2,S3,e2,?_⟩) (fun f s2 h=>go (E':=X.xe) h) (fun _ _ z=>z.elim)
 cases o2 with
 | nx ρ'=>cases ef; exact fun σ' H' fp' S'=>k _ _ fp' (S'.forget j)
 | bk ρ'=>cases ef; exact fun σ' H' fp' S'=>k _ _ fp' (S'.forget j)
 | ct ρ'=>cases ef; exact fun σ' H' fp' S'=>k _ _ fp' (S'.forget j)
 | rt d=>cases ef; exact k
noncomputable def vExpr:aA->SF:=fun _ ρ=>some (.nx ρ)
theorem ds_tryExprC {ce:aS}(t:TryC X c T CT)(hcall : ∀ pins E,CallAt (X.tries pins E) ce n F fa)(hG : ∀ ea,DSs (X.held ea) H0 P0 n0 (b₀::suite) G)
  (hsw:iW ce none apos.line X.env=pure false:=by rfl) :
  DS X H0 P0 n0 (.Try [.Expr ce apos] [.ExceptHandler (some (.Name T np)) none (b₀::suite) hpos] [] [] pos) (sTry c F fa vExpr G):=
 try_core (W:=tDrop) t hcall (fun pins E te h=>oT (X:=X.tries pins E) h hsw) (fun {B0 ρ fp o D σ H d} S ef k te hq=>hq _ fun v H' tm=>by
  cases ef
  obtain⟨fp',S',_⟩:=tm
  exact k _ _ fp' S') (fun te D σ H h=>h _) (suite0 hG)
theorem GF {ce:aS}{j:Nat}{nn:aD}(t:TryC X c T CT)(hcall : ∀ pins E,CallAt (X.tries pins E) ce n F fa)(hN:X.N.Nodup)(hj:X.N[j]?=some nn)(hl:X.env.scope.names.lookup nn=some .local)(hG : ∀ ea,DSs (X.held ea) H0 P0 n0 (b₀::suite) G)
  (hsw:iW ce none apos.line X.env=pure false:=by rfl) :
  DS X H0 P0 n0 (.Try [.Expr ce apos] [.ExceptHandler (some (.Name T np)) (some nn) (b₀::suite) hpos] [] [] pos) (sTry c F fa vExpr (sAs j c G)):=
 try_core (W:=tDrop) t hcall (fun pins E te h=>oT (X:=X.tries pins E) h hsw) (fun {B0 ρ fp o D σ H d} S ef k te hq=>hq _ fun v H' tm=>by
  cases ef
  obtain⟨fp',S',_⟩:=tm
  exact k _ _ fp' S') (fun te D σ H h=>h _) (suiteAs t.ex hN hj hl hG)
end
open PySem PySem.Spec PySem.Calls PyProof.Rows PySem.W PySem.Builtin PySem.Builtin.ObjectAttr PySem.Builtin.Getset_descriptor
section
variable {prog:bA}{w:aX}{A:bQ}{E:aE->aG->Prop}{h:aR}{g:Array pY}{d:Drawn}{t:Nat}{os:OsState}{K:Frag}{x C:aB}{ox:aT}{vs:Array aE}
structure XCls (K:Frag)(C:aB):Prop where
 ga:findIn K (.ref C) "__getattribute__" = some (some (.builtin "BaseException.__getattribute__"))
 gh:findIn K (.ref C) "__getattr__" = some none
 cl:findIn K (.ref C) "__class__" = some (some (.builtin "object.__class__"))
 mo:mroIn K C (.type "object")=some true
 mb:mroIn K C (.type "BaseException")=some true
 ic:hasDictIn K C=true
theorem ExAt.ty {M:Model}{cls:aE}(e:ExAt x cls h):Looks M h (typeOf (.ref x)) cls:=by
 obtain⟨o,h1,rfl,_⟩:=e
 exact(Looks.ld h1).andThen .now
theorem x_get {s:aG}{R:lY->aG->Prop}{tp:aE}(X:K.In s.heap)(I:ExAt x (.ref C) s.heap)(hm:mroIn K C (.type "object")=some true)(h:R (.ok (.ret (.ref C))) s) :
  gZ (aP prog w) A (.call (.builtin "getset_descriptor.__get__") ⟨[.builtin "object.__class__",.ref x,tp],[]⟩) R s:=by
 obtain⟨hh,g,dr,t,os⟩:=s
 have L0:=I.ty (M:=aP prog w)
 have L1:=looks_mroIn (M:=aP prog w) X hm
 refine DB KF.slot_gs.plain KF.entry_gs (KF.slot_gs.check _ _ _ _ _ _ _ _ KF.type_class (KF.args_gs _ _ _) ?_)
 unfold Builtin.«getset_descriptor.__get__» descrGet
 rw[dga_obj]
 refine aL (bB ?_)
 unfold descrGetter descrCheckInstance descrNameAndClass isInstance
 simp only[KF.owner_class]
 repeat lk
 refine⟨Code.quiet_builtin _ (by decide +kernel),oA KF.entry_class ?_⟩
 unfold Builtin.«object.__class__» shownTypeOf
 repeat lk
 exact h
theorem x_entry {tk:Tok}{Q:Fin->aG->Prop}(X:K.In h)(c:XCls K C)(I:ExAt x (.ref C) h)(hq:Q (.done (.ret (.ref C))) ⟨h,g,d,t,os⟩) :
  aO (aP prog w) A (Builtin.«object.__getattribute__» ⟨[.ref x,.str "__class__" tk],[]⟩) Q E ⟨h,g,d,t,os⟩:=by
 have L1:Looks (aP prog w) h (pP (.ref C) "__class__") (some (.builtin "object.__class__")):=looks_findIn X c.cl
 have L0:=I.ty (M:=aP prog w)
 have f5:=F.typeOf_object_class
 have f6:=F.slot_gs_get.lookup
 have f7:=F.slot_gs_set.lookup
 repeat (any_goals (first | assumption | with_reducible refine L0.at ?_ | with_reducible refine L1.at ?_ | wp_step))
 refine x_get (s:=⟨h,g,d,t,os⟩) X I c.mo ?_
 repeat (any_goals (first | assumption | wp_step))
theorem x_check {M:Model}{nameV:aE}{Q:Unit->aG->Prop}(X:K.In h)(c:XCls K C)(I:ExAt x (.ref C) h)(hq:Q () ⟨h,g,d,t,os⟩):aO M A (checkBuiltinCall "BaseException.__getattribute__" ⟨[.ref x,nameV],[]⟩) Q E ⟨h,g,d,t,os⟩:=by
 have L0:=I.ty (M:=M)
 have L2:=looks_mroIn (M:=M) X c.mb
 have hk:builtinKind "BaseException.__getattribute__" = some .slot:=by decide +kernel
 have hsplit:splitId "BaseException.__getattribute__" = some ("BaseException","__getattribute__"):=by decide +kernel
 have ha:=F.args_bexc_ga (.ref x) nameV
 simp only[checkBuiltinCall,hk,hsplit]
 refine aL ?_
 ·unfold isInstance
  repeat (first | with_reducible refine L0.at ?_ | with_reducible refine L2.at ?_ | wp_step)
  exact hq
theorem x_by {tk:Tok}{Q:aE->aG->Prop}(X:K.In h)(c:XCls K C)(I:ExAt x (.ref C) h)(hq:Q (.ref C) ⟨h,g,d,t,os⟩):aO (aP prog w) A (getAttrBy (.ref x) (.str "__class__" tk) false) Q E ⟨h,g,d,t,os⟩:=by
 have FB:=PySem.F.attrBase_ValueError
 have L0:=I.ty (M:=aP prog w)
 have L1:Looks (aP prog w) h (pP (.ref C) "__getattribute__") (some (.builtin "BaseException.__getattribute__")):=looks_findIn X c.ga
 have L2:Looks (aP prog w) h (pP (.ref C) "__getattr__") none:=looks_findIn X c.gh
 have f3:=FB.ga.bind (.ref x)
 have hx0:(false&&onTheHeap (sC "BaseException.__getattribute__"))=false:=rfl
 have hx2:(sC "BaseException.__getattribute__" == sC "object.__getattribute__")=false:=by decide +kernel
 have hx1:(onTheHeap (dB C)&&sC "BaseException.__getattribute__" == sC "object.__getattribute__")=false:=by rw[hx2]; rfl
 repeat (any_goals (first | assumption | with_reducible refine L0.at ?_ | with_reducible refine L1.at ?_ | with_reducible refine L2.at ?_ | wp_step))
 refine DB FB.ga.plain F.entry_bexc_ga (x_check X c I (x_entry X c I ?_))
 repeat (any_goals (first | assumption | wp_step))
theorem x_attr {s:aG}{Q:Option aE->aG->Prop}(X:K.In s.heap)(c:XCls K C)(I:ExAt x (.ref C) s.heap)(hq:Q (some (.ref C)) { s with toks:=s.toks+1 }):aO (aP prog w) A (getAttr? (.ref x) "__class__") Q E s:=by
 obtain⟨h,g,d,t,os⟩:=s
 unfold getAttr? getAttrBy?
 repeat (any_goals (first | assumption | with_reducible apply x_by X c I | wp_step))
theorem kitx_exc (c:XCls K C):KitX K (.ref x) (.ref C) (ExAt x (.ref C)) where
 ty:=fun _ _ _ e=>e.ty
 it:=fun _ _ X _=>by
  obtain⟨cdD,z0,_⟩:=any_some c.ic
  unfold clsIn at z0
  split at z0
  ·rename_i c' d' cd' sl' ho
   intro A' Q' E' s' k q
   unfold isType loadHead
   exact aL (wpAny_loadPart (k _ _ (X _ _ ho)) (bB q))
  ·cases z0
 ne:=fun h tp dd its n sl X htp=>by
  obtain⟨cdD,z0,_⟩:=any_some c.ic
  refine Bool.eq_false_iff.mpr fun q=>?_
  have e:C=tp:=Value.ref.inj (beq_iff_eq.mp q)
  subst e
  unfold clsIn at z0
  split at z0
  ·rename_i c' d' cd' sl' ho
   have z:=(X _ _ ho).symm.trans htp
   cases z
  ·cases z0
 ca:=fun X e k=>x_attr X c e k
end
def ExM (K:aI)(mg:aD->Option aE)(c T:aD):Prop:=∃ C D,cH K bR c=some (some (.ref C))/\mg T=some (.ref D)/\sF K (.ref C) (.ref D)=some true
def IsM (K:aI)(mg:aD->Option aE)(c T:aD)(b:Bool):Prop:=∃ C D,cH K bR c=some (some (.ref C))/\mg T=some (.ref D)/\XCls K C/\jA K (.ref C) (.ref D)=some b
def IsV (K:aI)(mg:aD->Option aE)(c T:aD)(U:String)(b:Bool):Prop:=∃ C,cH K bR c=some (some (.ref C))/\mg T=none/\XCls K C/\jA K (.ref C) (.type U)=some b
theorem tN {K:aI}{c:aD}{v:aE}(h:cH K bR c=some (some v)):cY K c=some v:=by unfold cY; rw[h]; rfl
section
variable {X:Cx}{c T:aD}
theorem tryc (m:ExM X.K X.mg c T)(st:X.stack=X.env::X.outer)(fr:X.env.frame=some X.env.locals)(ex:X.ex=[])(gl:Gl X T)(db:(T == ("__debug__" : aD))=false):TryC X c T ((X.mg T).getD .none):=by
 obtain⟨C,D,h1,h2,h3⟩:=id m
 refine⟨st,fr,ex,gl,?_,db,fun cls hc=>?_⟩
 ·show X.mg T=some ((X.mg T).getD .none)
  rw[h2]; rfl
 ·rw[tN h1] at hc
  cases hc
  show sF X.K (.ref C) ((X.mg T).getD .none)=some true
  rw[h2]; exact h3
noncomputable def gW (c:aD)(b:Bool):aA->Option aA
 | .dict [(.none,.str c'),(.none,.none)]=>if c'=c then some (.bool b) else none
 | _=>none
theorem rep_ex {K:aI}{H:Hp}{v:V}(h:Abb K H (exD c) v) : ∃ a cls,v = .ref a/\cY K c=some cls/\H a=some (exO cls a):=by
 obtain⟨a,e,⟨kvs,_,r⟩ | ⟨ts,_,r⟩ | ⟨xs,h,r⟩ | r⟩:=Abn.mp h
 ·obtain⟨k',_,_,_,ek,_⟩:=Aav.mp r
  exact(kD_none ek).elim
 ·obtain⟨_,_,_,_,⟨z,_⟩,_⟩:=Abp.mp (Ack.mp r).2
  cases z
 ·obtain⟨es,z,_⟩:=pD r
  cases z
 ·rcases r with r | r
  rotate_left
  ·obtain⟨_,c',C,dx,fs,z,hc,ha,r⟩:=Agl.mp r
   obtain⟨f1,x1,r1,_,_,q1,_⟩:=Ac0.mp r
   simp[Aj1] at q1
  rcases r with⟨c',cls,z,h1,h2⟩ | ⟨c',z,h1⟩
  ·cases z
   exact⟨a,cls,e,h1,h2⟩
  ·cases z
theorem zS {C:aB}{cl:aE}{y:V}{b:Bool}(hc:cY X.K c=some (.ref C))(x:XCls X.K C)(hy : ∀ u,RelV y u->u=cl)(hk:jA X.K (.ref C) cl=some b):Acv X (.builtin "isinstance") (fun xs H Q=>∃ v,xs=[v,y]/\Abb X.K H (exD c) v/\Q (.bl b) H):=by
 intro pins s σ H xs us Q I r h
 obtain⟨v,rfl,rd,q⟩:=h
 obtain⟨u,w',rfl,ru,rw'⟩:=vals2 r
 obtain⟨a,cls,rfl,h1,h2⟩:=rep_ex rd
 cases ru
 rw[hc] at h1
 cases h1
 obtain rfl:=hy _ rw'
 exact jB (kitx_exc x) I.kIn (I.hok _ _ h2).1 hk (fun z=>nomatch z) fun tk=>⟨.bl b,H,I.tok tk,rfl,q⟩
variable {e:aS}{f:EF}{p p2 pos:bG}{b:Bool}
theorem isiX_t {y:V}(σ:St)(H:Hp)(Q:VK)(h:tF X.K 0 (eUn (gW c b) f) σ H Q):tCB (fun xs H Q=>∃ v,xs=[v,y]/\Abb X.K H (exD c) v/\Q (.bl b) H) (tCons (tF X.K 0 f) (tCons (tC y) tNil)) σ H Q:=by
 obtain⟨P,ρ,d,hP,rs,ef,k⟩:=h
 obtain⟨d1,e1,ef⟩:=XBs ef
 unfold gW at ef
 split at ef
 ·obtain⟨rfl,rfl⟩:=cP ef
  exact⟨P,ρ,_,hP,rs,e1,cR fun v H1 x1 r1=>⟨v,rfl,Abb.ext Aa3 r1,k.zero x1 (Aat.mpr rfl)⟩⟩
 ·cases ef
theorem nP (hgl:Gl X "isinstance")(hm:X.mg "isinstance" = none)(m:IsM X.K X.mg c T b)(hg:Gl X T)(he:DE X e f)(hd:(T == ("__debug__" : aD))=false:=by decide)(hs1:bF (e::[.Name T p2]) X.env=(false,bC e X.env)::bF [.Name T p2] X.env:=by rfl)
  (hs2:bF (.Name T p2::[]) X.env=(false,bC (.Name T p2) X.env)::bF [] X.env:=by rfl) (hpl:(eQ pos (bF [.Name T p2] X.env)).any (·.1)=false:=by rfl):DE X (.Call (.Name "isinstance" p) [e,.Name T p2] [] pos) (eUn (gW c b) f):=by
 obtain⟨C,D,h1,h2,h3,h4⟩:=m
 have hT:PE X (.Name T p2) (tC (.ref D)):=fun pins s σ H Q I h=>oW I hg h2 ⟨.ref D,H,I,rfl,h⟩ hd
 exact PE.imp (qT (zS (tN h1) h3 (y:=.ref D) (fun u r=>r) h4) hgl hm boot_isinstance (iR he (iR hT kX hs2) hs1) (by decide) (by decide) hs1 hpl) isiX_t
theorem de_isiV {U:String}(hgl:Gl X "isinstance")(hm:X.mg "isinstance" = none)(m:IsV X.K X.mg c T U b)(hg:Gl X T)(hv:iH T=some (.type U))(he:DE X e f)(hn:T ≠ "__name__":=by decide)(hd:(T == ("__debug__" : aD))=false:=by decide)(hs1:bF (e::[.Name T p2]) X.env=(false,bC e X.env)::bF [.Name T p2] X.env:=by rfl)
  (hs2:bF (.Name T p2::[]) X.env=(false,bC (.Name T p2) X.env)::bF [] X.env:=by rfl) (hpl:(eQ pos (bF [.Name T p2] X.env)).any (·.1)=false:=by rfl):DE X (.Call (.Name "isinstance" p) [e,.Name T p2] [] pos) (eUn (gW c b) f):=by
 obtain⟨C,h1,h2,h3,h4⟩:=m
 exact PE.imp (qT (zS (tN h1) h3 (y:=.ty U) (fun u r=>r) h4) hgl hm boot_isinstance (iR he (iR (pe_ty hg h2 hv hn hd) kX hs2) hs1) (by decide) (by decide) hs1 hpl) isiX_t
end
theorem GO:iH "ValueError" = some (.type "ValueError"):=PyProof.Rows.Boot.«ValueError»
noncomputable def isFn (i:Nat)(c:aD)(ρ:List (Option aA)):Bool:=match aF i ρ with
 | some (.dict [(.none,.str c'),(.none,.bool false)])=>decide (c'=c)
 | _=>false
open PySem
def SqB (b:Bool)(h:aR)(l:aB)(us:Array aE):Prop:=match b with
 | true=>h.IsList l us
 | false=>h.IsTuple l us
theorem SqB.keep {b:Bool}{h h':aR}{l:aB}{us:Array aE}(q:SqB b h l us)(k : ∀ o,h.get? l=some o->h'.get? l=some o):SqB b h' l us:=by
 cases b with
 | true=>
  obtain⟨o,e,r⟩:=q
  exact⟨o,k o e,r⟩
 | false=>
  obtain⟨o,e,r⟩:=q
  exact⟨o,k o e,r⟩
def ItB (b:Bool)(j l:aB)(k:Nat)(h:aR):Prop:=match b with
 | true=>h.IsListIter j l k
 | false=>h.IsTupleIter j l k
theorem ItB.get {b:Bool}{j l:aB}{k:Nat}{h:aR}(q:ItB b j l k h) : ∃ o,h.get? j=some o /\ ∀ v,o.data ≠ .cell v:=by
 cases b with
 | true=>
  obtain⟨o,e,_,d⟩:=q
  exact⟨o,e,fun v z=>by rw[d] at z; cases z⟩
 | false=>
  obtain⟨o,e,_,d⟩:=q
  exact⟨o,e,fun v z=>by rw[d] at z; cases z⟩
theorem ItB.keep {b:Bool}{j l:aB}{k:Nat}{h h':aR}(q:ItB b j l k h)(kp : ∀ o,h.get? j=some o->h'.get? j=some o):ItB b j l k h':=by
 cases b with
 | true=>
  obtain⟨o,e,r⟩:=q
  exact⟨o,kp o e,r⟩
 | false=>
  obtain⟨o,e,r⟩:=q
  exact⟨o,kp o e,r⟩
section
variable {X:Cx}{pins:List (aB×aT)}{σ:St}{H:Hp}{s:aG}
theorem Inv.turnM {t':Nat}{fp:List aB}{h':aR}(I:Inv X pins σ H s)(hf : ∀ b∈fp,FpOk X pins H b)(k : ∀ b o,b∉fp->s.heap.get? b=some o->h'.get? b=some o):Inv X pins σ H { s with heap:=h',toks:=t' }:=by
 have out : ∀ b u,H b=some u->b∉fp:=fun b u e m=>by
  rw[(hf b m).1] at e
  cases e
 have loc:X.env.locals∉fp:=fun m=>(hf _ m).2.1 rfl
 refine I.step (fun b m=>⟨(hf b m).2.2.2.1,(hf b m).2.1,(hf b m).2.2.2.2.1,(hf b m).2.2.2.2.2⟩) (fun b o _ _ n e _=>k b o n e) (fun b o _ _ n e _=>⟨o.slots,k b o n e⟩) (fun _ _ _ _ n=>n)
  (fun b o n e=>⟨o,k b o n e⟩) (fun _ _ e=>e) (fun _ _ _ e=>e) (fun b ps e=>⟨#[],by rw[e]; simp⟩) (fun m hm=>?_) (fun b u e=>?_) I.bare
 ·obtain⟨o,es,ep,ho,r⟩:=hm
  exact⟨o,es,ep,k _ o loc ho,r⟩
 ·refine(I.hok b u e).stay (fun c v hc q=>k c v ?_ q) (fun _ q=>q) fun _ _ q=>q
  rcases hc with z | z
  ·rw[z]; exact out b u e
  ·exact out c _ z
end
theorem key_rel {P:bA}{w:aX}{k:aM}{u:aE}(h:(cV P w).is k u=true):RelV (kV k) u:=by
 rcases kJ h with⟨i,tk,e1,e2⟩ | ⟨x,tk,e1,e2⟩
 ·rw[e1,e2]; exact⟨tk,rfl⟩
 ·rw[e1,e2]; exact⟨tk,rfl⟩
theorem kv_get : ∀ {kvs:List (aM×V)} {vs:List (aM×aE)} {i:Nat} {kv:aM×V},KV kvs vs->kvs[i]?=some kv -> ∃ u,vs[i]?=some u/\kv.1=u.1/\RelV kv.2 u.2
 | _,_,0,_,.cons h _,e=>by
  cases e
  exact⟨_,rfl,h.1,h.2⟩
 | _,_,i+1,_,.cons _ t,e=>by
  obtain⟨u,g⟩:=kv_get t (by simpa using e)
  exact⟨u,by simpa using g⟩
noncomputable def qC (a:aB)(ep n:Nat):It:=
 ⟨fun i H=>∃ kvs kv,H a=some (.dK ep kvs)/\kvs.length=n/\kvs[i]?=some kv,fun i H x H'=>H'=H /\ ∀ kvs,H a=some (.dK ep kvs) -> ∃ kv,kvs[i]?=some kv/\x=kV kv.1,fun i H=>∃ kvs,H a=some (.dK ep kvs)/\kvs.length=n/\n≤i⟩
theorem turn_dict {P:bA}{w:aX}{K:aI}{tg:aS}(a it:aB)(ep n:Nat):Turn P w K tg (qC a ep n) [it] it (fun i h=>h.IsKeyIter it a i n ep) where
 mem:=dG.mpr rfl
 obj:=fun i h ⟨o,e,_,d⟩ b hb=>by
  rw[dG.mp hb]
  exact⟨o,e,fun v z=>by rw[d] at z; cases z⟩
 keep:=fun i h h' st k=>st.at fun o e=>k it (dG.mpr rfl) o e
 item:=by
  intro X hP hw hK hc i pins s σ H E I hf st hg
  subst hP hw hK
  obtain⟨kvs,kv,ha,hn,hk⟩:=hg
  subst hn
  obtain⟨z,nm,vs,r,d⟩:=mO I.hok (.inl ha)
  have hl:kvs.length=vs.length:=r.length
  obtain⟨u,hu,r1,r2⟩:=kv_get r hk
  obtain⟨uk,uv⟩:=u
  rw[hl] at st
  refine wpAny_pyNext_dict_item st d hu fun key h' hkey st' sb=>?_
  have I1:Inv X pins σ H { s with heap:=h' }:=I.turnM (t':=s.toks) hf fun b o nb e=>sb.extBut b o (fun q=>nb (dG.mpr q)) e
  obtain⟨o,e,c,dd⟩:=id st'
  have r1':kv.1=uk:=r1
  refine⟨key,rfl,go_of (s:={ s with heap:=h' }) e c dd (by decide) ⟨kV kv.1,H,I1,by rw[r1']; exact key_rel hkey,⟨rfl,fun kvs' h2=>?_⟩,by rw[hl]; exact st',fun b hb=>(hf b hb).1⟩⟩
  rw[ha] at h2
  cases h2
  exact⟨kv,hk,rfl⟩
 done:=by
  intro X hP hw hK hc i pins s σ H E I hf st hg
  subst hP hw hK
  obtain⟨kvs,ha,hn,hi⟩:=hg
  subst hn
  obtain⟨z,nm,vs,r,d⟩:=mO I.hok (.inl ha)
  have hl:kvs.length=vs.length:=r.length
  rw[hl] at st
  exact wpAny_pyNext_dict_end (I.ok.hd hc) st d (by simp; omega) fun h' eb=>⟨rfl,I.turnM (t':=s.toks) hf fun b o nb e=>eb b o (fun q=>nb (dG.mpr q)) e⟩
 self:=fun _ _ _ _ _ st h=>wpAny_pyIter_keyiter st h
section
variable {X:Cx}{tg l e:aS}
noncomputable def iDic (tl:TE):TI:=fun σ H R=>tl σ H fun x H1=>∃ a ep kvs,x = .ref a/\H1 a=some (.dK ep kvs)/\R (qC a ep kvs.length) H1
theorem pi_dict {tl:TE}(hl:PE X l tl):PI X tg l (iDic tl):=by
 intro pins s σ H R I h
 refine thn (hl pins s σ H _ I h) fun v s1 gh=>?_
 obtain⟨x,H1,I1,r1,q1⟩:=gh
 obtain⟨a,ep,kvs,rfl,ha,q⟩:=q1
 cases r1
 obtain⟨z,nm,vs,r,d⟩:=mO I1.hok (.inl ha)
 have hn:=r.length
 refine wpAny_pyIter_dict nm d ?_
 refine⟨s1.heap.objs.size,[s1.heap.objs.size],_,_,H1,rfl,I1.kept fun b o e=>cF _ e,turn_dict a _ ep kvs.length,⟨_,dU _ rfl,rfl,by rw[hn]; rfl⟩,fun b hb=>?_,q⟩
 rw[dG.mp hb]
 exact I1.fpOk (bM _) (I1.hok.fresh (bM _))
theorem repk_get {K:aI}{H:Hp} : ∀ {kds:List (aA×aA)} {kvs:List (aM×V)} {i:Nat} {kd:aA×aA},Abj K H kds kvs->kds[i]?=some kd -> ∃ kv,kvs[i]?=some kv/\kd.1=kD kv.1/\Abb K H kd.2 kv.2
 | (k,d)::ds,kvs,0,kd,r,e=>by
  obtain⟨k',y,t,rfl,ek,h1,h2⟩:=Aav.mp r
  cases e
  exact⟨(k',y),rfl,ek,h1⟩
 | (k,d)::ds,kvs,i+1,kd,r,e=>by
  obtain⟨k',y,t,rfl,ek,h1,h2⟩:=Aav.mp r
  obtain⟨kv,g1,g2⟩:=repk_get h2 (by simpa using e)
  exact⟨kv,by simpa using g1,g2⟩
end
theorem BZ:entryFor table "dict.update.loop" = some Builtin.«dict.update.loop»:=entryFor_of_tree (by kernel_rfl)
theorem uJ:plainId "dict.update.loop" = true:=by decide +kernel
theorem FS:pP (.type "list") "keys" = pure none:=by rw[typeLookup_type,builtinLookup_eq_fast]; kernel_rfl
section
variable {prog:bA}{w:aX}{A:bQ}{E:aE->aG->Prop}{s:aG}
set_option maxHeartbeats 4000000 in
theorem no_keys {a:aB}{xs:Array aE}{k:Nat}{sl:Array (Option aE)}{Q:Option aE->aG->Prop}(hx:s.heap.get? a=some { cls:=.type "list",dict:=none,data:=.seq xs k,slots:=sl })(hA:A.handled=none)
  (h : ∀ h' tk,(∀ b o,s.heap.get? b=some o->h'.get? b=some o)->Q none { s with heap:=h',toks:=tk }):aO (aP prog w) A (getAttr? (.ref a) "keys") Q E s:=by
 obtain⟨hp,g,d,tk,os⟩:=s
 have hT : ∀ tk',(⟨hp,g,d,tk',os⟩:aG).TypeIs (.ref a) "list":=fun _=>⟨_,hx,rfl⟩
 have f1:=sub_AttributeError
 have f3:=EY.lookup
 have f4:=EY.bind (.ref a)
 have f5:=am_list_getattr_none
 unfold getAttr? getAttrBy? getAttrBy
 repeat (any_goals (first | assumption | exact hT _ | ((with_reducible show aO _ _ (call (sC "list.__getattribute__") _ _) _ _ _); refine call_meets EY (hT _) am_entry_list_getattribute (F.args_list_getattribute_2 _ _) (meets_getattribute_miss_list a xs k sl _ _ FS (by decide +kernel)) ⟨hx,hA,fun h' tk' e hx'=>?_⟩) | wp_step))
 obtain⟨t',u',he⟩:=hx'.there
 unfold getattributeRaised
 repeat (any_goals (first | assumption | wp_step))
 exact h _ _ hx'.keeps
def Als (h:aR)(D:aB)(wr:List aB)(items:Array aE)(kvs:List (aM×aE)):Prop:=
 ∀ (j:Nat) v,items[j]?=some v -> ∃ b kv p,v = .ref b/\kvs[j]?=some p/\h.IsTuple b #[kv,p.2]/\(cV prog w).is p.1 kv=true/\b≠D/\b∉wr
theorem Als.keep {h h':aR}{D:aB}{wr:List aB}{items:Array aE}{kvs:List (aM×aE)}(q:Als (prog:=prog) (w:=w) h D wr items kvs)(k : ∀ b o,b≠D->b∉wr->h.get? b=some o->h'.get? b=some o):Als (prog:=prog) (w:=w) h' D wr items kvs:=fun j v e=>by
 obtain⟨b,kv,p,rfl,e1,⟨o,e2,e3⟩,e4,e5,e6⟩:=q j v e
 exact⟨b,kv,p,rfl,e1,⟨o,k b o e5 e6 e2,e3⟩,e4,e5,e6⟩
theorem BI : ∀ (more kvs:List (aM×aE)),(kL kvs more).length≤kvs.length+more.length
 | [],kvs=>bM _
 | p::r,kvs=>by
  have h1:=BI r (nX kvs p.1 p.2)
  have h2:(nX kvs p.1 p.2).length≤kvs.length+1:=by
   unfold nX
   split <;> simp
  show(kL (nX kvs p.1 p.2) r).length≤_
  rw[eN]
  omega
theorem loop_dict {R:lY->aG->Prop}{I:aB}{fp wr:List aB}{G:Array pY->Array pY->Prop}{n:Nat}{items:Array aE}{St:Nat->aG->Prop}
  (W:WalksS prog w A.in1 I fp wr G n (fun i v=>items[i]?=some v) St) (D:aB) (hDf:D∉fp) (kvs:List (aM×aE)) (hn:n≤sizeLine) (hkl:kvs.length=n) :
  ∀ (k i:Nat) (s:aG),n - i=k->i≤n->St i s->s.heap.DictOf (cV prog w) D (kL [] (kvs.take i))->Als (prog:=prog) (w:=w) s.heap D wr items kvs ->
   (∀ s',Moved (D::wr) G s s'->s'.heap.DictOf (cV prog w) D (kL [] kvs)->R (.ok (.ret .none)) s') ->
   gZ (aP prog w) A (.builtin "dict.update.loop" ⟨[.ref D,.ref I,rawInt (i:Int),.none],[]⟩) R s:=by
 have hDw:D∉wr:=fun z=>hDf (W.sub _ z)
 have more : ∀ b∈wr,b∈D::wr:=fun b z=>cI _ z
 intro k
 induction k with
 | zero=>
  intro i s hk hi hst hS hT hR
  obtain rfl:i=n:=by omega
  refine oA BZ ?_
  rw[sW uJ _]
  refine aL (W.done s _ _ hst fun s' hm=>?_)
  refine aL (bB (bB (hR s' (hm.mono more) ?_)))
  obtain⟨o,es,ep,ho,r⟩:=hS
  rw[← hkl,EG] at r
  exact⟨o,es,ep,hm.heap D o hDw ho,r⟩
 | succ k ih=>
  intro i s hk hi hst hS hT hR
  have hlt:i<n:=by omega
  refine oA BZ ?_
  rw[sW uJ _]
  refine aL (W.item i s _ _ hlt hst fun v s' hPi hst' hm=>?_)
  have hT':=hT.keep fun b o _ h2 e=>hm.heap b o h2 e
  obtain⟨b,kv,p,rfl,e1,tb,e4,e5,e6⟩:=hT' i v hPi
  have hS':s'.heap.DictOf (cV prog w) D (kL [] (kvs.take i)):=by
   obtain⟨o,es,ep,ho,r⟩:=hS
   exact⟨o,es,ep,hm.heap D o hDw ho,r⟩
  have hstep:kL [] (kvs.take (i+1))=nX (kL [] (kvs.take i)) p.1 p.2:=by
   rw[yZ,e1]
   simp[kL,List.foldl_append]
  have hlen:(kL [] (kvs.take i)).length≤sizeLine:=by
   have:=BI (kvs.take i) []
   rw[nE] at this
   simp at this
   omega
  refine aL (iG (aL (wpAny_tryCatch ?_)))
  unfold Builtin.Dict.pairItems
  refine aL (rT tb.typeIs ?_)
  obtain⟨ob,g1,g2,nb,g3⟩:=tb
  refine aL (wpAny_seqItems g1 g3 (bB ?_))
  refine iG (wpAny_dictSet_pairs e4 hS' (fun h' d' sb=>?_) hlen)
  refine bB ⟨rX uJ _,?_⟩
  refine ih (i+1) _ (by omega) hlt (W.frame _ s' _ _ hst' (nC _) fun c hc o e=>?_) (by rw[hstep]; exact d') (hT'.keep fun b o h1 _ e=>(sb.2 b h1).trans e) fun s'' hm'' S4=>?_
  ·exact(sb.2 c (fun z=>hDf (z ▸ hc))).trans e
  ·exact hR s'' (Moved.trans W.gtrans ((hm.mono more).then_heap (nC _) fun c o hc e=>(sb.2 c (fun z=>hc (z ▸ cA))).trans e) hm'') S4
theorem call_dictP {l:aB}{items:Array aE}{nl:Nat}{sl:Array (Option aE)}{kvs:List (aM×aE)}{Q:aE->aG->Prop}(hh:A.handled=none)(hl:s.heap.get? l=some { cls:=.type "list",dict:=none,data:=.seq items nl,slots:=sl })
  (hkl:kvs.length=items.size) (hz:items.size≤sizeLine) (hp : ∀ (j:Nat) v,items[j]?=some v -> ∃ b kv p,v = .ref b/\kvs[j]?=some p/\s.heap.IsTuple b #[kv,p.2]/\(cV prog w).is p.1 kv=true)
  (h : ∀ h' tk,h'.DictOf (cV prog w) s.heap.objs.size (kL [] kvs)->(∀ b o,s.heap.get? b=some o->h'.get? b=some o)->Q (.ref s.heap.objs.size) { s with heap:=h',toks:=tk }) :
  aO (aP prog w) A (call (.type "dict") [.ref l]) Q E s:=by
 refine callType_codes (Q₁:=fun obj s₁=>obj = .ref s.heap.objs.size/\s₁ = { s with heap:=s.heap.push { cls:=.type "dict",data:=.dict #[] } }) F.kt_called_dict (F.kt_typeCall_dict_1 _) F.entry_dict_init (kt_code_dict_new _ ⟨rfl,rfl⟩) ?_
 rintro obj s₁ ⟨rfl,rfl⟩
 have dn:(s.heap.push { cls:=.type "dict",data:=.dict #[] }).DictOf (cV prog w) s.heap.objs.size []:=Heap.DictOf.new s.heap
 have l1:(s.heap.push { cls:=.type "dict",data:=.dict #[] }).get? l=some { cls:=.type "list",dict:=none,data:=.seq items nl,slots:=sl }:=cF _ hl
 refine⟨dn.typeIs,F.args_dict_init_2 _ _,?_⟩
 unfold Builtin.«dict.__init__»
 refine aL ?_
 unfold Builtin.Dict.selfAndRest
 refine aL (wpAny_notOrdered_dict dn.typeIs (bB ?_))
 show aO _ _ (Builtin.Dict.updateFrom "dict.__init__" s.heap.objs.size (.ref l) [] .none) _ _ _
 unfold Builtin.Dict.updateFrom
 refine aL (rT (T:="list") ⟨_,l1,rfl⟩ ?_)
 rw[if_pos (by decide)]
 refine aL (no_keys l1 (by simp[hh]) fun h1 tk k1=>?_)
 show aO _ _ (rule _ >>= fun _=>pyIter (.ref l) >>= _) _ _ _
 have l2:h1.get? l=some { cls:=.type "list",dict:=none,data:=.seq items nl,slots:=sl }:=k1 _ _ l1
 have L2:h1.IsList l items:=⟨_,l2,rfl,nl,rfl⟩
 refine aL (wpAny_rule (aL (yC L2 (bB ⟨rX uJ _,?_⟩))))
 have lS:l<s.heap.objs.size:=bK hl
 have d1:h1.DictOf (cV prog w) s.heap.objs.size []:=by
  obtain⟨o,es,ep,ho,r⟩:=dn
  exact⟨o,es,ep,k1 _ _ ho,r⟩
 have sD:s.heap.objs.size<h1.objs.size:=by
  obtain⟨o,es,ep,ho,r⟩:=d1
  exact bK ho
 have nI:l≠h1.objs.size:=cK (sI lS sD)
 have nS:s.heap.objs.size∉[h1.objs.size,l]:=fun z=>by
  rcases cN.mp z with z | z
  ·exact absurd z (cK sD)
  ·exact absurd (dG.mp z) (lE lS)
 have old : ∀ b o,s.heap.get? b=some o->(h1.push { cls:=.type "list_iterator",data:=.fields #[.ref l,.int 0 0] }).get? b=some o:=fun b o e=>cF _ (k1 _ _ (cF _ e))
 refine loop_dict (w:=w) ((Walks.list (by simp[hh]) _ l nI items).toS) s.heap.objs.size nS kvs hz hkl (items.size - 0) 0 _ rfl (eE _) ⟨⟨_,dU _ rfl,rfl,rfl⟩,L2.push _⟩ (d1.push _) ?_ fun s' hm S'=>?_
 ·intro j v e
  obtain⟨b,kv,p,rfl,e1,⟨o,e2,e3⟩,e4⟩:=hp j v e
  have lb:b<s.heap.objs.size:=bK e2
  exact⟨b,kv,p,rfl,e1,⟨o,old b o e2,e3⟩,e4,cK lb,fun z=>absurd (dG.mp z) (cK (sI lb sD))⟩
 ·obtain⟨h',g',d',tk',os'⟩:=s'
  obtain rfl:g'=s.gens:=hm.gens
  obtain rfl:d'=s.drawn:=hm.drawn
  obtain rfl:os'=s.os:=hm.os
  refine⟨rfl,h h' tk' S' fun b o e=>?_⟩
  have lb:b<s.heap.objs.size:=bK e
  refine hm.heap b o (fun z=>?_) (old b o e)
  rcases cN.mp z with z | z
  ·exact absurd z (cK lb)
  ·exact absurd (dG.mp z) (cK (sI lb sD))
end
theorem pr_map {α β:Type}{R R':α->β->Prop}(f : ∀ a b,R a b->R' a b) : ∀ {as:List α} {bs:List β},cZ R as bs->cZ R' as bs:=by
 intro as bs h
 induction h with
 | nil=>exact .nil
 | cons h _ ih=>exact .cons (f _ _ h) ih
section
variable {X:Cx}
abbrev PairV (K:aI)(H:Hp)(ys:List V)(ps:List (aM×V)):Prop:=cZ (fun y (p:aM×V)=>∃ b,y=V.ref b/\SqT K H b [kV p.1,p.2]) ys ps
theorem pairs_of {pins:List (aB×aT)}{σ:St}{H:Hp}{s:aG}(I:Inv X pins σ H s) : ∀ {ys:List V} {ps:List (aM×V)} {its:List aE},PairV X.K H ys ps->Vals ys its ->
  ∃ kvs:List (aM×aE),KV ps kvs/\kvs.length=its.length /\ ∀ (j:Nat) v,its[j]?=some v -> ∃ b kv p,v = .ref b/\kvs[j]?=some p/\s.heap.IsTuple b #[kv,p.2]/\(cV X.prog X.w).is p.1 kv=true:=by
 intro ys ps its hp
 induction hp generalizing its with
 | nil=>
  intro r
  cases r
  exact⟨[],.nil,rfl,fun j v e=>by simp at e⟩
 | @cons y p ys ps hq t ih=>
  intro r
  obtain⟨b,e,q⟩:=hq
  subst e
  cases r with
  | cons r rr=>
   cases r
   obtain⟨kvs,h1,h2,h3⟩:=ih rr
   obtain⟨us,rv,tb,_⟩:=I.tuple q
   cases rv with
   | cons ra rb=>
    cases rb with
    | cons rb rc=>
     cases rc
     refine⟨(p.1,_)::kvs,.cons ⟨rfl,rb⟩ h1,by simp[h2],fun j v e=>?_⟩
     cases j with
     | zero=>
      cases e
      exact⟨b,_,(p.1,_),rfl,rfl,tb,kV_is ra⟩
     | succ j=>exact h3 j v (by simpa using e)
theorem call_dictPD (hc:X.calm=true):Acv X (.type "dict") (fun xs H Q=>∃ p ys ps,xs=[.ref p]/\SqL X.K H p ys/\PairV X.K H ys ps /\ ∀ q n,H q=none->Q (.ref q) (upd H q (.dK n (mU [] ps)))):=by
 intro pins s σ H xs us Q I r h
 obtain⟨p,ys,ps,rfl,hp,hv,q⟩:=h
 obtain⟨u,rfl,ru⟩:=vals1 r
 cases ru
 obtain⟨its,rv,⟨o,n,ho,hc1,hc2,hc3⟩,hz⟩:=I.list hp
 obtain⟨kvs,h1,h2,h3⟩:=pairs_of I hv rv
 have e1:=rv.length
 obtain⟨c,dct,dat,sl⟩:=o
 simp only at hc1 hc2 hc3
 subst hc1 hc2 hc3
 refine call_dictP (I.ok.hd hc) ho (by rw[dP]; exact h2) (by rw[dP]; omega) (fun j v e=>h3 j v (by simpa using e)) fun h' tk dd hk=>?_
 obtain⟨m,da⟩:=dd.dictAt
 have lz:(mU [] ps).length≤sizeLine:=by
  have l1:=CP ps []
  have l2:=nB h1
  simp at l1
  omega
 exact⟨.ref s.heap.objs.size,_,I.laid hk (bM _) (dk_new lz (beq_eq_false_iff_ne.mpr (gU (cK I.big))) (h1.merge .nil) da),rfl,q _ m I.fresh⟩
noncomputable def asPs:List aA->Option (List (aM×aA))
 | []=>some []
 | .tuple [k,d]::r=>(cW k).bind fun k=>(asPs r).bind fun ps=>some ((k,d)::ps)
 | _::_=>none
noncomputable def nN (ps:List (aM×aA))(kds:List (aA×aA)):List (aA×aA):=ps.foldl (fun acc p=>putD acc p.1 p.2) kds
noncomputable def nM:List aA->Option aA
 | [.list ds]=>(asPs ds).bind fun ps=>some (.dict (nN ps []))
 | _=>none
theorem merge_rep {K:aI}{H:Hp} : ∀ {ps:List (aM×aA)} {qs:List (aM×V)},cZ (fun(p:aM×aA) (q:aM×V)=>p.1=q.1/\Abb K H p.2 q.2) ps qs -> ∀ {kds:List (aA×aA)} {kvs:List (aM×V)},Abj K H kds kvs->Abj K H (nN ps kds) (mU kvs qs):=by
 intro ps qs hp
 induction hp with
 | nil=>exact fun r=>r
 | @cons p q ps qs hq t ih=>
  intro kds kvs r
  have:=ih (put_rep (k:=p.1) r hq.2)
  show Abj K H (nN _ (putD kds p.1 p.2)) (mU (putK kvs q.1 q.2) _)
  rw[← hq.1]
  exact this
theorem asPs_rep {K:aI}{H:Hp} : ∀ {ds:List aA} {ps:List (aM×aA)} {ys:List V},asPs ds=some ps->Aaq K H ds ys -> ∃ qs:List (aM×V),cZ (fun(y:V) (q:aM×V)=>∃ b,y=V.ref b/\H b=some (.tup [kV q.1,q.2])) ys qs/\cZ (fun(p:aM×aA) (q:aM×V)=>p.1=q.1/\Abb K H p.2 q.2) ps qs:=by
 intro ds
 induction ds with
 | nil=>
  intro ps ys e r
  cases e
  rw[Aal.mp r]
  exact⟨[],.nil,.nil⟩
 | cons z ds ih=>
  intro ps ys e r
  cases z with
  | tuple zs=>
   cases zs with
   | nil=>cases e
   | cons k zs=>
    cases zs with
    | nil=>cases e
    | cons d zs=>
     cases zs with
     | cons _ _=>cases e
     | nil=>
      obtain⟨key,e1,e⟩:=XBs (show((cW k).bind fun k=>(asPs ds).bind fun ps=>some ((k,d)::ps))=some ps from e)
      obtain⟨ps',e2,e⟩:=XBs e
      cases e
      obtain⟨v,t,rfl,r1,r2⟩:=Aad.mp r
      obtain⟨qs,h1,h2⟩:=ih e2 r2
      obtain⟨b,xs,rfl,hb,rx⟩:=Aa1.mp r1
      obtain⟨u1,t1,rfl,a1,a2⟩:=Aad.mp rx
      obtain⟨u2,rfl,a3⟩:=fF a2
      rw[pB e1 a1] at hb
      exact⟨(key,u2)::qs,.cons ⟨b,rfl,hb⟩ h1,.cons ⟨rfl,a3⟩ h2⟩
  | _=>cases e
theorem calld_dictP {K:aI}:CallD K 1 (fun xs H Q=>∃ p ys ps,xs=[.ref p]/\SqL K H p ys/\PairV K H ys ps /\ ∀ q n,H q=none->Q (.ref q) (upd H q (.dK n (mU [] ps)))) nM:=fun P H xs ds d Q hP r e k=>by
 unfold nM at e
 split at e
 ·obtain⟨ps,e1,e2⟩:=XBs e
  cases e2
  obtain⟨v,rfl,r'⟩:=fF r
  obtain⟨q,ys,rfl,hq,rr⟩:=Aa9.mp r'
  obtain⟨qs,h1,h2⟩:=asPs_rep e1 rr
  refine⟨q,ys,qs,rfl,Aa3.sqL hq,?_,fun l n hn=>k.dic hP hn (merge_rep h2 (Aba.mpr rfl))⟩
  exact pr_map (fun y p ⟨b,e,hb⟩=>⟨b,e,SqT.of (Aa3 _ _ hb)⟩) h1
 ·cases e
end
abbrev TE3:=List aA×aB×aE
section
variable {X:Cx}
theorem Ait.ext {H H':Hp}(x:Ext H H'){k:List aA}{c:aB}(t:Ait H k c):Ait H' k c:=t.keep fun b xs e=>x _ _ e
end
theorem Acg.length {K:aI}{H:Hp} : ∀ {kds:List (aA×aA)} {ts:List (List aA×V)},Acg K H kds ts->ts.length=kds.length
 | [],ts,h=>by rw[Acn.mp h]; rfl
 | (k,d)::r,ts,h=>by
  obtain⟨k',x,rr,rfl,_,_,h2⟩:=Abp.mp h
  simp[Acg.length h2]
section
variable {X:Cx}{H0:Hp}{P0:aB->Prop}{n0:Nat}{x:aD}{e k:aS}{f g:EF}{pos px apos:bG}
theorem meets_lenH {prog:bA}{w:aX}(d:aB)(hd:(d == gK)=false) :
  MeetsIn prog w (Builtin.«dict.__len__» ⟨[.ref d],[]⟩) (fun _ R s=>∃ xs,s.heap.DictOfH (lO prog w) d xs/\R (.ok (.ret (.int xs.length s.toks))) { s with toks:=s.toks+1 }):=
 .of_wp fun A R s gh=>by
  obtain⟨xs,hm,h⟩:=gh
  obtain⟨o,es,ep,ho,hc,hdat,hes,_,_⟩:=hm
  show aO _ _ (dictSize d >>= _) _ _ s
  unfold dictSize
  refine aL (aL (yF ho hdat (bB ?_)))
  refine aL (wpAny_pendingCount_other hd (wpAny_ret_mkInt ?_))
  have:=size_of_entries hes
  rw[Nat.add_zero,this]
  exact h
theorem lenH {prog:bA}{w:aX}{A:bQ}{E:aE->aG->Prop}{s:aG}{d:aB}{xs:List TE3}{Q:aE->aG->Prop}(hd:(d == gK)=false)(hm:s.heap.DictOfH (lO prog w) d xs)(hz:(xs.length:Int)<2 ^ 63)(h : ∀ t s',s' = { s with toks:=s.toks+1+1 }->Q (.int xs.length t) s') :
  aO (aP prog w) A (call (.builtin "len") [.ref d]) Q E s:=by
 refine FA kind_len plain_len entry_len (args_len1 _) ?_
 unfold Builtin.«len»
 refine aL (bB ?_)
 refine aL (CY hm.typeIs F.slot_dict_len (call_meetsIn F.slot_dict_len hm.typeIs F.entry_dict_len (F.args_dict_len_1 _) (meets_lenH d hd) ⟨xs,hm,?_⟩))
 refine aL (iG (bB ?_))
 refine aL (wpAny_letGo ?_)
 rw[if_neg (by omega)]
 rw[if_neg (by omega)]
 exact aL (wpAny_mkInt (bB ⟨_,rfl,h _ _ rfl⟩))
theorem call_lenT:Acv X (.builtin "len") (fun xs H Q=>∃ a ep ts,xs=[V.ref a]/\H a=some (.dT ep ts)/\Q (.int ts.length) H):=by
 intro pins s σ H xs us Q I r h
 obtain⟨a,ep,ts,rfl,ha,q⟩:=h
 obtain⟨u,rfl,ru⟩:=vals1 r
 cases ru
 obtain⟨z,hd,ys,kt,dd⟩:=dt_of I.hok ha
 have e:=nB kt
 refine lenH hd dd (by rw[← e]; rw[mY] at z; omega) fun t s' es=>?_
 subst es
 exact⟨.int ts.length,H,I.tok _,⟨t,by rw[e]⟩,q⟩
noncomputable def gLenT:List aA->Option aA
 | [.dict ((.none,.none)::kds)]=>some (.int kds.length)
 | _=>none
theorem calld_lenT {K:aI}:CallD K 0 (fun xs H Q=>∃ a ep ts,xs=[V.ref a]/\H a=some (.dT ep ts)/\Q (.int ts.length) H) gLenT:=fun P H xs ds d Q hP r e k=>by
 unfold gLenT at e
 split at e
 ·cases e
  obtain⟨v,rfl,r'⟩:=fF r
  obtain⟨a,ts,rfl,ha,rr⟩:=(mW).mp r'
  exact⟨a,ts.1,ts.2,rfl,Aa3 _ _ ha,k.zero Ext.refl (Aam.mpr (by rw[rr.length]))⟩
 ·cases e
end
noncomputable def lI (c:aD):aA->Option (aA×aA)
 | .dict [(.none,.str c'),(.none,.tuple [.str a,W]),(.none,.tuple [.str b,D])]=>if c'=c/\a = "wide" /\ b = "held" then some (W,D) else none
 | _=>none
theorem wC {c:aD}{d:aA}{p:aA×aA}(h:lI c d=some p):d=insD c p.1 p.2:=by
 unfold lI at h
 split at h
 ·obtain⟨⟨rfl,rfl,rfl⟩,rfl⟩:=cP h
  rfl
 ·cases h
theorem asIns_mk (c:aD)(W D:aA):lI c (insD c W D)=some (W,D):=by simp[lI,insD]
noncomputable def mM (c:aD)(d:aA):Option aA:=(lI c d).map (·.1)
noncomputable def mJ (c:aD)(d:aA):Option aA:=(lI c d).map (·.2)
structure InsC (K:aI)(c:aD):Prop where
 ex : ∃ C,cY K c=some (.ref C)/\Cls K C/\Ah5 K C "wide" /\ Ah5 K C "held"
theorem qO {K:aI}{c:aD}{C C':aB}(h:cY K c=some (.ref C))(h':cY K c=some (.ref C')):C'=C:=by
 rw[h] at h'
 injection h' with h'
 injection h' with h'
 exact h'.symm
theorem BH (w q:V):iC ("wide" : aD) [(("wide" : aD),w),("held",q)]=some w:=by simp[iC]
theorem zL (w q:V):iC ("held" : aD) [(("wide" : aD),w),("held",q)]=some q:=by
 have:(("held" : aD) == ("wide" : aD))=false:=by decide +kernel
 simp[iC,this]
section
variable {X:Cx}{e o:aS}{es:List aS}{f fo:EF}{fa:AF}{c m:aD}{pos apos:bG}{k n:Nat}{ps:List aD}{F:FX}
theorem de_wide (T:InsC X.K c)(h:DE X e f)(hb:iX e "wide" X.env (bC e X.env)=bC e X.env:=by rfl):DE X (.Attribute e "wide" pos) (eUn (mM c) f):=
 PE.imp (pe_fld h hb) fun σ H Q gh=>by
  obtain⟨P,ρ,d,hP,rs,ef,k⟩:=gh
  obtain⟨d1,e1,ef⟩:=XBs ef
  refine⟨P,ρ,d1,hP,rs,e1,cR fun v H1 x1 r1=>?_⟩
  obtain⟨p,ep,rfl⟩:=mD.mp ef
  rw[wC ep] at r1
  obtain⟨C,dx,a,w,q,rfl,hc,ha,h1,h2⟩:=tT r1
  obtain⟨C',c1,c2,c3,c4⟩:=T.ex
  obtain rfl:=qO c1 hc
  exact⟨a,_,dx,_,w,rfl,Aa3 _ _ ha,c2,c3,BH w q,k.zero x1 h1⟩
theorem de_held (T:InsC X.K c)(h:DE X e f)(hb:iX e "held" X.env (bC e X.env)=bC e X.env:=by rfl):DE X (.Attribute e "held" pos) (eUn (mJ c) f):=
 PE.imp (pe_fld h hb) fun σ H Q gh=>by
  obtain⟨P,ρ,d,hP,rs,ef,k⟩:=gh
  obtain⟨d1,e1,ef⟩:=XBs ef
  refine⟨P,ρ,d1,hP,rs,e1,cR fun v H1 x1 r1=>?_⟩
  obtain⟨p,ep,rfl⟩:=mD.mp ef
  rw[wC ep] at r1
  obtain⟨C,dx,a,w,q,rfl,hc,ha,h1,h2⟩:=tT r1
  obtain⟨C',c1,c2,c3,c4⟩:=T.ex
  obtain rfl:=qO c1 hc
  exact⟨a,_,dx,_,q,rfl,Aa3 _ _ ha,c2,c4,zL w q,k.zero x1 h2⟩
theorem iL {ce:aS}(h:CallAt X ce n F fa):DF n X ce (aQ (F none) fa):=fun pins s σ H Q I gh=>by
 obtain⟨P,ρ,d,hP,rs,ef,k⟩:=gh
 obtain⟨ds,e1,ef⟩:=XBs ef
 exact h I hP rs e1 ef k fun H1 s1 v s' I1 x1 hc=>by
  obtain⟨_,_,_,_,_,_,_,_,_,_,_,_,_,_,⟨c',z,_⟩,_⟩:=hc
  cases z
theorem ev_at {ce:aS}{H0:Hp}{P0:aB->Prop}{z:Option aD}(m:Md)(hz : ∀ c,z=some c->XOk X H0 c)(h:CallAt X ce n F fa):PE X ce (tE X.K H0 P0 n m (aQ (F z) fa)):=by
 cases z with
 | none=>exact ev m (iL h)
 | some c=>
  intro pins s σ H Q I hq
  obtain⟨B0,ρ0,fp,d0,S,_,_⟩:=id hq
  obtain⟨P,ρ,d,hP,rs,ef,k⟩:=ev_t m σ H Q hq
  obtain⟨ds,e1,ef⟩:=XBs ef
  exact h I hP rs e1 ef k fun H1 s1 v s' I1 x1 hc=>(hz c rfl).pass pins σ H1 s1 v s' I1 (hc.imp fun cls H' ⟨⟨c',z1,z2⟩,z3⟩=>by
   cases z1
   exact⟨z2,S.ext.trans (x1.trans z3)⟩)
theorem run_at {fa':aB}{fd:eY}{pins:List (aB×aT)}{σ:St}{H1:Hp}{s1:aG}{us:List aE}{vs:List V}{P:aB->Prop}{ds:List aA}{d:aA}{z:Option aD}{Q:VK}(Fk:FnOk X.prog X.w X.K X.mg X.base (CXR X.base X.prog X.w) k fa' fd ps (spX X.K n F))(hr:Room k X.A)(hb:Binds X.K fd ps [])
  (I1:Inv X pins σ H1 s1) (r:Vals vs us) (hP:Hid P H1) (rd:Aaq X.K (hid H1 P) ds vs) (ef:F z ds=some d) (k':Res X.K P n d H1 Q)
  (hx : ∀ v s',CXR X.base X.prog X.w X.stack H1 s1 (fun cls _ H'=>(∃ c,z=some c/\cY X.K c=some cls)/\Ext H1 H') v s'->X.xe v s'):aO (aP X.prog X.w) X.A (call (.ref fa') us) (EP X pins σ Q) X.xe s1:=by
 have q:spX X.K n F vs H1 Q (fun cls _ H'=>(∃ c,z=some c/\cY X.K c=some cls)/\Ext H1 H'):=⟨P,ds,d,z,hP,rd,ef,k',fun c hc cls H' e2 x2=>⟨⟨c,hc,e2⟩,x2⟩⟩
 have hl:us.length=ps.length:=by rw[← r.length]; exact Fk.len _ _ _ _ q
 have hbs:oI s1 fd ⟨us,[]⟩ (ps.zip us):=by
  have:=hb s1 us I1.kIn (by simpa using hl)
  simpa using this
 refine wpAny_call (nZ (Fk.run X.A X.stack s1 H1 ⟨us,[]⟩ us vs Q _ hr I1.env0 hbs r q) fun r s' hq=>?_)
 cases r with
 | error e=>exact hx e s' hq
 | ok fl=>
  cases fl with
  | ret u=>exact I1.after hq
  | next=>exact iD hq
  | brk=>exact iD hq
  | cont=>exact iD hq
structure MethX (P:bA)(w:aX)(K:aI)(mg:aD->Option aE)(base:aR)(c m:aD)(k:Nat)(ps:List aD)(sp:Sp):Prop where
 ex : ∃ C f fd,cY K c=some (.ref C)/\Cls K C/\Meth K C m f/\FnOk P w K mg base (CXR base P w) k f fd ps sp/\Binds K fd ps []
noncomputable def eF (c:aD)(fo:EF)(fa:AF):AF:=fun ρ=>(fo ρ).bind fun d=>if (lI c d).isSome=true then(fa ρ).bind fun ds=>some (d::ds) else none
theorem zT {ρ:List (Option aA)}{ds:List aA}(h:eF c fo fa ρ=some ds) : ∃ W D ds',fo ρ=some (insD c W D)/\fa ρ=some ds'/\ds=insD c W D::ds':=by
 obtain⟨d,e1,h⟩:=XBs h
 by_cases q:(lI c d).isSome=true
 ·rw[if_pos q] at h
  obtain⟨ds',e2,h⟩:=XBs h
  cases h
  obtain⟨p,ep⟩:=uY.mp q
  have:=wC ep
  subst this
  exact⟨_,_,ds',e1,e2,rfl⟩
 ·rw[if_neg q] at h; cases h
theorem qQ {pl:Sem Bool}(M:MethX X.prog X.w X.K X.mg X.base c m k ps (spX X.K n F))(hr:Room k X.A)(ho:DE X o fo)(ha:DA X (e::es) fa)(hlk : ∀ w q:V,iC m [(("wide" : aD),w),("held",q)]=none:=by intro _ _; rfl)
  (hst:bF (e::es) X.env=(false,bC e X.env)::bF es X.env:=by rfl) (hpl:(eQ pos (bF es X.env)).any (·.1)=false:=by rfl)
  (ht:bC (.Call (.Attribute o m apos) (e::es) [] pos) X.env=(do
   let ov ← bC o X.env
   standAt apos.atName
   let (f,first) ← lW [ov] (getMethod ov m pl)
   callWith pos f first (eQ pos (bF (e::es) X.env)) (sA pos (rY [] X.env))):=by rfl):CallAt X (.Call (.Attribute o m apos) (e::es) [] pos) n F (eF c fo fa):=by
 intro pins σ H s z Q P ρ ds d I hP rs e1 ef k' hx
 obtain⟨C,f,fd,hc,cl,me,Fk,hb⟩:=M.ex
 obtain⟨W,D,ds',e0,e1',rfl⟩:=zT e1
 refine PySem.W.methodCall_KW (pl:=pl) (thn (ho pins s σ H (fun v H1=>Ext H H1/\Abb X.K (hid H1 P) (insD c W D) v) I ⟨P,ρ,_,hP,rs,e0,cR fun v H1 x1 r1=>⟨x1,r1⟩⟩) fun u s1 ⟨x,H1,I1,rx,x1,r1⟩=>?_) ht
 obtain⟨C',dx,a,w,q,rfl,hc',ha',h1,h2⟩:=tT r1
 obtain rfl:=qO hc hc'
 obtain rfl:u=dB a:=rx
 refine BR I1 (Aa3 _ _ ha') cl me (hlk w q) ?_
 refine DR (first:=[.ref a]) (h₀:=X.base) I.ok.mod.kin me.kp (thn (ha pos pins s1 σ H1 (fun vs H2=>Ext H1 H2/\Aaq X.K (hid H2 P) ds' vs) I1 ⟨P,ρ,ds',hP.ext x1,rs.ext (cT x1),e1',fun vs H2 x2 r2=>⟨x2,r2⟩⟩) fun us s2 ⟨vs,H2,I2,r,x2,r2⟩=>⟨I2.kIn,?_⟩) hst hpl
 exact run_at (us:=.ref a::us) (vs:=.ref a::vs) Fk hr hb I2 (.cons rfl r) (hP.ext (x1.trans x2)) (Aad.mpr ⟨_,_,rfl,r1.ext (cT x2),r2⟩) ef (k'.mono (x1.trans x2)) fun v s' hc=>hx H2 s2 v s' I2 (x1.trans x2) hc
theorem nR {pl:Sem Bool}(M:MethX X.prog X.w X.K X.mg X.base c m k ps (spX X.K n F))(hr:Room k X.A)(ho:DE X o fo)(hlk : ∀ w q:V,iC m [(("wide" : aD),w),("held",q)]=none:=by intro _ _; rfl)
  (ht:bC (.Call (.Attribute o m apos) [] [] pos) X.env=(do
   let ov ← bC o X.env
   standAt apos.atName
   let (f,first) ← lW [ov] (getMethod ov m pl)
   callWith pos f first (eQ pos (bF [] X.env)) (sA pos (rY [] X.env))):=by rfl):CallAt X (.Call (.Attribute o m apos) [] [] pos) n F (eF c fo aJ):=by
 intro pins σ H s z Q P ρ ds d I hP rs e1 ef k' hx
 obtain⟨C,f,fd,hc,cl,me,Fk,hb⟩:=M.ex
 obtain⟨W,D,ds',e0,e1',rfl⟩:=zT e1
 cases e1'
 refine PySem.W.methodCall_KW (pl:=pl) (thn (ho pins s σ H (fun v H1=>Ext H H1/\Abb X.K (hid H1 P) (insD c W D) v) I ⟨P,ρ,_,hP,rs,e0,cR fun v H1 x1 r1=>⟨x1,r1⟩⟩) fun u s1 ⟨x,H1,I1,rx,x1,r1⟩=>?_) ht
 obtain⟨C',dx,a,w,q,rfl,hc',ha',h1,h2⟩:=tT r1
 obtain rfl:=qO hc hc'
 obtain rfl:u=dB a:=rx
 refine BR I1 (Aa3 _ _ ha') cl me (hlk w q) ?_
 exact PySem.W.callWith_K0 (first:=[.ref a]) I1.kIn me.kp (run_at (us:=[.ref a]) (vs:=[.ref a]) Fk hr hb I1 (.cons rfl .nil) (hP.ext x1) (Aad.mpr ⟨_,_,rfl,r1,Aal.mpr rfl⟩) ef (k'.mono x1) fun v s' hc=>hx H1 s1 v s' I1 x1 hc)
noncomputable def spInit (K:aI)(c:aD)(F:FX):Sp:=fun vs H Q E=>∃ x dx C v1 P d1 d z,vs=[.ref x,v1]/\H x=some (.ins C dx [])/\cY K c=some (.ref C)/\Hid P H/\Abb K (hid H P) d1 v1/\F z [d1]=some d /\
 (∀ H' Fr,(∀ b o,b≠x->H b=some o->H' b=some o)->Fr.Nodup->(∀ a∈Fr,(a=x \/ H a=none) /\ ∃ o,H' a=some o)->Afg K (hid H' (orL P Fr)) H' 9 d (.ref x) Fr->Q .non H') /\ ∀ c',z=some c' -> ∀ cls H',cY K c'=some cls->Ext H H'->E cls none H'
structure MakeX (P:bA)(w:aX)(K:aI)(mg:aD->Option aE)(base:aR)(c:aD)(k:Nat)(ps:List aD)(F:FX):Prop where
 ex : ∃ C f fd,cY K c=some (.ref C)/\Mk K C f/\FnOk P w K mg base (CXR base P w) k f fd ps (spInit K c F)/\Binds K fd ps []/\mg c=some (.ref C)
 one : ∀ z ds d,F z ds=some d -> ∃ d1,ds=[d1]
theorem tP {p:bG}(D:MakeX X.prog X.w X.K X.mg X.base c k ps F)(hr:Room (k+1) X.A)(hg:Gl X c)(ha:DA X (e::es) fa)(hdb:(c == ("__debug__" : aD))=false:=by decide)(he:bF (e::es) X.env=(false,bC e X.env)::bF es X.env:=by rfl)
  (hpl:(eQ pos (bF es X.env)).any (·.1)=false:=by rfl):CallAt X (.Call (.Name c p) (e::es) [] pos) 9 F fa:=by
 intro pins σ H s z Q P ρ ds d I hP rs e1 ef k' hx
 obtain⟨C,f,fd,hc,M,Fk,hb,hm⟩:=D.ex
 obtain⟨d1,rfl⟩:=D.one _ _ _ ef
 refine yG (oW I hg hm ?_ hdb)
 refine DR (h₀:=X.base) I.ok.mod.kin M.kp (thn (ha pos pins s σ H (fun vs H1=>Ext H H1/\Aaq X.K (hid H1 P) [d1] vs) I ⟨P,ρ,_,hP,rs,e1,fun vs H1 x1 r1=>⟨x1,r1⟩⟩) fun us s1 ⟨vs,H1,I1,r,x1,r1⟩=>⟨I1.kIn,?_⟩) he hpl
 obtain⟨v1,rfl,r3⟩:=fF r1
 obtain⟨u1,rfl,ru⟩:=vals1 r
 have fx:H1 (s1.heap.objs.size+1)=none:=I1.hok.fresh (nC _)
 have fdx:H1 s1.heap.objs.size=none:=I1.hok.fresh (bM _)
 have I2:=Inv.made (C:=C) I1
 have x2:Ext H1 (upd (upd H1 s1.heap.objs.size (.own (s1.heap.objs.size+1))) (s1.heap.objs.size+1) (.ins C s1.heap.objs.size [])):=fun b o q=>by
  rw[bH (fP q fx),bH (fP q fdx)]
  exact q
 have hq:spInit X.K c F [.ref (s1.heap.objs.size+1),v1] (upd (upd H1 s1.heap.objs.size (.own (s1.heap.objs.size+1))) (s1.heap.objs.size+1) (.ins C s1.heap.objs.size [])) (fun v H2=>v = .non/\Q (.ref (s1.heap.objs.size+1)) H2)
   (fun cls _ H'=>(∃ c,z=some c/\cY X.K c=some cls)/\Ext (upd (upd H1 s1.heap.objs.size (.own (s1.heap.objs.size+1))) (s1.heap.objs.size+1) (.ins C s1.heap.objs.size [])) H'):=by
  refine⟨_,_,C,v1,P,d1,d,z,rfl,dQ,hc,hP.ext (x1.trans x2),r3.ext (cT x2),ef,fun H' Fr kp nd fr ro=>⟨rfl,?_⟩,fun c' hc' cls H' e2 x3=>⟨⟨c',hc',e2⟩,x3⟩⟩
  refine k' _ H' Fr (fun b o q=>?_) nd (fun a m=>⟨?_,(fr a m).2⟩) ro
  ·exact kp b o (fP (x1 _ _ q) fx) (x2 _ _ (x1 _ _ q))
  ·rcases(fr a m).1 with rfl | q
   ·exact x1.none fx
   ·exact x1.none (x2.none q)
 have r2:Vals [V.ref (s1.heap.objs.size+1),v1] [dB (s1.heap.objs.size+1),u1]:=.cons rfl (.cons ru .nil)
 have hl:[dB (s1.heap.objs.size+1),u1].length=ps.length:=by
  have e:=r2.length
  rw[Fk.len _ _ _ _ hq] at e
  exact e.symm
 have hbs:oI { s1 with heap:=(s1.heap.push lC).push (mC C s1.heap.objs.size) } fd ⟨[dB (s1.heap.objs.size+1),u1],[]⟩ (ps.zip [dB (s1.heap.objs.size+1),u1]):=by
  have:=hb { s1 with heap:=(s1.heap.push lC).push (mC C s1.heap.objs.size) } [dB (s1.heap.objs.size+1),u1] I2.kIn (by simpa using hl)
  simpa using this
 refine wpAny_call (make_map (f:=f) I1.kIn M.makes M.init (beq_iff_eq.mp M.fn) (nZ (Fk.run _ X.stack _ _ ⟨[dB (s1.heap.objs.size+1),u1],[]⟩ [dB (s1.heap.objs.size+1),u1] _ _ _ (hr.make C [u1] [])
  (I2.env0.make C [u1] []) hbs r2 hq) fun r s' hq'=>?_))
 cases r with
 | error e=>exact hx _ _ e s' I2 (x1.trans x2) hq'
 | ok fl=>
  cases fl with
  | ret u=>
   obtain⟨v,H',I3,rv,ev,q3⟩:=I2.after hq'
   subst ev
   exact⟨rv,⟨V.ref (s1.heap.objs.size+1),H',I3,rfl,q3⟩⟩
  | next=>exact iD hq'
  | brk=>exact iD hq'
  | cont=>exact iD hq'
end
def leS (a b:aD):Prop:=a.cps.toList≤b.cps.toList
theorem leS_trans {a b c:aD}(h1:leS a b)(h2:leS b c):leS a c:=zB h1 h2
theorem leS_anti {a b:aD}(h1:leS a b)(h2:leS b a):a=b:=by
 have e:=List.le_antisymm h1 h2
 obtain⟨x⟩:=a
 obtain⟨y⟩:=b
 have e':x.toList=y.toList:=e
 rw[vL.mp e']
theorem BN : ∀ {p:aD} {l:List aD},risingS p l=true->(∀ x∈l,leS p x)/\l.Pairwise leS
 | p,[],_=>⟨fun x m=>by simp at m,.nil⟩
 | p,x::r,h=>by
  have h':=h
  obtain⟨h1,h2⟩:=kT.mp h'
  rw[ltCps_eq] at h1
  have l1:leS p x:=by
   have:decide (x.cps.toList<p.cps.toList)=false:=by simpa using h1
   exact List.not_lt.mp (of_decide_eq_false this)
  obtain⟨a1,a2⟩:=BN h2
  refine⟨fun y m=>?_,.cons a1 a2⟩
  rcases cN.mp m with rfl | m
  ·exact l1
  ·exact leS_trans l1 (a1 y m)
theorem CB : ∀ {l:List aD},sortedS l=true->l.Pairwise leS
 | [],_=>.nil
 | x::r,h=>by
  obtain⟨a1,a2⟩:=BN h
  exact .cons a1 a2
noncomputable def bW (ss:List aD):List aD:=open Classical in if h : ∃ js:List aD,js.Perm ss/\js.Pairwise leS then h.choose else ss
theorem qY {ss js:List aD}(hp:js.Perm ss)(hr:js.Pairwise leS):js=bW ss:=by
 have h : ∃ js:List aD,js.Perm ss/\js.Pairwise leS:=⟨js,hp,hr⟩
 unfold bW
 rw[dif_pos h]
 exact HP (fun a b _ _ h1 h2=>leS_anti h1 h2) hr h.choose_spec.2 (hp.trans h.choose_spec.1.symm)
theorem sortS_perm {ss ss':List aD}(hp:ss.Perm ss'):bW ss=bW ss' \/ ¬ ∃ js:List aD,js.Perm ss/\js.Pairwise leS:=by
 by_cases h : ∃ js:List aD,js.Perm ss/\js.Pairwise leS
 ·left
  obtain⟨js,h1,h2⟩:=h
  rw[← qY h1 h2,← qY (h1.trans hp) h2]
 ·exact .inr h
theorem sortS_eq {ss ss':List aD}(hp:ss.Perm ss'):bW ss=bW ss':=by
 rcases sortS_perm hp with h | h
 ·exact h
 ·refine absurd ?_ h
  refine⟨ss.mergeSort fun a b=>decide (a.cps.toList≤b.cps.toList),EL _ _,?_⟩
  have:=EH (le:=fun a b:aD=>decide (a.cps.toList≤b.cps.toList)) (fun a b c h1 h2=>decide_eq_true (zB (of_decide_eq_true h1) (of_decide_eq_true h2))) (fun a b=>by
   rcases List.le_total a.cps.toList b.cps.toList with h | h <;> simp[h]) ss
  exact this.imp fun h=>of_decide_eq_true h
section
variable {X:Cx}
theorem strsA : ∀ {ns:List aD} {vs:List aE},Vals (ns.map V.str) vs->StrsAre vs ns
 | [],_,.nil=>.nil
 | n::ns,_,.cons ⟨t,e⟩ r=>by
  subst e
  exact .cons n t (strsA r)
theorem strsB : ∀ {ns:List aD} {vs:List aE},StrsAre vs ns->Vals (ns.map V.str) vs
 | _,_,.nil=>.nil
 | _,_,.cons n t h=>.cons ⟨t,rfl⟩ (strsB h)
theorem GC:Acv X (.builtin "sorted") (fun xs H Q=>∃ p,∃ ns:List aD,xs=[.ref p]/\SqL X.K H p (ns.map V.str)/\ns.length<64 /\ ∀ (l:aB) (ns':List aD),H l=none->ns'.Perm ns->ns'.Pairwise leS->Q (.ref l) (upd H l (.lst (ns'.map V.str)))):=by
 intro pins s σ H xs us Q I r h
 obtain⟨p,ns,rfl,hp,hl,q⟩:=h
 obtain⟨u,rfl,ru⟩:=vals1 r
 cases ru
 obtain⟨its,rv,pl,hz⟩:=I.list hp
 have e1:ns.length=its.length:=by simpa using rv.length
 refine sorted_strs pl.isList (strsA rv) (by omega) fun out ns' h1 h2 h3=>?_
 obtain⟨e,he⟩:=sortedAll_at s.heap its out
 have hn:=I.hok.fresh (nC _)
 have lz:(ns'.map V.str).length≤sizeLine:=by
  rw[cU,h2.length_eq]
  simpa using hz
 exact⟨.ref (s.heap.objs.size+1),_,I.laid (t':=s.toks) (o:=.lst (ns'.map V.str)) (fun b ob g=>sortedAll_old g) (nC _) ⟨lz,out.toList,e,strsB h1,he⟩,rfl,q _ ns' hn h2 (CB h3)⟩
noncomputable def asTx:List aA->Option (List aD)
 | []=>some []
 | .str i::r=>(asTx r).bind fun is=>some (i::is)
 | _::_=>none
theorem asTx_eq : ∀ {ds:List aA} {is:List aD},asTx ds=some is->ds=is.map bP
 | [],is,e=>by cases e; rfl
 | .str i::ds,is,e=>by
  obtain⟨is',e1,e2⟩:=XBs (show((asTx ds).bind fun is=>some (i::is))=some is from e)
  cases e2
  rw[asTx_eq e1]
  rfl
 | .none::_,_,e=>by cases e
 | .bool _::_,_,e=>by cases e
 | .int _::_,_,e=>by cases e
 | .list _::_,_,e=>by cases e
 | .tuple _::_,_,e=>by cases e
 | .dict _::_,_,e=>by cases e
theorem wB : ∀ ss:List aD,asTx (ss.map bP)=some ss
 | []=>rfl
 | s::ss=>by
  show((asTx (ss.map bP)).bind fun is=>some (s::is))=_
  rw[wB ss]
  rfl
theorem xV {K:aI}{H:Hp} : ∀ {is:List aD} {ys:List V},Aaq K H (is.map bP) ys->ys=is.map V.str /\ ∀ i∈is,cQ (.str i)=true
 | [],ys,r=>⟨Aal.mp r,fun i m=>by simp at m⟩
 | i::is,ys,r=>by
  obtain⟨v,t,rfl,r1,r2⟩:=Aad.mp r
  obtain⟨e1,c1⟩:=Aap.mp r1
  obtain⟨e2,c2⟩:=xV r2
  refine⟨by rw[e1,e2]; rfl,fun j m=>?_⟩
  rcases cN.mp m with rfl | m
  ·exact c1
  ·exact c2 j m
theorem xH {K:aI}{H:Hp} : ∀ {is:List aD},(∀ i∈is,cQ (.str i)=true)->Aaq K H (is.map bP) (is.map V.str)
 | [],_=>Aal.mpr rfl
 | i::is,h=>Aad.mpr ⟨_,_,rfl,Aap.mpr ⟨rfl,h i cA⟩,xH fun j m=>h j (cI _ m)⟩
noncomputable def gSortS:List aA->Option aA
 | [.list ds]=>(asTx ds).bind fun is=>if is.length<64 then some (.list ((bW is).map bP)) else none
 | _=>none
theorem calld_sortS {K:aI}:CallD K 1 (fun xs H Q=>∃ p,∃ ns:List aD,xs=[.ref p]/\SqL K H p (ns.map V.str)/\ns.length<64 /\ ∀ (l:aB) (ns':List aD),H l=none->ns'.Perm ns->ns'.Pairwise leS->Q (.ref l) (upd H l (.lst (ns'.map V.str)))) gSortS:=fun P H xs ds d Q hP r e k=>by
 unfold gSortS at e
 split at e
 ·obtain⟨is,e1,e2⟩:=XBs e
  obtain⟨hl,rfl⟩:=cP e2
  obtain rfl:=asTx_eq e1
  obtain⟨v,rfl,r'⟩:=fF r
  obtain⟨q,ys,rfl,hq,rr⟩:=Aa9.mp r'
  obtain⟨rfl,hc⟩:=xV rr
  refine⟨q,is,rfl,Aa3.sqL hq,hl,fun l ns' hn hp hr=>?_⟩
  have hc' : ∀ i∈ns',cQ (.str i)=true:=fun i m=>hc i (hp.mem_iff.mp m)
  obtain rfl:=qY hp hr
  exact k.lst hP hn (xH hc')
 ·cases e
theorem sortS_ev {ss:List aD}(h:ss.length<64):gSortS [.list (ss.map bP)]=some (.list ((bW ss).map bP)):=by
 show((asTx (ss.map bP)).bind _)=_
 rw[wB]
 show(if ss.length<64 then _ else _)=_
 rw[if_pos h]
variable {x:aD}{k n0:Nat}{ps:List aD}{F:List aA->Option aA}{p pos:bG}
end
open PySem PySem.SetTable
def FE (xs:Array Nat):Prop:=∀ a b u v:Nat,a<b->xs[a]?=some u->xs[b]?=some v->u<v
noncomputable def adv (mask:Nat)(p:Probe):Probe:=if p.more > 0 then { p with j:=p.j+1,more:=p.more - 1 } else
 { p with j:=(leap mask p.i p.perturb).1,more:=runEnd mask (leap mask p.i p.perturb).1 - (leap mask p.i p.perturb).1,i:=(leap mask p.i p.perturb).1,perturb:=(leap mask p.i p.perturb).2 }
noncomputable def pN (mask:Nat)(p:Probe):Nat->Probe
 | 0=>p
 | n+1=>adv mask (pN mask p n)
noncomputable def blk (mask i per:Nat):Probe:={ j:=i,more:=runEnd mask i - i,i,perturb:=per,dummy:=none }
noncomputable def lp (mask:Nat)(s:Nat×Nat):Nat->Nat×Nat
 | 0=>s
 | m+1=>leap mask (lp mask s m).1 (lp mask s m).2
def smallMask (mask:Nat):Prop:=mask=7 \/ mask=31 \/ mask=127 \/ mask=511 \/ mask=2047 \/ mask=8191
noncomputable def rd (mask:Nat)(h:Int)(n:Nat):Probe:=pN mask (blk mask (bits h%(mask+1)) (bits h)) n
def Live (t:sE)(j:Nat):Prop:=∃ i:Nat,t.place[i]?=some j
structure Good (t:sE)(es:Array (Int×aE)):Prop where
 small:smallMask t.mask
 nod:t.dummies = #[]
 ris:FE t.place
 len:t.place.size=es.size
 inb : ∀ i j:Nat,t.place[i]?=some j->j≤t.mask
 room:es.size≤t.mask
 reach : ∀ (i j:Nat) (e:Int×aE),t.place[i]?=some j->es[i]?=some e -> ∃ n,(rd t.mask e.1 n).j=j /\ ∀ m<n,Live t (rd t.mask e.1 m).j
structure Own (mask:Nat)(hs:List Int)(ow:Array (Option Nat)):Prop where
 size:ow.size=mask+1
 lt : ∀ j i:Nat,ow[j]?=some (some i)->i<hs.length
 inj : ∀ j j' i:Nat,ow[j]?=some (some i)->ow[j']?=some (some i)->j=j'
 all : ∀ i<hs.length,∃ j:Nat,ow[j]?=some (some i)
 reach : ∀ (j i:Nat) (h:Int),ow[j]?=some (some i)->hs[i]?=some h -> ∃ n,(rd mask h n).j=j /\ ∀ m<n,∃ i':Nat,ow[(rd mask h m).j]?=some (some i')
theorem ow_cases {ow:Array (Option Nat)}{j:Nat}(hj:j<ow.size):ow[j]?=some none \/ ∃ i,ow[j]?=some (some i):=by
 rw[HS hj]
 cases ow[j] with
 | none=>exact .inl rfl
 | some i=>exact .inr ⟨i,rfl⟩
theorem Own.free {mask:Nat}{hs:List Int}{ow:Array (Option Nat)}(O:Own mask hs ow)(hl:hs.length≤mask) : ∃ e,e≤mask/\ow[e]?=some none:=by
 apply Classical.byContradiction
 intro hn
 have hall : ∀ j≤mask,∃ i:Nat,ow[j]?=some (some i):=fun j hj=>by
  rcases ow_cases (ow:=ow) (j:=j) (by rw[O.size]; omega) with c | c
  ·exact absurd ⟨j,hj,c⟩ hn
  ·exact c
 have hnd:((dC (mask+1)).map fun j=>((ow[j]?).join).getD 0).Nodup:=by
  unfold List.Nodup
  rw[sL]
  refine List.Pairwise.imp_of_mem ?_ List.pairwise_lt_range
  intro a b ha hb hab e
  obtain⟨i,ei⟩:=hall a (by have:=jU.mp ha; omega)
  obtain⟨i',ei'⟩:=hall b (by have:=jU.mp hb; omega)
  rw[ei,ei'] at e
  have:i=i':=by simpa using e
  subst this
  have:=O.inj a b i ei ei'
  omega
 have:=EW hnd (fun v m=>by
  obtain⟨j,hj,rfl⟩:=dH.mp m
  obtain⟨i,ei⟩:=hall j (by have:=jU.mp hj; omega)
  rw[ei]
  exact jU.mpr (O.lt j i ei))
 simp at this
 omega
structure Fine (t:sE)(es:Array (Int×aE)):Prop where
 good:Good t es
 few:es.size*5<t.mask*3/\es.size≤4914
theorem Fine.fits {t:sE}{es:Array (Int×aE)}(F:Fine t es):t.fits es.size=true:=by
 have h1:=F.good.len
 have h2:=F.good.nod
 have h3:=F.good.room
 simp[SetTable.fits,SetTable.fill,h1,h2,h3]
open PySem PySem.Spec PyProof.Rows PySem.SetTable
noncomputable def byTxt (w:aX):Bool:=w.params.followText "set-order"
noncomputable abbrev Amq (led:Bool):aT:={ cls:=.type "set",dict:=none,data:=.set #[] 0 (.fresh 0 0 led) }
theorem pr_get {α β:Type}{R:α->β->Prop} : ∀ {as:List α} {bs:List β},cZ R as bs -> ∀ {i:Nat} {a:α},as[i]?=some a -> ∃ b,bs[i]?=some b/\R a b
 | _,_,.nil,i,a,h=>by simp at h
 | _,_,.cons h t,0,a,e=>⟨_,rfl,by simp at e; exact e ▸ h⟩
 | _,_,.cons h t,i+1,a,e=>pr_get t (by simpa using e)
theorem pr_get' {α β:Type}{R:α->β->Prop} : ∀ {as:List α} {bs:List β},cZ R as bs -> ∀ {i:Nat} {b:β},bs[i]?=some b -> ∃ a,as[i]?=some a/\R a b
 | _,_,.nil,i,a,h=>by simp at h
 | _,_,.cons h t,0,a,e=>⟨_,rfl,by simp at e; exact e ▸ h⟩
 | _,_,.cons h t,i+1,a,e=>pr_get' t (by simpa using e)
section
variable {prog:bA}{w:aX}{B:List aA->aB->Prop}
def ElT (w:aX)(B:List aA->aB->Prop)(h:aR)(e:Int×aE)(k:List aA):Prop:=∃ b,e.2 = .ref b/\e.1=mK w (.tuple k)/\Ah8 h k b/\B k b
structure SetAt (w:aX)(B:List aA->aB->Prop)(h:aR)(a:aB)(o:aT)(es:Array (Int×aE))(ep:Nat)(t:sE)(ks:List (List aA)):Prop where
 get:h.get? a=some o
 exact:o.ExactSet
 data:o.data = .set es ep t
 fine:Fine t es
 led:t.led = !byTxt w
 els:cZ (ElT w B h) es.toList ks
 nod:ks.Nodup
end
section
variable {prog:bA}{w:aX}{B:List aA->aB->Prop}
theorem pr_imp {α β:Type}{R R':α->β->Prop}(f : ∀ a b,R a b->R' a b) : ∀ {as:List α} {bs:List β},cZ R as bs->cZ R' as bs
 | _,_,.nil=>.nil
 | _,_,.cons h t=>.cons (f _ _ h) (pr_imp f t)
def SetT (w:aX)(B:List aA->aB->Prop)(h:aR)(a:aB)(ks:List (List aA)):Prop:=∃ o es ep t ks',SetAt w B h a o es ep t ks'/\ks'.Perm ks
end
section
variable {prog:bA}{w:aX}{B:List aA->aB->Prop}
theorem SetT.len {h:aR}{a:aB}{ks:List (List aA)}(S:SetT w B h a ks) : ∃ o es ep t,h.get? a=some o/\o.ExactSet/\o.data = .set es ep t/\t.fits es.size=true/\es.size=ks.length:=by
 obtain⟨o,es,ep,t,ks',Z,p⟩:=S
 refine⟨o,es,ep,t,Z.get,Z.exact,Z.data,Z.fine.fits,?_⟩
 have:=nB Z.els
 rw[mG] at this
 rw[this,p.length_eq]
theorem SetT.keep {h h':aR}{a:aB}{ks:List (List aA)}(S:SetT w B h a ks)(k1 : ∀ o,h.get? a=some o->h'.get? a=some o)(k2 : ∀ b o vs n,h.get? b=some o->o.cls = .type "tuple" -> o.data = .seq vs n->h'.get? b=some o):SetT w B h' a ks:=by
 obtain⟨o,es,ep,t,ks',Z,p⟩:=S
 exact⟨o,es,ep,t,ks',⟨k1 o Z.get,Z.exact,Z.data,Z.fine,Z.led,pr_imp (fun e k ⟨b,q1,q2,q3,q4⟩=>⟨b,q1,q2,q3.keep k2,q4⟩) Z.els,Z.nod⟩,p⟩
end
noncomputable abbrev isO (a:aB)(o:aT):HO:=.ext fun h=>h.get? a=some o
noncomputable instance memK (k:aM)(acc:List aM):Decidable (k∈acc):=decidable_of_iff (acc.any (fun x=>decide (x=k))=true) (by simp[List.any_eq_true])
noncomputable def fJ (acc:List aM)(k:aM):List aM:=if k∈acc then acc else acc++[k]
noncomputable def eG (ks:List aM):List aM:=ks.foldl fJ []
theorem onceK_len (ks:List aM):(eG ks).length≤ks.length:=by
 have go : ∀ (l acc:List aM),(l.foldl fJ acc).length≤acc.length+l.length:=by
  intro l
  induction l with
  | nil=>intro acc; simp
  | cons x r ih=>
   intro acc
   have h2:(fJ acc x).length≤acc.length+1:=by unfold fJ; split <;> simp
   have:=ih (fJ acc x)
   simp only[sR,eN]
   omega
 have:=go ks []
 simpa [eG] using this
def SetK (prog:bA)(w:aX)(h:aR)(a:aB)(ks:List aM):Prop:=h.SetOf (cV prog w) a (fun k=>decide (k∈ks)) ks.length
section
variable {prog:bA}{w:aX}{A:bQ}{E:aE->aG->Prop}{s:aG}
theorem setK_new {h:aR}{a:aB}{led:Bool}(e:h.get? a=some (Amq led)):SetK prog w h a []:=
 ⟨_,#[],0,_,e,⟨rfl,rfl,rfl⟩,rfl,fun e he=>by simp at he,fun k=>by simp,by decide,by rfl,rfl⟩
theorem SetK.keep {h h':aR}{a:aB}{ks:List aM}(S:SetK prog w h a ks)(k : ∀ o,h.get? a=some o->h'.get? a=some o):SetK prog w h' a ks:=by
 obtain⟨o,es,ep,t,ho,rest⟩:=S
 exact⟨o,es,ep,t,k o ho,rest⟩
theorem SetK.congr {h:aR}{a:aB}{S:aM->Bool}{n:Nat}{ks:List aM}(x:h.SetOf (cV prog w) a S n)(e1 : ∀ k,S k=decide (k∈ks))(e2:n=ks.length):SetK prog w h a ks:=by
 have:S=fun k=>decide (k∈ks):=funext e1
 subst this
 subst e2
 exact x
theorem loop_setK {R:lY->aG->Prop}{I:aB}{fp wr:List aB}{G:Array pY->Array pY->Prop}{n:Nat}{P:Nat->aE->Prop}{St:Nat->aG->Prop}
  (W:WalksS prog w A.in1 I fp wr G n P St) (S:aB) (hSf:S∉fp) (kss:List aM) (hn:n+1<uS) (hP : ∀ j v,P j v -> ∃ q,kss[j]?=some q/\(cV prog w).is q v=true/\v.scannable=true) :
  ∀ (k i:Nat) (s:aG),n - i=k->i≤n->St i s->SetK prog w s.heap S (eG (kss.take i)) ->
   (∀ s',Moved (S::wr) G s s'->SetK prog w s'.heap S (eG (kss.take n))->R (.ok (.ret .none)) s') ->
   gZ (aP prog w) A (.builtin "set.update.loop" ⟨[.ref S,.ref I],[]⟩) R s:=by
 have hSw:S∉wr:=fun z=>hSf (W.sub _ z)
 have more : ∀ b∈wr,b∈S::wr:=fun b z=>cI _ z
 intro k
 induction k with
 | zero=>
  intro i s hk hi hst hS hR
  obtain rfl:i=n:=by omega
  refine oA F.entry_set_update_loop ?_
  rw[sW EZ _]
  refine aL (W.done s _ _ hst fun s' hm=>?_)
  exact bB (hR s' (hm.mono more) (hS.keep fun o q=>hm.heap S o hSw q))
 | succ k ih=>
  intro i s hk hi hst hS hR
  have hlt:i<n:=by omega
  refine oA F.entry_set_update_loop ?_
  rw[sW EZ _]
  refine aL (W.item i s _ _ hlt hst fun v s' hPi hst' hm=>?_)
  obtain⟨q,hq,his,hsc⟩:=hP i v hPi
  have hS':=hS.keep fun o z=>hm.heap S o hSw z
  have hstep:eG (kss.take (i+1))=fJ (eG (kss.take i)) q:=by
   rw[yZ,hq]
   simp[eG,List.foldl_append]
  have hlen:(eG (kss.take i)).length≤i:=kO (onceK_len _) (by rw[nE]; omega)
  refine aL (iG ?_)
  unfold setAdd
  refine iG (aL ((cV prog w).pyHash his ?_))
  refine wpAny_setAddHashed_of his hsc hS' (by omega) fun h' sb S2=>?_
  have S3:SetK prog w h' S (eG (kss.take (i+1))):=by
   rw[hstep]
   refine SetK.congr S2 (fun k'=>?_) ?_
   ·unfold fJ
    by_cases m:q∈eG (kss.take i)
    ·rw[if_pos m]
     by_cases c:k'=q
     ·subst c; simp[m]
     ·simp[c]
    ·rw[if_neg m]
     simp
   ·unfold fJ
    by_cases m:q∈eG (kss.take i)
    ·simp[m]
    ·simp[m]
  refine bB ⟨rX EZ _,ih (i+1) _ (by omega) hlt (W.frame _ s' _ _ hst' (nC _) fun c hc o e=>?_) S3 fun s'' hm'' S4=>?_⟩
  ·exact(sb.2 c (fun z=>hSf (z ▸ hc))).trans e
  ·exact hR s'' (Moved.trans W.gtrans ((hm.mono more).then_heap (nC _) fun c o hc e=>(sb.2 c (fun z=>hc (z ▸ cA))).trans e) hm'') S4
set_option maxHeartbeats 4000000 in
theorem call_setK {l:aB}{items:Array aE}{kss:List aM}{Q:aE->aG->Prop}(hh:A.handled=none)(hl:s.heap.IsList l items)
  (hd : ∀ (j:Nat) v,items[j]?=some v -> ∃ q,kss[j]?=some q/\(cV prog w).is q v=true/\v.scannable=true) (hlen:items.size+1<uS) (hkl:kss.length=items.size)
  (h : ∀ (h':aR) (tk:Nat),s.toks≤tk->SetK prog w h' s.heap.objs.size (eG kss)->(∀ b o,b<s.heap.objs.size->s.heap.get? b=some o->h'.get? b=some o)->Q (.ref s.heap.objs.size) { s with heap:=h',toks:=tk }) :
  aO (aP prog w) A (call (.type "set") [.ref l]) Q E s:=by
 obtain⟨c,tl,hmro⟩:=oG.mro
 have hmade:=oG.made
 have hsub:=oG.sub
 refine wpAny_call (codeAny_of_tree (show aO _ _ (callAny (.type "set") _) _ _ _ from ?_))
 refine bB ⟨Code.quiet_builtin _ (by decide +kernel),oA F.entry_type_call ?_⟩
 rw[Around.under_plain (weight_type_call_type "set" [.ref l] []) rfl]
 have z1:=oG.notType
 have z2:=oG.canCreate
 have z3:=F.typeCall_set_1 (.ref l)
 repeat (any_goals (first | assumption | wp_step))
 refine nZ (code_set_new_1 (.ref l) (E:=E) (Q₁:=fun u s₁=>∃ led:Bool,u = .ref s.heap.objs.size/\s₁ = { s with heap:=s.heap.push (Amq led) }) fun led=>⟨led,rfl,rfl⟩) fun r s₁ hr=>?_
 match r,hr with
 | .error e,hr=>exact hr
 | .ok (.ret u),hr=>
  obtain⟨led,rfl,rfl⟩:=hr
  have gS:(s.heap.push (Amq led)).get? s.heap.objs.size=some (Amq led):=dU _ rfl
  have hT:Shared.TypeIs { s with heap:=s.heap.push (Amq led) } (.ref s.heap.objs.size) "set":=⟨_,gS,rfl⟩
  have y1:=oG.init.lookup
  have y2:=oG.init.bind (.ref s.heap.objs.size)
  repeat (any_goals (first | assumption | wp_step))
  refine nZ (DB (R:=wants (fun r s₂=>r = .none /\ ∃ h' tk,s.toks≤tk/\s₂ = { s with heap:=h',toks:=tk }/\SetK prog w h' s.heap.objs.size (eG kss)/\(∀ b o,b<s.heap.objs.size->s.heap.get? b=some o->h'.get? b=some o)) E) oG.init.plain F.entry_set_init (check_set_init_1 hT ?_)) fun r₂ s₂ hr₂=>?_
  ·obtain⟨ol,gl,cl,nl,dl⟩:=hl
   obtain⟨ocls,odict,odata,oslots⟩:=ol
   simp only at cl dl
   subst cl
   subst dl
   have gl':(s.heap.push (Amq led)).get? l=some { cls:=.type "list",dict:=odict,data:=.seq items nl,slots:=oslots }:=cF _ gl
   have x1:=F.sub_list_set
   have x2:=F.sub_list_frozenset
   have x3:(gM "list" == gM "dict")=false:=by decide
   have L1:(s.heap.push (Amq led)).IsList l items:=⟨_,gl',rfl,nl,rfl⟩
   unfold Builtin.«set.__init__» noKeywords Builtin.Frozenset.updateFrom
   generalize hPI:pyIter=PI
   wp_walk
   subst hPI
   refine yC L1 (aL (wpAny_runValue ?_))
   have lS:l<s.heap.objs.size:=bK gl
   have hI:(s.heap.push (Amq led)).objs.size=s.heap.objs.size+1:=vH _ _
   have nI:l≠(s.heap.push (Amq led)).objs.size:=by rw[hI]; exact cK (yV lS)
   have nS:s.heap.objs.size∉[(s.heap.push (Amq led)).objs.size,l]:=by
    intro z
    rw[hI] at z
    rcases cN.mp z with z | z
    ·exact absurd z (cK (Nat.lt_succ_self _))
    ·exact absurd (dG.mp z) (lE lS)
   have gI:((s.heap.push (Amq led)).push { cls:=.type "list_iterator",data:=.fields #[.ref l,.int 0 0] }).get? s.heap.objs.size=some (Amq led):=cF _ gS
   refine loop_setK (w:=w) ((Walks.list (by simp[hh]) _ l nI items).toS) s.heap.objs.size nS kss hlen hd (items.size - 0) 0 _ rfl (eE _) ⟨⟨_,dU _ rfl,rfl,rfl⟩,L1.push _⟩ (setK_new gI) fun s' hm S'=>?_
   ·obtain⟨h',g',d',tk',os'⟩:=s'
    obtain rfl:g'=s.gens:=hm.gens
    obtain rfl:d'=s.drawn:=hm.drawn
    obtain rfl:os'=s.os:=hm.os
    show aO _ _ _ _ _ _
    refine bB ?_
    show aO _ _ (ret eU) _ _ _
    refine bB ⟨rfl,h',tk',hm.toks,rfl,by rw[← EG (l:=kss),hkl]; exact S',fun b o hb e=>?_⟩
    refine hm.heap b o (fun z=>?_) (cF _ (cF _ e))
    rw[hI] at z
    rcases cN.mp z with z | z
    ·exact absurd z (cK hb)
    ·exact absurd (dG.mp z) (cK (yV hb))
  ·match r₂,hr₂ with
   | .error e,hr₂=>exact hr₂
   | .ok (.ret v),hr₂=>
    obtain⟨rfl,h',tk,ht,rfl,S',hk'⟩:=hr₂
    repeat (any_goals (first | assumption | wp_step))
    exact h _ _ ht S' hk'
end
def SetKO (prog:bA)(w:aX)(o:aT)(ks:List aM):Prop:=∃ es ep t,o.ExactSet/\o.data = .set es ep t/\ElemsOf (cV prog w) es.toList/\(∀ k,k∈ks ↔ ∃ e∈es.toList,(cV prog w).is k e.2=true)/\es.size<uS/\t.fits es.size=true/\es.size=ks.length
section
variable {X:Cx}
theorem call_setKD (hc:X.calm=true):Acv X (.type "set") (fun xs H Q=>∃ p ks,xs=[.ref p]/\SqL X.K H p (ks.map kV)/\ks.length≤4000 /\ ∀ a o,H a=none->SetKO X.prog X.w o (eG ks)->Q (.ref a) (upd H a (isO a o))):=by
 intro pins s σ H xs us Q I r h
 obtain⟨p,ks,rfl,hp,hl,q⟩:=h
 obtain⟨u,rfl,ru⟩:=vals1 r
 cases ru
 obtain⟨its,rv,pl,_⟩:=I.list hp
 have e1:=rv.length
 rw[cU] at e1
 refine call_setK (I.ok.hd hc) pl.isList (fun j v ev=>?_) (by rw[dP]; unfold uS; omega) (by rw[dP]; omega) fun h' tk ht S' hk=>?_
 ·have ev':its[j]?=some v:=by simpa using ev
  obtain⟨y,hy,ry⟩:=pr_get' rv ev'
  rw[eX] at hy
  obtain⟨k,hk,rfl⟩:=mD.mp hy
  refine⟨k,hk,kV_is ry,?_⟩
  cases k with
  | inl i=>obtain⟨t,rfl⟩:=ry; rfl
  | inr z=>obtain⟨t,rfl⟩:=ry; rfl
 ·obtain⟨o,es,ep,t,ho,hex,hd,hel,hmem,hb,hf,hn⟩:=S'
  have I':=I.laid (t':=tk) (h':=h') (o:=isO s.heap.objs.size o) (fun b u e=>hk b u (bK e) e) (bM _) (show Ace X.prog X.w _ _ _ (.ext _) from⟨ho,⟨o,ho⟩,fun _ _ e k=>k _ e⟩)
  exact⟨.ref s.heap.objs.size,_,I',rfl,q _ o I.fresh ⟨es,ep,t,hex,hd,hel,fun k=>by rw[← hmem k]; simp,hb,hf,hn⟩⟩
theorem call_lenSK:Acv X (.builtin "len") (fun xs H Q=>∃ a o ks,xs=[.ref a]/\H a=some (isO a o)/\SetKO X.prog X.w o ks/\Q (.int ks.length) H):=by
 intro pins s σ H xs us Q I r h
 obtain⟨a,o,ks,rfl,ha,⟨es,ep,t,hx,hd,_,_,hb,hf,hz⟩,q⟩:=h
 obtain⟨u,rfl,ru⟩:=vals1 r
 cases ru
 obtain⟨g,_,_⟩:=(show Ace X.prog X.w H s.heap a (.ext _) from I.hok a _ ha)
 exact call_len_set g hx hd hf (by unfold uS at hb; omega) ⟨.int ks.length,H,I.tok _,⟨s.toks+1,by rw[hz]⟩,q⟩
noncomputable def asKs:List aA->Option (List aM)
 | []=>some []
 | d::r=>(cW d).bind fun k=>(asKs r).bind fun ks=>some (k::ks)
theorem AX {K:aI}{H:Hp} : ∀ {ds:List aA} {ks:List aM} {ys:List V},asKs ds=some ks->Aaq K H ds ys->ys=ks.map kV
 | [],ks,ys,e,r=>by cases e; exact Aal.mp r
 | d::ds,ks,ys,e,r=>by
  obtain⟨k,e1,e⟩:=XBs e
  obtain⟨ks',e2,e⟩:=XBs e
  cases e
  obtain⟨v,t,rfl,r1,r2⟩:=Aad.mp r
  rw[pB e1 r1,AX e2 r2]
  rfl
noncomputable def gLenSetK:List aA->Option aA
 | [.list ds]=>(asKs ds).bind fun ks=>if ks.length≤4000 then some (.int (eG ks).length) else none
 | _=>none
theorem de_lensetK {e:aS}{fe:EF}{p1 p2 pos1 pos2:bG}(hc:X.calm=true)(g1:Gl X "len")(m1:X.mg "len" = none)(g2:Gl X "set")(m2:X.mg "set" = none)(he:DE X e fe)
  (hs1:bF [pZ (.Name "set" p2) [e] [] pos2] X.env=[(false,bC (pZ (.Name "set" p2) [e] [] pos2) X.env)]:=by rfl) (hs2:bF [e] X.env=[(false,bC e X.env)]:=by rfl) :
  DE X (.Call (.Name "len" p1) [.Call (.Name "set" p2) [e] [] pos2] [] pos1) (aQ gLenSetK (aH fe aJ)):=by
 have h1:PE X (.Call (.Name "set" p2) [e] [] pos2) _:=zR (call_setKD hc) g2 m2 rfl (iR he kX hs2) (by decide) (by decide) hs2 rfl
 have h2:PE X (.Call (.Name "len" p1) [.Call (.Name "set" p2) [e] [] pos2] [] pos1) _:=qT call_lenSK g1 m1 rfl (iR h1 kX hs1) (by decide) (by decide) hs1 rfl
 refine PE.imp h2 fun σ H Q gh=>?_
 obtain⟨P,ρ,d,hP,rs,ef,k⟩:=gh
 obtain⟨ds0,e0,ef⟩:=XBs ef
 obtain⟨d1,e1,e0⟩:=XBs e0
 have e0:[d1]=ds0:=by simpa [aJ] using e0
 subst e0
 cases d1 with
 | list ds=>
  obtain⟨ks,e2,ef⟩:=XBs (show((asKs ds).bind fun ks=>if ks.length≤4000 then some (bY (eG ks).length) else none)=some d from ef)
  obtain⟨hl,rfl⟩:=cP ef
  refine⟨P,ρ,.list ds,hP,rs,e1,cR fun v H1 x1 r1=>?_⟩
  obtain⟨q,ys,rfl,hq,rr⟩:=Aa9.mp r1
  obtain rfl:=AX e2 rr
  exact⟨q,ks,rfl,Aa3.sqL hq,hl,fun a o hn S=>⟨a,o,eG ks,rfl,dQ,S,k.zero (x1.trans (Ext.new hn)) (Aam.mpr rfl)⟩⟩
 | _=>cases ef
end
section
variable {prog:bA}{w:aX}
def ElI (prog:bA)(w:aX)(e:Int×aE)(n:Int):Prop:=e.1=(intKind prog w).hash n /\ ∃ t,e.2 = .int n t
structure IntsAt (prog:bA)(w:aX)(h:aR)(a:aB)(o:aT)(es:Array (Int×aE))(ep:Nat)(t:sE)(ns:List Int):Prop where
 get:h.get? a=some o
 exact:o.ExactSet
 data:o.data = .set es ep t
 fine:Fine t es
 led:t.led = !byTxt w
 plain:t.plain=true
 els:cZ (ElI prog w) es.toList ns
 nod:ns.Nodup
def SetI (prog:bA)(w:aX)(h:aR)(a:aB)(ns:List Int):Prop:=∃ o es ep t ns',IntsAt prog w h a o es ep t ns'/\ns'.Perm ns
theorem SetI.keep {h h':aR}{a:aB}{ns:List Int}(S:SetI prog w h a ns)(k : ∀ o,h.get? a=some o->h'.get? a=some o):SetI prog w h' a ns:=by
 obtain⟨o,es,ep,t,ns',S,p⟩:=S
 exact⟨o,es,ep,t,ns',⟨k o S.get,S.exact,S.data,S.fine,S.led,S.plain,S.els,S.nod⟩,p⟩
end
open PySem PySem.Spec PySem.W PyProof.Rows PySem.SetTable
theorem wJ {α:Type}(xs:List α)(d:α):(dC xs.length).map (fun i=>xs.getD i d)=xs:=by
 apply List.ext_getElem
 ·simp
 ·intro i h1 h2
  simp at h1
  simp[h1]
section
variable {prog:bA}{w:aX}{A:bQ}{E:aE->aG->Prop}{s:aG}
theorem sort_okT {h0:aR}{a:aB}{n:Nat}{vs:List aE}{kss:List (List aA)}{P:PySem.Fin->aG->Prop}(ho:s.heap.get? a=some (jN "list" vs.toArray n))(ht:Agd h0 vs kss)(kp : ∀ b o,h0.get? b=some o->(iF s.heap a vs).get? b=some o)(ok:okT kss=true)(h64:vs.length<64)
  (h : ∀ p:List Nat,p.Perm (dC vs.length)->p.map (fun i=>kss.getD i [])=jW kss->P (.done (.ret .none)) { s with heap:=sortedHeap s.heap a vs (iI (p.map fun i=>vs.getD i eU)) }) :
  aO (aP prog w) A (Builtin.«list.sort» ⟨[.ref a],[]⟩) P E s:=by
 have ln:=nB ht
 by_cases h2:vs.length<2
 ·refine sort_few ho h2 ?_
  have:=h (dC vs.length) (List.Perm.refl _) (by
   rw[ln,wJ kss]
   refine AV ok (List.Perm.refl _) ?_
   match kss,ln with
   | [],_=>exact .nil
   | [k],_=>simp
   | _::_::_,ln=>simp at ln; omega)
  rw[wJ vs] at this
  exact this
 ·have hs:sameAll kss=true/\(kss.all fun k=>(kW k).isSome)=true:=by
   have h2' : ¬ kss.length<2:=by omega
   have:(sameAll kss&&kss.all fun k=>(kW k).isSome)=true:=by simpa [okT,h2'] using ok
   exact kT.mp this
  obtain⟨k0,m0⟩ : ∃ k0,k0∈kss:=by
   cases hk:kss with
   | nil=>rw[hk] at ln; exact absurd ln (by simp; intro e; rw[e] at h2; simp at h2)
   | cons k r=>exact⟨k,cA⟩
  obtain⟨T,hT⟩:=uY.mp (gV.mp hs.2 k0 m0)
  have sm : ∀ k∈kss,∀ k'∈kss,gP k k'=true:=fun k m k' m'=>gV.mp (gV.mp hs.1 k m) k' m'
  have ht':=ht.keep kp
  refine sort_by (κ:=tuples' (gM T != gM "tuple")) (ord_of kss) ho (by omega) h64 (fun R q=>?_) (fun i j C hi hj q=>?_) fun p hp ha=>?_
  ·obtain⟨fs,f1,f2,f3⟩:=BE (M:=aP prog w) ht' fun k m=>(same_kind (sm k m k0 m0)).trans hT
   exact kat_kind f1 (by omega) f3 (by rcases kind_is hT with rfl | rfl <;> decide) q
  ·obtain⟨b,e1,⟨_,_,as,r1⟩,m1⟩:=ht'.get i hi
   obtain⟨b',e2,⟨_,_,as',r2⟩,m2⟩:=ht'.get j hj
   rw[e1,e2]
   obtain⟨_,o,xs,n,z,ho,_,hd,hr⟩:=pC r1
   cases z
   obtain⟨_,o',xs',n',z,ho',_,hd',hr'⟩:=pC r2
   cases z
   have hsm:=sm _ m1 _ m2
   have l1:=wX hr
   have l2:=wX hr'
   have ll:=wY hsm
   have:decide (xs.size<xs'.size)=false:=decide_eq_false (by simp only[mG] at l1 l2; omega)
   refine kat_lt (s:={ s with heap:=iF s.heap a vs }) ho hd ho' hd' ?_
   rw[this]
   exact lex_ok _ _ 0 hsm hr hr' q
  ·have hp':p.toList.Perm (dC vs.length):=by simpa using Array.perm_iff_toList_perm.mp hp
   have pl:p.toList.length=vs.length:=by rw[hp'.length_eq,List.length_range]
   refine h p.toList hp' (AV ok ?_ ?_)
   ·have:=hp'.map (fun i=>kss.getD i [])
    rw[ln,wJ kss] at this
    exact this
   ·rw[sL,List.pairwise_iff_getElem]
    intro i j hi hj hij
    refine Ahp.mpr ?_
    have:=ha i j (sJ hij) (by omega)
    have e1:at' p i=p.toList[i]:=by simp at hi; simp[at',hi]
    have e2:at' p j=p.toList[j]:=by simp at hj; simp[at',hj]
    rw[e1,e2] at this
    exact of_decide_eq_false this
theorem pr_pick {α β:Type}{R:α->β->Prop}{as:List α}{bs:List β}(h:cZ R as bs)(x:α)(y:β) : ∀ p:List Nat,(∀ i∈p,i<as.length)->cZ R (p.map fun i=>as.getD i x) (p.map fun i=>bs.getD i y)
 | [],_=>.nil
 | i::p,hi=>by
  refine .cons ?_ (pr_pick h x y p fun j m=>hi j (cI _ m))
  have hlt:=hi i cA
  obtain⟨b,hb,r⟩:=pr_get h (jH hlt)
  have e1:as.getD i x=as[i]:=by simp[hlt]
  have e2:bs.getD i y=b:=by simp[hb]
  show R (as.getD i x) (bs.getD i y)
  rw[e1,e2]
  exact r
end
theorem for_dict {a:aB}{ep:Nat}{kvs:List (aM×V)}{g:TG}{tb:TS}{D:Ends}{σ:St}{H:Hp}(Pv:Nat->St->Hp->Prop)(h0:Pv 0 σ H)(hl : ∀ i σ H,i≤kvs.length->Pv i σ H->H a=some (.dK ep kvs))
  (hs : ∀ i kv σ H,kvs[i]?=some kv->Pv i σ H->g (kV kv.1) σ H fun σ2 H2=>tb { D with nx:=Pv (i+1),ct:=Pv (i+1),bk:=D.nx } σ2 H2) (hd : ∀ σ H,Pv kvs.length σ H->D.nx σ H) :
  ∃ W:Nat->Nat->St->Hp->Prop,(∃ m,W 0 m σ H) /\ ∀ i m σ H,W i m σ H ->
   ((qC a ep kvs.length).stop i H/\D.nx σ H) \/ ((qC a ep kvs.length).go i H /\ ∃ N:St->Hp->Prop,(∀ σ' H',N σ' H' -> ∃ m',m'<m/\W (i+1) m' σ' H') /\ ∀ x H',(qC a ep kvs.length).yld i H x H'->g x σ H' fun σ2 H2=>tb { D with nx:=N,ct:=N,bk:=D.nx } σ2 H2):=by
 refine⟨fun i m σ H=>m=kvs.length - i/\i≤kvs.length/\Pv i σ H,⟨kvs.length,by simp,eE _,h0⟩,?_⟩
 rintro i m σ H ⟨rfl,hi,p⟩
 have q:=hl i σ H hi p
 by_cases hlt:i<kvs.length
 ·refine .inr ⟨⟨kvs,kvs[i],q,rfl,by simp[hlt]⟩,Pv (i+1),fun σ' H' p'=>⟨kvs.length - (i+1),by omega,rfl,hlt,p'⟩,fun x H' y=>?_⟩
  obtain⟨rfl,y⟩:=y
  obtain⟨kv,h1,rfl⟩:=y kvs q
  exact hs i kv σ _ h1 p
 ·have e:i=kvs.length:=by omega
  subst e
  exact .inl ⟨⟨kvs,q,rfl,bM _⟩,hd σ H p⟩
section
variable {X:Cx}
theorem CV (hc:X.calm=true):Acv X (.builtin "sorted") (fun xs H Q=>∃ a ep kvs,∃ ns:List aD,xs=[.ref a]/\H a=some (.dK ep kvs)/\(kvs.map fun kv=>kV kv.1)=ns.map V.str/\ns.length<64 /\ ∀ (l:aB) (ns':List aD),H l=none->ns'.Perm ns->ns'.Pairwise leS->Q (.ref l) (upd H l (.lst (ns'.map V.str)))):=by
 intro pins s σ H xs us Q I r h
 obtain⟨a,ep1,kvs,ns,rfl,ha,hk,hl,q⟩:=h
 obtain⟨u,rfl,ru⟩:=vals1 r
 cases ru
 obtain⟨z,nm,es,ep,D,rv,el⟩:=dk_raw I ha
 have hh:=I.ok.hd hc
 refine FA kind_sorted plain_sorted entry_sorted (args_sorted1 _) ?_
 unfold Builtin.«sorted»
 have hkl:kvs.length=ns.length:=by simpa using congrArg uZ hk
 refine aL (bB (aL (BY (by simp[hh]) nm D (by omega) fun s' acc hkp hg hd hos hacc=>aL (yD ?_ (by
  have:=hacc.1
  rw[mG,this]
  omega)))))
 obtain⟨h',g',d',tk',os'⟩:=s'
 have e1:=hg
 have e2:=hd
 have e3:=hos
 subst e1 e2 e3
 rw[← AR hacc,hk] at rv
 have hS:=strsA rv
 have hlen:acc.toList.length<64:=by
  have:=hacc.1
  rw[mG,this]
  omega
 generalize acc.toList=vs at rv hS hlen
 have hoL:(h'.push (jN "list" vs.toArray 0)).get? h'.objs.size=some (jN "list" vs.toArray 0):=dU _ rfl
 refine aL (iG (rW slot_list_sort ⟨_,hoL,rfl⟩ entry_list_sort (list_sort_treeK strKind_oneLt hoL hS.keysOf (fun v₁ v₂ rest e=>keyKind_strs (by rw[← e]; exact hS)) hlen fun st' a1 a2=>⟨_,rfl,?_⟩) (args_list_sort _)))
 refine bB ⟨_,rfl,?_⟩
 obtain⟨ss',h1,h2,h3⟩:=sorted_out_str hS a1 a2
 obtain⟨e,he⟩:=sortedHeap_at hoL
 have I1:Inv X pins σ H { s with heap:=h',toks:=tk' }:=I.kept (t':=tk') hkp
 refine⟨.ref h'.objs.size,_,I1.laid (t':=tk') (a:=h'.objs.size) (o:=.lst (ss'.map V.str)) (fun b ob eb=>?_) (bM _) ⟨by rw[cU,h2.length_eq]; omega,_,e,strsB h1,he⟩,rfl,q _ ss' I1.fresh h2 (CB h3)⟩
 have hb:=bK (show h'.get? b=some ob from eb)
 rw[sortedHeap_old (cK hb) (by rw[size_push']; exact yV hb),Heap.get?_push_ne _ _ _ (cK hb)]
 exact eb
noncomputable def oV:List aA->Option aA
 | [.dict kds]=>(asTx (kds.map (·.1))).bind fun is=>if (plK kds&&kds.all fun kd=>cQ kd.1)=true/\is.length<64 then some (.list ((bW is).map bP)) else none
 | _=>none
theorem CN {K:aI}:CallD K 1 (fun xs H Q=>∃ a ep kvs,∃ ns:List aD,xs=[.ref a]/\H a=some (.dK ep kvs)/\(kvs.map fun kv=>kV kv.1)=ns.map V.str/\ns.length<64 /\ ∀ (l:aB) (ns':List aD),H l=none->ns'.Perm ns->ns'.Pairwise leS->Q (.ref l) (upd H l (.lst (ns'.map V.str)))) oV:=fun P H xs ds d Q hP r e k=>by
 unfold oV at e
 split at e
 ·obtain⟨is,e1,e2⟩:=XBs e
  obtain⟨⟨hl,hn⟩,rfl⟩:=cP e2
  obtain⟨pk,hl⟩:=kT.mp hl
  obtain⟨v,rfl,r'⟩:=fF r
  obtain⟨a,kvs,rfl,hq,rr⟩:=(qV pk).mp r'
  have rk:=AZ rr fun kd m=>gV.mp hl kd m
  rw[asTx_eq e1] at rk
  obtain⟨ek,hc⟩:=xV rk
  refine⟨a,kvs.1,kvs.2,is,rfl,Aa3 _ _ hq,ek,hn,fun l ns' hf hp hr=>?_⟩
  have hc' : ∀ i∈ns',cQ (.str i)=true:=fun i m=>hc i (hp.mem_iff.mp m)
  obtain rfl:=qY hp hr
  exact k.lst hP hf (xH hc')
 ·cases e
theorem GK (hc:X.calm=true):Acv X (.builtin "sorted") (fun xs H Q=>∃ a ep,∃ kvs:List (List aA×V),xs=[.ref a]/\H a=some (.dT ep kvs)/\okT (kvs.map (·.1))=true/\kvs.length<64 /\ ∀ (l:aB) (as:List aB),H l=none->cZ (fun(k:List aA) (b:aB)=>Ait H k b) (jW (kvs.map (·.1))) as->Q (.ref l) (upd H l (.lst (as.map V.ref)))):=by
 intro pins s σ H xs us Q I r h
 obtain⟨a,ep,kvs,rfl,ha,ok,hl,q⟩:=h
 obtain⟨u,rfl,ru⟩:=vals1 r
 cases ru
 obtain⟨z,nm,ys,kt,o,es,e1,e2,e3,e4,_⟩:=(show Ace X.prog X.w H s.heap a (.dT ep kvs) from I.hok a _ ha)
 have el:es.size=kvs.length:=by
  have:=congrArg uZ e4
  rw[cU,← nB kt] at this
  simpa using this
 have hp:cZ (fun(p:List aA×V) (b:aB)=>Ait H p.1 b) kvs (ys.map fun y=>y.2.1):=kt_addrs kt
 have rv:Vals ((ys.map fun y=>y.2.1).map V.ref) (es.toList.map (·.key)):=by
  rw[e4]
  exact AJ ys
 have hh:=I.ok.hd hc
 generalize(ys.map fun y=>y.2.1)=as at hp rv
 refine FA kind_sorted plain_sorted entry_sorted (args_sorted1 _) ?_
 unfold Builtin.«sorted»
 refine aL (bB (aL (BY (by simp[hh]) nm ⟨o,e1,e2,e3⟩ (by omega) fun s' acc hkp hg hd hos hacc=>aL (yD ?_ (by
  have:=hacc.1
  rw[mG,this]
  omega)))))
 obtain⟨h',g',d',tk',os'⟩:=s'
 have e1:=hg
 have e2:=hd
 have e3:=hos
 subst e1 e2 e3
 rw[← AR hacc] at rv
 have hlen:acc.toList.length<64:=by
  have:=hacc.1
  rw[mG,this]
  omega
 generalize acc.toList=vs at rv hlen
 have rf:RefsT H (as.map V.ref) (kvs.map (·.1)):=by
  clear rv ha ok hl q z kt el
  induction hp with
  | nil=>exact .nil
  | cons h t ih=>exact .cons ⟨_,rfl,h⟩ ih
 have tv:=refs_at I.hok rf rv
 have hoL:(h'.push (jN "list" vs.toArray 0)).get? h'.objs.size=some (jN "list" vs.toArray 0):=dU _ rfl
 refine aL (iG (rW slot_list_sort ⟨_,hoL,rfl⟩ entry_list_sort (sort_okT hoL tv (fun b ob eb=>?_) ok hlen fun p hp' hs=>⟨_,rfl,?_⟩) (args_list_sort _)))
 ·have hb:=bK (hkp b ob eb)
  exact mid_but b ob (cK hb) (cF _ (hkp b ob eb))
 refine bB ⟨_,rfl,?_⟩
 obtain⟨e,he⟩:=sortedHeap_at hoL
 have I1:Inv X pins σ H { s with heap:=h',toks:=tk' }:=I.kept (t':=tk') hkp
 have hv:vs.length=as.length:=by simpa using rv.length.symm
 have hi : ∀ i∈p,i<as.length:=fun i m=>by
  have:=jU.mp (hp'.mem_iff.mp m)
  omega
 have pk:=pr_pick rf (V.ref 0) [] p (by simpa using hi)
 have pv:Vals (p.map fun i=>(as.map V.ref).getD i (V.ref 0)) (p.map fun i=>vs.getD i eU):=by
  have : ∀ q:List Nat,(∀ i∈q,i<as.length)->Vals (q.map fun i=>(as.map V.ref).getD i (V.ref 0)) (q.map fun i=>vs.getD i eU):=fun q=>by
   induction q with
   | nil=>exact fun _=>.nil
   | cons i q ih=>
    intro h
    refine .cons ?_ (ih fun j m=>h j (cI _ m))
    have hi:=h i cA
    show RelV ((as.map V.ref).getD i (V.ref 0)) (vs.getD i eU)
    obtain⟨u,g1,g2⟩:=Vals.get (i:=i) (x:=.ref as[i]) rv (by simp[hi])
    have:(as.map V.ref).getD i (V.ref 0) = .ref as[i]:=by simp[List.getD,hi]
    rw[this]
    have:vs.getD i eU=u:=by simp[List.getD,g1]
    rw[this]
    exact g2
  exact this p hi
 rw[hs] at pk
 have em:(p.map fun i=>(as.map V.ref).getD i (V.ref 0))=(p.map fun i=>as.getD i 0).map V.ref:=by
  rw[jF]
  refine List.map_congr_left fun i m=>?_
  simp[List.getD,hi i m]
 rw[em] at pk pv
 have pk2:cZ (fun(k:List aA) (b:aB)=>Ait H k b) (jW (kvs.map (·.1))) (p.map fun i=>as.getD i 0):=by
  generalize(p.map fun i=>as.getD i 0)=bs at pk
  generalize jW (kvs.map (·.1))=kss at pk
  clear pv em he hs
  induction bs generalizing kss with
  | nil=>cases pk; exact .nil
  | cons b bs ih=>
   cases pk with
   | cons h t=>
    obtain⟨b',e',h⟩:=h
    cases e'
    exact .cons h (ih _ t)
 have hz:((p.map fun i=>as.getD i 0).map V.ref).length≤sizeLine:=by
  rw[cU,cU,hp'.length_eq,List.length_range,mY]
  omega
 refine⟨.ref h'.objs.size,_,I1.laid (t':=tk') (a:=h'.objs.size) (o:=.lst ((p.map fun i=>as.getD i 0).map V.ref)) (fun b ob eb=>?_) (bM _) ⟨hz,_,e,pv,he⟩,rfl,q _ _ I1.fresh pk2⟩
 have hb:=bK (show h'.get? b=some ob from eb)
 rw[sortedHeap_old (cK hb) (by rw[size_push']; exact yV hb),Heap.get?_push_ne _ _ _ (cK hb)]
 exact eb
noncomputable def gSortDT:List aA->Option aA
 | [.dict ((.none,.none)::kds)]=>(asTs (kds.map (·.1))).bind fun kss=>if okT kss=true/\kss.length<64 then some (.list ((jW kss).map mZ)) else none
 | _=>none
theorem rept_ks {K:aI}{H:Hp} : ∀ {kds:List (aA×aA)} {ts:List (List aA×V)},Acg K H kds ts->kds.map (·.1)=(ts.map (·.1)).map mZ
 | [],ts,r=>by rw[Acn.mp r]; rfl
 | (k,d)::kds,ts,r=>by
  obtain⟨k',x,rr,rfl,⟨rfl,_⟩,h1,h2⟩:=Abp.mp r
  rw[dR,rept_ks h2]
  rfl
theorem ts_reps {K:aI}{H1 G:Hp}(x : ∀ c ys,H1 c=some (.tup ys)->G c=some (.tup ys)) : ∀ {kss:List (List aA)} {as:List aB},cZ (fun(k:List aA) (b:aB)=>Ait H1 k b) kss as->Aaq K G (kss.map mZ) (as.map V.ref)
 | _,_,.nil=>Aal.mpr rfl
 | _,_,.cons h t=>Aad.mpr ⟨_,_,rfl,(h.keep x).rep,ts_reps x t⟩
theorem FR {K:aI}:CallD K 1 (fun xs H Q=>∃ a ep,∃ kvs:List (List aA×V),xs=[.ref a]/\H a=some (.dT ep kvs)/\okT (kvs.map (·.1))=true/\kvs.length<64 /\ ∀ (l:aB) (as:List aB),H l=none->cZ (fun(k:List aA) (b:aB)=>Ait H k b) (jW (kvs.map (·.1))) as->Q (.ref l) (upd H l (.lst (as.map V.ref)))) gSortDT:=fun P H xs ds d Q hP r e k=>by
 unfold gSortDT at e
 split at e
 ·obtain⟨kss,e1,e2⟩:=XBs e
  obtain⟨⟨ok,hn⟩,rfl⟩:=cP e2
  obtain⟨v,rfl,r'⟩:=fF r
  obtain⟨a,ts,rfl,hq,rr⟩:=(mW).mp r'
  have ek:=rept_ks rr
  have ek2:=(asTs_get e1).1
  rw[ek2] at ek
  have:ts.2.map (·.1)=kss:=by
   have inj : ∀ l l':List (List aA),l.map mZ=l'.map mZ->l=l':=fun l=>by
    induction l with
    | nil=>intro l' h; cases l' <;> simp at h ⊢
    | cons a l ih=>
     intro l' h
     cases l' with
     | nil=>simp at h
     | cons b l'=>
      simp only[dR,List.cons.injEq,PyData.tuple.injEq] at h
      rw[h.1,ih l' h.2]
   exact(inj _ _ ek).symm
  subst this
  refine⟨a,ts.1,ts.2,rfl,Aa3 _ _ hq,ok,by simpa using hn,fun l as hf pr=>k.lst hP hf ?_⟩
  exact ts_reps (fun c ys ec=>hP.tup ec) pr
 ·cases e
end
section
variable {P:bA}{w:aX}{A:bQ}{E:aE->aG->Prop}{s:aG}
theorem hint_vals {v d:aB}{Q:Bool->aG->Prop}(hv:s.heap.IsValuesView v d)(q:Q false s):aO (aP P w) A (FC (.ref v)) Q E s:=by
 have ty:s.TypeIs (.ref v) "dict_values":=hv.typeIs
 unfold FC
 refine aL (rV ty F.slot_dict_values_len.lookup ?_)
 generalize hid:("dict_values.__len__" : String)=id0
 wp_delta
 rw[show splitId id0=some ("dict_values","__len__") from by subst hid; decide +kernel]
 subst hid
 refine aL (yE (T:="dict_values") (b:=true) ty (by rw[isSubtype_type]; kernel_rfl) ?_)
 refine wpAny_ite_split (fun hab=>absurd hab (by decide)) (fun _=>?_)
 refine wpAny_ite_split (fun _=>?_) (fun hab=>absurd (by decide +kernel) hab)
 refine aL (rT ty ?_)
 exact bB q
theorem GZ {v d:aB}{kvs:List (aM×aE)}{ep:Nat}{Q:aE->aG->Prop}(hh:A.handled=none)(hv:s.heap.IsValuesView v d)(hd:s.heap.DictAt (cV P w) d kvs ep)(hz:kvs.length≤sizeLine)
  (q : ∀ h' tk acc c,(∀ b o,s.heap.get? b=some o->h'.get? b=some o)->h'.get? s.heap.objs.size=some { cls:=.type "list",dict:=none,data:=.seq acc c,slots:=#[] }->ItemsOf (fun i x=>∃ k,kvs[i]?=some (k,x)) acc kvs.length->Q (.ref s.heap.objs.size) { s with heap:=h',toks:=tk }) :
  aO (aP P w) A (call (.type "list") [.ref v]) Q E s:=by
 refine callType_codes (Q₁:=fun obj s₁=>obj = .ref s.heap.objs.size/\s₁ = { s with heap:=s.heap.push { cls:=.type "list",data:=.seq #[] } }) F.called_list (F.typeCall_list_1 _) F.entry_list_init (code_list_new _ ⟨rfl,rfl⟩) fun obj s₁ h₁=>?_
 obtain⟨rfl,rfl⟩:=h₁
 have gS:(s.heap.push { cls:=.type "list",data:=.seq #[] }).get? s.heap.objs.size=some { cls:=.type "list",data:=.seq #[] }:=dU _ rfl
 refine⟨⟨_,gS,rfl⟩,F.args_list_init_2 _ _,?_⟩
 have vS:v<s.heap.objs.size:=by
  obtain⟨o,e,_⟩:=hv
  exact bK e
 have dS:d<s.heap.objs.size:=by
  obtain⟨o,es,e,_⟩:=hd
  exact bK e
 show aO _ _ (do let old ← Builtin.List.listItems (.ref s.heap.objs.size); Builtin.List.listUpdate (.ref s.heap.objs.size) (fun _=>#[]); letGo old.toList.reverse; sV (.ref s.heap.objs.size) (.ref v) .none) _ _ _
 refine aL ?_
 unfold Builtin.List.listItems
 refine aL (wpAny_seqItems gS rfl (bB ?_))
 show aO _ _ (uQ s.heap.objs.size (fun _=>#[]) >>= fun _=>letGo (#[]:Array aE).toList.reverse >>= fun _=>sV (.ref s.heap.objs.size) (.ref v) .none) _ _ _
 refine aL (uN gS rfl (aL (wpAny_letGo ?_)))
 have gS2:=pW (gE (fun _=>(#[]:Array aE))) gS rfl
 have old : ∀ b o,s.heap.get? b=some o->((s.heap.push { cls:=.type "list",data:=.seq #[] }).update s.heap.objs.size (gE (fun _=>(#[]:Array aE)))).get? b=some o:=
  fun b o e=>(pX _ _ (lE (bK e))).trans (cF _ e)
 generalize hg:(s.heap.push { cls:=.type "list",data:=.seq #[] }).update s.heap.objs.size (gE (fun _=>(#[]:Array aE)))=h2 at gS2 old
 have v2:h2.IsValuesView v d:=by
  obtain⟨o,e,r⟩:=hv
  exact⟨o,old _ _ e,r⟩
 have d2:h2.DictAt (cV P w) d kvs ep:=hd.at' fun o e=>old _ _ e
 have sz:s.heap.objs.size<h2.objs.size:=bK gS2
 show aO _ _ (sV (.ref s.heap.objs.size) (.ref v) .none) _ _ { s with heap:=h2 }
 unfold sV
 refine aL (rT (s:={ s with heap:=h2 }) v2.typeIs ?_)
 have x1:zF (.ref s.heap.objs.size) (.ref v)=false:=by simp[zF,lE vS]
 have x2:(gM "dict_values" == gM "list")=false:=by decide
 have x3:(gM "dict_values" == gM "tuple")=false:=by decide
 simp only[x1,x2,x3,FD,nG,if_false]
 refine aL (wpAny_pyIter_values (s:={ s with heap:=h2 }) v2 d2 ?_)
 have up : ∀ b o,h2.get? b=some o->(h2.push { cls:=.type "dict_valueiterator",data:=.fields #[.ref d,.int 0 0,.int kvs.length 0,.int ep 0] }).get? b=some o:=fun b o e=>cF _ e
 have g3:(h2.push { cls:=.type "dict_valueiterator",data:=.fields #[.ref d,.int 0 0,.int kvs.length 0,.int ep 0] }).IsValIter h2.objs.size d 0 kvs.length ep:=⟨_,dU _ rfl,rfl,rfl⟩
 have v3:(h2.push { cls:=.type "dict_valueiterator",data:=.fields #[.ref d,.int 0 0,.int kvs.length 0,.int ep 0] }).IsValuesView v d:=by
  obtain⟨o,e,r⟩:=v2
  exact⟨o,up _ _ e,r⟩
 have d3:(h2.push { cls:=.type "dict_valueiterator",data:=.fields #[.ref d,.int 0 0,.int kvs.length 0,.int ep 0] }).DictAt (cV P w) d kvs ep:=d2.at' fun o e=>up _ _ e
 have gS3:=up _ _ gS2
 show aO _ _ _ _ _ { s with heap:=h2.push { cls:=.type "dict_valueiterator",data:=.fields #[.ref d,.int 0 0,.int kvs.length 0,.int ep 0] } }
 generalize h2.push { cls:=.type "dict_valueiterator",data:=.fields #[.ref d,.int 0 0,.int kvs.length 0,.int ep 0] }=h3 at up g3 v3 d3 gS3
 refine aL (iG (hint_vals (s:={ s with heap:=h3 }) v3 ?_))
 refine wpAny_ite_split (fun _=>?_) (fun hab=>absurd (by decide +kernel) hab)
 refine aL (wpAny_rule (aL ?_))
 show aO _ _ (uQ s.heap.objs.size (·.push .none) >>= fun _=>uQ s.heap.objs.size (·.pop)) _ _ _
 refine aL (uN gS3 rfl ?_)
 have gS4:=pW (gE (·.push eU)) gS3 rfl
 refine uN gS4 rfl ?_
 have gS5:=pW (gE (·.pop)) gS4 rfl
 have oth : ∀ b o,b≠s.heap.objs.size->h3.get? b=some o->((h3.update s.heap.objs.size (gE (·.push eU))).update s.heap.objs.size (gE (·.pop))).get? b=some o:=
  fun b o hb e=>(pX _ _ (gU hb)).trans ((pX _ _ (gU hb)).trans e)
 have nI:d≠h2.objs.size:=cK (sI dS sz)
 have nS:s.heap.objs.size∉[h2.objs.size,d]:=fun z=>by
  rcases cN.mp z with z | z
  ·exact absurd z (cK sz)
  ·exact absurd (dG.mp z) (lE dS)
 have W:=(Walks.dictValues (prog:=P) (w:=w) (knd:=cV P w) (A:=A.in1.in1) (by simp[hh]) h2.objs.size d nI kvs ep).toS
 refine bB ⟨rX F.plain_extend_loop _,codeAny_extend_loopS W hz _ nS _ kvs.length 0 _ _ _ rfl (eE _) ⟨g3.at fun o e=>oth _ o (gU (cK sz)) e,d3.at' fun o e=>oth _ o (cK dS) e⟩ gS5 (ItemsOf.nil _) fun s' acc c hm gS6 hacc=>?_⟩
 rw[Moved.eq_with hm]
 refine⟨rfl,q s'.heap s'.toks acc c (fun b o e=>hm.heap b o (fun z=>?_) (oth _ _ (cK (bK e)) (up _ _ (old b o e)))) gS6 hacc⟩
 have lb:=bK e
 rcases cN.mp z with z | z
 ·exact absurd lb (by rw[z]; exact jE _)
 ·exact absurd (dG.mp z) (cK (sI lb sz))
end
section
variable {X:Cx}{l:aS}{p pos apos vpos:bG}
noncomputable def tLvs (tl:TE):TE:=fun σ H Q=>tl σ H fun x H1=>∃ a ep kvs,x = .ref a/\H1 a=some (.dK ep kvs) /\ ∀ q,H1 q=none->Q (.ref q) (upd H1 q (.lst (kvs.map (·.2))))
theorem FO {tl:TE}(hc:X.calm=true)(g1:Gl X "list")(m1:X.mg "list" = none)(hl:PE X l tl)(hbase:iX l "values" X.env (bC l X.env)=bC l X.env:=by rfl)(hline:(apos.endLine == vpos.line)=true:=by rfl)
  (hs1:bF [pZ (.Attribute l "values" apos) [] [] vpos] X.env=[(false,bC (pZ (.Attribute l "values" apos) [] [] vpos) X.env)]:=by rfl) :
  PE X (.Call (.Name "list" p) [.Call (.Attribute l "values" apos) [] [] vpos] [] pos) (tLvs tl):=by
 intro pins s σ H Q I h
 refine Call_ (qK I g1 m1 yQ (DY ?_ hs1 rfl))
 rw[hs1]
 show aO _ _ (spliced ((false,bC (pZ (.Attribute l "values" apos) [] [] vpos) X.env)::[])) _ _ s
 refine Calls.spliced_cons ?_
 refine wpAny_Call_method (T:="dict") (id:="dict.values") hbase rfl hline F.plainAttrs_dict zE F.type_dict_values (thn (hl pins s σ H _ I h) fun v s1 gh=>?_)
 obtain⟨x,H1,I1,r1,q1⟩:=gh
 obtain⟨a,ep,kvs,rfl,ha,q⟩:=q1
 cases r1
 obtain⟨z,nm,vs,r,d⟩:=mO I1.hok (.inl ha)
 obtain⟨_,_,vs2,_,dd⟩:=dk_of I1.hok ha
 have hn:kvs.length=vs.length:=r.length
 refine⟨dd.typeIs,dd.mapOf.noDict,?_⟩
 show aO _ _ (callWith vpos (.builtin "dict.values") [.ref a] [] []) _ _ _
 refine method_meetsIn zE F.entry_dict_values rfl (DC ⟨rfl,dd.typeIs,F.args_dict_values_1 _,_,meets_dict_values _ a nm,⟨vs2,dd⟩,?_⟩)
 refine Calls.spliced_nil ?_
 have up : ∀ b o,s1.heap.get? b=some o->(s1.heap.push { cls:=.type "dict_values",data:=.fields #[.ref a] }).get? b=some o:=fun b o e=>cF _ e
 refine GZ (s:={ s1 with heap:=s1.heap.push { cls:=.type "dict_values",data:=.fields #[.ref a] } }) (I1.ok.hd hc) ⟨_,dU _ rfl,rfl,rfl⟩ (d.at' fun o e=>up _ _ e) (by omega) fun h' tk acc c hk gS hacc=>?_
 have hv:Vals (kvs.map (·.2)) acc.toList:=by
  refine xM (by simp[hacc.1,hn]) fun i x u h1 h2=>?_
  rw[eX] at h1
  obtain⟨kv,hkv,rfl⟩:=mD.mp h1
  obtain⟨u',hu,_,r2⟩:=kv_get r hkv
  obtain⟨k,e⟩:=hacc.2 i u (by simpa using h2)
  rw[hu] at e
  cases e
  exact r2
 have sz:(s1.heap.push { cls:=.type "dict_values",data:=.fields #[.ref a] }).objs.size=s1.heap.objs.size+1:=vH ..
 have fr:H1 (s1.heap.objs.size+1)=none:=I1.hok.fresh (nC _)
 rw[sz] at gS ⊢
 exact⟨.ref (s1.heap.objs.size+1),_,I1.laid (t':=tk) (o:=.lst (kvs.map (·.2))) (fun b o e=>hk b o (up _ _ e)) (nC _) (show Ace X.prog X.w _ h' _ (.lst (kvs.map (·.2))) from⟨by rw[cU]; exact z,acc.toList,c,hv,by simpa using gS⟩),rfl,q _ fr⟩
noncomputable def qH:List aA->Option aA
 | [.dict kds]=>if plK kds=true then some (.list (kds.map (·.2))) else none
 | _=>none
theorem AN {K:aI}{H:Hp} : ∀ {kds:List (aA×aA)} {kvs:List (aM×V)},Abj K H kds kvs->Aaq K H (kds.map (·.2)) (kvs.map (·.2))
 | [],kvs,r=>by rw[Aba.mp r]; exact Aal.mpr rfl
 | (k,d)::ds,kvs,r=>by
  obtain⟨k',x,t,rfl,_,r1,r2⟩:=Aav.mp r
  exact Aad.mpr ⟨_,_,rfl,r1,AN r2⟩
theorem df_listVals {f:EF}(hc:X.calm=true)(g1:Gl X "list")(m1:X.mg "list" = none)(hl:DE X l f)(hbase:iX l "values" X.env (bC l X.env)=bC l X.env:=by rfl)(hline:(apos.endLine == vpos.line)=true:=by rfl)
  (hs1:bF [pZ (.Attribute l "values" apos) [] [] vpos] X.env=[(false,bC (pZ (.Attribute l "values" apos) [] [] vpos) X.env)]:=by rfl) :
  DF 1 X (.Call (.Name "list" p) [.Call (.Attribute l "values" apos) [] [] vpos] [] pos) (aQ qH (aH f aJ)):=PE.imp (FO hc g1 m1 hl hbase hline hs1) fun σ H Q gh=>by
 obtain⟨P,ρ,d,hP,rs,ef,k⟩:=gh
 obtain⟨as,e1,ef2⟩:=XBs ef
 obtain⟨d1,e3,e0⟩:=XBs e1
 have e0:[d1]=as:=by simpa [aJ] using e0
 subst e0
 clear ef
 unfold qH at ef2
 split at ef2
 ·rename_i kds e4
  cases e4
  obtain⟨pk,rfl⟩:=cP ef2
  refine⟨P,ρ,_,hP,rs,e3,cR fun v H1 x1 r1=>?_⟩
  obtain⟨a,kvs,rfl,ha,rr⟩:=(qV pk).mp r1
  exact⟨a,kvs.1,kvs.2,rfl,Aa3 _ _ ha,fun l hn=>(k.mono x1).lst (hP.ext x1) hn (AN rr)⟩
 ·cases ef2
end
noncomputable def Itvd (a:aB)(ep n:Nat):It:=
 ⟨fun i H=>∃ kvs kv,H a=some (.dK ep kvs)/\kvs.length=n/\kvs[i]?=some kv,fun i H x H'=>H'=H /\ ∀ kvs,H a=some (.dK ep kvs) -> ∃ kv,kvs[i]?=some kv/\x=kv.2,fun i H=>∃ kvs,H a=some (.dK ep kvs)/\kvs.length=n/\n≤i⟩
theorem turn_vals {P:bA}{w:aX}{K:aI}{tg:aS}(a it:aB)(ep n:Nat):Turn P w K tg (Itvd a ep n) [it] it (fun i h=>h.IsValIter it a i n ep) where
 mem:=dG.mpr rfl
 obj:=fun i h ⟨o,e,_,d⟩ b hb=>by
  rw[dG.mp hb]
  exact⟨o,e,fun v z=>by rw[d] at z; cases z⟩
 keep:=fun i h h' st k=>st.at fun o e=>k it (dG.mpr rfl) o e
 item:=by
  intro X hP hw hK hc i pins s σ H E I hf st hg
  subst hP hw hK
  obtain⟨kvs,kv,ha,hn,hk⟩:=hg
  subst hn
  obtain⟨z,nm,vs,r,d⟩:=mO I.hok (.inl ha)
  have hl:kvs.length=vs.length:=r.length
  obtain⟨u,hu,r1,r2⟩:=kv_get r hk
  obtain⟨uk,uv⟩:=u
  rw[hl] at st
  refine wpAny_pyNext_values_item st d hu fun h' st' sb=>?_
  have I1:Inv X pins σ H { s with heap:=h' }:=I.turnM (t':=s.toks) hf fun b o nb e=>sb.extBut b o (fun q=>nb (dG.mpr q)) e
  obtain⟨o,e,c,dd⟩:=id st'
  refine⟨uv,rfl,go_of (s:={ s with heap:=h' }) e c dd (by decide) ⟨kv.2,H,I1,r2,⟨rfl,fun kvs' h2=>?_⟩,by rw[hl]; exact st',fun b hb=>(hf b hb).1⟩⟩
  rw[ha] at h2
  cases h2
  exact⟨kv,hk,rfl⟩
 done:=by
  intro X hP hw hK hc i pins s σ H E I hf st hg
  subst hP hw hK
  obtain⟨kvs,ha,hn,hi⟩:=hg
  subst hn
  obtain⟨z,nm,vs,r,d⟩:=mO I.hok (.inl ha)
  have hl:kvs.length=vs.length:=r.length
  rw[hl] at st
  exact wpAny_pyNext_values_end (I.ok.hd hc) st d (by simp; omega) fun h' eb=>⟨rfl,I.turnM (t':=s.toks) hf fun b o nb e=>eb b o (fun q=>nb (dG.mpr q)) e⟩
 self:=fun _ _ _ _ _ st h=>wpAny_pyIter_valiter st h
section
variable {X:Cx}{l e tg:aS}{apos pos:bG}
noncomputable def iVal (tl:TE):TI:=fun σ H R=>tl σ H fun x H1=>∃ a ep kvs,x = .ref a/\H1 a=some (.dK ep kvs)/\R (Itvd a ep kvs.length) H1
theorem pi_vals {tl:TE}(hl:PE X l tl)(hbase:iX l "values" X.env (bC l X.env)=bC l X.env:=by rfl)(hline:(apos.endLine == pos.line)=true:=by rfl):PI X tg (.Call (.Attribute l "values" apos) [] [] pos) (iVal tl):=by
 intro pins s σ H R I h
 refine wpAny_Call_method hbase rfl hline F.plainAttrs_dict zE F.type_dict_values (thn (hl pins s σ H _ I h) fun v s1 gh=>?_)
 obtain⟨x,H1,I1,r1,q1⟩:=gh
 obtain⟨a,ep,kvs,rfl,ha,q⟩:=q1
 cases r1
 obtain⟨z,nm,vs,r,d⟩:=mO I1.hok (.inl ha)
 obtain⟨_,_,vs2,_,dd⟩:=dk_of I1.hok ha
 have hn:=r.length
 refine⟨dd.typeIs,dd.mapOf.noDict,?_⟩
 refine method_meetsIn zE F.entry_dict_values rfl (DC ⟨rfl,dd.typeIs,F.args_dict_values_1 _,_,meets_dict_values _ a nm,⟨vs2,dd⟩,?_⟩)
 have d2:(s1.heap.push { cls:=.type "dict_values",data:=.fields #[.ref a] }).DictAt (cV X.prog X.w) a vs ep:=by
  obtain⟨o,es,ho,rr⟩:=d
  exact⟨o,es,cF _ ho,rr⟩
 refine wpAny_pyIter_values ⟨_,dU _ rfl,rfl,rfl⟩ d2 ?_
 have all : ∀ b o,s1.heap.get? b=some o->((s1.heap.push { cls:=.type "dict_values",data:=.fields #[.ref a] }).push { cls:=.type "dict_valueiterator",data:=.fields #[.ref a,.int 0 0,.int vs.length 0,.int ep 0] }).get? b=some o:=fun b o e=>cF _ (cF _ e)
 refine⟨_,[_],_,_,H1,rfl,I1.kept all,turn_vals a _ ep kvs.length,?_,fun b hb=>?_,q⟩
 ·rw[hn]
  exact⟨_,dU _ rfl,rfl,rfl⟩
 ·rw[dG.mp hb]
  have le:s1.heap.objs.size≤(s1.heap.push { cls:=.type "dict_values",data:=.fields #[.ref a] }).objs.size:=by
   rw[vH]
   omega
  exact I1.fpOk le (I1.hok.fresh le)
noncomputable def iDV (f:EF):AF:=fun ρ=>(f ρ).bind fun d=>match d with
 | .dict kds=>if plK kds=true then some (kds.map (·.2)) else none
 | _=>none
theorem itd_vals {K:aI}{B:Hp}{a:aB}{ep:Nat}{kvs:List (aM×V)}{kds:List (aA×aA)}(h:B a=some (.dK ep kvs))(r:Abj K B kds kvs):ItD K B (Itvd a ep kvs.length) (kds.map (·.2)):=fun i H2 x2=>by
 have h2:=x2 _ _ h
 refine⟨fun d hd=>?_,fun e=>⟨kvs,h2,rfl,by rw[← e,cU,r.length]; exact bM _⟩⟩
 rw[eX] at hd
 obtain⟨kd,hk,rfl⟩:=mD.mp hd
 obtain⟨kv,g1,g2,g3⟩:=repk_get r hk
 refine⟨⟨kvs,kv,h2,rfl,g1⟩,?_⟩
 rintro x H3 ⟨rfl,hx⟩
 obtain⟨kv',q1,rfl⟩:=hx kvs h2
 have:=fA (q1.symm.trans g1)
 subst this
 exact⟨Ext.refl,fun P2 _ xb=>g3.ext xb⟩
theorem di_vals {f:EF}(h:DE X l f)(hbase:iX l "values" X.env (bC l X.env)=bC l X.env:=by rfl)(hline:(apos.endLine == pos.line)=true:=by rfl):DI X tg (.Call (.Attribute l "values" apos) [] [] pos) (iDV f):=PI.imp (pi_vals h hbase hline) fun σ H R gh=>by
 obtain⟨P,ρ,ds,hP,rs,ef,k⟩:=gh
 obtain⟨d,e1,ef⟩:=XBs ef
 cases d with
 | dict kds=>
  obtain⟨pk,rfl⟩:=cP ef
  refine⟨P,ρ,_,hP,rs,e1,cR fun v H1 x1 r1=>?_⟩
  obtain⟨a,kvs,rfl,hq,rr⟩:=(qV pk).mp r1
  exact⟨a,kvs.1,kvs.2,rfl,Aa3 _ _ hq,k _ H1 x1 (itd_vals hq rr)⟩
 | _=>cases ef
end
theorem Sta.wtmp {K:aI}{H0 H B0:Hp}{P0:aB->Prop}{ρ:aZ}{σ:St}{fp:Nat->List aB}(S:Sta K H0 P0 B0 ρ σ H fp){j:Nat}{p:aB}{o:HO}(hj:ρ.length≤j)(m:p∈fp j)(ho:(∃ xs,o = .lst xs) \/ ∃ q:DQ,o=dO q):Sta K H0 P0 B0 ρ σ (upd H p o) fp:=by
 have np:=(S.own j p m).1
 have hb:L2.hid (upd H p o) (Hd P0 fp)=L2.hid H (Hd P0 fp):=by
  funext b
  unfold L2.hid
  by_cases h:Hd P0 fp b
  ·rw[if_pos h,if_pos h]
  ·rw[if_neg h,if_neg h,bH (fun z=>h (.inr ⟨j,by rw[z]; exact m⟩))]
 refine⟨S.len,S.nd,S.dj,fun i a ma=>⟨(S.own i a ma).1,?_⟩,fun b u e=>?_,S.hd,by rw[hb]; exact S.base,fun i n d e=>?_⟩
 ·by_cases h:a=p
  ·rw[h,dQ]
   rcases ho with⟨xs,rfl⟩ | ⟨q,rfl⟩
   ·exact .inl ⟨xs,rfl⟩
   ·exact .inr ⟨q,rfl⟩
  ·rw[bH h]
   exact(S.own i a ma).2
 ·rw[bH (fP e np)]
  exact S.ext b u e
 ·obtain⟨v,h1,h2⟩:=S.slot i n d e
  refine⟨v,h1,?_⟩
  rw[hb]
  refine h2.keep Ext.refl fun a ma=>bH fun z=>?_
  have hi:=(eK.mp e).1
  have:=S.dj i j a ma (z ▸ m)
  omega
theorem All3.len1 {α β γ:Type}{R:α->β->γ->Prop} : ∀ {as:List α} {bs:List β} {cs:List γ},All3 R as bs cs->bs.length=as.length
 | _,_,_,.nil=>rfl
 | _,_,_,.cons _ t=>congrArg (· + 1) t.len1
section
variable {X:Cx}{H0:Hp}{P0:aB->Prop}{n0:Nat}{ce:aS}{f:EF}{pos apos cpos cp:bG}{t:aD}{j:Nat}
noncomputable def sZ (m:Md)(f:EF):SF:=fun ρ=>(eV 1 m f ρ).bind fun d=>match d with
 | .list ds=>if ds.length<sizeLine then some (.nx ρ) else none
 | _=>none
theorem ds_tmpApp (m:Md)(h:DF 1 X ce f)(hbase:iX ce "append" X.env (bC ce X.env)=bC ce X.env:=by rfl)
  (hfew:((eQ cpos (bF (.Constant (.str t) j cp::[]) X.env)).all (fun x=>!x.1)&&(sA cpos (rY [] X.env)).all (fun x=>x.1.isSome)
   && decide ((Expr.Constant (.str t) j cp::[]).length+([]:List oF).length+(if ([]:List oF).isEmpty then 0 else 1)<30))=true:=by rfl)
  (hline:(apos.endLine == cpos.line)=true:=by rfl) (hs:bF (.Constant (.str t) j cp::[]) X.env=(false,bC (.Constant (.str t) j cp) X.env)::bF [] X.env:=by rfl) (hplain:(eQ cpos (bF [] X.env)).any (·.1)=false:=by rfl)
  (hsw:iW (.Call (.Attribute ce "append" apos) [.Constant (.str t) j cp] [] cpos) none pos.line X.env=pure false:=by rfl):DS X H0 P0 n0 (.Expr (.Call (.Attribute ce "append" apos) [.Constant (.str t) j cp] [] cpos) pos) (sZ m f):=
 PS.imp (oT (pe_bm HH HF HE wK (ev m h) (iR pe_str kX hs) hbase hfew hline hs hplain) hsw) fun D σ H gh=>by
  obtain⟨B0,ρ,fp,o,S,ef,k⟩:=gh
  obtain⟨d,e1,ef⟩:=XBs ef
  cases d with
  | list ds=>
   obtain⟨hl,rfl⟩:=cP ef
   refine⟨B0,ρ,fp,_,S,e1,fun v H2 gh=>?_⟩
   obtain⟨fp2,S2,r2⟩:=gh
   obtain⟨p,xs,Fs,rfl,hp,hF,h3⟩:=r2
   have hx:=h3.len1
   refine⟨.inl ⟨rfl,xs,SqL.of hp⟩,p,xs,.str t,rfl,rfl,hp,by omega,k _ _ fp2 (S2.wtmp (bM _) (by rw[hF]; exact cA) (.inl ⟨_,rfl⟩))⟩
  | _=>cases ef
def rDClear:V->List V->Hp->VK->Prop:=fun x vs H Q=>∃ d ep kvs,x = .ref d/\vs=[]/\H d=some (.dK ep kvs) /\ ∀ n,Q .non (upd H d (.dK n []))
theorem mt_dclear:MtM X "dict.clear" rDClear:=by
 intro pins s σ H x vs v us Q I rx rv h
 obtain⟨d,ep,kvs,rfl,rfl,e,q⟩:=h
 cases rx
 have hus:=rv.zero
 subst hus
 obtain⟨z,hd,ws,rel,dd⟩:=dk_of I.hok e
 refine call_meetsIn HG dd.typeIs PySem.F.entry_dict_clear (PySem.F.args_dict_clear_1 _) (meets_dict_clear (knd:=cV X.prog X.w) (d:=d)) ⟨ws,dd,by rw[← rel.length]; exact z,fun h' dd' sb=>?_⟩
 have he : ∃ q,h'.get? d=some q:=let ⟨q,_,_,hq,_⟩:=dd'; ⟨q,hq⟩
 obtain⟨n,da⟩:=dd'.dictAt
 exact⟨.non,_,tO I (by rw[e]; exact iY) sb he (dk_new (eE _) hd .nil da),rfl,q n⟩
noncomputable def tL (m:Md)(f:EF):SF:=fun ρ=>(eV 2 m f ρ).bind fun d=>match d with
 | .dict _=>some (.nx ρ)
 | _=>none
theorem ds_tmpClr (m:Md)(h:DF 2 X ce f)(hbase:iX ce "clear" X.env (bC ce X.env)=bC ce X.env:=by rfl)(hline:(apos.endLine == cpos.line)=true:=by rfl)
  (hsw:iW (.Call (.Attribute ce "clear" apos) [] [] cpos) none pos.line X.env=pure false:=by rfl):DS X H0 P0 n0 (.Expr (.Call (.Attribute ce "clear" apos) [] [] cpos) pos) (tL m f):=
 PS.imp (oT (pe_bm0 PySem.F.plainAttrs_dict HG PySem.F.type_dict_clear mt_dclear (ev m h) hbase hline) hsw) fun D σ H gh=>by
  obtain⟨B0,ρ,fp,o,S,ef,k⟩:=gh
  obtain⟨d,e1,ef⟩:=XBs ef
  cases d with
  | dict ds=>
   cases ef
   refine⟨B0,ρ,fp,_,S,e1,fun v H2 gh=>?_⟩
   obtain⟨fp2,S2,r2⟩:=gh
   obtain⟨p,xs,Fs,rfl,hp,hF,h3⟩:=r2
   exact⟨.inr (.inr (.inl ⟨rfl,.inl ⟨_,_,hp⟩⟩)),p,_,_,rfl,rfl,hp,fun n=>k _ _ fp2 (S2.wtmp (bM _) (by rw[hF]; exact cA) (.inr ⟨.inl (n,[]),rfl⟩))⟩
  | _=>cases ef
end
noncomputable def heldD (kds:List (aA×aA)):List (aA×aA):=kds.map fun kd=>(kd.1,.dict [(.none,.none)])
noncomputable def oK (c x:aD)(Fa:List aA->Option aA):FX:=open Classical in fun z ds=>match ds with
 | [d]=>(Fa [d]).bind fun b=>match b with
  | .bool true=>(nM [d]).bind fun w=>match w with
   | .dict kds=>if (∀ kd∈kds,eP kd.2=true)/\(kds.map (·.1)).Nodup/\kds.length<sizeLine then some (insD c (.dict kds) (.dict (heldD kds))) else none
   | _=>none
  | .bool false=>if z=some x then some (rsD x) else none
  | _=>none
 | _=>none
theorem mkBook_one {c x:aD}{Fa:List aA->Option aA} : ∀ z ds d,oK c x Fa z ds=some d -> ∃ d1,ds=[d1]:=fun z ds d h=>by
 unfold oK at h
 split at h
 ·exact⟨_,rfl⟩
 ·cases h
theorem FK {c x:aD}{Fa:List aA->Option aA}{z:Option aD}{d1 d:aA}(h:oK c x Fa z [d1]=some d) :
  (Fa [d1]=some (.bool false)/\z=some x/\d=rsD x) \/ ∃ kds,Fa [d1]=some (.bool true)/\nM [d1]=some (.dict kds)/\(∀ kd∈kds,eP kd.2=true)/\(kds.map (·.1)).Nodup/\kds.length<sizeLine/\d=insD c (.dict kds) (.dict (heldD kds)):=by
 have h:((Fa [d1]).bind fun b=>_)=some d:=h
 obtain⟨b,e1,h⟩:=XBs h
 split at h
 ·obtain⟨w,e2,h⟩:=XBs h
  split at h
  ·obtain⟨⟨h1,h2,h3⟩,rfl⟩:=cP h
   exact .inr ⟨_,e1,e2,h1,h2,h3,rfl⟩
  ·cases h
 ·obtain⟨h1,rfl⟩:=cP h
  exact .inl ⟨e1,h1,rfl⟩
 ·cases h
noncomputable def hvZ (kvs:List (aM×V))(ps:List aB):List (aM×V):=List.zipWith (fun kv p=>(kv.1,V.ref p)) kvs ps
theorem hvZ_snoc : ∀ {kvs:List (aM×V)} {ps:List aB} {kv:aM×V} {p:aB},kvs[ps.length]?=some kv->hvZ kvs (ps++[p])=hvZ kvs ps++[(kv.1,V.ref p)]
 | k::kvs,[],kv,p,e=>by
  cases e
  simp[hvZ]
 | k::kvs,q::ps,kv,p,e=>by
  show _::hvZ kvs (ps++[p])=_::(hvZ kvs ps++_)
  rw[hvZ_snoc (kv:=kv) (by simpa using e)]
 | [],ps,kv,p,e=>by simp at e
theorem hvZ_len : ∀ {kvs:List (aM×V)} {ps:List aB},ps.length≤kvs.length->(hvZ kvs ps).length=ps.length:=fun {kvs ps} h=>by
 unfold hvZ
 rw[List.length_zipWith]
 omega
theorem hvZ_mem : ∀ {kvs:List (aM×V)} {ps:List aB} {e:aM×V},e∈hvZ kvs ps -> ∃ i kv,i<ps.length/\kvs[i]?=some kv/\e.1=kv.1
 | [],ps,e,m=>by simp[hvZ] at m
 | k::kvs,[],e,m=>by simp[hvZ] at m
 | k::kvs,p::ps,e,m=>by
  have m:e∈(k.1,V.ref p)::hvZ kvs ps:=m
  rcases cN.mp m with rfl | m
  ·exact⟨0,k,by simp,rfl,rfl⟩
  ·obtain⟨i,kv,h1,h2,h3⟩:=hvZ_mem m
   exact⟨i+1,kv,by simpa using h1,by simpa using h2,h3⟩
theorem AW {k:aM} : ∀ {l:List (aM×V)},(∀ e∈l,e.1≠k)->eO l k=none
 | [],_=>rfl
 | e::l,h=>by
  have h1:=h e cA
  have h2:=AW fun e m=>h e (cI _ m)
  unfold eO at h2 ⊢
  simp[iJ,h1] at h2 ⊢
  first | exact h2 | simp_all
theorem hvZ_new {kvs:List (aM×V)}{ps:List aB}{kv:aM×V}(nd:(kvs.map (·.1)).Nodup)(e:kvs[ps.length]?=some kv):eO (hvZ kvs ps) kv.1=none:=AW fun x m=>by
 obtain⟨i,kv',h1,h2,h3⟩:=hvZ_mem m
 rw[h3]
 intro z
 have hl:=(eK.mp e).1
 have g1:(kvs.map (·.1))[i]?=some kv'.1:=by rw[eX,h2]; rfl
 have g2:(kvs.map (·.1))[ps.length]?=some kv.1:=by rw[eX,e]; rfl
 have:=(List.getElem?_inj (l:=kvs.map (·.1)) (i:=i) (j:=ps.length) (by simpa using(eK.mp h2).1) nd).mp (by rw[g1,g2,z])
 omega
theorem zM {K:aI}{H:Hp} : ∀ {kds:List (aA×aA)} {kvs:List (aM×V)},Abj K H kds kvs->kds.map (·.1)=(kvs.map (·.1)).map kD
 | [],kvs,r=>by rw[Aba.mp r]; rfl
 | (k,d)::ds,kvs,r=>by
  obtain⟨k',x,t,rfl,ek,r1,r2⟩:=Aav.mp r
  rw[dR,zM r2,ek]
  rfl
theorem hvZ_held {K:aI}{B B2 H:Hp} : ∀ {kds:List (aA×aA)} {kvs:List (aM×V)} {ps:List aB},Abj K B2 kds kvs->ps.length=kvs.length->(∀ p∈ps,H p=some (.dT 0 []))->All3 (HeldAt K B H) (heldD kds) (hvZ kvs ps) ps
 | [],kvs,ps,r,hl,hp=>by
  rw[Aba.mp r] at hl ⊢
  cases ps with
  | nil=>exact .nil
  | cons _ _=>simp at hl
 | (k,d)::kds,kvs,ps,r,hl,hp=>by
  obtain⟨k',y,t,rfl,ek,h1,h2⟩:=Aav.mp r
  cases ps with
  | nil=>simp at hl
  | cons p ps=>exact .cons ⟨ek,rfl,[],p,(0,[]),rfl,rfl,hp p cA,rfl,fun kd m=>by simp at m,Acn.mpr rfl⟩ (hvZ_held h2 (by simpa using hl) fun q m=>hp q (cI _ m))
theorem book_rep {K:aI}{P0:aB->Prop}{Hw H':Hp}{c:aD}{C dx x w q:aB}{kds:List (aA×aA)}{kvs:Nat×List (aM×V)}{n:Nat}{ps:List aB}(hc:cY K c=some (.ref C))(hx:H' x=some (.ins C dx [("wide",.ref w),("held",.ref q)]))(hw:H' w=some (.dK kvs.1 kvs.2))
  (hq:H' q=some (.dK n (hvZ kvs.2 ps))) (hl:ps.length=kvs.2.length) (hp : ∀ p∈ps,H' p=some (.dT 0 [])) (fl : ∀ kd∈kds,eP kd.2=true) (rk:Abj K (hid Hw (orL P0 [w])) kds kvs.2) (kp : ∀ b o,b≠x->Hw b=some o->H' b=some o) (hn : ∀ xs,Hw x≠some (.tup xs)) :
  Afg K (hid H' (orL P0 (x::w::q::ps))) H' 9 (insD c (.dict kds) (.dict (heldD kds))) (.ref x) (x::w::q::ps):=by
 refine(bJ (.inr ⟨⟨c,C,dx,x,w,q,kds,heldD kds,kvs,(n,hvZ kvs.2 ps),ps,rfl,rfl,hc,hx,hw,fl,?_,hq,rfl,hvZ_held rk hl hp⟩⟩):_ \/ Ai4 _ _ _ _ _ _ \/ RepB _ _ _ _ _ _)
 refine rk.flat (fun a xs e=>?_) fl
 obtain⟨na,e⟩:=Ac6.mp e
 have nx:a≠x:=fun z=>by rw[z] at e; exact hn xs e
 have e2:=kp a _ nx e
 refine fY (fun z=>?_) e2
 rcases z with z | z
 ·exact na (.inl z)
 ·simp only[cN] at z
  rcases z with z | z | z | z
  ·exact nx z
  ·rw[z,hw] at e2; cases e2
  ·rw[z,hq] at e2; cases e2
  ·rw[hp a z] at e2; cases e2
theorem sum_lst {P:bA}{w:aX}{A:bQ}{E:aE->aG->Prop}{s:aG}{l:aB}{vs:List aE}{is:List Int}{Q:aE->aG->Prop}(hh:A.handled=none)(hl:s.heap.IsList l vs.toArray)(hi:IntsAre vs is)
  (h : ∀ t h' tk,(∀ b o,s.heap.get? b=some o->h'.get? b=some o)->Q (.int is.sum t) { s with heap:=h',toks:=tk }):aO (aP P w) A (call (.builtin "sum") [.ref l]) Q E s:=by
 obtain⟨xs,e⟩:=hi.allInts.items
 have e2:is=numsOf (intItems xs).toList:=by
  rw[← e]
  exact hi.numsOf.symm
 rw[e] at hl
 refine sum_intListG hh hl fun h' tk t' hk=>?_
 have:=h t' h' tk hk
 rw[e2,nums_intItems] at this
 rw[preSum_eq,yY (by simp)]
 exact this
theorem boot_sumL:iH "sum" = some (.builtin "sum"):=by kernel_rfl
section
variable {X:Cx}
theorem call_sumL (hc:X.calm=true):Acv X (.builtin "sum") (fun xs H Q=>∃ p,∃ is:List Int,xs=[.ref p]/\SqL X.K H p (is.map V.int)/\Q (.int is.sum) H):=by
 intro pins s σ H xs us Q I r h
 obtain⟨p,is,rfl,hp,q⟩:=h
 obtain⟨u,rfl,ru⟩:=vals1 r
 cases ru
 obtain⟨its,rv,pl,_⟩:=I.list hp
 refine sum_lst (I.ok.hd hc) pl.isList (intsA rv) fun t h' tk hk=>?_
 exact⟨.int is.sum,H,I.kept fun b o e=>hk b o e,⟨t,rfl⟩,q⟩
noncomputable def gSumL:List aA->Option aA
 | [.list ds]=>(asIs ds).bind fun is=>some (.int is.sum)
 | _=>none
theorem calld_sumL {K:aI}:CallD K 0 (fun xs H Q=>∃ p,∃ is:List Int,xs=[.ref p]/\SqL K H p (is.map V.int)/\Q (.int is.sum) H) gSumL:=fun P H xs ds d Q hP r e k=>by
 unfold gSumL at e
 split at e
 ·obtain⟨is,e1,e2⟩:=XBs e
  cases e2
  obtain rfl:=asIs_eq e1
  obtain⟨v,rfl,r'⟩:=fF r
  obtain⟨q,ys,rfl,hq,rr⟩:=Aa9.mp r'
  obtain rfl:=CI rr
  exact⟨q,is,rfl,Aa3.sqL hq,k.zero Ext.refl (Aam.mpr rfl)⟩
 ·cases e
end
section
variable {X:Cx}{k v:aS}{pos:bG}
noncomputable def tD1 (tk tv:TE):TE:=fun σ H Q=>∀ p,H p=none->tk σ (upd H p (.dK 0 [])) fun x H1=>tv σ H1 fun y H2=>H2 p=some (.dK 0 []) /\ ∃ key,x=kV key /\ ∀ n,Q (.ref p) (upd H2 p (.dK n [(key,y)]))
theorem pe_dict1 {tk tv:TE}(hk:PE X k tk)(hv:PE X v tv):PE X (.Dict [some k] [v] pos) (tD1 tk tv):=fun pins s σ H Q I h=>by
 have I':Inv X pins σ (upd H s.heap.objs.size (.dK 0 [])) { s with heap:=s.heap.push { cls:=.type "dict",data:=.dict #[] } }:=I.laid (a:=s.heap.objs.size) (o:=.dK 0 []) (t':=s.toks) (fun _ _ q=>cF _ q) (bM _) (dk_empty s.heap I.big)
 have h':=h s.heap.objs.size (I.hok.fresh (bM _))
 refine wpAny_Dict_walk (knd:=cV X.prog X.w) rfl rfl (by simp) (by simp) ?_
 refine thn (pps_cons hk hv pps_nil pins _ σ _ (fun ps H2=>∃ x y,ps=[(x,y)]/\H2 s.heap.objs.size=some (.dK 0 []) /\ ∃ key,x=kV key /\ ∀ n,Q (.ref s.heap.objs.size) (upd H2 s.heap.objs.size (.dK n [(key,y)]))) I' ?_) fun vs s1 ⟨ps,H2,I2,rel,x,y,eps,e2,key,ex,q⟩=>?_
 ·show tk σ _ fun x H1=>tv σ H1 fun y H2=>_
  have mono:(tk σ (upd H s.heap.objs.size (.dK 0 [])) fun x H1=>tv σ H1 fun y H2=>∃ x1 y1,[(x,y)]=[(x1,y1)]/\H2 s.heap.objs.size=some (.dK 0 []) /\ ∃ key,x1=kV key /\ ∀ n,Q (.ref s.heap.objs.size) (upd H2 s.heap.objs.size (.dK n [(key,y1)]))):=by
   have e:(fun(x:V) (H1:Hp)=>tv σ H1 fun y H2=>∃ x1 y1,[(x,y)]=[(x1,y1)]/\H2 s.heap.objs.size=some (.dK 0 []) /\ ∃ key,x1=kV key /\ ∀ n,Q (.ref s.heap.objs.size) (upd H2 s.heap.objs.size (.dK n [(key,y1)])))=fun x H1=>tv σ H1 fun y H2=>H2 s.heap.objs.size=some (.dK 0 []) /\ ∃ key,x=kV key /\ ∀ n,Q (.ref s.heap.objs.size) (upd H2 s.heap.objs.size (.dK n [(key,y)])):=by
    funext x H1
    congr 1
    funext y H2
    refine propext ⟨fun⟨x1,y1,e,r⟩=>?_,fun r=>⟨x,y,rfl,r⟩⟩
    cases e
    exact r
   rw[e]
   exact h'
  exact mono
 ·subst eps ex
  have rel':VV (([(key,y)]:List (aM×V)).map fun kv=>(kV kv.1,kv.2)) vs:=rel
  obtain⟨rs,c,kv⟩:=BS (P:=X.prog) (w:=X.w) rel'
  obtain⟨_,hd,ws,r0,dd⟩:=dk_of I2.hok e2
  have ew:ws=[]:=by cases r0; rfl
  subst ew
  refine⟨rs,c,dd,fun h2 d2 sb=>?_⟩
  have he : ∃ o,h2.get? s.heap.objs.size=some o:=let ⟨o,_,_,ho,_⟩:=d2; ⟨o,ho⟩
  obtain⟨n,da⟩:=d2.dictAt
  have km:KV [(key,y)] (kL [] rs):=KV.merge (kvs:=[]) kv .nil
  exact⟨.ref s.heap.objs.size,_,tO I2 (by rw[e2]; exact iY) sb he (dk_new (by simp[mY]) hd km da),rfl,q n⟩
noncomputable def asFlat:aA->Option V
 | .int i=>some (.int i)
 | .str z=>some (.str z)
 | _=>none
theorem flat_rep {K:aI}{H H':Hp}{d:aA}{v y:V}(e:asFlat d=some y)(r:Abb K H d v):v=y/\Abb K H' d y:=by
 cases d with
 | int i=>cases e; exact⟨Aam.mp r,Aam.mpr rfl⟩
 | str z=>cases e; obtain⟨e1,e2⟩:=Aap.mp r; exact⟨e1,Aap.mpr ⟨rfl,e2⟩⟩
 | _=>cases e
noncomputable def eD1 (fk fv:EF):EF:=fun ρ=>(fk ρ).bind fun dk=>(cW dk).bind fun key=>(fv ρ).bind fun d=>(asFlat d).bind fun _=>some (.dict [(kD key,d)])
theorem df_dict1 {fk fv:EF}(hk:DE X k fk)(hv:DE X v fv):DF 1 X (.Dict [some k] [v] pos) (eD1 fk fv):=PE.imp (pe_dict1 hk hv) fun σ H Q ⟨P,ρ,d,hP,rs,ef,kk⟩ p hp=>by
 obtain⟨dk,e1,ef⟩:=XBs ef
 obtain⟨key,e2,ef⟩:=XBs ef
 obtain⟨dv,e3,ef⟩:=XBs ef
 obtain⟨y0,e4,ef⟩:=XBs ef
 cases ef
 have x0:Ext H (upd H p (.dK 0 [])):=Ext.new hp
 refine⟨P,ρ,dk,hP.ext x0,rs.ext (cT x0),e1,cR fun x H1 x1 r1=>⟨P,ρ,dv,(hP.ext x0).ext x1,(rs.ext (cT x0)).ext (cT x1),e3,cR fun y H2 x2 r2=>?_⟩⟩
 have ep:H2 p=some (.dK 0 []):=x2 _ _ (x1 _ _ dQ)
 obtain⟨rfl,rz⟩:=flat_rep (H':=hid (fun a=>if a=p then none else H2 a) P) e4 r2
 refine⟨ep,key,pB e2 r1,fun n=>?_⟩
 have xE:Ext H (fun a=>if a=p then none else H2 a):=fun a o e=>by
  have ne:a≠p:=fun q=>by rw[q,hp] at e; cases e
  show(if a=p then none else H2 a)=some o
  rw[if_neg ne]
  exact x2 _ _ (x1 _ _ (x0 _ _ e))
 have eu:upd H2 p (.dK n [(key,y)])=upd (fun a=>if a=p then none else H2 a) p (.dK n [(key,y)]):=by
  funext a
  unfold upd
  by_cases q:a=p
  ·simp[q]
  ·simp[q]
 rw[eu]
 exact(kk.mono xE).dic (hP.ext xE) (by simp) (Aav.mpr ⟨key,y,[],rfl,rfl,rz,Aba.mpr rfl⟩)
end
section
variable {X:Cx}{H0:Hp}{P0:aB->Prop}{n0:Nat}{e k:aS}{f g:EF}{x y:aD}{px py pos apos spos:bG}{i j:Nat}
theorem Tmp.free {K:aI}{H B0:Hp}{ρ:aZ}{σ:St}{n:Nat}{d:aA}{v:V}(t:Tmp K H0 P0 B0 ρ σ n d v H) : ∃ fp,Sta K H0 P0 B0 ρ σ H fp/\Abb K (L2.hid H (Hd P0 fp)) d v:=by
 obtain⟨fp,S,r⟩:=t
 have hsub : ∀ a,Hd P0 (fun j=>if j=ρ.length then [] else fp j) a->Hd P0 fp a:=fun a h=>by
  rcases h with h | ⟨j,h⟩
  ·exact .inl h
  ·by_cases hj:j=ρ.length
   ·simp only[hj,if_true] at h; simp at h
   ·simp only[hj,if_false] at h; exact .inr ⟨j,h⟩
 refine⟨fun j=>if j=ρ.length then [] else fp j,⟨S.len,fun j=>?_,fun j k a h1 h2=>?_,fun j a h1=>?_,S.ext,S.hd,S.base.trans (gC hsub),fun j n' d' e'=>?_⟩,r.share (gC hsub) fun a m o q=>fY (fun z=>?_) q⟩
 ·by_cases hj:j=ρ.length
  ·simp only[hj,if_true]; exact .nil
  ·simp only[hj,if_false]; exact S.nd j
 ·by_cases hj:j=ρ.length
  ·simp only[hj,if_true] at h1; simp at h1
  ·by_cases hk:k=ρ.length
   ·simp only[hk,if_true] at h2; simp at h2
   ·simp only[hj,if_false] at h1; simp only[hk,if_false] at h2; exact S.dj j k a h1 h2
 ·by_cases hj:j=ρ.length
  ·simp only[hj,if_true] at h1; simp at h1
  ·simp only[hj,if_false] at h1; exact S.own j a h1
 ·have hlt:=(eK.mp e').1
  have hj:j≠ρ.length:=by omega
  obtain⟨v',h1,h2⟩:=S.slot j n' d' e'
  refine⟨v',h1,?_⟩
  simp only[hj,if_false]
  exact h2.keep (gC hsub) fun a m=>rfl
 ·rcases z with z | ⟨k,z⟩
  ·exact S.np m z
  ·by_cases hk:k=ρ.length
   ·simp only[hk,if_true] at z; simp at z
   ·simp only[hk,if_false] at z; exact hk (S.dj k _ a z m)
end
section
variable {K:aI}{H0 H B0:Hp}{P0:aB->Prop}{ρ:aZ}{σ:St}{fp:Nat->List aB}{i:Nat}
theorem Sta.change {H':Hp}{fp':Nat->List aB}{n:Nat}{d':aA}{v:V}(S:Sta K H0 P0 B0 ρ σ H fp)(hi:i<ρ.length)(hv:σ[i]?=some (some v))
  (hf : ∀ j,j≠i->j<ρ.length->fp' j=fp j) (hz : ∀ j,ρ.length≤j->fp' j=[] \/ fp' j=fp j) (nd:(fp' i).Nodup) (sub : ∀ a∈fp' i,∃ j,a∈fp j/\(j=i \/ fp' j=[]))
  (kp : ∀ a,a∉fp i->H' a=H a) (ow : ∀ a∈fp' i,(∃ xs,H' a=some (.lst xs)) \/ ∃ q:DQ,H' a=some (dO q))
  (new:Ext (L2.hid H (Hd P0 fp)) (L2.hid H' (Hd P0 fp'))->Afg K (L2.hid H' (Hd P0 fp')) H' n d' v (fp' i)):Sta K H0 P0 B0 (ρ.set i (some (n,d'))) σ H' fp':=by
 have same : ∀ j,j≠i -> ∀ a∈fp' j,a∈fp j:=fun j hj a m=>by
  by_cases h:j<ρ.length
  ·rw[hf j hj h] at m; exact m
  ·rcases hz j (by omega) with e | e
   ·rw[e] at m; simp at m
   ·rw[e] at m; exact m
 have from_ : ∀ j,∀ a∈fp' j,∃ l,a∈fp l:=fun j a m=>by
  by_cases h:j=i
  ·subst h
   obtain⟨l,ml,_⟩:=sub a m
   exact⟨l,ml⟩
  ·exact⟨j,same j h a m⟩
 have xb:Ext (L2.hid H (Hd P0 fp)) (L2.hid H' (Hd P0 fp')):=fun b o e=>by
  obtain⟨nb,e⟩:=Ac6.mp e
  refine fY (fun q=>nb ?_) ?_
  ·rcases q with q | ⟨j,q⟩
   ·exact .inl q
   ·obtain⟨l,ml⟩:=from_ j b q
    exact .inr ⟨l,ml⟩
  ·rw[kp b fun q=>nb (.inr ⟨i,q⟩)]; exact e
 have other : ∀ j,j≠i -> ∀ a∈fp' j,H' a=H a:=fun j hj a m=>kp a fun q=>hj (S.dj j i a (same j hj a m) q)
 refine⟨by simp[S.len],fun j=>?_,fun j l a h1 h2=>?_,fun j a m=>?_,fun b u e=>?_,S.hd,S.base.trans xb,fun j n' d2 e=>?_⟩
 ·by_cases h:j=i
  ·rw[h]; exact nd
  ·by_cases h2:j<ρ.length
   ·rw[hf j h h2]; exact S.nd j
   ·rcases hz j (by omega) with e | e
    ·rw[e]; exact .nil
    ·rw[e]; exact S.nd j
 ·by_cases e1:j=i <;> by_cases e2:l=i
  ·rw[e1,e2]
  ·subst e1
   obtain⟨m,hm,hm2⟩:=sub a h1
   have:=S.dj m l a hm (same l e2 a h2)
   subst this
   rcases hm2 with hm2 | hm2
   ·exact hm2.symm
   ·rw[hm2] at h2; simp at h2
  ·subst e2
   obtain⟨m,hm,hm2⟩:=sub a h2
   have:=S.dj m j a hm (same j e1 a h1)
   subst this
   rcases hm2 with hm2 | hm2
   ·exact hm2
   ·rw[hm2] at h1; simp at h1
  ·exact S.dj j l a (same j e1 a h1) (same l e2 a h2)
 ·obtain⟨l,ml⟩:=from_ j a m
  refine⟨(S.own l a ml).1,?_⟩
  by_cases h:j=i
  ·subst h; exact ow a m
  ·rw[other j h a m]; exact(S.own j a (same j h a m)).2
 ·rw[kp b fun q=>by rw[(S.own i b q).1] at e; cases e]
  exact S.ext b u e
 ·by_cases q:j=i
  ·subst q
   rw[kR hi] at e
   cases e
   exact⟨v,hv,new xb⟩
  ·rw[jG (fun z=>q z.symm)] at e
   obtain⟨v2,h1,h2⟩:=S.slot j n' d2 e
   have hj:=(eK.mp e).1
   refine⟨v2,h1,?_⟩
   have:=other j q
   rw[hf j q hj] at this ⊢
   exact h2.keep xb this
abbrev R1 (K:aI)(B H:Hp):aA×aA->aM×V->List aB->Prop:=fun kd kv f=>kd.1=kD kv.1/\Afg K B H 1 kd.2 kv.2 f
theorem Sta.dic2 {ds:List (aA×aA)}(S:Sta K H0 P0 B0 ρ σ H fp)(e:ρ[i]?=some (some (2,.dict ds))) : ∃ p ep xs Fs,σ[i]?=some (some (.ref p))/\H p=some (.dK ep xs)/\fp i=p::Fs.flatten/\All3 (R1 K (L2.hid H (Hd P0 fp)) H) ds xs Fs:=by
 obtain⟨v,h1,h2⟩:=S.slot i 2 _ e
 obtain⟨p,xs,Fs,rfl,hp,hF,h3⟩:=h2
 exact⟨p,xs.1,xs.2,Fs,h1,hp,hF,h3⟩
theorem lookD_cons (k0 d0:aA)(r:List (aA×aA))(k:aM):cO ((k0,d0)::r) k=if cW k0=some k then some d0 else cO r k:=by
 unfold cO
 rw[iJ]
 by_cases h:cW k0=some k
 ·rw[if_pos h]; simp[h]
 ·rw[if_neg h]; simp[h]
theorem zP {B:Hp}{kd:aA×aA}{kv:aM×V}{f:List aB}(h:R1 K B H kd kv f) : ∀ {ds:List (aA×aA)} {xs:List (aM×V)} {Fs:List (List aB)},All3 (R1 K B H) ds xs Fs->All3 (R1 K B H) (ds++[kd]) (xs++[kv]) (Fs++[f])
 | _,_,_,.nil=>.cons h .nil
 | _,_,_,.cons h' t=>.cons h' (zP h t)
theorem AS {B:Hp}{k:aM} : ∀ {ds:List (aA×aA)} {xs:List (aM×V)} {Fs:List (List aB)},All3 (R1 K B H) ds xs Fs->cO ds k=none->eO xs k=none
 | _,_,_,.nil,_=>rfl
 | (k0,d0)::ds,(k',v0)::xs,f0::Fs,.cons h t,e=>by
  obtain⟨ek,h⟩:=h
  have ek:=ek
  subst ek
  rw[lookD_cons,pA] at e
  by_cases q:k'=k
  ·rw[if_pos (by rw[q])] at e; cases e
  ·rw[if_neg (fun z=>q (fA z))] at e
   exact(oY q).trans (AS t e)
theorem all3_len {B:Hp} : ∀ {ds:List (aA×aA)} {xs:List (aM×V)} {Fs:List (List aB)},All3 (R1 K B H) ds xs Fs->xs.length=ds.length
 | _,_,_,.nil=>rfl
 | _,_,_,.cons _ t=>by rw[eN,eN,all3_len t]
theorem Sta.newKey {ds:List (aA×aA)}{k:aM}{d:aA}{v:V}(S:Sta K H0 P0 B0 ρ σ H fp)(e:ρ[i]?=some (some (2,.dict ds)))(hk:cO ds k=none)(r:Afg K (L2.hid H (Hd P0 fp)) H 1 d v (fp ρ.length)) : ∃ p ep xs,σ[i]?=some (some (.ref p))/\H p=some (.dK ep xs)/\xs.length=ds.length /\
  ∀ n,∃ fp',Sta K H0 P0 B0 (ρ.set i (some (2,.dict (ds++[(kD k,d)])))) σ (upd H p (.dK n (putK xs k v))) fp':=by
 obtain⟨p,ep,xs,Fs,h1,h2,h3,h4⟩:=S.dic2 e
 have hi:=(eK.mp e).1
 refine⟨p,ep,xs,h1,h2,all3_len h4,fun n=>?_⟩
 have ep':putK xs k v=xs++[(k,v)]:=by
  unfold putK
  rw[tQ,AS h4 hk]
  rfl
 have mp:p∈fp i:=by rw[h3]; exact cA
 have nl : ∀ a∈fp ρ.length,a∉fp i:=fun a m m2=>by
  have:=S.dj _ _ a m m2
  omega
 refine⟨fun j=>if j=i then p::(Fs++[fp ρ.length]).flatten else if j=ρ.length then [] else fp j,S.change hi h1 (fun j a b=>?_) (fun j a=>?_) ?_ (fun a m=>?_) (fun a na=>bH fun z=>na (by rw[show a=p from z]; exact mp)) (fun a m=>?_) fun xb=>?_⟩
 ·simp only[a,if_false]
  rw[if_neg (by omega)]
 ·have:j≠i:=by omega
  simp only[this,if_false]
  by_cases z:j=ρ.length
  ·rw[if_pos z]; exact .inl rfl
  ·rw[if_neg z]; exact .inr rfl
 ·simp only[if_true,ET,ES]
  have nd:=S.nd i
  rw[h3] at nd
  rw[← vE]
  refine sM.mpr ⟨nd,S.nd _,fun a ha b hb e=>?_⟩
  subst e
  exact nl a hb (by rw[h3]; exact ha)
 ·simp only[if_true,ET,ES] at m
  rw[← vE] at m
  rcases kP.mp m with m | m
  ·exact⟨i,by rw[h3]; exact m,.inl rfl⟩
  ·refine⟨ρ.length,m,.inr ?_⟩
   have:ρ.length≠i:=by omega
   simp only[this,if_false,if_true]
 ·simp only[if_true,ET,ES] at m
  rw[← vE] at m
  by_cases z:a=p
  ·subst z; exact .inr ⟨.inl (n,_),dQ⟩
  ·rw[bH z]
   rcases kP.mp m with m | m
   ·exact(S.own i a (by rw[h3]; exact m)).2
   ·exact(S.own _ a m).2
 ·simp only[if_true]
  have nd:=S.nd i
  rw[h3,hJ] at nd
  rw[ep'] at xb ⊢
  refine⟨p,(n,xs++[(k,v)]),Fs++[fp ρ.length],rfl,dQ,rfl,?_⟩
  have rk:=Afg.keep xb (H':=upd H p (.dK n (xs++[(k,v)]))) (fun a m=>bH fun z=>nl a m (by rw[show a=p from z]; exact mp)) r
  refine zP ⟨rfl,rk⟩ (h4.imp fun a b c m rr=>⟨rr.1,Afg.keep xb (fun z hz=>bH fun z2=>nd.1 ?_) rr.2⟩)
  have z2:=z2
  rw[← z2]
  exact mE.mpr ⟨c,m,hz⟩
end
noncomputable def getK2 (i:Nat)(ρ:aZ):Option (List (aA×aA)):=match ρ[i]? with
 | some (some (2,.dict ds))=>some ds
 | _=>none
theorem BO {i:Nat}{ρ:aZ}{ds:List (aA×aA)}(h:getK2 i ρ=some ds):ρ[i]?=some (some (2,.dict ds)):=by
 unfold getK2 at h
 split at h
 ·rename_i e; cases h; exact e
 ·cases h
section
variable {X:Cx}{H0:Hp}{P0:aB->Prop}{n0:Nat}{e k o:aS}{f g:EF}{x:aD}{px pos apos cpos spos:bG}{i:Nat}
theorem df_dnew2:DF 2 X (.Dict [] [] pos) (eC (.dict [])):=PE.imp vZ fun σ H Q gh=>by
 obtain⟨P,ρ,d,hP,rs,ef,k⟩:=gh
 cases ef
 refine fun q hq=>k (.ref q) _ [q] (Ext.new hq) (hJ.mpr ⟨by simp,.nil⟩) (fun a m=>?_) ⟨q,(0,[]),[],rfl,dQ,rfl,.nil⟩
 have:a=q:=by simpa using m
 subst this
 exact⟨hq,_,dQ⟩
noncomputable def sSetK2 (i:Nat)(m:Md)(f:EF)(mk:Md)(g:EF):SF:=fun ρ=>(eV 1 m f ρ).bind fun d=>(getK2 i ρ).bind fun kds=>(eV 0 mk g ρ).bind fun k=>(cW k).bind fun k=>if cO kds k=none/\kds.length<sizeLine then some (.nx (ρ.set i (some (2,.dict (kds++[(kD k,d)]))))) else none
theorem ds_setK2 (i:Nat)(m mk:Md)(hu:X.A.units+40<cLine)(he:DF 1 X e f)(hk:DE X k g)(hN:X.N[i]?=some x:=by rfl)(hv:mI X.env.scope x:=by first | exact bI rfl | exact bJ (bI rfl) | exact bJ (bJ rfl))(hd:(x == ("__debug__" : aD))=false:=by decide)
  (hcd:(x == ("__classdict__" : aD))=false:=by decide) (hs:iW e (some (.Subscript (.Name x px) k apos)) pos.line X.env=pure false:=by rfl):DS X H0 P0 n0 (.Assign [.Subscript (.Name x px) k apos] e pos) (sSetK2 i m f mk g):=
 PS.imp (ps_dput hu (oQ hN hv hd hcd) hk (ev (H0:=H0) (P0:=P0) m he) hs) fun D σ H gh=>by
  obtain⟨B0,ρ,fp,o,S,ef,kk⟩:=gh
  obtain⟨d,e1,ef2⟩:=XBs ef
  obtain⟨kds,e2,ef3⟩:=XBs ef2
  obtain⟨kd,e3,ef4⟩:=XBs ef3
  obtain⟨key,e4,ef5⟩:=XBs ef4
  obtain⟨⟨hn,hl⟩,rfl⟩:=cP ef5
  clear ef ef2 ef3 ef4
  refine⟨B0,ρ,fp,d,S,e1,fun v H2 gh=>?_⟩
  obtain⟨fp2,S2,r2⟩:=gh
  obtain⟨p,ep,xs,h1,h2,_,_⟩:=S2.newKey (BO e2) hn r2
  have hf:eP kd=true:=by rw[BM e4]; cases key <;> simp[kD,eP]
  refine⟨.ref p,h1,evInt S2 e3 hf fun u H3 x3 r3=>?_⟩
  have S3:=S2.grow x3
  have r4:Afg X.K (hid H3 (Hd P0 fp2)) H3 1 d v (fp2 ρ.length):=r2.keep (cT x3) fun a m=>by
   rcases(S2.own _ a m).2 with⟨xs,e⟩ | ⟨xs,e⟩
   ·rw[e,x3 _ _ e]
   ·rw[e,x3 _ _ e]
  obtain⟨p3,ep3,xs3,q1,q2,q3,q4⟩:=S3.newKey (BO e2) hn r4
  have:p3=p:=by rw[h1] at q1; cases q1; rfl
  subst this
  refine⟨p3,_,rfl,.inl ⟨ep3,xs3,key,q2,pB e4 r3,by rw[q3]; exact hl,rfl⟩,fun n=>?_⟩
  obtain⟨fp',S4⟩:=q4 n
  exact kk _ _ fp' S4
end
end L2
namespace Aw
open PySem L2
noncomputable def top (i:Nat):bL:=PySem.Challenge.pw_askwithin_k08_books_made.main.body.getD i (.Pass ⟨0,0,0,0⟩)
noncomputable abbrev wZ:bL:=top 14
noncomputable abbrev n_is_whole:List aD:=["thing"]
noncomputable abbrev rD:List aD:=["thing"]
theorem Ajh:FnScope n_is_whole rD (bU wZ):=⟨rfl,rfl,rfl,by decide +kernel,rfl,by decide +kernel,by decide +kernel⟩
noncomputable abbrev uA:bL:=top 15
noncomputable abbrev AC:List aD:=["thing"]
noncomputable abbrev pE:List aD:=["thing"]
theorem Aj9:FnScope AC pE (bU uA):=⟨rfl,rfl,rfl,by decide +kernel,rfl,by decide +kernel,by decide +kernel⟩
noncomputable abbrev wW:bL:=top 16
noncomputable abbrev n_is_pair:List aD:=["thing"]
noncomputable abbrev rA:List aD:=["thing"]
theorem Akz:FnScope n_is_pair rA (bU wW):=⟨rfl,rfl,rfl,by decide +kernel,rfl,by decide +kernel,by decide +kernel⟩
noncomputable abbrev xF:bL:=top 20
noncomputable abbrev n_is_width:List aD:=["thing"]
noncomputable abbrev rC:List aD:=["thing"]
theorem Ai5:FnScope n_is_width rC (bU xF):=⟨rfl,rfl,rfl,by decide +kernel,rfl,by decide +kernel,by decide +kernel⟩
noncomputable abbrev rN:bL:=top 21
noncomputable abbrev xT:List aD:=["thing"]
noncomputable abbrev rL:List aD:=["thing"]
theorem Ag6:FnScope xT rL (bU rN):=⟨rfl,rfl,rfl,by decide +kernel,rfl,by decide +kernel,by decide +kernel⟩
noncomputable abbrev xZ:bL:=inClass (top 22) 0
noncomputable abbrev CW:List aD:=["self","widths","table"]
noncomputable abbrev pM:List aD:=["self","widths"]
theorem Afa:FnScope CW pM (bU xZ):=⟨rfl,rfl,rfl,by decide +kernel,rfl,by decide +kernel,by decide +kernel⟩
noncomputable abbrev xY:bL:=inClass (top 22) 1
noncomputable abbrev HC:List aD:=["self","table"]
noncomputable abbrev pL:List aD:=["self","table"]
theorem Aef:FnScope HC pL (bU xY):=⟨rfl,rfl,rfl,by decide +kernel,rfl,by decide +kernel,by decide +kernel⟩
noncomputable abbrev xJ:bL:=inClass (top 22) 6
noncomputable abbrev n_Book_rows:List aD:=["self","table"]
noncomputable abbrev pG:List aD:=["self","table"]
theorem Aic:FnScope n_Book_rows pG (bU xJ):=⟨rfl,rfl,rfl,by decide +kernel,rfl,by decide +kernel,by decide +kernel⟩
noncomputable abbrev xX:bL:=inClass (top 22) 7
noncomputable abbrev GQ:List aD:=["self"]
noncomputable abbrev nU:List aD:=["self"]
theorem Af9:FnScope GQ nU (bU xX):=⟨rfl,rfl,rfl,by decide +kernel,rfl,by decide +kernel,by decide +kernel⟩
noncomputable abbrev xS:bL:=inClass (top 22) 8
noncomputable abbrev GD:List aD:=["self","table"]
noncomputable abbrev rF:List aD:=["self","table"]
theorem Ahf:FnScope GD rF (bU xS):=⟨rfl,rfl,rfl,by decide +kernel,rfl,by decide +kernel,by decide +kernel⟩
noncomputable abbrev uF:bL:=inClass (top 22) 9
noncomputable abbrev CK:List aD:=["self"]
noncomputable abbrev rP:List aD:=["self"]
theorem Aif:FnScope CK rP (bU uF):=⟨rfl,rfl,rfl,by decide +kernel,rfl,by decide +kernel,by decide +kernel⟩
noncomputable abbrev xU:bL:=inClass (top 22) 10
noncomputable abbrev FL:List aD:=["self","book","table"]
noncomputable abbrev pH:List aD:=["self"]
theorem Ahi:FnScope FL pH (bU xU):=⟨rfl,rfl,rfl,by decide +kernel,rfl,by decide +kernel,by decide +kernel⟩
noncomputable abbrev xN:bL:=top 24
noncomputable abbrev n__law_cell:List aD:=["_law_script","_law_k","_law_number"]
noncomputable abbrev pF:List aD:=["_law_script","_law_k"]
theorem Aie:FnScope n__law_cell pF (bU xN):=⟨rfl,rfl,rfl,by decide +kernel,rfl,by decide +kernel,by decide +kernel⟩
noncomputable abbrev xD:bL:=top 25
noncomputable abbrev n__law_mix:List aD:=["_law_cell_here","_law_k","_law_number"]
noncomputable abbrev mX:List aD:=["_law_cell_here","_law_k"]
theorem Ajz:FnScope n__law_mix mX (bU xD):=⟨rfl,rfl,rfl,by decide +kernel,rfl,by decide +kernel,by decide +kernel⟩
noncomputable abbrev pI:bL:=top 26
noncomputable abbrev uH:List aD:=["_law_cell_here","_law_count","_law_signs","_law_size","_law_base","_law_at","_law_found","_law_k"]
noncomputable abbrev rM:List aD:=["_law_cell_here","_law_count"]
theorem Ahj:FnScope uH rM (bU pI):=⟨rfl,rfl,rfl,by decide +kernel,rfl,by decide +kernel,by decide +kernel⟩
noncomputable abbrev xR:bL:=top 27
noncomputable abbrev FJ:List aD:=["_law_script","_law_first","_law_pairs_here","_law_name"]
noncomputable abbrev rG:List aD:=["_law_script"]
theorem Ahk:FnScope FJ rG (bU xR):=⟨rfl,rfl,rfl,by decide +kernel,rfl,by decide +kernel,by decide +kernel⟩
noncomputable abbrev uI:bL:=top 28
noncomputable abbrev CH:List aD:=["_law_pairs_here","_law_cell_here","_law_way","_law_at","_law_again","_law_width","_law_name","_law_some"]
noncomputable abbrev rK:List aD:=["_law_pairs_here","_law_cell_here"]
theorem Ahe:FnScope CH rK (bU uI):=⟨rfl,rfl,rfl,by decide +kernel,rfl,by decide +kernel,by decide +kernel⟩
noncomputable abbrev xW:bL:=top 29
noncomputable abbrev GY:List aD:=["_law_thing","_law_base","_law_found","error"]
noncomputable abbrev rQ:List aD:=["_law_thing","_law_base"]
theorem Afh:FnScope GY rQ (bU xW):=⟨rfl,rfl,rfl,by decide +kernel,rfl,by decide +kernel,by decide +kernel⟩
noncomputable abbrev uK:bL:=top 30
noncomputable abbrev CQ:List aD:=["_law_book","_law_pairs_here","_law_tables","_law_size","_law_table","_law_wide","_law_width","_law_plain"]
noncomputable abbrev rS:List aD:=["_law_book","_law_pairs_here"]
theorem Agb:FnScope CQ rS (bU uK):=⟨rfl,rfl,rfl,by decide +kernel,rfl,by decide +kernel,by decide +kernel⟩
noncomputable abbrev nK:bL:=top 31
noncomputable abbrev n_law:List aD:=["_law_script","_law_pairs_here","_law_handed","_law_book","_law_cell_here"]
noncomputable abbrev p_law:List aD:=["_law_script"]
theorem sc_law:FnScope n_law p_law (bU nK):=⟨rfl,rfl,rfl,by decide +kernel,rfl,by decide +kernel,by decide +kernel⟩
structure Blt (mg:aD->Option aE):Prop where
 «isinstance» : mg "isinstance" = none
 «int» : mg "int" = none
 «bool» : mg "bool" = none
 «abs» : mg "abs" = none
 «range» : mg "range" = none
 «len» : mg "len" = none
 «str» : mg "str" = none
 «all» : mg "all" = none
 «any» : mg "any" = none
 «list» : mg "list" = none
 «tuple» : mg "tuple" = none
 «dict» : mg "dict" = none
 «set» : mg "set" = none
 «sorted» : mg "sorted" = none
 «sum» : mg "sum" = none
 «min» : mg "min" = none
 «max» : mg "max" = none
 «enumerate» : mg "enumerate" = none
 «zip» : mg "zip" = none
 «reversed» : mg "reversed" = none
 «ValueError» : mg "ValueError" = none
structure Cst (mg:aD->Option aE):Prop where
 LETTERS : ∃ t,mg "LETTERS" = some (.str "abcdefghijklmnopqrstuvwxyz" t)
 FIGURES : ∃ t,mg "FIGURES" = some (.str "0123456789" t)
 MOST_SIGNS : ∃ t,mg "MOST_SIGNS" = some (.int 12 t)
 MOST_WIDTH : ∃ t,mg "MOST_WIDTH" = some (.int 6 t)
 MOST_TABLES : ∃ t,mg "MOST_TABLES" = some (.int 12 t)
structure Xcs (K:aI)(mg:aD->Option aE):Prop where
 bk:InsC K "Book"
 r_NoTable:VCls K "NoTable"
 t_NoTable:ExM K mg "NoTable" "NoTable"
 t_AskError:ExM K mg "NoTable" "AskError"
 i_ValueError:IsV K mg "NoTable" "ValueError" "ValueError" true
 i_NoTable:IsM K mg "NoTable" "NoTable" true
 i_TooMany:IsM K mg "NoTable" "TooMany" false
 i_Full:IsM K mg "NoTable" "Full" false
 i_NoRow:IsM K mg "NoTable" "NoRow" false
 i_NoDeed:IsM K mg "NoTable" "NoDeed" false
 i_NoName:IsM K mg "NoTable" "NoName" false
 i_NoText:IsM K mg "NoTable" "NoText" false
set_option maxHeartbeats 4000000
variable {P:bA}{w:aX}{K:aI}{mg:aD->Option aE}{base:aR}{f:aB}{fd:eY}
noncomputable def b_is_whole:SF:=(cL 0 .s (fK (eUn (eR "int") (aF 0)) (eNot (eUn (eR "bool") (aF 0)))))
noncomputable def uE:List aA->Option aA:=fnD 1 1 b_is_whole
theorem ok_is_whole (F:Fun K "is_whole" "is_whole" wZ f fd)(B:Blt mg)(C:Cst mg)(V:Xcs K mg):FnOk P w K mg base CX0 1 f fd rD (spF K 0 uE):=by
 have nd:=Ajh.nd
 exact iK F Ajh rfl (by decide) fun cdv A outer s H E P0 hr=>by
  have hu:=fU hr
  have hv:=fN hr
  exact(cC (dA .s (jX (kA (T:="int") rfl B.isinstance rfl B.int yR (by decide) (aK 0)) (mR (de_not (kA (T:="bool") rfl B.isinstance rfl B.bool DZ (by decide) (aK 0)))))))
noncomputable def b_is_name:SF:=(bE (sIf .s (bOr (fI (bOf (eUn (eR "str") (aF 0)))) (fI (bOf (mS gLe gLe (eC (.int 1)) (aQ dJ (aH (aF 0) aJ)) (eC (.int 12)))))) (cL 0 .s (eC (.bool false))) eA)
 (cL 0 .s (fK (eOp (gIn false) (eOp gIx (aF 0) (eC (.int 0))) (eC (.str "abcdefghijklmnopqrstuvwxyz"))) (aQ gAll (aH (eLC [none] (iIt (aF 0)) (gB 0) gG (eOp (gIn false) (aF 0) (eOp cE (eC (.str "abcdefghijklmnopqrstuvwxyz")) (eC (.str "0123456789"))))) aJ)))))
noncomputable def eI:List aA->Option aA:=fnD 1 1 b_is_name
theorem ok_is_name (F:Fun K "is_name" "is_name" uA f fd)(B:Blt mg)(C:Cst mg)(V:Xcs K mg):FnOk P w K mg base CX0 1 f fd pE (spF K 0 eI):=by
 obtain⟨_,h_FIGURES⟩:=C.FIGURES
 obtain⟨_,h_LETTERS⟩:=C.LETTERS
 obtain⟨_,h_MOST_SIGNS⟩:=C.MOST_SIGNS
 have nd:=Aj9.nd
 exact iK F Aj9 rfl (by decide) fun cdv A outer s H E P0 hr=>by
  have hu:=fU hr
  have hv:=fN hr
  exact(bN (fC .s (dt_w (iM (iQ (gQ (kA (T:="str") rfl B.isinstance rfl B.str PyProof.Rows.boot_str (by decide) (aK 0)))) (lJ (iQ (dt_chain (op_le.or tZ) (op_le.or tZ) opd_le opd_le aU (fO jM jL rfl B.len jQ (aN (aK 0) aW)) (wI (i:=12) rfl h_MOST_SIGNS ⟨_,rfl⟩)))))) (cC (dA .s hU)) fE)
   (cC (dA .s (jX (mQ (op_inAll hu) opd_in (fT hv (aK 0) aU (fun _ _=>rfl)) (vW (i:="abcdefghijklmnopqrstuvwxyz") rfl h_LETTERS ⟨_,rfl⟩) (by with_unfolding_all rfl)) (mR (fO (zW rfl) AE rfl B.all boot_all (aN (bO (n:=1) (mL rfl (lQ (N:=["sign"]) (cap:=[none]) (out:=(bU uA).names) (XN:=AC) rfl rfl (by decide +kernel) rfl) lH (mT (aK 0)) (fun cl C s₀ H₀ ex=>⟨lN (j:=0) (show(["sign"]:List aD).Nodup by decide +kernel) rfl (bI rfl),lL,(mQ (op_inAll hu) opd_in (aK 0) (fX (vW (i:="abcdefghijklmnopqrstuvwxyz") rfl h_LETTERS ⟨_,rfl⟩) (vW (i:="0123456789") rfl h_FIGURES ⟨_,rfl⟩)) (by with_unfolding_all rfl))⟩))) aW)))))))
noncomputable def b_is_pair:SF:=(cL 0 .s (fK (eUn (eR "tuple") (aF 0)) (eOp gEq (aQ dJ (aH (aF 0) aJ)) (eC (.int 2)))))
noncomputable def lP:List aA->Option aA:=fnD 1 1 b_is_pair
theorem ok_is_pair (F:Fun K "is_pair" "is_pair" wW f fd)(B:Blt mg)(C:Cst mg)(V:Xcs K mg):FnOk P w K mg base CX0 1 f fd rA (spF K 0 lP):=by
 have nd:=Akz.nd
 exact iK F Akz rfl (by decide) fun cdv A outer s H E P0 hr=>by
  have hu:=fU hr
  have hv:=fN hr
  exact(cC (dA .s (jX (kA (T:="tuple") rfl B.isinstance rfl B.tuple HL (by decide) (aK 0)) (mR (mQ (iO hu) iP (fO jM jL rfl B.len jQ (aN (aK 0) aW)) aU (eT _))))))
noncomputable def GP (z:Option aD):SF:=(cL 1 .s (aQ oV (aH (eUn (mM "Book") (aF 0)) aJ)))
noncomputable def iV:FX:=fun z=>fnD 1 1 (GP z)
theorem GX (F:Fun K "tables" "Book.tables" xX f fd)(B:Blt mg)(C:Cst mg)(V:Xcs K mg):FnOk P w K mg base (CXR base P w) 1 f fd nU (spX K 1 iV):=by
 have nd:=Af9.nd
 exact oM F Af9 rfl (by decide) fun cdv A outer s H E P0 z hr hz=>by
  have hu:=fU hr
  have hv:=fN hr
  exact(cC (dA .s (fO (CV rfl) CN rfl B.sorted yP (aN (de_wide V.bk (aK 0)) aW))))
noncomputable def b_Book_size (z:Option aD):SF:=(cL 0 .s (aQ gSumL (aH (eLC [none] (iDV (eUn (mJ "Book") (aF 0))) (gB 0) gG (aQ gLenT (aH (aF 0) aJ))) aJ)))
noncomputable def rE:FX:=fun z=>fnD 1 1 (b_Book_size z)
theorem FQ (F:Fun K "size" "Book.size" uF f fd)(B:Blt mg)(C:Cst mg)(V:Xcs K mg):FnOk P w K mg base (CXR base P w) 1 f fd rP (spX K 0 rE):=by
 have nd:=Aif.nd
 exact oM F Aif rfl (by decide) fun cdv A outer s H E P0 z hr hz=>by
  have hu:=fU hr
  have hv:=fN hr
  exact(cC (dA .s (fO (call_sumL rfl) calld_sumL rfl B.sum boot_sumL (aN (bO (n:=1) (mL rfl (lQ (N:=["rows"]) (cap:=[none]) (out:=(bU uF).names) (XN:=CK) rfl rfl (by decide +kernel) rfl) lH (di_vals (de_held V.bk (aK 0))) (fun cl C s₀ H₀ ex=>⟨lN (j:=0) (show(["rows"]:List aD).Nodup by decide +kernel) rfl (bI rfl),lL,(fO call_lenT calld_lenT rfl B.len jQ (aN (aK 0) aW))⟩))) aW))))
noncomputable def uG:SF:=(bE (sIf .s (bOf (eOp gLt (aF 1) (aQ dJ (aH (aF 0) aJ)))) (cL 0 .s (eOp gIx (aF 0) (aF 1))) eA)
 (bE (cD 2 0 .s (eOp cE (eOp gF (aF 1) (eC (.int 7919))) (eC (.int 5))))
 (bE (sIf .s (bOf (eOp gGt (aQ dJ (aH (aF 0) aJ)) (eC (.int 0)))) (cD 2 0 .s (eOp bX (eOp cE (eOp gF (eOp gIx (aF 0) (eOp bX (eOp gF (aF 1) (eC (.int 7))) (aQ dJ (aH (aF 0) aJ)))) (eC (.int 48271))) (eOp gF (aF 1) (eC (.int 7919)))) (eC (.int 2147483647)))) eA)
 (cL 0 .s (eOp bX (eOp gF (aF 2) (aF 2)) (eC (.int 2147483629)))))))
noncomputable def iT:List aA->Option aA:=fnD 2 3 uG
theorem FT (F:Fun K "_law_cell" "_law_cell" xN f fd)(B:Blt mg)(C:Cst mg)(V:Xcs K mg):FnOk P w K mg base CX0 1 f fd pF (spF K 0 iT):=by
 have nd:=Aie.nd
 exact iK F Aie rfl (by decide) fun cdv A outer s H E P0 hr=>by
  have hu:=fU hr
  have hv:=fN hr
  exact(bN (fC .s (gJ (op_lt.or op_lt_str) opd_lt (aK 1) (fO jM jL rfl B.len jQ (aN (aK 0) aW)) (eT _)) (cC (dA .s (fT hv (aK 0) (aK 1) (fun _ _=>rfl)))) fE)
   (bN (dY (i:=2) 0 .s nd rfl (by first | exact bI rfl | exact bJ rfl) (fX (kY (aK 1) aU) aU))
   (bN (fC .s (gJ op_gt opd_gt (fO jM jL rfl B.len jQ (aN (aK 0) aW)) aU (eT _)) (cC (dY (i:=2) 0 .s nd rfl (by first | exact bI rfl | exact bJ rfl) (eB (fX (kY (fT hv (aK 0) (eB (kY (aK 1) aU) (fO jM jL rfl B.len jQ (aN (aK 0) aW))) (fun _ _=>rfl)) aU) (kY (aK 1) aU)) aU))) fE)
   (cC (dA .s (eB (kY (aK 2) (aK 2)) aU))))))
noncomputable def BU:SF:=(bE (cD 2 0 .s (eOp bX (eOp cE (eOp cE (eOp cE (eOp gF (eOp bX (aF 0) (eC (.int 2147483647))) (eC (.int 48271))) (eOp gF (eOp gF (aF 1) (aF 1)) (eC (.int 69621)))) (aF 1)) (eC (.int 11))) (eC (.int 2147483629))))
 (cL 0 .s (eOp bX (eOp gF (aF 2) (aF 2)) (eC (.int 2147483587)))))
noncomputable def dN:List aA->Option aA:=fnD 2 3 BU
theorem ok__law_mix (F:Fun K "_law_mix" "_law_mix" xD f fd)(B:Blt mg)(C:Cst mg)(V:Xcs K mg):FnOk P w K mg base CX0 1 f fd mX (spF K 0 dN):=by
 have nd:=Ajz.nd
 exact iK F Ajz rfl (by decide) fun cdv A outer s H E P0 hr=>by
  have hu:=fU hr
  have hv:=fN hr
  exact(bN (dY (i:=2) 0 .s nd rfl (by first | exact bI rfl | exact bJ rfl) (eB (fX (fX (fX (kY (eB (aK 0) aU) aU) (kY (kY (aK 1) (aK 1)) aU)) (aK 1)) aU) aU))
   (cC (dA .s (eB (kY (aK 2) (aK 2)) aU))))
noncomputable def xI:SF:=(cL 0 .s (fK (aQ uE (aH (aF 0) aJ)) (mS gLe gLe (eC (.int 1)) (aF 0) (eC (.int 6)))))
noncomputable def kK:List aA->Option aA:=fnD 1 1 xI
theorem FP (F:Fun K "is_width" "is_width" xF f fd)(B:Blt mg)(C:Cst mg)(V:Xcs K mg)(D_is_whole:Def P w K mg base "is_whole" 1 rD (spF K 0 uE)):FnOk P w K mg base CX0 2 f fd rC (spF K 0 kK):=by
 obtain⟨_,h_MOST_WIDTH⟩:=C.MOST_WIDTH
 have nd:=Ai5.nd
 exact iK F Ai5 rfl (by decide) fun cdv A outer s H E P0 hr=>by
  have hu:=fU hr
  have hv:=fN hr
  exact(cC (dA .s (jX (cX D_is_whole (hr.mono (by decide)) rfl (aN (aK 0) aW)) (mR (de_chain (op_le.or tZ) (op_le.or tZ) opd_le opd_le aU (aK 0) (wI (i:=6) rfl h_MOST_WIDTH ⟨_,rfl⟩))))))
noncomputable def uM (z:Option aD):SF:=(sIf .s (bOr (fI (bOf (aQ eI (aH (aF 1) aJ)))) (bOf (eOp (gIn true) (aF 1) (eUn (mM "Book") (aF 0))))) (sRaise z "NoTable") eA)
noncomputable def lV:FX:=fun z=>fnD 2 2 (uM z)
theorem HD (F:Fun K "want_table" "Book.want_table" xY f fd)(B:Blt mg)(C:Cst mg)(V:Xcs K mg)(D_is_name:Def P w K mg base "is_name" 1 pE (spF K 0 eI)):FnOk P w K mg base (CXR base P w) 2 f fd pL (spX K 0 lV):=by
 have nd:=Aef.nd
 exact oM F Aef rfl (by decide) fun cdv A outer s H E P0 z hr hz=>by
  have hu:=fU hr
  have hv:=fN hr
  exact(cC (fC .s (dt_w (iM (iQ (gQ (cX D_is_name (hr.mono (by decide)) rfl (aN (aK 1) aW)))) (lJ (gJ (op_notInAll hu) opd_in (aK 1) (de_wide V.bk (aK 0)) (by with_unfolding_all rfl))))) (cC (ds_raise hz V.r_NoTable rfl rfl)) fE))
noncomputable def GB:SF:=(bE (cD 2 0 .s (eC (.str "abcdefghijklmnopqrstuvwxyz0123456789")))
 (bE (cD 3 0 .s (eOp cE (eC (.int 1)) (eOp bX (aQ dN (aH (aF 0) (aH (eC (.int 1)) aJ))) (eC (.int 12)))))
 (bE (sIf .s (bOf (eOp gEq (eOp bX (aQ dN (aH (aF 0) (aH (eC (.int 2)) aJ))) (eC (.int 3))) (eC (.int 0)))) (cD 3 0 .s (eC (.int 12))) eA)
 (bE (cD 4 1 .s (eLC [none,some 2,some 0] (iR1 (aH (aF 3) aJ)) (gB 0) gG (eOp gIx (aF 1) (eOp bX (aQ dN (aH (aF 2) (aH (eOp cE (eC (.int 30)) (aF 0)) aJ))) (eC (.int 36))))))
 (bE (sSetL 4 .s (eOp gIx (aF 2) (eOp bX (aQ dN (aH (aF 0) (aH (eC (.int 50)) aJ))) (eC (.int 26)))) .s (eC (.int 0)))
 (bE (sIf .s (bOf (eOp gEq (eOp bX (aQ dN (aH (aF 0) (aH (eC (.int 2)) aJ))) (eC (.int 3))) (eC (.int 0)))) (cL 1 .a (eLC [none,some 4] (iR1 (aH (aF 1) aJ)) (gB 0) gG (eOp gJoin (eC (.str "")) (fH (aF 1) oN (oS (eOp cE (aF 0) (eC (.int 1)))))))) eA)
 (bE (cD 5 0 .s (eOp bX (aQ dN (aH (aF 0) (aH (eC (.int 3)) aJ))) (aF 3)))
 (bE (cD 6 1 .s (dD aJ))
 (bE (sFor .s (iR1 (aH (aF 1) aJ)) (gNm 7) (bE (sSetL 4 .s (eOp gIx (aF 2) (eOp bX (eOp cE (aQ dN (aH (aF 0) (aH (eC (.int 4)) aJ))) (aF 7)) (eOp cE (eC (.int 26)) (eOp gF (eC (.int 10)) (aQ gInt (aH (eOp gGt (aF 5) (eC (.int 0))) aJ)))))) .s (aF 5))
 (sApp 6 .a (eOp gJoin (eC (.str "")) (aF 4)))))
 (sFrz 4 (sRetV 6 1)))))))))))
noncomputable def pK:List aA->Option aA:=fnD 2 8 GB
theorem GS (F:Fun K "_law_names" "_law_names" pI f fd)(B:Blt mg)(C:Cst mg)(V:Xcs K mg)(D__law_mix:Def P w K mg base "_law_mix" 1 mX (spF K 0 dN)):FnOk P w K mg base CX0 2 f fd rM (spF K 1 pK):=by
 have nd:=Ahj.nd
 exact iK F Ahj rfl (by decide) fun cdv A outer s H E P0 hr=>by
  have hu:=fU hr
  have hv:=fN hr
  exact(bN (dY (i:=2) 0 .s nd rfl (by first | exact bI rfl | exact bJ rfl) fZ)
   (bN (dY (i:=3) 0 .s nd rfl (by first | exact bI rfl | exact bJ rfl) (fX aU (eB (cX D__law_mix (hr.mono (by decide)) rfl (aN (aK 0) (aN aU aW))) aU)))
   (bN (fC .s (gJ (iO hu) iP (eB (cX D__law_mix (hr.mono (by decide)) rfl (aN (aK 0) (aN aU aW))) aU) aU (eT _)) (cC (dY (i:=3) 0 .s nd rfl (by first | exact bI rfl | exact bJ rfl) aU)) fE)
   (bN (by first | exact(ds_asgLC (i:=4) .s rfl nd rfl (by first | exact bI rfl | exact bJ rfl) (lQ (N:=["_law_k","_law_signs","_law_cell_here"]) (cap:=[none,some 2,some 0]) (out:=(bU pI).names) (XN:=uH) rfl rfl (by decide +kernel) rfl) lH (di_of0 (rB rfl B.range (aN (aK 3) aW))) (fun cl C s₀ H₀ ex=>⟨lN (j:=0) (show(["_law_k","_law_signs","_law_cell_here"]:List aD).Nodup by decide +kernel) rfl (bI rfl),lL,(fT hv (aK 1) (eB (cX D__law_mix (hr.mono (by decide)) rfl (aN (aK 2) (aN (fX aU (aK 0)) aW))) aU) (fun _ _=>rfl))⟩)) | exact(dY (i:=4) 1 .s nd rfl (by first | exact bI rfl | exact bJ rfl) (mL rfl (lQ (N:=["_law_k","_law_signs","_law_cell_here"]) (cap:=[none,some 2,some 0]) (out:=(bU pI).names) (XN:=uH) rfl rfl (by decide +kernel) rfl) lH (di_of0 (rB rfl B.range (aN (aK 3) aW))) (fun cl C s₀ H₀ ex=>⟨lN (j:=0) (show(["_law_k","_law_signs","_law_cell_here"]:List aD).Nodup by decide +kernel) rfl (bI rfl),lL,(fT hv (aK 1) (eB (cX D__law_mix (hr.mono (by decide)) rfl (aN (aK 2) (aN (fX aU (aK 0)) aW))) aU) (fun _ _=>rfl))⟩))))
   (bN (ds_setL 4 .s .s (fT hv (aK 2) (eB (cX D__law_mix (hr.mono (by decide)) rfl (aN (aK 0) (aN aU aW))) aU) (fun _ _=>rfl)) aU)
   (bN (fC .s (gJ (iO hu) iP (eB (cX D__law_mix (hr.mono (by decide)) rfl (aN (aK 0) (aN aU aW))) aU) aU (eT _)) (cC (dA .a (mL rfl (lQ (N:=["_law_k","_law_base"]) (cap:=[none,some 4]) (out:=(bU pI).names) (XN:=uH) rfl rfl (by decide +kernel) rfl) lH (di_of0 (rB rfl B.range (aN (aK 1) aW))) (fun cl C s₀ H₀ ex=>⟨lN (j:=0) (show(["_law_k","_law_base"]:List aD).Nodup by decide +kernel) rfl (bI rfl),lL,(de_join fZ (bO (n:=1) (jK (aK 1) kH (iS (fX (aK 0) aU)))))⟩)))) fE)
   (bN (dY (i:=5) 0 .s nd rfl (by first | exact bI rfl | exact bJ rfl) (eB (cX D__law_mix (hr.mono (by decide)) rfl (aN (aK 0) (aN aU aW))) (aK 3)))
   (bN (dY (i:=6) 1 .s nd rfl (by first | exact bI rfl | exact bJ rfl) (gH aW))
   (bN (ds_for0 .s yT rfl (rB rfl B.range (aN (aK 1) aW)) (tK (i:=7) nd rfl (by first | exact bI rfl | exact bJ rfl)) (bN (ds_setL 4 .s .s (fT hv (aK 2) (eB (fX (cX D__law_mix (hr.mono (by decide)) rfl (aN (aK 0) (aN aU aW))) (aK 7)) (fX aU (kY aU (qZ call_int1 calld_int rfl B.int yR (aN (mQ op_gt opd_gt (aK 5) aU (eT _)) aW))))) (fun _ _=>rfl)) (aK 5))
   (cC (wR 6 .a (de_join fZ (aK 4))))))
   (dss_frz 4 (cC (ds_retV 6))))))))))))
noncomputable def FZ:SF:=(bE (cD 2 0 .s (eOp bX (aQ dN (aH (aF 1) (aH (eC (.int 7)) aJ))) (eC (.int 6))))
 (bE (cD 3 0 .s (eOp bX (aQ dN (aH (aF 1) (aH (eC (.int 8)) aJ))) (eOp cE (aQ dJ (aH (aF 0) aJ)) (eC (.int 1)))))
 (bE (sIf .s (bOf (eOp gEq (aF 2) (eC (.int 0)))) (cL 0 .s (eOp gIx (dD (aH (eC .none) (aH (fR aJ) (aH (eC (.bool true)) (aH (eC (.dict [])) (aH (eC (.str "a")) (aH (aQ gTuple (aH (aF 0) aJ)) (aH (eC (.int 3)) aJ)))))))) (eOp bX (aQ dN (aH (aF 1) (aH (eC (.int 9)) aJ))) (eC (.int 7))))) eA)
 (bE (sIf .s (bAnd (bOf (eOp gEq (aF 2) (eC (.int 1)))) (bOf (eOp gGt (aQ dJ (aH (aF 0) aJ)) (eC (.int 0))))) (bE (cD 4 0 .s (fR (aH (eOp gIx (eOp gIx (aF 0) (eOp bX (aQ dN (aH (aF 1) (aH (eC (.int 10)) aJ))) (aQ dJ (aH (aF 0) aJ)))) (eC (.int 0))) (aH (eOp cE (eC (.int 1)) (eOp bX (aQ dN (aH (aF 1) (aH (eC (.int 11)) aJ))) (eC (.int 6)))) aJ))))
 (cL 0 .s (fH (eOp gCat (eOp gCat (fH (aF 0) oN (oS (aF 3))) (dD (aH (aF 4) aJ))) (fH (aF 0) (oS (aF 3)) oN)) oN (oS (eC (.int 13)))))) eA)
 (bE (sIf .s (bOf (eOp gEq (aF 2) (eC (.int 2)))) (cL 0 .s (eLC [none] (iR1 (aH (eC (.int 13)) aJ)) (gB 0) gG (fR (aH (eOp cE (eC (.str "t")) (aQ mP (aH (aF 0) aJ))) (aH (eOp cE (eC (.int 1)) (eOp bX (aF 0) (eC (.int 6)))) aJ))))) eA)
 (bE (sIf .s (bOf (eOp gEq (aF 2) (eC (.int 3)))) (bE (cD 5 0 .s (eOp gIx (dD (aH (eC (.int 0)) (aH (eC (.int 7)) (aH (eUn gNeg (eC (.int 1))) (aH (eC (.bool true)) (aH (eC .none) (aH (eC (.str "3")) (aH (fR (aH (eC (.int 3)) aJ)) (aH (eOp cE (eC (.int 8)) (eOp bX (aF 1) (eOp gPow (eC (.int 10)) (eC (.int 60))))) aJ))))))))) (eOp bX (aQ dN (aH (aF 1) (aH (eC (.int 12)) aJ))) (eC (.int 8)))))
 (cL 0 .s (eOp gCat (eOp gCat (fH (fH (aF 0) oN (oS (aF 3))) oN (oS (eC (.int 11)))) (dD (aH (fR (aH (eC (.str "new")) (aH (aF 5) aJ))) aJ))) (fH (aF 0) (oS (aF 3)) oN)))) eA)
 (bE (sIf .s (bOf (eOp gEq (aF 2) (eC (.int 4)))) (bE (cD 6 0 .s (eOp gIx (dD (aH (eC (.str "")) (aH (eC (.str "A")) (aH (eC (.str "a b")) (aH (eC (.str "1a")) (aH (eC (.str "abcdefghijklm")) (aH (eC (.int 7)) (aH (eC .none) (aH (dD (aH (eC (.str "a")) aJ)) (aH (eC (.bool true)) aJ)))))))))) (eOp bX (aQ dN (aH (aF 1) (aH (eC (.int 13)) aJ))) (eC (.int 9)))))
 (cL 0 .s (eOp gCat (eOp gCat (fH (aF 0) oN (oS (aF 3))) (dD (aH (fR (aH (aF 6) (aH (eC (.int 2)) aJ))) aJ))) (fH (aF 0) (oS (aF 3)) oN)))) eA)
 (bE (cD 7 0 .s (dD (aH (dD (aH (eC (.str "new")) (aH (eC (.int 2)) aJ))) (aH (fR (aH (eC (.str "new")) aJ)) (aH (fR (aH (eC (.str "new")) (aH (eC (.int 2)) (aH (eC (.int 2)) aJ)))) (aH (eC (.str "n2")) (aH (eC .none) (aH (fR aJ) (aH (eD1 (eC (.str "new")) (eC (.int 2))) aJ)))))))))
 (cL 0 .s (eOp gCat (eOp gCat (fH (aF 0) oN (oS (aF 3))) (dD (aH (eOp gIx (aF 7) (eOp bX (aQ dN (aH (aF 1) (aH (eC (.int 14)) aJ))) (eC (.int 7)))) aJ))) (fH (aF 0) (oS (aF 3)) oN)))))))))))
noncomputable def rH:List aA->Option aA:=fnD 2 8 FZ
theorem GA (F:Fun K "_law_wrong" "_law_wrong" uI f fd)(B:Blt mg)(C:Cst mg)(V:Xcs K mg)(D__law_mix:Def P w K mg base "_law_mix" 1 mX (spF K 0 dN)):FnOk P w K mg base CX0 2 f fd rK (spF K 0 rH):=by
 have nd:=Ahe.nd
 exact iK F Ahe rfl (by decide) fun cdv A outer s H E P0 hr=>by
  have hu:=fU hr
  have hv:=fN hr
  refine bN ?_ ?_
  refine dY (i:=2) 0 .s ?_ ?_ ?_ ?_ ?_ ?_
  exact nd
  rfl
  first | exact bI rfl | exact bJ rfl
  refine eB ?_ aU
  refine cX D__law_mix (hr.mono (by decide)) rfl ?_
  refine aN ?_ ?_ ?_
  exact(aK 1)
  refine aN ?_ ?_ ?_
  exact aU
  exact aW
  rfl
  rfl
  rfl
  first | exact bI rfl | exact bJ rfl | assumption
  refine bN ?_ ?_
  refine dY (i:=3) 0 .s ?_ ?_ ?_ ?_ ?_ ?_
  exact nd
  rfl
  first | exact bI rfl | exact bJ rfl
  refine eB ?_ ?_
  refine cX D__law_mix (hr.mono (by decide)) rfl ?_
  refine aN ?_ ?_ ?_
  exact(aK 1)
  refine aN ?_ ?_ ?_
  exact aU
  exact aW
  rfl
  rfl
  refine fX ?_ aU
  refine fO jM jL rfl B.len jQ ?_
  refine aN ?_ ?_ ?_
  exact(aK 0)
  exact aW
  rfl
  rfl
  first | exact bI rfl | exact bJ rfl | assumption
  refine bN ?_ ?_
  refine fC .s ?_ ?_ fE
  refine gJ (iO hu) iP ?_ aU (eT _)
  exact(aK 2)
  refine cC ?_
  refine dA .s ?_
  refine fT hv ?_ ?_ (fun _ _=>rfl)
  refine bO (n:=1) ?_
  refine gH ?_
  refine aN ?_ ?_ ?_
  exact qG
  refine aN ?_ ?_ ?_
  exact(jZ aW)
  refine aN ?_ ?_ ?_
  exact hU
  refine aN ?_ ?_ ?_
  exact(bO (n:=1) df_dnew)
  refine aN ?_ ?_ ?_
  exact fZ
  refine aN ?_ ?_ ?_
  refine qZ GH calld_tuple rfl B.tuple HL ?_
  refine aN ?_ ?_ ?_
  exact(aK 0)
  exact aW
  rfl
  refine aN ?_ ?_ ?_
  exact aU
  exact aW
  rfl
  rfl
  rfl
  rfl
  rfl
  rfl
  rfl
  refine eB ?_ aU
  refine cX D__law_mix (hr.mono (by decide)) rfl ?_
  refine aN ?_ ?_ ?_
  exact(aK 1)
  refine aN ?_ ?_ ?_
  exact aU
  exact aW
  rfl
  rfl
  refine bN ?_ ?_
  refine fC .s ?_ ?_ fE
  refine dt_w ?_
  refine dw_and ?_ ?_
  refine gJ (iO hu) iP ?_ aU (eT _)
  exact(aK 2)
  refine dw_and1 ?_
  refine gJ op_gt opd_gt ?_ aU (eT _)
  refine fO jM jL rfl B.len jQ ?_
  refine aN ?_ ?_ ?_
  exact(aK 0)
  exact aW
  rfl
  refine bN ?_ ?_
  refine dY (i:=4) 0 .s ?_ ?_ ?_ ?_ ?_ ?_
  exact nd
  rfl
  first | exact bI rfl | exact bJ rfl
  refine jZ ?_
  refine aN ?_ ?_ ?_
  refine fT hv ?_ aU (fun _ _=>rfl)
  refine fT hv ?_ ?_ (fun _ _=>rfl)
  exact(aK 0)
  refine eB ?_ ?_
  refine cX D__law_mix (hr.mono (by decide)) rfl ?_
  refine aN ?_ ?_ ?_
  exact(aK 1)
  refine aN ?_ ?_ ?_
  exact aU
  exact aW
  rfl
  rfl
  refine fO jM jL rfl B.len jQ ?_
  refine aN ?_ ?_ ?_
  exact(aK 0)
  exact aW
  rfl
  refine aN ?_ ?_ ?_
  refine fX aU ?_
  refine eB ?_ aU
  refine cX D__law_mix (hr.mono (by decide)) rfl ?_
  refine aN ?_ ?_ ?_
  exact(aK 1)
  refine aN ?_ ?_ ?_
  exact aU
  exact aW
  rfl
  rfl
  exact aW
  rfl
  rfl
  rfl
  first | exact bI rfl | exact bJ rfl | assumption
  refine cC ?_
  refine dA .s ?_
  refine bO (n:=1) ?_
  refine jK ?_ kH ?_
  refine bO (n:=1) ?_
  refine lK ?_ ?_
  refine bO (n:=1) ?_
  refine lK ?_ ?_
  refine bO (n:=1) ?_
  refine jK ?_ kH ?_
  exact(aK 0)
  refine iS ?_
  exact(aK 3)
  refine bO (n:=1) ?_
  refine gH ?_
  refine aN ?_ ?_ ?_
  exact(aK 4)
  exact aW
  rfl
  refine bO (n:=1) ?_
  refine jK ?_ ?_ kH
  exact(aK 0)
  refine iS ?_
  exact(aK 3)
  exact(iS aU)
  refine bN ?_ ?_
  refine fC .s ?_ ?_ fE
  refine gJ (iO hu) iP ?_ aU (eT _)
  exact(aK 2)
  refine cC ?_
  refine dA .s ?_
  refine bO (n:=1) ?_
  refine mL rfl (lQ (N:=["_law_k"]) (cap:=[none]) (out:=(bU uI).names) (XN:=CH) rfl rfl (by decide +kernel) rfl) lH ?_ (fun cl C s₀ H₀ ex=>⟨lN (j:=0) (show(["_law_k"]:List aD).Nodup by decide +kernel) rfl (bI rfl),lL,(jZ (aN (fX fZ (qZ FG calld_strI rfl B.str PyProof.Rows.boot_str (aN (aK 0) aW))) (aN (fX aU (eB (aK 0) aU)) aW)))⟩)
  refine di_of0 ?_
  refine rB rfl B.range ?_
  refine aN ?_ ?_ ?_
  exact aU
  exact aW
  rfl
  refine bN ?_ ?_
  refine fC .s ?_ ?_ fE
  refine gJ (iO hu) iP ?_ aU (eT _)
  exact(aK 2)
  refine bN ?_ ?_
  refine dY (i:=5) 0 .s ?_ ?_ ?_ ?_ ?_ ?_
  exact nd
  rfl
  first | exact bI rfl | exact bJ rfl
  refine fT hv ?_ ?_ (fun _ _=>rfl)
  refine bO (n:=1) ?_
  refine gH ?_
  refine aN ?_ ?_ ?_
  exact aU
  refine aN ?_ ?_ ?_
  exact aU
  refine aN ?_ ?_ ?_
  exact(de_neg aU)
  refine aN ?_ ?_ ?_
  exact hU
  refine aN ?_ ?_ ?_
  exact qG
  refine aN ?_ ?_ ?_
  exact fZ
  refine aN ?_ ?_ ?_
  refine jZ ?_
  refine aN ?_ ?_ ?_
  exact aU
  exact aW
  rfl
  refine aN ?_ ?_ ?_
  refine fX aU ?_
  refine eB ?_ ?_
  exact(aK 1)
  exact(de_pow aU aU)
  exact aW
  rfl
  rfl
  rfl
  rfl
  rfl
  rfl
  rfl
  rfl
  refine eB ?_ aU
  refine cX D__law_mix (hr.mono (by decide)) rfl ?_
  refine aN ?_ ?_ ?_
  exact(aK 1)
  refine aN ?_ ?_ ?_
  exact aU
  exact aW
  rfl
  rfl
  rfl
  first | exact bI rfl | exact bJ rfl | assumption
  refine cC ?_
  refine dA .s ?_
  refine bO (n:=1) ?_
  refine lK ?_ ?_
  refine bO (n:=1) ?_
  refine lK ?_ ?_
  refine bO (n:=1) ?_
  refine jK ?_ kH ?_
  refine bO (n:=1) ?_
  refine jK ?_ kH ?_
  exact(aK 0)
  refine iS ?_
  exact(aK 3)
  exact(iS aU)
  refine bO (n:=1) ?_
  refine gH ?_
  refine aN ?_ ?_ ?_
  refine jZ ?_
  refine aN ?_ ?_ ?_
  exact fZ
  refine aN ?_ ?_ ?_
  exact(aK 5)
  exact aW
  rfl
  rfl
  exact aW
  rfl
  refine bO (n:=1) ?_
  refine jK ?_ ?_ kH
  exact(aK 0)
  refine iS ?_
  exact(aK 3)
  refine bN ?_ ?_
  refine fC .s ?_ ?_ fE
  refine gJ (iO hu) iP ?_ aU (eT _)
  exact(aK 2)
  refine bN ?_ ?_
  refine dY (i:=6) 0 .s ?_ ?_ ?_ ?_ ?_ ?_
  exact nd
  rfl
  first | exact bI rfl | exact bJ rfl
  refine fT hv ?_ ?_ (fun _ _=>rfl)
  refine bO (n:=1) ?_
  refine gH ?_
  refine aN ?_ ?_ ?_
  exact fZ
  refine aN ?_ ?_ ?_
  exact fZ
  refine aN ?_ ?_ ?_
  exact fZ
  refine aN ?_ ?_ ?_
  exact fZ
  refine aN ?_ ?_ ?_
  exact fZ
  refine aN ?_ ?_ ?_
  exact aU
  refine aN ?_ ?_ ?_
  exact qG
  refine aN ?_ ?_ ?_
  refine bO (n:=1) ?_
  refine gH ?_
  refine aN ?_ ?_ ?_
  exact fZ
  exact aW
  rfl
  refine aN ?_ ?_ ?_
  exact hU
  exact aW
  rfl
  rfl
  rfl
  rfl
  rfl
  rfl
  rfl
  rfl
  rfl
  refine eB ?_ aU
  refine cX D__law_mix (hr.mono (by decide)) rfl ?_
  refine aN ?_ ?_ ?_
  exact(aK 1)
  refine aN ?_ ?_ ?_
  exact aU
  exact aW
  rfl
  rfl
  rfl
  first | exact bI rfl | exact bJ rfl | assumption
  refine cC ?_
  refine dA .s ?_
  refine bO (n:=1) ?_
  refine lK ?_ ?_
  refine bO (n:=1) ?_
  refine lK ?_ ?_
  refine bO (n:=1) ?_
  refine jK ?_ kH ?_
  exact(aK 0)
  refine iS ?_
  exact(aK 3)
  refine bO (n:=1) ?_
  refine gH ?_
  refine aN ?_ ?_ ?_
  refine jZ ?_
  refine aN ?_ ?_ ?_
  exact(aK 6)
  refine aN ?_ ?_ ?_
  exact aU
  exact aW
  rfl
  rfl
  exact aW
  rfl
  refine bO (n:=1) ?_
  refine jK ?_ ?_ kH
  exact(aK 0)
  refine iS ?_
  exact(aK 3)
  refine bN ?_ ?_
  refine dY (i:=7) 0 .s ?_ ?_ ?_ ?_ ?_ ?_
  exact nd
  rfl
  first | exact bI rfl | exact bJ rfl
  refine bO (n:=1) ?_
  refine gH ?_
  refine aN ?_ ?_ ?_
  refine bO (n:=1) ?_
  refine gH ?_
  refine aN ?_ ?_ ?_
  exact fZ
  refine aN ?_ ?_ ?_
  exact aU
  exact aW
  rfl
  rfl
  refine aN ?_ ?_ ?_
  refine jZ ?_
  refine aN ?_ ?_ ?_
  exact fZ
  exact aW
  rfl
  refine aN ?_ ?_ ?_
  refine jZ ?_
  refine aN ?_ ?_ ?_
  exact fZ
  refine aN ?_ ?_ ?_
  exact aU
  refine aN ?_ ?_ ?_
  exact aU
  exact aW
  rfl
  rfl
  rfl
  refine aN ?_ ?_ ?_
  exact fZ
  refine aN ?_ ?_ ?_
  exact qG
  refine aN ?_ ?_ ?_
  exact(jZ aW)
  refine aN ?_ ?_ ?_
  refine bO (n:=1) ?_
  exact(df_dict1 fZ aU)
  exact aW
  rfl
  rfl
  rfl
  rfl
  rfl
  rfl
  rfl
  rfl
  first | exact bI rfl | exact bJ rfl | assumption
  refine cC ?_
  refine dA .s ?_
  refine bO (n:=1) ?_
  refine lK ?_ ?_
  refine bO (n:=1) ?_
  refine lK ?_ ?_
  refine bO (n:=1) ?_
  refine jK ?_ kH ?_
  exact(aK 0)
  refine iS ?_
  exact(aK 3)
  refine bO (n:=1) ?_
  refine gH ?_
  refine aN ?_ ?_ ?_
  refine fT hv ?_ ?_ (fun _ _=>rfl)
  exact(aK 7)
  refine eB ?_ aU
  refine cX D__law_mix (hr.mono (by decide)) rfl ?_
  refine aN ?_ ?_ ?_
  exact(aK 1)
  refine aN ?_ ?_ ?_
  exact aU
  exact aW
  rfl
  rfl
  exact aW
  rfl
  refine bO (n:=1) ?_
  refine jK ?_ ?_ kH
  exact(aK 0)
  refine iS ?_
  exact(aK 3)
noncomputable def FM:SF:=(bE (sIf .s (bOr (fI (bOf (eUn (eR "list") (aF 0)))) (bOf (eOp gGt (aQ dJ (aH (aF 0) aJ)) (eC (.int 12))))) (cL 0 .s (eC (.bool false))) eA)
 (bE (sIf .s (fI (bOf (aQ gAll (aH (eLC [none] (iIt (aF 0)) (gB 0) gG (fK (aQ lP (aH (aF 0) aJ)) (fK (aQ eI (aH (eOp gIx (aF 0) (eC (.int 0))) aJ)) (aQ kK (aH (eOp gIx (aF 0) (eC (.int 1))) aJ))))) aJ)))) (cL 0 .s (eC (.bool false))) eA)
 (cL 0 .s (eOp gEq (aQ gLenSetK (aH (eLC [none] (iIt (aF 0)) (gB 0) gG (eOp gIx (aF 0) (eC (.int 0)))) aJ)) (aQ dJ (aH (aF 0) aJ))))))
noncomputable def gR:List aA->Option aA:=fnD 1 1 FM
theorem GL (F:Fun K "are_widths" "are_widths" rN f fd)(B:Blt mg)(C:Cst mg)(V:Xcs K mg)(D_is_name:Def P w K mg base "is_name" 1 pE (spF K 0 eI))(D_is_pair:Def P w K mg base "is_pair" 1 rA (spF K 0 lP))(D_is_width:Def P w K mg base "is_width" 2 rC (spF K 0 kK)):FnOk P w K mg base CX0 3 f fd rL (spF K 0 gR):=by
 obtain⟨_,h_MOST_TABLES⟩:=C.MOST_TABLES
 have nd:=Ag6.nd
 exact iK F Ag6 rfl (by decide) fun cdv A outer s H E P0 hr=>by
  have hu:=fU hr
  have hv:=fN hr
  exact(bN (fC .s (dt_w (iM (iQ (gQ (kA (T:="list") rfl B.isinstance rfl B.list yQ (by decide) (aK 0)))) (lJ (gJ op_gt opd_gt (fO jM jL rfl B.len jQ (aN (aK 0) aW)) (wI (i:=12) rfl h_MOST_TABLES ⟨_,rfl⟩) (eT _))))) (cC (dA .s hU)) fE)
   (bN (fC .s (iQ (gQ (fO (zW rfl) AE rfl B.all boot_all (aN (bO (n:=1) (mL rfl (lQ (N:=["pair"]) (cap:=[none]) (out:=(bU rN).names) (XN:=xT) rfl rfl (by decide +kernel) rfl) lH (mT (aK 0)) (fun cl C s₀ H₀ ex=>⟨lN (j:=0) (show(["pair"]:List aD).Nodup by decide +kernel) rfl (bI rfl),lL,(jX (cX D_is_pair (hr.mono (by decide)) rfl (aN (aK 0) aW)) (jX (cX D_is_name (hr.mono (by decide)) rfl (aN (fT hv (aK 0) aU (fun _ _=>rfl)) aW)) (mR (cX D_is_width (hr.mono (by decide)) rfl (aN (fT hv (aK 0) aU (fun _ _=>rfl)) aW)))))⟩))) aW)))) (cC (dA .s hU)) fE)
   (cC (dA .s (mQ (iO hu) iP (de_lensetK rfl rfl B.len rfl B.set (bO (n:=1) (mL rfl (lQ (N:=["pair"]) (cap:=[none]) (out:=(bU rN).names) (XN:=xT) rfl rfl (by decide +kernel) rfl) lH (mT (aK 0)) (fun cl C s₀ H₀ ex=>⟨lN (j:=0) (show(["pair"]:List aD).Nodup by decide +kernel) rfl (bI rfl),lL,(fT hv (aK 0) aU (fun _ _=>rfl))⟩)))) (fO jM jL rfl B.len jQ (aN (aK 0) aW)) (eT _))))))
noncomputable def b_Book_rows (z:Option aD):SF:=(bE (qE 0 .s (aQ (lV z) (eF "Book" (aF 0) (aH (aF 1) aJ))))
 (cL 1 .s (aQ gSortDT (aH (eOp gIx (eUn (mJ "Book") (aF 0)) (aF 1)) aJ))))
noncomputable def lU:FX:=fun z=>fnD 2 2 (b_Book_rows z)
theorem FH (F:Fun K "rows" "Book.rows" xJ f fd)(B:Blt mg)(C:Cst mg)(V:Xcs K mg)(D_Book_want_table:MethX P w K mg base "Book" "want_table" 2 pL (spX K 0 lV)):FnOk P w K mg base (CXR base P w) 3 f fd pG (spX K 1 lU):=by
 have nd:=Aic.nd
 exact oM F Aic rfl (by decide) fun cdv A outer s H E P0 z hr hz=>by
  have hu:=fU hr
  have hv:=fN hr
  exact(bN (ds_exprX 0 .s (ev_at .s hz (qQ D_Book_want_table (hr.mono (by decide)) (aK 0) (aN (aK 1) aW))))
   (cC (dA .s (fO (GK rfl) FR rfl B.sorted yP (aN (fT hv (de_held V.bk (aK 0)) (aK 1) (fun _ _=>rfl)) aW)))))
noncomputable def FI (z:Option aD):SF:=(bE (qE 0 .s (aQ (lV z) (eF "Book" (aF 0) (aH (aF 1) aJ))))
 (cL 0 .s (eOp gIx (eUn (mM "Book") (aF 0)) (aF 1))))
noncomputable def rJ:FX:=fun z=>fnD 2 2 (FI z)
theorem GN (F:Fun K "width" "Book.width" xS f fd)(B:Blt mg)(C:Cst mg)(V:Xcs K mg)(D_Book_want_table:MethX P w K mg base "Book" "want_table" 2 pL (spX K 0 lV)):FnOk P w K mg base (CXR base P w) 3 f fd rF (spX K 0 rJ):=by
 have nd:=Ahf.nd
 exact oM F Ahf rfl (by decide) fun cdv A outer s H E P0 z hr hz=>by
  have hu:=fU hr
  have hv:=fN hr
  exact(bN (ds_exprX 0 .s (ev_at .s hz (qQ D_Book_want_table (hr.mono (by decide)) (aK 0) (aN (aK 1) aW))))
   (cC (dA .s (fT hv (de_wide V.bk (aK 0)) (aK 1) (fun _ _=>rfl)))))
noncomputable def GE:SF:=(bE (cD 1 0 .s (aQ iT (aH (aF 0) (aH (eC (.int 0)) aJ))))
 (bE (cD 2 1 .s (dD aJ))
 (bE (sFor .s (iIt (aQ pK (aH (aQ iT (aH (aF 0) (aH (eC (.int 1)) aJ))) (aH (eOp bX (aQ dN (aH (aF 1) (aH (eC (.int 5)) aJ))) (eC (.int 13))) aJ)))) (gNm 3) (sApp 2 .a (fR (aH (aF 3) (aH (eOp cE (eC (.int 1)) (eOp bX (aQ dN (aH (aQ iT (aH (aF 0) (aH (eOp cE (eC (.int 2)) (aQ dJ (aH (aF 2) aJ))) aJ))) (aH (eC (.int 6)) aJ))) (eC (.int 6)))) aJ)))))
 (sRetV 2 1))))
noncomputable def pJ:List aA->Option aA:=fnD 1 4 GE
theorem GG (F:Fun K "_law_pairs" "_law_pairs" xR f fd)(B:Blt mg)(C:Cst mg)(V:Xcs K mg)(D__law_cell:Def P w K mg base "_law_cell" 1 pF (spF K 0 iT))(D__law_mix:Def P w K mg base "_law_mix" 1 mX (spF K 0 dN))(D__law_names:Def P w K mg base "_law_names" 2 rM (spF K 1 pK)):FnOk P w K mg base CX0 3 f fd rG (spF K 1 pJ):=by
 have nd:=Ahk.nd
 exact iK F Ahk rfl (by decide) fun cdv A outer s H E P0 hr=>by
  have hu:=fU hr
  have hv:=fN hr
  exact(bN (dY (i:=1) 0 .s nd rfl (by first | exact bI rfl | exact bJ rfl) (cX D__law_cell (hr.mono (by decide)) rfl (aN (aK 0) (aN aU aW))))
   (bN (dY (i:=2) 1 .s nd rfl (by first | exact bI rfl | exact bJ rfl) (gH aW))
   (bN (ds_for yT rfl (mT (bO (n:=1) (cX D__law_names (hr.mono (by decide)) rfl (aN (cX D__law_cell (hr.mono (by decide)) rfl (aN (aK 0) (aN aU aW))) (aN (eB (cX D__law_mix (hr.mono (by decide)) rfl (aN (aK 1) (aN aU aW))) aU) aW))))) (tK (i:=3) nd rfl (by first | exact bI rfl | exact bJ rfl)) (cC (wR 2 .a (jZ (aN (aK 3) (aN (fX aU (eB (cX D__law_mix (hr.mono (by decide)) rfl (aN (cX D__law_cell (hr.mono (by decide)) rfl (aN (aK 0) (aN (fX aU (fO jM jL rfl B.len jQ (aN (aK 2) aW))) aW))) (aN aU aW))) aU)) aW))))))
   (cC (ds_retV 2)))))
end Aw
namespace Aw
open PySem L2
set_option maxHeartbeats 4000000
variable {P:bA}{w:aX}{K:aI}{mg:aD->Option aE}{base:aR}{f:aB}{fd:eY}
noncomputable def iU:FX:=oK "Book" "NoTable" gR
set_option maxHeartbeats 4000000 in
theorem HA {P:bA}{w:aX}{K:aI}{mg:aD->Option aE}{base:aR}{f:aB}{fd:eY}(F:Fun K "__init__" "Book.__init__" xZ f fd)(B:Blt mg)(C:Cst mg)(V:Xcs K mg)(D_are_widths:Def P w K mg base "are_widths" 3 rL (spF K 0 gR)):FnOk P w K mg base (CXR base P w) (3+1) f fd pM (spInit K "Book" iU):=by
 have nd:=Afa.nd
 refine F.okX Afa (fun vs H Q E h=>?_) (fun cdv A outer s H vs Q E hr h=>?_)
 ·obtain⟨x,dx,C,v1,P,d1,d,z,rfl,_⟩:=h
  rfl
 ·obtain⟨x,dx,C0,v1,P0,d1,d,z,rfl,hx,hc,hP,r1,ef,kq,kx⟩:=h
  have hu:=fN hr
  obtain⟨C9,c1,cl,nW,nH⟩:=V.bk.ex
  obtain rfl:=qO c1 hc
  refine⟨_,tX (ps_if (iQ (gQ (cX D_are_widths (hr.mono (by decide)) rfl (aN (aK 1) aW)))) (qS (ds_raise (H0:=H) (P0:=P0) (n0:=0) (z:=z) (fun c hc=>xok_def (kx c hc)) V.r_NoTable rfl rfl)) pss_nil)
   (tX (ps_fld (pv 0) (qZ (call_dictPD rfl) calld_dictP rfl B.dict PyProof.Rows.boot_dict (aN (aK 1) aW)) rfl)
   (tX (ps_fld (pv 0) vZ rfl)
   (qS (ps_for PassesOwn.leaving rfl (pi_dict (pe_fld (pv 0) rfl)) (qP (i:=2) nd rfl (by first | exact bI rfl | exact bJ rfl)) (qS (ps_dput hu (pe_fld (pv 0) rfl) (pv 2) pe_dnewT rfl)))))),?_⟩
  have rs:Ajq K (hid H P0) [none,some d1,none] (start CW [.ref x,v1]):=fun i d' e=>by
   match i,e with
   | 0,e=>cases e
   | 1,e=>cases e; exact⟨v1,rfl,r1⟩
   | 2,e=>cases e
   | i+3,e=>simp at e
  rcases FK ef with⟨e1,hz,rfl⟩ | ⟨kds,e1,e2,fl,ndk,hlen,rfl⟩
  ·refine⟨P0,[none,some d1,none],true,hP,rs,?_,fun H1 x1=>?_⟩
   ·show((gR [d1]).bind asB).bind _=_
    rw[e1]
    rfl
   refine iteT ⟨hid H1 P0,[none,none,none],fun _=>[],.rt (rsD "NoTable"),⟨rfl,fun _=>.nil,fun i j a h=>by simp at h,fun i a h=>by simp at h,x1,hP,?_,fun i n d e=>?_⟩,?_,?_⟩
   ·exact gC fun a h=>h.elim id fun⟨i,h⟩=>by simp at h
   ·match i,e with
    | 0,e=>cases e
    | 1,e=>cases e
    | 2,e=>cases e
    | i+3,e=>simp at e
   ·exact if_pos hz
   ·exact fun v H' ⟨_,_,_,_,r⟩=>(rs_not r).elim
  ·refine⟨P0,[none,some d1,none],false,hP,rs,?_,fun H1 x1=>?_⟩
   ·show((gR [d1]).bind asB).bind _=_
    rw[e1]
    rfl
   refine iteF ⟨P0,[none,some d1,none],_,hP.ext x1,rs.ext (cT x1),(show(nM [d1])=_ from e2),fun v Hw Fr xw nf fr ro=>?_⟩
   obtain⟨wa,kvs,Fs,rfl,hw,hF,h3⟩:=ro
   obtain⟨rk,hn⟩:=all3_zeroK h3
   rw[hn] at hF
   subst hF
   have hwx:Hw x=some (.ins C0 dx []):=xw _ _ (x1 _ _ hx)
   have nwx:wa≠x:=fun z=>by rw[z,hwx] at hw; cases hw
   refine⟨_,rfl,x,C0,dx,[],rfl,hwx,cl,nW,(by show 0<1000; decide),?_⟩
   intro q hq
   have nqx:q≠x:=fun z=>by rw[z,dQ] at hq; cases hq
   have hq0:Hw q=none:=by rw[bH nqx] at hq; exact hq
   have nqw:wa≠q:=fP hw hq0
   refine⟨_,rfl,x,C0,dx,_,rfl,(by rw[bH nqx.symm]; exact dQ),cl,nH,(by show 1<1000; decide),?_⟩
   have eput:fS "held" (.ref q) (fS "wide" (.ref wa) [])=([("wide",.ref wa),("held",.ref q)]:List (aD×L2.V)):=by
    have : ¬ (("wide" : aD) = "held"):=by decide +kernel
    simp[fS,this]
   rw[eput]
   have lk:kvs.2.length=kds.length:=rk.length
   have nk:(kvs.2.map (·.1)).Nodup:=by
    have:kds.map (·.1)=(kvs.2.map (·.1)).map kD:=zM rk
    rw[this] at ndk
    exact(sL.mp ndk).imp fun h z=>h (by rw[z])
   refine⟨_,rfl,x,C0,dx,_,_,rfl,dQ,cl,nW,BH _ _,wa,kvs.1,kvs.2,rfl,(by rw[bH nwx,bH nqw,bH nwx]; exact hw),?_⟩
   refine for_dict (fun i σ H2=>∃ v,σ=[some (.ref x),some v1,v]/\(∀ b o,b≠x->Hw b=some o->H2 b=some o)/\H2 x=some (.ins C0 dx [("wide",.ref wa),("held",.ref q)]) /\ ∃ n ps,H2 q=some (.dK n (hvZ kvs.2 ps))/\ps.length=i/\i≤kvs.2.length/\ps.Nodup /\ ∀ p∈ps,Hw p=none/\p≠q/\H2 p=some (.dT 0 []))
    ⟨none,rfl,fun b o nb e=>?_,dQ,0,[],?_,rfl,eE _,.nil,fun p m=>by simp at m⟩ (fun i σ H2 _ ⟨_,_,kp,_⟩=>kp _ _ nwx hw) ?_ ?_
   ·rw[bH nb,bH (fP e hq0),bH nb]
    exact e
   ·rw[bH nqx,dQ]
    simp[hvZ]
   ·rintro i kv σ H2 hk ⟨v,rfl,kp,hx2,n,ps,hq2,hpl,hil,ndp,hps⟩
    intro p hp
    have npx:p≠x:=fun z=>by rw[z,hx2] at hp; cases hp
    have npq:p≠q:=fun z=>by rw[z,hq2] at hp; cases hp
    have hl2:(hvZ kvs.2 ps).length<sizeLine:=by
     rw[hvZ_len (by omega)]
     have:=(eK.mp hk).1
     omega
    refine⟨_,rfl,x,C0,dx,_,_,rfl,(by rw[bH npx.symm]; exact hx2),cl,nH,zL _ _,_,rfl,q,_,rfl,DPut.k (k:=kv.1) (by rw[bH npq.symm]; exact hq2) hl2,fun n2=>⟨_,rfl,fun b o nb e=>?_,?_,n2,ps++[p],?_,by simp[hpl],(eK.mp hk).1,?_,fun p' m=>?_⟩⟩
    ·rw[bH (fP e hq0),bH (fP (kp b o nb e) hp)]
     exact kp b o nb e
    ·rw[bH nqx.symm,bH npx.symm]
     exact hx2
    ·rw[dQ,putK_new _ (hvZ_new nk (by rw[hpl]; exact hk)),hvZ_snoc (by rw[hpl]; exact hk)]
    ·refine sM.mpr ⟨ndp,hJ.mpr ⟨by simp,.nil⟩,fun a ma b mb=>?_⟩
     rw[dG.mp mb]
     intro z
     rw[z] at ma
     rw[(hps p ma).2.2] at hp
     cases hp
    ·rcases kP.mp m with m | m
     ·obtain⟨g1,g2,g3⟩:=hps p' m
      refine⟨g1,g2,?_⟩
      rw[bH g2,bH (fP g3 hp)]
      exact g3
     ·rw[dG.mp m]
      refine⟨?_,npq,by rw[bH npq,dQ]⟩
      cases g:Hw p with
      | none=>rfl
      | some o=>rw[kp p o npx g] at hp; cases hp
   ·rintro σ H2 ⟨v,rfl,kp,hx2,n,ps,hq2,hpl,hil,ndp,hps⟩
    have hwp : ∀ p∈ps,p≠wa:=fun p m z=>by
     have:=(hps p m).1
     rw[z,hw] at this
     cases this
    have hxp : ∀ p∈ps,p≠x:=fun p m z=>by
     have:=(hps p m).1
     rw[z,hwx] at this
     cases this
    refine kq H2 (x::wa::q::ps) (fun b o nb e=>kp b o nb (xw _ _ (x1 _ _ e))) ?_ ?_ (book_rep c1 hx2 (kp _ _ nwx hw) hq2 hpl (fun p m=>(hps p m).2.2) fl rk kp fun xs z=>by rw[hwx] at z; cases z)
    ·refine hJ.mpr ⟨?_,hJ.mpr ⟨?_,hJ.mpr ⟨fun m=>(hps q m).2.1 rfl,ndp⟩⟩⟩
     ·simp only[cN,not_or]
      exact⟨nwx.symm,nqx.symm,fun m=>hxp x m rfl⟩
     ·simp only[cN,not_or]
      exact⟨nqw,fun m=>hwp wa m rfl⟩
    ·intro a m
     simp only[cN] at m
     rcases m with rfl | rfl | rfl | m
     ·exact⟨.inl rfl,_,hx2⟩
     ·exact⟨.inr (x1.none (fr _ cA).1),_,kp _ _ nwx hw⟩
     ·exact⟨.inr (x1.none (xw.none hq0)),_,hq2⟩
     ·exact⟨.inr (x1.none (xw.none (hps a m).1)),_,(hps a m).2.2⟩
end Aw
namespace Aw
open PySem L2
set_option maxHeartbeats 4000000
variable {P:bA}{w:aX}{K:aI}{mg:aD->Option aE}{base:aR}{f:aB}{fd:eY}
noncomputable def FY (z:Option aD):SF:=(bE (cD 1 2 .s (eC (.dict [])))
 (bE (sFor .s (iIt (aQ (iV none) (eF "Book" (aF 0) aJ))) (gNm 2) (sSetK2 1 .s (aQ (lU none) (eF "Book" (aF 0) (aH (aF 2) aJ))) .s (aF 2)))
 (sRetV 1 2)))
noncomputable def lR:FX:=fun z=>fnD 1 3 (FY z)
theorem GJ (F:Fun K "plain" "Book.plain" xU f fd)(B:Blt mg)(C:Cst mg)(V:Xcs K mg)(D_Book_tables:MethX P w K mg base "Book" "tables" 1 nU (spX K 1 iV))(D_Book_rows:MethX P w K mg base "Book" "rows" 3 pG (spX K 1 lU)):FnOk P w K mg base (CXR base P w) 4 f fd pH (spX K 2 lR):=by
 have nd:=Ahi.nd
 exact oM F Ahi rfl (by decide) fun cdv A outer s H E P0 z hr hz=>by
  have hu:=fU hr
  have hv:=fN hr
  exact(bN (dY (i:=1) 2 .s nd rfl (by first | exact bI rfl | exact bJ rfl) df_dnew2)
   (bN (ds_for PassesOwn.leaving rfl (mT (bO (n:=1) (iL (nR D_Book_tables (hr.mono (by decide)) (aK 0))))) (tK (i:=2) nd rfl (by first | exact bI rfl | exact bJ rfl)) (cC (ds_setK2 1 .s .s hv (iL (qQ D_Book_rows (hr.mono (by decide)) (aK 0) (aN (aK 2) aW))) (aK 2))))
   (cC (ds_retV 1))))
noncomputable def GR:SF:=(bE (cD 2 0 .s (aQ (iV none) (eF "Book" (aF 0) aJ)))
 (bE (sIf .s (bOr (fI (bOf (eUn (eR "list") (aF 2)))) (bOf (eOp gNe (aF 2) (aQ gSortS (aH (eLC [none] (iIt (aF 1)) (gB 0) gG (eOp gIx (aF 0) (eC (.int 0)))) aJ))))) (cL 0 .s (eC (.bool false))) eA)
 (bE (cD 3 0 .s (aQ (rE none) (eF "Book" (aF 0) aJ)))
 (bE (sIf .s (bOr (fI (bOf (eUn (eR "int") (aF 3)))) (bOr (bOf (eUn (eR "bool") (aF 3))) (bOf (eOp gNe (aF 3) (eC (.int 0)))))) (cL 0 .s (eC (.bool false))) eA)
 (bE (sFor .s (iIt (aF 1)) (gPair 4 5) (bE (cD 6 0 .s (aQ (rJ none) (eF "Book" (aF 0) (aH (aF 4) aJ))))
 (sIf .s (bOr (fI (bOf (eUn (eR "int") (aF 6)))) (bOr (bOf (eUn (eR "bool") (aF 6))) (bOr (bOf (eOp gNe (aF 6) (aF 5))) (bOf (eOp gNe (aQ (lU none) (eF "Book" (aF 0) (aH (aF 4) aJ))) (dD aJ)))))) (cL 0 .s (eC (.bool false))) eA)))
 (bE (cD 7 0 .s (aQ (lR none) (eF "Book" (aF 0) aJ)))
 (cL 0 .s (fK (eUn (eR "dict") (aF 7)) (fK (eOp gEq (aQ oV (aH (aF 7) aJ)) (aF 2)) (eOp gEq (aQ qH (aH (aF 7) aJ)) (eOp gMulL (dD (aH (dD aJ) aJ)) (aQ dJ (aH (aF 1) aJ)))))))))))))
noncomputable def nT:List aA->Option aA:=fnD 2 8 GR
theorem GV (F:Fun K "_law_stands" "_law_stands" uK f fd)(B:Blt mg)(C:Cst mg)(V:Xcs K mg)(D_Book_tables:MethX P w K mg base "Book" "tables" 1 nU (spX K 1 iV))(D_Book_size:MethX P w K mg base "Book" "size" 1 rP (spX K 0 rE))(D_Book_rows:MethX P w K mg base "Book" "rows" 3 pG (spX K 1 lU))(D_Book_width:MethX P w K mg base "Book" "width" 3 rF (spX K 0 rJ))(D_Book_plain:MethX P w K mg base "Book" "plain" 4 pH (spX K 2 lR)):FnOk P w K mg base CX0 5 f fd rS (spF K 0 nT):=by
 have nd:=Agb.nd
 exact iK F Agb rfl (by decide) fun cdv A outer s H E P0 hr=>by
  have hu:=fU hr
  have hv:=fN hr
  exact(bN (dY (i:=2) 0 .s nd rfl (by first | exact bI rfl | exact bJ rfl) (bO (n:=1) (iL (nR D_Book_tables (hr.mono (by decide)) (aK 0)))))
   (bN (fC .s (dt_w (iM (iQ (gQ (kA (T:="list") rfl B.isinstance rfl B.list yQ (by decide) (aK 2)))) (lJ (gJ (qM hu) qF (aK 2) (bO (n:=1) (fO GC calld_sortS rfl B.sorted yP (aN (bO (n:=1) (mL rfl (lQ (N:=["_law_pair"]) (cap:=[none]) (out:=(bU uK).names) (XN:=CQ) rfl rfl (by decide +kernel) rfl) lH (mT (aK 1)) (fun cl C s₀ H₀ ex=>⟨lN (j:=0) (show(["_law_pair"]:List aD).Nodup by decide +kernel) rfl (bI rfl),lL,(fT hv (aK 0) aU (fun _ _=>rfl))⟩))) aW))) (eT _))))) (cC (dA .s hU)) fE)
   (bN (dY (i:=3) 0 .s nd rfl (by first | exact bI rfl | exact bJ rfl) (iL (nR D_Book_size (hr.mono (by decide)) (aK 0))))
   (bN (fC .s (dt_w (iM (iQ (gQ (kA (T:="int") rfl B.isinstance rfl B.int yR (by decide) (aK 3)))) (iM (gQ (kA (T:="bool") rfl B.isinstance rfl B.bool DZ (by decide) (aK 3))) (lJ (gJ (qM hu) qF (aK 3) aU (eT _)))))) (cC (dA .s hU)) fE)
   (bN (ds_for yT rfl (mT (aK 1)) (dg_pair (i:=4) (j:=5) rfl nd rfl rfl (by first | exact bI rfl | exact bJ rfl) (by first | exact bI rfl | exact bJ rfl)) (bN (dY (i:=6) 0 .s nd rfl (by first | exact bI rfl | exact bJ rfl) (iL (qQ D_Book_width (hr.mono (by decide)) (aK 0) (aN (aK 4) aW))))
   (cC (fC .s (dt_w (iM (iQ (gQ (kA (T:="int") rfl B.isinstance rfl B.int yR (by decide) (aK 6)))) (iM (gQ (kA (T:="bool") rfl B.isinstance rfl B.bool DZ (by decide) (aK 6))) (iM (gJ (qM hu) qF (aK 6) (aK 5) (eT _)) (lJ (gJ (qM hu) qF (bO (n:=1) (iL (qQ D_Book_rows (hr.mono (by decide)) (aK 0) (aN (aK 4) aW)))) (bO (n:=1) (gH aW)) (eT _))))))) (cC (dA .s hU)) fE))))
   (bN (dY (i:=7) 0 .s nd rfl (by first | exact bI rfl | exact bJ rfl) (bO (n:=2) (iL (nR D_Book_plain (hr.mono (by decide)) (aK 0)))))
   (cC (dA .s (jX (kA (T:="dict") rfl B.isinstance rfl B.dict PyProof.Rows.boot_dict (by decide) (aK 7)) (jX (mQ (iO hu) iP (bO (n:=1) (fO (CV rfl) CN rfl B.sorted yP (aN (aK 7) aW))) (aK 2) (eT _)) (mR (mQ (iO hu) iP (bO (n:=1) (df_listVals rfl rfl B.list (aK 7))) (bO (n:=1) (df_mulL (bO (n:=1) (gH (aN (bO (n:=1) (gH aW)) aW))) (fO jM jL rfl B.len jQ (aN (aK 1) aW)))) (eT _)))))))))))))
noncomputable def GU:SF:=(bE (cD 2 0 .s (eC (.bool false)))
 (bE (sIf .s (bOf (eOp gEq (aF 1) (eC (.int 0)))) (bE (sTry "NoTable" iU (aH (aF 0) aJ) vExpr (cD 2 0 .s (eC (.bool true))))
 (cL 0 .s (aF 2))) eA)
 (bE (cD 2 0 .s (eC .none))
 (bE (sTry "NoTable" iU (aH (aF 0) aJ) vExpr (sAs 3 "NoTable" (cD 2 0 .s (aF 3))))
 (bE (sIf .s (bOr (fI (bOf (eUn (gW "NoTable" true) (aF 2)))) (fI (bOf (eUn (gW "NoTable" true) (aF 2))))) (cL 0 .s (eC (.bool false))) eA)
 (bE (sIf .s (bOr (bOf (eUn (gW "NoTable" false) (aF 2))) (bOr (bOf (eUn (gW "NoTable" false) (aF 2))) (bOf (eUn (gW "NoTable" false) (aF 2))))) (cL 0 .s (eC (.bool false))) eA)
 (cL 0 .s (fK (eNot (eUn (gW "NoTable" false) (aF 2))) (fK (eNot (eUn (gW "NoTable" false) (aF 2))) (eNot (eUn (gW "NoTable" false) (aF 2))))))))))))
noncomputable def rR:List aA->Option aA:=fnD 2 4 GU
theorem GT (F:Fun K "_law_refused" "_law_refused" xW f fd)(B:Blt mg)(C:Cst mg)(V:Xcs K mg)(D_Book___init__:MakeX P w K mg base "Book" 4 pM iU):FnOk P w K mg base CX0 6 f fd rQ (spF K 0 rR):=by
 have nd:=Afh.nd
 exact iK F Afh rfl (by decide) fun cdv A outer s H E P0 hr=>by
  have hu:=fU hr
  have hv:=fN hr
  exact(bN (dY (i:=2) 0 .s nd rfl (by first | exact bI rfl | exact bJ rfl) hU)
   (bN (fC .s (gJ (iO hu) iP (aK 1) aU (eT _)) (bN (ds_tryExprC (c:="NoTable") (tryc V.t_NoTable rfl rfl rfl rfl (by decide)) (fun _ _=>(tP D_Book___init__ (hr.mono (by decide)) (by rfl) (aN (aK 0) aW))) (fun _=>(cC (dY (i:=2) 0 .s nd rfl (by first | exact bI rfl | exact bJ rfl) hU))))
   (cC (dA .s (aK 2)))) fE)
   (bN (dY (i:=2) 0 .s nd rfl (by first | exact bI rfl | exact bJ rfl) qG)
   (bN (GF (c:="NoTable") (tryc V.t_AskError rfl rfl rfl rfl (by decide)) (fun _ _=>(tP D_Book___init__ (hr.mono (by decide)) (by rfl) (aN (aK 0) aW))) nd (j:=3) rfl rfl (fun _=>(cC (dY (i:=2) 0 .s nd rfl (by first | exact bI rfl | exact bJ rfl) (aK 3)))))
   (bN (fC .s (dt_w (iM (iQ (gQ (nP rfl B.isinstance V.i_NoTable rfl (aK 2)))) (lJ (iQ (gQ (de_isiV rfl B.isinstance V.i_ValueError rfl GO (aK 2))))))) (cC (dA .s hU)) fE)
   (bN (fC .s (dt_w (iM (gQ (nP rfl B.isinstance V.i_NoRow rfl (aK 2))) (iM (gQ (nP rfl B.isinstance V.i_Full rfl (aK 2))) (lJ (gQ (nP rfl B.isinstance V.i_TooMany rfl (aK 2))))))) (cC (dA .s hU)) fE)
   (cC (dA .s (jX (de_not (nP rfl B.isinstance V.i_NoText rfl (aK 2))) (jX (de_not (nP rfl B.isinstance V.i_NoName rfl (aK 2))) (mR (de_not (nP rfl B.isinstance V.i_NoDeed rfl (aK 2))))))))))))))
noncomputable def b_law:SF:=(bE (cD 1 0 .s (aQ pJ (aH (aF 0) aJ)))
 (bE (cD 2 1 .s (aQ gList (aH (aF 1) aJ)))
 (bE (cD 3 9 .a (aQ (iU none) (aH (aF 2) aJ)))
 (bE (sIf .a (bOr (bOf (eOp gNe (aF 2) (aF 1))) (fI (bOf (aQ nT (aH (aF 3) (aH (aF 1) aJ)))))) (cL 0 .s (eC (.bool false))) eA)
 (bE (sFor .s (iIt (eOp gCat (dD (aH (aQ iT (aH (aF 0) (aH (eC (.int 20)) aJ))) aJ)) (fH (aF 0) (oS (eC (.int 21))) (oS (eC (.int 63)))))) (gNm 4) (sIf .s (fI (bOf (aQ rR (aH (aQ rH (aH (aF 1) (aH (aF 4) aJ))) (aH (eOp bX (aQ dN (aH (aF 4) (aH (eC (.int 15)) aJ))) (eC (.int 2))) aJ))))) (cL 0 .s (eC (.bool false))) eA))
 (bE (sApp 2 .s (fR (aH (eC (.str "later")) (aH (eC (.int 1)) aJ))))
 (sFrz 2 (bE (sZ .a (aQ (iV none) (eF "Book" (aF 3) aJ)))
 (bE (tL .a (aQ (lR none) (eF "Book" (aF 3) aJ)))
 (cL 0 .a (fK (aQ nT (aH (aF 3) (aH (aF 1) aJ))) (eOp gEq (aQ (iV none) (eF "Book" (aQ (iU none) (aH (dD aJ) aJ)) aJ)) (dD aJ)))))))))))))
noncomputable def F_law:List aA->Option aA:=fnD 1 5 b_law
theorem ok_law (F:Fun K "law" "law" nK f fd)(B:Blt mg)(C:Cst mg)(V:Xcs K mg)(D_Book_tables:MethX P w K mg base "Book" "tables" 1 nU (spX K 1 iV))(D__law_cell:Def P w K mg base "_law_cell" 1 pF (spF K 0 iT))(D__law_mix:Def P w K mg base "_law_mix" 1 mX (spF K 0 dN))(D__law_wrong:Def P w K mg base "_law_wrong" 2 rK (spF K 0 rH))(D__law_pairs:Def P w K mg base "_law_pairs" 3 rG (spF K 1 pJ))(D_Book___init__:MakeX P w K mg base "Book" 4 pM iU)(D_Book_plain:MethX P w K mg base "Book" "plain" 4 pH (spX K 2 lR))(D__law_stands:Def P w K mg base "_law_stands" 5 rS (spF K 0 nT))(D__law_refused:Def P w K mg base "_law_refused" 6 rQ (spF K 0 rR)):FnOk P w K mg base CX0 7 f fd p_law (spF K 0 F_law):=by
 have nd:=sc_law.nd
 exact iK F sc_law rfl (by decide) fun cdv A outer s H E P0 hr=>by
  have hu:=fU hr
  have hv:=fN hr
  refine bN ?_ ?_
  refine dY (i:=1) 0 .s ?_ ?_ ?_ ?_ ?_ ?_
  exact nd
  rfl
  first | exact bI rfl | exact bJ rfl
  refine bO (n:=1) ?_
  refine cX D__law_pairs (hr.mono (by decide)) rfl ?_
  refine aN ?_ ?_ ?_
  exact(aK 0)
  exact aW
  rfl
  rfl
  first | exact bI rfl | exact bJ rfl | assumption
  refine bN ?_ ?_
  refine dY (i:=2) 1 .s ?_ ?_ ?_ ?_ ?_ ?_
  exact nd
  rfl
  first | exact bI rfl | exact bJ rfl
  refine qZ (FU rfl) calld_list rfl B.list yQ ?_
  refine aN ?_ ?_ ?_
  exact(aK 1)
  exact aW
  rfl
  rfl
  first | exact bI rfl | exact bJ rfl | assumption
  refine bN ?_ ?_
  refine dY (i:=3) 9 .a ?_ ?_ ?_ ?_ ?_ ?_
  exact nd
  rfl
  first | exact bI rfl | exact bJ rfl
  exact(iL (tP D_Book___init__ (hr.mono (by decide)) (by rfl) (aN (aK 2) aW)))
  rfl
  first | exact bI rfl | exact bJ rfl | assumption
  refine bN ?_ ?_
  refine fC .a ?_ ?_ fE
  refine dt_w ?_
  refine iM ?_ ?_
  refine gJ (qM hu) qF ?_ ?_ (eT _)
  exact(aK 2)
  exact(aK 1)
  refine lJ ?_
  refine iQ ?_
  refine gQ ?_
  refine cX D__law_stands (hr.mono (by decide)) rfl ?_
  refine aN ?_ ?_ ?_
  exact(aK 3)
  refine aN ?_ ?_ ?_
  exact(aK 1)
  exact aW
  rfl
  rfl
  refine cC ?_
  exact(dA .s hU)
  refine bN ?_ ?_
  refine ds_for ?_ ?_ ?_ ?_ ?_ ?_
  exact yT
  rfl
  refine mT ?_
  refine bO (n:=1) ?_
  refine lK ?_ ?_
  refine bO (n:=1) ?_
  refine gH ?_
  refine aN ?_ ?_ ?_
  refine cX D__law_cell (hr.mono (by decide)) rfl ?_
  refine aN ?_ ?_ ?_
  exact(aK 0)
  refine aN ?_ ?_ ?_
  exact aU
  exact aW
  rfl
  rfl
  exact aW
  rfl
  refine bO (n:=1) ?_
  refine jK ?_ ?_ ?_
  exact(aK 0)
  exact(iS aU)
  exact(iS aU)
  exact(tK (i:=4) nd rfl (by first | exact bI rfl | exact bJ rfl))
  refine cC ?_
  refine fC .s ?_ ?_ fE
  refine iQ ?_
  refine gQ ?_
  refine cX D__law_refused (hr.mono (by decide)) rfl ?_
  refine aN ?_ ?_ ?_
  refine cX D__law_wrong (hr.mono (by decide)) rfl ?_
  refine aN ?_ ?_ ?_
  exact(aK 1)
  refine aN ?_ ?_ ?_
  exact(aK 4)
  exact aW
  rfl
  rfl
  refine aN ?_ ?_ ?_
  refine eB ?_ aU
  refine cX D__law_mix (hr.mono (by decide)) rfl ?_
  refine aN ?_ ?_ ?_
  exact(aK 4)
  refine aN ?_ ?_ ?_
  exact aU
  exact aW
  rfl
  rfl
  exact aW
  rfl
  rfl
  refine cC ?_
  exact(dA .s hU)
  intro _; rfl
  refine bN ?_ ?_
  refine wR 2 .s ?_
  refine jZ ?_
  refine aN ?_ ?_ ?_
  exact fZ
  refine aN ?_ ?_ ?_
  exact aU
  exact aW
  rfl
  rfl
  refine dss_frz 2 ?_
  refine bN ?_ ?_
  refine ds_tmpApp .a ?_
  exact(iL (nR D_Book_tables (hr.mono (by decide)) (aK 3)))
  refine bN ?_ ?_
  refine ds_tmpClr .a ?_
  exact(iL (nR D_Book_plain (hr.mono (by decide)) (aK 3)))
  refine cC ?_
  refine dA .a ?_
  refine jX ?_ ?_
  refine cX D__law_stands (hr.mono (by decide)) rfl ?_
  refine aN ?_ ?_ ?_
  exact(aK 3)
  refine aN ?_ ?_ ?_
  exact(aK 1)
  exact aW
  rfl
  rfl
  refine mR ?_
  refine mQ (iO hu) iP ?_ ?_ (eT _)
  refine bO (n:=1) ?_
  exact(iL (nR D_Book_tables (hr.mono (by decide)) (bO (n:=9) (iL (tP D_Book___init__ (hr.mono (by decide)) (by rfl) (aN (bO (n:=1) (gH aW)) aW))))))
  refine bO (n:=1) ?_
  exact(gH aW)
end Aw
namespace L2
open PySem PySem.Spec PyProof.Rows
theorem forD_inv {F:SF}{T:aA->aZ->Option aZ}(P:Nat->aZ->Prop){ds:List aA}{ρ:aZ}(h0:P 0 ρ)
  (step : ∀ i d ρ,ds[i]?=some d->P i ρ -> ∃ ρ1 ρ2,T d ρ=some ρ1/\(F ρ1=some (.nx ρ2) \/ F ρ1=some (.ct ρ2))/\P (i+1) ρ2) : ∃ ρ',forD F T ds ρ=some (.nx ρ')/\P ds.length ρ':=by
 have go : ∀ (rest:List aA) (i:Nat) (ρ:aZ),ds.drop i=rest->i+rest.length=ds.length->P i ρ -> ∃ ρ',forD F T rest ρ=some (.nx ρ')/\P ds.length ρ':=by
  intro rest
  induction rest with
  | nil=>
   intro i ρ _ hl p
   simp at hl
   subst hl
   exact⟨ρ,rfl,p⟩
  | cons d r ih=>
   intro i ρ hd hl p
   have hi:ds[i]?=some d:=by
    have:=congrArg (·[0]?) hd
    simpa using this
   obtain⟨ρ1,ρ2,e1,e2,p2⟩:=step i d ρ hi p
   have hd2:ds.drop (i+1)=r:=by
    have:=congrArg List.tail hd
    simpa using this
   obtain⟨ρ',e3,p3⟩:=ih (i+1) ρ2 hd2 (by simp at hl; omega) p2
   refine⟨ρ',?_,p3⟩
   show((T d ρ).bind fun ρ1=>(F ρ1).bind fun o=>match o with
    | .nx ρ'=>forD F T r ρ'
    | .ct ρ'=>forD F T r ρ'
    | .bk ρ'=>some (.nx ρ')
    | .rt d=>some (.rt d))=some (.nx ρ')
   rw[e1]
   rcases e2 with e2 | e2
   ·simp only[bS,e2]; exact e3
   ·simp only[bS,e2]; exact e3
 exact go ds 0 ρ (by simp) (by simp) h0
theorem lcD_all {T:aA->List (Option aA)->Option (List (Option aA))}{t:BF}{f:EF}{ρ:List (Option aA)}(R:aA->aA->Prop) : ∀ (ds:List aA),(∀ d∈ds,∃ ρ1 y,T d ρ=some ρ1/\t ρ1=some true/\f ρ1=some y/\R d y) ->
  ∃ ys,lcD T t f ρ ds=some ys/\cZ R ds ys
 | [],_=>⟨[],rfl,.nil⟩
 | d::r,h=>by
  obtain⟨ρ1,y,e1,e2,e3,hr⟩:=h d cA
  obtain⟨ys,e4,hp⟩:=lcD_all R r fun d' m=>h d' (cI _ m)
  refine⟨y::ys,?_,.cons hr hp⟩
  show((T d ρ).bind fun ρ1=>(t ρ1).bind fun c=>if c=true then(f ρ1).bind fun y=>(lcD T t f ρ r).bind fun ys=>some (y::ys) else lcD T t f ρ r)=some (y::ys)
  simp[e1,e2,e3,e4]
theorem lcD_map {T:aA->List (Option aA)->Option (List (Option aA))}{t:BF}{f:EF}{ρ:List (Option aA)}(g:aA->aA) : ∀ (ds:List aA),(∀ d∈ds,∃ ρ1,T d ρ=some ρ1/\t ρ1=some true/\f ρ1=some (g d))->lcD T t f ρ ds=some (ds.map g)
 | [],_=>rfl
 | d::r,h=>by
  obtain⟨ρ1,e1,e2,e3⟩:=h d cA
  have e4:=lcD_map g r fun d' m=>h d' (cI _ m)
  show((T d ρ).bind fun ρ1=>(t ρ1).bind fun c=>if c=true then(f ρ1).bind fun y=>(lcD T t f ρ r).bind fun ys=>some (y::ys) else lcD T t f ρ r)=some (g d::r.map g)
  simp[e1,e2,e3,e4]
theorem Paired.mem_right {α β:Type}{R:α->β->Prop} : ∀ {as:List α} {bs:List β},cZ R as bs -> ∀ b∈bs,∃ a∈as,R a b:=by
 intro as bs h
 induction h with
 | nil=>exact fun b m=>by simp at m
 | cons h _ ih=>
  intro b m
  rcases cN.mp m with rfl | m
  ·exact⟨_,cA,h⟩
  ·obtain⟨a,ha,hr⟩:=ih b m
   exact⟨a,cI _ ha,hr⟩
theorem seq_nx {F G:SF}{ρ ρ':aZ}(h:F ρ=some (.nx ρ')):bE F G ρ=G ρ':=by
 unfold bE
 rw[h]
 rfl
theorem seq_rt {F G:SF}{ρ:aZ}{d:aA}(h:F ρ=some (.rt d)):bE F G ρ=some (.rt d):=by
 unfold bE
 rw[h]
 rfl
theorem for_run {m:Md}{fi:AF}{T:aA->aZ->Option aZ}{F:SF}{ρ:aZ}{ds:List aA}{o:Out}(h:aV m fi ρ=some ds)(h2:forD F T ds ρ=some o):sFor m fi T F ρ=some o:=by
 unfold sFor
 rw[h]
 exact h2
theorem fn_rt {np n:Nat}{body:SF}{ds:List aA}{d:aA}(hl:ds.length=np)(h:body (ds.map (fun d=>some (0,d))++dZ (n - np) none)=some (.rt d)):fnD np n body ds=some d:=by
 unfold fnD
 rw[if_pos hl,h]
 rfl
theorem paired_len {α β:Type}{R:α->β->Prop}{as:List α}{bs:List β}(h:cZ R as bs):bs.length=as.length:=(nB h).symm
theorem all_ex {β:Type}{g:β->aA}{R:β->Prop} : ∀ (ys:List aA),(∀ y∈ys,∃ c,y=g c/\R c) -> ∃ cs:List β,ys=cs.map g /\ ∀ c∈cs,R c
 | [],_=>⟨[],rfl,fun _ m=>by simp at m⟩
 | y::r,h=>by
  obtain⟨c,e,hc⟩:=h y cA
  obtain⟨cs,e2,h2⟩:=all_ex r fun z m=>h z (cI _ m)
  refine⟨c::cs,by rw[e,e2]; rfl,fun x m=>?_⟩
  rcases cN.mp m with rfl | m
  ·exact hc
  ·exact h2 x m
theorem cut_to {ds:List aA}{k:Nat}(h:k≤ds.length):cutD ds none (some (k:Int))=ds.take k:=by
 unfold cutD
 rw[HT.Aly,HT.sIx_nat]
 simp[ED h]
theorem lB {n:Nat}(h:n≤100000):n≤sizeLine:=kO h (by decide)
theorem oR {n:Nat}(h:n≤100000):n<sizeLine:=Nat.lt_of_le_of_lt h (by decide)
noncomputable def letter (c:Nat):Bool:=decide (97≤c)&&decide (c≤122)
noncomputable def figure (c:Nat):Bool:=decide (48≤c)&&decide (c≤57)
noncomputable def gX (c:Nat):Bool:=letter c||figure c
theorem letter_ok {c:Nat}(h:letter c=true):gX c=true:=by simp[gX,h]
theorem wV {c:Nat}(h:gX c=true):c<128:=by
 simp[gX,letter,figure] at h
 omega
def nameC (cs:List Nat):Prop:=∃ c r,cs=c::r/\letter c=true/\(∀ x∈cs,gX x=true)/\cs.length≤12
noncomputable abbrev strC (cs:List Nat):aD:=⟨cs.toArray⟩
def nameS (z:aD):Prop:=nameC z.cps.toList
theorem lay_ok {z:aD}(h : ∀ c∈z.cps.toList,gX c=true):cQ (.str z)=true:=by
 have:z.cps.all (fun x=>decide (x<1114112))=true:=by
  rw[Array.all_eq_true']
  intro x hx
  have:=wV (h x (by simpa using hx))
  simp; omega
 simpa [cQ,yS] using this
noncomputable def cS (c:Nat):aA:=.str ⟨#[c]⟩
noncomputable def SIGNS:aD:="abcdefghijklmnopqrstuvwxyz0123456789"
theorem signs_at : ∀ j<36,∃ c,SIGNS.cps.toList[j]?=some c/\gX c=true/\(j<26->letter c=true):=by decide +kernel
theorem signs_ix {i:Int}(h0:0≤i)(h1:i<36) : ∃ c,gIx (.str SIGNS) (.int i)=some (cS c)/\gX c=true/\(i<26->letter c=true):=by
 obtain⟨j,rfl⟩:=kS h0
 obtain⟨c,e,h2,h3⟩:=signs_at j (by omega)
 refine⟨c,?_,h2,fun h=>h3 (by omega)⟩
 show(if SIGNS.length≤sizeLine then(atI SIGNS.cps.toList (j:Int)).bind fun c=>some (bP ⟨#[c]⟩) else none)=_
 rw[if_pos (by decide +kernel),nO e]
 rfl
theorem BX : ∀ cs:List Nat,asSs (cs.map cS)=some (cs.map fun c=>(⟨#[c]⟩:aD))
 | []=>rfl
 | c::r=>by
  show((asSs (r.map cS)).bind fun xs=>some ((⟨#[c]⟩:aD)::xs))=_
  rw[BX r]
  rfl
theorem sum_ones : ∀ cs:List Nat,((cs.map fun c=>(⟨#[c]⟩:aD)).map (·.length)).sum=cs.length
 | []=>rfl
 | c::r=>by
  rw[dR,dR,List.sum_cons,sum_ones r,eN]
  show 1+r.length=r.length+1
  omega
theorem join_ev {cs:List Nat}(h:cs.length≤1000):gJoin (.str "") (.list (cs.map cS))=some (.str (strC cs)):=by
 show((asSs (cs.map cS)).bind fun ys=>if (ys.map (·.length)).sum+ys.length*(yJ "").length≤16777216 then some (bP (iZ (yJ "") ys)) else none)=_
 rw[BX]
 simp only[bS,sum_ones,cU]
 rw[if_pos (by
  have:(yJ "").length=0:=by decide +kernel
  rw[this]; omega)]
 have:=BQ cs
 have e:(yJ "")=(⟨#[]⟩:aD):=by decide +kernel
 rw[e,this]
noncomputable def bZ (c k:Int):Int:=(c%2147483647*48271+k*k*69621+k+11)%2147483629*((c%2147483647*48271+k*k*69621+k+11)%2147483629)%2147483587
theorem eM (a:Int){b:Int}(h:0<b):0≤a%b/\a%b<b:=⟨Int.emod_nonneg _ (by omega),Int.emod_lt_of_pos _ h⟩
def Goes (F:SF)(ρ:aZ)(P:Out->Prop):Prop:=∃ o,F ρ=some o/\P o
variable {F G:SF}{ρ:aZ}{P:Out->Prop}{m:Md}
theorem go_nx {ρ':aZ}(h:F ρ=some (.nx ρ'))(k:P (.nx ρ')):Goes F ρ P:=⟨_,h,k⟩
theorem dM {ρ':aZ}(h:F ρ=some (.nx ρ'))(k:Goes G ρ' P):Goes (bE F G) ρ P:=by
 obtain⟨o,e,p⟩:=k
 exact⟨o,by rw[seq_nx h]; exact e,p⟩
theorem lM (I:aZ->Prop)(h:Goes F ρ fun o=>∃ ρ',o = .nx ρ'/\I ρ')(k : ∀ ρ',I ρ'->Goes G ρ' P):Goes (bE F G) ρ P:=by
 obtain⟨o,e,ρ',rfl,i⟩:=h
 exact dM e (k ρ' i)
theorem go_seqR {d:aA}(h:F ρ=some (.rt d))(k:P (.rt d)):Goes (bE F G) ρ P:=⟨_,seq_rt h,k⟩
theorem go_if {t:BF}{b:Bool}(h:bV m t ρ=some b)(k:Goes (if b=true then F else G) ρ P):Goes (sIf m t F G) ρ P:=by
 obtain⟨o,e,p⟩:=k
 refine⟨o,?_,p⟩
 show((bV m t ρ).bind fun b=>if b=true then F ρ else G ρ)=some o
 rw[h]
 cases b
 ·exact e
 ·exact e
theorem jY {t:BF}(h:bV m t ρ=some true)(k:Goes F ρ P):Goes (sIf m t F G) ρ P:=go_if h k
theorem fV {t:BF}(h:bV m t ρ=some false):sIf m t F eA ρ=some (.nx ρ):=by
 unfold sIf
 rw[h]
 rfl
theorem kE (h:Goes F ρ fun o=>∃ d,o = .rt d/\P o):Goes (bE F G) ρ P:=by
 obtain⟨o,e,d,rfl,p⟩:=h
 exact go_seqR e p
theorem go_retA {n:Nat}{f:EF}{d:aA}(h:f (vA ρ)=some d)(hf:dX n d=true)(k:P (.rt d)):Goes (cL n .a f) ρ P:=⟨_,by
 unfold cL eV
 simp only[h,bS,hf,qA,if_true],k⟩
theorem fD {n:Nat}{f:EF}{d:aA}(h:f (vS ρ)=some d)(k:P (.rt d)):Goes (cL n .s f) ρ P:=⟨_,by
 unfold cL eV
 simp only[h,bS],k⟩
theorem go_asg {i n:Nat}{f:EF}{d:aA}(h:eV n m f ρ=some d)(hl:i<ρ.length)(k:P (.nx (ρ.set i (some (n,d))))):Goes (cD i n m f) ρ P:=
 ⟨_,by unfold cD; rw[h]; simp only[bS,if_pos hl],k⟩
theorem go_asgS {i n:Nat}{f:EF}{d:aA}(h:f (vS ρ)=some d)(hl:i<ρ.length)(k:P (.nx (ρ.set i (some (n,d))))):Goes (cD i n .s f) ρ P:=go_asg h hl k
theorem range0 {n:Nat}(h:n≤1000000):rngD 0 (n:Int)=some ((dC n).map fun(k:Nat)=>bY k):=by
 unfold rngD
 rw[if_pos (by omega)]
 simp
theorem iR1_ev {fa:AF}{ρ:List (Option aA)}{n:Nat}(h:fa ρ=some [.int n])(hn:n≤1000000):iR1 fa ρ=some ((dC n).map fun(k:Nat)=>bY k):=by
 have e:=range0 hn
 generalize some ((dC n).map fun(k:Nat)=>bY k)=y at e ⊢
 rw[← e]
 unfold iR1
 rw[h,bS]
theorem avS {fi:AF}{ds:List aA}(h:fi (vS ρ)=some ds):aV .s fi ρ=some ds:=h
theorem qL {fi:AF}{T:aA->aZ->Option aZ}{ds:List aA}(I:Nat->aZ->Prop)(h:aV m fi ρ=some ds)(h0:I 0 ρ)
  (step : ∀ i d ρ,ds[i]?=some d->I i ρ -> ∃ ρ1,T d ρ=some ρ1/\Goes F ρ1 fun o=>∃ ρ2,(o = .nx ρ2 \/ o = .ct ρ2)/\I (i+1) ρ2) (k : ∀ ρ',I ds.length ρ'->P (.nx ρ')):Goes (sFor m fi T F) ρ P:=by
 obtain⟨ρ',e,i⟩:=forD_inv I h0 fun i d ρ hd p=>by
  obtain⟨ρ1,e1,o,e2,ρ2,e3,p2⟩:=step i d ρ hd p
  refine⟨ρ1,ρ2,e1,?_,p2⟩
  rcases e3 with rfl | rfl
  ·exact .inl e2
  ·exact .inr e2
 exact⟨_,for_run h e,k ρ' i⟩
theorem go_forR {fi:AF}{T:aA->aZ->Option aZ}{n:Nat}(I:Nat->aZ->Prop)(h:aV m fi ρ=some ((dC n).map fun(k:Nat)=>bY k))(h0:I 0 ρ)
  (step : ∀ (i:Nat) ρ,i<n->I i ρ -> ∃ ρ1,T (.int i) ρ=some ρ1/\Goes F ρ1 fun o=>∃ ρ2,(o = .nx ρ2 \/ o = .ct ρ2)/\I (i+1) ρ2) (k : ∀ ρ',I n ρ'->P (.nx ρ')):Goes (sFor m fi T F) ρ P:=by
 refine qL I h h0 (fun i d ρ hd p=>?_) (by simpa using k)
 have hlt:i<n:=by
  have:=(eK.mp hd).1
  simpa using this
 rw[eX,List.getElem?_range hlt] at hd
 have:bY (i:Int)=d:=by simpa using hd
 subst this
 exact step i ρ hlt p
theorem fn_go {np n:Nat}{body:SF}{ds:List aA}{Q:aA->Prop}(hl:ds.length=np)(h:Goes body (ds.map (fun d=>some (0,d))++dZ (n - np) none) fun o=>∃ d,o = .rt d/\Q d) : ∃ d,fnD np n body ds=some d/\Q d:=by
 obtain⟨o,e,d,rfl,q⟩:=h
 exact⟨d,fn_rt hl e,q⟩
theorem lc_ev {cap:List (Option Nat)}{fi:AF}{T:aA->List (Option aA)->Option (List (Option aA))}{t:BF}{f:EF}{ρ:List (Option aA)}{ds:List aA}(R:aA->aA->Prop)(h1:fi ρ=some ds)(h2:ds.length≤100000)
  (h : ∀ d∈ds,∃ ρ1 y,T d (capD cap ρ)=some ρ1/\t ρ1=some true/\f ρ1=some y/\R d y) : ∃ ys,eLC cap fi T t f ρ=some (.list ys)/\cZ R ds ys:=by
 obtain⟨ys,e,hp⟩:=lcD_all R ds h
 refine⟨ys,?_,hp⟩
 unfold eLC
 rw[h1,bS,e,bS,if_pos (lB h2)]
theorem lc_map {cap:List (Option Nat)}{fi:AF}{T:aA->List (Option aA)->Option (List (Option aA))}{t:BF}{f:EF}{ρ:List (Option aA)}{ds:List aA}(g:aA->aA)(h1:fi ρ=some ds)(h2:ds.length≤100000)
  (h : ∀ d∈ds,∃ ρ1,T d (capD cap ρ)=some ρ1/\t ρ1=some true/\f ρ1=some (g d)):eLC cap fi T t f ρ=some (.list (ds.map g)):=by
 unfold eLC
 rw[h1,bS,lcD_map g ds h,bS,if_pos (lB h2)]
theorem lc_strs {cap:List (Option Nat)}{fi:AF}{T:aA->List (Option aA)->Option (List (Option aA))}{t:BF}{f:EF}{ρ:List (Option aA)}{n:Nat}{β:Type}(g:β->aA)(R:β->Prop)(h1:fi ρ=some ((dC n).map fun(k:Nat)=>bY k))(h2:n≤100000)
  (h : ∀ k<n,∃ ρ1 y,T (.int (k:Nat)) (capD cap ρ)=some ρ1/\t ρ1=some true/\f ρ1=some (g y)/\R y) : ∃ ys:List β,eLC cap fi T t f ρ=some (.list (ys.map g))/\ys.length=n /\ ∀ y∈ys,R y:=by
 obtain⟨ys,e,hp⟩:=lc_ev (fun _ y=>∃ x,y=g x/\R x) h1 (by simpa using h2) fun d m=>by
  obtain⟨k,hk,rfl⟩:=dH.mp m
  obtain⟨ρ1,y,a1,a2,a3,a4⟩:=h k (by simpa using hk)
  exact⟨ρ1,g y,a1,a2,a3,y,rfl,a4⟩
 obtain⟨xs,rfl,hx⟩:=all_ex ys fun y m=>by
  obtain⟨_,_,x,e,hx⟩:=L2.Paired.mem_right hp y m
  exact⟨x,e,hx⟩
 have:=paired_len hp
 exact⟨xs,e,by simpa using this,hx⟩
end L2
namespace L2
open PySem PySem.Spec PyProof.Rows
variable {F G:SF}{ρ:aZ}{P:Out->Prop}{m:Md}
theorem nQ {f:EF}{ρ:List (Option aA)}{ds:List aA}(h:f ρ=some (.list ds)):iIt f ρ=some ds:=by
 unfold iIt
 rw[h]
 rfl
theorem bT {fa:AF}{g:List aA->Option aA}{ρ:List (Option aA)}{ds:List aA}{d:aA}(h:fa ρ=some ds)(h2:g ds=some d):aQ g fa ρ=some d:=by
 unfold aQ
 rw[h]
 exact h2
theorem cG {fa fb:EF}{g:aA->aA->Option aA}{ρ:List (Option aA)}{a b d:aA}(h:fa ρ=some a)(h2:fb ρ=some b)(h3:g a b=some d):eOp g fa fb ρ=some d:=by
 unfold eOp
 rw[h,h2]
 exact h3
theorem go_appA {i:Nat}{f:EF}{d:aA}{ds:List aA}(h:f (vA ρ)=some d)(hf:eP d=true)(hg:getL i ρ=some ds)(hl:ds.length<100000)(k:P (.nx (ρ.set i (some (1,.list (ds++[d])))))):Goes (sApp i .a f) ρ P:=⟨_,by
 unfold sApp eV
 simp only[h,bS,dX,hf,qA,if_true,hg,if_pos (oR (sJ hl))],k⟩
theorem go_appS {i:Nat}{f:EF}{d:aA}{ds:List aA}(h:f (vS ρ)=some d)(hg:getL i ρ=some ds)(hl:ds.length<100000)(k:P (.nx (ρ.set i (some (1,.list (ds++[d])))))):Goes (sApp i .s f) ρ P:=⟨_,by
 unfold sApp eV
 simp only[h,bS,hg,if_pos (oR (sJ hl))],k⟩
def termD (d:aA):Prop:=(∃ z,d = .str z/\nameS z) \/ ∃ i,d = .int i
structure Kn (kds:List (aA×aA)):Prop where
 fit : ∀ kd∈kds,(∃ z,kd.1 = .str z)/\termD kd.2
 once:(kds.map (·.1)).Nodup
theorem Kn.nil:Kn []:=⟨fun _ m=>by simp at m,by simp⟩
theorem Kn.int {kds:List (aA×aA)}(h:Kn kds)(i:Int):cO kds (.inl i)=none:=by
 have:(kds.find? fun kd=>decide (cW kd.1=some (.inl i)))=none:=by
  rw[List.find?_eq_none]
  intro kd m
  obtain⟨⟨z,e⟩,_⟩:=h.fit kd m
  simp[e,cW]
 unfold cO
 rw[this]
 rfl
theorem plK_of {kds:List (aA×aA)}(h : ∀ kd∈kds,kd.1 ≠ .none):plK kds=true:=by
 cases kds with
 | nil=>rfl
 | cons p r=>
  obtain⟨k,d⟩:=p
  have:=h (k,d) cA
  cases k <;> first | rfl | exact absurd rfl this
theorem Kn.pl {kds:List (aA×aA)}(h:Kn kds):plK kds=true:=plK_of fun kd m=>by
 obtain⟨⟨z,e⟩,_⟩:=h.fit kd m
 rw[e]
 exact fun q=>nomatch q
end L2
namespace L2
open PySem PySem.Spec PyProof.Rows
variable {F G:SF}{ρ:aZ}{P:Out->Prop}{m:Md}
theorem lcD_filt {T:aA->List (Option aA)->Option (List (Option aA))}{t:BF}{f:EF}{ρ:List (Option aA)}{α:Type}{q:α->aA}(p:α->Bool)(g:α->aA) : ∀ (xs:List α),
  (∀ x∈xs,∃ ρ1,T (q x) ρ=some ρ1/\t ρ1=some (p x)/\(p x=true->f ρ1=some (g x)))->lcD T t f ρ (xs.map q)=some ((xs.filter p).map g)
 | [],_=>rfl
 | x::xs,h=>by
  obtain⟨ρ1,e1,e2,e3⟩:=h x cA
  have ih:=lcD_filt p g xs fun y m=>h y (cI _ m)
  show((T (q x) ρ).bind fun ρ1=>(t ρ1).bind fun c=>if c=true then(f ρ1).bind fun y=>(lcD T t f ρ (xs.map q)).bind fun ys=>some (y::ys) else lcD T t f ρ (xs.map q))=_
  rw[e1,bS,e2,bS,ih]
  cases hp:p x with
  | true=>rw[if_pos rfl,e3 hp,List.filter_cons_of_pos hp]; rfl
  | false=>rw[if_neg (by simp),List.filter_cons_of_neg (by simp[hp])]
theorem qN {cap:List (Option Nat)}{fi:AF}{T:aA->List (Option aA)->Option (List (Option aA))}{t:BF}{f:EF}{ρ:List (Option aA)}{α:Type}{xs:List α}{q:α->aA}(p:α->Bool)(g:α->aA)(h1:fi ρ=some (xs.map q))(h2:xs.length≤100000)
  (h : ∀ x∈xs,∃ ρ1,T (q x) (capD cap ρ)=some ρ1/\t ρ1=some (p x)/\(p x=true->f ρ1=some (g x))):eLC cap fi T t f ρ=some (.list ((xs.filter p).map g)):=by
 unfold eLC
 rw[h1,bS,lcD_filt p g xs h,bS,if_pos (lB (by simpa using h2))]
theorem asg_ev {i n:Nat}{f:EF}{d:aA}(h:eV n m f ρ=some d)(hl:i<ρ.length):cD i n m f ρ=some (.nx (ρ.set i (some (n,d)))):=by
 obtain⟨o,e,q⟩:=go_asg (P:=fun o=>o = .nx (ρ.set i (some (n,d)))) h hl rfl
 rw[e,q]
theorem iA {i n:Nat}{f:EF}{d:aA}(h:f (vS ρ)=some d)(hl:i<ρ.length)(k:Goes G (ρ.set i (some (n,d))) P):Goes (bE (cD i n .s f) G) ρ P:=dM (asg_ev h hl) k
theorem go_letA {i n:Nat}{f:EF}{d:aA}(h:f (vA ρ)=some d)(hf:dX n d=true)(hl:i<ρ.length)(k:Goes G (ρ.set i (some (n,d))) P):Goes (bE (cD i n .a f) G) ρ P:=
 dM (asg_ev (by show((f (vA ρ)).bind fun d=>if (dX n d||(ownD ρ&&decide (n<9)&&gO n d)||(own9 ρ&&decide (n=0)&&ftD d))=true then some d else none)=_; rw[h,bS,hf,qA,qA,if_pos rfl]) hl) k
theorem dE {f:EF}{g:AF}{ρ:List (Option aA)}{d:aA}{ds:List aA}(h:f ρ=some d)(h2:g ρ=some ds):aH f g ρ=some (d::ds):=by
 unfold aH
 rw[h,h2]
 rfl
end L2
namespace L2
open PySem PySem.Spec PyProof.Rows
structure KnR (R:aA->Prop)(kds:List (aA×aA)):Prop where
 fit : ∀ kd∈kds,(∃ z,kd.1 = .str z)/\R kd.2
 once:(kds.map (·.1)).Nodup
variable {R:aA->Prop}{kds:List (aA×aA)}
theorem KnR.nil:KnR R []:=⟨fun _ m=>by simp at m,by simp⟩
theorem KnR.pl (h:KnR R kds):plK kds=true:=plK_of fun kd m=>by
 obtain⟨⟨z,e⟩,_⟩:=h.fit kd m
 rw[e]
 exact fun q=>nomatch q
noncomputable def rowK (r:List Int):aA:=.tuple (r.map bY)
noncomputable def rowsK (rs:List (List Int)):aA:=.list (rs.map rowK)
theorem qI {ds:List aA}{f:EF}{lo hi:OF}{ρ:List (Option aA)}{l u:Option Int}(e1:f ρ=some (.list ds))(e2:lo ρ=some l)(e3:hi ρ=some u):fH f lo hi ρ=some (.list (cutD ds l u)):=by
 unfold fH
 rw[e1,bS,e2,bS,e3,bS]
theorem get2_ev {fd fk fx:EF}{ρ:List (Option aA)}{kds:List (aA×aA)}{kd x:aA}{key:aM}(h1:fd ρ=some (.dict kds))(h2:fk ρ=some kd)(ha:cW kd=some key)(h3:fx ρ=some x)(hp:plK kds=true:=by first | assumption | rfl | simp):eGet2 fd fk fx ρ=some ((cO kds key).getD x):=by
 unfold eGet2
 rw[h1,bS,h2,bS,h3,bS]
 show(if plK kds=true then(cW kd).bind fun k=>some ((cO kds k).getD x) else none)=_
 rw[if_pos hp,ha]
 rfl
end L2
namespace L2
open PySem
theorem onceK_mem {ks:List aM} : ∀ {acc:List aM} {k:aM},k∈ks.foldl fJ acc↔k∈acc \/ k∈ks:=by
 induction ks with
 | nil=>intro acc k; simp
 | cons x r ih=>
  intro acc k
  rw[sR,ih]
  unfold fJ
  by_cases hx:x∈acc
  ·rw[if_pos hx]
   constructor
   ·rintro(h | h)
    ·exact .inl h
    ·exact .inr (cI _ h)
   ·rintro(h | h)
    ·exact .inl h
    ·rcases cN.mp h with rfl | h
     ·exact .inl hx
     ·exact .inr h
  ·rw[if_neg hx,kP,dG,cN,or_assoc]
theorem onceK_nd {ks:List aM} : ∀ {acc:List aM},acc.Nodup->(ks.foldl fJ acc).Nodup:=by
 induction ks with
 | nil=>intro acc h; exact h
 | cons x r ih=>
  intro acc h
  rw[sR]
  refine ih ?_
  unfold fJ
  by_cases hx:x∈acc
  ·rw[if_pos hx]; exact h
  ·rw[if_neg hx]
   refine sM.mpr ⟨h,by simp,fun a ha b hb=>?_⟩
   rw[dG.mp hb]
   exact fun e=>hx (e ▸ ha)
end L2
namespace Aw
open PySem L2
noncomputable abbrev s0 (d:aA):L2.Slot:=some (0,d)
def wordS (n:Nat)(z:aD):Prop:=cQ (.str z)=true/\z.length≤n
theorem word_add {n m:Nat}{y z:aD}(h:wordS n y)(h2:wordS m z)(hs:n+m≤100000):cE (.str y) (.str z)=some (.str (y++z)):=by
 show(if y.length+z.length≤sizeLine then some (bP (y++z)) else none)=_
 rw[if_pos (lB (by have:=h.2; have:=h2.2; omega))]
theorem ab_word:wordS 26 "abcdefghijklmnopqrstuvwxyz":=⟨by decide +kernel,by decide +kernel⟩
theorem vQ (a b:Int):gEq (.int a) (.int b)=some (.bool (decide (a=b))):=by
 congr 2
theorem cut_map {α:Type}(q:α->aA)(xs:List α)(l u:Option Int) : ∃ ys,cutD (xs.map q) l u=ys.map q/\ys.length≤xs.length/\(ys≠[]->xs≠[]):=by
 refine⟨(xs.drop (HT.sIx (xs.map q).length 0 l)).take (HT.sIx (xs.map q).length (xs.map q).length u - HT.sIx (xs.map q).length 0 l),?_,?_,?_⟩
 ·unfold cutD
  rw[← List.map_drop,← EO]
 ·simp; omega
 ·rintro h rfl
  simp at h
theorem hX {f:EF}{ρ:List (Option aA)}{b:Bool}(h:f ρ=some (.bool b)):bOf f ρ=some b:=by
 unfold bOf
 rw[h]
 rfl
theorem nodup_len {α:Type}[DecidableEq α]{xs ys:List α}(h1:xs.Nodup)(h2:ys.Nodup)(h : ∀ a,a∈xs↔a∈ys):xs.length=ys.length:=
 Nat.le_antisymm (EW h1 fun a m=>(h a).mp m) (EW h2 fun a m=>(h a).mpr m)
theorem kF {a b:EF}{ρ:List (Option aA)}{x y:Bool}(h:a ρ=some (.bool x))(h2:x=true->b ρ=some (.bool y)):fK a b ρ=some (.bool (x&&y)):=by
 unfold fK
 cases x with
 | true=>rw[h,bS,show asB (.bool true)=some true from rfl,bS,if_pos rfl,h2 rfl]; rfl
 | false=>rw[h,bS,show asB (.bool false)=some false from rfl,bS,if_neg (by simp)]; rfl
theorem tup_ev {fa:AF}{ρ:List (Option aA)}{ds:List aA}(h:fa ρ=some ds)(hl:ds.length≤1000:=by simp):fR fa ρ=some (.tuple ds):=by
 unfold fR
 rw[h,bS,if_pos (lB (by omega))]
theorem lst_ev {fa:AF}{ρ:List (Option aA)}{ds:List aA}(h:fa ρ=some ds)(hl:ds.length≤1000:=by simp):dD fa ρ=some (.list ds):=by
 unfold dD
 rw[h,bS,if_pos (lB (by omega))]
theorem gA (c k:Int)(h0:0≤k)(h1:k≤1000000):dN [.int c,.int k]=some (.int (bZ c k)):=by
 have b:=eM (c%2147483647*48271+k*k*69621+k+11) (show(0:Int)<2147483629 by decide)
 have hk:k.natAbs<18446744073709551616:=by omega
 have hn:((c%2147483647*48271+k*k*69621+k+11)%2147483629).natAbs<18446744073709551616:=by omega
 simp[dN,BU,fnD,bE,cD,cL,eV,vS,eOp,aF,eC,outD,cE,gF,bX,g2C,hk,hn,bZ]
theorem tM {ns:List Int}{k:Int}(h0:0≤k)(h1:k≤1000000) : ∃ c,iT [.list (ns.map bY),.int k]=some (.int c):=by
 have hk:k.natAbs<18446744073709551616:=by omega
 have at_ : ∀ i:Int,0≤i->i<ns.length -> ∃ c,gIx (.list (ns.map bY)) (.int i)=some (.int c):=fun i a b=>by
  obtain⟨j,rfl⟩:=kS a
  have hj:j<ns.length:=by omega
  exact⟨ns[j],nO (by rw[eX,jH hj]; rfl)⟩
 by_cases hl:k<(ns.length:Int)
 ·obtain⟨c,e⟩:=at_ k h0 hl
  exact⟨c,by simp[iT,uG,fnD,bE,cD,cL,sIf,eA,eV,bV,vS,eOp,aF,eC,aQ,aH,aJ,bOf,asB,outD,cE,gF,bX,g2I,g2C,gLt,gGt,dJ,hl,e]⟩
 ·by_cases hz:(0:Int)<ns.length
  ·obtain⟨c,e⟩:=at_ (k*7%(ns.length:Int)) (eM _ hz).1 (eM _ hz).2
   have b:=eM (c*48271+k*7919) (show(0:Int)<2147483647 by decide)
   have hn:((c*48271+k*7919)%2147483647).natAbs<18446744073709551616:=by omega
   have hz':0<ns.length:=by omega
   exact⟨_,by simp[iT,uG,fnD,bE,cD,cL,sIf,eA,eV,bV,vS,eOp,aF,eC,aQ,aH,aJ,bOf,asB,outD,cE,gF,bX,g2I,g2C,gLt,gGt,dJ,hl,hz',hk,e,hn]; rfl⟩
  ·have hz':ns=[]:=by
    cases ns with
    | nil=>rfl
    | cons a r=>exact absurd (by simp) hz
   have hn:(k*7919+5).natAbs<18446744073709551616:=by omega
   have hl' : ¬ k<0:=by omega
   subst hz'
   exact⟨_,by simp[iT,uG,fnD,bE,cD,cL,sIf,eA,eV,bV,vS,eOp,aF,eC,aQ,aH,aJ,bOf,asB,outD,cE,gF,bX,g2I,g2C,gLt,gGt,dJ,hl',hk,hn]; rfl⟩
def baseOk (cs:List Nat)(s:Nat):Prop:=cs.length=s/\(∀ c∈cs,gX c=true) /\ ∃ c r,cs=c::r/\letter c=true
theorem baseOk.set {cs:List Nat}{s j c:Nat}(h:baseOk cs s)(hc:gX c=true)(hl:j=0->letter c=true):baseOk (cs.set j c) s:=by
 obtain⟨h1,h2,c0,r,e,h3⟩:=h
 refine⟨by simpa using h1,fun x m=>?_,?_⟩
 ·rcases HM m with q | q
  ·exact h2 x q
  ·rw[q]; exact hc
 ·subst e
  cases j with
  | zero=>exact⟨c,r,rfl,hl rfl⟩
  | succ j=>exact⟨c0,r.set j c,rfl,h3⟩
theorem baseOk.name {cs:List Nat}{s:Nat}(h:baseOk cs s)(hs:s≤12):nameS (strC cs):=by
 obtain⟨h1,h2,c0,r,e,h3⟩:=h
 exact⟨c0,r,e,h3,h2,by show cs.length≤12; omega⟩
theorem zZ (cs:List Nat)(j c:Nat):(cs.map cS).set j (cS c)=(cs.set j c).map cS:=by rw[List.map_set]
theorem wH {α β:Type}{f:α->β} : ∀ {l:List α},(∀ a∈l,∀ b∈l,f a=f b->a=b)->l.Nodup->(l.map f).Nodup
 | [],_,_=>by simp
 | x::l,h,nd=>by
  rw[hJ] at nd
  rw[dR,hJ]
  refine⟨fun m=>?_,wH (fun a ma b mb=>h a (cI _ ma) b (cI _ mb)) nd.2⟩
  obtain⟨y,my,e⟩:=dH.mp m
  exact nd.1 (h y (cI _ my) x cA e ▸ my)
noncomputable def sgn (j:Nat):Nat:=SIGNS.cps.toList.getD j 0
theorem sgn_all : ∀ j<36,SIGNS.cps.toList[j]?=some (sgn j)/\gX (sgn j)=true/\(j<26->letter (sgn j)=true):=by decide +kernel
theorem sgn_inj : ∀ i<36,∀ j<36,sgn i=sgn j->i=j:=by decide +kernel
theorem sgn_ix {i:Int}(h0:0≤i)(h1:i<36):gIx (.str SIGNS) (.int i)=some (cS (sgn i.toNat)):=by
 obtain⟨j,rfl⟩:=kS h0
 obtain⟨e,_,_⟩:=sgn_all j (by omega)
 show(if SIGNS.length≤sizeLine then(atI SIGNS.cps.toList (j:Int)).bind fun c=>some (bP ⟨#[c]⟩) else none)=_
 rw[if_pos (by decide +kernel),nO e]
 rfl
theorem strC_inj {a b:List Nat}(h:strC a=strC b):a=b:=by
 have h:a.toArray=b.toArray:=by injection h
 simpa using h
theorem take_name {cs:List Nat}{s k:Nat}(h:baseOk cs s)(hs:s≤12):nameS (strC (cs.take (k+1))):=by
 obtain⟨h1,h2,c0,r,e,h3⟩:=h
 refine⟨c0,r.take k,by subst e; rfl,h3,fun x m=>h2 x (zA m),?_⟩
 show(cs.take (k+1)).length≤12
 rw[nE]; omega
theorem BC (zs:List aD):dX 1 (.list (zs.map bP))=true:=by
 simp[dX,eP]
theorem names_ev (c:Int){n:Nat}(hn:n≤12) : ∃ zs:List aD,pK [.int c,.int n]=some (.list (zs.map bP))/\zs.length=n/\(∀ z∈zs,nameS z)/\zs.Nodup:=by
 suffices h : ∃ d,pK [.int c,.int n]=some d /\ ∃ zs:List aD,d = .list (zs.map bP)/\zs.length=n/\(∀ z∈zs,nameS z)/\zs.Nodup by
  obtain⟨_,e,zs,rfl,h⟩:=h
  exact⟨zs,e,h⟩
 refine fn_go rfl ?_
 refine dM (ρ':=[s0 (.int c),s0 (.int n),s0 (.str SIGNS),none,none,none,none,none]) (by simp[cD,eV,eC,SIGNS]) ?_
 refine dM (ρ':=[s0 (.int c),s0 (.int n),s0 (.str SIGNS),s0 (.int (1+bZ c 1%12)),none,none,none,none]) (by simp[cD,eV,vS,eOp,aF,eC,aQ,aH,aJ,cE,bX,g2C,gA]) ?_
 have b1:=eM (bZ c 1) (show(0:Int)<12 by decide)
 refine lM (fun ρ'=>∃ s:Nat,1≤s/\s≤12/\(bZ c 2%3=0->s=12)/\ρ'=[s0 (.int c),s0 (.int n),s0 (.str SIGNS),s0 (.int s),none,none,none,none]) ?_ ?_
 ·by_cases h3:bZ c 2%3=0
  ·refine go_nx (ρ':=[s0 (.int c),s0 (.int n),s0 (.str SIGNS),s0 (.int 12),none,none,none,none]) (by simp[cD,sIf,eA,eV,bV,vS,eOp,aF,eC,aQ,aH,aJ,bOf,asB,bX,g2C,gEq,dW,noDict,jS,dF,gA,h3]) ⟨_,rfl,12,by omega,by omega,fun _=>rfl,rfl⟩
  ·refine go_nx (ρ':=[s0 (.int c),s0 (.int n),s0 (.str SIGNS),s0 (.int (1+bZ c 1%12)),none,none,none,none]) (by simp[cD,sIf,eA,eV,bV,vS,eOp,aF,eC,aQ,aH,aJ,bOf,asB,bX,g2C,gEq,dW,noDict,jS,dF,gA,h3]) ⟨_,rfl,(1+bZ c 1%12).toNat,by omega,by omega,fun h=>absurd h h3,?_⟩
   have e:((1+bZ c 1%12).toNat:Int)=1+bZ c 1%12:=by omega
   rw[e]
 rintro _ ⟨s,hs1,hs12,hsp,rfl⟩
 refine lM (fun ρ'=>∃ cs:List Nat,cs.length=s/\(∀ x∈cs,gX x=true)/\ρ'=[s0 (.int c),s0 (.int n),s0 (.str SIGNS),s0 (.int s),some (1,.list (cs.map cS)),none,none,none]) ?_ ?_
 ·obtain⟨cs,e,hl,ho⟩:=lc_strs (cap:=[none,some 2,some 0]) (fi:=iR1 (aH (aF 3) aJ)) (T:=gB 0) (t:=gG) (f:=(eOp gIx (aF 1) (eOp bX (aQ dN (aH (aF 2) (aH (eOp cE (eC (.int 30)) (aF 0)) aJ))) (eC (.int 36)))))
    (ρ:=vS [s0 (.int c),s0 (.int n),s0 (.str SIGNS),s0 (.int s),none,none,none,none]) (n:=s) cS (fun x=>gX x=true) (iR1_ev rfl (by omega)) (by omega) (fun k hk=>by
    have b:=eM (bZ c (30+k)) (show(0:Int)<36 by decide)
    obtain⟨x,e,h1,_⟩:=signs_ix b.1 b.2
    have e2:=gA c (30+(k:Int)) (by omega) (by omega)
    refine⟨[some (.int k),some (.str SIGNS),some (.int c)],x,rfl,rfl,?_,h1⟩
    simp only[eOp,aF,eC,aQ,aH,aJ,cE,bX,g2C,bS,sP,sQ,uX,e2,if_pos (show(0:Int)<36 by decide),e])
  exact go_asgS e (by simp) ⟨_,rfl,cs,hl,ho,rfl⟩
 rintro _ ⟨cs0,hl,ho,rfl⟩
 refine lM (fun ρ'=>∃ cs:List Nat,baseOk cs s/\ρ'=[s0 (.int c),s0 (.int n),s0 (.str SIGNS),s0 (.int s),some (1,.list (cs.map cS)),none,none,none]) ?_ ?_
 ·have b:=eM (bZ c 50) (show(0:Int)<26 by decide)
  obtain⟨x,e,h1,h2⟩:=signs_ix b.1 (by omega)
  have hb:baseOk (cs0.set 0 x) s:=by
   refine⟨by simpa using hl,fun y m=>?_,?_⟩
   ·rcases HM m with q | q
    ·exact ho y q
    ·rw[q]; exact h1
   ·cases cs0 with
    | nil=>simp at hl; omega
    | cons a r=>exact⟨x,r,rfl,h2 b.2⟩
  have hix:ixN (cs0.map cS).length 0=some 0:=by
   unfold ixN
   rw[if_pos (by decide),if_pos (by rw[cU]; omega)]
   rfl
  refine go_nx (ρ':=[s0 (.int c),s0 (.int n),s0 (.str SIGNS),s0 (.int s),some (1,.list ((cs0.set 0 x).map cS)),none,none,none]) ?_ ⟨_,rfl,_,hb,rfl⟩
  simp only[sSetL,eV,vS,eOp,aF,eC,aQ,aH,aJ,bX,g2C,getL,dR,sP,sQ,uX,bS,gA c 50 (by omega) (by omega),if_pos (show(0:Int)<26 by decide),e,hix]
  rw[← zZ]
  rfl
 rintro _ ⟨cs,hb,rfl⟩
 by_cases h3:bZ c 2%3=0
 ·have hs:=hsp h3
  subst hs
  have e:=lc_map (cap:=[none,some 4]) (fi:=iR1 (aH (aF 1) aJ)) (T:=gB 0) (t:=gG) (f:=(eOp gJoin (eC (.str "")) (fH (aF 1) oN (oS (eOp cE (aF 0) (eC (.int 1)))))))
    (ρ:=vA [s0 (.int c),s0 (.int n),s0 (.str SIGNS),s0 (.int (12:Nat)),some (1,.list (cs.map cS)),none,none,none]) (ds:=(dC n).map fun(k:Nat)=>bY k) (fun d=>match d with | .int k=>.str (strC (cs.take (k.toNat+1))) | d=>d) (iR1_ev rfl (by omega)) (by simp; omega) (fun d md=>by
    obtain⟨k,mk,rfl⟩:=dH.mp md
    have hk:=jU.mp mk
    have e1:=cut_to (ds:=cs.map cS) (k:=k+1) (by have:=hb.1; simp; omega)
    have e2:=join_ev (cs:=cs.take (k+1)) (by have:=hb.1; simp; omega)
    refine⟨[some (.int k),some (.list (cs.map cS))],rfl,rfl,?_⟩
    have e3:((k:Int)+1)=((k+1:Nat):Int):=by omega
    simp only[eOp,aF,eC,fH,oN,oS,cE,bS,sP,sQ,uX,e3,e1]
    rw[← EO,e2]
    rfl)
  rw[jF] at e
  have e':((dC n).map ((fun d=>match d with | .int k=>bP (strC (cs.take (k.toNat+1))) | d=>d)∘fun(k:Nat)=>bY k))=(((dC n).map fun k=>strC (cs.take (k+1))).map bP):=by
   rw[jF]
   rfl
  rw[e'] at e
  refine kE (jY ?_ (go_retA e (BC _) ⟨_,rfl,_,rfl,_,rfl,by simp,fun z m=>?_,?_⟩))
  ·simp[bV,vS,eOp,aF,eC,aQ,aH,aJ,bOf,asB,bX,g2C,gEq,dW,noDict,jS,dF,gA,h3]
  ·obtain⟨k,_,rfl⟩:=dH.mp m
   exact take_name hb (by omega)
  ·refine wH (fun a ma b mb q=>?_) List.nodup_range
   have ha:=jU.mp ma
   have hb':=jU.mp mb
   have:=congrArg uZ (strC_inj q)
   rw[nE,nE,hb.1] at this
   omega
 ·refine dM (ρ':=[s0 (.int c),s0 (.int n),s0 (.str SIGNS),s0 (.int s),some (1,.list (cs.map cS)),none,none,none]) (fV (by simp[bV,vS,eOp,aF,eC,aQ,aH,aJ,bOf,asB,bX,g2C,gEq,dW,noDict,jS,dF,gA,h3])) ?_
  have hs0:(0:Int)<s:=by omega
  have ba:=eM (bZ c 3) hs0
  obtain⟨a,ha⟩:=kS ba.1
  have ha':a<s:=by omega
  refine dM (ρ':=[s0 (.int c),s0 (.int n),s0 (.str SIGNS),s0 (.int s),some (1,.list (cs.map cS)),s0 (.int a),none,none]) (by
   have:0<s:=by omega
   simp[cD,eV,vS,eOp,aF,eC,aQ,aH,aJ,bX,g2C,gA,this,ha]) ?_
  refine dM (ρ':=[s0 (.int c),s0 (.int n),s0 (.str SIGNS),s0 (.int s),some (1,.list (cs.map cS)),s0 (.int a),some (1,.list []),none]) rfl ?_
  obtain⟨w,hw⟩ : ∃ w:Nat,w=if a=0 then 26 else 36:=⟨_,rfl⟩
  have hw1:26≤w/\w≤36:=by subst hw; split <;> omega
  let sg:Nat->Nat:=fun k=>sgn ((bZ c 4+k)%(w:Int)).toNat
  have sgb : ∀ k:Nat,((bZ c 4+k)%(w:Int)).toNat<w:=fun k=>by
   have:=eM (bZ c 4+k) (show(0:Int)<w by omega)
   omega
  have sg1 : ∀ k,gX (sg k)=true:=fun k=>(sgn_all _ (by have:=sgb k; omega)).2.1
  have sg2 : ∀ k,a=0->letter (sg k)=true:=fun k h0=>(sgn_all _ (by have:=sgb k; omega)).2.2 (by have:=sgb k; rw[if_pos h0] at hw; omega)
  refine lM (fun ρ'=>∃ (ds:List Nat) (x:L2.Slot),ρ'=[s0 (.int c),s0 (.int n),s0 (.str SIGNS),s0 (.int s),some (1,.list (ds.map cS)),s0 (.int a),some (1,.list (((dC n).map fun k=>strC (cs.set a (sg k))).map bP)),x]) ?_ ?_
  ·refine go_forR (n:=n) (fun i ρ'=>∃ (ds:List Nat) (x:L2.Slot),baseOk ds s/\(∀ y,ds.set a y=cs.set a y)/\ρ'=[s0 (.int c),s0 (.int n),s0 (.str SIGNS),s0 (.int s),some (1,.list (ds.map cS)),s0 (.int a),some (1,.list (((dC i).map fun k=>strC (cs.set a (sg k))).map bP)),x]) ?_ ⟨cs,none,hb,fun _=>rfl,rfl⟩ ?_ ?_
   ·exact avS (iR1_ev rfl (by omega))
   ·rintro i _ hi ⟨ds,x,hd,hset,rfl⟩
    generalize hZ:((dC i).map fun k=>strC (cs.set a (sg k)))=zs
    have hzl:zs.length=i:=by rw[← hZ]; simp
    refine⟨[s0 (.int c),s0 (.int n),s0 (.str SIGNS),s0 (.int s),some (1,.list (ds.map cS)),s0 (.int a),some (1,.list (zs.map bP)),s0 (.int i)],rfl,?_⟩
    have hcl:=hd.1
    have hix:ixN (ds.map cS).length (a:Int)=some a:=by
     unfold ixN
     rw[if_pos (by omega),if_pos (by rw[cU]; omega)]
     simp
    have ey:eV 0 .s (eOp gIx (aF 2) (eOp bX (eOp cE (aQ dN (aH (aF 0) (aH (eC (.int 4)) aJ))) (aF 7)) (eOp cE (eC (.int 26)) (eOp gF (eC (.int 10)) (aQ gInt (aH (eOp gGt (aF 5) (eC (.int 0))) aJ)))))) [s0 (.int c),s0 (.int n),s0 (.str SIGNS),s0 (.int s),some (1,.list (ds.map cS)),s0 (.int a),some (1,.list (zs.map bP)),s0 (.int i)]=some (cS (sg i)):=by
     have hb1:=eM (bZ c 4+i) (show(0:Int)<w by omega)
     have e:=sgn_ix hb1.1 (by omega)
     show _=some (cS (sgn ((bZ c 4+i)%(w:Int)).toNat))
     by_cases h0:a=0
     ·rw[if_pos h0] at hw
      subst hw
      have e:gIx (.str SIGNS) (.int ((bZ c 4+i)%26))=some (cS (sgn ((bZ c 4+i)%26).toNat)):=e
      simp[eV,vS,eOp,aF,eC,aQ,aH,aJ,cE,gF,bX,g2I,g2C,gGt,gInt,gA,h0,e]
     ·rw[if_neg h0] at hw
      subst hw
      have e:gIx (.str SIGNS) (.int ((bZ c 4+i)%36))=some (cS (sgn ((bZ c 4+i)%36).toNat)):=e
      have h1:0<a:=by omega
      simp[eV,vS,eOp,aF,eC,aQ,aH,aJ,cE,gF,bX,g2I,g2C,gGt,gInt,gA,h1,e]
    refine dM (ρ':=[s0 (.int c),s0 (.int n),s0 (.str SIGNS),s0 (.int s),some (1,.list ((cs.set a (sg i)).map cS)),s0 (.int a),some (1,.list (zs.map bP)),s0 (.int i)]) ?_ ?_
    ·unfold sSetL
     rw[ey,← hset,← zZ]
     simp only[eV,vS,aF,getL,dR,sP,sQ,uX,bS,hix]
     rfl
    ·have hb':=hb.set (j:=a) (sg1 i) (sg2 i)
     have ej:=join_ev (cs:=cs.set a (sg i)) (by have:=hb.1; simp; omega)
     refine go_nx (ρ':=[s0 (.int c),s0 (.int n),s0 (.str SIGNS),s0 (.int s),some (1,.list ((cs.set a (sg i)).map cS)),s0 (.int a),some (1,.list ((zs++[strC (cs.set a (sg i))]).map bP)),s0 (.int i)]) ?_ ⟨_,.inl rfl,cs.set a (sg i),s0 (.int i),hb',fun y=>by rw[List.set_set],?_⟩
     ·have hz:(zs.map bP).length<sizeLine:=oR (by simp; omega)
      have ee:eOp gJoin (eC (.str "")) (aF 4) (vA [s0 (.int c),s0 (.int n),s0 (.str SIGNS),s0 (.int s),some (1,.list ((cs.set a (sg i)).map cS)),s0 (.int a),some (1,.list (zs.map bP)),s0 (.int i)])=some (.str (strC (cs.set a (sg i)))):=by
       simp only[eOp,eC,aF,vA,dR,oB,sP,sQ,uX,bS,ej]
      unfold sApp eV
      simp only[ee,bS,dX,eP,if_true,getL,sP,sQ,if_pos hz]
      simp
     ·have e:((dC (i+1)).map fun k=>strC (cs.set a (sg k)))=zs++[strC (cs.set a (sg i))]:=by
       rw[List.range_succ,sN,hZ]
       rfl
      rw[e]
   ·rintro _ ⟨ds,x,_,_,rfl⟩
    exact⟨_,rfl,ds,x,rfl⟩
  rintro _ ⟨ds,x,rfl⟩
  refine⟨_,rfl,_,rfl,_,rfl,by simp,fun z m=>?_,?_⟩
  ·obtain⟨k,_,rfl⟩:=dH.mp m
   exact(hb.set (sg1 k) (sg2 k)).name hs12
  ·refine wH (fun k mk k' mk' q=>?_) List.nodup_range
   have hk:=jU.mp mk
   have hk':=jU.mp mk'
   have e:=congrArg (fun l=>l[a]?) (strC_inj q)
   have hcl:=hb.1
   simp only[kR (show a<cs.length by omega)] at e
   have e:=sgn_inj _ (by have:=sgb k; omega) _ (by have:=sgb k'; omega) (fA e)
   have b1:=eM (bZ c 4+k) (show(0:Int)<w by omega)
   have b2:=eM (bZ c 4+k') (show(0:Int)<w by omega)
   have e:(bZ c 4+k)%(w:Int)=(bZ c 4+k')%(w:Int):=by omega
   by_cases h0:a=0
   ·rw[if_pos h0] at hw
    subst hw
    omega
   ·rw[if_neg h0] at hw
    subst hw
    omega
noncomputable abbrev AB:aD:="abcdefghijklmnopqrstuvwxyz"
noncomputable abbrev ABF:aD:="abcdefghijklmnopqrstuvwxyz0123456789"
theorem sign_occ : ∀ c<128,gX c=true->(false != !(oH ABF ⟨#[c]⟩ 0 ABF.length 1).isEmpty)=true:=by decide +kernel
theorem letter_occ : ∀ c<128,letter c=true->(false != !(oH AB ⟨#[c]⟩ 0 AB.length 1).isEmpty)=true:=by decide +kernel
theorem sign_in {c:Nat}(h:gX c=true):gIn false (cS c) (.str ABF)=some (.bool true):=by
 show some (jD (false != !(oH ABF ⟨#[c]⟩ 0 ABF.length 1).isEmpty))=_
 rw[sign_occ c (wV h) h]
theorem letter_in {c:Nat}(h:letter c=true):gIn false (cS c) (.str AB)=some (.bool true):=by
 show some (jD (false != !(oH AB ⟨#[c]⟩ 0 AB.length 1).isEmpty))=_
 rw[letter_occ c (wV (letter_ok h)) h]
theorem ab_cat:(AB++("0123456789" : aD))=ABF:=by decide +kernel
theorem fig_word:wordS 10 "0123456789":=⟨by decide +kernel,by decide +kernel⟩
theorem add_abc:cE (.str AB) (.str "0123456789")=some (.str ABF):=by
 rw[word_add ab_word fig_word (by omega),ab_cat]
theorem zX : ∀ n:Nat,asBs (dZ n (.bool true))=some (dZ n true)
 | 0=>rfl
 | n+1=>by
  show((asBs (dZ n (.bool true))).bind fun bs=>some (true::bs))=_
  rw[zX n]
  rfl
theorem zI {z:aD}(h:nameS z):eI [.str z]=some (.bool true):=by
 obtain⟨c,r,ez,hc,hs,hl⟩:=h
 have : ∃ d,eI [.str z]=some d/\d = .bool true:=by
  refine fn_go rfl ?_
  let R:aZ:=[s0 (.str z)]
  have hz:z.length=z.cps.toList.length:=by simp[Str.length]
  have h1:1≤z.length:=by rw[hz,ez]; simp
  have h12:z.length≤12:=by rw[hz]; exact hl
  have el:aQ dJ (aH (aF 0) aJ) (vS R)=some (.int z.length):=bT (ds:=[.str z]) rfl (by simp[dJ]; exact lB (by omega))
  have ec:mS gLe gLe (eC (.int 1)) (aQ dJ (aH (aF 0) aJ)) (eC (.int 12)) (vS R)=some (.bool true):=by
   unfold mS
   rw[el]
   show(if decide ((1:Int)≤(z.length:Int))=true then some (jD (decide ((z.length:Int)≤12))) else some (jD false))=_
   rw[decide_eq_true (by omega),if_pos rfl,decide_eq_true (by omega)]
  have g1:eUn (eR "str") (aF 0) (vS R)=some (.bool true):=rfl
  refine dM (ρ':=R) (fV ?_) ?_
  ·show bOr (fI (bOf _)) (fI (bOf _)) (vS R)=_
   simp only[bOr,fI,bOf,g1,ec,bS,asB]
   rfl
  refine fD (d:=.bool (true&&true)) (kF ?_ fun _=>?_) ⟨_,rfl,rfl⟩
  ·have ix:gIx (.str z) (.int 0)=some (cS c):=by
    show(if z.length≤sizeLine then(atI z.cps.toList 0).bind fun c=>some (bP ⟨#[c]⟩) else none)=_
    have e0:atI z.cps.toList 0=some c:=nO (j:=0) (by rw[ez]; rfl)
    rw[if_pos (lB (by omega)),e0]
    rfl
   exact cG (a:=cS c) (b:=.str AB) (cG (a:=.str z) (b:=.int 0) rfl rfl ix) rfl (letter_in hc)
  ·have lc:=lc_map (cap:=[none]) (fi:=iIt (aF 0)) (T:=gB 0) (t:=gG) (f:=eOp (gIn false) (aF 0) (eOp cE (eC (.str "abcdefghijklmnopqrstuvwxyz")) (eC (.str "0123456789")))) (ρ:=vS R) (ds:=z.cps.toList.map cS) (fun _=>.bool true) rfl (by simp; simp at hl; omega) (fun d md=>by
    obtain⟨x,mx,rfl⟩:=dH.mp md
    exact⟨[some (cS x)],rfl,rfl,cG (a:=cS x) (b:=.str ABF) rfl (cG (a:=.str AB) (b:=.str "0123456789") rfl rfl add_abc) (sign_in (hs x mx))⟩)
   refine bT (dE lc rfl) ?_
   rw[List.map_const']
   show((asBs (dZ _ (.bool true))).bind fun bs=>some (jD (bs.all id)))=_
   rw[zX,bS]
   simp
 obtain⟨d,e,rfl⟩:=this
 exact e
theorem name_kind {d:aA}(h : ∀ z,d ≠ .str z)(h2 : ∀ z,d ≠ .dict z):eI [d]=some (.bool false):=by
 have : ∃ r,eI [d]=some r/\r = .bool false:=by
  refine fn_go rfl ?_
  refine kE (jY ?_ (fD (d:=.bool false) rfl ⟨_,rfl,_,rfl,rfl⟩))
  cases d with
  | str z=>exact absurd rfl (h z)
  | dict z=>exact absurd rfl (h2 z)
  | _=>rfl
 obtain⟨r,e,rfl⟩:=this
 exact e
theorem odd_texts:eI [.str ""]=some (.bool false)/\eI [.str "A"]=some (.bool false)/\eI [.str "1a"]=some (.bool false)/\eI [.str "a b"]=some (.bool false)/\eI [.str "a-"]=some (.bool false)/\eI [.str "abcdefghijklm"]=some (.bool false)/\eI [.str " a"]=some (.bool false)/\eI [.str "a "]=some (.bool false)/\eI [.str "a\n"]=some (.bool false):=by
 refine⟨?_,?_,?_,?_,?_,?_,?_,?_,?_⟩
 all_goals kernel_rfl
end Aw
namespace L2
open PySem PySem.Spec PyProof.Rows
section
variable {K:aI}{H0 H B0:Hp}{P0:aB->Prop}{ρ:aZ}{σ:St}{fp:Nat->List aB}{i j:Nat}
def AL (σ:St)(H:Hp)(i j:Nat)(k:aM):Prop:=∃ p ep xs q,σ[i]?=some (some (.ref p))/\H p=some (.dK ep xs)/\eO xs k=some (.ref q)/\σ[j]?=some (some (.ref q))
theorem AL.set {k:aM}{l:Nat}{v:V}(h:AL σ H i j k)(hi:l≠i)(hj:l≠j):AL (σ.set l (some v)) H i j k:=by
 obtain⟨p,ep,xs,q,h1,h2,h3,h4⟩:=h
 exact⟨p,ep,xs,q,by rw[jG hi]; exact h1,h2,h3,by rw[jG hj]; exact h4⟩
end
end L2
namespace Aw
open PySem L2
structure Bk (kds:List (aA×aA))(B:aD->List (List Int))(wd:aD->Nat):Prop where
 pl:plK kds=true
 at_ : ∀ t,(cO kds (.inr t)).getD (.list [])=rowsK (B t)
 few : ∀ t,(B t).length<64
 pos : ∀ t,1≤wd t
 wid : ∀ t,∀ r∈B t,r.length=wd t
theorem Bk.get {kds:List (aA×aA)}{B:aD->List (List Int)}{wd:aD->Nat}(b:Bk kds B wd){fd fk:EF}{ρ:List (Option aA)}{t:aD}(h1:fd ρ=some (.dict kds))(h2:fk ρ=some (.str t)):eGet2 fd fk (dD aJ) ρ=some (rowsK (B t)):=by
 rw[get2_ev h1 h2 rfl rfl b.pl,b.at_]
theorem kU (c:Int)(n:Nat)(h:0<n):bX (.int c) (.int n)=some (.int (c%n)):=by
 show(if 0<(n:Int) then some (bY (c%(n:Int))) else none)=_
 rw[if_pos (by omega)]
theorem band_ev {a b:BF}{ρ:List (Option aA)}{x y:Bool}(h:a ρ=some x)(h2:x=true->b ρ=some y):bAnd a b ρ=some (x&&y):=by
 unfold bAnd
 rw[h]
 cases x with
 | true=>exact h2 rfl
 | false=>rfl
theorem kB {a b:BF}{ρ:List (Option aA)}{x y:Bool}(h:a ρ=some x)(h2:x=false->b ρ=some y):bOr a b ρ=some (x||y):=by
 unfold bOr
 rw[h]
 cases x with
 | true=>rfl
 | false=>exact h2 rfl
theorem lA {f:EF}{ρ:List (Option aA)}{x:Bool}(h:f ρ=some (.bool x)):fI (bOf f) ρ=some (!x):=by
 unfold fI
 rw[hX h]
 rfl
theorem iE {np n:Nat}{body:SF}{ds:List aA}{d:aA}(hl:ds.length=np)(h:Goes body (ds.map (fun d=>some (0,d))++dZ (n - np) none) fun o=>o = .rt d):fnD np n body ds=some d:=by
 obtain⟨o,e,rfl⟩:=h
 exact fn_rt hl e
theorem asBs_map {α:Type}(f:α->Bool) : ∀ xs:List α,asBs (xs.map fun x=>.bool (f x))=some (xs.map f)
 | []=>rfl
 | x::xs=>by
  show((asBs (xs.map fun x=>.bool (f x))).bind fun bs=>some (f x::bs))=_
  rw[asBs_map f xs]
  rfl
theorem all_ev {α:Type}(f:α->Bool)(xs:List α):gAll [.list (xs.map fun x=>.bool (f x))]=some (.bool (xs.all f)):=by
 show((asBs (xs.map fun x=>.bool (f x))).bind fun bs=>some (jD (bs.all id)))=_
 rw[asBs_map,bS,List.all_map]
 rfl
theorem AY : ∀ zs:List aD,asKs (zs.map bP)=some (zs.map hE)
 | []=>rfl
 | z::zs=>by
  show((cW (.str z)).bind fun k=>(asKs (zs.map bP)).bind fun ks=>some (k::ks))=_
  rw[AY zs]
  rfl
noncomputable def aY (t:aD×Nat):aA:=.tuple [.str t.1,.int t.2]
def tabG (t:aD×Nat):Prop:=nameS t.1/\1≤t.2/\t.2≤6
noncomputable def tlE (d:aA):Option aA:=fK (aQ lP (aH (aF 0) aJ)) (fK (aQ eI (aH (eOp gIx (aF 0) (eC (.int 0))) aJ)) (aQ kK (aH (eOp gIx (aF 0) (eC (.int 1))) aJ))) [some d]
theorem aw_kind {d:aA}(h : ∀ ds,d ≠ .list ds)(h2 : ∀ k,eR "list" d=some k->k = .bool false)(h3:(eR "list" d).isSome=true):gR [d]=some (.bool false):=by
 refine iE rfl (kE (jY ?_ (fD (d:=.bool false) rfl ⟨_,rfl,rfl⟩)))
 have e:eUn (eR "list") (aF 0) (vS [s0 d])=some (.bool false):=by
  obtain⟨k,ek⟩:=uY.mp h3
  show eR "list" d=_
  rw[ek,h2 k ek]
 exact kB (y:=true) (lA e) (fun z=>by cases z)
theorem aw_len {ds:List aA}:bV .s (bOr (fI (bOf (eUn (eR "list") (aF 0)))) (bOf (eOp gGt (aQ dJ (aH (aF 0) aJ)) (eC (.int 12))))) [s0 (.list ds)]=some (decide (12<ds.length)):=by
 have e:eOp gGt (aQ dJ (aH (aF 0) aJ)) (eC (.int 12)) (vS [s0 (.list ds)])=some (.bool (decide (12<ds.length))):=by
  refine cG (a:=.int ds.length) (b:=.int 12) (bT (ds:=[.list ds]) rfl rfl) rfl ?_
  show some (jD (decide ((ds.length:Int) > 12)))=_
  congr 2
  rw[decide_eq_decide]
  omega
 exact kB (x:=false) (lA (x:=true) rfl) (fun _=>hX e)
theorem aw_long {ds:List aA}(h:12<ds.length):gR [.list ds]=some (.bool false):=by
 refine iE rfl (kE (jY ?_ (fD (d:=.bool false) rfl ⟨_,rfl,rfl⟩)))
 refine aw_len.trans ?_
 rw[decide_eq_true h]
theorem aw_all {ds:List aA}(hl:ds.length≤12)(o:aA->Bool)(ho : ∀ d∈ds,tlE d=some (.bool (o d))):bV .s (fI (bOf (aQ gAll (aH (eLC [none] (iIt (aF 0)) (gB 0) gG (fK (aQ lP (aH (aF 0) aJ)) (fK (aQ eI (aH (eOp gIx (aF 0) (eC (.int 0))) aJ)) (aQ kK (aH (eOp gIx (aF 0) (eC (.int 1))) aJ))))) aJ)))) [s0 (.list ds)]=some (!(ds.all o)):=by
 have lc:=qN (cap:=[none]) (fi:=iIt (aF 0)) (T:=gB 0) (t:=gG) (f:=fK (aQ lP (aH (aF 0) aJ)) (fK (aQ eI (aH (eOp gIx (aF 0) (eC (.int 0))) aJ)) (aQ kK (aH (eOp gIx (aF 0) (eC (.int 1))) aJ)))) (ρ:=vS [s0 (.list ds)]) (xs:=ds) (q:=id) (fun _=>true) (fun d=>.bool (o d)) (by rw[List.map_id]; exact nQ rfl) (by omega) (fun d md=>⟨[some d],rfl,rfl,fun _=>ho d md⟩)
 rw[vD.mpr (by simp)] at lc
 exact lA (bT (dE lc rfl) (all_ev o ds))
theorem aw_bad {ds:List aA}(o:aA->Bool)(ho : ∀ d∈ds,tlE d=some (.bool (o d))){d:aA}(m:d∈ds)(hd:o d=false):gR [.list ds]=some (.bool false):=by
 by_cases hl:ds.length≤12
 case neg=>exact aw_long (by omega)
 refine iE rfl (dM (fV (aw_len.trans (by rw[decide_eq_false (by omega)]))) (kE (jY ?_ (fD (d:=.bool false) rfl ⟨_,rfl,rfl⟩))))
 refine(aw_all hl o ho).trans ?_
 have:ds.all o=false:=by
  rw[List.all_eq_false]
  exact⟨d,m,by rw[hd]; decide⟩
 rw[this]
 rfl
theorem qX (i:Int):kK [.int i]=some (.bool (decide (1≤i/\i≤6))):=by
 show fnD 1 1 xI [.int i]=_
 refine iE rfl (fD (d:=.bool (decide (1≤i/\i≤6))) ?_ rfl)
 have:mS gLe gLe (eC (.int 1)) (aF 0) (eC (.int 6)) (vS [s0 (.int i)])=some (.bool (decide (1≤i/\i≤6))):=by
  show(if decide (1≤i)=true then some (jD (decide (i≤6))) else some (.bool false))=_
  by_cases h:1≤i
  ·rw[if_pos (by simpa using h)]
   simp[h]
  ·rw[if_neg (by simpa using h)]
   simp[h]
 exact kF (x:=true) (bT (ds:=[.int i]) rfl rfl) fun _=>this
theorem uD {d:aA}(h : ∀ i,d ≠ .int i)(h2 : ∀ i,d ≠ .dict i):kK [d]=some (.bool false):=by
 show fnD 1 1 xI [d]=_
 refine iE rfl (fD (d:=.bool false) ?_ rfl)
 refine kF (x:=false) (y:=true) (bT (ds:=[d]) rfl ?_) fun z=>by cases z
 cases d with
 | int i=>exact absurd rfl (h i)
 | dict i=>exact absurd rfl (h2 i)
 | _=>rfl
theorem tl_pair {a b:aA}{x y:Bool}(h1:eI [a]=some (.bool x))(h2:x=true->kK [b]=some (.bool y)):tlE (.tuple [a,b])=some (.bool (x&&y)):=
 kF (x:=true) (bT (ds:=[.tuple [a,b]]) rfl rfl) fun _=>kF (bT (ds:=[a]) rfl h1) fun z=>bT (ds:=[b]) rfl (h2 z)
theorem tl_no {d:aA}(h:lP [d]=some (.bool false)):tlE d=some (.bool false):=kF (x:=false) (y:=true) (bT (ds:=[d]) rfl h) fun z=>by cases z
theorem tl_good {t:aD×Nat}(h:tabG t):tlE (aY t)=some (.bool true):=by
 obtain⟨h1,h2,h3⟩:=h
 refine tl_pair (x:=true) (y:=true) (zI h1) fun _=>(qX t.2).trans ?_
 rw[decide_eq_true (by omega)]
theorem add_len : ∀ (ks acc:List aM),(ks.foldl fJ acc).length≤acc.length+ks.length
 | [],acc=>by simp
 | k::ks,acc=>by
  rw[sR]
  have h:=add_len ks (fJ acc k)
  have h2:(fJ acc k).length≤acc.length+1:=by
   unfold fJ
   split <;> simp
  simp only[eN]
  omega
theorem add_nd : ∀ (ks acc:List aM),(ks.foldl fJ acc).length=acc.length+ks.length->ks.Nodup /\ ∀ k∈ks,k∉acc
 | [],acc,_=>⟨.nil,fun k m=>by simp at m⟩
 | k::ks,acc,h=>by
  rw[sR] at h
  have h1:=add_len ks (fJ acc k)
  simp only[eN] at h
  by_cases c:k∈acc
  ·have:fJ acc k=acc:=if_pos c
   rw[this] at h1
   rw[this] at h
   omega
  ·have e:fJ acc k=acc++[k]:=if_neg c
   rw[e] at h
   obtain⟨h2,h3⟩:=add_nd ks (acc++[k]) (by simp; omega)
   refine⟨hJ.mpr ⟨fun m=>h3 k m (by simp),h2⟩,fun x m=>?_⟩
   rcases cN.mp m with rfl | m
   ·exact c
   ·exact fun z=>h3 x m (by simp[z])
theorem once_len (ks:List aM):(eG ks).length=ks.length↔ks.Nodup:=by
 have hm : ∀ x,x∈eG ks↔x∈ks:=fun x=>by unfold eG; rw[onceK_mem]; simp
 have nd:(eG ks).Nodup:=onceK_nd (by simp)
 exact⟨fun h=>(add_nd ks [] (by rw[List.length_nil,Nat.zero_add]; exact h)).1,fun h=>nodup_len nd h hm⟩
theorem aw_names {ts:List (aD×Nat)}(hl:ts.length≤12)(ht : ∀ t∈ts,tabG t) : ∃ b:Bool,gR [.list (ts.map aY)]=some (.bool b)/\(b=true↔(ts.map (·.1)).Nodup):=by
 refine⟨decide ((eG ((ts.map (·.1)).map hE)).length=ts.length),?_,?_⟩
 ·refine iE rfl (dM (fV (aw_len.trans (by rw[decide_eq_false (by rw[cU]; omega)]))) ?_)
  refine dM (fV ((aw_all (by rw[cU]; omega) (fun _=>true) fun d m=>?_).trans ?_)) ?_
  ·obtain⟨t,mt,rfl⟩:=dH.mp m
   exact tl_good (ht t mt)
  ·rw[show(ts.map aY).all (fun _=>true)=true by simp]
   rfl
  ·have lc:=qN (cap:=[none]) (fi:=iIt (aF 0)) (T:=gB 0) (t:=gG) (f:=eOp gIx (aF 0) (eC (.int 0))) (ρ:=vS [s0 (.list (ts.map aY))]) (xs:=ts) (q:=aY) (fun _=>true) (fun t=>.str t.1) (nQ rfl) (by omega) (fun t mt=>⟨[some (aY t)],rfl,rfl,fun _=>rfl⟩)
   rw[vD.mpr (by simp)] at lc
   refine fD (d:=.bool (decide ((eG ((ts.map (·.1)).map hE)).length=ts.length))) ?_ rfl
   refine cG (a:=.int ((eG ((ts.map (·.1)).map hE)).length)) (b:=.int ts.length) (bT (dE lc rfl) ?_) (bT (ds:=[.list (ts.map aY)]) rfl ?_) ?_
   ·show((asKs (ts.map fun t=>bP t.1)).bind fun ks=>if ks.length≤4000 then some (bY (eG ks).length) else none)=_
    rw[show(ts.map fun t=>bP t.1)=(ts.map (·.1)).map bP by rw[jF]; rfl,AY,bS,if_pos (by simp; omega)]
   ·show some (bY (ts.map aY).length)=_
    rw[cU]
   ·show some (jD (decide (((eG ((ts.map (·.1)).map hE)).length:Int)=ts.length)))=_
    congr 2
    rw[decide_eq_decide]
    omega
 ·rw[decide_eq_true_iff]
  have:=once_len ((ts.map (·.1)).map hE)
  rw[cU,cU] at this
  rw[this]
  constructor
  ·intro h
   exact(sL.mp h).imp fun h z=>h (by rw[z])
  ·intro h
   exact sL.mpr (h.imp fun h z=>h (Sum.inr.inj z))
theorem cut_lo (ds:List aA)(k:Nat):cutD ds (some (k:Int)) none=ds.drop k:=by
 unfold cutD
 rw[HT.Aly,HT.sIx_nat]
 by_cases h:k≤ds.length
 ·rw[ED h,yY (by simp)]
 ·rw[Nat.min_eq_right (by omega),List.drop_of_length_le (by omega),List.drop_of_length_le (by omega)]
  simp
theorem cut_hi (ds:List aA)(k:Nat):cutD ds none (some (k:Int))=ds.take k:=by
 unfold cutD
 rw[HT.Aly,HT.sIx_nat]
 by_cases h:k≤ds.length
 ·simp[ED h]
 ·rw[Nat.min_eq_right (by omega)]
  simp
  rw[yY (by omega)]
theorem oS_ev {f:EF}{ρ:List (Option aA)}{i:Int}(h:f ρ=some (.int i)):oS f ρ=some (some i):=by
 unfold oS
 rw[h]
 rfl
theorem catL_ev {xs ys:List aA}(h:xs.length+ys.length≤1000):gCat (.list xs) (.list ys)=some (.list (xs++ys)):=by
 show(if xs.length+ys.length≤sizeLine then some (sG (xs++ys)) else none)=_
 rw[if_pos (lB (by omega))]
structure TsG (ts:List (aD×Nat)):Prop where
 len:ts.length≤12
 tb : ∀ t∈ts,tabG t
 nd:(ts.map (·.1)).Nodup
theorem bad_in {ts:List (aD×Nat)}{L:List aA}{x:aA}(hx:tlE x=some (.bool false))(m:x∈L)(ht : ∀ t∈ts,tabG t)(h : ∀ d∈L,d=x \/ ∃ t∈ts,d=aY t):gR [.list L]=some (.bool false):=by
 classical
 refine aw_bad (fun d=>decide (tlE d=some (.bool true))) (fun d md=>?_) m (by rw[hx]; simp)
 rcases h d md with rfl | ⟨t,mt,rfl⟩
 ·rw[hx]; simp
 ·rw[tl_good (ht t mt)]; simp
theorem put_in {ts:List (aD×Nat)}{x:aA}{a:Nat}(hl:ts.length≤12){ρ:List (Option aA)}{f1 f2 fx:EF}{L1 L2:List aA}(h1:f1 ρ=some (.list L1))(h2:f2 ρ=some (.list L2))(l1:L1.length≤100)(l2:L2.length≤100)(hx:fx ρ=some x) :
  eOp gCat (eOp gCat f1 (dD (aH fx aJ))) f2 ρ=some (.list ((L1++[x])++L2)):=
 cG (a:=.list (L1++[x])) (b:=.list L2) (cG (a:=.list L1) (b:=.list [x]) h1 (lst_ev (dE (g:=aJ) hx rfl)) (catL_ev (by simp; omega))) h2 (catL_ev (by simp; omega))
theorem pick_ev {fa:AF}{ds:List aA}{c k:Int}{ρ:List (Option aA)}{n:Nat}(h:fa ρ=some ds)(hn:ds.length=n)(h0:0<n)(hl:n≤100)(hv:aF 1 ρ=some (.int c))(k0:0≤k)(k1:k≤1000) :
  ∃ d∈ds,eOp gIx (dD fa) (eOp bX (aQ dN (aH (aF 1) (aH (eC (.int k)) aJ))) (eC (.int n))) ρ=some d:=by
 have b:=eM (bZ c k) (show(0:Int)<(n:Int) by omega)
 obtain⟨j,ej⟩:=kS b.1
 have hj:j<ds.length:=by omega
 refine⟨ds[j],vB hj,cG (a:=.list ds) (b:=.int j) (lst_ev h (by omega)) (cG (a:=.int (bZ c k)) (b:=.int n) (bT (ds:=[.int c,.int k]) (dE hv rfl) (gA c k k0 (by omega))) rfl ((kU _ n h0).trans (by rw[ej]))) (nO (by rw[jH hj]))⟩
theorem t_all : ∀ k<13,((mP [.int (k:Nat)]).bind fun d=>cE (.str "t") d).isSome=true:=by decide +kernel
theorem new_name:eI [.str "new"]=some (.bool true):=by kernel_rfl
theorem tR (ts:List (aD×Nat)):dJ [.list (ts.map aY)]=some (.int ts.length):=by simp[dJ]
theorem wrong_ev {ts:List (aD×Nat)}(h:TsG ts)(c:Int) : ∃ d,rH [.list (ts.map aY),.int c]=some d/\gR [d]=some (.bool false):=by
 refine fn_go rfl ?_
 have hl:=h.len
 obtain⟨w,ew⟩:=kS (eM (bZ c 7) (show(0:Int)<(6:Nat) by decide)).1
 refine iA (d:=.int w) (cG (a:=.int (bZ c 7)) (b:=.int (6:Nat)) (bT (ds:=[.int c,.int 7]) rfl (gA c 7 (by omega) (by omega))) rfl ((kU _ 6 (by omega)).trans (by rw[ew]))) (by simp) ?_
 have hl0:(0:Int)<((ts.length+1:Nat):Int):=by omega
 obtain⟨a,ea⟩:=kS (eM (bZ c 8) hl0).1
 have ha:a≤ts.length:=by have:=(eM (bZ c 8) hl0).2; omega
 refine iA (d:=.int a) (cG (a:=.int (bZ c 8)) (b:=.int ((ts.length+1:Nat):Int)) (bT (ds:=[.int c,.int 8]) rfl (gA c 8 (by omega) (by omega))) (cG (a:=.int ts.length) (b:=.int 1) (bT (ds:=[.list (ts.map aY)]) rfl (tR ts)) rfl rfl) ((kU _ (ts.length+1) (by omega)).trans (by rw[ea]))) (by simp) ?_
 let S:aZ:=[s0 (.list (ts.map aY)),s0 (.int c),s0 (.int w),s0 (.int a),none,none,none,none]
 have tw : ∀ k:Int,bV .s (bOf (eOp gEq (aF 2) (eC (.int k)))) S=some (decide ((w:Int)=k)):=fun k=>hX (cG (a:=.int w) (b:=.int k) rfl rfl (vQ _ _))
 have tl:bV .s (bOf (eOp gGt (aQ dJ (aH (aF 0) aJ)) (eC (.int 0)))) S=some (decide ((ts.length:Int) > 0)):=hX (cG (a:=.int ts.length) (b:=.int 0) (bT (ds:=[.list (ts.map aY)]) rfl (tR ts)) rfl rfl)
 have memT : ∀ d∈(ts.map aY).take a,∃ t∈ts,d=aY t:=fun d m=>by
  obtain⟨t,mt,rfl⟩:=dH.mp (zA m)
  exact⟨t,mt,rfl⟩
 have memD : ∀ d∈(ts.map aY).drop a,∃ t∈ts,d=aY t:=fun d m=>by
  obtain⟨t,mt,rfl⟩:=dH.mp (List.mem_of_mem_drop m)
  exact⟨t,mt,rfl⟩
 have lT:((ts.map aY).take a).length≤100:=by simp; omega
 have lD:((ts.map aY).drop a).length≤100:=by simp; omega
 have s1 : ∀ {ρ:List (Option aA)},aF 0 ρ=some (.list (ts.map aY))->aF 3 ρ=some (.int a)->fH (aF 0) oN (oS (aF 3)) ρ=some (.list ((ts.map aY).take a)):=fun h0 h3=>(qI h0 rfl (oS_ev h3)).trans (by rw[cut_hi])
 have s2 : ∀ {ρ:List (Option aA)},aF 0 ρ=some (.list (ts.map aY))->aF 3 ρ=some (.int a)->fH (aF 0) (oS (aF 3)) oN ρ=some (.list ((ts.map aY).drop a)):=fun h0 h3=>(qI h0 (oS_ev h3) rfl).trans (by rw[cut_lo])
 have bad : ∀ {L1:List aA} {x:aA},tlE x=some (.bool false)->(∀ d∈L1,∃ t∈ts,d=aY t)->gR [.list ((L1++[x])++(ts.map aY).drop a)]=some (.bool false):=fun {L1 x} hx h1=>bad_in hx (by simp) h.tb fun d m=>by
  rcases kP.mp m with m | m
  ·rcases kP.mp m with m | m
   ·exact .inr (h1 d m)
   ·exact .inl (dG.mp m)
  ·exact .inr (memD d m)
 by_cases w0:(w:Int)=0
 ·obtain⟨d,md,ed⟩:=pick_ev (fa:=aH (eC .none) (aH (fR aJ) (aH (eC (.bool true)) (aH (eC (.dict [])) (aH (eC (.str "a")) (aH (aQ gTuple (aH (aF 0) aJ)) (aH (eC (.int 3)) aJ))))))) (ds:=[.none,.tuple [],.bool true,.dict [],.str "a",.tuple (ts.map aY),.int 3]) (c:=c) (k:=9) (ρ:=vS S) (n:=7) rfl rfl (by omega) (by omega) rfl (by omega) (by omega)
  refine kE (jY ((tw 0).trans (by rw[decide_eq_true w0])) (fD ed ⟨_,rfl,_,rfl,?_⟩))
  simp only[cN,EJ,or_false] at md
  rcases md with rfl | rfl | rfl | rfl | rfl | rfl | rfl <;> exact aw_kind (by intro _ z; cases z) (by intro k z; cases z; rfl) rfl
 refine dM (fV ((tw 0).trans (by rw[decide_eq_false w0]))) ?_
 have tb:bV .s (bAnd (bOf (eOp gEq (aF 2) (eC (.int 1)))) (bOf (eOp gGt (aQ dJ (aH (aF 0) aJ)) (eC (.int 0))))) S=some (decide ((w:Int)=1)&&decide ((ts.length:Int) > 0)):=band_ev (tw 1) fun _=>tl
 by_cases w1:(w:Int)=1/\0<ts.length
 ·have hp:=w1.2
  have hl0:(0:Int)<(ts.length:Int):=by omega
  obtain⟨j,ej⟩:=kS (eM (bZ c 10) hl0).1
  have hj:j<ts.length:=by have:=(eM (bZ c 10) hl0).2; omega
  obtain⟨v,ev⟩:=kS (eM (bZ c 11) (show(0:Int)<(6:Nat) by decide)).1
  have hv6:v<6:=by have:=(eM (bZ c 11) (show(0:Int)<(6:Nat) by decide)).2; omega
  let t':aD×Nat:=(ts[j].1,1+v)
  have gt':tabG t':=⟨(h.tb _ (vB hj)).1,by show 1≤1+v; omega,by show 1+v≤6; omega⟩
  have e4:fR (aH (eOp gIx (eOp gIx (aF 0) (eOp bX (aQ dN (aH (aF 1) (aH (eC (.int 10)) aJ))) (aQ dJ (aH (aF 0) aJ)))) (eC (.int 0))) (aH (eOp cE (eC (.int 1)) (eOp bX (aQ dN (aH (aF 1) (aH (eC (.int 11)) aJ))) (eC (.int 6)))) aJ)) (vS S)=some (aY t'):=by
   refine tup_ev (ds:=[.str ts[j].1,.int ((1+v:Nat):Int)]) (dE (cG (a:=aY ts[j]) (b:=.int 0) (cG (a:=.list (ts.map aY)) (b:=.int j) rfl (cG (a:=.int (bZ c 10)) (b:=.int ts.length) (bT (ds:=[.int c,.int 10]) rfl (gA c 10 (by omega) (by omega))) (bT (ds:=[.list (ts.map aY)]) rfl (tR ts)) ((kU _ ts.length (by omega)).trans (by rw[ej]))) (nO (by rw[eX,jH hj]; rfl))) rfl rfl) (dE (g:=aJ) ?_ rfl))
   refine cG (a:=.int 1) (b:=.int v) rfl (cG (a:=.int (bZ c 11)) (b:=.int (6:Nat)) (bT (ds:=[.int c,.int 11]) rfl (gA c 11 (by omega) (by omega))) rfl ((kU _ 6 (by omega)).trans (by rw[ev]))) ?_
   show some (bY (1+(v:Int)))=_
   congr 2
  refine kE (jY (tb.trans (by rw[decide_eq_true w1.1,decide_eq_true (by omega)]; rfl)) (iA e4 (by simp) (fD (d:=.list ((((ts.take a++[t'])++ts.drop a).map aY).take 13)) ?_ ⟨_,rfl,_,rfl,?_⟩)))
  ·refine(qI (ds:=(((ts.map aY).take a++[aY t'])++(ts.map aY).drop a)) (put_in (ts:=ts) (a:=a) hl (s1 rfl rfl) (s2 rfl rfl) lT lD rfl) rfl (oS_ev (i:=((13:Nat):Int)) rfl)).trans ?_
   rw[cut_hi]
   simp[EO,List.map_drop]
  ·have ln:((ts.take a++[t'])++ts.drop a).length=ts.length+1:=by simp; omega
   rw[yY (by rw[cU,ln]; omega)]
   by_cases hb:ts.length=12
   ·exact aw_long (by rw[cU,ln]; omega)
   obtain⟨b,eb,hbb⟩:=aw_names (ts:=(ts.take a++[t'])++ts.drop a) (by rw[ln]; omega) fun t m=>by
    rcases kP.mp m with m | m
    ·rcases kP.mp m with m | m
     ·exact h.tb t (zA m)
     ·rw[dG.mp m]; exact gt'
    ·exact h.tb t (List.mem_of_mem_drop m)
   rw[eb]
   cases b with
   | false=>rfl
   | true=>
    exfalso
    have n2:=hbb.mp rfl
    rw[sN,sN] at n2
    have mj:ts[j].1∈(ts.take a).map (·.1)++(ts.drop a).map (·.1):=by
     rw[← sN,List.take_append_drop]
     exact dH.mpr ⟨_,vB hj,rfl⟩
    obtain⟨n1,_,n3⟩:=sM.mp n2
    obtain⟨_,_,n4⟩:=sM.mp n1
    rcases kP.mp mj with m | m
    ·exact n4 _ m _ (by simp[t']) rfl
    ·exact n3 _ (by simp[t']) _ m rfl
 have tb':bV .s (bAnd (bOf (eOp gEq (aF 2) (eC (.int 1)))) (bOf (eOp gGt (aQ dJ (aH (aF 0) aJ)) (eC (.int 0))))) S=some false:=tb.trans (by
  by_cases q:(w:Int)=1
  ·rw[decide_eq_false (p:=(ts.length:Int) > 0) (fun z=>w1 ⟨q,by omega⟩),Bool.and_false]
  ·rw[decide_eq_false q]; rfl)
 refine dM (fV tb') ?_
 by_cases w2:(w:Int)=2
 ·have lc:=qN (cap:=[none]) (fi:=iR1 (aH (eC (.int 13)) aJ)) (T:=gB 0) (t:=gG) (f:=fR (aH (eOp cE (eC (.str "t")) (aQ mP (aH (aF 0) aJ))) (aH (eOp cE (eC (.int 1)) (eOp bX (aF 0) (eC (.int 6)))) aJ))) (ρ:=vS S) (xs:=dC 13) (q:=fun(k:Nat)=>bY k) (fun _=>true) (fun k=>.tuple [(((mP [.int k]).bind fun d=>cE (.str "t") d).getD .none),.int (1+(k:Int)%(6:Nat))]) (iR1_ev (n:=13) rfl (by omega)) (by simp) (fun k mk=>⟨[some (.int k)],rfl,rfl,fun _=>by
   have hk:=jU.mp mk
   have e1 : ∃ d,mP [.int k]=some d /\ ∃ d2,cE (.str "t") d=some d2:=by
    have:=t_all k hk
    cases e:mP [.int k] with
    | none=>rw[e] at this; cases this
    | some d=>
     rw[e] at this
     exact⟨d,rfl,uY.mp this⟩
   obtain⟨d,e1,d2,e2⟩:=e1
   rw[e1,bS,e2]
   exact tup_ev (dE (cG (a:=.str "t") (b:=d) rfl (bT (ds:=[.int k]) rfl e1) e2) (dE (g:=aJ) (cG (a:=.int 1) (b:=.int ((k:Int)%(6:Nat))) rfl (cG (a:=.int k) (b:=.int (6:Nat)) rfl rfl (kU _ 6 (by omega))) rfl) rfl))⟩)
  rw[vD.mpr (by simp)] at lc
  exact kE (jY ((tw 2).trans (by rw[decide_eq_true w2])) (fD lc ⟨_,rfl,_,rfl,aw_long (by simp)⟩))
 refine dM (fV ((tw 2).trans (by rw[decide_eq_false w2]))) ?_
 by_cases w3:(w:Int)=3
 ·obtain⟨d,md,ed⟩:=pick_ev (fa:=aH (eC (.int 0)) (aH (eC (.int 7)) (aH (eUn gNeg (eC (.int 1))) (aH (eC (.bool true)) (aH (eC .none) (aH (eC (.str "3")) (aH (fR (aH (eC (.int 3)) aJ)) (aH (eOp cE (eC (.int 8)) (eOp bX (aF 1) (eOp gPow (eC (.int 10)) (eC (.int 60))))) aJ)))))))) (ds:=[.int 0,.int 7,.int (-1),.bool true,.none,.str "3",.tuple [.int 3],.int (8+c%(10 ^ 60:Nat))]) (c:=c) (k:=12) (ρ:=vS S) (n:=8) (by
    have e8:eOp cE (eC (.int 8)) (eOp bX (aF 1) (eOp gPow (eC (.int 10)) (eC (.int 60)))) (vS S)=some (.int (8+c%(10 ^ 60:Nat))):=cG (a:=.int 8) (b:=.int (c%(10 ^ 60:Nat))) rfl (cG (a:=.int c) (b:=.int ((10 ^ 60:Nat):Int)) rfl (cG (a:=.int 10) (b:=.int 60) rfl rfl (by kernel_rfl)) (kU _ _ (by decide))) rfl
    exact dE rfl (dE rfl (dE rfl (dE rfl (dE rfl (dE rfl (dE rfl (dE (g:=aJ) e8 rfl)))))))) rfl (by omega) (by omega) rfl (by omega) (by omega)
  have hwd:kK [d]=some (.bool false):=by
   have hm:=(eM c (show(0:Int)<((10 ^ 60:Nat):Int) by decide)).1
   simp only[cN,EJ,or_false] at md
   rcases md with rfl | rfl | rfl | rfl | rfl | rfl | rfl | rfl
   ·exact qX 0
   ·exact qX 7
   ·exact qX (-1)
   ·exact uD (by intro _ z; cases z) (by intro _ z; cases z)
   ·exact uD (by intro _ z; cases z) (by intro _ z; cases z)
   ·exact uD (by intro _ z; cases z) (by intro _ z; cases z)
   ·exact uD (by intro _ z; cases z) (by intro _ z; cases z)
   ·refine(qX _).trans ?_
    rw[decide_eq_false (by omega)]
  refine kE (jY ((tw 3).trans (by rw[decide_eq_true w3])) (iA ed (by simp) (fD (d:=.list (((((ts.map aY).take a).take 11)++[.tuple [.str "new",d]])++(ts.map aY).drop a)) ?_ ⟨_,rfl,_,rfl,bad (tl_pair (x:=true) new_name fun _=>hwd) fun d m=>memT d (zA m)⟩)))
  refine put_in (ts:=ts) (a:=a) hl ((qI (s1 rfl rfl) rfl (oS_ev (i:=((11:Nat):Int)) rfl)).trans (by rw[cut_hi])) (s2 rfl rfl) (by simp; omega) lD ?_
  exact tup_ev (dE rfl (dE (g:=aJ) rfl rfl))
 refine dM (fV ((tw 3).trans (by rw[decide_eq_false w3]))) ?_
 by_cases w4:(w:Int)=4
 ·obtain⟨d,md,ed⟩:=pick_ev (fa:=aH (eC (.str "")) (aH (eC (.str "A")) (aH (eC (.str "a b")) (aH (eC (.str "1a")) (aH (eC (.str "abcdefghijklm")) (aH (eC (.int 7)) (aH (eC .none) (aH (dD (aH (eC (.str "a")) aJ)) (aH (eC (.bool true)) aJ))))))))) (ds:=[.str "",.str "A",.str "a b",.str "1a",.str "abcdefghijklm",.int 7,.none,.list [.str "a"],.bool true]) (c:=c) (k:=13) (ρ:=vS S) (n:=9) rfl rfl (by omega) (by omega) rfl (by omega) (by omega)
  have hnm:eI [d]=some (.bool false):=by
   obtain⟨o1,o2,o3,o4,_,o6,_⟩:=odd_texts
   simp only[cN,EJ,or_false] at md
   rcases md with rfl | rfl | rfl | rfl | rfl | rfl | rfl | rfl | rfl
   ·exact o1
   ·exact o2
   ·exact o4
   ·exact o3
   ·exact o6
   ·exact name_kind (by intro _ z; cases z) (by intro _ z; cases z)
   ·exact name_kind (by intro _ z; cases z) (by intro _ z; cases z)
   ·exact name_kind (by intro _ z; cases z) (by intro _ z; cases z)
   ·exact name_kind (by intro _ z; cases z) (by intro _ z; cases z)
  refine kE (jY ((tw 4).trans (by rw[decide_eq_true w4])) (iA ed (by simp) (fD (d:=.list ((((ts.map aY).take a)++[.tuple [d,.int 2]])++(ts.map aY).drop a)) ?_ ⟨_,rfl,_,rfl,bad (tl_pair (x:=false) (y:=true) hnm fun z=>by cases z) memT⟩)))
  exact put_in (ts:=ts) (a:=a) hl (s1 rfl rfl) (s2 rfl rfl) lT lD (tup_ev (dE rfl (dE (g:=aJ) rfl rfl)))
 refine dM (fV ((tw 4).trans (by rw[decide_eq_false w4]))) ?_
 refine iA (d:=.list [.list [.str "new",.int 2],.tuple [.str "new"],.tuple [.str "new",.int 2,.int 2],.str "n2",.none,.tuple [],.dict [(.str "new",.int 2)]]) rfl (by simp) ?_
 have b:=eM (bZ c 14) (show(0:Int)<(7:Nat) by decide)
 obtain⟨j,ej⟩:=kS b.1
 have hj:j<7:=by omega
 let xs:List aA:=[.list [.str "new",.int 2],.tuple [.str "new"],.tuple [.str "new",.int 2,.int 2],.str "n2",.none,.tuple [],.dict [(.str "new",.int 2)]]
 have hx:lP [xs[j]'hj]=some (.bool false):=by
  match j,hj with
  | 0,_=>rfl
  | 1,_=>rfl
  | 2,_=>rfl
  | 3,_=>rfl
  | 4,_=>rfl
  | 5,_=>rfl
  | 6,_=>rfl
  | n+7,h=>omega
 refine fD (d:=.list ((((ts.map aY).take a)++[xs[j]'hj])++(ts.map aY).drop a)) ?_ ⟨_,rfl,bad (tl_no hx) memT⟩
 exact put_in (ts:=ts) (a:=a) hl (s1 rfl rfl) (s2 rfl rfl) lT lD (cG (a:=.list xs) (b:=.int j) rfl (cG (a:=.int (bZ c 14)) (b:=.int (7:Nat)) (bT (ds:=[.int c,.int 14]) rfl (gA c 14 (by omega) (by omega))) rfl ((kU _ 7 (by omega)).trans (by rw[ej]))) (nO (jH hj)))
theorem pairs_ev (ns:List Int) : ∃ ts:List (aD×Nat),pJ [.list (ns.map bY)]=some (.list (ts.map aY))/\TsG ts:=by
 suffices h : ∃ d,pJ [.list (ns.map bY)]=some d /\ ∃ ts:List (aD×Nat),d = .list (ts.map aY)/\TsG ts by
  obtain⟨_,e,ts,rfl,h⟩:=h
  exact⟨ts,e,h⟩
 obtain⟨c0,e0⟩:=tM (ns:=ns) (k:=0) (by omega) (by omega)
 obtain⟨c1,e1⟩:=tM (ns:=ns) (k:=1) (by omega) (by omega)
 have b0:=eM (bZ c0 5) (show(0:Int)<(13:Nat) by decide)
 obtain⟨n,en⟩:=kS b0.1
 have hn:n≤12:=by omega
 obtain⟨zs,e,hl,hz,hnd⟩:=names_ev c1 hn
 refine fn_go rfl ?_
 refine iA (d:=.int c0) (bT (ds:=[.list (ns.map bY),.int 0]) rfl e0) (by simp) ?_
 refine dM (ρ':=[s0 (.list (ns.map bY)),s0 (.int c0),some (1,.list []),none]) rfl ?_
 refine lM (fun ρ'=>∃ (ts:List (aD×Nat)) (x:L2.Slot),ts.map (·.1)=zs/\(∀ t∈ts,1≤t.2/\t.2≤6)/\ρ'=[s0 (.list (ns.map bY)),s0 (.int c0),some (1,.list (ts.map aY)),x]) ?_ ?_
 ·refine qL (ds:=zs.map bP) (fun i ρ'=>∃ (ts:List (aD×Nat)) (x:L2.Slot),ts.map (·.1)=zs.take i/\(∀ t∈ts,1≤t.2/\t.2≤6)/\ρ'=[s0 (.list (ns.map bY)),s0 (.int c0),some (1,.list (ts.map aY)),x]) (avS (nQ (bT (ds:=[.int c1,.int n]) (dE (bT (ds:=[.list (ns.map bY),.int 1]) rfl e1) (dE (g:=aJ) (cG (a:=.int (bZ c0 5)) (b:=.int (13:Nat)) (bT (ds:=[.int c0,.int 5]) rfl (gA c0 5 (by omega) (by omega))) rfl ((kU _ 13 (by omega)).trans (by rw[en]))) rfl)) e))) ⟨[],none,rfl,fun _ m=>by simp at m,rfl⟩ ?_ ?_
  ·rintro i d _ hd ⟨ts,x,ht1,ht,rfl⟩
   rw[eX] at hd
   obtain⟨z,hz1,rfl⟩:=mD.mp hd
   have hi:i<n:=by rw[← hl]; exact(eK.mp hz1).1
   have hl2:ts.length=i:=by
    have:=congrArg uZ ht1
    rw[cU,nE] at this
    omega
   obtain⟨c2,e2⟩:=tM (ns:=ns) (k:=2+(i:Int)) (by omega) (by omega)
   have b:=eM (bZ c2 6) (show(0:Int)<6 by decide)
   obtain⟨q,hq⟩:=kS b.1
   have em:=gA c2 6 (by omega) (by omega)
   refine⟨[s0 (.list (ns.map bY)),s0 (.int c0),some (1,.list (ts.map aY)),s0 (.str z)],rfl,?_⟩
   refine go_appA (d:=aY (z,1+q)) ?_ ?_ (ds:=ts.map aY) rfl (by simp; omega) ⟨_,.inl rfl,ts++[(z,1+q)],s0 (.str z),?_,fun t m=>?_,by simp⟩
   ·have h2:(2:Nat)≤sizeLine:=lB (by omega)
    simp[vA,eOp,aF,eC,aQ,fR,aH,aJ,cE,bX,g2C,dJ,hl2,e2,em,hq,aY,h2]
   ·simp[aY,eP,oJ]
   ·rw[sN,ht1,yZ,hz1]
    rfl
   ·rcases kP.mp m with m | m
    ·exact ht t m
    ·rw[dG.mp m]
     exact⟨by simp,by simp; omega⟩
  ·rintro _ ⟨ts,x,h1,h2,rfl⟩
   exact⟨_,rfl,ts,x,by simpa using h1,h2,rfl⟩
 rintro _ ⟨ts,x,h1,h2,rfl⟩
 have hlt:ts.length=zs.length:=by rw[← h1,cU]
 exact⟨_,rfl,_,rfl,ts,rfl,by omega,fun t m=>⟨hz _ (h1 ▸ dH.mpr ⟨t,m,rfl⟩),h2 t m⟩,by rw[h1]; exact hnd⟩
noncomputable def kdS (p:aD×aA):aA×aA:=(.str p.1,p.2)
theorem put_kdS {A:List (aD×aA)}{z:aD}{d:aA}(h:z∉A.map (·.1)):putD (A.map kdS) (.inr z) d=(A++[(z,d)]).map kdS:=by
 unfold putD
 rw[if_neg]
 ·simp[kdS,kD]
 ·intro q
  obtain⟨kd,m,e⟩:=List.any_eq_true.mp q
  obtain⟨p,mp,rfl⟩:=dH.mp m
  have:=of_decide_eq_true e
  simp[kdS,cW] at this
  exact h (dH.mpr ⟨p,mp,this⟩)
theorem BG : ∀ (M A:List (aD×aA)),((A++M).map (·.1)).Nodup->nN (M.map fun p=>(hE p.1,p.2)) (A.map kdS)=(A++M).map kdS
 | [],A,_=>by simp[nN]
 | p::M,A,h=>by
  show nN (M.map fun p=>(hE p.1,p.2)) (putD (A.map kdS) (.inr p.1) p.2)=_
  have hn:p.1∉A.map (·.1):=fun m=>by
   rw[sN] at h
   exact(sM.mp h).2.2 p.1 m p.1 (by simp) rfl
  rw[put_kdS hn,BG M (A++[(p.1,p.2)]) (by simpa using h)]
  simp
theorem tU {z:aD}{d:aA} : ∀ {A:List (aD×aA)},(A.map (·.1)).Nodup->(z,d)∈A->cO (A.map kdS) (.inr z)=some d
 | [],_,m=>by simp at m
 | p::A,nd,m=>by
  rw[dR,hJ] at nd
  unfold cO
  rw[dR,iJ]
  rcases cN.mp m with e | m
  ·rw[← e]
   simp[kdS,cW]
  ·have hne:p.1≠z:=fun e=>nd.1 (dH.mpr ⟨(z,d),m,e.symm⟩)
   have:=tU nd.2 m
   unfold cO at this
   simp only[kdS,cW,pV,Sum.inr.injEq,hne,decide_false]
   exact this
theorem BV {z:aD} : ∀ {A:List (aD×aA)},z∉A.map (·.1)->cO (A.map kdS) (.inr z)=none
 | [],_=>rfl
 | p::A,h=>by
  have h':z≠p.1/\z∉A.map (·.1):=by simpa using h
  have:=BV h'.2
  unfold cO at this ⊢
  rw[dR,iJ]
  simp only[kdS,cW,pV,Sum.inr.injEq,h'.1.symm,decide_false]
  exact this
theorem pl_kdS (A:List (aD×aA)):plK (A.map kdS)=true:=by cases A <;> rfl
theorem lay_kdS {A:List (aD×aA)}(h : ∀ p∈A,nameS p.1):((A.map kdS).all fun kd=>cQ kd.1)=true:=gV.mpr fun d m=>by
 obtain⟨p,mp,rfl⟩:=dH.mp m
 obtain⟨_,_,_,_,h2,_⟩:=h p mp
 exact lay_ok h2
theorem keys_kdS (A:List (aD×aA)):(A.map kdS).map (·.1)=(A.map (·.1)).map bP:=by
 rw[jF,jF]
 rfl
theorem sort_kdS {A:List (aD×aA)}(h : ∀ p∈A,nameS p.1)(hl:A.length<64):oV [.dict (A.map kdS)]=some (.list ((bW (A.map (·.1))).map bP)):=by
 show((asTx ((A.map kdS).map (·.1))).bind fun is=>if (plK (A.map kdS)&&(A.map kdS).all fun kd=>cQ kd.1)=true/\is.length<64 then some (sG ((bW is).map bP)) else none)=_
 rw[keys_kdS,wB,bS,if_pos ⟨by rw[pl_kdS,lay_kdS h]; rfl,by rw[cU]; exact hl⟩]
noncomputable def wdT (t:aD×Nat):aD×aA:=(t.1,.int t.2)
noncomputable def hdT (t:aD×Nat):aD×aA:=(t.1,.dict [(.none,.none)])
noncomputable def bkD (ts:List (aD×Nat)):aA:=insD "Book" (.dict ((ts.map wdT).map kdS)) (.dict ((ts.map hdT).map kdS))
theorem qU (ts:List (aD×Nat)):(ts.map wdT).map (·.1)=ts.map (·.1):=by rw[jF]; rfl
theorem names_hd (ts:List (aD×Nat)):(ts.map hdT).map (·.1)=ts.map (·.1):=by rw[jF]; rfl
theorem AD : ∀ ts:List (aD×Nat),asPs (ts.map aY)=some ((ts.map wdT).map fun p=>(hE p.1,p.2))
 | []=>rfl
 | t::ts=>by
  show((asPs (ts.map aY)).bind fun r=>some ((hE t.1,bY t.2)::r))=_
  rw[AD ts]
  rfl
theorem make_ev {ts:List (aD×Nat)}(h:TsG ts)(z:Option aD):iU z [.list (ts.map aY)]=some (bkD ts):=by
 obtain⟨b,eb,hb⟩:=aw_names h.len h.tb
 rw[hb.mpr h.nd] at eb
 have ed:nM [.list (ts.map aY)]=some (.dict ((ts.map wdT).map kdS)):=by
  show((asPs (ts.map aY)).bind fun ps=>some (PyData.dict (nN ps [])))=_
  rw[AD,bS]
  have:=BG (ts.map wdT) [] (by rw[List.nil_append,qU]; exact h.nd)
  rw[List.map_nil,List.nil_append] at this
  rw[this]
 unfold iU oK
 show((gR [.list (ts.map aY)]).bind _)=_
 rw[eb,bS]
 show((nM [.list (ts.map aY)]).bind _)=_
 rw[ed,bS]
 have c1 : ∀ kd∈(ts.map wdT).map kdS,eP kd.2=true:=fun kd m=>by
  obtain⟨p,mp,rfl⟩:=dH.mp m
  obtain⟨t,_,rfl⟩:=dH.mp mp
  rfl
 have c2:(((ts.map wdT).map kdS).map (·.1)).Nodup:=by
  rw[keys_kdS,qU]
  exact sL.mpr (h.nd.imp fun h z=>h (PyData.str.inj z))
 have c3:((ts.map wdT).map kdS).length<sizeLine:=by
  rw[cU,cU]
  have:=h.len
  exact oR (by omega)
 refine(if_pos ⟨c1,c2,c3⟩).trans ?_
 unfold bkD heldD
 congr 3
 simp[kdS,hdT,wdT]
theorem make_no {d:aA}(h:gR [d]=some (.bool false)):iU (some "NoTable") [d]=some (rsD "NoTable"):=by
 unfold iU oK
 show((gR [d]).bind _)=_
 rw[h,bS]
 exact if_pos rfl
theorem as_bk (ts:List (aD×Nat)):lI "Book" (bkD ts)=some (.dict ((ts.map wdT).map kdS),.dict ((ts.map hdT).map kdS)):=asIns_mk _ _ _
theorem vP (ts:List (aD×Nat)):mM "Book" (bkD ts)=some (.dict ((ts.map wdT).map kdS)):=by unfold mM; rw[as_bk]; rfl
theorem held_bk (ts:List (aD×Nat)):mJ "Book" (bkD ts)=some (.dict ((ts.map hdT).map kdS)):=by unfold mJ; rw[as_bk]; rfl
theorem kC {fo:EF}{fa:AF}{ρ:List (Option aA)}{ts:List (aD×Nat)}{ds:List aA}(h:fo ρ=some (bkD ts))(h2:fa ρ=some ds):eF "Book" fo fa ρ=some (bkD ts::ds):=by
 unfold eF
 rw[h,bS,as_bk]
 show((fa ρ).bind fun ds=>some (bkD ts::ds))=_
 rw[h2]
 rfl
section
variable {ts:List (aD×Nat)}(h:TsG ts)
include h
theorem nm_wd : ∀ p∈ts.map wdT,nameS p.1:=fun p m=>by
 obtain⟨t,mt,rfl⟩:=dH.mp m
 exact(h.tb t mt).1
theorem tY (z:Option aD):iV z [bkD ts]=some (.list ((bW (ts.map (·.1))).map bP)):=by
 refine iE rfl (fD (d:=.list ((bW (ts.map (·.1))).map bP)) (bT (dE (f:=eUn (mM "Book") (aF 0)) (g:=aJ) (vP ts) rfl) ?_) rfl)
 have:=sort_kdS (nm_wd h) (by have:=h.len; simp; omega)
 rw[qU] at this
 exact this
theorem size_bk (z:Option aD):rE z [bkD ts]=some (.int 0):=by
 have hl:=h.len
 have hi:iDV (eUn (mJ "Book") (aF 0)) (vS [s0 (bkD ts)])=some (ts.map fun t=>(hdT t).2):=by
  unfold iDV
  rw[show eUn (mJ "Book") (aF 0) (vS [s0 (bkD ts)])=some (.dict ((ts.map hdT).map kdS)) from held_bk ts,bS]
  show(if plK ((ts.map hdT).map kdS)=true then some (((ts.map hdT).map kdS).map (·.2)) else none)=_
  rw[pl_kdS,if_pos rfl,jF,jF]
  rfl
 have lc:=qN (cap:=[none]) (fi:=iDV (eUn (mJ "Book") (aF 0))) (T:=gB 0) (t:=gG) (f:=aQ gLenT (aH (aF 0) aJ)) (ρ:=vS [s0 (bkD ts)]) (xs:=ts) (q:=fun t=>(hdT t).2) (fun _=>true) (fun _=>.int 0) hi (by omega) (fun t mt=>⟨[some (hdT t).2],rfl,rfl,fun _=>rfl⟩)
 rw[vD.mpr (by simp)] at lc
 refine iE rfl (fD (d:=.int 0) (bT (dE lc rfl) ?_) rfl)
 have : ∀ l:List (aD×Nat),asIs (l.map fun _=>bY 0)=some (l.map fun _=>(0:Int)):=fun l=>by
  induction l with
  | nil=>rfl
  | cons a l ih=>
   show((asIs (l.map fun _=>bY 0)).bind fun is=>some ((0:Int)::is))=_
   rw[ih]
   rfl
 have s0 : ∀ l:List (aD×Nat),(l.map fun _=>(0:Int)).sum=0:=fun l=>by
  induction l with
  | nil=>rfl
  | cons a l ih=>rw[dR,List.sum_cons,ih]; rfl
 show((asIs (ts.map fun _=>bY 0)).bind fun is=>some (bY is.sum))=_
 rw[this,bS,s0]
theorem want_bk (z:Option aD){t:aD×Nat}(m:t∈ts):lV z [bkD ts,.str t.1]=some .none:=by
 have e1:aQ eI (aH (aF 1) aJ) (vS [s0 (bkD ts),s0 (.str t.1)])=some (.bool true):=bT (ds:=[.str t.1]) rfl (zI (h.tb t m).1)
 have e2:eOp (gIn true) (aF 1) (eUn (mM "Book") (aF 0)) (vS [s0 (bkD ts),s0 (.str t.1)])=some (.bool false):=by
  refine cG (a:=.str t.1) (b:=.dict ((ts.map wdT).map kdS)) rfl (vP ts) ?_
  show(if plK ((ts.map wdT).map kdS)=true then(cW (.str t.1)).bind fun k=>some (jD (true != (cO ((ts.map wdT).map kdS) k).isSome)) else _)=_
  rw[if_pos (pl_kdS _)]
  show some (jD (true != (cO ((ts.map wdT).map kdS) (.inr t.1)).isSome))=_
  rw[tU (d:=.int t.2) (by rw[qU]; exact h.nd) (dH.mpr ⟨t,m,rfl⟩)]
  rfl
 show fnD 2 2 (uM z) [bkD ts,.str t.1]=_
 have:uM z [s0 (bkD ts),s0 (.str t.1)]=some (.nx [s0 (bkD ts),s0 (.str t.1)]):=fV (kB (x:=false) (y:=false) (lA e1) fun _=>hX e2)
 show outD (uM z [s0 (bkD ts),s0 (.str t.1)])=_
 rw[this]
 rfl
theorem want_go (z:Option aD){t:aD×Nat}(m:t∈ts){G:SF}{P:Out->Prop}(k:Goes G [s0 (bkD ts),s0 (.str t.1)] P):Goes (bE (qE 0 .s (aQ (lV z) (eF "Book" (aF 0) (aH (aF 1) aJ)))) G) [s0 (bkD ts),s0 (.str t.1)] P:=by
 refine dM (ρ':=[s0 (bkD ts),s0 (.str t.1)]) ?_ k
 have e:eV 0 .s (aQ (lV z) (eF "Book" (aF 0) (aH (aF 1) aJ))) [s0 (bkD ts),s0 (.str t.1)]=some .none:=bT (kC (ds:=[.str t.1]) rfl rfl) (want_bk h z m)
 unfold qE
 rw[e]
 rfl
theorem rows_bk (z:Option aD){t:aD×Nat}(m:t∈ts):lU z [bkD ts,.str t.1]=some (.list []):=by
 refine iE rfl (want_go h z m (fD (d:=.list []) (bT (ds:=[.dict [(.none,.none)]]) (dE (g:=aJ) (cG (a:=.dict ((ts.map hdT).map kdS)) (b:=.str t.1) (held_bk ts) rfl ?_) rfl) ?_) rfl))
 ·show cO ((ts.map hdT).map kdS) (.inr t.1)=_
  exact tU (by rw[names_hd]; exact h.nd) (dH.mpr ⟨t,m,rfl⟩)
 ·show(if okT []=true/\([]:List (List aA)).length<64 then some (sG ((jW []).map mZ)) else none)=_
  rw[if_pos ⟨by simp[okT],by simp⟩]
  simp[jW]
theorem width_bk (z:Option aD){t:aD×Nat}(m:t∈ts):rJ z [bkD ts,.str t.1]=some (.int t.2):=by
 refine iE rfl (want_go h z m (fD (d:=.int t.2) (cG (a:=.dict ((ts.map wdT).map kdS)) (b:=.str t.1) (vP ts) rfl ?_) rfl))
 show cO ((ts.map wdT).map kdS) (.inr t.1)=_
 exact tU (by rw[qU]; exact h.nd) (dH.mpr ⟨t,m,rfl⟩)
end
theorem rO (ss:List aD):(bW ss).Perm ss:=by
 have hp:=EL ss fun a b=>decide (a.cps.toList≤b.cps.toList)
 have hr:(ss.mergeSort fun a b=>decide (a.cps.toList≤b.cps.toList)).Pairwise leS:=by
  have:=EH (le:=fun a b:aD=>decide (a.cps.toList≤b.cps.toList)) (fun a b c h1 h2=>decide_eq_true (zB (of_decide_eq_true h1) (of_decide_eq_true h2))) (fun a b=>by
   rcases List.le_total a.cps.toList b.cps.toList with h | h <;> simp[h]) ss
  exact this.imp fun h=>of_decide_eq_true h
 rw[← qY hp hr]
 exact hp
mutual
theorem eqv_refl : ∀ d:aA,noDict d=true->dF d d=true
 | .none,_=>by simp[dF]
 | .bool b,_=>by simp[dF]
 | .int i,_=>by simp[dF]
 | .str x,_=>by simp[dF]
 | .list xs,h=>by
  have h':noDicts xs=true:=by simpa [noDict] using h
  simpa [dF] using wM xs h'
 | .tuple xs,h=>by
  have h':noDicts xs=true:=by simpa [noDict] using h
  simpa [dF] using wM xs h'
 | .dict _,h=>by simp[noDict] at h
theorem wM : ∀ ds:List aA,noDicts ds=true->nA ds ds=true
 | [],_=>by simp[nA]
 | d::ds,h=>by
  have h':noDict d=true/\noDicts ds=true:=by simpa [noDicts] using h
  simp[nA,eqv_refl d h'.1,wM ds h'.2]
end
theorem eq_self {d:aA}(h:dW d=true):gEq d d=some (.bool true):=by
 have h1:noDict d=true:=(kT.mp h).1
 unfold gEq
 rw[h,eqv_refl d h1]
 rfl
theorem ne_self {d:aA}(h:dW d=true):gNe d d=some (.bool false):=by
 have h1:noDict d=true:=(kT.mp h).1
 unfold gNe
 rw[h,eqv_refl d h1]
 rfl
theorem ok_of {ds:List aA}(h : ∀ d∈ds,noDict d=true/\d.depth≤5):dW (.list ds)=true:=by
 have h1:noDicts ds=true:=by
  induction ds with
  | nil=>rfl
  | cons d ds ih=>simp[noDicts,(h d cA).1,ih fun x m=>h x (cI _ m)]
 have h2:eZ ds≤5:=by
  clear h1
  induction ds with
  | nil=>simp[eZ]
  | cons d ds ih=>
   have:=(h d cA).2
   have:=ih fun x m=>h x (cI _ m)
   simp[eZ]
   omega
 simp[dW,noDict,h1,jS]
 omega
theorem ok_strs (zs:List aD):dW (.list (zs.map bP))=true:=ok_of fun d m=>by
 obtain⟨z,_,rfl⟩:=dH.mp m
 exact⟨rfl,by simp[jS]⟩
theorem ok_tabs (ts:List (aD×Nat)):dW (.list (ts.map aY))=true:=ok_of fun d m=>by
 obtain⟨z,_,rfl⟩:=dH.mp m
 exact⟨rfl,by simp[aY,jS,eZ]⟩
noncomputable def eL (z:aD):aD×aA:=(z,.list [])
theorem names_eL (zs:List aD):(zs.map eL).map (·.1)=zs:=by
 rw[jF]
 exact List.map_id zs
section
variable {ts:List (aD×Nat)}(h:TsG ts)
include h
theorem mem_srt {z:aD}(m:z∈bW (ts.map (·.1))) : ∃ t∈ts,t.1=z:=by
 have:=(rO (ts.map (·.1))).mem_iff.mp m
 obtain⟨t,mt,e⟩:=dH.mp this
 exact⟨t,mt,e⟩
theorem nd_srt:(bW (ts.map (·.1))).Nodup:=(rO _).nodup_iff.mpr h.nd
theorem len_srt:(bW (ts.map (·.1))).length=ts.length:=(rO _).length_eq.trans (cU _)
theorem plain_bk (z:Option aD):lR z [bkD ts]=some (.dict (((bW (ts.map (·.1))).map eL).map kdS)):=by
 have hl:=h.len
 have ln:=len_srt h
 have nd:=nd_srt h
 refine iE rfl (dM (ρ':=[s0 (bkD ts),some (2,.dict []),none]) rfl ?_)
 refine lM (fun ρ'=>∃ x,ρ'=[s0 (bkD ts),some (2,.dict (((bW (ts.map (·.1))).map eL).map kdS)),x]) ?_ ?_
 ·refine qL (ds:=(bW (ts.map (·.1))).map bP) (fun i ρ'=>∃ x,ρ'=[s0 (bkD ts),some (2,.dict ((((bW (ts.map (·.1))).take i).map eL).map kdS)),x]) (avS (nQ (bT (kC (ds:=[]) rfl rfl) (tY h none)))) ⟨none,rfl⟩ ?_ ?_
  ·rintro i d _ hd ⟨x,rfl⟩
   rw[eX] at hd
   obtain⟨s,hs,rfl⟩:=mD.mp hd
   obtain⟨t,mt,rfl⟩:=mem_srt h (nD hs)
   refine⟨[s0 (bkD ts),some (2,.dict ((((bW (ts.map (·.1))).take i).map eL).map kdS)),s0 (.str t.1)],rfl,?_⟩
   refine⟨.nx [s0 (bkD ts),some (2,.dict ((((bW (ts.map (·.1))).take (i+1)).map eL).map kdS)),s0 (.str t.1)],?_,_,.inl rfl,_,rfl⟩
   unfold sSetK2
   rw[show eV 1 .s (aQ (lU none) (eF "Book" (aF 0) (aH (aF 2) aJ))) [s0 (bkD ts),some (2,.dict ((((bW (ts.map (·.1))).take i).map eL).map kdS)),s0 (.str t.1)]=some (.list []) from bT (kC (ds:=[.str t.1]) rfl rfl) (rows_bk h none mt),bS]
   have hn:t.1∉(bW (ts.map (·.1))).take i:=fun m=>by
    obtain⟨j,hj⟩:=List.mem_iff_getElem?.mp m
    rw[List.getElem?_take] at hj
    split at hj
    ·rename_i lt
     have:=(List.getElem?_inj (l:=bW (ts.map (·.1))) (i:=j) (j:=i) (eK.mp hj).1 nd).mp (hj.trans hs.symm)
     omega
    ·cases hj
   refine(if_pos (t:=some (Out.nx [s0 (bkD ts),some (2,.dict ((((bW (ts.map (·.1))).take i).map eL).map kdS++[(kD (.inr t.1),.list [])])),s0 (.str t.1)])) (e:=none) (show cO ((((bW (ts.map (·.1))).take i).map eL).map kdS) (.inr t.1)=none/\((((bW (ts.map (·.1))).take i).map eL).map kdS).length<sizeLine from⟨BV (by rw[names_eL]; exact hn),?_⟩)).trans ?_
   ·rw[cU,cU,nE]
    exact oR (by omega)
   ·rw[yZ,hs]
    simp[kdS,eL,kD]
  ·rintro _ ⟨x,rfl⟩
   refine⟨_,rfl,x,?_⟩
   rw[cU,EG]
 rintro _ ⟨x,rfl⟩
 exact⟨_,rfl,rfl⟩
theorem stands_bk:nT [bkD ts,.list (ts.map aY)]=some (.bool true):=by
 have hl:=h.len
 have ln:=len_srt h
 refine iE rfl ?_
 refine iA (d:=.list ((bW (ts.map (·.1))).map bP)) (bT (kC (ds:=[]) rfl rfl) (tY h none)) (by simp) ?_
 let S:aZ:=[s0 (bkD ts),s0 (.list (ts.map aY)),s0 (.list ((bW (ts.map (·.1))).map bP)),none,none,none,none,none]
 have lc:=qN (cap:=[none]) (fi:=iIt (aF 1)) (T:=gB 0) (t:=gG) (f:=eOp gIx (aF 0) (eC (.int 0))) (ρ:=vS S) (xs:=ts) (q:=aY) (fun _=>true) (fun t=>.str t.1) (nQ rfl) (by omega) (fun t mt=>⟨[some (aY t)],rfl,rfl,fun _=>rfl⟩)
 rw[vD.mpr (by simp),show(ts.map fun t=>bP t.1)=(ts.map (·.1)).map bP by rw[jF]; rfl] at lc
 refine dM (fV (kB (x:=false) (y:=false) (lA (x:=true) rfl) fun _=>hX (cG (a:=.list ((bW (ts.map (·.1))).map bP)) (b:=.list ((bW (ts.map (·.1))).map bP)) rfl (bT (dE lc rfl) (sortS_ev (by rw[cU]; omega))) (ne_self (ok_strs _))))) ?_
 refine iA (d:=.int 0) (bT (kC (ds:=[]) rfl rfl) (size_bk h none)) (by simp) ?_
 refine dM (fV rfl) ?_
 refine lM (fun ρ'=>∃ x4 x5 x6,ρ'=[s0 (bkD ts),s0 (.list (ts.map aY)),s0 (.list ((bW (ts.map (·.1))).map bP)),s0 (.int 0),x4,x5,x6,none]) ?_ ?_
 ·refine qL (ds:=ts.map aY) (fun i ρ'=>∃ x4 x5 x6,ρ'=[s0 (bkD ts),s0 (.list (ts.map aY)),s0 (.list ((bW (ts.map (·.1))).map bP)),s0 (.int 0),x4,x5,x6,none]) (avS (nQ rfl)) ⟨_,_,_,rfl⟩ ?_ ?_
  ·rintro i d _ hd ⟨x4,x5,x6,rfl⟩
   rw[eX] at hd
   obtain⟨t,ht,rfl⟩:=mD.mp hd
   have mt:=nD ht
   refine⟨[s0 (bkD ts),s0 (.list (ts.map aY)),s0 (.list ((bW (ts.map (·.1))).map bP)),s0 (.int 0),s0 (.str t.1),s0 (.int t.2),x6,none],rfl,?_⟩
   refine iA (d:=.int t.2) (bT (kC (ds:=[.str t.1]) rfl rfl) (width_bk h none mt)) (by simp) ?_
   let S2:aZ:=[s0 (bkD ts),s0 (.list (ts.map aY)),s0 (.list ((bW (ts.map (·.1))).map bP)),s0 (.int 0),s0 (.str t.1),s0 (.int t.2),s0 (.int t.2),none]
   have e1:bOf (eOp gNe (aF 6) (aF 5)) (vS S2)=some false:=hX (cG (a:=.int t.2) (b:=.int t.2) rfl rfl (ne_self rfl))
   have e2:bOf (eOp gNe (aQ (lU none) (eF "Book" (aF 0) (aH (aF 4) aJ))) (dD aJ)) (vS S2)=some false:=hX (cG (a:=.list []) (b:=.list []) (bT (kC (ds:=[.str t.1]) rfl rfl) (rows_bk h none mt)) rfl (ne_self rfl))
   refine⟨_,fV (ρ:=S2) (kB (x:=false) (y:=false) (lA (x:=true) rfl) fun _=>kB (x:=false) (y:=false) (hX (b:=false) rfl) fun _=>kB (x:=false) (y:=false) e1 fun _=>e2),_,.inl rfl,_,_,_,rfl⟩
  ·rintro _ ⟨x4,x5,x6,rfl⟩
   exact⟨_,rfl,_,_,_,rfl⟩
 rintro _ ⟨x4,x5,x6,rfl⟩
 refine iA (d:=.dict (((bW (ts.map (·.1))).map eL).map kdS)) (bT (kC (ds:=[]) rfl rfl) (plain_bk h none)) (by simp) ?_
 have nmE : ∀ p∈(bW (ts.map (·.1))).map eL,nameS p.1:=fun p m=>by
  obtain⟨s,ms,rfl⟩:=dH.mp m
  obtain⟨t,mt,rfl⟩:=mem_srt h ms
  exact(h.tb t mt).1
 let S3:aZ:=[s0 (bkD ts),s0 (.list (ts.map aY)),s0 (.list ((bW (ts.map (·.1))).map bP)),s0 (.int 0),x4,x5,x6,s0 (.dict (((bW (ts.map (·.1))).map eL).map kdS))]
 have g1:eUn (eR "dict") (aF 7) (vS S3)=some (.bool true):=by
  show eR "dict" (.dict (((bW (ts.map (·.1))).map eL).map kdS))=_
  cases(bW (ts.map (·.1))) <;> rfl
 have g2:eOp gEq (aQ oV (aH (aF 7) aJ)) (aF 2) (vS S3)=some (.bool true):=by
  refine cG (a:=.list ((bW (ts.map (·.1))).map bP)) (b:=.list ((bW (ts.map (·.1))).map bP)) (bT (ds:=[.dict (((bW (ts.map (·.1))).map eL).map kdS)]) rfl ?_) rfl (eq_self (ok_strs _))
  refine(sort_kdS nmE (by rw[cU]; omega)).trans ?_
  rw[names_eL,sortS_eq (rO _)]
 have g3:eOp gEq (aQ qH (aH (aF 7) aJ)) (eOp gMulL (dD (aH (dD aJ) aJ)) (aQ dJ (aH (aF 1) aJ))) (vS S3)=some (.bool true):=by
  have el:aQ qH (aH (aF 7) aJ) (vS S3)=some (.list (dZ ts.length (.list []))):=by
   refine bT (ds:=[.dict (((bW (ts.map (·.1))).map eL).map kdS)]) rfl ?_
   show(if plK (((bW (ts.map (·.1))).map eL).map kdS)=true then some (sG ((((bW (ts.map (·.1))).map eL).map kdS).map (·.2))) else none)=_
   rw[pl_kdS,if_pos rfl,jF,jF,← ln]
   congr 2
   exact List.map_const'
  have er:eOp gMulL (dD (aH (dD aJ) aJ)) (aQ dJ (aH (aF 1) aJ)) (vS S3)=some (.list (dZ ts.length (.list []))):=by
   refine cG (a:=.list [.list []]) (b:=.int ts.length) rfl (bT (ds:=[.list (ts.map aY)]) rfl (tR ts)) ?_
   show(if -1000≤(ts.length:Int)/\(ts.length:Int)<1000000/\1*(ts.length:Int).toNat≤1000000 then some (sG (dZ (ts.length:Int).toNat [sG []]).flatten) else none)=_
   rw[if_pos (by omega),zC]
   congr 2
   generalize ts.length=n
   induction n with
   | zero=>rfl
   | succ n ih=>rw[oE,jI,ih]; rfl
  refine cG el er (eq_self (ok_of fun d m=>?_))
  rw[(List.mem_replicate.mp m).2]
  exact⟨rfl,by simp[jS,eZ]⟩
 exact fD (d:=.bool true) (kF (x:=true) (y:=true) g1 fun _=>kF (x:=true) (y:=true) g2 fun _=>g3) rfl
end
theorem refused_ev {d:aA}(h:gR [d]=some (.bool false)){b:Int}(hb:b=0 \/ b=1):rR [d,.int b]=some (.bool true):=by
 have hr:=make_no h
 refine iE rfl ?_
 refine iA (d:=.bool false) rfl (by simp) ?_
 rcases hb with rfl | rfl
 ·refine kE (jY (hX (cG (a:=.int 0) (b:=.int 0) rfl rfl (vQ _ _))) ?_)
  refine dM (ρ':=[s0 d,s0 (.int 0),s0 (.bool true),none]) ((try_rs (ds:=[d]) rfl hr).trans rfl) (fD (d:=.bool true) rfl ⟨_,rfl,rfl⟩)
 ·refine dM (fV (hX (cG (a:=.int 1) (b:=.int 0) rfl rfl (vQ _ _)))) ?_
  refine iA (d:=.none) rfl (by simp) ?_
  refine dM (ρ':=[s0 d,s0 (.int 1),s0 (exD "NoTable"),none]) ((try_rs (ds:=[d]) rfl hr).trans rfl) ?_
  have ix : ∀ b:Bool,eUn (gW "NoTable" b) (aF 2) (vS [s0 d,s0 (.int 1),s0 (exD "NoTable"),none])=some (.bool b):=fun b=>by
   show gW "NoTable" b (exD "NoTable")=_
   simp[gW,exD]
  refine dM (fV (kB (x:=false) (y:=false) (lA (ix true)) fun _=>lA (ix true))) ?_
  refine dM (fV (kB (x:=false) (y:=false) (hX (ix false)) fun _=>kB (x:=false) (y:=false) (hX (ix false)) fun _=>hX (ix false))) ?_
  have nx:eNot (eUn (gW "NoTable" false) (aF 2)) (vS [s0 d,s0 (.int 1),s0 (exD "NoTable"),none])=some (.bool true):=by
   unfold eNot
   rw[ix false]
   rfl
  exact fD (d:=.bool true) (kF (x:=true) (y:=true) nx fun _=>kF (x:=true) (y:=true) nx fun _=>nx) rfl
theorem flat_bk (ts:List (aD×Nat)):dX 9 (bkD ts)=true:=by
 have h1:((ts.map wdT).map kdS).all (fun kd=>dX 6 kd.2)=true:=gV.mpr fun kd m=>by
  obtain⟨p,mp,rfl⟩:=dH.mp m
  obtain⟨t,_,rfl⟩:=dH.mp mp
  rfl
 have h2:((ts.map hdT).map kdS).all (fun kd=>dX 6 kd.2)=true:=gV.mpr fun kd m=>by
  obtain⟨p,mp,rfl⟩:=dH.mp m
  obtain⟨t,_,rfl⟩:=dH.mp mp
  rfl
 show(true&&((true&&((((ts.map wdT).map kdS).all fun kd=>dX 6 kd.2)&&true))&&((true&&((((ts.map hdT).map kdS).all fun kd=>dX 6 kd.2)&&true))&&true)))=true
 rw[h1,h2]
 rfl
theorem flat_pl (zs:List aD):dX 2 (.dict ((zs.map eL).map kdS))=true:=by
 show((zs.map eL).map kdS).all (fun kd=>dX 1 kd.2)=true
 refine gV.mpr fun kd m=>?_
 obtain⟨p,mp,rfl⟩:=dH.mp m
 obtain⟨t,_,rfl⟩:=dH.mp mp
 rfl
theorem eva_ev {n:Nat}{f:EF}{ρ:aZ}{d:aA}(h:f (vA ρ)=some d)(hf:dX n d=true):eV n .a f ρ=some d:=by
 show((f (vA ρ)).bind fun d=>if (dX n d||(ownD ρ&&decide (n<9)&&gO n d)||(own9 ρ&&decide (n=0)&&ftD d))=true then some d else none)=_
 rw[h,bS,hf,qA,qA,if_pos rfl]
theorem law_ev (ns:List Int)(hl:ns.length≤63):F_law [.list (ns.map bY)]=some (.bool true):=by
 obtain⟨ts,et,h⟩:=pairs_ev ns
 obtain⟨c20,e20⟩:=tM (ns:=ns) (k:=20) (by omega) (by omega)
 have hln:=h.len
 refine iE rfl ?_
 refine iA (d:=.list (ts.map aY)) (bT (ds:=[.list (ns.map bY)]) rfl et) (by simp) ?_
 refine iA (d:=.list (ts.map aY)) (bT (ds:=[.list (ts.map aY)]) rfl rfl) (by simp) ?_
 refine go_letA (d:=bkD ts) (bT (ds:=[.list (ts.map aY)]) rfl (make_ev h none)) (flat_bk ts) (by simp) ?_
 let S:aZ:=[s0 (.list (ns.map bY)),s0 (.list (ts.map aY)),some (1,.list (ts.map aY)),some (9,bkD ts),none]
 have st : ∀ {S:aZ},aF 3 (vA S)=some (bkD ts)->aF 1 (vA S)=some (.list (ts.map aY))->aQ nT (aH (aF 3) (aH (aF 1) aJ)) (vA S)=some (.bool true):=fun h3 h1=>bT (dE h3 (dE (g:=aJ) h1 rfl)) (stands_bk h)
 refine dM (fV (m:=.a) (ρ:=S) (kB (x:=false) (y:=false) (hX (cG (a:=.list (ts.map aY)) (b:=.list (ts.map aY)) rfl rfl (ne_self (ok_tabs ts)))) fun _=>lA (st rfl rfl))) ?_
 refine lM (fun ρ'=>∃ x,ρ'=[s0 (.list (ns.map bY)),s0 (.list (ts.map aY)),some (1,.list (ts.map aY)),some (9,bkD ts),x]) ?_ ?_
 ·obtain⟨ys,ey,ly,_⟩:=cut_map bY ns (some 21) (some 63)
  have ei:aV .s (iIt (eOp gCat (dD (aH (aQ iT (aH (aF 0) (aH (eC (.int 20)) aJ))) aJ)) (fH (aF 0) (oS (eC (.int 21))) (oS (eC (.int 63)))))) S=some ((c20::ys).map bY):=by
   refine nQ (cG (a:=.list [.int c20]) (b:=.list (ys.map bY)) (lst_ev (dE (g:=aJ) (bT (ds:=[.list (ns.map bY),.int 20]) rfl e20) rfl)) ((qI (ds:=ns.map bY) rfl (oS_ev (i:=21) rfl) (oS_ev (i:=63) rfl)).trans (by rw[ey])) ((catL_ev (by simp; omega)).trans (by simp)))
  refine qL (ds:=(c20::ys).map bY) (fun i ρ'=>∃ x,ρ'=[s0 (.list (ns.map bY)),s0 (.list (ts.map aY)),some (1,.list (ts.map aY)),some (9,bkD ts),x]) ei ⟨none,rfl⟩ ?_ ?_
  ·rintro i d _ hd ⟨x,rfl⟩
   rw[eX] at hd
   obtain⟨c,_,rfl⟩:=mD.mp hd
   refine⟨[s0 (.list (ns.map bY)),s0 (.list (ts.map aY)),some (1,.list (ts.map aY)),some (9,bkD ts),s0 (.int c)],rfl,?_⟩
   obtain⟨w,ew,hw⟩:=wrong_ev h c
   have b:=eM (bZ c 15) (show(0:Int)<(2:Nat) by decide)
   have hb:bZ c 15%(2:Nat)=0 \/ bZ c 15%(2:Nat)=1:=by omega
   refine⟨_,fV (lA (x:=true) (bT (ds:=[w,.int (bZ c 15%(2:Nat))]) (dE (bT (ds:=[.list (ts.map aY),.int c]) rfl ew) (dE (g:=aJ) (cG (a:=.int (bZ c 15)) (b:=.int (2:Nat)) (bT (ds:=[.int c,.int 15]) rfl (gA c 15 (by omega) (by omega))) rfl (kU _ 2 (by omega))) rfl)) (refused_ev hw hb))),_,.inl rfl,_,rfl⟩
  ·rintro _ ⟨x,rfl⟩
   exact⟨_,rfl,x,rfl⟩
 rintro _ ⟨x,rfl⟩
 refine lM (fun ρ'=>ρ'=[s0 (.list (ns.map bY)),s0 (.list (ts.map aY)),some (1,.list (ts.map aY++[.tuple [.str "later",.int 1]])),some (9,bkD ts),x]) (go_appS (d:=.tuple [.str "later",.int 1]) (ds:=ts.map aY) rfl rfl (by simp; omega) ⟨_,rfl,rfl⟩) ?_
 rintro _ rfl
 let S2:aZ:=[s0 (.list (ns.map bY)),s0 (.list (ts.map aY)),s0 (.list (ts.map aY++[.tuple [.str "later",.int 1]])),some (9,bkD ts),x]
 show Goes _ S2 _
 have e1:eV 1 .a (aQ (iV none) (eF "Book" (aF 3) aJ)) S2=some (.list ((bW (ts.map (·.1))).map bP)):=eva_ev (bT (kC (ds:=[]) rfl rfl) (tY h none)) (BC _)
 have l1:sZ .a (aQ (iV none) (eF "Book" (aF 3) aJ)) S2=some (.nx S2):=by
  unfold sZ
  rw[e1,bS]
  refine if_pos ?_
  rw[cU,len_srt h]
  exact oR (by omega)
 refine dM l1 ?_
 have e2:eV 2 .a (aQ (lR none) (eF "Book" (aF 3) aJ)) S2=some (.dict (((bW (ts.map (·.1))).map eL).map kdS)):=eva_ev (bT (kC (ds:=[]) rfl rfl) (plain_bk h none)) (flat_pl _)
 have l2:tL .a (aQ (lR none) (eF "Book" (aF 3) aJ)) S2=some (.nx S2):=by
  unfold tL
  rw[e2,bS]
 refine dM l2 ?_
 have h0:TsG []:=⟨by simp,fun t m=>by simp at m,.nil⟩
 have et:aQ (iV none) (eF "Book" (aQ (iU none) (aH (dD aJ) aJ)) aJ) (vA S2)=some (.list []):=by
  refine bT (kC (ts:=[]) (ds:=[]) (bT (ds:=[.list []]) rfl (make_ev h0 none)) rfl) ((tY h0 none).trans ?_)
  have:bW (([]:List (aD×Nat)).map (·.1))=[]:=List.Perm.eq_nil (rO [])
  rw[this]
  rfl
 exact go_retA (d:=.bool true) (kF (x:=true) (y:=true) (st rfl rfl) fun _=>cG (a:=.list []) (b:=.list []) et rfl (eq_self rfl)) rfl rfl
noncomputable def spLaw (K:aI):Sp:=fun vs H Q _=>∃ (a:aB) (ns:List Int),vs=[.ref a]/\SqL K H a (ns.map V.int)/\ns.length≤63 /\ ∀ H',Q (.bl true) H'
theorem sp_law {K:aI} : ∀ vs H Q E,spLaw K vs H Q E->spF K 0 F_law vs H Q E:=fun vs H Q E gh=>by
 obtain⟨a,ns,ev,hS,hl,k⟩:=gh
 subst ev
 have e0:hid H (fun _=>False)=H:=by
  funext b
  unfold hid
  rw[if_neg (fun z=>z)]
 refine⟨fun _=>False,[.list (ns.map bY)],.bool true,fun _ z=>z.elim,?_,law_ev ns hl,cR fun v H' _ r=>?_⟩
 ·rw[e0]
  exact Aad.mpr ⟨_,_,rfl,Aa9.mpr ⟨a,_,rfl,hS,zJ ns⟩,Aal.mpr rfl⟩
 ·rw[Aat.mp r]
  exact k H'
def Hl (K:aI)(n:aD)(st:bL)(f:aB):Prop:=∃ (od an:Option aB) (sl:Array (Option aE)) (oc kV dc pm cd ct:aE),cH K bR n=some (some (.ref f))/\K.lookup f=some ⟨oc,od,.func (jR n n (kG st) (iB st) (bU st) .none kV dc pm an cd ct),sl⟩/\pU K cd n=true/\kM K (.ref f)=true
def Hs (K:aI)(n:aD)(st:bL)(f:aB):Prop:=∃ fd,Fun K n n st f fd/\cH K bR n=some (some (.ref f))/\kM K (.ref f)=true
section
variable {K:aI}{n:aD}{st:bL}{f:aB}
theorem hl_mk {od an:Option aB}{sl:Array (Option aE)}{oc kV dc pm cd ct:aE}(a:cH K bR n=some (some (.ref f)))(l:K.lookup f=some ⟨oc,od,.func (jR n n (kG st) (iB st) (bU st) .none kV dc pm an cd ct),sl⟩)(c:pU K cd n=true)(k:kM K (.ref f)=true):Hl K n st f:=⟨_,_,_,_,_,_,_,_,_,a,l,c,k⟩
theorem Aik {od an:Option aB}{sl:Array (Option aE)}{oc kV dc pm cd ct:aE}(a:cH K bR n=some (some (.ref f)))(l:K.lookup f=some ⟨oc,od,.func (jR n n (kG st) (iB st) (bU st) .none kV dc pm an cd ct),sl⟩)(c:pU K cd n=true)(k:kM K (.ref f)=true):Hs K n st f:=⟨_,fun_mk (st:=st) l c k,a,k⟩
noncomputable def Hs.fd (h:Hs K n st f):eY:=Classical.choose h
theorem Hs.fn (h:Hs K n st f):Fun K n n st f h.fd:=(vK h).1
theorem Hs.df {P:bA}{w:aX}{mg:aD->Option aE}{h base:aR}{k:Nat}{ps:List aD}{sp:Sp}(X:K.In h)(G:h.Ns bR mg)(H:Hs K n st f)(ok:FnOk P w K mg base CX0 k f H.fd ps sp)(b:Binds K H.fd ps []):Def P w K mg base n k ps sp:=⟨_,_,ok,gT X G (vK H).2.1,(vK H).2.2,b⟩
end
def Hm (K:aI)(m q:aD)(st:bL)(cB f:aB):Prop:=∃ fd,Fun K m q st f fd/\Meth K cB m f
section
variable {K:aI}{m q:aD}{st:bL}{cB f:aB}
theorem hm_mk {od an:Option aB}{sl:Array (Option aE)}{oc kV dc pm cd ct:aE}(a:jC K (.ref cB) m=some (some (.ref f)))(i:yL K (.ref f)=true)(l:K.lookup f=some ⟨oc,od,.func (jR m q (kG st) (iB st) (bU st) .none kV dc pm an cd ct),sl⟩)(c:pU K cd q=true)(k:kM K (.ref f)=true):Hm K m q st cB f:=⟨_,fun_mk (st:=st) l c k,a,i,k⟩
noncomputable def Hm.fd (h:Hm K m q st cB f):eY:=Classical.choose h
theorem Hm.fn (h:Hm K m q st cB f):Fun K m q st f h.fd:=(vK h).1
theorem Hm.me (h:Hm K m q st cB f):Meth K cB m f:=(vK h).2
end
theorem vX {us:List aE}{n:Nat}(h:us.length=n+1) : ∃ a r,us=a::r/\r.length=n:=by
 cases us with
 | nil=>exact absurd h (by simp)
 | cons a r=>exact⟨a,r,rfl,Nat.succ.inj h⟩
theorem bnd1 {K:aI}{x qual:aD}{st:bL}{f:aB}{fd:eY}{ps:List aD}(F:Fun K x qual st f fd)(hp:ps.length=1)(h : ∀ (kV doc pm:aE) (an:Option aB) (cdv ct:aE) a,bindArgs (jR x qual (kG st) (iB st) (bU st) .none kV doc pm an cdv ct) ⟨[a],[]⟩=pure (ps.zip [a])):Binds K fd ps []:=F.binds fun kV doc pm an cdv ct u0 hl=>by
 have g0:=hl.trans hp
 clear hl
 obtain⟨a,u1,rfl,g1⟩:=vX g0
 cases EV g1
 exact h kV doc pm an cdv ct a
theorem bnd2 {K:aI}{x qual:aD}{st:bL}{f:aB}{fd:eY}{ps:List aD}(F:Fun K x qual st f fd)(hp:ps.length=2)(h : ∀ (kV doc pm:aE) (an:Option aB) (cdv ct:aE) a b,bindArgs (jR x qual (kG st) (iB st) (bU st) .none kV doc pm an cdv ct) ⟨[a,b],[]⟩=pure (ps.zip [a,b])):Binds K fd ps []:=F.binds fun kV doc pm an cdv ct u0 hl=>by
 have g0:=hl.trans hp
 clear hl
 obtain⟨a,u1,rfl,g1⟩:=vX g0
 obtain⟨b,u2,rfl,g2⟩:=vX g1
 cases EV g2
 exact h kV doc pm an cdv ct a b
set_option maxHeartbeats 4000000 in
theorem all_mk {l:DU}{w:aX}{K:aI}{h:aR}{mg:aD->Option aE}{fa f_is_whole f_is_name f_is_pair f_Book_tables f_Book_size f__law_cell f__law_mix f_is_width f_Book_want_table f__law_names f__law_wrong f_are_widths f_Book_rows f_Book_width f__law_pairs f_Book___init__ f_Book_plain f__law_stands f__law_refused f_law:aB}(X:K.In h)(G:h.Ns bR mg)(hfa:mg "law" = some (.ref fa)){t_LETTERS t_FIGURES t_MOST_SIGNS t_MOST_WIDTH t_MOST_TABLES:Tok}
  {cB:aB} (aC:cH K bR "Book" = some (some (.ref cB))) (pg:uW K cB Str.empty=true) (hd:yN K cB=true) (po:DH K cB=true) (sa:jC K (.ref cB) "__setattr__" = some (some (.builtin "object.__setattr__"))) (mk:DM K cB=true) (kc:kM K (.ref cB)=true) (nW:jC K (.ref cB) "wide" = some none) (nH:jC K (.ref cB) "held" = some none)
  (h_is_whole:Hs K "is_whole" wZ f_is_whole) (h_is_name:Hs K "is_name" uA f_is_name) (h_is_pair:Hs K "is_pair" wW f_is_pair) (h_Book_tables:Hm K "tables" "Book.tables" xX cB f_Book_tables) (h_Book_size:Hm K "size" "Book.size" uF cB f_Book_size) (h__law_cell:Hs K "_law_cell" xN f__law_cell) (h__law_mix:Hs K "_law_mix" xD f__law_mix) (h_is_width:Hs K "is_width" xF f_is_width) (h_Book_want_table:Hm K "want_table" "Book.want_table" xY cB f_Book_want_table) (h__law_names:Hs K "_law_names" pI f__law_names) (h__law_wrong:Hs K "_law_wrong" uI f__law_wrong) (h_are_widths:Hs K "are_widths" rN f_are_widths) (h_Book_rows:Hm K "rows" "Book.rows" xJ cB f_Book_rows) (h_Book_width:Hm K "width" "Book.width" xS cB f_Book_width) (h__law_pairs:Hs K "_law_pairs" xR f__law_pairs) (h_Book___init__:Hm K "__init__" "Book.__init__" xZ cB f_Book___init__) (h_Book_plain:Hm K "plain" "Book.plain" xU cB f_Book_plain) (h__law_stands:Hs K "_law_stands" uK f__law_stands) (h__law_refused:Hs K "_law_refused" xW f__law_refused) (h_law:Hl K "law" nK f_law)
  {c_NoTable c_AskError c_TooMany c_Full c_NoRow c_NoDeed c_NoName c_NoText:aB} (y_NoTable:cH K bR "NoTable" = some (some (.ref c_NoTable))) (y_AskError:cH K bR "AskError" = some (some (.ref c_AskError))) (y_TooMany:cH K bR "TooMany" = some (some (.ref c_TooMany))) (y_Full:cH K bR "Full" = some (some (.ref c_Full))) (y_NoRow:cH K bR "NoRow" = some (some (.ref c_NoRow))) (y_NoDeed:cH K bR "NoDeed" = some (some (.ref c_NoDeed))) (y_NoName:cH K bR "NoName" = some (some (.ref c_NoName))) (y_NoText:cH K bR "NoText" = some (some (.ref c_NoText)))
  (x_NoTable:yO K c_NoTable [.type "ValueError",.type "Exception",.type "BaseException",.type "object"] "ValueError.__new__" = true) (xc:XCls K c_NoTable)
  (e_NoTable:sF K (.ref c_NoTable) (.ref c_NoTable)=some true) (e_AskError:sF K (.ref c_NoTable) (.ref c_AskError)=some true)
  (i_ValueError:jA K (.ref c_NoTable) (.type "ValueError")=some true) (i_NoTable:jA K (.ref c_NoTable) (.ref c_NoTable)=some true) (i_TooMany:jA K (.ref c_NoTable) (.ref c_TooMany)=some false) (i_Full:jA K (.ref c_NoTable) (.ref c_Full)=some false) (i_NoRow:jA K (.ref c_NoTable) (.ref c_NoRow)=some false) (i_NoDeed:jA K (.ref c_NoTable) (.ref c_NoDeed)=some false) (i_NoName:jA K (.ref c_NoTable) (.ref c_NoName)=some false) (i_NoText:jA K (.ref c_NoTable) (.ref c_NoText)=some false)
  (z_isinstance:cH K bR "isinstance" = some none) (z_int:cH K bR "int" = some none) (z_bool:cH K bR "bool" = some none) (z_abs:cH K bR "abs" = some none) (z_range:cH K bR "range" = some none) (z_len:cH K bR "len" = some none) (z_str:cH K bR "str" = some none) (z_all:cH K bR "all" = some none) (z_any:cH K bR "any" = some none) (z_list:cH K bR "list" = some none) (z_tuple:cH K bR "tuple" = some none) (z_dict:cH K bR "dict" = some none) (z_set:cH K bR "set" = some none) (z_sorted:cH K bR "sorted" = some none) (z_sum:cH K bR "sum" = some none) (z_min:cH K bR "min" = some none) (z_max:cH K bR "max" = some none) (z_enumerate:cH K bR "enumerate" = some none) (z_zip:cH K bR "zip" = some none) (z_reversed:cH K bR "reversed" = some none) (z_ValueError:cH K bR "ValueError" = some none) (g_LETTERS:cH K bR "LETTERS" = some (some (.str "abcdefghijklmnopqrstuvwxyz" t_LETTERS))) (g_FIGURES:cH K bR "FIGURES" = some (some (.str "0123456789" t_FIGURES))) (g_MOST_SIGNS:cH K bR "MOST_SIGNS" = some (some (.int 12 t_MOST_SIGNS))) (g_MOST_WIDTH:cH K bR "MOST_WIDTH" = some (some (.int 6 t_MOST_WIDTH))) (g_MOST_TABLES:cH K bR "MOST_TABLES" = some (some (.int 12 t_MOST_TABLES))) :
  ∃ fd:eY,(∀ (s:aG) (v:aE),oI s fd ⟨[v],[]⟩ [("_law_script",v)]) /\ ∀ base:aR,K.In base->base.Ns bR mg->FnOk l.prog w K mg base CX0 7 fa fd ["_law_script"] (spLaw K):=by
 obtain⟨_,an_law,_,_,kV_law,dc_law,pm_law,cd_law,ct_law,a_law,l_law,c_law,k_law⟩:=h_law
 have e:=hfa.symm.trans (gT X G a_law)
 cases e
 have B:Blt mg:=⟨fG X G z_isinstance,fG X G z_int,fG X G z_bool,fG X G z_abs,fG X G z_range,fG X G z_len,fG X G z_str,fG X G z_all,fG X G z_any,fG X G z_list,fG X G z_tuple,fG X G z_dict,fG X G z_set,fG X G z_sorted,fG X G z_sum,fG X G z_min,fG X G z_max,fG X G z_enumerate,fG X G z_zip,fG X G z_reversed,fG X G z_ValueError⟩
 have C:Cst mg:=⟨⟨_,gT X G g_LETTERS⟩,⟨_,gT X G g_FIGURES⟩,⟨_,gT X G g_MOST_SIGNS⟩,⟨_,gT X G g_MOST_WIDTH⟩,⟨_,gT X G g_MOST_TABLES⟩⟩
 have cl:Cls K cB:=⟨pg,hd,po,sa⟩
 have hB:cY K "Book" = some (.ref cB):=tN aC
 have V:Xcs K mg:=⟨⟨_,hB,cl,nW,nH⟩,⟨_,y_NoTable,x_NoTable⟩,⟨_,_,y_NoTable,gT X G y_NoTable,e_NoTable⟩,⟨_,_,y_NoTable,gT X G y_AskError,e_AskError⟩,⟨_,y_NoTable,fG X G z_ValueError,xc,i_ValueError⟩,⟨_,_,y_NoTable,gT X G y_NoTable,xc,i_NoTable⟩,⟨_,_,y_NoTable,gT X G y_TooMany,xc,i_TooMany⟩,⟨_,_,y_NoTable,gT X G y_Full,xc,i_Full⟩,⟨_,_,y_NoTable,gT X G y_NoRow,xc,i_NoRow⟩,⟨_,_,y_NoTable,gT X G y_NoDeed,xc,i_NoDeed⟩,⟨_,_,y_NoTable,gT X G y_NoName,xc,i_NoName⟩,⟨_,_,y_NoTable,gT X G y_NoText,xc,i_NoText⟩⟩
 refine⟨jR "law" "law" (kG nK) (iB nK) (bU nK) .none kV_law dc_law pm_law an_law cd_law ct_law,fun s v=>.of_eq rfl,fun base _ _=>?_⟩
 have D_is_whole:Def l.prog w K mg base "is_whole" 1 rD (spF K 0 uE):=h_is_whole.df X G (ok_is_whole h_is_whole.fn B C V ) (bnd1 h_is_whole.fn (ps:=rD) rfl fun _ _ _ _ _ _ _=>rfl)
 have D_is_name:Def l.prog w K mg base "is_name" 1 pE (spF K 0 eI):=h_is_name.df X G (ok_is_name h_is_name.fn B C V ) (bnd1 h_is_name.fn (ps:=pE) rfl fun _ _ _ _ _ _ _=>rfl)
 have D_is_pair:Def l.prog w K mg base "is_pair" 1 rA (spF K 0 lP):=h_is_pair.df X G (ok_is_pair h_is_pair.fn B C V ) (bnd1 h_is_pair.fn (ps:=rA) rfl fun _ _ _ _ _ _ _=>rfl)
 have D_Book_tables:MethX l.prog w K mg base "Book" "tables" 1 nU (spX K 1 iV):=⟨⟨_,_,_,hB,cl,h_Book_tables.me,GX h_Book_tables.fn B C V ,(bnd1 h_Book_tables.fn (ps:=nU) rfl fun _ _ _ _ _ _ _=>rfl)⟩⟩
 have D_Book_size:MethX l.prog w K mg base "Book" "size" 1 rP (spX K 0 rE):=⟨⟨_,_,_,hB,cl,h_Book_size.me,FQ h_Book_size.fn B C V ,(bnd1 h_Book_size.fn (ps:=rP) rfl fun _ _ _ _ _ _ _=>rfl)⟩⟩
 have D__law_cell:Def l.prog w K mg base "_law_cell" 1 pF (spF K 0 iT):=h__law_cell.df X G (FT h__law_cell.fn B C V ) (bnd2 h__law_cell.fn (ps:=pF) rfl fun _ _ _ _ _ _ _ _=>rfl)
 have D__law_mix:Def l.prog w K mg base "_law_mix" 1 mX (spF K 0 dN):=h__law_mix.df X G (ok__law_mix h__law_mix.fn B C V ) (bnd2 h__law_mix.fn (ps:=mX) rfl fun _ _ _ _ _ _ _ _=>rfl)
 have D_is_width:Def l.prog w K mg base "is_width" 2 rC (spF K 0 kK):=h_is_width.df X G (FP h_is_width.fn B C V D_is_whole) (bnd1 h_is_width.fn (ps:=rC) rfl fun _ _ _ _ _ _ _=>rfl)
 have D_Book_want_table:MethX l.prog w K mg base "Book" "want_table" 2 pL (spX K 0 lV):=⟨⟨_,_,_,hB,cl,h_Book_want_table.me,HD h_Book_want_table.fn B C V D_is_name,(bnd2 h_Book_want_table.fn (ps:=pL) rfl fun _ _ _ _ _ _ _ _=>rfl)⟩⟩
 have D__law_names:Def l.prog w K mg base "_law_names" 2 rM (spF K 1 pK):=h__law_names.df X G (GS h__law_names.fn B C V D__law_mix) (bnd2 h__law_names.fn (ps:=rM) rfl fun _ _ _ _ _ _ _ _=>rfl)
 have D__law_wrong:Def l.prog w K mg base "_law_wrong" 2 rK (spF K 0 rH):=h__law_wrong.df X G (GA h__law_wrong.fn B C V D__law_mix) (bnd2 h__law_wrong.fn (ps:=rK) rfl fun _ _ _ _ _ _ _ _=>rfl)
 have D_are_widths:Def l.prog w K mg base "are_widths" 3 rL (spF K 0 gR):=h_are_widths.df X G (GL h_are_widths.fn B C V D_is_name D_is_pair D_is_width) (bnd1 h_are_widths.fn (ps:=rL) rfl fun _ _ _ _ _ _ _=>rfl)
 have D_Book_rows:MethX l.prog w K mg base "Book" "rows" 3 pG (spX K 1 lU):=⟨⟨_,_,_,hB,cl,h_Book_rows.me,FH h_Book_rows.fn B C V D_Book_want_table,(bnd2 h_Book_rows.fn (ps:=pG) rfl fun _ _ _ _ _ _ _ _=>rfl)⟩⟩
 have D_Book_width:MethX l.prog w K mg base "Book" "width" 3 rF (spX K 0 rJ):=⟨⟨_,_,_,hB,cl,h_Book_width.me,GN h_Book_width.fn B C V D_Book_want_table,(bnd2 h_Book_width.fn (ps:=rF) rfl fun _ _ _ _ _ _ _ _=>rfl)⟩⟩
 have D__law_pairs:Def l.prog w K mg base "_law_pairs" 3 rG (spF K 1 pJ):=h__law_pairs.df X G (GG h__law_pairs.fn B C V D__law_cell D__law_mix D__law_names) (bnd1 h__law_pairs.fn (ps:=rG) rfl fun _ _ _ _ _ _ _=>rfl)
 have D_Book___init__:MakeX l.prog w K mg base "Book" 4 pM iU:=⟨⟨_,_,_,hB,⟨mk,h_Book___init__.me.at_,h_Book___init__.me.fn,kc⟩,HA h_Book___init__.fn B C V D_are_widths,(bnd2 h_Book___init__.fn (ps:=pM) rfl fun _ _ _ _ _ _ _ _=>rfl),gT X G aC⟩,mkBook_one⟩
 have D_Book_plain:MethX l.prog w K mg base "Book" "plain" 4 pH (spX K 2 lR):=⟨⟨_,_,_,hB,cl,h_Book_plain.me,GJ h_Book_plain.fn B C V D_Book_tables D_Book_rows,(bnd1 h_Book_plain.fn (ps:=pH) rfl fun _ _ _ _ _ _ _=>rfl)⟩⟩
 have D__law_stands:Def l.prog w K mg base "_law_stands" 5 rS (spF K 0 nT):=h__law_stands.df X G (GV h__law_stands.fn B C V D_Book_tables D_Book_size D_Book_rows D_Book_width D_Book_plain) (bnd2 h__law_stands.fn (ps:=rS) rfl fun _ _ _ _ _ _ _ _=>rfl)
 have D__law_refused:Def l.prog w K mg base "_law_refused" 6 rQ (spF K 0 rR):=h__law_refused.df X G (GT h__law_refused.fn B C V D_Book___init__) (bnd2 h__law_refused.fn (ps:=rQ) rfl fun _ _ _ _ _ _ _ _=>rfl)
 exact(ok_law (fun_mk (st:=nK) l_law c_law k_law) B C V D_Book_tables D__law_cell D__law_mix D__law_wrong D__law_pairs D_Book___init__ D_Book_plain D__law_stands D__law_refused).imp sp_law
theorem walk {l:DU}{q:bA}{loose:List aD}{XP:(aD->Option aE)->aR->Prop}{YP:aX->aR->Prop}{d:DefRec}{K:Params->aI}(hn:l.most=some 63)(hdf:d.params.defaults=[])
  (hY : ∀ (w:aX) (h:aR),YP w h->(K w.params).In h)
  (F : ∀ (w:aX) (mg:aD->Option aE) (fa:aB) (h:aR),(K w.params).In h->h.Ns bR mg->mg d.name=some (.ref fa) ->
   ∃ fd:eY,(∀ (s:aG) (u:aE),oI s fd ⟨[u],[]⟩ [("_law_script",u)]) /\ ∀ base:aR,(K w.params).In base->base.Ns bR mg->FnOk l.prog w (K w.params) mg base CX0 7 fa fd ["_law_script"] (spLaw (K w.params))) :
  PySem.W.WalkO q loose XP YP l.row.toRowW d [] (fun f vs=>PySem.call f vs):=
 L2.walk_of (n:=63) (k:=7) (x:="_law_script") (CX:=fun _=>CX0) (sp:=fun w=>spLaw (K w.params)) hn (by decide) hdf ⟨rfl,by decide,by decide⟩ hY F (fun _ _ a ns hl _ hS=>⟨a,ns,rfl,hS,hl,fun _=>rfl⟩) fun _ _ _ _ _ z=>z
end Aw
def PySem.W.Fast.tw13754988160884149664:=0
def PySem.W.Fast.tw1160956628754737250:=0
def PySem.W.Fast.tw13064051109191559909:=0
def PySem.W.Fast.tw7728909241716607958:=0
def PySem.W.Fast.tw693930913742887591:=0
def PySem.W.Fast.tw13774650230074352445:=0
def PySem.W.Fast.tw4352547980899936666:=0
def PySem.W.Fast.tw7182565349916711431:=0
def PySem.W.Fast.tw9550151654325393200:=0
def PySem.W.Fast.tw18078176637537440501:=0
def PySem.W.Fast.tw1191728142289243395:=0
def PySem.W.Fast.tw10582316274841292426:=0
def PySem.W.Fast.tw6558100128106775671:=0
def PySem.W.Fast.tw10365606035709886037:=0
def PySem.W.Fast.tw13695458809631695218:=0
def PySem.W.Fast.tw9102747661689100500:=0
def PySem.W.Fast.tw3418652604515272062:=0
def PySem.W.Fast.tw2653023754502069187:=0
def PySem.W.Fast.tw2928404056235675194:=0
def PySem.W.Fast.tw1173342701481919748:=0
def PySem.W.Fast.tw4990180058956842016:=0
def PySem.W.Fast.tw7048221221042351833:=0
def PySem.W.Fast.tw1358818098996022241:=0
def PySem.W.Fast.tw9063316675127868021:=0
def PySem.W.Fast.tw7031039142342311364:=0
def PySem.W.Fast.tw14543610825296497833:=0
def PySem.W.Fast.tw1226315134715084636:=0
def PySem.W.Fast.tw9407245792825916283:=0
def PySem.W.Fast.tw846575261605768496:=0
def PySem.W.Fast.tw12144129946359648390:=0
def PySem.W.Fast.tw2453438097396525012:=0
def PySem.W.Fast.tw18300935434056014145:=0
def PySem.W.Fast.tw2883408023847550242:=0
def PySem.W.Fast.tw2615064780745366473:=0
def PySem.W.Fast.tw17762574872719558463:=0
def PySem.W.Fast.tw16938928950076421452:=0
def PySem.W.Fast.tw12170163533966438164:=0
def PySem.W.Fast.tw10815812512454314920:=0
def PySem.W.Fast.tw16091642406217548122:=0
def PySem.W.Fast.tw16216680230850564775:=0
def PySem.W.Fast.tw16968624378732347901:=0
def PySem.W.Fast.tw13045425411173860309:=0
def PySem.W.Fast.tw18165028405167837815:=0
def PySem.W.Fast.tw9484067415026446877:=0
def PySem.W.Fast.tw9963146311172651367:=0
def PySem.W.Fast.tw13762708195257097990:=0
def PySem.W.Fast.tw3528107890830704052:=0
def PySem.W.Fast.tw13927114125669291977:=0
def PySem.W.Fast.tw14026072459243572789:=0
def PySem.W.Fast.tw12703739337678401048:=0
def PySem.W.Fast.tw9018377332466508451:=0
def PySem.W.Fast.tw15785214296985517764:=0
def PySem.W.Fast.tw14003035376270214334:=0
def PySem.W.Fast.tw15318749351459868971:=0
def PySem.W.Fast.tw1788596001873378051:=0
def PySem.W.Fast.tw14547741351145547649:=0
def PySem.W.Fast.tw17747745821293676080:=0
def PySem.W.Fast.tw17824730663751744518:=0
def PySem.W.Fast.tw10543229452368190798:=0
def PySem.W.Fast.tw17479756214272573524:=0
def PySem.W.Fast.tw17051678351522871324:=0
def PySem.W.Fast.tw4544072075915968858:=0
def PySem.W.Fast.tw14790857360684479488:=0
def PySem.W.Fast.tw7272538262872157698:=0
def PySem.W.Fast.tw16103299141259980587:=0
def PySem.W.Fast.tw310166934533076405:=0
def PySem.W.Fast.tw12158643649798206742:=0
def PySem.W.Fast.tw8515853707663896978:=0
def PySem.W.Fast.tw1111749852386961452:=0
def PySem.W.Fast.tw3010004360755261741:=0
def PySem.W.Fast.tw14157503138709686271:=0
def PySem.W.Fast.tw6550764458233056393:=0
def PySem.W.Fast.tw13589024233367970014:=0
def PySem.W.Fast.tw12704683946572590562:=0
def PySem.W.Fast.tw5256875787221638588:=0
def PySem.W.Fast.tw9774409549274731806:=0
def PySem.W.Fast.tw8822341293622320502:=0
def PySem.W.Fast.tw9008101027508825223:=0
def PySem.W.Fast.tw11327891840367647721:=0
def PySem.W.Fast.tw8358063428636270725:=0
def PySem.W.Fast.tw5533039199211024872:=0
def PySem.W.Fast.tw13604826387048514291:=0
def PySem.W.Fast.tw5174506168976561113:=0
def PySem.W.Fast.tw10667278552958392981:=0
def PySem.W.Fast.tw9976211175980012245:=0
def PySem.W.Fast.tw13247203207671762661:=0
def PySem.W.Fast.tw4850154697263715749:=0
def PySem.W.Fast.tw7132975855750143580:=0
def PySem.W.Fast.tw10925736586239895664:=0
def PySem.W.Fast.tw7549725357898361134:=0
def PySem.W.Fast.tw14807915114634567040:=0
def PySem.W.Fast.tw13072847363540750316:=0
def PySem.W.Fast.tw1673264159070791878:=0
def PySem.W.Fast.tw15031462347451533421:=0
def PySem.W.Fast.tw9779938090760226579:=0
def PySem.W.Fast.tw722431131964695238:=0
def PySem.W.Fast.tw10043017041722034205:=0
def PySem.W.Fast.tw3724116055428851227:=0
def PySem.W.Fast.tw11386233809909750600:=0
def PySem.W.Fast.tw11918297197729660209:=0
def PySem.W.Fast.tw2541308936362635400:=0
def PySem.W.Fast.tw7701756650451352747:=0
def PySem.W.Fast.tw3184071511390629237:=0
def PySem.W.Fast.tw3066752485665863090:=0
def PySem.W.Fast.tw8712312274511959826:=0
def PySem.W.Fast.tw1445698675247115918:=0
def PySem.W.Fast.tw5637544380539165355:=0
def PySem.W.Fast.tw4978292452608940239:=0
def PySem.W.Fast.tw10535630088257367022:=0
def PySem.W.Fast.tw1405687604424870932:=0
def PySem.W.Fast.tw15288143225887974292:=0
def PySem.W.Fast.tw3164638669317639668:=0
def PySem.W.Fast.tw12094925334924330704:=0
def PySem.W.Fast.tw6244862954101697562:=0
def PySem.W.Fast.tw6605248989956729049:=0
def PySem.W.Fast.tw12164656932703829577:=0
def PySem.W.Fast.tw17493945457990351114:=0
def PySem.W.Fast.tw8942296354025025345:=0
def PySem.W.Fast.tw18190388126731829667:=0
def PySem.W.Fast.tw8508184353918749109:=0
def PySem.W.Fast.tw17463094710178547148:=0
def PySem.W.Fast.tw7832121348680582100:=0
def PySem.W.Fast.tw3249179791927928117:=0
def PySem.W.Fast.tw16518475361550381444:=0
def PySem.W.Fast.tw6902367832265094381:=0
def PySem.W.Fast.tw15205808108882119648:=0
def PySem.W.Fast.tw3102732976342553828:=0
def PySem.W.Fast.tw8948736577167953868:=0
def PySem.W.Fast.tw10440325461002734598:=0
def PySem.W.Fast.tw13576343869697428905:=0
def PySem.W.Fast.tw4399714803688036309:=0
def PySem.W.Fast.tw8193661968897580718:=0
def PySem.W.Fast.tw3326618069451461924:=0
def PySem.W.Fast.tw9989424598996059291:=0
def PySem.W.Fast.tw15613632500360759806:=0
def PySem.W.Fast.tw3380983917599385164:=0
def PySem.W.Fast.tw13681084359773896649:=0
def PySem.W.Fast.tw12345622756451780663:=0
def PySem.W.Fast.tw13456932312381709194:=0
def PySem.W.Fast.tw7486834244214406106:=0
def PySem.W.Fast.tw1496634543025294391:=0
def PySem.W.Fast.tw17965640080206875076:=0
def PySem.W.Fast.tw16991168557876927811:=0
def PySem.W.Fast.tw7624919905828303405:=0
def PySem.W.Fast.tw12643623759538953431:=0
def PySem.W.Fast.tw2759566075755651090:=0
def PySem.W.Fast.tw9392586806864375730:=0
def PySem.W.Fast.tw1811161270716038493:=0
def PySem.W.Fast.tw7187047172479134346:=0
def PySem.W.Fast.tw13835424128974503255:=0
def PySem.W.Fast.tw5687455460187299273:=0
def PySem.W.Fast.tw5089938050307246047:=0
def PySem.W.Fast.tw15486905008446594543:=0
def PySem.W.Fast.tw1541619766760050598:=0
def PySem.W.Fast.tw5699694218426348248:=0
def PySem.W.Fast.tw11662060204284633736:=0
def PySem.W.Fast.tw14686755053856074903:=0
def PySem.W.Fast.tw13986231805387010036:=0
def PySem.W.Fast.tw10355263908487632437:=0
def PySem.W.Fast.tw12591718101484042901:=0
def PySem.W.Fast.tw9959534958346004940:=0
def PySem.W.Fast.tw12068294371215037286:=0
def PySem.W.Fast.tw12574041485460932363:=0
def PySem.W.Fast.tw3177283699522093953:=0
def PySem.W.Fast.tw14090350202945184204:=0
def PySem.W.Fast.tw18276999026953010160:=0
def PySem.W.Fast.tw12882629960020094308:=0
def PySem.W.Fast.tw17010305651872381325:=0
def PySem.W.Fast.tw6804806797298940299:=0
def PySem.W.Fast.tw3723514442179181347:=0
def PySem.W.Fast.tw16473750511085844088:=0
def PySem.W.Fast.tw14941366858576981757:=0
def PySem.W.Fast.tw6444434498745255070:=0
def PySem.W.Fast.tw11378910087148047555:=0
def PySem.W.Fast.tw15625896214422303068:=0
def PySem.W.Fast.tw11729532747264858627:=0
def PySem.W.Fast.tw11596836654853839916:=0
def PySem.W.Fast.tw1110294126830112290:=0
def PySem.W.Fast.tw7309531217314061147:=0
def PySem.W.Fast.tw5506370977224495586:=0
def PySem.W.Fast.tw2581164728337035846:=0
def PySem.W.Fast.tw5898328664430769334:=0
def PySem.W.Fast.tw7038434021058912423:=0
def PySem.W.Fast.tw8588153849863576687:=0
def PySem.W.Fast.tw12287893296879418012:=0
def PySem.W.Fast.tw2392385547964086762:=0
def PySem.W.Fast.tw9464268374241560480:=0
def PySem.W.Fast.tw7550321173424101656:=0
def PySem.W.Fast.tw14233145568870683231:=0
def PySem.W.Fast.tw851695216945129611:=0
def PySem.W.Fast.tw4308859923754366124:=0
def PySem.W.Fast.tw7292120257430273116:=0
def PySem.W.Fast.tw18367014159867730901:=0
def PySem.W.Fast.tw14062650049620857345:=0
def PySem.W.Fast.tw3018222296254295324:=0
def PySem.W.Fast.tw16296310702397270403:=0
def PySem.W.Fast.tw3703007514954028611:=0
def PySem.W.Fast.tw15384186464129194141:=0
def PySem.W.Fast.tw5599681716333023056:=0
def PySem.W.Fast.tw16349964057028374906:=0
def PySem.W.Fast.tw1225348220721116020:=0
def PySem.W.Fast.tw3670307904569704998:=0
def PySem.W.Fast.tw4862721734638394064:=0
def PySem.W.Fast.tw8373103147274366828:=0
def PySem.W.Fast.tw4744423922695736016:=0
def PySem.W.Fast.tw6545940951201514536:=0
def PySem.W.Fast.tw17105227014369513689:=0
def PySem.W.Fast.tw12257770906573936553:=0
def PySem.W.Fast.tw16969850010958643235:=0
def PySem.W.Fast.tw14921769669077752612:=0
def PySem.W.Fast.tw920239662513920085:=0
def PySem.W.Fast.tw12943295277980147488:=0
def PySem.W.Fast.tw504643798726123230:=0
def PySem.W.Fast.tw11037463589494307984:=0
def PySem.W.Fast.tw14221788691925000439:=0
def PySem.W.Fast.tw12560548337478960292:=0
def PySem.W.Fast.tw11043260218506314351:=0
def PySem.W.Fast.tw16660460657103780173:=0
def PySem.W.Fast.tw7286351229423480072:=0
def PySem.W.Fast.tw16309660539902007638:=0
def PySem.W.Fast.tw14200978721434734602:=0
def PySem.W.Fast.tw3096615017176490045:=0
def PySem.W.Fast.tw8851052945746408141:=0
def PySem.W.Fast.tw12576242802056268125:=0
def PySem.W.Fast.tw15434017242563761137:=0
def PySem.W.Fast.tw5553511371976056408:=0
def PySem.W.Fast.tw12959478004398313603:=0
def PySem.W.Fast.tw10010744674260074786:=0
def PySem.W.Fast.tw1422394657874312560:=0
def PySem.W.Fast.tw7154477165983189635:=0
def PySem.W.Fast.tw2271768105574265438:=0
def PySem.W.Fast.tw769764735592597313:=0
def PySem.W.Fast.tw5614471960104656576:=0
def PySem.W.Fast.tw9420873512916624283:=0
def PySem.W.Fast.tw6027480214680656919:=0
def PySem.W.Fast.tw9975950840457980353:=0
def PySem.W.Fast.tw7120489333911151083:=0
def PySem.W.Fast.tw1576126799028026622:=0
def PySem.W.Fast.tw123253585425309204:=0
def PySem.W.Fast.tw793420624977411260:=0
def PySem.W.Fast.tw16703766311484636923:=0
def PySem.W.Fast.tw7136066940325681329:=0
def PySem.W.Fast.tw10681937093339171305:=0
def PySem.W.Fast.tw11108523194608477280:=0
def PySem.W.Fast.tw17821562771022166954:=0
def PySem.W.Fast.tw2097119734249792565:=0
def PySem.W.Fast.tw17825228752597411444:=0
def PySem.W.Fast.tw6938609644121818938:=0
def PySem.W.Fast.tw295198170497524365:=0
def PySem.W.Fast.tw7785382151294255939:=0
def PySem.W.Fast.tw6181758121251482789:=0
def PySem.W.Fast.tw5713488049851022477:=0
def PySem.W.Fast.tw17934937073113422292:=0
def PySem.W.Fast.tw5358244265277089086:=0
def PySem.W.Fast.tw13149976197601726219:=0
def PySem.W.Fast.tw3894728937188197111:=0
def PySem.W.Fast.tw14157419917513100677:=0
def PySem.W.Fast.tw13753422261795323050:=0
def PySem.W.Fast.tw15487494792829203795:=0
def PySem.W.Fast.tw9003234669009815183:=0
def PySem.W.Fast.tw10439081476758561687:=0
def PySem.W.Fast.tw11222306181033688826:=0
def PySem.W.Fast.tw14971727488269894542:=0
def PySem.W.Fast.tw1407196106879787299:=0
def PySem.W.Fast.tw11157522481789493342:=0
def PySem.W.Fast.tw8486889363098361237:=0
def PySem.W.Fast.tw5641466866108875215:=0
def PySem.W.Fast.tw8342268868287648558:=0
def PySem.W.Fast.tw17082570269084449101:=0
def PySem.W.Fast.tw6840955397126478999:=0
def PySem.W.Fast.tw11982458663413205854:=0
def PySem.W.Fast.tw10506838316684023552:=0
def PySem.W.Fast.tw8017874919380170247:=0
def PySem.W.Fast.tw6567049846840655667:=0
def PySem.W.Fast.tw5532939117314990255:=0
def PySem.W.Fast.tw12466209619161598736:=0
def PySem.W.Fast.tw2911195877974591484:=0
def PySem.W.Fast.tw11521247216129807639:=0
def PySem.W.Fast.tw18212432753263938219:=0
def PySem.W.Fast.tw7094916247426006585:=0
def PySem.W.Fast.tw14851399667211792853:=0
def PySem.W.Fast.tw12557341914077426215:=0
def PySem.W.Fast.tw9764430227179710686:=0
def PySem.W.Fast.tw12508430310557438040:=0
def PySem.W.Fast.tw8834029509272053443:=0
def PySem.W.Fast.tw2168316440232809753:=0
def PySem.W.Fast.tw6535944037104242088:=0
def PySem.W.Fast.tw16310459113463308700:=0
def PySem.W.Fast.tw14560052126341732300:=0
def PySem.W.Fast.tw7755969551398231815:=0
def PySem.W.Fast.tw8812411625530364100:=0
open PySem PySem.W PyProof.Rows
set_option maxRecDepth 100000 in
set_option maxHeartbeats 0 in
theorem PySem.Challenge.cw_askwithin_k08_books_made_holds : PySem.Challenge.rw_askwithin_k08_books_made.Holds := by
 w_on; o_law; k_head; (case hw=>w_witness2)
 k_fill
 refine Aw.walk (l:=PySem.Challenge.rw_askwithin_k08_books_made) rfl rfl (fun w h Y=>PySem.W.kIn_of Y) ?F
 case F=>
  intro w mg fa h KX G hmg
  refine' Aw.all_mk KX G hmg ?aC ?pg ?hd ?po ?sa ?mk ?kc ?nW ?nH (Aw.Aik ?a_is_whole ?l_is_whole ?c_is_whole ?k_is_whole) (Aw.Aik ?a_is_name ?l_is_name ?c_is_name ?k_is_name) (Aw.Aik ?a_is_pair ?l_is_pair ?c_is_pair ?k_is_pair) (Aw.hm_mk ?a_Book_tables ?i_Book_tables ?l_Book_tables ?c_Book_tables ?k_Book_tables) (Aw.hm_mk ?a_Book_size ?i_Book_size ?l_Book_size ?c_Book_size ?k_Book_size) (Aw.Aik ?a__law_cell ?l__law_cell ?c__law_cell ?k__law_cell) (Aw.Aik ?a__law_mix ?l__law_mix ?c__law_mix ?k__law_mix) (Aw.Aik ?a_is_width ?l_is_width ?c_is_width ?k_is_width) (Aw.hm_mk ?a_Book_want_table ?i_Book_want_table ?l_Book_want_table ?c_Book_want_table ?k_Book_want_table) (Aw.Aik ?a__law_names ?l__law_names ?c__law_names ?k__law_names) (Aw.Aik ?a__law_wrong ?l__law_wrong ?c__law_wrong ?k__law_wrong) (Aw.Aik ?a_are_widths ?l_are_widths ?c_are_widths ?k_are_widths) (Aw.hm_mk ?a_Book_rows ?i_Book_rows ?l_Book_rows ?c_Book_rows ?k_Book_rows) (Aw.hm_mk ?a_Book_width ?i_Book_width ?l_Book_width ?c_Book_width ?k_Book_width) (Aw.Aik ?a__law_pairs ?l__law_pairs ?c__law_pairs ?k__law_pairs) (Aw.hm_mk ?a_Book___init__ ?i_Book___init__ ?l_Book___init__ ?c_Book___init__ ?k_Book___init__) (Aw.hm_mk ?a_Book_plain ?i_Book_plain ?l_Book_plain ?c_Book_plain ?k_Book_plain) (Aw.Aik ?a__law_stands ?l__law_stands ?c__law_stands ?k__law_stands) (Aw.Aik ?a__law_refused ?l__law_refused ?c__law_refused ?k__law_refused) (Aw.hl_mk ?a_law ?l_law ?c_law ?k_law)  ?y_NoTable ?y_AskError ?y_TooMany ?y_Full ?y_NoRow ?y_NoDeed ?y_NoName ?y_NoText ?x_NoTable ⟨?xga,?xgh,?xcl,?xmo,?xmb,?xic⟩ ?e_NoTable ?e_AskError ?i_ValueError ?i_NoTable ?i_TooMany ?i_Full ?i_NoRow ?i_NoDeed ?i_NoName ?i_NoText ?z_isinstance ?z_int ?z_bool ?z_abs ?z_range ?z_len ?z_str ?z_all ?z_any ?z_list ?z_tuple ?z_dict ?z_set ?z_sorted ?z_sum ?z_min ?z_max ?z_enumerate ?z_zip ?z_reversed ?z_ValueError ?g_LETTERS ?g_FIGURES ?g_MOST_SIGNS ?g_MOST_WIDTH ?g_MOST_TABLES
  (case aC=>k_is); (case pg=>k_is); (case hd=>k_is); (case po=>k_is); (case sa=>k_is); (case mk=>k_is); (case kc=>k_is); (case nW=>k_is); (case nH=>k_is)
  (case a_is_whole=>k_is); (case l_is_whole=>k_is); (case c_is_whole=>k_is); (case k_is_whole=>k_is)
  (case a_is_name=>k_is); (case l_is_name=>k_is); (case c_is_name=>k_is); (case k_is_name=>k_is)
  (case a_is_pair=>k_is); (case l_is_pair=>k_is); (case c_is_pair=>k_is); (case k_is_pair=>k_is)
  (case a_Book_tables=>k_is); (case i_Book_tables=>k_is); (case l_Book_tables=>k_is); (case c_Book_tables=>k_is); (case k_Book_tables=>k_is)
  (case a_Book_size=>k_is); (case i_Book_size=>k_is); (case l_Book_size=>k_is); (case c_Book_size=>k_is); (case k_Book_size=>k_is)
  (case a__law_cell=>k_is); (case l__law_cell=>k_is); (case c__law_cell=>k_is); (case k__law_cell=>k_is)
  (case a__law_mix=>k_is); (case l__law_mix=>k_is); (case c__law_mix=>k_is); (case k__law_mix=>k_is)
  (case a_is_width=>k_is); (case l_is_width=>k_is); (case c_is_width=>k_is); (case k_is_width=>k_is)
  (case a_Book_want_table=>k_is); (case i_Book_want_table=>k_is); (case l_Book_want_table=>k_is); (case c_Book_want_table=>k_is); (case k_Book_want_table=>k_is)
  (case a__law_names=>k_is); (case l__law_names=>k_is); (case c__law_names=>k_is); (case k__law_names=>k_is)
  (case a__law_wrong=>k_is); (case l__law_wrong=>k_is); (case c__law_wrong=>k_is); (case k__law_wrong=>k_is)
  (case a_are_widths=>k_is); (case l_are_widths=>k_is); (case c_are_widths=>k_is); (case k_are_widths=>k_is)
  (case a_Book_rows=>k_is); (case i_Book_rows=>k_is); (case l_Book_rows=>k_is); (case c_Book_rows=>k_is); (case k_Book_rows=>k_is)
  (case a_Book_width=>k_is); (case i_Book_width=>k_is); (case l_Book_width=>k_is); (case c_Book_width=>k_is); (case k_Book_width=>k_is)
  (case a__law_pairs=>k_is); (case l__law_pairs=>k_is); (case c__law_pairs=>k_is); (case k__law_pairs=>k_is)
  (case a_Book___init__=>k_is); (case i_Book___init__=>k_is); (case l_Book___init__=>k_is); (case c_Book___init__=>k_is); (case k_Book___init__=>k_is)
  (case a_Book_plain=>k_is); (case i_Book_plain=>k_is); (case l_Book_plain=>k_is); (case c_Book_plain=>k_is); (case k_Book_plain=>k_is)
  (case a__law_stands=>k_is); (case l__law_stands=>k_is); (case c__law_stands=>k_is); (case k__law_stands=>k_is)
  (case a__law_refused=>k_is); (case l__law_refused=>k_is); (case c__law_refused=>k_is); (case k__law_refused=>k_is)
  (case a_law=>k_is); (case l_law=>k_is); (case c_law=>k_is); (case k_law=>k_is)
  (case y_NoTable=>k_is); (case y_AskError=>k_is); (case y_TooMany=>k_is); (case y_Full=>k_is); (case y_NoRow=>k_is); (case y_NoDeed=>k_is); (case y_NoName=>k_is); (case y_NoText=>k_is); (case x_NoTable=>k_exc); (case xga=>k_is); (case xgh=>k_is); (case xcl=>k_is); (case xmo=>k_is); (case xmb=>k_is); (case xic=>k_is); (case e_NoTable=>kts_exm); (case e_AskError=>kts_exm); (case i_ValueError=>kit_is); (case i_NoTable=>kit_is); (case i_TooMany=>kit_is); (case i_Full=>kit_is); (case i_NoRow=>kit_is); (case i_NoDeed=>kit_is); (case i_NoName=>kit_is); (case i_NoText=>kit_is)
  (case z_isinstance=>k_is); (case z_int=>k_is); (case z_bool=>k_is); (case z_abs=>k_is); (case z_range=>k_is); (case z_len=>k_is); (case z_str=>k_is); (case z_all=>k_is); (case z_any=>k_is); (case z_list=>k_is); (case z_tuple=>k_is); (case z_dict=>k_is); (case z_set=>k_is); (case z_sorted=>k_is); (case z_sum=>k_is); (case z_min=>k_is); (case z_max=>k_is); (case z_enumerate=>k_is); (case z_zip=>k_is); (case z_reversed=>k_is); (case z_ValueError=>k_is)
  (case g_LETTERS=>k_is); (case g_FIGURES=>k_is); (case g_MOST_SIGNS=>k_is); (case g_MOST_WIDTH=>k_is); (case g_MOST_TABLES=>k_is)
