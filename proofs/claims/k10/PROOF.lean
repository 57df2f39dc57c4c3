import PyProof.Rows.All
import Wide.All
import OpenK.AllK
import Wide.FinOn
import Lean
import PyProof.EqAt
import PyProof.EqKinds
import PyProof.TupleCall
import PyProof.TupleOfStr
import PyProof.ListStr
import KE.KSortTup
import PyProof.Rows.SortShellK
import PyProof.MeetsSeq2
import PyProof.FactsAll.list_4
import PyProof.AutoSeq1
import PyProof.ConsumeWalk
import PyProof.ListMulRoad
import PyProof.Rows.SeqMore
import PyProof.FactsAll.tuple_2
import KE.KTryMore
import OpenK.KOwn
import PyProof.Rows.CatchBare
import KE.KIsAll
import PyProof.ExcArgsOwn
import PyProof.ExcAttrAll.ValueError
import KE.RegKTryMore
import KE.RegKIsAll
import PyProof.StrCalls2
import PyProof.StrLawsChain
import PyProof.StrLawsTight
import PyProof.Rows.StrNews
import KE.KIntText
import PyProof.Rows.StrNews2
import PyProof.Rows.StrLast
import PyProof.ZipIter
import PyProof.TupleIter
import PyProof.AttrMissHeap
import PyProof.Rows.SortStr
import PyProof.SetKind
import PyProof.Rows.SetFrom
import PyProof.AutoListH
import PyProof.ListNew
import PyProof.FactsAll.list_2
import PyProof.ListRange
import PyProof.CollectWalk
import PyProof.EnumMake
import PyProof.DictItemsLoops
import PyProof.DictWalks
import PyProof.DictValues
import PyProof.WalksMore
import PyProof.SeqI3
import PyProof.Rows.SumAny
import PyProof.MeetsDictList
import PyProof.Rows.StrItems
import PyProof.StrLawsFrom
import PySem.Challenge.RW_askwithin_k10_deeds_refused
open PySem renaming PyData->aA,Str->aB,Addr->aD,Value->aE,Shared->aH,wpAny_bind->aM,wpAny->aP,model->aQ,Expr->aS,Heap->aU,Obj->aX,wpAny_pure->aY,World->bA,Program->bE,Pos->bG,Stmt->bH,starEach->bI,eval->bJ,Around->bY,mainGlobals->bZ,Env->dZ,Paired->eO,compareOp->eT,backTo->fF,FuncData->fJ,Scope->gZ,sysModules->iB,wpAny_mono->iW,wpAny_holding->iX,codeAny->iY,bootBuiltins->iZ,boot_len->jA,binaryOp->kI,assignEach->kJ,Spec->kN,NameKind->lH,swapsWith->lT,holding->lU,merged->mV,assign->mW,IsPart->mZ,getItem->oA,Result->oB,ReadsAll->oE,Reads->oF,DictEntry->oK,wpAny_newObj_type->pN,attributeBase->pO,wpAny_truthy_bool->rB,wpAny_call_entry->rC,stored->rD,standAt->rE,foldedSetIterable->rF,codeAny_mono->rG,codeAny_builtin->rH,BindsTo->rR,wpAny_typeOf->uB,wpAny_passesOwn->uC,valueAt->uD,typeLookup->uE,sliceBounds->uF,sizeLine_eq->uG,relabel->uH,keywordEach->uI,callerA->uJ,backToKw->uK,GenState->uT,wpAny_execs_nil->xJ,setFlight->xK,getMethod->xM,bindArgs->xN,behindInMarks->xO,PassesOwn->xT,wpAny_specialOf->BA,wpAny_callSpecial?_slot->BB,scanBound->BC,plainId_quiet->BD,mem_of_lookup->BJ,wpAny_typeNameOf_keyiter->IC,wpAny_typeNameOfWhole_keyiter->ID,wpAny_pyIter_list->IE,wpAny_newList->IF,wpAny_dictEntries->IG,wpAny_Call_Name_kw->IH,subscripted->II,letOwnedTupleGo->IK,concat_meets->IL,wpAny_isInstance->UT,wpAny_execs_cons->UU,unbindBehindTheSuite->UV,noFill_tuple_add->UW,codeAny_call_builtin->UX,SetTable->VI,Builtin->VN
open PySem.W renaming Frag->aJ,nsIn->cP,mg_of->fO,mg_none_of->gF,kitOne->gM,fnOf->jM,kia_one->kL,findIn->kM,keepIn->lV,emptyDict->mX,instObj->oG,codeIn->uM,exmOne->xQ,excIn->xR,plainGet->BK,lookIn->IM,isFn->IP,hideAll_get->IQ,hasDictIn->IR,callWith_K->IS,takerIn->UY,plainOver->UZ,plainGet_of->VA,of_hideAll->VB,methodObj->VC,methodCall_KW->VD,makesIn->VE,kitx_list->VF,kitx_dict->VG,OpenLaw->VH
open PySem.PyData renaming int->aZ,str->bK,eqv->cL,canLay0->cM,depthAll->dI,bool->eM,tuple->gG,depth->jN,eqvAll->pP,canLayAll0->xS,strOk->BL,list->IU
open Or renaming inl->bB,inr->bC
open Option renaming bind_some->bR,map_eq_some_iff->oH,map_some->rK,join_some->BN,isSome_map->VR,isSome_iff_exists->VS
open Nat renaming le_refl->bU,ne_of_lt->dF,zero_le->fP,lt_of_lt_of_le->gN,lt_irrefl->jP,le_trans->jQ,ne_of_gt->rL,le_succ->uO,lt_trans->xU,le_of_lt->BO,lt_succ_of_lt->IV,le_of_eq->IW,add_assoc->IY,min_eq_left->VT,lt_succ_self->VU
open List renaming mem_map->cA,mem_cons_self->cC,mem_cons_of_mem->cD,length_map->cJ,mem_cons->cQ,map_cons->cR,mem_singleton->dB,range->dG,size_toArray->dY,map_map->eX,length_cons->fG,getElem?_map->fH,getElem?_eq_some_iff->fI,all_eq_true->fQ,nodup_cons->gH,find?_cons->gT,lookup->iO,getElem?_eq_getElem->iP,toArray->jR,mem_append->jS,replicate->lI,getElem?_set_self->lJ,getElem?_set_ne->lK,lookup_cons->lW,getElem_mem->lX,mem_append_right->mY,mem_flatten->oI,length_take->oJ,sum_cons->pQ,mem_range->pR,mem_of_getElem?->pS,map_congr_left->pT,length_append->pU,length->uP,flatten_cons->uQ,filter_eq_self->uR,append_nil->uS,pairwise_map->xV,not_mem_nil->xW,mem_of_mem_take->xX,map_id->xY,getElem?_cons_zero->xZ,getElem?_cons_succ->yA,eq_nil_of_length_eq_zero->yB,cons_lt_cons_iff->yC,nodup_append->BP,map_append->BQ,getElem?_append_left->BR,foldl_cons->BS,cons_append->BU,any_cons->BV,take_of_length_le->IZ,take_length->JA,take_add_one->JB,mem_filterMap->JC,map_take->JD,zip_cons_cons->VV,of_mem_zip->VW,nodup_nil->VX,mem_append_left->VY,length_drop->VZ,le_trans->WA,getElem?_range->WB,getElem?_append_right->WC,flatten_singleton->WD,flatten_append->WE,filterMap_cons->WG,pairwise_mergeSort->Qy,mem_or_eq_of_mem_set->Qz,drop_eq_getElem_cons->Ra
open PySem.Heap renaming lt_size->cE,get?_push_of_some->cX,get?_push_size->eZ,SameBut->yD,size_push->JF,get?_update_self->JG,get?_update_other->JH
open PySem.Value renaming ref->dS,none->gL,type->lF,builtin->xP,str->BE,int->BG
open Option.some renaming inj->eU,injEq->uN
open True renaming intro->fW
open PySem.NameKind renaming free->gA
open PyProof.Rows renaming envOfC->iC,seqObj->lE,AllBare->oP,slot_tuple_getitem->IJ,slot_tuple_getitem->VO,boot_tuple->VP,boot_sorted->VQ,callWith_type1->Qx
open Sum renaming inr->iN,inl->uL
open Bool renaming and_eq_true_iff->iQ,false_ne_true->oM,true_or->rO,false_eq_true->rP,and_eq_true->rQ,and_false->JL,or_eq_true_iff->WO,eq_iff_iff->WQ
open False renaming elim->jB
open Ne renaming symm->jO
open PySem.Str renaming join->kK,ofString->BH,length->BI
open Int renaming eq_ofNat_of_zero_le->kO,ofNat->nA,toNat_natCast->WH
open PySem.Obj renaming mapSeq->lG
open PySem.Builtin.Str renaming occurrences->lY,strSliceIndices->rN
open Array renaming length_toList->oO,toList_inj->JM
open PySem.Paired renaming length->rJ
open PySem.F renaming called_set->rM,slot_dict_keyiterator_next->BW,slot_tuple_hash->JI,slot_tuple_add->VJ,entry_tuple_add->VL,args_tuple_add_2->VM,slot_list_getattribute->WJ,excBase_ValueError->Qw,entry_dict_keyiterator_next->Re,args_dict_keyiterator_next_1->Rf
open ForInStep renaming yield->yE
open PySem.Builtin.Tuple renaming tupleHashOf->yF,tupleExact->JJ,tupleItemsOf->WM
open PySem.Around renaming under_plainId->yG
open PySem.PassesOwn renaming never->BM
open Classical renaming choose_spec->BX
open Array.Perm renaming refl->BY
open PySem.PyData.tuple renaming inj->IT
open List.cons renaming injEq->JE
open PySem.Builtin.Slice renaming slicePlaces->JK,sliceAdjust->WN
open PySem.Heap.SameBut renaming update->WI
open PyProof.Rows.F renaming plain_set_update_loop->WK
open PySem.Calls renaming call_function_entry->WL
open List.Perm renaming eq_of_pairwise->Rb
open List.Nodup renaming length_le_of_subset->Rc
theorem XBs {α β:Type}{x:Option α}{f:α->Option β}{b:β}(h:x.bind f=some b) : ∃ a,x=some a/\f a=some b:=Option.bind_eq_some_iff.mp h
set_option Elab.async false
set_option bootstrap.genMatcherCode false
set_option genSizeOfSpec false
set_option linter.all false
set_option maxRecDepth 100000
set_option exponentiation.threshold 2000
namespace L2
open PySem PySem.Spec PyProof.Rows
noncomputable instance decEqData:DecidableEq aA:=fun a b=>Classical.propDecidable (a=b)
mutual
noncomputable def bF:aA->Bool
 | .int _=>true
 | .str x=>cM (.str x)
 | .tuple ds=>bX ds
 | _=>false
noncomputable def bX:List aA->Bool
 | []=>true
 | d::r=>bF d&&bX r
end
mutual
theorem FJ : ∀ d:aA,bF d=true->d.canLay0=true
 | .int _,_=>by simp[cM]
 | .str x,h=>by simpa [bF] using h
 | .tuple ds,h=>by
  simp only[cM]
  exact QC ds (by simpa [bF] using h)
 | .none,h=>by simp[bF] at h
 | .bool _,h=>by simp[bF] at h
 | .list _,h=>by simp[bF] at h
 | .dict _,h=>by simp[bF] at h
theorem QC : ∀ ds:List aA,bX ds=true->xS ds=true
 | [],_=>by simp[xS]
 | d::r,h=>by
  have h':bF d=true/\bX r=true:=by simpa [bX] using h
  simp only[xS,FJ d h'.1,QC r h'.2,Bool.and_self]
end
mutual
theorem OE : ∀ x y:aA,bF x=true->bF y=true->cL x y=decide (x=y)
 | .int i,.int j,_,_=>by
  by_cases e:i=j
  ·subst e; simp[cL]
  ·have : ¬ aZ i = .int j:=fun q=>e (PyData.int.inj q)
   simp[cL,e]
 | .str i,.str j,_,_=>by
  by_cases e:i=j
  ·subst e; simp[cL]
  ·simp[cL,e]
 | .tuple xs,.tuple ys,h1,h2=>by
  have e:=GE xs ys (by simpa [bF] using h1) (by simpa [bF] using h2)
  simp only[cL,e]
  by_cases q:xs=ys
  ·subst q; simp
  ·have : ¬ gG xs = .tuple ys:=fun z=>q (IT z)
   rw[decide_eq_false q,decide_eq_false this]
 | .int _,.str _,_,_=>by simp[cL]
 | .int _,.tuple _,_,_=>by simp[cL]
 | .str _,.int _,_,_=>by simp[cL]
 | .str _,.tuple _,_,_=>by simp[cL]
 | .tuple _,.int _,_,_=>by simp[cL]
 | .tuple _,.str _,_,_=>by simp[cL]
 | .none,_,h,_=>by simp[bF] at h
 | .bool _,_,h,_=>by simp[bF] at h
 | .list _,_,h,_=>by simp[bF] at h
 | .dict _,_,h,_=>by simp[bF] at h
 | .int _,.none,_,h=>by simp[bF] at h
 | .int _,.bool _,_,h=>by simp[bF] at h
 | .int _,.list _,_,h=>by simp[bF] at h
 | .int _,.dict _,_,h=>by simp[bF] at h
 | .str _,.none,_,h=>by simp[bF] at h
 | .str _,.bool _,_,h=>by simp[bF] at h
 | .str _,.list _,_,h=>by simp[bF] at h
 | .str _,.dict _,_,h=>by simp[bF] at h
 | .tuple _,.none,_,h=>by simp[bF] at h
 | .tuple _,.bool _,_,h=>by simp[bF] at h
 | .tuple _,.list _,_,h=>by simp[bF] at h
 | .tuple _,.dict _,_,h=>by simp[bF] at h
theorem GE : ∀ xs ys:List aA,bX xs=true->bX ys=true->pP xs ys=decide (xs=ys)
 | [],[],_,_=>by simp[pP]
 | [],_::_,_,_=>by simp[pP]
 | _::_,[],_,_=>by simp[pP]
 | x::xs,y::ys,h1,h2=>by
  have h1':bF x=true/\bX xs=true:=by simpa [bX] using h1
  have h2':bF y=true/\bX ys=true:=by simpa [bX] using h2
  simp only[pP,OE x y h1'.1 h2'.1,GE xs ys h1'.2 h2'.2]
  by_cases e:x=y
  ·subst e
   by_cases q:xs=ys
   ·subst q; simp
   ·simp[q]
  ·simp[e]
end
mutual
noncomputable def qA (w:bA):aA->Int
 | .int i=>hashInt i
 | .str x=>hashStr w x
 | .tuple ds=>reduceHash (yF (jZ w ds))
 | _=>0
noncomputable def jZ (w:bA):List aA->List Int
 | []=>[]
 | d::r=>qA w d::jZ w r
end
mutual
noncomputable def qC:aA->Nat
 | .tuple ds=>mP ds+1
 | _=>1
noncomputable def mP:List aA->Nat
 | []=>0
 | d::r=>qC d+mP r
end
theorem SV (a b:List aA):mP (a++b)=mP a+mP b:=by
 induction a with
 | nil=>simp[mP]
 | cons x r ih=>simp only[BU,mP,ih]; omega
theorem SU (w:bA)(a b:List aA):jZ w (a++b)=jZ w a++jZ w b:=by
 induction a with
 | nil=>rfl
 | cons x r ih=>simp only[BU,jZ,ih]
section
variable {prog:bE}{w:bA}
theorem tQ {h:aU}{v:aE}{ks:List aA}{as:List aD}(r:oF h v (.tuple ks) as) : ∃ a o vs n,v = .ref a/\h.get? a=some o/\o.cls = .type "tuple" /\ o.data = .seq vs n/\oE h vs.toList ks as:=by
 cases r with
 | tuple h1 h2 h3 h4=>exact⟨_,_,_,_,rfl,h1,h2,h3,h4⟩
mutual
theorem RO : ∀ (d:aA) {A:bY} {E:aE->aH->Prop} {s:aH} {v:aE} {as:List aD} {Q:Int->aH->Prop},A.units+d.depth<cLine->bF d=true->oF s.heap v d as ->
  Q (qA w d) { s with toks:=s.toks+qC d }->aP (aQ prog w) A (pyHash v) Q E s
 | .int i,A,E,s,v,as,Q,hu,hk,r,h=>by
  cases r with
  | int _ t=>exact wpAny_pyHash_int (by simpa [qA,qC] using h)
 | .str x,A,E,s,v,as,Q,hu,hk,r,h=>by
  cases r with
  | str _ t=>exact wpAny_pyHash_str (by simpa [qA,qC] using h)
 | .tuple ks,A,E,s,v,as,Q,hu,hk,r,h=>by
  obtain⟨a,o,items,n,rfl,ho,hc,hd,hi⟩:=tQ r
  have hT:s.TypeIs (.ref a) "tuple":=⟨o,ho,hc⟩
  have hdep:A.units+(dI ks+1)<cLine:=by simpa [jN] using hu
  unfold pyHash
  first | unfold pyHashByItsType | skip
  first | refine aM (wpAny_cRoomFor_or (.inr (by omega)) ?_) | skip
  refine aM (BA hT JI.lookup ?_)
  rw[if_neg (by rw[beq_builtin_none]; exact oM)]
  refine aM (BA hT JI.lookup ?_)
  refine aM (wpAny_callSpecialIfBoundUnlessNone?_slot hT JI (rC JI hT F.entry_tuple_hash ?_ (F.args_tuple_hash_1 _)))
  show aP _ _ (WM (.ref a) >>= _) _ _ s
  refine aM (wpAny_tupleItemsOf ho hd ?_)
  refine aM ?_
  rw[← Array.forIn_toList]
  refine wpAny_forIn_list _
   (fun rest (b:Array Int) s'=>∃ done left bs,ks=done++left/\oE s.heap rest left bs/\b.toList=jZ w done/\s' = { s with toks:=s.toks+mP done })
   _ ?_ ?_ _ _ ⟨[],ks,as,rfl,hi,rfl,rfl⟩
  ·rintro x rest b s' ⟨done,left,bs,e,hl,hb,rfl⟩
   cases hl with
   | @cons _ _ d ds as1 bs1 h1 hl'=>
    have hm:d∈ks:=by rw[e]; exact mY _ cC
    have hk':bX ks=true:=by simpa [bF] using hk
    refine aM (SA ks hm (by
     have:A.in1.units=A.units+1:=rfl
     omega) hk' h1 ?_)
    first
     | exact aY ⟨done++[d],ds,bs1,by simp[e],hl',by simp[hb,SU,jZ],by simp[SV,mP,IY]⟩
     | exact aM (aY (aY ⟨done++[d],ds,bs1,by simp[e],hl',by simp[hb,SU,jZ],by simp[SV,mP,IY]⟩))
  ·rintro b s' ⟨done,left,bs,e,hl,hb,rfl⟩
   cases hl
   rw[uS] at e
   subst e
   show aP _ _ (retInt (yF b.toList)) _ _ _
   rw[hb]
   refine wpAny_ret_mkInt ?_
   show aP _ _ (if (decide (-(2:Int) ^ 63≤yF (jZ w ks))&&decide (yF (jZ w ks)<2 ^ 63))=true then _ else _) Q E _
   simp only[qA,qC] at h
   unfold reduceHash at h
   by_cases hr:(decide (-(2:Int) ^ 63≤yF (jZ w ks))&&decide (yF (jZ w ks)<2 ^ 63))=true
   ·rw[if_pos hr]
    rw[if_pos hr] at h
    exact aY (by simpa [IY] using h)
   ·rw[if_neg hr]
    rw[if_neg hr] at h
    exact aM (wpAny_rule (aY (by simpa [IY] using h)))
 | .none,A,E,s,v,as,Q,hu,hk,r,h=>by simp[bF] at hk
 | .bool _,A,E,s,v,as,Q,hu,hk,r,h=>by simp[bF] at hk
 | .list _,A,E,s,v,as,Q,hu,hk,r,h=>by simp[bF] at hk
 | .dict _,A,E,s,v,as,Q,hu,hk,r,h=>by simp[bF] at hk
theorem SA : ∀ (ks:List aA) {d:aA},d∈ks -> ∀ {A:bY} {E:aE->aH->Prop} {s:aH} {v:aE} {as:List aD} {Q:Int->aH->Prop},A.units+dI ks<cLine->bX ks=true->oF s.heap v d as ->
  Q (qA w d) { s with toks:=s.toks+qC d }->aP (aQ prog w) A (pyHash v) Q E s
 | [],_,hm,_,_,_,_,_,_,_,_,_,_=>by simp at hm
 | k::ks,d,hm,A,E,s,v,as,Q,hu,hk,r,h=>by
  have hk':bF k=true/\bX ks=true:=by simpa [bX] using hk
  have hdep:A.units+max k.depth (dI ks)<cLine:=by simpa [dI] using hu
  by_cases e:d=k
  ·exact RO k (by omega) hk'.1 (e ▸ r) (by rw[← e]; exact h)
  ·have hm':d∈ks:=by
    rcases cQ.mp hm with q | q
    ·exact absurd q e
    ·exact q
   exact SA ks hm' (by omega) hk'.2 r h
end
end
section
variable {prog:bE}{w:bA}
mutual
theorem QM : ∀ (d:aA) (n:Nat) {A:bY} {E:aE->aH->Prop} {s:aH} {v:aE} {as:List aD} {Q:Bool->aH->Prop},d.depth≤n->bF d=true->oF s.heap v d as ->
  Q true s->aP (aQ prog w) A (eqIsQuiet n v) Q E s
 | .int i,n,A,E,s,v,as,Q,hu,hk,r,h=>by
  cases r with
  | int _ t=>
   rw[eqIsQuiet_byValue n (by rfl)]
   exact aY h
 | .str x,n,A,E,s,v,as,Q,hu,hk,r,h=>by
  cases r with
  | str _ t=>
   rw[eqIsQuiet_byValue n (by rfl)]
   exact aY h
 | .tuple ks,n,A,E,s,v,as,Q,hu,hk,r,h=>by
  obtain⟨a,o,items,m,rfl,ho,hc,hd,hi⟩:=tQ r
  have hT:s.TypeIs (.ref a) "tuple":=⟨o,ho,hc⟩
  have hdep:dI ks+1≤n:=by simpa [jN] using hu
  obtain⟨n,rfl⟩ : ∃ m,n=m+1:=⟨n - 1,by omega⟩
  have hk':bX ks=true:=by simpa [bF] using hk
  unfold eqIsQuiet
  refine aM (BA hT F.slot_tuple_eq.lookup ?_)
  refine aM (UT hT isSubtype_tuple_tuple ?_)
  simp only[Bool.not_true,rP,if_false]
  refine aM (wpAny_seqItems ho hd ?_)
  refine aM ?_
  rw[← Array.forIn_toList]
  refine wpAny_forIn_list _ (fun rest r s'=>r.1=none/\s'=s /\ ∃ ds bs,oE s.heap rest ds bs /\ ∀ d∈ds,d∈ks) _ ?_ ?_ _ _ ⟨rfl,rfl,ks,as,hi,fun _ h=>h⟩
  ·rintro v rest r s' ⟨hr,rfl,ds,bs,hl,hall⟩
   cases hl with
   | @cons _ _ d ds as1 bs1 h1 hl'=>
    refine aM (RV ks (hall d cC) n (by omega) hk' h1 ?_)
    simp only[Bool.not_true,rP,if_false]
    exact aY ⟨rfl,rfl,ds,bs1,hl',fun u hu'=>hall u (cD _ hu')⟩
  ·rintro⟨r1,r2⟩ s' ⟨hr,rfl,_⟩
   simp only at hr
   subst hr
   exact aY h
 | .none,n,A,E,s,v,as,Q,hu,hk,r,h=>by simp[bF] at hk
 | .bool _,n,A,E,s,v,as,Q,hu,hk,r,h=>by simp[bF] at hk
 | .list _,n,A,E,s,v,as,Q,hu,hk,r,h=>by simp[bF] at hk
 | .dict _,n,A,E,s,v,as,Q,hu,hk,r,h=>by simp[bF] at hk
theorem RV : ∀ (ks:List aA) {d:aA},d∈ks -> ∀ (n:Nat) {A:bY} {E:aE->aH->Prop} {s:aH} {v:aE} {as:List aD} {Q:Bool->aH->Prop},dI ks≤n->bX ks=true->oF s.heap v d as ->
  Q true s->aP (aQ prog w) A (eqIsQuiet n v) Q E s
 | [],_,hm,_,_,_,_,_,_,_,_,_,_,_=>by simp at hm
 | k::ks,d,hm,n,A,E,s,v,as,Q,hu,hk,r,h=>by
  have hk':bF k=true/\bX ks=true:=by simpa [bX] using hk
  have hdep:max k.depth (dI ks)≤n:=by simpa [dI] using hu
  by_cases e:d=k
  ·exact QM k n (by omega) hk'.1 (e ▸ r) h
  ·have hm':d∈ks:=by
    rcases cQ.mp hm with q | q
    ·exact absurd q e
    ·exact q
   exact RV ks hm' n (by omega) hk'.2 r h
end
mutual
theorem RW {h h':aU}(kp : ∀ b o vs n,h.get? b=some o->o.cls = .type "tuple" -> o.data = .seq vs n->h'.get? b=some o) : ∀ (d:aA) {v:aE} {as:List aD},bF d=true->oF h v d as->oF h' v d as
 | .int i,v,as,hk,r=>by
  cases r with
  | int _ t=>exact .int i t
 | .str x,v,as,hk,r=>by
  cases r with
  | str _ t=>exact .str x t
 | .tuple ks,v,as,hk,r=>by
  obtain⟨a,o,items,m,rfl,ho,hc,hd,hi⟩:=tQ r
  exact .tuple (kp _ _ _ _ ho hc hd) hc hd (SS kp ks (by simpa [bF] using hk) hi)
 | .none,v,as,hk,r=>by simp[bF] at hk
 | .bool _,v,as,hk,r=>by simp[bF] at hk
 | .list _,v,as,hk,r=>by simp[bF] at hk
 | .dict _,v,as,hk,r=>by simp[bF] at hk
theorem SS {h h':aU}(kp : ∀ b o vs n,h.get? b=some o->o.cls = .type "tuple" -> o.data = .seq vs n->h'.get? b=some o) : ∀ (ds:List aA) {vs:List aE} {as:List aD},bX ds=true->oE h vs ds as->oE h' vs ds as
 | [],vs,as,hk,r=>by
  cases r with
  | nil=>exact .nil
 | d::ds,vs,as,hk,r=>by
  have hk':bF d=true/\bX ds=true:=by simpa [bX] using hk
  cases r with
  | cons r1 r2=>exact .cons (RW kp d hk'.1 r1) (SS kp ds hk'.2 r2)
end
def Aj9 (h:aU)(ks:List aA)(a:aD):Prop:=bX ks=true/\dI ks≤6 /\ ∃ as,oF h (.ref a) (.tuple ks) as
theorem Aj9.keep {h h':aU}{ks:List aA}{a:aD}(kp : ∀ b o vs n,h.get? b=some o->o.cls = .type "tuple" -> o.data = .seq vs n->h'.get? b=some o)(k:Aj9 h ks a):Aj9 h' ks a:=
 ⟨k.1,k.2.1,k.2.2.choose,RW kp (.tuple ks) (by simpa [bF] using k.1) k.2.2.choose_spec⟩
noncomputable def nM (prog:bE)(w:bA):HeapKind prog w (List aA) where
 is:=Aj9
 hash:=fun ks=>qA w (.tuple ks)
 draws:=fun ks=>qC (.tuple ks)
 room:=fun A=>A.units+20<cLine
 inj:=fun {h a x y} hx hy=>by
  obtain⟨k1,_,as,r1⟩:=hx
  obtain⟨k2,_,bs,r2⟩:=hy
  exact IT (reads_det (fun _ _ e _=>e) r2 r1).1
 keeps:=fun {h h' k a d o es ep} x ho hd hs=>x.keep fun b ob vs n hb _ hd'=>by
  have hne:b≠d:=by
   rintro rfl
   rw[ho] at hb
   cases hb
   rw[hd] at hd'
   cases hd'
  exact(hs.2 b hne).trans hb
 pyHash:=fun {A E s k a Q} hu hk h=>by
  obtain⟨k1,k2,as,r⟩:=hk
  exact RO (.tuple k) (by simp only[jN]; omega) (by simpa [bF] using k1) r h
 eqBool:=fun {A E s x y a b Q} hu hx hy h=>by
  obtain⟨k1,d1,as,r1⟩:=hx
  obtain⟨k2,d2,bs,r2⟩:=hy
  have e:=OE (.tuple x) (.tuple y) (by simpa [bF] using k1) (by simpa [bF] using k2)
  have e2:decide ((gG x) = .tuple y)=decide (x=y):=by
   by_cases q:x=y
   ·subst q; simp
   ·rw[decide_eq_false q,decide_eq_false (fun z=>q (IT z))]
  have:=SeqAt.eqAt_reads (.tuple x) (.tuple y) A s (.ref a) (.ref b) as bs r1 r2 (FJ _ (by simpa [bF] using k1)) (FJ _ (by simpa [bF] using k2)) (by simp only[jN]; omega)
  rw[e,e2] at this
  exact this prog w E Q h
 quiet:=fun {A E s k a Q} hk h=>by
  obtain⟨k1,k2,as,r⟩:=hk
  exact QM (.tuple k) 8 (by simp only[jN]; omega) (by simpa [bF] using k1) r h
end
abbrev aN:=Sum Int aB
noncomputable def sM:aN->aE->Bool
 | .inl k,v=>Value.isInt k v
 | .inr x,v=>Value.isStrOf x v
noncomputable def XB (w:bA):aN->Int
 | .inl k=>hashInt k
 | .inr x=>hashStr w x
theorem lR : ∀ {k:aN} {v:aE},sM k v=true->(∃ i t,k=uL i/\v=BG i t) \/ (∃ x t,k=iN x/\v=BE x t)
 | .inl i,v,h=>by
  obtain⟨t,e⟩:=Value.isInt_shape (k:=i) (v:=v) h
  exact .inl ⟨i,t,rfl,e⟩
 | .inr x,v,h=>by
  obtain⟨t,e⟩:=Value.isStrOf_shape (x:=x) (v:=v) h
  exact .inr ⟨x,t,rfl,e⟩
theorem Dk (i:Int)(t:Tok):sM (.inl i) (.int i t)=true:=by simp[sM,Value.isInt]
theorem Cm (x:aB)(t:Tok):sM (.inr x) (.str x t)=true:=by simp[sM,Value.isStrOf]
theorem ZR (a b:Int):decide ((uL a:aN)=uL b)=(a == b):=by
 by_cases e:a=b
 ·subst e; simp
 ·have h : ¬ (uL a:aN)=uL b:=fun q=>e (Sum.inl.inj q)
  rw[decide_eq_false h]
  exact(beq_eq_false_iff_ne.mpr e).symm
theorem Av (a b:aB):decide ((iN a:aN)=iN b)=decide (a=b):=by
 by_cases e:a=b
 ·subst e; simp
 ·have h : ¬ (iN a:aN)=iN b:=fun q=>e (Sum.inr.inj q)
  rw[decide_eq_false h,decide_eq_false e]
theorem Ae (a:Int)(b:aB):decide ((uL a:aN)=iN b)=false:=decide_eq_false (fun q=>nomatch q)
theorem Ay (a:aB)(b:Int):decide ((iN a:aN)=uL b)=false:=decide_eq_false (fun q=>nomatch q)
noncomputable def eJ (prog:bE)(w:bA):PySem.KeyKind prog w aN where
 is:=sM
 hash:=XB w
 inj:=fun v a b ha hb=>by
  rcases lR ha with⟨i,t,rfl,rfl⟩ | ⟨x,t,rfl,rfl⟩
  ·rcases lR hb with⟨j,u,rfl,e⟩ | ⟨y,u,rfl,e⟩
   ·injection e with e1 _; rw[e1]
   ·exact nomatch e
  ·rcases lR hb with⟨j,u,rfl,e⟩ | ⟨y,u,rfl,e⟩
   ·exact nomatch e
   ·injection e with e1 _; rw[e1]
 byValue:=fun k v h=>by
  rcases lR h with⟨i,t,rfl,rfl⟩ | ⟨x,t,rfl,rfl⟩ <;> rfl
 pyHash:=fun hv h=>by
  rcases lR hv with⟨i,t,rfl,rfl⟩ | ⟨x,t,rfl,rfl⟩
  ·exact wpAny_pyHash_int h
  ·exact wpAny_pyHash_str h
 eqBool:=fun hu hv h=>by
  rcases lR hu with⟨i,t,rfl,rfl⟩ | ⟨x,t,rfl,rfl⟩
  ·rcases lR hv with⟨j,u,rfl,rfl⟩ | ⟨y,u,rfl,rfl⟩
   ·rw[ZR] at h; exact wpAny_eqBool_int h
   ·rw[Ae] at h; exact SeqAt.EqAt.int_str i t y u _ _ _ _ h
  ·rcases lR hv with⟨j,u,rfl,rfl⟩ | ⟨y,u,rfl,rfl⟩
   ·rw[Ay] at h; exact SeqAt.EqAt.str_int x t j u _ _ _ _ h
   ·rw[Av] at h; exact wpAny_eqBool_str h
 «strs»:=fun k x t v h=>by
  rcases lR h with⟨i,u,rfl,e⟩ | ⟨y,u,rfl,e⟩
  ·exact nomatch e
  ·injection e with e1 _
   subst e1
   cases v <;> rfl
theorem GV (prog:bE)(w:bA)(i:Int)(t:Tok):(eJ prog w).is (.inl i) (.int i t)=true:=Dk i t
theorem GZ (prog:bE)(w:bA)(x:aB)(t:Tok):(eJ prog w).is (.inr x) (.str x t)=true:=Cm x t
inductive V where
 | non | bl (b:Bool) | int (i:Int) | str (x:aB) | byt (b:Array UInt8) | flt (b:UInt64) | ref (a:aD) | ty (n:String)
 deriving DecidableEq
def RelV:V->aE->Prop
 | .non,u=>u=gL
 | .bl b,u=>u=Value.bool b
 | .int i,u=>∃ t,u=BG i t
 | .str x,u=>∃ t,u=BE x t
 | .byt b,u=>∃ t,u=Value.bytes b t
 | .flt b,u=>∃ t,u=Value.float b t
 | .ref a,u=>u=dS a
 | .ty n,u=>u=lF n
abbrev Vals:List V->List aE->Prop:=eO RelV
theorem Vals.length {xs:List V}{us:List aE}(r:Vals xs us):xs.length=us.length:=rJ r
theorem Vals.get : ∀ {xs:List V} {us:List aE} {i:Nat} {x:V},Vals xs us->xs[i]?=some x -> ∃ u,us[i]?=some u/\RelV x u
 | _,_,_,_,.nil,e=>by simp at e
 | _,_,0,_,.cons r _,e=>by simp at e; subst e; exact⟨_,rfl,r⟩
 | _,_,i+1,x,.cons _ t,e=>by
  obtain⟨u,h1,h2⟩:=Vals.get (i:=i) (x:=x) t (by simpa using e)
  exact⟨u,by simpa using h1,h2⟩
theorem Vals.set {x:V}{u:aE}(r:RelV x u) : ∀ {xs:List V} {us:List aE} (i:Nat),Vals xs us->Vals (xs.set i x) (us.set i u)
 | _,_,_,.nil=>.nil
 | _,_,0,.cons _ t=>.cons r t
 | _,_,i+1,.cons q t=>.cons q (Vals.set r i t)
theorem Vals.append : ∀ {xs ys:List V} {us ws:List aE},Vals xs us->Vals ys ws->Vals (xs++ys) (us++ws)
 | _,_,_,_,.nil,s=>s
 | _,_,_,_,.cons r t,s=>.cons r (Vals.append t s)
theorem Vals.take : ∀ {xs:List V} {us:List aE} (n:Nat),Vals xs us->Vals (xs.take n) (us.take n)
 | _,_,0,_=>.nil
 | _,_,_+1,.nil=>.nil
 | _,_,n+1,.cons r t=>.cons r (Vals.take n t)
theorem Vals.drop : ∀ {xs:List V} {us:List aE} (n:Nat),Vals xs us->Vals (xs.drop n) (us.drop n)
 | _,_,0,r=>r
 | _,_,_+1,.nil=>.nil
 | _,_,n+1,.cons _ t=>Vals.drop n t
def Arj:Option V->Option aE->Prop
 | some v,some u=>RelV v u
 | none,none=>True
 | _,_=>False
def KV {κ:Type}:List (κ×V)->List (κ×aE)->Prop:=eO fun(p:κ×V) (q:κ×aE)=>p.1=q.1/\RelV p.2 q.2
noncomputable def kV:aN->V
 | .inl i=>.int i
 | .inr x=>.str x
inductive HO where
 | lst (xs:List V)
 | tup (xs:List V)
 | dK (ep:Nat) (kvs:List (aN×V)) | dT (ep:Nat) (kvs:List (List aA×V))
 | set (S:Int->Bool) (n:Nat)
 | ins (C dx:aD) (fs:List (aB×V))
 | own (x:aD)
 | xd (fs:List (aB×V))
 | met (f x:aD)
 | rng (lo hi:Int)
 | frz (o:aX) (u:HO)
 | tbl (ps:Array aE)
 | ext (φ:aU->Prop)
abbrev Hp:=aD->Option HO
noncomputable def upd (H:Hp)(a:aD)(o:HO):Hp:=fun b=>if b=a then some o else H b
theorem eL {H:Hp}{a:aD}{o:HO}:upd H a o a=some o:=by unfold upd; rw[if_pos rfl]
theorem bP {H:Hp}{a b:aD}{o:HO}(h:b≠a):upd H a o b=H b:=by unfold upd; rw[if_neg h]
theorem YT {H:Hp}{a b:aD}{o u:HO}(h:H a=some o)(h':H b=some u)(d:o≠u):a≠b:=by
 intro e; subst e; rw[h] at h'; exact d (eU h')
theorem gY {H:Hp}{a b:aD}{o:HO}(h:H a=some o)(h':H b=none):a≠b:=by
 intro e; subst e; rw[h] at h'; cases h'
mutual
def Ahk (H:Hp):aA->V->Prop
 | .int i,v=>v = .int i
 | .str x,v=>v = .str x
 | .tuple ds,v=>∃ a xs,v = .ref a/\H a=some (.tup xs)/\Aer H ds xs
 | _,_=>False
def Aer (H:Hp):List aA->List V->Prop
 | [],vs=>vs=[]
 | d::r,vs=>∃ x rr,vs=x::rr/\Ahk H d x/\Aer H r rr
end
mutual
theorem Ahk.keep {H H':Hp}(ht : ∀ b xs,H b=some (.tup xs)->H' b=some (.tup xs)) : ∀ {d:aA} {v:V},Ahk H d v->Ahk H' d v
 | .int _,_,k=>by simpa [Ahk] using k
 | .str _,_,k=>by simpa [Ahk] using k
 | .tuple ds,_,k=>by
  simp only[Ahk] at k ⊢
  obtain⟨a,xs,e,h,ks⟩:=k
  exact⟨a,xs,e,ht _ _ h,Aer.keep ht ks⟩
 | .none,_,k=>by simp[Ahk] at k
 | .bool _,_,k=>by simp[Ahk] at k
 | .list _,_,k=>by simp[Ahk] at k
 | .dict _,_,k=>by simp[Ahk] at k
theorem Aer.keep {H H':Hp}(ht : ∀ b xs,H b=some (.tup xs)->H' b=some (.tup xs)) : ∀ {ds:List aA} {vs:List V},Aer H ds vs->Aer H' ds vs
 | [],_,k=>by simpa [Aer] using k
 | d::ds,_,k=>by
  simp only[Aer] at k ⊢
  obtain⟨x,r,e,k1,k2⟩:=k
  exact⟨x,r,e,Ahk.keep ht k1,Aer.keep ht k2⟩
end
def Alw (H:Hp)(ks:List aA)(a:aD):Prop:=bX ks=true/\dI ks≤6 /\ ∃ xs,H a=some (.tup xs)/\Aer H ks xs
theorem Alw.keep {H H':Hp}{ks:List aA}{a:aD}(k:Alw H ks a)(ht : ∀ b xs,H b=some (.tup xs)->H' b=some (.tup xs)):Alw H' ks a:=
 ⟨k.1,k.2.1,k.2.2.choose,ht _ _ k.2.2.choose_spec.1,k.2.2.choose_spec.2.keep ht⟩
def Bam (h:aU)(a:aD)(its:Array aE):Prop:=IsTup h a its /\ ∃ o,h.get? a=some o/\o.dict=none
theorem Bam.new (h:aU)(its:Array aE):Bam (h.push { cls:=.type "tuple",data:=.seq its }) h.objs.size its:=⟨IsTup.new _ _,_,eZ _ rfl,rfl⟩
section
variable (P:bE)(w:bA)
def Acy (H:Hp)(h:aU)(a:aD):HO->Prop
 | .lst xs=>xs.length≤sizeLine /\ ∃ (its:List aE) (n:Nat),Vals xs its/\h.get? a=some { cls:=.type "list",data:=.seq its.toArray n }
 | .tup xs=>xs.length≤sizeLine /\ ∃ its:List aE,Vals xs its/\Bam h a its.toArray
 | .dK ep kvs=>kvs.length≤sizeLine/\(a == iB)=false /\ ∃ vs,KV kvs vs/\h.DictAt (eJ P w) a vs ep
 | .dT ep kvs=>kvs.length≤sizeLine/\(a == iB)=false /\ ∃ xs:List (List aA×aD×aE),
   eO (fun(p:List aA×V) (q:List aA×aD×aE)=>p.1=q.1/\Alw H p.1 q.2.1/\RelV p.2 q.2.2) kvs xs /\
   ∃ o es,h.get? a=some o/\o.ExactDict/\o.data = .dict es ep/\es.toList=xs.map (entryOfKey (nM P w))/\(xs.map (·.1)).Nodup
 | .set S n=>h.SetOf (intKind P w) a S n
 | .ins C dx fs=>H dx=some (.own a)/\fs.length≤1000/\dx≠a/\h.get? a=some (oG C dx) /\
   ∃ mA,h.Ns1 dx mA/\(∀ f,Arj (fs.lookup f) (mA f))/\PySem.Within mA (fs.map (·.1))
 | .own _=>∃ o,h.get? a=some o
 | .xd fs=>∃ mA,h.Ns1 a mA /\ ∀ f,Arj (fs.lookup f) (mA f)
 | .rng lo hi=>∃ t u v,h.get? a=some { cls:=.type "range",data:=.fields #[.int lo t,.int hi u,.int 1 v] }
 | .frz o u=>h.get? a=some o/\Acy H h a u
 | .tbl ps=>h.get? a=some { cls:=.none,data:=.fields ps }
 | .met f x=>h.get? a=some (VC (.ref f) (.ref x))
 | .ext φ=>φ h/\(∃ o,h.get? a=some o) /\ ∀ h1 h2:aU,φ h1->(∀ o,h1.get? a=some o->h2.get? a=some o)->φ h2
def HOk (H:Hp)(h:aU):Prop:=∀ a o,H a=some o->Acy P w H h a o
end
section
variable {P:bE}{w:bA}{H H':Hp}{h h':aU}{a:aD}{o:HO}
theorem Acy.lt (x:Acy P w H h a o):a<h.objs.size:=by
 cases o with
 | lst xs=>obtain⟨_,_,_,_,e⟩:=x; exact cE e
 | tup xs=>obtain⟨_,_,_,p⟩:=x; exact p.1.lt
 | dK ep kvs=>obtain⟨_,_,_,_,o,_,e,_⟩:=x; exact cE e
 | dT ep kvs=>obtain⟨_,_,_,_,o,_,e,_⟩:=x; exact cE e
 | set S n=>obtain⟨o,_,_,_,e,_⟩:=x; exact cE e
 | ins C dx fs=>obtain⟨_,_,_,e,_⟩:=x; exact cE e
 | own y=>obtain⟨_,e⟩:=x; exact cE e
 | xd fs=>obtain⟨_,⟨_,_,_,e,_⟩,_⟩:=x; exact cE e
 | rng lo hi=>obtain⟨_,_,_,e⟩:=x; exact cE e
 | frz ob u=>obtain⟨e,_⟩:=x; exact cE e
 | tbl ps=>exact cE (show h.get? a=some _ from x)
 | met f y=>exact cE (show h.get? a=some _ from x)
 | ext φ=>obtain⟨_,⟨_,e⟩,_⟩:=x; exact cE e
theorem Paired.mapP {α β:Type}{F G:α->β->Prop} : ∀ {l₁:List α} {l₂:List β},eO F l₁ l₂->(∀ a b,F a b->G a b)->eO G l₁ l₂:=by
 intro l₁ l₂ h
 induction h with
 | nil=>exact fun _=>.nil
 | cons r _ ih=>exact fun f=>.cons (f _ _ r) (ih f)
theorem Acy.stay (x:Acy P w H h a o)(k : ∀ b u,(b=a \/ H b=some (.own a))->h.get? b=some u->h'.get? b=some u)
  (ho : ∀ b,H b=some (.own a)->H' b=some (.own a)) (ht : ∀ b xs,H b=some (.tup xs)->H' b=some (.tup xs)):Acy P w H' h' a o:=by
 induction o with
 | lst xs=>obtain⟨z,its,n,r,e⟩:=x; exact⟨z,its,n,r,k _ _ (.inl rfl) e⟩
 | tup xs=>obtain⟨z,its,r,⟨ob,e,c⟩,ob2,e2,c2⟩:=x; exact⟨z,its,r,⟨ob,k _ _ (.inl rfl) e,c⟩,ob2,k _ _ (.inl rfl) e2,c2⟩
 | dK ep kvs=>obtain⟨z,y,vs,r,ob,es,e,c⟩:=x; exact⟨z,y,vs,r,ob,es,k _ _ (.inl rfl) e,c⟩
 | dT ep kvs=>
  obtain⟨z,y,xs,r,ob,es,e,c⟩:=x
  exact⟨z,y,xs,Paired.mapP r fun p q z=>⟨z.1,z.2.1.keep ht,z.2.2⟩,ob,es,k _ _ (.inl rfl) e,c⟩
 | set S n=>obtain⟨ob,es,ep,t,e,c⟩:=x; exact⟨ob,es,ep,t,k _ _ (.inl rfl) e,c⟩
 | ins C dx fs=>
  obtain⟨d,z,ne,e,mA,⟨od,es,ep,e2,c⟩,r⟩:=x
  exact⟨ho _ d,z,ne,k _ _ (.inl rfl) e,mA,⟨od,es,ep,k _ _ (.inr d) e2,c⟩,r⟩
 | own y=>obtain⟨ob,e⟩:=x; exact⟨ob,k _ _ (.inl rfl) e⟩
 | xd fs=>obtain⟨mA,⟨od,es,ep,e,c⟩,r⟩:=x; exact⟨mA,⟨od,es,ep,k _ _ (.inl rfl) e,c⟩,r⟩
 | rng lo hi=>obtain⟨t,u,v,e⟩:=x; exact⟨t,u,v,k _ _ (.inl rfl) e⟩
 | frz ob u ih=>obtain⟨e,q⟩:=x; exact⟨k _ _ (.inl rfl) e,ih q⟩
 | tbl ps=>
  have e:h.get? a=some { cls:=.none,data:=.fields ps }:=x
  show h'.get? a=some { cls:=.none,data:=.fields ps }
  exact k a _ (.inl rfl) e
 | met f y=>
  have e:h.get? a=some (VC (.ref f) (.ref y)):=x
  show h'.get? a=some (VC (.ref f) (.ref y))
  exact k a _ (.inl rfl) e
 | ext φ=>obtain⟨p,⟨o,e⟩,st⟩:=x; exact⟨st _ _ p fun o q=>k _ _ (.inl rfl) q,⟨o,k _ _ (.inl rfl) e⟩,st⟩
theorem HOk.lt (x:HOk P w H h)(e:H a=some o):a<h.objs.size:=(x a o e).lt
theorem HOk.fresh (x:HOk P w H h)(e:h.objs.size≤a):H a=none:=by
 cases q:H a with
 | none=>rfl
 | some u=>exact absurd (gN (x.lt q) e) (jP _)
theorem HOk.kept (x:HOk P w H h)(k : ∀ b u,h.get? b=some u->h'.get? b=some u):HOk P w H h':=fun a o e=>
 (x a o e).stay (fun b u _ q=>k b u q) (fun _ q=>q) fun _ _ q=>q
theorem HOk.laid (x:HOk P w H h)(k : ∀ b u,h.get? b=some u->h'.get? b=some u)(hp:h.objs.size≤a)(new:Acy P w (upd H a o) h' a o):HOk P w (upd H a o) h':=fun b u e=>by
 have hn:=x.fresh hp
 by_cases hb:b=a
 ·subst hb; rw[eL] at e; cases e; exact new
 ·rw[bP hb] at e
  exact(x b u e).stay (fun c v _ q=>k c v q) (fun c q=>by rw[bP (gY q hn)]; exact q) fun c xs q=>by rw[bP (gY q hn)]; exact q
end
def Rd (H:Hp)(a:aD)(u:HO):Prop:=H a=some u \/ ∃ o,H a=some (.frz o u)
theorem Rd.ok {P:bE}{w:bA}{H:Hp}{h:aU}{a:aD}{u:HO}(r:Rd H a u)(x:HOk P w H h):Acy P w H h a u:=by
 rcases r with r | ⟨o,r⟩
 ·exact x a u r
 ·obtain⟨_,q⟩:=x a _ r
  exact q
def uU:Option HO->Prop
 | some (.lst _)=>True
 | some (.dK _ _)=>True
 | some (.dT _ _)=>True
 | some (.set _ _)=>True
 | some (.ins _ _ _)=>True
 | some (.ext _)=>True
 | _=>False
section
variable {P:bE}{w:bA}{H:Hp}{h h':aU}{x e:aD}{o':HO}
theorem HOk.write (ok:HOk P w H h)(mu:uU (H x))(he:e=x \/ H e=some (.own x))(k : ∀ b u,b≠e->h.get? b=some u->h'.get? b=some u)(heo : ∃ u,h'.get? e=some u)
  (new:Acy P w (upd H x o') h' x o'):HOk P w (upd H x o') h':=fun b u q=>by
 have nown : ∀ c y,H c=some (.own y)->c≠x:=fun c y r z=>by subst z; rw[r] at mu; exact mu
 have ntup : ∀ c xs,H c=some (.tup xs)->c≠x:=fun c xs r z=>by subst z; rw[r] at mu; exact mu
 by_cases hb:b=x
 ·subst hb; rw[eL] at q; cases q; exact new
 ·rw[bP hb] at q
  by_cases hbe:b=e
  ·have q':H b=some (.own x):=by
    rcases he with z | z
    ·exact absurd (hbe.trans z) hb
    ·rw[hbe]; exact z
   rw[q] at q'; cases q'
   obtain⟨v,hv⟩:=heo
   exact⟨v,by rw[hbe]; exact hv⟩
  ·refine(ok b u q).stay (fun c v hc r=>k c v ?_ r) (fun c r=>by rw[bP (nown c b r)]; exact r) fun c xs r=>by rw[bP (ntup c xs r)]; exact r
   rcases hc with rfl | hc
   ·exact hbe
   ·rintro rfl
    rcases he with z | z
    ·exact nown c b hc z
    ·rw[hc] at z; cases z; exact hb rfl
end
structure Un (fs ex:List aD)(H H':Hp)(h h':aU):Prop where
 keep : ∀ b o,h.get? b=some o->H b=none->b∉fs->b∉ex->h'.get? b=some o
 slot : ∀ b o,h.get? b=some o->H b=none->b∈fs->b∉ex -> ∃ sl,h'.get? b=some { o with slots:=sl }
 free : ∀ b o,h.get? b=some o->H b=none->b∉ex->H' b=none
 there : ∀ b o,h.get? b=some o->b∉ex -> ∃ o',h'.get? b=some o'
 tups : ∀ b xs,H b=some (.tup xs)->H' b=some (.tup xs)
 frzs : ∀ b o u,H b=some (.frz o u)->H' b=some (.frz o u)
 tbls : ∀ b ps,H b=some (.tbl ps) -> ∃ more,H' b=some (.tbl (ps++more))
section
variable {fs fs' ex ex':List aD}{H H1 H2:Hp}{h h1 h2 h':aU}{a x e:aD}{o:HO}
theorem Un.any (u:Un fs ex H H1 h h1){b:aD}{ob:aX}(q:h.get? b=some ob)(n:H b=none)(hx:b∉ex) : ∃ sl,h1.get? b=some { ob with slots:=sl }:=by
 by_cases hb:b∈fs
 ·exact u.slot b ob q n hb hx
 ·exact⟨ob.slots,u.keep b ob q n hb hx⟩
theorem Un.kept (k : ∀ b u,h.get? b=some u->h'.get? b=some u):Un fs ex H H h h':=
 ⟨fun b ob q _ _ _=>k b ob q,fun b ob q _ _ _=>⟨ob.slots,k b ob q⟩,fun _ _ _ n _=>n,fun b ob q _=>⟨ob,k b ob q⟩,fun _ _ q=>q,fun _ _ _ q=>q,fun _ ps q=>⟨#[],by rw[q]; simp⟩⟩
theorem Un.refl:Un fs ex H H h h:=Un.kept fun _ _ q=>q
theorem Un.laid (k : ∀ b u,h.get? b=some u->h'.get? b=some u)(hp:h.objs.size≤a)(hn:H a=none):Un fs ex H (upd H a o) h h' where
 keep:=fun b u q _ _ _=>k b u q
 slot:=fun b u q _ _ _=>⟨u.slots,k b u q⟩
 free:=fun b u q n _=>by rw[bP (dF (gN (cE q) hp))]; exact n
 there:=fun b u q _=>⟨u,k b u q⟩
 tups:=fun b xs q=>by rw[bP (gY q hn)]; exact q
 frzs:=fun b u xs q=>by rw[bP (gY q hn)]; exact q
 tbls:=fun b ps q=>⟨#[],by rw[bP (gY q hn),q]; simp⟩
theorem Un.write (mu:uU (H x))(he:e=x \/ H e=some (.own x))(k : ∀ b u,b≠e->h.get? b=some u->h'.get? b=some u)(heo : ∃ u,h'.get? e=some u):Un fs ex H (upd H x o) h h':=by
 have hx : ∀ b,H b=none->b≠x:=fun b n z=>by subst z; rw[n] at mu; exact mu
 have hb : ∀ b,H b=none->b≠e:=fun b n z=>by
  subst z
  rcases he with r | r
  ·exact hx b n r
  ·rw[n] at r; cases r
 have hm : ∀ b u,H b=some u -> ¬ uU (some u)->b≠x:=fun b u q nm z=>by subst z; rw[q] at mu; exact nm mu
 refine⟨fun b u q n _ _=>k b u (hb b n) q,fun b u q n _ _=>⟨u.slots,k b u (hb b n) q⟩,fun b u q n _=>by rw[bP (hx b n)]; exact n,fun b u q _=>?_,
  fun b xs q=>by rw[bP (hm b _ q fun z=>z)]; exact q,fun b u xs q=>by rw[bP (hm b _ q fun z=>z)]; exact q,fun b ps q=>⟨#[],by rw[bP (hm b _ q fun z=>z),q]; simp⟩⟩
 by_cases hbe:b=e
 ·subst hbe; exact heo
 ·exact⟨u,k b u hbe q⟩
end
noncomputable def trk (h:aU)(H:Hp):List aD:=(dG h.objs.size).filter fun a=>(H a).isSome
noncomputable def nV (h:aU)(H:Hp):aU:=PySem.W.hideAll h (trk h H)
theorem Da (h:aU)(H:Hp):(nV h H).objs.size=h.objs.size:=PySem.W.hideAll_size _ _
theorem Pg {h:aU}{H:Hp}{b:aD}{o:aX}(e:h.get? b=some o)(n:H b=none):(nV h H).get? b=some o:=
 IQ _ e fun hm=>by
  have q:(H b).isSome=true:=(List.mem_filter.mp hm).2
  rw[n] at q; simp at q
theorem Lc {h:aU}{H:Hp}{b:aD}{o:aX}(e:(nV h H).get? b=some o):h.get? b=some o/\H b=none:=by
 have e':h.get? b=some o:=VB (trk h H) e
 refine⟨e',?_⟩
 cases q:H b with
 | none=>rfl
 | some x=>
  have hm:b∈trk h H:=List.mem_filter.mpr ⟨pR.mpr (cE e'),by simp[q]⟩
  have z:(nV h H).get? b=none:=PySem.W.hideAll_none (trk h H) hm
  rw[z] at e; cases e
noncomputable def Jw (g h:aU)(L:aD):List (aD×aX):=(dG h.objs.size).filterMap fun a=>if a=L \/ (g.get? a).isSome=true then none else(h.get? a).map fun o=>(a,o)
noncomputable def rest (g h:aU)(L d:aD):List (aD×aX):=(Jw g h L).filter fun p=>decide (p.1≠d)
structure Mod (K:aJ)(mg:aB->Option aE)(base:aU):Prop where
 kin:K.In base
 glob:base.Ns bZ mg
 blt : ∃ mb,base.Ns builtinsNs mb /\ ∀ x:aB,x ≠ "__name__" -> mb x=iZ x
 nolimit:base.NoLimit
structure Cx where
 prog:bE
 w:bA
 K:aJ
 mg:aB->Option aE
 base:aU
 A:bY
 N:List aB
 s₀:aH
 H₀:Hp
 env:dZ
 outer:List dZ
 stack:List dZ
 ex:List aD
 fn:aB->Bool
 calm:Bool
 pn:List (aD×aX)
 xe:aE->aH->Prop
noncomputable def frs (l:List dZ):List aD:=l.filterMap (·.frame)
noncomputable abbrev Cx.fs (X:Cx):List aD:=frs X.outer
def nB (sc:gZ)(x:aB):Prop:=sc.names.lookup x=some .local \/ sc.names.lookup x=some .cell \/ sc.names.lookup x=some .free
def lL (sc:gZ)(x:aB):Prop:=sc.names.lookup x=some .local \/ sc.names.lookup x=some .cell
def Look (env:dZ)(h:aU)(m:aB->Option aE)(x:aB)(u:aE):Prop:=
 (env.kindOf x=some .local/\m x=some u) \/ ((env.kindOf x=some .cell \/ env.kindOf x=some .free) /\ ∃ c,env.cells.lookup x=some c/\h.IsCell c (some u))
structure Cx.Ok (X:Cx):Prop where
 mod:Mod X.K X.mg X.base
 kind:X.env.scope.kind = .function
 glob:X.env.globals=bZ
 blt:X.env.builtins=builtinsNs
 above:X.s₀.heap.objs.size≤X.env.locals
 inj : ∀ x y c,X.env.cells.lookup x=some c->X.env.cells.lookup y=some c->x=y
 has : ∀ x,(X.env.kindOf x=some .cell \/ X.env.kindOf x=some .free) -> ∃ c,X.env.cells.lookup x=some c
 cab : ∀ x c,X.fn x=true->X.env.cells.lookup x=some c->X.s₀.heap.objs.size≤c
 hd:X.calm=true->X.A.handled=none
 frames:X.A.frames=some X.stack
 stk:X.stack=X.outer \/ (X.stack=X.env::X.outer/\X.env.frame=some X.env.locals)
 exf : ∀ b∈X.ex,b≠X.env.locals /\ ∀ x c,X.env.cells.lookup x=some c->c≠b
 bs : ∀ b o,X.base.get? b=some o->X.s₀.heap.get? b=some o/\X.H₀ b=none
 bsz:X.base.objs.size≤X.s₀.heap.objs.size
 noex : ∀ b o,X.base.get? b=some o->b∉X.ex
 exfs : ∀ b∈X.ex,b∉X.fs
 funs:X.s₀.heap.FunFrames X.base X.outer
 frf : ∀ b∈X.fs,X.H₀ b=none
structure Inv (X:Cx)(pins:List (aD×aX))(σ:List (Option V))(H:Hp)(s:aH):Prop where
 ok:X.Ok
 os:s.os=X.s₀.os
 bare:oP s.gens
 base:Un X.fs X.ex X.H₀ H X.s₀.heap s.heap
 loc : ∃ m,s.heap.Ns X.env.locals m /\ ∀ (i:Nat) (x:aB) (v:V),X.N[i]?=some x->σ[i]?=some (some v)->nB X.env.scope x -> ∃ u,RelV v u/\Look X.env s.heap m x u
 cell : ∀ x c,X.env.cells.lookup x=some c -> ∃ v,s.heap.IsCell c v
 free:H X.env.locals=none
 freeC : ∀ x c,X.env.cells.lookup x=some c->H c=none
 pin : ∀ p∈X.pn++pins,s.heap.get? p.1=some p.2/\H p.1=none/\p.1≠X.env.locals/\p.1∉X.fs /\ ∀ v,p.2.data ≠ .cell v
 hok:HOk X.prog X.w H s.heap
 len:σ.length=X.N.length
section
variable {X:Cx}{pins:List (aD×aX)}{σ:List (Option V)}{H H':Hp}{s:aH}{h':aU}
theorem Cx.Ok.nofr (ok:X.Ok){b:aD}{o:aX}(e:X.base.get? b=some o):b∉X.fs:=fun hb=>by
 have:=(ok.funs.mem hb).1
 rw[e] at this; cases this
theorem Inv.bs (I:Inv X pins σ H s) : ∀ b o,X.base.get? b=some o->s.heap.get? b=some o/\H b=none:=fun b o e=>
 ⟨I.base.keep b o (I.ok.bs b o e).1 (I.ok.bs b o e).2 (I.ok.nofr e) (I.ok.noex b o e),I.base.free b o (I.ok.bs b o e).1 (I.ok.bs b o e).2 (I.ok.noex b o e)⟩
theorem Inv.bk (I:Inv X pins σ H s) : ∀ b o,X.base.get? b=some o->s.heap.get? b=some o:=fun b o e=>(I.bs b o e).1
theorem Inv.mod (I:Inv X pins σ H s):Mod X.K X.mg X.base:=I.ok.mod
theorem Inv.kIn (I:Inv X pins σ H s):X.K.In s.heap:=I.ok.mod.kin.keeps I.bk
theorem Inv.lt (I:Inv X pins σ H s):X.env.locals<s.heap.objs.size:=let ⟨_,hn,_⟩:=I.loc; hn.lt
theorem Inv.sz (I:Inv X pins σ H s):X.s₀.heap.objs.size≤s.heap.objs.size:=jQ I.ok.above (BO I.lt)
theorem Inv.nofs (I:Inv X pins σ H s){a:aD}(h:s.heap.objs.size≤a):a∉X.fs:=fun hb=>by
 obtain⟨_,o,ho,_⟩:=I.ok.funs.mem hb
 exact absurd (gN (cE ho) (jQ I.sz h)) (jP _)
theorem Inv.cne (I:Inv X pins σ H s) : ∀ x c,X.env.cells.lookup x=some c->c≠X.env.locals:=fun x c e z=>by
 obtain⟨v,o,ho,hd⟩:=I.cell x c e
 obtain⟨m,⟨o',es,ep,ho',hd',_⟩,_⟩:=I.loc
 rw[z,ho'] at ho; cases ho; rw[hd'] at hd; cases hd
theorem Inv.funs (I:Inv X pins σ H s):s.heap.FunFrames X.base X.outer:=by
 have all : ∀ (l:List dZ),(∀ b∈frs l,b∈X.fs)->X.s₀.heap.FunFrames X.base l->s.heap.FunFrames X.base l:=by
  intro l
  induction l with
  | nil=>intro _ _; trivial
  | cons env r ih=>
   intro hs hl
   obtain⟨hk,⟨L,o,hf,hn,ho,hd⟩,hr⟩:=hl
   have hL:L∈X.fs:=hs L (by unfold frs; rw[WG,hf]; exact cC)
   obtain⟨sl,e⟩:=I.base.slot L o ho (I.ok.frf L hL) hL fun z=>I.ok.exfs L z hL
   exact⟨hk,⟨L,_,hf,hn,e,hd⟩,ih (fun b hb=>hs b (by unfold frs; rw[WG,hf]; exact cD _ hb)) hr⟩
 exact all X.outer (fun _ hb=>hb) I.ok.funs
theorem Inv.stack (I:Inv X pins σ H s):s.heap.FunFrames X.base X.stack:=by
 rcases I.ok.stk with e | ⟨e,hf⟩
 ·rw[e]; exact I.funs
 ·rw[e]
  obtain⟨m,hn,_⟩:=I.loc
  refine .cons (by rw[I.ok.kind]; decide) hf hn ?_ I.funs
  exact Heap.get?_none_of_le (jQ I.ok.bsz I.ok.above)
theorem Inv.stkSub (I:Inv X pins σ H s) : ∀ b∈frs X.stack,b∈X.env.locals::X.fs:=fun b hb=>by
 rcases I.ok.stk with e | ⟨e,hf⟩
 ·rw[e] at hb; exact cD _ hb
 ·rw[e] at hb
  unfold frs at hb
  rw[WG,hf] at hb
  exact hb
theorem Inv.stkFree (I:Inv X pins σ H s) : ∀ b∈frs X.stack,H b=none:=fun b hb=>by
 rcases cQ.mp (I.stkSub b hb) with e | hb
 ·rw[e]; exact I.free
 ·obtain⟨_,o,ho,_⟩:=I.ok.funs.mem hb
  exact I.base.free b o ho (I.ok.frf b hb) fun z=>I.ok.exfs b z hb
theorem Inv.step {g':Array uT}{t':Nat}{d':Drawn}{ch:List aD}(I:Inv X pins σ H s)
  (hch : ∀ b∈ch,(b∈X.ex \/ X.s₀.heap.objs.size≤b)/\b≠X.env.locals/\(∀ x c,X.env.cells.lookup x=some c->c≠b) /\ ∀ p∈X.pn++pins,p.1≠b)
  (keep : ∀ b o,b≠X.env.locals->b∉X.fs->b∉ch->s.heap.get? b=some o->H b=none->h'.get? b=some o)
  (slot : ∀ b o,b≠X.env.locals->b∈X.fs->b∉ch->s.heap.get? b=some o->H b=none -> ∃ sl,h'.get? b=some { o with slots:=sl }) (free : ∀ b o,b∉ch->s.heap.get? b=some o->H b=none->H' b=none)
  (there : ∀ b o,b∉ch->s.heap.get? b=some o -> ∃ o',h'.get? b=some o')
  (tups : ∀ b xs,H b=some (.tup xs)->H' b=some (.tup xs)) (frzs : ∀ b o u,H b=some (.frz o u)->H' b=some (.frz o u)) (tbls : ∀ b ps,H b=some (.tbl ps) -> ∃ more,H' b=some (.tbl (ps++more)))
  (ns : ∀ m,s.heap.Ns X.env.locals m->h'.Ns X.env.locals m) (hok:HOk X.prog X.w H' h') (hg:oP g') :
  Inv X pins σ H' { s with heap:=h',gens:=g',drawn:=d',toks:=t' }:=by
 have neL : ∀ b o,X.s₀.heap.get? b=some o->b≠X.env.locals:=fun b o e=>dF (gN (cE e) I.ok.above)
 have neC : ∀ b o,X.s₀.heap.get? b=some o->b∉X.ex->b∉ch:=fun b o e hx hb=>by
  rcases(hch b hb).1 with z | z
  ·exact hx z
  ·exact absurd (gN (cE e) z) (jP _)
 have cellK : ∀ x c,X.env.cells.lookup x=some c -> ∀ v,s.heap.IsCell c v->h'.IsCell c v:=fun x c e v gh=>by
  obtain⟨o,ho,hd⟩:=gh
  have nch:c∉ch:=fun z=>(hch c z).2.2.1 x c e rfl
  by_cases hc:c∈X.fs
  ·obtain⟨sl,q⟩:=slot c o (I.cne x c e) hc nch ho (I.freeC x c e)
   exact⟨_,q,hd⟩
  ·exact⟨o,keep c o (I.cne x c e) hc nch ho (I.freeC x c e),hd⟩
 refine⟨I.ok,I.os,hg,⟨fun b o e n hb hx=>?_,fun b o e n hb hx=>?_,fun b o e n hx=>?_,fun b o e hx=>?_,fun b xs e=>tups b xs (I.base.tups b xs e),fun b o xs e=>frzs b o xs (I.base.frzs b o xs e),fun b ps e=>?_⟩,?_,fun x c e=>?_,?_,fun x c e=>?_,fun p hp=>?_,hok,I.len⟩
 ·exact keep b o (neL b o e) hb (neC b o e hx) (I.base.keep b o e n hb hx) (I.base.free b o e n hx)
 ·obtain⟨sl,e1⟩:=I.base.slot b o e n hb hx
  obtain⟨sl',e2⟩:=slot b _ (neL b o e) hb (neC b o e hx) e1 (I.base.free b o e n hx)
  exact⟨sl',e2⟩
 ·obtain⟨o',e1⟩:=I.base.there b o e hx
  exact free b o' (neC b o e hx) e1 (I.base.free b o e n hx)
 ·obtain⟨o',e1⟩:=I.base.there b o e hx
  exact there b o' (neC b o e hx) e1
 ·obtain⟨m1,e1⟩:=I.base.tbls b ps e
  obtain⟨m2,e2⟩:=tbls b _ e1
  exact⟨m1++m2,by rw[e2,Array.append_assoc]⟩
 ·obtain⟨m,hn,hl⟩:=I.loc
  refine⟨m,ns m hn,fun i x v e1 e2 e3=>?_⟩
  obtain⟨u,r,l⟩:=hl i x v e1 e2 e3
  refine⟨u,r,?_⟩
  rcases l with l | ⟨k,c,e,z⟩
  ·exact .inl l
  ·exact .inr ⟨k,c,e,cellK x c e _ z⟩
 ·obtain⟨v,z⟩:=I.cell x c e
  exact⟨v,cellK x c e v z⟩
 ·obtain⟨m,⟨o,_,_,ho,_⟩,_⟩:=I.loc
  exact free _ o (fun z=>(hch _ z).2.1 rfl) ho I.free
 ·obtain⟨v,o,ho,hd⟩:=I.cell x c e
  exact free c o (fun z=>(hch c z).2.2.1 x c e rfl) ho (I.freeC x c e)
 ·obtain⟨e,n,ne,nf,d⟩:=I.pin p hp
  have nch:p.1∉ch:=fun z=>(hch p.1 z).2.2.2 p hp rfl
  exact⟨keep p.1 p.2 ne nf nch e n,free p.1 p.2 nch e n,ne,nf,d⟩
theorem Inv.un {t':Nat}(I:Inv X pins σ H s)(u:Un X.fs [] H H' s.heap h')(hok:HOk X.prog X.w H' h'):Inv X pins σ H' { s with heap:=h',toks:=t' }:=by
 obtain⟨m,⟨o,es,ep,ho,r⟩,_⟩:=id I.loc
 obtain⟨sl,hL⟩:=u.any ho I.free (by simp)
 exact I.step (g':=s.gens) (d':=s.drawn) (ch:=[]) (fun _ z=>nomatch z) (fun b o _ hb _ e n=>u.keep b o e n hb (by simp)) (fun b o _ hb _ e n=>u.slot b o e n hb (by simp)) (fun b o _ e n=>u.free b o e n (by simp)) (fun b o _ e=>u.there b o e (by simp)) u.tups u.frzs u.tbls (fun m' hm=>by
  obtain⟨o',es',ep',ho',r'⟩:=hm
  rw[ho] at ho'; cases ho'
  exact⟨_,es',ep',hL,r'⟩) hok I.bare
theorem Inv.call {g':Array uT}{t':Nat}{d':Drawn}{ch:List aD}(I:Inv X pins σ H s)(u:Un (frs X.stack) ch H H' s.heap h')(hok:HOk X.prog X.w H' h')(hg:oP g')
  (hch : ∀ b∈ch,(b∈X.ex \/ X.s₀.heap.objs.size≤b)/\b≠X.env.locals/\(∀ x c,X.env.cells.lookup x=some c->c≠b) /\ ∀ p∈X.pn++pins,p.1≠b) :
  Inv X pins σ H' { s with heap:=h',gens:=g',drawn:=d',toks:=t' }:=by
 obtain⟨m,⟨o,es,ep,ho,r⟩,_⟩:=id I.loc
 obtain⟨sl,hL⟩:=u.any ho I.free fun z=>(hch _ z).2.1 rfl
 exact I.step (ch:=ch) hch (fun b o hL hb hc e n=>u.keep b o e n (fun z=>(cQ.mp (I.stkSub b z)).elim hL hb) hc) (fun b o _ _ hc e n=>u.any e n hc) (fun b o hc e n=>u.free b o e n hc) (fun b o hc e=>u.there b o e hc) u.tups u.frzs u.tbls (fun m' hm=>by
  obtain⟨o',es',ep',ho',r'⟩:=hm
  rw[ho] at ho'; cases ho'
  exact⟨_,es',ep',hL,r'⟩) hok hg
theorem Inv.turned {t':Nat}{it:aD}(I:Inv X pins σ H s)(k : ∀ b o,b≠it->s.heap.get? b=some o->h'.get? b=some o)(hn:H it=none)(hL:it≠X.env.locals)
  (h1:it∈X.ex \/ X.s₀.heap.objs.size≤it) (h2 : ∀ x c,X.env.cells.lookup x=some c->c≠it) (h3 : ∀ p∈X.pn++pins,p.1≠it):Inv X pins σ H { s with heap:=h',toks:=t' }:=by
 have nit : ∀ b u,H b=some u->b≠it:=fun b u e z=>by rw[z,hn] at e; cases e
 refine I.step (g':=s.gens) (d':=s.drawn) (ch:=[it]) (fun b hb=>?_) (fun b o _ _ hc e _=>k b o (fun z=>hc (by simp[z])) e) (fun b o _ _ hc e _=>⟨o.slots,k b o (fun z=>hc (by simp[z])) e⟩) (fun _ _ _ _ n=>n)
  (fun b o hc e=>⟨o,k b o (fun z=>hc (by simp[z])) e⟩) (fun _ _ e=>e) (fun _ _ _ e=>e) (fun b ps e=>⟨#[],by rw[e]; simp⟩) (fun m hm=>?_) (fun b u e=>?_) I.bare
 ·have e:b=it:=by simpa using hb
  subst e
  exact⟨h1,hL,h2,h3⟩
 ·obtain⟨o,es,ep,ho,r⟩:=hm
  exact⟨o,es,ep,k _ o (jO hL) ho,r⟩
 ·refine(I.hok b u e).stay (fun c v hc q=>k c v ?_ q) (fun _ q=>q) fun _ _ q=>q
  rcases hc with z | z
  ·rw[z]; exact nit b u e
  ·exact nit c _ z
theorem Inv.tok (I:Inv X pins σ H s)(t:Nat):Inv X pins σ H { s with toks:=t }:=I.un (h':=s.heap) (t':=t) Un.refl I.hok
theorem Inv.kept {t':Nat}(I:Inv X pins σ H s)(k : ∀ b u,s.heap.get? b=some u->h'.get? b=some u):Inv X pins σ H { s with heap:=h',toks:=t' }:=I.un (Un.kept k) (I.hok.kept k)
theorem Inv.laid {a:aD}{o:HO}{t':Nat}(I:Inv X pins σ H s)(k : ∀ b u,s.heap.get? b=some u->h'.get? b=some u)(hp:s.heap.objs.size≤a)(new:Acy X.prog X.w (upd H a o) h' a o) :
  Inv X pins σ (upd H a o) { s with heap:=h',toks:=t' }:=I.un (Un.laid k hp (I.hok.fresh hp)) (I.hok.laid k hp new)
theorem Inv.write {x e:aD}{o:HO}{t':Nat}(I:Inv X pins σ H s)(mu:uU (H x))(he:e=x \/ H e=some (.own x))(k : ∀ b u,b≠e->s.heap.get? b=some u->h'.get? b=some u)(heo : ∃ u,h'.get? e=some u)
  (new:Acy X.prog X.w (upd H x o) h' x o):Inv X pins σ (upd H x o) { s with heap:=h',toks:=t' }:=I.un (Un.write mu he k heo) (I.hok.write mu he k heo new)
theorem Inv.pins_of {pins':List (aD×aX)}(I:Inv X pins σ H s)(h : ∀ p∈pins',s.heap.get? p.1=some p.2/\H p.1=none/\p.1≠X.env.locals/\p.1∉X.fs /\ ∀ v,p.2.data ≠ .cell v):Inv X pins' σ H s:=
 ⟨I.ok,I.os,I.bare,I.base,I.loc,I.cell,I.free,I.freeC,fun p hp=>(jS.mp hp).elim (fun z=>I.pin p (VY _ z)) (h p),I.hok,I.len⟩
theorem FC {N:List aB}(hN:N.Nodup){i j:Nat}{x:aB}(a:N[i]?=some x)(b:N[j]?=some x):i=j:=by
 obtain⟨h1,e1⟩:=fI.mp a
 obtain⟨h2,e2⟩:=fI.mp b
 exact(List.getElem_inj hN).mp (e1.trans e2.symm)
theorem QH {M:Model}{A:bY}{E:aE->aH->Prop}{i:Nat}{x:aB}{v:V}{u:aE}{Q:Unit->aH->Prop}(I:Inv X pins σ H s)(hN:X.N.Nodup)(hi:X.N[i]?=some x)(hx:lL X.env.scope x)(r:RelV v u)
  (h : ∀ s',Inv X pins (σ.set i (some v)) H s'->(∃ a,yD a s.heap s'.heap/\(a=X.env.locals \/ X.env.cells.lookup x=some a))->Q () s') (hf:X.fn x=true \/ X.env.scope.names.lookup x=some .local:=by first | exact .inl rfl | exact .inr rfl | assumption):aP M A (storeName X.env x u) Q E s:=by
 obtain⟨m,hn,hl⟩:=id I.loc
 have hcls:(X.env.scope.kind == .class||(X.env.scope.kind == .module&&X.env.locals != X.env.globals))=false:=by rw[I.ok.kind]; rfl
 have hiσ:i<σ.length:=by rw[I.len]; exact(fI.mp hi).1
 have cne:=I.cne
 have tracked : ∀ {a:aD} {h':aU},(∃ o,s.heap.get? a=some o/\H a=none)->yD a s.heap h'->HOk X.prog X.w H h':=fun {a h'} ha hs b ob e=>by
  obtain⟨_,_,hfree⟩:=ha
  refine(I.hok b ob e).stay (fun c w' hc q=>(hs.2 c ?_).trans q) (fun _ q=>q) fun _ _ q=>q
  rintro rfl
  rcases hc with rfl | hc
  ·rw[hfree] at e; cases e
  ·rw[hfree] at hc; cases hc
 rcases hx with hk | hk
 ·refine wpAny_storeName_local hk hn (fun h' hn' hs=>?_) hcls
  obtain⟨oL,_,_,hoL,_⟩:=id hn
  refine h _ ⟨I.ok,I.os,I.bare,⟨fun b o e n hb hx=>?_,fun b o e n hb hx=>?_,I.base.free,fun b o e hx=>?_,I.base.tups,I.base.frzs,I.base.tbls⟩,⟨_,hn',fun j y v' e1 e2 e3=>?_⟩,fun y c e=>?_,I.free,I.freeC,fun p hp=>?_,tracked ⟨oL,hoL,I.free⟩ hs,by simpa using I.len⟩ ⟨_,hs,.inl rfl⟩
  ·exact(hs.2 b (dF (gN (cE e) I.ok.above))).trans (I.base.keep b o e n hb hx)
  ·obtain⟨sl,e1⟩:=I.base.slot b o e n hb hx
   exact⟨sl,(hs.2 b (dF (gN (cE e) I.ok.above))).trans e1⟩
  ·obtain⟨o',e1⟩:=I.base.there b o e hx
   exact⟨o',(hs.2 b (dF (gN (cE e) I.ok.above))).trans e1⟩
  ·by_cases hj:j=i
   ·subst hj
    rw[hi] at e1; cases e1
    rw[lJ hiσ] at e2
    cases e2
    exact⟨u,r,.inl ⟨hk,by simp⟩⟩
   ·rw[lK (jO hj)] at e2
    obtain⟨u',r',q⟩:=hl j y v' e1 e2 e3
    refine⟨u',r',?_⟩
    rcases q with⟨k,e⟩ | ⟨k,c,e,z⟩
    ·refine .inl ⟨k,?_⟩
     have:y≠x:=fun e=>hj (FC hN e1 (e ▸ hi))
     simp[this,e]
    ·exact .inr ⟨k,c,e,z.sameBut hs (cne y c e)⟩
  ·obtain⟨w',z⟩:=I.cell y c e
   exact⟨w',z.sameBut hs (cne y c e)⟩
  ·obtain⟨e,n,ne,nf,d⟩:=I.pin p hp
   exact⟨(hs.2 p.1 ne).trans e,n,ne,nf,d⟩
 ·have hfn:X.fn x=true:=by
   rcases hf with z | z
   ·exact z
   ·rw[z] at hk; cases hk
  obtain⟨c,hc⟩:=I.ok.has x (.inl hk)
  obtain⟨w',z⟩:=I.cell x c hc
  refine wpAny_storeName_cell I.ok.kind hk hc z (fun h' hc' hs=>?_)
  obtain⟨oc,hoc,hocd⟩:=id z
  refine h { s with heap:=h' } ⟨I.ok,I.os,I.bare,⟨fun b o e n hb hx=>?_,fun b o e n hb hx=>?_,I.base.free,fun b o e hx=>?_,I.base.tups,I.base.frzs,I.base.tbls⟩,⟨m,hn.sameBut hs (jO (cne x c hc)),fun j y v' e1 e2 e3=>?_⟩,fun y c' e=>?_,I.free,I.freeC,fun p hp=>?_,tracked ⟨oc,hoc,I.freeC x c hc⟩ hs,by simpa using I.len⟩ ⟨c,hs,.inr hc⟩
  ·exact(hs.2 b (dF (gN (cE e) (I.ok.cab x c hfn hc)))).trans (I.base.keep b o e n hb hx)
  ·obtain⟨sl,e1⟩:=I.base.slot b o e n hb hx
   exact⟨sl,(hs.2 b (dF (gN (cE e) (I.ok.cab x c hfn hc)))).trans e1⟩
  ·obtain⟨o',e1⟩:=I.base.there b o e hx
   exact⟨o',(hs.2 b (dF (gN (cE e) (I.ok.cab x c hfn hc)))).trans e1⟩
  ·by_cases hj:j=i
   ·subst hj
    rw[hi] at e1; cases e1
    rw[lJ hiσ] at e2
    cases e2
    exact⟨u,r,.inr ⟨.inl hk,c,hc,hc'⟩⟩
   ·rw[lK (jO hj)] at e2
    obtain⟨u',r',q⟩:=hl j y v' e1 e2 e3
    refine⟨u',r',?_⟩
    rcases q with q | ⟨k,c',e,z'⟩
    ·exact .inl q
    ·refine .inr ⟨k,c',e,z'.sameBut hs ?_⟩
     rintro rfl
     exact hj (FC hN e1 (I.ok.inj _ _ _ e hc ▸ hi))
  ·by_cases hcc:c'=c
   ·subst hcc; exact⟨_,hc'⟩
   ·obtain⟨w2,z2⟩:=I.cell y c' e
    exact⟨w2,z2.sameBut hs hcc⟩
  ·obtain⟨e,n,ne,nf,d⟩:=I.pin p hp
   refine⟨(hs.2 p.1 ?_).trans e,n,ne,nf,d⟩
   intro q
   rw[q,hoc] at e
   have q':oc=p.2:=eU e
   exact d w' (by rw[← q']; exact hocd)
theorem FL {M:Model}{A:bY}{E:aE->aH->Prop}{i:Nat}{x:aB}{v:V}{u:aE}{Q:Unit->aH->Prop}(I:Inv X pins σ H s)(hN:X.N.Nodup)(hi:X.N[i]?=some x)(hx:lL X.env.scope x)(r:RelV v u)
  (h : ∀ s',Inv X pins (σ.set i (some v)) H s'->Q () s') (hf:X.fn x=true \/ X.env.scope.names.lookup x=some .local:=by first | exact .inl rfl | exact .inr rfl | assumption):aP M A (storeName X.env x u) Q E s:=
 QH I hN hi hx r (fun s' I' _=>h s' I') hf
theorem Inv.call' {s':aH}{ch:List aD}(I:Inv X pins σ H s)(ho:s'.os=s.os)(u:Un (frs X.stack) ch H H' s.heap s'.heap)(hok:HOk X.prog X.w H' s'.heap)(hg:oP s'.gens)
  (hch : ∀ b∈ch,(b∈X.ex \/ X.s₀.heap.objs.size≤b)/\b≠X.env.locals/\(∀ x c,X.env.cells.lookup x=some c->c≠b) /\ ∀ p∈X.pn++pins,p.1≠b):Inv X pins σ H' s':=by
 obtain⟨h',g',d',t',o'⟩:=s'
 have e:o'=s.os:=ho
 subst e
 exact I.call (g':=g') (t':=t') (d':=d') u hok hg hch
end
abbrev XK:=aE->Option aD->Hp->Prop
abbrev St:=List (Option V)
abbrev VK:=V->Hp->Prop
abbrev TE:=St->Hp->VK->Prop
abbrev TT:=St->Hp->(Bool->Hp->Prop)->Prop
abbrev TA:=St->Hp->(List V->Hp->Prop)->Prop
structure Ends where
 nx:St->Hp->Prop
 rt:VK
 bk:St->Hp->Prop:=fun _ _=>False
 ct:St->Hp->Prop:=fun _ _=>False
abbrev TS:=Ends->St->Hp->Prop
def EP (X:Cx)(pins:List (aD×aX))(σ:St)(Q:VK)(u:aE)(s':aH):Prop:=∃ v H',Inv X pins σ H' s'/\RelV v u/\Q v H'
def TP (X:Cx)(pins:List (aD×aX))(σ:St)(Q:Bool->Hp->Prop)(b:Bool)(s':aH):Prop:=∃ H',Inv X pins σ H' s'/\Q b H'
def AP (X:Cx)(pins:List (aD×aX))(σ:St)(Q:List V->Hp->Prop)(us:List aE)(s':aH):Prop:=∃ vs H',Inv X pins σ H' s'/\Vals vs us/\Q vs H'
def SP (X:Cx)(pins:List (aD×aX))(D:Ends)(f:Flow)(s':aH):Prop:=
 match f with
 | .next=>∃ σ' H',Inv X pins σ' H' s'/\D.nx σ' H'
 | .brk=>∃ σ' H',Inv X pins σ' H' s'/\D.bk σ' H'
 | .cont=>∃ σ' H',Inv X pins σ' H' s'/\D.ct σ' H'
 | .ret u=>∃ v σ' H',Inv X pins σ' H' s'/\RelV v u/\D.rt v H'
def PE (X:Cx)(e:aS)(t:TE):Prop:=
 ∀ (pins:List (aD×aX)) (s:aH) (σ:St) (H:Hp) (Q:VK),Inv X pins σ H s->t σ H Q->aP (aQ X.prog X.w) X.A (bJ e X.env) (EP X pins σ Q) X.xe s
def PT (X:Cx)(e:aS)(t:TT):Prop:=
 ∀ (pins:List (aD×aX)) (s:aH) (σ:St) (H:Hp) (Q:Bool->Hp->Prop),Inv X pins σ H s->t σ H Q->aP (aQ X.prog X.w) X.A (isTrue e X.env (bJ e X.env)) (TP X pins σ Q) X.xe s
def PW (X:Cx)(e:aS)(t:TT):Prop:=
 ∀ (whole:Sem aE) (pins:List (aD×aX)) (s:aH) (σ:St) (H:Hp) (Q:Bool->Hp->Prop),Inv X pins σ H s->t σ H Q->aP (aQ X.prog X.w) X.A (isTrue e X.env whole) (TP X pins σ Q) X.xe s
theorem PW.pt {X:Cx}{e:aS}{t:TT}(h:PW X e t):PT X e t:=h _
def PA (X:Cx)(es:List aS)(t:TA):Prop:=
 ∀ (pos:bG) (pins:List (aD×aX)) (s:aH) (σ:St) (H:Hp) (Q:List V->Hp->Prop),Inv X pins σ H s->t σ H Q->aP (aQ X.prog X.w) X.A (spliced (fF pos (bI es X.env))) (AP X pins σ Q) X.xe s
def PS (X:Cx)(st:bH)(t:TS):Prop:=
 ∀ (pins:List (aD×aX)) (s:aH) (σ:St) (H:Hp) (D:Ends),Inv X pins σ H s->t D σ H->aP (aQ X.prog X.w) X.A (exec st X.env) (SP X pins D) X.xe s
def PSs (X:Cx)(st:List bH)(t:TS):Prop:=
 ∀ (pins:List (aD×aX)) (s:aH) (σ:St) (H:Hp) (D:Ends),Inv X pins σ H s->t D σ H->aP (aQ X.prog X.w) X.A (execs st X.env) (SP X pins D) X.xe s
theorem thn {α:Type}{t:Sem α}{Q Q':α->aH->Prop}{M:Model}{A:bY}{E:aE->aH->Prop}{s:aH}(h:aP M A t Q E s)(hQ : ∀ a s,Q a s->Q' a s):aP M A t Q' E s:=iW h hQ fun _ _ x=>x
section
variable {X:Cx}
noncomputable abbrev KC (i:Nat):TE:=fun σ H Q=>∃ v,σ[i]?=some (some v)/\Q v H
noncomputable abbrev tC (v:V):TE:=fun _ H Q=>Q v H
theorem qG {i:Nat}{x:aB}{pos:bG}(hN:X.N[i]?=some x)(hv:nB X.env.scope x)(hd:(x == ("__debug__" : aB))=false:=by decide)(hcd:(x == ("__classdict__" : aB))=false:=by decide):PE X (.Name x pos) (KC i):=by
 intro pins s σ H Q I h
 obtain⟨v,e,h⟩:=h
 obtain⟨m,hn,hl⟩:=I.loc
 obtain⟨u,r,l⟩:=hl i x v hN e hv
 have fin:EP X pins σ Q u s:=⟨v,H,I,r,h⟩
 rcases l with⟨hk,hm⟩ | ⟨hk,c,hc,hcell⟩
 ·exact wpAny_Name (wpAny_loadName_local I.ok.kind hk hn hm fin) hd
 ·rcases hk with hk | hk
  ·exact wpAny_Name (wpAny_loadName_cell I.ok.kind hk hc hcell fin) hd
  ·exact wpAny_Name (wpAny_loadName_free I.ok.kind hk hc hcell fin hcd) hd
theorem Bp {i j pos}:PE X (.Constant (.int i) j pos) (tC (.int i)):=fun _ _ _ H _ I h=>wpAny_Constant_int ⟨.int i,H,I.tok _,⟨_,rfl⟩,h⟩
theorem AQ {b j pos}:PE X (.Constant (.bool b) j pos) (tC (.bl b)):=fun _ _ _ H _ I h=>Constant_bool ⟨.bl b,H,I,rfl,h⟩
theorem Bn {j pos}:PE X (.Constant .none j pos) (tC .non):=fun _ _ _ H _ I h=>Constant_none ⟨.non,H,I,rfl,h⟩
theorem TF {x j pos}:PE X (.Constant (.str x) j pos) (tC (.str x)):=fun _ _ _ H _ I h=>Calls.Constant_str ⟨.str x,H,I.tok _,⟨_,rfl⟩,h⟩
def Gl (X:Cx)(x:aB):Prop:=X.env.kindOf x=some .globalImplicit
theorem sY {E:aE->aH->Prop}{pins:List (aD×aX)}{s:aH}{σ:St}{H:Hp}{x:aB}{u:aE}{pos:bG}{Q:aE->aH->Prop}(I:Inv X pins σ H s)(hg:Gl X x)(hm:X.mg x=some u)(h:Q u s)
  (hd:(x == ("__debug__" : aB))=false:=by decide):aP (aQ X.prog X.w) X.A (bJ (.Name x pos) X.env) Q E s:=
 Calls.Name_function_global I.ok.kind hg (Calls.loadGlobal_global (by rw[I.ok.glob]; exact I.mod.glob.keeps I.bk) hm h) hd
theorem yP {E:aE->aH->Prop}{pins:List (aD×aX)}{s:aH}{σ:St}{H:Hp}{x:aB}{u:aE}{pos:bG}{Q:aE->aH->Prop}(I:Inv X pins σ H s)(hg:Gl X x)(hm:X.mg x=none)(hv:iZ x=some u)(h:Q u s)
  (hn:x ≠ "__name__":=by decide) (hd:(x == ("__debug__" : aB))=false:=by decide):aP (aQ X.prog X.w) X.A (bJ (.Name x pos) X.env) Q E s:=by
 obtain⟨mb,h1,h2⟩:=I.mod.blt
 exact Calls.Name_function_global I.ok.kind hg (Calls.loadGlobal_builtin (by rw[I.ok.glob]; exact I.mod.glob.keeps I.bk) hm (by rw[I.ok.blt]; exact h1.keeps I.bk) ((h2 x hn).trans hv) h) hd
theorem MP {x:aB}{v:V}{u:aE}{pos:bG}(hg:Gl X x)(hm:X.mg x=some u)(r:RelV v u)(hd:(x == ("__debug__" : aB))=false:=by decide):PE X (.Name x pos) (tC v):=
 fun _ _ _ H _ I h=>sY I hg hm ⟨v,H,I,r,h⟩ hd
theorem Mq {x:aB}{v:V}{u:aE}{pos:bG}(hg:Gl X x)(hm:X.mg x=none)(hv:iZ x=some u)(r:RelV v u)(hn:x ≠ "__name__":=by decide)(hd:(x == ("__debug__" : aB))=false:=by decide):PE X (.Name x pos) (tC v):=
 fun _ _ _ H _ I h=>yP I hg hm hv ⟨v,H,I,r,h⟩ hn hd
variable {a b:aS}{ta tb:TE}{pos:bG}
noncomputable def tB (t:TE):TT:=fun σ H Q=>t σ H fun x H1=>∃ c,x = .bl c/\Q c H1
theorem Cb {e:aS}{t:TE}(h:PE X e t)(he : ∀ whole,isTrue e X.env whole=(do let v ← whole; rE e.pos; lU [v] (truthy v)):=by intro _; rfl):PT X e (tB t):=by
 intro pins s σ H Q I hw
 refine isTrue_plain (thn (h pins s σ H _ I hw) fun v s1 ⟨x,H1,I1,r1,q1⟩=>?_) (he _)
 obtain⟨d,rfl,q⟩:=q1
 cases r1
 exact rB ⟨H1,I1,q⟩
variable {tA tB':TT}{rest:List aS}
noncomputable def XJ (t u:TT):TT:=fun σ H Q=>t σ H fun c H1=>if c=true then u σ H1 Q else Q false H1
noncomputable def tOr (t u:TT):TT:=fun σ H Q=>t σ H fun c H1=>if c=true then Q true H1 else u σ H1 Q
noncomputable def XS (t:TT):TT:=fun σ H Q=>t σ H fun c H1=>Q (!c) H1
theorem Lb (ha:PT X a tA):PW X (.BoolOp .And [a] pos) tA:=by
 intro wh pins s σ H Q I h
 refine isTrue_and (thn (ha pins s σ H Q I h) fun c s1 e=>?_)
 cases c with
 | true=>exact isTrue_and_nil e
 | false=>exact e
theorem Bm (ha:PT X a tA):PW X (.BoolOp .Or [a] pos) tA:=by
 intro wh pins s σ H Q I h
 refine isTrue_or (thn (ha pins s σ H Q I h) fun c s1 e=>?_)
 cases c with
 | false=>exact isTrue_or_nil e
 | true=>exact e
theorem Bz (ha:PT X a tA)(hb:PW X (.BoolOp .And (b::rest) pos) tB'):PW X (.BoolOp .And (a::b::rest) pos) (XJ tA tB'):=by
 intro wh pins s σ H Q I h
 refine isTrue_and (thn (ha pins s σ H _ I h) fun c s1 gh=>?_)
 obtain⟨H1,I1,q1⟩:=gh
 cases c with
 | true=>exact hb wh pins s1 σ H1 Q I1 q1
 | false=>exact⟨H1,I1,q1⟩
theorem ZK (ha:PT X a tA)(hb:PW X (.BoolOp .Or (b::rest) pos) tB'):PW X (.BoolOp .Or (a::b::rest) pos) (tOr tA tB'):=by
 intro wh pins s σ H Q I h
 refine isTrue_or (thn (ha pins s σ H _ I h) fun c s1 gh=>?_)
 obtain⟨H1,I1,q1⟩:=gh
 cases c with
 | true=>exact⟨H1,I1,q1⟩
 | false=>exact hb wh pins s1 σ H1 Q I1 q1
theorem ZQ (ha:PT X a tA):PT X (.UnaryOp .Not a pos) (XS tA):=by
 intro pins s σ H Q I h
 exact isTrue_not (ha pins s σ H (fun c H1=>Q (!c) H1) I h)
noncomputable def ZF (ta tb:TE):TE:=fun σ H Q=>ta σ H fun x H1=>∃ c,x = .bl c/\if c=true then tb σ H1 Q else Q (.bl false) H1
noncomputable def ZJ (ta:TE):TE:=fun σ H Q=>ta σ H fun x H1=>∃ c,x = .bl c/\Q (.bl (!c)) H1
theorem UI {op}{t:TE}(h:PE X a t):PE X (.BoolOp op [a] pos) t:=fun pins s σ H Q I hw=>BoolOp_one (h pins s σ H Q I hw)
theorem CW (ha:PE X a ta)(hb:PE X (.BoolOp .And (b::rest) pos) tb):PE X (.BoolOp .And (a::b::rest) pos) (ZF ta tb):=by
 intro pins s σ H Q I h
 refine BoolOp_and (thn (ha pins s σ H _ I h) fun v s1 gh=>?_)
 obtain⟨x,H1,I1,r1,q1⟩:=gh
 obtain⟨c,rfl,q1⟩:=q1
 cases r1
 refine rB ?_
 cases c with
 | true=>exact hb pins s1 σ H1 Q I1 q1
 | false=>exact⟨.bl false,H1,I1,rfl,q1⟩
theorem Ax (ha:PE X a ta):PE X (.UnaryOp .Not a pos) (ZJ ta):=by
 intro pins s σ H Q I h
 refine UnaryOp_ (thn (ha pins s σ H _ I h) fun v s1 gh=>?_)
 obtain⟨x,H1,I1,r1,q1⟩:=gh
 obtain⟨c,rfl,q1⟩:=q1
 cases r1
 exact not_of (rB ⟨.bl (!c),H1,I1,rfl,q1⟩)
end
def SqL (K:aJ)(H:Hp)(a:aD)(xs:List V):Prop:=
 Rd H a (.lst xs) \/
  ∃ (o:aX) (its:Array aE) (n:Nat),K.lookup a=some o/\o.cls = .type "list" /\ o.dict=none/\o.data = .seq its n/\its.size≤sizeLine/\Vals xs its.toList
def SqT (K:aJ)(H:Hp)(a:aD)(xs:List V):Prop:=
 Rd H a (.tup xs) \/
  ∃ (o:aX) (its:Array aE) (n:Nat),K.lookup a=some o/\o.cls = .type "tuple" /\ o.data = .seq its n/\its.size≤sizeLine/\Vals xs its.toList
noncomputable def XX:aE->Option V
 | .none=>some .non
 | .bool b=>some (.bl b)
 | .int i _=>some (.int i)
 | .str x _=>some (.str x)
 | .bytes b _=>some (.byt b)
 | .float b _=>some (.flt b)
 | .ref a=>some (.ref a)
 | .type n=>some (.ty n)
 | _=>none
theorem RelV.abs {x:V}{u:aE}(r:RelV x u):XX u=some x:=by
 cases x with
 | non=>cases r; rfl
 | bl _=>cases r; rfl
 | int _=>obtain⟨t,rfl⟩:=r; rfl
 | str _=>obtain⟨t,rfl⟩:=r; rfl
 | byt _=>obtain⟨t,rfl⟩:=r; rfl
 | flt _=>obtain⟨t,rfl⟩:=r; rfl
 | ref _=>cases r; rfl
 | ty _=>cases r; rfl
theorem RelV.inj {x y:V}{u:aE}(r:RelV x u)(q:RelV y u):x=y:=eU (r.abs.symm.trans q.abs)
theorem Vals.inj : ∀ {xs ys:List V} {us:List aE},Vals xs us->Vals ys us->xs=ys:=by
 intro xs ys us h
 induction h generalizing ys with
 | nil=>intro h; cases h; rfl
 | cons r _ ih=>
  intro h
  cases h with
  | cons r' t'=>rw[r.inj r',ih t']
section
variable {X:Cx}{pins:List (aD×aX)}{σ:St}{H:Hp}{s:aH}{a:aD}{xs ys:List V}
theorem SqL.of {K:aJ}(h:H a=some (.lst xs)):SqL K H a xs:=.inl (.inl h)
theorem SqT.of {K:aJ}(h:H a=some (.tup xs)):SqT K H a xs:=.inl (.inl h)
theorem Inv.list (I:Inv X pins σ H s)(h:SqL X.K H a xs) : ∃ its:List aE,Vals xs its/\PlainL s.heap a its.toArray/\xs.length≤sizeLine:=by
 rcases h with h | ⟨o,its,n,hk,hc,hd,hs,hz,r⟩
 ·obtain⟨z,its,n,r,e⟩:=h.ok I.hok
  exact⟨its,r,⟨_,n,e,rfl,rfl,rfl⟩,z⟩
 ·refine⟨its.toList,r,⟨o,n,I.kIn a o hk,hc,hd,by simpa using hs⟩,?_⟩
  have e:=r.length
  simp only[oO] at e
  omega
theorem Inv.tuple (I:Inv X pins σ H s)(h:SqT X.K H a xs) : ∃ its:List aE,Vals xs its/\IsTup s.heap a its.toArray/\xs.length≤sizeLine:=by
 rcases h with h | ⟨o,its,n,hk,hc,hs,hz,r⟩
 ·obtain⟨z,its,r,p⟩:=h.ok I.hok
  exact⟨its,r,p.1,z⟩
 ·refine⟨its.toList,r,⟨o,I.kIn a o hk,hc,n,by simpa using hs⟩,?_⟩
  have e:=r.length
  simp only[oO] at e
  omega
theorem Inv.list_inj (I:Inv X pins σ H s)(h:SqL X.K H a xs)(h':SqL X.K H a ys):xs=ys:=by
 obtain⟨its,r,⟨o,n,e,_,_,d⟩,_⟩:=I.list h
 obtain⟨its',r',⟨o',n',e',_,_,d'⟩,_⟩:=I.list h'
 rw[e] at e'; cases e'
 rw[d] at d'
 injection d' with d1 _
 have:its=its':=by simpa using congrArg Array.toList d1
 subst this
 exact r.inj r'
theorem Inv.tuple_inj (I:Inv X pins σ H s)(h:SqT X.K H a xs)(h':SqT X.K H a ys):xs=ys:=by
 obtain⟨its,r,⟨o,e,_,n,d⟩,_⟩:=I.tuple h
 obtain⟨its',r',⟨o',e',_,n',d'⟩,_⟩:=I.tuple h'
 rw[e] at e'; cases e'
 rw[d] at d'
 injection d' with d1 _
 have:its=its':=by simpa using congrArg Array.toList d1
 subst this
 exact r.inj r'
end
noncomputable abbrev Cx.wish (X:Cx)(E:aE->aH->Prop):Cx:={ X with xe:=E }
noncomputable abbrev Cx.nox (X:Cx):Cx:=X.wish fun _ _=>False
theorem Cx.Ok.wish {X:Cx}(ok:X.Ok)(E:aE->aH->Prop):(X.wish E).Ok:=
 ⟨ok.mod,ok.kind,ok.glob,ok.blt,ok.above,ok.inj,ok.has,ok.cab,ok.hd,ok.frames,ok.stk,ok.exf,ok.bs,ok.bsz,ok.noex,ok.exfs,ok.funs,ok.frf⟩
theorem Cx.Ok.unwish {X:Cx}{E:aE->aH->Prop}(ok:(X.wish E).Ok):X.Ok:=
 ⟨ok.mod,ok.kind,ok.glob,ok.blt,ok.above,ok.inj,ok.has,ok.cab,ok.hd,ok.frames,ok.stk,ok.exf,ok.bs,ok.bsz,ok.noex,ok.exfs,ok.funs,ok.frf⟩
section
variable {X:Cx}{pins:List (aD×aX)}{σ:St}{H:Hp}{s:aH}{E:aE->aH->Prop}
theorem Inv.wish (I:Inv X pins σ H s)(E:aE->aH->Prop):Inv (X.wish E) pins σ H s:=⟨I.ok.wish E,I.os,I.bare,I.base,I.loc,I.cell,I.free,I.freeC,I.pin,I.hok,I.len⟩
theorem Inv.unwish (I:Inv (X.wish E) pins σ H s):Inv X pins σ H s:=⟨I.ok.unwish,I.os,I.bare,I.base,I.loc,I.cell,I.free,I.freeC,I.pin,I.hok,I.len⟩
theorem SP.unwish {D:Ends}{f:Flow}{s':aH}(h:SP (X.wish E) pins D f s'):SP X pins D f s':=by
 cases f with
 | next=>obtain⟨σ',H',I,q⟩:=h; exact⟨σ',H',I.unwish,q⟩
 | brk=>obtain⟨σ',H',I,q⟩:=h; exact⟨σ',H',I.unwish,q⟩
 | cont=>obtain⟨σ',H',I,q⟩:=h; exact⟨σ',H',I.unwish,q⟩
 | ret u=>obtain⟨v,σ',H',I,r,q⟩:=h; exact⟨v,σ',H',I.unwish,r,q⟩
theorem PSs.nox {st:List bH}{t:TS}(h:PSs X.nox st t):PSs X st t:=fun pins s σ H D I hw=>
 iW (h pins s σ H D (I.wish _) hw) (fun _ _ q=>q.unwish) fun _ _ z=>jB z
end
section
variable {X:Cx}{st:bH}{rest:List bH}{t u:TS}{e:aS}{te:TE}{pos:bG}
noncomputable def YX:TS:=fun D σ H=>D.nx σ H
noncomputable def XE (t u:TS):TS:=fun D σ H=>t { D with nx:=u D } σ H
theorem wC:PSs X [] YX:=fun _ _ σ H _ I h=>xJ ⟨σ,H,I,h⟩
theorem oV (h1:PS X st t)(h2:PSs X rest u):PSs X (st::rest) (XE t u):=by
 intro pins s σ H D I h
 refine UU (thn (h1 pins s σ H { D with nx:=u D } I h) fun f s1 q=>?_)
 cases f with
 | next=>
  obtain⟨σ',H',I',q⟩:=q
  exact h2 pins s1 σ' H' D I' q
 | ret v=>exact q
 | brk=>exact q
 | cont=>exact q
theorem qP (h1:PS X st t):PSs X [st] t:=by
 intro pins s σ H D I h
 refine UU (thn (h1 pins s σ H D I h) fun f s1 q=>?_)
 cases f with
 | next=>exact xJ q
 | ret v=>exact q
 | brk=>exact q
 | cont=>exact q
theorem Inv.quiet {pins:List (aD×aX)}{σ:St}{H:Hp}{s:aH}(I:Inv X pins σ H s):interactive X.env=false:=by simp[interactive,I.ok.kind]
noncomputable def LB (te:TE):TS:=fun D σ H=>te σ H fun _ H1=>D.nx σ H1
theorem vZ (he:PE X e te)(hs:lT e none pos.line X.env=pure false:=by rfl):PS X (.Expr e pos) (LB te):=by
 intro pins s σ H D I h
 exact wpAny_Expr_any (thn (he pins s σ H _ I h) fun v s1 ⟨x,H1,I1,r1,q1⟩=>⟨σ,H1,I1,q1⟩) I.quiet hs
noncomputable def XD (te:TE):TS:=fun D σ H=>te σ H D.rt
theorem vL (he:PE X e te):PS X (.Return (some e) pos) (XD te):=by
 intro pins s σ H D I h
 exact wpAny_Return_some (thn (he pins s σ H _ I h) fun v s1 ⟨x,H1,I1,r1,q1⟩=>⟨x,σ,H1,I1,r1,q1⟩)
noncomputable def XZ (c:TT)(t u:TS):TS:=fun D σ H=>c σ H fun b H1=>if b=true then t D σ H1 else u D σ H1
theorem AU {c:aS}{a b:List bH}{tc:TT}(hc:PT X c tc)(ha:PSs X a t)(hb:PSs X b u):PS X (.If c a b pos) (XZ tc t u):=by
 intro pins s σ H D I h
 refine wpAny_If (thn (hc pins s σ H _ I h) fun d s1 gh=>?_)
 obtain⟨H1,I1,q1⟩:=gh
 cases d with
 | true=>exact ha pins s1 σ H1 D I1 q1
 | false=>exact hb pins s1 σ H1 D I1 q1
noncomputable def By:TS:=fun _ _ _=>False
theorem Ee {sts:List bH}:PSs X sts By:=fun _ _ _ _ _ _ h=>h.elim
end
abbrev TG:=V->St->Hp->(St->Hp->Prop)->Prop
abbrev TGs:=List V->St->Hp->(St->Hp->Prop)->Prop
def PG (X:Cx)(target:aS)(t:TG):Prop:=
 ∀ (pins:List (aD×aX)) (s:aH) (σ:St) (H:Hp) (v:V) (u:aE) (Q:St->Hp->Prop),Inv X pins σ H s->RelV v u->t v σ H Q ->
  aP (aQ X.prog X.w) X.A (mW target X.env u) (fun _ s'=>∃ σ' H',Inv X pins σ' H' s'/\Q σ' H') X.xe s
def PGs (X:Cx)(ts:List aS)(t:TGs):Prop:=
 ∀ (pins:List (aD×aX)) (s:aH) (σ:St) (H:Hp) (vs:List V) (us:List aE) (Q:St->Hp->Prop),Inv X pins σ H s->Vals vs us->t vs σ H Q ->
  aP (aQ X.prog X.w) X.A (assignInOrder ((kJ ts X.env).map (·.2)) us) (fun _ s'=>∃ σ' H',Inv X pins σ' H' s'/\Q σ' H') X.xe s
abbrev CL:=V->V->V->Hp->(Hp->Prop)->Prop
def JS (X:Cx)(t:CL):Prop:=
 ∀ (pins:List (aD×aX)) (s:aH) (σ:St) (H:Hp) (o i v:V) (ov iv u:aE) (Q:Hp->Prop),Inv X pins σ H s->RelV o ov->RelV i iv->RelV v u->t o i v H Q ->
  aP (aQ X.prog X.w) X.A (setItem ov iv u) (fun _ s'=>∃ H',Inv X pins σ H' s'/\Q H') X.xe s
section
variable {X:Cx}{pos:bG}
noncomputable def HU (i:Nat):TG:=fun v σ H Q=>Q (σ.set i (some v)) H
theorem wD {i:Nat}{x:aB}(hN:X.N.Nodup)(hi:X.N[i]?=some x)(hx:lL X.env.scope x)(hf:X.fn x=true \/ X.env.scope.names.lookup x=some .local:=by first | exact .inl rfl | exact .inr rfl | assumption):PG X (.Name x pos) (HU i):=by
 intro pins s σ H v u Q I r h
 exact wpAny_assign_Name (FL I hN hi hx r (fun s' I'=>⟨_,H,I',h⟩) hf)
noncomputable def XT:TGs:=fun vs σ H Q=>vs=[]/\Q σ H
noncomputable def YI (t:TG)(u:TGs):TGs:=fun vs σ H Q=>∃ v r,vs=v::r/\t v σ H fun σ' H'=>u r σ' H' Q
theorem Li:PGs X [] XT:=by
 intro pins s σ H vs us Q I r h
 obtain⟨e,h⟩:=h
 subst e
 cases r
 exact assignInOrder_nil ⟨σ,H,I,h⟩
theorem OM {e:aS}{es:List aS}{t:TG}{u:TGs}(h1:PG X e t)(h2:PGs X es u)
  (hs:(kJ (e::es) X.env).map (·.2)=mW e X.env::(kJ es X.env).map (·.2):=by rfl):PGs X (e::es) (YI t u):=by
 intro pins s σ H vs us Q I r h
 obtain⟨v,vr,e1,h⟩:=h
 subst e1
 cases r with
 | cons r rr=>
  rw[hs]
  refine assignInOrder_cons (thn (h1 pins s σ H _ _ _ I r h) fun _ s1 gh=>?_)
  obtain⟨σ1,H1,I1,q1⟩:=gh
  exact h2 pins s1 σ1 H1 _ _ Q I1 rr q1
noncomputable def WT (K:aJ)(n:Nat)(t:TGs):TG:=fun v σ H Q=>∃ a xs,v = .ref a/\SqT K H a xs/\xs.length=n/\t xs σ H Q
theorem Af {es:List aS}{k:Nat}{t:TGs}{n:Nat}(hc:X.calm=true)(h:PGs X es t)
  (hn:(kJ es X.env).length=n:=by rfl) (hst:(kJ es X.env).findIdx? (·.1)=none:=by rfl):PG X (.Tuple es k pos) (WT X.K n t):=by
 intro pins s σ H v u Q I r hw
 obtain⟨a,xs,e1,hq,hl,hw⟩:=hw
 subst e1
 cases r
 obtain⟨its,rv,ht,hz⟩:=I.tuple hq
 refine assign_Tuple_tuple (I.ok.hd hc) ht (by simp[hn,← hl,rv.length]) hst fun h' hx=>?_
 have I1:Inv X pins σ H { s with heap:=h' }:=I.kept (t':=s.toks) fun b o e=>hx b o (dF (cE e)) e
 exact h pins _ σ H xs _ Q I1 (by simpa using rv) hw
noncomputable def WS (to ti:TE)(t:CL):TG:=fun v σ H Q=>to σ H fun o H1=>ti σ H1 fun i H2=>t o i v H2 fun H3=>Q σ H3
theorem ZY {o i:aS}{to ti:TE}{t:CL}(ho:PE X o to)(hi:PE X i ti)(hs:JS X t)
  (ha : ∀ v,mW (.Subscript o i pos) X.env v=(do
   let ov ← lU [v] (bJ o X.env)
   let iv ← lU [v,ov] (bJ i X.env)
   rE pos
   lU [v,ov,iv] (setItem ov iv v)
   release [v,ov,iv] []):=by intro _; rfl):PG X (.Subscript o i pos) (WS to ti t):=by
 intro pins s σ H v u Q I r h
 rw[ha]
 refine aM (iX (thn (ho pins s σ H _ I h) fun ov s1 gh=>?_))
 obtain⟨x,H1,I1,r1,q1⟩:=gh
 refine aM (iX (thn (hi pins s1 σ H1 _ I1 q1) fun iv s2 gh=>?_))
 obtain⟨y,H2,I2,r2,q2⟩:=gh
 refine aM (wpAny_standAt (aM (iX (thn (hs pins s2 σ H2 x y v ov iv u _ I2 r1 r2 r q2) fun _ s3 gh=>?_))))
 obtain⟨H3,I3,q3⟩:=gh
 exact wpAny_release ⟨σ,H3,I3,q3⟩
noncomputable def CF (te:TE)(g:TG):TS:=fun D σ H=>te σ H fun x H1=>g x σ H1 D.nx
theorem UL {tg e:aS}{te:TE}{g:TG}(he:PE X e te)(hg:PG X tg g)(hs:swapsWithSole [tg] e pos.line X.env=pure false:=by rfl)(hw:swappedStores [tg] e X.env=pure none:=by rfl)
  (h1:(kJ [tg] X.env).map (·.2)=[mW tg X.env]:=by rfl):PS X (.Assign [tg] e pos) (CF te g):=by
 intro pins s σ H D I h
 refine wpAny_Assign_stores (thn (he pins s σ H _ I h) fun v s1 ⟨x,H1,I1,r1,q1⟩=>?_) hs hw
 rw[h1]
 exact thn (hg pins s1 σ H1 x v _ I1 r1 q1) fun _ s2 q=>q
theorem Bb {i:Nat}{x:aB}{e:aS}{te:TE}{pos':bG}(hN:X.N.Nodup)(hi:X.N[i]?=some x)(hx:lL X.env.scope x)(he:PE X e te)(hs:lT e (some (.Name x pos')) pos.line X.env=pure false:=by rfl)(hf:X.fn x=true \/ X.env.scope.names.lookup x=some .local:=by first | exact .inl rfl | exact .inr rfl | assumption) :
  PS X (.Assign [.Name x pos'] e pos) (CF te (HU i)):=by
 intro pins s σ H D I h
 refine wpAny_Assign_Name (thn (he pins s σ H _ I h) fun v s1 ⟨y,H1,I1,r1,q1⟩=>?_) hs
 exact FL I1 hN hi hx r1 (fun s2 I2=>⟨_,H1,I2,q1⟩) hf
end
section
variable {X:Cx}{pos:bG}
noncomputable def Be (c:TT)(tb:TS):TS:=fun D σ H=>∃ W:Nat->St->Hp->Prop,(∃ m,W m σ H) /\ ∀ m σ H,W m σ H ->
 c σ H fun b H1=>if b=true then ∃ N:St->Hp->Prop,(∀ σ' H',N σ' H' -> ∃ m',m'<m/\W m' σ' H')/\tb { D with nx:=N,ct:=N,bk:=D.nx } σ H1 else D.nx σ H1
theorem Os {c:aS}{body:List bH}{tc:TT}{tb:TS}(hp:xT (aQ X.prog X.w) X.A X.env X.xe)(hc:PT X c tc)(hb:PSs X body tb):PS X (.While c body [] pos) (Be tc tb):=by
 intro pins s σ H D I h
 obtain⟨W,⟨m0,w0⟩,turn⟩:=h
 refine wpAny_While (codeAny_whileLoop (fun n s'=>∃ σ' H',Inv X pins σ' H' s'/\W n σ' H') ?_ m0 ⟨σ,H,I,w0⟩)
 rintro n s1 ⟨σ1,H1,I1,w1⟩
 refine uC hp (thn (hc pins s1 σ1 H1 _ I1 (turn n σ1 H1 w1)) fun b s2 gh=>?_)
 obtain⟨H2,I2,q2⟩:=gh
 cases b with
 | true=>
  obtain⟨N,hN,q2⟩:=q2
  rw[if_pos rfl]
  refine uC hp (thn (hb pins s2 σ1 H2 _ I2 q2) fun f s3 q3=>?_)
  cases f with
  | next=>
   obtain⟨σ3,H3,I3,n3⟩:=q3
   obtain⟨m',hm,w3⟩:=hN σ3 H3 n3
   exact⟨m',hm,σ3,H3,I3,w3⟩
  | cont=>
   obtain⟨σ3,H3,I3,n3⟩:=q3
   obtain⟨m',hm,w3⟩:=hN σ3 H3 n3
   exact⟨m',hm,σ3,H3,I3,w3⟩
  | brk=>exact q3
  | ret v=>exact q3
 | false=>
  rw[if_neg oM]
  exact xJ ⟨σ1,H2,I2,q2⟩
end
structure It where
 go:Nat->Hp->Prop
 yld:Nat->Hp->V->Hp->Prop
 stop:Nat->Hp->Prop
def jE (X:Cx)(pins:List (aD×aX))(H:Hp)(b:aD):Prop:=
 H b=none/\b≠X.env.locals/\b∉X.fs/\(b∈X.ex \/ X.s₀.heap.objs.size≤b)/\(∀ x c,X.env.cells.lookup x=some c->c≠b) /\ ∀ p∈X.pn++pins,p.1≠b
theorem Inv.fpOk {X:Cx}{pins:List (aD×aX)}{σ:St}{H H':Hp}{s:aH}{b:aD}(I:Inv X pins σ H s)(hb:s.heap.objs.size≤b)(hn:H' b=none):jE X pins H' b:=by
 refine⟨hn,rL (gN I.lt hb),I.nofs hb,.inr (jQ I.sz hb),fun x c e z=>?_,fun p hp z=>?_⟩
 ·obtain⟨v,q⟩:=I.cell x c e
  exact absurd (gN q.lt (by rw[z]; exact hb)) (jP _)
 ·exact absurd (gN (cE (I.pin p hp).1) (by rw[z]; exact hb)) (jP _)
structure Turn (P:bE)(w:bA)(K:aJ)(tg:aS)(J:It)(fp:List aD)(it:aD)(tn:Nat->aU->Prop):Prop where
 mem:it∈fp
 obj : ∀ i h,tn i h -> ∀ b∈fp,∃ o,h.get? b=some o /\ ∀ v,o.data ≠ .cell v
 keep : ∀ i h h',tn i h->(∀ b∈fp,∀ o,h.get? b=some o->h'.get? b=some o)->tn i h'
 item : ∀ (X:Cx),X.prog=P->X.w=w->X.K=K->X.calm=true -> ∀ (i:Nat) (pins:List (aD×aX)) (s:aH) (σ:St) (H:Hp) (E:aE->aH->Prop),Inv X pins σ H s->(∀ b∈fp,jE X pins H b)->tn i s.heap->J.go i H ->
  aP (aQ P w) X.A (pyNext (.ref it)) (fun r s1=>∃ u,r=some u /\
   aP (aQ P w) X.A (IK tg (.ref it) u) (fun _ s2=>∃ x H',Inv X pins σ H' s2/\RelV x u/\J.yld i H x H'/\tn (i+1) s2.heap /\ ∀ b∈fp,H' b=none) E s1) E s
 done : ∀ (X:Cx),X.prog=P->X.w=w->X.K=K->X.calm=true -> ∀ (i:Nat) (pins:List (aD×aX)) (s:aH) (σ:St) (H:Hp) (E:aE->aH->Prop),Inv X pins σ H s->(∀ b∈fp,jE X pins H b)->tn i s.heap->J.stop i H ->
  aP (aQ P w) X.A (pyNext (.ref it)) (fun r s1=>r=none/\Inv X pins σ H s1) E s
 self : ∀ (A:bY) (i:Nat) (s:aH) (Q:aE->aH->Prop) (E:aE->aH->Prop),tn i s.heap->Q (.ref it) s->aP (aQ P w) A (pyIter (.ref it)) Q E s
abbrev TI:=St->Hp->(It->Hp->Prop)->Prop
def PIE (X:Cx)(pins:List (aD×aX))(σ:St)(tg:aS)(R:It->Hp->Prop)(itv:aE)(s2:aH):Prop:=
 ∃ (it:aD) (fp:List aD) (tn:Nat->aU->Prop) (J:It) (H':Hp),itv = .ref it/\Inv X pins σ H' s2/\Turn X.prog X.w X.K tg J fp it tn/\tn 0 s2.heap/\(∀ b∈fp,jE X pins H' b)/\R J H'
def PI (X:Cx)(tg iter:aS)(wi:TI):Prop:=
 ∀ (pins:List (aD×aX)) (s:aH) (σ:St) (H:Hp) (R:It->Hp->Prop),Inv X pins σ H s->wi σ H R ->
  aP (aQ X.prog X.w) X.A (bJ iter X.env) (fun v s1=>aP (aQ X.prog X.w) X.A (pyIter v) (PIE X pins σ tg R) X.xe s1) X.xe s
theorem sG {M:Model}{A:bY}{E:aE->aH->Prop}{s:aH}{tg:aS}{it:aD}{u:aE}{o:aX}{n:String}{vs:Array aE}{Q:Unit->aH->Prop}(ho:s.heap.get? it=some o)(hc:o.cls = .type n)(hd:o.data = .fields vs)
    (hn:["enumerate","zip","dict_itemiterator","dict_reverseitemiterator","odict_iterator","itertools.zip_longest","itertools.pairwise"].contains n=false) (hQ:Q () s):aP M A (IK tg (.ref it) u) Q E s:=by
  unfold IK
  cases tg <;> first
    | exact aY hQ
    | (cases u <;> first
        | exact aY hQ
        | (refine aM (wpAny_load ho ?_)
           rw[hc,hd]
           show aP M A (if (["enumerate","zip","dict_itemiterator","dict_reverseitemiterator","odict_iterator","itertools.zip_longest","itertools.pairwise"].contains n&&vs[0]? == some (rawInt _))=true then _ else _) Q E s
           rw[if_neg (by intro h; rw[hn,Bool.false_and] at h; cases h)]
           exact aY hQ))
noncomputable def CA (K:aJ)(a:aD):It:=
 ⟨fun i H=>∃ xs x,SqL K H a xs/\xs[i]?=some x,fun i H x H'=>H'=H /\ ∀ xs,SqL K H a xs->xs[i]?=some x,fun i H=>∃ xs,SqL K H a xs/\xs.length≤i⟩
noncomputable def BZ (K:aJ)(a:aD):It:=
 ⟨fun i H=>∃ xs x,SqT K H a xs/\xs[i]?=some x,fun i H x H'=>H'=H /\ ∀ xs,SqT K H a xs->xs[i]?=some x,fun i H=>∃ xs,SqT K H a xs/\xs.length≤i⟩
noncomputable def yI (lo:Int)(n:Nat):It:=⟨fun i _=>i<n,fun i H x H'=>H'=H/\x = .int (lo+i),fun i _=>n≤i⟩
theorem Ej {P:bE}{w:bA}{K:aJ}{tg:aS}(a it:aD):Turn P w K tg (CA K a) [it] it (fun i h=>h.IsListIter it a i) where
 mem:=by simp
 obj:=fun i h st b hb=>by
  have e:b=it:=by simpa using hb
  subst e
  obtain⟨o,e,c,d⟩:=st
  exact⟨o,e,fun v z=>by rw[d] at z; cases z⟩
 keep:=fun i h h' st k=>st.at fun o e=>k it (by simp) o e
 item:=by
  intro X hP hw hK hc i pins s σ H E I hf st hg
  subst hP hw hK
  obtain⟨xs,x,hq,hx⟩:=hg
  obtain⟨its,rv,p,hz⟩:=I.list hq
  obtain⟨u,hu,ru⟩:=rv.get hx
  obtain⟨f0,f1,f2,f3,f4,f5⟩:=hf it (by simp)
  refine wpAny_pyNext_list_item st p.isList (x:=u) (by simpa using hu) fun h' st' sb=>?_
  have I1:Inv X pins σ H { s with heap:=h' }:=I.turned (t':=s.toks) (fun b o hb e=>(sb.2 b hb).trans e) f0 f1 f3 f4 f5
  obtain⟨o,e,c,d⟩:=id st'
  exact⟨u,rfl,sG (s:={ s with heap:=h' }) e c d (by decide) ⟨x,H,I1,ru,⟨rfl,fun ys hy=>by rw[I.list_inj hy hq]; exact hx⟩,st',fun b hb=>(hf b hb).1⟩⟩
 done:=by
  intro X hP hw hK hc i pins s σ H E I hf st hg
  subst hP hw hK
  obtain⟨xs,hq,hx⟩:=hg
  obtain⟨its,rv,p,hz⟩:=I.list hq
  obtain⟨f0,f1,f2,f3,f4,f5⟩:=hf it (by simp)
  have hl:=rv.length
  exact wpAny_pyNext_list_end (I.ok.hd hc) st p.isList (by simp; omega) fun h' eb=>⟨rfl,I.turned (t':=s.toks) (fun b o hb e=>eb b o hb e) f0 f1 f3 f4 f5⟩
 self:=fun _ _ _ _ _ st h=>wpAny_pyIter_listiter st h
theorem Fp {P:bE}{w:bA}{K:aJ}{tg:aS}(a it:aD):Turn P w K tg (BZ K a) [it] it (fun i h=>h.IsTupleIter it a i) where
 mem:=by simp
 obj:=fun i h st b hb=>by
  have e:b=it:=by simpa using hb
  subst e
  obtain⟨o,e,c,d⟩:=st
  exact⟨o,e,fun v z=>by rw[d] at z; cases z⟩
 keep:=fun i h h' st k=>st.at fun o e=>k it (by simp) o e
 item:=by
  intro X hP hw hK hc i pins s σ H E I hf st hg
  subst hP hw hK
  obtain⟨xs,x,hq,hx⟩:=hg
  obtain⟨its,rv,p,hz⟩:=I.tuple hq
  obtain⟨u,hu,ru⟩:=rv.get hx
  obtain⟨f0,f1,f2,f3,f4,f5⟩:=hf it (by simp)
  refine wpAny_pyNext_tuple_item st (show s.heap.IsTuple a its.toArray from p) (x:=u) (by simpa using hu) fun h' st' sb=>?_
  have I1:Inv X pins σ H { s with heap:=h' }:=I.turned (t':=s.toks) (fun b o hb e=>(sb.2 b hb).trans e) f0 f1 f3 f4 f5
  obtain⟨o,e,c,d⟩:=id st'
  exact⟨u,rfl,sG (s:={ s with heap:=h' }) e c d (by decide) ⟨x,H,I1,ru,⟨rfl,fun ys hy=>by rw[I.tuple_inj hy hq]; exact hx⟩,st',fun b hb=>(hf b hb).1⟩⟩
 done:=by
  intro X hP hw hK hc i pins s σ H E I hf st hg
  subst hP hw hK
  obtain⟨xs,hq,hx⟩:=hg
  obtain⟨its,rv,p,hz⟩:=I.tuple hq
  obtain⟨f0,f1,f2,f3,f4,f5⟩:=hf it (by simp)
  have hl:=rv.length
  exact wpAny_pyNext_tuple_end (I.ok.hd hc) st (show s.heap.IsTuple a its.toArray from p) (by simp; omega) fun h' eb=>⟨rfl,I.turned (t':=s.toks) (fun b o hb e=>eb b o hb e) f0 f1 f3 f4 f5⟩
 self:=fun _ _ _ _ _ st h=>wpAny_pyIter_tupleiter st h
theorem Es {P:bE}{w:bA}{K:aJ}{tg:aS}(it:aD)(lo:Int)(n:Nat):Turn P w K tg (yI lo n) [it] it (fun i h=>IsRangeIter h it (lo+(i:Nat)*1) ((n:Int) - (i:Nat)) 1) where
 mem:=by simp
 obj:=fun i h st b hb=>by
  have e:b=it:=by simpa using hb
  subst e
  exact⟨_,st,fun v z=>by
   have z':Data.fields _=Data.cell v:=z
   cases z'⟩
 keep:=fun i h h' st k=>k it (by simp) _ st
 item:=by
  intro X hP hw hK hc i pins s σ H E I hf st hg
  subst hP hw hK
  obtain⟨f0,f1,f2,f3,f4,f5⟩:=hf it (by simp)
  have W:=Walks.range (prog:=X.prog) (w:=X.w) (I.ok.hd hc) it lo 1 n
  refine W.item i s _ _ hg st fun v h' tk hv st' kk=>?_
  obtain⟨t,rfl⟩:=hv
  have I1:Inv X pins σ H { s with heap:=h',toks:=tk }:=I.turned (fun b o hb e=>kk b o (by simpa using hb) e) f0 f1 f3 f4 f5
  refine⟨_,rfl,sG (s:={ s with heap:=h',toks:=tk }) (n:="range_iterator") st' rfl rfl (by decide) ⟨.int (lo+i),H,I1,⟨t,?_⟩,⟨rfl,rfl⟩,st',fun b hb=>(hf b hb).1⟩⟩
  rw[Int.mul_one]
 done:=by
  intro X hP hw hK hc i pins s σ H E I hf st hg
  subst hP hw hK
  obtain⟨f0,f1,f2,f3,f4,f5⟩:=hf it (by simp)
  exact wpAny_pyNext_range_end (I.ok.hd hc) st (by have:n≤i:=hg; omega) fun h' eb=>⟨rfl,I.turned (t':=s.toks) (fun b o hb e=>eb b o hb e) f0 f1 f3 f4 f5⟩
 self:=fun _ _ _ _ _ st h=>wpAny_pyIter_rangeiter st h
section
variable {X:Cx}{tg:aS}
noncomputable def YO (K:aJ)(tl:TE):TI:=fun σ H R=>tl σ H fun x H1=>∃ a,x = .ref a/\(∃ xs,SqL K H1 a xs)/\R (CA K a) H1
noncomputable def XY (K:aJ)(tl:TE):TI:=fun σ H R=>tl σ H fun x H1=>∃ a,x = .ref a/\(∃ xs,SqT K H1 a xs)/\R (BZ K a) H1
theorem Lk {l:aS}{tl:TE}(hl:PE X l tl):PI X tg l (YO X.K tl):=by
 intro pins s σ H R I h
 refine thn (hl pins s σ H _ I h) fun v s1 gh=>?_
 obtain⟨x,H1,I1,r1,q1⟩:=gh
 obtain⟨a,e,⟨xs,hq⟩,q⟩:=q1
 subst e
 cases r1
 obtain⟨its,rv,p,hz⟩:=I1.list hq
 refine IE p.isList ?_
 refine⟨s1.heap.objs.size,[s1.heap.objs.size],_,_,H1,rfl,I1.kept (t':=s1.toks) fun b o e=>cX _ e,Ej a _,⟨_,eZ _ rfl,rfl,rfl⟩,fun b hb=>?_,q⟩
 have e:b=s1.heap.objs.size:=by simpa using hb
 subst e
 exact I1.fpOk (bU _) (I1.hok.fresh (bU _))
theorem Ad {l:aS}{tl:TE}(hl:PE X l tl):PI X tg l (XY X.K tl):=by
 intro pins s σ H R I h
 refine thn (hl pins s σ H _ I h) fun v s1 gh=>?_
 obtain⟨x,H1,I1,r1,q1⟩:=gh
 obtain⟨a,e,⟨xs,hq⟩,q⟩:=q1
 subst e
 cases r1
 obtain⟨its,rv,p,hz⟩:=I1.tuple hq
 refine wpAny_pyIter_tuple (show s1.heap.IsTuple a its.toArray from p) ?_
 refine⟨s1.heap.objs.size,[s1.heap.objs.size],_,_,H1,rfl,I1.kept (t':=s1.toks) fun b o e=>cX _ e,Fp a _,⟨_,eZ _ rfl,rfl,rfl⟩,fun b hb=>?_,q⟩
 have e:b=s1.heap.objs.size:=by simpa using hb
 subst e
 exact I1.fpOk (bU _) (I1.hok.fresh (bU _))
theorem Qv {pins:List (aD×aX)}{σ:St}{H:Hp}{s:aH}{R:It->Hp->Prop}{E:aE->aH->Prop}{lo hi:Int}{t u v:Tok}{tk:Nat}(I:Inv X pins σ H s)(h1 : -(2 ^ 62)≤lo)(h2:lo<2 ^ 62)(h3 : -(2 ^ 62)≤hi)(h4:hi<2 ^ 62)
  (q:R (yI lo (hi - lo).toNat) H):aP (aQ X.prog X.w) X.A (pyIter (.ref s.heap.objs.size)) (PIE X pins σ tg R) E { s with heap:=s.heap.push { cls:=.type "range",data:=.fields #[.int lo t,.int hi u,.int 1 v] },toks:=tk }:=by
 refine wpAny_pyIter_range (IsRange.new ..) (small_one h1 h2 h3 h4) ?_
 have I1:Inv X pins σ H { s with heap:=s.heap.push { cls:=.type "range",data:=.fields #[.int lo t,.int hi u,.int 1 v] },toks:=tk }:=I.kept fun b o e=>cX _ e
 refine⟨(s.heap.push { cls:=.type "range",data:=.fields #[.int lo t,.int hi u,.int 1 v] }).objs.size,[(s.heap.push { cls:=.type "range",data:=.fields #[.int lo t,.int hi u,.int 1 v] }).objs.size],_,_,H,rfl,
  I1.kept (t':=tk) fun b o e=>cX _ e,Es _ lo (hi - lo).toNat,?_,fun b hb=>?_,q⟩
 ·have e1:lo+((0:Nat):Int)*1=lo:=by simp
  have e2:(((hi - lo).toNat:Nat):Int) - ((0:Nat):Int)=Builtin.Range.rangeSize lo hi 1:=by rw[rangeSize_one]; split <;> omega
  show IsRangeIter _ _ (lo+((0:Nat):Int)*1) ((((hi - lo).toNat:Nat):Int) - ((0:Nat):Int)) 1
  rw[e1,e2]
  exact eZ _ rfl
 ·have e:b=(s.heap.push { cls:=.type "range",data:=.fields #[.int lo t,.int hi u,.int 1 v] }).objs.size:=by simpa using hb
  subst e
  exact I1.fpOk (bU _) (I1.hok.fresh (bU _))
noncomputable def ZE (ta:TA):TI:=fun σ H R=>ta σ H fun vs H1=>∃ j:Int,vs=[.int j] /\ -(2 ^ 62)≤j/\j<2 ^ 62/\R (yI 0 j.toNat) H1
theorem Cu {a:aS}{ta:TA}{p pos:bG}(hg:Gl X "range")(hm:X.mg "range" = none)(ha:PA X [a] ta)(hs:bI [a] X.env=[(false,bJ a X.env)]:=by rfl):PI X tg (.Call (.Name "range" p) [a] [] pos) (ZE ta):=by
 intro pins s σ H R I h
 refine Call_ (yP I hg hm boot_range (Qx (thn (ha pos pins s σ H _ I h) fun us s1 ⟨vs,H1,I1,r1,q1⟩=>?_) hs rfl))
 obtain⟨j,e,q1,q2,q⟩:=q1
 subst e
 cases r1 with
 | cons r rr=>
  cases rr
  obtain⟨t,rfl⟩:=r
  exact call_range_1 (Qv I1 (by omega) (by omega) q1 q2 (by simpa using q))
noncomputable def XH (wi:TI)(g:TG)(tb:TS):TS:=fun D σ H=>wi σ H fun J H1=>∃ W:Nat->Nat->St->Hp->Prop,(∃ m,W 0 m σ H1) /\ ∀ i m σ H,W i m σ H ->
 (J.stop i H/\D.nx σ H) \/ (J.go i H /\ ∃ N:St->Hp->Prop,(∀ σ' H',N σ' H' -> ∃ m',m'<m/\W (i+1) m' σ' H') /\ ∀ x H',J.yld i H x H'->g x σ H' fun σ2 H2=>tb { D with nx:=N,ct:=N,bk:=D.nx } σ2 H2)
noncomputable def vV (fp:List aD)(h:aU):List (aD×aX):=fp.filterMap fun b=>(h.get? b).map fun o=>(b,o)
theorem zY {fp:List aD}{h:aU}{b:aD}{o:aX}(hb:b∈fp)(e:h.get? b=some o):(b,o)∈vV fp h:=JC.mpr ⟨b,hb,by rw[e]; rfl⟩
theorem Em {fp:List aD}{h:aU}{p:aD×aX}(hp:p∈vV fp h):p.1∈fp/\h.get? p.1=some p.2:=by
 obtain⟨b,hb,e⟩:=JC.mp hp
 cases q:h.get? b with
 | none=>rw[q] at e; cases e
 | some o=>
  rw[q] at e
  have e':(b,o)=p:=eU e
  subst e'
  exact⟨hb,q⟩
theorem Inv.pinned {pins:List (aD×aX)}{σ:St}{H:Hp}{s:aH}{fp:List aD}(I:Inv X pins σ H s)(hf : ∀ b∈fp,jE X pins H b)(ho : ∀ b∈fp,∃ o,s.heap.get? b=some o /\ ∀ v,o.data ≠ .cell v):Inv X (pins++vV fp s.heap) σ H s:=
 I.pins_of fun p hp=>(jS.mp hp).elim (fun z=>I.pin p (mY _ z)) fun z=>by
  obtain⟨hb,e⟩:=Em z
  obtain⟨f0,f1,f2,_⟩:=hf p.1 hb
  obtain⟨o,e',d⟩:=ho p.1 hb
  rw[e] at e'; cases e'
  exact⟨e,f0,f1,f2,d⟩
theorem Inv.unpinned {pins pl:List (aD×aX)}{σ:St}{H:Hp}{s:aH}(I:Inv X (pins++pl) σ H s):Inv X pins σ H s:=I.pins_of fun p hp=>I.pin p (mY _ (VY _ hp))
theorem UP {iter:aS}{body:List bH}{wi:TI}{g:TG}{tb:TS}{pos:bG}(hp:xT (aQ X.prog X.w) X.A X.env X.xe)(hc:X.calm=true)(hi:PI X tg iter wi)(hg:PG X tg g)(hb:PSs X body tb)
  (hs : ∀ x,rF iter X.env x=pure x:=by intro _; rfl):PS X (.For tg iter body [] pos) (XH wi g tb):=by
 intro pins s σ H D I h
 refine wpAny_For (thn (hi pins s σ H _ I h) fun v s1 h1=>thn h1 fun itv s2 h2=>?_) hs
 obtain⟨it,fp,tn,J,H2,e,I2,T,st2,f2,W,⟨m0,w0⟩,turn⟩:=h2
 subst e
 have stat : ∀ {H':Hp},(∀ b∈fp,H' b=none) -> ∀ b∈fp,jE X pins H' b:=fun hn b hb=>⟨hn b hb,(f2 b hb).2⟩
 refine codeAny_forLoop_any (fun n s'=>∃ i σ' H',Inv X pins σ' H' s'/\tn i s'.heap/\(∀ b∈fp,H' b=none)/\W i n σ' H') ?_ m0 ⟨0,σ,H2,I2,st2,fun b hb=>(f2 b hb).1,w0⟩
 rintro n s3 ⟨i,σ3,H3,I3,st3,fr3,w3⟩
 rcases turn i n σ3 H3 w3 with⟨stop,qn⟩ | ⟨go,N,hN,step⟩
 ·refine uC hp (thn (T.done X rfl rfl rfl hc i pins s3 σ3 H3 X.xe I3 (stat fr3) st3 stop) fun r s4 gh=>?_)
  obtain⟨hr,I4⟩:=gh
  subst hr
  exact xJ ⟨σ3,H3,I4,qn⟩
 ·refine uC hp (thn (T.item X rfl rfl rfl hc i pins s3 σ3 H3 X.xe I3 (stat fr3) st3 go) fun r s4 gh=>?_)
  obtain⟨u,hr,h4⟩:=gh
  subst hr
  refine uC hp (thn h4 fun _ s5 gh=>?_)
  obtain⟨x,H5,I5,r5,y5,st5,fr5⟩:=gh
  have I5':=I5.pinned (stat fr5) (T.obj _ _ st5)
  refine uC hp (thn (hg _ s5 σ3 H5 x u _ I5' r5 (step x H5 y5)) fun _ s6 gh=>?_)
  obtain⟨σ6,H6,I6,q6⟩:=gh
  refine uC hp (thn (hb _ s6 σ6 H6 _ I6 q6) fun f s7 q7=>?_)
  have again : ∀ {σ7:St} {H7:Hp},Inv X (pins++vV fp s5.heap) σ7 H7 s7->N σ7 H7 -> ∃ m,m<n /\ ∃ i σ' H',Inv X pins σ' H' s7/\tn i s7.heap/\(∀ b∈fp,H' b=none)/\W i m σ' H':=fun {σ7 H7} I7 n7=>by
   obtain⟨m',hm,w7⟩:=hN σ7 H7 n7
   refine⟨m',hm,i+1,σ7,H7,I7.unpinned,T.keep _ _ _ st5 fun b hb o e=>(I7.pin (b,o) (mY _ (mY _ (zY hb e)))).1,fun b hb=>?_,w7⟩
   obtain⟨o,e,d⟩:=T.obj _ _ st5 b hb
   exact(I7.pin (b,o) (mY _ (mY _ (zY hb e)))).2.1
  cases f with
  | next=>obtain⟨σ7,H7,I7,n7⟩:=q7; exact again I7 n7
  | cont=>obtain⟨σ7,H7,I7,n7⟩:=q7; exact again I7 n7
  | brk=>obtain⟨σ7,H7,I7,q7⟩:=q7; exact⟨σ7,H7,I7.unpinned,q7⟩
  | ret v=>obtain⟨x7,σ7,H7,I7,r7,q7⟩:=q7; exact⟨x7,σ7,H7,I7.unpinned,r7,q7⟩
end
abbrev R2:=V->V->Hp->VK->Prop
def OpR (X:Cx)(f:aE->aE->Sem aE)(r:R2):Prop:=
 ∀ (pins:List (aD×aX)) (s:aH) (σ:St) (H:Hp) (x y:V) (v u:aE) (Q:VK),Inv X pins σ H s->RelV x v->RelV y u->r x y H Q ->
  aP (aQ X.prog X.w) X.A (f v u) (EP X pins σ Q) X.xe s
def Adn (X:Cx)(f:aE)(r:List V->Hp->VK->Prop):Prop:=
 ∀ (pins:List (aD×aX)) (s:aH) (σ:St) (H:Hp) (xs:List V) (us:List aE) (Q:VK),Inv X pins σ H s->Vals xs us->r xs H Q ->
  aP (aQ X.prog X.w) X.A (call f us) (EP X pins σ Q) X.xe s
noncomputable def tOp (r:R2)(ta tb:TE):TE:=fun σ H Q=>ta σ H fun x H1=>tb σ H1 fun y H2=>r x y H2 Q
noncomputable def rI (C:Int->Int->Prop)(g:Int->Int->V):R2:=fun x y H Q=>∃ i j,x = .int i/\y = .int j/\C i j/\Q (g i j) H
noncomputable def rI0 (g:Int->Int->V):R2:=fun x y H Q=>∃ i j,x = .int i/\y = .int j/\Q (g i j) H
section
variable {X:Cx}{a b c:aS}{ta tb tc:TE}{pos:bG}
theorem CB (ha:PE X a ta)(hb:PE X b tb){pins:List (aD×aX)}{s:aH}{σ:St}{H:Hp}{R:V->V->Hp->Prop}(I:Inv X pins σ H s)
  (h:ta σ H fun x H1=>tb σ H1 fun y H2=>R x y H2) {Q:aE->aH->Prop} {f:aE->aE->Sem aE}
  (hf : ∀ v u s2 x y H2,Inv X pins σ H2 s2->RelV x v->RelV y u->R x y H2->aP (aQ X.prog X.w) X.A (f v u) Q X.xe s2) :
  aP (aQ X.prog X.w) X.A (bJ a X.env) (fun v s₁=>aP (aQ X.prog X.w) X.A (bJ b X.env) (fun u s₂=>aP (aQ X.prog X.w) X.A (f v u) Q X.xe s₂) X.xe s₁) X.xe s:=by
 refine thn (ha pins s σ H _ I h) fun v s1 gh=>?_
 obtain⟨x,H1,I1,r1,q1⟩:=gh
 refine thn (hb pins s1 σ H1 _ I1 q1) fun u s2 gh=>?_
 obtain⟨y,H2,I2,r2,q2⟩:=gh
 exact hf v u s2 x y H2 I2 r1 r2 q2
theorem YW {op:Operator}{r:R2}(ho:OpR X (kI op) r)(ha:PE X a ta)(hb:PE X b tb):PE X (.BinOp a op b pos) (tOp r ta tb):=by
 intro pins s σ H Q I h
 exact wpAny_BinOp (CB ha hb I h fun v u s2 x y H2 I2 rx ry q=>ho pins s2 σ H2 x y v u Q I2 rx ry q)
theorem opI {f:aE->aE->Sem aE}{C:Int->Int->Prop}{g:Int->Int->Int}
  (rule : ∀ (i j:Int) (t u:Tok) (s:aH) (Q:aE->aH->Prop) (E:aE->aH->Prop),C i j->Q (.int (g i j) s.toks) { s with toks:=s.toks+1 }->aP (aQ X.prog X.w) X.A (f (.int i t) (.int j u)) Q E s) :
  OpR X f (rI C fun i j=>.int (g i j)):=by
 intro pins s σ H x y v u Q I rx ry h
 obtain⟨i,j,rfl,rfl,hc,q⟩:=h
 obtain⟨t,rfl⟩:=rx
 obtain⟨t',rfl⟩:=ry
 exact rule i j t t' s _ _ hc ⟨.int (g i j),H,I.tok _,⟨_,rfl⟩,q⟩
theorem JX {f:aE->aE->Sem aE}{g:Int->Int->Int}
  (rule : ∀ (i j:Int) (t u:Tok) (s:aH) (Q:aE->aH->Prop) (E:aE->aH->Prop),Q (.int (g i j) s.toks) { s with toks:=s.toks+1 }->aP (aQ X.prog X.w) X.A (f (.int i t) (.int j u)) Q E s) :
  OpR X f (rI0 fun i j=>.int (g i j)):=by
 intro pins s σ H x y v u Q I rx ry h
 obtain⟨i,j,rfl,rfl,q⟩:=h
 obtain⟨t,rfl⟩:=rx
 obtain⟨t',rfl⟩:=ry
 exact rule i j t t' s _ _ ⟨.int (g i j),H,I.tok _,⟨_,rfl⟩,q⟩
theorem yM {f:aE->aE->Sem aE}{g:Int->Int->Bool}
  (rule : ∀ (i j:Int) (t u:Tok) (s:aH) (Q:aE->aH->Prop) (E:aE->aH->Prop),Q (.bool (g i j)) s->aP (aQ X.prog X.w) X.A (f (.int i t) (.int j u)) Q E s) :
  OpR X f (rI0 fun i j=>.bl (g i j)):=by
 intro pins s σ H x y v u Q I rx ry h
 obtain⟨i,j,rfl,rfl,q⟩:=h
 obtain⟨t,rfl⟩:=rx
 obtain⟨t',rfl⟩:=ry
 exact rule i j t t' s _ _ ⟨.bl (g i j),H,I,rfl,q⟩
def XC (i j:Int):Prop:=0≤j/\j≤1000000/\i.natAbs<2 ^ 64
def Bej (i j:Int):Prop:=(-(2 ^ 64)<i/\i<2 ^ 64) \/ (-(2 ^ 64)<j/\j<2 ^ 64)
theorem Bej.ok {i j:Int}(h:Bej i j):IntMulOk i j:=by
 rcases h with⟨h1,h2⟩ | ⟨h1,h2⟩
 ·exact .of_left (intBits_le_64 h1 h2)
 ·exact .of_right (intBits_le_64 h1 h2)
theorem Bcm:OpR X (kI .Add) (rI0 fun i j=>.int (i+j)):=JX fun _ _ _ _ _ _ _ q=>add_int q
theorem Bd:OpR X (kI .Sub) (rI0 fun i j=>.int (i - j)):=JX fun _ _ _ _ _ _ _ q=>sub_int q
theorem ZA:OpR X (kI .Mult) (rI Bej fun i j=>.int (i*j)):=opI fun _ _ _ _ _ _ _ hc q=>mul_int q hc.ok
theorem ZV:OpR X (kI .Mod) (rI (fun _ j=>0<j) fun i j=>.int (i%j)):=opI fun i j _ _ _ _ _ hc q=>by
 have h1:(0:Int)<j:=hc
 exact mod_int' (by omega) (by rw[Int.fmod_eq_emod_of_nonneg i (by omega)]; exact q)
theorem ZP:OpR X (kI .Pow) (rI XC fun i j=>.int (i ^ j.toNat)):=opI fun _ _ _ _ _ _ _ hc q=>pow_int_small hc.1 hc.2.1 hc.2.2 q
end
section
variable {X:Cx}{a b c:aS}{ta tb tc:TE}{pos:bG}
theorem TM {pins:List (aD×aX)}{σ:St}{H:Hp}{s:aH}{Q:VK}{k k':Bool}(I:Inv X pins σ H s)(q:Q (.bl k) H)(e:k=k'):EP X pins σ Q (.bool k') s:=by
 subst e
 exact⟨.bl k,H,I,rfl,q⟩
theorem Bdd:OpR X (eT .Lt) (rI0 fun i j=>.bl (decide (i<j))):=yM fun _ _ _ _ _ _ _ q=>lt_int q
theorem Avr:OpR X (eT .LtE) (rI0 fun i j=>.bl (decide (i≤j))):=yM fun _ _ _ _ _ _ _ q=>le_int q
theorem vJ:OpR X (eT .Gt) (rI0 fun i j=>.bl (decide (j<i))):=yM fun _ _ _ _ _ _ _ q=>gt_int q
theorem KN:OpR X (eT .GtE) (rI0 fun i j=>.bl (decide (j≤i))):=yM fun _ _ _ _ _ _ _ q=>ge_int q
theorem QZ:OpR X (eT .Lt) (fun x y H Q=>∃ i j,x = .str i/\y = .str j/\Q (.bl (decide (i.cps.toList<j.cps.toList))) H):=by
 intro pins s σ H x y v u Q I rx ry h
 obtain⟨i,j,rfl,rfl,q⟩:=h
 obtain⟨t,rfl⟩:=rx
 obtain⟨t',rfl⟩:=ry
 exact lt_str (TM I q rfl)
theorem Dg:OpR X (eT .In) (fun x y H Q=>∃ i j,x = .str i/\y = .str j/\Q (.bl (!(lY j i 0 j.length 1).isEmpty)) H):=by
 intro pins s σ H x y v u Q I rx ry h
 obtain⟨i,j,rfl,rfl,q⟩:=h
 obtain⟨t,rfl⟩:=rx
 obtain⟨t',rfl⟩:=ry
 exact in_str (TM I q rfl)
theorem OpR.or {f:aE->aE->Sem aE}{r r':R2}(h:OpR X f r)(h':OpR X f r'):OpR X f (fun x y H Q=>r x y H Q \/ r' x y H Q):=by
 intro pins s σ H x y v u Q I rx ry q
 rcases q with q | q
 ·exact h pins s σ H x y v u Q I rx ry q
 ·exact h' pins s σ H x y v u Q I rx ry q
theorem eD (b:aS){op:CmpOp}(h:op ≠ .In:=by decide)(h2:op ≠ .NotIn:=by decide):xO op b=false:=by
 have e1:(op == CmpOp.In)=false:=by cases op <;> first | rfl | exact absurd rfl h
 have e2:(op == CmpOp.NotIn)=false:=by cases op <;> first | rfl | exact absurd rfl h2
 cases b <;> simp[xO,e1,e2]
theorem Km {op:CmpOp}{r:R2}(ho:OpR X (eT op) r)(ha:PE X a ta)(hb:PE X b tb)(hm:xO op b=false):PE X (.Compare a [op] [b] pos) (tOp r ta tb):=by
 intro pins s σ H Q I h
 exact wpAny_Compare1 (CB ha hb I h fun v u s2 x y H2 I2 rx ry q=>ho pins s2 σ H2 x y v u Q I2 rx ry q) hm
noncomputable def LF (t:TE):TT:=fun σ H Q=>t σ H fun x H'=>∃ k,x = .bl k/\Q k H'
theorem Lw {op:CmpOp}{r:R2}(ho:OpR X (eT op) r)(ha:PE X a ta)(hb:PE X b tb)(hm:xO op b=false):PT X (.Compare a [op] [b] pos) (LF (tOp r ta tb)):=by
 intro pins s σ H Q I h
 refine wpAny_isTrue_Compare1 (thn (ha pins s σ H _ I h) fun v s1 ⟨x,H1,I1,r1,q1⟩=>thn (hb pins s1 σ H1 _ I1 q1) fun u s2 ⟨y,H2,I2,r2,q2⟩=>
  thn (ho pins s2 σ H2 x y v u _ I2 r1 r2 q2) fun c s3 ⟨z,H3,I3,r3,k,e,q3⟩=>?_) hm
 subst e
 cases r3
 exact rB ⟨H3,I3,q3⟩
noncomputable def DV (r r':R2)(ta tb tc:TE):TE:=fun σ H Q=>ta σ H fun x H1=>tb σ H1 fun y H2=>r x y H2 fun z H3=>∃ k,z = .bl k /\
 (if k=true then tc σ H3 fun w' H4=>r' y w' H4 Q else Q (.bl false) H3)
theorem Oq {op op':CmpOp}{r r':R2}(ho:OpR X (eT op) r)(ho':OpR X (eT op') r')(ha:PE X a ta)(hb:PE X b tb)(hc:PE X c tc)
  (hm:lastMarks [op,op'] [b,c]=false:=by with_unfolding_all rfl):PE X (.Compare a [op,op'] [b,c] pos) (DV r r' ta tb tc):=by
 intro pins s σ H Q I h
 refine Compare_chain (thn (ha pins s σ H _ I h) fun v s1 ⟨x,H1,I1,r1,q1⟩=>chain_link (thn (hb pins s1 σ H1 _ I1 q1) fun u s2 ⟨y,H2,I2,r2,q2⟩=>
  thn (ho pins s2 σ H2 x y v u _ I2 r1 r2 q2) fun d s3 ⟨z,H3,I3,r3,k,e,q3⟩=>?_)) hm
 subst e
 cases r3
 refine rB ?_
 cases k with
 | false=>exact ite_ff ⟨.bl false,H3,I3,rfl,q3⟩
 | true=>exact ite_tt (chain_last (thn (hc pins s3 σ H3 _ I3 q3) fun w' s4 ⟨z',H4,I4,r4,q4⟩=>ho' pins s4 σ H4 y z' u w' Q I4 r2 r4 q4))
theorem Om {op op':CmpOp}{r r':R2}(ho:OpR X (eT op) r)(ho':OpR X (eT op') r')(ha:PE X a ta)(hb:PE X b tb)(hc:PE X c tc)
  (hm:lastMarks [op,op'] [b,c]=false:=by with_unfolding_all rfl):PT X (.Compare a [op,op'] [b,c] pos) (LF (DV r r' ta tb tc)):=by
 intro pins s σ H Q I h
 refine isTrue_chain (thn (ha pins s σ H _ I h) fun v s1 ⟨x,H1,I1,r1,q1⟩=>test_link (thn (hb pins s1 σ H1 _ I1 q1) fun u s2 ⟨y,H2,I2,r2,q2⟩=>
  thn (ho pins s2 σ H2 x y v u _ I2 r1 r2 q2) fun d s3 ⟨z,H3,I3,r3,k,e,q3⟩=>?_)) hm
 subst e
 cases r3
 refine rB ?_
 cases k with
 | false=>
  obtain⟨k',e',q'⟩:=q3
  cases e'
  exact ite_ff ⟨H3,I3,q'⟩
 | true=>
  refine ite_tt (test_last (thn (hc pins s3 σ H3 _ I3 q3) fun w' s4 ⟨z',H4,I4,r4,q4⟩=>thn (ho' pins s4 σ H4 y z' u w' _ I4 r2 r4 q4) fun d' s5 gh=>?_))
  obtain⟨z2,H5,I5,r5,k2,e2,q5⟩:=gh
  subst e2
  cases r5
  exact rB ⟨H5,I5,q5⟩
theorem sR:(sizeLine:Nat)<2 ^ 63:=by rw[uG]; decide
theorem Avm:OpR X (kI .Add) (fun x y H Q=>∃ i j,x = .str i/\y = .str j/\i.length+j.length≤sizeLine/\Q (.str (i++j)) H):=by
 intro pins s σ H x y v u Q I rx ry h
 obtain⟨i,j,rfl,rfl,hz,q⟩:=h
 obtain⟨t,rfl⟩:=rx
 obtain⟨t',rfl⟩:=ry
 exact add_str (fun t' tk=>⟨.str (i++j),H,I.tok _,⟨_,rfl⟩,q⟩) hz
theorem vals1 {x:V}{us:List aE}(r:Vals [x] us) : ∃ u,us=[u]/\RelV x u:=by
 cases r with
 | cons r1 r2=>cases r2; exact⟨_,rfl,r1⟩
theorem vals2 {x y:V}{us:List aE}(r:Vals [x,y] us) : ∃ u w',us=[u,w']/\RelV x u/\RelV y w':=by
 cases r with
 | cons r1 r2=>
  cases r2 with
  | cons r3 r4=>cases r4; exact⟨_,_,rfl,r1,r3⟩
theorem Cq:Adn X (.builtin "abs") (fun xs H Q=>∃ i,xs=[.int i]/\Q (.int (if i<0 then -i else i)) H):=by
 intro pins s σ H xs us Q I r h
 obtain⟨i,rfl,q⟩:=h
 obtain⟨u,rfl,t,rfl⟩:=vals1 r
 exact call_abs_int fun u tk=>⟨.int (if i<0 then -i else i),H,I.tok _,⟨_,rfl⟩,q⟩
theorem Eh:Adn X (.type "int") (fun xs H Q=>(∃ i,xs=[.int i]/\Q (.int i) H) \/ ∃ k,xs=[.bl k]/\Q (.int (if k then 1 else 0)) H):=by
 intro pins s σ H xs us Q I r h
 rcases h with⟨i,rfl,q⟩ | ⟨k,rfl,q⟩
 ·obtain⟨u,rfl,t,rfl⟩:=vals1 r
  exact call_int_int ⟨.int i,H,I,⟨_,rfl⟩,q⟩
 ·obtain⟨u,rfl,r1⟩:=vals1 r
  cases r1
  exact call_int_bool ⟨.int (if k then 1 else 0),H,I.tok _,⟨_,rfl⟩,q⟩
end
structure ObjM (h:aU)(x dx C:aD)(mA:aB->Option aE):Prop where
 obj:h.get? x=some (oG C dx)
 ns:h.Ns1 dx mA
 ne:dx≠x
theorem Cs {h:aU}{dx:aD}{mA:aB->Option aE}(n:h.Ns1 dx mA) : ∃ od,h.get? dx=some od /\ ∀ name,IM name od=some (mA name):=by
 obtain⟨o,es,ep,ho,hd,hk,_,hm⟩:=n
 refine⟨o,ho,fun name=>?_⟩
 have e:=hm name
 unfold nsFind findBy at e
 rw[← Array.find?_toList] at e
 unfold IM
 rw[hd]
 dsimp only
 split
 ·rename_i y q
  rw[q] at e
  exact congrArg some e
 ·rename_i q
  rw[q] at e
  have a:es.toList.any (·.refKey)=false:=by
   rw[List.any_eq_false]
   intro y hy
   obtain⟨z,t,hkey⟩:=hk y (Array.mem_toList_iff.mp hy)
   simp[DictEntry.refKey,hkey]
  have a' : ¬ es.toList.any (·.refKey)=true:=by rw[a]; exact oM
  rw[if_neg a']
  exact congrArg some e
theorem ObjM.look {h:aU}{x dx C:aD}{mA:aB->Option aE}(I:ObjM h x dx C mA) : ∃ od,PySem.W.InstAt h x (oG C dx) C (some od) /\ ∀ name,IM name od=some (mA name):=
 let ⟨od,ho,hl⟩:=Cs I.ns
 ⟨od,⟨I.obj,rfl,rfl,ho⟩,hl⟩
section
variable {prog:bE}{w:bA}{A:bY}{E:aE->aH->Prop}{s:aH}{K:aJ}{x dx C f:aD}{mA:aB->Option aE}{name:aB}{v:aE}
theorem get_map {expr:Bool}{Q:aE->aH->Prop}(X:K.In s.heap)(I:ObjM s.heap x dx C mA)(hg:BK K C name=true)(hh:IR K C=true)
  (ha:kM K (.ref C) name=some none) (hv:mA name=some v) (hv':PySem.W.handedIn v=true) (h:Q v { s with toks:=s.toks+1 }) :
  aP (aQ prog w) A (getAttr (.ref x) name expr) Q E s:=by
 obtain⟨od,J,hl⟩:=I.look
 exact PySem.W.get_value X J (VA hg).1 (PySem.W.findObj_own hh ha rfl (by rw[hl,hv])) hv' h
theorem Qp {pl:Sem Bool}{Q:aE×List aE->aH->Prop}(X:K.In s.heap)(I:ObjM s.heap x dx C mA)(hg:BK K C name=true)
  (hf:kM K (.ref C) name=some (some (.ref f))) (ht:IP K (.ref f)=true) (hv:mA name=none) (h:Q (.ref f,[.ref x]) s) :
  aP (aQ prog w) A (xM (.ref x) name pl) Q E s:=by
 obtain⟨od,J,hl⟩:=I.look
 exact PySem.W.method_fn X J (VA hg).1 (VA hg).2 hf (beq_iff_eq.mp ht) (by show(IM name od).map (·.isSome)=some false; rw[hl,hv]; rfl) h
theorem Kq {ns:List aB}{Q:Unit->aH->Prop}(X:K.In s.heap)(I:ObjM s.heap x dx C mA)
  (hs:kM K (.ref C) "__setattr__" = some (some (.builtin "object.__setattr__"))) (hp:UZ K C=true) (ht:UY K C name=some none) (hh:IR K C=true)
  (hw:PySem.Within mA ns) (hsz:ns.length≤sizeLine)
  (h : ∀ h',ObjM h' x dx C (fun y=>if y=name then some v else mA y)->yD dx s.heap h'->Q () { s with heap:=h',toks:=s.toks+2 }) :
  aP (aQ prog w) A (setAttr (.ref x) name v) Q E s:=by
 obtain⟨od,J,hl⟩:=I.look
 refine PySem.W.set_plain X J hs (PySem.W.osa_open (s:={ s with toks:=s.toks+1 }) (r:=none) X J hp ht fun b=>?_)
 obtain⟨cd,hc,hd'⟩:=PySem.W.any_some hh
 have hx:s.heap.get? x=some ⟨.ref C,some dx,.plain,#[]⟩:=I.obj
 refine aM (aY (aM (aM (wpAny_loadPart hx (aM (PySem.W.Looks.here (s:={ s with toks:=s.toks+1 }) (PySem.W.looks_clsIn X hc) ?_))))))
 rw[hd']
 refine aY (a:=some dx) (aM (aY (aM ?_)))
 refine wpAny_nsSet1 (s:={ s with toks:=s.toks+1 }) I.ns fun h' hn2 hs2=>?_
 obtain⟨oD,esD,epD,hoD,hdD,hcD⟩:=hn2.count (PySem.Within.cons name v hw)
 refine aM (wpAny_lookBehind hoD (by rw[hdD]; exact pastItsLine_dict (jQ hcD (by rw[fG]; omega))) ?_)
 exact aY (h _ ⟨(hs2.2 _ (jO I.ne)).trans I.obj,hn2,I.ne⟩ hs2)
theorem Ob {R:oB->aH->Prop}{vs:List aE}{kw:List (aB×aE)}(X:K.In s.heap)(hm:VE K C=true)
  (hi:kM K (.ref C) "__init__" = some (some (.ref f))) (hf:PySem.W.typeIn K (.ref f)=some (.type "function"))
  (h:iY (aQ prog w) (A.under (.builtin "type.__call__" ⟨.ref C::vs,kw⟩)) (.call (.ref f) ⟨.ref (s.heap.objs.size+1)::vs,kw⟩) (PySem.W.InitBack (s.heap.objs.size+1) R)
   { s with heap:=(s.heap.push mX).push (oG C s.heap.objs.size) }) :
  iY (aQ prog w) A (.call (.ref C) ⟨vs,kw⟩) R s:=by
 obtain⟨hh,g,d,t,os⟩:=s
 exact PySem.W.make_core (PySem.W.makes_of X hm) (PySem.W.looks_findIn X hi) (fun self=>PySem.W.bind_fn X self hf) (.inl rfl) h
end
noncomputable def gV (f:aB)(v:V):List (aB×V)->List (aB×V)
 | []=>[(f,v)]
 | (g,x)::r=>if g=f then(g,v)::r else(g,x)::gV f v r
theorem RZ (f g:aB)(v:V) : ∀ fs:List (aB×V),(gV f v fs).lookup g=if g=f then some v else fs.lookup g
 | []=>by
  show iO g [(f,v)]=_
  by_cases h:g=f
  ·have hb:(g == f)=true:=beq_iff_eq.mpr h
   simp only[iO,hb,if_pos h]
  ·have hb:(g == f)=false:=beq_eq_false_iff_ne.mpr h
   simp only[iO,hb,if_neg h]
 | (k,x)::r=>by
  have ih:=RZ f g v r
  rw[show gV f v ((k,x)::r)=(if k=f then(k,v)::r else(k,x)::gV f v r) from rfl]
  by_cases hk:k=f
  ·rw[if_pos hk]
   by_cases h:g=k
   ·have hb:(g == k)=true:=beq_iff_eq.mpr h
    simp only[iO,hb,if_pos (h.trans hk)]
   ·have hb:(g == k)=false:=beq_eq_false_iff_ne.mpr h
    simp only[iO,hb,if_neg (fun e:g=f=>h (e.trans hk.symm))]
  ·rw[if_neg hk]
   by_cases h:g=k
   ·have hb:(g == k)=true:=beq_iff_eq.mpr h
    simp only[iO,hb,if_neg (fun e:g=f=>hk (h.symm.trans e))]
   ·have hb:(g == k)=false:=beq_eq_false_iff_ne.mpr h
    simp only[iO,hb]
    exact ih
theorem GB (f:aB)(v:V) : ∀ fs:List (aB×V),f∈(gV f v fs).map (·.1) /\ ∀ g,g∈fs.map (·.1)->g∈(gV f v fs).map (·.1)
 | []=>⟨by simp[gV],fun g h=>by simp at h⟩
 | (k,x)::r=>by
  obtain⟨i1,i2⟩:=GB f v r
  rw[show gV f v ((k,x)::r)=(if k=f then(k,v)::r else(k,x)::gV f v r) from rfl]
  by_cases hk:k=f
  ·rw[if_pos hk]
   subst hk
   exact⟨by simp,fun g h=>by simpa using h⟩
  ·rw[if_neg hk]
   refine⟨?_,fun g h=>?_⟩
   ·rw[cR]
    exact cD _ i1
   ·rw[cR] at h ⊢
    rcases cQ.mp h with e | e
    ·exact cQ.mpr (.inl e)
    ·exact cD _ (i2 g e)
theorem RY (f:aB)(v:V) : ∀ fs:List (aB×V),(gV f v fs).length≤fs.length+1
 | []=>by simp[gV]
 | (k,x)::r=>by
  have ih:=RY f v r
  rw[show gV f v ((k,x)::r)=(if k=f then(k,v)::r else(k,x)::gV f v r) from rfl]
  by_cases hk:k=f
  ·rw[if_pos hk,fG,fG]; omega
  ·rw[if_neg hk,fG,fG]; omega
theorem Arj.some_of {v:V}{o:Option aE}(r:Arj (some v) o) : ∃ u,o=some u/\RelV v u:=by
 cases o with
 | none=>exact(show False from r).elim
 | some u=>exact⟨u,rfl,r⟩
theorem Arj.none_of {o:Option aE}(r:Arj none o):o=none:=by
 cases o with
 | none=>rfl
 | some u=>exact(show False from r).elim
theorem Dv {v:V}{u:aE}(r:RelV v u):PySem.W.handedIn u=true:=by
 cases v with
 | non=>cases(show u=gL from r); rfl
 | bl b=>cases(show u=Value.bool b from r); rfl
 | int i=>obtain⟨t,e⟩:=(show ∃ t,u=BG i t from r); cases e; rfl
 | str x=>obtain⟨t,e⟩:=(show ∃ t,u=BE x t from r); cases e; rfl
 | byt b=>obtain⟨t,e⟩:=(show ∃ t,u=Value.bytes b t from r); cases e; rfl
 | flt b=>obtain⟨t,e⟩:=(show ∃ t,u=Value.float b t from r); cases e; rfl
 | ref a=>cases(show u=dS a from r); rfl
 | ty n=>cases(show u=lF n from r); rfl
section
variable {P:bE}{w:bA}{H H':Hp}{h h':aU}{a C dx:aD}{fs fs':List (aB×V)}
theorem yT (hok:HOk P w H h)(e:H a=some (.ins C dx fs)) : ∃ mA,ObjM h a dx C mA/\(∀ f,Arj (fs.lookup f) (mA f))/\PySem.Within mA (fs.map (·.1))/\fs.length≤1000/\H dx=some (.own a):=by
 obtain⟨d,z,ne,ob,mA,n,r,q⟩:=(show Acy P w H h a (.ins C dx fs) from hok a _ e)
 exact⟨mA,⟨ob,n,ne⟩,r,q,z,d⟩
end
structure Cls (K:aJ)(C:aD):Prop where
 pg:BK K C Str.empty=true
 hd:IR K C=true
 po:UZ K C=true
 sa:kM K (.ref C) "__setattr__" = some (some (.builtin "object.__setattr__"))
theorem Cls.get {K:aJ}{C:aD}(c:Cls K C)(f:aB):BK K C f=true:=c.pg
def Ajm (K:aJ)(C:aD)(f:aB):Prop:=kM K (.ref C) f=some none
theorem Ajm.taker {K:aJ}{C:aD}{f:aB}(n:Ajm K C f):UY K C f=some none:=by
 unfold UY
 rw[show kM K (.ref C) f=some none from n]
 rfl
structure Meth (K:aJ)(C:aD)(m:aB)(f:aD):Prop where
 at_:kM K (.ref C) m=some (some (.ref f))
 fn:IP K (.ref f)=true
 kp:lV K (.ref f)=true
section
variable {X:Cx}{pins:List (aD×aX)}{σ:St}{H:Hp}{s:aH}{a C dx:aD}{fs:List (aB×V)}{f:aB}{v:V}{A:bY}{E:aE->aH->Prop}
theorem Gg {b:Bool}{Q:aE->aH->Prop}(I:Inv X pins σ H s)(e:H a=some (.ins C dx fs))(c:Cls X.K C)(n:Ajm X.K C f)(l:fs.lookup f=some v)
  (h : ∀ u s',Inv X pins σ H s'->RelV v u->Q u s'):aP (aQ X.prog X.w) A (getAttr (.ref a) f b) Q E s:=by
 obtain⟨mA,O,r,_,_,_⟩:=yT I.hok e
 obtain⟨u,hu,ru⟩:=Arj.some_of (v:=v) (o:=mA f) (by rw[← l]; exact r f)
 exact get_map I.kIn O (c.get f) c.hd n hu (Dv ru) (h u _ (I.tok _) ru)
theorem GT {m:aB}{g:aD}{pl:Sem Bool}{Q:aE×List aE->aH->Prop}(I:Inv X pins σ H s)(e:H a=some (.ins C dx fs))(c:Cls X.K C)(k:Meth X.K C m g)(l:fs.lookup m=none)
  (h:Q (.ref g,[.ref a]) s):aP (aQ X.prog X.w) A (xM (.ref a) m pl) Q E s:=by
 obtain⟨mA,O,r,_,_,_⟩:=yT I.hok e
 have hn:mA m=none:=Arj.none_of (by rw[← l]; exact r m)
 exact Qp I.kIn O (c.get m) k.at_ k.fn hn h
theorem Fq {y:V}{u:aE}{Q:Unit->aH->Prop}(I:Inv X pins σ H s)(e:H a=some (.ins C dx fs))(c:Cls X.K C)(n:Ajm X.K C f)(hl:fs.length<1000)(ry:RelV y u)
  (h : ∀ s',Inv X pins σ (upd H a (.ins C dx (gV f y fs))) s'->Q () s'):aP (aQ X.prog X.w) A (setAttr (.ref a) f u) Q E s:=by
 obtain⟨mA,O,r,wi,_,ho⟩:=yT I.hok e
 have hz:(fs.map (·.1)).length≤sizeLine:=by rw[cJ,uG]; omega
 refine Kq I.kIn O c.sa c.po n.taker c.hd wi hz fun h' O' sb=>h _ ?_
 have hd : ∃ o,h'.get? dx=some o:=let ⟨o,_,_,e',_⟩:=O'.ns; ⟨o,e'⟩
 refine I.write (x:=a) (e:=dx) (by rw[e]; exact fW) (.inr ho) (fun b q hb z=>(sb.2 b hb).trans z) hd ?_
 refine⟨by rw[bP O.ne]; exact ho,?_,O.ne,O'.obj,_,O'.ns,fun g=>?_,fun g hg=>?_⟩
 ·have:=RY f y fs; omega
 ·show Arj ((gV f y fs).lookup g) (if g=f then some u else mA g)
  rw[RZ]
  by_cases q:g=f
  ·rw[if_pos q,if_pos q]; exact ry
  ·rw[if_neg q,if_neg q]; exact r g
 ·by_cases q:g=f
  ·rw[q]; exact(GB f y fs).1
  ·refine(GB f y fs).2 g (wi g fun z=>hg ?_)
   show(if g=f then some u else mA g)=none
   rw[if_neg q]; exact z
theorem Inv.made (I:Inv X pins σ H s):Inv X pins σ (upd (upd H s.heap.objs.size (.own (s.heap.objs.size+1))) (s.heap.objs.size+1) (.ins C s.heap.objs.size []))
  { s with heap:=(s.heap.push mX).push (oG C s.heap.objs.size) }:=by
 have e1:(s.heap.push mX).get? s.heap.objs.size=some mX:=eZ s.heap rfl
 have e2:((s.heap.push mX).push (oG C s.heap.objs.size)).get? (s.heap.objs.size+1)=some (oG C s.heap.objs.size):=by
  have:=eZ (s.heap.push mX) (o:=oG C s.heap.objs.size) rfl
  rwa [JF] at this
 have e3:(s.heap.push mX).Ns s.heap.objs.size (fun _=>none):=⟨mX,#[],_,e1,rfl,(fun e he=>absurd he (by simp)),fun _=>rfl⟩
 have I1:=I.laid (a:=s.heap.objs.size) (o:=.own (s.heap.objs.size+1)) (h':=s.heap.push mX) (t':=s.toks) (fun b u q=>cX _ q) (bU _) ⟨_,e1⟩
 refine I1.laid (a:=s.heap.objs.size+1) (o:=.ins C s.heap.objs.size []) (t':=s.toks) (fun b u q=>cX _ q) (IW (JF _ _)) ?_
 have ne:s.heap.objs.size≠s.heap.objs.size+1:=dF (VU _)
 refine⟨by rw[bP ne,eL],fP _,ne,e2,fun _=>none,(Heap.Ns1.of_empty e3).at fun o q=>cX _ q,fun _=>fW,fun y hy=>absurd rfl hy⟩
theorem Kh {prog:bE}{w:bA}{env:dZ}{e:aS}{f:aB}{pos:bG}{s:aH}{Q:aE->aH->Prop}(hb:pO e f env (bJ e env)=bJ e env)
  (h:aP (aQ prog w) A (bJ e env) (fun o s₁=>aP (aQ prog w) A (getAttr o f true) Q E s₁) E s):aP (aQ prog w) A (bJ (.Attribute e f pos) env) Q E s:=
 Attribute_any_ h (by rw[arm_eval_Attribute,hb])
end
noncomputable def XO (K:aJ)(ta:TE)(f:aB):TE:=fun σ H Q=>ta σ H fun x H1=>∃ a C dx fs v,x = .ref a/\H1 a=some (.ins C dx fs)/\Cls K C/\Ajm K C f/\fs.lookup f=some v/\Q v H1
noncomputable def WV (K:aJ)(ta tv:TE)(f:aB):TS:=fun D σ H=>tv σ H fun y H1=>ta σ H1 fun x H2=>∃ a C dx fs,x = .ref a/\H2 a=some (.ins C dx fs)/\Cls K C/\Ajm K C f/\fs.length<1000 /\
 D.nx σ (upd H2 a (.ins C dx (gV f y fs)))
section
variable {X:Cx}{o e value:aS}{f:aB}{pos pos' tpos:bG}{ta tv:TE}
theorem vQ (he:PE X e ta)(hb:pO e f X.env (bJ e X.env)=bJ e X.env):PE X (.Attribute e f pos) (XO X.K ta f):=by
 intro pins s σ H Q I h
 refine Kh hb (thn (he pins s σ H _ I h) fun u s1 gh=>?_)
 obtain⟨x,H1,I1,rx,a,C,dx,fs,v,ex,ea,c,n,l,q⟩:=gh
 subst ex
 obtain rfl:u=dS a:=rx
 exact Gg I1 ea c n l fun u' s2 I2 ru=>⟨v,H1,I2,ru,q⟩
theorem TY (ha:PE X o ta)(hv:PE X value tv)(hs:lT value (some (.Attribute o f pos')) pos.line X.env=pure false):PS X (.Assign [.Attribute o f pos'] value pos) (WV X.K ta tv f):=by
 intro pins s σ H D I h
 refine plainObj_wpAny_Assign_Attribute (thn (hv pins s σ H _ I h) fun u s1 ⟨y,H1,I1,ry,q⟩=>thn (ha pins s1 σ H1 _ I1 q) fun ov s2 ⟨x,H2,I2,rx,a,C,dx,fs,ex,ea,c,n,l,q2⟩=>?_) hs
 subst ex
 obtain rfl:ov=dS a:=rx
 exact Fq I2 ea c n l ry fun s3 I3=>⟨σ,_,I3,q2⟩
end
section
variable {X:Cx}{pins:List (aD×aX)}{σ:St}{H:Hp}{s:aH}{A:bY}{E:aE->aH->Prop}{Q:aE->aH->Prop}{c:aE}{b:Bool}
inductive TyOf (K:aJ)(H:Hp):V->aE->Prop where
 | non:TyOf K H .non (.type "NoneType")
 | bl (x:Bool):TyOf K H (.bl x) (.type "bool")
 | int (i:Int):TyOf K H (.int i) (.type "int")
 | str (x:aB):TyOf K H (.str x) (.type "str")
 | flt (x:UInt64):TyOf K H (.flt x) (.type "float")
 | lst {a:aD} {xs:List V} (e:H a=some (.lst xs)):TyOf K H (.ref a) (.type "list")
 | frz {a:aD} {o:aX} {xs:List V} (e:H a=some (.frz o (.lst xs))):TyOf K H (.ref a) (.type "list")
 | tup {a:aD} {xs:List V} (e:H a=some (.tup xs)):TyOf K H (.ref a) (.type "tuple")
 | dK {a:aD} {ep:Nat} {kvs:List (aN×V)} (e:H a=some (.dK ep kvs)):TyOf K H (.ref a) (.type "dict")
 | dT {a:aD} {ep:Nat} {kvs:List (List aA×V)} (e:H a=some (.dT ep kvs)):TyOf K H (.ref a) (.type "dict")
 | ins {a C dx:aD} {fs:List (aB×V)} (e:H a=some (.ins C dx fs)) (cl:Cls K C) (ha:kM K (.ref C) "__class__" = some (some (.builtin "object.__class__")))
   (hn:PySem.W.specialIn K (.builtin "object.__class__") "__get__" = some (some (.builtin "getset_descriptor.__get__"))) (htk:PySem.W.takesIn K (.builtin "object.__class__")=some true)
   (hm:PySem.W.mroIn K C (.type "object")=some true):TyOf K H (.ref a) (.ref C)
theorem Dh {x:V}{u t:aE}(I:Inv X pins σ H s)(rx:RelV x u)(ty:TyOf X.K H x t)(e:gM X.K t c=some b)(h : ∀ tk,Q (.bool b) { s with toks:=tk }) :
  aP (aQ X.prog X.w) A (call (.builtin "isinstance") [u,c]) Q E s:=by
 cases ty with
 | non=>cases(show u=gL from rx); exact kL PySem.W.kitx_none I.kIn fW e (fun z=>nomatch z) h
 | bl y=>cases(show u=Value.bool y from rx); exact kL PySem.W.kitx_bool I.kIn fW e (fun z=>nomatch z) h
 | int i=>obtain⟨t,q⟩:=(show ∃ t,u=BG i t from rx); cases q; exact kL PySem.W.kitx_int I.kIn fW e (fun z=>nomatch z) h
 | str y=>obtain⟨t,q⟩:=(show ∃ t,u=BE y t from rx); cases q; exact kL PySem.W.kitx_str I.kIn fW e (fun z=>nomatch z) h
 | flt y=>obtain⟨t,q⟩:=(show ∃ t,u=Value.float y t from rx); cases q; exact kL PySem.W.kitx_float I.kIn fW e (fun z=>nomatch z) h
 | @lst a xs ea=>
  cases(show u=dS a from rx)
  obtain⟨_,_,n,_,h1⟩:=(show Acy X.prog X.w H s.heap a (.lst xs) from I.hok a _ ea)
  exact kL VF I.kIn ⟨_,h1,rfl⟩ e (fun z=>nomatch z) h
 | @frz a ob xs ea=>
  cases(show u=dS a from rx)
  obtain⟨_,_,_,n,_,h1⟩:=(show Acy X.prog X.w H s.heap a (.frz ob (.lst xs)) from I.hok a _ ea)
  exact kL VF I.kIn ⟨_,h1,rfl⟩ e (fun z=>nomatch z) h
 | @tup a xs ea=>
  cases(show u=dS a from rx)
  obtain⟨_,_,_,p⟩:=(show Acy X.prog X.w H s.heap a (.tup xs) from I.hok a _ ea)
  obtain⟨o,h1,h2,_⟩:=p.1
  exact kL PySem.W.kitx_tuple I.kIn ⟨o,h1,h2⟩ e (fun z=>nomatch z) h
 | @dK a ep kvs ea=>
  cases(show u=dS a from rx)
  obtain⟨_,_,vs,_,p⟩:=(show Acy X.prog X.w H s.heap a (.dK ep kvs) from I.hok a _ ea)
  obtain⟨o,es,h1,h2,_⟩:=p
  exact kL VG I.kIn ⟨o,h1,h2.1⟩ e (fun z=>nomatch z) h
 | @dT a ep kvs ea=>
  cases(show u=dS a from rx)
  obtain⟨_,_,xs,_,o,es,h1,h2,_⟩:=(show Acy X.prog X.w H s.heap a (.dT ep kvs) from I.hok a _ ea)
  exact kL VG I.kIn ⟨o,h1,h2.1⟩ e (fun z=>nomatch z) h
 | @ins a C dx fs ea cl ha hn htk hm=>
  cases(show u=dS a from rx)
  obtain⟨mA,O,_⟩:=yT I.hok ea
  obtain⟨od,J,_⟩:=O.look
  exact kL (PySem.W.kitx_own (cl.get _) cl.hd ha hn htk hm) I.kIn J e (fun z=>nomatch z) h
end
structure Room (k:Nat)(A:bY):Prop where
 hd:A.handled=none
 dp:A.depth+3*k+5<recursionLimit
 un:A.units+16*k+200<cLine
theorem Room.mono {j k:Nat}{A:bY}(r:Room k A)(h:j≤k):Room j A:=⟨r.hd,by have:=r.dp; omega,by have:=r.un; omega⟩
theorem Room.deeper {k:Nat}{A:bY}(r:Room (k+1) A)(env:dZ):Room k (A.deeper env):=
 ⟨r.hd,by have:=r.dp; show A.depth+1+3*k+5<_; omega,by have:=r.un; show A.units+3+16*k+200<_; omega⟩
theorem Fi {A:bY}{C:aD}{us:List aE}{kw:List (aB×aE)}:(A.under (.builtin "type.__call__" ⟨.ref C::us,kw⟩)).depth=A.depth+1:=by
 first | rfl | simp[Around.under,Code.weight,Code.isCreation,Code.isGuard,Code.isCaller,Code.frames,Code.isFrame,guardIds]
theorem Et {A:bY}{C:aD}{us:List aE}{kw:List (aB×aE)}:(A.under (.builtin "type.__call__" ⟨.ref C::us,kw⟩)).units=A.units+1:=by
 first | rfl | simp[Around.under,Code.cUnits,Code.frames,Code.isFrame]
theorem Room.make {k:Nat}{A:bY}(r:Room (k+1) A)(C:aD)(us:List aE)(kw:List (aB×aE)):Room k (A.under (.builtin "type.__call__" ⟨.ref C::us,kw⟩)):=
 ⟨r.hd,by have:=r.dp; rw[Fi]; omega,by have:=r.un; rw[Et]; omega⟩
theorem Room.depth {k:Nat}{A:bY}(r:Room k A):A.depth<recursionLimit:=by have:=r.dp; omega
theorem Room.units {k:Nat}{A:bY}(r:Room k A):A.units+64<cLine:=by have:=r.un; omega
noncomputable abbrev JQ:TA:=fun _ H Q=>Q [] H
noncomputable abbrev HY (ta:TE)(tr:TA):TA:=fun σ H Q=>ta σ H fun x H1=>tr σ H1 fun xs H2=>Q (x::xs) H2
section
variable {X:Cx}{e:aS}{es:List aS}{te:TE}{t:TA}{pos:bG}
theorem nG:PA X [] JQ:=fun _ _ _ _ H Q I h=>Calls.spliced_nil ⟨[],H,I,.nil,h⟩
theorem kY (ha:PE X e te)(hr:PA X es t)(hs:bI (e::es) X.env=(false,bJ e X.env)::bI es X.env:=by rfl):PA X (e::es) (HY te t):=by
 intro pos pins s σ H Q I h
 rw[hs]
 show aP _ _ (spliced ((false,bJ e X.env)::fF pos (bI es X.env))) _ _ s
 refine Calls.spliced_cons (thn (ha pins s σ H _ I h) fun u s1 gh=>?_)
 obtain⟨x,H1,I1,r1,q1⟩:=gh
 exact thn (hr pos pins s1 σ H1 _ I1 q1) fun us s2 ⟨xs,H2,I2,r2,q2⟩=>⟨x::xs,H2,I2,.cons r1 r2,q2⟩
noncomputable def XU (t:TA):TE:=fun σ H Q=>t σ H fun xs H1=>xs.length≤sizeLine /\ ∀ p,H1 p=none->Q (.ref p) (upd H1 p (.tup xs))
noncomputable def XG (t:TA):TE:=fun σ H Q=>t σ H fun xs H1=>xs.length≤sizeLine /\ ∀ p,H1 p=none->Q (.ref p) (upd H1 p (.lst xs))
theorem Bi {x1}(h:PA X es t):PE X (.Tuple es x1 pos) (XU t):=by
 intro pins s σ H Q I hq
 refine wpAny_Tuple_spliced (thn (h pos pins s σ H _ I hq) fun us s1 ⟨xs,H1,I1,r,z,q⟩=>⟨by rw[← r.length]; exact z,?_⟩)
 have hf:H1 s1.heap.objs.size=none:=I1.hok.fresh (bU _)
 refine⟨.ref s1.heap.objs.size,upd H1 s1.heap.objs.size (.tup xs),I1.laid (t':=s1.toks) (fun b u e=>cX _ e) (bU _) ?_,rfl,q _ hf⟩
 exact⟨z,us,r,⟨_,eZ _ rfl,rfl,_,rfl⟩,_,eZ _ rfl,rfl⟩
theorem Ak (h:PA X es t):PE X (.List es pos) (XG t):=by
 intro pins s σ H Q I hq
 refine wpAny_List_spliced (thn (h pos pins s σ H _ I hq) fun us s1 ⟨xs,H1,I1,r,z,q⟩=>⟨by rw[← r.length]; exact z,?_⟩)
 have hf:H1 s1.heap.objs.size=none:=I1.hok.fresh (bU _)
 refine⟨.ref s1.heap.objs.size,upd H1 s1.heap.objs.size (.lst xs),I1.laid (t':=s1.toks) (fun b u e=>cX _ e) (bU _) ?_,rfl,q _ hf⟩
 exact⟨z,us,0,r,eZ _ rfl⟩
end
abbrev Sp:=List V->Hp->VK->XK->Prop
abbrev CXT:=List dZ->Hp->aH->XK->aE->aH->Prop
structure Env0 (P:bE)(w:bA)(K:aJ)(mg:aB->Option aE)(base:aU)(A:bY)(outer:List dZ)(s:aH)(H:Hp):Prop where
 frames:A.frames=some outer
 mod:Mod K mg base
 bs : ∀ b o,base.get? b=some o->s.heap.get? b=some o/\H b=none
 bsz:base.objs.size≤s.heap.objs.size
 funs:s.heap.FunFrames base outer
 frf : ∀ b∈frs outer,H b=none
 hok:HOk P w H s.heap
 bare:oP s.gens
def CE (outer:List dZ)(P:bE)(w:bA)(H:Hp)(s:aH)(Q:VK)(u:aE)(s':aH):Prop:=
 ∃ v H',s'.os=s.os/\oP s'.gens/\Un (frs outer) [] H H' s.heap s'.heap/\HOk P w H' s'.heap/\RelV v u/\Q v H'
def CR (CX:CXT)(outer:List dZ)(P:bE)(w:bA)(H:Hp)(s:aH)(Q:VK)(E:XK)(r:oB)(s':aH):Prop:=
 match r with
 | .ok (.ret u)=>CE outer P w H s Q u s'
 | .ok _=>False
 | .error e=>CX outer H s E e s'
structure FnOk (P:bE)(w:bA)(K:aJ)(mg:aB->Option aE)(base:aU)(CX:CXT)(k:Nat)(f:aD)(fd:fJ)(ps:List aB)(sp:Sp):Prop where
 len : ∀ vs H Q E,sp vs H Q E->vs.length=ps.length
 run : ∀ (A:bY) (outer:List dZ) (s:aH) (H:Hp) (args:Args) (us:List aE) (vs:List V) (Q:VK) (E:XK),Room k A->Env0 P w K mg base A outer s H->rR s fd args (ps.zip us)->Vals vs us->sp vs H Q E ->
  iY (aQ P w) A (.call (.ref f) args) (CR CX outer P w H s Q E) s
theorem FnOk.imp {P:bE}{w:bA}{K:aJ}{mg:aB->Option aE}{base:aU}{CX:CXT}{k:Nat}{f:aD}{fd:fJ}{ps:List aB}{sp sp':Sp}(F:FnOk P w K mg base CX k f fd ps sp)
  (h : ∀ vs H Q E,sp' vs H Q E->sp vs H Q E):FnOk P w K mg base CX k f fd ps sp':=
 ⟨fun vs H Q E q=>F.len vs H Q E (h _ _ _ _ q),fun A outer s H args us vs Q E hr he hb hv hs=>F.run A outer s H args us vs Q E hr he hb hv (h _ _ _ _ hs)⟩
theorem Env0.make {P:bE}{w:bA}{K:aJ}{mg:aB->Option aE}{base:aU}{A:bY}{outer:List dZ}{s:aH}{H:Hp}(e:Env0 P w K mg base A outer s H)(C:aD)(us:List aE)(kw:List (aB×aE)) :
  Env0 P w K mg base (A.under (.builtin "type.__call__" ⟨.ref C::us,kw⟩)) outer s H:=⟨by first | exact e.frames | (simpa [Around.under,Code.envs,Code.isFrame,pushEnvs] using e.frames),e.mod,e.bs,e.bsz,e.funs,e.frf,e.hok,e.bare⟩
section
variable {X:Cx}{pins:List (aD×aX)}{σ:St}{H:Hp}{s s':aH}
theorem Inv.env0 (I:Inv X pins σ H s):Env0 X.prog X.w X.K X.mg X.base X.A X.stack s H:=
 ⟨I.ok.frames,I.ok.mod,I.bs,jQ I.ok.bsz I.sz,I.stack,I.stkFree,I.hok,I.bare⟩
theorem Inv.after {Q:VK}{u:aE}(I:Inv X pins σ H s)(h:CE X.stack X.prog X.w H s Q u s'):EP X pins σ Q u s':=by
 obtain⟨v,H',os,bare,un,hok,r,q⟩:=h
 obtain⟨hh,g,d,t,os'⟩:=s'
 obtain rfl:os'=s.os:=os
 exact⟨v,H',I.call (h':=hh) (g':=g) (d':=d) (t':=t) (ch:=[]) un hok bare (fun b z=>absurd z (by simp)),r,q⟩
end
noncomputable def KO (sp:Sp)(dvs:List V)(E:XK)(t:TA):TE:=fun σ H Q=>t σ H fun vs H1=>sp (vs++dvs) H1 Q E
noncomputable def ZH (C:aD)(m:aB)(sp:Sp)(dvs:List V)(E:XK)(ta:TE)(t:TA):TE:=fun σ H Q=>ta σ H fun x H1=>∃ a dx fs,x = .ref a/\H1 a=some (.ins C dx fs)/\fs.lookup m=none /\
 t σ H1 fun vs H2=>sp (x::(vs++dvs)) H2 Q E
def Binds (K:aJ)(fd:fJ)(ps:List aB)(ds:List aE):Prop:=
 ∀ (s:aH) (us:List aE),K.In s.heap->(us++ds).length=ps.length->rR s fd ⟨us,[]⟩ (ps.zip (us++ds))
theorem Binds.all {K:aJ}{fd:fJ}{ps:List aB}(h : ∀ us:List aE,us.length=ps.length->xN fd ⟨us,[]⟩=pure (ps.zip us)):Binds K fd ps []:=fun s us _ hl=>by
 rw[uS] at hl ⊢
 exact .of_eq (h us hl)
def Passes (CX:CXT)(X:Cx)(E:XK):Prop:=∀ (pins:List (aD×aX)) (σ:St) (H:Hp) (s:aH) (e:aE) (s':aH),Inv X pins σ H s->CX X.stack H s E e s'->X.xe e s'
section
variable {X:Cx}{CX:CXT}{k:Nat}{f C:aD}{fd:fJ}{ps:List aB}{sp:Sp}{dvs:List V}{ds:List aE}{E:XK}{x m:aB}{p pos apos:bG}{e o:aS}{es:List aS}{ta:TE}{t:TA}
theorem UD {pins:List (aD×aX)}{σ:St}{H:Hp}{s:aH}{Q:VK}{us:List aE}{vs:List V}(F:FnOk X.prog X.w X.K X.mg X.base CX k f fd ps sp)(hr:Room k X.A)(hb:Binds X.K fd ps ds)(hd:Vals dvs ds)(hx:Passes CX X E)
  (I:Inv X pins σ H s) (r:Vals vs us) (h:sp (vs++dvs) H Q E):aP (aQ X.prog X.w) X.A (call (.ref f) us) (EP X pins σ Q) X.xe s:=by
 have r2:Vals (vs++dvs) (us++ds):=r.append hd
 have hl:(us++ds).length=ps.length:=by rw[← r2.length]; exact F.len _ _ _ _ h
 refine wpAny_call (rG (F.run X.A X.stack s H ⟨us,[]⟩ (us++ds) (vs++dvs) Q E hr I.env0 (hb s us I.kIn hl) r2 h) fun r s' hq=>?_)
 cases r with
 | error e=>exact hx pins σ H s e s' I hq
 | ok fl=>
  cases fl with
  | ret u=>exact I.after hq
  | next=>exact jB hq
  | brk=>exact jB hq
  | cont=>exact jB hq
theorem Kg (F:FnOk X.prog X.w X.K X.mg X.base CX k f fd ps sp)(hr:Room k X.A)(hg:Gl X x)(hm:X.mg x=some (.ref f))(hk:lV X.K (.ref f)=true)(hb:Binds X.K fd ps ds)(hd:Vals dvs ds)(hx:Passes CX X E)
  (ha:PA X (e::es) t) (hdb:(x == ("__debug__" : aB))=false:=by decide) (he:bI (e::es) X.env=(false,bJ e X.env)::bI es X.env:=by rfl) (hpl:(fF pos (bI es X.env)).any (·.1)=false:=by rfl) :
  PE X (.Call (.Name x p) (e::es) [] pos) (KO sp dvs E t):=by
 intro pins s σ H Q I h
 refine IH (sY I hg hm ?_ hdb)
 refine IS (h₀:=X.base) I.ok.mod.kin hk (thn (ha pos pins s σ H _ I h) fun us s1 ⟨vs,H1,I1,r,q⟩=>⟨I1.kIn,?_⟩) he hpl
 exact UD F hr hb hd hx I1 r q
theorem Nb {pl:Sem Bool}(he:PE X o ta)(c:Cls X.K C)(hm:Meth X.K C m f)(F:FnOk X.prog X.w X.K X.mg X.base CX k f fd ps sp)(hr:Room k X.A)(hb:Binds X.K fd ps ds)(hd:Vals dvs ds)(hx:Passes CX X E)(ha:PA X (e::es) t)
  (hst:bI (e::es) X.env=(false,bJ e X.env)::bI es X.env:=by rfl) (hpl:(fF pos (bI es X.env)).any (·.1)=false:=by rfl)
  (ht:bJ (.Call (.Attribute o m apos) (e::es) [] pos) X.env=(do
   let ov ← bJ o X.env
   rE apos.atName
   let (f,first) ← lU [ov] (xM ov m pl)
   callWith pos f first (fF pos (bI (e::es) X.env)) (uK pos (uI [] X.env))):=by rfl) :
  PE X (.Call (.Attribute o m apos) (e::es) [] pos) (ZH C m sp dvs E ta t):=by
 intro pins s σ H Q I h
 refine VD (pl:=pl) (thn (he pins s σ H _ I h) fun u s1 ⟨x,H1,I1,rx,a,dx,fs,ex,ea,l,q⟩=>?_) ht
 subst ex
 obtain rfl:u=dS a:=rx
 refine GT I1 ea c hm l ?_
 refine IS (first:=[.ref a]) (h₀:=X.base) I.ok.mod.kin hm.kp (thn (ha pos pins s1 σ H1 _ I1 q) fun us s2 ⟨vs,H2,I2,r,q2⟩=>⟨I2.kIn,?_⟩) hst hpl
 exact UD (us:=.ref a::us) (vs:=.ref a::vs) F hr hb hd hx I2 (.cons rfl r) q2
structure Mk (K:aJ)(C f:aD):Prop where
 makes:VE K C=true
 init:kM K (.ref C) "__init__" = some (some (.ref f))
 fn:IP K (.ref f)=true
 kp:lV K (.ref C)=true
end
structure FnScope (N P:List aB)(sc:gZ):Prop where
 kind:sc.kind = .function
 co:sc.isCoroutine=false
 gen:sc.isGenerator=false
 nd:N.Nodup
 pre:N.take P.length=P
 par : ∀ x∈P,sc.names.lookup x=some .local \/ sc.names.lookup x=some .cell
 nofree : ∀ y∈sc.names,y.2 ≠ .free
theorem QS {kindOf:aB->Option lH}{x:aB} : ∀ {binds:List (aB×aE)} {m:aB->Option aE},(∀ v,(x,v)∉binds)->bindL kindOf binds m x=m x
 | [],_,_=>rfl
 | (n,v)::r,m,h=>by
  unfold bindL
  rw[QS fun w hw=>h w (cD _ hw)]
  split
  ·have:x≠n:=by rintro rfl; exact h v cC
   simp[this]
  ·rfl
theorem PZ {kindOf:aB->Option lH}{x:aB} : ∀ {binds:List (aB×aE)} {m:aB->Option aE},(∀ v,(x,v)∉binds)->bindC kindOf binds m x=m x
 | [],_,_=>rfl
 | (n,v)::r,m,h=>by
  unfold bindC
  rw[PZ fun w hw=>h w (cD _ hw)]
  split
  ·rfl
  ·have:x≠n:=by rintro rfl; exact h v cC
   simp[this]
theorem QY {kindOf:aB->Option lH}{x:aB}{v:aE} : ∀ {P:List aB} {vs:List aE} {i:Nat} {m:aB->Option aE},P.Nodup->P[i]?=some x->vs[i]?=some v->kindOf x=some .local ->
  bindL kindOf (P.zip vs) m x=some v
 | [],_,_,_,_,h,_,_=>by simp at h
 | _::_,[],_,_,_,_,h,_=>by simp at h
 | p::P,w::vs,0,m,nd,h1,h2,hk=>by
  simp at h1 h2; subst h1; subst h2
  show bindL kindOf ((p,w)::P.zip vs) m p=_
  unfold bindL
  rw[QS fun v hv=>(gH.mp nd).1 (VW hv).1,if_pos hk]
  simp
 | p::P,w::vs,i+1,m,nd,h1,h2,hk=>by
  show bindL kindOf ((p,w)::P.zip vs) m x=_
  unfold bindL
  exact QY (i:=i) (gH.mp nd).2 (by simpa using h1) (by simpa using h2) hk
theorem PJ {kindOf:aB->Option lH}{x:aB}{v:aE} : ∀ {P:List aB} {vs:List aE} {i:Nat} {m:aB->Option aE},P.Nodup->P[i]?=some x->vs[i]?=some v->kindOf x≠some .local ->
  bindC kindOf (P.zip vs) m x=some v
 | [],_,_,_,_,h,_,_=>by simp at h
 | _::_,[],_,_,_,_,h,_=>by simp at h
 | p::P,w::vs,0,m,nd,h1,h2,hk=>by
  simp at h1 h2; subst h1; subst h2
  show bindC kindOf ((p,w)::P.zip vs) m p=_
  unfold bindC
  rw[PZ fun v hv=>(gH.mp nd).1 (VW hv).1,if_neg hk]
  simp
 | p::P,w::vs,i+1,m,nd,h1,h2,hk=>by
  show bindC kindOf ((p,w)::P.zip vs) m x=_
  unfold bindC
  exact PJ (i:=i) (gH.mp nd).2 (by simpa using h1) (by simpa using h2) hk
noncomputable def start (N:List aB)(vs:List V):St:=vs.map some++lI (N.length - vs.length) none
noncomputable def iS (CX:CXT)(P:bE)(w:bA)(K:aJ)(mg:aB->Option aE)(base:aU)(N:List aB)(qual:aB)(scope:gZ)(f:aD)(cd:aE)(A:bY)(outer:List dZ)(s:aH)(H:Hp)(E:XK):Cx where
 prog:=P
 w:=w
 K:=K
 mg:=mg
 base:=base
 A:=A.deeper (iC qual scope s.heap.objs.size f cd)
 N:=N
 s₀:=s
 H₀:=H
 env:=iC qual scope s.heap.objs.size f cd
 outer:=outer
 stack:=iC qual scope s.heap.objs.size f cd::outer
 ex:=[]
 calm:=true
 fn:=fun _=>true
 pn:=[]
 xe:=fun e s'=>aP (aQ P w) (A.deeper (iC qual scope s.heap.objs.size f cd)) (leaving (iC qual scope s.heap.objs.size f cd) e) (fun _ s''=>CX outer H s E e s'') (fun e' s''=>CX outer H s E e' s'') s'
theorem OV {sc:gZ}{n:Nat}{x:aB}(h:sc.names.lookup x=some .cell) : ∃ c,(cellsFrom n sc.names []).lookup x=some c:=by
 have q:=PySem.W.cellsFrom_some sc.names n [] (.inl h)
 exact VS.mp q
theorem Cn {CX:CXT}{P:bE}{w:bA}{K:aJ}{mg:aB->Option aE}{base:aU}{N ps:List aB}{qual:aB}{scope:gZ}{f:aD}{cd:aE}{A:bY}{outer:List dZ}{s s1:aH}{H:Hp}{E:XK}{us:List aE}{vs:List V}
  (S:FnScope N ps scope) (hd:A.handled=none) (e0:Env0 P w K mg base A outer s H) (hl:vs.length=ps.length) (r:Vals vs us)
  (x:InCallC s s.heap.objs.size (bindL (iC qual scope s.heap.objs.size f cd).kindOf (ps.zip us) fun _=>none) (cellsFrom (s.heap.objs.size+1) scope.names []) (bindC (iC qual scope s.heap.objs.size f cd).kindOf (ps.zip us) fun _=>none) s1) :
  Inv (iS CX P w K mg base N qual scope f cd A outer s H E) [] (start N vs) H s1:=by
 have hpl:ps.length≤N.length:=by have:=congrArg uP S.pre; rw[oJ] at this; omega
 obtain⟨h1,tk,rfl,hk⟩:=x.done
 have noA : ∀ b:aD,b∉(iS CX P w K mg base N qual scope f cd A outer s H E).ex:=fun b z=>absurd (show b∈([]:List aD) from z) (by simp)
 refine⟨⟨e0.mod,S.kind,rfl,rfl,bU _,fun y z c h1 h2=>?_,fun y hy=>?_,fun y c _ h=>?_,fun _=>hd,Around.frames_deeper e0.frames,.inr ⟨rfl,rfl⟩,fun b z=>absurd z (noA b),e0.bs,e0.bsz,fun b _ _=>noA b,fun b z=>absurd z (noA b),e0.funs,e0.frf⟩,
  rfl,e0.bare,Un.kept hk,⟨_,x.toInCall.ns,fun i y v h1 h2 h3=>?_⟩,fun y c h=>⟨_,x.cell y c h⟩,e0.hok.fresh (bU _),fun y c h=>?_,fun p hp=>absurd (show p∈([]:List (aD×aX)) from hp) (by simp),e0.hok.kept hk,?_⟩
 ·exact name_of_addr x.apart (BJ h1) (BJ h2)
 ·have hy:scope.names.lookup y=some .cell \/ scope.names.lookup y=some .free:=hy
  rcases hy with hy | hy
  ·exact OV hy
  ·exact absurd rfl (S.nofree _ (BJ hy))
 ·exact BO (x.above y c (BJ h))
 ·have hi:i<vs.length:=by
   unfold start at h2
   by_cases hi:i<vs.length
   ·exact hi
   ·rw[WC (by simpa using hi)] at h2
    rw[List.getElem?_replicate] at h2
    split at h2 <;> cases h2
  have ha:vs[i]?=some v:=by
   unfold start at h2
   rw[BR (by simpa using hi),fH] at h2
   cases e:vs[i]? with
   | none=>rw[e] at h2; cases h2
   | some a=>rw[e] at h2; cases h2; rfl
  obtain⟨u,hu,rv⟩:=r.get ha
  have hp:ps[i]?=some y:=by
   rw[← S.pre,List.getElem?_take_of_lt (by omega)]; exact h1
  have ndP:ps.Nodup:=by rw[← S.pre]; exact S.nd.sublist (List.take_sublist _ _)
  refine⟨u,rv,?_⟩
  rcases S.par y (pS hp) with k | k
  ·exact .inl ⟨k,QY ndP hp hu k⟩
  ·obtain⟨c,e⟩:=OV (n:=s.heap.objs.size+1) k
   refine .inr ⟨.inl k,c,e,?_⟩
   have q:=x.cell y c e
   rw[PJ ndP hp hu (by show scope.names.lookup y≠_; rw[k]; decide)] at q
   exact q
 ·exact e0.hok.fresh (BO (x.above y c (BJ h)))
 ·unfold start
  show _=N.length
  rw[pU,cJ,List.length_replicate]
  omega
theorem KI {CX:CXT}{P:bE}{w:bA}{K:aJ}{mg:aB->Option aE}{base:aU}{k:Nat}{f:aD}{name qual:aB}{params:Arguments}{body:List bH}{scope:gZ}{dV kV doc pm cdv ct oc:aE}{an od:Option aD}
  {osl:Array (Option aE)} {N ps:List aB} {sp:Sp} (lk:K.lookup f=some ⟨oc,od,.func (jM name qual params body scope dV kV doc pm an cdv ct),osl⟩) (hcd:uM K cdv qual=true) (S:FnScope N ps scope)
  (len : ∀ vs H Q E,sp vs H Q E->vs.length=ps.length)
  (hbody : ∀ (A:bY) (outer:List dZ) (s:aH) (H:Hp) (vs:List V) (Q:VK) (E:XK),Room k (A.deeper (iC qual scope s.heap.objs.size f cdv))->sp vs H Q E ->
   ∃ t,PSs (iS CX P w K mg base N qual scope f cdv A outer s H E) body t/\t { nx:=fun _ H'=>Q .non H',rt:=Q } (start N vs) H) :
  FnOk P w K mg base CX (k+1) f (jM name qual params body scope dV kV doc pm an cdv ct) ps sp:=by
 refine⟨len,fun A outer s H args us vs Q E hr e0 hb r hsp=>?_⟩
 have hl:=len _ _ _ _ hsp
 have KX:K.In s.heap:=e0.mod.kin.keeps fun b o e=>(e0.bs b o e).1
 have lim:s.heap.NoLimit:=e0.mod.nolimit.keeps fun b o e=>(e0.bs b o e).1
 have hkind : ∀ y∈ps.zip us,scope.names.lookup y.1=some .local \/ (scope.names.lookup y.1=some .cell/\((cellsFrom (s.heap.objs.size+1) scope.names []).lookup y.1).isSome=true):=fun⟨n,v⟩ hy=>by
  rcases S.par n (VW hy).1 with q | q
  ·exact .inl q
  ·exact .inr ⟨q,PySem.W.cellsFrom_some _ _ _ (.inl q)⟩
 refine codeAny_call_function hr.depth (KX _ _ lk) rfl S.co S.gen rfl (PySem.W.codeRec_of KX hcd) (hb _ _ _ _ ?_)
 refine wpAny_newFunctionEnv_cells S.kind hkind fun env he s1 x=>?_
 subst he
 refine⟨lim.keeps x.toInCall.keep,codeAny_func ?_⟩
 obtain⟨t,ht,hq⟩:=hbody A outer s H vs Q E (hr.deeper _) hsp
 have I:Inv (iS CX P w K mg base N qual scope f cdv A outer s H E) [] (start N vs) H s1:=Cn S hr.hd e0 hl r x
 refine iW (ht [] s1 (start N vs) H _ I hq) (fun fl s' hs=>?_) fun e s' hs=>hs
 have fin : ∀ {σ':St} {H':Hp} {v:V} {u:aE},Inv (iS CX P w K mg base N qual scope f cdv A outer s H E) [] σ' H' s'->RelV v u->Q v H'->CE outer P w H s Q u s':=
  fun {σ' H' v u} J rv q=>⟨v,H',J.os,J.bare,J.base,J.hok,rv,q⟩
 cases fl with
 | ret u=>
  obtain⟨v,σ',H',J,rv,q⟩:=hs
  exact fin J rv q
 | next=>
  obtain⟨σ',H',J,q⟩:=hs
  exact fin (v:=V.non) (u:=gL) J rfl q
 | brk=>
  obtain⟨_,_,_,q⟩:=hs
  exact jB q
 | cont=>
  obtain⟨_,_,_,q⟩:=hs
  exact jB q
section
variable {X:Cx}{x:aB}{p pos:bG}{e:aS}{es:List aS}{t:TA}{id T:String}{r:List V->Hp->VK->Prop}
noncomputable def tCB (r:List V->Hp->VK->Prop)(t:TA):TE:=fun σ H Q=>t σ H fun vs H1=>r vs H1 Q
theorem wL (hc:Adn X (.builtin id) r)(hg:Gl X x)(hm:X.mg x=none)(hv:iZ x=some (.builtin id))(ha:PA X (e::es) t)(hn:x ≠ "__name__":=by decide)(hdb:(x == ("__debug__" : aB))=false:=by decide)
  (he:bI (e::es) X.env=(false,bJ e X.env)::bI es X.env:=by rfl) (hpl:(fF pos (bI es X.env)).any (·.1)=false:=by rfl):PE X (.Call (.Name x p) (e::es) [] pos) (tCB r t):=by
 intro pins s σ H Q I h
 refine IH (yP I hg hm hv ?_ hn hdb)
 exact PyProof.Rows.callWith_builtin1 (thn (ha pos pins s σ H _ I h) fun us s1 ⟨vs,H1,I1,r1,q1⟩=>hc pins s1 σ H1 vs us Q I1 r1 q1) he hpl
theorem QW (hc:Adn X (.type T) r)(hg:Gl X x)(hm:X.mg x=none)(hv:iZ x=some (.type T))(ha:PA X (e::es) t)(hn:x ≠ "__name__":=by decide)(hdb:(x == ("__debug__" : aB))=false:=by decide)
  (he:bI (e::es) X.env=(false,bJ e X.env)::bI es X.env:=by rfl) (hpl:(fF pos (bI es X.env)).any (·.1)=false:=by rfl):PE X (.Call (.Name x p) (e::es) [] pos) (tCB r t):=by
 intro pins s σ H Q I h
 refine IH (yP I hg hm hv ?_ hn hdb)
 exact Qx (thn (ha pos pins s σ H _ I h) fun us s1 ⟨vs,H1,I1,r1,q1⟩=>hc pins s1 σ H1 vs us Q I1 r1 q1) he hpl
end
section
variable {κ:Type}[DecidableEq κ]
noncomputable def eF (kvs:List (κ×V))(k:κ):Option V:=(kvs.find? fun kv=>decide (kv.1=k)).map (·.2)
noncomputable def putK (kvs:List (κ×V))(k:κ)(v:V):List (κ×V):=
 if (kvs.any fun kv=>decide (kv.1=k))=true then kvs.map (fun kv=>if kv.1=k then(kv.1,v) else kv) else kvs++[(k,v)]
theorem wK {p:κ×V}{r:List (κ×V)}{k:κ}(e:p.1=k):eF (p::r) k=some p.2:=by simp[eF,gT,e]
theorem tH {p:κ×V}{r:List (κ×V)}{k:κ}(e : ¬ p.1=k):eF (p::r) k=eF r k:=by simp[eF,gT,e]
theorem zL (k:κ) : ∀ kvs:List (κ×V),(kvs.any fun kv=>decide (kv.1=k))=(eF kvs k).isSome
 | []=>rfl
 | p::r=>by
  rw[BV]
  by_cases e:p.1=k
  ·simp only[wK e,decide_eq_true e,rO,Option.isSome_some]
  ·rw[tH e,decide_eq_false e,Bool.false_or]; exact zL k r
theorem HB (kvs:List (κ×V))(k:κ)(v:V):(putK kvs k v).length≤kvs.length+1:=by
 unfold putK
 split
 ·rw[cJ]; omega
 ·rw[pU,fG,List.length_nil]; omega
theorem NO {kvs:List (κ×V)}{k:κ}(v:V)(h:eF kvs k=none):putK kvs k v=kvs++[(k,v)]:=by
 unfold putK
 rw[zL,h]
 exact if_neg (by decide)
theorem Arj.isSome_eq {o:Option V}{u:Option aE}(r:Arj o u):o.isSome=u.isSome:=by
 cases o with
 | none=>cases u with
  | none=>rfl
  | some _=>exact(show False from r).elim
 | some _=>cases u with
  | none=>exact(show False from r).elim
  | some _=>rfl
theorem KV.val {kvs:List (κ×V)}{vs:List (κ×aE)}(r:KV kvs vs)(k:κ):Arj (eF kvs k) (uD vs k):=by
 unfold KV at r
 induction r with
 | nil=>exact fW
 | @cons p q ps qs h t ih=>
  obtain⟨h1,h2⟩:=h
  by_cases e:p.1=k
  ·have e':q.1=k:=h1.symm.trans e
   have b:uD (q::qs) k=some q.2:=by simp[uD,gT,e']
   rw[wK e,b]; exact h2
  ·have e' : ¬ q.1=k:=fun z=>e (h1.trans z)
   have b:uD (q::qs) k=uD qs k:=by simp[uD,gT,e']
   rw[tH e,b]; exact ih
theorem KV.any {kvs:List (κ×V)}{vs:List (κ×aE)}(r:KV kvs vs)(k:κ):(kvs.any fun kv=>decide (kv.1=k))=vs.any fun kv=>decide (kv.1=k):=by
 unfold KV at r
 induction r with
 | nil=>rfl
 | cons h t ih=>rw[BV,BV,ih,h.1]
theorem KV.repl {kvs:List (κ×V)}{vs:List (κ×aE)}(r:KV kvs vs)(k:κ){y:V}{u:aE}(ry:RelV y u) :
  KV (kvs.map fun kv=>if kv.1=k then(kv.1,y) else kv) (vs.map fun kv=>if kv.1=k then(kv.1,u) else kv):=by
 unfold KV at r ⊢
 induction r with
 | nil=>exact .nil
 | @cons p q ps qs h t ih=>
  rw[cR,cR]
  refine .cons ?_ ih
  obtain⟨h1,h2⟩:=h
  by_cases e:p.1=k
  ·rw[if_pos e,if_pos (h1.symm.trans e)]; exact⟨h1,ry⟩
  ·rw[if_neg e,if_neg (fun z=>e (h1.trans z))]; exact⟨h1,h2⟩
theorem KV.put {kvs:List (κ×V)}{vs:List (κ×aE)}(r:KV kvs vs)(k:κ){y:V}{u:aE}(ry:RelV y u):KV (putK kvs k y) (rD vs k u):=by
 unfold putK rD
 rw[r.any k]
 by_cases e:(vs.any fun kv=>decide (kv.1=k))=true
 ·rw[if_pos e,if_pos e]; exact r.repl k ry
 ·rw[if_neg e,if_neg e]; exact Paired.snoc r ⟨rfl,ry⟩
theorem KV.length {kvs:List (κ×V)}{vs:List (κ×aE)}(r:KV kvs vs):kvs.length=vs.length:=rJ r
end
theorem sL {P:bE}{w:bA}{k:aN}{u:aE}(r:RelV (kV k) u):(eJ P w).is k u=true:=by
 cases k with
 | inl i=>obtain⟨t,e⟩:=(show ∃ t,u=BG i t from r); subst e; exact GV P w i t
 | inr x=>obtain⟨t,e⟩:=(show ∃ t,u=BE x t from r); subst e; exact GZ P w x t
abbrev KT (H:Hp):List (List aA×V)->List (List aA×aD×aE)->Prop:=eO fun p q=>p.1=q.1/\Alw H p.1 q.2.1/\RelV p.2 q.2.2
theorem KT.val {H:Hp}{kvs:List (List aA×V)}{xs:List (List aA×aD×aE)}(r:KT H kvs xs)(k:List aA):Arj (eF kvs k) ((atKey xs k).map (·.2)):=by
 induction r with
 | nil=>exact fW
 | @cons p q ps qs h t ih=>
  obtain⟨h1,_,h2⟩:=h
  by_cases e:p.1=k
  ·have e':q.1=k:=h1.symm.trans e
   have b:atKey (q::qs) k=some q.2:=by simp[atKey,gT,e']
   rw[wK e,b]; exact h2
  ·have e' : ¬ q.1=k:=fun z=>e (h1.trans z)
   have b:atKey (q::qs) k=atKey qs k:=by simp[atKey,gT,e']
   rw[tH e,b]; exact ih
theorem KT.repl {H:Hp}{kvs:List (List aA×V)}{xs:List (List aA×aD×aE)}(r:KT H kvs xs)(k:List aA){y:V}{u:aE}(ry:RelV y u) :
  KT H (kvs.map fun kv=>if kv.1=k then(kv.1,y) else kv) (xs.map (putAt k u)):=by
 induction r with
 | nil=>exact .nil
 | @cons p q ps qs h t ih=>
  rw[cR,cR]
  refine .cons ?_ ih
  obtain⟨h1,h2,h3⟩:=h
  unfold putAt
  by_cases e:p.1=k
  ·rw[if_pos e,if_pos (h1.symm.trans e)]; exact⟨h1,h2,ry⟩
  ·rw[if_neg e,if_neg (fun z=>e (h1.trans z))]; exact⟨h1,h2,h3⟩
theorem KT.put {H:Hp}{kvs:List (List aA×V)}{xs:List (List aA×aD×aE)}(r:KT H kvs xs)(k:List aA){b:aD}{y:V}{u:aE}(hb:Alw H k b)(ry:RelV y u) :
  KT H (putK kvs k y) (storedH xs k b u):=by
 have e:(kvs.any fun kv=>decide (kv.1=k))=(atKey xs k).isSome:=by
  rw[zL,(r.val k).isSome_eq,VR]
 unfold putK storedH
 rw[e]
 by_cases q:(atKey xs k).isSome=true
 ·rw[if_pos q,if_pos q]; exact r.repl k ry
 ·rw[if_neg q,if_neg q]; exact Paired.snoc r ⟨rfl,hb,ry⟩
theorem KT.keeps {H H':Hp}{kvs:List (List aA×V)}{xs:List (List aA×aD×aE)}(r:KT H kvs xs)(ht : ∀ b ys,H b=some (.tup ys)->H' b=some (.tup ys)):KT H' kvs xs:=
 Paired.mapP r fun _ _ z=>⟨z.1,z.2.1.keep ht,z.2.2⟩
section
variable {P:bE}{w:bA}{H:Hp}{h:aU}{a:aD}
theorem KM {u:HO}(ok:HOk P w H h)(e:Rd H a u):Acy P w H h a u:=e.ok ok
theorem qB {ep:Nat}{kvs:List (aN×V)}(ok:HOk P w H h)(e:Rd H a (.dK ep kvs)):kvs.length≤sizeLine/\(a == iB)=false /\ ∃ vs,KV kvs vs/\h.DictAt (eJ P w) a vs ep:=
 show Acy P w H h a (.dK ep kvs) from KM ok e
theorem sA {ep:Nat}{kvs:List (aN×V)}(ok:HOk P w H h)(e:Rd H a (.dK ep kvs)):kvs.length≤sizeLine/\(a == iB)=false /\ ∃ vs,KV kvs vs/\h.DictOf (eJ P w) a vs:=
 let ⟨z,y,vs,r,d⟩:=qB ok e; ⟨z,y,vs,r,d.dictOf⟩
theorem vH {ep:Nat}{kvs:List (aN×V)}(ok:HOk P w H h)(e:H a=some (.dK ep kvs)):kvs.length≤sizeLine/\(a == iB)=false /\ ∃ vs,KV kvs vs/\h.DictOf (eJ P w) a vs:=sA ok (.inl e)
theorem AH {P:bE}{w:bA}{A:bY}(hu:A.units+40<cLine):(nM P w).room A.in1:=by
 show A.in1.units+20<cLine
 have:A.in1.units=A.units+1:=rfl
 omega
mutual
theorem PK (ok:HOk P w H h) : ∀ (d:aA) {v:V} {u:aE},Ahk H d v->RelV v u -> ∃ as,oF h u d as
 | .int i,v,u,k,r=>by
  have e:v = .int i:=by simpa [Ahk] using k
  subst e
  obtain⟨t,rfl⟩:=r
  exact⟨_,.int i t⟩
 | .str x,v,u,k,r=>by
  have e:v = .str x:=by simpa [Ahk] using k
  subst e
  obtain⟨t,rfl⟩:=r
  exact⟨_,.str x t⟩
 | .tuple ds,v,u,k,r=>by
  simp only[Ahk] at k
  obtain⟨a,xs,rfl,e,ks⟩:=k
  cases r
  obtain⟨_,its,rv,⟨o,h1,h2,n,h3⟩,_⟩:=(show Acy P w H h a (.tup xs) from ok a _ e)
  obtain⟨as,ra⟩:=PU ok ds ks rv
  exact⟨as,.tuple h1 h2 h3 (by simpa using ra)⟩
 | .none,v,u,k,r=>by simp[Ahk] at k
 | .bool _,v,u,k,r=>by simp[Ahk] at k
 | .list _,v,u,k,r=>by simp[Ahk] at k
 | .dict _,v,u,k,r=>by simp[Ahk] at k
theorem PU (ok:HOk P w H h) : ∀ (ds:List aA) {vs:List V} {us:List aE},Aer H ds vs->Vals vs us -> ∃ as,oE h us ds as
 | [],vs,us,k,r=>by
  have e:vs=[]:=by simpa [Aer] using k
  subst e
  cases r
  exact⟨_,.nil⟩
 | d::ds,vs,us,k,r=>by
  simp only[Aer] at k
  obtain⟨x,rr,rfl,k1,k2⟩:=k
  cases r with
  | cons r1 r2=>
   obtain⟨as,ra⟩:=PK ok d k1 r1
   obtain⟨bs,rb⟩:=PU ok ds k2 r2
   exact⟨_,.cons ra rb⟩
end
theorem sV {ks:List aA}(ok:HOk P w H h)(e:Alw H ks a):(nM P w).is h ks a:=by
 obtain⟨k1,k2,xs,e,ks'⟩:=e
 refine⟨k1,k2,?_⟩
 exact PK ok (.tuple ks) (v:=.ref a) (u:=.ref a) (by simp only[Ahk]; exact⟨a,xs,rfl,e,ks'⟩) rfl
theorem vK {kvs:List (List aA×V)}(ok:HOk P w H h)(e : ∃ ep,Rd H a (.dT ep kvs)):kvs.length≤sizeLine/\(a == iB)=false /\
  ∃ xs,KT H kvs xs/\h.DictOfH (nM P w) a xs:=by
 obtain⟨ep,e⟩:=e
 obtain⟨z,y,xs,r,o,es,h1,h2,h3,h4,h5⟩:=(show Acy P w H h a (.dT ep kvs) from KM ok e)
 refine⟨z,y,xs,r,o,es,ep,h1,h2,h3,h4,fun x hx=>?_,h5⟩
 have all : ∀ {l:List (List aA×V)} {m:List (List aA×aD×aE)},KT H l m -> ∀ x∈m,(nM P w).is h x.1 x.2.1:=by
  intro l m q
  induction q with
  | nil=>intro x hx; exact nomatch hx
  | @cons p q ps qs hq t ih=>
   intro x hx
   rcases cQ.mp hx with e | hx
   ·subst e
    exact sV ok (by rw[← hq.1]; exact hq.2.1)
   ·exact ih x hx
 exact all r x hx
theorem LG {ep:Nat}{kvs:List (List aA×V)}(ok:HOk P w H h)(e:H a=some (.dT ep kvs)):kvs.length≤sizeLine/\(a == iB)=false /\
  ∃ xs,KT H kvs xs/\h.DictOfH (nM P w) a xs:=vK ok ⟨ep,.inl e⟩
end
def Axc (H:Hp)(a:aD)(y:V)(r:Option V):Prop:=
 (∃ ep kvs k,Rd H a (.dK ep kvs)/\y=kV k/\r=eF kvs k) \/ ∃ kvs k b,(∃ ep,Rd H a (.dT ep kvs))/\y = .ref b/\Alw H k b/\r=eF kvs k
def A4k (H:Hp)(a:aD)(y v:V)(H':Nat->Hp):Prop:=
 (∃ ep kvs k,H a=some (.dK ep kvs)/\y=kV k/\kvs.length<sizeLine/\H'=fun n=>upd H a (.dK n (putK kvs k v))) \/
 ∃ kvs k b,(∃ ep,H a=some (.dT ep kvs))/\y = .ref b/\Alw H k b/\kvs.length<sizeLine/\H'=fun n=>upd H a (.dT n (putK kvs k v))
theorem Axc.k {H:Hp}{a:aD}{ep:Nat}{kvs:List (aN×V)}{k:aN}(e:H a=some (.dK ep kvs)):Axc H a (kV k) (eF kvs k):=.inl ⟨ep,kvs,k,.inl e,rfl,rfl⟩
theorem Axc.t {H:Hp}{a b:aD}{ep:Nat}{kvs:List (List aA×V)}{k:List aA}(e:H a=some (.dT ep kvs))(eb:Alw H k b):Axc H a (.ref b) (eF kvs k):=.inr ⟨kvs,k,b,⟨ep,.inl e⟩,rfl,eb,rfl⟩
theorem A4k.k {H:Hp}{a:aD}{ep:Nat}{kvs:List (aN×V)}{k:aN}{v:V}(e:H a=some (.dK ep kvs))(hl:kvs.length<sizeLine):A4k H a (kV k) v (fun n=>upd H a (.dK n (putK kvs k v))):=.inl ⟨ep,kvs,k,e,rfl,hl,rfl⟩
theorem A4k.t {H:Hp}{a b:aD}{ep:Nat}{kvs:List (List aA×V)}{k:List aA}{v:V}(e:H a=some (.dT ep kvs))(eb:Alw H k b)(hl:kvs.length<sizeLine) :
  A4k H a (.ref b) v (fun n=>upd H a (.dT n (putK kvs k v))):=.inr ⟨kvs,k,b,⟨ep,e⟩,rfl,eb,hl,rfl⟩
section
variable {X:Cx}{pins:List (aD×aX)}{σ:St}{H:Hp}{s:aH}{a:aD}{y v:V}{u r:aE}{o:Option V}{A:bY}{E:aE->aH->Prop}
theorem Inv.big (I:Inv X pins σ H s):iB<s.heap.objs.size:=by
 have h:bZ<s.heap.objs.size:=(I.mod.glob.keeps I.bk).lt
 exact xU (by decide) h
theorem Ei {Q:aE->aH->Prop}(hu:A.units+40<cLine)(I:Inv X pins σ H s)(g:Axc H a y (some v))(ry:RelV y u)(h : ∀ w' s',Inv X pins σ H s'->RelV v w'->Q w' s') :
  aP (aQ X.prog X.w) A (oA (.ref a) u) Q E s:=by
 rcases g with⟨ep,kvs,k,e,ey,l⟩ | ⟨kvs,k,b,e,ey,eb,l⟩
 ·subst ey
  obtain⟨z,hd,vs,rel,dd⟩:=sA I.hok e
  obtain⟨w',hw,rw'⟩:=Arj.some_of (v:=v) (o:=uD vs k) (by rw[l]; exact rel.val k)
  exact wpAny_getItem_of (sL ry) dd.mapOf hw (h w' _ (I.tok _) rw')
 ·subst ey
  cases(show u=dS b from ry)
  obtain⟨z,hd,xs,rel,dd⟩:=vK I.hok e
  obtain⟨w',hw,rw'⟩:=Arj.some_of (v:=v) (o:=(atKey xs k).map (·.2)) (by rw[l]; exact rel.val k)
  obtain⟨p,hp,hp2⟩:=oH.mp hw
  refine wpAny_getItem_heap (AH hu) (sV I.hok eb) dd hp ?_
  rw[hp2]
  exact h w' _ (I.tok _) rw'
theorem WZ {Q:aE->aH->Prop}(hu:A.units+40<cLine)(I:Inv X pins σ H s)(g:Axc H a y o)(ry:RelV y u)(h : ∀ s',Inv X pins σ H s'->Q (.bool o.isSome) s') :
  aP (aQ X.prog X.w) A (eT .In u (.ref a)) Q E s:=by
 rcases g with⟨ep,kvs,k,e,ey,l⟩ | ⟨kvs,k,b,e,ey,eb,l⟩
 ·subst ey
  obtain⟨z,hd,vs,rel,dd⟩:=sA I.hok e
  refine wpAny_in_of (sL ry) hd dd.mapOf ?_
  rw[← (rel.val k).isSome_eq,← l]
  exact h _ (I.tok _)
 ·subst ey
  cases(show u=dS b from ry)
  obtain⟨z,hd,xs,rel,dd⟩:=vK I.hok e
  refine wpAny_in_heap (AH hu) (sV I.hok eb) hd dd ?_
  have q:=(rel.val k).isSome_eq
  rw[VR] at q
  rw[← q,← l]
  exact h _ (I.tok _)
theorem Mm {Q:aE->aH->Prop}(hu:A.units+40<cLine)(I:Inv X pins σ H s)(g:Axc H a y o)(ry:RelV y u)(h : ∀ s',Inv X pins σ H s'->Q (.bool (!o.isSome)) s') :
  aP (aQ X.prog X.w) A (eT .NotIn u (.ref a)) Q E s:=by
 rcases g with⟨ep,kvs,k,e,ey,l⟩ | ⟨kvs,k,b,e,ey,eb,l⟩
 ·subst ey
  obtain⟨z,hd,vs,rel,dd⟩:=sA I.hok e
  refine wpAny_notIn_of (sL ry) hd dd.mapOf ?_
  rw[← (rel.val k).isSome_eq,← l]
  exact h _ (I.tok _)
 ·subst ey
  cases(show u=dS b from ry)
  obtain⟨z,hd,xs,rel,dd⟩:=vK I.hok e
  refine wpAny_notIn_heap (AH hu) (sV I.hok eb) hd dd ?_
  have q:=(rel.val k).isSome_eq
  rw[VR] at q
  rw[← q,← l]
  exact h _ (I.tok _)
theorem MT {h':aU}{t':Nat}{ob:HO}(I:Inv X pins σ H s)(mu:uU (H a))(hs:yD a s.heap h')(he : ∃ q,h'.get? a=some q)(new:Acy X.prog X.w (upd H a ob) h' a ob) :
  Inv X pins σ (upd H a ob) { s with heap:=h',toks:=t' }:=
 I.write (x:=a) (e:=a) mu (.inl rfl) (fun b q hb z=>(hs.2 b hb).trans z) he new
theorem UK {P:bE}{w:bA}{H':Hp}{h':aU}{kvs:List (aN×V)}{vs:List (aN×aE)}(z:kvs.length≤sizeLine)(hd:(a == iB)=false)(rel:KV kvs vs){ep:Nat}(dd:h'.DictAt (eJ P w) a vs ep) :
  Acy P w H' h' a (.dK ep kvs):=⟨z,hd,vs,rel,dd⟩
theorem Fe {H':Nat->Hp}{Q:Unit->aH->Prop}(hu:A.units+40<cLine)(I:Inv X pins σ H s)(g:A4k H a y v H')(ry:RelV y u)(rv:RelV v r)(h : ∀ n s',Inv X pins σ (H' n) s'->Q () s') :
  aP (aQ X.prog X.w) A (setItem (.ref a) u r) Q E s:=by
 rcases g with⟨ep,kvs,k,e,ey,l,eH⟩ | ⟨kvs,k,b,e,ey,eb,l,eH⟩
 ·subst ey eH
  obtain⟨z,hd,vs,rel,dd⟩:=vH I.hok e
  have hz:vs.length≤sizeLine:=by rw[← rel.length]; exact z
  have hl:(putK kvs k v).length≤sizeLine:=by have:=HB kvs k v; omega
  refine wpAny_setItem_pairs (hsz:=hz) (sL ry) dd fun h' dd' hs=>?_
  have he : ∃ q,h'.get? a=some q:=let ⟨q,_,_,hq,_⟩:=dd'; ⟨q,hq⟩
  obtain⟨n,da⟩:=dd'.dictAt
  exact h n _ (MT I (by rw[e]; exact fW) hs he (UK hl hd (rel.put k rv) da))
 ·subst ey eH
  cases(show u=dS b from ry)
  obtain⟨ep0,e⟩:=e
  obtain⟨z,hd,xs,rel,dd⟩:=LG I.hok e
  have hz:xs.length≤sizeLine:=by rw[← rJ rel]; exact z
  have hl:(putK kvs k v).length≤sizeLine:=by have:=HB kvs k v; omega
  refine wpAny_setItem_heap (hsz:=hz) (AH hu) (sV I.hok eb) dd fun h' dd' hs=>?_
  obtain⟨q,es,ep,hq,h2,h3,h4,_,h5⟩:=dd'
  refine h ep _ ?_
  refine MT I (by rw[e]; exact fW) hs ⟨q,hq⟩ ⟨hl,hd,_,(rel.put k eb rv).keeps fun c ys ec=>?_,q,es,hq,h2,h3,h4,h5⟩
  rw[bP (YT ec e (fun z=>nomatch z))]
  exact ec
end
section
variable {X:Cx}{pins:List (aD×aX)}{σ:St}{H:Hp}{s:aH}{a:aD}{kvs:List (aN×V)}{k:aN}{u:aE}{A:bY}{E:aE->aH->Prop}
theorem YS {ep:Nat}{Q:aE->aH->Prop}(I:Inv X pins σ H s)(e:Rd H a (.dK ep kvs))(h : ∀ t s',Inv X pins σ H s'->Q (.int kvs.length t) s'):aP (aQ X.prog X.w) A (call (.builtin "len") [.ref a]) Q E s:=by
 obtain⟨z,hd,vs,rel,dd⟩:=sA I.hok e
 refine call_len_dict hd dd (by rw[← rel.length]; rw[uG] at z; omega) ?_
 rw[← rel.length]
 exact h _ _ (I.tok _)
end
def JZ (i:aS):Prop:=∀ ov iv,II i false ov iv=operate [ov,iv] (oA ov iv)
theorem Kn {prog:bE}{w:bA}{A:bY}{E:aE->aH->Prop}{s:aH}{env:dZ}{value slice:aS}{pos:bG}{T id:String}{Q:aE->aH->Prop}
  (hl:uE (.type T) "__getitem__" = pure (some (.builtin id))) (hs:JZ slice)
  (h:aP (aQ prog w) A (bJ value env) (fun o s₁=>aP (aQ prog w) A (bJ slice env) (fun i s₂=>s₂.TypeIs o T/\aP (aQ prog w) A (oA o i) Q E s₂) E s₁) E s) :
  aP (aQ prog w) A (bJ (.Subscript value slice pos) env) Q E s:=by
 refine Subscript_ (iW h (fun o s₁ h₁=>iW h₁ (fun i s₂ h₂=>?_) fun _ _ x=>x) fun _ _ x=>x)
 obtain⟨hT,h₂⟩:=h₂
 unfold subscriptTail
 refine aM ?_
 rw[getitemInPython_of_ne hT.not_modules]
 refine aM (BA hT hl ?_)
 have fin:aP (aQ prog w) A (II slice false o i) (fun r s₃=>aP (aQ prog w) A (letTemporaryGo value o r >>= fun _=>pure r) Q E s₃) E s₂:=by
  rw[hs o i]
  exact wpAny_operating (iW h₂ (fun r s₃ h₃=>aM (wpAny_letTemporaryGo (aY h₃))) fun _ _ x=>x)
 first
  | exact aY (aM fin)
  | exact aM (aY (aM fin))
  | exact aM fin
theorem Gx {X:Cx}{pins:List (aD×aX)}{σ:St}{H:Hp}{s:aH}{a:aD}{y:V}{o:Option V}(I:Inv X pins σ H s)(g:Axc H a y o):s.TypeIs (.ref a) "dict":=by
 rcases g with⟨ep,kvs,k,e,_,_⟩ | ⟨kvs,k,b,e,_,_,_⟩
 ·obtain⟨_,_,vs,_,dd⟩:=sA I.hok e
  exact dd.typeIs
 ·obtain⟨_,_,xs,_,dd⟩:=vK I.hok e
  exact dd.typeIs
noncomputable def ZL (td ty:TE):TE:=fun σ H Q=>td σ H fun x H1=>ty σ H1 fun y H2=>∃ a v,x = .ref a/\Axc H2 a y (some v)/\Q v H2
noncomputable def YQ (td ty tv:TE):TS:=fun D σ H=>tv σ H fun v H1=>td σ H1 fun x H2=>ty σ H2 fun y H3=>∃ a H4,x = .ref a/\A4k H3 a y v H4 /\ ∀ n,D.nx σ (H4 n)
section
variable {X:Cx}{o i e value:aS}{pos pos' tpos:bG}{td ty tv:TE}
theorem LY (hu:X.A.units+40<cLine)(ho:PE X o td)(hi:PE X i ty)(hs:JZ i):PE X (.Subscript o i pos) (ZL td ty):=by
 intro pins s σ H Q I h
 refine Kn PySem.F.slot_dict_getitem.lookup hs (thn (ho pins s σ H _ I h) fun u s1 ⟨x,H1,I1,rx,q1⟩=>thn (hi pins s1 σ H1 _ I1 q1) fun iv s2 gh=>?_)
 obtain⟨y,H2,I2,ry,a,v,ex,g,q2⟩:=gh
 subst ex
 obtain rfl:u=dS a:=rx
 exact⟨Gx I2 g,Ei hu I2 g ry fun w' s3 I3 rw'=>⟨v,H2,I3,rw',q2⟩⟩
theorem EN (hu:X.A.units+40<cLine)(ho:PE X o td)(hi:PE X i ty)(hv:PE X value tv)(hs:lT value (some (.Subscript o i pos')) pos.line X.env=pure false) :
  PS X (.Assign [.Subscript o i pos'] value pos) (YQ td ty tv):=by
 intro pins s σ H D I h
 refine wpAny_Assign_Subscript (thn (hv pins s σ H _ I h) fun r s1 ⟨v,H1,I1,rv,q1⟩=>thn (ho pins s1 σ H1 _ I1 q1) fun u s2 ⟨x,H2,I2,rx,q2⟩=>thn (hi pins s2 σ H2 _ I2 q2) fun iv s3 ⟨y,H3,I3,ry,a,H4,ex,g,q3⟩=>?_) hs
 subst ex
 obtain rfl:u=dS a:=rx
 exact Fe hu I3 g ry rv fun n s4 I4=>⟨σ,H4 n,I4,q3 n⟩
end
theorem Od {P:bE}{w:bA}{H:Hp}(h:aU)(hb:iB<h.objs.size):Acy P w H (h.push { cls:=.type "dict",data:=.dict #[] }) h.objs.size (.dK 0 []):=
 ⟨fP _,beq_eq_false_iff_ne.mpr (jO (dF hb)),[],.nil,_,#[],eZ _ rfl,⟨rfl,rfl,rfl⟩,rfl,fun _ he=>by simp at he,Pairs.nil,VX⟩
theorem Pz {P:bE}{w:bA}{H:Hp}(h:aU)(hb:iB<h.objs.size):Acy P w H (h.push { cls:=.type "dict",data:=.dict #[] }) h.objs.size (.dT 0 []):=
 ⟨fP _,beq_eq_false_iff_ne.mpr (jO (dF hb)),[],.nil,_,#[],eZ _ rfl,⟨rfl,rfl,rfl⟩,rfl,rfl,VX⟩
noncomputable def Bk:TE:=fun _ H Q=>∀ p,H p=none->Q (.ref p) (upd H p (.dK 0 []))
noncomputable def Aa:TE:=fun _ H Q=>∀ p,H p=none->Q (.ref p) (upd H p (.dT 0 []))
section
variable {X:Cx}{pos:bG}
theorem FH:PE X (.Dict [] [] pos) Bk:=fun pins s σ H Q I h=>
 wpAny_Dict_empty ⟨.ref s.heap.objs.size,_,I.laid (a:=s.heap.objs.size) (o:=.dK 0 []) (t':=s.toks) (fun _ _ q=>cX _ q) (bU _) (Od s.heap I.big),rfl,h _ (I.hok.fresh (bU _))⟩
theorem Pb:PE X (.Dict [] [] pos) Aa:=fun pins s σ H Q I h=>
 wpAny_Dict_empty ⟨.ref s.heap.objs.size,_,I.laid (a:=s.heap.objs.size) (o:=.dT 0 []) (t':=s.toks) (fun _ _ q=>cX _ q) (bU _) (Pz s.heap I.big),rfl,h _ (I.hok.fresh (bU _))⟩
end
noncomputable def oT (kvs more:List (aN×V)):List (aN×V):=more.foldl (fun acc kv=>putK acc kv.1 kv.2) kvs
theorem KV.merge : ∀ {more:List (aN×V)} {rs:List (aN×aE)} {kvs:List (aN×V)} {vs:List (aN×aE)},KV more rs->KV kvs vs->KV (oT kvs more) (mV vs rs):=by
 intro more rs kvs vs r
 unfold KV at r
 induction r generalizing kvs vs with
 | nil=>intro q; exact q
 | @cons p q ps qs h t ih=>
  intro r0
  have e:KV (putK kvs p.1 p.2) (rD vs q.1 q.2):=by
   have:=r0.put p.1 h.2
   rw[← h.1]; exact this
  exact ih e
theorem SX : ∀ (more kvs:List (aN×V)),(oT kvs more).length≤kvs.length+more.length
 | [],kvs=>by show kvs.length≤kvs.length+0; omega
 | p::r,kvs=>by
  have h1:=SX r (putK kvs p.1 p.2)
  have h2:=HB kvs p.1 p.2
  show(oT (putK kvs p.1 p.2) r).length≤_
  rw[fG]; omega
end L2
namespace HT
open PySem PyProof.Rows
section
variable {prog:bE}{w:bA}{A:bY}{E:aE->aH->Prop}{s:aH}
theorem A7i {t b:aD}{vs ws:List aE}{Q:aE->aH->Prop}(ht:IsTup s.heap t vs.toArray)(hb:IsTup s.heap b ws.toArray)(hv:vs≠[])
  (h1:ws=[]->Q (.ref t) s) (h2:ws≠[]->Q (.ref s.heap.objs.size) { s with heap:=s.heap.push { cls:=.type "tuple",data:=.seq (vs++ws).toArray } })
  (hsz:vs.length+ws.length≤sizeLine):aP (aQ prog w) A (kI .Add (.ref t) (.ref b)) Q E s:=by
 obtain⟨⟨cls,dd,data,sl⟩,ho,hc,n,hd⟩:=id ht
 obtain⟨⟨cls2,dd2,data2,sl2⟩,ho2,hc2,n2,hd2⟩:=id hb
 simp only at hc hd hc2 hd2
 subst hc hd hc2 hd2
 have e:vs.toArray++ws.toArray=(vs++ws).toArray:=by simp
 by_cases hw:ws=[]
 ·exact IL ⟨_,ho,rfl⟩ ⟨_,ho2,rfl⟩ UW seq_tuple_add VJ VL (VM _ _)
   (tuple_addW1 t b vs.toArray ws.toArray n n2 dd dd2 sl sl2 (by simpa using hv) (by simp[hw])) ⟨ho,ho2,h1 hw⟩
 ·refine IL ⟨_,ho,rfl⟩ ⟨_,ho2,rfl⟩ UW seq_tuple_add VJ VL (VM _ _)
   (tuple_addW2 t b vs.toArray ws.toArray n n2 dd dd2 sl sl2 (by simpa using hv) (by simpa using hw) (by rw[dY,dY]; exact hsz)) ⟨ho,ho2,?_⟩
  rw[e]
  exact h2 hw
noncomputable def sIx (n d:Nat):Option Int->Nat
 | none=>d
 | some v=>if v<0 then(v+(n:Int)).toNat else min v.toNat n
theorem An6 (n d:Nat):sIx n d none=d:=rfl
theorem Asa (n d k:Nat):sIx n d (some (k:Int))=min k n:=by
 show(if (k:Int)<0 then((k:Int)+(n:Int)).toNat else min (k:Int).toNat n)=min k n
 rw[if_neg (by omega),WH]
theorem YZ (n d:Nat)(hd:d≤n)(o:Option Int):sIx n d o≤n:=by
 cases o with
 | none=>exact hd
 | some v=>
  show(if v<0 then(v+(n:Int)).toNat else min v.toNat n)≤n
  by_cases hv:v<0
  ·rw[if_pos hv]; omega
  ·rw[if_neg hv]; exact Nat.min_le_right _ _
theorem NH (v:Int)(n d:Nat):(if v<0 then max (v+(n:Int)) 0 else min v (n:Int))=((sIx n d (some v):Nat):Int):=by
 show(if v<0 then max (v+(n:Int)) 0 else min v (n:Int))=(((if v<0 then(v+(n:Int)).toNat else min v.toNat n):Nat):Int)
 by_cases hv:v<0
 ·simp only[if_pos hv]; omega
 ·simp only[if_neg hv]; omega
theorem Fn (lo hi:Option Int)(n:Nat):WN lo hi 1 (n:Int)=(((sIx n 0 lo:Nat):Int),((sIx n n hi:Nat):Int)):=by
 have h1 : ¬ ((1:Int)<0):=by omega
 unfold WN
 simp only[h1,if_false]
 refine Prod.ext ?_ ?_
 ·cases lo with
  | none=>rfl
  | some v=>exact NH v n 0
 ·cases hi with
  | none=>rfl
  | some v=>exact NH v n n
theorem Gc (i j:Nat):JK (i:Int) (j:Int) 1=j - i:=by
 unfold JK
 have h1:(1:Int) > 0:=by omega
 simp only[h1,if_true,Int.ediv_one]
 split <;> omega
theorem RT {v:aE}{o:Option Int}{Q:Option Int->aH->Prop}(p:mZ v o)(h:Q o s):aP (aQ prog w) A (Builtin.Slice.slicePartIndex v) Q E s:=by
 cases p with
 | none=>exact slicePart_none h
 | int i t=>exact slicePart_int h
theorem Af9 {sl:aD}{vl vu:aE}{lo hi:Option Int}{n:Nat}{Q:Int×Int×Nat->aH->Prop}(hs:s.heap.IsSliceOf sl vl vu .none)(pl:mZ vl lo)(pu:mZ vu hi)
  (h:Q (((sIx n 0 lo:Nat):Int),1,sIx n n hi - sIx n 0 lo) s):aP (aQ prog w) A (Builtin.Slice.sliceApplied (.ref sl) (pure (n:Int))) Q E s:=by
 obtain⟨os,hos,hcs,hds⟩:=id hs
 unfold Builtin.Slice.sliceApplied Builtin.Slice.sliceFields
 refine aM (aM (wpAny_field hos hds (x:=vl) rfl (aM (wpAny_field hos hds (x:=vu) rfl (aM (wpAny_field hos hds (x:=.none) rfl (aY ?_)))))))
 refine aM (slicePart_none ?_)
 show aP _ _ (if ((1:Int) == 0)=true then _ else _) _ _ s
 rw[if_neg (by decide)]
 refine aM (RT pl (aM (RT pu (aM (aY ?_)))))
 show aP _ _ (match WN lo hi 1 (n:Int) with | (lo,hi)=>pure (lo,(1:Int),JK lo hi 1)) _ _ s
 rw[Fn lo hi n]
 show aP _ _ (pure (((sIx n 0 lo:Nat):Int),(1:Int),JK ((sIx n 0 lo:Nat):Int) ((sIx n n hi:Nat):Int) 1)) _ _ s
 rw[Gc]
 exact aY h
theorem Pi (xs:Array aE)(i k:Nat):((dG k).filterMap fun(m:Nat)=>xs[((i:Int)+(m:Int)*1).toNat]?).toArray=((xs.toList.drop i).take k).toArray:=by
 have e:(fun(m:Nat)=>xs[((i:Int)+(m:Int)*1).toNat]?)=fun m=>xs[i+m]?:=by
  funext m
  have:((i:Int)+(m:Int)*1).toNat=i+m:=by omega
  rw[this]
 rw[e]
 have:=pick_run xs i k
 rw[List.filterMap_map] at this
 have e2:((fun x=>xs[x]?)∘fun x=>i+x)=fun m=>xs[i+m]?:=rfl
 rw[e2] at this
 rw[this]
theorem Ajc {t sl:aD}{items:Array aE}{vl vu:aE}{lo hi:Option Int}{Q:aE->aH->Prop}(ht:IsTup s.heap t items)(hs:s.heap.IsSliceOf sl vl vu .none)(pl:mZ vl lo)(pu:mZ vu hi)
  (hw : ¬ (sIx items.size 0 lo=0/\sIx items.size items.size hi=items.size))
  (h:Q (.ref s.heap.objs.size) { s with heap:=s.heap.push { cls:=.type "tuple",data:=.seq ((items.toList.drop (sIx items.size 0 lo)).take (sIx items.size items.size hi - sIx items.size 0 lo)).toArray } })
  (hsz:items.size≤sizeLine):aP (aQ prog w) A (oA (.ref t) (.ref sl)) Q E s:=by
 have htake:sizeOk (.seq ((items.toList.drop (sIx items.size 0 lo)).take (sIx items.size items.size hi - sIx items.size 0 lo)).toArray):=by
  show((items.toList.drop (sIx items.size 0 lo)).take (sIx items.size items.size hi - sIx items.size 0 lo)).toArray.size≤sizeLine
  rw[dY,oJ,VZ,oO]
  omega
 have hj:sIx items.size items.size hi≤items.size:=YZ _ _ (bU _) hi
 obtain⟨os,hos,hcs,hds⟩:=id hs
 have hTs:s.TypeIs (.ref sl) "slice":=⟨os,hos,hcs⟩
 unfold oA
 try with_reducible refine iX ?_
 first | refine aM (aY ?_) | skip
 refine aM (wpAny_sequenceKey ht.typeIs (by decide) ?_)
 refine aM (BB (name:=BH "__getitem__") ht.typeIs VO
  (rC VO ht.typeIs entry_tuple_getitem ?_ (args_tuple_getitem _ _)))
 show aP _ _ (WM (.ref t) >>= _) _ _ s
 refine aM (tupleItemsOf_ ht ?_)
 refine aM (uB hTs ?_)
 rw[if_pos (by decide)]
 refine aM (Af9 hs pl pu ?_)
 have hno : ¬ ((((sIx items.size 0 lo:Nat):Int) == 0&&(1:Int) == 1&&(sIx items.size items.size hi - sIx items.size 0 lo) == items.size)=true):=by
  intro q
  rw[rQ,rQ] at q
  have q1:((sIx items.size 0 lo:Nat):Int)=0:=eq_of_beq q.1.1
  have q2:sIx items.size items.size hi - sIx items.size 0 lo=items.size:=eq_of_beq q.2
  exact hw ⟨by omega,by omega⟩
 show aP _ _ (if (((sIx items.size 0 lo:Nat):Int) == 0&&(1:Int) == 1&&(sIx items.size items.size hi - sIx items.size 0 lo) == items.size)=true then _ else _) _ _ s
 rw[if_neg hno,Pi]
 first
  | exact aM (m:=JJ _) (pN (aY ⟨_,rfl,aY h⟩) htake)
  | exact aM (m:=JJ _) (pN (aM (aY (aY ⟨_,rfl,aY h⟩))) htake)
  | exact aM (aM (m:=JJ _) (pN (aY (aY ⟨_,rfl,aY h⟩)) htake))
  | exact aM (aM (m:=JJ _) (pN (aY ⟨_,rfl,aY h⟩) htake))
end
end HT
namespace L2
open PySem PySem.Spec PyProof.Rows
abbrev TO:=St->Hp->(Option Int->Hp->Prop)->Prop
def PO (X:Cx)(e:Option aS)(t:TO):Prop:=
 ∀ (pins:List (aD×aX)) (s:aH) (σ:St) (H:Hp) (Q:Option Int->Hp->Prop),Inv X pins σ H s->t σ H Q ->
  aP (aQ X.prog X.w) X.A (evalPart e X.env) (fun u s'=>∃ o H',Inv X pins σ H' s'/\mZ u o/\Q o H') X.xe s
noncomputable def Le:TO:=fun _ H Q=>Q none H
noncomputable def YG (t:TE):TO:=fun σ H Q=>t σ H fun x H1=>∃ i,x = .int i/\Q (some i) H1
section
variable {X:Cx}{e:aS}{te:TE}{lo hi:Option aS}{tl th:TO}{pos p2:bG}
theorem Nm:PO X none Le:=by
 intro pins s σ H Q I h
 rw[evalPart_none]
 exact aY ⟨none,H,I,.none,h⟩
theorem Lh (h:PE X e te):PO X (some e) (YG te):=by
 intro pins s σ H Q I hw
 rw[evalPart_some]
 refine thn (h pins s σ H _ I hw) fun u s1 gh=>?_
 obtain⟨x,H1,I1,r1,q1⟩:=gh
 obtain⟨i,rfl,q⟩:=q1
 obtain⟨t,rfl⟩:=r1
 exact⟨some i,H1,I1,.int i t,q⟩
def SlR (X:Cx)(r:V->Option Int->Option Int->Hp->VK->Prop):Prop:=
 ∀ (pins:List (aD×aX)) (s:aH) (σ:St) (H:Hp) (x:V) (v vl vu:aE) (lo hi:Option Int) (sl:aD) (Q:VK),Inv X pins σ H s->RelV x v->s.heap.IsSliceOf sl vl vu .none->mZ vl lo->mZ vu hi->r x lo hi H Q ->
  ∃ T id,uE (.type T) "__getitem__" = pure (some (.builtin id))/\s.TypeIs v T/\aP (aQ X.prog X.w) X.A (oA v (.ref sl)) (EP X pins σ Q) X.xe s
theorem SlR.or {r r':V->Option Int->Option Int->Hp->VK->Prop}(h:SlR X r)(h':SlR X r'):SlR X (fun x lo hi H Q=>r x lo hi H Q \/ r' x lo hi H Q):=by
 intro pins s σ H x v vl vu lo hi sl Q I rx hs pl pu q
 rcases q with q | q
 ·exact h pins s σ H x v vl vu lo hi sl Q I rx hs pl pu q
 ·exact h' pins s σ H x v vl vu lo hi sl Q I rx hs pl pu q
noncomputable def tSl (r:V->Option Int->Option Int->Hp->VK->Prop)(te:TE)(tl th:TO):TE:=fun σ H Q=>te σ H fun x H1=>tl σ H1 fun l H2=>th σ H2 fun u H3=>r x l u H3 Q
theorem EU {r:V->Option Int->Option Int->Hp->VK->Prop}(hr:SlR X r)(he:PE X e te)(hl:PO X lo tl)(hu:PO X hi th):PE X (.Subscript e (.Slice lo hi none p2) pos) (tSl r te tl th):=by
 intro pins s σ H Q I h
 refine Subscript_ (thn (he pins s σ H _ I h) fun v s1 gh=>?_)
 obtain⟨x,H1,I1,r1,q1⟩:=gh
 refine wpAny_Slice (thn (hl pins s1 σ H1 _ I1 q1) fun vl s2 ⟨l,H2,I2,pl,q2⟩=>thn (hu pins s2 σ H2 _ I2 q2) fun vu s3 gh=>?_)
 obtain⟨u,H3,I3,pu,q3⟩:=gh
 rw[evalPart_none]
 refine aY ?_
 have I4:Inv X pins σ H3 { s3 with heap:=s3.heap.push { cls:=.type "slice",data:=.fields #[vl,vu,.none] } }:=I3.kept (t':=s3.toks) fun b ob q=>cX _ q
 obtain⟨T,id,hT,ht,hg⟩:=hr pins { s3 with heap:=s3.heap.push { cls:=.type "slice",data:=.fields #[vl,vu,.none] } } σ H3 x v vl vu l u s3.heap.objs.size Q I4 r1 (Heap.IsSliceOf.new ..) pl pu q3
 show aP (aQ X.prog X.w) X.A (subscriptTail e (.Slice lo hi none p2) v (.ref s3.heap.objs.size)) (EP X pins σ Q) X.xe { s3 with heap:=s3.heap.push { cls:=.type "slice",data:=.fields #[vl,vu,.none] } }
 exact tail_any (ops:=[.ref s3.heap.objs.size,v]) ht hT hg (by with_unfolding_all rfl)
noncomputable def nT (xs:List V)(lo hi:Option Int):List V:=(xs.drop (HT.sIx xs.length 0 lo)).take (HT.sIx xs.length xs.length hi - HT.sIx xs.length 0 lo)
theorem SL (xs:List V)(lo hi:Option Int):(nT xs lo hi).length≤xs.length:=by
 unfold nT
 rw[oJ,VZ]
 omega
def WX (K:aJ):V->Option Int->Option Int->Hp->VK->Prop:=fun x lo hi H Q=>∃ a xs,x = .ref a/\SqT K H a xs /\
 ¬ (HT.sIx xs.length 0 lo=0/\HT.sIx xs.length xs.length hi=xs.length) /\ ∀ p,H p=none->Q (.ref p) (upd H p (.tup (nT xs lo hi)))
theorem UQ:SlR X (WX X.K):=by
 intro pins s σ H x v vl vu lo hi sl Q I rx hs pl pu h
 obtain⟨a,xs,rfl,hx,hw,q⟩:=h
 cases rx
 obtain⟨its,r,ht,hz⟩:=I.tuple hx
 have hlen:its.toArray.size=xs.length:=by rw[dY]; exact r.length.symm
 refine⟨"tuple",_,VO.lookup,ht.typeIs,?_⟩
 refine HT.Ajc ht hs pl pu (by rw[hlen]; exact hw) ?_ (by rw[hlen]; exact hz)
 rw[hlen]
 refine⟨.ref s.heap.objs.size,_,I.laid (t':=s.toks) (o:=.tup (nT xs lo hi)) (fun b ob q=>cX _ q) (bU _) ?_,rfl,q _ (I.hok.fresh (bU _))⟩
 exact⟨jQ (SL xs lo hi) hz,_,(r.drop (HT.sIx xs.length 0 lo)).take (HT.sIx xs.length xs.length hi - HT.sIx xs.length 0 lo),Bam.new _ _⟩
noncomputable def HV (K:aJ):R2:=fun x y H Q=>∃ a b xs ys,x = .ref a/\y = .ref b/\SqT K H a xs/\SqT K H b ys/\xs≠[]/\xs.length+ys.length≤sizeLine /\
 (ys=[]->Q (.ref a) H)/\(ys≠[] -> ∀ p,H p=none->Q (.ref p) (upd H p (.tup (xs++ys))))
theorem Vals.nil_iff {xs:List V}{us:List aE}(r:Vals xs us):us=[]↔xs=[]:=by
 cases r with
 | nil=>simp
 | cons _ _=>simp
theorem Azc:OpR X (kI .Add) (HV X.K):=by
 intro pins s σ H x y v u Q I rx ry h
 obtain⟨a,b,xs,ys,rfl,rfl,ha,hb,hx,hz,q1,q2⟩:=h
 cases rx
 cases ry
 obtain⟨its,r1,p1,_⟩:=I.tuple ha
 obtain⟨its2,r2,p2,_⟩:=I.tuple hb
 refine HT.A7i p1 p2 (fun z=>hx (r1.nil_iff.mp z)) (fun z=>⟨.ref a,H,I,rfl,q1 (r2.nil_iff.mp z)⟩) (fun z=>?_) (by rw[← r1.length,← r2.length]; exact hz)
 refine⟨.ref s.heap.objs.size,_,I.laid (t':=s.toks) (o:=.tup (xs++ys)) (fun b ob q=>cX _ q) (bU _) ?_,rfl,q2 (fun w=>z (r2.nil_iff.mpr w)) _ (I.hok.fresh (bU _))⟩
 exact⟨by rw[pU]; exact hz,_,r1.append r2,Bam.new _ _⟩
end
noncomputable def ixN (n:Nat)(i:Int):Option Nat:=if 0≤i then(if i<n then some i.toNat else none) else if -(n:Int)≤i then some (i+n).toNat else none
noncomputable def atI {α:Type}(xs:List α)(i:Int):Option α:=(ixN xs.length i).bind fun j=>xs[j]?
theorem LP {n:Nat}{i:Int}{j:Nat}(h:ixN n i=some j):seqIndex? i n=some j/\j<n /\ -(n:Int)≤i/\i<n:=by
 unfold ixN at h
 by_cases h0:0≤i
 ·rw[if_pos h0] at h
  by_cases h1:i<n
  ·rw[if_pos h1] at h
   have e:i.toNat=j:=eU h
   exact⟨by rw[seqIndex_of h0 h1,e],by omega,by omega,h1⟩
  ·rw[if_neg h1] at h; cases h
 ·rw[if_neg h0] at h
  by_cases h1 : -(n:Int)≤i
  ·rw[if_pos h1] at h
   have e:(i+n).toNat=j:=eU h
   exact⟨by rw[seqIndex_neg (by omega) h1,e],by omega,h1,by omega⟩
  ·rw[if_neg h1] at h; cases h
theorem EJ {α:Type}{xs:List α}{i:Int}{v:α}(h:atI xs i=some v) : ∃ j,seqIndex? i xs.length=some j/\xs[j]?=some v/\j<xs.length /\ -(xs.length:Int)≤i/\i<xs.length:=by
 unfold atI at h
 cases e:ixN xs.length i with
 | none=>rw[e] at h; cases h
 | some j=>
  rw[e] at h
  obtain⟨h1,h2,h3,h4⟩:=LP e
  exact⟨j,h1,h,h2,h3,h4⟩
theorem lP {α:Type}{xs:List α}{j:Nat}{v:α}(h:xs[j]?=some v):atI xs (j:Int)=some v:=by
 have hj:j<xs.length:=(fI.mp h).1
 have e:ixN xs.length (j:Int)=some j:=by
  unfold ixN
  rw[if_pos (by omega),if_pos (by omega)]; simp
 unfold atI; rw[e]; exact h
def LO (b:aS):Prop:=∀ o i,II b false o i=operate [o,i] (oA o i)
def IxR (X:Cx)(r:R2):Prop:=
 ∀ (value slice:aS) (pins:List (aD×aX)) (s:aH) (σ:St) (H:Hp) (x y:V) (v u:aE) (Q:VK),Inv X pins σ H s->RelV x v->RelV y u->r x y H Q ->
  II slice false v u=operate [v,u] (oA v u)->aP (aQ X.prog X.w) X.A (subscriptTail value slice v u) (EP X pins σ Q) X.xe s
def MtR (X:Cx)(id:String)(r:V->List V->Hp->VK->Prop):Prop:=
 ∀ (pins:List (aD×aX)) (s:aH) (σ:St) (H:Hp) (x:V) (xs:List V) (v:aE) (us:List aE) (Q:VK),Inv X pins σ H s->RelV x v->Vals xs us->r x xs H Q ->
  aP (aQ X.prog X.w) X.A (call (.builtin id) (v::us)) (EP X pins σ Q) X.xe s
section
variable {X:Cx}{a b:aS}{ta tb:TE}{pos:bG}
theorem IxR.or {r r':R2}(h:IxR X r)(h':IxR X r'):IxR X (fun x y H Q=>r x y H Q \/ r' x y H Q):=by
 intro value slice pins s σ H x y v u Q I rx ry q hs
 rcases q with q | q
 ·exact h value slice pins s σ H x y v u Q I rx ry q hs
 ·exact h' value slice pins s σ H x y v u Q I rx ry q hs
theorem YM {r:R2}(hr:IxR X r)(ha:PE X a ta)(hb:PE X b tb)(hs:LO b):PE X (.Subscript a b pos) (tOp r ta tb):=by
 intro pins s σ H Q I h
 exact Subscript_ (CB ha hb I h fun v u s2 x y H2 I2 rx ry q=>hr a b pins s2 σ H2 x y v u Q I2 rx ry q (hs _ _))
noncomputable def JP (K:aJ):R2:=fun x y H Q=>∃ p xs i v,x = .ref p/\y = .int i/\SqL K H p xs/\atI xs i=some v/\Q v H
noncomputable def JO (K:aJ):R2:=fun x y H Q=>∃ p xs i v,x = .ref p/\y = .int i/\SqT K H p xs/\atI xs i=some v/\Q v H
noncomputable def JW:R2:=fun x y H Q=>∃ z i c,x = .str z/\y = .int i/\z.length≤sizeLine/\atI z.cps.toList i=some c/\Q (.str ⟨#[c]⟩) H
theorem A7n:IxR X (JP X.K):=by
 intro value slice pins s σ H x y v u Q I rx ry h hs
 obtain⟨p,xs,i,z,rfl,rfl,hq,he,q⟩:=h
 cases rx
 obtain⟨t,rfl⟩:=ry
 obtain⟨its,r,pl,hz⟩:=I.list hq
 obtain⟨j,h1,h2,h3,h4,h5⟩:=EJ he
 obtain⟨w,ew,rw'⟩:=r.get h2
 have hl:=r.length
 have hn:=sR
 have fin:EP X pins σ Q w s:=⟨z,H,I,rw',q⟩
 by_cases h0:0≤i
 ·have hj:i.toNat=j:=by
   rw[seqIndex_of h0 h5] at h1
   exact eU h1
  exact item_listR pl.isList h0 (by omega) (by rw[hj]; simpa using ew) fin hs
 ·have hj:(i+(its.toArray.size:Int)).toNat=j:=by
   rw[seqIndex_neg (by omega) h4] at h1
   rw[dY,← hl]
   exact eU h1
  exact subscriptTail_builtinR (x:=w) pl.isList.typeIs slot_list_getitem.lookup
   (wpAny_getItem_list_neg (Q:=fun r s'=>r=w/\EP X pins σ Q r s') pl.isList (by omega) (by rw[dY] <;> omega) (by omega) (by rw[hj]; simpa using ew) ⟨rfl,fin⟩) hs
theorem Bby:IxR X (JO X.K):=by
 intro value slice pins s σ H x y v u Q I rx ry h hs
 obtain⟨p,xs,i,z,rfl,rfl,hq,he,q⟩:=h
 cases rx
 obtain⟨t,rfl⟩:=ry
 obtain⟨its,r,pl,hz⟩:=I.tuple hq
 obtain⟨j,h1,h2,h3,h4,h5⟩:=EJ he
 obtain⟨w,ew,rw'⟩:=r.get h2
 have hl:=r.length
 have hn:=sR
 have fin:EP X pins σ Q w s:=⟨z,H,I,rw',q⟩
 exact subscriptTail_builtinR (x:=w) pl.typeIs IJ.lookup
  (getItem_tuple (j:=j) (Q:=fun r s'=>r=w/\EP X pins σ Q r s') pl (by omega) (by omega) (by rw[dY,← hl]; exact h1) (by simpa using ew) ⟨rfl,fin⟩) hs
theorem Ab:IxR X JW:=by
 intro value slice pins s σ H x y v u Q I rx ry h hs
 obtain⟨z,i,c,rfl,rfl,hz,he,q⟩:=h
 obtain⟨t,rfl⟩:=rx
 obtain⟨t',rfl⟩:=ry
 obtain⟨j,h1,h2,h3,h4,h5⟩:=EJ he
 have hl:z.cps.toList.length=z.length:=by simp[BI]
 rw[hl] at h1 h4 h5
 have hn:=sR
 exact tail_any (typeIs_str s z t) slot_str_getitem.lookup (getItem_str (c:=c) (by
  have e1:decide (i < -(2 ^ 63:Int))=false:=decide_eq_false (by omega)
  have e2:decide (i ≥ 2 ^ 63)=false:=decide_eq_false (by omega)
  rw[e1,e2,Bool.or_false]) (by rw[h1]; simpa using h2) ⟨.str ⟨#[c]⟩,H,I.tok _,⟨_,rfl⟩,q⟩) hs
noncomputable def rIx (K:aJ):R2:=fun x y H Q=>JP K x y H Q \/ JO K x y H Q \/ JW x y H Q
theorem Ba:IxR X (rIx X.K):=A7n.or (Bby.or Ab)
theorem Ga (its:List aE)(n j:Nat)(u:aE):lG (·.setIfInBounds j u) { cls:=.type "list",data:=.seq its.toArray n } = { cls:=.type "list",data:=.seq (its.set j u).toArray n }:=by
 simp[lG]
theorem Inv.lst {pins:List (aD×aX)}{σ:St}{H:Hp}{s:aH}{p:aD}{xs:List V}(I:Inv X pins σ H s)(h:H p=some (.lst xs)) :
  ∃ (its:List aE) (n:Nat),Vals xs its/\s.heap.get? p=some { cls:=.type "list",data:=.seq its.toArray n }/\xs.length≤sizeLine:=by
 obtain⟨z,its,n,r,e⟩:=I.hok p _ h
 exact⟨its,n,r,e,z⟩
theorem Inv.lstUpd {pins:List (aD×aX)}{σ:St}{H:Hp}{s:aH}{p:aD}{xs ys:List V}{its its':List aE}{n n':Nat}{f:aX->aX}(I:Inv X pins σ H s)(h:H p=some (.lst xs))
  (ho:s.heap.get? p=some { cls:=.type "list",data:=.seq its.toArray n }) (hf:f { cls:=.type "list",data:=.seq its.toArray n } = { cls:=.type "list",data:=.seq its'.toArray n' }) (r:Vals ys its') (hz:ys.length≤sizeLine) (t:Nat) :
  Inv X pins σ (upd H p (.lst ys)) { s with heap:=s.heap.update p f,toks:=t }:=by
 have e:(s.heap.update p f).get? p=some { cls:=.type "list",data:=.seq its'.toArray n' }:=by
  rw[JG f ho (by rw[hf] <;> rfl),hf]
 refine I.write (x:=p) (e:=p) (by rw[h]; trivial) (.inl rfl) (fun b u hb q=>(JH _ _ (jO hb)).trans q) ⟨_,e⟩ ?_
 exact⟨hz,its',n',r,e⟩
def YF:V->V->V->Hp->(Hp->Prop)->Prop:=fun o i v H Q=>∃ p xs k j,o = .ref p/\i = .int k/\H p=some (.lst xs)/\ixN xs.length k=some j/\Q (upd H p (.lst (xs.set j v)))
theorem set_list:JS X YF:=by
 intro pins s σ H o i v ov iv u Q I ro ri rv h
 obtain⟨p,xs,k,j,rfl,rfl,hp,hj,q⟩:=h
 cases ro
 obtain⟨t,rfl⟩:=ri
 obtain⟨its,n,r,ho,hz⟩:=I.lst hp
 obtain⟨h1,h2,h3,h4⟩:=LP hj
 have hl:=r.length
 have hn:=sR
 have I':Inv X pins σ (upd H p (.lst (xs.set j v))) { s with heap:=s.heap.update p (lG (·.setIfInBounds j u)) }:=
  I.lstUpd hp ho (Ga its n j u) (r.set rv j) (by rw[List.length_set]; exact hz) s.toks
 by_cases h0:0≤k
 ·have hk:k.toNat=j:=by
   rw[seqIndex_of h0 h4] at h1
   exact eU h1
  exact PySem.W.ki_setAt ho h0 (by omega) (by rw[dY,← hl]; exact h4) (by rw[hk]; exact⟨_,I',q⟩)
 ·have hk:(k+(its.toArray.size:Int)).toNat=j:=by
   rw[seqIndex_neg (by omega) h3] at h1
   rw[dY,← hl]
   exact eU h1
  exact PySem.W.ki_setBack ho (by omega) (by rw[dY,← hl]; exact h3) (by omega) (by rw[hk]; exact⟨_,I',q⟩)
theorem Iu (lo hi:Option Int)(n:Nat):(uF lo hi none n).1=((HT.sIx n 0 lo:Nat):Int)/\(uF lo hi none n).2.1=((HT.sIx n n hi:Nat):Int)/\(uF lo hi none n).2.2=1:=by
 refine⟨?_,?_,rfl⟩
 ·cases lo with
  | none=>simp[uF,HT.sIx]
  | some i=>
   simp only[uF,HT.sIx,Option.getD_none,show(1:Int) > 0 by decide,if_true]
   by_cases h:i<0
   ·simp only[h,if_true] <;> omega
   ·simp only[h,if_false] <;> omega
 ·cases hi with
  | none=>simp[uF,HT.sIx]
  | some i=>
   simp only[uF,HT.sIx,Option.getD_none,show(1:Int) > 0 by decide,if_true]
   by_cases h:i<0
   ·simp only[h,if_true] <;> omega
   ·simp only[h,if_false] <;> omega
theorem Iw (its:List aE)(lo hi:Option Int):slicePick its.toArray lo hi none=((its.drop (HT.sIx its.length 0 lo)).take (HT.sIx its.length its.length hi - HT.sIx its.length 0 lo)).toArray:=by
 obtain⟨h1,h2,h3⟩:=Iu lo hi its.toArray.size
 unfold slicePick
 rw[h1,h2,h3]
 simp only[sliceRange_one,pick_run,dY] <;> rfl
def YC (K:aJ):V->Option Int->Option Int->Hp->VK->Prop:=fun x lo hi H Q=>∃ a xs,x = .ref a/\SqL K H a xs /\ ∀ p,H p=none->Q (.ref p) (upd H p (.lst (nT xs lo hi)))
theorem Mv:SlR X (YC X.K):=by
 intro pins s σ H x v vl vu lo hi sl Q I rx hs pl pu h
 obtain⟨a,xs,rfl,hx,q⟩:=h
 cases rx
 obtain⟨its,r,ht,hz⟩:=I.list hx
 have hlen:=r.length
 refine⟨"list",_,slot_list_getitem.lookup,ht.isList.typeIs,?_⟩
 refine wpAny_getItem_list_slice ht.isList hs pl pu .none (by simp) ?_ (by rw[dY] <;> omega)
 rw[Iw,← hlen]
 refine⟨.ref s.heap.objs.size,_,I.laid (t':=s.toks) (o:=.lst (nT xs lo hi)) (fun b ob q=>cX _ q) (bU _) ?_,rfl,q _ (I.hok.fresh (bU _))⟩
 exact⟨jQ (SL xs lo hi) hz,_,0,(r.drop (HT.sIx xs.length 0 lo)).take (HT.sIx xs.length xs.length hi - HT.sIx xs.length 0 lo),eZ _ rfl⟩
theorem Hn:OpR X (eT .NotIn) (fun x y H Q=>∃ i j,x = .str i/\y = .str j/\Q (.bl (!(!(lY j i 0 j.length 1).isEmpty))) H):=by
 intro pins s σ H x y v u Q I rx ry h
 obtain⟨i,j,rfl,rfl,q⟩:=h
 obtain⟨t,rfl⟩:=rx
 obtain⟨t',rfl⟩:=ry
 exact notIn_str ⟨.bl _,H,I,rfl,q⟩
theorem Aps:Adn X (.builtin "len") (fun xs H Q=>∃ p ys,xs=[.ref p]/\(SqL X.K H p ys \/ SqT X.K H p ys)/\Q (.int ys.length) H):=by
 intro pins s σ H xs us Q I r h
 obtain⟨p,ys,rfl,hq,q⟩:=h
 obtain⟨u,rfl,rx⟩:=vals1 r
 cases rx
 have hn:=sR
 rcases hq with hq | hq
 ·obtain⟨its,r',pl,hz⟩:=I.list hq
  have hlen:=r'.length
  exact Calls.call_len_list pl.isList (by simp only[dY] <;> omega) ⟨.int ys.length,H,I.tok _,⟨s.toks+1,by rw[dY,hlen]⟩,q⟩
 ·obtain⟨its,r',pl,hz⟩:=I.tuple hq
  have hlen:=r'.length
  exact len_tuple pl (by simp only[dY] <;> omega) ⟨.int ys.length,H,I.tok _,⟨s.toks+1,by rw[dY,hlen]⟩,q⟩
theorem Aqx:Adn X (.builtin "len") (fun xs H Q=>∃ z,xs=[.str z]/\z.length≤sizeLine/\Q (.int z.length) H):=by
 intro pins s σ H xs us Q I r h
 obtain⟨z,rfl,hz,q⟩:=h
 obtain⟨u,rfl,t,rfl⟩:=vals1 r
 have hn:=sR
 exact len_str (by omega) ⟨.int z.length,H,I.tok _,⟨_,rfl⟩,q⟩
theorem Adn.or {f:aE}{r r':List V->Hp->VK->Prop}(h:Adn X f r)(h':Adn X f r'):Adn X f (fun xs H Q=>r xs H Q \/ r' xs H Q):=by
 intro pins s σ H xs us Q I rs q
 rcases q with q | q
 ·exact h pins s σ H xs us Q I rs q
 ·exact h' pins s σ H xs us Q I rs q
theorem Apl:Adn X (.type "list") (fun xs H Q=>∃ p ys,xs=[.ref p]/\(SqL X.K H p ys \/ SqT X.K H p ys) /\ ∀ l,H l=none->Q (.ref l) (upd H l (.lst ys))):=by
 intro pins s σ H xs us Q I r h
 obtain⟨p,ys,rfl,hq,q⟩:=h
 obtain⟨u,rfl,rx⟩:=vals1 r
 cases rx
 have fin : ∀ (its:List aE),Vals ys its->ys.length≤sizeLine -> ∀ (h':aU) (c':Nat),(∀ b o',s.heap.get? b=some o'->h'.get? b=some o') ->
   h'.get? s.heap.objs.size=some { cls:=.type "list",dict:=none,data:=.seq its.toArray c',slots:=#[] }->EP X pins σ Q (.ref s.heap.objs.size) { s with heap:=h' }:=fun its r' hz h' c' kp e=>
  ⟨.ref s.heap.objs.size,_,I.laid (t':=s.toks) kp (bU _) (show Acy X.prog X.w _ h' _ (.lst ys) from⟨hz,its,c',r',e⟩),rfl,q _ (I.hok.fresh (bU _))⟩
 rcases hq with hq | hq
 ·obtain⟨its,r',pl,hz⟩:=I.list hq
  have hlen:=r'.length
  obtain⟨o,ho,hc,n,hd⟩:=pl.isList
  exact call_list_seq p (.inl rfl) ho hc hd (fun h' c' kp e=>fin its r' hz h' c' kp e) (by simp only[dY] <;> omega)
 ·obtain⟨its,r',pl,hz⟩:=I.tuple hq
  have hlen:=r'.length
  obtain⟨o,ho,hc,n,hd⟩:=pl
  exact call_list_seq p (.inr rfl) ho hc hd (fun h' c' kp e=>fin its r' hz h' c' kp e) (by simp only[dY] <;> omega)
theorem Iq:Adn X (.type "tuple") (fun xs H Q=>∃ p ys,xs=[.ref p]/\((SqL X.K H p ys /\ ∀ l,H l=none->Q (.ref l) (upd H l (.tup ys))) \/ (SqT X.K H p ys/\Q (.ref p) H))):=by
 intro pins s σ H xs us Q I r h
 obtain⟨p,ys,rfl,h⟩:=h
 obtain⟨u,rfl,rx⟩:=vals1 r
 cases rx
 rcases h with⟨hq,q⟩ | ⟨hq,q⟩
 ·obtain⟨its,r',pl,hz⟩:=I.list hq
  have hlen:=r'.length
  refine call_tuple_list pl.isList (fun h' kp=>?_) (by simp only[dY] <;> omega)
  have I1:Inv X pins σ H { s with heap:=h' }:=I.kept (t':=s.toks) kp
  have I2:Inv X pins σ (upd H h'.objs.size (.tup ys)) { s with heap:=h'.push { cls:=.type "tuple",data:=.seq its.toArray } }:=
   I1.laid (t':=s.toks) (fun b o e=>cX _ e) (bU _) (show Acy X.prog X.w _ _ _ (.tup ys) from⟨hz,its,r',Bam.new _ _⟩)
  exact⟨.ref h'.objs.size,_,I2,rfl,q _ (I1.hok.fresh (bU _))⟩
 ·obtain⟨its,r',pl,hz⟩:=I.tuple hq
  exact call_tuple_same pl ⟨.ref p,H,I,rfl,q⟩
def tyV (K:aJ)(T:String)(x:V)(H:Hp):Prop:=match x with
 | .str _=>T = "str"
 | .int _=>T = "int"
 | .ref p=>(T = "list" /\ ∃ xs,SqL K H p xs) \/ (T = "tuple" /\ ((∃ o,K.lookup p=some o/\o.cls = .type "tuple" /\ o.dict=none) \/ ∃ xs,H p=some (.tup xs))) \/
   (T = "dict" /\ ((∃ ep kvs,H p=some (.dK ep kvs)) \/ ∃ kvs,∃ ep,H p=some (.dT ep kvs))) \/ (T = "set" /\ ∃ S n,H p=some (.set S n))
 | _=>False
theorem ZW {pins:List (aD×aX)}{σ:St}{H:Hp}{s:aH}{T:String}{x:V}{v:aE}(I:Inv X pins σ H s)(r:RelV x v)(ty:tyV X.K T x H) :
  s.TypeIs v T /\ ∀ a,v = .ref a -> ∃ ob,s.heap.get? a=some ob/\ob.dict=none:=by
 cases x with
 | str z=>
  obtain⟨t,rfl⟩:=r
  cases(show T = "str" from ty)
  exact⟨typeIs_str s z t,fun _ e=>nomatch e⟩
 | int i=>
  obtain⟨t,rfl⟩:=r
  cases(show T = "int" from ty)
  exact⟨typeIs_int s i t,fun _ e=>nomatch e⟩
 | ref p=>
  cases r
  rcases ty with⟨rfl,xs,hq⟩ | ⟨rfl,⟨o,hk,hc,hd⟩ | ⟨xs,hx⟩⟩ | ⟨rfl,hk⟩ | ⟨rfl,S,n,hk⟩
  ·obtain⟨its,_,pl,_⟩:=I.list hq
   refine⟨pl.isList.typeIs,fun a e=>?_⟩
   cases e
   obtain⟨o,n,e,c,hd,_⟩:=pl
   exact⟨o,e,hd⟩
  ·refine⟨⟨o,I.kIn p o hk,hc⟩,fun a e=>?_⟩
   cases e
   exact⟨o,I.kIn _ o hk,hd⟩
  ·obtain⟨_,_,_,⟨o,e,c,_⟩,n⟩:=(show Acy X.prog X.w H s.heap p (.tup xs) from I.hok p _ hx)
   refine⟨⟨o,e,c⟩,fun a e=>?_⟩
   cases e
   exact n
  ·have z : ∃ o,s.heap.get? p=some o/\o.ExactDict:=by
    rcases hk with⟨ep,kvs,hk⟩ | ⟨kvs,ep,hk⟩
    ·obtain⟨_,_,_,_,o,_,e,ex,_⟩:=I.hok p _ hk
     exact⟨o,e,ex⟩
    ·obtain⟨_,_,_,_,o,_,e,ex,_⟩:=I.hok p _ hk
     exact⟨o,e,ex⟩
   obtain⟨o,e,ex⟩:=z
   refine⟨⟨o,e,ex.1⟩,fun a e2=>?_⟩
   cases e2
   exact⟨o,e,ex.2.1⟩
  ·obtain⟨o,_,_,_,e,ex,_⟩:=I.hok p _ hk
   refine⟨⟨o,e,ex.1⟩,fun a e2=>?_⟩
   cases e2
   exact⟨o,e,ex.2.1⟩
 | _=>exact jB ty
noncomputable def tBM (K:aJ)(T:String)(r:V->List V->Hp->VK->Prop)(to:TE)(t:TA):TE:=fun σ H Q=>to σ H fun x H1=>tyV K T x H1/\t σ H1 fun xs H2=>r x xs H2 Q
variable {o e:aS}{es:List aS}{to:TE}{t:TA}{name:aB}{apos cpos:bG}{T id:String}{r:V->List V->Hp->VK->Prop}
theorem KY (pa:PlainAttrs T)(slot:Slot T name id)(hty:typeOf (.builtin id)=pure (.type "method_descriptor"))(hm:MtR X id r)(ho:PE X o to)(ha:PA X (e::es) t)
  (hbase:pO o name X.env (bJ o X.env)=bJ o X.env:=by rfl)
  (hfew:((fF cpos (bI (e::es) X.env)).all (fun x=>!x.1)&&(uK cpos (uI [] X.env)).all (fun x=>x.1.isSome)
   && decide ((e::es).length+([]:List Keyword).length+(if ([]:List Keyword).isEmpty then 0 else 1)<30))=true:=by rfl)
  (hline:(apos.endLine == cpos.line)=true:=by rfl) (hs:bI (e::es) X.env=(false,bJ e X.env)::bI es X.env:=by rfl) (hplain:(fF cpos (bI es X.env)).any (·.1)=false:=by rfl) :
  PE X (.Call (.Attribute o name apos) (e::es) [] cpos) (tBM X.K T r to t):=by
 intro pins s σ H Q I h
 refine wpAny_Call_method_late hbase hfew hline rfl (thn (ho pins s σ H _ I h) fun v s1 gh=>?_)
 obtain⟨x,H1,I1,r1,ty,q1⟩:=gh
 obtain⟨h1,h2⟩:=ZW I1 r1 ty
 refine⟨T,id,pa,slot,hty,h1,h2,?_⟩
 have hA:=ha cpos pins s1 σ H1 _ I1 q1
 rw[hs] at hA ⊢
 refine Calls.callWith_builtin (by show(false||(fF cpos (bI es X.env)).any (·.1))=false; rw[hplain] <;> rfl) (Calls.evalArgs_plain ?_)
 exact thn hA fun us s2 ⟨vs,H2,I2,r2,q2⟩=>hm pins s2 σ H2 x vs v us Q I2 r1 r2 q2
end
def MtM (X:Cx)(id:String)(r:V->List V->Hp->VK->Prop):Prop:=
 ∀ (pins:List (aD×aX)) (s:aH) (σ:St) (H:Hp) (x:V) (xs:List V) (v:aE) (us:List aE) (Q:VK),Inv X pins σ H s->RelV x v->Vals xs us->r x xs H Q ->
  aP (aQ X.prog X.w) X.A (call (.builtin id) (v::us)) (EP X pins σ Q) X.xe s
theorem Vals.one : ∀ {x:V} {us:List aE},Vals [x] us -> ∃ u,us=[u]/\RelV x u:=by
 intro x us h
 cases h with
 | cons r t=>cases t; exact⟨_,rfl,r⟩
section
variable {X:Cx}{pins:List (aD×aX)}{σ:St}{H:Hp}{s:aH}{l b:aD}{xs ys zs:List V}
theorem Inv.lset {its its':List aE}{n:Nat}{f:Array aE->Array aE}{t':Nat}(I:Inv X pins σ H s)(hH:H l=some (.lst xs))
  (e:s.heap.get? l=some { cls:=.type "list",data:=.seq its.toArray n }) (hf:f its.toArray=its'.toArray) (hv:Vals ys its') (hz:ys.length≤sizeLine) :
  Inv X pins σ (upd H l (.lst ys)) { s with heap:=s.heap.update l (lG f),toks:=t' }:=by
 have q:=PySem.IsL.update e f
 rw[hf] at q
 refine I.write (x:=l) (e:=l) (by rw[hH]; exact trivial) (.inl rfl) (fun b' u hb hu=>(JH s.heap (lG f) (jO hb)).trans hu) ⟨_,q⟩ ?_
 exact⟨hz,its',_,hv,q⟩
theorem Inv.lnew {its:List aE}{t':Nat}(I:Inv X pins σ H s)(hv:Vals ys its)(hz:ys.length≤sizeLine) :
  Inv X pins σ (upd H s.heap.objs.size (.lst ys)) { s with heap:=s.heap.push { cls:=.type "list",data:=.seq its.toArray },toks:=t' }:=
 I.laid (fun _ _ q=>cX _ q) (bU _) ⟨hz,its,0,hv,eZ _ rfl⟩
theorem Inv.fresh (I:Inv X pins σ H s):H s.heap.objs.size=none:=I.hok.fresh (bU _)
theorem Inv.lstM (I:Inv X pins σ H s)(hH:H l=some (.lst xs)):xs.length≤sizeLine /\ ∃ (its:List aE) (n:Nat),Vals xs its/\xs.length=its.length/\s.heap.get? l=some { cls:=.type "list",data:=.seq its.toArray n }:=by
 obtain⟨z,its,n,r,e⟩:=I.hok l _ hH
 exact⟨z,its,n,r,r.length,e⟩
end
section
variable {X:Cx}
def Kr:V->List V->Hp->VK->Prop:=fun x vs H Q=>∃ l xs y,x = .ref l/\vs=[y]/\H l=some (.lst xs)/\xs.length<sizeLine/\Q .non (upd H l (.lst (xs++[y])))
theorem QE:MtM X "list.append" Kr:=by
 intro pins s σ H x vs v us Q I rx rv h
 obtain⟨l,xs,y,rfl,rfl,hH,hz,q⟩:=h
 cases rx
 obtain⟨u,rfl,ru⟩:=rv.one
 obtain⟨z,its,n,r,hl,e⟩:=I.lstM hH
 refine call_meets F.slot_list_append ⟨_,e,rfl⟩ F.entry_list_append (F.args_list_append_2 _ _) (PySem.list_append l its.toArray n u (by rw[dY]; omega)) ⟨e,?_⟩
 refine⟨.non,_,I.lset (its':=its++[u]) hH e (by simp) (r.append (.cons ru .nil)) ?_,rfl,q⟩
 rw[pU,List.length_singleton]
 omega
end
end L2
namespace Att
open PySem PySem.W PySem.Calls PyProof.Rows
theorem Ji {P:Params}{h:aU} : ∀ (ns:List Int) (vs:List aE),WellAll P h vs (ns.map WData.int)->IntsAre vs ns:=by
 intro ns
 induction ns with
 | nil=>
  intro vs w
  rw[List.map_nil] at w
  cases w
  exact .nil
 | cons n ns ih=>
  intro vs w
  rw[cR] at w
  cases w with
  | cons a b=>
   cases a
   exact .cons _ _ (ih _ b)
theorem Ds {l:OpenLaw}{n:Nat}(hn:l.most=some n){P:Params}{h:aU}{args:List WData}{vals:List aE}
  (hpre:l.row.toRowW.claim.pre args=true) (hwl:WellAll P h vals args) :
  ∃ a vs ns,vals=[dS a]/\args=[WData.list (ns.map WData.int)]/\h.get? a=some { cls:=.type "list",data:=.seq vs.toArray }/\IntsAre vs ns/\ns.length≤n:=by
 have hsh:WShape.hasAll [] args [.list .int]=true:=(pre_splitW hpre).1
 have hc:l.pre.holds [] { args:=args }=true:=(pre_splitW hpre).2
 obtain⟨d,r,rfl,h1,h2⟩:=hasAllW_cons hsh
 obtain rfl:=hasAllW_nil h2
 obtain⟨xs,rfl,h3⟩:=hasW_list h1
 obtain⟨ns,rfl⟩:=items_int h3
 have hlen:ns.length≤n:=by
  unfold OpenLaw.pre at hc
  have h4:(WTm.not (.lt (.lit (.int (n:Int))) (.len (.arg 0)))).holds [] { args:=[.list (ns.map .int)] }=true:=by
   have h4:=(holds_andW hc).1
   rw[hn] at h4
   exact h4
  have h5:=condW_of h4 (w_not (w_lt w_lit (w_len_list (w_arg rfl))))
  rw[cJ] at h5
  refine Nat.le_of_not_lt fun q=>?_
  have q':(n:Int)<((ns.length:Nat):Int):=by omega
  first
   | (rw[decide_eq_true q'] at h5; exact absurd h5 (by decide))
   | (simp at h5; omega)
 cases hwl with
 | cons w1 w2=>
  cases w2
  cases w1 with
  | list ho hall=>exact⟨_,_,ns,rfl,rfl,ho,Ji ns _ hall,hlen⟩
theorem Dz (l:OpenLaw)(args:List WData):l.row.toRowW.claim.post args (.bool true) args=true:=
 postW_of (r:=l.row.toRowW) (X:=(true == true))
  (show WShape.has [] (.bool true) .bool=true by first | rfl | decide | simp[WShape.has,WShape.arms,WShape.armsAll])
  (show(WTm.eq .res (.lit (.bool true))).value [] { args:=args,res:=some (.bool true),after:=args }=some (.bool (true == true)) from w_eq_bool (w_res rfl) w_lit) rfl
theorem Arn {l:OpenLaw}{n:Nat}{q:bE}{loose:List aB}{XP:(aB->Option aE)->aU->Prop}{YP:bA->aU->Prop}{d:DefRec}
  (hn:l.most=some n) (hdf:d.params.defaults=[])
  (call : ∀ (w:bA) (s₀ s₁:aH) (mg mb:aB->Option aE) (fa:aD) (o:aX) (pm cd doc:aE) (a:aD) (vs:List aE) (ns:List Int),
   Ground q loose [] XP w s₀ mg mb s₁.heap->YP w s₁.heap ->
   s₁.heap.get? fa=some o->o.data = .func (docDef d.name d.params d.body d.scope pm cd doc)->s₁.heap.CodeRec cd d.name->mg d.name=some (.ref fa) ->
   s₁.heap.get? a=some { cls:=.type "list",data:=.seq vs.toArray }->IntsAre vs ns->ns.length≤n->s₁.gens = #[] ->
   iY (aQ l.prog w) uJ (.call (.ref fa) ⟨[.ref a],[]⟩) (fun r s'=>r = .ok (.ret (.bool true))/\OldK s₁.heap s'.heap/\s'.os=s₁.os/\oP s'.gens) s₁) :
  WalkO q loose XP YP l.row.toRowW d [] (fun f vs=>PySem.call f vs):=by
 intro w s₀ s₁ mg mb G Y fa o pm cd doc dV kV ho hd hcd hD hmg hg args vals as hpre hlay hrd hwl hlo
 obtain rfl:dV = .none:=Dflts.none hD hdf
 obtain rfl:kV = .none:=Dflts.noKw hD
 obtain⟨a,vs,ns,rfl,rfl,hobj,hints,hlen⟩:=Ds hn hpre hwl
 refine enter_call (rG (call w s₀ s₁ mg mb fa o pm cd doc a vs ns G Y ho (fd_plain hd) hcd hmg hobj hints hlen hg) fun r s' hq=>?_)
 obtain⟨rfl,h2,h3,h4⟩:=hq
 exact⟨.inl ⟨.bool true,.bool true,[],rfl,fun _=>rfl,.bool true,Dz l _,fun _=>⟨List.Pairwise.nil,fun _ hm=>(nomatch hm)⟩⟩,h2,h3,h4⟩
end Att
namespace L2
open PySem PySem.Spec PyProof.Rows
theorem QK : ∀ {vs:List aE} {ns:List Int},IntsAre vs ns->Vals (ns.map V.int) vs
 | _,_,.nil=>.nil
 | _,_,.cons n t h=>.cons ⟨t,rfl⟩ (QK h)
def Only (H:Hp):Prop:=∀ b,H b=none \/ ∃ o xs,H b=some (.frz o (.lst xs))
theorem Pe {P:bE}{w:bA}{K:aJ}{mg mb:aB->Option aE}{CX:CXT}{k:Nat}{fa a:aD}{fd:fJ}{x:aB}{sp:Sp}{s₁:aH}{vs:List aE}{ns:List Int}
  (KX:K.In s₁.heap) (hns:s₁.heap.Ns bZ mg) (hb:s₁.heap.Ns builtinsNs mb) (hbb : ∀ x:aB,x ≠ "__name__" -> mb x=iZ x) (hlim:s₁.heap.NoLimit) (hg:s₁.gens = #[])
  (ha:s₁.heap.get? a=some { cls:=.type "list",data:=.seq vs.toArray }) (hi:IntsAre vs ns) (hl:ns.length≤sizeLine) (hr:Room k uJ)
  (F : ∀ base:aU,K.In base->base.Ns bZ mg->FnOk P w K mg base CX k fa fd [x] sp) (hbind : ∀ (s:aH) (u:aE),rR s fd ⟨[u],[]⟩ [(x,u)])
  (hsp : ∀ H:Hp,Only H->SqL K H a (ns.map V.int)->sp [.ref a] H (fun v _=>v = .bl true) fun _ _ _=>False)
  (hCX : ∀ H e s',CX [] H s₁ (fun _ _ _=>False) e s'->False) :
  iY (aQ P w) uJ (.call (.ref fa) ⟨[.ref a],[]⟩) (fun r s'=>r = .ok (.ret (.bool true))/\OldK s₁.heap s'.heap/\s'.os=s₁.os/\oP s'.gens) s₁:=by
 have rv:=QK hi
 have lenV:=hi.length
 have core : ∀ H:Hp,Only H->SqL K H a (ns.map V.int)->HOk P w H s₁.heap->(∀ b,H b≠none->b=a)->(H a≠none->K.lookup a=none) ->
   iY (aQ P w) uJ (.call (.ref fa) ⟨[.ref a],[]⟩) (fun r s'=>r = .ok (.ret (.bool true))/\OldK s₁.heap s'.heap/\s'.os=s₁.os/\oP s'.gens) s₁:=by
  intro H hO hS hok hA hK
  have base_of : ∀ {b:aD} {o:aX},s₁.heap.get? b=some o->H b=none->(nV s₁.heap H).get? b=some o:=fun e n=>Pg e n
  have noA : ∀ {b:aD} {o:aX} {es:Array oK} {ep:Nat},s₁.heap.get? b=some o->o.data = .dict es ep->H b=none:=fun {b o es ep} e d=>by
   cases q:H b with
   | none=>rfl
   | some u=>
    have e':b=a:=hA b (by rw[q]; simp)
    subst e'
    rw[ha] at e; cases e
    have d':Data.seq vs.toArray _=Data.dict es ep:=d
    cases d'
  have nsK : ∀ {b:aD} {m:aB->Option aE},s₁.heap.Ns b m->(nV s₁.heap H).Ns b m:=fun {b m} ⟨o,es,ep,e,d,r⟩=>⟨o,es,ep,base_of e (noA e d),d,r⟩
  have hKb:K.In (nV s₁.heap H):=fun b o e=>base_of (KX b o e) (by
   cases q:H b with
   | none=>rfl
   | some u=>
    have e':b=a:=hA b (by rw[q]; simp)
    subst e'
    rw[hK (by rw[q]; simp)] at e; cases e)
  have hM:Mod K mg (nV s₁.heap H):=⟨hKb,nsK hns,⟨mb,nsK hb,hbb⟩,let ⟨mc,h1,h2⟩:=hlim; ⟨mc,nsK h1,h2⟩⟩
  have e0:Env0 P w K mg (nV s₁.heap H) uJ [] s₁ H:=⟨rfl,hM,fun b o e=>Lc e,IW (Da _ _),trivial,fun b hb=>absurd (show b∈([]:List aD) from hb) (by simp),hok,.of_eq hg⟩
  refine rG ((F _ hKb (nsK hns)).run uJ [] s₁ H ⟨[.ref a],[]⟩ [.ref a] [.ref a] _ _ hr e0 (hbind s₁ (.ref a)) (.cons rfl .nil) (hsp H hO hS)) fun r s' h=>?_
  cases r with
  | error e=>exact(hCX H e s' h).elim
  | ok fl=>
   cases fl with
   | next=>exact jB h
   | brk=>exact jB h
   | cont=>exact jB h
   | ret u=>
    obtain⟨v,H',os,bare,un,hok',r',q⟩:=h
    have q':v = .bl true:=q
    subst q'
    obtain rfl:u=Value.bool true:=r'
    refine⟨rfl,OldK.of_keep fun b o e=>?_,os,bare⟩
    cases q:H b with
    | none=>exact un.keep b o e q (by intro z; exact absurd (show b∈([]:List aD) from z) (by simp)) (by simp)
    | some u=>
     rcases hO b with z | ⟨ob,xs,z⟩
     ·rw[q] at z; cases z
     ·have z2:=un.frzs b ob _ z
      obtain⟨e1,_⟩:=hok b _ z
      obtain⟨e2,_⟩:=hok' b _ z2
      rw[e] at e1; cases e1
      exact e2
 cases hk:K.lookup a with
 | some o=>
  have e:=KX a o hk
  rw[ha] at e
  cases e
  refine core (fun _=>none) (fun _=>.inl rfl) (.inr ⟨_,vs.toArray,_,hk,rfl,rfl,rfl,by rw[dY,lenV]; exact hl,by simpa using rv⟩) (fun b u z=>by have z':(none:Option HO)=some u:=z; cases z') (fun b z=>absurd rfl z) fun z=>absurd rfl z
 | none=>
  refine core (fun b=>if b=a then some (.frz { cls:=.type "list",data:=.seq vs.toArray } (.lst (ns.map V.int))) else none) (fun b=>?_) (.inl (.inr ⟨{ cls:=.type "list",data:=.seq vs.toArray },if_pos rfl⟩)) (fun b u z=>?_) (fun b z=>?_) fun _=>hk
  ·by_cases hb:b=a
   ·exact .inr ⟨_,_,if_pos hb⟩
   ·exact .inl (if_neg hb)
  ·by_cases hb:b=a
   ·have z':=(if_pos hb).symm.trans z
    cases z'
    subst hb
    exact⟨ha,by rw[cJ]; exact hl,vs,_,rv,ha⟩
   ·have z':=(if_neg hb).symm.trans z
    cases z'
  ·by_cases hb:b=a
   ·exact hb
   ·exact absurd (if_neg hb) z
theorem A8l {l:VH}{n k:Nat}{q:bE}{loose:List aB}{XP:(aB->Option aE)->aU->Prop}{YP:bA->aU->Prop}{d:DefRec}{K:Params->aJ}{CX:bA->CXT}{sp:bA->Sp}{x:aB}
  (hn:l.most=some n) (hn2:n≤sizeLine) (hdf:d.params.defaults=[]) (hr:Room k uJ)
  (hY : ∀ (w:bA) (h:aU),YP w h->(K w.params).In h)
  (F : ∀ (w:bA) (mg:aB->Option aE) (fa:aD) (h:aU),(K w.params).In h->h.Ns bZ mg->mg d.name=some (.ref fa) ->
   ∃ fd:fJ,(∀ (s:aH) (u:aE),rR s fd ⟨[u],[]⟩ [(x,u)]) /\
    ∀ base:aU,(K w.params).In base->base.Ns bZ mg->FnOk l.prog w (K w.params) mg base (CX w) k fa fd [x] (sp w))
  (hsp : ∀ (w:bA) (H:Hp) (a:aD) (ns:List Int),ns.length≤n->Only H->SqL (K w.params) H a (ns.map V.int)->sp w [.ref a] H (fun v _=>v = .bl true) fun _ _ _=>False)
  (hCX : ∀ (w:bA) (H:Hp) (s:aH) (e:aE) (s':aH),CX w [] H s (fun _ _ _=>False) e s'->False) :
  PySem.W.WalkO q loose XP YP l.row.toRowW d [] (fun f vs=>PySem.call f vs):=by
 refine Att.Arn hn hdf fun w s₀ s₁ mg mb fa o pm cd doc a vs ns G Y ho hd hcd hmg hobj hints hlen hg=>?_
 have KX:=hY w _ Y
 obtain⟨fd,hb,hF⟩:=F w mg fa _ KX G.T.g hmg
 exact Pe KX G.T.g G.T.b G.T.builtins G.T.nolimit hg hobj hints (jQ hlen hn2) hr hF hb (fun H hO hS=>hsp w H a ns hlen hO hS) fun H e s'=>hCX w H s₁ e s'
noncomputable def inClass (s:bH)(j:Nat):bH:=match s with
 | .ClassDef _ _ _ body _ _ _ _ _ _ _=>body.getD j (.Pass ⟨0,0,0,0⟩)
 | _=>.Pass ⟨0,0,0,0⟩
noncomputable def kB (s:bH):Arguments:=match s with
 | .FunctionDef _ a _ _ _ _ _ _ _ _=>a
 | _=>{ posonlyargs:=[],args:=[],vararg:=none,kwonlyargs:=[],kw_defaults:=[],kwarg:=none,defaults:=[] }
noncomputable def iI (s:bH):List bH:=match s with
 | .FunctionDef _ _ b _ _ _ _ _ _ _=>b
 | _=>[]
noncomputable def bT (s:bH):gZ:=match s with
 | .FunctionDef _ _ _ _ _ _ sc _ _ _=>sc
 | _=>{ kind:=.function,names:=[],isGenerator:=false,isCoroutine:=false }
noncomputable abbrev CX0:CXT:=fun _ _ _ _ _ _=>False
noncomputable abbrev E0:XK:=fun _ _ _=>False
theorem YD {X:Cx}:Passes CX0 X E0:=fun _ _ _ _ _ _ _ h=>h.elim
structure Fun (K:aJ)(x qual:aB)(st:bH)(f:aD)(fd:fJ):Prop where
 ex : ∃ (oc:aE) (od:Option aD) (kV doc pm:aE) (an:Option aD) (cdv ct:aE) (osl:Array (Option aE)),
  fd=jM x qual (kB st) (iI st) (bT st) .none kV doc pm an cdv ct/\K.lookup f=some ⟨oc,od,.func fd,osl⟩/\uM K cdv qual=true
 kp:lV K (.ref f)=true
section
variable {P:bE}{w:bA}{K:aJ}{mg:aB->Option aE}{base:aU}
theorem Fun.ok {x qual:aB}{st:bH}{f:aD}{fd:fJ}{N ps:List aB}{k:Nat}{sp:Sp}(F:Fun K x qual st f fd)(S:FnScope N ps (bT st))(len : ∀ vs H Q E,sp vs H Q E->vs.length=ps.length)
  (hbody : ∀ (cdv:aE) (A:bY) (outer:List dZ) (s:aH) (H:Hp) (vs:List V) (Q:VK) (E:XK),Room k (A.deeper (iC qual (bT st) s.heap.objs.size f cdv))->sp vs H Q E ->
   ∃ t,PSs (iS CX0 P w K mg base N qual (bT st) f cdv A outer s H E).nox (iI st) t/\t { nx:=fun _ H'=>Q .non H',rt:=Q } (start N vs) H):FnOk P w K mg base CX0 (k+1) f fd ps sp:=by
 obtain⟨oc,od,kV,doc,pm,an,cdv,ct,osl,rfl,lk,hcd⟩:=F.ex
 refine KI lk hcd S len fun A outer s H vs Q E hr hsp=>?_
 obtain⟨t,h,q⟩:=hbody cdv A outer s H vs Q E hr hsp
 exact⟨t,h.nox,q⟩
theorem Fun.binds {x qual:aB}{st:bH}{f:aD}{fd:fJ}{ps:List aB}(F:Fun K x qual st f fd)
  (h : ∀ (kV doc pm:aE) (an:Option aD) (cdv ct:aE) (us:List aE),us.length=ps.length->xN (jM x qual (kB st) (iI st) (bT st) .none kV doc pm an cdv ct) ⟨us,[]⟩=pure (ps.zip us)):Binds K fd ps []:=by
 obtain⟨oc,od,kV,doc,pm,an,cdv,ct,osl,rfl,lk,hcd⟩:=F.ex
 exact .all (h kV doc pm an cdv ct)
theorem CY {x qual:aB}{st:bH}{f:aD}{oc:aE}{od an:Option aD}{osl:Array (Option aE)}{kV doc pm cdv ct:aE}(l:K.lookup f=some ⟨oc,od,.func (jM x qual (kB st) (iI st) (bT st) .none kV doc pm an cdv ct),osl⟩)
  (c:uM K cdv qual=true) (k:lV K (.ref f)=true):Fun K x qual st f (jM x qual (kB st) (iI st) (bT st) .none kV doc pm an cdv ct):=⟨⟨oc,od,kV,doc,pm,an,cdv,ct,osl,rfl,l,c⟩,k⟩
end
theorem fA {A:bY}{k:Nat}(hr:Room k A):A.units+40<cLine:=Nat.lt_of_le_of_lt (Nat.add_le_add_left (by decide:40≤64) _) hr.units
section
variable {X:Cx}
theorem pv (i:Nat){x:aB}{pos:bG}(hN:X.N[i]?=some x:=by rfl)(hv:nB X.env.scope x:=by first | exact bB rfl | exact bC (bB rfl) | exact bC (bC rfl))(hd:(x == ("__debug__" : aB))=false:=by decide)
  (hcd:(x == ("__classdict__" : aB))=false:=by decide):PE X (.Name x pos) (KC i):=qG hN hv hd hcd
theorem Dt:Adn X (.builtin "len") (fun xs H Q=>∃ a ep kvs,xs=[V.ref a]/\H a=some (.dK ep kvs)/\Q (.int kvs.length) H):=by
 intro pins s σ H xs us Q I r h
 obtain⟨a,ep,kvs,rfl,ha,q⟩:=h
 obtain⟨u,rfl,ru⟩:=vals1 r
 cases ru
 exact YS I (.inl ha) fun t s' I'=>⟨.int kvs.length,H,I',⟨t,rfl⟩,q⟩
end
theorem lM {A B:Prop}(h:B):if false=true then A else B:=by
 rw[if_neg oM]
 exact h
theorem nZ {A B:Prop}(h:A):if true=true then A else B:=by
 rw[if_pos rfl]
 exact h
section
variable {prog:bE}{w:bA}{A:bY}{R:oB->aH->Prop}{s:aH}
theorem Ha {elt target iter:aS}{ifs:List aS}{scope:gZ}{pos:bG}{it acc:aE}{env:dZ}(I:Nat->aH->Prop)
  (turn : ∀ n s,I n s->aP (aQ prog w) A (pyNext it) (fun r s₁=>match r with
   | none=>R (.ok .next) s₁
   | some v=>aP (aQ prog w) A (IK target it v) (fun _ s₂=>aP (aQ prog w) A (mW target env v) (fun _ s₃=>
     aP (aQ prog w) A (forIn ifs true fun c r=>if r=true then do let ok ← isTrue c env (bJ c env); pure (yE ok) else pure (yE r)) (fun ok s₄=>
      if ok=true then aP (aQ prog w) A (bJ elt env) (fun x s₅=>
       aP (aQ prog w) A (call (.builtin "list.append") [acc,x]) (fun _ s₆=>∃ m,m<n/\I m s₆) (fun _ _=>False) s₅) (fun _ _=>False) s₄
      else ∃ m,m<n/\I m s₄) (fun _ _=>False) s₃) (fun _ _=>False) s₂) (fun _ _=>False) s₁) (fun _ _=>False) s)
  (n:Nat) (h:I n s):iY (aQ prog w) A (.compLoop (.ListComp elt [⟨target,iter,ifs,0⟩] scope pos) 0 it acc env) R s:=by
 refine codeAny_loop rfl I (fun n s hI=>?_) n h
 refine wpAny_noted ?_
 rw[compTurn_list]
 refine aM (wpAny_standAt (aM (iW (turn n s hI) (fun r s₁ h₁=>?_) fun _ _ h'=>h'.elim)))
 cases r with
 | none=>exact aY h₁
 | some v=>
  refine aM (iW h₁ (fun _ s₂ h₂=>?_) fun _ _ h'=>h'.elim)
  refine aM (iW h₂ (fun _ s₃ h₃=>aM (iW h₃ (fun ok s₄ h₄=>?_) fun _ _ h'=>h'.elim)) fun _ _ h'=>h'.elim)
  cases ok with
  | false=>exact aY ⟨rfl,h₄⟩
  | true=>
   exact aM (aM (iW h₄ (fun x s₅ h₅=>aM (iW h₅ (fun _ s₆ h₆=>aY (aY ⟨rfl,h₆⟩)) fun _ _ h'=>h'.elim)) fun _ _ h'=>h'.elim))
end
theorem cellOf_eq {env:dZ}{n:aB}{c:aD}(h:env.cells.lookup n=some c):cellOf env n=pure c:=by
 unfold cellOf
 rw[h]
noncomputable def eY (env:dZ):List (aB×lH)->List (aB×aD)->List (aB×aD)
 | [],cs=>cs
 | (n,k)::r,cs=>eY env r (if (k == gA)=true then(match env.cells.lookup n with | some c=>(n,c)::cs | none=>cs) else cs)
theorem SW {sc:gZ}{env:dZ}(h : ∀ n,(n,gA)∈sc.names -> ∃ c,env.cells.lookup n=some c):closureFor sc env=pure (eY env sc.names []):=by
 unfold closureFor
 generalize sc.names=l at h
 have go : ∀ (l:List (aB×lH)) (cs:List (aB×aD)),(∀ n,(n,gA)∈l -> ∃ c,env.cells.lookup n=some c) ->
   (forIn l cs (fun(x:aB×lH) (r:List (aB×aD))=>if (x.2 == gA)=true then(do let c ← cellOf env x.1; pure (yE ((x.1,c)::r))) else pure (yE r)):Sem (List (aB×aD)))=pure (eY env l cs):=by
  intro l
  induction l with
  | nil=>intro cs _; rfl
  | cons p r ih=>
   intro cs hl
   obtain⟨n,k⟩:=p
   rw[List.forIn_cons]
   have hr : ∀ n,(n,gA)∈r -> ∃ c,env.cells.lookup n=some c:=fun n hn=>hl n (cD _ hn)
   cases hk:(k == gA) with
   | true=>
    have ek:k=gA:=by simpa using hk
    subst ek
    obtain⟨c,hc⟩:=hl n cC
    have e1:eY env ((n,gA)::r) cs=eY env r ((n,c)::cs):=by
     show eY env r (if (gA == gA)=true then(match env.cells.lookup n with | some c=>(n,c)::cs | none=>cs) else cs)=_
     rw[hc]; rfl
    rw[e1]
    simp only[cellOf_eq hc,hk,if_true]
    exact ih ((n,c)::cs) hr
   | false=>
    have e1:eY env ((n,k)::r) cs=eY env r cs:=by
     show eY env r (if (k == gA)=true then(match env.cells.lookup n with | some c=>(n,c)::cs | none=>cs) else cs)=_
     rw[hk]; rfl
    rw[e1]
    simp only[hk,rP,if_false]
    exact ih cs hr
 have e:=go l [] h
 simp only[e]
 rfl
theorem GQ {env:dZ} : ∀ (l:List (aB×lH)) (cs:List (aB×aD)),(∀ x c,cs.lookup x=some c->env.cells.lookup x=some c) -> ∀ x c,(eY env l cs).lookup x=some c->env.cells.lookup x=some c
 | [],cs,h,x,c,e=>h x c e
 | (n,k)::r,cs,h,x,c,e=>by
  refine GQ r _ ?_ x c e
  intro y d q
  by_cases hk:(k == gA)=true
  ·rw[if_pos hk] at q
   cases hc:env.cells.lookup n with
   | none=>rw[hc] at q; exact h y d q
   | some a=>
    rw[hc] at q
    by_cases hy:(y == n)=true
    ·simp only[lW,hy] at q
     have:y=n:=by simpa using hy
     rw[this,hc]; exact q
    ·have hy':(y == n)=false:=by simpa using hy
     simp only[lW,hy'] at q
     exact h y d q
  ·rw[if_neg hk] at q; exact h y d q
theorem RX {env:dZ}{x:aB}{c:aD}(hx:env.cells.lookup x=some c) : ∀ (l:List (aB×lH)) (cs:List (aB×aD)),cs.lookup x=some c->(eY env l cs).lookup x=some c
 | [],cs,h=>h
 | (n,k)::r,cs,h=>by
  refine RX hx r _ ?_
  by_cases hk:(k == gA)=true
  ·rw[if_pos hk]
   cases hc:env.cells.lookup n with
   | none=>exact h
   | some a=>
    by_cases hy:(x == n)=true
    ·have:x=n:=by simpa using hy
     subst this
     rw[hx] at hc; cases hc
     simp[lW]
    ·have hy':(x == n)=false:=by simpa using hy
     simp only[lW,hy']; exact h
  ·rw[if_neg hk]; exact h
theorem GU {env:dZ}{x:aB}{c:aD}(hx:env.cells.lookup x=some c) : ∀ (l:List (aB×lH)) (cs:List (aB×aD)),(x,gA)∈l->(eY env l cs).lookup x=some c
 | [],cs,h=>by simp at h
 | (n,k)::r,cs,h=>by
  rcases cQ.mp h with e | h
  ·cases e
   refine RX hx r _ ?_
   rw[if_pos (by rfl),hx]
   simp[lW]
  ·exact GU hx r _ h
theorem SO {sc:gZ}{env:dZ}(x:aB):(uH sc env).names.lookup x=(sc.names.lookup x).map fun k=>if (k == gA&&env.scope.kind == .function&&env.kindOf x == some .cell)=true then NameKind.cell else k:=by
 unfold uH
 induction sc.names with
 | nil=>rfl
 | cons p r ih=>
  obtain⟨n,k⟩:=p
  show iO x ((if (k == gA&&env.scope.kind == .function&&env.kindOf n == some .cell)=true then(n,NameKind.cell) else(n,k))::List.map _ r)=_
  by_cases hy:(x == n)=true
  ·have:x=n:=by simpa using hy
   subst this
   by_cases hc:(k == gA&&env.scope.kind == .function&&env.kindOf x == some .cell)=true
   ·rw[if_pos hc]
    simp only[lW,hy,rK]
    rw[if_pos hc]
   ·rw[if_neg hc]
    simp only[lW,hy,rK]
    rw[if_neg hc]
  ·have hy':(x == n)=false:=by simpa using hy
   have e2:iO x ((n,k)::r)=iO x r:=by simp only[lW,hy']
   rw[e2]
   by_cases hc:(k == gA&&env.scope.kind == .function&&env.kindOf n == some .cell)=true
   ·rw[if_pos hc]
    simp only[lW,hy']
    exact ih
   ·rw[if_neg hc]
    simp only[lW,hy']
    exact ih
theorem lookup_mem {α:Type}{x:aB}{v:α} : ∀ {l:List (aB×α)},l.lookup x=some v->(x,v)∈l
 | [],h=>by simp at h
 | (n,k)::r,h=>by
  by_cases hy:(x == n)=true
  ·have:x=n:=by simpa using hy
   subst this
   simp[lW] at h
   subst h
   exact cC
  ·have hy':(x == n)=false:=by simpa using hy
   simp only[lW,hy'] at h
   exact cD _ (lookup_mem h)
noncomputable def gX (X:Cx)(N:List aB)(sc:gZ)(cl:List (aB×aD))(C:aD)(s₀:aH)(H₀:Hp)(ex:List aD):Cx:=
 { X with N:=N,s₀:=s₀,H₀:=H₀,env:=compEnvC sc cl C X.env,outer:=X.stack,ex:=ex,fn:=fun _=>false,pn:=[],xe:=fun _ _=>False }
structure CompScope (X:Cx)(N:List aB)(cap:List (Option Nat))(sc:gZ):Prop where
 kind:sc.kind = .function
 nocell : ∀ y∈sc.names,y.2 ≠ .cell
 nm : ∀ y∈sc.names,y.2 = .local->sc.names.lookup y.1=some .local
 fre : ∀ y∈sc.names,y.2 = .free->X.env.scope.names.lookup y.1=some .cell \/ X.env.scope.names.lookup y.1=some .free
 len:cap.length=N.length
 cap : ∀ (i j:Nat),cap[i]?=some (some j) -> ∃ x,N[i]?=some x/\X.N[j]?=some x/\sc.names.lookup x=some .free
noncomputable def rT (cap:List (Option Nat))(σ:St):St:=cap.map fun o=>o.bind fun j=>(σ[j]?).join
def yK (X:Cx)(ifs:List aS)(t:TT):Prop:=
 ∀ (pins:List (aD×aX)) (s:aH) (σ:St) (H:Hp) (Q:Bool->Hp->Prop),Inv X pins σ H s->t σ H Q ->
  aP (aQ X.prog X.w) X.A (forIn ifs true fun c r=>if r=true then do let ok ← isTrue c X.env (bJ c X.env); pure (yE ok) else pure (yE r)) (TP X pins σ Q) X.xe s
noncomputable def YK:TT:=fun _ H Q=>Q true H
theorem Jv {X:Cx}:yK X [] YK:=fun _ _ _ H _ I h=>wpAny_tests_nil ⟨H,I,h⟩
def KA (cap:List (Option Nat))(J:It)(g:TG)(tc:TT)(te:TE)(σ:St)(H1:Hp)(Q:VK):Prop:=∀ D,H1 D=none ->
 ∃ W:Nat->Nat->List V->St->Hp->Prop,(∃ m,W 0 m [] (rT cap σ) (upd H1 D (.lst []))) /\
  ∀ i m ys σ' H',W i m ys σ' H'->H' D=some (.lst ys)/\((J.stop i H'/\Q (.ref D) H') \/
   (J.go i H'/\ys.length<sizeLine /\ ∃ M:List V->St->Hp->Prop,(∀ zs σ2 H2,M zs σ2 H2 -> ∃ m',m'<m/\W (i+1) m' zs σ2 H2) /\ ∀ x H2,J.yld i H' x H2->g x σ' H2 fun σ3 H3=>tc σ3 H3 fun b H4=>
    if b=true then te σ3 H4 fun y H5=>H5 D=some (.lst ys)/\M (ys++[y]) σ3 (upd H5 D (.lst (ys++[y]))) else M ys σ3 H4))
noncomputable def tLC (cap:List (Option Nat))(wi:TI)(g:TG)(tc:TT)(te:TE):TE:=fun σ H Q=>wi σ H fun J H1=>KA cap J g tc te σ H1 Q
section
variable {X:Cx}{N:List aB}{cap:List (Option Nat)}{sc:gZ}{pins:List (aD×aX)}{σ:St}{H:Hp}{s:aH}
theorem CompScope.cells (S:CompScope X N cap sc)(ok:X.Ok) : ∀ n,(n,gA)∈sc.names -> ∃ c,X.env.cells.lookup n=some c:=fun n hn=>ok.has n (S.fre _ hn rfl)
theorem Fg (S:CompScope X N cap sc){fp:List aD}(I:Inv X pins σ H s)(hf : ∀ b∈fp,jE X pins H b)(hl : ∀ b∈fp,b<s.heap.objs.size) :
  (gX X N sc (eY X.env sc.names []) s.heap.objs.size s H fp).Ok:=by
 have sub : ∀ x c,(eY X.env sc.names []).lookup x=some c->X.env.cells.lookup x=some c:=GQ sc.names [] (fun x c e=>by simp at e)
 refine⟨I.ok.mod,?_,I.ok.glob,I.ok.blt,bU _,?_,?_,?_,I.ok.hd,I.ok.frames,.inl rfl,?_,I.bs,jQ I.ok.bsz I.sz,?_,?_,I.stack,I.stkFree⟩
 ·exact S.kind
 ·intro x y c h1 h2
  exact I.ok.inj x y c (sub x c h1) (sub y c h2)
 ·intro x hx
  have hk:(uH sc X.env).names.lookup x=some .cell \/ (uH sc X.env).names.lookup x=some .free:=hx
  have hfree:sc.names.lookup x=some .free:=by
   rw[SO] at hk
   cases e:sc.names.lookup x with
   | none=>rw[e] at hk; simp at hk
   | some k=>
    rw[e] at hk
    have hm:=lookup_mem e
    have nc:=S.nocell _ hm
    simp only[rK,uN] at hk
    by_cases hc:(k == gA&&X.env.scope.kind == .function&&X.env.kindOf x == some .cell)=true
    ·have:(k == gA)=true:=by
      simp only[rQ] at hc; exact hc.1.1
     rw[show k=gA by simpa using this]
    ·rw[if_neg hc] at hk
     rcases hk with q | q
     ·exact absurd q nc
     ·rw[q]
  obtain⟨c,hc⟩:=S.cells I.ok x (lookup_mem hfree)
  exact⟨c,GU hc _ _ (lookup_mem hfree)⟩
 ·intro x c h1 _
  exact absurd (show false=true from h1) oM
 ·intro b hb
  refine⟨dF (hl b hb),fun x c e=>(hf b hb).2.2.2.2.1 x c (sub x c e)⟩
 ·intro b o e hb
  rcases(hf b hb).2.2.2.1 with z | z
  ·exact I.ok.noex b o e z
  ·exact absurd (gN (cE e) (jQ I.ok.bsz z)) (jP _)
 ·intro b hb hz
  obtain⟨_,h1,h2,_⟩:=hf b hb
  rcases cQ.mp (I.stkSub b hz) with e | e
  ·exact h1 e
  ·exact h2 e
theorem Qk (S:CompScope X N cap sc){fp:List aD}{h':aU}{tk:Nat}(I:Inv X pins σ H s)(hf : ∀ b∈fp,jE X pins H b)(hl : ∀ b∈fp,b<s.heap.objs.size)
  (hn:h'.Ns s.heap.objs.size fun _=>none) (hk : ∀ b o,s.heap.get? b=some o->h'.get? b=some o) :
  Inv (gX X N sc (eY X.env sc.names []) s.heap.objs.size s H fp) [] (rT cap σ) H { s with heap:=h',toks:=tk }:=by
 have sub : ∀ x c,(eY X.env sc.names []).lookup x=some c->X.env.cells.lookup x=some c:=GQ sc.names [] (fun x c e=>by simp at e)
 have fr:H s.heap.objs.size=none:=I.hok.fresh (bU _)
 refine⟨Fg S I hf hl,rfl,I.bare,Un.kept hk,⟨_,hn,fun i x v e1 e2 e3=>?_⟩,fun x c e=>?_,fr,fun x c e=>I.freeC x c (sub x c e),fun p hp=>by simp[gX] at hp,I.hok.kept hk,?_⟩
 ·have e2':(cap.map fun o=>o.bind fun j=>(σ[j]?).join)[i]?=some (some v):=e2
  rw[fH] at e2'
  cases hc:cap[i]? with
  | none=>rw[hc] at e2'; simp at e2'
  | some o=>
   rw[hc] at e2'
   simp only[rK,uN] at e2'
   cases o with
   | none=>simp at e2'
   | some j=>
    have e2':(σ[j]?).join=some v:=e2'
    have ej:σ[j]?=some (some v):=by
     cases q:σ[j]? with
     | none=>rw[q] at e2'; simp at e2'
     | some z=>rw[q] at e2'; simp at e2'; rw[e2']
    obtain⟨y,n1,n2,fr1⟩:=S.cap i j hc
    have exy:x=y:=eU (e1.symm.trans n1)
    subst exy
    have hmem:=lookup_mem fr1
    have hkind:=S.fre _ hmem rfl
    obtain⟨m,_,hlk⟩:=I.loc
    obtain⟨u,r,l⟩:=hlk j x v n2 ej (.inr hkind)
    refine⟨u,r,.inr ⟨?_,?_⟩⟩
    ·show(uH sc X.env).names.lookup x=some .cell \/ (uH sc X.env).names.lookup x=some .free
     rw[SO,fr1]
     simp only[rK,uN]
     by_cases hc:(gA == gA&&X.env.scope.kind == .function&&X.env.kindOf x == some .cell)=true
     ·exact .inl (if_pos hc)
     ·exact .inr (if_neg hc)
    ·rcases l with⟨k1,_⟩ | ⟨_,c,hc1,hcell⟩
     ·exfalso
      have k1':X.env.scope.names.lookup x=some .local:=k1
      rcases hkind with q | q
      ·rw[k1'] at q; cases q
      ·rw[k1'] at q; cases q
     ·obtain⟨oc,h1,h2⟩:=hcell
      exact⟨c,GU hc1 _ _ hmem,oc,hk _ _ h1,h2⟩
 ·obtain⟨v,oc,h1,h2⟩:=I.cell x c (sub x c e)
  exact⟨v,oc,hk _ _ h1,h2⟩
 ·show(cap.map _).length=N.length
  rw[cJ,S.len]
theorem comp_back {fp:List aD}{cl:List (aB×aD)}{σ':St}{H':Hp}{s':aH}{pl:List (aD×aX)}(I:Inv X pins σ H s)(hf : ∀ b∈fp,jE X pins H b)
  (I':Inv (gX X N sc cl s.heap.objs.size s H fp) pl σ' H' s'):Inv X pins σ H' s':=
 I.call' I'.os (show Un (frs X.stack) fp H H' s.heap s'.heap from I'.base) I'.hok I'.bare fun b hb=>⟨(hf b hb).2.2.2.1,(hf b hb).2.1,(hf b hb).2.2.2.2.1,(hf b hb).2.2.2.2.2⟩
end
section
variable {X:Cx}{N:List aB}{cap:List (Option Nat)}{sc:gZ}{elt iter tg:aS}{ifs:List aS}{pos:bG}{wi:TI}{g:TG}{tc:TT}{te:TE}
def Block (X:Cx)(N:List aB)(sc:gZ)(tg elt:aS)(ifs:List aS)(g:TG)(tc:TT)(te:TE):Prop:=
 ∀ (cl:List (aB×aD)) (C:aD) (s₀:aH) (H₀:Hp) (ex:List aD),PG (gX X N sc cl C s₀ H₀ ex) tg g/\yK (gX X N sc cl C s₀ H₀ ex) ifs tc/\PE (gX X N sc cl C s₀ H₀ ex) elt te
theorem NJ {pins:List (aD×aX)}{σ:St}{H:Hp}{s:aH}{RR:aE->aD->oB->aH->Prop}{E:aE->aH->Prop}(hc:X.calm=true)(S:CompScope X N cap sc)(hb:Block X N sc tg elt ifs g tc te)
  {it:aD} {fp:List aD} {tn:Nat->aU->Prop} {J:It} {Q:VK} (I:Inv X pins σ H s) (T:Turn X.prog X.w X.K tg J fp it tn) (st:tn 0 s.heap) (hf : ∀ b∈fp,jE X pins H b)
  (q:KA cap J g tc te σ H Q)
  (hRR : ∀ (D:aD) (s₀:aH) (H₀:Hp) (σ':St) (H':Hp) (s':aH),Inv X pins σ H₀ s₀->(∀ b∈fp,jE X pins H₀ b)->Inv (gX X N sc (eY X.env sc.names []) s₀.heap.objs.size s₀ H₀ fp) [] σ' H' s'->Q (.ref D) H' ->
   RR (.ref D) s₀.heap.objs.size (.ok .next) s') :
  aP (aQ X.prog X.w) X.A (newList []) (fun acc s₃=>aP (aQ X.prog X.w) X.A (newFunctionEnv sc X.env.globals (eY X.env sc.names []) [] X.env.qual none .none (some X.env)) (fun cenv s₄=>
   iY (aQ X.prog X.w) X.A (.compStart (.ListComp elt [⟨tg,iter,ifs,0⟩] sc pos) 0 (.ref it) acc { cenv with scope:=uH sc X.env }) (RR acc cenv.locals) s₄) E s₃) E s:=by
 have hl : ∀ b∈fp,b<s.heap.objs.size:=fun b hb=>by
  obtain⟨o,e,_⟩:=T.obj 0 _ st b hb
  exact cE e
 refine pN (wpAny_newFunctionEnv S.nocell (by intro y hy; simp at hy) (fun h₁ hns₁ hsb₁=>?_) S.kind)
 dsimp only at hns₁ hsb₁ ⊢
 have I0:Inv X pins σ (upd H s.heap.objs.size (.lst [])) { s with heap:=s.heap.push { cls:=.type "list",data:=.seq ([]:List aE).toArray },toks:=s.toks }:=I.lnew (ys:=[]) .nil (by simp)
 obtain⟨W,⟨m0,w0⟩,turn⟩:=q s.heap.objs.size I.fresh
 generalize hs0:({ s with heap:=s.heap.push { cls:=.type "list",data:=.seq ([]:List aE).toArray },toks:=s.toks }:aH)=s0 at I0
 have hh:s.heap.push { cls:=.type "list",dict:=none,data:=.seq ([]:List aE).toArray }=s0.heap:=by rw[← hs0]
 have ht0:s0.toks=s.toks:=by rw[← hs0]
 have hg0:s0.gens=s.gens/\s0.drawn=s.drawn/\s0.os=s.os:=by rw[← hs0]; exact⟨rfl,rfl,rfl⟩
 rw[hh] at hns₁ hsb₁ ⊢
 have old0 : ∀ b o,s.heap.get? b=some o->s0.heap.get? b=some o:=fun b o e=>by rw[← hh]; exact cX _ e
 have old1 : ∀ b o,s0.heap.get? b=some o->h₁.get? b=some o:=fun b o e=>hsb₁.extBut b o (dF (cE e)) (cX _ e)
 have hl0 : ∀ b∈fp,b<s0.heap.objs.size:=fun b hb=>by
  obtain⟨o,e,_⟩:=T.obj 0 _ st b hb
  exact cE (old0 b o e)
 have hf0 : ∀ b∈fp,jE X pins (upd H s.heap.objs.size (.lst [])) b:=fun b hb=>by
  refine⟨?_,(hf b hb).2⟩
  rw[bP (dF (hl b hb))]
  exact(hf b hb).1
 have I1:Inv (gX X N sc (eY X.env sc.names []) s0.heap.objs.size s0 (upd H s.heap.objs.size (.lst [])) fp) [] (rT cap σ) (upd H s.heap.objs.size (.lst [])) { s0 with heap:=h₁,toks:=s.toks+0 }:=
  Qk S I0 hf0 hl0 hns₁ old1
 obtain⟨pg,pf,pe⟩:=hb (eY X.env sc.names []) s0.heap.objs.size s0 (upd H s.heap.objs.size (.lst [])) fp
 have st1:tn 0 h₁:=T.keep _ _ _ st fun b hb o e=>old1 b o (old0 b o e)
 have stat : ∀ {H':Hp},(∀ b∈fp,H' b=none) -> ∀ b∈fp,jE (gX X N sc (eY X.env sc.names []) s0.heap.objs.size s0 (upd H s.heap.objs.size (.lst [])) fp) [] H' b:=fun hn b hb=>
  ⟨hn b hb,(I1.ok.exf b hb).1,I1.ok.exfs b hb,.inl hb,(I1.ok.exf b hb).2,fun p hp=>by simp[gX] at hp⟩
 have loop : ∀ s3:aH,s3 = { s0 with heap:=h₁,toks:=s.toks+0 } ->
   iY (aQ X.prog X.w) X.A (.compLoop (.ListComp elt [⟨tg,iter,ifs,0⟩] sc pos) 0 (.ref it) (.ref s.heap.objs.size) (compEnvC sc (eY X.env sc.names []) s0.heap.objs.size X.env)) (RR (.ref s.heap.objs.size) s0.heap.objs.size) s3:=by
  rintro s3 rfl
  refine Ha (fun n s'=>∃ i ys σ' H',Inv (gX X N sc (eY X.env sc.names []) s0.heap.objs.size s0 (upd H s.heap.objs.size (.lst [])) fp) [] σ' H' s'/\tn i s'.heap/\(∀ b∈fp,H' b=none)/\W i n ys σ' H') ?_ m0
   ⟨0,[],rT cap σ,_,I1,st1,fun b hb=>(hf0 b hb).1,w0⟩
  rintro n s3 ⟨i,ys,σ3,H3,I3,st3,fr3,w3⟩
  obtain⟨hD,h3⟩:=turn i n ys σ3 H3 w3
  rcases h3 with⟨stop,qn⟩ | ⟨go,hlen,M,hM,step⟩
  ·refine thn (T.done (gX X N sc (eY X.env sc.names []) s0.heap.objs.size s0 (upd H s.heap.objs.size (.lst [])) fp) rfl rfl rfl hc i [] s3 σ3 H3 (fun _ _=>False) I3 (stat fr3) st3 stop) fun r s4 gh=>?_
   obtain⟨hr,I4⟩:=gh
   subst hr
   exact hRR _ s0 _ σ3 H3 s4 I0 hf0 I4 qn
  ·refine thn (T.item (gX X N sc (eY X.env sc.names []) s0.heap.objs.size s0 (upd H s.heap.objs.size (.lst [])) fp) rfl rfl rfl hc i [] s3 σ3 H3 (fun _ _=>False) I3 (stat fr3) st3 go) fun r s4 gh=>?_
   obtain⟨u,hr,h4⟩:=gh
   subst hr
   refine thn h4 fun _ s5 gh=>?_
   obtain⟨x,H5,I5,r5,y5,st5,fr5⟩:=gh
   have I5':=I5.pinned (stat fr5) (T.obj _ _ st5)
   refine thn (pg _ s5 σ3 H5 x u _ I5' r5 (step x H5 y5)) fun _ s6 gh=>?_
   obtain⟨σ6,H6,I6,q6⟩:=gh
   refine thn (pf _ s6 σ6 H6 _ I6 q6) fun b s7 gh=>?_
   obtain⟨H7,I7,q7⟩:=gh
   have again : ∀ {s8:aH} {H8:Hp} {zs:List V},Inv (gX X N sc (eY X.env sc.names []) s0.heap.objs.size s0 (upd H s.heap.objs.size (.lst [])) fp) ([]++vV fp s5.heap) σ6 H8 s8->M zs σ6 H8 ->
     ∃ m,m<n /\ ∃ i ys σ' H',Inv (gX X N sc (eY X.env sc.names []) s0.heap.objs.size s0 (upd H s.heap.objs.size (.lst [])) fp) [] σ' H' s8/\tn i s8.heap/\(∀ b∈fp,H' b=none)/\W i m ys σ' H':=fun {s8 H8 zs} I8 w8=>by
    obtain⟨m',hm,w8⟩:=hM _ _ _ w8
    refine⟨m',hm,i+1,zs,σ6,H8,I8.unpinned,T.keep _ _ _ st5 fun b hb o e=>(I8.pin (b,o) (mY _ (mY _ (zY hb e)))).1,fun b hb=>?_,w8⟩
    obtain⟨o,e,d⟩:=T.obj _ _ st5 b hb
    exact(I8.pin (b,o) (mY _ (mY _ (zY hb e)))).2.1
   cases b with
   | false=>
    rw[if_neg oM] at q7 ⊢
    exact again I7 q7
   | true=>
    rw[if_pos rfl] at q7 ⊢
    refine thn (pe _ s7 σ6 H7 _ I7 q7) fun v s8 gh=>?_
    obtain⟨y,H8,I8,r8,hD8,w8⟩:=gh
    refine thn (QE _ s8 σ6 H8 (.ref s.heap.objs.size) [y] (.ref s.heap.objs.size) [v] (fun _ H9=>H9=upd H8 s.heap.objs.size (.lst (ys++[y]))) I8 rfl (.cons r8 .nil) ⟨_,ys,y,rfl,rfl,hD8,hlen,rfl⟩) fun _ s9 gh=>?_
    obtain⟨_,H9,I9,_,e9⟩:=gh
    subst e9
    exact again I9 w8
 have e3:({ s with heap:=h₁,toks:=s.toks+([]:List (aB×aE)).length }:aH) = { s0 with heap:=h₁,toks:=s.toks+0 }:=by
  rw[← hs0]; rfl
 have fin:=codeAny_compStart_list (loop _ rfl) (T.self X.A 0 _ _ _ st1 (loop _ rfl))
 rw[← e3] at fin
 exact fin
theorem YJ (hc:X.calm=true)(S:CompScope X N cap sc)(hi:PI X tg iter wi)(hb:Block X N sc tg elt ifs g tc te)(hs : ∀ x,rF iter X.env x=pure x:=by intro _; rfl) :
  PE X (.ListComp elt [⟨tg,iter,ifs,0⟩] sc pos) (tLC cap wi g tc te):=by
 intro pins s σ H Q I h
 rw[eval_ListComp]
 refine wpAny_comprehension_free rfl hs (SW (S.cells I.ok)) S.kind S.nm (thn (hi pins s σ H _ I h) fun v s1 h1=>thn h1 fun itv s2 h2=>?_)
 obtain⟨it,fp,tn,J,H2,e,I2,T,st2,f2,q2⟩:=h2
 subst e
 refine NJ hc S hb I2 T st2 f2 q2 ?_
 intro D s₀ H₀ σ' H' s' I0 f0 I' qD
 obtain⟨m,hn,_⟩:=id I'.loc
 have IX:=comp_back I0 f0 I'
 refine⟨m,hn,fun h' hs'=>⟨.ref D,H',?_,rfl,qD⟩⟩
 exact IX.turned (fun b o hb e=>(hs'.2 b hb).trans e) I'.free (rL I0.lt) (.inr I0.sz) (fun x c e z=>by
  obtain⟨v,oc,h1,_⟩:=I0.cell x c e
  exact absurd (cE h1) (by rw[z]; exact jP _)) fun p hp z=>by
   have h1:=(I0.pin p hp).1
   exact absurd (cE h1) (by rw[z]; exact jP _)
theorem Oj {i:Nat}{x:aB}{px spos:bG}(hc:X.calm=true)(hN:X.N.Nodup)(hi':X.N[i]?=some x)(hx:lL X.env.scope x)(S:CompScope X N cap sc)(hi:PI X tg iter wi)(hb:Block X N sc tg elt ifs g tc te)
  (hsw:lT (.ListComp elt [⟨tg,iter,ifs,0⟩] sc pos) (some (.Name x px)) spos.line X.env=pure true:=by rfl)
  (hs : ∀ x,rF iter X.env x=pure x:=by intro _; rfl) (hf:X.fn x=true \/ X.env.scope.names.lookup x=some .local:=by first | exact .inl rfl | exact .inr rfl | assumption) :
  PS X (.Assign [.Name x px] (.ListComp elt [⟨tg,iter,ifs,0⟩] sc pos) spos) (CF (tLC cap wi g tc te) (HU i)):=by
 intro pins s σ H D I h
 rw[exec_Assign_Name_used _ _ _ _ hsw]
 refine aM (wpAny_standAt (aM ?_))
 refine aM (iW (wpAny_comprehension_free rfl hs (SW (S.cells I.ok)) S.kind S.nm
  (thn (hi pins s σ H _ I h) fun v s1 h1=>thn h1 fun itv s2 h2=>?_)) (fun _ s' hq=>aY (aY hq)) fun _ _ e=>e)
 obtain⟨it,fp,tn,J,H2,e,I2,T,st2,f2,q2⟩:=h2
 subst e
 refine NJ hc S hb I2 T st2 f2 q2 ?_
 intro D' s₀ H₀ σ' H' s' I0 f0 I' qD
 obtain⟨m,hn,_⟩:=id I'.loc
 have IX:=comp_back I0 f0 I'
 have cellNe : ∀ x c,X.env.cells.lookup x=some c->c≠s₀.heap.objs.size:=fun x c e z=>by
  obtain⟨v,oc,h1,_⟩:=I0.cell x c e
  exact absurd (cE h1) (by rw[z]; exact jP _)
 refine wpAny_assign_Name (QH IX hN hi' hx (show RelV (.ref D') (.ref D') from rfl) (fun s3 I3 ch=>?_) hf)
 obtain⟨a,sb,ha⟩:=ch
 have hne:s₀.heap.objs.size≠a:=by
  rcases ha with z | z
  ·rw[z]; exact rL I0.lt
  ·exact fun q=>cellNe x a z q.symm
 refine⟨m,Heap.Ns.sameBut hn sb hne,fun h' hs'=>⟨_,H',?_,qD⟩⟩
 exact I3.turned (fun b o hb e=>(hs'.2 b hb).trans e) I'.free (rL I0.lt) (.inr I0.sz) cellNe fun p hp z=>by
  have h1:=(I0.pin p hp).1
  exact absurd (cE h1) (by rw[z]; exact jP _)
end
noncomputable def MV (out:List (aB×lH))(XN N:List aB)(cap:List (Option Nat))(ns:List (aB×lH)):Bool:=
 ns.all (fun y=>y.2 != .cell)&&ns.all (fun y=>y.2 != .local||ns.lookup y.1 == some .local)&&ns.all (fun y=>y.2 != .free||out.lookup y.1 == some .cell||out.lookup y.1 == some .free) &&
 cap.length == N.length&&(cap.zip N).all (fun p=>match p.1 with | none=>true | some j=>XN[j]? == some p.2&&ns.lookup p.2 == some .free)
theorem lB {X:Cx}{N:List aB}{cap:List (Option Nat)}{sc:gZ}{out:List (aB×lH)}{XN:List aB}(h1:X.env.scope.names=out)(h2:X.N=XN)(chk:MV out XN N cap sc.names=true)(hk:sc.kind = .function):CompScope X N cap sc:=by
 unfold MV at chk
 simp only[rQ,fQ,bne_iff_ne,ne_eq,Bool.or_eq_true,beq_iff_eq] at chk
 obtain⟨⟨⟨⟨c1,c2⟩,c3⟩,c4⟩,c5⟩:=chk
 refine⟨hk,c1,fun y hy e=>?_,fun y hy e=>?_,c4,fun i j e=>?_⟩
 ·rcases c2 y hy with q | q
  ·exact absurd e q
  ·exact q
 ·rw[h1]
  rcases c3 y hy with(q | q) | q
  ·exact absurd e q
  ·exact .inl q
  ·exact .inr q
 ·have hi:=(fI.mp e).1
  have hi':i<N.length:=by omega
  have hm:(cap[i],N[i])∈cap.zip N:=by
   have:(cap.zip N)[i]?=some (cap[i],N[i]):=by
    rw[List.getElem?_zip_eq_some]
    exact⟨iP hi,iP hi'⟩
   exact pS this
  have q:=c5 _ hm
  have ec:cap[i]=some j:=by
   rw[iP hi] at e
   exact eU e
  rw[ec] at q
  simp only[rQ,beq_iff_eq] at q
  exact⟨N[i],iP hi',by rw[h2]; exact q.1,q.2⟩
abbrev Ext (H H':Hp):Prop:=∀ b o,H b=some o->H' b=some o
theorem Ext.refl {H:Hp}:Ext H H:=fun _ _ e=>e
theorem Ext.trans {H H1 H2:Hp}(a:Ext H H1)(b:Ext H1 H2):Ext H H2:=fun x o e=>b x o (a x o e)
theorem Ext.new {H:Hp}{p:aD}{o:HO}(n:H p=none):Ext H (upd H p o):=fun b u e=>by
 rw[bP (gY e n)]; exact e
theorem Ext.rd {H H':Hp}(x:Ext H H'){a:aD}{u:HO}(r:Rd H a u):Rd H' a u:=by
 rcases r with r | ⟨o,r⟩
 ·exact .inl (x _ _ r)
 ·exact .inr ⟨o,x _ _ r⟩
theorem Ext.sqL {K:aJ}{H H':Hp}(x:Ext H H'){a:aD}{xs:List V}(h:SqL K H a xs):SqL K H' a xs:=h.imp x.rd id
theorem Ext.none {H H':Hp}(x:Ext H H'){a:aD}(h:H' a=Option.none):H a=Option.none:=by
 cases e:H a with
 | none=>rfl
 | some o=>rw[x a o e] at h; cases h
open Classical in
noncomputable def hid (H:Hp)(P:aD->Prop):Hp:=fun a=>if P a then none else H a
theorem Ada {H:Hp}{P:aD->Prop}{a:aD}{o:HO}:hid H P a=some o ↔ ¬ P a/\H a=some o:=by
 unfold hid
 by_cases h:P a <;> simp[h]
theorem gJ {H:Hp}{P:aD->Prop}{a:aD}{o:HO}(n : ¬ P a)(e:H a=some o):hid H P a=some o:=Ada.mpr ⟨n,e⟩
theorem Aa0 {H:Hp}{P:aD->Prop}:Ext (hid H P) H:=fun _ _ e=>(Ada.mp e).2
theorem cI {H H':Hp}{P:aD->Prop}(x:Ext H H'):Ext (hid H P) (hid H' P):=fun b o e=>by
 obtain⟨n,e⟩:=Ada.mp e
 exact gJ n (x b o e)
theorem iH {H:Hp}{P P':aD->Prop}(s : ∀ a,P' a->P a):Ext (hid H P) (hid H P'):=fun b o e=>by
 obtain⟨n,e⟩:=Ada.mp e
 exact gJ (fun q=>n (s b q)) e
inductive DQ where
 | inl (kvs:Nat×List (aN×V)) | inr (ts:Nat×List (List aA×V)) | ins (C dx:aD) (fs:List (aB×V))
noncomputable def dO:DQ->HO
 | .inl kvs=>.dK kvs.1 kvs.2
 | .inr ts=>.dT ts.1 ts.2
 | .ins C dx fs=>.ins C dx fs
def Hid (P:aD->Prop)(H:Hp):Prop:=∀ a,P a->(∃ xs,H a=some (.lst xs)) \/ ∃ q:DQ,H a=some (dO q)
theorem Hid.ext {P:aD->Prop}{H H':Hp}(h:Hid P H)(x:Ext H H'):Hid P H':=fun a p=>(h a p).imp (fun⟨xs,e⟩=>⟨xs,x _ _ e⟩) fun⟨xs,e⟩=>⟨xs,x _ _ e⟩
theorem Hid.new {P:aD->Prop}{H:Hp}(h:Hid P H){a:aD}(n:H a=none) : ¬ P a:=fun p=>by
 rcases h a p with⟨xs,e⟩ | ⟨xs,e⟩ <;> rw[n] at e <;> cases e
theorem Hid.tup {P:aD->Prop}{H:Hp}(h:Hid P H){a:aD}{xs:List V}(e:H a=some (.tup xs)):hid H P a=some (.tup xs):=gJ (fun p=>by
 rcases h a p with⟨ys,e2⟩ | ⟨ys,e2⟩ <;> rw[e] at e2 <;> first | cases e2 | (cases ys <;> simp[dO] at e2)) e
abbrev orL (P:aD->Prop)(F:List aD):aD->Prop:=fun a=>P a \/ a∈F
theorem MF {P:aD->Prop}:orL P []=P:=by
 funext a
 simp[orL]
noncomputable def kD:aN->aA
 | .inl i=>.int i
 | .inr x=>.str x
noncomputable def JR (a:aD)(kvs:Nat×List (V×V)):HO:=.ext fun h=>kvs.2.length≤sizeLine/\(a == iB)=false /\ ∃ o es,h.get? a=some o/\o.ExactDict/\o.data = .dict es kvs.1/\eO (fun(p:V×V) (e:oK)=>RelV p.1 e.key/\RelV p.2 e.val) kvs.2 es.toList
noncomputable def dM (K:aJ)(c:aB):Option aE:=(cP K bZ c).join
def Avc (x:aD)(cls:aE)(h:aU):Prop:=∃ o,h.get? x=some o/\o.cls=cls /\ ∃ vs,o.data = .fields vs
noncomputable def exO (cls:aE)(a:aD):HO:=.ext (Avc a cls)
def A5g (K:aJ)(H:Hp)(kds:List (aA×aA))(a:aD):Prop:=(∃ c cls,kds=[(.none,.str c),(.none,.none)]/\dM K c=some cls/\H a=some (exO cls a)) \/ ∃ c,kds=[(.none,.str c),(.none,.bool false)]/\dM K c=some (.ref a)
theorem A5g.mark {K:aJ}{H:Hp}{kds:List (aA×aA)}{a:aD}(h:A5g K H kds a) : ∃ c m,kds=[(.none,.str c),(.none,m)]:=by
 rcases h with⟨c,_,e,_⟩ | ⟨c,e,_⟩
 ·exact⟨c,_,e⟩
 ·exact⟨c,_,e⟩
theorem A5g.ext {K:aJ}{H H':Hp}(x:Ext H H'){kds:List (aA×aA)}{a:aD}(h:A5g K H kds a):A5g K H' kds a:=h.imp (fun⟨c,cls,e,h1,h2⟩=>⟨c,cls,e,h1,x _ _ h2⟩) id
mutual
def Abb (K:aJ)(H:Hp):aA->V->Prop
 | .none,v=>v = .non
 | .bool b,v=>v = .bl b
 | .int i,v=>v = .int i
 | .str x,v=>v = .str x/\cM (.str x)=true
 | .list ds,v=>∃ a xs,v = .ref a/\SqL K H a xs/\Aau K H ds xs
 | .tuple ds,v=>∃ a xs,v = .ref a/\H a=some (.tup xs)/\Aau K H ds xs
 | .dict kds,v=>∃ a,v = .ref a/\((∃ kvs:Nat×List (aN×V),H a=some (.dK kvs.1 kvs.2)/\Abp K H kds kvs.2) \/ (∃ ts:Nat×List (List aA×V),H a=some (.dT ts.1 ts.2)/\Avx K H kds ts.2) \/ (∃ xs,H a=some (JR a xs)/\Ay4 K H kds xs.2) \/ A5g K H kds a \/ Aw9 K H kds a)
def Aau (K:aJ)(H:Hp):List aA->List V->Prop
 | [],xs=>xs=[]
 | d::ds,xs=>∃ x r,xs=x::r/\Abb K H d x/\Aau K H ds r
def Abp (K:aJ)(H:Hp):List (aA×aA)->List (aN×V)->Prop
 | [],xs=>xs=[]
 | (k,d)::ds,xs=>∃ k' x r,xs=(k',x)::r/\k=kD k'/\Abb K H d x/\Abp K H ds r
def Acf (K:aJ)(H:Hp):List (aA×aA)->List (List aA×V)->Prop
 | [],xs=>xs=[]
 | (k,d)::ds,xs=>∃ k' x r,xs=(k',x)::r/\(k = .tuple k'/\bX k'=true)/\Abb K H d x/\Acf K H ds r
def Avx (K:aJ)(H:Hp):List (aA×aA)->List (List aA×V)->Prop
 | [],_=>False
 | (k,_)::ds,xs=>k = .none/\Acf K H ds xs
def Ay4 (K:aJ)(H:Hp):List (aA×aA)->List (V×V)->Prop
 | [],_=>False
 | (k,m)::ds,xs=>k = .none/\ds=[(.none,.none)]/\Ari K H m xs
def Ari (K:aJ)(H:Hp):aA->List (V×V)->Prop
 | .list es,xs=>Aij K H es xs
 | _,_=>False
def Aij (K:aJ)(H:Hp):List aA->List (V×V)->Prop
 | [],xs=>xs=[]
 | d::ds,xs=>∃ x r,xs=x::r/\Alz K H d x/\Aij K H ds r
def Alz (K:aJ)(H:Hp):aA->V×V->Prop
 | .tuple ds,x=>Aau K H ds [x.1,x.2]
 | _,_=>False
def Aw9 (K:aJ)(H:Hp):List (aA×aA)->aD->Prop
 | [],_=>False
 | (k,m)::ds,a=>k = .none /\ ∃ c C dx fs,m = .str c/\dM K c=some (.ref C)/\H a=some (.ins C dx fs)/\Ahv K H ds fs
def Ahv (K:aJ)(H:Hp):List (aA×aA)->List (aB×V)->Prop
 | [],fs=>fs=[]
 | (k,m)::ds,fs=>∃ f x r,fs=(f,x)::r/\k = .none/\Alz K H m (.str f,x)/\Ahv K H ds r
end
noncomputable def plK:List (aA×aA)->Bool
 | (.none,_)::_=>false
 | _=>true
section
variable {K:aJ}{H H':Hp}
theorem Aca {v:V}:Abb K H .none v↔v = .non:=by simp[Abb]
theorem Aar {b:Bool}{v:V}:Abb K H (.bool b) v↔v = .bl b:=by simp[Abb]
theorem Aat {b:Int}{v:V}:Abb K H (.int b) v↔v = .int b:=by simp[Abb]
theorem Aas {b:aB}{v:V}:Abb K H (.str b) v↔v = .str b/\cM (.str b)=true:=by simp only[Abb]
theorem Abg {ds:List aA}{v:V}:Abb K H (.list ds) v ↔ ∃ a xs,v = .ref a/\SqL K H a xs/\Aau K H ds xs:=by simp only[Abb]
theorem Aay {ds:List aA}{v:V}:Abb K H (.tuple ds) v ↔ ∃ a xs,v = .ref a/\H a=some (.tup xs)/\Aau K H ds xs:=by simp only[Abb]
theorem Aby {ds:List (aA×aA)}{v:V}:Abb K H (.dict ds) v ↔ ∃ a,v = .ref a/\((∃ kvs:Nat×List (aN×V),H a=some (.dK kvs.1 kvs.2)/\Abp K H ds kvs.2) \/ (∃ ts:Nat×List (List aA×V),H a=some (.dT ts.1 ts.2)/\Avx K H ds ts.2) \/ (∃ xs,H a=some (JR a xs)/\Ay4 K H ds xs.2) \/ A5g K H ds a \/ Aw9 K H ds a):=by simp only[Abb]
theorem Ahn {k m:aA}{ds:List (aA×aA)}{a:aD}:Aw9 K H ((k,m)::ds) a↔k = .none /\ ∃ c C dx fs,m = .str c/\dM K c=some (.ref C)/\H a=some (.ins C dx fs)/\Ahv K H ds fs:=by simp only[Aw9]
theorem Aj1 {fs:List (aB×V)}:Ahv K H [] fs↔fs=[]:=by simp[Ahv]
theorem Adt {k m:aA}{ds:List (aA×aA)}{fs:List (aB×V)}:Ahv K H ((k,m)::ds) fs ↔ ∃ f x r,fs=(f,x)::r/\k = .none/\Alz K H m (.str f,x)/\Ahv K H ds r:=by simp only[Ahv]
theorem OX : ∀ {ds:List (aA×aA)} {fs:List (aB×V)},Ahv K H ds fs -> ∀ p∈ds,p.1 = .none
 | [],_,_,p,m=>by simp at m
 | (k,d)::ds,fs,h,p,m=>by
  obtain⟨_,_,_,_,rfl,_,h2⟩:=Adt.mp h
  rcases cQ.mp m with rfl | m
  ·rfl
  ·exact OX h2 p m
theorem yU {ds:List (aA×aA)}{a:aD}(h:A5g K H ds a \/ Aw9 K H ds a) : ∃ c r,ds=(.none,.str c)::r /\ ∀ p∈r,p.1 = .none:=by
 rcases h with h | h
 ·obtain⟨c,m,rfl⟩:=h.mark
  exact⟨c,_,rfl,fun p m=>by rw[dB.mp m]⟩
 ·cases ds with
  | nil=>simp[Aw9] at h
  | cons p r=>
   obtain⟨k,m⟩:=p
   obtain⟨rfl,c,_,_,_,rfl,_,_,h2⟩:=Ahn.mp h
   exact⟨c,r,rfl,OX h2⟩
theorem Ago {k m:aA}{ds:List (aA×aA)}{xs:List (V×V)}:Ay4 K H ((k,m)::ds) xs↔k = .none/\ds=[(.none,.none)]/\Ari K H m xs:=by simp only[Ay4]
theorem Ef {m:aA}{xs:List (V×V)}(h:Ari K H m xs) : ∃ es,m = .list es/\Aij K H es xs:=by
 cases m with
 | list es=>exact⟨es,rfl,by simpa only[Ari] using h⟩
 | _=>simp[Ari] at h
theorem At0 {xs:List (V×V)}:Aij K H [] xs↔xs=[]:=by simp[Aij]
theorem Aor {d:aA}{ds:List aA}{xs:List (V×V)}:Aij K H (d::ds) xs ↔ ∃ x r,xs=x::r/\Alz K H d x/\Aij K H ds r:=by simp only[Aij]
theorem tP {ds:List (aA×aA)}{xs:List (V×V)}(h:Ay4 K H ds xs) : ∃ es,ds=[(.none,.list es),(.none,.none)]/\Aij K H es xs:=by
 cases ds with
 | nil=>simp[Ay4] at h
 | cons p r=>
  obtain⟨k,m⟩:=p
  obtain⟨rfl,rfl,h1⟩:=Ago.mp h
  obtain⟨es,rfl,h2⟩:=Ef h1
  exact⟨es,rfl,h2⟩
theorem Aco {xs:List (List aA×V)}:Acf K H [] xs↔xs=[]:=by simp[Acf]
theorem Aa9 {k d:aA}{ds:List (aA×aA)}{xs:List (List aA×V)}:Acf K H ((k,d)::ds) xs ↔ ∃ k' x r,xs=(k',x)::r/\(k = .tuple k'/\bX k'=true)/\Abb K H d x/\Acf K H ds r:=by simp only[Acf]
theorem Adc {k m:aA}{ds:List (aA×aA)}{xs:List (List aA×V)}:Avx K H ((k,m)::ds) xs↔k = .none/\Acf K H ds xs:=by simp only[Avx]
theorem Qj {ds:List (aA×aA)}{xs:List (List aA×V)}(hk:plK ds=true) : ¬ Avx K H ds xs:=by
 cases ds with
 | nil=>simp[Avx]
 | cons p r=>
  obtain⟨k,d⟩:=p
  intro h
  rw[(Adc.mp h).1] at hk
  simp[plK] at hk
theorem qS {ds:List (aA×aA)}{v:V}(hk:plK ds=true):Abb K H (.dict ds) v ↔ ∃ a,∃ kvs:Nat×List (aN×V),v = .ref a/\H a=some (.dK kvs.1 kvs.2)/\Abp K H ds kvs.2:=by
 rw[Aby]
 constructor
 ·rintro⟨a,e,⟨kvs,h,r⟩ | ⟨ts,h,r⟩ | ⟨xs,h,r⟩ | r⟩
  case inr.inr.inr=>
   obtain⟨_,_,rfl,_⟩:=yU r
   simp[plK] at hk
  ·exact⟨a,kvs,e,h,r⟩
  ·exact absurd r (Qj hk)
  ·obtain⟨es,rfl,_⟩:=tP r
   simp[plK] at hk
 ·rintro⟨a,kvs,e,h,r⟩
  exact⟨a,e,.inl ⟨kvs,h,r⟩⟩
theorem GD {ds:List (aA×aA)}{v:V}{a:aD}{kvs:Nat×List (aN×V)}(e:v = .ref a)(h:H a=some (.dK kvs.1 kvs.2))(r:Abp K H ds kvs.2):Abb K H (.dict ds) v:=Aby.mpr ⟨a,e,.inl ⟨kvs,h,r⟩⟩
theorem Aao {xs:List V}:Aau K H [] xs↔xs=[]:=by simp[Aau]
theorem Aag {d:aA}{ds:List aA}{xs:List V}:Aau K H (d::ds) xs ↔ ∃ x r,xs=x::r/\Abb K H d x/\Aau K H ds r:=by simp only[Aau]
theorem Abl {xs:List (aN×V)}:Abp K H [] xs↔xs=[]:=by simp[Abp]
theorem Aa1 {k d:aA}{ds:List (aA×aA)}{xs:List (aN×V)}:Abp K H ((k,d)::ds) xs ↔ ∃ k' x r,xs=(k',x)::r/\k=kD k'/\Abb K H d x/\Abp K H ds r:=by simp only[Abp]
theorem pC {m:aA}{ds:List (aA×aA)}{v:V}(hm : ∀ es,m ≠ .list es:=by intro _ z; cases z)(hm2 : ∀ c,m ≠ .str c:=by intro _ z; cases z):Abb K H (.dict ((.none,m)::ds)) v ↔ ∃ a,∃ ts:Nat×List (List aA×V),v = .ref a/\H a=some (.dT ts.1 ts.2)/\Acf K H ds ts.2:=by
 rw[Aby]
 constructor
 ·rintro⟨a,e,⟨kvs,h,r⟩ | ⟨ts,h,r⟩ | ⟨xs,h,r⟩ | r⟩
  case inr.inr.inr=>
   obtain⟨_,_,z,_⟩:=yU r
   cases z
   exact absurd rfl (hm2 _)
  ·obtain⟨k',_,_,_,ek,_⟩:=Aa1.mp r
   cases k' <;> simp[kD] at ek
  ·exact⟨a,ts,e,h,(Adc.mp r).2⟩
  ·obtain⟨es,z,_⟩:=tP r
   cases z
   exact absurd rfl (hm es)
 ·rintro⟨a,ts,e,h,r⟩
  exact⟨a,e,.inr (.inl ⟨ts,h,Adc.mpr ⟨rfl,r⟩⟩)⟩
end
mutual
theorem Abb.ext {K:aJ}{H H':Hp}(x:Ext H H') : ∀ {d:aA} {v:V},Abb K H d v->Abb K H' d v
 | .none,_,h=>Aca.mpr (Aca.mp h)
 | .bool _,_,h=>Aar.mpr (Aar.mp h)
 | .int _,_,h=>Aat.mpr (Aat.mp h)
 | .str _,_,h=>Aas.mpr (Aas.mp h)
 | .list ds,_,h=>by
  obtain⟨a,xs,e,s,r⟩:=Abg.mp h
  exact Abg.mpr ⟨a,xs,e,x.sqL s,Aau.ext x r⟩
 | .tuple ds,_,h=>by
  obtain⟨a,xs,e,s,r⟩:=Aay.mp h
  exact Aay.mpr ⟨a,xs,e,x _ _ s,Aau.ext x r⟩
 | .dict ds,_,h=>by
  obtain⟨a,e,⟨kvs,r,q⟩ | ⟨ts,r,q⟩ | ⟨xs,r,q⟩ | r⟩:=Aby.mp h
  ·exact Aby.mpr ⟨a,e,.inl ⟨kvs,x _ _ r,Abp.ext x q⟩⟩
  ·exact Aby.mpr ⟨a,e,.inr (.inl ⟨ts,x _ _ r,Avx.ext x q⟩)⟩
  ·exact Aby.mpr ⟨a,e,.inr (.inr (.inl ⟨xs,x _ _ r,Ay4.ext x q⟩))⟩
  ·exact Aby.mpr ⟨a,e,.inr (.inr (.inr (r.imp (fun r=>r.ext x) fun r=>Aw9.ext x r)))⟩
theorem Aw9.ext {K:aJ}{H H':Hp}(x:Ext H H') : ∀ {ds:List (aA×aA)} {a:aD},Aw9 K H ds a->Aw9 K H' ds a
 | [],_,h=>absurd h (by simp[Aw9])
 | (k,d)::ds,_,h=>by
  obtain⟨e,c,C,dx,fs,e1,e2,e3,h2⟩:=Ahn.mp h
  exact Ahn.mpr ⟨e,c,C,dx,fs,e1,e2,x _ _ e3,Ahv.ext x h2⟩
theorem Ahv.ext {K:aJ}{H H':Hp}(x:Ext H H') : ∀ {ds:List (aA×aA)} {fs:List (aB×V)},Ahv K H ds fs->Ahv K H' ds fs
 | [],_,h=>Aj1.mpr (Aj1.mp h)
 | (k,d)::ds,_,h=>by
  obtain⟨f,y,r,e,ek,h1,h2⟩:=Adt.mp h
  exact Adt.mpr ⟨f,y,r,e,ek,Alz.ext x h1,Ahv.ext x h2⟩
theorem Aau.ext {K:aJ}{H H':Hp}(x:Ext H H') : ∀ {ds:List aA} {vs:List V},Aau K H ds vs->Aau K H' ds vs
 | [],_,h=>Aao.mpr (Aao.mp h)
 | d::ds,_,h=>by
  obtain⟨y,r,e,h1,h2⟩:=Aag.mp h
  exact Aag.mpr ⟨y,r,e,Abb.ext x h1,Aau.ext x h2⟩
theorem Abp.ext {K:aJ}{H H':Hp}(x:Ext H H') : ∀ {ds:List (aA×aA)} {vs:List (aN×V)},Abp K H ds vs->Abp K H' ds vs
 | [],_,h=>Abl.mpr (Abl.mp h)
 | (k,d)::ds,_,h=>by
  obtain⟨k',y,r,e,ek,h1,h2⟩:=Aa1.mp h
  exact Aa1.mpr ⟨k',y,r,e,ek,Abb.ext x h1,Abp.ext x h2⟩
theorem Acf.ext {K:aJ}{H H':Hp}(x:Ext H H') : ∀ {ds:List (aA×aA)} {vs:List (List aA×V)},Acf K H ds vs->Acf K H' ds vs
 | [],_,h=>Aco.mpr (Aco.mp h)
 | (k,d)::ds,_,h=>by
  obtain⟨k',y,r,e,ek,h1,h2⟩:=Aa9.mp h
  exact Aa9.mpr ⟨k',y,r,e,ek,Abb.ext x h1,Acf.ext x h2⟩
theorem Avx.ext {K:aJ}{H H':Hp}(x:Ext H H') : ∀ {ds:List (aA×aA)} {vs:List (List aA×V)},Avx K H ds vs->Avx K H' ds vs
 | [],_,h=>absurd h (by simp[Avx])
 | (k,d)::ds,_,h=>Adc.mpr ⟨(Adc.mp h).1,Acf.ext x (Adc.mp h).2⟩
theorem Ay4.ext {K:aJ}{H H':Hp}(x:Ext H H') : ∀ {ds:List (aA×aA)} {vs:List (V×V)},Ay4 K H ds vs->Ay4 K H' ds vs
 | [],_,h=>absurd h (by simp[Ay4])
 | (k,d)::ds,_,h=>Ago.mpr ⟨(Ago.mp h).1,(Ago.mp h).2.1,Ari.ext x (Ago.mp h).2.2⟩
theorem Ari.ext {K:aJ}{H H':Hp}(x:Ext H H') : ∀ {d:aA} {vs:List (V×V)},Ari K H d vs->Ari K H' d vs
 | .list es,_,h=>by
  rw[Ari] at h ⊢
  exact Aij.ext x h
 | .none,_,h=>absurd h (by simp[Ari])
 | .bool _,_,h=>absurd h (by simp[Ari])
 | .int _,_,h=>absurd h (by simp[Ari])
 | .str _,_,h=>absurd h (by simp[Ari])
 | .tuple _,_,h=>absurd h (by simp[Ari])
 | .dict _,_,h=>absurd h (by simp[Ari])
theorem Aij.ext {K:aJ}{H H':Hp}(x:Ext H H') : ∀ {ds:List aA} {vs:List (V×V)},Aij K H ds vs->Aij K H' ds vs
 | [],_,h=>At0.mpr (At0.mp h)
 | d::ds,_,h=>by
  obtain⟨y,r,e,h1,h2⟩:=Aor.mp h
  exact Aor.mpr ⟨y,r,e,Alz.ext x h1,Aij.ext x h2⟩
theorem Alz.ext {K:aJ}{H H':Hp}(x:Ext H H') : ∀ {d:aA} {y:V×V},Alz K H d y->Alz K H' d y
 | .tuple ds,_,h=>by
  rw[Alz] at h ⊢
  exact Aau.ext x h
 | .none,_,h=>absurd h (by simp[Alz])
 | .bool _,_,h=>absurd h (by simp[Alz])
 | .int _,_,h=>absurd h (by simp[Alz])
 | .str _,_,h=>absurd h (by simp[Alz])
 | .list _,_,h=>absurd h (by simp[Alz])
 | .dict _,_,h=>absurd h (by simp[Alz])
end
section
variable {K:aJ}{H H':Hp}
theorem Aau.length : ∀ {ds:List aA} {vs:List V},Aau K H ds vs->vs.length=ds.length
 | [],_,h=>by rw[Aao.mp h]; rfl
 | d::ds,_,h=>by
  obtain⟨y,r,e,h1,h2⟩:=Aag.mp h
  rw[e,fG,fG,Aau.length h2]
theorem Aau.get : ∀ {ds:List aA} {vs:List V} {i:Nat} {d:aA},Aau K H ds vs->ds[i]?=some d -> ∃ v,vs[i]?=some v/\Abb K H d v
 | [],_,_,_,h,e=>by simp at e
 | d::ds,_,0,d',h,e=>by
  obtain⟨y,r,rfl,h1,h2⟩:=Aag.mp h
  have:d=d':=by simpa using e
  subst this
  exact⟨y,rfl,h1⟩
 | d::ds,_,i+1,d',h,e=>by
  obtain⟨y,r,rfl,h1,h2⟩:=Aag.mp h
  obtain⟨v,h3,h4⟩:=Aau.get h2 (by simpa using e)
  exact⟨v,by simpa using h3,h4⟩
theorem Aau.append : ∀ {ds es:List aA} {vs ws:List V},Aau K H ds vs->Aau K H es ws->Aau K H (ds++es) (vs++ws)
 | [],es,_,_,h,g=>by rw[Aao.mp h]; exact g
 | d::ds,es,_,_,h,g=>by
  obtain⟨y,r,rfl,h1,h2⟩:=Aag.mp h
  exact Aag.mpr ⟨y,_,rfl,h1,Aau.append h2 g⟩
theorem Aau.snoc {ds:List aA}{vs:List V}{d:aA}{v:V}(h:Aau K H ds vs)(g:Abb K H d v):Aau K H (ds++[d]) (vs++[v]):=
 h.append (Aag.mpr ⟨v,[],rfl,g,Aao.mpr rfl⟩)
theorem Aau.drop : ∀ {ds:List aA} {vs:List V} (n:Nat),Aau K H ds vs->Aau K H (ds.drop n) (vs.drop n)
 | _,_,0,h=>h
 | [],_,n+1,h=>by rw[Aao.mp h]; exact Aao.mpr rfl
 | d::ds,_,n+1,h=>by
  obtain⟨y,r,rfl,h1,h2⟩:=Aag.mp h
  exact Aau.drop n h2
theorem Aau.take : ∀ {ds:List aA} {vs:List V} (n:Nat),Aau K H ds vs->Aau K H (ds.take n) (vs.take n)
 | _,_,0,h=>Aao.mpr rfl
 | [],_,n+1,h=>by rw[Aao.mp h]; exact Aao.mpr rfl
 | d::ds,_,n+1,h=>by
  obtain⟨y,r,rfl,h1,h2⟩:=Aag.mp h
  exact Aag.mpr ⟨y,_,rfl,h1,Aau.take n h2⟩
theorem Aau.set {d:aA}{v:V}(g:Abb K H d v) : ∀ {ds:List aA} {vs:List V} (n:Nat),Aau K H ds vs->Aau K H (ds.set n d) (vs.set n v)
 | [],_,n,h=>by rw[Aao.mp h]; exact Aao.mpr rfl
 | e::ds,_,0,h=>by
  obtain⟨y,r,rfl,h1,h2⟩:=Aag.mp h
  exact Aag.mpr ⟨v,r,rfl,g,h2⟩
 | e::ds,_,n+1,h=>by
  obtain⟨y,r,rfl,h1,h2⟩:=Aag.mp h
  exact Aag.mpr ⟨y,_,rfl,h1,Aau.set g n h2⟩
theorem PX : ∀ ns:List Int,Aau K H (ns.map aZ) (ns.map V.int)
 | []=>Aao.mpr rfl
 | n::r=>Aag.mpr ⟨_,_,rfl,Aat.mpr rfl,PX r⟩
theorem Gv {k:aN}{v:V}(h:Abb K H (kD k) v):v=kV k:=by
 cases k with
 | inl i=>exact Aat.mp h
 | inr x=>exact(Aas.mp h).1
mutual
theorem Abb.key {K:aJ}{H:Hp} : ∀ (d:aA) {v:V},bF d=true->Abb K H d v->Ahk H d v
 | .int i,v,_,h=>by simpa [Ahk] using Aat.mp h
 | .str i,v,_,h=>by simpa [Ahk] using(Aas.mp h).1
 | .tuple ds,v,k,h=>by
  obtain⟨a,xs,e,s,r⟩:=Aay.mp h
  simp only[Ahk]
  exact⟨a,xs,e,s,Aau.keys ds (by simpa [bF] using k) r⟩
 | .none,v,k,_=>by simp[bF] at k
 | .bool _,v,k,_=>by simp[bF] at k
 | .list _,v,k,_=>by simp[bF] at k
 | .dict _,v,k,_=>by simp[bF] at k
theorem Aau.keys {K:aJ}{H:Hp} : ∀ (ds:List aA) {vs:List V},bX ds=true->Aau K H ds vs->Aer H ds vs
 | [],vs,_,h=>by simpa [Aer] using Aao.mp h
 | d::ds,vs,k,h=>by
  have k':bF d=true/\bX ds=true:=by simpa [bX] using k
  obtain⟨y,r,e,h1,h2⟩:=Aag.mp h
  simp only[Aer]
  exact⟨y,r,e,Abb.key d k'.1 h1,Aau.keys ds k'.2 h2⟩
end
end
mutual
noncomputable def eQ:aA->Bool
 | .list _=>false
 | .dict _=>false
 | .tuple ds=>mO ds
 | _=>true
noncomputable def mO:List aA->Bool
 | []=>true
 | d::r=>eQ d&&mO r
end
theorem RJ : ∀ ds:List aA,mO ds=ds.all eQ
 | []=>by simp[mO]
 | d::r=>by simp[mO,RJ r]
mutual
theorem Abb.flat {K:aJ}{H H':Hp}(x : ∀ a xs,H a=some (.tup xs)->H' a=some (.tup xs)) : ∀ (d:aA) {v:V},eQ d=true->Abb K H d v->Abb K H' d v
 | .none,_,_,h=>Aca.mpr (Aca.mp h)
 | .bool _,_,_,h=>Aar.mpr (Aar.mp h)
 | .int _,_,_,h=>Aat.mpr (Aat.mp h)
 | .str _,_,_,h=>Aas.mpr (Aas.mp h)
 | .tuple ds,_,f,h=>by
  obtain⟨a,xs,e,s,r⟩:=Aay.mp h
  exact Aay.mpr ⟨a,xs,e,x _ _ s,Aau.flat x ds (by simpa [eQ] using f) r⟩
 | .list _,_,f,_=>by simp[eQ] at f
 | .dict _,_,f,_=>by simp[eQ] at f
theorem Aau.flat {K:aJ}{H H':Hp}(x : ∀ a xs,H a=some (.tup xs)->H' a=some (.tup xs)) : ∀ (ds:List aA) {vs:List V},mO ds=true->Aau K H ds vs->Aau K H' ds vs
 | [],_,_,h=>Aao.mpr (Aao.mp h)
 | d::ds,_,f,h=>by
  have f':eQ d=true/\mO ds=true:=by simpa [mO] using f
  obtain⟨y,r,e,h1,h2⟩:=Aag.mp h
  exact Aag.mpr ⟨y,r,e,Abb.flat x d f'.1 h1,Aau.flat x ds f'.2 h2⟩
end
inductive All3 {α β γ:Type}(R:α->β->γ->Prop):List α->List β->List γ->Prop
 | nil:All3 R [] [] []
 | cons {a b c as bs cs}:R a b c->All3 R as bs cs->All3 R (a::as) (b::bs) (c::cs)
theorem All3.imp {α β γ:Type}{R S:α->β->γ->Prop} : ∀ {as:List α} {bs:List β} {cs:List γ},All3 R as bs cs->(∀ a b c,c∈cs->R a b c->S a b c)->All3 S as bs cs:=by
 intro as bs cs h
 induction h with
 | nil=>exact fun _=>.nil
 | cons h _ ih=>exact fun f=>.cons (f _ _ _ cC h) (ih fun a b c m=>f a b c (cD _ m))
def Afe (K:aJ)(B H:Hp):Nat->aA->V->List aD->Prop
 | 0,d,v,F=>F=[]/\Abb K B d v
 | n+1,d,v,F=>match d with
  | .list ds=>∃ p xs Fs,v = .ref p/\H p=some (.lst xs)/\F=p::Fs.flatten/\All3 (Afe K B H n) ds xs Fs
  | .dict kds=>∃ p,∃ kvs:Nat×List (aN×V),∃ Fs,v = .ref p/\H p=some (.dK kvs.1 kvs.2)/\F=p::Fs.flatten/\All3 (fun(kd:aA×aA) (kv:aN×V) f=>kd.1=kD kv.1/\Afe K B H n kd.2 kv.2 f) kds kvs.2 Fs
  | .tuple ds=>(n=0/\F=[]/\Abb K B (.tuple ds) v) \/ (n≠0 /\ ∃ p xs Fs,v = .ref p/\B p=some (.tup xs)/\F=Fs.flatten/\All3 (Afe K B H n) ds xs Fs)
  | d=>F=[]/\Abb K B d v
theorem Afe.keep {K:aJ}{B B' H H':Hp}(xb:Ext B B') : ∀ {n:Nat} {d:aA} {v:V} {F:List aD},(∀ a∈F,H' a=H a)->Afe K B H n d v F->Afe K B' H' n d v F
 | 0,d,v,F,_,h=>⟨h.1,h.2.ext xb⟩
 | n+1,.list ds,v,F,kp,h=>by
  obtain⟨p,xs,Fs,e,hp,rfl,q⟩:=h
  refine⟨p,xs,Fs,e,(kp p cC).trans hp,rfl,q.imp fun a b c m r=>Afe.keep xb (fun z hz=>kp z (cD _ (oI.mpr ⟨c,m,hz⟩))) r⟩
 | n+1,.dict kds,v,F,kp,h=>by
  obtain⟨p,xs,Fs,e,hp,rfl,q⟩:=h
  refine⟨p,xs,Fs,e,(kp p cC).trans hp,rfl,q.imp fun a b c m r=>⟨r.1,Afe.keep xb (fun z hz=>kp z (cD _ (oI.mpr ⟨c,m,hz⟩))) r.2⟩⟩
 | n+1,.none,v,F,_,h=>⟨h.1,h.2.ext xb⟩
 | n+1,.bool _,v,F,_,h=>⟨h.1,h.2.ext xb⟩
 | n+1,.int _,v,F,_,h=>⟨h.1,h.2.ext xb⟩
 | n+1,.str _,v,F,_,h=>⟨h.1,h.2.ext xb⟩
 | n+1,.tuple ds,v,F,kp,h=>by
  rcases h with⟨h0,h1,h2⟩ | ⟨h0,p,xs,Fs,e,hp,rfl,q⟩
  ·exact .inl ⟨h0,h1,h2.ext xb⟩
  ·exact .inr ⟨h0,p,xs,Fs,e,xb _ _ hp,rfl,q.imp fun a b c m r=>Afe.keep xb (fun z hz=>kp z (oI.mpr ⟨c,m,hz⟩)) r⟩
theorem QX {K:aJ}{B:Hp}{R:aA->V->List aD->Prop}(f : ∀ d v F,R d v F->Abb K B d v) : ∀ {ds:List aA} {xs:List V} {Fs:List (List aD)},All3 R ds xs Fs->Aau K B ds xs:=by
 intro ds xs Fs h
 induction h with
 | nil=>exact Aao.mpr rfl
 | cons h _ ih=>exact Aag.mpr ⟨_,_,rfl,f _ _ _ h,ih⟩
theorem Dn {K:aJ}{B:Hp}{R:aA×aA->aN×V->List aD->Prop}(f : ∀ d v F,R d v F->d.1=kD v.1/\Abb K B d.2 v.2) : ∀ {ds:List (aA×aA)} {xs:List (aN×V)} {Fs:List (List aD)},All3 R ds xs Fs->Abp K B ds xs:=by
 intro ds xs Fs h
 induction h with
 | nil=>exact Abl.mpr rfl
 | @cons p q F ds xs Fs h _ ih=>
  obtain⟨k,d⟩:=p
  obtain⟨k',v⟩:=q
  exact Aa1.mpr ⟨_,_,_,rfl,(f _ _ _ h).1,(f _ _ _ h).2,ih⟩
theorem Afe.share {K:aJ}{B B' H:Hp}(xb:Ext B B') : ∀ {n:Nat} {d:aA} {v:V} {F:List aD},(∀ a∈F,∀ o,H a=some o->B' a=some o)->Afe K B H n d v F->Abb K B' d v
 | 0,d,v,F,_,h=>h.2.ext xb
 | n+1,.list ds,v,F,kp,h=>by
  obtain⟨p,xs,Fs,e,hp,rfl,q⟩:=h
  refine Abg.mpr ⟨p,xs,e,SqL.of (kp p cC _ hp),?_⟩
  exact QX (fun d v F r=>r) (q.imp fun a b c m r=>Afe.share xb (fun z hz=>kp z (cD _ (oI.mpr ⟨c,m,hz⟩))) r)
 | n+1,.dict kds,v,F,kp,h=>by
  obtain⟨p,xs,Fs,e,hp,rfl,q⟩:=h
  refine GD e (kp p cC _ hp) ?_
  exact Dn (fun d v F r=>r) (q.imp fun a b c m r=>⟨r.1,Afe.share xb (fun z hz=>kp z (cD _ (oI.mpr ⟨c,m,hz⟩))) r.2⟩)
 | n+1,.none,v,F,_,h=>h.2.ext xb
 | n+1,.bool _,v,F,_,h=>h.2.ext xb
 | n+1,.int _,v,F,_,h=>h.2.ext xb
 | n+1,.str _,v,F,_,h=>h.2.ext xb
 | n+1,.tuple ds,v,F,kp,h=>by
  rcases h with⟨h0,h1,h2⟩ | ⟨h0,p,xs,Fs,e,hp,rfl,q⟩
  ·exact h2.ext xb
  ·refine Aay.mpr ⟨p,xs,e,xb _ _ hp,?_⟩
   exact QX (fun d v F r=>r) (q.imp fun a b c m r=>Afe.share xb (fun z hz=>kp z (oI.mpr ⟨c,m,hz⟩)) r)
noncomputable def fL:Nat->aA->Bool
 | 0,d=>eQ d
 | n+1,.list ds=>ds.all (fL n)
 | n+1,.dict kds=>kds.all fun kd=>fL n kd.2
 | n+2,.tuple ds=>ds.all (fL (n+1))
 | n+1,d=>eQ d
theorem Afe.flat {K:aJ}{B B' H:Hp}(xb : ∀ a xs,B a=some (.tup xs)->B' a=some (.tup xs)) : ∀ {n:Nat} {d:aA} {v:V} {F:List aD},fL n d=true->Afe K B H n d v F->Afe K B' H n d v F
 | 0,d,v,F,f,h=>⟨h.1,h.2.flat xb d f⟩
 | n+1,.list ds,v,F,f,h=>by
  obtain⟨p,xs,Fs,e,hp,rfl,q⟩:=h
  refine⟨p,xs,Fs,e,hp,rfl,?_⟩
  have f' : ∀ d∈ds,fL n d=true:=by simpa [fL] using f
  clear hp f e
  induction q with
  | nil=>exact .nil
  | cons h t ih=>exact .cons (Afe.flat xb (f' _ cC) h) (ih fun d m=>f' d (cD _ m))
 | n+1,.dict kds,v,F,f,h=>by
  obtain⟨p,xs,Fs,e,hp,rfl,q⟩:=h
  refine⟨p,xs,Fs,e,hp,rfl,?_⟩
  have f' : ∀ d∈kds,fL n d.2=true:=fun d m=>by
   have:kds.all (fun kd=>fL n kd.2)=true:=by simpa [fL] using f
   exact fQ.mp this d m
  clear hp f e
  obtain⟨xe,xs⟩:=xs
  replace q:All3 _ kds xs Fs:=q
  induction q with
  | nil=>exact .nil
  | cons h t ih=>exact .cons ⟨h.1,Afe.flat xb (f' _ cC) h.2⟩ (ih fun d m=>f' d (cD _ m))
 | n+1,.none,v,F,f,h=>⟨h.1,h.2.flat xb _ f⟩
 | n+1,.bool _,v,F,f,h=>⟨h.1,h.2.flat xb _ f⟩
 | n+1,.int _,v,F,f,h=>⟨h.1,h.2.flat xb _ f⟩
 | n+1,.str _,v,F,f,h=>⟨h.1,h.2.flat xb _ f⟩
 | 1,.tuple ds,v,F,f,h=>by
  rcases h with⟨h0,h1,h2⟩ | ⟨h0,_⟩
  ·exact .inl ⟨h0,h1,h2.flat xb _ f⟩
  ·exact absurd rfl h0
 | n+2,.tuple ds,v,F,f,h=>by
  rcases h with⟨h0,_⟩ | ⟨h0,p,xs,Fs,e,hp,rfl,q⟩
  ·exact absurd h0 (by omega)
  ·refine .inr ⟨h0,p,xs,Fs,e,xb _ _ hp,rfl,?_⟩
   have f' : ∀ d∈ds,fL (n+1) d=true:=by simpa [fL] using f
   clear hp f e
   induction q with
   | nil=>exact .nil
   | cons h t ih=>exact .cons (Afe.flat xb (f' _ cC) h) (ih fun d m=>f' d (cD _ m))
theorem All3.of {α β γ:Type}{R:α->β->γ->Prop} : ∀ {as:List α} {bs:List β} {cs:List γ},All3 R as bs cs -> ∀ c∈cs,∃ a b,R a b c:=by
 intro as bs cs h
 induction h with
 | nil=>exact fun c m=>by simp at m
 | cons h _ ih=>
  intro c m
  rcases cQ.mp m with rfl | m
  ·exact⟨_,_,h⟩
  ·exact ih c m
mutual
noncomputable def ndD:aA->Bool
 | .dict kds=>ndM kds
 | .list ds=>rY ds
 | .tuple ds=>rY ds
 | _=>true
noncomputable def rY:List aA->Bool
 | []=>true
 | d::r=>ndD d&&rY r
noncomputable def ndM:List (aA×aA)->Bool
 | (.none,.none)::r=>vC r
 | _=>false
noncomputable def vC:List (aA×aA)->Bool
 | []=>true
 | (_,d)::r=>ndD d&&vC r
end
noncomputable def iE:Nat->aA->Bool
 | 0,d=>ndD d
 | n+1,.list ds=>ds.all (iE n)
 | n+1,.dict kds=>kds.all fun kd=>iE n kd.2
 | _,_=>false
theorem ZU (xs:List V) : ∀ q,HO.lst xs≠dO q:=fun q z=>by cases q <;> cases z
theorem An (xs:List V) : ∀ q,HO.tup xs≠dO q:=fun q z=>by cases q <;> cases z
theorem Bq (o:aX)(u:HO) : ∀ q,HO.frz o u≠dO q:=fun q z=>by cases q <;> cases z
def NdX (H H':Hp):Prop:=∀ a o,H a=some o->(∀ q,o≠dO (.inl q))->H' a=some o
mutual
theorem Abb.nd {K:aJ}{H H':Hp}(x:NdX H H') : ∀ (d:aA) {v:V},ndD d=true->Abb K H d v->Abb K H' d v
 | .none,_,_,h=>Aca.mpr (Aca.mp h)
 | .bool _,_,_,h=>Aar.mpr (Aar.mp h)
 | .int _,_,_,h=>Aat.mpr (Aat.mp h)
 | .str _,_,_,h=>Aas.mpr (Aas.mp h)
 | .tuple ds,_,f,h=>by
  obtain⟨a,xs,e,s,r⟩:=Aay.mp h
  exact Aay.mpr ⟨a,xs,e,x _ _ s (fun q=>An _ _),Aau.nd x ds (by simpa [ndD] using f) r⟩
 | .list ds,_,f,h=>by
  obtain⟨a,xs,e,s,r⟩:=Abg.mp h
  refine Abg.mpr ⟨a,xs,e,s.imp (fun s=>?_) id,Aau.nd x ds (by simpa [ndD] using f) r⟩
  rcases s with s | ⟨o,s⟩
  ·exact .inl (x _ _ s (fun q=>ZU _ _))
  ·exact .inr ⟨o,x _ _ s (fun q=>Bq _ _ _)⟩
 | .dict [],_,f,_=>by simp[ndD,ndM] at f
 | .dict ((k,m)::kds),_,f,h=>by
  have f:ndM ((k,m)::kds)=true:=by simpa only[ndD] using f
  cases k <;> cases m <;> first | (simp[ndM] at f; done) | skip
  obtain⟨a,ts,e,s,r⟩:=(pC).mp h
  exact(pC).mpr ⟨a,ts,e,x _ _ s (fun q z=>by cases z),Acf.nd x kds (by simpa only[ndM] using f) r⟩
theorem Acf.nd {K:aJ}{H H':Hp}(x:NdX H H') : ∀ (kds:List (aA×aA)) {ts:List (List aA×V)},vC kds=true->Acf K H kds ts->Acf K H' kds ts
 | [],_,_,h=>Aco.mpr (Aco.mp h)
 | (k,d)::r,_,f,h=>by
  have f':ndD d=true/\vC r=true:=by simpa [vC] using f
  obtain⟨k',y,rr,e,ek,h1,h2⟩:=Aa9.mp h
  exact Aa9.mpr ⟨k',y,rr,e,ek,Abb.nd x d f'.1 h1,Acf.nd x r f'.2 h2⟩
theorem Aau.nd {K:aJ}{H H':Hp}(x:NdX H H') : ∀ (ds:List aA) {vs:List V},rY ds=true->Aau K H ds vs->Aau K H' ds vs
 | [],_,_,h=>Aao.mpr (Aao.mp h)
 | d::ds,_,f,h=>by
  have f':ndD d=true/\rY ds=true:=by simpa [rY] using f
  obtain⟨y,r,e,h1,h2⟩:=Aag.mp h
  exact Aag.mpr ⟨y,r,e,Abb.nd x d f'.1 h1,Aau.nd x ds f'.2 h2⟩
end
theorem Afe.mut1 {K:aJ}{B H:Hp} : ∀ {n:Nat} {d:aA} {v:V} {F:List aD},Afe K B H n d v F -> ∀ a∈F,(∃ xs,H a=some (.lst xs)) \/ ∃ q,H a=some (dO (.inl q))
 | 0,d,v,F,h,a,m=>by rw[h.1] at m; simp at m
 | n+1,.list ds,v,F,h,a,m=>by
  obtain⟨p,xs,Fs,e,hp,rfl,q⟩:=h
  rcases cQ.mp m with e1 | m2
  ·rw[e1]; exact .inl ⟨xs,hp⟩
  ·obtain⟨f,hf,ha⟩:=oI.mp m2
   obtain⟨_,_,r⟩:=q.of f hf
   exact Afe.mut1 r a ha
 | n+1,.dict kds,v,F,h,a,m=>by
  obtain⟨p,xs,Fs,e,hp,rfl,q⟩:=h
  rcases cQ.mp m with e1 | m2
  ·rw[e1]; exact .inr ⟨xs,hp⟩
  ·obtain⟨f,hf,ha⟩:=oI.mp m2
   obtain⟨_,_,r⟩:=q.of f hf
   exact Afe.mut1 r.2 a ha
 | n+1,.none,v,F,h,a,m=>by rw[h.1] at m; simp at m
 | n+1,.bool _,v,F,h,a,m=>by rw[h.1] at m; simp at m
 | n+1,.int _,v,F,h,a,m=>by rw[h.1] at m; simp at m
 | n+1,.str _,v,F,h,a,m=>by rw[h.1] at m; simp at m
 | n+1,.tuple ds,v,F,h,a,m=>by
  rcases h with⟨_,h1,_⟩ | ⟨h0,p,xs,Fs,e,hp,rfl,q⟩
  ·rw[h1] at m; simp at m
  ·obtain⟨f,hf,ha⟩:=oI.mp m
   obtain⟨_,_,r⟩:=q.of f hf
   exact Afe.mut1 r a ha
theorem Afe.mut {K:aJ}{B H:Hp}{n:Nat}{d:aA}{v:V}{F:List aD}(h:Afe K B H n d v F) : ∀ a∈F,(∃ xs,H a=some (.lst xs)) \/ ∃ q:DQ,H a=some (dO q):=fun a m=>(h.mut1 a m).imp id fun⟨q,e⟩=>⟨.inl q,e⟩
mutual
noncomputable def ftD:aA->Bool
 | .dict kds=>ftM kds
 | .list _=>false
 | .tuple ds=>vD ds
 | _=>true
noncomputable def vD:List aA->Bool
 | []=>true
 | d::r=>ftD d&&vD r
noncomputable def ftM:List (aA×aA)->Bool
 | (.none,.none)::r=>uZ r
 | _=>false
noncomputable def uZ:List (aA×aA)->Bool
 | []=>true
 | (_,d)::r=>ftD d&&uZ r
end
def FtX (H H':Hp):Prop:=∀ a o,H a=some o->((∃ xs,o = .tup xs) \/ ∃ q,o=dO (.inr q))->H' a=some o
mutual
theorem Abb.ft {K:aJ}{H H':Hp}(x:FtX H H') : ∀ (d:aA) {v:V},ftD d=true->Abb K H d v->Abb K H' d v
 | .none,_,_,h=>Aca.mpr (Aca.mp h)
 | .bool _,_,_,h=>Aar.mpr (Aar.mp h)
 | .int _,_,_,h=>Aat.mpr (Aat.mp h)
 | .str _,_,_,h=>Aas.mpr (Aas.mp h)
 | .tuple ds,_,f,h=>by
  obtain⟨a,xs,e,s,r⟩:=Aay.mp h
  exact Aay.mpr ⟨a,xs,e,x _ _ s (.inl ⟨xs,rfl⟩),Aau.ft x ds (by simpa [ftD] using f) r⟩
 | .list ds,_,f,h=>by simp[ftD] at f
 | .dict [],_,f,_=>by simp[ftD,ftM] at f
 | .dict ((k,m)::kds),_,f,h=>by
  have f:ftM ((k,m)::kds)=true:=by simpa only[ftD] using f
  cases k <;> cases m <;> first | (simp[ftM] at f; done) | skip
  obtain⟨a,ts,e,s,r⟩:=(pC).mp h
  exact(pC).mpr ⟨a,ts,e,x _ _ s (.inr ⟨ts,rfl⟩),Acf.ft x kds (by simpa only[ftM] using f) r⟩
theorem Acf.ft {K:aJ}{H H':Hp}(x:FtX H H') : ∀ (kds:List (aA×aA)) {ts:List (List aA×V)},uZ kds=true->Acf K H kds ts->Acf K H' kds ts
 | [],_,_,h=>Aco.mpr (Aco.mp h)
 | (k,d)::r,_,f,h=>by
  have f':ftD d=true/\uZ r=true:=by simpa [uZ] using f
  obtain⟨k',y,rr,e,ek,h1,h2⟩:=Aa9.mp h
  exact Aa9.mpr ⟨k',y,rr,e,ek,Abb.ft x d f'.1 h1,Acf.ft x r f'.2 h2⟩
theorem Aau.ft {K:aJ}{H H':Hp}(x:FtX H H') : ∀ (ds:List aA) {vs:List V},vD ds=true->Aau K H ds vs->Aau K H' ds vs
 | [],_,_,h=>Aao.mpr (Aao.mp h)
 | d::ds,_,f,h=>by
  have f':ftD d=true/\vD ds=true:=by simpa [vD] using f
  obtain⟨y,r,e,h1,h2⟩:=Aag.mp h
  exact Aag.mpr ⟨y,r,e,Abb.ft x d f'.1 h1,Aau.ft x ds f'.2 h2⟩
end
theorem Afe.nd {K:aJ}{B B' H:Hp}(xb:NdX B B') : ∀ {n:Nat} {d:aA} {v:V} {F:List aD},iE n d=true->Afe K B H n d v F->Afe K B' H n d v F
 | 0,d,v,F,f,h=>⟨h.1,h.2.nd xb d f⟩
 | n+1,.list ds,v,F,f,h=>by
  obtain⟨p,xs,Fs,e,hp,rfl,q⟩:=h
  refine⟨p,xs,Fs,e,hp,rfl,?_⟩
  have f' : ∀ d∈ds,iE n d=true:=by simpa [iE] using f
  clear hp f e
  induction q with
  | nil=>exact .nil
  | cons h t ih=>exact .cons (Afe.nd xb (f' _ cC) h) (ih fun d m=>f' d (cD _ m))
 | n+1,.dict kds,v,F,f,h=>by
  obtain⟨p,xs,Fs,e,hp,rfl,q⟩:=h
  refine⟨p,xs,Fs,e,hp,rfl,?_⟩
  have f' : ∀ d∈kds,iE n d.2=true:=fun d m=>by
   have:kds.all (fun kd=>iE n kd.2)=true:=by simpa [iE] using f
   exact fQ.mp this d m
  clear hp f e
  obtain⟨xe,xs⟩:=xs
  replace q:All3 _ kds xs Fs:=q
  induction q with
  | nil=>exact .nil
  | cons h t ih=>exact .cons ⟨h.1,Afe.nd xb (f' _ cC) h.2⟩ (ih fun d m=>f' d (cD _ m))
 | n+1,.none,v,F,f,h=>by simp[iE] at f
 | n+1,.bool _,v,F,f,h=>by simp[iE] at f
 | n+1,.int _,v,F,f,h=>by simp[iE] at f
 | n+1,.str _,v,F,f,h=>by simp[iE] at f
 | n+1,.tuple ds,v,F,f,h=>by simp[iE] at f
def Ahr (K:aJ)(B H:Hp)(d:aA)(v:V)(F:List aD):Prop:=∃ kds p,∃ ts:Nat×List (List aA×V),d = .dict ((.none,.none)::kds)/\v = .ref p/\H p=some (.dT ts.1 ts.2)/\F=[p]/\(∀ kd∈kds,eQ kd.2=true)/\Acf K B kds ts.2
def HeldAt (K:aJ)(B H:Hp)(kd:aA×aA)(kv:aN×V)(p:aD):Prop:=kd.1=kD kv.1/\kv.2 = .ref p/\Ahr K B H kd.2 (.ref p) [p]
noncomputable abbrev dC (c:aB)(W Hd:aA):aA:=.dict [(.none,.str c),(.none,.tuple [.str "wide",W]),(.none,.tuple [.str "held",Hd])]
structure RepB (K:aJ)(B H:Hp)(d:aA)(v:V)(F:List aD):Prop where
 ex : ∃ c C dx a w q kds hds,∃ kvs hvs:Nat×List (aN×V),∃ ps,d=dC c (.dict kds) (.dict hds)/\v = .ref a/\dM K c=some (.ref C)/\H a=some (.ins C dx [("wide",.ref w),("held",.ref q)])/\H w=some (.dK kvs.1 kvs.2)/\(∀ kd∈kds,eQ kd.2=true)/\Abp K B kds kvs.2 /\
  H q=some (.dK hvs.1 hvs.2)/\F=a::w::q::ps/\All3 (HeldAt K B H) hds hvs.2 ps
def Agc (K:aJ)(B H:Hp)(n:Nat)(d:aA)(v:V)(F:List aD):Prop:=if n=9 then(d = .none/\v = .non/\F=[]) \/ Ahr K B H d v F \/ RepB K B H d v F else Afe K B H n d v F
theorem Abp.flat {K:aJ}{B B':Hp}(xb : ∀ a xs,B a=some (.tup xs)->B' a=some (.tup xs)) : ∀ {kds:List (aA×aA)} {ts:List (aN×V)},(∀ kd∈kds,eQ kd.2=true)->Abp K B kds ts->Abp K B' kds ts
 | [],ts,_,h=>Abl.mpr (Abl.mp h)
 | (k,d)::r,ts,f,h=>by
  obtain⟨k',x,rr,e,ek,h1,h2⟩:=Aa1.mp h
  exact Aa1.mpr ⟨k',x,rr,e,ek,h1.flat xb _ (f (k,d) cC),Abp.flat xb (fun kd m=>f kd (cD _ m)) h2⟩
theorem Acf.flat {K:aJ}{B B':Hp}(xb : ∀ a xs,B a=some (.tup xs)->B' a=some (.tup xs)) : ∀ {kds:List (aA×aA)} {ts:List (List aA×V)},(∀ kd∈kds,eQ kd.2=true)->Acf K B kds ts->Acf K B' kds ts
 | [],ts,_,h=>Aco.mpr (Aco.mp h)
 | (k,d)::r,ts,f,h=>by
  obtain⟨k',x,rr,e,ek,h1,h2⟩:=Aa9.mp h
  exact Aa9.mpr ⟨k',x,rr,e,ek,h1.flat xb _ (f (k,d) cC),Acf.flat xb (fun kd m=>f kd (cD _ m)) h2⟩
section
variable {K:aJ}{B B' H H':Hp}{n:Nat}{d:aA}{v:V}{F:List aD}
theorem Ahr.keep (xb:Ext B B')(kp : ∀ a∈F,H' a=H a)(h:Ahr K B H d v F):Ahr K B' H' d v F:=by
 obtain⟨kds,p,ts,e1,e2,hp,rfl,f,r⟩:=h
 exact⟨kds,p,ts,e1,e2,(kp p cC).trans hp,rfl,f,r.ext xb⟩
theorem Ahr.flat (xb : ∀ a xs,B a=some (.tup xs)->B' a=some (.tup xs))(h:Ahr K B H d v F):Ahr K B' H d v F:=by
 obtain⟨kds,p,ts,e1,e2,hp,rfl,f,r⟩:=h
 exact⟨kds,p,ts,e1,e2,hp,rfl,f,r.flat xb f⟩
theorem Ahr.share (xb:Ext B B')(kp : ∀ a∈F,∀ o,H a=some o->B' a=some o)(h:Ahr K B H d v F):Abb K B' d v:=by
 obtain⟨kds,p,ts,rfl,e2,hp,rfl,f,r⟩:=h
 exact(pC).mpr ⟨p,ts,e2,kp p cC _ hp,r.ext xb⟩
theorem RepB.keep (xb:Ext B B')(kp : ∀ a∈F,H' a=H a)(h:RepB K B H d v F):RepB K B' H' d v F:=by
 obtain⟨c,C,dx,a,w,q,kds,hds,kvs,hvs,ps,e1,e2,e3,ha,hw,fl,rk,hq,rfl,h3⟩:=h.ex
 exact⟨c,C,dx,a,w,q,kds,hds,kvs,hvs,ps,e1,e2,e3,(kp a (by simp)).trans ha,(kp w (by simp)).trans hw,fl,rk.ext xb,(kp q (by simp)).trans hq,rfl,
  h3.imp fun kd kv p m r=>⟨r.1,r.2.1,r.2.2.keep xb fun b hb=>kp b (by rw[dB.mp hb]; simp[m])⟩⟩
theorem RepB.flat (xb : ∀ a xs,B a=some (.tup xs)->B' a=some (.tup xs))(h:RepB K B H d v F):RepB K B' H d v F:=by
 obtain⟨c,C,dx,a,w,q,kds,hds,kvs,hvs,ps,e1,e2,e3,ha,hw,fl,rk,hq,rfl,h3⟩:=h.ex
 exact⟨c,C,dx,a,w,q,kds,hds,kvs,hvs,ps,e1,e2,e3,ha,hw,fl,rk.flat xb fl,hq,rfl,h3.imp fun kd kv p m r=>⟨r.1,r.2.1,r.2.2.flat xb⟩⟩
theorem Nf {c:aB}{W D:aA}{C dx a:aD}{w q:V}(hc:dM K c=some (.ref C))(ha:H a=some (.ins C dx [("wide",w),("held",q)]))(h1:Abb K H W w)(h2:Abb K H D q):Abb K H (dC c W D) (.ref a):=by
 refine Aby.mpr ⟨a,rfl,.inr (.inr (.inr (.inr (Ahn.mpr ⟨rfl,c,C,dx,_,rfl,hc,ha,Adt.mpr ⟨_,_,_,rfl,rfl,?_,Adt.mpr ⟨_,_,_,rfl,rfl,?_,Aj1.mpr rfl⟩⟩⟩))))⟩
 ·rw[Alz]
  exact Aag.mpr ⟨_,_,rfl,Aas.mpr ⟨rfl,by decide +kernel⟩,Aag.mpr ⟨_,_,rfl,h1,Aao.mpr rfl⟩⟩
 ·rw[Alz]
  exact Aag.mpr ⟨_,_,rfl,Aas.mpr ⟨rfl,by decide +kernel⟩,Aag.mpr ⟨_,_,rfl,h2,Aao.mpr rfl⟩⟩
theorem zH {c:aB}{W D:aA}{v:V}(h:Abb K H (dC c W D) v) : ∃ C dx a w q,v = .ref a/\dM K c=some (.ref C)/\H a=some (.ins C dx [("wide",w),("held",q)])/\Abb K H W w/\Abb K H D q:=by
 obtain⟨a,e,⟨kvs,_,r⟩ | ⟨ts,_,r⟩ | ⟨xs,_,r⟩ | r | r⟩:=Aby.mp h
 ·obtain⟨k',_,_,_,ek,_⟩:=Aa1.mp r
  cases k' <;> cases ek
 ·obtain⟨_,_,_,_,⟨z,_⟩,_⟩:=Aa9.mp (Adc.mp r).2
  cases z
 ·obtain⟨es,z,_⟩:=tP r
  cases z
 ·obtain⟨_,_,z⟩:=r.mark
  cases z
 ·obtain⟨_,c',C,dx,fs,z,hc,ha,r⟩:=Ahn.mp r
  cases z
  obtain⟨f1,x1,r1,rfl,_,q1,r⟩:=Adt.mp r
  obtain⟨f2,x2,r2,rfl,_,q2,r⟩:=Adt.mp r
  rw[Aj1.mp r] at ha
  rw[Alz] at q1 q2
  obtain⟨_,_,z1,p1,q1⟩:=Aag.mp q1
  obtain⟨_,_,z2,p2,q2⟩:=Aag.mp q2
  cases z1
  cases z2
  obtain⟨_,_,z1,p3,_⟩:=Aag.mp q1
  obtain⟨_,_,z2,p4,_⟩:=Aag.mp q2
  cases z1
  cases z2
  have e1:=(Aas.mp p1).1
  have e2:=(Aas.mp p2).1
  cases e1
  cases e2
  exact⟨C,dx,a,_,_,e,hc,ha,p3,p4⟩
theorem RepB.share (xb:Ext B B')(kp : ∀ a∈F,∀ o,H a=some o->B' a=some o)(h:RepB K B H d v F):Abb K B' d v:=by
 obtain⟨c,C,dx,a,w,q,kds,hds,kvs,hvs,ps,rfl,rfl,e3,ha,hw,fl,rk,hq,rfl,h3⟩:=h.ex
 refine Nf e3 (kp a (by simp) _ ha) (GD rfl (kp w (by simp) _ hw) (rk.ext xb)) (GD rfl (kp q (by simp) _ hq) ?_)
 have kp2 : ∀ p∈ps,∀ o,H p=some o->B' p=some o:=fun p m=>kp p (by simp[m])
 clear hq ha kp h
 obtain⟨xe,hvs⟩:=hvs
 replace h3:All3 _ hds hvs ps:=h3
 induction h3 with
 | nil=>exact Abl.mpr rfl
 | cons h t ih=>
  refine Aa1.mpr ⟨_,_,_,rfl,h.1,?_,ih fun p m=>kp2 p (cD _ m)⟩
  have:=h.2.2.share xb fun b hb=>kp2 b (by rw[dB.mp hb]; exact cC)
  rw[h.2.1]
  exact this
theorem RepB.mut (h:RepB K B H d v F) : ∀ a∈F,(∃ xs,H a=some (.lst xs)) \/ ∃ q:DQ,H a=some (dO q):=by
 obtain⟨c,C,dx,a,w,q,kds,hds,kvs,hvs,ps,rfl,rfl,e3,ha,hw,fl,rk,hq,rfl,h3⟩:=h.ex
 intro b m
 simp only[cQ] at m
 rcases m with rfl | rfl | rfl | m
 ·exact .inr ⟨.ins _ _ _,ha⟩
 ·exact .inr ⟨.inl _,hw⟩
 ·exact .inr ⟨.inl _,hq⟩
 ·obtain⟨_,_,_,_,kds,p,ts,_,e2,hp,_⟩:=h3.of b m
  cases e2
  exact .inr ⟨.inr ts,hp⟩
theorem Agc.keep (xb:Ext B B')(kp : ∀ a∈F,H' a=H a)(h:Agc K B H n d v F):Agc K B' H' n d v F:=by
 unfold Agc at h ⊢
 split at h
 ·rw[if_pos ‹_›]
  exact h.imp id fun h=>h.imp (fun h=>h.keep xb kp) fun h=>h.keep xb kp
 ·rw[if_neg ‹_›]
  exact Afe.keep xb kp h
theorem Agc.share (xb:Ext B B')(kp : ∀ a∈F,∀ o,H a=some o->B' a=some o)(h:Agc K B H n d v F):Abb K B' d v:=by
 unfold Agc at h
 split at h
 ·rcases h with⟨rfl,rfl,_⟩ | h | h
  ·exact Aca.mpr rfl
  ·exact h.share xb kp
  ·exact h.share xb kp
 ·exact Afe.share xb kp h
theorem Agc.flat (xb : ∀ a xs,B a=some (.tup xs)->B' a=some (.tup xs))(f:fL n d=true)(h:Agc K B H n d v F):Agc K B' H n d v F:=by
 unfold Agc at h ⊢
 split at h
 ·rw[if_pos ‹_›]
  exact h.imp id fun h=>h.imp (fun h=>h.flat xb) fun h=>h.flat xb
 ·rw[if_neg ‹_›]
  exact Afe.flat xb f h
theorem Agc.nd (xb:NdX B B')(hn:n<9)(f:iE n d=true)(h:Agc K B H n d v F):Agc K B' H n d v F:=by
 unfold Agc at h ⊢
 rw[if_neg (by omega)] at h ⊢
 exact Afe.nd xb f h
theorem Agc.mut (h:Agc K B H n d v F) : ∀ a∈F,(∃ xs,H a=some (.lst xs)) \/ ∃ q:DQ,H a=some (dO q):=by
 unfold Agc at h
 split at h
 ·rcases h with⟨_,_,rfl⟩ | ⟨kds,p,ts,e1,e2,hp,rfl,f,r⟩ | h
  ·exact fun a m=>by simp at m
  ·intro a m
   rw[dB.mp m]
   exact .inr ⟨.inr ts,hp⟩
  ·exact h.mut
 ·exact Afe.mut h
end
abbrev EF:=List (Option aA)->Option aA
abbrev BF:=List (Option aA)->Option Bool
abbrev AF:=List (Option aA)->Option (List aA)
def Aj4 (K:aJ)(B:Hp)(ρ:List (Option aA))(σ:St):Prop:=∀ (i:Nat) d,ρ[i]?=some (some d) -> ∃ v,σ[i]?=some (some v)/\Abb K B d v
theorem Aj4.ext {K:aJ}{B B':Hp}{ρ:List (Option aA)}{σ:St}(h:Aj4 K B ρ σ)(x:Ext B B'):Aj4 K B' ρ σ:=fun i d e=>let ⟨v,h1,h2⟩:=h i d e; ⟨v,h1,h2.ext x⟩
def Res (K:aJ)(P:aD->Prop)(n:Nat)(d:aA)(H:Hp)(Q:VK):Prop:=
 ∀ v H' Fr,Ext H H'->Fr.Nodup->(∀ a∈Fr,H a=none /\ ∃ o,H' a=some o)->Agc K (hid H' (orL P Fr)) H' n d v Fr->Q v H'
section
variable {K:aJ}{P:aD->Prop}{n:Nat}{d:aA}{H H':Hp}{Q:VK}{v:V}
theorem Res.zero (h:Res K P 0 d H Q)(x:Ext H H')(r:Abb K (hid H' P) d v):Q v H':=
 h v H' [] x .nil (fun a m=>by simp at m) ⟨rfl,by rw[MF]; exact r⟩
theorem cY (h : ∀ v H',Ext H H'->Abb K (hid H' P) d v->Q v H'):Res K P 0 d H Q:=fun v H' Fr x _ _ r=>by
 obtain⟨rfl,r⟩:=r
 rw[MF] at r
 exact h v H' x r
theorem Res.mono (h:Res K P n d H Q)(x:Ext H H'):Res K P n d H' Q:=fun v H2 Fr x2 nd fr r=>
 h v H2 Fr (x.trans x2) nd (fun a m=>⟨x.none (fr a m).1,(fr a m).2⟩) r
theorem Res.of (hP:Hid P H)(h:Res K P 0 d H Q):Res K P n d H Q:=fun v H2 Fr x2 nd fr r=>
 h.zero x2 (r.share (iH fun a p=>.inl p) fun a m o e=>gJ (hP.new (fr a m).1) e)
theorem Res.lst {ds:List aA}{xs:List V}{p:aD}(hP:Hid P H)(h:Res K P 1 (.list ds) H Q)(n:H p=none)(r:Aau K (hid H P) ds xs):Q (.ref p) (upd H p (.lst xs)):=by
 refine h (.ref p) _ [p] (Ext.new n) (gH.mpr ⟨by simp,.nil⟩) (fun a m=>?_) ⟨p,xs,xs.map fun _=>[],rfl,eL,?_,?_⟩
 ·have:a=p:=by simpa using m
  subst this
  exact⟨n,_,eL⟩
 ·have : ∀ l:List V,(l.map fun _=>([]:List aD)).flatten=[]:=fun l=>by
   induction l with
   | nil=>rfl
   | cons a l ih=>rw[cR,uQ,ih]; rfl
  rw[this]
 ·have xe:Ext (hid H P) (hid (upd H p (.lst xs)) (orL P [p])):=fun b o e=>by
   obtain⟨nb,e⟩:=Ada.mp e
   have hb:=gY e n
   exact gJ (fun q=>q.elim nb fun m=>hb (by simpa using m)) (by rw[bP hb]; exact e)
  generalize hid (upd H p (.lst xs)) (orL P [p])=B at xe
  generalize upd H p (.lst xs)=H1
  clear h
  have go : ∀ (ds:List aA) (xs:List V),Aau K (hid H P) ds xs->All3 (Afe K B H1 0) ds xs (xs.map fun _=>[]):=by
   intro ds
   induction ds with
   | nil=>intro xs r; rw[Aao.mp r]; exact .nil
   | cons d ds ih=>
    intro xs r
    obtain⟨y,t,rfl,h1,h2⟩:=Aag.mp r
    exact .cons ⟨rfl,h1.ext xe⟩ (ih t h2)
  exact go ds xs r
theorem Res.tup {ds:List aA}{xs:List V}{p:aD}(hP:Hid P H)(h:Res K P 0 (.tuple ds) H Q)(n:H p=none)(r:Aau K (hid H P) ds xs):Q (.ref p) (upd H p (.tup xs)):=by
 refine h.zero (Ext.new n) (Aay.mpr ⟨p,xs,rfl,gJ (hP.new n) eL,r.ext fun b o e=>?_⟩)
 obtain⟨nb,e⟩:=Ada.mp e
 exact gJ nb (Ext.new n _ _ e)
end
noncomputable def tF (K:aJ)(n:Nat)(f:EF):TE:=fun σ H Q=>∃ P ρ d,Hid P H/\Aj4 K (hid H P) ρ σ/\f ρ=some d/\Res K P n d H Q
noncomputable def tTF (K:aJ)(f:BF):TT:=fun σ H Q=>∃ P ρ b,Hid P H/\Aj4 K (hid H P) ρ σ/\f ρ=some b /\ ∀ H',Ext H H'->Q b H'
noncomputable def tAF (K:aJ)(f:AF):TA:=fun σ H Q=>∃ P ρ ds,Hid P H/\Aj4 K (hid H P) ρ σ/\f ρ=some ds /\ ∀ vs H',Ext H H'->Aau K (hid H' P) ds vs->Q vs H'
abbrev DF (n:Nat)(X:Cx)(e:aS)(f:EF):Prop:=PE X e (tF X.K n f)
abbrev DE (X:Cx)(e:aS)(f:EF):Prop:=PE X e (tF X.K 0 f)
abbrev DT (X:Cx)(e:aS)(f:BF):Prop:=PT X e (tTF X.K f)
abbrev DW (X:Cx)(e:aS)(f:BF):Prop:=PW X e (tTF X.K f)
abbrev DA (X:Cx)(es:List aS)(f:AF):Prop:=PA X es (tAF X.K f)
section
variable {X:Cx}{e a b:aS}{es:List aS}{pos:bG}{n:Nat}
theorem PE.imp {t t':TE}(h:PE X e t)(w : ∀ σ H Q,t' σ H Q->t σ H Q):PE X e t':=fun pins s σ H Q I q=>h pins s σ H Q I (w _ _ _ q)
theorem PT.imp {t t':TT}(h:PT X e t)(w : ∀ σ H Q,t' σ H Q->t σ H Q):PT X e t':=fun pins s σ H Q I q=>h pins s σ H Q I (w _ _ _ q)
theorem PW.imp {t t':TT}(h:PW X e t)(w : ∀ σ H Q,t' σ H Q->t σ H Q):PW X e t':=fun whole pins s σ H Q I q=>h whole pins s σ H Q I (w _ _ _ q)
theorem PA.imp {t t':TA}(h:PA X es t)(w : ∀ σ H Q,t' σ H Q->t σ H Q):PA X es t':=fun pos pins s σ H Q I q=>h pos pins s σ H Q I (w _ _ _ q)
theorem fV {f:EF}(h:DF n X e f):DE X e f:=PE.imp h fun σ H Q ⟨P,ρ,d,hP,rs,ef,k⟩=>⟨P,ρ,d,hP,rs,ef,Res.of hP k⟩
noncomputable def aF (i:Nat):EF:=fun ρ=>(ρ[i]?).join
theorem PL {i:Nat}{ρ:List (Option aA)}{d:aA}(h:aF i ρ=some d):ρ[i]?=some (some d):=by
 unfold aF at h
 cases e:ρ[i]? with
 | none=>rw[e] at h; simp at h
 | some o=>rw[e] at h; simp at h; rw[h]
theorem aI (i:Nat){x:aB}(hN:X.N[i]?=some x:=by rfl)(hv:nB X.env.scope x:=by first | exact bB rfl | exact bC (bB rfl) | exact bC (bC rfl))(hd:(x == ("__debug__" : aB))=false:=by decide)
  (hcd:(x == ("__classdict__" : aB))=false:=by decide):DE X (.Name x pos) (aF i):=PE.imp (qG hN hv hd hcd) fun σ H Q gh=>by
 obtain⟨P,ρ,d,hP,rs,ef,k⟩:=gh
 obtain⟨v,h1,h2⟩:=rs i d (PL ef)
 exact⟨v,h1,k.zero Ext.refl h2⟩
noncomputable def eC (d:aA):EF:=fun _=>some d
theorem rV {d:aA}{v:V}(h:PE X e (tC v))(hr : ∀ H,Abb X.K H d v):DE X e (eC d):=PE.imp h fun σ H Q gh=>by
 obtain⟨P,ρ,d',hP,rs,ef,k⟩:=gh
 cases ef
 exact k.zero Ext.refl (hr _)
theorem aR {i j}:DE X (.Constant (.int i) j pos) (eC (.int i)):=rV Bp fun _=>Aat.mpr rfl
theorem gW {i j}:DE X (.Constant (.bool i) j pos) (eC (.bool i)):=rV AQ fun _=>Aar.mpr rfl
theorem yQ {j}:DE X (.Constant .none j pos) (eC .none):=rV Bn fun _=>Aca.mpr rfl
theorem kA {i j}(h:cM (.str i)=true:=by decide +kernel):DE X (.Constant (.str i) j pos) (eC (.str i)):=rV TF fun _=>Aas.mpr ⟨rfl,h⟩
theorem tL {x:aB}{i:Int}{u:aE}(hg:Gl X x)(hm:X.mg x=some u)(r:RelV (.int i) u)(hd:(x == ("__debug__" : aB))=false:=by decide):DE X (.Name x pos) (eC (.int i)):=rV (MP hg hm r hd) fun _=>Aat.mpr rfl
theorem ET {x:aB}{i:aB}{u:aE}(hg:Gl X x)(hm:X.mg x=some u)(r:RelV (.str i) u)(hl:cM (.str i)=true:=by decide +kernel)(hd:(x == ("__debug__" : aB))=false:=by decide):DE X (.Name x pos) (eC (.str i)):=rV (MP hg hm r hd) fun _=>Aas.mpr ⟨rfl,hl⟩
noncomputable def aK:AF:=fun _=>some []
noncomputable def aG (f:EF)(g:AF):AF:=fun ρ=>(f ρ).bind fun d=>(g ρ).bind fun ds=>some (d::ds)
theorem aT:DA X [] aK:=PA.imp nG fun σ H Q gh=>by
 obtain⟨P,ρ,d,hP,rs,ef,k⟩:=gh
 cases ef
 exact k [] H Ext.refl (Aao.mpr rfl)
theorem aL {f:EF}{g:AF}(h1:DE X e f)(h2:DA X es g)(hs:bI (e::es) X.env=(false,bJ e X.env)::bI es X.env:=by rfl):DA X (e::es) (aG f g):=
 PA.imp (kY h1 h2 hs) fun σ H Q gh=>by
  obtain⟨P,ρ,ds,hP,rs,ef,k⟩:=gh
  obtain⟨d,e1,ef⟩:=XBs ef
  obtain⟨r,e2,ef⟩:=XBs ef
  cases ef
  exact⟨P,ρ,d,hP,rs,e1,cY fun v H1 x1 r1=>⟨P,ρ,r,hP.ext x1,rs.ext (cI x1),e2,fun vs H2 x2 r2=>
   k _ _ (x1.trans x2) (Aag.mpr ⟨v,vs,rfl,r1.ext (cI x2),r2⟩)⟩⟩
noncomputable def gC (g:AF):EF:=fun ρ=>(g ρ).bind fun ds=>if ds.length≤sizeLine then some (.tuple ds) else none
noncomputable def jU (g:AF):EF:=fun ρ=>(g ρ).bind fun ds=>if ds.length≤sizeLine then some (.list ds) else none
theorem cW {α:Type}{c:Prop}[Decidable c]{x y:α}(h:(if c then some x else none)=some y):c/\x=y:=by
 by_cases q:c
 ·rw[if_pos q] at h; exact⟨q,eU h⟩
 ·rw[if_neg q] at h; cases h
theorem jJ {g:AF}{x1}(h:DA X es g):DE X (.Tuple es x1 pos) (gC g):=PE.imp (Bi h) fun σ H Q gh=>by
 obtain⟨P,ρ,d,hP,rs,ef,k⟩:=gh
 obtain⟨ds,e1,ef⟩:=XBs ef
 obtain⟨hl,rfl⟩:=cW ef
 exact⟨P,ρ,ds,hP,rs,e1,fun vs H1 x1 r1=>⟨by rw[r1.length]; exact hl,fun p hp=>(k.mono x1).tup (hP.ext x1) hp r1⟩⟩
theorem qL {g:AF}(h:DA X es g):DF 1 X (.List es pos) (jU g):=PE.imp (Ak h) fun σ H Q gh=>by
 obtain⟨P,ρ,d,hP,rs,ef,k⟩:=gh
 obtain⟨ds,e1,ef⟩:=XBs ef
 obtain⟨hl,rfl⟩:=cW ef
 exact⟨P,ρ,ds,hP,rs,e1,fun vs H1 x1 r1=>⟨by rw[r1.length]; exact hl,fun p hp=>(k.mono x1).lst (hP.ext x1) hp r1⟩⟩
def OpD (K:aJ)(n:Nat)(r:R2)(g:aA->aA->Option aA):Prop:=
 ∀ (P:aD->Prop) (H:Hp) (x y:V) (a b d:aA) (Q:VK),Hid P H->Abb K (hid H P) a x->Abb K (hid H P) b y->g a b=some d->Res K P n d H Q->r x y H Q
noncomputable def eOp (g:aA->aA->Option aA)(fa fb:EF):EF:=fun ρ=>(fa ρ).bind fun a=>(fb ρ).bind fun b=>g a b
theorem HW {r:R2}{g:aA->aA->Option aA}{fa fb:EF}{K:aJ}(hg:OpD K n r g) : ∀ σ H Q,tF K n (eOp g fa fb) σ H Q->tOp r (tF K 0 fa) (tF K 0 fb) σ H Q:=fun σ H Q gh=>by
 obtain⟨P,ρ,d,hP,rs,ef,k⟩:=gh
 obtain⟨d1,e1,ef⟩:=XBs ef
 obtain⟨d2,e2,ef⟩:=XBs ef
 exact⟨P,ρ,d1,hP,rs,e1,cY fun v H1 x1 r1=>⟨P,ρ,d2,hP.ext x1,rs.ext (cI x1),e2,cY fun u H2 x2 r2=>
  hg P H2 v u d1 d2 d Q (hP.ext (x1.trans x2)) (r1.ext (cI x2)) r2 ef (k.mono (x1.trans x2))⟩⟩
theorem pZ {op:Operator}{r:R2}{g:aA->aA->Option aA}{fa fb:EF}(ho:OpR X (kI op) r)(hg:OpD X.K n r g)(ha:DE X a fa)(hb:DE X b fb):DF n X (.BinOp a op b pos) (eOp g fa fb):=PE.imp (YW ho ha hb) (HW hg)
theorem nE {op:CmpOp}{r:R2}{g:aA->aA->Option aA}{fa fb:EF}(ho:OpR X (eT op) r)(hg:OpD X.K 0 r g)(ha:DE X a fa)(hb:DE X b fb)(hm:xO op b=false):DE X (.Compare a [op] [b] pos) (eOp g fa fb):=PE.imp (Km ho ha hb hm) (HW hg)
noncomputable def eUn (g:aA->Option aA)(fa:EF):EF:=fun ρ=>(fa ρ).bind g
def CallD (K:aJ)(n:Nat)(r:List V->Hp->VK->Prop)(g:List aA->Option aA):Prop:=
 ∀ (P:aD->Prop) (H:Hp) (xs:List V) (ds:List aA) (d:aA) (Q:VK),Hid P H->Aau K (hid H P) ds xs->g ds=some d->Res K P n d H Q->r xs H Q
noncomputable def aO (g:List aA->Option aA)(fa:AF):EF:=fun ρ=>(fa ρ).bind g
variable {r:List V->Hp->VK->Prop}{g:List aA->Option aA}{fa:AF}{x:aB}{p:bG}{id T:String}
theorem fN (hc:Adn X (.builtin id) r)(hg:CallD X.K n r g)(hgl:Gl X x)(hm:X.mg x=none)(hv:iZ x=some (.builtin id))(ha:DA X (e::es) fa)(hn:x ≠ "__name__":=by decide)(hdb:(x == ("__debug__" : aB))=false:=by decide)
  (he:bI (e::es) X.env=(false,bJ e X.env)::bI es X.env:=by rfl) (hpl:(fF pos (bI es X.env)).any (·.1)=false:=by rfl):DF n X (.Call (.Name x p) (e::es) [] pos) (aO g fa):=
 PE.imp (wL hc hgl hm hv ha hn hdb he hpl) fun σ H Q gh=>by
  obtain⟨P,ρ,d,hP,rs,ef,k⟩:=gh
  obtain⟨d1,e1,ef⟩:=XBs ef
  exact⟨P,ρ,d1,hP,rs,e1,fun vs H1 x1 r1=>hg P H1 vs d1 d Q (hP.ext x1) r1 ef (k.mono x1)⟩
theorem zV (hc:Adn X (.type T) r)(hg:CallD X.K n r g)(hgl:Gl X x)(hm:X.mg x=none)(hv:iZ x=some (.type T))(ha:DA X (e::es) fa)(hn:x ≠ "__name__":=by decide)(hdb:(x == ("__debug__" : aB))=false:=by decide)
  (he:bI (e::es) X.env=(false,bJ e X.env)::bI es X.env:=by rfl) (hpl:(fF pos (bI es X.env)).any (·.1)=false:=by rfl):DF n X (.Call (.Name x p) (e::es) [] pos) (aO g fa):=
 PE.imp (QW hc hgl hm hv ha hn hdb he hpl) fun σ H Q gh=>by
  obtain⟨P,ρ,d,hP,rs,ef,k⟩:=gh
  obtain⟨d1,e1,ef⟩:=XBs ef
  exact⟨P,ρ,d1,hP,rs,e1,fun vs H1 x1 r1=>hg P H1 vs d1 d Q (hP.ext x1) r1 ef (k.mono x1)⟩
noncomputable def asB:aA->Option Bool
 | .bool b=>some b
 | _=>none
theorem qR {d:aA}{b:Bool}(h:asB d=some b):d = .bool b:=by
 cases d <;> simp[asB] at h
 rw[h]
noncomputable def bOf (f:EF):BF:=fun ρ=>(f ρ).bind asB
theorem jY {f:EF}(h:DE X e f)(he : ∀ whole,isTrue e X.env whole=(do let v ← whole; rE e.pos; lU [v] (truthy v)):=by intro _; rfl):DT X e (bOf f):=PT.imp (Cb h he) fun σ H Q gh=>by
 obtain⟨P,ρ,b,hP,rs,ef,k⟩:=gh
 obtain⟨d,e1,ef⟩:=XBs ef
 cases qR ef
 exact⟨P,ρ,_,hP,rs,e1,cY fun v H1 x1 r1=>⟨b,Aar.mp r1,k H1 x1⟩⟩
theorem eE {op:CmpOp}{r:R2}{g:aA->aA->Option aA}{fa fb:EF}(ho:OpR X (eT op) r)(hg:OpD X.K 0 r g)(ha:DE X a fa)(hb:DE X b fb)(hm:xO op b=false):DT X (.Compare a [op] [b] pos) (bOf (eOp g fa fb)):=
 PT.imp (Lw ho ha hb hm) fun σ H Q gh=>by
  obtain⟨P,ρ,c,hP,rs,ef,k⟩:=gh
  obtain⟨d,e1,ef⟩:=XBs ef
  cases qR ef
  exact HW hg σ H _ ⟨P,ρ,_,hP,rs,e1,cY fun v H1 x1 r1=>⟨c,Aar.mp r1,k H1 x1⟩⟩
noncomputable def fR (f:BF):BF:=fun ρ=>(f ρ).bind fun b=>some (!b)
noncomputable def rZ (f g:BF):BF:=fun ρ=>(f ρ).bind fun b=>if b=true then g ρ else some false
noncomputable def bOr (f g:BF):BF:=fun ρ=>(f ρ).bind fun b=>if b=true then some true else g ρ
variable {fB gB:BF}{rest:List aS}
theorem mL (h:DT X a fB):DT X (.UnaryOp .Not a pos) (fR fB):=PT.imp (ZQ h) fun σ H Q gh=>by
 obtain⟨P,ρ,c,hP,rs,ef,k⟩:=gh
 obtain⟨b,e1,ef⟩:=XBs ef
 cases ef
 exact⟨P,ρ,b,hP,rs,e1,fun H1 x1=>k H1 x1⟩
theorem Lp (h:DT X a fB):DW X (.BoolOp .And [a] pos) fB:=Lb h
theorem nD (h:DT X a fB):DW X (.BoolOp .Or [a] pos) fB:=Bm h
theorem ZO (h:DT X a fB)(h2:DW X (.BoolOp .And (b::rest) pos) gB):DW X (.BoolOp .And (a::b::rest) pos) (rZ fB gB):=PW.imp (Bz h h2) fun σ H Q gh=>by
 obtain⟨P,ρ,c,hP,rs,ef,k⟩:=gh
 obtain⟨b,e1,ef⟩:=XBs ef
 refine⟨P,ρ,b,hP,rs,e1,fun H1 x1=>?_⟩
 cases b with
 | true=>exact nZ ⟨P,ρ,c,hP.ext x1,rs.ext (cI x1),by simpa using ef,fun H2 x2=>k H2 (x1.trans x2)⟩
 | false=>
  have:false=c:=by simpa using ef
  subst this
  exact lM (k H1 x1)
theorem lO (h:DT X a fB)(h2:DW X (.BoolOp .Or (b::rest) pos) gB):DW X (.BoolOp .Or (a::b::rest) pos) (bOr fB gB):=PW.imp (ZK h h2) fun σ H Q gh=>by
 obtain⟨P,ρ,c,hP,rs,ef,k⟩:=gh
 obtain⟨b,e1,ef⟩:=XBs ef
 refine⟨P,ρ,b,hP,rs,e1,fun H1 x1=>?_⟩
 cases b with
 | true=>
  have:true=c:=by simpa using ef
  subst this
  exact nZ (k H1 x1)
 | false=>exact lM ⟨P,ρ,c,hP.ext x1,rs.ext (cI x1),by simpa using ef,fun H2 x2=>k H2 (x1.trans x2)⟩
theorem lZ (h:DW X a fB):DT X a fB:=h.pt
noncomputable def KB (f:EF):EF:=fun ρ=>(f ρ).bind fun d=>(asB d).bind fun b=>some (.bool (!b))
noncomputable def iJ (f g:EF):EF:=fun ρ=>(f ρ).bind fun d=>(asB d).bind fun b=>if b=true then g ρ else some (.bool false)
variable {f1 f2:EF}
theorem sU {op}(h:DE X a f1):DE X (.BoolOp op [a] pos) f1:=UI h
theorem ZC (h:DE X a f1):DE X (.UnaryOp .Not a pos) (KB f1):=PE.imp (Ax h) fun σ H Q gh=>by
 obtain⟨P,ρ,c,hP,rs,ef,k⟩:=gh
 obtain⟨d,e1,ef⟩:=XBs ef
 obtain⟨b,e2,ef2⟩:=XBs ef
 clear ef
 have ef:=ef2
 clear ef2
 cases ef
 cases qR e2
 exact⟨P,ρ,_,hP,rs,e1,cY fun v H1 x1 r1=>⟨b,Aar.mp r1,k.zero x1 (Aar.mpr rfl)⟩⟩
theorem qJ (h:DE X a f1)(h2:DE X (.BoolOp .And (b::rest) pos) f2):DE X (.BoolOp .And (a::b::rest) pos) (iJ f1 f2):=PE.imp (CW h h2) fun σ H Q gh=>by
 obtain⟨P,ρ,c,hP,rs,ef,k⟩:=gh
 obtain⟨d,e1,ef⟩:=XBs ef
 obtain⟨b,e2,ef2⟩:=XBs ef
 clear ef
 have ef:=ef2
 clear ef2
 cases qR e2
 refine⟨P,ρ,_,hP,rs,e1,cY fun v H1 x1 r1=>⟨b,Aar.mp r1,?_⟩⟩
 cases b with
 | true=>exact nZ ⟨P,ρ,c,hP.ext x1,rs.ext (cI x1),by simpa using ef,k.mono x1⟩
 | false=>
  have:eM false=c:=by simpa using ef
  subst this
  exact lM (k.zero x1 (Aar.mpr rfl))
noncomputable def iL (g g':aA->aA->Option aA)(fa fb fc:EF):EF:=fun ρ=>(fa ρ).bind fun a=>(fb ρ).bind fun b=>(g a b).bind fun z=>(asB z).bind fun t=>if t=true then(fc ρ).bind fun c=>g' b c else some (.bool false)
theorem OH {r r':R2}{g g':aA->aA->Option aA}{fa fb fc:EF}{K:aJ}(hg:OpD K 0 r g)(hg':OpD K 0 r' g') : ∀ σ H Q,tF K 0 (iL g g' fa fb fc) σ H Q->DV r r' (tF K 0 fa) (tF K 0 fb) (tF K 0 fc) σ H Q:=fun σ H Q gh=>by
 obtain⟨P,ρ,d,hP,rs,ef,k⟩:=gh
 obtain⟨d1,e1,ef⟩:=XBs ef
 obtain⟨d2,e2,ef⟩:=XBs ef
 obtain⟨z,e3,ef⟩:=XBs ef
 obtain⟨t,e4,ef2⟩:=XBs ef
 clear ef
 have ef:=ef2
 clear ef2
 cases qR e4
 refine⟨P,ρ,d1,hP,rs,e1,cY fun v H1 x1 r1=>⟨P,ρ,d2,hP.ext x1,rs.ext (cI x1),e2,cY fun u H2 x2 r2=>?_⟩⟩
 refine hg P H2 v u d1 d2 _ _ (hP.ext (x1.trans x2)) (r1.ext (cI x2)) r2 e3 (cY fun q H3 x3 r3=>⟨t,Aar.mp r3,?_⟩)
 cases t with
 | true=>
  obtain⟨d3,e5,ef⟩:=XBs (show((fc ρ).bind fun c=>g' d2 c)=some d by simpa using ef)
  exact nZ ⟨P,ρ,d3,hP.ext ((x1.trans x2).trans x3),rs.ext (cI ((x1.trans x2).trans x3)),e5,cY fun w H4 x4 r4=>
   hg' P H4 u w d2 d3 d Q (hP.ext (((x1.trans x2).trans x3).trans x4)) (r2.ext (cI (x3.trans x4))) r4 ef (k.mono (((x1.trans x2).trans x3).trans x4))⟩
 | false=>
  have:eM false=d:=by simpa using ef
  subst this
  exact lM (k.zero ((x1.trans x2).trans x3) (Aar.mpr rfl))
end
abbrev Slot:=Option (Nat×aA)
abbrev aW:=List Slot
noncomputable def vS (ρ:aW):List (Option aA):=ρ.map fun s=>match s with | some (0,d)=>some d | _=>none
noncomputable def vA (ρ:aW):List (Option aA):=ρ.map fun s=>s.map (·.2)
theorem Bg {ρ:aW}{i:Nat}{d:aA}(h:(vS ρ)[i]?=some (some d)):ρ[i]?=some (some (0,d)):=by
 unfold vS at h
 rw[fH] at h
 cases e:ρ[i]? with
 | none=>rw[e] at h; simp at h
 | some s=>
  rw[e] at h
  simp only[rK,uN] at h
  cases s with
  | none=>simp at h
  | some q=>
   obtain⟨n,d'⟩:=q
   cases n with
   | zero=>simp at h; rw[h]
   | succ n=>simp at h
theorem Bw {ρ:aW}{i:Nat}{d:aA}(h:(vA ρ)[i]?=some (some d)) : ∃ n,ρ[i]?=some (some (n,d)):=by
 unfold vA at h
 rw[fH] at h
 cases e:ρ[i]? with
 | none=>rw[e] at h; simp at h
 | some s=>
  rw[e] at h
  cases s with
  | none=>simp at h
  | some q=>
   obtain⟨n,d'⟩:=q
   simp at h
   exact⟨n,by rw[h]⟩
abbrev Hd (P0:aD->Prop)(fp:Nat->List aD):aD->Prop:=fun a=>P0 a \/ ∃ i,a∈fp i
structure Sta (K:aJ)(H0:Hp)(P0:aD->Prop)(B0:Hp)(ρ:aW)(σ:St)(H:Hp)(fp:Nat->List aD):Prop where
 len:σ.length=ρ.length
 nd : ∀ i,(fp i).Nodup
 dj : ∀ i j a,a∈fp i->a∈fp j->i=j
 own : ∀ i a,a∈fp i->H0 a=none/\((∃ xs,H a=some (.lst xs)) \/ ∃ q:DQ,H a=some (dO q))
 ext:Ext H0 H
 hd:Hid P0 H0
 base:Ext B0 (hid H (Hd P0 fp))
 slot : ∀ (i:Nat) n d,ρ[i]?=some (some (n,d)) -> ∃ v,σ[i]?=some (some v)/\Agc K (hid H (Hd P0 fp)) H n d v (fp i)
section
variable {K:aJ}{H0 H H' B0:Hp}{P0:aD->Prop}{ρ:aW}{σ:St}{fp:Nat->List aD}
theorem Sta.hid (S:Sta K H0 P0 B0 ρ σ H fp):Hid (Hd P0 fp) H:=fun a h=>by
 rcases h with h | ⟨i,h⟩
 ·exact S.hd.ext S.ext a h
 ·exact(S.own i a h).2
theorem Sta.np (S:Sta K H0 P0 B0 ρ σ H fp){i:Nat}{a:aD}(m:a∈fp i) : ¬ P0 a:=S.hd.new (S.own i a m).1
theorem Sta.grow (S:Sta K H0 P0 B0 ρ σ H fp)(x:Ext H H'):Sta K H0 P0 B0 ρ σ H' fp:=by
 refine⟨S.len,S.nd,S.dj,fun i a m=>⟨(S.own i a m).1,(S.own i a m).2.imp (fun⟨xs,e⟩=>⟨xs,x _ _ e⟩) fun⟨xs,e⟩=>⟨xs,x _ _ e⟩⟩,S.ext.trans x,S.hd,S.base.trans (cI x),fun i n d e=>?_⟩
 obtain⟨v,h1,h2⟩:=S.slot i n d e
 refine⟨v,h1,h2.keep (cI x) fun a m=>?_⟩
 rcases(S.own i a m).2 with⟨xs,e⟩ | ⟨xs,e⟩
 ·rw[e,x _ _ e]
 ·rw[e,x _ _ e]
theorem Sta.viewS (S:Sta K H0 P0 B0 ρ σ H fp):Aj4 K (L2.hid H (Hd P0 fp)) (vS ρ) σ:=fun i d e=>by
 obtain⟨v,h1,h2⟩:=S.slot i 0 d (Bg e)
 exact⟨v,h1,h2.2⟩
theorem Sta.viewA (S:Sta K H0 P0 B0 ρ σ H fp):Aj4 K (L2.hid H P0) (vA ρ) σ:=fun i d e=>by
 obtain⟨n,e⟩:=Bw e
 obtain⟨v,h1,h2⟩:=S.slot i n d e
 exact⟨v,h1,h2.share (iH fun a p=>.inl p) fun a m o e=>gJ (S.np m) e⟩
def Tmp (K:aJ)(H0:Hp)(P0:aD->Prop)(B0:Hp)(ρ:aW)(σ:St)(n:Nat)(d:aA)(v:V)(H:Hp):Prop:=
 ∃ fp,Sta K H0 P0 B0 ρ σ H fp/\Agc K (L2.hid H (Hd P0 fp)) H n d v (fp ρ.length)
inductive Md | s | a
noncomputable def uX (ρ:aW):Bool:=ρ.all fun s=>match s with
 | some (0,_)=>true
 | some (1,.dict _)=>true
 | none=>true
 | _=>false
noncomputable def uV (ρ:aW):Bool:=ρ.all fun s=>match s with
 | some (9,_)=>false
 | _=>true
noncomputable def eV (n:Nat)(m:Md)(f:EF)(ρ:aW):Option aA:=match m with
 | .s=>f (vS ρ)
 | .a=>(f (vA ρ)).bind fun d=>if (fL n d||(uX ρ&&decide (n<9)&&iE n d)||(uV ρ&&decide (n=0)&&ftD d))=true then some d else none
noncomputable def bV (m:Md)(f:BF)(ρ:aW):Option Bool:=match m with
 | .s=>f (vS ρ)
 | .a=>f (vA ρ)
noncomputable def aV (m:Md)(f:AF)(ρ:aW):Option (List aA):=match m with
 | .s=>f (vS ρ)
 | .a=>f (vA ρ)
noncomputable def tE (K:aJ)(H0:Hp)(P0:aD->Prop)(n:Nat)(m:Md)(f:EF):TE:=fun σ H Q=>∃ B0 ρ fp d,Sta K H0 P0 B0 ρ σ H fp/\eV n m f ρ=some d /\ ∀ v H',Tmp K H0 P0 B0 ρ σ n d v H'->Q v H'
end
section
variable {X:Cx}{H0:Hp}{P0:aD->Prop}{e:aS}{n:Nat}
theorem Sta.trim {K:aJ}{B0:Hp}{ρ:aW}{σ:St}{H:Hp}{fp:Nat->List aD}(S:Sta K H0 P0 B0 ρ σ H fp) : ∃ fp',Sta K H0 P0 B0 ρ σ H fp' /\ ∀ i a,a∈fp' i->a∈fp i /\ ∃ n d,ρ[i]?=some (some (n,d)):=by
 let fp':Nat->List aD:=fun i=>match ρ[i]? with
  | some (some _)=>fp i
  | _=>[]
 have sub : ∀ i a,a∈fp' i->a∈fp i /\ ∃ n d,ρ[i]?=some (some (n,d)):=fun i a m=>by
  have m:a∈(match ρ[i]? with | some (some _)=>fp i | _=>[]):=m
  split at m
  ·rename_i x e
   exact⟨m,x.1,x.2,e⟩
  ·simp at m
 have same : ∀ i n d,ρ[i]?=some (some (n,d))->fp' i=fp i:=fun i n d e=>by
  show(match ρ[i]? with | some (some _)=>fp i | _=>[])=fp i
  rw[e]
 have xb:Ext (L2.hid H (Hd P0 fp)) (L2.hid H (Hd P0 fp')):=iH fun a h=>h.imp id fun⟨i,m⟩=>⟨i,(sub i a m).1⟩
 refine⟨fp',⟨S.len,fun i=>?_,fun i j a h1 h2=>S.dj i j a (sub i a h1).1 (sub j a h2).1,fun i a m=>S.own i a (sub i a m).1,S.ext,S.hd,S.base.trans xb,fun i n d e=>?_⟩,sub⟩
 ·show(match ρ[i]? with | some (some _)=>fp i | _=>[]).Nodup
  split
  ·exact S.nd i
  ·exact VX
 ·obtain⟨v,h1,h2⟩:=S.slot i n d e
  rw[same i n d e]
  exact⟨v,h1,h2.keep xb fun a m=>rfl⟩
theorem Sta.dicts {K:aJ}{B0:Hp}{ρ:aW}{σ:St}{H:Hp}{fp:Nat->List aD}(S:Sta K H0 P0 B0 ρ σ H fp)(ho:uX ρ=true){i:Nat}{a:aD}{n:Nat}{d:aA}(m:a∈fp i)(e:ρ[i]?=some (some (n,d))) : ∃ q,H a=some (dO (.inl q)):=by
 have:=fQ.mp ho _ (pS e)
 obtain⟨v,h1,h2⟩:=S.slot i n d e
 split at this
 ·rename_i z
  cases z
  rw[h2.1] at m
  simp at m
 ·rename_i kds z
  cases z
  obtain⟨p,xs,Fs,_,hp,hF,h3⟩:=h2
  have hn : ∀ {ds:List (aA×aA)} {ys:List (aN×V)} {Gs:List (List aD)},All3 (fun(kd:aA×aA) (kv:aN×V) f=>kd.1=kD kv.1/\Afe K (L2.hid H (Hd P0 fp)) H 0 kd.2 kv.2 f) ds ys Gs->Gs.flatten=[]:=fun q=>by
   induction q with
   | nil=>rfl
   | cons h _ ih=>rw[uQ,h.2.1,ih]; rfl
  rw[hF,hn h3] at m
  rw[dB.mp m]
  exact⟨xs,hp⟩
 ·rename_i z
  cases z
 ·cases this
theorem Sta.no9 {K:aJ}{B0:Hp}{ρ:aW}{σ:St}{H:Hp}{fp:Nat->List aD}(S:Sta K H0 P0 B0 ρ σ H fp)(ho:uV ρ=true){i:Nat}{a:aD}{n:Nat}{d:aA}(m:a∈fp i)(e:ρ[i]?=some (some (n,d))) : ∀ q,H a≠some (dO (.inr q)):=fun q z=>by
 have:=fQ.mp ho _ (pS e)
 have n9:n≠9:=fun w=>by subst w; simp at this
 obtain⟨v,h1,h2⟩:=S.slot i n d e
 unfold Agc at h2
 rw[if_neg n9] at h2
 rcases h2.mut1 a m with⟨xs,w⟩ | ⟨p,w⟩ <;> rw[z] at w <;> cases w
theorem yJ {K:aJ}{f:EF}(m:Md) : ∀ σ H Q,tE K H0 P0 n m f σ H Q->tF K n f σ H Q:=fun σ H Q gh=>by
 obtain⟨B0,ρ,fp,d,S,ef,k⟩:=gh
 cases m with
 | s=>
  refine⟨Hd P0 fp,vS ρ,d,S.hid,S.viewS,ef,fun v H' Fr x nd fr r=>k v H' ?_⟩
  have S':=S.grow x
  have hsub : ∀ a,Hd P0 (fun i=>if i=ρ.length then Fr else fp i) a->orL (Hd P0 fp) Fr a:=fun a h=>by
   rcases h with h | ⟨i,h⟩
   ·exact .inl (.inl h)
   ·by_cases hi:i=ρ.length
    ·simp only[hi,if_true] at h; exact .inr h
    ·simp only[hi,if_false] at h; exact .inl (.inr ⟨i,h⟩)
  have nfr : ∀ i a,a∈fp i->a∉Fr:=fun i a h1 h2=>by
   have:=(fr a h2).1
   rcases(S.own i a h1).2 with⟨xs,e⟩ | ⟨xs,e⟩ <;> rw[this] at e <;> first | cases e | (cases xs <;> simp[dO] at e)
  have xb:Ext (L2.hid H (Hd P0 fp)) (L2.hid H' (Hd P0 fun i=>if i=ρ.length then Fr else fp i)):=fun b o e=>by
   obtain⟨nb,e⟩:=Ada.mp e
   refine gJ (fun q=>?_) (x _ _ e)
   rcases q with q | ⟨j,q⟩
   ·exact nb (.inl q)
   ·by_cases hj:j=ρ.length
    ·simp only[hj,if_true] at q; rw[(fr b q).1] at e; cases e
    ·simp only[hj,if_false] at q; exact nb (.inr ⟨j,q⟩)
  refine⟨fun i=>if i=ρ.length then Fr else fp i,⟨S.len,fun i=>?_,fun i j a hi hj=>?_,fun i a hi=>?_,S'.ext,S.hd,S.base.trans xb,fun i n' d' e'=>?_⟩,?_⟩
  ·by_cases hi:i=ρ.length
   ·simp only[hi,if_true]; exact nd
   ·simp only[hi,if_false]; exact S.nd i
  ·by_cases h1:i=ρ.length <;> by_cases h2:j=ρ.length
   ·rw[h1,h2]
   ·simp only[h1,if_true] at hi; simp only[h2,if_false] at hj; exact absurd hi (nfr _ _ hj)
   ·simp only[h1,if_false] at hi; simp only[h2,if_true] at hj; exact absurd hj (nfr _ _ hi)
   ·simp only[h1,if_false] at hi; simp only[h2,if_false] at hj; exact S.dj i j a hi hj
  ·by_cases h1:i=ρ.length
   ·simp only[h1,if_true] at hi
    exact⟨S.ext.none (fr a hi).1,r.mut a hi⟩
   ·simp only[h1,if_false] at hi
    exact S'.own i a hi
  ·have hlt:=(fI.mp e').1
   have h1:i≠ρ.length:=by omega
   obtain⟨v',q1,q2⟩:=S'.slot i n' d' e'
   refine⟨v',q1,?_⟩
   simp only[h1,if_false]
   obtain⟨v2,p1,p2⟩:=S.slot i n' d' e'
   have ev:=eU (eU (p1.symm.trans q1))
   subst ev
   refine p2.keep xb fun a m=>?_
   rcases(S.own i a m).2 with⟨xs,e⟩ | ⟨xs,e⟩
   ·rw[e,x _ _ e]
   ·rw[e,x _ _ e]
  ·simp only[if_true]
   exact r.keep (iH hsub) fun a m=>rfl
 | a=>
  obtain⟨d',ed,ef⟩:=XBs ef
  obtain⟨fl,rfl⟩:=cW ef
  obtain⟨fp,S,trm⟩:=S.trim
  refine⟨P0,vA ρ,d',S.hd.ext S.ext,S.viewA,ed,fun v H' Fr x nd fr r=>k v H' ?_⟩
  have S':=S.grow x
  have nfr : ∀ i a,a∈fp i->a∉Fr:=fun i a h1 h2=>by
   have:=(fr a h2).1
   rcases(S.own i a h1).2 with⟨xs,e⟩ | ⟨xs,e⟩ <;> rw[this] at e <;> first | cases e | (cases xs <;> simp[dO] at e)
  have xb:Ext (L2.hid H (Hd P0 fp)) (L2.hid H' (Hd P0 fun i=>if i=ρ.length then Fr else fp i)):=fun b o e=>by
   obtain⟨nb,e⟩:=Ada.mp e
   refine gJ (fun q=>?_) (x _ _ e)
   rcases q with q | ⟨j,q⟩
   ·exact nb (.inl q)
   ·by_cases hj:j=ρ.length
    ·simp only[hj,if_true] at q; rw[(fr b q).1] at e; cases e
    ·simp only[hj,if_false] at q; exact nb (.inr ⟨j,q⟩)
  refine⟨fun i=>if i=ρ.length then Fr else fp i,⟨S.len,fun i=>?_,fun i j a hi hj=>?_,fun i a hi=>?_,S'.ext,S.hd,S.base.trans xb,fun i n' d' e'=>?_⟩,?_⟩
  ·by_cases hi:i=ρ.length
   ·simp only[hi,if_true]; exact nd
   ·simp only[hi,if_false]; exact S.nd i
  ·by_cases h1:i=ρ.length <;> by_cases h2:j=ρ.length
   ·rw[h1,h2]
   ·simp only[h1,if_true] at hi; simp only[h2,if_false] at hj; exact absurd hi (nfr _ _ hj)
   ·simp only[h1,if_false] at hi; simp only[h2,if_true] at hj; exact absurd hj (nfr _ _ hi)
   ·simp only[h1,if_false] at hi; simp only[h2,if_false] at hj; exact S.dj i j a hi hj
  ·by_cases h1:i=ρ.length
   ·simp only[h1,if_true] at hi
    exact⟨S.ext.none (fr a hi).1,r.mut a hi⟩
   ·simp only[h1,if_false] at hi
    exact S'.own i a hi
  ·have hlt:=(fI.mp e').1
   have h1:i≠ρ.length:=by omega
   obtain⟨v2,p1,p2⟩:=S.slot i n' d' e'
   refine⟨v2,p1,?_⟩
   simp only[h1,if_false]
   refine p2.keep xb fun a m=>?_
   rcases(S.own i a m).2 with⟨xs,e⟩ | ⟨xs,e⟩
   ·rw[e,x _ _ e]
   ·rw[e,x _ _ e]
  ·simp only[if_true]
   have up : ∀ a o,(L2.hid H' (orL P0 Fr)) a=some o->((∃ xs,o = .tup xs) \/ (uX ρ=true /\ ∀ q,o≠dO (.inl q)) \/ (uV ρ=true /\ ∃ q,o=dO (.inr q)))->(L2.hid H' (Hd P0 fun i=>if i=ρ.length then Fr else fp i)) a=some o:=fun a o e ho=>by
    obtain⟨na,e⟩:=Ada.mp e
    refine gJ (fun q=>?_) e
    rcases q with q | ⟨j,q⟩
    ·exact na (.inl q)
    ·by_cases hj:j=ρ.length
     ·simp only[hj,if_true] at q; exact na (.inr q)
     ·simp only[hj,if_false] at q
      rcases ho with⟨xs,rfl⟩ | ⟨ho,hq⟩ | ⟨ho,qq,rfl⟩
      ·rcases(S'.own j a q).2 with⟨ys,e2⟩ | ⟨ys,e2⟩ <;> rw[e] at e2 <;> first | cases e2 | (cases ys <;> simp[dO] at e2)
      ·obtain⟨_,n',d',e'⟩:=trm j a q
       obtain⟨z,ez⟩:=S'.dicts ho q e'
       rw[e] at ez
       injection ez with ez
       exact hq z ez
      ·obtain⟨_,n',d',e'⟩:=trm j a q
       exact absurd e (S'.no9 ho q e' qq)
   rcases WO.mp fl with fl | fl3
   rcases WO.mp fl with fl | fl
   ·exact r.flat (fun a xs e=>up a _ e (.inl ⟨xs,rfl⟩)) fl
   ·have fl:=iQ.mp fl
    have fl1:=iQ.mp fl.1
    exact r.nd (fun a o e hq=>up a o e (.inr (.inl ⟨fl1.1,hq⟩))) (of_decide_eq_true fl1.2) fl.2
   ·have fl:=iQ.mp fl3
    have fl1:=iQ.mp fl.1
    have z:=of_decide_eq_true fl1.2
    subst z
    exact⟨r.1,r.2.ft (fun a o e hq=>up a o e (hq.imp id fun hq=>.inr ⟨fl1.1,hq⟩)) _ fl.2⟩
theorem ev {f:EF}(m:Md)(h:DF n X e f):PE X e (tE X.K H0 P0 n m f):=PE.imp h (yJ m)
noncomputable def tB' (K:aJ)(H0:Hp)(P0:aD->Prop)(m:Md)(f:BF):TT:=fun σ H Q=>∃ B0 ρ fp b,Sta K H0 P0 B0 ρ σ H fp/\bV m f ρ=some b /\ ∀ H',Sta K H0 P0 B0 ρ σ H' fp->Q b H'
theorem evB {f:BF}(m:Md)(h:DT X e f):PT X e (tB' X.K H0 P0 m f):=PT.imp h fun σ H Q gh=>by
 obtain⟨B0,ρ,fp,b,S,ef,k⟩:=gh
 cases m with
 | s=>exact⟨Hd P0 fp,vS ρ,b,S.hid,S.viewS,ef,fun H' x=>k H' (S.grow x)⟩
 | a=>exact⟨P0,vA ρ,b,S.hd.ext S.ext,S.viewA,ef,fun H' x=>k H' (S.grow x)⟩
end
inductive Out where
 | nx (ρ:aW) | rt (d:aA) | bk (ρ:aW) | ct (ρ:aW)
abbrev SF:=aW->Option Out
def JN (K:aJ)(H0:Hp)(P0:aD->Prop)(n0:Nat)(d:aA)(v:V)(H':Hp):Prop:=
 ∃ Fr,Ext H0 H'/\Fr.Nodup/\(∀ a∈Fr,H0 a=none /\ ∃ o,H' a=some o)/\Agc K (hid H' (orL P0 Fr)) H' n0 d v Fr
def AR (K:aJ)(H0:Hp)(P0:aD->Prop)(B0:Hp)(n0:Nat)(D:Ends):Out->Prop
 | .nx ρ=>∀ σ H fp,Sta K H0 P0 B0 ρ σ H fp->D.nx σ H
 | .bk ρ=>∀ σ H fp,Sta K H0 P0 B0 ρ σ H fp->D.bk σ H
 | .ct ρ=>∀ σ H fp,Sta K H0 P0 B0 ρ σ H fp->D.ct σ H
 | .rt d=>∀ v H',JN K H0 P0 n0 d v H'->D.rt v H'
noncomputable def tS (K:aJ)(H0:Hp)(P0:aD->Prop)(n0:Nat)(F:SF):TS:=fun D σ H=>∃ B0 ρ fp o,Sta K H0 P0 B0 ρ σ H fp/\F ρ=some o/\AR K H0 P0 B0 n0 D o
abbrev DS (X:Cx)(H0:Hp)(P0:aD->Prop)(n0:Nat)(s:bH)(F:SF):Prop:=PS X s (tS X.K H0 P0 n0 F)
abbrev DSs (X:Cx)(H0:Hp)(P0:aD->Prop)(n0:Nat)(s:List bH)(F:SF):Prop:=PSs X s (tS X.K H0 P0 n0 F)
section
variable {X:Cx}{H0:Hp}{P0:aD->Prop}{n0 n:Nat}{s:bH}{ss:List bH}{F G:SF}{e:aS}{f:EF}{pos:bG}
theorem PS.imp {t t':TS}(h:PS X s t)(w : ∀ D σ H,t' D σ H->t D σ H):PS X s t':=fun pins st σ H D I q=>h pins st σ H D I (w _ _ _ q)
theorem PSs.imp {t t':TS}(h:PSs X ss t)(w : ∀ D σ H,t' D σ H->t D σ H):PSs X ss t':=fun pins st σ H D I q=>h pins st σ H D I (w _ _ _ q)
noncomputable def dQ:SF:=fun ρ=>some (.nx ρ)
noncomputable def bD (F G:SF):SF:=fun ρ=>(F ρ).bind fun o=>match o with
 | .nx ρ'=>G ρ'
 | o=>some o
theorem fM:DSs X H0 P0 n0 [] dQ:=PSs.imp wC fun D σ H gh=>by
 obtain⟨B0,ρ,fp,o,S,ef,k⟩:=gh
 cases ef
 exact k σ H fp S
theorem bO (h:DS X H0 P0 n0 s F):DSs X H0 P0 n0 [s] F:=qP h
theorem bQ (h:DS X H0 P0 n0 s F)(h2:DSs X H0 P0 n0 ss G):DSs X H0 P0 n0 (s::ss) (bD F G):=PSs.imp (oV h h2) fun D σ H gh=>by
 obtain⟨B0,ρ,fp,o,S,ef,k⟩:=gh
 obtain⟨o1,e1,ef⟩:=XBs ef
 refine⟨B0,ρ,fp,o1,S,e1,?_⟩
 cases o1 with
 | nx ρ1=>exact fun σ1 H1 fp1 S1=>⟨B0,ρ1,fp1,o,S1,ef,k⟩
 | rt d=>cases ef; exact k
 | bk ρ1=>cases ef; exact k
 | ct ρ1=>cases ef; exact k
noncomputable def sIf (m:Md)(t:BF)(F G:SF):SF:=fun ρ=>(bV m t ρ).bind fun b=>if b=true then F ρ else G ρ
theorem fC {c:aS}{a b:List bH}{t:BF}(m:Md)(hc:DT X c t)(ha:DSs X H0 P0 n0 a F)(hb:DSs X H0 P0 n0 b G):DS X H0 P0 n0 (.If c a b pos) (sIf m t F G):=
 PS.imp (AU (evB m hc) ha hb) fun D σ H gh=>by
  obtain⟨B0,ρ,fp,o,S,ef,k⟩:=gh
  obtain⟨b,e1,ef⟩:=XBs ef
  refine⟨B0,ρ,fp,b,S,e1,fun H1 S1=>?_⟩
  cases b with
  | true=>exact nZ ⟨B0,ρ,fp,o,S1,by simpa using ef,k⟩
  | false=>exact lM ⟨B0,ρ,fp,o,S1,by simpa using ef,k⟩
noncomputable def frz (i:Nat)(ρ:aW):aW:=match ρ[i]? with
 | some (some (_,d))=>ρ.set i (some (0,d))
 | _=>ρ
theorem Sta.frz {K:aJ}{H B0:Hp}{ρ:aW}{σ:St}{fp:Nat->List aD}(S:Sta K H0 P0 B0 ρ σ H fp)(i:Nat) : ∃ fp',Sta K H0 P0 B0 (L2.frz i ρ) σ H fp':=by
 unfold L2.frz
 cases e:ρ[i]? with
 | none=>exact⟨fp,S⟩
 | some s=>
  cases s with
  | none=>exact⟨fp,S⟩
  | some q=>
   obtain⟨n,d⟩:=q
   have hi:=(fI.mp e).1
   have hsub : ∀ a,Hd P0 (fun j=>if j=i then [] else fp j) a->Hd P0 fp a:=fun a h=>by
    rcases h with h | ⟨j,h⟩
    ·exact .inl h
    ·by_cases hj:j=i
     ·simp only[hj,if_true] at h; simp at h
     ·simp only[hj,if_false] at h; exact .inr ⟨j,h⟩
   refine⟨fun j=>if j=i then [] else fp j,⟨by simp[S.len],fun j=>?_,fun j k a h1 h2=>?_,fun j a h1=>?_,S.ext,S.hd,S.base.trans (iH hsub),fun j n' d' e'=>?_⟩⟩
   ·by_cases hj:j=i
    ·simp only[hj,if_true]; exact .nil
    ·simp only[hj,if_false]; exact S.nd j
   ·by_cases hj:j=i
    ·simp only[hj,if_true] at h1; simp at h1
    ·by_cases hk:k=i
     ·simp only[hk,if_true] at h2; simp at h2
     ·simp only[hj,if_false] at h1; simp only[hk,if_false] at h2; exact S.dj j k a h1 h2
   ·by_cases hj:j=i
    ·simp only[hj,if_true] at h1; simp at h1
    ·simp only[hj,if_false] at h1; exact S.own j a h1
   ·by_cases hj:j=i
    ·subst hj
     rw[lJ hi] at e'
     cases e'
     obtain⟨v,h1,h2⟩:=S.slot j n d e
     refine⟨v,h1,?_⟩
     simp only[if_true]
     refine⟨rfl,h2.share (iH hsub) fun a m o q=>gJ (fun z=>?_) q⟩
     rcases z with z | ⟨k,z⟩
     ·exact S.np m z
     ·by_cases hk:k=j
      ·simp only[hk,if_true] at z; simp at z
      ·simp only[hk,if_false] at z; exact hk (S.dj k j a z m)
    ·rw[lK (fun z=>hj z.symm)] at e'
     obtain⟨v,h1,h2⟩:=S.slot j n' d' e'
     refine⟨v,h1,?_⟩
     simp only[hj,if_false]
     exact h2.keep (iH hsub) fun a m=>rfl
noncomputable def vF (i:Nat)(F:SF):SF:=fun ρ=>F (frz i ρ)
theorem zB (i:Nat)(h:DSs X H0 P0 n0 ss F):DSs X H0 P0 n0 ss (vF i F):=PSs.imp h fun D σ H ⟨B0,ρ,fp,o,S,ef,k⟩=>let ⟨fp',S'⟩:=S.frz i; ⟨B0,_,fp',o,S',ef,k⟩
theorem Tmp.set {K:aJ}{H B0:Hp}{ρ:aW}{σ:St}{d:aA}{v:V}{i:Nat}(t:Tmp K H0 P0 B0 ρ σ n d v H)(hi:i<ρ.length) : ∃ fp,Sta K H0 P0 B0 (ρ.set i (some (n,d))) (σ.set i (some v)) H fp:=by
 obtain⟨fp,S,r⟩:=t
 have hne:ρ.length≠i:=by omega
 have hsub : ∀ a,Hd P0 (fun j=>if j=i then fp ρ.length else if j=ρ.length then [] else fp j) a->Hd P0 fp a:=fun a h=>by
  rcases h with h | ⟨j,h⟩
  ·exact .inl h
  ·by_cases hj:j=i
   ·simp only[hj,if_true] at h; exact .inr ⟨_,h⟩
   ·by_cases hk:j=ρ.length
    ·simp only[hj,if_false,hk,if_true] at h
     rw[if_neg hne] at h
     simp at h
    ·simp only[hj,if_false,hk] at h; exact .inr ⟨j,h⟩
 have src : ∀ j a,a∈(if j=i then fp ρ.length else if j=ρ.length then [] else fp j)->(j=i/\a∈fp ρ.length) \/ (j≠i/\j≠ρ.length/\a∈fp j):=fun j a h=>by
  by_cases hj:j=i
  ·simp only[hj,if_true] at h; exact .inl ⟨hj,h⟩
  ·by_cases hk:j=ρ.length
   ·rw[if_neg hj,if_pos hk] at h; simp at h
   ·rw[if_neg hj,if_neg hk] at h; exact .inr ⟨hj,hk,h⟩
 refine⟨fun j=>if j=i then fp ρ.length else if j=ρ.length then [] else fp j,⟨by simp[S.len],fun j=>?_,fun j k a h1 h2=>?_,fun j a h1=>?_,S.ext,S.hd,S.base.trans (iH hsub),fun j n' d' e'=>?_⟩⟩
 ·by_cases hj:j=i
  ·rw[if_pos hj]; exact S.nd _
  ·by_cases hk:j=ρ.length
   ·rw[if_neg hj,if_pos hk]; exact .nil
   ·rw[if_neg hj,if_neg hk]; exact S.nd _
 ·rcases src j a h1 with⟨e1,m1⟩ | ⟨e1,l1,m1⟩ <;> rcases src k a h2 with⟨e2,m2⟩ | ⟨e2,l2,m2⟩
  ·rw[e1,e2]
  ·exact absurd (S.dj _ _ a m2 m1) l2
  ·exact absurd (S.dj _ _ a m1 m2) l1
  ·exact S.dj j k a m1 m2
 ·rcases src j a h1 with⟨e1,m1⟩ | ⟨e1,l1,m1⟩
  ·exact S.own _ a m1
  ·exact S.own _ a m1
 ·by_cases hj:j=i
  ·subst hj
   rw[lJ hi] at e'
   cases e'
   refine⟨v,?_,?_⟩
   ·rw[lJ (by rw[S.len]; exact hi)]
   ·rw[if_pos rfl]
    exact r.keep (iH hsub) fun a m=>rfl
  ·rw[lK (fun z=>hj z.symm)] at e'
   have hlt:=(fI.mp e').1
   have hk:j≠ρ.length:=by omega
   obtain⟨v',h1,h2⟩:=S.slot j n' d' e'
   refine⟨v',?_,?_⟩
   ·rw[lK (fun z=>hj z.symm)]; exact h1
   ·rw[if_neg hj,if_neg hk]
    exact h2.keep (iH hsub) fun a m=>rfl
noncomputable def bW (i n:Nat)(m:Md)(f:EF):SF:=fun ρ=>(eV n m f ρ).bind fun d=>if i<ρ.length then some (.nx (ρ.set i (some (n,d)))) else none
theorem dA {i:Nat}{x:aB}{pos':bG}(n:Nat)(m:Md)(hN:X.N.Nodup)(hi:X.N[i]?=some x)(hx:lL X.env.scope x)(he:DF n X e f)(hs:lT e (some (.Name x pos')) pos.line X.env=pure false:=by rfl)(hf:X.fn x=true \/ X.env.scope.names.lookup x=some .local:=by first | exact .inl rfl | exact .inr rfl | assumption) :
  DS X H0 P0 n0 (.Assign [.Name x pos'] e pos) (bW i n m f):=PS.imp (Bb hN hi hx (ev m he) hs hf) fun D σ H gh=>by
 obtain⟨B0,ρ,fp,o,S,ef,k⟩:=gh
 obtain⟨d,e1,ef⟩:=XBs ef
 obtain⟨hl,rfl⟩:=cW ef
 refine⟨B0,ρ,fp,d,S,e1,fun v H' t=>?_⟩
 obtain⟨fp',S'⟩:=t.set hl
 exact k _ _ fp' S'
theorem Tmp.ret {K:aJ}{H B0:Hp}{ρ:aW}{σ:St}{d:aA}{v:V}(t:Tmp K H0 P0 B0 ρ σ n d v H):JN K H0 P0 n d v H:=by
 obtain⟨fp,S,r⟩:=t
 refine⟨fp ρ.length,S.ext,S.nd _,fun a m=>⟨(S.own _ a m).1,?_⟩,r.keep (iH fun a h=>?_) fun a m=>rfl⟩
 ·rcases(S.own _ a m).2 with⟨xs,e⟩ | ⟨xs,e⟩
  ·exact⟨_,e⟩
  ·exact⟨_,e⟩
 ·rcases h with h | h
  ·exact .inl h
  ·exact .inr ⟨_,h⟩
noncomputable def cN (n:Nat)(m:Md)(f:EF):SF:=fun ρ=>(eV n m f ρ).bind fun d=>some (.rt d)
theorem dD (m:Md)(he:DF n0 X e f):DS X H0 P0 n0 (.Return (some e) pos) (cN n0 m f):=PS.imp (vL (ev m he)) fun D σ H gh=>by
 obtain⟨B0,ρ,fp,o,S,ef,k⟩:=gh
 obtain⟨d,e1,ef⟩:=XBs ef
 cases ef
 exact⟨B0,ρ,fp,d,S,e1,fun v H' t=>k v H' t.ret⟩
noncomputable def AW (i n0:Nat):SF:=fun ρ=>match ρ[i]? with
 | some (some (n,d))=>if n=n0 then some (.rt d) else none
 | _=>none
theorem LR (i:Nat){x:aB}{p:bG}(hN:X.N[i]?=some x:=by rfl)(hv:nB X.env.scope x:=by first | exact bB rfl | exact bC (bB rfl) | exact bC (bC rfl))(hd:(x == ("__debug__" : aB))=false:=by decide)
  (hcd:(x == ("__classdict__" : aB))=false:=by decide):DS X H0 P0 n0 (.Return (some (.Name x p)) pos) (AW i n0):=PS.imp (vL (qG hN hv hd hcd)) fun D σ H gh=>by
 obtain⟨B0,ρ,fp,o,S,ef,k⟩:=gh
 unfold AW at ef
 cases e:ρ[i]? with
 | none=>rw[e] at ef; simp at ef
 | some q=>
  cases q with
  | none=>rw[e] at ef; simp at ef
  | some q=>
   obtain⟨n,d⟩:=q
   rw[e] at ef
   obtain⟨rfl,rfl⟩:=cW ef
   obtain⟨v,h1,h2⟩:=S.slot i n d e
   refine⟨v,h1,k v H ⟨fp i,S.ext,S.nd i,fun a m=>⟨(S.own i a m).1,?_⟩,h2.keep (iH fun a h=>?_) fun a m=>rfl⟩⟩
   ·rcases(S.own i a m).2 with⟨xs,e⟩ | ⟨xs,e⟩
    ·exact⟨_,e⟩
    ·exact⟨_,e⟩
   ·rcases h with h | h
    ·exact .inl h
    ·exact .inr ⟨_,h⟩
end
section
variable {X:Cx}
theorem Hf:Adn X (.builtin "isinstance") (fun xs H Q=>∃ x T t b,xs=[x,.ty T]/\TyOf X.K H x t/\gM X.K t (.type T)=some b/\Q (.bl b) H):=by
 intro pins s σ H xs us Q I r h
 obtain⟨x,T,t,b,rfl,ty,e,q⟩:=h
 obtain⟨u,w',rfl,ru,rw'⟩:=vals2 r
 cases rw'
 exact Dh I ru ty e fun tk=>⟨.bl b,H,I.tok tk,rfl,q⟩
end
section
variable {X:Cx}
noncomputable def yH (x:aB):It:=⟨fun i _=>i<x.cps.size,fun i H v H'=>H'=H /\ ∃ c,x.cps[i]?=some c/\v = .str ⟨#[c]⟩,fun i _=>x.cps.size≤i⟩
theorem QG {P:bE}{w:bA}{K:aJ}{tg:aS}{it:aD}{x:aB}{tk0:Tok}{ty:String}
  (W : ∀ A':bY,A'.handled=none->Walks P w A' it [it] [it] x.cps.size (SignAt x) (fun i h=>h.IsStrIter it ty x tk0 i))
  (sf : ∀ (A:bY) (i:Nat) (s:aH) (Q:aE->aH->Prop) (E:aE->aH->Prop),s.heap.IsStrIter it ty x tk0 i->Q (.ref it) s->aP (aQ P w) A (pyIter (.ref it)) Q E s)
  (hno:["enumerate","zip","dict_itemiterator","dict_reverseitemiterator","odict_iterator","itertools.zip_longest","itertools.pairwise"].contains ty=false) :
  Turn P w K tg (yH x) [it] it (fun i h=>h.IsStrIter it ty x tk0 i/\i≤x.cps.size) where
 mem:=by simp
 obj:=fun i h st b hb=>by
  have e:b=it:=by simpa using hb
  subst e
  obtain⟨o,e,_,d⟩:=st.1
  exact⟨o,e,fun v z=>by rw[d] at z; cases z⟩
 keep:=fun i h h' st k=>⟨let ⟨o,e,r⟩:=st.1; ⟨o,k it (by simp) o e,r⟩,st.2⟩
 item:=by
  intro X hP hw hK hc i pins s σ H E I hf st hg
  subst hP hw hK
  obtain⟨f0,f1,f2,f3,f4,f5⟩:=hf it (by simp)
  refine(W X.A (I.ok.hd hc)).item i s _ _ hg st.1 fun v h' tk hv st' kk=>?_
  obtain⟨c,u,hcx,rfl⟩:=hv
  have I1:Inv X pins σ H { s with heap:=h',toks:=tk }:=I.turned (fun b o hb e=>kk b o (by simpa using hb) e) f0 f1 f3 f4 f5
  obtain⟨o,e,hcl,d⟩:=id st'
  exact⟨_,rfl,sG (s:={ s with heap:=h',toks:=tk }) e hcl d hno ⟨.str ⟨#[c]⟩,H,I1,⟨u,rfl⟩,⟨rfl,c,hcx,rfl⟩,⟨st',hg⟩,fun b hb=>(hf b hb).1⟩⟩
 done:=by
  intro X hP hw hK hc i pins s σ H E I hf st hg
  subst hP hw hK
  obtain⟨f0,f1,f2,f3,f4,f5⟩:=hf it (by simp)
  have hi:i=x.cps.size:=Nat.le_antisymm st.2 hg
  subst hi
  exact(W X.A (I.ok.hd hc)).done s _ _ st.1 fun h' tk kk=>⟨rfl,I.turned (fun b o hb e=>kk b o (by simpa using hb) e) f0 f1 f3 f4 f5⟩
 self:=fun A i s Q E st h=>sf A i s Q E st.1 h
noncomputable def XA (tl:TE):TI:=fun σ H R=>tl σ H fun v H1=>∃ x,v = .str x/\R (yH x) H1
theorem ZN {X:Cx}{tg l:aS}{tl:TE}(hl:PE X l tl):PI X tg l (XA tl):=by
 intro pins s σ H R I h
 refine thn (hl pins s σ H _ I h) fun v s1 gh=>?_
 obtain⟨y,H1,I1,r1,q1⟩:=gh
 obtain⟨x,rfl,q⟩:=q1
 obtain⟨t,rfl⟩:=r1
 have fin : ∀ (o:aX) (ty:String),Turn X.prog X.w X.K tg (yH x) [s1.heap.objs.size] s1.heap.objs.size (fun i h=>h.IsStrIter s1.heap.objs.size ty x t i/\i≤x.cps.size)->(s1.heap.push o).IsStrIter s1.heap.objs.size ty x t 0 ->
   PIE X pins σ tg R (.ref s1.heap.objs.size) { s1 with heap:=s1.heap.push o }:=fun o ty T st=>by
  refine⟨s1.heap.objs.size,[s1.heap.objs.size],_,_,H1,rfl,I1.kept fun b o e=>cX _ e,T,⟨st,fP _⟩,fun b hb=>?_,q⟩
  have e:b=s1.heap.objs.size:=by simpa using hb
  subst e
  exact I1.fpOk (bU _) (I1.hok.fresh (bU _))
 cases ha:x.cps.all (· < 128)
 ·exact wpAny_pyIter_wide ha (fin _ "str_iterator" (QG (fun A' hA=>Walks.strWide hA _ x t) (fun A i s Q E st h=>wpAny_pyIter_striter_wide st h) (by decide)) ⟨_,eZ _ rfl,rfl,rfl⟩)
 ·exact wpAny_pyIter_ascii ha (fin _ "str_ascii_iterator" (QG (fun A' hA=>Walks.strAscii hA _ x t) (fun A i s Q E st h=>wpAny_pyIter_striter_ascii st h) (by decide)) ⟨_,eZ _ rfl,rfl,rfl⟩)
noncomputable def allB (xs:List V):Bool:=xs.all fun v=>decide (v = .bl true)
theorem FQ (hc:X.calm=true):Adn X (.builtin "all") (fun xs H Q=>∃ p ys,xs=[.ref p]/\SqL X.K H p ys/\(∀ y∈ys,∃ b,y = .bl b)/\Q (.bl (allB ys)) H):=by
 intro pins s σ H xs us Q I r h
 obtain⟨p,ys,rfl,hs,hb,q⟩:=h
 obtain⟨u,rfl,ru⟩:=vals1 r
 cases ru
 obtain⟨its,rv,pl,hz⟩:=I.list hs
 have hl:=pl.isList
 have hlt:p<s.heap.objs.size:=by obtain⟨o,n,e,_⟩:=pl; exact cE e
 have hh:=I.ok.hd hc
 have len:=rv.length
 refine call_all_walk (IE hl ⟨s.heap.objs.size,_,_,_,_,_,fun i=>decide (ys[i]?=some (.bl true)),rfl,Walks.list (A:=X.A.in1) hh s.heap.objs.size p (dF hlt) its.toArray,
  ⟨⟨_,eZ _ rfl,rfl,rfl⟩,hl.at fun o e=>cX _ e⟩,?_,?_⟩)
 ·intro i v s' Q' E' hv hq
  have hv':its[i]?=some v:=by simpa using hv
  have hi:i<ys.length:=by rw[len]; exact(fI.mp hv').1
  obtain⟨b,hy⟩:=hb ys[i] (lX hi)
  have hy':ys[i]?=some (.bl b):=by rw[iP hi,hy]
  obtain⟨u',h1,h2⟩:=rv.get hy'
  rw[hv'] at h1; cases h1
  cases h2
  refine rB ?_
  have:decide (ys[i]?=some (V.bl true))=b:=by rw[hy']; cases b <;> simp
  have hq:Q' (decide (ys[i]?=some (V.bl true))) s':=hq
  rw[this] at hq
  exact hq
 ·intro h' tk hk
  have e:((dG its.toArray.size).all fun i=>decide (ys[i]?=some (V.bl true)))=allB ys:=by
   have hn:its.toArray.size=ys.length:=by simp[len]
   rw[hn]
   unfold allB
   rw[WQ]
   simp only[fQ,pR,decide_eq_true_eq]
   constructor
   ·intro h v hv
    obtain⟨i,hi,rfl⟩:=List.getElem_of_mem hv
    have:=h i hi
    rw[iP hi] at this
    exact eU this
   ·intro h i hi
    rw[iP hi,h _ (lX hi)]
  rw[e]
  refine⟨.bl (allB ys),H,?_,rfl,q⟩
  exact I.kept fun b o eb=>hk b o (by simp; exact dF (cE eb)) (cX _ eb)
end
structure Def (P:bE)(w:bA)(K:aJ)(mg:aB->Option aE)(base:aU)(x:aB)(k:Nat)(ps:List aB)(sp:Sp):Prop where
 ex : ∃ f fd,FnOk P w K mg base CX0 k f fd ps sp/\mg x=some (.ref f)/\lV K (.ref f)=true/\Binds K fd ps []
section
variable {X:Cx}{x:aB}{k:Nat}{ps:List aB}{sp:Sp}{e:aS}{es:List aS}{t:TA}{p pos:bG}
theorem Bc (D:Def X.prog X.w X.K X.mg X.base x k ps sp)(hr:Room k X.A)(hg:Gl X x)(ha:PA X (e::es) t)(hdb:(x == ("__debug__" : aB))=false:=by decide)(he:bI (e::es) X.env=(false,bJ e X.env)::bI es X.env:=by rfl)
  (hpl:(fF pos (bI es X.env)).any (·.1)=false:=by rfl):PE X (.Call (.Name x p) (e::es) [] pos) (KO sp [] E0 t):=by
 obtain⟨f,fd,F,hm,hk,hb⟩:=D.ex
 exact Kg F hr hg hm hk hb .nil YD ha hdb he hpl
end
noncomputable def CK (a b:String):Option Bool:=if (lF a == lF b)=true then some true else if PySem.W.kitMeta b=true then(fastBuiltinMro a).map (·.contains (.type b)) else none
theorem Akg {K:aJ}{a b:String}:gM K (.type a) (.type b)=CK a b:=rfl
noncomputable def kinds:List String:=["NoneType","bool","int","str","list","tuple","dict"]
noncomputable def isK (t T:String):Bool:=t == T||(t == "bool" && T == "int")
theorem On:(kinds.all fun t=>["int","bool","str","list","tuple","dict"].all fun T=>decide (CK t T=some (isK t T)))=true:=by decide +kernel
theorem Ln {t T:String}(ht:t∈kinds)(hT:T∈["int","bool","str","list","tuple","dict"]):CK t T=some (isK t T):=by
 have h:=fQ.mp On t ht
 have h:=fQ.mp h T hT
 exact of_decide_eq_true h
def Kd (K:aJ)(H:Hp)(x:V)(t:String):Prop:=TyOf K H x (.type t)/\t∈kinds
theorem Kd.str {K:aJ}{H:Hp}{x:V}(h:Kd K H x "str") : ∃ i,x = .str i:=by
 obtain⟨h,_⟩:=h
 generalize e:lF "str" = t at h
 cases h <;> first | exact⟨_,rfl⟩ | exact absurd (Value.type.inj e) (by decide) | cases e
section
variable {X:Cx}
theorem KH {x:aB}{T:String}{pos:bG}(hg:Gl X x)(hm:X.mg x=none)(hv:iZ x=some (.type T))(hn:x ≠ "__name__":=by decide)(hd:(x == ("__debug__" : aB))=false:=by decide):PE X (.Name x pos) (tC (.ty T)):=
 Mq hg hm hv rfl hn hd
end
theorem boot_isinstance:iZ "isinstance" = some (.builtin "isinstance"):=by decide +kernel
theorem boot_abs:iZ "abs" = some (.builtin "abs"):=by decide +kernel
theorem boot_all:iZ "all" = some (.builtin "all"):=by decide +kernel
theorem bits_le {i:Int}{n:Nat}(h:i.natAbs<2 ^ n):Builtin.Int.intBits i≤n:=by
 unfold Builtin.Int.intBits
 split
 ·exact fP _
 ·rename_i hne
  have h0:i.natAbs≠0:=by
   intro z; apply hne; simp[Int.natAbs_eq_zero.mp z]
  have:=(Nat.log2_lt h0).mpr h
  omega
theorem Kv {X:Cx}:OpR X (kI .Mult) (rI (fun i j=>i.natAbs<2 ^ 1000/\j.natAbs<2 ^ 1000) fun i j=>.int (i*j)):=opI fun i j _ _ _ _ _ hc q=>
 mul_int q (PyProof.Rows.mulOk_of_bits (bits_le hc.1) (bits_le hc.2) (by decide))
theorem fK {A:bY}{k:Nat}(hr:Room k A):A.units+100<cLine:=by
 have:=hr.un
 omega
theorem SJ : ∀ {xs:List V} {us:List aE},xs.length=us.length->(∀ (j:Nat) x u,xs[j]?=some x->us[j]?=some u->RelV x u)->Vals xs us
 | [],[],_,_=>.nil
 | [],_::_,h,_=>by simp at h
 | _::_,[],h,_=>by simp at h
 | x::xs,u::us,h,r=>.cons (r 0 x u rfl rfl) (SJ (by simpa using h) fun j y w h1 h2=>r (j+1) y w (by simpa using h1) (by simpa using h2))
noncomputable def JU:R2:=fun x y H Q=>∃ i j,x = .str i/\y = .str j/\Q (.bl (!(decide (j.cps.toList<i.cps.toList)))) H
noncomputable def pY (c:Nat):V:=.str ⟨#[c]⟩
section
variable {X:Cx}
theorem Fd (hc:X.calm=true):Adn X (.type "list") (fun xs H Q=>∃ z:aB,xs=[.str z]/\z.length≤sizeLine /\ ∀ l,H l=none->Q (.ref l) (upd H l (.lst (z.cps.toList.map pY)))):=by
 intro pins s σ H xs us Q I r h
 obtain⟨z,rfl,hz,q⟩:=h
 obtain⟨u,rfl,t,rfl⟩:=vals1 r
 refine call_list_str (I.ok.hd hc) z t (fun h' tk acc' c' hk hS hacc=>?_) hz
 have hv:Vals (z.cps.toList.map pY) acc'.toList:=by
  refine SJ (by simp[hacc.1]) fun j x u h1 h2=>?_
  obtain⟨c,t',hc1,rfl⟩:=hacc.2 j u (by simpa using h2)
  have:(z.cps.toList.map pY)[j]?=some (pY c):=by simp[hc1]
  rw[this] at h1
  cases h1
  exact⟨t',rfl⟩
 exact⟨.ref s.heap.objs.size,_,I.laid hk (bU _) (show Acy X.prog X.w _ h' _ (.lst (z.cps.toList.map pY)) from⟨by rw[cJ,oO]; exact hz,acc'.toList,c',hv,by simpa using hS⟩),rfl,q _ I.fresh⟩
theorem tN:OpR X (eT .LtE) JU:=by
 intro pins s σ H x y v u Q I rx ry h
 obtain⟨i,j,rfl,rfl,q⟩:=h
 obtain⟨t,rfl⟩:=rx
 obtain⟨t',rfl⟩:=ry
 exact PySem.P.le_str ⟨.bl _,H,I,rfl,q⟩
theorem Ey {ys:List aB} : ∀ {us:List aE},Vals (ys.map V.str) us->StrsAre us ys:=by
 induction ys with
 | nil=>intro us r; cases r; exact .nil
 | cons y r ih=>
  intro us h
  cases h with
  | cons h1 h2=>
   obtain⟨t,rfl⟩:=h1
   exact .cons y t (ih h2)
theorem Np:MtR X "str.join" (fun x vs H Q=>∃ sep l ys,x = .str sep/\vs=[.ref l]/\SqL X.K H l (ys.map V.str)/\(ys.map (·.length)).sum+ys.length*sep.length≤16777216/\Q (.str (kK sep ys)) H):=by
 intro pins s σ H x xs v us Q I rx rv h
 obtain⟨sep,l,ys,rfl,rfl,hs,hok,q⟩:=h
 obtain⟨t,rfl⟩:=rx
 obtain⟨u,rfl,ru⟩:=vals1 rv
 cases ru
 obtain⟨its,r,pl,hz⟩:=I.list hs
 refine join_list pl.isList (by simpa using Ey r) hok fun t' k=>?_
 have e:Txt.join sep ys=kK sep ys:=StrLaws.glued_eq_join sep ys
 rw[e]
 exact⟨.str _,H,I.tok k,⟨t',rfl⟩,q⟩
theorem RL : ∀ cs:List Nat,kK ⟨#[]⟩ (cs.map fun c=>(⟨#[c]⟩:aB))=⟨cs.toArray⟩
 | []=>rfl
 | c::r=>by
  rw[cR,join_nil_cons,RL r]
  show(⟨#[c]++r.toArray⟩:aB)=⟨(c::r).toArray⟩
  simp
end
def ItD (K:aJ)(B:Hp)(J:It)(ds:List aA):Prop:=∀ (i:Nat) (H2:Hp),Ext B H2 ->
 (∀ d,ds[i]?=some d->J.go i H2 /\ ∀ x H3,J.yld i H2 x H3->Ext H2 H3 /\ ∀ P2,Hid P2 H2->Ext B (hid H2 P2)->Abb K (hid H3 P2) d x)/\(ds.length=i->J.stop i H2)
noncomputable def tI (K:aJ)(f:AF):TI:=fun σ H R=>∃ P ρ ds,Hid P H/\Aj4 K (hid H P) ρ σ/\f ρ=some ds /\ ∀ J H',Ext H H'->ItD K (hid H' P) J ds->R J H'
noncomputable def tI0 (K:aJ)(f:AF):TI:=fun σ H R=>∃ P ρ ds,Hid P H/\Aj4 K (hid H P) ρ σ/\f ρ=some ds /\ ∀ J H',Ext H H'->ItD K (fun _=>none) J ds->R J H'
abbrev DI (X:Cx)(tg e:aS)(f:AF):Prop:=PI X tg e (tI X.K f)
abbrev DI0 (X:Cx)(tg e:aS)(f:AF):Prop:=PI X tg e (tI0 X.K f)
noncomputable def itemsOf:aA->Option (List aA)
 | .list ds=>some ds
 | .tuple ds=>some ds
 | .str x=>some (x.cps.toList.map fun c=>.str ⟨#[c]⟩)
 | _=>none
noncomputable def iIt (f:EF):AF:=fun ρ=>(f ρ).bind itemsOf
section
variable {X:Cx}{tg e a b:aS}{p pos:bG}
theorem PI.imp {t t':TI}(h:PI X tg e t)(w : ∀ σ H R,t' σ H R->t σ H R):PI X tg e t':=fun pins s σ H R I q=>h pins s σ H R I (w _ _ _ q)
theorem PI.or {t t':TI}(h:PI X tg e t)(h':PI X tg e t'):PI X tg e (fun σ H R=>t σ H R \/ t' σ H R):=fun pins s σ H R I q=>q.elim (h pins s σ H R I) (h' pins s σ H R I)
theorem Py {K:aJ}{B:Hp}{a:aD}{xs:List V}{ds:List aA}(h:SqL K B a xs)(r:Aau K B ds xs):ItD K B (CA K a) ds:=fun i H2 x2=>by
 have h2:=x2.sqL h
 refine⟨fun d hd=>?_,fun e=>⟨xs,h2,by rw[r.length]; omega⟩⟩
 obtain⟨v,h3,h4⟩:=r.get hd
 refine⟨⟨xs,v,h2,h3⟩,?_⟩
 rintro x H3 ⟨rfl,hx⟩
 have:=h3.symm.trans (hx xs h2)
 cases this
 exact⟨Ext.refl,fun P2 _ xb=>h4.ext xb⟩
theorem Nq {K:aJ}{B:Hp}{a:aD}{xs:List V}{ds:List aA}(h:B a=some (.tup xs))(r:Aau K B ds xs):ItD K B (BZ K a) ds:=fun i H2 x2=>by
 have h2:SqT K H2 a xs:=SqT.of (x2 _ _ h)
 refine⟨fun d hd=>?_,fun e=>⟨xs,h2,by rw[r.length]; omega⟩⟩
 obtain⟨v,h3,h4⟩:=r.get hd
 refine⟨⟨xs,v,h2,h3⟩,?_⟩
 rintro x H3 ⟨rfl,hx⟩
 have:some v=some x:=h3.symm.trans (hx xs h2)
 cases this
 exact⟨Ext.refl,fun P2 _ xb=>h4.ext xb⟩
theorem EV {z:aB}{i c:Nat}(h:cM (.str z)=true)(hc:z.cps.toList[i]?=some c):cM (.str ⟨#[c]⟩)=true:=by
 have hz : ∀ d∈z.cps,d<0x110000:=by
  have h':z.cps.all (· < 0x110000)=true:=by simpa only[cM,BL] using h
  intro d hd
  exact of_decide_eq_true (Array.all_eq_true'.mp h' d hd)
 have:=hz c (by simpa using pS hc)
 simp[cM,BL,this]
theorem Ms {K:aJ}{B:Hp}{z:aB}(hl:cM (.str z)=true):ItD K B (yH z) (z.cps.toList.map fun c=>.str ⟨#[c]⟩):=fun i H2 x2=>by
 refine⟨fun d hd=>?_,fun e=>?_⟩
 ·rw[fH] at hd
  cases hc:z.cps.toList[i]? with
  | none=>rw[hc] at hd; simp at hd
  | some c=>
   rw[hc] at hd
   have hd:bK ⟨#[c]⟩=d:=by simpa using hd
   subst hd
   have hlt:i<z.cps.size:=by simpa using(fI.mp hc).1
   refine⟨hlt,?_⟩
   rintro x H3 ⟨rfl,c',hc',rfl⟩
   have:z.cps.toList[i]?=some c':=by simpa using hc'
   rw[hc] at this
   cases this
   exact⟨Ext.refl,fun P2 _ _=>Aas.mpr ⟨rfl,EV hl hc⟩⟩
 ·have:z.cps.size=i:=by simpa using e
  exact IW this
theorem Df {K:aJ}{lo:Int}{n:Nat}{B:Hp}:ItD K B (yI lo n) ((dG n).map fun(k:Nat)=>aZ (lo+k)):=fun i H2 x2=>by
 refine⟨fun d hd=>?_,fun e=>?_⟩
 ·have hlt:i<n:=by
   have:=(fI.mp hd).1
   simpa using this
  have hd':aZ (lo+i)=d:=by
   rw[fH,WB hlt] at hd
   simpa using hd
  subst hd'
  refine⟨hlt,?_⟩
  rintro x H3 ⟨rfl,rfl⟩
  exact⟨Ext.refl,fun P2 _ _=>Aat.mpr rfl⟩
 ·have:n=i:=by simpa using e
  exact IW this
theorem nJ {f:EF}(h:DE X e f):DI X tg e (iIt f):=PI.imp (PI.or (Lk h) (PI.or (Ad h) (ZN h))) fun σ H R gh=>by
 obtain⟨P,ρ,ds,hP,rs,ef,k⟩:=gh
 obtain⟨d,e1,ef⟩:=XBs ef
 cases d with
 | list ds'=>
  have:ds'=ds:=by simpa [itemsOf] using ef
  subst this
  refine .inl ⟨P,ρ,_,hP,rs,e1,cY fun v H1 x1 r1=>?_⟩
  obtain⟨a,xs,rfl,hr,rr⟩:=Abg.mp r1
  exact⟨a,rfl,⟨xs,Aa0.sqL hr⟩,k _ H1 x1 (Py hr rr)⟩
 | tuple ds'=>
  have:ds'=ds:=by simpa [itemsOf] using ef
  subst this
  refine .inr (.inl ⟨P,ρ,_,hP,rs,e1,cY fun v H1 x1 r1=>?_⟩)
  obtain⟨a,xs,rfl,hr,rr⟩:=Aay.mp r1
  exact⟨a,rfl,⟨xs,SqT.of (Aa0 _ _ hr)⟩,k _ H1 x1 (Nq hr rr)⟩
 | str z=>
  have:z.cps.toList.map (fun c=>bK ⟨#[c]⟩)=ds:=by simpa [itemsOf] using ef
  subst this
  refine .inr (.inr ⟨P,ρ,_,hP,rs,e1,cY fun v H1 x1 r1=>?_⟩)
  exact⟨z,(Aas.mp r1).1,k _ H1 x1 (Ms (Aas.mp r1).2)⟩
 | _=>simp[itemsOf] at ef
noncomputable def CI (lo hi:Int):Option (List aA):=if -(2 ^ 62)≤lo/\lo<2 ^ 62 /\ -(2 ^ 62)≤hi/\hi<2 ^ 62 then some ((dG (hi - lo).toNat).map fun(k:Nat)=>aZ (lo+k)) else none
noncomputable def iR1 (fa:AF):AF:=fun ρ=>(fa ρ).bind fun ds=>match ds with
 | [.int j]=>CI 0 j
 | _=>none
theorem tO {fa:AF}(hg:Gl X "range")(hm:X.mg "range" = none)(ha:DA X [a] fa)(hs:bI [a] X.env=[(false,bJ a X.env)]:=by rfl):DI0 X tg (.Call (.Name "range" p) [a] [] pos) (iR1 fa):=PI.imp (Cu hg hm ha hs) fun σ H R gh=>by
 obtain⟨P,ρ,ds,hP,rs,ef,k⟩:=gh
 obtain⟨as,e1,ef⟩:=XBs ef
 refine⟨P,ρ,as,hP,rs,e1,fun vs H1 x1 r1=>?_⟩
 split at ef
 ·rename_i j
  obtain⟨hb,rfl⟩:=cW ef
  obtain⟨v,t,rfl,h1,h2⟩:=Aag.mp r1
  obtain rfl:=Aao.mp h2
  obtain rfl:=Aat.mp h1
  have e0:(j - 0).toNat=j.toNat:=by simp
  refine⟨j,rfl,hb.2.2.1,hb.2.2.2,k _ H1 x1 ?_⟩
  rw[e0]
  exact Df
 ·cases ef
theorem yS {f:AF}(h:DI0 X tg e f):DI X tg e f:=PI.imp h fun σ H R ⟨P,ρ,ds,hP,rs,ef,k⟩=>⟨P,ρ,ds,hP,rs,ef,fun J H' x it=>k J H' x fun i H2 x2=>by
 obtain⟨h1,h2⟩:=it i H2 (fun _ _ e=>by cases e)
 exact⟨fun d hd=>⟨(h1 d hd).1,fun v H3 y=>⟨((h1 d hd).2 v H3 y).1,fun P2 hp _=>((h1 d hd).2 v H3 y).2 P2 hp fun _ _ e=>by cases e⟩⟩,h2⟩⟩
noncomputable def tI' (K:aJ)(H0:Hp)(P0:aD->Prop)(m:Md)(f:AF):TI:=fun σ H R=>∃ B0 ρ fp ds,Sta K H0 P0 B0 ρ σ H fp/\aV m f ρ=some ds /\ ∀ J B1 H',Sta K H0 P0 B1 ρ σ H' fp->Ext B0 B1->ItD K B1 J ds->R J H'
theorem Sta.rebase {K:aJ}{H0 H B0 B1:Hp}{P0:aD->Prop}{ρ:aW}{σ:St}{fp:Nat->List aD}(S:Sta K H0 P0 B0 ρ σ H fp)(b:Ext B1 (L2.hid H (Hd P0 fp))):Sta K H0 P0 B1 ρ σ H fp:=⟨S.len,S.nd,S.dj,S.own,S.ext,S.hd,b,S.slot⟩
variable {H0:Hp}{P0:aD->Prop}
theorem evI {f:AF}(h:DI X tg e f):PI X tg e (tI' X.K H0 P0 .s f):=PI.imp h fun σ H R ⟨B0,ρ,fp,ds,S,ef,k⟩=>
 ⟨Hd P0 fp,vS ρ,ds,S.hid,S.viewS,ef,fun J H' x it=>k J _ H' ((S.grow x).rebase Ext.refl) (S.grow x).base it⟩
theorem WY {f:AF}(m:Md)(h:DI0 X tg e f):PI X tg e (tI' X.K H0 P0 m f):=PI.imp h fun σ H R gh=>by
 obtain⟨B0,ρ,fp,ds,S,ef,k⟩:=gh
 have up : ∀ {J:It} {B:Hp},ItD X.K (fun _=>none) J ds->ItD X.K B J ds:=fun {J B} it i H2 x2=>by
  obtain⟨h1,h2⟩:=it i H2 (fun _ _ e=>by cases e)
  exact⟨fun d hd=>⟨(h1 d hd).1,fun v H3 y=>⟨((h1 d hd).2 v H3 y).1,fun P2 hp _=>((h1 d hd).2 v H3 y).2 P2 hp fun _ _ e=>by cases e⟩⟩,h2⟩
 cases m with
 | s=>exact⟨Hd P0 fp,vS ρ,ds,S.hid,S.viewS,ef,fun J H' x it=>k J _ H' (S.grow x) Ext.refl (up it)⟩
 | a=>exact⟨P0,vA ρ,ds,S.hd.ext S.ext,S.viewA,ef,fun J H' x it=>k J _ H' (S.grow x) Ext.refl (up it)⟩
end
noncomputable def tG (K:aJ)(H0:Hp)(P0:aD->Prop)(T:aA->aW->Option aW):TG:=fun v σ H Q=>∃ B0 ρ fp d ρ',Sta K H0 P0 B0 ρ σ H fp/\Abb K (hid H (Hd P0 fp)) d v/\T d ρ=some ρ' /\ ∀ σ' fp',Sta K H0 P0 B0 ρ' σ' H fp'->Q σ' H
abbrev DG (X:Cx)(H0:Hp)(P0:aD->Prop)(tg:aS)(T:aA->aW->Option aW):Prop:=PG X tg (tG X.K H0 P0 T)
section
variable {X:Cx}{H0:Hp}{P0:aD->Prop}{n0:Nat}{pos:bG}
theorem PG.imp {tg:aS}{t t':TG}(h:PG X tg t)(w : ∀ v σ H Q,t' v σ H Q->t v σ H Q):PG X tg t':=fun pins s σ H v u Q I r q=>h pins s σ H v u Q I r (w _ _ _ _ q)
theorem Sta.Apv {K:aJ}{H B0:Hp}{ρ:aW}{σ:St}{fp:Nat->List aD}{d:aA}{v:V}{i:Nat}(S:Sta K H0 P0 B0 ρ σ H fp)(r:Abb K (L2.hid H (Hd P0 fp)) d v)(hi:i<ρ.length) : ∃ fp',Sta K H0 P0 B0 (ρ.set i (some (0,d))) (σ.set i (some v)) H fp':=by
 have hsub : ∀ a,Hd P0 (fun j=>if j=ρ.length then [] else fp j) a->Hd P0 fp a:=fun a h=>by
  rcases h with h | ⟨j,h⟩
  ·exact .inl h
  ·by_cases hj:j=ρ.length
   ·simp only[hj,if_true] at h; simp at h
   ·simp only[hj,if_false] at h; exact .inr ⟨j,h⟩
 have S2:Sta K H0 P0 B0 ρ σ H (fun j=>if j=ρ.length then [] else fp j):=by
  refine⟨S.len,fun j=>?_,fun j k a h1 h2=>?_,fun j a h1=>?_,S.ext,S.hd,S.base.trans (iH hsub),fun j n d e=>?_⟩
  ·by_cases hj:j=ρ.length
   ·simp only[hj,if_true]; exact .nil
   ·simp only[hj,if_false]; exact S.nd j
  ·by_cases hj:j=ρ.length
   ·simp only[hj,if_true] at h1; simp at h1
   ·by_cases hk:k=ρ.length
    ·simp only[hk,if_true] at h2; simp at h2
    ·simp only[hj,if_false] at h1; simp only[hk,if_false] at h2; exact S.dj j k a h1 h2
  ·by_cases hj:j=ρ.length
   ·simp only[hj,if_true] at h1; simp at h1
   ·simp only[hj,if_false] at h1; exact S.own j a h1
  ·have hlt:=(fI.mp e).1
   have hj:j≠ρ.length:=by omega
   obtain⟨v',h1,h2⟩:=S.slot j n d e
   refine⟨v',h1,?_⟩
   simp only[hj,if_false]
   exact h2.keep (iH hsub) fun a m=>rfl
 refine Tmp.set ⟨_,S2,?_⟩ hi
 simp only[if_true]
 exact⟨rfl,r.ext (iH hsub)⟩
noncomputable def gNm (i:Nat):aA->aW->Option aW:=fun d ρ=>if i<ρ.length then some (ρ.set i (some (0,d))) else none
theorem wA {i:Nat}{x:aB}(hN:X.N.Nodup)(hi:X.N[i]?=some x)(hx:lL X.env.scope x)(hf:X.fn x=true \/ X.env.scope.names.lookup x=some .local:=by first | exact .inl rfl | exact .inr rfl | assumption):DG X H0 P0 (.Name x pos) (gNm i):=
 PG.imp (wD hN hi hx hf) fun v σ H Q gh=>by
  obtain⟨B0,ρ,fp,d,ρ',S,r,ef,k⟩:=gh
  obtain⟨hl,rfl⟩:=cW ef
  obtain⟨fp',S'⟩:=S.Apv r hl
  exact k _ fp' S'
noncomputable def pW (i j:Nat):aA->aW->Option aW:=fun d ρ=>match d with
 | .tuple [a,b]=>(gNm i a ρ).bind fun ρ'=>gNm j b ρ'
 | _=>none
theorem EG {i j:Nat}{x y:aB}{p1 p2:bG}{k}(hc:X.calm=true)(hN:X.N.Nodup)(hi:X.N[i]?=some x)(hj:X.N[j]?=some y)(hx:lL X.env.scope x)(hy:lL X.env.scope y)
  (hf:X.fn x=true \/ X.env.scope.names.lookup x=some .local:=by first | exact .inl rfl | exact .inr rfl | assumption) (hf2:X.fn y=true \/ X.env.scope.names.lookup y=some .local:=by first | exact .inl rfl | exact .inr rfl | assumption)
  (hn:(kJ [.Name x p1,.Name y p2] X.env).length=2:=by rfl) (hst:(kJ [.Name x p1,.Name y p2] X.env).findIdx? (·.1)=none:=by rfl)
  (h1:(kJ [.Name x p1,.Name y p2] X.env).map (·.2)=mW (.Name x p1) X.env::(kJ [.Name y p2] X.env).map (·.2):=by rfl) (h2:(kJ [.Name y p2] X.env).map (·.2)=mW (.Name y p2) X.env::(kJ [] X.env).map (·.2):=by rfl):DG X H0 P0 (.Tuple [.Name x p1,.Name y p2] k pos) (pW i j):=
 PG.imp (Af hc (OM (wD hN hi hx hf) (OM (wD hN hj hy hf2) Li h2) h1) hn hst) fun v σ H Q gh=>by
  obtain⟨B0,ρ,fp,d,ρ',S,r,ef,k⟩:=gh
  unfold pW at ef
  split at ef
  ·rename_i a b
   obtain⟨ρ1,e1,e2⟩:=XBs ef
   obtain⟨l1,rfl⟩:=cW e1
   obtain⟨l2,rfl⟩:=cW e2
   obtain⟨p,xs,rfl,hp,rr⟩:=Aay.mp r
   obtain⟨v1,t1,rfl,r1,rr⟩:=Aag.mp rr
   obtain⟨v2,t2,rfl,r2,rr⟩:=Aag.mp rr
   obtain rfl:=Aao.mp rr
   refine⟨p,_,rfl,SqT.of (Aa0 _ _ hp),rfl,v1,_,rfl,v2,_,rfl,rfl,?_⟩
   have Sb:=S.rebase Ext.refl
   obtain⟨fp1,S1⟩:=Sb.Apv r1 l1
   obtain⟨fp2,S2⟩:=S1.Apv (r2.ext S1.base) l2
   exact k _ fp2 (S2.rebase (S.base.trans S2.base))
  ·cases ef
end
noncomputable def mB (F:SF)(T:aA->aW->Option aW):List aA->SF
 | [],ρ=>some (.nx ρ)
 | d::r,ρ=>(T d ρ).bind fun ρ1=>(F ρ1).bind fun o=>match o with
  | .nx ρ'=>mB F T r ρ'
  | .ct ρ'=>mB F T r ρ'
  | .bk ρ'=>some (.nx ρ')
  | .rt d=>some (.rt d)
noncomputable def kP (m:Md)(fi:AF)(T:aA->aW->Option aW)(F:SF):SF:=fun ρ=>(aV m fi ρ).bind fun ds=>mB F T ds ρ
section
variable {X:Cx}{H0:Hp}{P0:aD->Prop}{n0:Nat}{pos:bG}{tg iter:aS}{body:List bH}{F:SF}{T:aA->aW->Option aW}{fi:AF}{m:Md}
theorem NX (hp:xT (aQ X.prog X.w) X.A X.env X.xe)(hc:X.calm=true)(hi:PI X tg iter (tI' X.K H0 P0 m fi))(hg:DG X H0 P0 tg T)(hb:DSs X H0 P0 n0 body F)
  (hs : ∀ x,rF iter X.env x=pure x:=by intro _; rfl):DS X H0 P0 n0 (.For tg iter body [] pos) (kP m fi T F):=PS.imp (UP hp hc hi hg hb hs) fun D σ H gh=>by
 obtain⟨B0,ρ,fp,o,S,ef,k⟩:=gh
 obtain⟨ds,e1,ef⟩:=XBs ef
 refine⟨B0,ρ,fp,ds,S,e1,fun J B1 H' S1 xb it=>?_⟩
 refine⟨fun i m σ H=>m=ds.length - i/\i≤ds.length /\ ∃ ρ fp,Sta X.K H0 P0 B1 ρ σ H fp/\mB F T (ds.drop i) ρ=some o,⟨ds.length,by simp,fP _,ρ,fp,S1,by simpa using ef⟩,?_⟩
 rintro i m σ2 H2 ⟨rfl,hi,ρ2,fp2,S2,e2⟩
 have x2:=S2.base.trans Aa0
 obtain⟨go,st⟩:=it i H2 x2
 by_cases hlt:i<ds.length
 ·have hd:=iP hlt
  rw[Ra hlt] at e2
  obtain⟨ρ3,e3,e2⟩:=XBs e2
  obtain⟨o3,e4,e2⟩:=XBs e2
  obtain⟨g1,g2⟩:=go _ hd
  refine .inr ⟨g1,fun σ' H'=>i+1≤ds.length /\ ∃ ρ fp,Sta X.K H0 P0 B1 ρ σ' H' fp/\mB F T (ds.drop (i+1)) ρ=some o,fun σ' H' ⟨h1,h2⟩=>⟨ds.length - (i+1),by omega,rfl,h1,h2⟩,fun x H3 y=>?_⟩
  obtain⟨x3,r3⟩:=g2 x H3 y
  refine⟨B1,ρ2,fp2,_,ρ3,S2.grow x3,r3 _ S2.hid S2.base,e3,fun σ4 fp4 S4=>⟨B1,ρ3,fp4,o3,S4,e4,?_⟩⟩
  cases o3 with
  | nx ρ5=>exact fun σ5 H5 fp5 S5=>⟨hlt,ρ5,fp5,S5,e2⟩
  | ct ρ5=>exact fun σ5 H5 fp5 S5=>⟨hlt,ρ5,fp5,S5,e2⟩
  | bk ρ5=>
   cases e2
   exact fun σ5 H5 fp5 S5=>k σ5 H5 fp5 (S5.rebase (xb.trans S5.base))
  | rt d=>
   cases e2
   exact k
 ·have e:i=ds.length:=by omega
  subst e
  rw[List.drop_length] at e2
  cases e2
  exact .inl ⟨st rfl,k σ2 H2 fp2 (S2.rebase (xb.trans S2.base))⟩
theorem DD (hp:xT (aQ X.prog X.w) X.A X.env X.xe)(hc:X.calm=true)(hi:DI X tg iter fi)(hg:DG X H0 P0 tg T)(hb:DSs X H0 P0 n0 body F)
  (hs : ∀ x,rF iter X.env x=pure x:=by intro _; rfl):DS X H0 P0 n0 (.For tg iter body [] pos) (kP .s fi T F):=NX hp hc (evI hi) hg hb hs
theorem MN (m:Md)(hp:xT (aQ X.prog X.w) X.A X.env X.xe)(hc:X.calm=true)(hi:DI0 X tg iter fi)(hg:DG X H0 P0 tg T)(hb:DSs X H0 P0 n0 body F)
  (hs : ∀ x,rF iter X.env x=pure x:=by intro _; rfl):DS X H0 P0 n0 (.For tg iter body [] pos) (kP m fi T F):=NX hp hc (WY m hi) hg hb hs
end
noncomputable def whD (m:Md)(t:BF)(F:SF):Nat->SF
 | 0,_=>none
 | n+1,ρ=>(bV m t ρ).bind fun b=>if b=true then(F ρ).bind fun o=>match o with
   | .nx ρ'=>whD m t F n ρ'
   | .ct ρ'=>whD m t F n ρ'
   | .bk ρ'=>some (.nx ρ')
   | .rt d=>some (.rt d)
  else some (.nx ρ)
section
variable {X:Cx}{H0:Hp}{P0:aD->Prop}{n0:Nat}{pos:bG}{c:aS}{body:List bH}{F:SF}{t:BF}
theorem Nv (m:Md)(fuel:Nat)(hp:xT (aQ X.prog X.w) X.A X.env X.xe)(hc:DT X c t)(hb:DSs X H0 P0 n0 body F):DS X H0 P0 n0 (.While c body [] pos) (whD m t F fuel):=
 PS.imp (Os hp (evB m hc) hb) fun D σ H gh=>by
  obtain⟨B0,ρ,fp,o,S,ef,k⟩:=gh
  refine⟨fun n σ H=>∃ ρ fp,Sta X.K H0 P0 B0 ρ σ H fp/\whD m t F n ρ=some o,⟨fuel,ρ,fp,S,ef⟩,?_⟩
  rintro n σ1 H1 ⟨ρ1,fp1,S1,e1⟩
  cases n with
  | zero=>cases e1
  | succ n=>
   obtain⟨b,e2,e1⟩:=XBs e1
   refine⟨B0,ρ1,fp1,b,S1,e2,fun H2 S2=>?_⟩
   cases b with
   | false=>
    have:some (Out.nx ρ1)=some o:=by simpa using e1
    cases this
    exact lM (k σ1 H2 fp1 S2)
   | true=>
    rw[if_pos rfl] at e1
    obtain⟨o3,e4,e1⟩:=XBs e1
    refine nZ ⟨fun σ' H'=>∃ ρ fp,Sta X.K H0 P0 B0 ρ σ' H' fp/\whD m t F n ρ=some o,fun σ' H' h=>⟨n,VU n,h⟩,B0,ρ1,fp1,o3,S2,e4,?_⟩
    cases o3 with
    | nx ρ5=>exact fun σ5 H5 fp5 S5=>⟨ρ5,fp5,S5,e1⟩
    | ct ρ5=>exact fun σ5 H5 fp5 S5=>⟨ρ5,fp5,S5,e1⟩
    | bk ρ5=>cases e1; exact k
    | rt d=>cases e1; exact k
end
noncomputable def lcD (T:aA->List (Option aA)->Option (List (Option aA)))(t:BF)(f:EF)(ρ:List (Option aA)):List aA->Option (List aA)
 | []=>some []
 | d::r=>(T d ρ).bind fun ρ1=>(t ρ1).bind fun c=>if c=true then(f ρ1).bind fun y=>(lcD T t f ρ r).bind fun ys=>some (y::ys) else lcD T t f ρ r
noncomputable def jT (cap:List (Option Nat))(ρ:List (Option aA)):List (Option aA):=cap.map fun o=>o.bind fun j=>(ρ[j]?).join
noncomputable def eLC (cap:List (Option Nat))(fi:AF)(T:aA->List (Option aA)->Option (List (Option aA)))(t:BF)(f:EF):EF:=fun ρ=>(fi ρ).bind fun ds=>(lcD T t f (jT cap ρ) ds).bind fun ys=>if ds.length≤sizeLine then some (.list ys) else none
noncomputable def tGB (K:aJ)(T:aA->List (Option aA)->Option (List (Option aA))):TG:=fun v σ H Q=>∃ P ρ d ρ',Hid P H/\Aj4 K (hid H P) ρ σ/\Abb K (hid H P) d v/\T d ρ=some ρ' /\ ∀ σ',Aj4 K (hid H P) ρ' σ'->Q σ' H
def TOk (T:aA->List (Option aA)->Option (List (Option aA))):Prop:=∀ d ρ ρ',T d ρ=some ρ' -> ∀ (i:Nat) d',ρ[i]?=some (some d')->ρ'[i]?=some (some d')
noncomputable def fY:BF:=fun _=>some true
noncomputable def gB (j:Nat):aA->List (Option aA)->Option (List (Option aA)):=fun d ρ=>match ρ[j]? with
 | some none=>some (ρ.set j (some d))
 | _=>none
theorem LZ {j:Nat}{d:aA}{ρ ρ':List (Option aA)}(h:gB j d ρ=some ρ'):ρ[j]?=some none/\ρ.set j (some d)=ρ':=by
 unfold gB at h
 split at h
 ·rename_i e
  exact⟨e,eU h⟩
 ·cases h
theorem kR {j:Nat}:TOk (gB j):=fun d ρ ρ' e i d' h=>by
 obtain⟨hj,rfl⟩:=LZ e
 by_cases q:j=i
 ·subst q; rw[hj] at h; cases h
 ·rw[lK q]; exact h
section
variable {X:Cx}{N:List aB}{cap:List (Option Nat)}{sc:gZ}{elt iter tg c:aS}{ifs:List aS}{pos:bG}{fi:AF}{T:aA->List (Option aA)->Option (List (Option aA))}{t:BF}{f:EF}
theorem kZ:yK X [] (tTF X.K fY):=fun pins s σ H Q I gh=>by
 obtain⟨P,ρ,b,hP,rs,ef,k⟩:=gh
 cases ef
 exact Jv pins s σ H Q I (k H Ext.refl)
theorem Aj4.set {K:aJ}{B:Hp}{ρ:List (Option aA)}{σ:St}{d:aA}{v:V}{j:Nat}(h:Aj4 K B ρ σ)(r:Abb K B d v)(hl:j<σ.length):Aj4 K B (ρ.set j (some d)) (σ.set j (some v)):=fun i d' e=>by
 by_cases q:j=i
 ·subst q
  have hj:j<ρ.length:=by
   have:=(fI.mp e).1
   simpa using this
  rw[lJ hj] at e
  cases e
  exact⟨v,lJ hl,r⟩
 ·rw[lK q] at e
  obtain⟨w,h1,h2⟩:=h i d' e
  exact⟨w,by rw[lK q]; exact h1,h2⟩
def DGB (X:Cx)(tg:aS)(T:aA->List (Option aA)->Option (List (Option aA))):Prop:=
 ∀ (pins:List (aD×aX)) (s:aH) (σ:St) (H:Hp) (v:V) (u:aE) (Q:St->Hp->Prop),Inv X pins σ H s->RelV v u->tGB X.K T v σ H Q ->
  aP (aQ X.prog X.w) X.A (mW tg X.env u) (fun _ s'=>∃ σ' H',Inv X pins σ' H' s'/\Q σ' H') X.xe s
theorem lA {j:Nat}{x:aB}(hN:X.N.Nodup)(hi:X.N[j]?=some x)(hx:lL X.env.scope x)(hf:X.fn x=true \/ X.env.scope.names.lookup x=some .local:=by first | exact .inl rfl | exact .inr rfl | assumption):DGB X (.Name x pos) (gB j):=fun pins s σ H v u Q I r gh=>by
 obtain⟨P,ρ,d,ρ',hP,rs,rd,ef,k⟩:=gh
 obtain⟨hj,rfl⟩:=LZ ef
 have hl:j<σ.length:=by rw[I.len]; exact(fI.mp hi).1
 exact wD hN hi hx hf pins s σ H v u Q I r (k _ (rs.set rd hl))
theorem Cp {K:aJ}{B:Hp}{ρ:List (Option aA)}{σ:St}(h:Aj4 K B ρ σ):Aj4 K B (jT cap ρ) (rT cap σ):=fun i d e=>by
 unfold jT at e
 unfold rT
 rw[fH] at e ⊢
 cases hc:cap[i]? with
 | none=>rw[hc] at e; simp at e
 | some o=>
  rw[hc] at e
  cases o with
  | none=>simp at e
  | some j=>
   simp only[rK,bR,uN] at e ⊢
   obtain⟨v,h1,h2⟩:=h j d (PL e)
   exact⟨v,by rw[h1]; rfl,h2⟩
theorem KP {K:aJ}(hT:TOk T) : ∀ σ H Q,tF K 1 (eLC cap fi T t f) σ H Q->tLC cap (tI K fi) (tGB K T) (tTF K t) (tF K 0 f) σ H Q:=fun σ H Q gh=>by
 obtain⟨P,ρ,d,hP,rs,ef,k⟩:=gh
 obtain⟨ds,e1,ef⟩:=XBs ef
 obtain⟨all,e2,ef⟩:=XBs ef
 obtain⟨hz,rfl⟩:=cW ef
 refine⟨P,ρ,ds,hP,rs,e1,fun J H1 x1 it A hA=>?_⟩
 have hPA:=(hP.ext x1).new hA
 have back : ∀ {H':Hp} {ys:List V},hid (upd H' A (.lst ys)) (orL P [A])=hid H' (orL P [A]):=fun {H' ys}=>by
  funext b
  unfold hid
  by_cases hb:orL P [A] b
  ·rw[if_pos hb,if_pos hb]
  ·rw[if_neg hb,if_neg hb]
   exact bP (fun z=>hb (.inr (by simp[z])))
 refine⟨fun i m ys σ' H'=>m=ds.length - i/\i≤ds.length/\H' A=some (.lst ys)/\Ext H1 H'/\Ext (hid H1 P) (hid H' (orL P [A]))/\Aj4 K (hid H' (orL P [A])) (jT cap ρ) σ'/\ys.length≤i /\
  ∃ done rest,Aau K (hid H' (orL P [A])) done ys/\lcD T t f (jT cap ρ) (ds.drop i)=some rest/\all=done++rest,⟨ds.length,?_⟩,?_⟩
 ·have xa:Ext (hid H1 P) (hid (upd H1 A (.lst [])) (orL P [A])):=fun b o e=>by
   obtain⟨nb,e⟩:=Ada.mp e
   have hb:=gY e hA
   exact gJ (fun z=>z.elim nb fun m=>hb (by simpa using m)) (by rw[bP hb]; exact e)
  exact⟨by simp,fP _,eL,Ext.new hA,xa,(Cp (rs.ext (cI x1))).ext xa,fP _,[],all,Aao.mpr rfl,by simpa using e2,rfl⟩
 ·rintro i m ys σ' H' ⟨rfl,hi,hD,x2,xb,rs2,hl,done,rest,rd,e3,rfl⟩
  refine⟨hD,?_⟩
  obtain⟨go,st⟩:=it i H' (Aa0.trans x2)
  have hid2:Hid (orL P [A]) H':=fun a h=>by
   rcases h with h | h
   ·exact(hP.ext (x1.trans x2)) a h
   ·have:a=A:=by simpa using h
    subst this
    exact .inl ⟨_,hD⟩
  by_cases hlt:i<ds.length
  ·have hd:=iP hlt
   rw[Ra hlt] at e3
   obtain⟨ρ1,e4,e3⟩:=XBs e3
   obtain⟨c,e5,e3⟩:=XBs e3
   obtain⟨g1,g2⟩:=go _ hd
   refine .inr ⟨g1,by omega,fun ys σ' H'=>i+1≤ds.length/\H' A=some (.lst ys)/\Ext H1 H'/\Ext (hid H1 P) (hid H' (orL P [A]))/\Aj4 K (hid H' (orL P [A])) (jT cap ρ) σ'/\ys.length≤i+1 /\
    ∃ d2 r2,Aau K (hid H' (orL P [A])) d2 ys/\lcD T t f (jT cap ρ) (ds.drop (i+1))=some r2/\done++rest=d2++r2,fun zs σ2 H2 h=>⟨ds.length - (i+1),by omega,rfl,h⟩,fun x H2 y=>?_⟩
   obtain⟨x3,r3⟩:=g2 x H2 y
   refine⟨orL P [A],jT cap ρ,_,ρ1,hid2.ext x3,rs2.ext (cI x3),r3 _ hid2 xb,e4,fun σ3 rs3=>?_⟩
   refine⟨orL P [A],ρ1,c,hid2.ext x3,rs3,e5,fun H4 x4=>?_⟩
   have rs4:Aj4 K (hid H2 (orL P [A])) (jT cap ρ) σ3:=fun j d' e=>rs3 j d' (hT _ _ _ e4 j d' e)
   cases c with
   | false=>
    rw[if_neg oM] at e3
    refine lM ⟨hlt,x4 _ _ (x3 _ _ hD),x2.trans (x3.trans x4),xb.trans (cI (x3.trans x4)),rs4.ext (cI x4),by omega,done,rest,rd.ext (cI (x3.trans x4)),e3,rfl⟩
   | true=>
    rw[if_pos rfl] at e3
    obtain⟨yd,e6,e3⟩:=XBs e3
    obtain⟨r2,e7,e3⟩:=XBs e3
    cases e3
    refine nZ ⟨orL P [A],ρ1,yd,hid2.ext (x3.trans x4),rs3.ext (cI x4),e6,cY fun v H5 x5 r5=>⟨x5 _ _ (x4 _ _ (x3 _ _ hD)),hlt,eL,?_,?_,?_,by simp; omega,done++[yd],r2,?_,e7,by simp⟩⟩
    ·intro b o e
     rw[bP (gY e hA)]
     exact x5 _ _ (x4 _ _ (x3 _ _ (x2 _ _ e)))
    ·rw[back]; exact xb.trans (cI (x3.trans (x4.trans x5)))
    ·rw[back]; exact rs4.ext (cI (x4.trans x5))
    ·rw[back]; exact(rd.ext (cI (x3.trans (x4.trans x5)))).snoc r5
  ·have e:i=ds.length:=by omega
   subst e
   rw[List.drop_length] at e3
   cases e3
   rw[uS] at k
   refine .inl ⟨st rfl,?_⟩
   refine k (.ref A) H' [A] (x1.trans x2) (gH.mpr ⟨by simp,.nil⟩) (fun a m=>?_) ⟨A,ys,ys.map fun _=>[],rfl,hD,?_,?_⟩
   ·have:a=A:=by simpa using m
    subst this
    exact⟨x1.none hA,_,hD⟩
   ·have : ∀ l:List V,(l.map fun _=>([]:List aD)).flatten=[]:=fun l=>by
     induction l with
     | nil=>rfl
     | cons a l ih=>rw[cR,uQ,ih]; rfl
    rw[this]
   ·have go : ∀ (ds:List aA) (xs:List V),Aau K (hid H' (orL P [A])) ds xs->All3 (Afe K (hid H' (orL P [A])) H' 0) ds xs (xs.map fun _=>[]):=by
     intro ds
     induction ds with
     | nil=>intro xs r; rw[Aao.mp r]; exact .nil
     | cons d ds ih=>
      intro xs r
      obtain⟨y,t,rfl,h1,h2⟩:=Aag.mp r
      exact .cons ⟨rfl,h1⟩ (ih t h2)
    exact go _ _ rd
def UJ (X:Cx)(N:List aB)(sc:gZ)(tg elt:aS)(ifs:List aS)(T:aA->List (Option aA)->Option (List (Option aA)))(t:BF)(f:EF):Prop:=
 ∀ (cl:List (aB×aD)) (C:aD) (s₀:aH) (H₀:Hp) (ex:List aD),DGB (gX X N sc cl C s₀ H₀ ex) tg T/\yK (gX X N sc cl C s₀ H₀ ex) ifs (tTF X.K t)/\DE (gX X N sc cl C s₀ H₀ ex) elt f
theorem mK (hc:X.calm=true)(S:CompScope X N cap sc)(hT:TOk T)(hi:DI X tg iter fi)(hb:UJ X N sc tg elt ifs T t f)(hs : ∀ x,rF iter X.env x=pure x:=by intro _; rfl) :
  DF 1 X (.ListComp elt [⟨tg,iter,ifs,0⟩] sc pos) (eLC cap fi T t f):=PE.imp (YJ hc S hi (g:=tGB X.K T) (tc:=tTF X.K t) (te:=tF X.K 0 f) hb hs) (KP hT)
variable {H0:Hp}{P0:aD->Prop}{n0:Nat}
theorem NQ {i:Nat}{x:aB}{px spos:bG}(m:Md)(hc:X.calm=true)(hN:X.N.Nodup)(hi':X.N[i]?=some x)(hx:lL X.env.scope x)(S:CompScope X N cap sc)(hT:TOk T)(hi:DI X tg iter fi)(hb:UJ X N sc tg elt ifs T t f)
  (hsw:lT (.ListComp elt [⟨tg,iter,ifs,0⟩] sc pos) (some (.Name x px)) spos.line X.env=pure true:=by rfl)
  (hs : ∀ x,rF iter X.env x=pure x:=by intro _; rfl) (hf:X.fn x=true \/ X.env.scope.names.lookup x=some .local:=by first | exact .inl rfl | exact .inr rfl | assumption) :
  DS X H0 P0 n0 (.Assign [.Name x px] (.ListComp elt [⟨tg,iter,ifs,0⟩] sc pos) spos) (bW i 1 m (eLC cap fi T t f)):=PS.imp (Oj hc hN hi' hx S hi (g:=tGB X.K T) (tc:=tTF X.K t) (te:=tF X.K 0 f) hb hsw hs hf) fun D σ H gh=>by
 obtain⟨B0,ρ,fp,o,S,ef,k⟩:=gh
 obtain⟨d,e1,ef⟩:=XBs ef
 obtain⟨hl,rfl⟩:=cW ef
 refine KP hT σ H _ (yJ m σ H _ ⟨B0,ρ,fp,d,S,e1,fun v H' t=>?_⟩)
 obtain⟨fp',S'⟩:=t.set hl
 exact k _ _ fp' S'
end
noncomputable def outD:Option Out->Option aA
 | some (.rt d)=>some d
 | some (.nx _)=>some .none
 | _=>none
noncomputable def fnD (np n:Nat)(body:SF):List aA->Option aA:=fun ds=>if ds.length=np then outD (body (ds.map (fun d=>some (0,d))++lI (n - np) none)) else none
noncomputable def spF (K:aJ)(n0:Nat)(F:List aA->Option aA):Sp:=fun vs H Q _=>∃ P ds d,Hid P H/\Aau K (hid H P) ds vs/\F ds=some d/\Res K P n0 d H Q
section
variable {P:bE}{w:bA}{K:aJ}{mg:aB->Option aE}{base:aU}
theorem jI {x qual:aB}{st:bH}{f:aD}{fd:fJ}{N ps:List aB}{k n0 np:Nat}{body:SF}(F:Fun K x qual st f fd)(S:FnScope N ps (bT st))(hnp:np=ps.length)(hN:ps.length≤N.length)
  (hb : ∀ (cdv:aE) (A:bY) (outer:List dZ) (s:aH) (H:Hp) (E:XK) (P0:aD->Prop),Room k (A.deeper (iC qual (bT st) s.heap.objs.size f cdv))->DSs (iS CX0 P w K mg base N qual (bT st) f cdv A outer s H E).nox H P0 n0 (iI st) body) :
  FnOk P w K mg base CX0 (k+1) f fd ps (spF K n0 (fnD np N.length body)):=by
 refine F.ok S (fun vs H Q E h=>?_) (fun cdv A outer s H vs Q E hr h=>?_)
 ·obtain⟨P,ds,d,_,r,ef,_⟩:=h
  unfold fnD at ef
  by_cases hl:ds.length=np
  ·rw[r.length,hl,hnp]
  ·rw[if_neg hl] at ef; cases ef
 ·obtain⟨P0,ds,d,hP,r,ef,k⟩:=h
  refine⟨_,hb cdv A outer s H E P0 hr,?_⟩
  unfold fnD at ef
  by_cases hl:ds.length=np
  case neg=>rw[if_neg hl] at ef; cases ef
  rw[if_pos hl] at ef
  rw[← hl] at ef
  have hlen:=r.length
  have S0:Sta K H P0 (hid H P0) (ds.map (fun d=>some (0,d))++lI (N.length - ds.length) none) (start N vs) H (fun _=>[]):=by
   have eH:Hd P0 (fun _=>[])=P0:=by
    funext a
    simp[Hd]
   refine⟨by simp[start,hlen],fun _=>.nil,fun i j a h=>by simp at h,fun i a h=>by simp at h,Ext.refl,hP,by rw[eH]; exact Ext.refl,fun i n' d' e=>?_⟩
   rw[eH]
   by_cases hi:i<ds.length
   ·rw[BR (by simpa using hi),fH] at e
    cases q:ds[i]? with
    | none=>rw[q] at e; simp at e
    | some d2=>
     rw[q] at e
     have e':0=n'/\d2=d':=by simpa using e
     obtain⟨rfl,rfl⟩:=e'
     obtain⟨v,h1,h2⟩:=r.get q
     refine⟨v,?_,rfl,h2⟩
     unfold start
     rw[BR (by rw[cJ,hlen]; exact hi),fH,h1]
     rfl
   ·rw[WC (by simpa using hi)] at e
    have:=pS e
    simp at this
  cases eb:body (ds.map (fun d=>some (0,d))++lI (N.length - ds.length) none) with
  | none=>rw[eb] at ef; cases ef
  | some o=>
   rw[eb] at ef
   refine⟨_,_,_,o,S0,eb,?_⟩
   cases o with
   | rt d'=>
    cases ef
    exact fun v H' ⟨Fr,h1,h2,h3,h4⟩=>k v H' Fr h1 h2 h3 h4
   | nx ρ'=>
    cases ef
    intro σ' H' fp' S'
    refine k .non H' [] S'.ext .nil (fun a m=>by simp at m) ?_
    cases n0 with
    | zero=>exact⟨rfl,Aca.mpr rfl⟩
    | succ n=>
     unfold Agc
     split
     ·exact .inl ⟨rfl,rfl,rfl⟩
     ·exact⟨rfl,Aca.mpr rfl⟩
   | bk _=>cases ef
   | ct _=>cases ef
variable {X:Cx}{x:aB}{k n0 np:Nat}{ps:List aB}{F:List aA->Option aA}{e:aS}{es:List aS}{fa:AF}{p pos:bG}
theorem cS (D:Def X.prog X.w X.K X.mg X.base x k ps (spF X.K n0 F))(hr:Room k X.A)(hg:Gl X x)(ha:DA X (e::es) fa)(hdb:(x == ("__debug__" : aB))=false:=by decide)(he:bI (e::es) X.env=(false,bJ e X.env)::bI es X.env:=by rfl)
  (hpl:(fF pos (bI es X.env)).any (·.1)=false:=by rfl):DF n0 X (.Call (.Name x p) (e::es) [] pos) (aO F fa):=
 PE.imp (Bc D hr hg ha hdb he hpl) fun σ H Q gh=>by
  obtain⟨P,ρ,d,hP,rs,ef,k⟩:=gh
  obtain⟨ds,e1,ef⟩:=XBs ef
  refine⟨P,ρ,ds,hP,rs,e1,fun vs H1 x1 r1=>?_⟩
  show spF X.K n0 F (vs++[]) H1 Q E0
  rw[uS]
  exact⟨P,ds,d,hP.ext x1,r1,ef,k.mono x1⟩
end
noncomputable def g2I (g:Int->Int->aA):aA->aA->Option aA
 | .int i,.int j=>some (g i j)
 | _,_=>none
noncomputable def g2C (C:Int->Int->Prop)[∀ i j,Decidable (C i j)](g:Int->Int->aA):aA->aA->Option aA
 | .int i,.int j=>if C i j then some (g i j) else none
 | _,_=>none
section
variable {K:aJ}
theorem DK {g:Int->Int->V}{gd:Int->Int->aA}(h : ∀ i j H,Abb K H (gd i j) (g i j)):OpD K 0 (rI0 g) (g2I gd):=fun P H x y a b d Q hP ra rb e k=>by
 unfold g2I at e
 split at e
 ·rename_i i j
  cases e
  exact⟨i,j,Aat.mp ra,Aat.mp rb,k.zero Ext.refl (h i j _)⟩
 ·cases e
theorem HR {C C':Int->Int->Prop}[∀ i j,Decidable (C' i j)]{g:Int->Int->V}{gd:Int->Int->aA}(hC : ∀ i j,C' i j->C i j)(h : ∀ i j H,Abb K H (gd i j) (g i j)):OpD K 0 (rI C g) (g2C C' gd):=fun P H x y a b d Q hP ra rb e k=>by
 unfold g2C at e
 split at e
 ·rename_i i j
  obtain⟨hc,rfl⟩:=cW e
  exact⟨i,j,Aat.mp ra,Aat.mp rb,hC i j hc,k.zero Ext.refl (h i j _)⟩
 ·cases e
end
section
variable {X:Cx}{a b c:aS}{fa fb fc:EF}{pos:bG}
noncomputable def vX:aA->aA->Option aA:=g2I fun i j=>.int (i - j)
theorem TH (ha:DE X a fa)(hb:DE X b fb):DE X (.BinOp a .Sub b pos) (eOp vX fa fb):=pZ Bd (DK fun _ _ _=>Aat.mpr rfl) ha hb
noncomputable def fS:aA->aA->Option aA:=g2C (fun i j=>(i.natAbs<2 ^ 64 \/ j.natAbs<2 ^ 64) \/ (i.natAbs<2 ^ 1000/\j.natAbs<2 ^ 1000)) fun i j=>.int (i*j)
theorem Ce:OpR X (kI .Mult) (rI (fun i j=>(i.natAbs<2 ^ 64 \/ j.natAbs<2 ^ 64) \/ (i.natAbs<2 ^ 1000/\j.natAbs<2 ^ 1000)) fun i j=>.int (i*j)):=by
 intro pins s σ H x y v u Q I rx ry h
 obtain⟨i,j,ex,ey,hc,q⟩:=h
 rcases hc with hc | hc
 ·refine ZA pins s σ H x y v u Q I rx ry ⟨i,j,ex,ey,?_,q⟩
  rcases hc with hc | hc
  ·exact .inl ⟨by omega,by omega⟩
  ·exact .inr ⟨by omega,by omega⟩
 ·exact Kv pins s σ H x y v u Q I rx ry ⟨i,j,ex,ey,hc,q⟩
theorem kW (ha:DE X a fa)(hb:DE X b fb):DE X (.BinOp a .Mult b pos) (eOp fS fa fb):=pZ Ce (HR (fun _ _ h=>h) fun _ _ _=>Aat.mpr rfl) ha hb
noncomputable def cG:aA->aA->Option aA:=g2C (fun _ j=>0<j) fun i j=>.int (i%j)
theorem eK (ha:DE X a fa)(hb:DE X b fb):DE X (.BinOp a .Mod b pos) (eOp cG fa fb):=pZ ZV (HR (fun _ _ h=>h) fun _ _ _=>Aat.mpr rfl) ha hb
noncomputable def mG:aA->aA->Option aA:=g2C (fun i j=>0≤j/\j≤1000000/\i.natAbs<2 ^ 64) fun i j=>.int (i ^ j.toNat)
theorem vO (ha:DE X a fa)(hb:DE X b fb):DE X (.BinOp a .Pow b pos) (eOp mG fa fb):=pZ ZP (HR (fun _ _ h=>h) fun _ _ _=>Aat.mpr rfl) ha hb
theorem GK {x y:aB}(hx:cM (.str x)=true)(hy:cM (.str y)=true):cM (.str (x++y))=true:=by
 have e:(x++y).cps=x.cps++y.cps:=rfl
 simp only[cM,BL] at hx hy ⊢
 rw[e,Array.all_append,hx,hy]
 rfl
noncomputable def cO:aA->aA->Option aA
 | .int i,.int j=>some (.int (i+j))
 | .str x,.str y=>if x.length+y.length≤sizeLine then some (.str (x++y)) else none
 | .tuple (x::xs),.tuple ys=>if (x::xs).length+ys.length≤sizeLine then some (.tuple ((x::xs)++ys)) else none
 | _,_=>none
theorem Jr {K:aJ}:OpD K 0 (fun x y H Q=>rI0 (fun i j=>.int (i+j)) x y H Q \/ (∃ i j,x = .str i/\y = .str j/\i.length+j.length≤sizeLine/\Q (.str (i++j)) H) \/ HV K x y H Q) cO:=fun P H x y a b d Q hP ra rb e k=>by
 unfold cO at e
 split at e
 ·rename_i i j
  cases e
  exact .inl ⟨i,j,Aat.mp ra,Aat.mp rb,k.zero Ext.refl (Aat.mpr rfl)⟩
 ·rename_i i j
  obtain⟨hc,rfl⟩:=cW e
  exact .inr (.inl ⟨i,j,(Aas.mp ra).1,(Aas.mp rb).1,hc,k.zero Ext.refl (Aas.mpr ⟨rfl,GK (Aas.mp ra).2 (Aas.mp rb).2⟩)⟩)
 ·rename_i z zs ys
  obtain⟨hc,rfl⟩:=cW e
  obtain⟨p,us,rfl,hp,r1⟩:=Aay.mp ra
  obtain⟨q,ws,rfl,hq,r2⟩:=Aay.mp rb
  have l1:=r1.length
  have l2:=r2.length
  refine .inr (.inr ⟨p,q,us,ws,rfl,rfl,SqT.of (Aa0 _ _ hp),SqT.of (Aa0 _ _ hq),fun z=>by rw[z] at l1; simp at l1,by rw[l1,l2]; exact hc,fun z=>?_,fun z r hr=>?_⟩)
  ·subst z
   have:ys=[]:=by simpa using l2.symm
   subst this
   refine k.zero Ext.refl ?_
   rw[uS]
   exact ra
  ·exact k.tup hP hr (r1.append r2)
 ·cases e
theorem gE (ha:DE X a fa)(hb:DE X b fb):DE X (.BinOp a .Add b pos) (eOp cO fa fb):=pZ (Bcm.or (Avm.or Azc)) Jr ha hb
mutual
noncomputable def noDict:aA->Bool
 | .dict _=>false
 | .list ds=>noDicts ds
 | .tuple ds=>noDicts ds
 | _=>true
noncomputable def noDicts:List aA->Bool
 | []=>true
 | d::r=>noDict d&&noDicts r
end
mutual
theorem kF {X:Cx}{pins:List (aD×aX)}{σ:St}{H:Hp}{s:aH}(I:Inv X pins σ H s) : ∀ {d:aA} {v:V} {u:aE},noDict d=true->Abb X.K H d v->RelV v u->d.canLay0=true /\ ∃ as,oF s.heap u d as
 | .none,v,u,_,h,r=>by
  obtain rfl:=Aca.mp h
  cases r; exact⟨by simp[cM],_,.none⟩
 | .bool b,v,u,_,h,r=>by
  obtain rfl:=Aar.mp h
  cases r; exact⟨by simp[cM],_,.bool b⟩
 | .int i,v,u,_,h,r=>by
  obtain rfl:=Aat.mp h
  obtain⟨t,rfl⟩:=r; exact⟨by simp[cM],_,.int i t⟩
 | .str x,v,u,_,h,r=>by
  obtain⟨rfl,hl⟩:=Aas.mp h
  obtain⟨t,rfl⟩:=r; exact⟨hl,_,.str x t⟩
 | .list ds,v,u,n,h,r=>by
  obtain⟨a,xs,rfl,hs,hr⟩:=Abg.mp h
  cases r
  obtain⟨its,rv,⟨o,m,e,hc,_,hd⟩,_⟩:=I.list hs
  obtain⟨hl,as,ha⟩:=HC I (by simpa [noDict] using n) hr rv
  exact⟨by simpa [cM] using hl,_,.list e hc hd (by simpa using ha)⟩
 | .tuple ds,v,u,n,h,r=>by
  obtain⟨a,xs,rfl,hs,hr⟩:=Aay.mp h
  cases r
  obtain⟨its,rv,⟨o,e,hc,m,hd⟩,_⟩:=I.tuple (SqT.of hs)
  obtain⟨hl,as,ha⟩:=HC I (by simpa [noDict] using n) hr rv
  exact⟨by simpa [cM] using hl,_,.tuple e hc hd (by simpa using ha)⟩
 | .dict _,_,_,n,h,_=>by simp[noDict] at n
theorem HC {X:Cx}{pins:List (aD×aX)}{σ:St}{H:Hp}{s:aH}(I:Inv X pins σ H s) : ∀ {ds:List aA} {vs:List V} {us:List aE},noDicts ds=true->Aau X.K H ds vs->Vals vs us->xS ds=true /\ ∃ as,oE s.heap us ds as
 | [],vs,us,_,h,r=>by
  obtain rfl:=Aao.mp h
  cases r; exact⟨by simp[xS],_,.nil⟩
 | d::ds,vs,us,n,h,r=>by
  have n':noDict d=true/\noDicts ds=true:=by simpa [noDicts] using n
  obtain⟨x,rr,rfl,h1,h2⟩:=Aag.mp h
  cases r with
  | cons r1 r2=>
   obtain⟨l1,as,ha⟩:=kF I n'.1 h1 r1
   obtain⟨l2,bs,hb⟩:=HC I n'.2 h2 r2
   exact⟨by simp[xS,l1,l2],_,.cons ha hb⟩
end
noncomputable def dJ (d:aA):Bool:=noDict d&&decide (d.depth≤60)
noncomputable def gEq:aA->aA->Option aA:=fun a b=>if (dJ a&&dJ b)=true then some (.bool (cL a b)) else none
noncomputable def gNe:aA->aA->Option aA:=fun a b=>if (dJ a&&dJ b)=true then some (.bool (!cL a b)) else none
noncomputable def yL (K:aJ)(neg:Bool):R2:=fun x y H Q=>∃ da db,Abb K H da x/\Abb K H db y/\dJ da=true/\dJ db=true/\Q (.bl (neg != cL da db)) H
theorem iG (hu:X.A.units+100<cLine):OpR X (eT .Eq) (yL X.K false):=by
 intro pins s σ H x y v u Q I rx ry h
 obtain⟨da,db,ra,rb,fa,fb,q⟩:=h
 have fa':noDict da=true/\da.depth≤60:=by simpa [dJ] using fa
 have fb':noDict db=true/\db.depth≤60:=by simpa [dJ] using fb
 obtain⟨la,as,ra⟩:=kF I fa'.1 ra rx
 obtain⟨lb,bs,rb⟩:=kF I fb'.1 rb ry
 exact SeqAt.compareEq_reads ra rb la lb (by omega) ⟨.bl _,H,I,rfl,by simpa using q⟩
theorem yO (hu:X.A.units+100<cLine):OpR X (eT .NotEq) (yL X.K true):=by
 intro pins s σ H x y v u Q I rx ry h
 obtain⟨da,db,ra,rb,fa,fb,q⟩:=h
 have fa':noDict da=true/\da.depth≤60:=by simpa [dJ] using fa
 have fb':noDict db=true/\db.depth≤60:=by simpa [dJ] using fb
 obtain⟨la,as,ra⟩:=kF I fa'.1 ra rx
 obtain⟨lb,bs,rb⟩:=kF I fb'.1 rb ry
 exact SeqAt.compareNe_reads ra rb la lb (by omega) ⟨.bl _,H,I,rfl,by simpa using q⟩
theorem iF {K:aJ}:OpD K 0 (yL K false) gEq:=fun P H x y a b d Q hP ra rb e k=>by
 obtain⟨hc,rfl⟩:=cW e
 have hc':dJ a=true/\dJ b=true:=by simpa using hc
 exact⟨a,b,ra.ext Aa0,rb.ext Aa0,hc'.1,hc'.2,k.zero Ext.refl (Aar.mpr (by simp))⟩
theorem yR {K:aJ}:OpD K 0 (yL K true) gNe:=fun P H x y a b d Q hP ra rb e k=>by
 obtain⟨hc,rfl⟩:=cW e
 have hc':dJ a=true/\dJ b=true:=by simpa using hc
 exact⟨a,b,ra.ext Aa0,rb.ext Aa0,hc'.1,hc'.2,k.zero Ext.refl (Aar.mpr (by simp))⟩
noncomputable def CO (K:aJ)(neg:Bool):R2:=fun x y H Q=>∃ d ds,Abb K H d x/\(Abb K H (.list ds) y \/ Abb K H (.tuple ds) y)/\dJ d=true/\noDicts ds=true/\Q (.bl (neg != ds.any fun z=>cL z d)) H
theorem Ac (hu:X.A.units+100<cLine):OpR X (eT .In) (CO X.K false):=by
 intro pins s σ H x y v u Q I rx ry h
 obtain⟨d,ds,ra,rb,fa,fb,q⟩:=h
 have fa':noDict d=true/\d.depth≤60:=by simpa [dJ] using fa
 obtain⟨la,as,ra⟩:=kF I fa'.1 ra rx
 rcases rb with rb | rb
 ·obtain⟨lb,bs,rb⟩:=kF I (by simpa [noDict] using fb) rb ry
  exact SeqAt.in_list_reads rb ra (by simpa [cM] using lb) la (by omega) ⟨.bl _,H,I,rfl,by simpa using q⟩
 ·obtain⟨lb,bs,rb⟩:=kF I (by simpa [noDict] using fb) rb ry
  exact SeqAt.in_tuple_reads rb ra (by simpa [cM] using lb) la (by omega) ⟨.bl _,H,I,rfl,by simpa using q⟩
theorem Cj (hu:X.A.units+100<cLine):OpR X (eT .NotIn) (CO X.K true):=by
 intro pins s σ H x y v u Q I rx ry h
 obtain⟨d,ds,ra,rb,fa,fb,q⟩:=h
 have fa':noDict d=true/\d.depth≤60:=by simpa [dJ] using fa
 obtain⟨la,as,ra⟩:=kF I fa'.1 ra rx
 rcases rb with rb | rb
 ·obtain⟨lb,bs,rb⟩:=kF I (by simpa [noDict] using fb) rb ry
  exact SeqAt.notIn_list_reads rb ra (by simpa [cM] using lb) la (by omega) ⟨.bl _,H,I,rfl,by simpa using q⟩
 ·obtain⟨lb,bs,rb⟩:=kF I (by simpa [noDict] using fb) rb ry
  exact SeqAt.notIn_tuple_reads rb ra (by simpa [cM] using lb) la (by omega) ⟨.bl _,H,I,rfl,by simpa using q⟩
end
theorem PE.or {X:Cx}{e:aS}{t t':TE}(h:PE X e t)(h':PE X e t'):PE X e (fun σ H Q=>t σ H Q \/ t' σ H Q):=fun pins s σ H Q I q=>q.elim (h pins s σ H Q I) (h' pins s σ H Q I)
noncomputable def gLt:aA->aA->Option aA
 | .int i,.int j=>some (.bool (decide (i<j)))
 | .str i,.str j=>some (.bool (decide (i.cps.toList<j.cps.toList)))
 | _,_=>none
noncomputable def gLe:aA->aA->Option aA
 | .int i,.int j=>some (.bool (decide (i≤j)))
 | .str i,.str j=>some (.bool (!(decide (j.cps.toList<i.cps.toList))))
 | _,_=>none
noncomputable def gGt:aA->aA->Option aA:=g2I fun i j=>.bool (decide (j<i))
noncomputable def gGe:aA->aA->Option aA:=g2I fun i j=>.bool (decide (j≤i))
section
variable {K:aJ}
theorem UE:OpD K 0 (fun x y H Q=>rI0 (fun i j=>.bl (decide (i<j))) x y H Q \/ ∃ i j,x = .str i/\y = .str j/\Q (.bl (decide (i.cps.toList<j.cps.toList))) H) gLt:=fun P H x y a b d Q hP ra rb e k=>by
 unfold gLt at e
 split at e
 ·cases e
  exact .inl ⟨_,_,Aat.mp ra,Aat.mp rb,k.zero Ext.refl (Aar.mpr rfl)⟩
 ·cases e
  exact .inr ⟨_,_,(Aas.mp ra).1,(Aas.mp rb).1,k.zero Ext.refl (Aar.mpr rfl)⟩
 ·cases e
theorem sT:OpD K 0 (fun x y H Q=>rI0 (fun i j=>.bl (decide (i≤j))) x y H Q \/ JU x y H Q) gLe:=fun P H x y a b d Q hP ra rb e k=>by
 unfold gLe at e
 split at e
 ·cases e
  exact .inl ⟨_,_,Aat.mp ra,Aat.mp rb,k.zero Ext.refl (Aar.mpr rfl)⟩
 ·cases e
  exact .inr ⟨_,_,(Aas.mp ra).1,(Aas.mp rb).1,k.zero Ext.refl (Aar.mpr rfl)⟩
 ·cases e
theorem vR:OpD K 0 (rI0 fun i j=>.bl (decide (j<i))) gGt:=DK fun _ _ _=>Aar.mpr rfl
theorem US:OpD K 0 (rI0 fun i j=>.bl (decide (j≤i))) gGe:=DK fun _ _ _=>Aar.mpr rfl
end
noncomputable def cV:aA->Option aN
 | .int i=>some (.inl i)
 | .str x=>some (.inr x)
 | _=>none
theorem SD {d:aA}{k:aN}(h:cV d=some k):d=kD k:=by
 cases d <;> simp[cV] at h <;> subst h <;> rfl
noncomputable def cF (kds:List (aA×aA))(k:aN):Option aA:=(kds.find? fun kd=>decide (cV kd.1=some k)).map (·.2)
theorem oW (k:aN):cV (kD k)=some k:=by cases k <;> rfl
theorem zU {K:aJ}{H:Hp}{k:aN} : ∀ {kds:List (aA×aA)} {kvs:List (aN×V)},Abp K H kds kvs->(cF kds k=none/\eF kvs k=none) \/ ∃ d v,cF kds k=some d/\eF kvs k=some v/\Abb K H d v
 | [],kvs,h=>by rw[Abl.mp h]; exact .inl ⟨rfl,rfl⟩
 | (k0,d)::r,kvs,h=>by
  obtain⟨k',x,rr,rfl,rfl,h1,h2⟩:=Aa1.mp h
  by_cases e:k'=k
  ·refine .inr ⟨d,x,?_,wK e,h1⟩
   simp[cF,gT,oW,e]
  ·have e1:cF ((kD k',d)::r) k=cF r k:=by simp[cF,gT,oW,e]
   rw[e1,tH e]
   exact zU h2
theorem SB {K:aJ}{H:Hp}{k:aN} : ∀ {kds:List (aA×aA)} {kvs:List (List aA×V)},Acf K H kds kvs->cF kds k=none
 | [],kvs,h=>rfl
 | (k0,d)::r,kvs,h=>by
  obtain⟨k',x,rr,rfl,⟨rfl,_⟩,h1,h2⟩:=Aa9.mp h
  have e1:cF ((.tuple k',d)::r) k=cF r k:=by simp[cF,gT,cV]
  rw[e1]
  exact SB h2
theorem Pd {K:aJ}{H:Hp}{k:aN}{kds:List (aA×aA)}{v:V}{d:aA}(h:Abb K H (.dict kds) v)(e:cF kds k=some d) : ∃ a,∃ kvs:Nat×List (aN×V),v = .ref a/\H a=some (.dK kvs.1 kvs.2)/\Abp K H kds kvs.2:=by
 obtain⟨a,ev,⟨kvs,h1,r⟩ | ⟨ts,h1,r⟩ | ⟨xs,h1,r⟩ | r⟩:=Aby.mp h
 case inr.inr.inr=>
  obtain⟨c,r',rfl,hn⟩:=yU r
  have:cF ((.none,.str c)::r') k=none:=by
   unfold cF
   rw[List.find?_eq_none.mpr fun p m=>?_]
   ·rfl
   ·have:p.1 = .none:=(cQ.mp m).elim (fun z=>by rw[z]) (hn p)
    rw[this]
    simp[cV]
  rw[this] at e
  cases e
 case inr.inr.inl=>
  obtain⟨es,rfl,_⟩:=tP r
  cases e
 ·exact⟨a,kvs,ev,h1,r⟩
 ·cases kds with
  | nil=>simp[Avx] at r
  | cons p q=>
   obtain⟨k0,m⟩:=p
   obtain⟨rfl,r2⟩:=Adc.mp r
   have e1:cF ((.none,m)::q) k=cF q k:=by simp[cF,gT,cV]
   rw[e1,SB r2] at e
   cases e
noncomputable def nC (kds:List (aA×aA))(k:List aA):Option aA:=(kds.find? fun kd=>cL kd.1 (.tuple k)).map (·.2)
theorem Ki (a b:List aA):cL (.tuple a) (.tuple b)=pP a b:=by simp[cL]
theorem RN {a k:List aA}{d:aA}{r:List (aA×aA)}(ha:bX a=true)(hk:bX k=true):nC ((.tuple a,d)::r) k=if a=k then some d else nC r k:=by
 have e:cL (.tuple a) (.tuple k)=decide (a=k):=by rw[Ki,GE _ _ ha hk]
 unfold nC
 rw[gT,e]
 by_cases h:a=k
 ·rw[if_pos h,decide_eq_true h]; rfl
 ·rw[if_neg h,decide_eq_false h]
theorem PC {K:aJ}{H:Hp}{k:List aA}(hk:bX k=true) : ∀ {kds:List (aA×aA)} {kvs:List (List aA×V)},Acf K H kds kvs->(nC kds k=none/\eF kvs k=none) \/ ∃ d v,nC kds k=some d/\eF kvs k=some v/\Abb K H d v
 | [],kvs,h=>by rw[Aco.mp h]; exact .inl ⟨rfl,rfl⟩
 | (k0,d)::r,kvs,h=>by
  obtain⟨k',x,rr,rfl,⟨rfl,hk'⟩,h1,h2⟩:=Aa9.mp h
  rw[RN hk' hk]
  by_cases e:k'=k
  ·rw[if_pos e]
   exact .inr ⟨d,x,rfl,wK e,h1⟩
  ·rw[if_neg e,tH e]
   exact PC hk h2
noncomputable def putD (kds:List (aA×aA))(k:aN)(d:aA):List (aA×aA):=
 if (kds.any fun kd=>decide (cV kd.1=some k))=true then kds.map fun kd=>if cV kd.1=some k then(kd.1,d) else kd else kds++[(kD k,d)]
theorem MI {K:aJ}{H:Hp}{k:aN} : ∀ {kds:List (aA×aA)} {kvs:List (aN×V)},Abp K H kds kvs->(kds.any fun kd=>decide (cV kd.1=some k))=kvs.any fun kv=>decide (kv.1=k)
 | [],kvs,h=>by rw[Abl.mp h]; rfl
 | (k0,d)::r,kvs,h=>by
  obtain⟨k',x,rr,rfl,rfl,h1,h2⟩:=Aa1.mp h
  rw[BV,BV,MI h2,oW]
  simp
theorem EZ {K:aJ}{H:Hp}{k:aN}{d:aA}{v:V}(rv:Abb K H d v) : ∀ {kds:List (aA×aA)} {kvs:List (aN×V)},Abp K H kds kvs ->
  Abp K H (kds.map fun kd=>if cV kd.1=some k then(kd.1,d) else kd) (kvs.map fun kv=>if kv.1=k then(kv.1,v) else kv)
 | [],kvs,h=>by rw[Abl.mp h]; exact Abl.mpr rfl
 | (k0,d0)::r,kvs,h=>by
  obtain⟨k',x,rr,rfl,rfl,h1,h2⟩:=Aa1.mp h
  rw[cR,cR]
  by_cases e:k'=k
  ·rw[if_pos (show cV (kD k',d0).1=some k by rw[oW,e]),if_pos (show(k',x).1=k from e)]
   exact Aa1.mpr ⟨k',v,_,rfl,rfl,rv,EZ rv h2⟩
  ·rw[if_neg (show ¬ cV (kD k',d0).1=some k by rw[oW]; simpa using e),if_neg (show ¬ (k',x).1=k from e)]
   exact Aa1.mpr ⟨k',x,_,rfl,rfl,h1,EZ rv h2⟩
theorem Abp.snoc {K:aJ}{H:Hp}{k:aN}{d:aA}{v:V}(rv:Abb K H d v) : ∀ {kds:List (aA×aA)} {kvs:List (aN×V)},Abp K H kds kvs->Abp K H (kds++[(kD k,d)]) (kvs++[(k,v)])
 | [],kvs,h=>by rw[Abl.mp h]; exact Aa1.mpr ⟨k,v,[],rfl,rfl,rv,Abl.mpr rfl⟩
 | (k0,d0)::r,kvs,h=>by
  obtain⟨k',x,rr,rfl,rfl,h1,h2⟩:=Aa1.mp h
  exact Aa1.mpr ⟨k',x,_,rfl,rfl,h1,Abp.snoc rv h2⟩
theorem Nj {K:aJ}{H:Hp}{k:aN}{d:aA}{v:V}{kds:List (aA×aA)}{kvs:List (aN×V)}(h:Abp K H kds kvs)(rv:Abb K H d v):Abp K H (putD kds k d) (putK kvs k v):=by
 unfold putD putK
 rw[MI h]
 by_cases q:(kvs.any fun kv=>decide (kv.1=k))=true
 ·rw[if_pos q,if_pos q]; exact EZ rv h
 ·rw[if_neg q,if_neg q]; exact Abp.snoc rv h
theorem Abp.length {K:aJ}{H:Hp} : ∀ {kds:List (aA×aA)} {kvs:List (aN×V)},Abp K H kds kvs->kvs.length=kds.length
 | [],kvs,h=>by rw[Abl.mp h]; rfl
 | (k0,d0)::r,kvs,h=>by
  obtain⟨k',x,rr,rfl,rfl,h1,h2⟩:=Aa1.mp h
  rw[fG,fG,Abp.length h2]
theorem wO {K:aJ}{H:Hp}{d:aA}{x:V}{k:aN}(h:cV d=some k)(r:Abb K H d x):x=kV k:=by
 rw[SD h] at r
 exact Gv r
noncomputable def gIx:aA->aA->Option aA
 | .list ds,.int i=>atI ds i
 | .tuple ds,.int i=>atI ds i
 | .str z,.int i=>if z.length≤sizeLine then(atI z.cps.toList i).bind fun c=>some (.str ⟨#[c]⟩) else none
 | .dict kds,d=>(cV d).bind fun k=>cF kds k
 | _,_=>none
theorem NC {K:aJ}{H:Hp}{ds:List aA}{xs:List V}{i:Int}{d:aA}(r:Aau K H ds xs)(h:atI ds i=some d) : ∃ v,atI xs i=some v/\Abb K H d v:=by
 unfold atI at h ⊢
 rw[r.length]
 obtain⟨j,h1,h2⟩:=XBs h
 obtain⟨v,h3,h4⟩:=r.get h2
 exact⟨v,by rw[h1]; exact h3,h4⟩
theorem Ke {α:Type}{xs:List α}{i:Int}{x:α}(h:atI xs i=some x) : ∃ j:Nat,xs[j]?=some x:=by
 unfold atI at h
 obtain⟨j,h1,h2⟩:=XBs h
 exact⟨j,h2⟩
section
variable {X:Cx}{a b e:aS}{es:List aS}{fa fb f:EF}{pos p:bG}
theorem dN (hu:X.A.units+40<cLine)(ha:DE X a fa)(hb:DE X b fb)(hs:LO b):DE X (.Subscript a b pos) (eOp gIx fa fb):=PE.imp (PE.or (YM Ba ha hb hs) (LY hu ha hb hs)) fun σ H Q h=>by
 obtain⟨P,ρ,d,hP,rs,ef,k⟩:=h
 obtain⟨d1,e1,ef2⟩:=XBs ef
 obtain⟨d2,e2,ef3⟩:=XBs ef2
 clear ef ef2
 have seq:(∀ (H2:Hp) (v u:V),Ext H H2->Abb X.K (hid H2 P) d1 v->Abb X.K (hid H2 P) d2 u->rIx X.K v u H2 Q)->tOp (rIx X.K) (tF X.K 0 fa) (tF X.K 0 fb) σ H Q:=fun z=>
  ⟨P,ρ,d1,hP,rs,e1,cY fun v H1 x1 r1=>⟨P,ρ,d2,hP.ext x1,rs.ext (cI x1),e2,cY fun u H2 x2 r2=>z H2 v u (x1.trans x2) (r1.ext (cI x2)) r2⟩⟩
 cases d1 with
 | list ds=>
  cases d2 with
  | int i=>
   refine .inl (seq fun H2 v u x r1 r2=>.inl ?_)
   obtain⟨q,xs,rfl,hq,rr⟩:=Abg.mp r1
   obtain⟨w,h1,h2⟩:=NC rr (show atI ds i=some d from ef3)
   exact⟨q,xs,i,w,rfl,Aat.mp r2,Aa0.sqL hq,h1,k.zero x h2⟩
  | _=>cases ef3
 | tuple ds=>
  cases d2 with
  | int i=>
   refine .inl (seq fun H2 v u x r1 r2=>.inr (.inl ?_))
   obtain⟨q,xs,rfl,hq,rr⟩:=Aay.mp r1
   obtain⟨w,h1,h2⟩:=NC rr (show atI ds i=some d from ef3)
   exact⟨q,xs,i,w,rfl,Aat.mp r2,SqT.of (Aa0 _ _ hq),h1,k.zero x h2⟩
  | _=>cases ef3
 | str z=>
  cases d2 with
  | int i=>
   have ef3:(if z.length≤sizeLine then(atI z.cps.toList i).bind fun c=>some (.str ⟨#[c]⟩) else none)=some d:=ef3
   by_cases hz:z.length≤sizeLine
   ·rw[if_pos hz] at ef3
    obtain⟨c,h1,h2⟩:=XBs ef3
    cases h2
    obtain⟨j,hj⟩:=Ke h1
    refine .inl (seq fun H2 v u x r1 r2=>.inr (.inr ⟨z,i,c,(Aas.mp r1).1,Aat.mp r2,hz,h1,k.zero x (Aas.mpr ⟨rfl,EV (Aas.mp r1).2 hj⟩)⟩))
   ·rw[if_neg hz] at ef3; cases ef3
  | _=>cases ef3
 | dict kds=>
  obtain⟨kk,h1,h2⟩:=XBs (show((cV d2).bind fun k=>cF kds k)=some d by cases d2 <;> exact ef3)
  refine .inr ⟨P,ρ,_,hP,rs,e1,cY fun v H1 x1 r1=>⟨P,ρ,d2,hP.ext x1,rs.ext (cI x1),e2,cY fun u H2 x2 r2=>?_⟩⟩
  obtain⟨q,kvs,rfl,hq,rr⟩:=Pd (r1.ext (cI x2)) h2
  rcases zU rr with⟨n1,_⟩ | ⟨d',v',s1,s2,rd⟩
  ·rw[h2] at n1; cases n1
  ·rw[h2] at s1
   cases s1
   refine⟨q,v',rfl,.inl ⟨kvs.1,kvs.2,kk,.inl (Aa0 _ _ hq),wO h1 r2,s2.symm⟩,k.zero (x1.trans x2) rd⟩
 | _=>cases d2 <;> cases ef3
noncomputable def JT (neg:Bool):aA->List (aA×aA)->Option aA
 | .tuple _,(_,.list _)::_=>none
 | .tuple _,(_,.str _)::_=>none
 | .tuple k,(_,_)::kds=>if (bX k&&decide (dI k≤6))=true then some (.bool (neg != (nC kds k).isSome)) else none
 | _,_=>none
noncomputable def gIn (neg:Bool):aA->aA->Option aA
 | d,.list ds=>if (dJ d&&noDicts ds)=true then some (.bool (neg != ds.any fun z=>cL z d)) else none
 | d,.tuple ds=>if (dJ d&&noDicts ds)=true then some (.bool (neg != ds.any fun z=>cL z d)) else none
 | .str i,.str j=>some (.bool (neg != !(lY j i 0 j.length 1).isEmpty))
 | d,.dict kds=>if plK kds=true then(cV d).bind fun k=>some (.bool (neg != (cF kds k).isSome)) else JT neg d kds
 | _,_=>none
noncomputable def DU (K:aJ)(neg:Bool):R2:=fun x y H Q=>CO K neg x y H Q \/ (∃ i j,x = .str i/\y = .str j/\Q (.bl (neg != !(lY j i 0 j.length 1).isEmpty)) H) \/ ∃ a o,y = .ref a/\Axc H a x o/\Q (.bl (neg != o.isSome)) H
theorem qT (hu:X.A.units+100<cLine):OpR X (eT .In) (DU X.K false):=by
 intro pins s σ H x y v u Q I rx ry h
 rcases h with h | ⟨i,j,ex,ey,q⟩ | ⟨a,o,rfl,g,q⟩
 ·exact Ac hu pins s σ H x y v u Q I rx ry h
 ·exact Dg pins s σ H x y v u Q I rx ry ⟨i,j,ex,ey,by simpa using q⟩
 ·cases ry
  exact WZ (by omega) I g rx fun s' I'=>⟨.bl _,H,I',rfl,by simpa using q⟩
theorem SM (hu:X.A.units+100<cLine):OpR X (eT .NotIn) (DU X.K true):=by
 intro pins s σ H x y v u Q I rx ry h
 rcases h with h | ⟨i,j,ex,ey,q⟩ | ⟨a,o,rfl,g,q⟩
 ·exact Cj hu pins s σ H x y v u Q I rx ry h
 ·exact Hn pins s σ H x y v u Q I rx ry ⟨i,j,ex,ey,by simpa using q⟩
 ·cases ry
  exact Mm (by omega) I g rx fun s' I'=>⟨.bl _,H,I',rfl,by simpa using q⟩
theorem nK {K:aJ}{neg:Bool}:OpD K 0 (DU K neg) (gIn neg):=fun P H x y a b d Q hP ra rb e k=>by
 unfold gIn at e
 split at e
 ·obtain⟨hc,rfl⟩:=cW e
  have hc':=iQ.mp hc
  exact .inl ⟨a,_,ra.ext Aa0,.inl (rb.ext Aa0),hc'.1,hc'.2,k.zero Ext.refl (Aar.mpr rfl)⟩
 ·obtain⟨hc,rfl⟩:=cW e
  have hc':=iQ.mp hc
  exact .inl ⟨a,_,ra.ext Aa0,.inr (rb.ext Aa0),hc'.1,hc'.2,k.zero Ext.refl (Aar.mpr rfl)⟩
 ·cases e
  exact .inr (.inl ⟨_,_,(Aas.mp ra).1,(Aas.mp rb).1,k.zero Ext.refl (Aar.mpr rfl)⟩)
 ·rename_i kds
  by_cases pk:plK kds=true
  case neg=>
   rw[if_neg pk] at e
   have ek : ∃ m r,kds=(.none,m)::r:=by
    cases kds with
    | nil=>simp[plK] at pk
    | cons p r=>
     obtain⟨k0,m⟩:=p
     cases k0 <;> simp[plK] at pk
     exact⟨m,r,rfl⟩
   obtain⟨m,r,rfl⟩:=ek
   cases a with
   | tuple kk=>
    have hm : ∀ es,m ≠ .list es:=by
     rintro es rfl
     cases e
    have hm2 : ∀ c,m ≠ .str c:=by
     rintro c rfl
     cases e
    replace e:(if (bX kk&&decide (dI kk≤6))=true then some (eM (neg != (nC r kk).isSome)) else none)=some d:=by
     cases m with
     | list es=>exact absurd rfl (hm es)
     | str es=>cases e
     | _=>exact e
    obtain⟨hc,rfl⟩:=cW e
    have hc':bX kk=true/\dI kk≤6:=by simpa using hc
    obtain⟨q,ts,rfl,hq,rr⟩:=(pC hm hm2).mp rb
    obtain⟨b,xs,rfl,hb,rx⟩:=Aay.mp (ra.ext Aa0)
    refine .inr (.inr ⟨q,eF ts.2 kk,rfl,.inr ⟨ts.2,kk,b,⟨_,.inl (Aa0 _ _ hq)⟩,rfl,⟨hc'.1,hc'.2,xs,hb,Aau.keys kk hc'.1 rx⟩,rfl⟩,k.zero Ext.refl (Aar.mpr ?_)⟩)
    rcases PC hc'.1 rr with⟨n1,n2⟩ | ⟨d',v',s1,s2,rd⟩
    ·rw[n1,n2]; rfl
    ·rw[s1,s2]; rfl
   | _=>simp[JT] at e
  rw[if_pos pk] at e
  obtain⟨kk,h1,h2⟩:=XBs e
  cases h2
  obtain⟨q,kvs,rfl,hq,rr⟩:=(qS pk).mp rb
  refine .inr (.inr ⟨q,eF kvs.2 kk,rfl,.inl ⟨kvs.1,kvs.2,kk,.inl (Aa0 _ _ hq),wO h1 ra,rfl⟩,k.zero Ext.refl (Aar.mpr ?_)⟩)
  rcases zU rr with⟨n1,n2⟩ | ⟨d',v',s1,s2,rd⟩
  ·rw[n1,n2]; rfl
  ·rw[s1,s2]; rfl
 ·cases e
end
noncomputable def dH:List aA->Option aA
 | [.list ds]=>some (.int ds.length)
 | [.tuple ds]=>some (.int ds.length)
 | [.dict kds]=>if plK kds=true then some (.int kds.length) else none
 | [.str z]=>if z.length≤sizeLine then some (.int z.length) else none
 | _=>none
theorem gK {K:aJ}{H:Hp}{d:aA}{xs:List V}(r:Aau K H [d] xs) : ∃ v,xs=[v]/\Abb K H d v:=by
 obtain⟨v,t,rfl,h1,h2⟩:=Aag.mp r
 obtain rfl:=Aao.mp h2
 exact⟨v,rfl,h1⟩
section
variable {X:Cx}
def JV (K:aJ):List V->Hp->VK->Prop:=fun xs H Q=>(∃ p ys,xs=[.ref p]/\(SqL K H p ys \/ SqT K H p ys)/\Q (.int ys.length) H) \/ (∃ z,xs=[.str z]/\z.length≤sizeLine/\Q (.int z.length) H) \/ ∃ a ep kvs,xs=[V.ref a]/\H a=some (.dK ep kvs)/\Q (.int kvs.length) H
theorem kH:Adn X (.builtin "len") (JV X.K):=Aps.or (Aqx.or Dt)
theorem kE {K:aJ}:CallD K 0 (JV K) dH:=fun P H xs ds d Q hP r e k=>by
 unfold dH at e
 split at e
 ·cases e
  obtain⟨v,rfl,r'⟩:=gK r
  replace r:=r'
  obtain⟨q,ys,rfl,hq,rr⟩:=Abg.mp r
  exact .inl ⟨q,ys,rfl,.inl (Aa0.sqL hq),k.zero Ext.refl (Aat.mpr (by rw[rr.length]))⟩
 ·cases e
  obtain⟨v,rfl,r'⟩:=gK r
  replace r:=r'
  obtain⟨q,ys,rfl,hq,rr⟩:=Aay.mp r
  exact .inl ⟨q,ys,rfl,.inr (SqT.of (Aa0 _ _ hq)),k.zero Ext.refl (Aat.mpr (by rw[rr.length]))⟩
 ·obtain⟨pk,rfl⟩:=cW e
  obtain⟨v,rfl,r'⟩:=gK r
  replace r:=r'
  obtain⟨q,ys,rfl,hq,rr⟩:=(qS pk).mp r
  exact .inr (.inr ⟨q,ys.1,ys.2,rfl,Aa0 _ _ hq,k.zero Ext.refl (Aat.mpr (by rw[rr.length]))⟩)
 ·obtain⟨hz,rfl⟩:=cW e
  obtain⟨v,rfl,r'⟩:=gK r
  replace r:=r'
  exact .inr (.inl ⟨_,by rw[(Aas.mp r).1],hz,k.zero Ext.refl (Aat.mpr rfl)⟩)
 ·cases e
noncomputable def sJ:aA->String
 | .none=>"NoneType"
 | .bool _=>"bool"
 | .int _=>"int"
 | .str _=>"str"
 | .list _=>"list"
 | .tuple _=>"tuple"
 | .dict _=>"dict"
noncomputable def OS:List String:=["int","bool","str","list","tuple","dict"]
theorem Cr (d:aA):sJ d∈kinds:=by cases d <;> simp[sJ,kinds]
noncomputable def jH (T:String):aA->Option aA
 | .dict ((.none,.str _)::_)=>none
 | d=>some (.bool (isK (sJ d) T))
theorem Ek:Adn X (.builtin "isinstance") (fun xs H Q=>∃ x T d b,xs=[x,.ty T]/\Abb X.K H d x/\T∈OS/\jH T d=some (.bool b)/\Q (.bl b) H):=by
 intro pins s σ H xs us Q I r h
 obtain⟨x,T,d,b,rfl,rd,hT,hb,q⟩:=h
 have hb2:b=isK (sJ d) T:=by
  unfold jH at hb
  split at hb
  ·cases hb
  ·cases hb; rfl
 subst hb2
 have ek:=Ln (Cr d) hT
 have by_ty:TyOf X.K H x (.type (sJ d))->aP (aQ X.prog X.w) X.A (call (.builtin "isinstance") us) (EP X pins σ Q) X.xe s:=fun ty=>
  Hf pins s σ H _ us Q I r ⟨x,T,_,isK (sJ d) T,rfl,ty,Akg.trans ek,q⟩
 cases d with
 | none=>obtain rfl:=Aca.mp rd; exact by_ty .non
 | bool b=>obtain rfl:=Aar.mp rd; exact by_ty (.bl _)
 | int b=>obtain rfl:=Aat.mp rd; exact by_ty (.int _)
 | str b=>obtain⟨rfl,_⟩:=Aas.mp rd; exact by_ty (.str _)
 | list b=>
  obtain⟨a,ys,rfl,h,_⟩:=Abg.mp rd
  obtain⟨u,w',rfl,ru,rw'⟩:=vals2 r
  cases rw'
  cases ru
  obtain⟨its,_,⟨o,n,e1,hc,_,_⟩,_⟩:=I.list h
  exact kL VF I.kIn ⟨o,e1,hc⟩ (Akg.trans ek) (fun z=>nomatch z) fun tk=>⟨.bl _,H,I.tok tk,rfl,q⟩
 | tuple b=>obtain⟨_,_,rfl,h,_⟩:=Aay.mp rd; exact by_ty (.tup h)
 | dict b=>
  obtain⟨_,rfl,⟨_,h,_⟩ | ⟨_,h,_⟩ | ⟨_,h,_⟩ | h⟩:=Aby.mp rd
  case inr.inr.inr=>
   obtain⟨_,_,rfl,_⟩:=yU h
   cases hb
  ·exact by_ty (.dK h)
  ·exact by_ty (.dT h)
  ·obtain⟨u,w',rfl,ru,rw'⟩:=vals2 r
   cases rw'
   cases ru
   obtain⟨⟨_,_,o,_,e1,hc,_⟩,_⟩:=I.hok _ _ h
   exact kL VG I.kIn ⟨o,e1,hc.1⟩ (Akg.trans ek) (fun z=>nomatch z) fun tk=>⟨.bl _,H,I.tok tk,rfl,q⟩
variable {e a b:aS}{es:List aS}{f:EF}{fa:AF}{p p2 pos apos cpos:bG}{x:aB}
theorem sS {T:String}(hgl:Gl X "isinstance")(hm:X.mg "isinstance" = none)(hg:Gl X x)(hmx:X.mg x=none)(hv:iZ x=some (.type T))(hT:T∈OS)(he:DE X e f)
  (hn:x ≠ "__name__":=by decide) (hd:(x == ("__debug__" : aB))=false:=by decide) (hs1:bI (e::[.Name x p2]) X.env=(false,bJ e X.env)::bI [.Name x p2] X.env:=by rfl)
  (hs2:bI (.Name x p2::[]) X.env=(false,bJ (.Name x p2) X.env)::bI [] X.env:=by rfl) (hpl:(fF pos (bI [.Name x p2] X.env)).any (·.1)=false:=by rfl):DE X (.Call (.Name "isinstance" p) [e,.Name x p2] [] pos) (eUn (jH T) f):=
 PE.imp (wL Ek hgl hm boot_isinstance (kY he (kY (KH hg hmx hv hn hd) nG hs2) hs1) (by decide) (by decide) hs1 hpl) fun σ H Q gh=>by
  obtain⟨P,ρ,d,hP,rs,ef,k⟩:=gh
  obtain⟨d1,e1,ef⟩:=XBs ef
  have hb : ∃ b,d = .bool b:=by
   unfold jH at ef
   split at ef
   ·cases ef
   ·cases ef; exact⟨_,rfl⟩
  obtain⟨b,rfl⟩:=hb
  exact⟨P,ρ,d1,hP,rs,e1,cY fun v H1 x1 r1=>⟨v,T,d1,b,rfl,r1.ext Aa0,hT,ef,k.zero x1 (Aar.mpr rfl)⟩⟩
noncomputable def DZ:List aA->Option aA
 | [.list ds]=>some (.tuple ds)
 | [.tuple ds]=>some (.tuple ds)
 | _=>none
theorem Hh {K:aJ}:CallD K 0 (fun xs H Q=>∃ p ys,xs=[.ref p]/\((SqL K H p ys /\ ∀ l,H l=none->Q (.ref l) (upd H l (.tup ys))) \/ (SqT K H p ys/\Q (.ref p) H))) DZ:=fun P H xs ds d Q hP r e k=>by
 unfold DZ at e
 split at e
 ·cases e
  obtain⟨v,rfl,r'⟩:=gK r
  replace r:=r'
  obtain⟨q,ys,rfl,hq,rr⟩:=Abg.mp r
  exact⟨q,ys,rfl,.inl ⟨Aa0.sqL hq,fun l hl=>k.tup hP hl rr⟩⟩
 ·cases e
  obtain⟨v,rfl,r'⟩:=gK r
  replace r:=r'
  obtain⟨q,ys,rfl,hq,rr⟩:=Aay.mp r
  exact⟨q,ys,rfl,.inr ⟨SqT.of (Aa0 _ _ hq),k.zero Ext.refl r⟩⟩
 ·cases e
noncomputable def AO:List aA->Option aA
 | [.list ds]=>some (.list ds)
 | [.tuple ds]=>some (.list ds)
 | [.str z]=>if z.length≤sizeLine then some (.list (z.cps.toList.map fun c=>.str ⟨#[c]⟩)) else none
 | _=>none
def KZ (K:aJ):List V->Hp->VK->Prop:=fun xs H Q=>(∃ p ys,xs=[.ref p]/\(SqL K H p ys \/ SqT K H p ys) /\ ∀ l,H l=none->Q (.ref l) (upd H l (.lst ys))) \/ ∃ z:aB,xs=[.str z]/\z.length≤sizeLine /\ ∀ l,H l=none->Q (.ref l) (upd H l (.lst (z.cps.toList.map pY)))
theorem Ir (hc:X.calm=true):Adn X (.type "list") (KZ X.K):=Apl.or (Fd hc)
theorem RH {K:aJ}{H:Hp} : ∀ {cs:List Nat},(∀ c∈cs,cM (.str ⟨#[c]⟩)=true)->Aau K H (cs.map fun c=>.str ⟨#[c]⟩) (cs.map pY)
 | [],_=>Aao.mpr rfl
 | c::r,h=>Aag.mpr ⟨_,_,rfl,Aas.mpr ⟨rfl,h c cC⟩,RH fun c' m=>h c' (cD _ m)⟩
theorem Fh {K:aJ}:CallD K 1 (KZ K) AO:=fun P H xs ds d Q hP r e k=>by
 unfold AO at e
 split at e
 ·cases e
  obtain⟨v,rfl,r'⟩:=gK r
  replace r:=r'
  obtain⟨q,ys,rfl,hq,rr⟩:=Abg.mp r
  exact .inl ⟨q,ys,rfl,.inl (Aa0.sqL hq),fun l hl=>k.lst hP hl rr⟩
 ·cases e
  obtain⟨v,rfl,r'⟩:=gK r
  replace r:=r'
  obtain⟨q,ys,rfl,hq,rr⟩:=Aay.mp r
  exact .inl ⟨q,ys,rfl,.inr (SqT.of (Aa0 _ _ hq)),fun l hl=>k.lst hP hl rr⟩
 ·obtain⟨hz,rfl⟩:=cW e
  obtain⟨v,rfl,r'⟩:=gK r
  replace r:=r'
  refine .inr ⟨_,by rw[(Aas.mp r).1],hz,fun l hl=>k.lst hP hl (RH fun c m=>?_)⟩
  obtain⟨j,hj⟩:=List.mem_iff_getElem?.mp m
  exact EV (Aas.mp r).2 hj
 ·cases e
noncomputable def rW:List aA->Option aA
 | [.int i]=>some (.int i)
 | [.bool b]=>some (.int (if b then 1 else 0))
 | _=>none
theorem Dj {K:aJ}:CallD K 0 (fun xs H Q=>(∃ i,xs=[.int i]/\Q (.int i) H) \/ ∃ k,xs=[.bl k]/\Q (.int (if k then 1 else 0)) H) rW:=fun P H xs ds d Q hP r e k=>by
 unfold rW at e
 split at e
 ·cases e
  obtain⟨v,rfl,r'⟩:=gK r
  replace r:=r'
  exact .inl ⟨_,by rw[Aat.mp r],k.zero Ext.refl (Aat.mpr rfl)⟩
 ·cases e
  obtain⟨v,rfl,r'⟩:=gK r
  replace r:=r'
  exact .inr ⟨_,by rw[Aar.mp r],k.zero Ext.refl (Aat.mpr rfl)⟩
 ·cases e
noncomputable def CD:List aA->Option aA
 | [.int i]=>some (.int (if i<0 then -i else i))
 | _=>none
theorem Du {K:aJ}:CallD K 0 (fun xs H Q=>∃ i,xs=[.int i]/\Q (.int (if i<0 then -i else i)) H) CD:=fun P H xs ds d Q hP r e k=>by
 unfold CD at e
 split at e
 ·cases e
  obtain⟨v,rfl,r'⟩:=gK r
  replace r:=r'
  exact⟨_,by rw[Aat.mp r],k.zero Ext.refl (Aat.mpr rfl)⟩
 ·cases e
noncomputable def mE:List aA->Option (List Bool)
 | []=>some []
 | .bool b::r=>(mE r).bind fun bs=>some (b::bs)
 | _::_=>none
noncomputable def qY:List aA->Option aA
 | [.list ds]=>(mE ds).bind fun bs=>some (.bool (bs.all id))
 | _=>none
theorem OB {K:aJ}{H:Hp} : ∀ {ds:List aA} {xs:List V} {bs:List Bool},mE ds=some bs->Aau K H ds xs->xs=bs.map V.bl
 | [],xs,bs,e,r=>by
  cases e
  rw[Aao.mp r]; rfl
 | .bool b::ds,xs,bs,e,r=>by
  obtain⟨bs',e1,e2⟩:=XBs (show((mE ds).bind fun bs=>some (b::bs))=some bs from e)
  cases e2
  obtain⟨v,t,rfl,h1,h2⟩:=Aag.mp r
  rw[Aar.mp h1,OB e1 h2]; rfl
 | .none::_,_,_,e,_=>by cases e
 | .int _::_,_,_,e,_=>by cases e
 | .str _::_,_,_,e,_=>by cases e
 | .list _::_,_,_,e,_=>by cases e
 | .tuple _::_,_,_,e,_=>by cases e
 | .dict _::_,_,_,e,_=>by cases e
theorem FR {K:aJ}:CallD K 0 (fun xs H Q=>∃ p ys,xs=[.ref p]/\SqL K H p ys/\(∀ y∈ys,∃ b,y = .bl b)/\Q (.bl (allB ys)) H) qY:=fun P H xs ds d Q hP r e k=>by
 unfold qY at e
 split at e
 ·obtain⟨bs,e1,e2⟩:=XBs e
  cases e2
  obtain⟨v,rfl,r'⟩:=gK r
  replace r:=r'
  obtain⟨q,ys,rfl,hq,rr⟩:=Abg.mp r
  obtain rfl:=OB e1 rr
  refine⟨q,_,rfl,Aa0.sqL hq,fun y m=>?_,k.zero Ext.refl (Aar.mpr ?_)⟩
  ·obtain⟨b,_,rfl⟩:=cA.mp m
   exact⟨b,rfl⟩
  ·unfold allB
   rw[List.all_map]
   congr 2
   funext b
   cases b <;> rfl
 ·cases e
noncomputable def cutD (ds:List aA)(lo hi:Option Int):List aA:=(ds.drop (HT.sIx ds.length 0 lo)).take (HT.sIx ds.length ds.length hi - HT.sIx ds.length 0 lo)
abbrev OF:=List (Option aA)->Option (Option Int)
noncomputable def tOF (K:aJ)(f:OF):TO:=fun σ H Q=>∃ P ρ o,Hid P H/\Aj4 K (hid H P) ρ σ/\f ρ=some o /\ ∀ H',Ext H H'->Q o H'
abbrev DO (X:Cx)(e:Option aS)(f:OF):Prop:=PO X e (tOF X.K f)
noncomputable def oN:OF:=fun _=>some none
noncomputable def oS (f:EF):OF:=fun ρ=>(f ρ).bind fun d=>match d with
 | .int i=>some (some i)
 | _=>none
theorem PO.imp {o:Option aS}{t t':TO}(h:PO X o t)(w : ∀ σ H Q,t' σ H Q->t σ H Q):PO X o t':=fun pins s σ H Q I q=>h pins s σ H Q I (w _ _ _ q)
theorem nL:DO X none oN:=PO.imp Nm fun σ H Q gh=>by
 obtain⟨P,ρ,o,hP,rs,ef,k⟩:=gh
 cases ef
 exact k H Ext.refl
theorem lQ (h:DE X e f):DO X (some e) (oS f):=PO.imp (Lh h) fun σ H Q gh=>by
 obtain⟨P,ρ,o,hP,rs,ef,k⟩:=gh
 obtain⟨d,e1,ef⟩:=XBs ef
 refine⟨P,ρ,d,hP,rs,e1,cY fun v H1 x1 r1=>?_⟩
 cases d with
 | int i=>cases ef; exact⟨i,Aat.mp r1,k H1 x1⟩
 | _=>cases ef
noncomputable def pM (f:EF)(lo hi:OF):EF:=fun ρ=>(f ρ).bind fun d=>(lo ρ).bind fun l=>(hi ρ).bind fun h=>match d with
 | .list ds=>some (.list (cutD ds l h))
 | _=>none
theorem UA {lo hi:Option aS}{fl fh:OF}{pp:bG}(he:DE X e f)(hl:DO X lo fl)(hh:DO X hi fh):DF 1 X (.Subscript e (.Slice lo hi none pp) pos) (pM f fl fh):=PE.imp (EU Mv he hl hh) fun σ H Q gh=>by
 obtain⟨P,ρ,d,hP,rs,ef,k⟩:=gh
 obtain⟨d1,e1,ef2⟩:=XBs ef
 obtain⟨l,e2,ef3⟩:=XBs ef2
 obtain⟨h,e3,ef4⟩:=XBs ef3
 clear ef ef2 ef3
 cases d1 with
 | list ds=>
  cases ef4
  refine⟨P,ρ,_,hP,rs,e1,cY fun v H1 x1 r1=>⟨P,ρ,l,hP.ext x1,rs.ext (cI x1),e2,fun H2 x2=>⟨P,ρ,h,hP.ext (x1.trans x2),rs.ext (cI (x1.trans x2)),e3,fun H3 x3=>?_⟩⟩⟩
  obtain⟨q,ys,rfl,hq,rr⟩:=Abg.mp (r1.ext (cI (x2.trans x3)))
  refine⟨q,ys,rfl,Aa0.sqL hq,fun p hp=>(k.mono ((x1.trans x2).trans x3)).lst (hP.ext ((x1.trans x2).trans x3)) hp ?_⟩
  unfold nT cutD
  rw[rr.length]
  exact(rr.drop _).take _
 | _=>cases ef4
noncomputable def pL:List aA->Option (List aB)
 | []=>some []
 | .str x::r=>(pL r).bind fun xs=>some (x::xs)
 | _::_=>none
theorem OU {K:aJ}{H:Hp} : ∀ {ds:List aA} {xs:List V} {bs:List aB},pL ds=some bs->Aau K H ds xs->xs=bs.map V.str /\ ∀ b∈bs,cM (.str b)=true
 | [],xs,bs,e,r=>by
  cases e
  rw[Aao.mp r]; exact⟨rfl,fun b m=>by simp at m⟩
 | .str b::ds,xs,bs,e,r=>by
  obtain⟨bs',e1,e2⟩:=XBs (show((pL ds).bind fun bs=>some (b::bs))=some bs from e)
  cases e2
  obtain⟨v,t,rfl,h1,h2⟩:=Aag.mp r
  obtain⟨q1,q2⟩:=OU e1 h2
  rw[(Aas.mp h1).1,q1]
  refine⟨rfl,fun c m=>?_⟩
  rcases cQ.mp m with rfl | m
  ·exact(Aas.mp h1).2
  ·exact q2 c m
 | .none::_,_,_,e,_=>by cases e
 | .int _::_,_,_,e,_=>by cases e
 | .bool _::_,_,_,e,_=>by cases e
 | .list _::_,_,_,e,_=>by cases e
 | .tuple _::_,_,_,e,_=>by cases e
 | .dict _::_,_,_,e,_=>by cases e
theorem NY {sep:aB}(hs:cM (.str sep)=true) : ∀ {ys:List aB},(∀ b∈ys,cM (.str b)=true)->cM (.str (kK sep ys))=true
 | [],_=>by
  have:kK sep []=Str.empty:=by simp[kK]
  rw[this]
  decide +kernel
 | [x],h=>by
  have:kK sep [x]=x:=by simp[kK]
  rw[this]
  exact h x cC
 | x::y::r,h=>by
  have e:kK sep (x::y::r)=x++sep++kK sep (y::r):=by
   rw[kK]
   intro z; cases z
  rw[e]
  exact GK (GK (h x cC) hs) (NY hs fun b m=>h b (cD _ m))
noncomputable def sH:aA->aA->Option aA
 | .str sep,.list ds=>(pL ds).bind fun ys=>if (ys.map (·.length)).sum+ys.length*sep.length≤16777216 then some (.str (kK sep ys)) else none
 | _,_=>none
theorem LX {g:EF}(ho:DE X a f)(he:DE X e g)(hbase:pO a "join" X.env (bJ a X.env)=bJ a X.env:=by rfl)
  (hfew:((fF cpos (bI (e::[]) X.env)).all (fun x=>!x.1)&&(uK cpos (uI [] X.env)).all (fun x=>x.1.isSome)
   && decide ((e::[]).length+([]:List Keyword).length+(if ([]:List Keyword).isEmpty then 0 else 1)<30))=true:=by rfl)
  (hline:(apos.endLine == cpos.line)=true:=by rfl) (hs:bI (e::[]) X.env=(false,bJ e X.env)::bI [] X.env:=by rfl) (hplain:(fF cpos (bI [] X.env)).any (·.1)=false:=by rfl):DE X (.Call (.Attribute a "join" apos) [e] [] cpos) (eOp sH f g):=
 PE.imp (KY PySem.F.plainAttrs_str PySem.F.slot_str_join PySem.F.type_str_join Np ho (kY he nG hs) hbase hfew hline hs hplain) fun σ H Q gh=>by
  obtain⟨P,ρ,d,hP,rs,ef,k⟩:=gh
  obtain⟨d1,e1,ef2⟩:=XBs ef
  obtain⟨d2,e2,ef3⟩:=XBs ef2
  clear ef ef2
  cases d1 with
  | str sep=>
   cases d2 with
   | list ds=>
    obtain⟨ys,h1,h2⟩:=XBs (show((pL ds).bind fun ys=>if (ys.map (·.length)).sum+ys.length*sep.length≤16777216 then some (bK (kK sep ys)) else none)=some d from ef3)
    obtain⟨hz,rfl⟩:=cW h2
    refine⟨P,ρ,_,hP,rs,e1,cY fun v H1 x1 r1=>⟨by rw[(Aas.mp r1).1]; rfl,P,ρ,_,hP.ext x1,rs.ext (cI x1),e2,cY fun u H2 x2 r2=>?_⟩⟩
    obtain⟨q,zs,rfl,hq,rr⟩:=Abg.mp r2
    obtain⟨rfl,hl⟩:=OU h1 rr
    exact⟨sep,q,ys,(Aas.mp r1).1,rfl,Aa0.sqL hq,hz,k.zero (x1.trans x2) (Aas.mpr ⟨rfl,NY (Aas.mp r1).2 hl⟩)⟩
   | _=>cases ef3
  | _=>cases d2 <;> cases ef3
theorem Res.dic {K:aJ}{P:aD->Prop}{H:Hp}{Q:VK}{kds:List (aA×aA)}{ep:Nat}{kvs:List (aN×V)}{q:aD}(hP:Hid P H)(h:Res K P 1 (.dict kds) H Q)(n:H q=none)(r:Abp K (hid H P) kds kvs):Q (.ref q) (upd H q (.dK ep kvs)):=by
 refine h (.ref q) _ [q] (Ext.new n) (gH.mpr ⟨by simp,.nil⟩) (fun a m=>?_) ⟨q,(ep,kvs),kvs.map fun _=>[],rfl,eL,?_,?_⟩
 ·have:a=q:=by simpa using m
  subst this
  exact⟨n,_,eL⟩
 ·have : ∀ l:List (aN×V),(l.map fun _=>([]:List aD)).flatten=[]:=fun l=>by
   induction l with
   | nil=>rfl
   | cons a l ih=>rw[cR,uQ,ih]; rfl
  rw[this]
 ·have xe:Ext (hid H P) (hid (upd H q (.dK ep kvs)) (orL P [q])):=fun b o e=>by
   obtain⟨nb,e⟩:=Ada.mp e
   have hb:=gY e n
   exact gJ (fun z=>z.elim nb fun m=>hb (by simpa using m)) (by rw[bP hb]; exact e)
  generalize hid (upd H q (.dK ep kvs)) (orL P [q])=B at xe
  generalize upd H q (.dK ep kvs)=H1
  clear h
  have go : ∀ (ds:List (aA×aA)) (xs:List (aN×V)),Abp K (hid H P) ds xs->All3 (fun(kd:aA×aA) (kv:aN×V) f=>kd.1=kD kv.1/\Agc K B H1 0 kd.2 kv.2 f) ds xs (xs.map fun _=>[]):=by
   intro ds
   induction ds with
   | nil=>intro xs r; rw[Abl.mp r]; exact .nil
   | cons d ds ih=>
    intro xs r
    obtain⟨k',y,t,rfl,ek,h1,h2⟩:=Aa1.mp (show Abp K (hid H P) ((d.1,d.2)::ds) xs from r)
    exact .cons ⟨ek,rfl,h1.ext xe⟩ (ih t h2)
  exact go kds kvs r
theorem MW:DF 1 X (.Dict [] [] pos) (eC (.dict [])):=PE.imp FH fun σ H Q gh=>by
 obtain⟨P,ρ,d,hP,rs,ef,k⟩:=gh
 cases ef
 exact fun q hq=>k.dic hP hq (Abl.mpr rfl)
end
section
variable {K:aJ}{H0 H B0:Hp}{P0:aD->Prop}{ρ:aW}{σ:St}{fp:Nat->List aD}{i:Nat}
theorem Dw {B:Hp} : ∀ {ds:List aA} {xs:List V} {Fs:List (List aD)},All3 (Afe K B H 0) ds xs Fs->Aau K B ds xs/\Fs.flatten=[]:=by
 intro ds xs Fs h
 induction h with
 | nil=>exact⟨Aao.mpr rfl,rfl⟩
 | cons h t ih=>
  obtain⟨rfl,r⟩:=h
  exact⟨Aag.mpr ⟨_,_,rfl,r,ih.1⟩,by rw[uQ,ih.2]; rfl⟩
theorem Fv {B:Hp} : ∀ {ds:List (aA×aA)} {xs:List (aN×V)} {Fs:List (List aD)},All3 (fun(kd:aA×aA) (kv:aN×V) f=>kd.1=kD kv.1/\Afe K B H 0 kd.2 kv.2 f) ds xs Fs->Abp K B ds xs/\Fs.flatten=[]:=by
 intro ds xs Fs h
 induction h with
 | nil=>exact⟨Abl.mpr rfl,rfl⟩
 | @cons p q F ds xs Fs h t ih=>
  obtain⟨k,d⟩:=p
  obtain⟨k',v⟩:=q
  obtain⟨ek,rfl,r⟩:=h
  exact⟨Aa1.mpr ⟨_,_,_,rfl,ek,r,ih.1⟩,by rw[uQ,ih.2]; rfl⟩
theorem QO {B H1:Hp} : ∀ {ds:List aA} {xs:List V},Aau K B ds xs->All3 (Afe K B H1 0) ds xs (xs.map fun _=>[])/\(xs.map fun _=>([]:List aD)).flatten=[]
 | [],xs,r=>by rw[Aao.mp r]; exact⟨.nil,rfl⟩
 | d::ds,xs,r=>by
  obtain⟨y,t,rfl,h1,h2⟩:=Aag.mp r
  obtain⟨q1,q2⟩:=QO h2
  exact⟨.cons ⟨rfl,h1⟩ q1,by rw[cR,uQ,q2]; rfl⟩
theorem Sta.write {p:aD}{o:HO}{d':aA}(S:Sta K H0 P0 B0 ρ σ H fp)(hi:i<ρ.length)(hv:σ[i]?=some (some (.ref p)))(hp:p∈fp i)(ho:(∃ xs,o = .lst xs) \/ ∃ q:DQ,o=dO q)
  (new:Agc K (L2.hid H (Hd P0 fp)) (upd H p o) 1 d' (.ref p) (fp i)):Sta K H0 P0 B0 (ρ.set i (some (1,d'))) σ (upd H p o) fp:=by
 have hb:L2.hid (upd H p o) (Hd P0 fp)=L2.hid H (Hd P0 fp):=by
  funext b
  unfold L2.hid
  by_cases q:Hd P0 fp b
  ·rw[if_pos q,if_pos q]
  ·rw[if_neg q,if_neg q]
   exact bP fun z=>q (.inr ⟨i,by rw[z]; exact hp⟩)
 refine⟨by simp[S.len],S.nd,S.dj,fun j a m=>⟨(S.own j a m).1,?_⟩,fun b u e=>?_,S.hd,by rw[hb]; exact S.base,fun j n d e=>?_⟩
 ·by_cases q:a=p
  ·subst q
   rcases ho with⟨xs,rfl⟩ | ⟨xs,rfl⟩
   ·exact .inl ⟨xs,eL⟩
   ·exact .inr ⟨xs,eL⟩
  ·rw[bP q]; exact(S.own j a m).2
 ·rw[bP (gY e (S.own i p hp).1)]; exact S.ext b u e
 ·by_cases q:j=i
  ·subst q
   rw[lJ hi] at e
   cases e
   exact⟨_,hv,by rw[hb]; exact new⟩
  ·rw[lK (fun z=>q z.symm)] at e
   obtain⟨v,h1,h2⟩:=S.slot j n d e
   refine⟨v,h1,?_⟩
   rw[hb]
   exact h2.keep Ext.refl fun a m=>bP fun z=>q (S.dj j i a m (by rw[z]; exact hp))
theorem Sta.lst1 {ds:List aA}(S:Sta K H0 P0 B0 ρ σ H fp)(e:ρ[i]?=some (some (1,.list ds))) : ∃ p xs,σ[i]?=some (some (.ref p))/\H p=some (.lst xs)/\Aau K (L2.hid H (Hd P0 fp)) ds xs /\
  ∀ ds' xs',Aau K (L2.hid H (Hd P0 fp)) ds' xs'->Sta K H0 P0 B0 (ρ.set i (some (1,.list ds'))) σ (upd H p (.lst xs')) fp:=by
 obtain⟨v,h1,h2⟩:=S.slot i 1 _ e
 obtain⟨p,xs,Fs,rfl,hp,hF,h3⟩:=h2
 obtain⟨r,hn⟩:=Dw h3
 rw[hn] at hF
 refine⟨p,xs,h1,hp,r,fun ds' xs' r'=>S.write (fI.mp e).1 h1 (by rw[hF]; exact cC) (.inl ⟨_,rfl⟩) ?_⟩
 obtain⟨q1,q2⟩:=QO r'
 exact⟨p,xs',_,rfl,eL,by rw[hF,q2],q1⟩
end
noncomputable def getL (i:Nat)(ρ:aW):Option (List aA):=match ρ[i]? with
 | some (some (1,.list ds))=>some ds
 | _=>none
theorem zR {i:Nat}{ρ:aW}{ds:List aA}(h:getL i ρ=some ds):ρ[i]?=some (some (1,.list ds)):=by
 unfold getL at h
 split at h
 ·rename_i e; cases h; exact e
 ·cases h
section
variable {X:Cx}{H0:Hp}{P0:aD->Prop}{n0:Nat}{e k o:aS}{f g:EF}{x:aB}{px pos apos cpos spos:bG}{i:Nat}
noncomputable def rX (i:Nat)(m:Md)(f:EF):SF:=fun ρ=>(eV 0 m f ρ).bind fun d=>(getL i ρ).bind fun ds=>if ds.length<sizeLine then some (.nx (ρ.set i (some (1,.list (ds++[d]))))) else none
theorem RF (i:Nat)(m:Md)(he:DE X e f)(hN:X.N[i]?=some x:=by rfl)(hv:nB X.env.scope x:=by first | exact bB rfl | exact bC (bB rfl) | exact bC (bC rfl))(hd:(x == ("__debug__" : aB))=false:=by decide)
  (hcd:(x == ("__classdict__" : aB))=false:=by decide) (hbase:pO (.Name x px) "append" X.env (bJ (.Name x px) X.env)=bJ (.Name x px) X.env:=by rfl)
  (hfew:((fF cpos (bI (e::[]) X.env)).all (fun x=>!x.1)&&(uK cpos (uI [] X.env)).all (fun x=>x.1.isSome)
   && decide ((e::[]).length+([]:List Keyword).length+(if ([]:List Keyword).isEmpty then 0 else 1)<30))=true:=by rfl)
  (hline:(apos.endLine == cpos.line)=true:=by rfl) (hs:bI (e::[]) X.env=(false,bJ e X.env)::bI [] X.env:=by rfl) (hplain:(fF cpos (bI [] X.env)).any (·.1)=false:=by rfl)
  (hsw:lT (.Call (.Attribute (.Name x px) "append" apos) [e] [] cpos) none pos.line X.env=pure false:=by rfl):DS X H0 P0 n0 (.Expr (.Call (.Attribute (.Name x px) "append" apos) [e] [] cpos) pos) (rX i m f):=
 PS.imp (vZ (KY PySem.F.plainAttrs_list PySem.F.slot_list_append PySem.F.type_list_append QE (qG hN hv hd hcd) (kY (ev m he) nG hs) hbase hfew hline hs hplain) hsw) fun D σ H gh=>by
  obtain⟨B0,ρ,fp,o,S,ef,k⟩:=gh
  obtain⟨d,e1,ef2⟩:=XBs ef
  obtain⟨ds,e2,ef3⟩:=XBs ef2
  obtain⟨hl,rfl⟩:=cW ef3
  obtain⟨p,xs,h1,h2,_,_⟩:=S.lst1 (zR e2)
  refine⟨.ref p,h1,.inl ⟨rfl,xs,SqL.of h2⟩,B0,ρ,fp,d,S,e1,fun v H2 gh=>?_⟩
  obtain⟨fp2,S2,r2⟩:=gh
  obtain⟨p2,xs2,q1,q2,q3,q4⟩:=S2.lst1 (zR e2)
  have:p2=p:=by rw[h1] at q1; cases q1; rfl
  subst this
  exact⟨p2,xs2,v,rfl,rfl,q2,by rw[q3.length]; exact hl,k _ _ fp2 (q4 _ _ (q3.snoc r2.2))⟩
noncomputable def vI (i:Nat)(m:Md)(f:EF)(mk:Md)(g:EF):SF:=fun ρ=>(eV 0 m f ρ).bind fun d=>(getL i ρ).bind fun ds=>(eV 0 mk g ρ).bind fun k=>match k with
 | .int j=>(ixN ds.length j).bind fun j=>some (.nx (ρ.set i (some (1,.list (ds.set j d)))))
 | _=>none
theorem KU {K:aJ}{m:Md}{σ:St}{H B0:Hp}{ρ:aW}{fp:Nat->List aD}{d:aA}(S:Sta K H0 P0 B0 ρ σ H fp)(e:eV 0 m g ρ=some d){Q:VK}(hd:eQ d=true)(k : ∀ v H',Ext H H'->Abb K (hid H' (Hd P0 fp)) d v->Q v H'):tF K 0 g σ H Q:=by
 cases m with
 | s=>exact⟨Hd P0 fp,vS ρ,d,S.hid,S.viewS,e,cY k⟩
 | a=>
  obtain⟨d',ed,ef⟩:=XBs e
  obtain⟨fl,rfl⟩:=cW ef
  refine⟨P0,vA ρ,d',S.hd.ext S.ext,S.viewA,ed,cY fun v H' x r=>k v H' x (r.flat (fun a xs e=>?_) _ hd)⟩
  obtain⟨na,e⟩:=Ada.mp e
  refine gJ (fun q=>?_) e
  rcases q with q | ⟨j,q⟩
  ·exact na q
  ·rcases((S.grow x).own j a q).2 with⟨ys,e2⟩ | ⟨ys,e2⟩ <;> rw[e] at e2 <;> first | cases e2 | (cases ys <;> simp[dO] at e2)
theorem NB (i:Nat)(m mk:Md)(he:DE X e f)(hk:DE X k g)(hN:X.N[i]?=some x:=by rfl)(hv:nB X.env.scope x:=by first | exact bB rfl | exact bC (bB rfl) | exact bC (bC rfl))(hd:(x == ("__debug__" : aB))=false:=by decide)
  (hcd:(x == ("__classdict__" : aB))=false:=by decide)
  (ha : ∀ v,mW (.Subscript (.Name x px) k apos) X.env v=(do
   let ov ← lU [v] (bJ (.Name x px) X.env)
   let iv ← lU [v,ov] (bJ k X.env)
   rE apos
   lU [v,ov,iv] (setItem ov iv v)
   release [v,ov,iv] []):=by intro _; rfl)
  (hs:swapsWithSole [.Subscript (.Name x px) k apos] e pos.line X.env=pure false:=by rfl) (hw:swappedStores [.Subscript (.Name x px) k apos] e X.env=pure none:=by rfl)
  (h1:(kJ [.Subscript (.Name x px) k apos] X.env).map (·.2)=[mW (.Subscript (.Name x px) k apos) X.env]:=by rfl):DS X H0 P0 n0 (.Assign [.Subscript (.Name x px) k apos] e pos) (vI i m f mk g):=
 PS.imp (UL (ev m he) (ZY (qG hN hv hd hcd) hk set_list ha) hs hw h1) fun D σ H gh=>by
  obtain⟨B0,ρ,fp,o,S,ef,kk⟩:=gh
  obtain⟨d,e1,ef2⟩:=XBs ef
  obtain⟨ds,e2,ef3⟩:=XBs ef2
  obtain⟨kd,e3,ef4⟩:=XBs ef3
  clear ef ef2 ef3
  cases kd with
  | int j=>
   obtain⟨jn,e5,ef5⟩:=XBs (show((ixN ds.length j).bind fun j=>some (Out.nx (ρ.set i (some (1,.list (ds.set j d))))))=some o from ef4)
   cases ef5
   refine⟨B0,ρ,fp,d,S,e1,fun v H2 gh=>?_⟩
   obtain⟨fp2,S2,r2⟩:=gh
   obtain⟨p,xs,h1,h2,_,_⟩:=S2.lst1 (zR e2)
   refine⟨.ref p,h1,KU S2 e3 (by simp[eQ]) fun u H3 x3 r3=>?_⟩
   have S3:=S2.grow x3
   obtain⟨p3,xs3,q1,q2,q3,q4⟩:=S3.lst1 (zR e2)
   have:p3=p:=by rw[h1] at q1; cases q1; rfl
   subst this
   exact⟨p3,xs3,j,jn,rfl,Aat.mp r3,q2,by rw[q3.length]; exact e5,kk _ _ fp2 (q4 _ _ (q3.set (r2.2.ext (cI x3)) jn))⟩
  | _=>cases ef4
end
section
variable {X:Cx}{a b c:aS}{fa fb fc:EF}{pos:bG}
theorem Qa {op op':CmpOp}{r r':R2}{g g':aA->aA->Option aA}(ho:OpR X (eT op) r)(ho':OpR X (eT op') r')(hg:OpD X.K 0 r g)(hg':OpD X.K 0 r' g')(ha:DE X a fa)(hb:DE X b fb)(hc:DE X c fc)
  (hm:lastMarks [op,op'] [b,c]=false:=by with_unfolding_all rfl):DE X (.Compare a [op,op'] [b,c] pos) (iL g g' fa fb fc):=PE.imp (Oq ho ho' ha hb hc hm) (OH hg hg')
theorem OK {op op':CmpOp}{r r':R2}{g g':aA->aA->Option aA}(ho:OpR X (eT op) r)(ho':OpR X (eT op') r')(hg:OpD X.K 0 r g)(hg':OpD X.K 0 r' g')(ha:DE X a fa)(hb:DE X b fb)(hc:DE X c fc)
  (hm:lastMarks [op,op'] [b,c]=false:=by with_unfolding_all rfl):DT X (.Compare a [op,op'] [b,c] pos) (bOf (iL g g' fa fb fc)):=PT.imp (Om ho ho' ha hb hc hm) fun σ H Q gh=>by
 obtain⟨P,ρ,t,hP,rs,ef,k⟩:=gh
 obtain⟨d,e1,ef⟩:=XBs ef
 cases qR ef
 exact OH hg hg' σ H _ ⟨P,ρ,_,hP,rs,e1,cY fun v H1 x1 r1=>⟨t,Aar.mp r1,k H1 x1⟩⟩
noncomputable def uW:aA->aA->Option aA
 | .list xs,.list ys=>if xs.length+ys.length≤sizeLine then some (.list (xs++ys)) else none
 | _,_=>none
theorem Mn:OpR X (kI .Add) (fun x y H Q=>∃ l b xs zs,x = .ref l/\y = .ref b/\SqL X.K H l xs/\SqL X.K H b zs/\xs.length+zs.length≤sizeLine /\ ∀ p,H p=none->Q (.ref p) (upd H p (.lst (xs++zs)))):=by
 intro pins s σ H x y v u Q I rx ry h
 obtain⟨l,b,xs,zs,rfl,rfl,hH,hB,hz,q⟩:=h
 cases rx
 cases ry
 obtain⟨its,r,p1,z1⟩:=I.list hH
 obtain⟨its2,r2,p2,z2⟩:=I.list hB
 have l1:=r.length
 have l2:=r2.length
 obtain⟨⟨cls,dd,data,sl⟩,ho,hc,n,hd⟩:=p1.isList
 obtain⟨⟨cls2,dd2,data2,sl2⟩,ho2,hc2,n2,hd2⟩:=p2.isList
 simp only at hc hd hc2 hd2
 subst hc hd hc2 hd2
 refine IL ⟨_,ho,rfl⟩ ⟨_,ho2,rfl⟩ noFill_list_add seq_list_add PySem.F.slot_list_add PySem.F.entry_list_add (PySem.F.args_list_add_2 _ _) (list_addW l b its.toArray its2.toArray n n2 dd dd2 sl sl2 (by simp only[dY]; omega)) ⟨ho,ho2,?_⟩
 have ea:its.toArray++its2.toArray=(its++its2).toArray:=by simp
 rw[ea]
 exact⟨.ref _,_,I.lnew (r.append r2) (by rw[pU]; omega),rfl,q _ I.fresh⟩
theorem Ar (ha:DE X a fa)(hb:DE X b fb):DF 1 X (.BinOp a .Add b pos) (eOp uW fa fb):=pZ Mn (fun P H x y a b d Q hP ra rb e k=>by
 unfold uW at e
 split at e
 ·obtain⟨hz,rfl⟩:=cW e
  obtain⟨p,xs,rfl,hp,r1⟩:=Abg.mp ra
  obtain⟨q,ys,rfl,hq,r2⟩:=Abg.mp rb
  exact⟨p,q,xs,ys,rfl,rfl,Aa0.sqL hp,Aa0.sqL hq,by rw[r1.length,r2.length]; exact hz,fun l hl=>k.lst hP hl (r1.append r2)⟩
 ·cases e) ha hb
end
variable {X:Cx}{e a b:aS}{f fa fb:EF}{pos:bG}
noncomputable def jV (x:aB)(lo hi:Option Int):aB:=
 if (rN lo hi 1 x.length).length == x.length then x else⟨((rN lo hi 1 x.length).filterMap (x.cps[·]?)).toArray⟩
theorem Pl (x:aB)(lo hi:Option Int):(jV x lo hi).length≤x.length:=by
 unfold jV
 split
 ·exact bU _
 ·refine jQ ?_ (sliceIndices_le lo hi x.length)
  exact List.length_filterMap_le _ _
theorem Ql {x:aB}(lo hi:Option Int)(h:cM (.str x)=true):cM (.str (jV x lo hi))=true:=by
 unfold jV
 split
 ·exact h
 ·simp only[cM,BL] at h ⊢
  rw[List.all_toArray,fQ]
  intro c m
  obtain⟨i,_,e⟩:=JC.mp m
  exact Array.all_eq_true_iff_forall_mem.mp h c (Array.mem_of_getElem? e)
noncomputable def sE:aE->Option (Int×Tok)
 | .int i t=>some (i,t)
 | _=>none
theorem PM {v:aE}{o:Option Int}(h:mZ v o):partValue (sE v)=v/\(sE v).map (·.1)=o:=by
 cases h with
 | none=>exact⟨rfl,rfl⟩
 | int i t=>exact⟨rfl,rfl⟩
def WU:V->Option Int->Option Int->Hp->VK->Prop:=fun x lo hi H Q=>∃ z,x = .str z/\z.length≤sizeLine/\Q (.str (jV z lo hi)) H
theorem Bcv:SlR X WU:=by
 intro pins s σ H x v vl vu lo hi sl Q I rx hs pl pu h
 obtain⟨z,rfl,hz,q⟩:=h
 obtain⟨t,rfl⟩:=rx
 obtain⟨e1,m1⟩:=PM pl
 obtain⟨e2,m2⟩:=PM pu
 refine⟨"str",_,PySem.F.slot_str_getitem.lookup,typeIs_str s z t,?_⟩
 have hs':s.heap.IsSlice sl (sE vl) (sE vu) none:=by
  obtain⟨o,h1,h2,h3⟩:=hs
  exact⟨o,h1,h2,by rw[e1,e2]; exact h3⟩
 refine wpAny_getItem_str_slice hs' rfl ?_
 have es:slicePicked z (sE vl) (sE vu) none=rN lo hi 1 z.length:=by
  unfold slicePicked
  rw[m1,m2]
  rfl
 unfold sliceMade
 rw[es]
 unfold jV at q
 by_cases hc:(rN lo hi 1 z.length).length == z.length
 ·rw[if_pos hc] at q
  rw[if_pos (by rw[hc]; rfl)]
  exact⟨.str z,H,I,⟨t,rfl⟩,q⟩
 ·rw[if_neg hc] at q
  rw[if_neg (by simpa using hc)]
  refine⟨?_,⟨.str ⟨((rN lo hi 1 z.length).filterMap (z.cps[·]?)).toArray⟩,H,I.tok _,⟨_,rfl⟩,q⟩⟩
  have:=Pl z lo hi
  unfold jV at this
  rw[if_neg hc] at this
  exact jQ this hz
noncomputable def eSl (f:EF)(lo hi:OF):EF:=fun ρ=>(f ρ).bind fun d=>(lo ρ).bind fun l=>(hi ρ).bind fun h=>match d with
 | .str z=>if z.length≤sizeLine then some (.str (jV z l h)) else none
 | .tuple ds=>if HT.sIx ds.length 0 l=0/\HT.sIx ds.length ds.length h=ds.length then none else some (.tuple (cutD ds l h))
 | _=>none
theorem YR {lo hi:Option aS}{fl fh:OF}{pp:bG}(he:DE X e f)(hl:DO X lo fl)(hh:DO X hi fh):DE X (.Subscript e (.Slice lo hi none pp) pos) (eSl f fl fh):=PE.imp (EU (Bcv.or UQ) he hl hh) fun σ H Q gh=>by
 obtain⟨P,ρ,d,hP,rs,ef,k⟩:=gh
 obtain⟨d1,e1,ef2⟩:=XBs ef
 obtain⟨l,e2,ef3⟩:=XBs ef2
 obtain⟨h,e3,ef4⟩:=XBs ef3
 clear ef ef2 ef3
 cases d1 with
 | str z=>
  obtain⟨hc,rfl⟩:=cW ef4
  refine⟨P,ρ,_,hP,rs,e1,cY fun v H1 x1 r1=>⟨P,ρ,l,hP.ext x1,rs.ext (cI x1),e2,fun H2 x2=>⟨P,ρ,h,hP.ext (x1.trans x2),rs.ext (cI (x1.trans x2)),e3,fun H3 x3=>?_⟩⟩⟩
  refine .inl ⟨z,(Aas.mp r1).1,hc,(k.mono ((x1.trans x2).trans x3)).zero Ext.refl (Aas.mpr ⟨rfl,Ql _ _ (Aas.mp r1).2⟩)⟩
 | tuple ds=>
  by_cases hw:HT.sIx ds.length 0 l=0/\HT.sIx ds.length ds.length h=ds.length
  ·have ef5:(if HT.sIx ds.length 0 l=0/\HT.sIx ds.length ds.length h=ds.length then none else some (gG (cutD ds l h)))=some d:=ef4
   rw[if_pos hw] at ef5; cases ef5
  have ef5:(if HT.sIx ds.length 0 l=0/\HT.sIx ds.length ds.length h=ds.length then none else some (gG (cutD ds l h)))=some d:=ef4
  rw[if_neg hw] at ef5
  cases ef5
  refine⟨P,ρ,_,hP,rs,e1,cY fun v H1 x1 r1=>⟨P,ρ,l,hP.ext x1,rs.ext (cI x1),e2,fun H2 x2=>⟨P,ρ,h,hP.ext (x1.trans x2),rs.ext (cI (x1.trans x2)),e3,fun H3 x3=>?_⟩⟩⟩
  obtain⟨q,ys,rfl,hq,rr⟩:=Aay.mp (r1.ext (cI (x2.trans x3)))
  refine .inr ⟨q,ys,rfl,SqT.of (Aa0 _ _ hq),by rw[rr.length]; exact hw,fun p hp=>(k.mono ((x1.trans x2).trans x3)).tup (hP.ext ((x1.trans x2).trans x3)) hp ?_⟩
  unfold nT cutD
  rw[rr.length]
  exact(rr.drop _).take _
 | _=>cases ef4
noncomputable def KJ (K:aJ):R2:=fun x y H Q=>∃ a b ys,x = .ref a/\y = .ref b/\SqT K H a []/\SqT K H b ys/\Q (.ref b) H
theorem Jx:OpR X (kI .Add) (KJ X.K):=by
 intro pins s σ H x y v u Q I rx ry h
 obtain⟨a,b,ys,rfl,rfl,ha,hb,q⟩:=h
 cases rx
 cases ry
 obtain⟨its,r1,p1,_⟩:=I.tuple ha
 obtain⟨its2,r2,p2,_⟩:=I.tuple hb
 cases r1
 obtain⟨⟨cls,dd,data,sl⟩,ho,hc,n,hd⟩:=p1
 obtain⟨⟨cls2,dd2,data2,sl2⟩,ho2,hc2,n2,hd2⟩:=p2
 simp only at hc hd hc2 hd2
 subst hc hd hc2 hd2
 exact IL ⟨_,ho,rfl⟩ ⟨_,ho2,rfl⟩ UW seq_tuple_add VJ VL (VM _ _)
  (tuple_addW0 a b _ _ n n2 dd dd2 sl sl2 rfl) ⟨ho,ho2,⟨.ref b,H,I,rfl,q⟩⟩
noncomputable def qE:aA->aA->Option aA
 | .tuple xs,.tuple ys=>if xs.length+ys.length≤sizeLine then some (.tuple (xs++ys)) else none
 | _,_=>none
theorem Oi {K:aJ}:OpD K 0 (fun x y H Q=>HV K x y H Q \/ KJ K x y H Q) qE:=fun P H x y a b d Q hP ra rb e k=>by
 unfold qE at e
 split at e
 ·rename_i zs ys
  obtain⟨hc,rfl⟩:=cW e
  obtain⟨p,us,rfl,hp,r1⟩:=Aay.mp ra
  obtain⟨q,ws,rfl,hq,r2⟩:=Aay.mp rb
  have l1:=r1.length
  have l2:=r2.length
  cases zs with
  | nil=>
   have eu:us=[]:=by simpa using l1
   subst eu
   exact .inr ⟨p,q,ws,rfl,rfl,SqT.of (Aa0 _ _ hp),SqT.of (Aa0 _ _ hq),k.zero Ext.refl rb⟩
  | cons z zs=>
   refine .inl ⟨p,q,us,ws,rfl,rfl,SqT.of (Aa0 _ _ hp),SqT.of (Aa0 _ _ hq),fun z=>by rw[z] at l1; simp at l1,by rw[l1,l2]; exact hc,fun z=>?_,fun z r hr=>?_⟩
   ·subst z
    have:ys=[]:=by simpa using l2.symm
    subst this
    refine k.zero Ext.refl ?_
    rw[uS]
    exact ra
   ·exact k.tup hP hr (r1.append r2)
 ·cases e
theorem EE (ha:DE X a fa)(hb:DE X b fb):DE X (.BinOp a .Add b pos) (eOp qE fa fb):=pZ (Azc.or Jx) Oi ha hb
end L2
namespace L2
open PySem PySem.Spec PyProof.Rows
section
variable {P:bE}{w:bA}{A:bY}{E:aE->aH->Prop}{s:aH}
theorem Ik {t sl:aD}{us:Array aE}{vl vu:aE}{lo hi:Option Int}{Q:aE->aH->Prop}(ht:IsTup s.heap t us)(hs:s.heap.IsSliceOf sl vl vu .none)(pl:mZ vl lo)(pu:mZ vu hi)
  (hw:HT.sIx us.size 0 lo=0/\HT.sIx us.size us.size hi=us.size) (h:Q (.ref t) s):aP (aQ P w) A (oA (.ref t) (.ref sl)) Q E s:=by
 obtain⟨os,e1,e2,e3⟩:=id hs
 have ty:s.TypeIs (.ref sl) "slice":=⟨os,e1,e2⟩
 unfold oA
 try with_reducible refine iX ?_
 first | refine aM (aY ?_) | skip
 refine aM (wpAny_sequenceKey ht.typeIs (by decide) (aM (BB ht.typeIs IJ (rC IJ ht.typeIs entry_tuple_getitem ?_ (args_tuple_getitem _ _)))))
 show aP _ _ (WM (.ref t) >>= _) _ _ s
 refine aM (tupleItemsOf_ ht (aM (uB ty ?_)))
 rw[if_pos (by decide)]
 refine aM (HT.Af9 hs pl pu ?_)
 have yes:(((HT.sIx us.size 0 lo:Nat):Int) == 0&&(1:Int) == 1&&(HT.sIx us.size us.size hi - HT.sIx us.size 0 lo) == us.size)=true:=by
  rw[hw.1,hw.2]
  simp
 show aP _ _ (if (((HT.sIx us.size 0 lo:Nat):Int) == 0&&(1:Int) == 1&&(HT.sIx us.size us.size hi - HT.sIx us.size 0 lo) == us.size)=true then _ else _) _ _ s
 rw[if_pos yes]
 unfold Builtin.Tuple.tupleIsExact
 refine aM (aM (uB ht.typeIs (aY ?_)))
 rw[if_pos (by decide)]
 exact aM (wpAny_rule (aY ⟨_,rfl,aY h⟩))
end
section
variable {X:Cx}{e:aS}{f:EF}{pos:bG}
def XQ (K:aJ):V->Option Int->Option Int->Hp->VK->Prop:=fun x lo hi H Q=>∃ a xs,x = .ref a/\SqT K H a xs/\(HT.sIx xs.length 0 lo=0/\HT.sIx xs.length xs.length hi=xs.length)/\Q (.ref a) H
theorem A2c:SlR X (XQ X.K):=by
 intro pins s σ H x v vl vu lo hi sl Q I rx hs pl pu h
 obtain⟨a,xs,rfl,hx,hw,q⟩:=h
 cases rx
 obtain⟨its,r,ht,hz⟩:=I.tuple hx
 have hlen:its.toArray.size=xs.length:=by rw[dY]; exact r.length.symm
 exact⟨"tuple",_,IJ.lookup,ht.typeIs,Ik ht hs pl pu (by rw[hlen]; exact hw) ⟨.ref a,H,I,rfl,q⟩⟩
noncomputable def jG (f:EF)(lo hi:OF):EF:=fun ρ=>(f ρ).bind fun d=>(lo ρ).bind fun l=>(hi ρ).bind fun h=>match d with
 | .tuple ds=>some (.tuple (cutD ds l h))
 | _=>none
theorem Fu {ds:List aA}{l h:Option Int}(hw:HT.sIx ds.length 0 l=0/\HT.sIx ds.length ds.length h=ds.length):cutD ds l h=ds:=by
 unfold cutD
 rw[hw.1,hw.2]
 simp
theorem qH {lo hi:Option aS}{fl fh:OF}{pp:bG}(he:DE X e f)(hl:DO X lo fl)(hh:DO X hi fh):DE X (.Subscript e (.Slice lo hi none pp) pos) (jG f fl fh):=PE.imp (EU (A2c.or UQ) he hl hh) fun σ H Q gh=>by
 obtain⟨P,ρ,d,hP,rs,ef,k⟩:=gh
 obtain⟨d1,e1,ef2⟩:=XBs ef
 obtain⟨l,e2,ef3⟩:=XBs ef2
 obtain⟨h,e3,ef4⟩:=XBs ef3
 clear ef ef2 ef3
 cases d1 with
 | tuple ds=>
  cases ef4
  refine⟨P,ρ,_,hP,rs,e1,cY fun v H1 x1 r1=>⟨P,ρ,l,hP.ext x1,rs.ext (cI x1),e2,fun H2 x2=>⟨P,ρ,h,hP.ext (x1.trans x2),rs.ext (cI (x1.trans x2)),e3,fun H3 x3=>?_⟩⟩⟩
  have r3:=r1.ext (cI (x2.trans x3))
  obtain⟨q,ys,rfl,hq,rr⟩:=Aay.mp r3
  by_cases hw:HT.sIx ds.length 0 l=0/\HT.sIx ds.length ds.length h=ds.length
  ·rw[Fu hw] at k
   exact .inl ⟨q,ys,rfl,SqT.of (Aa0 _ _ hq),by rw[rr.length]; exact hw,(k.mono ((x1.trans x2).trans x3)).zero Ext.refl r3⟩
  ·refine .inr ⟨q,ys,rfl,SqT.of (Aa0 _ _ hq),by rw[rr.length]; exact hw,fun p hp=>(k.mono ((x1.trans x2).trans x3)).tup (hP.ext ((x1.trans x2).trans x3)) hp ?_⟩
   unfold nT cutD
   rw[rr.length]
   exact(rr.drop _).take _
 | _=>cases ef4
end
def Auv (h:aU)(d:aD)(es:Array oK)(ep:Nat):Prop:=∃ o,h.get? d=some o/\o.ExactDict/\o.data = .dict es ep
theorem Auv.keep {h h':aU}{d:aD}{es:Array oK}{ep:Nat}(x:Auv h d es ep)(k : ∀ o,h.get? d=some o->h'.get? d=some o):Auv h' d es ep:=
 let ⟨o,e,r⟩:=x; ⟨o,k o e,r⟩
theorem Auv.ty {s:aH}{d:aD}{es:Array oK}{ep:Nat}(x:Auv s.heap d es ep):s.TypeIs (.ref d) "dict":=let ⟨o,e,c,_⟩:=x; ⟨o,e,c.1⟩
section
variable {prog:bE}{w:bA}{A:bY}{E:aE->aH->Prop}{s:aH}{d it:aD}{es:Array oK}{ep i:Nat}
theorem Qf {Q:aE->aH->Prop}(nm:(d == iB)=false)(R:Auv s.heap d es ep)
  (q:Q (.ref s.heap.objs.size) { s with heap:=s.heap.push { cls:=.type "dict_keyiterator",data:=.fields #[.ref d,.int 0 0,.int es.size 0,.int ep 0] } }):aP (aQ prog w) A (pyIter (.ref d)) Q E s:=by
 have ty:=R.ty
 obtain⟨o,eo,_,ed⟩:=R
 refine wpAny_pyIter_slot ty F.slot_dict_iter (rC F.slot_dict_iter ty F.entry_dict_iter
  ?_ (F.args_dict_iter_1 _))
 unfold Builtin.«dict.__iter__»
 refine aM ?_
 unfold Builtin.Dict.dictSlotNone
 refine aM (wpAny_notOrdered_dict ty ?_)
 refine aY ?_
 show aP _ _ (Builtin.Dict.showsAll d >>= _) _ _ s
 unfold Builtin.Dict.showsAll
 rw[if_neg (show ¬ (d == iB)=true by rw[nm]; exact oM)]
 refine aM (aY ?_)
 refine aM (IG eo ed ?_)
 refine aM (wpAny_dictEpoch eo ed ?_)
 refine aM (pN (aY ⟨_,rfl,"dict_keyiterator",_,
  ⟨_,eZ _ rfl,rfl⟩,BW.lookup,?_⟩))
 simpa [rawInt] using q
theorem Oh {e:oK}{Q:Option aE->aH->Prop}(K:s.heap.IsKeyIter it d i es.size ep)(R:Auv s.heap d es ep)(x:es[i]?=some e)
  (q : ∀ h',h'.IsKeyIter it d (i+1) es.size ep->yD it s.heap h'->Q (some e.key) { s with heap:=h' }):aP (aQ prog w) A (pyNext (.ref it)) Q E s:=by
 obtain⟨oi,ei,ci,di⟩:=id K
 obtain⟨o,eo,_,ed⟩:=R
 unfold pyNext
 refine aM (wpAny_attempt (BB K.typeIs
  BW (rC BW K.typeIs
   Re ?_ (Rf _))))
 refine aM (aY ?_)
 refine aM ?_
 refine aM ?_
 first
  | refine aM (ID K.typeIs (aY ?_))
  | refine aM (IC K.typeIs (aY ?_))
 refine aM (wpAny_fieldsOf ei di ?_)
 have own:Builtin.Dict_items.ownsTuple "dict_keyiterator" = false:=by decide
 simp only[own,rP,if_false]
 show aP _ _ (if (dS d == gL)=true then _ else _) _ _ s
 rw[if_neg (show ¬ (dS d == gL)=true from oM)]
 refine aM (aY ?_)
 refine aM (IG eo ed ?_)
 rw[if_neg (by simp)]
 refine aM (aY ?_)
 refine aM (wpAny_dictEpoch eo ed ?_)
 rw[if_neg (by simp)]
 refine aY ?_
 simp only[show ¬ ((i:Int)<0) from by omega,if_false,WH,x]
 refine aM ?_
 first
  | refine aM (ID K.typeIs (aY ?_))
  | refine aM (IC K.typeIs (aY ?_))
 refine aM (wpAny_isOneOf_keyiter K.typeIs ?_)
 show aP _ _ (setField (.ref it) 1 (rawInt ((i:Int)+1)) >>= _) _ _ s
 refine aM (wpAny_setField ei di (by simp) ?_)
 have K':(s.heap.update it (Obj.mapFields (·.setIfInBounds 1 (rawInt ((i:Int)+1))))).IsKeyIter it d (i+1) es.size ep:=
  ⟨_,JG _ ei (Obj.isFreed_of_fields (Obj.data_mapFields di _)),(Obj.cls_mapFields ..).trans ci,by
   rw[Obj.data_mapFields di]; simp[rawInt]⟩
 refine aM (iX ?_)
 refine aM (wpAny_isOneOf_keyiter
  K'.typeIs ?_)
 exact aY (aY ⟨_,rfl,aY (q _ K' (WI ..))⟩)
theorem Mx {Q:Option aE->aH->Prop}(hh:A.handled=none)(K:s.heap.IsKeyIter it d i es.size ep)(R:Auv s.heap d es ep)(x:es.size≤i)
  (q : ∀ h',Heap.ExtBut it s.heap h'->Q none { s with heap:=h' }):aP (aQ prog w) A (pyNext (.ref it)) Q E s:=by
 obtain⟨oi,ei,ci,di⟩:=id K
 obtain⟨o,eo,_,ed⟩:=R
 unfold pyNext
 refine aM (wpAny_attempt (BB K.typeIs
  BW (rC BW K.typeIs
   Re ?_ (Rf _))))
 refine aM (aY ?_)
 refine aM ?_
 refine aM ?_
 first
  | refine aM (ID K.typeIs (aY ?_))
  | refine aM (IC K.typeIs (aY ?_))
 refine aM (wpAny_fieldsOf ei di ?_)
 have own:Builtin.Dict_items.ownsTuple "dict_keyiterator" = false:=by decide
 simp only[own,rP,if_false]
 show aP _ _ (if (dS d == gL)=true then _ else _) _ _ s
 rw[if_neg (show ¬ (dS d == gL)=true from oM)]
 refine aM (aY ?_)
 refine aM (IG eo ed ?_)
 rw[if_neg (by simp)]
 refine aM (aY ?_)
 refine aM (wpAny_dictEpoch eo ed ?_)
 rw[if_neg (by simp)]
 refine aY ?_
 simp only[show ¬ ((i:Int)<0) from by omega,if_false,WH,Array.getElem?_eq_none x]
 refine aM ?_
 first
  | refine aM (ID K.typeIs (aY ?_))
  | refine aM (IC K.typeIs (aY ?_))
 show aP _ _ (setField (.ref it) 0 .none >>= _) _ _ s
 refine aM (wpAny_setField ei di (by simp) ?_)
 refine aM ?_
 simp only[newExc,newTuple]
 refine aM (pN ?_ (by size_fits))
 refine aM (wpAny_of_eq
  (by first | rfl | (simp only[firstArgMember]; rfl)) ?_)
 refine pN ?_ (by size_fits)
 simp only[raiseNew]
 refine aM (wpAny_handled ?_)
 rw[show A.in1.handled=none from hh]
 refine aM (aY (wpAny_throw ?_))
 refine aM (UT
  ⟨_,eZ _ rfl,rfl⟩ isSubtype_stop ?_)
 exact aY (q _ (((WI ..).extBut.push _).push _))
theorem Ck (hh:A.handled=none)(I d:aD)(ne:d≠I)(es:Array oK)(ep:Nat) :
  Walks prog w A I [I,d] [I] es.size (fun i v=>∃ e,es[i]?=some e/\v=e.key) (fun i h=>h.IsKeyIter I d i es.size ep/\Auv h d es ep) where
 sub:=fun b hb=>by simp at hb; simp[hb]
 frame:=fun _ _ _ st hk=>⟨st.1.at fun o e=>hk I (by simp) o e,st.2.keep fun o e=>hk d (by simp) o e⟩
 item:=fun i s Q E hi st hQ=>by
  have hx:=Array.getElem?_eq_getElem hi
  refine Oh st.1 st.2 hx fun h' K' hs=>?_
  exact hQ _ h' s.toks ⟨_,hx,rfl⟩ ⟨K',st.2.keep fun o e=>hs.extBut d o ne e⟩ fun b o hb e=>hs.extBut b o (fun h=>hb (by simp[h])) e
 done:=fun s Q E st hQ=>Mx hh st.1 st.2 (bU _) fun h' he=>hQ h' s.toks fun b o hb e=>he b o (fun h=>hb (by simp[h])) e
 self:=fun _ _ _ _ st hQ=>wpAny_pyIter_keyiter st.1 hQ
theorem Io:uE (.type "dict") "__len__" = pure (some (.builtin "dict.__len__")):=by rw[typeLookup_type,builtinLookup_eq_fast]; kernel_rfl
theorem Fo {R:oB->aH->Prop}(hh:A.handled=none)(nm:(d == iB)=false)(D:Auv s.heap d es ep)(S:aD)(res:aE)(c₀:Nat)(hSd:S≠d)
  (hS:s.heap.get? S=some { cls:=.type "list",data:=.seq #[] c₀ }) (hn:es.size≤sizeLine)
  (q : ∀ h' tk acc c',(∀ b o,b≠S->s.heap.get? b=some o->h'.get? b=some o)->h'.get? S=some { cls:=.type "list",dict:=none,data:=.seq acc c',slots:=#[] } ->
   ItemsOf (fun i v=>∃ e,es[i]?=some e/\v=e.key) acc es.size->R (.ok (.ret res)) { s with heap:=h',toks:=tk }) :
  aP (aQ prog w) A.in1 (Builtin.List.listExtendWith (.ref S) (.ref d) res)
   (fun fin s'=>match fin with | .done f=>R (.ok f) s' | .again c'=>c'.quiet=true/\iY (aQ prog w) A c' R s') (fun e s'=>R (.error e) s') s:=by
 have ty:=D.ty
 unfold Builtin.List.listExtendWith
 refine aM (uB ty ?_)
 have h1:Builtin.List.listSameRef (.ref S) (.ref d)=false:=by
  simp[Builtin.List.listSameRef,hSd]
 have h2:(lF "dict" == lF "list")=false:=by decide
 have h3:(lF "dict" == lF "tuple")=false:=by decide
 simp only[h1,h2,h3,Bool.or_false,rP,if_false]
 refine aM (Qf nm D ?_)
 refine aM (iX ?_)
 have hd0:d<s.heap.objs.size:=by obtain⟨o,e,_⟩:=D; exact cE e
 have hS0:S<s.heap.objs.size:=cE hS
 have keepP : ∀ b o,s.heap.get? b=some o->(s.heap.push { cls:=.type "dict_keyiterator",data:=.fields #[.ref d,.int 0 0,.int es.size 0,.int ep 0] }).get? b=some o:=fun b o e=>cX _ e
 have D':Auv (s.heap.push { cls:=.type "dict_keyiterator",data:=.fields #[.ref d,.int 0 0,.int es.size 0,.int ep 0] }) d es ep:=D.keep fun o e=>keepP d o e
 have itG:(s.heap.push { cls:=.type "dict_keyiterator",data:=.fields #[.ref d,.int 0 0,.int es.size 0,.int ep 0] }).IsKeyIter s.heap.objs.size d 0 es.size ep:=⟨_,eZ _ rfl,rfl,rfl⟩
 unfold Builtin.List.listLengthHint
 refine aM (BA (T:="dict") (v:=.ref d) (by obtain⟨o,e,c,_⟩:=D'; exact⟨o,e,c.1⟩) Io ?_)
 wp_delta
 refine aM (UT (T:="dict") (v:=.ref d) (b:=true) (by obtain⟨o,e,c,_⟩:=D'; exact⟨o,e,c.1⟩) (by rw[isSubtype_type]; kernel_rfl) ?_)
 show aP _ _ (typeOf (dS d) >>= _) _ _ _
 refine aM (uB (T:="dict") (v:=.ref d) (by obtain⟨o,e,c,_⟩:=D'; exact⟨o,e,c.1⟩) ?_)
 refine aY ?_
 rw[if_pos (by decide)]
 refine aM (wpAny_rule ?_)
 refine aM ?_
 have S1:=keepP _ _ hS
 generalize(s.heap.push { cls:=.type "dict_keyiterator",data:=.fields #[.ref d,.int 0 0,.int es.size 0,.int ep 0] })=G at keepP D' S1 itG ⊢
 show aP _ _ (updateSeq S (·.push .none) >>= fun _=>updateSeq S (·.pop)) _ _ _
 refine aM (wpAny_updateSeq S1 rfl ?_)
 have S2:=JG (lG (·.push gL)) S1 rfl
 refine wpAny_updateSeq (hz:=by seq_fits) S2 rfl ?_
 have S3:=JG (lG (·.pop)) S2 rfl
 have other : ∀ b o,b≠S->G.get? b=some o->((G.update S (lG (·.push gL))).update S (lG (·.pop))).get? b=some o:=fun b o hb e=>
  (JH _ _ (jO hb)).trans ((JH _ _ (jO hb)).trans e)
 have hne:d≠s.heap.objs.size:=dF hd0
 have hSf:S∉[s.heap.objs.size,d]:=fun hm=>by
  rcases cQ.mp hm with z | z
  ·exact absurd hS0 (by rw[z]; exact jP _)
  ·exact hSd (dB.mp z)
 refine aY ⟨BD F.plain_extend_loop _,codeAny_extend_loopS (Ck (A:=A.in1) hh s.heap.objs.size d hne es ep).toS hn _ hSf _ es.size 0 _ _ _ rfl (fP _)
  ⟨itG.at fun o e=>other _ o (rL hS0) e,D'.keep fun o e=>other _ o (jO hSd) e⟩ S3 (ItemsOf.nil _) fun s' acc c' hm hS' hacc=>?_⟩
 rw[Moved.eq_with hm]
 refine q s'.heap s'.toks acc c' (fun b ob hb e=>hm.heap b ob (fun hmem=>?_) (other b ob hb (keepP _ _ e))) hS' hacc
 rcases cQ.mp hmem with z | hmem
 ·exact hb z
 ·exact absurd (cE e) (by rw[dB.mp hmem]; exact jP _)
theorem SQ {Q:List aE->aH->Prop}(hh:A.handled=none)(nm:(d == iB)=false)(D:Auv s.heap d es ep)(hn:es.size≤sizeLine)
  (q : ∀ s' acc,(∀ b o,s.heap.get? b=some o->s'.heap.get? b=some o)->s'.gens=s.gens->s'.drawn=s.drawn->s'.os=s.os->ItemsOf (fun i v=>∃ e,es[i]?=some e/\v=e.key) acc es.size->Q acc.toList s') :
  aP (aQ prog w) A (collect (.ref d)) Q E s:=by
 have hd0:d<s.heap.objs.size:=by obtain⟨o,e,_⟩:=D; exact cE e
 unfold collect
 refine aM (wpAny_runValue (rH F.entry_proto_collect ?_))
 rw[yG F.plain_proto_collect _]
 refine aM (pN ?_)
 refine aY ⟨BD F.plain_list_iadd _,rH F.entry_list_iadd ?_⟩
 rw[yG F.plain_list_iadd _]
 have fin : ∀ (r:oB) (s':aH),(r = .ok (.ret (.ref s.heap.objs.size)) /\ ∃ h' tk acc c',s' = { s with heap:=h',toks:=tk }/\(∀ b o,b≠s.heap.objs.size->(s.heap.push { cls:=.type "list",data:=.seq ([]:List aE).toArray }).get? b=some o->h'.get? b=some o) /\
   h'.get? s.heap.objs.size=some { cls:=.type "list",dict:=none,data:=.seq acc c',slots:=#[] }/\ItemsOf (fun i v=>∃ e,es[i]?=some e/\v=e.key) acc es.size) ->
   (match r with
    | .ok (.ret v)=>aP (aQ prog w) A (match v with
      | .ref a=>do
       let o ← load a
       match o.data with
        | .seq xs _=>pure xs.toList
        | _=>unsupported "internal:collect"
      | _=>unsupported "internal:collect") Q E s'
    | .ok _=>False
    | .error e=>E e s'):=by
  rintro r s' ⟨rfl,h',tk,acc,c',rfl,hk,hS',hacc⟩
  refine aM (wpAny_load hS' ?_)
  exact aY (q { s with heap:=h',toks:=tk } acc (fun b o e=>hk b o (dF (cE e)) (cX _ e)) rfl rfl rfl hacc)
 refine iW (Fo
  (R:=fun r s'=>r = .ok (.ret (.ref s.heap.objs.size)) /\ ∃ h' tk acc c',s' = { s with heap:=h',toks:=tk }/\(∀ b o,b≠s.heap.objs.size->(s.heap.push { cls:=.type "list",data:=.seq ([]:List aE).toArray }).get? b=some o->h'.get? b=some o) /\
   h'.get? s.heap.objs.size=some { cls:=.type "list",dict:=none,data:=.seq acc c',slots:=#[] }/\ItemsOf (fun i v=>∃ e,es[i]?=some e/\v=e.key) acc es.size)
  hh nm (D.keep fun o e=>cX _ e) s.heap.objs.size _ 0 (rL hd0) (eZ _ rfl) hn fun h' tk acc c' hk hS' hacc=>⟨rfl,h',tk,acc,c',rfl,hk,hS',hacc⟩) (fun f s' hf=>?_) fun e s' hf=>absurd hf.1 (by intro z; cases z)
 cases f with
 | done f=>exact fin _ s' hf
 | again c=>exact⟨hf.1,rG hf.2 fun r s2 h2=>fin r s2 h2⟩
end
section
variable {X:Cx}{pins:List (aD×aX)}{σ:St}{H:Hp}{s:aH}
theorem GP {P:bE}{w:bA} : ∀ {es:List oK} {kvs:List (aN×V)} {vs:List (aN×aE)},KV kvs vs->PySem.Pairs (eJ P w) es vs->Vals (kvs.map fun kv=>kV kv.1) (es.map (·.key))
 | [],kvs,vs,r,p=>by
  cases p
  cases r
  exact .nil
 | e::es,kvs,vs,r,p=>by
  cases p with
  | cons h hv t=>
   cases r with
   | cons h' t'=>
    refine .cons ?_ (GP t' t)
    show RelV (kV _) e.key
    rw[h'.1]
    rcases lR h with⟨i,tk,e1,e2⟩ | ⟨x,tk,e1,e2⟩
    ·rw[e1,e2]; exact⟨tk,rfl⟩
    ·rw[e1,e2]; exact⟨tk,rfl⟩
theorem PR {es:Array oK}{acc:Array aE}(h:ItemsOf (fun i v=>∃ e,es[i]?=some e/\v=e.key) acc es.size):acc.toList=es.toList.map (·.key):=by
 obtain⟨h1,h2⟩:=h
 apply List.ext_getElem?
 intro i
 rw[fH]
 by_cases hi:i<acc.size
 ·have ha:acc.toList[i]?=some acc[i]:=by simp[hi]
  obtain⟨e,he,hv⟩:=h2 i acc[i] (by simp[hi])
  have he':es.toList[i]?=some e:=by simpa using he
  rw[ha,he',hv]
  rfl
 ·have ha:acc.toList[i]?=none:=by simp; omega
  have he:es.toList[i]?=none:=by simp; omega
  rw[ha,he]
  rfl
theorem Au {ep0:Nat}{kvs:List (aN×V)}{a:aD}(I:Inv X pins σ H s)(ha:H a=some (.dK ep0 kvs)):kvs.length≤sizeLine/\(a == iB)=false /\ ∃ es ep,Auv s.heap a es ep/\Vals (kvs.map fun kv=>kV kv.1) (es.toList.map (·.key))/\es.size=kvs.length:=by
 obtain⟨z,nm,vs,r,o,es,ep,e1,e2,e3,_,e5,_⟩:=vH I.hok ha
 refine⟨z,nm,es,ep,⟨o,e1,e2,e3⟩,GP r e5,?_⟩
 have l1:=(GP r e5).length
 simp at l1
 exact l1.symm
theorem Qo {H:Hp} : ∀ {kvs:List (List aA×V)} {ys:List (List aA×aD×aE)},eO (fun p q=>p.1=q.1/\Alw H p.1 q.2.1/\RelV p.2 q.2.2) kvs ys->eO (fun(p:List aA×V) (b:aD)=>Alw H p.1 b) kvs (ys.map fun y=>y.2.1):=by
 intro kvs ys h
 induction h with
 | nil=>exact .nil
 | cons h _ ih=>exact .cons h.2.1 ih
theorem QJ {P:bE}{w:bA} : ∀ (ys:List (List aA×aD×aE)),Vals ((ys.map fun y=>y.2.1).map V.ref) ((ys.map (entryOfKey (nM P w))).map (·.key))
 | []=>.nil
 | _::t=>.cons rfl (QJ t)
theorem QD {K:aJ} : ∀ {kds:List (aA×aA)} {kvs:List (aN×V)},Abp K H kds kvs->(∀ kd∈kds,cM kd.1=true)->Aau K H (kds.map (·.1)) (kvs.map fun kv=>kV kv.1)
 | [],kvs,r,_=>by rw[Abl.mp r]; exact Aao.mpr rfl
 | (k,d)::kds,kvs,r,h=>by
  obtain⟨k',x,rr,rfl,rfl,h1,h2⟩:=Aa1.mp r
  refine Aag.mpr ⟨_,_,rfl,?_,QD h2 fun kd m=>h kd (cD _ m)⟩
  have hl:=h (kD k',d) cC
  cases k' with
  | inl i=>exact Aat.mpr rfl
  | inr z=>exact Aas.mpr ⟨rfl,hl⟩
noncomputable def nY (b:List (aA×aA)):List (aA×aA)->Bool
 | []=>true
 | (k,d)::r=>match (cV k).bind (cF b) with
  | none=>false
  | some e=>cL d e&&nY b r
noncomputable def sP (a b:List (aA×aA)):Bool:=a.length == b.length&&nY b a
noncomputable def valsOk (a:List (aA×aA)):Bool:=a.all fun kd=>dJ kd.2
theorem Oy {b:List (aA×aA)}{k:aN}{d:aA}(h:valsOk b=true)(e:cF b k=some d):dJ d=true:=by
 unfold cF at e
 cases q:b.find? fun kd=>decide (cV kd.1=some k) with
 | none=>rw[q] at e; cases e
 | some kd=>
  rw[q] at e
  have:kd.2=d:=by simpa using e
  subst this
  exact fQ.mp h kd (List.mem_of_find?_eq_some q)
theorem LL (hu:X.A.units+100<cLine)(I:Inv X pins σ H s){kb:List (aA×aA)}{vb:List (aN×V)}{ub:List (aN×aE)}(rb:Abp X.K H kb vb)(qb:KV vb ub)(fb:valsOk kb=true) :
  ∀ {ka:List (aA×aA)} {va:List (aN×V)} {ua:List (aN×aE)},valsOk ka=true->Abp X.K H ka va->KV va ua->PySem.W.KeqHits X.A.in1 s ub ua (nY kb ka)
 | [],va,ua,_,ra,qa=>by
  obtain rfl:=Abl.mp ra
  cases qa
  exact .nil
 | (k,d)::ka,va,ua,fa,ra,qa=>by
  obtain⟨k',x,rr,rfl,rfl,h1,h2⟩:=Aa1.mp ra
  have fa':dJ d=true/\valsOk ka=true:=by simpa [valsOk] using fa
  cases qa with
  | @cons _ u _ us h' t'=>
  obtain⟨g1,g2⟩:=h'
  obtain⟨uk,uv⟩:=u
  have e2:=g1
  subst e2
  have rel:=qb.val k'
  have eh:nY kb ((kD k',d)::ka)=(match cF kb k' with | none=>false | some e=>cL d e&&nY kb ka):=by
   show(match (cV (kD k')).bind (cF kb) with | none=>false | some e=>cL d e&&nY kb ka)=_
   rw[oW]
   rfl
  rcases zU rb with⟨n1,n2⟩ | ⟨d',v',s1,s2,rd⟩
  ·rw[n2] at rel
   rw[eh,n1]
   exact .miss rel.none_of
  ·rw[s2] at rel
   obtain⟨y,hy,ry⟩:=rel.some_of
   have f1:noDict d=true/\d.depth≤60:=by simpa [dJ] using fa'.1
   have f2:noDict d'=true/\d'.depth≤60:=by simpa [dJ] using Oy fb s1
   obtain⟨l1,as,ra'⟩:=kF I f1.1 h1 g2
   obtain⟨l2,bs,rb'⟩:=kF I f2.1 rd ry
   have eq:=SeqAt.eqAt_reads d d' X.A.in1 s uv y as bs ra' rb' l1 l2 (by
    have:X.A.in1.units=X.A.units+1:=rfl
    omega)
   rw[eh,s1]
   exact .hit hy eq (LL hu I rb qb fb fa'.2 h2 t')
noncomputable def JY (K:aJ)(neg:Bool):R2:=fun x y H Q=>∃ ka kb,Abb K H (.dict ka) x/\Abb K H (.dict kb) y/\(plK ka=true/\plK kb=true)/\valsOk ka=true/\valsOk kb=true/\Q (.bl (neg != sP ka kb)) H
theorem Bf (hu:X.A.units+100<cLine):OpR X (eT .NotEq) (JY X.K true):=by
 intro pins s σ H x y v u Q I rx ry h
 obtain⟨ka,kb,ra,rb,pk,fa,fb,q⟩:=h
 obtain⟨a,va,rfl,ha,ra⟩:=(qS pk.1).mp ra
 obtain⟨b,vb,rfl,hb,rb⟩:=(qS pk.2).mp rb
 cases rx
 cases ry
 obtain⟨_,na,ua,qa,da⟩:=vH I.hok ha
 obtain⟨_,nb,ub,qb,db⟩:=vH I.hok hb
 have l1:=(ra.length).symm.trans qa.length
 have l2:=(rb.length).symm.trans qb.length
 refine PySem.W.keq_ne na nb da db (by omega) (fun _=>LL hu I rb qb fb fa ra qa) ?_
 rw[← l1,← l2]
 exact⟨.bl _,H,I,rfl,by simpa [sP] using q⟩
noncomputable def vE (neg:Bool):aA->aA->Option aA
 | .dict a,.dict b=>if (valsOk a&&valsOk b&&(plK a&&plK b))=true then some (.bool (neg != sP a b)) else none
 | _,_=>none
theorem Ml {K:aJ}{neg:Bool}:OpD K 0 (JY K neg) (vE neg):=fun P H x y a b d Q hP ra rb e k=>by
 unfold vE at e
 split at e
 ·obtain⟨hc,rfl⟩:=cW e
  have hc':=iQ.mp hc
  have hv:=iQ.mp hc'.1
  exact⟨_,_,ra.ext Aa0,rb.ext Aa0,iQ.mp hc'.2,hv.1,hv.2,k.zero Ext.refl (Aar.mpr rfl)⟩
 ·cases e
end
section
variable {X:Cx}{H0:Hp}{P0:aD->Prop}{n0:Nat}{pos:bG}
noncomputable def sC (m:Md)(f:EF)(T:aA->aW->Option aW):SF:=fun ρ=>(eV 0 m f ρ).bind fun d=>(T d ρ).bind fun ρ'=>some (.nx ρ')
theorem EO {tg e:aS}{f:EF}{T:aA->aW->Option aW}(m:Md)(he:DE X e f)(hg:DG X H0 P0 tg T)(hs:swapsWithSole [tg] e pos.line X.env=pure false:=by rfl)(hw:swappedStores [tg] e X.env=pure none:=by rfl)
  (h1:(kJ [tg] X.env).map (·.2)=[mW tg X.env]:=by rfl):DS X H0 P0 n0 (.Assign [tg] e pos) (sC m f T):=PS.imp (UL (ev m he) hg hs hw h1) fun D σ H gh=>by
 obtain⟨B0,ρ,fp,o,S,ef,k⟩:=gh
 obtain⟨d,e1,ef⟩:=XBs ef
 obtain⟨ρ',e2,ef⟩:=XBs ef
 cases ef
 refine⟨B0,ρ,fp,d,S,e1,fun v H' gh=>?_⟩
 obtain⟨fp',S',r⟩:=gh
 exact⟨B0,ρ,fp',d,ρ',S',r.2,e2,fun σ' fp2 S2=>k _ _ fp2 S2⟩
end
open PySem PySem.W PyProof.Rows
noncomputable def evT {α:Type}(lt:Nat->Nat->Bool):KasT α->α
 | .ret a=>a
 | .ask i j k=>evT lt (k (lt i j))
theorem sZ {α β:Type}(lt:Nat->Nat->Bool)(f:α->KasT β) : ∀ t:KasT α,evT lt (t.bind f)=evT lt (f (evT lt t))
 | .ret _=>rfl
 | .ask i j k=>sZ lt f (k (lt i j))
structure Ord (lt:Nat->Nat->Bool):Prop where
 asym : ∀ a b,lt a b=true->lt b a=false
 tr : ∀ a b c,lt b a=false->lt c b=false->lt c a=false
section
variable {lt:Nat->Nat->Bool}(O:Ord lt)
noncomputable abbrev at' (p:Array Nat)(i:Nat):Nat:=p.getD i 0
def gU (lt:Nat->Nat->Bool)(p:Array Nat)(m:Nat):Prop:=∀ i j,i≤j->j<m->lt (at' p j) (at' p i)=false
def pV (lt:Nat->Nat->Bool)(p:Array Nat)(m:Nat):Prop:=∀ i j,i≤j->j<m->lt (at' p i) (at' p j)=false
include O
theorem Ord.refl (a:Nat):lt a a=false:=by
 cases h:lt a a with
 | false=>rfl
 | true=>exact absurd (O.asym a a h) (by rw[h]; decide)
theorem Ni {p:Array Nat}{n:Nat}(h1:1≤n)(h:gU lt p n)(hl:lt (at' p n) (at' p (n - 1))=false):gU lt p (n+1):=fun i j hij hj=>by
 by_cases c:j<n
 ·exact h i j hij c
 ·obtain rfl:j=n:=by omega
  by_cases d:i=j
  ·subst d; exact O.refl _
  ·exact O.tr _ _ _ (h i (j - 1) (by omega) (by omega)) hl
theorem wB {p:Array Nat}{n:Nat}(h1:1≤n)(h:pV lt p n)(hl:lt (at' p (n - 1)) (at' p n)=false):pV lt p (n+1):=fun i j hij hj=>by
 by_cases c:j<n
 ·exact h i j hij c
 ·obtain rfl:j=n:=by omega
  by_cases d:i=j
  ·subst d; exact O.refl _
  ·exact O.tr _ _ _ hl (h i (j - 1) (by omega) (by omega))
theorem Nc (p:Array Nat):gU lt p 1:=fun i j hij hj=>by
 obtain rfl:j=0:=by omega
 obtain rfl:i=0:=by omega
 exact O.refl _
theorem EA {p:Array Nat} : ∀ (f n:Nat),1≤n->gU lt p n->n≤evT lt (kas_asc p f n)/\evT lt (kas_asc p f n)≤n+f/\gU lt p (evT lt (kas_asc p f n))/\(evT lt (kas_asc p f n)<n+f->lt (at' p (evT lt (kas_asc p f n))) (at' p (evT lt (kas_asc p f n) - 1))=true)
 | 0,n,h1,h=>⟨bU _,bU _,h,fun z=>absurd z (by show ¬ n<n+0; omega)⟩
 | f+1,n,h1,h=>by
  have e:evT lt (kas_asc p (f+1) n)=evT lt (if lt (at' p n) (at' p (n - 1))=true then KasT.ret n else kas_asc p f (n+1)):=rfl
  rw[e]
  by_cases c:lt (at' p n) (at' p (n - 1))=true
  ·rw[if_pos c]
   exact⟨bU _,by show n≤n+(f+1); omega,h,fun _=>c⟩
  ·rw[if_neg c]
   obtain⟨a1,a2,a3,a4⟩:=EA f (n+1) (by omega) (Ni O h1 h (by simpa using c))
   exact⟨by omega,by omega,a3,fun z=>a4 (by omega)⟩
theorem GA {p:Array Nat}{k:Nat}(h:gU lt p k) : ∀ (f l r:Nat),l≤r->r≤k->r - l≤f->(∀ i<l,lt (at' p k) (at' p i)=false)->(∀ i,r≤i->i<k->lt (at' p i) (at' p k)=false) ->
  evT lt (kas_place p k f l r)≤k/\(∀ i<evT lt (kas_place p k f l r),lt (at' p k) (at' p i)=false) /\ ∀ i,evT lt (kas_place p k f l r)≤i->i<k->lt (at' p i) (at' p k)=false
 | 0,l,r,h1,h2,h3,hl,hr=>by
  have e:evT lt (kas_place p k 0 l r)=l:=rfl
  obtain rfl:l=r:=by omega
  rw[e]
  exact⟨h2,hl,hr⟩
 | f+1,l,r,h1,h2,h3,hl,hr=>by
  unfold kas_place
  by_cases c:l ≥ r
  ·rw[if_pos c]
   obtain rfl:l=r:=by omega
   exact⟨h2,hl,hr⟩
  ·rw[if_neg c]
   show evT lt (if lt (at' p k) (at' p ((l+r) / 2))=true then kas_place p k f l ((l+r) / 2) else kas_place p k f ((l+r) / 2+1) r)≤k/\_
   by_cases d:lt (at' p k) (at' p ((l+r) / 2))=true
   ·have e:evT lt (KasT.ask (p.getD k 0) (p.getD ((l+r) / 2) 0) fun c=>if c=true then kas_place p k f l ((l+r) / 2) else kas_place p k f ((l+r) / 2+1) r)=evT lt (kas_place p k f l ((l+r) / 2)):=by
     show evT lt (if lt (at' p k) (at' p ((l+r) / 2))=true then _ else _)=_
     rw[if_pos d]
    rw[e,if_pos d]
    exact GA h f l ((l+r) / 2) (by omega) (by omega) (by omega) hl fun i a b=>O.tr _ _ _ (O.asym _ _ d) (h _ i a b)
   ·have d':lt (at' p k) (at' p ((l+r) / 2))=false:=by simpa using d
    have e:evT lt (KasT.ask (p.getD k 0) (p.getD ((l+r) / 2) 0) fun c=>if c=true then kas_place p k f l ((l+r) / 2) else kas_place p k f ((l+r) / 2+1) r)=evT lt (kas_place p k f ((l+r) / 2+1) r):=by
     show evT lt (if lt (at' p k) (at' p ((l+r) / 2))=true then _ else _)=_
     rw[if_neg d]
    rw[e,if_neg d]
    refine GA h f ((l+r) / 2+1) r (by omega) h2 (by omega) (fun i hi=>?_) hr
    exact O.tr _ _ _ (h i ((l+r) / 2) (by omega) (by omega)) d'
end
theorem at_of {p:Array Nat}(i:Nat):at' p i=(p[i]?).getD 0:=Array.getD_eq_getD_getElem?
theorem UR {p:Array Nat}{k l:Nat}(hk:k<p.size)(hl:l≤k)(i:Nat):at' (bubble p k (k - l)) i=if i=l then at' p k else if l<i/\i≤k then at' p (i - 1) else at' p i:=by
 have e:k - (k - l)=l:=by omega
 have q:=getElem?_bubble hk (k - l) (by omega) i
 rw[e] at q
 simp only[at_of,q]
 split
 ·rfl
 ·split <;> rfl
theorem kU {p:Array Nat}{i j:Nat}(hj:j≤p.size)(k:Nat):at' (kas_rev p i j) k=if i≤k/\k<j then at' p (i+j - 1 - k) else at' p k:=by
 have q:=getElem?_mirror_all (i:=i) hj k
 simp only[at_of]
 unfold kas_rev
 rw[q]
 split <;> rfl
theorem EW (p:Array Nat)(i j:Nat):(kas_rev p i j).size=p.size:=mirror_size _ _ _ _
theorem oX (p:Array Nat)(i j:Nat):(kas_rev p i j).Perm p:=mirror_perm _ _ _ _
section
variable {lt:Nat->Nat->Bool}(O:Ord lt)
include O
theorem MQ : ∀ (f:Nat) (p:Array Nat) (k:Nat),gU lt p k->k+f≤p.size->(evT lt (kas_bin f p k)).Perm p/\gU lt (evT lt (kas_bin f p k)) (k+f)
 | 0,p,k,h,_=>⟨BY _,h⟩
 | f+1,p,k,h,hz=>by
  have e:evT lt (kas_bin (f+1) p k)=evT lt (kas_bin f (bubble p k (k - evT lt (kas_place p k k 0 k))) (k+1)):=by
   show evT lt ((kas_place p k k 0 k).bind fun l=>kas_bin f (bubble p k (k - l)) (k+1))=_
   rw[sZ]
  obtain⟨h1,h2,h3⟩:=GA O h k 0 k (fP _) (bU _) (by omega) (fun i hi=>absurd hi (by omega)) (fun i a b=>absurd b (by omega))
  rw[e]
  generalize evT lt (kas_place p k k 0 k)=l at h1 h2 h3
  have hk:k<p.size:=by omega
  have A':gU lt (bubble p k (k - l)) (k+1):=fun i j hij hj=>by
   rw[UR hk h1,UR hk h1]
   by_cases ci:i=l
   ·rw[if_pos ci]
    by_cases cj:j=l
    ·rw[if_pos cj]; exact O.refl _
    ·rw[if_neg cj,if_pos ⟨by omega,by omega⟩]
     exact h3 (j - 1) (by omega) (by omega)
   ·rw[if_neg ci]
    by_cases cj:j=l
    ·rw[if_pos cj,if_neg (by omega)]
     exact h2 i (by omega)
    ·rw[if_neg cj]
     by_cases di:l<i/\i≤k
     ·rw[if_pos di,if_pos ⟨by omega,by omega⟩]
      exact h (i - 1) (j - 1) (by omega) (by omega)
     ·rw[if_neg di]
      by_cases dj:l<j/\j≤k
      ·rw[if_pos dj]
       exact h i (j - 1) (by omega) (by omega)
      ·rw[if_neg dj]
       exact h i j hij (by omega)
  obtain⟨a1,a2⟩:=MQ f (bubble p k (k - l)) (k+1) A' (by rw[bubble_size]; omega)
  exact⟨a1.trans (bubble_perm _ _ _),by rw[show k+(f+1)=k+1+f by omega]; exact a2⟩
structure Fall (lt:Nat->Nat->Bool)(p:Array Nat)(n q:Nat):Prop where
 pos:q+1≤n
 dsc:pV lt p n
 eq : ∀ i j,n - (q+1)≤i->i<n->n - (q+1)≤j->j<n->lt (at' p i) (at' p j)=false
theorem Fall.rev {p:Array Nat}{n q:Nat}(F:Fall lt p n q)(hz:n≤p.size):Fall lt (kas_rev p (n - (q+1)) n) n q:=by
 have hp:=F.pos
 refine⟨hp,fun i j hij hj=>?_,fun i j a b c d=>?_⟩
 ·rw[kU hz,kU hz]
  by_cases ci:n - (q+1)≤i/\i<n
  ·rw[if_pos ci,if_pos ⟨by omega,hj⟩]
   exact F.eq _ _ (by omega) (by omega) (by omega) (by omega)
  ·rw[if_neg ci]
   by_cases cj:n - (q+1)≤j/\j<n
   ·rw[if_pos cj]
    exact F.dsc _ _ (by omega) (by omega)
   ·rw[if_neg cj]
    exact F.dsc i j hij hj
 ·rw[kU hz,kU hz,if_pos ⟨a,b⟩,if_pos ⟨c,d⟩]
  exact F.eq _ _ (by omega) (by omega) (by omega) (by omega)
theorem zK : ∀ (f:Nat) (p:Array Nat) (n q:Nat),Fall lt p n q->n+f≤p.size->(evT lt (kas_desc f p n q)).1.Perm p/\n≤(evT lt (kas_desc f p n q)).2.1/\(evT lt (kas_desc f p n q)).2.1≤n+f/\Fall lt (evT lt (kas_desc f p n q)).1 (evT lt (kas_desc f p n q)).2.1 (evT lt (kas_desc f p n q)).2.2
 | 0,p,n,q,F,_=>⟨BY _,bU _,bU _,F⟩
 | f+1,p,n,q,F,hz=>by
  have hp:=F.pos
  have e:evT lt (kas_desc (f+1) p n q)=evT lt (if lt (at' p n) (at' p (n - 1))=true then(if q > 0 then kas_desc f (kas_rev p (n - (q+1)) n) (n+1) 0 else kas_desc f p (n+1) 0) else KasT.ask (p.getD (n - 1) 0) (p.getD n 0) fun d=>if d=true then .ret (p,n,q) else kas_desc f p (n+1) (q+1)):=rfl
  rw[e]
  by_cases c:lt (at' p n) (at' p (n - 1))=true
  ·rw[if_pos c]
   by_cases hq:q > 0
   ·rw[if_pos hq]
    have F':=F.rev O (by omega)
    have hn:at' (kas_rev p (n - (q+1)) n) n=at' p n:=by rw[kU (by omega),if_neg (by omega)]
    have F2:Fall lt (kas_rev p (n - (q+1)) n) (n+1) 0:=by
     refine⟨by omega,wB O (by omega) F'.dsc ?_,fun i j a b c' d=>?_⟩
     ·rw[hn,kU (by omega),if_pos ⟨by omega,by omega⟩]
      exact O.tr _ _ _ (O.asym _ _ c) (F.eq _ _ (by omega) (by omega) (by omega) (by omega))
     ·obtain rfl:i=n:=by omega
      obtain rfl:j=i:=by omega
      exact O.refl _
    obtain⟨a1,a2,a3,a4⟩:=zK f _ (n+1) 0 F2 (by rw[EW]; omega)
    exact⟨a1.trans (oX _ _ _),by omega,by omega,a4⟩
   ·rw[if_neg hq]
    have F2:Fall lt p (n+1) 0:=by
     refine⟨by omega,wB O (by omega) F.dsc (O.asym _ _ c),fun i j a b c' d=>?_⟩
     obtain rfl:i=n:=by omega
     obtain rfl:j=i:=by omega
     exact O.refl _
    obtain⟨a1,a2,a3,a4⟩:=zK f _ (n+1) 0 F2 (by omega)
    exact⟨a1,by omega,by omega,a4⟩
  ·rw[if_neg c]
   have c':lt (at' p n) (at' p (n - 1))=false:=by simpa using c
   have e2:evT lt (KasT.ask (p.getD (n - 1) 0) (p.getD n 0) fun d=>if d=true then .ret (p,n,q) else kas_desc f p (n+1) (q+1))=evT lt (if lt (at' p (n - 1)) (at' p n)=true then .ret (p,n,q) else kas_desc f p (n+1) (q+1)):=rfl
   rw[e2]
   by_cases d:lt (at' p (n - 1)) (at' p n)=true
   ·rw[if_pos d]
    exact⟨BY _,bU _,by show n≤n+(f+1); omega,F⟩
   ·rw[if_neg d]
    have d':lt (at' p (n - 1)) (at' p n)=false:=by simpa using d
    have F2:Fall lt p (n+1) (q+1):=by
     refine⟨by omega,wB O (by omega) F.dsc d',fun i j a b a' b'=>?_⟩
     by_cases ci:i=n
     ·by_cases cj:j=n
      ·rw[ci,cj]; exact O.refl _
      ·rw[ci]
       exact O.tr _ _ _ (F.eq (n - 1) j (by omega) (by omega) (by omega) (by omega)) c'
     ·by_cases cj:j=n
      ·rw[cj]
       exact O.tr _ _ _ d' (F.eq i (n - 1) (by omega) (by omega) (by omega) (by omega))
      ·exact F.eq i j (by omega) (by omega) (by omega) (by omega)
    obtain⟨a1,a2,a3,a4⟩:=zK f _ (n+1) (q+1) F2 (by omega)
    exact⟨a1,by omega,by omega,a4⟩
end
section
variable {lt:Nat->Nat->Bool}(O:Ord lt)
include O
theorem Mu {p:Array Nat}{n:Nat}(h:pV lt p n)(hz:n≤p.size):gU lt (kas_rev p 0 n) n:=fun i j hij hj=>by
 rw[kU hz,kU hz,if_pos ⟨fP _,hj⟩,if_pos ⟨fP _,by omega⟩]
 exact h _ _ (by omega) (by omega)
theorem NN {p:Array Nat}{n m:Nat}(h1:1≤n)(hn:n≤m)(hz:m≤p.size)(h:pV lt p n):(evT lt (kas_tail3 n m p)).2.Perm p/\(evT lt (kas_tail3 n m p)).1≤m/\1≤(evT lt (kas_tail3 n m p)).1/\gU lt (evT lt (kas_tail3 n m p)).2 (evT lt (kas_tail3 n m p)).1:=by
 unfold kas_tail3
 rw[sZ]
 obtain⟨a1,a2,a3,_⟩:=EA O (m - n) n h1 (Mu O h (by omega))
 exact⟨oX _ _ _,by show evT lt (kas_asc (kas_rev p 0 n) (m - n) n)≤m; omega,by show 1≤evT lt (kas_asc (kas_rev p 0 n) (m - n) n); omega,a3⟩
theorem OR {p:Array Nat}{n m:Nat}(h1:1≤n)(hn:n+1≤m)(hz:m≤p.size)(h:pV lt p (n+1)):(evT lt (kas_descPart n m p)).2.Perm p/\(evT lt (kas_descPart n m p)).1≤m/\1≤(evT lt (kas_descPart n m p)).1/\gU lt (evT lt (kas_descPart n m p)).2 (evT lt (kas_descPart n m p)).1:=by
 have F0:Fall lt p (n+1) 0:=⟨by omega,h,fun i j a b c d=>by
  obtain rfl:i=n:=by omega
  obtain rfl:j=i:=by omega
  exact O.refl _⟩
 obtain⟨a1,a2,a3,a4⟩:=zK O (m - (n+1)) p (n+1) 0 F0 (by omega)
 unfold kas_descPart
 rw[sZ]
 generalize evT lt (kas_desc (m - (n+1)) p (n+1) 0)=r at a1 a2 a3 a4
 have hs:=a1.size_eq
 split
 ·have F':=a4.rev O (by omega)
  obtain⟨b1,b2,b3,b4⟩:=NN O (by omega) (by omega) (by rw[EW]; omega) F'.dsc (m:=m)
  exact⟨b1.trans ((oX _ _ _).trans a1),b2,b3,b4⟩
 ·obtain⟨b1,b2,b3,b4⟩:=NN O (by omega) (by omega) (by omega) a4.dsc (m:=m)
  exact⟨b1.trans a1,b2,b3,b4⟩
theorem PB {p:Array Nat}{m:Nat}(h1:1≤m)(hz:m≤p.size):(evT lt (kas_count m p)).2.Perm p/\(evT lt (kas_count m p)).1≤m/\1≤(evT lt (kas_count m p)).1/\gU lt (evT lt (kas_count m p)).2 (evT lt (kas_count m p)).1:=by
 obtain⟨a1,a2,a3,a4⟩:=EA O (m - 1) 1 (bU _) (Nc O p)
 unfold kas_count
 rw[sZ]
 generalize evT lt (kas_asc p (m - 1) 1)=n at a1 a2 a3 a4
 by_cases c:(n == m)=true
 ·rw[if_pos c]
  exact⟨BY _,by show n≤m; omega,a1,a3⟩
 ·rw[if_neg c]
  have hnm:n≠m:=by simpa using c
  have hl:=a4 (by omega)
  by_cases d:n > 1
  ·rw[if_pos d]
   show(evT lt (if lt (at' p 0) (at' p (n - 1))=true then KasT.ret (n,p) else kas_descPart n m (kas_rev p 0 n))).2.Perm p/\(evT lt (if lt (at' p 0) (at' p (n - 1))=true then KasT.ret (n,p) else kas_descPart n m (kas_rev p 0 n))).1≤m/\1≤(evT lt (if lt (at' p 0) (at' p (n - 1))=true then KasT.ret (n,p) else kas_descPart n m (kas_rev p 0 n))).1/\gU lt (evT lt (if lt (at' p 0) (at' p (n - 1))=true then KasT.ret (n,p) else kas_descPart n m (kas_rev p 0 n))).2 (evT lt (if lt (at' p 0) (at' p (n - 1))=true then KasT.ret (n,p) else kas_descPart n m (kas_rev p 0 n))).1
   by_cases e:lt (at' p 0) (at' p (n - 1))=true
   ·rw[if_pos e]
    exact⟨BY _,by show n≤m; omega,a1,a3⟩
   ·rw[if_neg e]
    have e':lt (at' p 0) (at' p (n - 1))=false:=by simpa using e
    have same : ∀ i j,i<n->j<n->lt (at' p i) (at' p j)=false:=fun i j hi hj=>
     O.tr _ (at' p 0) _ (O.tr _ _ _ (a3 j (n - 1) (by omega) (by omega)) e') (a3 0 i (fP _) hi)
    have D:pV lt (kas_rev p 0 n) (n+1):=by
     refine wB O a1 (fun i j hij hj=>?_) ?_
     ·rw[kU (by omega),kU (by omega),if_pos ⟨fP _,by omega⟩,if_pos ⟨fP _,hj⟩]
      exact same _ _ (by omega) (by omega)
     ·rw[kU (by omega),kU (by omega),if_pos ⟨fP _,by omega⟩,if_neg (by omega)]
      exact O.tr _ _ _ (O.asym _ _ hl) (same _ _ (by omega) (by omega))
    obtain⟨b1,b2,b3,b4⟩:=OR O a1 (by omega) (by rw[EW]; exact hz) D (m:=m)
    exact⟨b1.trans (oX _ _ _),b2,b3,b4⟩
  ·rw[if_neg d]
   obtain rfl:n=1:=by omega
   exact OR O (bU _) (by omega) hz (wB O (bU _) (fun i j hij hj=>by
    obtain rfl:j=0:=by omega
    obtain rfl:i=0:=by omega
    exact O.refl _) (O.asym _ _ hl))
theorem NP {n:Nat}(h1:1≤n):(evT lt (kas_sort n)).Perm (jR (dG n))/\gU lt (evT lt (kas_sort n)) n:=by
 have hs:(jR (dG n)).size=n:=by simp
 obtain⟨a1,a2,a3,a4⟩:=PB O h1 (by rw[hs]; exact bU _)
 unfold kas_sort
 rw[sZ]
 generalize evT lt (kas_count n (jR (dG n)))=r at a1 a2 a3 a4
 have hz:=a1.size_eq.trans hs
 split
 ·have em:max r.1 1=r.1:=by omega
  rw[em]
  obtain⟨b1,b2⟩:=MQ O (n - r.1) r.2 r.1 a4 (by omega)
  exact⟨b1.trans a1,by rw[show r.1+(n - r.1)=n by omega] at b2; exact b2⟩
 ·have:r.1=n:=by omega
  exact⟨a1,by rw[this] at a4; exact a4⟩
end
def gR {α:Type}(lt:Nat->Nat->Bool)(N:Nat):KasT α->Prop
 | .ret _=>True
 | .ask i j k=>(i<N/\j<N)/\gR lt N (k (lt i j))
theorem sX {α β:Type}{lt:Nat->Nat->Bool}{N:Nat}{f:α->KasT β} : ∀ {t:KasT α},gR lt N t->gR lt N (f (evT lt t))->gR lt N (t.bind f)
 | .ret _,_,h=>h
 | .ask i j k,h,h2=>⟨h.1,sX h.2 h2⟩
theorem LA {α:Type}{lt:Nat->Nat->Bool}{N:Nat}{cmp:Nat->Nat->(Bool->aH->Prop)->aH->Prop}{s:aH}(hc : ∀ i j (C:Bool->aH->Prop),i<N->j<N->C (lt i j) s->cmp i j C s){Q:α->aH->Prop} : ∀ {t:KasT α},gR lt N t->Q (evT lt t) s->t.kasWp cmp Q s
 | .ret _,_,h=>h
 | .ask i j k,h,q=>hc i j _ h.1.1 h.1.2 (LA hc h.2 q)
abbrev El (N:Nat)(p:Array Nat):Prop:=∀ x∈p,x<N
theorem El.at {N:Nat}{p:Array Nat}(h:El N p)(h0:0<N)(i:Nat):at' p i<N:=by
 rw[at_of]
 cases e:p[i]? with
 | none=>exact h0
 | some v=>exact h v (Array.mem_of_getElem? e)
theorem El.perm {N:Nat}{p q:Array Nat}(h:El N p)(x:q.Perm p):El N q:=fun v m=>h v (x.mem_iff.mp m)
section
variable {lt:Nat->Nat->Bool}{N:Nat}(h0:0<N)
include h0
theorem DB {p:Array Nat}(h:El N p) : ∀ f n,gR lt N (kas_asc p f n)
 | 0,_=>trivial
 | f+1,n=>by
  refine⟨⟨h.at h0 _,h.at h0 _⟩,?_⟩
  show gR lt N (if lt (at' p n) (at' p (n - 1))=true then KasT.ret n else kas_asc p f (n+1))
  by_cases c:lt (at' p n) (at' p (n - 1))=true
  ·rw[if_pos c]; trivial
  ·rw[if_neg c]; exact DB h f (n+1)
theorem FK {p:Array Nat}{k:Nat}(h:El N p) : ∀ f l r,gR lt N (kas_place p k f l r)
 | 0,_,_=>trivial
 | f+1,l,r=>by
  unfold kas_place
  by_cases c:l ≥ r
  ·rw[if_pos c]; trivial
  ·rw[if_neg c]
   refine⟨⟨h.at h0 _,h.at h0 _⟩,?_⟩
   show gR lt N (if lt (at' p k) (at' p ((l+r) / 2))=true then kas_place p k f l ((l+r) / 2) else kas_place p k f ((l+r) / 2+1) r)
   by_cases d:lt (at' p k) (at' p ((l+r) / 2))=true
   ·rw[if_pos d]; exact FK h f _ _
   ·rw[if_neg d]; exact FK h f _ _
theorem TX : ∀ (f:Nat) (p:Array Nat) (k:Nat),El N p->gR lt N (kas_bin f p k)
 | 0,_,_,_=>trivial
 | f+1,p,k,h=>sX (FK h0 h k 0 k) (TX f _ _ (h.perm (bubble_perm _ _ _)))
theorem zG : ∀ (f:Nat) (p:Array Nat) (n q:Nat),El N p->gR lt N (kas_desc f p n q)/\El N (evT lt (kas_desc f p n q)).1
 | 0,_,_,_,h=>⟨trivial,h⟩
 | f+1,p,n,q,h=>by
  have e:evT lt (kas_desc (f+1) p n q)=evT lt (if lt (at' p n) (at' p (n - 1))=true then(if q > 0 then kas_desc f (kas_rev p (n - (q+1)) n) (n+1) 0 else kas_desc f p (n+1) 0) else KasT.ask (p.getD (n - 1) 0) (p.getD n 0) fun d=>if d=true then .ret (p,n,q) else kas_desc f p (n+1) (q+1)):=rfl
  have g:gR lt N (kas_desc (f+1) p n q)↔(at' p n<N/\at' p (n - 1)<N)/\gR lt N (if lt (at' p n) (at' p (n - 1))=true then(if q > 0 then kas_desc f (kas_rev p (n - (q+1)) n) (n+1) 0 else kas_desc f p (n+1) 0) else KasT.ask (p.getD (n - 1) 0) (p.getD n 0) fun d=>if d=true then .ret (p,n,q) else kas_desc f p (n+1) (q+1)):=Iff.rfl
  rw[g,e]
  by_cases c:lt (at' p n) (at' p (n - 1))=true
  ·rw[if_pos c]
   by_cases hq:q > 0
   ·rw[if_pos hq]
    obtain⟨a,b⟩:=zG f _ (n+1) 0 (h.perm (oX p (n - (q+1)) n))
    exact⟨⟨⟨h.at h0 _,h.at h0 _⟩,a⟩,b⟩
   ·rw[if_neg hq]
    obtain⟨a,b⟩:=zG f _ (n+1) 0 h
    exact⟨⟨⟨h.at h0 _,h.at h0 _⟩,a⟩,b⟩
  ·rw[if_neg c]
   have e2:evT lt (KasT.ask (p.getD (n - 1) 0) (p.getD n 0) fun d=>if d=true then .ret (p,n,q) else kas_desc f p (n+1) (q+1))=evT lt (if lt (at' p (n - 1)) (at' p n)=true then .ret (p,n,q) else kas_desc f p (n+1) (q+1)):=rfl
   have g2:gR lt N (KasT.ask (p.getD (n - 1) 0) (p.getD n 0) fun d=>if d=true then .ret (p,n,q) else kas_desc f p (n+1) (q+1))↔(at' p (n - 1)<N/\at' p n<N)/\gR lt N (if lt (at' p (n - 1)) (at' p n)=true then .ret (p,n,q) else kas_desc f p (n+1) (q+1)):=Iff.rfl
   rw[g2,e2]
   by_cases d:lt (at' p (n - 1)) (at' p n)=true
   ·rw[if_pos d]
    exact⟨⟨⟨h.at h0 _,h.at h0 _⟩,⟨h.at h0 _,h.at h0 _⟩,trivial⟩,h⟩
   ·rw[if_neg d]
    obtain⟨a,b⟩:=zG f _ (n+1) (q+1) h
    exact⟨⟨⟨h.at h0 _,h.at h0 _⟩,⟨h.at h0 _,h.at h0 _⟩,a⟩,b⟩
theorem MO {p:Array Nat}(n m:Nat)(h:El N p):gR lt N (kas_tail3 n m p):=sX (DB h0 (h.perm (oX _ _ _)) _ _) trivial
theorem LU {p:Array Nat}(n m:Nat)(h:El N p):gR lt N (kas_descPart n m p):=by
 obtain⟨a,b⟩:=zG h0 (m - (n+1)) p (n+1) 0 h
 refine sX a ?_
 split
 ·exact MO h0 _ _ (b.perm (oX _ _ _))
 ·exact MO h0 _ _ b
theorem Po {p:Array Nat}(m:Nat)(h:El N p):gR lt N (kas_count m p):=by
 refine sX (DB h0 h _ _) ?_
 generalize evT lt (kas_asc p (m - 1) 1)=n
 by_cases c:(n == m)=true
 ·rw[if_pos c]; trivial
 ·rw[if_neg c]
  by_cases d:n > 1
  ·rw[if_pos d]
   refine⟨⟨h.at h0 _,h.at h0 _⟩,?_⟩
   show gR lt N (if lt (at' p 0) (at' p (n - 1))=true then KasT.ret (n,p) else kas_descPart n m (kas_rev p 0 n))
   by_cases e:lt (at' p 0) (at' p (n - 1))=true
   ·rw[if_pos e]; trivial
   ·rw[if_neg e]; exact LU h0 _ _ (h.perm (oX _ _ _))
  ·rw[if_neg d]; exact LU h0 _ _ h
end
theorem Lz {lt:Nat->Nat->Bool}(O:Ord lt){n:Nat}(h1:1≤n):gR lt n (kas_sort n):=by
 have hs:(jR (dG n)).size=n:=by simp
 have h:El n (jR (dG n)):=fun x m=>by simpa using m
 refine sX (Po (by omega) n h) ?_
 obtain⟨a1,_⟩:=PB O h1 (by rw[hs]; exact bU _)
 generalize evT lt (kas_count n (jR (dG n)))=r at a1
 split
 ·exact TX (by omega) _ _ _ (h.perm a1)
 ·trivial
theorem Mf {lt:Nat->Nat->Bool}(O:Ord lt){n:Nat}(h1:1≤n){cmp:Nat->Nat->(Bool->aH->Prop)->aH->Prop}{s:aH}(hc : ∀ i j (C:Bool->aH->Prop),i<n->j<n->C (lt i j) s->cmp i j C s){G:Array Nat->aH->Prop}
  (h : ∀ p:Array Nat,p.Perm (jR (dG n))->gU lt p n->G p s):(kas_sort n).kasWp cmp G s:=
 LA hc (Lz O h1) (h _ (NP O h1).1 (NP O h1).2)
section
variable {prog:bE}{w:bA}{A:bY}{E:aE->aH->Prop}{s:aH}
abbrev WR (a:aD)(h h':aU):Prop:=∀ b o,b≠a->h.get? b=some o->h'.get? b=some o
noncomputable abbrev jL (h:aU)(a:aD)(vs:List aE):aU:=((h.update a (lG fun _=>#[])).push (lE "tuple" vs.toArray 0)).push (lE "list" #[] 0)
theorem Lg {h:aU}{a:aD}{vs:List aE}:WR a h (jL h a vs):=fun b o hb e=>
 cX _ (cX _ (((WI h a (lG fun _=>(#[]:Array aE))).2 b hb).trans e))
theorem Nh {a:aD}{vs:List aE}{n:Nat}{κ:SortKind}{lt:Nat->Nat->Bool}{P:PySem.Fin->aH->Prop}(O:Ord lt)(ho:s.heap.get? a=some (lE "list" vs.toArray n))(h2:2≤vs.length)(h64:vs.length<64)
  (hk : ∀ (Q:SortKind->aH->Prop),Q κ { s with heap:=jL s.heap a vs }->aP (aQ prog w) A (keyKind' vs.toArray) Q E { s with heap:=jL s.heap a vs })
  (hc : ∀ i j (C:Bool->aH->Prop),i<vs.length->j<vs.length->C (lt i j) { s with heap:=jL s.heap a vs }->aP (aQ prog w) A (keyLt' κ (vs.getD i gL) (vs.getD j gL)) C (fun _ _=>False) { s with heap:=jL s.heap a vs })
  (h : ∀ p:Array Nat,p.Perm (jR (dG vs.length))->gU lt p vs.length->P (.done (.ret .none)) { s with heap:=sortedHeap s.heap a vs (jR (p.toList.map fun i=>vs.getD i gL)) }) :
  aP (aQ prog w) A (Builtin.«list.sort» ⟨[.ref a],[]⟩) P E s:=by
 have lz:vs.length≤sizeLine:=by rw[uG]; omega
 have ha:a<s.heap.objs.size:=cE ho
 obtain⟨e1,ho1⟩ : ∃ e,(s.heap.update a (lG fun _=>(#[]:Array aE))).get? a=some (lE "list" #[] e):=⟨_,get?_update_seq ho fun _=>#[]⟩
 have hoM:(jL s.heap a vs).get? a=some (lE "list" #[] e1):=cX _ (cX _ ho1)
 rw[list_sort_plain]
 refine aM (listItems_at ho rfl (aM (listUpdate_at ho rfl (aM (seqEpoch_at ho1 rfl (aM (wpAny_newTuple (aM (IF (iX ?_) (fP _))) (by simpa using lz))))) (by rw[dY]; exact lz) (fP _))))
 show aP (aQ prog w) A _ P E { s with heap:=jL s.heap a vs }
 dsimp only
 have big : ¬ vs.toArray.size<2:=by rw[dY]; omega
 rw[if_neg big,if_neg big]
 refine aM (hk _ ?_)
 have eS:SortSt.mk' κ (vs.toArray.zip vs.toArray) #[] 7 none=kas_st κ (pairsOf vs) (jR (dG vs.length)):=by
  have e:=kas_range (pairsOf vs)
  rw[pairsOf_size] at e
  unfold kas_st
  rw[e]
  rfl
 have run:=kas_runs (prog:=prog) (w:=w) (A:=A) (κ:=κ) (it:=pairsOf vs) (E:=E) (s:={ s with heap:=jL s.heap a vs }) (Q:=fun _ st' s'=>s' = { s with heap:=jL s.heap a vs } /\ ∃ p:Array Nat,p.Perm (jR (dG vs.length))/\gU lt p vs.length/\arrOf st'=p.map (kas_item (pairsOf vs))/\failedOf st'=none)
  (G:=fun p s'=>s' = { s with heap:=jL s.heap a vs }/\p.Perm (jR (dG vs.length))/\gU lt p vs.length) h2 h64 (fun p' st' s' a1 a2 a3 ⟨b1,b2,b3⟩=>⟨b1,p',b2,b3,a2,a3⟩)
  (Mf O (by omega) (fun i j C hi hj q=>by
   unfold kas_cmp
   rw[kas_item_eq,kas_item_eq]
   exact hc i j C hi hj q) fun p b1 b2=>⟨rfl,b1,b2⟩)
 rw[← eS] at run
 refine aM (iW run ?_ fun _ _ e=>e)
 rintro⟨⟨⟩,st'⟩ s' ⟨rfl,p,b1,b2,har,hf⟩
 dsimp only
 have hout:(arrOf st').map (·.2)=jR (p.toList.map fun i=>vs.getD i gL):=by
  apply JM.mp
  rw[har,Array.map_map,Array.toList_map]
  exact pT fun i _=>congrArg Prod.snd (kas_item_eq vs i)
 have hps:p.size=vs.length:=by
  have:=b1.size_eq
  simpa using this
 have hsz:(jR (p.toList.map fun i=>vs.getD i gL)).size≤sizeLine:=by
  rw[dY,cJ,oO,hps]; exact lz
 rw[hout]
 refine aM (seqEpoch_at hoM rfl (aM (listUpdate_at hoM rfl ?_ (fP _) (Nat.le_succ_of_le hsz))))
 rw[hf]
 simp only[bne_self_eq_false,rP,if_false]
 exact aY (h p b1 b2)
end
noncomputable def gO:aA->List Int
 | .int i=>[0,i]
 | .str x=>1::x.cps.toList.map nA
 | _=>[2]
noncomputable def cU (ks:List aA):List (List Int):=ks.map gO
theorem QV (a b:List (List Int))(h:a<b) : ¬ b<a:=List.lt_asymm h
theorem PP (a b c:List (List Int))(h1 : ¬ b<a)(h2 : ¬ c<b) : ¬ c<a:=by
 have h1:=h1
 have h2:=h2
 exact WA h1 h2
theorem FA {d e:aA}(h1:(∃ i,d = .int i) \/ ∃ x,d = .str x)(h2:(∃ i,e = .int i) \/ ∃ x,e = .str x)(h:gO d=gO e):d=e:=by
 rcases h1 with⟨i,rfl⟩ | ⟨x,rfl⟩ <;> rcases h2 with⟨j,rfl⟩ | ⟨y,rfl⟩
 ·simp[gO] at h; rw[h]
 ·simp[gO] at h
 ·simp[gO] at h
 ·have h':x.cps.toList.map nA=y.cps.toList.map nA:=by simpa [gO] using h
  have:=(List.map_inj_right (fun a b q=>Int.ofNat.inj q)).mp h'
  have:x=y:=by
   cases x; cases y
   simp only at this
   rw[JM.mp this]
  rw[this]
noncomputable def XR (kss:List (List aA))(i j:Nat):Bool:=decide (cU (kss.getD i [])<cU (kss.getD j []))
theorem ZZ (kss:List (List aA)):Ord (XR kss):=by
 refine⟨fun a b h=>?_,fun a b c h1 h2=>?_⟩
 ·have:=QV _ _ (of_decide_eq_true h)
  exact decide_eq_false this
 ·exact decide_eq_false (PP _ _ _ (of_decide_eq_false h1) (of_decide_eq_false h2))
mutual
theorem Ahk.rep {K:aJ}{H:Hp} : ∀ (d:aA) {v:V},bF d=true->Ahk H d v->Abb K H d v
 | .int i,v,_,h=>Aat.mpr (by simpa [Ahk] using h)
 | .str i,v,k,h=>Aas.mpr ⟨by simpa [Ahk] using h,by simpa [bF] using k⟩
 | .tuple ds,v,k,h=>by
  simp only[Ahk] at h
  obtain⟨a,xs,e,s,r⟩:=h
  exact Aay.mpr ⟨a,xs,e,s,Aer.reps ds (by simpa [bF] using k) r⟩
 | .none,v,k,_=>by simp[bF] at k
 | .bool _,v,k,_=>by simp[bF] at k
 | .list _,v,k,_=>by simp[bF] at k
 | .dict _,v,k,_=>by simp[bF] at k
theorem Aer.reps {K:aJ}{H:Hp} : ∀ (ds:List aA) {vs:List V},bX ds=true->Aer H ds vs->Aau K H ds vs
 | [],vs,_,h=>Aao.mpr (by simpa [Aer] using h)
 | d::ds,vs,k,h=>by
  have k':bF d=true/\bX ds=true:=by simpa [bX] using k
  simp only[Aer] at h
  obtain⟨x,r,e,h1,h2⟩:=h
  exact Aag.mpr ⟨x,r,e,Ahk.rep d k'.1 h1,Aer.reps ds k'.2 h2⟩
end
theorem Alw.rep {K:aJ}{H:Hp}{ks:List aA}{a:aD}(h:Alw H ks a):Abb K H (.tuple ks) (.ref a):=by
 obtain⟨k,_,xs,e,r⟩:=h
 exact Aay.mpr ⟨a,xs,rfl,e,Aer.reps ks k r⟩
theorem Abb.tupK {K:aJ}{H:Hp}{ks:List aA}{v:V}(r:Abb K H (.tuple ks) v)(h1:bX ks=true)(h2:dI ks≤6) : ∃ a,v = .ref a/\Alw H ks a:=by
 obtain⟨a,xs,e,s,r⟩:=Aay.mp r
 exact⟨a,e,h1,h2,xs,s,Aau.keys ks h1 r⟩
noncomputable def kQ:List aA->Option (List (List aA))
 | []=>some []
 | .tuple ks::r=>if bX ks=true/\dI ks≤6 then(kQ r).bind fun kss=>some (ks::kss) else none
 | _::_=>none
theorem OJ : ∀ {ds:List aA} {kss:List (List aA)},kQ ds=some kss->ds=kss.map gG /\ ∀ ks∈kss,bX ks=true/\dI ks≤6
 | [],kss,h=>by cases h; exact⟨rfl,fun _ m=>by simp at m⟩
 | .tuple ks::r,kss,h=>by
  by_cases c:bX ks=true/\dI ks≤6
  ·have h':((kQ r).bind fun kss=>some (ks::kss))=some kss:=by
    have:(if bX ks=true/\dI ks≤6 then(kQ r).bind fun kss=>some (ks::kss) else none)=some kss:=h
    rw[if_pos c] at this
    exact this
   obtain⟨k2,e1,e2⟩:=XBs h'
   cases e2
   obtain⟨q1,q2⟩:=OJ e1
   refine⟨by rw[q1]; rfl,fun x m=>?_⟩
   rcases cQ.mp m with rfl | m
   ·exact c
   ·exact q2 x m
  ·have:(if bX ks=true/\dI ks≤6 then(kQ r).bind fun kss=>some (ks::kss) else none)=some kss:=h
   rw[if_neg c] at this
   cases this
 | .none::_,_,h=>by cases h
 | .bool _::_,_,h=>by cases h
 | .int _::_,_,h=>by cases h
 | .str _::_,_,h=>by cases h
 | .list _::_,_,h=>by cases h
 | .dict _::_,_,h=>by cases h
open PySem PySem.Spec PySem.W PyProof.Rows
noncomputable def hE:List aA->List aA->Bool
 | [],[]=>true
 | .int _::r,.int _::r'=>hE r r'
 | .str _::r,.str _::r'=>hE r r'
 | _,_=>false
theorem ME (i j:Int)(r r':List aA):(cU (.int i::r)<cU (.int j::r'))↔i<j \/ i=j/\cU r<cU r':=by
 show(gO (.int i)::cU r<gO (.int j)::cU r')↔_
 rw[yC]
 simp[gO,yC]
theorem map_lt (xs ys:List Nat):(xs.map nA<ys.map nA)↔xs<ys:=by
 induction xs generalizing ys with
 | nil=>cases ys <;> simp
 | cons x r ih=>
  cases ys with
  | nil=>simp
  | cons y r'=>
   rw[cR,cR,yC,yC,ih]
   have h1:(nA x<nA y)↔x<y:=Int.ofNat_lt
   have h2:(nA x=nA y)↔x=y:=⟨fun e=>Int.ofNat.inj e,fun e=>by rw[e]⟩
   rw[h1,h2]
theorem NG (x y:aB)(r r':List aA):(cU (.str x::r)<cU (.str y::r'))↔x.cps.toList<y.cps.toList \/ x=y/\cU r<cU r':=by
 show(gO (.str x)::cU r<gO (.str y)::cU r')↔_
 rw[yC]
 have h1:(gO (.str x)<gO (.str y))↔x.cps.toList<y.cps.toList:=by
  show((1:Int)::x.cps.toList.map nA<(1:Int)::y.cps.toList.map nA)↔_
  rw[yC,map_lt]
  simp
 have h2:(gO (.str x)=gO (.str y))↔x=y:=⟨fun e=>by
  have:=FA (.inr ⟨x,rfl⟩) (.inr ⟨y,rfl⟩) e
  injection this,fun e=>by rw[e]⟩
 rw[h1,h2]
section
variable {prog:bE}{w:bA}{A:bY}{s:aH}{Q:Bool->aH->Prop}
theorem DJ {b:Bool} : ∀ (ks ks':List aA) {vs vs':List aE} {as as':List aD} (i:Nat),hE ks ks'=true->oE s.heap vs ks as->oE s.heap vs' ks' as'->Q (decide (cU ks<cU ks')) s->KatLex prog w A b false Q (vs.zip vs') i s
 | [],[],vs,vs',as,as',i,_,r,r',h=>by
  cases r; cases r'
  exact kat_nil h
 | .int x::ks,.int y::ks',vs,vs',as,as',i,hs,r,r',h=>by
  cases r with
  | cons r1 r2=>
   cases r' with
   | cons r1' r2'=>
    cases r1 with
    | int _ t=>
     cases r1' with
     | int _ u=>
      rw[VV]
      refine kat_cons ((eJ prog w).eqBool (GV _ _ x t) (GV _ _ y u) ?_)
      refine kat_go (fun e=>kat_yes ?_) fun e=>kat_no ?_
      ·have e':x=y:=by simpa using e
       subst e'
       refine DJ ks ks' (i+1) (by simpa [hE] using hs) r2 r2' ?_
       have:decide (cU (.int x::ks)<cU (.int x::ks'))=decide (cU ks<cU ks'):=decide_eq_decide.mpr (by rw[ME]; simp)
       rw[← this]; exact h
      ·have e':x≠y:=by simpa using e
       have:decide (cU (.int x::ks)<cU (.int y::ks'))=decide (x<y):=decide_eq_decide.mpr (by rw[ME]; simp[e'])
       rw[this] at h
       cases(b&&i == 0) with
       | true=>exact oneLt_int h
       | false=>exact kat_one _ _ (lt_int h)
 | .str x::ks,.str y::ks',vs,vs',as,as',i,hs,r,r',h=>by
  cases r with
  | cons r1 r2=>
   cases r' with
   | cons r1' r2'=>
    cases r1 with
    | str _ t=>
     cases r1' with
     | str _ u=>
      rw[VV]
      refine kat_cons ((eJ prog w).eqBool (GZ _ _ x t) (GZ _ _ y u) ?_)
      refine kat_go (fun e=>kat_yes ?_) fun e=>kat_no ?_
      ·have e':x=y:=by simpa using e
       subst e'
       refine DJ ks ks' (i+1) (by simpa [hE] using hs) r2 r2' ?_
       have:decide (cU (.str x::ks)<cU (.str x::ks'))=decide (cU ks<cU ks'):=decide_eq_decide.mpr (by rw[NG]; simp[List.lt_irrefl])
       rw[← this]; exact h
      ·have e':x≠y:=by simpa using e
       have:decide (cU (.str x::ks)<cU (.str y::ks'))=decide (x.cps.toList<y.cps.toList):=decide_eq_decide.mpr (by rw[NG]; simp[e'])
       rw[this] at h
       cases(b&&i == 0) with
       | true=>exact oneLt_str h
       | false=>exact kat_one _ _ (lt_str h)
end
noncomputable def mJ:List aA->Option String
 | .int _::_=>some "int"
 | .str _::_=>some "str"
 | _=>none
theorem Qt {M:Model}{h:aU}{k:List aA}{b:aD}{T:String}(hd:Aj9 h k b)(hk:mJ k=some T) :
  ∃ o xs n f,h.get? b=some o/\o.cls = .type "tuple" /\ o.data = .seq xs n/\xs[0]?=some f/\Looks M h (typeOf f) (.type T):=by
 obtain⟨_,_,as,r⟩:=hd
 obtain⟨a,o,xs,n,e,ho,hc,hd,hi⟩:=tQ r
 cases e
 match k,hk,hi with
 | .int i::r,hk,hi=>
  cases hk
  generalize hx:xs.toList=l at hi
  cases hi with
  | cons h1 _=>
   cases h1 with
   | int _ t=>exact⟨o,xs,n,.int i t,ho,hc,hd,by rw[← Array.getElem?_toList,hx]; rfl,Looks.of_pure rfl⟩
 | .str x::r,hk,hi=>
  cases hk
  generalize hx:xs.toList=l at hi
  cases hi with
  | cons h1 _=>
   cases h1 with
   | str _ t=>exact⟨o,xs,n,.str x t,ho,hc,hd,by rw[← Array.getElem?_toList,hx]; rfl,Looks.of_pure rfl⟩
abbrev Ag5 (h:aU)(vs:List aE)(kss:List (List aA)):Prop:=eO (fun v k=>∃ b,v=dS b/\Aj9 h k b) vs kss
theorem QF {M:Model}{h:aU}{T:String} : ∀ {vs:List aE} {kss:List (List aA)},Ag5 h vs kss->(∀ k∈kss,mJ k=some T) -> ∃ fs,KatTups h vs fs/\fs.length=vs.length /\ ∀ f∈fs,Looks M h (typeOf f) (.type T)
 | _,_,.nil,_=>⟨[],KatTups.nil,rfl,fun _ m=>by simp at m⟩
 | _,_,.cons ⟨b,e,hd⟩ t,hk=>by
  obtain⟨fs,h1,h2,h3⟩:=QF (M:=M) t fun k m=>hk k (cD _ m)
  obtain⟨o,xs,n,f,q1,q2,q3,q4,q5⟩:=Qt (M:=M) hd (hk _ cC)
  subst e
  refine⟨f::fs,KatTups.cons q1 q2 q3 q4 h1,by rw[fG,fG,h2],fun g m=>?_⟩
  rcases cQ.mp m with rfl | m
  ·exact q5
  ·exact h3 g m
theorem Ag5.get {h:aU} : ∀ {vs:List aE} {kss:List (List aA)},Ag5 h vs kss -> ∀ i,i<vs.length -> ∃ b,vs.getD i gL = .ref b/\Aj9 h (kss.getD i []) b/\kss.getD i []∈kss
 | _,_,.nil,i,hi=>absurd hi (by simp)
 | _,_,.cons ⟨b,e,hd⟩ t,0,_=>⟨b,e,hd,cC⟩
 | _,_,.cons _ t,i+1,hi=>by
  obtain⟨b,q1,q2,q3⟩:=Ag5.get t i (by simpa using hi)
  exact⟨b,by simpa using q1,by simpa using q2,by simpa using cD _ q3⟩
theorem Ag5.keep {h h':aU}(k : ∀ b o,h.get? b=some o->h'.get? b=some o) : ∀ {vs:List aE} {kss:List (List aA)},Ag5 h vs kss->Ag5 h' vs kss
 | _,_,.nil=>.nil
 | _,_,.cons ⟨b,e,hd⟩ t=>.cons ⟨b,e,hd.keep fun b o _ _ q _ _=>k b o q⟩ (Ag5.keep k t)
theorem FU : ∀ {k k':List aA},hE k k'=true->k.length=k'.length
 | [],[],_=>rfl
 | .int _::r,.int _::r',h=>by rw[fG,fG,FU (by simpa [hE] using h)]
 | .str _::r,.str _::r',h=>by rw[fG,fG,FU (by simpa [hE] using h)]
theorem FT {h:aU} : ∀ {vs:List aE} {ks:List aA} {as:List aD},oE h vs ks as->vs.length=ks.length
 | _,_,_,.nil=>rfl
 | _,_,_,.cons _ t=>by rw[fG,fG,FT t]
section
variable {prog:bE}{w:bA}{A:bY}{E:aE->aH->Prop}{s:aH}
theorem Oo {a:aD}{vs:List aE}{n:Nat}{P:PySem.Fin->aH->Prop}(ho:s.heap.get? a=some (lE "list" vs.toArray n))(h2:vs.length<2)(h:P (.done (.ret .none)) { s with heap:=sortedHeap s.heap a vs vs.toArray }) :
  aP (aQ prog w) A (Builtin.«list.sort» ⟨[.ref a],[]⟩) P E s:=by
 have lz:vs.length≤sizeLine:=by rw[uG]; omega
 obtain⟨e1,ho1⟩ : ∃ e,(s.heap.update a (lG fun _=>(#[]:Array aE))).get? a=some (lE "list" #[] e):=⟨_,get?_update_seq ho fun _=>#[]⟩
 have hoM:(jL s.heap a vs).get? a=some (lE "list" #[] e1):=cX _ (cX _ ho1)
 rw[list_sort_plain]
 refine aM (listItems_at ho rfl (aM (listUpdate_at ho rfl (aM (seqEpoch_at ho1 rfl (aM (wpAny_newTuple (aM (IF (iX ?_) (fP _))) (by simpa using lz))))) (by rw[dY]; exact lz) (fP _))))
 show aP (aQ prog w) A _ P E { s with heap:=jL s.heap a vs }
 dsimp only
 have few:vs.toArray.size<2:=by rw[dY]; exact h2
 rw[if_pos few,if_pos few]
 refine aM (aY ?_)
 rw[StateT.run_pure]
 refine aM (aY ?_)
 dsimp only
 have hout:(arrOf (SortSt.mk' general' (vs.toArray.zip vs.toArray) #[] 7 none)).map (·.2)=vs.toArray:=by
  show(vs.toArray.zip vs.toArray).map (·.2)=vs.toArray
  apply JM.mp
  have : ∀ l:List aE,List.map (fun x=>x.snd) (l.zip l)=l:=fun l=>by
   induction l with
   | nil=>rfl
   | cons a l ih=>rw[VV,cR,ih]
  simpa using this vs
 rw[hout]
 refine aM (seqEpoch_at hoM rfl (aM (listUpdate_at hoM rfl ?_ (fP _) (Nat.le_succ_of_le (by rw[dY]; exact lz)))))
 simp only[bne_self_eq_false,rP,if_false]
 exact aY h
end
theorem EM : ∀ {a b:List aA},hE a b=true->cU a=cU b->a=b
 | [],[],_,_=>rfl
 | .int i::r,.int j::r',h,e=>by
  have h':hE r r'=true:=by simpa [hE] using h
  have e':gO (.int i)=gO (.int j)/\cU r=cU r':=by simpa [cU] using e
  rw[FA (.inl ⟨i,rfl⟩) (.inl ⟨j,rfl⟩) e'.1,EM h' e'.2]
 | .str x::r,.str y::r',h,e=>by
  have h':hE r r'=true:=by simpa [hE] using h
  have e':gO (.str x)=gO (.str y)/\cU r=cU r':=by simpa [cU] using e
  rw[FA (.inr ⟨x,rfl⟩) (.inr ⟨y,rfl⟩) e'.1,EM h' e'.2]
noncomputable def leT (a b:List aA):Bool:=!decide (cU b<cU a)
theorem Aiw {a b:List aA}:leT a b=true ↔ ¬ cU b<cU a:=by simp[leT]
theorem Ec (a b c:List aA)(h1:leT a b=true)(h2:leT b c=true):leT a c=true:=Aiw.mpr (PP _ _ _ (Aiw.mp h1) (Aiw.mp h2))
theorem Dm (a b:List aA):(leT a b||leT b a)=true:=by
 by_cases h:cU b<cU a
 ·have:=QV _ _ h
  simp[leT,h,this]
 ·simp[leT,h]
theorem Pk {a b:List aA}(hs:hE a b=true)(h1:leT a b=true)(h2:leT b a=true):a=b:=by
 have h1:=Aiw.mp h1
 have h2:=Aiw.mp h2
 exact EM hs (List.le_antisymm h1 h2)
noncomputable def jX (kss:List (List aA)):List (List aA):=kss.mergeSort leT
noncomputable def sameAll (kss:List (List aA)):Bool:=kss.all fun k=>kss.all fun k'=>hE k k'
noncomputable def okT (kss:List (List aA)):Bool:=decide (kss.length<2)||(sameAll kss&&kss.all fun k=>(mJ k).isSome)
theorem zX (kss:List (List aA)):(jX kss).Perm kss:=List.mergeSort_perm kss leT
theorem Hg (kss:List (List aA)):(jX kss).Pairwise fun a b=>leT a b=true:=Qy Ec Dm kss
theorem PV {kss qs:List (List aA)}(hs:okT kss=true)(hp:qs.Perm kss)(hr:qs.Pairwise fun a b=>leT a b=true):qs=jX kss:=by
 have hp':=hp.trans (zX kss).symm
 by_cases h2:kss.length<2
 ·have l1:qs.length<2:=by rw[hp.length_eq]; exact h2
  match qs,l1,hp' with
  | [],_,hp'=>exact(List.nil_perm.mp hp').symm
  | [q],_,hp'=>exact List.singleton_perm.mp hp'
 ·have hs':sameAll kss=true:=by
   have:(sameAll kss&&kss.all fun k=>(mJ k).isSome)=true:=by simpa [okT,h2] using hs
   exact(iQ.mp this).1
  refine Rb (fun a b ma mb h1 h2=>Pk ?_ h1 h2) hr (Hg kss) hp'
  have ma':=hp.mem_iff.mp ma
  have mb':=(zX kss).mem_iff.mp mb
  exact fQ.mp (fQ.mp hs' a ma') b mb'
theorem same_kind : ∀ {k k':List aA},hE k k'=true->mJ k=mJ k'
 | [],[],_=>rfl
 | .int _::_,.int _::_,_=>rfl
 | .str _::_,.str _::_,_=>rfl
theorem Lj {k:List aA}{T:String}(h:mJ k=some T):T = "int" \/ T = "str":=by
 unfold mJ at h
 split at h
 ·cases h; exact .inl rfl
 ·cases h; exact .inr rfl
 ·cases h
section
variable {X:Cx}
abbrev KR (H:Hp)(ys:List V)(kss:List (List aA)):Prop:=eO (fun y k=>∃ b,y=V.ref b/\Alw H k b) ys kss
theorem LS {P:bE}{w:bA}{H:Hp}{h:aU}(ok:HOk P w H h) : ∀ {ys:List V} {kss:List (List aA)} {vs:List aE},KR H ys kss->Vals ys vs->Ag5 h vs kss
 | _,_,_,.nil,.nil=>.nil
 | _,_,_,.cons ⟨b,e,tk⟩ t,.cons r rr=>by
  subst e
  cases r
  exact .cons ⟨b,rfl,sV ok tk⟩ (LS ok t rr)
noncomputable def Bo:List aA->Option aA
 | [.list ds]=>(kQ ds).bind fun kss=>if okT kss=true/\kss.length<64 then some (.list ((jX kss).map gG)) else none
 | _=>none
theorem KL : ∀ {ns:List Int} {vs:List aE},Vals (ns.map V.int) vs->IntsAre vs ns
 | [],_,.nil=>.nil
 | n::ns,_,.cons ⟨t,e⟩ r=>by
  subst e
  exact .cons n t (KL r)
noncomputable def mF:List aA->Option (List Int)
 | []=>some []
 | .int i::r=>(mF r).bind fun is=>some (i::is)
 | _::_=>none
theorem LQ : ∀ {ds:List aA} {is:List Int},mF ds=some is->ds=is.map aZ
 | [],is,e=>by cases e; rfl
 | .int i::ds,is,e=>by
  obtain⟨is',e1,e2⟩:=XBs (show((mF ds).bind fun is=>some (i::is))=some is from e)
  cases e2
  rw[LQ e1]
  rfl
 | .none::_,_,e=>by cases e
 | .bool _::_,_,e=>by cases e
 | .str _::_,_,e=>by cases e
 | .list _::_,_,e=>by cases e
 | .tuple _::_,_,e=>by cases e
 | .dict _::_,_,e=>by cases e
theorem SN {K:aJ}{H:Hp} : ∀ {is:List Int} {ys:List V},Aau K H (is.map aZ) ys->ys=is.map V.int
 | [],ys,r=>Aao.mp r
 | i::is,ys,r=>by
  obtain⟨v,t,rfl,r1,r2⟩:=Aag.mp r
  rw[Aat.mp r1,SN r2]
  rfl
end
noncomputable def sNo:SF:=fun _=>none
theorem KS {X:Cx}{H0:Hp}{P0:aD->Prop}{n0:Nat}{s:bH}:DS X H0 P0 n0 s sNo:=fun pins st σ H D I q=>by
 obtain⟨B0,ρ,fp,o,S,ef,k⟩:=q
 cases ef
noncomputable def CXR (base:aU)(P:bE)(w:bA):CXT:=fun outer H s E e s'=>∃ (ea:aD) (cls a0:aE) (H':Hp) (B:aU),e = .ref ea/\s'.os=s.os/\oP s'.gens/\Un (frs outer) [] H H' s.heap s'.heap/\HOk P w H' s'.heap /\
 base.StaysIn B/\(∀ b u,s.heap.get? b=some u->b∉frs outer -> ∃ u',B.get? b=some u')/\(∀ b o,H' b=some o -> ∃ u,B.get? b=some u)/\Heap.FlyingW B outer ea cls a0 s'.heap/\E cls none H'
noncomputable def EC (K:aJ)(c:aB)(H:Hp):XK:=fun cls _ H'=>dM K c=some cls/\Ext H H'
theorem CXR.imp {base:aU}{P:bE}{w:bA}{outer:List dZ}{H:Hp}{s s':aH}{E E':XK}{e:aE}(h:CXR base P w outer H s E e s')(k : ∀ cls H',E cls none H'->E' cls none H'):CXR base P w outer H s E' e s':=by
 obtain⟨ea,cls,a0,H',B,h1,h2,h3,h4,h5,h6,h7,h8,h9,q⟩:=h
 exact⟨ea,cls,a0,H',B,h1,h2,h3,h4,h5,h6,h7,h8,h9,k _ _ q⟩
structure XOk (X:Cx)(H:Hp)(c:aB):Prop where
 pass:Passes (CXR X.base X.prog X.w) X (EC X.K c H)
 made : ∀ {cls:aE} {pins:List (aD×aX)} {σ:St} {H1:Hp} {s1:aH} {h':aU} {e:aD} {args:List aE},dM X.K c=some cls->Inv X pins σ H1 s1->Ext H H1->Heap.MadeExcOf s1.heap h' e cls args->X.xe (.ref e) { s1 with heap:=h' }
theorem Acy.here {P:bE}{w:bA}{H:Hp}{h:aU}{a:aD}{o:HO}(x:Acy P w H h a o) : ∃ u,h.get? a=some u:=by
 cases o with
 | lst xs=>obtain⟨_,_,_,_,e⟩:=x; exact⟨_,e⟩
 | tup xs=>obtain⟨_,_,_,_,ob,e,_⟩:=x; exact⟨ob,e⟩
 | dK ep kvs=>obtain⟨_,_,_,_,o,_,e,_⟩:=x; exact⟨_,e⟩
 | dT ep kvs=>obtain⟨_,_,_,_,o,_,e,_⟩:=x; exact⟨_,e⟩
 | set S n=>obtain⟨o,_,_,_,e,_⟩:=x; exact⟨_,e⟩
 | ins C dx fs=>obtain⟨_,_,_,e,_⟩:=x; exact⟨_,e⟩
 | own y=>exact x
 | xd fs=>obtain⟨_,⟨_,_,_,e,_⟩,_⟩:=x; exact⟨_,e⟩
 | rng lo hi=>obtain⟨_,_,_,e⟩:=x; exact⟨_,e⟩
 | frz ob u=>obtain⟨e,_⟩:=x; exact⟨_,e⟩
 | tbl ps=>exact⟨_,show h.get? a=some _ from x⟩
 | met f y=>exact⟨_,show h.get? a=some _ from x⟩
 | ext φ=>obtain⟨_,e,_⟩:=x; exact e
theorem zM {B h:aU}{b:aD}{u u':aX}(k:B.StaysIn h)(e:B.get? b=some u')(q:h.get? b=some u):u'=u:=eU ((k b u' e).symm.trans q)
section
variable {P:bE}{w:bA}{K:aJ}{mg:aB->Option aE}{base:aU}{N:List aB}{qual:aB}{scope:gZ}{f:aD}{cd:aE}{A:bY}{outer:List dZ}{s:aH}{H:Hp}{E:XK}
theorem UO {pins:List (aD×aX)}{σ:St}{H':Hp}{s':aH}{h'' B:aU}{ea:aD}{cls a0:aE}
  (I:Inv (iS (CXR base P w) P w K mg base N qual scope f cd A outer s H E) pins σ H' s') (hin : ∀ b u,s.heap.get? b=some u->b∉frs outer -> ∃ u',B.get? b=some u') (hT : ∀ b o,H' b=some o -> ∃ u,B.get? b=some u)
  (f1:B.StaysIn s'.heap) (f2:Heap.FlyingW B outer ea cls a0 h'') (up:s'.heap.UpToSlots h'') (hb:base.StaysIn B) (q:E cls none H'):CXR base P w outer H s E (.ref ea) { s' with heap:=h'' }:=by
 have f3:=f2.1
 have U:Un (frs outer) [] H H' s.heap s'.heap:=I.base
 have fr : ∀ b∈frs outer,∃ o,s'.heap.get? b=some o /\ ∀ vs,o.data ≠ .fields vs:=fun b m=>(I.funs.mem m).2
 refine⟨ea,cls,a0,H',B,rfl,I.os,I.bare,⟨fun b o e n hb he=>?_,fun b o e n hb he=>?_,U.free,fun b o e he=>?_,U.tups,U.frzs,U.tbls⟩,fun a o e=>?_,hb,hin,hT,f2,q⟩
 ·have z:=U.keep b o e n hb he
  obtain⟨u',z2⟩:=hin b o e hb
  exact f3 b o (zM f1 z2 z ▸ z2)
 ·obtain⟨sl,z⟩:=U.slot b o e n hb he
  obtain⟨o2,z2,nf⟩:=fr b hb
  obtain⟨sl2,z3⟩:=up b o2 z2 nf
  have:o2 = { o with slots:=sl }:=eU (z2.symm.trans z)
  exact⟨sl2,by rw[z3,this]⟩
 ·by_cases hb:b∈frs outer
  ·obtain⟨o2,z2,nf⟩:=fr b hb
   obtain⟨sl2,z3⟩:=up b o2 z2 nf
   exact⟨_,z3⟩
  ·obtain⟨u',z2⟩:=hin b o e hb
   exact⟨u',f3 b u' z2⟩
 ·refine(I.hok a o e).stay (fun b u hb q=>?_) (fun _ q=>q) fun _ _ q=>q
  have ht : ∃ o2,H' b=some o2:=by
   rcases hb with rfl | hb
   ·exact⟨o,e⟩
   ·exact⟨_,hb⟩
  obtain⟨o2,ht⟩:=ht
  obtain⟨u',z2⟩:=hT b o2 ht
  exact f3 b u (zM f1 z2 q ▸ z2)
theorem SH {X:Cx}{pins:List (aD×aX)}{σ:St}{H1:Hp}{s1:aH}(I:Inv X pins σ H1 s1){b:aD}{u:aX}(e:X.s₀.heap.get? b=some u)(n:b∉X.fs):b∉frs X.stack:=fun m=>by
 rcases cQ.mp (I.stkSub b m) with z | z
 ·exact absurd (gN (cE e) I.ok.above) (by rw[z]; exact jP _)
 ·exact n z
theorem Nu:Passes (CXR base P w) (iS (CXR base P w) P w K mg base N qual scope f cd A outer s H E) E:=fun pins σ H1 s1 e s' I h=>by
 obtain⟨ea,cls,a0,H',B,rfl,os,bare,un,hok,hb,hB,hT,fl,q⟩:=h
 have I':=I.call' (ch:=[]) os un hok bare (fun _ z=>nomatch z)
 refine wpAny_leaves_onW (base:=B) (env:=iC qual scope s.heap.objs.size f cd) (outer:=outer) (L:=s.heap.objs.size) I.ok.frames rfl fl fun h'' fl'' up=>?_
 refine UO I' (fun b u e n=>?_) hT fl.1 fl'' up hb q
 obtain⟨o',z⟩:=I.base.there b u e (by show b∉[]; simp)
 exact hB b o' z (SH I e n)
theorem Pt {cls:aE}{pins:List (aD×aX)}{σ:St}{H1:Hp}{s1:aH}{h':aU}{e:aD}{args:List aE}(I:Inv (iS (CXR base P w) P w K mg base N qual scope f cd A outer s H E) pins σ H1 s1)(m:Heap.MadeExcOf s1.heap h' e cls args)(q:E cls none H1) :
  (iS (CXR base P w) P w K mg base N qual scope f cd A outer s H E).xe (.ref e) { s1 with heap:=h' }:=by
 have I':=I.kept (t':=s1.toks) m.keeps
 have hin : ∀ env∈(iC qual scope s.heap.objs.size f cd::outer),∀ b,env.frame=some b->b∈frs (iC qual scope s.heap.objs.size f cd::outer):=fun env he b hb=>JC.mpr ⟨env,he,hb⟩
 have hl:s1.heap.FunFrames base (iC qual scope s.heap.objs.size f cd::outer):=I.stack
 refine wpAny_leaves_madeW (base:=PySem.W.hideAll s1.heap (frs (iC qual scope s.heap.objs.size f cd::outer))) (h:=s1.heap) (env:=iC qual scope s.heap.objs.size f cd) (outer:=outer) (L:=s.heap.objs.size) I.ok.frames rfl (fun b o q=>VB _ q) (PySem.W.funFrames_hide hl hin) m fun h'' t fl tup hnt up=>?_
 refine UO I' (fun b u e n=>?_) (fun b o e=>?_) (fun b o e=>m.keeps b o (VB _ e)) fl up (fun b o e=>?_) q
 ·obtain⟨o',z⟩:=I.base.there b u e (by show b∉[]; simp)
  exact⟨o',IQ _ z (SH I e n)⟩
 ·have hn:b∉frs (iC qual scope s.heap.objs.size f cd::outer):=fun z=>by
   have:=I.stkFree b z
   rw[e] at this
   cases this
  obtain⟨u,hg⟩:=(I.hok b o e).here
  exact⟨u,IQ _ hg hn⟩
 ·refine IQ _ (I.bk b o e) fun z=>?_
  have:=(hl.mem z).1
  rw[e] at this
  cases this
theorem MJ {c:aB}(q : ∀ cls H',dM K c=some cls->Ext H H'->E cls none H'):XOk (iS (CXR base P w) P w K mg base N qual scope f cd A outer s H E) H c:=
 ⟨fun pins σ H1 s1 e s' I h=>Nu pins σ H1 s1 e s' I (h.imp fun cls H' z=>q cls H' z.1 z.2),fun hc I x m=>Pt I m (q _ _ hc x)⟩
end
abbrev FX:=Option aB->List aA->Option aA
noncomputable def spX (K:aJ)(n0:Nat)(F:FX):Sp:=fun vs H Q E=>∃ P ds d z,Hid P H/\Aau K (hid H P) ds vs/\F z ds=some d/\Res K P n0 d H Q /\ ∀ c,z=some c -> ∀ cls H',dM K c=some cls->Ext H H'->E cls none H'
noncomputable def rsD (c:aB):aA:=.dict [(.none,.str c),(.none,.bool true)]
noncomputable def isR:aA->Bool
 | .dict [(.none,.str _),(.none,.bool true)]=>true
 | _=>false
section
variable {P:bE}{w:bA}{K:aJ}{mg:aB->Option aE}{base:aU}
theorem Fun.okX {CX:CXT}{x qual:aB}{st:bH}{f:aD}{fd:fJ}{N ps:List aB}{k:Nat}{sp:Sp}(F:Fun K x qual st f fd)(S:FnScope N ps (bT st))(len : ∀ vs H Q E,sp vs H Q E->vs.length=ps.length)
  (hb : ∀ (cdv:aE) (A:bY) (outer:List dZ) (s:aH) (H:Hp) (vs:List V) (Q:VK) (E:XK),Room k (A.deeper (iC qual (bT st) s.heap.objs.size f cdv))->sp vs H Q E ->
   ∃ t,PSs (iS CX P w K mg base N qual (bT st) f cdv A outer s H E) (iI st) t/\t { nx:=fun _ H'=>Q .non H',rt:=Q } (start N vs) H):FnOk P w K mg base CX (k+1) f fd ps sp:=by
 obtain⟨oc,od,kV,doc,pm,an,cdv,ct,osl,rfl,lk,hcd⟩:=F.ex
 exact KI lk hcd S len fun A outer s H vs Q E hr hsp=>hb cdv A outer s H vs Q E hr hsp
theorem Mr {N:List aB}{np n0:Nat}{body:SF}{H:Hp}{P0:aD->Prop}{vs:List V}{ds:List aA}{d:aA}{Q:VK}(hP:Hid P0 H)(r:Aau K (hid H P0) ds vs)(ef:fnD np N.length body ds=some d)(k:Res K P0 n0 d H Q) :
  tS K H P0 n0 body { nx:=fun _ H'=>Q .non H',rt:=Q } (start N vs) H:=by
 unfold fnD at ef
 by_cases hl:ds.length=np
 case neg=>rw[if_neg hl] at ef; cases ef
 rw[if_pos hl] at ef
 rw[← hl] at ef
 have hlen:=r.length
 have eH:Hd P0 (fun _=>[])=P0:=by
  funext a
  simp[Hd]
 have S0:Sta K H P0 (hid H P0) (ds.map (fun d=>some (0,d))++lI (N.length - ds.length) none) (start N vs) H (fun _=>[]):=by
  refine⟨by simp[start,hlen],fun _=>.nil,fun i j a h=>by simp at h,fun i a h=>by simp at h,Ext.refl,hP,by rw[eH]; exact Ext.refl,fun i n' d' e=>?_⟩
  rw[eH]
  by_cases hi:i<ds.length
  ·rw[BR (by simpa using hi),fH] at e
   cases q:ds[i]? with
   | none=>rw[q] at e; simp at e
   | some d2=>
    rw[q] at e
    have e':0=n'/\d2=d':=by simpa using e
    obtain⟨rfl,rfl⟩:=e'
    obtain⟨v,h1,h2⟩:=r.get q
    refine⟨v,?_,rfl,h2⟩
    unfold start
    rw[BR (by rw[cJ,hlen]; exact hi),fH,h1]
    rfl
  ·rw[WC (by simpa using hi)] at e
   have:=pS e
   simp at this
 cases eb:body (ds.map (fun d=>some (0,d))++lI (N.length - ds.length) none) with
 | none=>rw[eb] at ef; cases ef
 | some o=>
  rw[eb] at ef
  refine⟨_,_,_,o,S0,eb,?_⟩
  cases o with
  | rt d'=>
   cases ef
   exact fun v H' ⟨Fr,h1,h2,h3,h4⟩=>k v H' Fr h1 h2 h3 h4
  | nx ρ'=>
   cases ef
   intro σ' H' fp' S'
   refine k .non H' [] S'.ext .nil (fun a m=>by simp at m) ?_
   cases n0 with
   | zero=>exact⟨rfl,Aca.mpr rfl⟩
   | succ n=>
    unfold Agc
    split
    ·exact .inl ⟨rfl,rfl,rfl⟩
    ·exact⟨rfl,Aca.mpr rfl⟩
  | bk _=>cases ef
  | ct _=>cases ef
theorem mM {x qual:aB}{st:bH}{f:aD}{fd:fJ}{N ps:List aB}{k n0 np:Nat}{body:Option aB->SF}(F:Fun K x qual st f fd)(S:FnScope N ps (bT st))(hnp:np=ps.length)(hN:ps.length≤N.length)
  (hb : ∀ (cdv:aE) (A:bY) (outer:List dZ) (s:aH) (H:Hp) (E:XK) (P0:aD->Prop) (z:Option aB),Room k (A.deeper (iC qual (bT st) s.heap.objs.size f cdv))->(∀ c,z=some c->XOk (iS (CXR base P w) P w K mg base N qual (bT st) f cdv A outer s H E) H c) ->
   DSs (iS (CXR base P w) P w K mg base N qual (bT st) f cdv A outer s H E) H P0 n0 (iI st) (body z)) :
  FnOk P w K mg base (CXR base P w) (k+1) f fd ps (spX K n0 fun z=>fnD np N.length (body z)):=by
 refine F.okX S (fun vs H Q E h=>?_) (fun cdv A outer s H vs Q E hr h=>?_)
 ·obtain⟨P,ds,d,z,_,r,ef,_⟩:=h
  have ef:fnD np N.length (body z) ds=some d:=ef
  unfold fnD at ef
  by_cases hl:ds.length=np
  ·rw[r.length,hl,hnp]
  ·rw[if_neg hl] at ef; cases ef
 ·obtain⟨P0,ds,d,z,hP,r,ef,k,kx⟩:=h
  exact⟨_,hb cdv A outer s H E P0 z hr fun c hc=>MJ (kx c hc),Mr hP r ef k⟩
variable {X:Cx}{x:aB}{k n0 np:Nat}{ps:List aB}{F:FX}{e:aS}{es:List aS}{fa:AF}{p pos:bG}
end
theorem Ag {d:aA}(h:isR d=true) : ∃ c,d=rsD c:=by
 unfold isR at h
 split at h
 ·exact⟨_,rfl⟩
 ·cases h
theorem MY {k:aN}(e:PyData.none=kD k):False:=by cases k <;> cases e
theorem DM {K:aJ}{B H:Hp}{n:Nat}{c:aB}{v:V}{F:List aD} : ¬ Agc K B H n (rsD c) v F:=fun h=>by
 have hD : ¬ Abb K B (rsD c) v:=fun r=>by
  obtain⟨a,e,⟨kvs,_,r⟩ | ⟨ts,_,r⟩ | ⟨xs,h,r⟩ | r⟩:=Aby.mp r
  ·obtain⟨k',_,_,_,ek,_⟩:=Aa1.mp r
   cases k' <;> cases ek
  ·obtain⟨_,_,_,_,⟨z,_⟩,_⟩:=Aa9.mp (Adc.mp r).2
   cases z
  ·obtain⟨es,z,_⟩:=tP r
   cases z
  ·rcases r with(⟨_,_,z,_⟩ | ⟨_,z,_⟩) | r
   ·cases z
   ·cases z
   ·obtain⟨_,c',C,dx,fs,z,hc,ha,r⟩:=Ahn.mp r
    obtain⟨f1,x1,r1,_,_,q1,_⟩:=Adt.mp r
    simp[Alz] at q1
 unfold Agc at h
 split at h
 ·rcases h with⟨z,_⟩ | ⟨kds,p,ts,z,_⟩ | ⟨⟨c',C,dx,a,w,q,kds,hds,kvs,hvs,ps,z,_⟩⟩ <;> cases z
 ·cases n with
  | zero=>exact hD h.2
  | succ n=>
   obtain⟨p,xs,Fs,e,hp,_,q⟩:=h
   obtain⟨_,xs⟩:=xs
   replace q:All3 _ _ xs Fs:=q
   cases q with
   | cons h _=>
    exact MY h.1
section
variable {X:Cx}{H0:Hp}{P0:aD->Prop}{x:aB}{k n0 n np:Nat}{ps:List aB}{F:FX}{e:aS}{es:List aS}{fa:AF}{p pos:bG}{z:Option aB}
noncomputable def iT (n:Nat)(m:Md)(f:EF):SF:=fun ρ=>(eV n m f ρ).bind fun d=>if isR d=true then some (.rt d) else some (.nx ρ)
theorem tK {f:EF}(n:Nat)(m:Md)(he:PE X e (tE X.K H0 P0 n m f))(hs:lT e none pos.line X.env=pure false:=by rfl):DS X H0 P0 n0 (.Expr e pos) (iT n m f):=PS.imp (vZ he hs) fun D σ H gh=>by
 obtain⟨B0,ρ,fp,o,S,ef,k⟩:=gh
 obtain⟨d,e1,ef⟩:=XBs ef
 refine⟨B0,ρ,fp,d,S,e1,fun v H' t=>?_⟩
 by_cases h:isR d=true
 ·obtain⟨c,rfl⟩:=Ag h
  obtain⟨fp',_,r⟩:=t
  exact(DM r).elim
 ·rw[if_neg h] at ef
  cases ef
  obtain⟨fp',S',_⟩:=t
  exact k _ _ fp' S'
end
def yN (K:aJ)(c:aB):Prop:=∃ C,cP K bZ c=some (some (.ref C))/\xR K C [.type "ValueError",.type "Exception",.type "BaseException",.type "object"] "ValueError.__new__" = true
theorem Mi {K:aJ}{h:aU}{C:aD}{bmB:List aE}{newId:String}(X:K.In h)(q:xR K C bmB newId=true) :
  ∃ bm N nm q bs hdct sn sub ab col dd k0 k1 k2 k3 k5 mN,h.get? C=some (excClassObj nm q C N bs bm hdct sn sub ab col dd k0 k1 k2 k3 k5 newId)/\h.Ns N mN/\mN "__init__" = none/\OwnTail h bmB bm:=by
 unfold xR at q
 split at q
 ·rename_i dd cd sl ho
  split at q
  ·rename_i C' bm k0 k1 k2 k3 n k5 hm hs
   simp only[rQ,beq_iff_eq,Bool.not_eq_true'] at q
   obtain⟨⟨⟨⟨⟨rfl,rfl⟩,hdel⟩,ht⟩,hok⟩,hni⟩:=q
   obtain⟨nm,bs,mro,ns,qn,hd,sn,sub,ab,col,del⟩:=cd
   dsimp only at hm hdel hok hni
   subst hm hdel
   have hsl:sl = #[k0,k1,k2,k3,some (.builtin n),k5]:=by
    obtain⟨l⟩:=sl
    simp only at hs
    rw[hs]
   subst hsl
   exact⟨bm,ns,nm,qn,bs,hd,sn,sub,ab,col,dd,k0,k1,k2,k3,k5,_,X _ _ ho,.of_isNs (PySem.W.isNs_of_in X hok),PySem.W.nsMap_none_of_in X hok hni,PySem.W.tail_of_in X ht⟩
  ·cases q
 ·cases q
noncomputable def vM (z:Option aB)(c:aB):SF:=fun _=>if z=some c then some (.rt (rsD c)) else none
section
variable {X:Cx}{H0:Hp}{P0:aD->Prop}{n0:Nat}{z:Option aB}{c t:aB}{np tp cpos pos:bG}{j:Nat}
theorem zN (hz : ∀ c,z=some c->XOk X H0 c)(V:yN X.K c)(hc:X.calm=true)(hg:Gl X c)(hd:(c == ("__debug__" : aB))=false:=by decide):DS X H0 P0 n0 (.Raise (some (.Call (.Name c np) [.Constant (.str t) j tp] [] cpos)) none pos) (vM z c):=by
 intro pins s σ H D I ⟨B0,ρ,fp,o,S,ef,k⟩
 obtain⟨he,_⟩:=cW ef
 obtain⟨C,hC,hx⟩:=V
 have hm:=fO I.mod.kin I.mod.glob hC
 have hcv:dM X.K c=some (.ref C):=by unfold dM; rw[hC]; rfl
 obtain⟨tl,N,nm,q,bs,hdct,sn,sub,ab,col,dd,k0,k1,k2,k3,k5,mN,oC,oN,hni,T⟩:=Mi I.mod.kin hx
 refine wpAny_Raise_call_subT (C:=C) (nm:=nm) (q:=q) (N:=N) (bs:=bs) (bm:=tl) (hdct:=hdct) (sn:=sn) (sub:=sub) (ab:=ab) (col:=col) (dd:=dd) (k0:=k0) (k1:=k1) (k2:=k2) (k3:=k3) (k5:=k5)
  Qw (mN:=mN) (T.hasType Qw.hasBase) (I.ok.hd hc) rfl hni (sY I hg hm ⟨rfl,?_⟩ hd)
 refine Calls.evalArgs_plain ?_
 refine thn ((kY TF nG) cpos pins s σ H (fun vs H1=>vs.length=1/\H1=H) I ⟨rfl,rfl⟩) fun vs s2 gh=>?_
 obtain⟨vv,H1,I1,r,hl,e1⟩:=gh
 subst e1
 have hl2:vs.length=1:=by rw[← r.length]; exact hl
 exact⟨rfl,by show vs.length≤sizeLine; rw[hl2]; decide,I1.bk _ _ oC,oN.keeps I1.bk,T.keeps I1.bk,fun h' e m=>(hz c he).made hcv I1 S.ext m⟩
end
theorem TJ {l:List dZ}{H H':Hp}{h h1 h2 B:aU}(un:Un (frs l) [] H H' h h1)(hB : ∀ b u,h.get? b=some u->b∉frs l -> ∃ u',B.get? b=some u')(f1:B.StaysIn h1)(f2:B.StaysIn h2)(up:h1.UpToSlots h2)
  (fr : ∀ b∈frs l,∃ o,h1.get? b=some o /\ ∀ vs,o.data ≠ .fields vs):Un (frs l) [] H H' h h2:=by
 refine⟨fun b o e n hb he=>?_,fun b o e n hb he=>?_,un.free,fun b o e he=>?_,un.tups,un.frzs,un.tbls⟩
 ·obtain⟨u',z2⟩:=hB b o e hb
  exact f2 b o (zM f1 z2 (un.keep b o e n hb he) ▸ z2)
 ·obtain⟨sl,z⟩:=un.slot b o e n hb he
  obtain⟨o2,z2,nf⟩:=fr b hb
  obtain⟨sl2,z3⟩:=up b o2 z2 nf
  have:o2 = { o with slots:=sl }:=eU (z2.symm.trans z)
  exact⟨sl2,by rw[z3,this]⟩
 ·by_cases hb:b∈frs l
  ·obtain⟨o2,z2,nf⟩:=fr b hb
   obtain⟨sl2,z3⟩:=up b o2 z2 nf
   exact⟨_,z3⟩
  ·obtain⟨u',z2⟩:=hB b o e hb
   exact⟨u',f2 b u' z2⟩
theorem ML {P:bE}{w:bA}{H':Hp}{h1 h2 B:aU}(hok:HOk P w H' h1)(hT : ∀ b o,H' b=some o -> ∃ u,B.get? b=some u)(f1:B.StaysIn h1)(f2:B.StaysIn h2):HOk P w H' h2:=fun a o e=>by
 refine(hok a o e).stay (fun b u hb q=>?_) (fun _ q=>q) fun _ _ q=>q
 have ht : ∃ o2,H' b=some o2:=by
  rcases hb with rfl | hb
  ·exact⟨o,e⟩
  ·exact⟨_,hb⟩
 obtain⟨o2,ht⟩:=ht
 obtain⟨u',z2⟩:=hT b o2 ht
 exact f2 b u (zM f1 z2 q ▸ z2)
noncomputable abbrev Cx.held (X:Cx)(e:aD):Cx:={ X with A:=X.A.mark (some (.ref e)),calm:=false,xe:=fun _ _=>False }
noncomputable abbrev Cx.tries (X:Cx)(pins:List (aD×aX))(E:aE->aH->Prop):Cx:={ X with xe:=E,pn:=X.pn++pins }
section
variable {X:Cx}{pins pins':List (aD×aX)}{σ:St}{H H1:Hp}{s s1:aH}{e:aD}{E:aE->aH->Prop}
theorem Inv.held (I:Inv X pins σ H s)(e:aD):Inv (X.held e) pins σ H s:=⟨⟨I.ok.mod,I.ok.kind,I.ok.glob,I.ok.blt,I.ok.above,I.ok.inj,I.ok.has,I.ok.cab,fun h=>Bool.noConfusion h,I.ok.frames,I.ok.stk,I.ok.exf,I.ok.bs,I.ok.bsz,I.ok.noex,I.ok.exfs,I.ok.funs,I.ok.frf⟩,I.os,I.bare,I.base,I.loc,I.cell,I.free,I.freeC,I.pin,I.hok,I.len⟩
theorem Inv.unheld (ok:X.Ok)(I:Inv (X.held e) pins σ H s):Inv X pins σ H s:=⟨ok,I.os,I.bare,I.base,I.loc,I.cell,I.free,I.freeC,I.pin,I.hok,I.len⟩
theorem Cx.Ok.tries (ok:X.Ok):(X.tries pins E).Ok:=⟨ok.mod,ok.kind,ok.glob,ok.blt,ok.above,ok.inj,ok.has,ok.cab,ok.hd,ok.frames,ok.stk,ok.exf,ok.bs,ok.bsz,ok.noex,ok.exfs,ok.funs,ok.frf⟩
theorem Inv.tries (I:Inv X pins σ H s):Inv (X.tries pins E) [] σ H s:=⟨I.ok.tries,I.os,I.bare,I.base,I.loc,I.cell,I.free,I.freeC,fun p hp=>I.pin p (by simpa using hp),I.hok,I.len⟩
theorem Inv.untries (ok:X.Ok)(I:Inv (X.tries pins E) pins' σ H s):Inv X pins σ H s:=⟨ok,I.os,I.bare,I.base,I.loc,I.cell,I.free,I.freeC,fun p hp=>I.pin p (VY _ hp),I.hok,I.len⟩
def CJ (X:Cx)(nm:Option aB)(pos:bG)(Q:Flow->aH->Prop)(E:aE->aH->Prop):oB->aH->Prop:=fun r s₂=>match r with
 | .ok f=>(match nm with
  | none=>Q f s₂
  | some n=>aP (aQ X.prog X.w) X.A (do bindName X.env n .none; UV X.env n pos) (fun _ s₃=>Q f s₃) E s₂)
 | .error x=>cameBackBy (aQ X.prog X.w) X.A X.env E x s₂
theorem caught {C:XK}{T:aB}{CT:aE}{v:aE}{s':aH}{np pos:bG}{b₀:bH}{suite:List bH}{rest:List ExceptHandler}{nm:Option aB}{Q:Flow->aH->Prop}
  (I:Inv X pins σ H1 s1) (hst:X.stack=X.env::X.outer) (hfr:X.env.frame=some X.env.locals) (h:CXR X.base X.prog X.w X.stack H1 s1 C v s') (hg:Gl X T) (hm:X.mg T=some CT) (hd:(T == ("__debug__" : aB))=false)
  (hex : ∀ cls H',C cls none H'->xQ X.K cls CT=some true)
  (k : ∀ ea cls H' h5,C cls none H'->H' ea=none->s1.heap.get? ea=none ->
   (∀ {A':bY} {Q':Unit->aH->Prop} {E':aE->aH->Prop},(∀ h6,Inv (X.held ea) pins σ H' { s' with heap:=h6 }->Avc ea cls h6->Q' () { s' with heap:=h6 })->aP (aQ X.prog X.w) A' (xK (.ref ea) none) Q' E' { s' with heap:=h5 }) ->
   iY (aQ X.prog X.w) (X.A.mark (some (.ref ea))) (.handlers (.ref ea) [.ExceptHandler none nm (b₀::suite) pos] X.env) (CJ X nm pos Q E) { s' with heap:=h5 }) :
  aP (aQ X.prog X.w) X.A (noteFrame v X.env) (fun _ s₂=>aP (aQ X.prog X.w) X.A (xK v none) (fun _ s₃=>
   aP (aQ X.prog X.w) X.A (handleBy v X.env (.ExceptHandler (some (.Name T np)) nm (b₀::suite) pos::rest)) Q E s₃) E s₂) E s':=by
 obtain⟨ea,cls,a0,H',B,rfl,os,bare,un,hok,hb,hB,hT,fl,q⟩:=h
 have fr : ∀ b∈frs X.stack,∃ o,s'.heap.get? b=some o /\ ∀ vs,o.data ≠ .fields vs:=fun b m=>(fl.2.2.1.mem m).2
 have fl':Heap.FlyingW B (X.env::X.outer) ea cls a0 s'.heap:=hst ▸ fl
 refine wpAny_looks_onW (base:=B) (env:=X.env) (outer:=X.outer) (L:=X.env.locals) (by rw[I.ok.frames,hst]) hfr fl' fun h4 held4 sm4=>?_
 refine wpAny_landsW held4 fun h5 fl5 sm5=>?_
 have I5:Inv X pins σ H' { s' with heap:=h5 }:=I.call' (ch:=[]) os (TJ un hB fl.1 fl5.1 (sm4.trans sm5) fr) (ML hok hT fl.1 fl5.1) bare (fun _ z=>nomatch z)
 refine wpAny_handleBy_cons (codeAny_handlers_test (sY (X:=X.held ea) (I5.held ea) hg hm ?_ hd)) (by intro q; cases q)
 obtain⟨ob,hob,hoc⟩:=fl5.there
 have LT:PySem.W.Looks (aQ X.prog X.w) h5 (typeOf (.ref ea)) cls:=by
  subst hoc
  exact(PySem.W.Looks.ld hob).andThen .now
 refine(PySem.W.exm_one I5.kIn LT (hex cls H' q)).here ?_
 have hH:H' ea=none:=by
  cases z:H' ea with
  | none=>rfl
  | some o=>
   obtain⟨u,z2⟩:=hT ea o z
   rw[fl.2.1] at z2
   cases z2
 have hs1:s1.heap.get? ea=none:=by
  cases z:s1.heap.get? ea with
  | none=>rfl
  | some o=>
   by_cases m:ea∈frs X.stack
   ·obtain⟨o2,z2,nf⟩:=fr ea m
    obtain⟨oe,ws,hoe,hoec,hoed,_⟩:=fl.first
    rw[z2] at hoe
    cases hoe
    exact absurd hoed (nf ws)
   ·obtain⟨u,z2⟩:=hB ea o z m
    rw[fl.2.1] at z2
    cases z2
 refine k ea cls H' h5 q hH hs1 fun {A' Q' E'} kk=>?_
 refine lands_againW fl5 fun h6 fl6 sm6=>kk h6 ?_ ?_
 ·exact(I.call' (s':={ s' with heap:=h6 }) (ch:=[]) os (TJ un hB fl.1 fl6.1 ((sm4.trans sm5).trans sm6) fr) (ML hok hT fl.1 fl6.1) bare (fun _ z=>nomatch z)).held ea
 ·obtain⟨oe,ws,hoe,hoec,hoed,_⟩:=fl6.first
  exact⟨oe,hoe,hoec,ws,hoed⟩
end
noncomputable def exD (c:aB):aA:=.dict [(.none,.str c),(.none,.none)]
theorem Sta.forget {K:aJ}{H0 H B0:Hp}{P0:aD->Prop}{ρ:aW}{σ:St}{fp:Nat->List aD}(S:Sta K H0 P0 B0 ρ σ H fp)(j:Nat):Sta K H0 P0 B0 (ρ.set j none) (σ.set j none) H fp:=by
 refine⟨by simp[S.len],S.nd,S.dj,S.own,S.ext,S.hd,S.base,fun i n d e=>?_⟩
 by_cases h:i=j
 ·subst h
  by_cases hl:i<ρ.length
  ·rw[lJ hl] at e; cases e
  ·rw[List.getElem?_eq_none (by simpa using hl)] at e; cases e
 ·rw[lK (jO h)] at e ⊢
  exact S.slot i n d e
section
variable {X:Cx}{pins:List (aD×aX)}{σ:St}{H H1:Hp}{s s1:aH}{E:aE->aH->Prop}{D:Ends}{f:Flow}{ea:aD}
theorem Ep (ok:X.Ok)(h:SP (X.tries pins E) [] D f s):SP X pins D f s:=by
 cases f with
 | next=>obtain⟨σ',H',I,q⟩:=h; exact⟨σ',H',I.untries ok,q⟩
 | brk=>obtain⟨σ',H',I,q⟩:=h; exact⟨σ',H',I.untries ok,q⟩
 | cont=>obtain⟨σ',H',I,q⟩:=h; exact⟨σ',H',I.untries ok,q⟩
 | ret u=>obtain⟨v,σ',H',I,r,q⟩:=h; exact⟨v,σ',H',I.untries ok,r,q⟩
theorem name_goes {M:Model}{A:bY}{n:aB}{j:Nat}{pos:bG}{Q:Unit->aH->Prop}(I:Inv X pins σ H s)(hN:X.N.Nodup)(hj:X.N[j]?=some n)(hl:X.env.scope.names.lookup n=some .local)(h : ∀ s',Inv X pins (σ.set j none) H s'->Q () s') :
  aP M A (do bindName X.env n .none; UV X.env n pos) Q E s:=by
 obtain⟨m,hn,hlk⟩:=id I.loc
 refine wpAny_nameGoes_keeps hl hn (by rw[I.ok.kind]; rfl) fun h' v hn' hs=>h _ ?_
 obtain⟨oL,_,_,hoL,_⟩:=id hn
 refine⟨I.ok,I.os,I.bare,⟨fun b o e n hb hx=>?_,fun b o e n hb hx=>?_,I.base.free,fun b o e hx=>?_,I.base.tups,I.base.frzs,I.base.tbls⟩,⟨_,hn',fun i y v' e1 e2 e3=>?_⟩,fun y c e=>?_,I.free,I.freeC,fun p hp=>?_,fun b ob e=>?_,by simpa using I.len⟩
 ·exact(hs.2 b (dF (gN (cE e) I.ok.above))).trans (I.base.keep b o e n hb hx)
 ·obtain⟨sl,e1⟩:=I.base.slot b o e n hb hx
  exact⟨sl,(hs.2 b (dF (gN (cE e) I.ok.above))).trans e1⟩
 ·obtain⟨o',e1⟩:=I.base.there b o e hx
  exact⟨o',(hs.2 b (dF (gN (cE e) I.ok.above))).trans e1⟩
 ·have hij:i≠j:=fun z=>by
   subst z
   by_cases q:i<σ.length
   ·rw[lJ q] at e2; cases e2
   ·rw[List.getElem?_eq_none (by simpa using q)] at e2; cases e2
  rw[lK (jO hij)] at e2
  obtain⟨u',r',q⟩:=hlk i y v' e1 e2 e3
  refine⟨u',r',?_⟩
  rcases q with⟨k,e⟩ | ⟨k,c,e,z⟩
  ·refine .inl ⟨k,?_⟩
   have:y≠n:=fun e=>hij (FC hN e1 (e ▸ hj))
   simp[this,e]
  ·exact .inr ⟨k,c,e,z.sameBut hs (I.cne y c e)⟩
 ·obtain⟨w',z⟩:=I.cell y c e
  exact⟨w',z.sameBut hs (I.cne y c e)⟩
 ·obtain⟨e,n,ne,nf,d⟩:=I.pin p hp
  exact⟨(hs.2 p.1 ne).trans e,n,ne,nf,d⟩
 ·refine(I.hok b ob e).stay (fun c w' hc q=>(hs.2 c ?_).trans q) (fun _ q=>q) fun _ _ q=>q
  rintro rfl
  rcases hc with rfl | hc
  ·rw[I.free] at e; cases e
  ·rw[I.free] at hc; cases hc
end
noncomputable def rU (c:aB):aA->Bool
 | .dict [(.none,.str c'),(.none,.bool true)]=>decide (c'=c)
 | _=>false
theorem Kx {c:aB}{d:aA}(h:rU c d=true):d=rsD c:=by
 unfold rU at h
 split at h
 ·rw[of_decide_eq_true h]; rfl
 ·cases h
theorem Bt (c:aB):rU c (rsD c)=true:=by simp[rU,rsD]
noncomputable def gQ (c:aB)(F:FX)(fa:AF)(V:aA->SF)(G:SF):SF:=fun ρ=>(fa (vS ρ)).bind fun ds=>(F (some c) ds).bind fun d=>if rU c d=true then G ρ else(F none ds).bind fun d=>V d ρ
theorem TN {c:aB}{F:FX}{fa:AF}{V:aA->SF}{G:SF}{ρ:aW}{ds:List aA}(h:fa (vS ρ)=some ds)(h1:F (some c) ds=some (rsD c)):gQ c F fa V G ρ=G ρ:=by
 unfold gQ
 rw[h,bR,h1,bR,if_pos (Bt c)]
noncomputable def sAs (j:Nat)(c:aB)(G:SF):SF:=fun ρ=>if j<ρ.length then(G (ρ.set j (some (0,exD c)))).bind fun o=>match o with
 | .nx ρ'=>some (.nx (ρ'.set j none))
 | .bk ρ'=>some (.bk (ρ'.set j none))
 | .ct ρ'=>some (.ct (ρ'.set j none))
 | .rt d=>some (.rt d)
 else none
section
variable {X:Cx}{pins:List (aD×aX)}{σ:St}{H H':Hp}{s s6:aH}{ea:aD}{cls:aE}
theorem Inv.track (I:Inv X pins σ H' s6)(hH:H' ea=none)(hx:Avc ea cls s6.heap)(h0:X.s₀.heap.get? ea=none)(hp : ∀ p∈X.pn++pins,p.1≠ea):Inv X pins σ (upd H' ea (exO cls ea)) s6:=by
 obtain⟨o,ho,hc,vs,hd⟩:=id hx
 have ne : ∀ b u,H' b=some u->b≠ea:=fun b u e z=>by rw[z,hH] at e; cases e
 refine⟨I.ok,I.os,I.bare,⟨I.base.keep,I.base.slot,fun b u e n hx=>?_,I.base.there,fun b xs e=>?_,fun b u xs e=>?_,fun b ps e=>?_⟩,I.loc,I.cell,?_,fun x c e=>?_,fun p m=>?_,fun b u e=>?_,I.len⟩
 ·rw[bP (fun z=>by rw[z,h0] at e; cases e)]; exact I.base.free b u e n hx
 ·rw[bP (ne b _ (I.base.tups b xs e))]; exact I.base.tups b xs e
 ·rw[bP (ne b _ (I.base.frzs b u xs e))]; exact I.base.frzs b u xs e
 ·obtain⟨m,z⟩:=I.base.tbls b ps e
  exact⟨m,by rw[bP (ne b _ z)]; exact z⟩
 ·rw[bP]
  ·exact I.free
  ·intro z
   obtain⟨m,⟨o',es,ep,ho',hd',_⟩,_⟩:=I.loc
   rw[z,ho] at ho'
   cases ho'
   rw[hd] at hd'
   cases hd'
 ·rw[bP]
  ·exact I.freeC x c e
  ·intro z
   obtain⟨v,o',ho',hd'⟩:=I.cell x c e
   rw[z,ho] at ho'
   cases ho'
   rw[hd] at hd'
   cases hd'
 ·obtain⟨e1,e2,e3,e4,e5⟩:=I.pin p m
  exact⟨e1,by rw[bP (hp p m)]; exact e2,e3,e4,e5⟩
 ·by_cases z:b=ea
  ·subst z
   rw[eL] at e
   cases e
   refine⟨hx,⟨o,ho⟩,fun h1 h2 hh kk=>?_⟩
   obtain⟨o2,g1,g2⟩:=hh
   exact⟨o2,kk o2 g1,g2⟩
  ·rw[bP z] at e
   exact(I.hok b u e).stay (fun _ _ _ q=>q) (fun c q=>by rw[bP (ne c _ q)]; exact q) fun c xs q=>by rw[bP (ne c _ q)]; exact q
end
section
variable {X:Cx}{H0:Hp}{P0:aD->Prop}{n0 k n:Nat}{x c T:aB}{ps:List aB}{F:FX}{e:aS}{es:List aS}{fa:AF}{p cpos np hpos pos:bG}{CT:aE}{st b₀:bH}{suite:List bH}{V:aA->SF}{G:SF}{nm:Option aB}{W:TE->TS}
structure TryC (X:Cx)(c T:aB)(CT:aE):Prop where
 st:X.stack=X.env::X.outer
 fr:X.env.frame=some X.env.locals
 ex:X.ex=[]
 gl:Gl X T
 mt:X.mg T=some CT
 db:(T == ("__debug__" : aB))=false
 mc : ∀ cls,dM X.K c=some cls->xQ X.K cls CT=some true
def CallAt (X:Cx)(ce:aS)(n:Nat)(F:FX)(fa:AF):Prop:=∀ {pins:List (aD×aX)} {σ:St} {H:Hp} {s:aH} {z:Option aB} {Q:VK} {P:aD->Prop} {ρ:List (Option aA)} {ds:List aA} {d:aA},Inv X pins σ H s->Hid P H->Aj4 X.K (hid H P) ρ σ->fa ρ=some ds->F z ds=some d->Res X.K P n d H Q ->
  (∀ H1 s1 v s',Inv X pins σ H1 s1->Ext H H1->CXR X.base X.prog X.w X.stack H1 s1 (fun cls _ H'=>(∃ c,z=some c/\dM X.K c=some cls)/\Ext H1 H') v s'->X.xe v s') ->
  aP (aQ X.prog X.w) X.A (bJ ce X.env) (EP X pins σ Q) X.xe s
def nQ (X:Cx)(H0:Hp)(P0:aD->Prop)(n0:Nat)(body:List bH)(hh:ExceptHandler)(F:SF):Prop:=∀ (pins:List (aD×aX)) (s:aH) (σ:St) (H:Hp) (D:Ends),Inv X pins σ H s->tS X.K H0 P0 n0 F D σ H ->
 aP (aQ X.prog X.w) X.A (execs body X.env) (fun f s₁=>match f with | .next=>aP (aQ X.prog X.w) X.A (execs [] X.env) (SP X pins D) X.xe s₁ | f=>SP X pins D f s₁)
  (fun e s₁=>aP (aQ X.prog X.w) X.A (noteFrame e X.env) (fun _ s₂=>aP (aQ X.prog X.w) X.A (xK e none) (fun _ s₃=>aP (aQ X.prog X.w) X.A (handleBy e X.env [hh]) (SP X pins D) X.xe s₃) X.xe s₂) X.xe s₁) s
theorem Nz {body:List bH}{hh:ExceptHandler}{F:SF}{pos:bG}(h:nQ X H0 P0 n0 body hh F):DS X H0 P0 n0 (.Try body [hh] [] [] pos) F:=fun pins s σ H D I q=>wpAny_Try_except (h pins s σ H D I q)
theorem yY {hh:ExceptHandler}{F1 F2:SF}{cd:aS}{a b:List bH}{tt:BF}{p1:bG}(m:Md)(hc : ∀ pins E,DT (X.tries pins E) cd tt)(ha:nQ X H0 P0 n0 a hh F1)(hb:nQ X H0 P0 n0 b hh F2):nQ X H0 P0 n0 [.If cd a b p1] hh (sIf m tt F1 F2):=fun pins s σ H D I gh=>by
 obtain⟨B0,ρ,fp,o,S,ef,k⟩:=gh
 obtain⟨bb,e1,ef⟩:=XBs ef
 have ts:=evB (H0:=H0) (P0:=P0) m (hc pins (fun e s₁=>aP (aQ X.prog X.w) X.A (noteFrame e X.env) (fun _ s₂=>aP (aQ X.prog X.w) X.A (xK e none) (fun _ s₃=>aP (aQ X.prog X.w) X.A (handleBy e X.env [hh]) (SP X pins D) X.xe s₃) X.xe s₂) X.xe s₁))
 have hp:=ts [] s σ H (fun b' H'=>b'=bb/\Sta X.K H0 P0 B0 ρ σ H' fp) I.tries ⟨B0,ρ,fp,bb,S,e1,fun H' S'=>⟨rfl,S'⟩⟩
 refine UU (wpAny_If (thn hp fun d s1 gh=>?_))
 obtain⟨H1,I1,e2,S1⟩:=gh
 subst e2
 have I2:=I1.untries I.ok
 cases d with
 | true=>
  refine thn (ha pins s1 σ H1 D I2 ⟨B0,ρ,fp,o,S1,by simpa using ef,k⟩) fun f s2 q=>?_
  cases f with
  | next=>exact xJ q
  | brk=>exact q
  | cont=>exact q
  | ret u=>exact q
 | false=>
  refine thn (hb pins s1 σ H1 D I2 ⟨B0,ρ,fp,o,S1,by simpa using ef,k⟩) fun f s2 q=>?_
  cases f with
  | next=>exact xJ q
  | brk=>exact q
  | cont=>exact q
  | ret u=>exact q
theorem Oz {ce:aS}(t:TryC X c T CT)(hcall : ∀ pins E,CallAt (X.tries pins E) ce n F fa)
  (hW : ∀ (pins:List (aD×aX)) (E:aE->aH->Prop) (te:TE),PE (X.tries pins E) ce te->PS (X.tries pins E) st (W te))
  (hV : ∀ {B0 ρ fp o D σ H d},Sta X.K H0 P0 B0 ρ σ H fp->V d ρ=some o->AR X.K H0 P0 B0 n0 D o -> ∀ te:TE,(∀ Q,(∀ v H',Tmp X.K H0 P0 B0 ρ σ n d v H'->Q v H')->te σ H Q)->W te D σ H)
  (hW2 : ∀ te:TE,∀ D σ H,(∀ Q,te σ H Q)->W te D σ H)
  (hs : ∀ (pins:List (aD×aX)) (s1:aH) (σ:St) (H1:Hp) (ea:aD) (cls:aE) (H':Hp) (h5:aU) (s':aH) (D:Ends) (B0:Hp) (ρ:aW) (fp:Nat->List aD) (o:Out),Inv X pins σ H1 s1->dM X.K c=some cls->Ext H1 H'->H' ea=none->s1.heap.get? ea=none ->
   (∀ {A':bY} {Q':Unit->aH->Prop} {E':aE->aH->Prop},(∀ h6,Inv (X.held ea) pins σ H' { s' with heap:=h6 }->Avc ea cls h6->Q' () { s' with heap:=h6 })->aP (aQ X.prog X.w) A' (xK (.ref ea) none) Q' E' { s' with heap:=h5 }) ->
   Sta X.K H0 P0 B0 ρ σ H1 fp->G ρ=some o->AR X.K H0 P0 B0 n0 D o ->
   iY (aQ X.prog X.w) (X.A.mark (some (.ref ea))) (.handlers (.ref ea) [.ExceptHandler none nm (b₀::suite) hpos] X.env) (CJ X nm hpos (SP X pins D) X.xe) { s' with heap:=h5 }) :
  nQ X H0 P0 n0 [st] (.ExceptHandler (some (.Name T np)) nm (b₀::suite) hpos) (gQ c F fa V G):=by
 intro pins s σ H D' I ⟨B0,ρ,fp,o,S,ef,k'⟩
 obtain⟨ds,e1,ef⟩:=XBs ef
 obtain⟨d,e2,ef⟩:=XBs ef
 have fin : ∀ Ex:aE->aH->Prop,(∀ te:TE,(∀ Q,te σ H Q = ∀ pins' s',Inv (X.tries pins Ex) pins' σ H s'->aP (aQ X.prog X.w) X.A (bJ ce X.env) (EP (X.tries pins Ex) pins' σ Q) Ex s')->W te D' σ H) ->
   aP (aQ X.prog X.w) X.A (execs [st] X.env) (fun f s₁=>match f with | .next=>aP (aQ X.prog X.w) X.A (execs [] X.env) (SP X pins D') X.xe s₁ | f=>SP X pins D' f s₁) Ex s:=fun Ex w=>by
  have hp:=qP (hW pins Ex (fun σ' H' Q'=>∀ pins' s',Inv (X.tries pins Ex) pins' σ' H' s'->aP (aQ X.prog X.w) X.A (bJ ce X.env) (EP (X.tries pins Ex) pins' σ' Q') Ex s') (fun pins' s' σ' H' Q' I' h=>h pins' s' I')) [] s σ H D' I.tries (w _ fun _=>rfl)
  refine thn hp fun f s₁ h=>?_
  have h2:=Ep I.ok h
  cases f with
  | next=>
   obtain⟨σ',H',I',q⟩:=h2
   exact wC pins s₁ σ' H' D' I' q
  | brk=>exact h2
  | cont=>exact h2
  | ret u=>exact h2
 by_cases hR:rU c d=true
 ·rw[if_pos hR] at ef
  have hd:=Kx hR
  subst hd
  refine fin _ fun te hte=>hW2 te _ _ _ fun Q=>?_
  rw[hte]
  intro pins' s' I'
  refine hcall pins _ I' S.hid S.viewS e1 e2 (fun v H' Fr _ _ _ r=>(DM r).elim) (fun H1 s1 v s'' I1 x1 hc=>?_)
  refine caught (X:=X) (I1.untries I.ok) t.st t.fr hc t.gl t.mt t.db (fun cls H' z=>?_) fun ea cls H' h5 z hH hs1 ld=>?_
  ·obtain⟨⟨c',z1,z2⟩,_⟩:=z
   cases z1
   exact t.mc cls z2
  ·obtain⟨⟨c',z1,z2⟩,z3⟩:=z
   cases z1
   exact hs pins s1 σ H1 ea cls H' h5 s'' D' B0 ρ fp o (I1.untries I.ok) z2 z3 hH hs1 ld (S.grow x1) ef k'
 ·rw[if_neg hR] at ef
  obtain⟨d2,e3,ef⟩:=XBs ef
  refine fin _ fun te hte=>hV S ef k' te fun Q hQ=>?_
  rw[hte]
  intro pins' s' I'
  have efv:eV n .s (aO (F none) fa) ρ=some d2:=by
   show(fa (vS ρ)).bind (fun ds=>F none ds)=some d2
   rw[e1]
   exact e3
  obtain⟨P,ρ',d',hP,rs,ef2,kk⟩:=yJ .s σ H Q ⟨B0,ρ,fp,d2,S,efv,hQ⟩
  obtain⟨ds2,g1,g2⟩:=XBs ef2
  exact hcall pins _ (z:=none) I' hP rs g1 g2 kk (fun H1 s1 v s'' I1 x1 hc=>by
   obtain⟨_,_,_,_,_,_,_,_,_,_,_,_,_,_,⟨c',z,_⟩,_⟩:=hc
   cases z)
variable {y:aB}{py apos:bG}{i:Nat}
theorem Ks {j:Nat}{nn:aB}(hex:X.ex=[])(hN:X.N.Nodup)(hj:X.N[j]?=some nn)(hl:X.env.scope.names.lookup nn=some .local)(hG : ∀ ea,DSs (X.held ea) H0 P0 n0 (b₀::suite) G) : ∀ (pins:List (aD×aX)) (s1:aH) (σ:St) (H1:Hp) (ea:aD) (cls:aE) (H':Hp) (h5:aU) (s':aH) (D:Ends) (B0:Hp) (ρ:aW) (fp:Nat->List aD) (o:Out),Inv X pins σ H1 s1->dM X.K c=some cls->Ext H1 H'->H' ea=none->s1.heap.get? ea=none ->
   (∀ {A':bY} {Q':Unit->aH->Prop} {E':aE->aH->Prop},(∀ h6,Inv (X.held ea) pins σ H' { s' with heap:=h6 }->Avc ea cls h6->Q' () { s' with heap:=h6 })->aP (aQ X.prog X.w) A' (xK (.ref ea) none) Q' E' { s' with heap:=h5 }) ->
   Sta X.K H0 P0 B0 ρ σ H1 fp->sAs j c G ρ=some o->AR X.K H0 P0 B0 n0 D o ->
   iY (aQ X.prog X.w) (X.A.mark (some (.ref ea))) (.handlers (.ref ea) [.ExceptHandler none (some nn) (b₀::suite) hpos] X.env) (CJ X (some nn) hpos (SP X pins D) X.xe) { s' with heap:=h5 }:=fun pins s1 σ H1 ea cls H' h5 s' D B0 ρ fp o I hc x hH hs1 ld S ef k=>by
 refine codeAny_handlers_suite_as (ld fun h6 I6 x6=>?_)
 have h0:X.s₀.heap.get? ea=none:=by
  cases z:X.s₀.heap.get? ea with
  | none=>rfl
  | some u=>
   obtain⟨o',z2⟩:=I.base.there ea u z (by rw[hex]; simp)
   rw[hs1] at z2
   cases z2
 have hp : ∀ p∈X.pn++pins,p.1≠ea:=fun p m z=>by
  have:=(I.pin p m).1
  rw[z,hs1] at this
  cases this
 have I7:=I6.track hH x6 h0 hp
 unfold sAs at ef
 by_cases hjl:j<ρ.length
 case neg=>rw[if_neg hjl] at ef; cases ef
 rw[if_pos hjl] at ef
 obtain⟨o2,e2,ef⟩:=XBs ef
 refine FL (X:=X.held ea) I7 hN hj (.inl hl) (v:=.ref ea) rfl (fun s7 I8=>?_) (.inr hl)
 have S2:=(S.grow x).grow (Ext.new (o:=exO cls ea) hH)
 have nh : ¬ Hd P0 fp ea:=fun z=>by
  rcases(S.grow x).hid ea z with⟨_,q⟩ | ⟨_,q⟩ <;> rw[hH] at q <;> cases q
 obtain⟨fp3,S3⟩:=S2.Apv (i:=j) (d:=exD c) (v:=.ref ea) (Aby.mpr ⟨ea,rfl,.inr (.inr (.inr (.inl <| .inl ⟨c,cls,rfl,hc,gJ nh eL⟩)))⟩) hjl
 have go:=fun {f:Flow} {s2:aH} {E':aE->aH->Prop} (h:SP (X.held ea) pins { nx:=fun σ' H'=>D.nx (σ'.set j none) H',rt:=D.rt,bk:=fun σ' H'=>D.bk (σ'.set j none) H',ct:=fun σ' H'=>D.ct (σ'.set j none) H' } f s2)=>(show aP (aQ X.prog X.w) X.A (do bindName X.env nn .none; UV X.env nn hpos) (fun _ s₃=>SP X pins D f s₃) X.xe s2 from by
  cases f with
  | next=>obtain⟨σ',H',I',q⟩:=h; exact name_goes (I'.unheld I.ok) hN hj hl fun s3 I3=>⟨_,H',I3,q⟩
  | brk=>obtain⟨σ',H',I',q⟩:=h; exact name_goes (I'.unheld I.ok) hN hj hl fun s3 I3=>⟨_,H',I3,q⟩
  | cont=>obtain⟨σ',H',I',q⟩:=h; exact name_goes (I'.unheld I.ok) hN hj hl fun s3 I3=>⟨_,H',I3,q⟩
  | ret u=>obtain⟨v,σ',H',I',r,q⟩:=h; exact name_goes (I'.unheld I.ok) hN hj hl fun s3 I3=>⟨v,_,H',I3,r,q⟩)
 refine iW (hG ea pins s7 _ _ _ I8 ⟨B0,_,fp3,o2,S3,e2,?_⟩) (fun f s2 h=>go (E':=X.xe) h) (fun _ _ z=>z.elim)
 cases o2 with
 | nx ρ'=>cases ef; exact fun σ' H' fp' S'=>k _ _ fp' (S'.forget j)
 | bk ρ'=>cases ef; exact fun σ' H' fp' S'=>k _ _ fp' (S'.forget j)
 | ct ρ'=>cases ef; exact fun σ' H' fp' S'=>k _ _ fp' (S'.forget j)
 | rt d=>cases ef; exact k
noncomputable def vExpr:aA->SF:=fun _ ρ=>some (.nx ρ)
end
open PySem PySem.Spec PySem.Calls PyProof.Rows PySem.W PySem.Builtin PySem.Builtin.ObjectAttr PySem.Builtin.Getset_descriptor
section
variable {prog:bE}{w:bA}{A:bY}{E:aE->aH->Prop}{h:aU}{g:Array uT}{d:Drawn}{t:Nat}{os:OsState}{K:Frag}{x C:aD}{ox:aX}{vs:Array aE}
structure XCls (K:Frag)(C:aD):Prop where
 ga:findIn K (.ref C) "__getattribute__" = some (some (.builtin "BaseException.__getattribute__"))
 gh:findIn K (.ref C) "__getattr__" = some none
 cl:findIn K (.ref C) "__class__" = some (some (.builtin "object.__class__"))
 mo:mroIn K C (.type "object")=some true
 mb:mroIn K C (.type "BaseException")=some true
 ic:hasDictIn K C=true
theorem Avc.ty {M:Model}{cls:aE}(e:Avc x cls h):Looks M h (typeOf (.ref x)) cls:=by
 obtain⟨o,h1,rfl,_⟩:=e
 exact(Looks.ld h1).andThen .now
theorem YH {s:aH}{R:oB->aH->Prop}{tp:aE}(X:K.In s.heap)(I:Avc x (.ref C) s.heap)(hm:mroIn K C (.type "object")=some true)(h:R (.ok (.ret (.ref C))) s) :
  iY (aQ prog w) A (.call (.builtin "getset_descriptor.__get__") ⟨[.builtin "object.__class__",.ref x,tp],[]⟩) R s:=by
 obtain⟨hh,g,dr,t,os⟩:=s
 have L0:=I.ty (M:=aQ prog w)
 have L1:=looks_mroIn (M:=aQ prog w) X hm
 refine UX KF.slot_gs.plain KF.entry_gs (KF.slot_gs.check _ _ _ _ _ _ _ _ KF.type_class (KF.args_gs _ _ _) ?_)
 unfold Builtin.«getset_descriptor.__get__» descrGet
 rw[dga_obj]
 refine aM (aY ?_)
 unfold descrGetter descrCheckInstance descrNameAndClass isInstance
 simp only[KF.owner_class]
 repeat lk
 refine⟨Code.quiet_builtin _ (by decide +kernel),rH KF.entry_class ?_⟩
 unfold Builtin.«object.__class__» shownTypeOf
 repeat lk
 exact h
theorem Kl {tk:Tok}{Q:Fin->aH->Prop}(X:K.In h)(c:XCls K C)(I:Avc x (.ref C) h)(hq:Q (.done (.ret (.ref C))) ⟨h,g,d,t,os⟩) :
  aP (aQ prog w) A (Builtin.«object.__getattribute__» ⟨[.ref x,.str "__class__" tk],[]⟩) Q E ⟨h,g,d,t,os⟩:=by
 have L1:Looks (aQ prog w) h (uE (.ref C) "__class__") (some (.builtin "object.__class__")):=looks_findIn X c.cl
 have L0:=I.ty (M:=aQ prog w)
 have f5:=F.typeOf_object_class
 have f6:=F.slot_gs_get.lookup
 have f7:=F.slot_gs_set.lookup
 repeat (any_goals (first | assumption | with_reducible refine L0.at ?_ | with_reducible refine L1.at ?_ | wp_step))
 refine YH (s:=⟨h,g,d,t,os⟩) X I c.mo ?_
 repeat (any_goals (first | assumption | wp_step))
theorem Ku {M:Model}{nameV:aE}{Q:Unit->aH->Prop}(X:K.In h)(c:XCls K C)(I:Avc x (.ref C) h)(hq:Q () ⟨h,g,d,t,os⟩):aP M A (checkBuiltinCall "BaseException.__getattribute__" ⟨[.ref x,nameV],[]⟩) Q E ⟨h,g,d,t,os⟩:=by
 have L0:=I.ty (M:=M)
 have L2:=looks_mroIn (M:=M) X c.mb
 have hk:builtinKind "BaseException.__getattribute__" = some .slot:=by decide +kernel
 have hsplit:splitId "BaseException.__getattribute__" = some ("BaseException","__getattribute__"):=by decide +kernel
 have ha:=F.args_bexc_ga (.ref x) nameV
 simp only[checkBuiltinCall,hk,hsplit]
 refine aM ?_
 ·unfold isInstance
  repeat (first | with_reducible refine L0.at ?_ | with_reducible refine L2.at ?_ | wp_step)
  exact hq
theorem XF {tk:Tok}{Q:aE->aH->Prop}(X:K.In h)(c:XCls K C)(I:Avc x (.ref C) h)(hq:Q (.ref C) ⟨h,g,d,t,os⟩):aP (aQ prog w) A (getAttrBy (.ref x) (.str "__class__" tk) false) Q E ⟨h,g,d,t,os⟩:=by
 have FB:=PySem.F.attrBase_ValueError
 have L0:=I.ty (M:=aQ prog w)
 have L1:Looks (aQ prog w) h (uE (.ref C) "__getattribute__") (some (.builtin "BaseException.__getattribute__")):=looks_findIn X c.ga
 have L2:Looks (aQ prog w) h (uE (.ref C) "__getattr__") none:=looks_findIn X c.gh
 have f3:=FB.ga.bind (.ref x)
 have hx0:(false&&onTheHeap (xP "BaseException.__getattribute__"))=false:=rfl
 have hx2:(xP "BaseException.__getattribute__" == xP "object.__getattribute__")=false:=by decide +kernel
 have hx1:(onTheHeap (dS C)&&xP "BaseException.__getattribute__" == xP "object.__getattribute__")=false:=by rw[hx2]; rfl
 repeat (any_goals (first | assumption | with_reducible refine L0.at ?_ | with_reducible refine L1.at ?_ | with_reducible refine L2.at ?_ | wp_step))
 refine UX FB.ga.plain F.entry_bexc_ga (Ku X c I (Kl X c I ?_))
 repeat (any_goals (first | assumption | wp_step))
theorem Ah {s:aH}{Q:Option aE->aH->Prop}(X:K.In s.heap)(c:XCls K C)(I:Avc x (.ref C) s.heap)(hq:Q (some (.ref C)) { s with toks:=s.toks+1 }):aP (aQ prog w) A (getAttr? (.ref x) "__class__") Q E s:=by
 obtain⟨h,g,d,t,os⟩:=s
 unfold getAttr? getAttrBy?
 repeat (any_goals (first | assumption | with_reducible apply XF X c I | wp_step))
theorem Pm (c:XCls K C):KitX K (.ref x) (.ref C) (Avc x (.ref C)) where
 ty:=fun _ _ _ e=>e.ty
 it:=fun _ _ X _=>by
  obtain⟨cdD,z0,_⟩:=any_some c.ic
  unfold clsIn at z0
  split at z0
  ·rename_i c' d' cd' sl' ho
   intro A' Q' E' s' k q
   unfold isType loadHead
   exact aM (wpAny_loadPart (k _ _ (X _ _ ho)) (aY q))
  ·cases z0
 ne:=fun h tp dd its n sl X htp=>by
  obtain⟨cdD,z0,_⟩:=any_some c.ic
  refine Bool.eq_false_iff.mpr fun q=>?_
  have e:C=tp:=Value.ref.inj (beq_iff_eq.mp q)
  subst e
  unfold clsIn at z0
  split at z0
  ·rename_i c' d' cd' sl' ho
   have z:=(X _ _ ho).symm.trans htp
   cases z
  ·cases z0
 ca:=fun X e k=>Ah X c e k
end
def ExM (K:aJ)(mg:aB->Option aE)(c T:aB):Prop:=∃ C D,cP K bZ c=some (some (.ref C))/\mg T=some (.ref D)/\xQ K (.ref C) (.ref D)=some true
def IsM (K:aJ)(mg:aB->Option aE)(c T:aB)(b:Bool):Prop:=∃ C D,cP K bZ c=some (some (.ref C))/\mg T=some (.ref D)/\XCls K C/\gM K (.ref C) (.ref D)=some b
def IsV (K:aJ)(mg:aB->Option aE)(c T:aB)(U:String)(b:Bool):Prop:=∃ C,cP K bZ c=some (some (.ref C))/\mg T=none/\XCls K C/\gM K (.ref C) (.type U)=some b
theorem zA {K:aJ}{c:aB}{v:aE}(h:cP K bZ c=some (some v)):dM K c=some v:=by unfold dM; rw[h]; rfl
section
variable {X:Cx}{c T:aB}
theorem mD (m:ExM X.K X.mg c T)(st:X.stack=X.env::X.outer)(fr:X.env.frame=some X.env.locals)(ex:X.ex=[])(gl:Gl X T)(db:(T == ("__debug__" : aB))=false):TryC X c T ((X.mg T).getD .none):=by
 obtain⟨C,D,h1,h2,h3⟩:=id m
 refine⟨st,fr,ex,gl,?_,db,fun cls hc=>?_⟩
 ·show X.mg T=some ((X.mg T).getD .none)
  rw[h2]; rfl
 ·rw[zA h1] at hc
  cases hc
  show xQ X.K (.ref C) ((X.mg T).getD .none)=some true
  rw[h2]; exact h3
noncomputable def dP (c:aB)(b:Bool):aA->Option aA
 | .dict [(.none,.str c'),(.none,.none)]=>if c'=c then some (.bool b) else none
 | _=>none
theorem Aj {K:aJ}{H:Hp}{v:V}(h:Abb K H (exD c) v) : ∃ a cls,v = .ref a/\dM K c=some cls/\H a=some (exO cls a):=by
 obtain⟨a,e,⟨kvs,_,r⟩ | ⟨ts,_,r⟩ | ⟨xs,h,r⟩ | r⟩:=Aby.mp h
 ·obtain⟨k',_,_,_,ek,_⟩:=Aa1.mp r
  exact(MY ek).elim
 ·obtain⟨_,_,_,_,⟨z,_⟩,_⟩:=Aa9.mp (Adc.mp r).2
  cases z
 ·obtain⟨es,z,_⟩:=tP r
  cases z
 ·rcases r with r | r
  rotate_left
  ·obtain⟨_,c',C,dx,fs,z,hc,ha,r⟩:=Ahn.mp r
   obtain⟨f1,x1,r1,_,_,q1,_⟩:=Adt.mp r
   simp[Alz] at q1
  rcases r with⟨c',cls,z,h1,h2⟩ | ⟨c',z,h1⟩
  ·cases z
   exact⟨a,cls,e,h1,h2⟩
  ·cases z
theorem QL {C:aD}{cl:aE}{y:V}{b:Bool}(hc:dM X.K c=some (.ref C))(x:XCls X.K C)(hy : ∀ u,RelV y u->u=cl)(hk:gM X.K (.ref C) cl=some b):Adn X (.builtin "isinstance") (fun xs H Q=>∃ v,xs=[v,y]/\Abb X.K H (exD c) v/\Q (.bl b) H):=by
 intro pins s σ H xs us Q I r h
 obtain⟨v,rfl,rd,q⟩:=h
 obtain⟨u,w',rfl,ru,rw'⟩:=vals2 r
 obtain⟨a,cls,rfl,h1,h2⟩:=Aj rd
 cases ru
 rw[hc] at h1
 cases h1
 obtain rfl:=hy _ rw'
 exact kL (Pm x) I.kIn (I.hok _ _ h2).1 hk (fun z=>nomatch z) fun tk=>⟨.bl b,H,I.tok tk,rfl,q⟩
variable {e:aS}{f:EF}{p p2 pos:bG}{b:Bool}
theorem TU {y:V}(σ:St)(H:Hp)(Q:VK)(h:tF X.K 0 (eUn (dP c b) f) σ H Q):tCB (fun xs H Q=>∃ v,xs=[v,y]/\Abb X.K H (exD c) v/\Q (.bl b) H) (HY (tF X.K 0 f) (HY (tC y) JQ)) σ H Q:=by
 obtain⟨P,ρ,d,hP,rs,ef,k⟩:=h
 obtain⟨d1,e1,ef⟩:=XBs ef
 unfold dP at ef
 split at ef
 ·obtain⟨rfl,rfl⟩:=cW ef
  exact⟨P,ρ,_,hP,rs,e1,cY fun v H1 x1 r1=>⟨v,rfl,Abb.ext Aa0 r1,k.zero x1 (Aar.mpr rfl)⟩⟩
 ·cases ef
theorem jK (hgl:Gl X "isinstance")(hm:X.mg "isinstance" = none)(m:IsM X.K X.mg c T b)(hg:Gl X T)(he:DE X e f)(hd:(T == ("__debug__" : aB))=false:=by decide)(hs1:bI (e::[.Name T p2]) X.env=(false,bJ e X.env)::bI [.Name T p2] X.env:=by rfl)
  (hs2:bI (.Name T p2::[]) X.env=(false,bJ (.Name T p2) X.env)::bI [] X.env:=by rfl) (hpl:(fF pos (bI [.Name T p2] X.env)).any (·.1)=false:=by rfl):DE X (.Call (.Name "isinstance" p) [e,.Name T p2] [] pos) (eUn (dP c b) f):=by
 obtain⟨C,D,h1,h2,h3,h4⟩:=m
 have hT:PE X (.Name T p2) (tC (.ref D)):=fun pins s σ H Q I h=>sY I hg h2 ⟨.ref D,H,I,rfl,h⟩ hd
 exact PE.imp (wL (QL (zA h1) h3 (y:=.ref D) (fun u r=>r) h4) hgl hm boot_isinstance (kY he (kY hT nG hs2) hs1) (by decide) (by decide) hs1 hpl) TU
theorem MR {U:String}(hgl:Gl X "isinstance")(hm:X.mg "isinstance" = none)(m:IsV X.K X.mg c T U b)(hg:Gl X T)(hv:iZ T=some (.type U))(he:DE X e f)(hn:T ≠ "__name__":=by decide)(hd:(T == ("__debug__" : aB))=false:=by decide)(hs1:bI (e::[.Name T p2]) X.env=(false,bJ e X.env)::bI [.Name T p2] X.env:=by rfl)
  (hs2:bI (.Name T p2::[]) X.env=(false,bJ (.Name T p2) X.env)::bI [] X.env:=by rfl) (hpl:(fF pos (bI [.Name T p2] X.env)).any (·.1)=false:=by rfl):DE X (.Call (.Name "isinstance" p) [e,.Name T p2] [] pos) (eUn (dP c b) f):=by
 obtain⟨C,h1,h2,h3,h4⟩:=m
 exact PE.imp (wL (QL (zA h1) h3 (y:=.ty U) (fun u r=>r) h4) hgl hm boot_isinstance (kY he (kY (KH hg h2 hv hn hd) nG hs2) hs1) (by decide) (by decide) hs1 hpl) TU
end
theorem SY:iZ "ValueError" = some (.type "ValueError"):=PyProof.Rows.Boot.«ValueError»
noncomputable def isFn (i:Nat)(c:aB)(ρ:List (Option aA)):Bool:=match aF i ρ with
 | some (.dict [(.none,.str c'),(.none,.bool false)])=>decide (c'=c)
 | _=>false
open PySem
structure Sub (P:bE)(w:bA)(it:aD)(own:List aD)(St:Nat->aU->Prop)(xs:Array aE):Prop where
 mem:it∈own
 obj : ∀ k h,St k h -> ∀ c∈own,∃ o,h.get? c=some o
 keep : ∀ k h h',St k h->(∀ c∈own,∀ o,h.get? c=some o->h'.get? c=some o)->St k h'
 item : ∀ (A:bY) (E:aE->aH->Prop) (s:aH) (Q:aE->aH->Prop) (k:Nat) (x:aE),St k s.heap->xs[k]?=some x ->
  (∀ h',St (k+1) h'->yD it s.heap h'->Q x { s with heap:=h' })->aP (aQ P w) A (Builtin.SmallTypes.nextOf (.ref it)) Q E s
 done : ∀ (A:bY) (E:aE->aH->Prop) (s:aH) (Q:aE->aH->Prop) (k:Nat),A.handled=none->St k s.heap->xs[k]?=none ->
  (∀ h' e,Heap.ExtBut it s.heap h'->(∃ o,h'.get? e=some o/\o.cls = .type "StopIteration")->E (.ref e) { s with heap:=h' })->aP (aQ P w) A (Builtin.SmallTypes.nextOf (.ref it)) Q E s
section
variable {X:Cx}{pins:List (aD×aX)}{σ:St}{H:Hp}{s:aH}
theorem Inv.turnM {t':Nat}{fp:List aD}{h':aU}(I:Inv X pins σ H s)(hf : ∀ b∈fp,jE X pins H b)(k : ∀ b o,b∉fp->s.heap.get? b=some o->h'.get? b=some o):Inv X pins σ H { s with heap:=h',toks:=t' }:=by
 have out : ∀ b u,H b=some u->b∉fp:=fun b u e m=>by
  rw[(hf b m).1] at e
  cases e
 have loc:X.env.locals∉fp:=fun m=>(hf _ m).2.1 rfl
 refine I.step (fun b m=>⟨(hf b m).2.2.2.1,(hf b m).2.1,(hf b m).2.2.2.2.1,(hf b m).2.2.2.2.2⟩) (fun b o _ _ n e _=>k b o n e) (fun b o _ _ n e _=>⟨o.slots,k b o n e⟩) (fun _ _ _ _ n=>n)
  (fun b o n e=>⟨o,k b o n e⟩) (fun _ _ e=>e) (fun _ _ _ e=>e) (fun b ps e=>⟨#[],by rw[e]; simp⟩) (fun m hm=>?_) (fun b u e=>?_) I.bare
 ·obtain⟨o,es,ep,ho,r⟩:=hm
  exact⟨o,es,ep,k _ o loc ho,r⟩
 ·refine(I.hok b u e).stay (fun c v hc q=>k c v ?_ q) (fun _ q=>q) fun _ _ q=>q
  rcases hc with z | z
  ·rw[z]; exact out b u e
  ·exact out c _ z
end
theorem Lr {P:bE}{w:bA}{k:aN}{u:aE}(h:(eJ P w).is k u=true):RelV (kV k) u:=by
 rcases lR h with⟨i,tk,e1,e2⟩ | ⟨x,tk,e1,e2⟩
 ·rw[e1,e2]; exact⟨tk,rfl⟩
 ·rw[e1,e2]; exact⟨tk,rfl⟩
theorem CV : ∀ {kvs:List (aN×V)} {vs:List (aN×aE)} {i:Nat} {kv:aN×V},KV kvs vs->kvs[i]?=some kv -> ∃ u,vs[i]?=some u/\kv.1=u.1/\RelV kv.2 u.2
 | _,_,0,_,.cons h _,e=>by
  cases e
  exact⟨_,rfl,h.1,h.2⟩
 | _,_,i+1,_,.cons _ t,e=>by
  obtain⟨u,g⟩:=CV t (by simpa using e)
  exact⟨u,by simpa using g⟩
noncomputable def rS (a:aD)(ep n:Nat):It:=
 ⟨fun i H=>∃ kvs kv,H a=some (.dK ep kvs)/\kvs.length=n/\kvs[i]?=some kv,fun i H x H'=>H'=H /\ ∀ kvs,H a=some (.dK ep kvs) -> ∃ kv,kvs[i]?=some kv/\x=kV kv.1,fun i H=>∃ kvs,H a=some (.dK ep kvs)/\kvs.length=n/\n≤i⟩
theorem Ci {P:bE}{w:bA}{K:aJ}{tg:aS}(a it:aD)(ep n:Nat):Turn P w K tg (rS a ep n) [it] it (fun i h=>h.IsKeyIter it a i n ep) where
 mem:=dB.mpr rfl
 obj:=fun i h ⟨o,e,_,d⟩ b hb=>by
  rw[dB.mp hb]
  exact⟨o,e,fun v z=>by rw[d] at z; cases z⟩
 keep:=fun i h h' st k=>st.at fun o e=>k it (dB.mpr rfl) o e
 item:=by
  intro X hP hw hK hc i pins s σ H E I hf st hg
  subst hP hw hK
  obtain⟨kvs,kv,ha,hn,hk⟩:=hg
  subst hn
  obtain⟨z,nm,vs,r,d⟩:=qB I.hok (.inl ha)
  have hl:kvs.length=vs.length:=r.length
  obtain⟨u,hu,r1,r2⟩:=CV r hk
  obtain⟨uk,uv⟩:=u
  rw[hl] at st
  refine wpAny_pyNext_dict_item st d hu fun key h' hkey st' sb=>?_
  have I1:Inv X pins σ H { s with heap:=h' }:=I.turnM (t':=s.toks) hf fun b o nb e=>sb.extBut b o (fun q=>nb (dB.mpr q)) e
  obtain⟨o,e,c,dd⟩:=id st'
  have r1':kv.1=uk:=r1
  refine⟨key,rfl,sG (s:={ s with heap:=h' }) e c dd (by decide) ⟨kV kv.1,H,I1,by rw[r1']; exact Lr hkey,⟨rfl,fun kvs' h2=>?_⟩,by rw[hl]; exact st',fun b hb=>(hf b hb).1⟩⟩
  rw[ha] at h2
  cases h2
  exact⟨kv,hk,rfl⟩
 done:=by
  intro X hP hw hK hc i pins s σ H E I hf st hg
  subst hP hw hK
  obtain⟨kvs,ha,hn,hi⟩:=hg
  subst hn
  obtain⟨z,nm,vs,r,d⟩:=qB I.hok (.inl ha)
  have hl:kvs.length=vs.length:=r.length
  rw[hl] at st
  exact wpAny_pyNext_dict_end (I.ok.hd hc) st d (by simp; omega) fun h' eb=>⟨rfl,I.turnM (t':=s.toks) hf fun b o nb e=>eb b o (fun q=>nb (dB.mpr q)) e⟩
 self:=fun _ _ _ _ _ st h=>wpAny_pyIter_keyiter st h
section
variable {X:Cx}{tg l e:aS}
noncomputable def XM (tl:TE):TI:=fun σ H R=>tl σ H fun x H1=>∃ a ep kvs,x = .ref a/\H1 a=some (.dK ep kvs)/\R (rS a ep kvs.length) H1
theorem LJ {tl:TE}(hl:PE X l tl):PI X tg l (XM tl):=by
 intro pins s σ H R I h
 refine thn (hl pins s σ H _ I h) fun v s1 gh=>?_
 obtain⟨x,H1,I1,r1,q1⟩:=gh
 obtain⟨a,ep,kvs,rfl,ha,q⟩:=q1
 cases r1
 obtain⟨z,nm,vs,r,d⟩:=qB I1.hok (.inl ha)
 have hn:=r.length
 refine wpAny_pyIter_dict nm d ?_
 refine⟨s1.heap.objs.size,[s1.heap.objs.size],_,_,H1,rfl,I1.kept fun b o e=>cX _ e,Ci a _ ep kvs.length,⟨_,eZ _ rfl,rfl,by rw[hn]; rfl⟩,fun b hb=>?_,q⟩
 rw[dB.mp hb]
 exact I1.fpOk (bU _) (I1.hok.fresh (bU _))
noncomputable def iDK (f:EF):AF:=fun ρ=>(f ρ).bind fun d=>match d with
 | .dict kds=>if (plK kds&&kds.all fun kd=>cM kd.1)=true then some (kds.map (·.1)) else none
 | _=>none
theorem FD {K:aJ}{H:Hp} : ∀ {kds:List (aA×aA)} {kvs:List (aN×V)} {i:Nat} {kd:aA×aA},Abp K H kds kvs->kds[i]?=some kd -> ∃ kv,kvs[i]?=some kv/\kd.1=kD kv.1/\Abb K H kd.2 kv.2
 | (k,d)::ds,kvs,0,kd,r,e=>by
  obtain⟨k',y,t,rfl,ek,h1,h2⟩:=Aa1.mp r
  cases e
  exact⟨(k',y),rfl,ek,h1⟩
 | (k,d)::ds,kvs,i+1,kd,r,e=>by
  obtain⟨k',y,t,rfl,ek,h1,h2⟩:=Aa1.mp r
  obtain⟨kv,g1,g2⟩:=FD h2 (by simpa using e)
  exact⟨kv,by simpa using g1,g2⟩
theorem Js {K:aJ}{H:Hp}{k:aN}(h:cM (kD k)=true):Abb K H (kD k) (kV k):=by
 cases k with
 | inl i=>exact Aat.mpr rfl
 | inr x=>exact Aas.mpr ⟨rfl,h⟩
theorem Qd {K:aJ}{B:Hp}{a:aD}{ep:Nat}{kvs:List (aN×V)}{kds:List (aA×aA)}(h:B a=some (.dK ep kvs))(r:Abp K B kds kvs)(hl:(kds.all fun kd=>cM kd.1)=true):ItD K B (rS a ep kvs.length) (kds.map (·.1)):=fun i H2 x2=>by
 have h2:=x2 _ _ h
 refine⟨fun d hd=>?_,fun e=>⟨kvs,h2,rfl,by rw[← e,cJ,r.length]; exact bU _⟩⟩
 rw[fH] at hd
 obtain⟨kd,hk,rfl⟩:=oH.mp hd
 obtain⟨kv,g1,g2,g3⟩:=FD r hk
 refine⟨⟨kvs,kv,h2,rfl,g1⟩,?_⟩
 rintro x H3 ⟨rfl,hx⟩
 obtain⟨kv',q1,rfl⟩:=hx kvs h2
 have:=eU (q1.symm.trans g1)
 subst this
 refine⟨Ext.refl,fun P2 _ xb=>?_⟩
 rw[g2]
 have:=fQ.mp hl kd (pS hk)
 exact Js (by rw[← g2]; exact this)
theorem Bu {f:EF}(h:DE X e f):DI X tg e (iDK f):=PI.imp (LJ h) fun σ H R gh=>by
 obtain⟨P,ρ,ds,hP,rs,ef,k⟩:=gh
 obtain⟨d,e1,ef⟩:=XBs ef
 cases d with
 | dict kds=>
  obtain⟨hl,rfl⟩:=cW ef
  refine⟨P,ρ,_,hP,rs,e1,cY fun v H1 x1 r1=>?_⟩
  obtain⟨pk,hl⟩:=iQ.mp hl
  obtain⟨a,kvs,rfl,hq,rr⟩:=(qS pk).mp r1
  exact⟨a,kvs.1,kvs.2,rfl,Aa0 _ _ hq,k _ H1 x1 (Qd hq rr hl)⟩
 | _=>cases ef
end
theorem SG:entryFor table "dict.update.loop" = some Builtin.«dict.update.loop»:=entryFor_of_tree (by kernel_rfl)
theorem AC:plainId "dict.update.loop" = true:=by decide +kernel
theorem Ia:uE (.type "list") "keys" = pure none:=by rw[typeLookup_type,builtinLookup_eq_fast]; kernel_rfl
section
variable {prog:bE}{w:bA}{A:bY}{E:aE->aH->Prop}{s:aH}
set_option maxHeartbeats 4000000 in
theorem Mo {a:aD}{xs:Array aE}{k:Nat}{sl:Array (Option aE)}{Q:Option aE->aH->Prop}(hx:s.heap.get? a=some { cls:=.type "list",dict:=none,data:=.seq xs k,slots:=sl })(hA:A.handled=none)
  (h : ∀ h' tk,(∀ b o,s.heap.get? b=some o->h'.get? b=some o)->Q none { s with heap:=h',toks:=tk }):aP (aQ prog w) A (getAttr? (.ref a) "keys") Q E s:=by
 obtain⟨hp,g,d,tk,os⟩:=s
 have hT : ∀ tk',(⟨hp,g,d,tk',os⟩:aH).TypeIs (.ref a) "list":=fun _=>⟨_,hx,rfl⟩
 have f1:=sub_AttributeError
 have f3:=WJ.lookup
 have f4:=WJ.bind (.ref a)
 have f5:=am_list_getattr_none
 unfold getAttr? getAttrBy? getAttrBy
 repeat (any_goals (first | assumption | exact hT _ | ((with_reducible show aP _ _ (call (xP "list.__getattribute__") _ _) _ _ _); refine call_meets WJ (hT _) am_entry_list_getattribute (F.args_list_getattribute_2 _ _) (meets_getattribute_miss_list a xs k sl _ _ Ia (by decide +kernel)) ⟨hx,hA,fun h' tk' e hx'=>?_⟩) | wp_step))
 obtain⟨t',u',he⟩:=hx'.there
 unfold getattributeRaised
 repeat (any_goals (first | assumption | wp_step))
 exact h _ _ hx'.keeps
def Ant (h:aU)(D:aD)(wr:List aD)(items:Array aE)(kvs:List (aN×aE)):Prop:=
 ∀ (j:Nat) v,items[j]?=some v -> ∃ b kv p,v = .ref b/\kvs[j]?=some p/\h.IsTuple b #[kv,p.2]/\(eJ prog w).is p.1 kv=true/\b≠D/\b∉wr
theorem Ant.keep {h h':aU}{D:aD}{wr:List aD}{items:Array aE}{kvs:List (aN×aE)}(q:Ant (prog:=prog) (w:=w) h D wr items kvs)(k : ∀ b o,b≠D->b∉wr->h.get? b=some o->h'.get? b=some o):Ant (prog:=prog) (w:=w) h' D wr items kvs:=fun j v e=>by
 obtain⟨b,kv,p,rfl,e1,⟨o,e2,e3⟩,e4,e5,e6⟩:=q j v e
 exact⟨b,kv,p,rfl,e1,⟨o,k b o e5 e6 e2,e3⟩,e4,e5,e6⟩
theorem RP : ∀ (more kvs:List (aN×aE)),(mV kvs more).length≤kvs.length+more.length
 | [],kvs=>bU _
 | p::r,kvs=>by
  have h1:=RP r (rD kvs p.1 p.2)
  have h2:(rD kvs p.1 p.2).length≤kvs.length+1:=by
   unfold rD
   split <;> simp
  show(mV (rD kvs p.1 p.2) r).length≤_
  rw[fG]
  omega
theorem Dc {R:oB->aH->Prop}{I:aD}{fp wr:List aD}{G:Array uT->Array uT->Prop}{n:Nat}{items:Array aE}{St:Nat->aH->Prop}
  (W:WalksS prog w A.in1 I fp wr G n (fun i v=>items[i]?=some v) St) (D:aD) (hDf:D∉fp) (kvs:List (aN×aE)) (hn:n≤sizeLine) (hkl:kvs.length=n) :
  ∀ (k i:Nat) (s:aH),n - i=k->i≤n->St i s->s.heap.DictOf (eJ prog w) D (mV [] (kvs.take i))->Ant (prog:=prog) (w:=w) s.heap D wr items kvs ->
   (∀ s',Moved (D::wr) G s s'->s'.heap.DictOf (eJ prog w) D (mV [] kvs)->R (.ok (.ret .none)) s') ->
   iY (aQ prog w) A (.builtin "dict.update.loop" ⟨[.ref D,.ref I,rawInt (i:Int),.none],[]⟩) R s:=by
 have hDw:D∉wr:=fun z=>hDf (W.sub _ z)
 have more : ∀ b∈wr,b∈D::wr:=fun b z=>cD _ z
 intro k
 induction k with
 | zero=>
  intro i s hk hi hst hS hT hR
  obtain rfl:i=n:=by omega
  refine rH SG ?_
  rw[yG AC _]
  refine aM (W.done s _ _ hst fun s' hm=>?_)
  refine aM (aY (aY (hR s' (hm.mono more) ?_)))
  obtain⟨o,es,ep,ho,r⟩:=hS
  rw[← hkl,JA] at r
  exact⟨o,es,ep,hm.heap D o hDw ho,r⟩
 | succ k ih=>
  intro i s hk hi hst hS hT hR
  have hlt:i<n:=by omega
  refine rH SG ?_
  rw[yG AC _]
  refine aM (W.item i s _ _ hlt hst fun v s' hPi hst' hm=>?_)
  have hT':=hT.keep fun b o _ h2 e=>hm.heap b o h2 e
  obtain⟨b,kv,p,rfl,e1,tb,e4,e5,e6⟩:=hT' i v hPi
  have hS':s'.heap.DictOf (eJ prog w) D (mV [] (kvs.take i)):=by
   obtain⟨o,es,ep,ho,r⟩:=hS
   exact⟨o,es,ep,hm.heap D o hDw ho,r⟩
  have hstep:mV [] (kvs.take (i+1))=rD (mV [] (kvs.take i)) p.1 p.2:=by
   rw[JB,e1]
   simp[mV,List.foldl_append]
  have hlen:(mV [] (kvs.take i)).length≤sizeLine:=by
   have:=RP (kvs.take i) []
   rw[oJ] at this
   simp at this
   omega
  refine aM (iX (aM (wpAny_tryCatch ?_)))
  unfold Builtin.Dict.pairItems
  refine aM (uB tb.typeIs ?_)
  obtain⟨ob,g1,g2,nb,g3⟩:=tb
  refine aM (wpAny_seqItems g1 g3 (aY ?_))
  refine iX (wpAny_dictSet_pairs e4 hS' (fun h' d' sb=>?_) hlen)
  refine aY ⟨BD AC _,?_⟩
  refine ih (i+1) _ (by omega) hlt (W.frame _ s' _ _ hst' (uO _) fun c hc o e=>?_) (by rw[hstep]; exact d') (hT'.keep fun b o h1 _ e=>(sb.2 b h1).trans e) fun s'' hm'' S4=>?_
  ·exact(sb.2 c (fun z=>hDf (z ▸ hc))).trans e
  ·exact hR s'' (Moved.trans W.gtrans ((hm.mono more).then_heap (uO _) fun c o hc e=>(sb.2 c (fun z=>hc (z ▸ cC))).trans e) hm'') S4
theorem Ft {l:aD}{items:Array aE}{nl:Nat}{sl:Array (Option aE)}{kvs:List (aN×aE)}{Q:aE->aH->Prop}(hh:A.handled=none)(hl:s.heap.get? l=some { cls:=.type "list",dict:=none,data:=.seq items nl,slots:=sl })
  (hkl:kvs.length=items.size) (hz:items.size≤sizeLine) (hp : ∀ (j:Nat) v,items[j]?=some v -> ∃ b kv p,v = .ref b/\kvs[j]?=some p/\s.heap.IsTuple b #[kv,p.2]/\(eJ prog w).is p.1 kv=true)
  (h : ∀ h' tk,h'.DictOf (eJ prog w) s.heap.objs.size (mV [] kvs)->(∀ b o,s.heap.get? b=some o->h'.get? b=some o)->Q (.ref s.heap.objs.size) { s with heap:=h',toks:=tk }) :
  aP (aQ prog w) A (call (.type "dict") [.ref l]) Q E s:=by
 refine callType_codes (Q₁:=fun obj s₁=>obj = .ref s.heap.objs.size/\s₁ = { s with heap:=s.heap.push { cls:=.type "dict",data:=.dict #[] } }) F.kt_called_dict (F.kt_typeCall_dict_1 _) F.entry_dict_init (kt_code_dict_new _ ⟨rfl,rfl⟩) ?_
 rintro obj s₁ ⟨rfl,rfl⟩
 have dn:(s.heap.push { cls:=.type "dict",data:=.dict #[] }).DictOf (eJ prog w) s.heap.objs.size []:=Heap.DictOf.new s.heap
 have l1:(s.heap.push { cls:=.type "dict",data:=.dict #[] }).get? l=some { cls:=.type "list",dict:=none,data:=.seq items nl,slots:=sl }:=cX _ hl
 refine⟨dn.typeIs,F.args_dict_init_2 _ _,?_⟩
 unfold Builtin.«dict.__init__»
 refine aM ?_
 unfold Builtin.Dict.selfAndRest
 refine aM (wpAny_notOrdered_dict dn.typeIs (aY ?_))
 show aP _ _ (Builtin.Dict.updateFrom "dict.__init__" s.heap.objs.size (.ref l) [] .none) _ _ _
 unfold Builtin.Dict.updateFrom
 refine aM (uB (T:="list") ⟨_,l1,rfl⟩ ?_)
 rw[if_pos (by decide)]
 refine aM (Mo l1 (by simp[hh]) fun h1 tk k1=>?_)
 show aP _ _ (rule _ >>= fun _=>pyIter (.ref l) >>= _) _ _ _
 have l2:h1.get? l=some { cls:=.type "list",dict:=none,data:=.seq items nl,slots:=sl }:=k1 _ _ l1
 have L2:h1.IsList l items:=⟨_,l2,rfl,nl,rfl⟩
 refine aM (wpAny_rule (aM (IE L2 (aY ⟨BD AC _,?_⟩))))
 have lS:l<s.heap.objs.size:=cE hl
 have d1:h1.DictOf (eJ prog w) s.heap.objs.size []:=by
  obtain⟨o,es,ep,ho,r⟩:=dn
  exact⟨o,es,ep,k1 _ _ ho,r⟩
 have sD:s.heap.objs.size<h1.objs.size:=by
  obtain⟨o,es,ep,ho,r⟩:=d1
  exact cE ho
 have nI:l≠h1.objs.size:=dF (xU lS sD)
 have nS:s.heap.objs.size∉[h1.objs.size,l]:=fun z=>by
  rcases cQ.mp z with z | z
  ·exact absurd z (dF sD)
  ·exact absurd (dB.mp z) (rL lS)
 have old : ∀ b o,s.heap.get? b=some o->(h1.push { cls:=.type "list_iterator",data:=.fields #[.ref l,.int 0 0] }).get? b=some o:=fun b o e=>cX _ (k1 _ _ (cX _ e))
 refine Dc (w:=w) ((Walks.list (by simp[hh]) _ l nI items).toS) s.heap.objs.size nS kvs hz hkl (items.size - 0) 0 _ rfl (fP _) ⟨⟨_,eZ _ rfl,rfl,rfl⟩,L2.push _⟩ (d1.push _) ?_ fun s' hm S'=>?_
 ·intro j v e
  obtain⟨b,kv,p,rfl,e1,⟨o,e2,e3⟩,e4⟩:=hp j v e
  have lb:b<s.heap.objs.size:=cE e2
  exact⟨b,kv,p,rfl,e1,⟨o,old b o e2,e3⟩,e4,dF lb,fun z=>absurd (dB.mp z) (dF (xU lb sD))⟩
 ·obtain⟨h',g',d',tk',os'⟩:=s'
  obtain rfl:g'=s.gens:=hm.gens
  obtain rfl:d'=s.drawn:=hm.drawn
  obtain rfl:os'=s.os:=hm.os
  refine⟨rfl,h h' tk' S' fun b o e=>?_⟩
  have lb:b<s.heap.objs.size:=cE e
  refine hm.heap b o (fun z=>?_) (old b o e)
  rcases cQ.mp z with z | z
  ·exact absurd z (dF lb)
  ·exact absurd (dB.mp z) (dF (xU lb sD))
end
theorem Bl {α β:Type}{R R':α->β->Prop}(f : ∀ a b,R a b->R' a b) : ∀ {as:List α} {bs:List β},eO R as bs->eO R' as bs:=by
 intro as bs h
 induction h with
 | nil=>exact .nil
 | cons h _ ih=>exact .cons (f _ _ h) ih
section
variable {X:Cx}
abbrev IA (K:aJ)(H:Hp)(ys:List V)(ps:List (aN×V)):Prop:=eO (fun y (p:aN×V)=>∃ b,y=V.ref b/\SqT K H b [kV p.1,p.2]) ys ps
theorem Pr {pins:List (aD×aX)}{σ:St}{H:Hp}{s:aH}(I:Inv X pins σ H s) : ∀ {ys:List V} {ps:List (aN×V)} {its:List aE},IA X.K H ys ps->Vals ys its ->
  ∃ kvs:List (aN×aE),KV ps kvs/\kvs.length=its.length /\ ∀ (j:Nat) v,its[j]?=some v -> ∃ b kv p,v = .ref b/\kvs[j]?=some p/\s.heap.IsTuple b #[kv,p.2]/\(eJ X.prog X.w).is p.1 kv=true:=by
 intro ys ps its hp
 induction hp generalizing its with
 | nil=>
  intro r
  cases r
  exact⟨[],.nil,rfl,fun j v e=>by simp at e⟩
 | @cons y p ys ps hq t ih=>
  intro r
  obtain⟨b,e,q⟩:=hq
  subst e
  cases r with
  | cons r rr=>
   cases r
   obtain⟨kvs,h1,h2,h3⟩:=ih rr
   obtain⟨us,rv,tb,_⟩:=I.tuple q
   cases rv with
   | cons ra rb=>
    cases rb with
    | cons rb rc=>
     cases rc
     refine⟨(p.1,_)::kvs,.cons ⟨rfl,rb⟩ h1,by simp[h2],fun j v e=>?_⟩
     cases j with
     | zero=>
      cases e
      exact⟨b,_,(p.1,_),rfl,rfl,tb,sL ra⟩
     | succ j=>exact h3 j v (by simpa using e)
theorem Gu (hc:X.calm=true):Adn X (.type "dict") (fun xs H Q=>∃ p ys ps,xs=[.ref p]/\SqL X.K H p ys/\IA X.K H ys ps /\ ∀ q n,H q=none->Q (.ref q) (upd H q (.dK n (oT [] ps)))):=by
 intro pins s σ H xs us Q I r h
 obtain⟨p,ys,ps,rfl,hp,hv,q⟩:=h
 obtain⟨u,rfl,ru⟩:=vals1 r
 cases ru
 obtain⟨its,rv,⟨o,n,ho,hc1,hc2,hc3⟩,hz⟩:=I.list hp
 obtain⟨kvs,h1,h2,h3⟩:=Pr I hv rv
 have e1:=rv.length
 obtain⟨c,dct,dat,sl⟩:=o
 simp only at hc1 hc2 hc3
 subst hc1 hc2 hc3
 refine Ft (I.ok.hd hc) ho (by rw[dY]; exact h2) (by rw[dY]; omega) (fun j v e=>h3 j v (by simpa using e)) fun h' tk dd hk=>?_
 obtain⟨m,da⟩:=dd.dictAt
 have lz:(oT [] ps).length≤sizeLine:=by
  have l1:=SX ps []
  have l2:=rJ h1
  simp at l1
  omega
 exact⟨.ref s.heap.objs.size,_,I.laid hk (bU _) (UK lz (beq_eq_false_iff_ne.mpr (jO (dF I.big))) (h1.merge .nil) da),rfl,q _ m I.fresh⟩
noncomputable def qZ:List aA->Option (List (aN×aA))
 | []=>some []
 | .tuple [k,d]::r=>(cV k).bind fun k=>(qZ r).bind fun ps=>some ((k,d)::ps)
 | _::_=>none
noncomputable def qI (ps:List (aN×aA))(kds:List (aA×aA)):List (aA×aA):=ps.foldl (fun acc p=>putD acc p.1 p.2) kds
noncomputable def qF:List aA->Option aA
 | [.list ds]=>(qZ ds).bind fun ps=>some (.dict (qI ps []))
 | _=>none
theorem Cd {K:aJ}{H:Hp} : ∀ {ps:List (aN×aA)} {qs:List (aN×V)},eO (fun(p:aN×aA) (q:aN×V)=>p.1=q.1/\Abb K H p.2 q.2) ps qs -> ∀ {kds:List (aA×aA)} {kvs:List (aN×V)},Abp K H kds kvs->Abp K H (qI ps kds) (oT kvs qs):=by
 intro ps qs hp
 induction hp with
 | nil=>exact fun r=>r
 | @cons p q ps qs hq t ih=>
  intro kds kvs r
  have:=ih (Nj (k:=p.1) r hq.2)
  show Abp K H (qI _ (putD kds p.1 p.2)) (oT (putK kvs q.1 q.2) _)
  rw[← hq.1]
  exact this
theorem Nw {K:aJ}{H:Hp} : ∀ {ds:List aA} {ps:List (aN×aA)} {ys:List V},qZ ds=some ps->Aau K H ds ys -> ∃ qs:List (aN×V),eO (fun(y:V) (q:aN×V)=>∃ b,y=V.ref b/\H b=some (.tup [kV q.1,q.2])) ys qs/\eO (fun(p:aN×aA) (q:aN×V)=>p.1=q.1/\Abb K H p.2 q.2) ps qs:=by
 intro ds
 induction ds with
 | nil=>
  intro ps ys e r
  cases e
  rw[Aao.mp r]
  exact⟨[],.nil,.nil⟩
 | cons z ds ih=>
  intro ps ys e r
  cases z with
  | tuple zs=>
   cases zs with
   | nil=>cases e
   | cons k zs=>
    cases zs with
    | nil=>cases e
    | cons d zs=>
     cases zs with
     | cons _ _=>cases e
     | nil=>
      obtain⟨key,e1,e⟩:=XBs (show((cV k).bind fun k=>(qZ ds).bind fun ps=>some ((k,d)::ps))=some ps from e)
      obtain⟨ps',e2,e⟩:=XBs e
      cases e
      obtain⟨v,t,rfl,r1,r2⟩:=Aag.mp r
      obtain⟨qs,h1,h2⟩:=ih e2 r2
      obtain⟨b,xs,rfl,hb,rx⟩:=Aay.mp r1
      obtain⟨u1,t1,rfl,a1,a2⟩:=Aag.mp rx
      obtain⟨u2,rfl,a3⟩:=gK a2
      rw[wO e1 a1] at hb
      exact⟨(key,u2)::qs,.cons ⟨b,rfl,hb⟩ h1,.cons ⟨rfl,a3⟩ h2⟩
  | _=>cases e
theorem Gp {K:aJ}:CallD K 1 (fun xs H Q=>∃ p ys ps,xs=[.ref p]/\SqL K H p ys/\IA K H ys ps /\ ∀ q n,H q=none->Q (.ref q) (upd H q (.dK n (oT [] ps)))) qF:=fun P H xs ds d Q hP r e k=>by
 unfold qF at e
 split at e
 ·obtain⟨ps,e1,e2⟩:=XBs e
  cases e2
  obtain⟨v,rfl,r'⟩:=gK r
  obtain⟨q,ys,rfl,hq,rr⟩:=Abg.mp r'
  obtain⟨qs,h1,h2⟩:=Nw e1 rr
  refine⟨q,ys,qs,rfl,Aa0.sqL hq,?_,fun l n hn=>k.dic hP hn (Cd h2 (Abl.mpr rfl))⟩
  exact Bl (fun y p ⟨b,e,hb⟩=>⟨b,e,SqT.of (Aa0 _ _ hb)⟩) h1
 ·cases e
end
abbrev TE3:=List aA×aD×aE
theorem Acf.length {K:aJ}{H:Hp} : ∀ {kds:List (aA×aA)} {ts:List (List aA×V)},Acf K H kds ts->ts.length=kds.length
 | [],ts,h=>by rw[Aco.mp h]; rfl
 | (k,d)::r,ts,h=>by
  obtain⟨k',x,rr,rfl,_,_,h2⟩:=Aa9.mp h
  simp[Acf.length h2]
section
variable {X:Cx}{H0:Hp}{P0:aD->Prop}{n0:Nat}{x:aB}{e k:aS}{f g:EF}{pos px apos:bG}
theorem Ez {prog:bE}{w:bA}(d:aD)(hd:(d == iB)=false) :
  MeetsIn prog w (Builtin.«dict.__len__» ⟨[.ref d],[]⟩) (fun _ R s=>∃ xs,s.heap.DictOfH (nM prog w) d xs/\R (.ok (.ret (.int xs.length s.toks))) { s with toks:=s.toks+1 }):=
 .of_wp fun A R s gh=>by
  obtain⟨xs,hm,h⟩:=gh
  obtain⟨o,es,ep,ho,hc,hdat,hes,_,_⟩:=hm
  show aP _ _ (dictSize d >>= _) _ _ s
  unfold dictSize
  refine aM (aM (IG ho hdat (aY ?_)))
  refine aM (wpAny_pendingCount_other hd (wpAny_ret_mkInt ?_))
  have:=size_of_entries hes
  rw[Nat.add_zero,this]
  exact h
theorem XI {prog:bE}{w:bA}{A:bY}{E:aE->aH->Prop}{s:aH}{d:aD}{xs:List TE3}{Q:aE->aH->Prop}(hd:(d == iB)=false)(hm:s.heap.DictOfH (nM prog w) d xs)(hz:(xs.length:Int)<2 ^ 63)(h : ∀ t s',s' = { s with toks:=s.toks+1+1 }->Q (.int xs.length t) s') :
  aP (aQ prog w) A (call (.builtin "len") [.ref d]) Q E s:=by
 refine WL kind_len plain_len entry_len (args_len1 _) ?_
 unfold Builtin.«len»
 refine aM (aY ?_)
 refine aM (BB hm.typeIs F.slot_dict_len (call_meetsIn F.slot_dict_len hm.typeIs F.entry_dict_len (F.args_dict_len_1 _) (Ez d hd) ⟨xs,hm,?_⟩))
 refine aM (iX (aY ?_))
 refine aM (wpAny_letGo ?_)
 rw[if_neg (by omega)]
 rw[if_neg (by omega)]
 exact aM (wpAny_mkInt (aY ⟨_,rfl,h _ _ rfl⟩))
theorem FV:Adn X (.builtin "len") (fun xs H Q=>∃ a ep ts,xs=[V.ref a]/\H a=some (.dT ep ts)/\Q (.int ts.length) H):=by
 intro pins s σ H xs us Q I r h
 obtain⟨a,ep,ts,rfl,ha,q⟩:=h
 obtain⟨u,rfl,ru⟩:=vals1 r
 cases ru
 obtain⟨z,hd,ys,kt,dd⟩:=LG I.hok ha
 have e:=rJ kt
 refine XI hd dd (by rw[← e]; rw[uG] at z; omega) fun t s' es=>?_
 subst es
 exact⟨.int ts.length,H,I.tok _,⟨t,by rw[e]⟩,q⟩
noncomputable def sI:List aA->Option aA
 | [.dict ((.none,.none)::kds)]=>some (.int kds.length)
 | _=>none
theorem GN {K:aJ}:CallD K 0 (fun xs H Q=>∃ a ep ts,xs=[V.ref a]/\H a=some (.dT ep ts)/\Q (.int ts.length) H) sI:=fun P H xs ds d Q hP r e k=>by
 unfold sI at e
 split at e
 ·cases e
  obtain⟨v,rfl,r'⟩:=gK r
  obtain⟨a,ts,rfl,ha,rr⟩:=(pC).mp r'
  exact⟨a,ts.1,ts.2,rfl,Aa0 _ _ ha,k.zero Ext.refl (Aat.mpr (by rw[rr.length]))⟩
 ·cases e
end
noncomputable def kS (c:aB):aA->Option (aA×aA)
 | .dict [(.none,.str c'),(.none,.tuple [.str a,W]),(.none,.tuple [.str b,D])]=>if c'=c/\a = "wide" /\ b = "held" then some (W,D) else none
 | _=>none
theorem zJ {c:aB}{d:aA}{p:aA×aA}(h:kS c d=some p):d=dC c p.1 p.2:=by
 unfold kS at h
 split at h
 ·obtain⟨⟨rfl,rfl,rfl⟩,rfl⟩:=cW h
  rfl
 ·cases h
theorem FF (c:aB)(W D:aA):kS c (dC c W D)=some (W,D):=by simp[kS,dC]
noncomputable def kT (c:aB)(d:aA):Option aA:=(kS c d).map (·.1)
noncomputable def hJ (c:aB)(d:aA):Option aA:=(kS c d).map (·.2)
structure InsC (K:aJ)(c:aB):Prop where
 ex : ∃ C,dM K c=some (.ref C)/\Cls K C/\Ajm K C "wide" /\ Ajm K C "held"
theorem qM {K:aJ}{c:aB}{C C':aD}(h:dM K c=some (.ref C))(h':dM K c=some (.ref C')):C'=C:=by
 rw[h] at h'
 injection h' with h'
 injection h' with h'
 exact h'.symm
theorem PQ (w q:V):iO ("wide" : aB) [(("wide" : aB),w),("held",q)]=some w:=by simp[iO]
theorem FW (w q:V):iO ("held" : aB) [(("wide" : aB),w),("held",q)]=some q:=by
 have:(("held" : aB) == ("wide" : aB))=false:=by decide +kernel
 simp[iO,this]
section
variable {X:Cx}{e o:aS}{es:List aS}{f fo:EF}{fa:AF}{c m:aB}{pos apos:bG}{k n:Nat}{ps:List aB}{F:FX}
theorem yV (T:InsC X.K c)(h:DE X e f)(hb:pO e "wide" X.env (bJ e X.env)=bJ e X.env:=by rfl):DE X (.Attribute e "wide" pos) (eUn (kT c) f):=
 PE.imp (vQ h hb) fun σ H Q gh=>by
  obtain⟨P,ρ,d,hP,rs,ef,k⟩:=gh
  obtain⟨d1,e1,ef⟩:=XBs ef
  refine⟨P,ρ,d1,hP,rs,e1,cY fun v H1 x1 r1=>?_⟩
  obtain⟨p,ep,rfl⟩:=oH.mp ef
  rw[zJ ep] at r1
  obtain⟨C,dx,a,w,q,rfl,hc,ha,h1,h2⟩:=zH r1
  obtain⟨C',c1,c2,c3,c4⟩:=T.ex
  obtain rfl:=qM c1 hc
  exact⟨a,_,dx,_,w,rfl,Aa0 _ _ ha,c2,c3,PQ w q,k.zero x1 h1⟩
theorem oU (T:InsC X.K c)(h:DE X e f)(hb:pO e "held" X.env (bJ e X.env)=bJ e X.env:=by rfl):DE X (.Attribute e "held" pos) (eUn (hJ c) f):=
 PE.imp (vQ h hb) fun σ H Q gh=>by
  obtain⟨P,ρ,d,hP,rs,ef,k⟩:=gh
  obtain⟨d1,e1,ef⟩:=XBs ef
  refine⟨P,ρ,d1,hP,rs,e1,cY fun v H1 x1 r1=>?_⟩
  obtain⟨p,ep,rfl⟩:=oH.mp ef
  rw[zJ ep] at r1
  obtain⟨C,dx,a,w,q,rfl,hc,ha,h1,h2⟩:=zH r1
  obtain⟨C',c1,c2,c3,c4⟩:=T.ex
  obtain rfl:=qM c1 hc
  exact⟨a,_,dx,_,q,rfl,Aa0 _ _ ha,c2,c4,FW w q,k.zero x1 h2⟩
theorem mI {ce:aS}(h:CallAt X ce n F fa):DF n X ce (aO (F none) fa):=fun pins s σ H Q I gh=>by
 obtain⟨P,ρ,d,hP,rs,ef,k⟩:=gh
 obtain⟨ds,e1,ef⟩:=XBs ef
 exact h I hP rs e1 ef k fun H1 s1 v s' I1 x1 hc=>by
  obtain⟨_,_,_,_,_,_,_,_,_,_,_,_,_,_,⟨c',z,_⟩,_⟩:=hc
  cases z
theorem sF {ce:aS}{H0:Hp}{P0:aD->Prop}{z:Option aB}(m:Md)(hz : ∀ c,z=some c->XOk X H0 c)(h:CallAt X ce n F fa):PE X ce (tE X.K H0 P0 n m (aO (F z) fa)):=by
 cases z with
 | none=>exact ev m (mI h)
 | some c=>
  intro pins s σ H Q I hq
  obtain⟨B0,ρ0,fp,d0,S,_,_⟩:=id hq
  obtain⟨P,ρ,d,hP,rs,ef,k⟩:=yJ m σ H Q hq
  obtain⟨ds,e1,ef⟩:=XBs ef
  exact h I hP rs e1 ef k fun H1 s1 v s' I1 x1 hc=>(hz c rfl).pass pins σ H1 s1 v s' I1 (hc.imp fun cls H' ⟨⟨c',z1,z2⟩,z3⟩=>by
   cases z1
   exact⟨z2,S.ext.trans (x1.trans z3)⟩)
theorem UB {fa':aD}{fd:fJ}{pins:List (aD×aX)}{σ:St}{H1:Hp}{s1:aH}{us:List aE}{vs:List V}{P:aD->Prop}{ds:List aA}{d:aA}{z:Option aB}{Q:VK}(Fk:FnOk X.prog X.w X.K X.mg X.base (CXR X.base X.prog X.w) k fa' fd ps (spX X.K n F))(hr:Room k X.A)(hb:Binds X.K fd ps [])
  (I1:Inv X pins σ H1 s1) (r:Vals vs us) (hP:Hid P H1) (rd:Aau X.K (hid H1 P) ds vs) (ef:F z ds=some d) (k':Res X.K P n d H1 Q)
  (hx : ∀ v s',CXR X.base X.prog X.w X.stack H1 s1 (fun cls _ H'=>(∃ c,z=some c/\dM X.K c=some cls)/\Ext H1 H') v s'->X.xe v s'):aP (aQ X.prog X.w) X.A (call (.ref fa') us) (EP X pins σ Q) X.xe s1:=by
 have q:spX X.K n F vs H1 Q (fun cls _ H'=>(∃ c,z=some c/\dM X.K c=some cls)/\Ext H1 H'):=⟨P,ds,d,z,hP,rd,ef,k',fun c hc cls H' e2 x2=>⟨⟨c,hc,e2⟩,x2⟩⟩
 have hl:us.length=ps.length:=by rw[← r.length]; exact Fk.len _ _ _ _ q
 have hbs:rR s1 fd ⟨us,[]⟩ (ps.zip us):=by
  have:=hb s1 us I1.kIn (by simpa using hl)
  simpa using this
 refine wpAny_call (rG (Fk.run X.A X.stack s1 H1 ⟨us,[]⟩ us vs Q _ hr I1.env0 hbs r q) fun r s' hq=>?_)
 cases r with
 | error e=>exact hx e s' hq
 | ok fl=>
  cases fl with
  | ret u=>exact I1.after hq
  | next=>exact jB hq
  | brk=>exact jB hq
  | cont=>exact jB hq
structure MethX (P:bE)(w:bA)(K:aJ)(mg:aB->Option aE)(base:aU)(c m:aB)(k:Nat)(ps:List aB)(sp:Sp):Prop where
 ex : ∃ C f fd,dM K c=some (.ref C)/\Cls K C/\Meth K C m f/\FnOk P w K mg base (CXR base P w) k f fd ps sp/\Binds K fd ps []
noncomputable def cZ (c:aB)(fo:EF)(fa:AF):AF:=fun ρ=>(fo ρ).bind fun d=>if (kS c d).isSome=true then(fa ρ).bind fun ds=>some (d::ds) else none
theorem QQ {ρ:List (Option aA)}{ds:List aA}(h:cZ c fo fa ρ=some ds) : ∃ W D ds',fo ρ=some (dC c W D)/\fa ρ=some ds'/\ds=dC c W D::ds':=by
 obtain⟨d,e1,h⟩:=XBs h
 by_cases q:(kS c d).isSome=true
 ·rw[if_pos q] at h
  obtain⟨ds',e2,h⟩:=XBs h
  cases h
  obtain⟨p,ep⟩:=VS.mp q
  have:=zJ ep
  subst this
  exact⟨_,_,ds',e1,e2,rfl⟩
 ·rw[if_neg q] at h; cases h
theorem hX {pl:Sem Bool}(M:MethX X.prog X.w X.K X.mg X.base c m k ps (spX X.K n F))(hr:Room k X.A)(ho:DE X o fo)(ha:DA X (e::es) fa)(hlk : ∀ w q:V,iO m [(("wide" : aB),w),("held",q)]=none:=by intro _ _; rfl)
  (hst:bI (e::es) X.env=(false,bJ e X.env)::bI es X.env:=by rfl) (hpl:(fF pos (bI es X.env)).any (·.1)=false:=by rfl)
  (ht:bJ (.Call (.Attribute o m apos) (e::es) [] pos) X.env=(do
   let ov ← bJ o X.env
   rE apos.atName
   let (f,first) ← lU [ov] (xM ov m pl)
   callWith pos f first (fF pos (bI (e::es) X.env)) (uK pos (uI [] X.env))):=by rfl):CallAt X (.Call (.Attribute o m apos) (e::es) [] pos) n F (cZ c fo fa):=by
 intro pins σ H s z Q P ρ ds d I hP rs e1 ef k' hx
 obtain⟨C,f,fd,hc,cl,me,Fk,hb⟩:=M.ex
 obtain⟨W,D,ds',e0,e1',rfl⟩:=QQ e1
 refine VD (pl:=pl) (thn (ho pins s σ H (fun v H1=>Ext H H1/\Abb X.K (hid H1 P) (dC c W D) v) I ⟨P,ρ,_,hP,rs,e0,cY fun v H1 x1 r1=>⟨x1,r1⟩⟩) fun u s1 ⟨x,H1,I1,rx,x1,r1⟩=>?_) ht
 obtain⟨C',dx,a,w,q,rfl,hc',ha',h1,h2⟩:=zH r1
 obtain rfl:=qM hc hc'
 obtain rfl:u=dS a:=rx
 refine GT I1 (Aa0 _ _ ha') cl me (hlk w q) ?_
 refine IS (first:=[.ref a]) (h₀:=X.base) I.ok.mod.kin me.kp (thn (ha pos pins s1 σ H1 (fun vs H2=>Ext H1 H2/\Aau X.K (hid H2 P) ds' vs) I1 ⟨P,ρ,ds',hP.ext x1,rs.ext (cI x1),e1',fun vs H2 x2 r2=>⟨x2,r2⟩⟩) fun us s2 ⟨vs,H2,I2,r,x2,r2⟩=>⟨I2.kIn,?_⟩) hst hpl
 exact UB (us:=.ref a::us) (vs:=.ref a::vs) Fk hr hb I2 (.cons rfl r) (hP.ext (x1.trans x2)) (Aag.mpr ⟨_,_,rfl,r1.ext (cI x2),r2⟩) ef (k'.mono (x1.trans x2)) fun v s' hc=>hx H2 s2 v s' I2 (x1.trans x2) hc
theorem tJ {pl:Sem Bool}(M:MethX X.prog X.w X.K X.mg X.base c m k ps (spX X.K n F))(hr:Room k X.A)(ho:DE X o fo)(hlk : ∀ w q:V,iO m [(("wide" : aB),w),("held",q)]=none:=by intro _ _; rfl)
  (ht:bJ (.Call (.Attribute o m apos) [] [] pos) X.env=(do
   let ov ← bJ o X.env
   rE apos.atName
   let (f,first) ← lU [ov] (xM ov m pl)
   callWith pos f first (fF pos (bI [] X.env)) (uK pos (uI [] X.env))):=by rfl):CallAt X (.Call (.Attribute o m apos) [] [] pos) n F (cZ c fo aK):=by
 intro pins σ H s z Q P ρ ds d I hP rs e1 ef k' hx
 obtain⟨C,f,fd,hc,cl,me,Fk,hb⟩:=M.ex
 obtain⟨W,D,ds',e0,e1',rfl⟩:=QQ e1
 cases e1'
 refine VD (pl:=pl) (thn (ho pins s σ H (fun v H1=>Ext H H1/\Abb X.K (hid H1 P) (dC c W D) v) I ⟨P,ρ,_,hP,rs,e0,cY fun v H1 x1 r1=>⟨x1,r1⟩⟩) fun u s1 ⟨x,H1,I1,rx,x1,r1⟩=>?_) ht
 obtain⟨C',dx,a,w,q,rfl,hc',ha',h1,h2⟩:=zH r1
 obtain rfl:=qM hc hc'
 obtain rfl:u=dS a:=rx
 refine GT I1 (Aa0 _ _ ha') cl me (hlk w q) ?_
 exact PySem.W.callWith_K0 (first:=[.ref a]) I1.kIn me.kp (UB (us:=[.ref a]) (vs:=[.ref a]) Fk hr hb I1 (.cons rfl .nil) (hP.ext x1) (Aag.mpr ⟨_,_,rfl,r1,Aao.mpr rfl⟩) ef (k'.mono x1) fun v s' hc=>hx H1 s1 v s' I1 x1 hc)
noncomputable def DC (K:aJ)(c:aB)(F:FX):Sp:=fun vs H Q E=>∃ x dx C v1 P d1 d z,vs=[.ref x,v1]/\H x=some (.ins C dx [])/\dM K c=some (.ref C)/\Hid P H/\Abb K (hid H P) d1 v1/\F z [d1]=some d /\
 (∀ H' Fr,(∀ b o,b≠x->H b=some o->H' b=some o)->Fr.Nodup->(∀ a∈Fr,(a=x \/ H a=none) /\ ∃ o,H' a=some o)->Agc K (hid H' (orL P Fr)) H' 9 d (.ref x) Fr->Q .non H') /\ ∀ c',z=some c' -> ∀ cls H',dM K c'=some cls->Ext H H'->E cls none H'
structure MakeX (P:bE)(w:bA)(K:aJ)(mg:aB->Option aE)(base:aU)(c:aB)(k:Nat)(ps:List aB)(F:FX):Prop where
 ex : ∃ C f fd,dM K c=some (.ref C)/\Mk K C f/\FnOk P w K mg base (CXR base P w) k f fd ps (DC K c F)/\Binds K fd ps []/\mg c=some (.ref C)
 one : ∀ z ds d,F z ds=some d -> ∃ d1,ds=[d1]
theorem Lv {p:bG}(D:MakeX X.prog X.w X.K X.mg X.base c k ps F)(hr:Room (k+1) X.A)(hg:Gl X c)(ha:DA X (e::es) fa)(hdb:(c == ("__debug__" : aB))=false:=by decide)(he:bI (e::es) X.env=(false,bJ e X.env)::bI es X.env:=by rfl)
  (hpl:(fF pos (bI es X.env)).any (·.1)=false:=by rfl):CallAt X (.Call (.Name c p) (e::es) [] pos) 9 F fa:=by
 intro pins σ H s z Q P ρ ds d I hP rs e1 ef k' hx
 obtain⟨C,f,fd,hc,M,Fk,hb,hm⟩:=D.ex
 obtain⟨d1,rfl⟩:=D.one _ _ _ ef
 refine IH (sY I hg hm ?_ hdb)
 refine IS (h₀:=X.base) I.ok.mod.kin M.kp (thn (ha pos pins s σ H (fun vs H1=>Ext H H1/\Aau X.K (hid H1 P) [d1] vs) I ⟨P,ρ,_,hP,rs,e1,fun vs H1 x1 r1=>⟨x1,r1⟩⟩) fun us s1 ⟨vs,H1,I1,r,x1,r1⟩=>⟨I1.kIn,?_⟩) he hpl
 obtain⟨v1,rfl,r3⟩:=gK r1
 obtain⟨u1,rfl,ru⟩:=vals1 r
 have fx:H1 (s1.heap.objs.size+1)=none:=I1.hok.fresh (uO _)
 have fdx:H1 s1.heap.objs.size=none:=I1.hok.fresh (bU _)
 have I2:=Inv.made (C:=C) I1
 have x2:Ext H1 (upd (upd H1 s1.heap.objs.size (.own (s1.heap.objs.size+1))) (s1.heap.objs.size+1) (.ins C s1.heap.objs.size [])):=fun b o q=>by
  rw[bP (gY q fx),bP (gY q fdx)]
  exact q
 have hq:DC X.K c F [.ref (s1.heap.objs.size+1),v1] (upd (upd H1 s1.heap.objs.size (.own (s1.heap.objs.size+1))) (s1.heap.objs.size+1) (.ins C s1.heap.objs.size [])) (fun v H2=>v = .non/\Q (.ref (s1.heap.objs.size+1)) H2)
   (fun cls _ H'=>(∃ c,z=some c/\dM X.K c=some cls)/\Ext (upd (upd H1 s1.heap.objs.size (.own (s1.heap.objs.size+1))) (s1.heap.objs.size+1) (.ins C s1.heap.objs.size [])) H'):=by
  refine⟨_,_,C,v1,P,d1,d,z,rfl,eL,hc,hP.ext (x1.trans x2),r3.ext (cI x2),ef,fun H' Fr kp nd fr ro=>⟨rfl,?_⟩,fun c' hc' cls H' e2 x3=>⟨⟨c',hc',e2⟩,x3⟩⟩
  refine k' _ H' Fr (fun b o q=>?_) nd (fun a m=>⟨?_,(fr a m).2⟩) ro
  ·exact kp b o (gY (x1 _ _ q) fx) (x2 _ _ (x1 _ _ q))
  ·rcases(fr a m).1 with rfl | q
   ·exact x1.none fx
   ·exact x1.none (x2.none q)
 have r2:Vals [V.ref (s1.heap.objs.size+1),v1] [dS (s1.heap.objs.size+1),u1]:=.cons rfl (.cons ru .nil)
 have hl:[dS (s1.heap.objs.size+1),u1].length=ps.length:=by
  have e:=r2.length
  rw[Fk.len _ _ _ _ hq] at e
  exact e.symm
 have hbs:rR { s1 with heap:=(s1.heap.push mX).push (oG C s1.heap.objs.size) } fd ⟨[dS (s1.heap.objs.size+1),u1],[]⟩ (ps.zip [dS (s1.heap.objs.size+1),u1]):=by
  have:=hb { s1 with heap:=(s1.heap.push mX).push (oG C s1.heap.objs.size) } [dS (s1.heap.objs.size+1),u1] I2.kIn (by simpa using hl)
  simpa using this
 refine wpAny_call (Ob (f:=f) I1.kIn M.makes M.init (beq_iff_eq.mp M.fn) (rG (Fk.run _ X.stack _ _ ⟨[dS (s1.heap.objs.size+1),u1],[]⟩ [dS (s1.heap.objs.size+1),u1] _ _ _ (hr.make C [u1] [])
  (I2.env0.make C [u1] []) hbs r2 hq) fun r s' hq'=>?_))
 cases r with
 | error e=>exact hx _ _ e s' I2 (x1.trans x2) hq'
 | ok fl=>
  cases fl with
  | ret u=>
   obtain⟨v,H',I3,rv,ev,q3⟩:=I2.after hq'
   subst ev
   exact⟨rv,⟨V.ref (s1.heap.objs.size+1),H',I3,rfl,q3⟩⟩
  | next=>exact jB hq'
  | brk=>exact jB hq'
  | cont=>exact jB hq'
end
def leS (a b:aB):Prop:=a.cps.toList≤b.cps.toList
theorem Cw {a b c:aB}(h1:leS a b)(h2:leS b c):leS a c:=WA h1 h2
theorem Ov {a b:aB}(h1:leS a b)(h2:leS b a):a=b:=by
 have e:=List.le_antisymm h1 h2
 obtain⟨x⟩:=a
 obtain⟨y⟩:=b
 have e':x.toList=y.toList:=e
 rw[JM.mp e']
theorem RK : ∀ {p:aB} {l:List aB},risingS p l=true->(∀ x∈l,leS p x)/\l.Pairwise leS
 | p,[],_=>⟨fun x m=>by simp at m,.nil⟩
 | p,x::r,h=>by
  have h':=h
  obtain⟨h1,h2⟩:=iQ.mp h'
  rw[ltCps_eq] at h1
  have l1:leS p x:=by
   have:decide (x.cps.toList<p.cps.toList)=false:=by simpa using h1
   exact List.not_lt.mp (of_decide_eq_false this)
  obtain⟨a1,a2⟩:=RK h2
  refine⟨fun y m=>?_,.cons a1 a2⟩
  rcases cQ.mp m with rfl | m
  ·exact l1
  ·exact Cw l1 (a1 y m)
theorem SK : ∀ {l:List aB},sortedS l=true->l.Pairwise leS
 | [],_=>.nil
 | x::r,h=>by
  obtain⟨a1,a2⟩:=RK h
  exact .cons a1 a2
noncomputable def cT (ss:List aB):List aB:=open Classical in if h : ∃ js:List aB,js.Perm ss/\js.Pairwise leS then h.choose else ss
theorem FZ {ss js:List aB}(hp:js.Perm ss)(hr:js.Pairwise leS):js=cT ss:=by
 have h : ∃ js:List aB,js.Perm ss/\js.Pairwise leS:=⟨js,hp,hr⟩
 unfold cT
 rw[dif_pos h]
 exact Rb (fun a b _ _ h1 h2=>Ov h1 h2) hr h.choose_spec.2 (hp.trans h.choose_spec.1.symm)
section
variable {X:Cx}
theorem HZ : ∀ {ns:List aB} {vs:List aE},Vals (ns.map V.str) vs->StrsAre vs ns
 | [],_,.nil=>.nil
 | n::ns,_,.cons ⟨t,e⟩ r=>by
  subst e
  exact .cons n t (HZ r)
theorem HS : ∀ {ns:List aB} {vs:List aE},StrsAre vs ns->Vals (ns.map V.str) vs
 | _,_,.nil=>.nil
 | _,_,.cons n t h=>.cons ⟨t,rfl⟩ (HS h)
theorem Hu:Adn X (.builtin "sorted") (fun xs H Q=>∃ p,∃ ns:List aB,xs=[.ref p]/\SqL X.K H p (ns.map V.str)/\ns.length<64 /\ ∀ (l:aD) (ns':List aB),H l=none->ns'.Perm ns->ns'.Pairwise leS->Q (.ref l) (upd H l (.lst (ns'.map V.str)))):=by
 intro pins s σ H xs us Q I r h
 obtain⟨p,ns,rfl,hp,hl,q⟩:=h
 obtain⟨u,rfl,ru⟩:=vals1 r
 cases ru
 obtain⟨its,rv,pl,hz⟩:=I.list hp
 have e1:ns.length=its.length:=by simpa using rv.length
 refine sorted_strs pl.isList (HZ rv) (by omega) fun out ns' h1 h2 h3=>?_
 obtain⟨e,he⟩:=sortedAll_at s.heap its out
 have hn:=I.hok.fresh (uO _)
 have lz:(ns'.map V.str).length≤sizeLine:=by
  rw[cJ,h2.length_eq]
  simpa using hz
 exact⟨.ref (s.heap.objs.size+1),_,I.laid (t':=s.toks) (o:=.lst (ns'.map V.str)) (fun b ob g=>sortedAll_old g) (uO _) ⟨lz,out.toList,e,HS h1,he⟩,rfl,q _ ns' hn h2 (SK h3)⟩
noncomputable def nU:List aA->Option (List aB)
 | []=>some []
 | .str i::r=>(nU r).bind fun is=>some (i::is)
 | _::_=>none
theorem ED : ∀ {ds:List aA} {is:List aB},nU ds=some is->ds=is.map bK
 | [],is,e=>by cases e; rfl
 | .str i::ds,is,e=>by
  obtain⟨is',e1,e2⟩:=XBs (show((nU ds).bind fun is=>some (i::is))=some is from e)
  cases e2
  rw[ED e1]
  rfl
 | .none::_,_,e=>by cases e
 | .bool _::_,_,e=>by cases e
 | .int _::_,_,e=>by cases e
 | .list _::_,_,e=>by cases e
 | .tuple _::_,_,e=>by cases e
 | .dict _::_,_,e=>by cases e
theorem FO : ∀ ss:List aB,nU (ss.map bK)=some ss
 | []=>rfl
 | s::ss=>by
  show((nU (ss.map bK)).bind fun is=>some (s::is))=_
  rw[FO ss]
  rfl
theorem HH {K:aJ}{H:Hp} : ∀ {is:List aB} {ys:List V},Aau K H (is.map bK) ys->ys=is.map V.str /\ ∀ i∈is,cM (.str i)=true
 | [],ys,r=>⟨Aao.mp r,fun i m=>by simp at m⟩
 | i::is,ys,r=>by
  obtain⟨v,t,rfl,r1,r2⟩:=Aag.mp r
  obtain⟨e1,c1⟩:=Aas.mp r1
  obtain⟨e2,c2⟩:=HH r2
  refine⟨by rw[e1,e2]; rfl,fun j m=>?_⟩
  rcases cQ.mp m with rfl | m
  ·exact c1
  ·exact c2 j m
theorem GO {K:aJ}{H:Hp} : ∀ {is:List aB},(∀ i∈is,cM (.str i)=true)->Aau K H (is.map bK) (is.map V.str)
 | [],_=>Aao.mpr rfl
 | i::is,h=>Aag.mpr ⟨_,_,rfl,Aas.mpr ⟨rfl,h i cC⟩,GO fun j m=>h j (cD _ m)⟩
noncomputable def vN:List aA->Option aA
 | [.list ds]=>(nU ds).bind fun is=>if is.length<64 then some (.list ((cT is).map bK)) else none
 | _=>none
theorem Gk {K:aJ}:CallD K 1 (fun xs H Q=>∃ p,∃ ns:List aB,xs=[.ref p]/\SqL K H p (ns.map V.str)/\ns.length<64 /\ ∀ (l:aD) (ns':List aB),H l=none->ns'.Perm ns->ns'.Pairwise leS->Q (.ref l) (upd H l (.lst (ns'.map V.str)))) vN:=fun P H xs ds d Q hP r e k=>by
 unfold vN at e
 split at e
 ·obtain⟨is,e1,e2⟩:=XBs e
  obtain⟨hl,rfl⟩:=cW e2
  obtain rfl:=ED e1
  obtain⟨v,rfl,r'⟩:=gK r
  obtain⟨q,ys,rfl,hq,rr⟩:=Abg.mp r'
  obtain⟨rfl,hc⟩:=HH rr
  refine⟨q,is,rfl,Aa0.sqL hq,hl,fun l ns' hn hp hr=>?_⟩
  have hc' : ∀ i∈ns',cM (.str i)=true:=fun i m=>hc i (hp.mem_iff.mp m)
  obtain rfl:=FZ hp hr
  exact k.lst hP hn (GO hc')
 ·cases e
theorem Pj {ss:List aB}(h:ss.length<64):vN [.list (ss.map bK)]=some (.list ((cT ss).map bK)):=by
 show((nU (ss.map bK)).bind _)=_
 rw[FO]
 show(if ss.length<64 then _ else _)=_
 rw[if_pos h]
variable {x:aB}{k n0:Nat}{ps:List aB}{F:List aA->Option aA}{p pos:bG}
end
open PySem PySem.SetTable
noncomputable def lp (mask:Nat)(s:Nat×Nat):Nat->Nat×Nat
 | 0=>s
 | m+1=>leap mask (lp mask s m).1 (lp mask s m).2
open PySem PySem.Spec PyProof.Rows PySem.SetTable
noncomputable abbrev Apv (led:Bool):aX:={ cls:=.type "set",dict:=none,data:=.set #[] 0 (.fresh 0 0 led) }
theorem UN {α β:Type}{R:α->β->Prop} : ∀ {as:List α} {bs:List β},eO R as bs -> ∀ {i:Nat} {a:α},as[i]?=some a -> ∃ b,bs[i]?=some b/\R a b
 | _,_,.nil,i,a,h=>by simp at h
 | _,_,.cons h t,0,a,e=>⟨_,rfl,by simp at e; exact e ▸ h⟩
 | _,_,.cons h t,i+1,a,e=>UN t (by simpa using e)
theorem MH {α β:Type}{R:α->β->Prop} : ∀ {as:List α} {bs:List β},eO R as bs -> ∀ {i:Nat} {b:β},bs[i]?=some b -> ∃ a,as[i]?=some a/\R a b
 | _,_,.nil,i,a,h=>by simp at h
 | _,_,.cons h t,0,a,e=>⟨_,rfl,by simp at e; exact e ▸ h⟩
 | _,_,.cons h t,i+1,a,e=>MH t (by simpa using e)
noncomputable abbrev isO (a:aD)(o:aX):HO:=.ext fun h=>h.get? a=some o
noncomputable instance memK (k:aN)(acc:List aN):Decidable (k∈acc):=decidable_of_iff (acc.any (fun x=>decide (x=k))=true) (by simp[List.any_eq_true])
noncomputable def gP (acc:List aN)(k:aN):List aN:=if k∈acc then acc else acc++[k]
noncomputable def fD (ks:List aN):List aN:=ks.foldl gP []
theorem En (ks:List aN):(fD ks).length≤ks.length:=by
 have go : ∀ (l acc:List aN),(l.foldl gP acc).length≤acc.length+l.length:=by
  intro l
  induction l with
  | nil=>intro acc; simp
  | cons x r ih=>
   intro acc
   have h2:(gP acc x).length≤acc.length+1:=by unfold gP; split <;> simp
   have:=ih (gP acc x)
   simp only[BS,fG]
   omega
 have:=go ks []
 simpa [fD] using this
def Avv (prog:bE)(w:bA)(h:aU)(a:aD)(ks:List aN):Prop:=h.SetOf (eJ prog w) a (fun k=>decide (k∈ks)) ks.length
section
variable {prog:bE}{w:bA}{A:bY}{E:aE->aH->Prop}{s:aH}
theorem Qi {h:aU}{a:aD}{led:Bool}(e:h.get? a=some (Apv led)):Avv prog w h a []:=
 ⟨_,#[],0,_,e,⟨rfl,rfl,rfl⟩,rfl,fun e he=>by simp at he,fun k=>by simp,by decide,by rfl,rfl⟩
theorem Avv.keep {h h':aU}{a:aD}{ks:List aN}(S:Avv prog w h a ks)(k : ∀ o,h.get? a=some o->h'.get? a=some o):Avv prog w h' a ks:=by
 obtain⟨o,es,ep,t,ho,rest⟩:=S
 exact⟨o,es,ep,t,k o ho,rest⟩
theorem Avv.congr {h:aU}{a:aD}{S:aN->Bool}{n:Nat}{ks:List aN}(x:h.SetOf (eJ prog w) a S n)(e1 : ∀ k,S k=decide (k∈ks))(e2:n=ks.length):Avv prog w h a ks:=by
 have:S=fun k=>decide (k∈ks):=funext e1
 subst this
 subst e2
 exact x
theorem Dx {R:oB->aH->Prop}{I:aD}{fp wr:List aD}{G:Array uT->Array uT->Prop}{n:Nat}{P:Nat->aE->Prop}{St:Nat->aH->Prop}
  (W:WalksS prog w A.in1 I fp wr G n P St) (S:aD) (hSf:S∉fp) (kss:List aN) (hn:n+1<BC) (hP : ∀ j v,P j v -> ∃ q,kss[j]?=some q/\(eJ prog w).is q v=true/\v.scannable=true) :
  ∀ (k i:Nat) (s:aH),n - i=k->i≤n->St i s->Avv prog w s.heap S (fD (kss.take i)) ->
   (∀ s',Moved (S::wr) G s s'->Avv prog w s'.heap S (fD (kss.take n))->R (.ok (.ret .none)) s') ->
   iY (aQ prog w) A (.builtin "set.update.loop" ⟨[.ref S,.ref I],[]⟩) R s:=by
 have hSw:S∉wr:=fun z=>hSf (W.sub _ z)
 have more : ∀ b∈wr,b∈S::wr:=fun b z=>cD _ z
 intro k
 induction k with
 | zero=>
  intro i s hk hi hst hS hR
  obtain rfl:i=n:=by omega
  refine rH F.entry_set_update_loop ?_
  rw[yG WK _]
  refine aM (W.done s _ _ hst fun s' hm=>?_)
  exact aY (hR s' (hm.mono more) (hS.keep fun o q=>hm.heap S o hSw q))
 | succ k ih=>
  intro i s hk hi hst hS hR
  have hlt:i<n:=by omega
  refine rH F.entry_set_update_loop ?_
  rw[yG WK _]
  refine aM (W.item i s _ _ hlt hst fun v s' hPi hst' hm=>?_)
  obtain⟨q,hq,his,hsc⟩:=hP i v hPi
  have hS':=hS.keep fun o z=>hm.heap S o hSw z
  have hstep:fD (kss.take (i+1))=gP (fD (kss.take i)) q:=by
   rw[JB,hq]
   simp[fD,List.foldl_append]
  have hlen:(fD (kss.take i)).length≤i:=jQ (En _) (by rw[oJ]; omega)
  refine aM (iX ?_)
  unfold setAdd
  refine iX (aM ((eJ prog w).pyHash his ?_))
  refine wpAny_setAddHashed_of his hsc hS' (by omega) fun h' sb S2=>?_
  have S3:Avv prog w h' S (fD (kss.take (i+1))):=by
   rw[hstep]
   refine Avv.congr S2 (fun k'=>?_) ?_
   ·unfold gP
    by_cases m:q∈fD (kss.take i)
    ·rw[if_pos m]
     by_cases c:k'=q
     ·subst c; simp[m]
     ·simp[c]
    ·rw[if_neg m]
     simp
   ·unfold gP
    by_cases m:q∈fD (kss.take i)
    ·simp[m]
    ·simp[m]
  refine aY ⟨BD WK _,ih (i+1) _ (by omega) hlt (W.frame _ s' _ _ hst' (uO _) fun c hc o e=>?_) S3 fun s'' hm'' S4=>?_⟩
  ·exact(sb.2 c (fun z=>hSf (z ▸ hc))).trans e
  ·exact hR s'' (Moved.trans W.gtrans ((hm.mono more).then_heap (uO _) fun c o hc e=>(sb.2 c (fun z=>hc (z ▸ cC))).trans e) hm'') S4
set_option maxHeartbeats 4000000 in
theorem Cf {l:aD}{items:Array aE}{kss:List aN}{Q:aE->aH->Prop}(hh:A.handled=none)(hl:s.heap.IsList l items)
  (hd : ∀ (j:Nat) v,items[j]?=some v -> ∃ q,kss[j]?=some q/\(eJ prog w).is q v=true/\v.scannable=true) (hlen:items.size+1<BC) (hkl:kss.length=items.size)
  (h : ∀ (h':aU) (tk:Nat),s.toks≤tk->Avv prog w h' s.heap.objs.size (fD kss)->(∀ b o,b<s.heap.objs.size->s.heap.get? b=some o->h'.get? b=some o)->Q (.ref s.heap.objs.size) { s with heap:=h',toks:=tk }) :
  aP (aQ prog w) A (call (.type "set") [.ref l]) Q E s:=by
 obtain⟨c,tl,hmro⟩:=rM.mro
 have hmade:=rM.made
 have hsub:=rM.sub
 refine wpAny_call (codeAny_of_tree (show aP _ _ (callAny (.type "set") _) _ _ _ from ?_))
 refine aY ⟨Code.quiet_builtin _ (by decide +kernel),rH F.entry_type_call ?_⟩
 rw[Around.under_plain (weight_type_call_type "set" [.ref l] []) rfl]
 have z1:=rM.notType
 have z2:=rM.canCreate
 have z3:=F.typeCall_set_1 (.ref l)
 repeat (any_goals (first | assumption | wp_step))
 refine rG (code_set_new_1 (.ref l) (E:=E) (Q₁:=fun u s₁=>∃ led:Bool,u = .ref s.heap.objs.size/\s₁ = { s with heap:=s.heap.push (Apv led) }) fun led=>⟨led,rfl,rfl⟩) fun r s₁ hr=>?_
 match r,hr with
 | .error e,hr=>exact hr
 | .ok (.ret u),hr=>
  obtain⟨led,rfl,rfl⟩:=hr
  have gS:(s.heap.push (Apv led)).get? s.heap.objs.size=some (Apv led):=eZ _ rfl
  have hT:Shared.TypeIs { s with heap:=s.heap.push (Apv led) } (.ref s.heap.objs.size) "set":=⟨_,gS,rfl⟩
  have y1:=rM.init.lookup
  have y2:=rM.init.bind (.ref s.heap.objs.size)
  repeat (any_goals (first | assumption | wp_step))
  refine rG (UX (R:=wants (fun r s₂=>r = .none /\ ∃ h' tk,s.toks≤tk/\s₂ = { s with heap:=h',toks:=tk }/\Avv prog w h' s.heap.objs.size (fD kss)/\(∀ b o,b<s.heap.objs.size->s.heap.get? b=some o->h'.get? b=some o)) E) rM.init.plain F.entry_set_init (check_set_init_1 hT ?_)) fun r₂ s₂ hr₂=>?_
  ·obtain⟨ol,gl,cl,nl,dl⟩:=hl
   obtain⟨ocls,odict,odata,oslots⟩:=ol
   simp only at cl dl
   subst cl
   subst dl
   have gl':(s.heap.push (Apv led)).get? l=some { cls:=.type "list",dict:=odict,data:=.seq items nl,slots:=oslots }:=cX _ gl
   have x1:=F.sub_list_set
   have x2:=F.sub_list_frozenset
   have x3:(lF "list" == lF "dict")=false:=by decide
   have L1:(s.heap.push (Apv led)).IsList l items:=⟨_,gl',rfl,nl,rfl⟩
   unfold Builtin.«set.__init__» noKeywords Builtin.Frozenset.updateFrom
   generalize hPI:pyIter=PI
   wp_walk
   subst hPI
   refine IE L1 (aM (wpAny_runValue ?_))
   have lS:l<s.heap.objs.size:=cE gl
   have hI:(s.heap.push (Apv led)).objs.size=s.heap.objs.size+1:=JF _ _
   have nI:l≠(s.heap.push (Apv led)).objs.size:=by rw[hI]; exact dF (IV lS)
   have nS:s.heap.objs.size∉[(s.heap.push (Apv led)).objs.size,l]:=by
    intro z
    rw[hI] at z
    rcases cQ.mp z with z | z
    ·exact absurd z (dF (VU _))
    ·exact absurd (dB.mp z) (rL lS)
   have gI:((s.heap.push (Apv led)).push { cls:=.type "list_iterator",data:=.fields #[.ref l,.int 0 0] }).get? s.heap.objs.size=some (Apv led):=cX _ gS
   refine Dx (w:=w) ((Walks.list (by simp[hh]) _ l nI items).toS) s.heap.objs.size nS kss hlen hd (items.size - 0) 0 _ rfl (fP _) ⟨⟨_,eZ _ rfl,rfl,rfl⟩,L1.push _⟩ (Qi gI) fun s' hm S'=>?_
   ·obtain⟨h',g',d',tk',os'⟩:=s'
    obtain rfl:g'=s.gens:=hm.gens
    obtain rfl:d'=s.drawn:=hm.drawn
    obtain rfl:os'=s.os:=hm.os
    show aP _ _ _ _ _ _
    refine aY ?_
    show aP _ _ (ret gL) _ _ _
    refine aY ⟨rfl,h',tk',hm.toks,rfl,by rw[← JA (l:=kss),hkl]; exact S',fun b o hb e=>?_⟩
    refine hm.heap b o (fun z=>?_) (cX _ (cX _ e))
    rw[hI] at z
    rcases cQ.mp z with z | z
    ·exact absurd z (dF hb)
    ·exact absurd (dB.mp z) (dF (IV hb))
  ·match r₂,hr₂ with
   | .error e,hr₂=>exact hr₂
   | .ok (.ret v),hr₂=>
    obtain⟨rfl,h',tk,ht,rfl,S',hk'⟩:=hr₂
    repeat (any_goals (first | assumption | wp_step))
    exact h _ _ ht S' hk'
end
def LH (prog:bE)(w:bA)(o:aX)(ks:List aN):Prop:=∃ es ep t,o.ExactSet/\o.data = .set es ep t/\ElemsOf (eJ prog w) es.toList/\(∀ k,k∈ks ↔ ∃ e∈es.toList,(eJ prog w).is k e.2=true)/\es.size<BC/\t.fits es.size=true/\es.size=ks.length
section
variable {X:Cx}
theorem Fc (hc:X.calm=true):Adn X (.type "set") (fun xs H Q=>∃ p ks,xs=[.ref p]/\SqL X.K H p (ks.map kV)/\ks.length≤4000 /\ ∀ a o,H a=none->LH X.prog X.w o (fD ks)->Q (.ref a) (upd H a (isO a o))):=by
 intro pins s σ H xs us Q I r h
 obtain⟨p,ks,rfl,hp,hl,q⟩:=h
 obtain⟨u,rfl,ru⟩:=vals1 r
 cases ru
 obtain⟨its,rv,pl,_⟩:=I.list hp
 have e1:=rv.length
 rw[cJ] at e1
 refine Cf (I.ok.hd hc) pl.isList (fun j v ev=>?_) (by rw[dY]; unfold BC; omega) (by rw[dY]; omega) fun h' tk ht S' hk=>?_
 ·have ev':its[j]?=some v:=by simpa using ev
  obtain⟨y,hy,ry⟩:=MH rv ev'
  rw[fH] at hy
  obtain⟨k,hk,rfl⟩:=oH.mp hy
  refine⟨k,hk,sL ry,?_⟩
  cases k with
  | inl i=>obtain⟨t,rfl⟩:=ry; rfl
  | inr z=>obtain⟨t,rfl⟩:=ry; rfl
 ·obtain⟨o,es,ep,t,ho,hex,hd,hel,hmem,hb,hf,hn⟩:=S'
  have I':=I.laid (t':=tk) (h':=h') (o:=isO s.heap.objs.size o) (fun b u e=>hk b u (cE e) e) (bU _) (show Acy X.prog X.w _ _ _ (.ext _) from⟨ho,⟨o,ho⟩,fun _ _ e k=>k _ e⟩)
  exact⟨.ref s.heap.objs.size,_,I',rfl,q _ o I.fresh ⟨es,ep,t,hex,hd,hel,fun k=>by rw[← hmem k]; simp,hb,hf,hn⟩⟩
theorem Fb:Adn X (.builtin "len") (fun xs H Q=>∃ a o ks,xs=[.ref a]/\H a=some (isO a o)/\LH X.prog X.w o ks/\Q (.int ks.length) H):=by
 intro pins s σ H xs us Q I r h
 obtain⟨a,o,ks,rfl,ha,⟨es,ep,t,hx,hd,_,_,hb,hf,hz⟩,q⟩:=h
 obtain⟨u,rfl,ru⟩:=vals1 r
 cases ru
 obtain⟨g,_,_⟩:=(show Acy X.prog X.w H s.heap a (.ext _) from I.hok a _ ha)
 exact call_len_set g hx hd hf (by unfold BC at hb; omega) ⟨.int ks.length,H,I.tok _,⟨s.toks+1,by rw[hz]⟩,q⟩
noncomputable def rA:List aA->Option (List aN)
 | []=>some []
 | d::r=>(cV d).bind fun k=>(rA r).bind fun ks=>some (k::ks)
theorem PD {K:aJ}{H:Hp} : ∀ {ds:List aA} {ks:List aN} {ys:List V},rA ds=some ks->Aau K H ds ys->ys=ks.map kV
 | [],ks,ys,e,r=>by cases e; exact Aao.mp r
 | d::ds,ks,ys,e,r=>by
  obtain⟨k,e1,e⟩:=XBs e
  obtain⟨ks',e2,e⟩:=XBs e
  cases e
  obtain⟨v,t,rfl,r1,r2⟩:=Aag.mp r
  rw[wO e1 r1,PD e2 r2]
  rfl
noncomputable def NZ:List aA->Option aA
 | [.list ds]=>(rA ds).bind fun ks=>if ks.length≤4000 then some (.int (fD ks).length) else none
 | _=>none
theorem Ge {e:aS}{fe:EF}{p1 p2 pos1 pos2:bG}(hc:X.calm=true)(g1:Gl X "len")(m1:X.mg "len" = none)(g2:Gl X "set")(m2:X.mg "set" = none)(he:DE X e fe)
  (hs1:bI [Expr.Call (.Name "set" p2) [e] [] pos2] X.env=[(false,bJ (Expr.Call (.Name "set" p2) [e] [] pos2) X.env)]:=by rfl) (hs2:bI [e] X.env=[(false,bJ e X.env)]:=by rfl) :
  DE X (.Call (.Name "len" p1) [.Call (.Name "set" p2) [e] [] pos2] [] pos1) (aO NZ (aG fe aK)):=by
 have h1:PE X (.Call (.Name "set" p2) [e] [] pos2) _:=QW (Fc hc) g2 m2 rfl (kY he nG hs2) (by decide) (by decide) hs2 rfl
 have h2:PE X (.Call (.Name "len" p1) [.Call (.Name "set" p2) [e] [] pos2] [] pos1) _:=wL Fb g1 m1 rfl (kY h1 nG hs1) (by decide) (by decide) hs1 rfl
 refine PE.imp h2 fun σ H Q gh=>?_
 obtain⟨P,ρ,d,hP,rs,ef,k⟩:=gh
 obtain⟨ds0,e0,ef⟩:=XBs ef
 obtain⟨d1,e1,e0⟩:=XBs e0
 have e0:[d1]=ds0:=by simpa [aK] using e0
 subst e0
 cases d1 with
 | list ds=>
  obtain⟨ks,e2,ef⟩:=XBs (show((rA ds).bind fun ks=>if ks.length≤4000 then some (aZ (fD ks).length) else none)=some d from ef)
  obtain⟨hl,rfl⟩:=cW ef
  refine⟨P,ρ,.list ds,hP,rs,e1,cY fun v H1 x1 r1=>?_⟩
  obtain⟨q,ys,rfl,hq,rr⟩:=Abg.mp r1
  obtain rfl:=PD e2 rr
  exact⟨q,ks,rfl,Aa0.sqL hq,hl,fun a o hn S=>⟨a,o,fD ks,rfl,eL,S,k.zero (x1.trans (Ext.new hn)) (Aat.mpr rfl)⟩⟩
 | _=>cases ef
end
open PySem PySem.Spec PySem.W PyProof.Rows PySem.SetTable
theorem FN {α:Type}(xs:List α)(d:α):(dG xs.length).map (fun i=>xs.getD i d)=xs:=by
 apply List.ext_getElem
 ·simp
 ·intro i h1 h2
  simp at h1
  simp[h1]
section
variable {prog:bE}{w:bA}{A:bY}{E:aE->aH->Prop}{s:aH}
theorem Ph {h0:aU}{a:aD}{n:Nat}{vs:List aE}{kss:List (List aA)}{P:PySem.Fin->aH->Prop}(ho:s.heap.get? a=some (lE "list" vs.toArray n))(ht:Ag5 h0 vs kss)(kp : ∀ b o,h0.get? b=some o->(jL s.heap a vs).get? b=some o)(ok:okT kss=true)(h64:vs.length<64)
  (h : ∀ p:List Nat,p.Perm (dG vs.length)->p.map (fun i=>kss.getD i [])=jX kss->P (.done (.ret .none)) { s with heap:=sortedHeap s.heap a vs (jR (p.map fun i=>vs.getD i gL)) }) :
  aP (aQ prog w) A (Builtin.«list.sort» ⟨[.ref a],[]⟩) P E s:=by
 have ln:=rJ ht
 by_cases h2:vs.length<2
 ·refine Oo ho h2 ?_
  have:=h (dG vs.length) (List.Perm.refl _) (by
   rw[ln,FN kss]
   refine PV ok (List.Perm.refl _) ?_
   match kss,ln with
   | [],_=>exact .nil
   | [k],_=>simp
   | _::_::_,ln=>simp at ln; omega)
  rw[FN vs] at this
  exact this
 ·have hs:sameAll kss=true/\(kss.all fun k=>(mJ k).isSome)=true:=by
   have h2' : ¬ kss.length<2:=by omega
   have:(sameAll kss&&kss.all fun k=>(mJ k).isSome)=true:=by simpa [okT,h2'] using ok
   exact iQ.mp this
  obtain⟨k0,m0⟩ : ∃ k0,k0∈kss:=by
   cases hk:kss with
   | nil=>rw[hk] at ln; exact absurd ln (by simp; intro e; rw[e] at h2; simp at h2)
   | cons k r=>exact⟨k,cC⟩
  obtain⟨T,hT⟩:=VS.mp (fQ.mp hs.2 k0 m0)
  have sm : ∀ k∈kss,∀ k'∈kss,hE k k'=true:=fun k m k' m'=>fQ.mp (fQ.mp hs.1 k m) k' m'
  have ht':=ht.keep kp
  refine Nh (κ:=tuples' (lF T != lF "tuple")) (ZZ kss) ho (by omega) h64 (fun R q=>?_) (fun i j C hi hj q=>?_) fun p hp ha=>?_
  ·obtain⟨fs,f1,f2,f3⟩:=QF (M:=aQ prog w) ht' fun k m=>(same_kind (sm k m k0 m0)).trans hT
   exact kat_kind f1 (by omega) f3 (by rcases Lj hT with rfl | rfl <;> decide) q
  ·obtain⟨b,e1,⟨_,_,as,r1⟩,m1⟩:=ht'.get i hi
   obtain⟨b',e2,⟨_,_,as',r2⟩,m2⟩:=ht'.get j hj
   rw[e1,e2]
   obtain⟨_,o,xs,n,z,ho,_,hd,hr⟩:=tQ r1
   cases z
   obtain⟨_,o',xs',n',z,ho',_,hd',hr'⟩:=tQ r2
   cases z
   have hsm:=sm _ m1 _ m2
   have l1:=FT hr
   have l2:=FT hr'
   have ll:=FU hsm
   have:decide (xs.size<xs'.size)=false:=decide_eq_false (by simp only[oO] at l1 l2; omega)
   refine kat_lt (s:={ s with heap:=jL s.heap a vs }) ho hd ho' hd' ?_
   rw[this]
   exact DJ _ _ 0 hsm hr hr' q
  ·have hp':p.toList.Perm (dG vs.length):=by simpa using Array.perm_iff_toList_perm.mp hp
   have pl:p.toList.length=vs.length:=by rw[hp'.length_eq,List.length_range]
   refine h p.toList hp' (PV ok ?_ ?_)
   ·have:=hp'.map (fun i=>kss.getD i [])
    rw[ln,FN kss] at this
    exact this
   ·rw[xV,List.pairwise_iff_getElem]
    intro i j hi hj hij
    refine Aiw.mpr ?_
    have:=ha i j (BO hij) (by omega)
    have e1:at' p i=p.toList[i]:=by simp at hi; simp[at',hi]
    have e2:at' p j=p.toList[j]:=by simp at hj; simp[at',hj]
    rw[e1,e2] at this
    exact of_decide_eq_false this
theorem LK {α β:Type}{R:α->β->Prop}{as:List α}{bs:List β}(h:eO R as bs)(x:α)(y:β) : ∀ p:List Nat,(∀ i∈p,i<as.length)->eO R (p.map fun i=>as.getD i x) (p.map fun i=>bs.getD i y)
 | [],_=>.nil
 | i::p,hi=>by
  refine .cons ?_ (LK h x y p fun j m=>hi j (cD _ m))
  have hlt:=hi i cC
  obtain⟨b,hb,r⟩:=UN h (iP hlt)
  have e1:as.getD i x=as[i]:=by simp[hlt]
  have e2:bs.getD i y=b:=by simp[hb]
  show R (as.getD i x) (bs.getD i y)
  rw[e1,e2]
  exact r
end
theorem Qu {a:aD}{ep:Nat}{kvs:List (aN×V)}{g:TG}{tb:TS}{D:Ends}{σ:St}{H:Hp}(Pv:Nat->St->Hp->Prop)(h0:Pv 0 σ H)(hl : ∀ i σ H,i≤kvs.length->Pv i σ H->H a=some (.dK ep kvs))
  (hs : ∀ i kv σ H,kvs[i]?=some kv->Pv i σ H->g (kV kv.1) σ H fun σ2 H2=>tb { D with nx:=Pv (i+1),ct:=Pv (i+1),bk:=D.nx } σ2 H2) (hd : ∀ σ H,Pv kvs.length σ H->D.nx σ H) :
  ∃ W:Nat->Nat->St->Hp->Prop,(∃ m,W 0 m σ H) /\ ∀ i m σ H,W i m σ H ->
   ((rS a ep kvs.length).stop i H/\D.nx σ H) \/ ((rS a ep kvs.length).go i H /\ ∃ N:St->Hp->Prop,(∀ σ' H',N σ' H' -> ∃ m',m'<m/\W (i+1) m' σ' H') /\ ∀ x H',(rS a ep kvs.length).yld i H x H'->g x σ H' fun σ2 H2=>tb { D with nx:=N,ct:=N,bk:=D.nx } σ2 H2):=by
 refine⟨fun i m σ H=>m=kvs.length - i/\i≤kvs.length/\Pv i σ H,⟨kvs.length,by simp,fP _,h0⟩,?_⟩
 rintro i m σ H ⟨rfl,hi,p⟩
 have q:=hl i σ H hi p
 by_cases hlt:i<kvs.length
 ·refine .inr ⟨⟨kvs,kvs[i],q,rfl,by simp[hlt]⟩,Pv (i+1),fun σ' H' p'=>⟨kvs.length - (i+1),by omega,rfl,hlt,p'⟩,fun x H' y=>?_⟩
  obtain⟨rfl,y⟩:=y
  obtain⟨kv,h1,rfl⟩:=y kvs q
  exact hs i kv σ _ h1 p
 ·have e:i=kvs.length:=by omega
  subst e
  exact .inl ⟨⟨kvs,q,rfl,bU _⟩,hd σ H p⟩
section
variable {X:Cx}
theorem Jb (hc:X.calm=true):Adn X (.builtin "sorted") (fun xs H Q=>∃ a ep kvs,∃ ns:List aB,xs=[.ref a]/\H a=some (.dK ep kvs)/\(kvs.map fun kv=>kV kv.1)=ns.map V.str/\ns.length<64 /\ ∀ (l:aD) (ns':List aB),H l=none->ns'.Perm ns->ns'.Pairwise leS->Q (.ref l) (upd H l (.lst (ns'.map V.str)))):=by
 intro pins s σ H xs us Q I r h
 obtain⟨a,ep1,kvs,ns,rfl,ha,hk,hl,q⟩:=h
 obtain⟨u,rfl,ru⟩:=vals1 r
 cases ru
 obtain⟨z,nm,es,ep,D,rv,el⟩:=Au I ha
 have hh:=I.ok.hd hc
 refine WL kind_sorted plain_sorted entry_sorted (args_sorted1 _) ?_
 unfold Builtin.«sorted»
 have hkl:kvs.length=ns.length:=by simpa using congrArg uP hk
 refine aM (aY (aM (SQ (by simp[hh]) nm D (by omega) fun s' acc hkp hg hd hos hacc=>aM (IF ?_ (by
  have:=hacc.1
  rw[oO,this]
  omega)))))
 obtain⟨h',g',d',tk',os'⟩:=s'
 have e1:=hg
 have e2:=hd
 have e3:=hos
 subst e1 e2 e3
 rw[← PR hacc,hk] at rv
 have hS:=HZ rv
 have hlen:acc.toList.length<64:=by
  have:=hacc.1
  rw[oO,this]
  omega
 generalize acc.toList=vs at rv hS hlen
 have hoL:(h'.push (lE "list" vs.toArray 0)).get? h'.objs.size=some (lE "list" vs.toArray 0):=eZ _ rfl
 refine aM (iX (rC slot_list_sort ⟨_,hoL,rfl⟩ entry_list_sort (list_sort_treeK strKind_oneLt hoL hS.keysOf (fun v₁ v₂ rest e=>keyKind_strs (by rw[← e]; exact hS)) hlen fun st' a1 a2=>⟨_,rfl,?_⟩) (args_list_sort _)))
 refine aY ⟨_,rfl,?_⟩
 obtain⟨ss',h1,h2,h3⟩:=sorted_out_str hS a1 a2
 obtain⟨e,he⟩:=sortedHeap_at hoL
 have I1:Inv X pins σ H { s with heap:=h',toks:=tk' }:=I.kept (t':=tk') hkp
 refine⟨.ref h'.objs.size,_,I1.laid (t':=tk') (a:=h'.objs.size) (o:=.lst (ss'.map V.str)) (fun b ob eb=>?_) (bU _) ⟨by rw[cJ,h2.length_eq]; omega,_,e,HS h1,he⟩,rfl,q _ ss' I1.fresh h2 (SK h3)⟩
 have hb:=cE (show h'.get? b=some ob from eb)
 rw[sortedHeap_old (dF hb) (by rw[size_push']; exact IV hb),Heap.get?_push_ne _ _ _ (dF hb)]
 exact eb
noncomputable def yX:List aA->Option aA
 | [.dict kds]=>(nU (kds.map (·.1))).bind fun is=>if (plK kds&&kds.all fun kd=>cM kd.1)=true/\is.length<64 then some (.list ((cT is).map bK)) else none
 | _=>none
theorem Ho {K:aJ}:CallD K 1 (fun xs H Q=>∃ a ep kvs,∃ ns:List aB,xs=[.ref a]/\H a=some (.dK ep kvs)/\(kvs.map fun kv=>kV kv.1)=ns.map V.str/\ns.length<64 /\ ∀ (l:aD) (ns':List aB),H l=none->ns'.Perm ns->ns'.Pairwise leS->Q (.ref l) (upd H l (.lst (ns'.map V.str)))) yX:=fun P H xs ds d Q hP r e k=>by
 unfold yX at e
 split at e
 ·obtain⟨is,e1,e2⟩:=XBs e
  obtain⟨⟨hl,hn⟩,rfl⟩:=cW e2
  obtain⟨pk,hl⟩:=iQ.mp hl
  obtain⟨v,rfl,r'⟩:=gK r
  obtain⟨a,kvs,rfl,hq,rr⟩:=(qS pk).mp r'
  have rk:=QD rr fun kd m=>fQ.mp hl kd m
  rw[ED e1] at rk
  obtain⟨ek,hc⟩:=HH rk
  refine⟨a,kvs.1,kvs.2,is,rfl,Aa0 _ _ hq,ek,hn,fun l ns' hf hp hr=>?_⟩
  have hc' : ∀ i∈ns',cM (.str i)=true:=fun i m=>hc i (hp.mem_iff.mp m)
  obtain rfl:=FZ hp hr
  exact k.lst hP hf (GO hc')
 ·cases e
theorem Jc (hc:X.calm=true):Adn X (.builtin "sorted") (fun xs H Q=>∃ a ep,∃ kvs:List (List aA×V),xs=[.ref a]/\H a=some (.dT ep kvs)/\okT (kvs.map (·.1))=true/\kvs.length<64 /\ ∀ (l:aD) (as:List aD),H l=none->eO (fun(k:List aA) (b:aD)=>Alw H k b) (jX (kvs.map (·.1))) as->Q (.ref l) (upd H l (.lst (as.map V.ref)))):=by
 intro pins s σ H xs us Q I r h
 obtain⟨a,ep,kvs,rfl,ha,ok,hl,q⟩:=h
 obtain⟨u,rfl,ru⟩:=vals1 r
 cases ru
 obtain⟨z,nm,ys,kt,o,es,e1,e2,e3,e4,_⟩:=(show Acy X.prog X.w H s.heap a (.dT ep kvs) from I.hok a _ ha)
 have el:es.size=kvs.length:=by
  have:=congrArg uP e4
  rw[cJ,← rJ kt] at this
  simpa using this
 have hp:eO (fun(p:List aA×V) (b:aD)=>Alw H p.1 b) kvs (ys.map fun y=>y.2.1):=Qo kt
 have rv:Vals ((ys.map fun y=>y.2.1).map V.ref) (es.toList.map (·.key)):=by
  rw[e4]
  exact QJ ys
 have hh:=I.ok.hd hc
 generalize(ys.map fun y=>y.2.1)=as at hp rv
 refine WL kind_sorted plain_sorted entry_sorted (args_sorted1 _) ?_
 unfold Builtin.«sorted»
 refine aM (aY (aM (SQ (by simp[hh]) nm ⟨o,e1,e2,e3⟩ (by omega) fun s' acc hkp hg hd hos hacc=>aM (IF ?_ (by
  have:=hacc.1
  rw[oO,this]
  omega)))))
 obtain⟨h',g',d',tk',os'⟩:=s'
 have e1:=hg
 have e2:=hd
 have e3:=hos
 subst e1 e2 e3
 rw[← PR hacc] at rv
 have hlen:acc.toList.length<64:=by
  have:=hacc.1
  rw[oO,this]
  omega
 generalize acc.toList=vs at rv hlen
 have rf:KR H (as.map V.ref) (kvs.map (·.1)):=by
  clear rv ha ok hl q z kt el
  induction hp with
  | nil=>exact .nil
  | cons h t ih=>exact .cons ⟨_,rfl,h⟩ ih
 have tv:=LS I.hok rf rv
 have hoL:(h'.push (lE "list" vs.toArray 0)).get? h'.objs.size=some (lE "list" vs.toArray 0):=eZ _ rfl
 refine aM (iX (rC slot_list_sort ⟨_,hoL,rfl⟩ entry_list_sort (Ph hoL tv (fun b ob eb=>?_) ok hlen fun p hp' hs=>⟨_,rfl,?_⟩) (args_list_sort _)))
 ·have hb:=cE (hkp b ob eb)
  exact Lg b ob (dF hb) (cX _ (hkp b ob eb))
 refine aY ⟨_,rfl,?_⟩
 obtain⟨e,he⟩:=sortedHeap_at hoL
 have I1:Inv X pins σ H { s with heap:=h',toks:=tk' }:=I.kept (t':=tk') hkp
 have hv:vs.length=as.length:=by simpa using rv.length.symm
 have hi : ∀ i∈p,i<as.length:=fun i m=>by
  have:=pR.mp (hp'.mem_iff.mp m)
  omega
 have pk:=LK rf (V.ref 0) [] p (by simpa using hi)
 have pv:Vals (p.map fun i=>(as.map V.ref).getD i (V.ref 0)) (p.map fun i=>vs.getD i gL):=by
  have : ∀ q:List Nat,(∀ i∈q,i<as.length)->Vals (q.map fun i=>(as.map V.ref).getD i (V.ref 0)) (q.map fun i=>vs.getD i gL):=fun q=>by
   induction q with
   | nil=>exact fun _=>.nil
   | cons i q ih=>
    intro h
    refine .cons ?_ (ih fun j m=>h j (cD _ m))
    have hi:=h i cC
    show RelV ((as.map V.ref).getD i (V.ref 0)) (vs.getD i gL)
    obtain⟨u,g1,g2⟩:=Vals.get (i:=i) (x:=.ref as[i]) rv (by simp[hi])
    have:(as.map V.ref).getD i (V.ref 0) = .ref as[i]:=by simp[List.getD,hi]
    rw[this]
    have:vs.getD i gL=u:=by simp[List.getD,g1]
    rw[this]
    exact g2
  exact this p hi
 rw[hs] at pk
 have em:(p.map fun i=>(as.map V.ref).getD i (V.ref 0))=(p.map fun i=>as.getD i 0).map V.ref:=by
  rw[eX]
  refine pT fun i m=>?_
  simp[List.getD,hi i m]
 rw[em] at pk pv
 have pk2:eO (fun(k:List aA) (b:aD)=>Alw H k b) (jX (kvs.map (·.1))) (p.map fun i=>as.getD i 0):=by
  generalize(p.map fun i=>as.getD i 0)=bs at pk
  generalize jX (kvs.map (·.1))=kss at pk
  clear pv em he hs
  induction bs generalizing kss with
  | nil=>cases pk; exact .nil
  | cons b bs ih=>
   cases pk with
   | cons h t=>
    obtain⟨b',e',h⟩:=h
    cases e'
    exact .cons h (ih _ t)
 have hz:((p.map fun i=>as.getD i 0).map V.ref).length≤sizeLine:=by
  rw[cJ,cJ,hp'.length_eq,List.length_range,uG]
  omega
 refine⟨.ref h'.objs.size,_,I1.laid (t':=tk') (a:=h'.objs.size) (o:=.lst ((p.map fun i=>as.getD i 0).map V.ref)) (fun b ob eb=>?_) (bU _) ⟨hz,_,e,pv,he⟩,rfl,q _ _ I1.fresh pk2⟩
 have hb:=cE (show h'.get? b=some ob from eb)
 rw[sortedHeap_old (dF hb) (by rw[size_push']; exact IV hb),Heap.get?_push_ne _ _ _ (dF hb)]
 exact eb
noncomputable def yZ:List aA->Option aA
 | [.dict ((.none,.none)::kds)]=>(kQ (kds.map (·.1))).bind fun kss=>if okT kss=true/\kss.length<64 then some (.list ((jX kss).map gG)) else none
 | _=>none
theorem zD {K:aJ}{H:Hp} : ∀ {kds:List (aA×aA)} {ts:List (List aA×V)},Acf K H kds ts->kds.map (·.1)=(ts.map (·.1)).map gG
 | [],ts,r=>by rw[Aco.mp r]; rfl
 | (k,d)::kds,ts,r=>by
  obtain⟨k',x,rr,rfl,⟨rfl,_⟩,h1,h2⟩:=Aa9.mp r
  rw[cR,zD h2]
  rfl
theorem MA {K:aJ}{H1 G:Hp}(x : ∀ c ys,H1 c=some (.tup ys)->G c=some (.tup ys)) : ∀ {kss:List (List aA)} {as:List aD},eO (fun(k:List aA) (b:aD)=>Alw H1 k b) kss as->Aau K G (kss.map gG) (as.map V.ref)
 | _,_,.nil=>Aao.mpr rfl
 | _,_,.cons h t=>Aag.mpr ⟨_,_,rfl,(h.keep x).rep,MA x t⟩
theorem Ht {K:aJ}:CallD K 1 (fun xs H Q=>∃ a ep,∃ kvs:List (List aA×V),xs=[.ref a]/\H a=some (.dT ep kvs)/\okT (kvs.map (·.1))=true/\kvs.length<64 /\ ∀ (l:aD) (as:List aD),H l=none->eO (fun(k:List aA) (b:aD)=>Alw H k b) (jX (kvs.map (·.1))) as->Q (.ref l) (upd H l (.lst (as.map V.ref)))) yZ:=fun P H xs ds d Q hP r e k=>by
 unfold yZ at e
 split at e
 ·obtain⟨kss,e1,e2⟩:=XBs e
  obtain⟨⟨ok,hn⟩,rfl⟩:=cW e2
  obtain⟨v,rfl,r'⟩:=gK r
  obtain⟨a,ts,rfl,hq,rr⟩:=(pC).mp r'
  have ek:=zD rr
  have ek2:=(OJ e1).1
  rw[ek2] at ek
  have:ts.2.map (·.1)=kss:=by
   have inj : ∀ l l':List (List aA),l.map gG=l'.map gG->l=l':=fun l=>by
    induction l with
    | nil=>intro l' h; cases l' <;> simp at h ⊢
    | cons a l ih=>
     intro l' h
     cases l' with
     | nil=>simp at h
     | cons b l'=>
      simp only[cR,JE,PyData.tuple.injEq] at h
      rw[h.1,ih l' h.2]
   exact(inj _ _ ek).symm
  subst this
  refine⟨a,ts.1,ts.2,rfl,Aa0 _ _ hq,ok,by simpa using hn,fun l as hf pr=>k.lst hP hf ?_⟩
  exact MA (fun c ys ec=>hP.tup ec) pr
 ·cases e
end
noncomputable def CC (a:aD)(ep n:Nat):It:=
 ⟨fun i H=>∃ kvs kv,H a=some (.dK ep kvs)/\kvs.length=n/\kvs[i]?=some kv,fun i H x H'=>H'=H /\ ∀ kvs,H a=some (.dK ep kvs) -> ∃ kv,kvs[i]?=some kv/\x=kv.2,fun i H=>∃ kvs,H a=some (.dK ep kvs)/\kvs.length=n/\n≤i⟩
theorem Dq {P:bE}{w:bA}{K:aJ}{tg:aS}(a it:aD)(ep n:Nat):Turn P w K tg (CC a ep n) [it] it (fun i h=>h.IsValIter it a i n ep) where
 mem:=dB.mpr rfl
 obj:=fun i h ⟨o,e,_,d⟩ b hb=>by
  rw[dB.mp hb]
  exact⟨o,e,fun v z=>by rw[d] at z; cases z⟩
 keep:=fun i h h' st k=>st.at fun o e=>k it (dB.mpr rfl) o e
 item:=by
  intro X hP hw hK hc i pins s σ H E I hf st hg
  subst hP hw hK
  obtain⟨kvs,kv,ha,hn,hk⟩:=hg
  subst hn
  obtain⟨z,nm,vs,r,d⟩:=qB I.hok (.inl ha)
  have hl:kvs.length=vs.length:=r.length
  obtain⟨u,hu,r1,r2⟩:=CV r hk
  obtain⟨uk,uv⟩:=u
  rw[hl] at st
  refine wpAny_pyNext_values_item st d hu fun h' st' sb=>?_
  have I1:Inv X pins σ H { s with heap:=h' }:=I.turnM (t':=s.toks) hf fun b o nb e=>sb.extBut b o (fun q=>nb (dB.mpr q)) e
  obtain⟨o,e,c,dd⟩:=id st'
  refine⟨uv,rfl,sG (s:={ s with heap:=h' }) e c dd (by decide) ⟨kv.2,H,I1,r2,⟨rfl,fun kvs' h2=>?_⟩,by rw[hl]; exact st',fun b hb=>(hf b hb).1⟩⟩
  rw[ha] at h2
  cases h2
  exact⟨kv,hk,rfl⟩
 done:=by
  intro X hP hw hK hc i pins s σ H E I hf st hg
  subst hP hw hK
  obtain⟨kvs,ha,hn,hi⟩:=hg
  subst hn
  obtain⟨z,nm,vs,r,d⟩:=qB I.hok (.inl ha)
  have hl:kvs.length=vs.length:=r.length
  rw[hl] at st
  exact wpAny_pyNext_values_end (I.ok.hd hc) st d (by simp; omega) fun h' eb=>⟨rfl,I.turnM (t':=s.toks) hf fun b o nb e=>eb b o (fun q=>nb (dB.mpr q)) e⟩
 self:=fun _ _ _ _ _ st h=>wpAny_pyIter_valiter st h
section
variable {X:Cx}{l e tg:aS}{apos pos:bG}
noncomputable def WW (tl:TE):TI:=fun σ H R=>tl σ H fun x H1=>∃ a ep kvs,x = .ref a/\H1 a=some (.dK ep kvs)/\R (CC a ep kvs.length) H1
theorem Nl {tl:TE}(hl:PE X l tl)(hbase:pO l "values" X.env (bJ l X.env)=bJ l X.env:=by rfl)(hline:(apos.endLine == pos.line)=true:=by rfl):PI X tg (.Call (.Attribute l "values" apos) [] [] pos) (WW tl):=by
 intro pins s σ H R I h
 refine wpAny_Call_method hbase rfl hline F.plainAttrs_dict F.slot_dict_values F.type_dict_values (thn (hl pins s σ H _ I h) fun v s1 gh=>?_)
 obtain⟨x,H1,I1,r1,q1⟩:=gh
 obtain⟨a,ep,kvs,rfl,ha,q⟩:=q1
 cases r1
 obtain⟨z,nm,vs,r,d⟩:=qB I1.hok (.inl ha)
 obtain⟨_,_,vs2,_,dd⟩:=vH I1.hok ha
 have hn:=r.length
 refine⟨dd.typeIs,dd.mapOf.noDict,?_⟩
 refine method_meetsIn F.slot_dict_values F.entry_dict_values rfl (PySem.evalArgs_none ⟨rfl,dd.typeIs,F.args_dict_values_1 _,_,meets_dict_values _ a nm,⟨vs2,dd⟩,?_⟩)
 have d2:(s1.heap.push { cls:=.type "dict_values",data:=.fields #[.ref a] }).DictAt (eJ X.prog X.w) a vs ep:=by
  obtain⟨o,es,ho,rr⟩:=d
  exact⟨o,es,cX _ ho,rr⟩
 refine wpAny_pyIter_values ⟨_,eZ _ rfl,rfl,rfl⟩ d2 ?_
 have all : ∀ b o,s1.heap.get? b=some o->((s1.heap.push { cls:=.type "dict_values",data:=.fields #[.ref a] }).push { cls:=.type "dict_valueiterator",data:=.fields #[.ref a,.int 0 0,.int vs.length 0,.int ep 0] }).get? b=some o:=fun b o e=>cX _ (cX _ e)
 refine⟨_,[_],_,_,H1,rfl,I1.kept all,Dq a _ ep kvs.length,?_,fun b hb=>?_,q⟩
 ·rw[hn]
  exact⟨_,eZ _ rfl,rfl,rfl⟩
 ·rw[dB.mp hb]
  have le:s1.heap.objs.size≤(s1.heap.push { cls:=.type "dict_values",data:=.fields #[.ref a] }).objs.size:=by
   rw[JF]
   omega
  exact I1.fpOk le (I1.hok.fresh le)
noncomputable def iDV (f:EF):AF:=fun ρ=>(f ρ).bind fun d=>match d with
 | .dict kds=>if plK kds=true then some (kds.map (·.2)) else none
 | _=>none
theorem Pf {K:aJ}{B:Hp}{a:aD}{ep:Nat}{kvs:List (aN×V)}{kds:List (aA×aA)}(h:B a=some (.dK ep kvs))(r:Abp K B kds kvs):ItD K B (CC a ep kvs.length) (kds.map (·.2)):=fun i H2 x2=>by
 have h2:=x2 _ _ h
 refine⟨fun d hd=>?_,fun e=>⟨kvs,h2,rfl,by rw[← e,cJ,r.length]; exact bU _⟩⟩
 rw[fH] at hd
 obtain⟨kd,hk,rfl⟩:=oH.mp hd
 obtain⟨kv,g1,g2,g3⟩:=FD r hk
 refine⟨⟨kvs,kv,h2,rfl,g1⟩,?_⟩
 rintro x H3 ⟨rfl,hx⟩
 obtain⟨kv',q1,rfl⟩:=hx kvs h2
 have:=eU (q1.symm.trans g1)
 subst this
 exact⟨Ext.refl,fun P2 _ xb=>g3.ext xb⟩
theorem Ma {f:EF}(h:DE X l f)(hbase:pO l "values" X.env (bJ l X.env)=bJ l X.env:=by rfl)(hline:(apos.endLine == pos.line)=true:=by rfl):DI X tg (.Call (.Attribute l "values" apos) [] [] pos) (iDV f):=PI.imp (Nl h hbase hline) fun σ H R gh=>by
 obtain⟨P,ρ,ds,hP,rs,ef,k⟩:=gh
 obtain⟨d,e1,ef⟩:=XBs ef
 cases d with
 | dict kds=>
  obtain⟨pk,rfl⟩:=cW ef
  refine⟨P,ρ,_,hP,rs,e1,cY fun v H1 x1 r1=>?_⟩
  obtain⟨a,kvs,rfl,hq,rr⟩:=(qS pk).mp r1
  exact⟨a,kvs.1,kvs.2,rfl,Aa0 _ _ hq,k _ H1 x1 (Pf hq rr)⟩
 | _=>cases ef
end
noncomputable def sN (kds:List (aA×aA)):List (aA×aA):=kds.map fun kd=>(kd.1,.dict [(.none,.none)])
noncomputable def vP (c x:aB)(Fa:List aA->Option aA):FX:=open Classical in fun z ds=>match ds with
 | [d]=>(Fa [d]).bind fun b=>match b with
  | .bool true=>(qF [d]).bind fun w=>match w with
   | .dict kds=>if (∀ kd∈kds,eQ kd.2=true)/\(kds.map (·.1)).Nodup/\kds.length<sizeLine then some (dC c (.dict kds) (.dict (sN kds))) else none
   | _=>none
  | .bool false=>if z=some x then some (rsD x) else none
  | _=>none
 | _=>none
theorem Fl {c x:aB}{Fa:List aA->Option aA} : ∀ z ds d,vP c x Fa z ds=some d -> ∃ d1,ds=[d1]:=fun z ds d h=>by
 unfold vP at h
 split at h
 ·exact⟨_,rfl⟩
 ·cases h
theorem Hr {c x:aB}{Fa:List aA->Option aA}{z:Option aB}{d1 d:aA}(h:vP c x Fa z [d1]=some d) :
  (Fa [d1]=some (.bool false)/\z=some x/\d=rsD x) \/ ∃ kds,Fa [d1]=some (.bool true)/\qF [d1]=some (.dict kds)/\(∀ kd∈kds,eQ kd.2=true)/\(kds.map (·.1)).Nodup/\kds.length<sizeLine/\d=dC c (.dict kds) (.dict (sN kds)):=by
 have h:((Fa [d1]).bind fun b=>_)=some d:=h
 obtain⟨b,e1,h⟩:=XBs h
 split at h
 ·obtain⟨w,e2,h⟩:=XBs h
  split at h
  ·obtain⟨⟨h1,h2,h3⟩,rfl⟩:=cW h
   exact .inr ⟨_,e1,e2,h1,h2,h3,rfl⟩
  ·cases h
 ·obtain⟨h1,rfl⟩:=cW h
  exact .inl ⟨e1,h1,rfl⟩
 ·cases h
noncomputable def hvZ (kvs:List (aN×V))(ps:List aD):List (aN×V):=List.zipWith (fun kv p=>(kv.1,V.ref p)) kvs ps
theorem OG : ∀ {kvs:List (aN×V)} {ps:List aD} {kv:aN×V} {p:aD},kvs[ps.length]?=some kv->hvZ kvs (ps++[p])=hvZ kvs ps++[(kv.1,V.ref p)]
 | k::kvs,[],kv,p,e=>by
  cases e
  simp[hvZ]
 | k::kvs,q::ps,kv,p,e=>by
  show _::hvZ kvs (ps++[p])=_::(hvZ kvs ps++_)
  rw[OG (kv:=kv) (by simpa using e)]
 | [],ps,kv,p,e=>by simp at e
theorem Mt : ∀ {kvs:List (aN×V)} {ps:List aD},ps.length≤kvs.length->(hvZ kvs ps).length=ps.length:=fun {kvs ps} h=>by
 unfold hvZ
 rw[List.length_zipWith]
 omega
theorem NI : ∀ {kvs:List (aN×V)} {ps:List aD} {e:aN×V},e∈hvZ kvs ps -> ∃ i kv,i<ps.length/\kvs[i]?=some kv/\e.1=kv.1
 | [],ps,e,m=>by simp[hvZ] at m
 | k::kvs,[],e,m=>by simp[hvZ] at m
 | k::kvs,p::ps,e,m=>by
  have m:e∈(k.1,V.ref p)::hvZ kvs ps:=m
  rcases cQ.mp m with rfl | m
  ·exact⟨0,k,by simp,rfl,rfl⟩
  ·obtain⟨i,kv,h1,h2,h3⟩:=NI m
   exact⟨i+1,kv,by simpa using h1,by simpa using h2,h3⟩
theorem QB {k:aN} : ∀ {l:List (aN×V)},(∀ e∈l,e.1≠k)->eF l k=none
 | [],_=>rfl
 | e::l,h=>by
  have h1:=h e cC
  have h2:=QB fun e m=>h e (cD _ m)
  unfold eF at h2 ⊢
  simp[gT,h1] at h2 ⊢
  first | exact h2 | simp_all
theorem Kp {kvs:List (aN×V)}{ps:List aD}{kv:aN×V}(nd:(kvs.map (·.1)).Nodup)(e:kvs[ps.length]?=some kv):eF (hvZ kvs ps) kv.1=none:=QB fun x m=>by
 obtain⟨i,kv',h1,h2,h3⟩:=NI m
 rw[h3]
 intro z
 have hl:=(fI.mp e).1
 have g1:(kvs.map (·.1))[i]?=some kv'.1:=by rw[fH,h2]; rfl
 have g2:(kvs.map (·.1))[ps.length]?=some kv.1:=by rw[fH,e]; rfl
 have:=(List.getElem?_inj (l:=kvs.map (·.1)) (i:=i) (j:=ps.length) (by simpa using(fI.mp h2).1) nd).mp (by rw[g1,g2,z])
 omega
theorem RE {K:aJ}{H:Hp} : ∀ {kds:List (aA×aA)} {kvs:List (aN×V)},Abp K H kds kvs->kds.map (·.1)=(kvs.map (·.1)).map kD
 | [],kvs,r=>by rw[Abl.mp r]; rfl
 | (k,d)::ds,kvs,r=>by
  obtain⟨k',x,t,rfl,ek,r1,r2⟩:=Aa1.mp r
  rw[cR,RE r2,ek]
  rfl
theorem OI {K:aJ}{B B2 H:Hp} : ∀ {kds:List (aA×aA)} {kvs:List (aN×V)} {ps:List aD},Abp K B2 kds kvs->ps.length=kvs.length->(∀ p∈ps,H p=some (.dT 0 []))->All3 (HeldAt K B H) (sN kds) (hvZ kvs ps) ps
 | [],kvs,ps,r,hl,hp=>by
  rw[Abl.mp r] at hl ⊢
  cases ps with
  | nil=>exact .nil
  | cons _ _=>simp at hl
 | (k,d)::kds,kvs,ps,r,hl,hp=>by
  obtain⟨k',y,t,rfl,ek,h1,h2⟩:=Aa1.mp r
  cases ps with
  | nil=>simp at hl
  | cons p ps=>exact .cons ⟨ek,rfl,[],p,(0,[]),rfl,rfl,hp p cC,rfl,fun kd m=>by simp at m,Aco.mpr rfl⟩ (OI h2 (by simpa using hl) fun q m=>hp q (cD _ m))
theorem Qm {K:aJ}{P0:aD->Prop}{Hw H':Hp}{c:aB}{C dx x w q:aD}{kds:List (aA×aA)}{kvs:Nat×List (aN×V)}{n:Nat}{ps:List aD}(hc:dM K c=some (.ref C))(hx:H' x=some (.ins C dx [("wide",.ref w),("held",.ref q)]))(hw:H' w=some (.dK kvs.1 kvs.2))
  (hq:H' q=some (.dK n (hvZ kvs.2 ps))) (hl:ps.length=kvs.2.length) (hp : ∀ p∈ps,H' p=some (.dT 0 [])) (fl : ∀ kd∈kds,eQ kd.2=true) (rk:Abp K (hid Hw (orL P0 [w])) kds kvs.2) (kp : ∀ b o,b≠x->Hw b=some o->H' b=some o) (hn : ∀ xs,Hw x≠some (.tup xs)) :
  Agc K (hid H' (orL P0 (x::w::q::ps))) H' 9 (dC c (.dict kds) (.dict (sN kds))) (.ref x) (x::w::q::ps):=by
 refine(bC (.inr ⟨⟨c,C,dx,x,w,q,kds,sN kds,kvs,(n,hvZ kvs.2 ps),ps,rfl,rfl,hc,hx,hw,fl,?_,hq,rfl,OI rk hl hp⟩⟩):_ \/ Ahr _ _ _ _ _ _ \/ RepB _ _ _ _ _ _)
 refine rk.flat (fun a xs e=>?_) fl
 obtain⟨na,e⟩:=Ada.mp e
 have nx:a≠x:=fun z=>by rw[z] at e; exact hn xs e
 have e2:=kp a _ nx e
 refine gJ (fun z=>?_) e2
 rcases z with z | z
 ·exact na (.inl z)
 ·simp only[cQ] at z
  rcases z with z | z | z | z
  ·exact nx z
  ·rw[z,hw] at e2; cases e2
  ·rw[z,hq] at e2; cases e2
  ·rw[hp a z] at e2; cases e2
noncomputable def sOr (F G:SF):SF:=fun ρ=>(F ρ).or (G ρ)
noncomputable def jF (hds:List (aA×aA))(t:aB)(d:aA):List (aA×aA):=hds.map fun kd=>if cV kd.1=some (.inr t) then(kd.1,d) else kd
theorem Br {hds:List (aA×aA)}{t:aB}{d:aA}(h : ∀ kd∈hds,kd.1 ≠ .str t):jF hds t d=hds:=by
 unfold jF
 refine(pT fun kd m=>?_).trans (xY hds)
 rw[if_neg]
 ·rfl
 ·intro e
  apply h kd m
  cases q:kd.1 <;> rw[q] at e <;> simp[cV] at e
  rw[e]
theorem MG {K:aJ}{B H:Hp}{t:aB}{dd:aA} : ∀ {hds:List (aA×aA)} {hvs:List (aN×V)} {ps:List aD},All3 (HeldAt K B H) hds hvs ps->cF hds (.inr t)=some dd->(hds.map (·.1)).Nodup->ps.Nodup ->
  ∃ p,eF hvs (.inr t)=some (.ref p)/\p∈ps/\Ahr K B H dd (.ref p) [p] /\ ∀ B' H' dd',Ext B B'->(∀ q∈ps,q≠p->H' q=H q)->Ahr K B' H' dd' (.ref p) [p]->All3 (HeldAt K B' H') (jF hds t dd') hvs ps
 | _,_,_,.nil,e,_,_=>by cases e
 | kd::hds,kv::hvs,p::ps,.cons h t',e,nd,np=>by
  rw[cR,gH] at nd
  rw[gH] at np
  by_cases c:kv.1 = .inr t
  ·have ck:kd.1 = .str t:=by rw[h.1,c]; rfl
   have ek:cV kd.1=some (.inr t):=by rw[ck]; rfl
   have ed:kd.2=dd:=by
    unfold cF at e
    rw[gT,ek] at e
    simpa using e
   refine⟨p,?_,cC,by rw[← ed]; exact h.2.2,fun B' H' dd' xb kp r=>?_⟩
   ·unfold eF
    rw[gT,c]
    simp[h.2.1]
   ·have e1:jF (kd::hds) t dd'=(kd.1,dd')::jF hds t dd':=by
     unfold jF
     rw[cR,if_pos ek]
    rw[e1,Br fun x m z=>nd.1 (by rw[ck]; exact cA.mpr ⟨x,m,z⟩)]
    refine .cons ⟨h.1,h.2.1,r⟩ (t'.imp fun a b q m hq=>⟨hq.1,hq.2.1,hq.2.2.keep xb fun z mz=>?_⟩)
    rw[dB.mp mz]
    exact kp q (cD _ m) fun z=>np.1 (z ▸ m)
  ·have ek:cV kd.1≠some (.inr t):=by
    rw[h.1,oW]
    exact fun z=>c (eU z)
   have e':cF hds (.inr t)=some dd:=by
    unfold cF at e ⊢
    rw[gT] at e
    simpa [ek] using e
   obtain⟨p',h1,h2,h3,h4⟩:=MG t' e' nd.2 np.2
   refine⟨p',?_,cD _ h2,h3,fun B' H' dd' xb kp r=>?_⟩
   ·unfold eF at h1 ⊢
    rw[gT]
    simpa [c] using h1
   ·have e1:jF (kd::hds) t dd'=kd::jF hds t dd':=by
     unfold jF
     rw[cR,if_neg ek]
    rw[e1]
    refine .cons ⟨h.1,h.2.1,h.2.2.keep xb fun z mz=>?_⟩ (h4 B' H' dd' xb (fun q m=>kp q (cD _ m)) r)
    rw[dB.mp mz]
    exact kp p cC fun z=>np.1 (z ▸ h2)
theorem RepB.at {K:aJ}{B H:Hp}{c t:aB}{W:aA}{hds:List (aA×aA)}{v:V}{F:List aD}{kds:List (aA×aA)}(h:RepB K B H (dC c W (.dict hds)) v F)(nF:F.Nodup)(e:cF hds (.inr t)=some (.dict ((.none,.none)::kds)))(nd:(hds.map (·.1)).Nodup) :
  ∃ a C dx w q p,∃ hvs:Nat×List (aN×V),∃ ts:Nat×List (List aA×V),v = .ref a/\dM K c=some (.ref C)/\H a=some (.ins C dx [("wide",.ref w),("held",.ref q)])/\H q=some (.dK hvs.1 hvs.2)/\eF hvs.2 (.inr t)=some (.ref p)/\p∈F/\H p=some (.dT ts.1 ts.2)/\(∀ kd∈kds,eQ kd.2=true)/\Acf K B kds ts.2 /\
   ∀ B' H' kds',∀ ts':Nat×List (List aA×V),Ext B B'->(∀ b∈F,b≠p->H' b=H b)->H' p=some (.dT ts'.1 ts'.2)->(∀ kd∈kds',eQ kd.2=true)->Acf K B' kds' ts'.2->RepB K B' H' (dC c W (.dict (jF hds t (.dict ((.none,.none)::kds'))))) v F:=by
 obtain⟨c',C,dx,a,w,q,wds,hds',kvs,hvs,ps,e1,rfl,e3,ha,hw,fl,rk,hq,rfl,h3⟩:=h.ex
 have e1':c'=c/\W = .dict wds/\hds'=hds:=by
  simp only[dC,PyData.dict.injEq,JE,Prod.mk.injEq,PyData.str.injEq,PyData.tuple.injEq,and_true,true_and] at e1
  exact⟨e1.1.symm,e1.2.1,e1.2.2.symm⟩
 obtain⟨rfl,rfl,rfl⟩:=e1'
 have np:a∉w::q::ps/\w∉q::ps/\q∉ps/\ps.Nodup:=by
  simp only[gH] at nF
  exact⟨nF.1,nF.2.1,nF.2.2.1,nF.2.2.2⟩
 obtain⟨p,h1,h2,h4,h5⟩:=MG h3 e nd np.2.2.2
 obtain⟨kds2,p2,ts,e4,e5,hp,_,fl2,r2⟩:=h4
 cases e4
 cases e5
 refine⟨a,C,dx,w,q,p,hvs,ts,rfl,e3,ha,hq,h1,by simp[h2],hp,fl2,r2,fun B' H' kds' ts' xb kp hp' fl' r'=>?_⟩
 have ap:a≠p:=fun z=>np.1 (by rw[z]; simp[h2])
 have wp:w≠p:=fun z=>np.2.1 (by rw[z]; simp[h2])
 have qp:q≠p:=fun z=>np.2.2.1 (by rw[z]; exact h2)
 exact⟨c',C,dx,a,w,q,wds,_,kvs,hvs,ps,rfl,rfl,e3,(kp a (by simp) ap).trans ha,(kp w (by simp) wp).trans hw,fl,rk.ext xb,(kp q (by simp) qp).trans hq,rfl,h5 B' H' _ xb (fun x m nx=>kp x (by simp[m]) nx) ⟨kds',p,ts',rfl,rfl,hp',rfl,fl',r'⟩⟩
noncomputable def HQ (K:aJ)(G:List aA->Option (Bool×aA)):Sp:=fun vs H Q _=>∃ P F0 a us d ds r d',vs = .ref a::us/\Hid P H/\(∀ b∈F0,¬ P b)/\F0.Nodup/\RepB K (hid H (orL P F0)) H d (.ref a) F0/\Aau K (hid H (orL P F0)) ds us/\G (d::ds)=some (r,d') /\
 ∀ H',(∀ b o,b∉F0->H b=some o->H' b=some o)->RepB K (hid H' (orL P F0)) H' d' (.ref a) F0->Q (.bl r) H'
structure MethM (P:bE)(w:bA)(K:aJ)(mg:aB->Option aE)(base:aU)(c m:aB)(k:Nat)(ps:List aB)(G:List aA->Option (Bool×aA)):Prop where
 ex : ∃ C f fd,dM K c=some (.ref C)/\Cls K C/\Meth K C m f/\FnOk P w K mg base (CXR base P w) k f fd ps (HQ K G)/\Binds K fd ps []
 ins : ∀ d ds q,G (d::ds)=some q -> ∃ W D,d=dC c W D
noncomputable def nR (i:Nat)(G:List aA->Option (Bool×aA))(fa:AF)(ρ:aW):Option (Bool×aW):=match ρ[i]? with
 | some (some (9,d))=>(fa (vS ρ)).bind fun ds=>(G (d::ds)).bind fun q=>some (q.1,ρ.set i (some (9,q.2)))
 | _=>none
noncomputable def CG (K:aJ)(H0:Hp)(P0:aD->Prop)(i:Nat)(G:List aA->Option (Bool×aA))(fa:AF):TE:=fun σ H Q=>∃ B0 ρ fp r ρ',Sta K H0 P0 B0 ρ σ H fp/\nR i G fa ρ=some (r,ρ') /\ ∀ H' fp',Sta K H0 P0 B0 ρ' σ H' fp'->Q (.bl r) H'
theorem Sta.told {K:aJ}{H0 H H' B0:Hp}{P0:aD->Prop}{ρ:aW}{σ:St}{fp:Nat->List aD}{i n:Nat}{d':aA}{v:V}(S:Sta K H0 P0 B0 ρ σ H fp)(hi:i<ρ.length)(hv:σ[i]?=some (some v))(kp : ∀ b o,b∉fp i->H b=some o->H' b=some o)(new:Agc K (L2.hid H' (Hd P0 fp)) H' n d' v (fp i)) :
  Sta K H0 P0 B0 (ρ.set i (some (n,d'))) σ H' fp:=by
 have xb:Ext (L2.hid H (Hd P0 fp)) (L2.hid H' (Hd P0 fp)):=fun b o e=>by
  obtain⟨nb,e⟩:=Ada.mp e
  exact gJ nb (kp b o (fun m=>nb (.inr ⟨i,m⟩)) e)
 refine⟨by simp[S.len],S.nd,S.dj,fun j a m=>⟨(S.own j a m).1,?_⟩,fun b u e=>kp b u (fun m=>?_) (S.ext b u e),S.hd,S.base.trans xb,fun j n' d e=>?_⟩
 ·by_cases h:j=i
  ·subst h
   exact new.mut a m
  ·have na:a∉fp i:=fun z=>h (S.dj j i a m z)
   rcases(S.own j a m).2 with⟨xs,e⟩ | ⟨xs,e⟩
   ·exact .inl ⟨xs,kp _ _ na e⟩
   ·exact .inr ⟨xs,kp _ _ na e⟩
 ·rw[(S.own i b m).1] at e
  cases e
 ·by_cases h:j=i
  ·subst h
   rw[lJ hi] at e
   cases e
   exact⟨v,hv,new⟩
  ·rw[lK (fun z=>h z.symm)] at e
   obtain⟨v',h1,h2⟩:=S.slot j n' d e
   refine⟨v',h1,h2.keep xb fun a m=>?_⟩
   have na:a∉fp i:=fun z=>h (S.dj j i a m z)
   rcases(S.own j a m).2 with⟨xs,e⟩ | ⟨xs,e⟩
   ·rw[e,kp _ _ na e]
   ·rw[e,kp _ _ na e]
section
variable {X:Cx}{H0:Hp}{P0:aD->Prop}{e:aS}{es:List aS}{fa:AF}{c m x:aB}{px pos apos:bG}{k n0 i:Nat}{ps:List aB}{G:List aA->Option (Bool×aA)}
theorem UG {pl:Sem Bool}(i:Nat)(M:MethM X.prog X.w X.K X.mg X.base c m k ps G)(hr:Room k X.A)(ha:DA X (e::es) fa)(hlk : ∀ w q:V,iO m [(("wide" : aB),w),("held",q)]=none:=by intro _ _; rfl)
  (hN:X.N[i]?=some x:=by rfl) (hv:nB X.env.scope x:=by first | exact bB rfl | exact bC (bB rfl) | exact bC (bC rfl)) (hd:(x == ("__debug__" : aB))=false:=by decide) (hcd:(x == ("__classdict__" : aB))=false:=by decide)
  (hst:bI (e::es) X.env=(false,bJ e X.env)::bI es X.env:=by rfl) (hpl:(fF pos (bI es X.env)).any (·.1)=false:=by rfl)
  (ht:bJ (.Call (.Attribute (.Name x px) m apos) (e::es) [] pos) X.env=(do
   let ov ← bJ (.Name x px) X.env
   rE apos.atName
   let (f,first) ← lU [ov] (xM ov m pl)
   callWith pos f first (fF pos (bI (e::es) X.env)) (uK pos (uI [] X.env))):=by rfl):PE X (.Call (.Attribute (.Name x px) m apos) (e::es) [] pos) (CG X.K H0 P0 i G fa):=by
 obtain⟨C,f,fd,hc,cl,me,Fk,hb⟩:=M.ex
 refine PE.imp (Nb (pl:=pl) (E:=fun _ _ _=>False) (qG hN hv hd hcd) cl me Fk hr hb .nil (fun _ _ _ _ _ _ _ h=>by obtain⟨_,_,_,_,_,_,_,_,_,_,_,_,_,_,q⟩:=h; exact q.elim) ha hst hpl ht) fun σ H Q gh=>?_
 obtain⟨B0,ρ,fp,r,ρ',S,ev,kk⟩:=gh
 unfold nR at ev
 split at ev
 case h_2=>cases ev
 rename_i d es'
 obtain⟨ds,e1,ev⟩:=XBs ev
 obtain⟨q,e2,ev⟩:=XBs ev
 cases ev
 obtain⟨v,hv1,ro⟩:=S.slot i 9 d es'
 obtain⟨W,D,rfl⟩:=M.ins _ _ _ e2
 rcases(show _ \/ Ahr _ _ _ _ _ _ \/ RepB _ _ _ _ _ _ from ro) with⟨z,_⟩ | ⟨_,_,_,z,_⟩ | rb
 ·cases z
 ·cases z
 obtain⟨c',C',dx,a,w,qq,wds,hds,kvs,hvs,pps,e3,rfl,e4,hia,hw,fl,rk,hq,hF,h3⟩:=id rb.ex
 have e3':c'=c:=by
  simp only[dC,PyData.dict.injEq,JE,Prod.mk.injEq,PyData.str.injEq,and_true,true_and] at e3
  exact e3.1.symm
 subst e3'
 obtain rfl:=qM hc e4
 refine⟨.ref a,hv1,a,dx,_,rfl,hia,hlk _ _,Hd P0 fp,vS ρ,ds,S.hid,S.viewS,e1,fun vs H2 x2 r2=>?_⟩
 show HQ X.K G (.ref a::(vs++[])) H2 Q _
 rw[uS]
 have S2:=S.grow x2
 have eP:orL (fun b=>P0 b \/ ∃ j,j≠i/\b∈fp j) (fp i)=Hd P0 fp:=by
  funext b
  refine propext ⟨fun h=>?_,fun h=>?_⟩
  ·rcases h with(h | ⟨j,_,h⟩) | h
   ·exact .inl h
   ·exact .inr ⟨j,h⟩
   ·exact .inr ⟨i,h⟩
  ·rcases h with h | ⟨j,h⟩
   ·exact .inl (.inl h)
   ·by_cases q:j=i
    ·exact .inr (q ▸ h)
    ·exact .inl (.inr ⟨j,q,h⟩)
 have rb2:RepB X.K (hid H2 (Hd P0 fp)) H2 (dC c' W D) (.ref a) (fp i):=rb.keep (cI x2) fun b m=>by
  rcases(S.own i b m).2 with⟨xs,e⟩ | ⟨xs,e⟩
  ·rw[e,x2 _ _ e]
  ·rw[e,x2 _ _ e]
 refine⟨fun b=>P0 b \/ ∃ j,j≠i/\b∈fp j,fp i,a,vs,_,ds,q.1,q.2,rfl,fun b h=>S2.hid b (h.imp id fun⟨j,_,h⟩=>⟨j,h⟩),fun b m h=>?_,S.nd i,by rw[eP]; exact rb2,by rw[eP]; exact r2,e2,fun H' kp rn=>?_⟩
 ·rcases h with h | ⟨j,nj,h⟩
  ·exact S.np m h
  ·exact nj (S.dj j i b h m)
 ·rw[eP] at rn
  exact kk H' fp (S2.told (fI.mp es').1 hv1 kp (bC (.inr rn):_ \/ Ahr _ _ _ _ _ _ \/ RepB _ _ _ _ _ _))
noncomputable def CM (i:Nat)(G:List aA->Option (Bool×aA))(fa:AF):SF:=fun ρ=>(nR i G fa ρ).bind fun q=>some (.nx q.2)
theorem Aq {ce:aS}(h:PE X ce (CG X.K H0 P0 i G fa))(hs:lT ce none pos.line X.env=pure false:=by rfl):DS X H0 P0 n0 (.Expr ce pos) (CM i G fa):=PS.imp (vZ h hs) fun D σ H gh=>by
 obtain⟨B0,ρ,fp,o,S,ef,k⟩:=gh
 obtain⟨q,e1,ef⟩:=XBs ef
 cases ef
 exact⟨B0,ρ,fp,q.1,q.2,S,e1,fun H' fp' S'=>k _ _ fp' S'⟩
noncomputable def HP (m1:Md)(f:EF)(i:Nat)(G:List aA->Option (Bool×aA))(fa:AF)(m2:Md)(g:EF):SF:=fun ρ=>(eV 0 m1 f ρ).bind fun d=>(asB d).bind fun b=>if b=true then(nR i G fa ρ).bind fun q=>if q.1=true then(eV 0 m2 g q.2).bind fun d=>some (.rt d) else none else some (.rt (.bool false))
theorem Ju {a b ce:aS}{f g:EF}{p2:bG}(m1 m2:Md)(ha:DE X a f)(h:PE X ce (CG X.K H0 P0 i G fa))(hb:DE X b g):DS X H0 P0 0 (.Return (some (.BoolOp .And [a,ce,b] p2)) pos) (HP m1 f i G fa m2 g):=
 PS.imp (vL (CW (ev (H0:=H0) (P0:=P0) m1 ha) (CW h (UI (ev (H0:=H0) (P0:=P0) m2 hb))))) fun D σ H gh=>by
  obtain⟨B0,ρ,fp,o,S,ef,k⟩:=gh
  obtain⟨d,e1,ef⟩:=XBs ef
  obtain⟨bb,e2,ef⟩:=XBs ef
  have:=qR e2
  subst this
  refine⟨B0,ρ,fp,_,S,e1,fun v H1 ⟨fp1,S1,r1⟩=>⟨bb,Aar.mp r1.2,?_⟩⟩
  cases bb with
  | false=>
   cases ef
   exact lM (k _ _ ⟨[],S1.ext,.nil,fun a m=>by simp at m,rfl,Aar.mpr rfl⟩)
  | true=>
   have ef:((nR i G fa ρ).bind fun q=>if q.1=true then(eV 0 m2 g q.2).bind fun d=>some (Out.rt d) else none)=some o:=ef
   obtain⟨q,e3,ef⟩:=XBs ef
   by_cases hq:q.1=true
   case neg=>rw[if_neg hq] at ef; cases ef
   rw[if_pos hq] at ef
   obtain⟨d,e4,ef⟩:=XBs ef
   cases ef
   refine nZ ⟨B0,ρ,fp1,q.1,q.2,S1,e3,fun H' fp' S'=>⟨q.1,rfl,?_⟩⟩
   rw[if_pos hq]
   exact⟨B0,q.2,fp',d,S',e4,fun v H2 t=>k v H2 t.ret⟩
noncomputable def jC (f g:EF):EF:=fun ρ=>(f ρ).or (g ρ)
theorem oR {a:aS}{f g:EF}(h1:DE X a f)(h2:DE X a g):DE X a (jC f g):=fun pins s σ H Q I gh=>by
 obtain⟨P,ρ,d,hP,rs,ef,k⟩:=gh
 unfold jC at ef
 cases q:f ρ with
 | some d'=>
  rw[q] at ef
  cases ef
  exact h1 pins s σ H Q I ⟨P,ρ,d,hP,rs,q,k⟩
 | none=>
  rw[q] at ef
  exact h2 pins s σ H Q I ⟨P,ρ,d,hP,rs,by simpa using ef,k⟩
theorem wF {body:List bH}{hh:ExceptHandler}{F1 F2:SF}(h1:nQ X H0 P0 n0 body hh F1)(h2:nQ X H0 P0 n0 body hh F2):nQ X H0 P0 n0 body hh (sOr F1 F2):=fun pins s σ H D I gh=>by
 obtain⟨B0,ρ,fp,o,S,ef,k⟩:=gh
 unfold sOr at ef
 cases q:F1 ρ with
 | some o'=>
  rw[q] at ef
  cases ef
  exact h1 pins s σ H D I ⟨B0,ρ,fp,o,S,q,k⟩
 | none=>
  rw[q] at ef
  exact h2 pins s σ H D I ⟨B0,ρ,fp,o,S,by simpa using ef,k⟩
theorem mT {T:aB}{CT:aE}{n:Nat}{F:FX}{G:SF}{np hpos apos:bG}{b₀:bH}{suite:List bH}{ce:aS}{j:Nat}{nn:aB}(t:TryC X c T CT)(hcall : ∀ pins E,CallAt (X.tries pins E) ce n F fa)(hN:X.N.Nodup)(hj:X.N[j]?=some nn)(hl:X.env.scope.names.lookup nn=some .local)(hG : ∀ ea,DSs (X.held ea) H0 P0 n0 (b₀::suite) G)
  (hsw:lT ce none apos.line X.env=pure false:=by rfl) :
  nQ X H0 P0 n0 [.Expr ce apos] (.ExceptHandler (some (.Name T np)) (some nn) (b₀::suite) hpos) (gQ c F fa vExpr (sAs j c G)):=
 Oz (W:=LB) t hcall (fun pins E te h=>vZ (X:=X.tries pins E) h hsw) (fun {B0 ρ fp o D σ H d} S ef k te hq=>hq _ fun v H' tm=>by
  cases ef
  obtain⟨fp',S',_⟩:=tm
  exact k _ _ fp' S') (fun te D σ H h=>h _) (Ks t.ex hN hj hl hG)
end
theorem NR {K:aJ}{H:Hp}{ks:List aA}(hk:bX ks=true) : ∀ {kds:List (aA×aA)} {ts:List (List aA×V)},Acf K H kds ts -> .tuple ks∉kds.map (·.1)->nC kds ks=none
 | [],_,_,_=>rfl
 | (k,d)::kds,_,r,nin=>by
  obtain⟨k',x,rr,rfl,⟨rfl,hk'⟩,h1,h2⟩:=Aa9.mp r
  rw[RN hk' hk,if_neg (fun z=>nin (by rw[z]; simp))]
  exact NR hk h2 fun m=>nin (cD _ m)
theorem PY {K:aJ}{H:Hp}{ks:List aA}{d:aA}{v:V}(hk:bX ks=true)(hd:Abb K H d v) : ∀ {kds:List (aA×aA)} {ts:List (List aA×V)},Acf K H kds ts->Acf K H (kds++[(.tuple ks,d)]) (ts++[(ks,v)])
 | [],ts,r=>by
  rw[Aco.mp r]
  exact Aa9.mpr ⟨ks,v,[],rfl,⟨rfl,hk⟩,hd,Aco.mpr rfl⟩
 | (k,d')::kds,_,r=>by
  obtain⟨k',x,rr,rfl,e,h1,h2⟩:=Aa9.mp r
  exact Aa9.mpr ⟨k',x,_,rfl,e,h1,PY hk hd h2⟩
theorem OW {k:List aA} : ∀ {l:List (List aA×V)},(∀ e∈l,e.1≠k)->eF l k=none
 | [],_=>rfl
 | e::l,h=>by
  have h1:=h e cC
  have h2:=OW fun e m=>h e (cD _ m)
  unfold eF at h2 ⊢
  simp[gT,h1] at h2 ⊢
  first | exact h2 | simp_all
noncomputable def wG (c:aB)(Fw:FX):List aA->Option (Bool×aA):=open Classical in fun ds=>match ds with
 | [d,.str t,.tuple ks]=>(kS c d).bind fun p=>match p.2 with
  | .dict hds=>(Fw none [d,.str t,.tuple ks]).bind fun _=>(cF hds (.inr t)).bind fun h=>match h with
   | .dict ((.none,.none)::kds)=>if bX ks=true/\dI ks≤6/\(hds.map (·.1)).Nodup /\ .tuple ks∉kds.map (·.1)/\kds.length<60 then some (true,dC c p.1 (.dict (jF hds t (.dict ((.none,.none)::(kds++[(.tuple ks,.bool true)])))))) else none
   | _=>none
  | _=>none
 | _=>none
theorem HI {c:aB}{Fw:FX}{ds:List aA}{q:Bool×aA}(h:wG c Fw ds=some q) : ∃ W hds t ks kds,∃ u,ds=[dC c W (.dict hds),.str t,.tuple ks]/\Fw none ds=some u/\cF hds (.inr t)=some (.dict ((.none,.none)::kds))/\bX ks=true/\dI ks≤6/\(hds.map (·.1)).Nodup /\ .tuple ks∉kds.map (·.1)/\kds.length<60 /\
  q=(true,dC c W (.dict (jF hds t (.dict ((.none,.none)::(kds++[(.tuple ks,.bool true)])))))):=by
 unfold wG at h
 split at h
 ·obtain⟨p,e1,h⟩:=XBs h
  have e1:=zJ e1
  subst e1
  obtain⟨W,D⟩:=p
  dsimp only at h
  split at h
  ·obtain⟨u,e2,h⟩:=XBs h
   obtain⟨hh,e3,h⟩:=XBs h
   split at h
   ·obtain⟨⟨h1,h2,h3,h4,h5⟩,rfl⟩:=cW h
    exact⟨W,_,_,_,_,u,rfl,e2,e3,h1,h2,h3,h4,h5,rfl⟩
   ·cases h
  ·cases h
 ·cases h
theorem Hc {c:aB}{Fw:FX} : ∀ d ds q,wG c Fw (d::ds)=some q -> ∃ W D,d=dC c W D:=fun d ds q h=>by
 obtain⟨W,hds,t,ks,kds,u,e,_⟩:=HI h
 cases e
 exact⟨_,_,rfl⟩
theorem Kw {P:bE}{w:bA}{A:bY}{E:aE->aH->Prop}{s:aH}{l:aD}{vs:List aE}{is:List Int}{Q:aE->aH->Prop}(hh:A.handled=none)(hl:s.heap.IsList l vs.toArray)(hi:IntsAre vs is)
  (h : ∀ t h' tk,(∀ b o,s.heap.get? b=some o->h'.get? b=some o)->Q (.int is.sum t) { s with heap:=h',toks:=tk }):aP (aQ P w) A (call (.builtin "sum") [.ref l]) Q E s:=by
 obtain⟨xs,e⟩:=hi.allInts.items
 have e2:is=numsOf (intItems xs).toList:=by
  rw[← e]
  exact hi.numsOf.symm
 rw[e] at hl
 refine sum_intListG hh hl fun h' tk t' hk=>?_
 have:=h t' h' tk hk
 rw[e2,nums_intItems] at this
 rw[preSum_eq,IZ (by simp)]
 exact this
theorem RB:iZ "sum" = some (.builtin "sum"):=by kernel_rfl
section
variable {X:Cx}
theorem QU (hc:X.calm=true):Adn X (.builtin "sum") (fun xs H Q=>∃ p,∃ is:List Int,xs=[.ref p]/\SqL X.K H p (is.map V.int)/\Q (.int is.sum) H):=by
 intro pins s σ H xs us Q I r h
 obtain⟨p,is,rfl,hp,q⟩:=h
 obtain⟨u,rfl,ru⟩:=vals1 r
 cases ru
 obtain⟨its,rv,pl,_⟩:=I.list hp
 refine Kw (I.ok.hd hc) pl.isList (KL rv) fun t h' tk hk=>?_
 exact⟨.int is.sum,H,I.kept fun b o e=>hk b o e,⟨t,rfl⟩,q⟩
noncomputable def AY:List aA->Option aA
 | [.list ds]=>(mF ds).bind fun is=>some (.int is.sum)
 | _=>none
theorem RM {K:aJ}:CallD K 0 (fun xs H Q=>∃ p,∃ is:List Int,xs=[.ref p]/\SqL K H p (is.map V.int)/\Q (.int is.sum) H) AY:=fun P H xs ds d Q hP r e k=>by
 unfold AY at e
 split at e
 ·obtain⟨is,e1,e2⟩:=XBs e
  cases e2
  obtain rfl:=LQ e1
  obtain⟨v,rfl,r'⟩:=gK r
  obtain⟨q,ys,rfl,hq,rr⟩:=Abg.mp r'
  obtain rfl:=SN rr
  exact⟨q,is,rfl,Aa0.sqL hq,k.zero Ext.refl (Aat.mpr rfl)⟩
 ·cases e
end
section
variable {K:aJ}{H0 H B0:Hp}{P0:aD->Prop}{ρ:aW}{σ:St}{fp:Nat->List aD}{i:Nat}
theorem Sta.change {H':Hp}{fp':Nat->List aD}{n:Nat}{d':aA}{v:V}(S:Sta K H0 P0 B0 ρ σ H fp)(hi:i<ρ.length)(hv:σ[i]?=some (some v))
  (hf : ∀ j,j≠i->j<ρ.length->fp' j=fp j) (hz : ∀ j,ρ.length≤j->fp' j=[] \/ fp' j=fp j) (nd:(fp' i).Nodup) (sub : ∀ a∈fp' i,∃ j,a∈fp j/\(j=i \/ fp' j=[]))
  (kp : ∀ a,a∉fp i->H' a=H a) (ow : ∀ a∈fp' i,(∃ xs,H' a=some (.lst xs)) \/ ∃ q:DQ,H' a=some (dO q))
  (new:Ext (L2.hid H (Hd P0 fp)) (L2.hid H' (Hd P0 fp'))->Agc K (L2.hid H' (Hd P0 fp')) H' n d' v (fp' i)):Sta K H0 P0 B0 (ρ.set i (some (n,d'))) σ H' fp':=by
 have same : ∀ j,j≠i -> ∀ a∈fp' j,a∈fp j:=fun j hj a m=>by
  by_cases h:j<ρ.length
  ·rw[hf j hj h] at m; exact m
  ·rcases hz j (by omega) with e | e
   ·rw[e] at m; simp at m
   ·rw[e] at m; exact m
 have from_ : ∀ j,∀ a∈fp' j,∃ l,a∈fp l:=fun j a m=>by
  by_cases h:j=i
  ·subst h
   obtain⟨l,ml,_⟩:=sub a m
   exact⟨l,ml⟩
  ·exact⟨j,same j h a m⟩
 have xb:Ext (L2.hid H (Hd P0 fp)) (L2.hid H' (Hd P0 fp')):=fun b o e=>by
  obtain⟨nb,e⟩:=Ada.mp e
  refine gJ (fun q=>nb ?_) ?_
  ·rcases q with q | ⟨j,q⟩
   ·exact .inl q
   ·obtain⟨l,ml⟩:=from_ j b q
    exact .inr ⟨l,ml⟩
  ·rw[kp b fun q=>nb (.inr ⟨i,q⟩)]; exact e
 have other : ∀ j,j≠i -> ∀ a∈fp' j,H' a=H a:=fun j hj a m=>kp a fun q=>hj (S.dj j i a (same j hj a m) q)
 refine⟨by simp[S.len],fun j=>?_,fun j l a h1 h2=>?_,fun j a m=>?_,fun b u e=>?_,S.hd,S.base.trans xb,fun j n' d2 e=>?_⟩
 ·by_cases h:j=i
  ·rw[h]; exact nd
  ·by_cases h2:j<ρ.length
   ·rw[hf j h h2]; exact S.nd j
   ·rcases hz j (by omega) with e | e
    ·rw[e]; exact .nil
    ·rw[e]; exact S.nd j
 ·by_cases e1:j=i <;> by_cases e2:l=i
  ·rw[e1,e2]
  ·subst e1
   obtain⟨m,hm,hm2⟩:=sub a h1
   have:=S.dj m l a hm (same l e2 a h2)
   subst this
   rcases hm2 with hm2 | hm2
   ·exact hm2.symm
   ·rw[hm2] at h2; simp at h2
  ·subst e2
   obtain⟨m,hm,hm2⟩:=sub a h2
   have:=S.dj m j a hm (same j e1 a h1)
   subst this
   rcases hm2 with hm2 | hm2
   ·exact hm2
   ·rw[hm2] at h1; simp at h1
  ·exact S.dj j l a (same j e1 a h1) (same l e2 a h2)
 ·obtain⟨l,ml⟩:=from_ j a m
  refine⟨(S.own l a ml).1,?_⟩
  by_cases h:j=i
  ·subst h; exact ow a m
  ·rw[other j h a m]; exact(S.own j a (same j h a m)).2
 ·rw[kp b fun q=>by rw[(S.own i b q).1] at e; cases e]
  exact S.ext b u e
 ·by_cases q:j=i
  ·subst q
   rw[lJ hi] at e
   cases e
   exact⟨v,hv,new xb⟩
  ·rw[lK (fun z=>q z.symm)] at e
   obtain⟨v2,h1,h2⟩:=S.slot j n' d2 e
   have hj:=(fI.mp e).1
   refine⟨v2,h1,?_⟩
   have:=other j q
   rw[hf j q hj] at this ⊢
   exact h2.keep xb this
abbrev R1 (K:aJ)(B H:Hp):aA×aA->aN×V->List aD->Prop:=fun kd kv f=>kd.1=kD kv.1/\Agc K B H 1 kd.2 kv.2 f
theorem Sta.dic2 {ds:List (aA×aA)}(S:Sta K H0 P0 B0 ρ σ H fp)(e:ρ[i]?=some (some (2,.dict ds))) : ∃ p ep xs Fs,σ[i]?=some (some (.ref p))/\H p=some (.dK ep xs)/\fp i=p::Fs.flatten/\All3 (R1 K (L2.hid H (Hd P0 fp)) H) ds xs Fs:=by
 obtain⟨v,h1,h2⟩:=S.slot i 2 _ e
 obtain⟨p,xs,Fs,rfl,hp,hF,h3⟩:=h2
 exact⟨p,xs.1,xs.2,Fs,h1,hp,hF,h3⟩
theorem Fx (k0 d0:aA)(r:List (aA×aA))(k:aN):cF ((k0,d0)::r) k=if cV k0=some k then some d0 else cF r k:=by
 unfold cF
 rw[gT]
 by_cases h:cV k0=some k
 ·rw[if_pos h]; simp[h]
 ·rw[if_neg h]; simp[h]
theorem QT {B:Hp}{kd:aA×aA}{kv:aN×V}{f:List aD}(h:R1 K B H kd kv f) : ∀ {ds:List (aA×aA)} {xs:List (aN×V)} {Fs:List (List aD)},All3 (R1 K B H) ds xs Fs->All3 (R1 K B H) (ds++[kd]) (xs++[kv]) (Fs++[f])
 | _,_,_,.nil=>.cons h .nil
 | _,_,_,.cons h' t=>.cons h' (QT h t)
theorem QR {B:Hp}{k:aN} : ∀ {ds:List (aA×aA)} {xs:List (aN×V)} {Fs:List (List aD)},All3 (R1 K B H) ds xs Fs->cF ds k=none->eF xs k=none
 | _,_,_,.nil,_=>rfl
 | (k0,d0)::ds,(k',v0)::xs,f0::Fs,.cons h t,e=>by
  obtain⟨ek,h⟩:=h
  have ek:=ek
  subst ek
  rw[Fx,oW] at e
  by_cases q:k'=k
  ·rw[if_pos (by rw[q])] at e; cases e
  ·rw[if_neg (fun z=>q (eU z))] at e
   exact(tH q).trans (QR t e)
theorem NU {B:Hp} : ∀ {ds:List (aA×aA)} {xs:List (aN×V)} {Fs:List (List aD)},All3 (R1 K B H) ds xs Fs->xs.length=ds.length
 | _,_,_,.nil=>rfl
 | _,_,_,.cons _ t=>by rw[fG,fG,NU t]
theorem Sta.newKey {ds:List (aA×aA)}{k:aN}{d:aA}{v:V}(S:Sta K H0 P0 B0 ρ σ H fp)(e:ρ[i]?=some (some (2,.dict ds)))(hk:cF ds k=none)(r:Agc K (L2.hid H (Hd P0 fp)) H 1 d v (fp ρ.length)) : ∃ p ep xs,σ[i]?=some (some (.ref p))/\H p=some (.dK ep xs)/\xs.length=ds.length /\
  ∀ n,∃ fp',Sta K H0 P0 B0 (ρ.set i (some (2,.dict (ds++[(kD k,d)])))) σ (upd H p (.dK n (putK xs k v))) fp':=by
 obtain⟨p,ep,xs,Fs,h1,h2,h3,h4⟩:=S.dic2 e
 have hi:=(fI.mp e).1
 refine⟨p,ep,xs,h1,h2,NU h4,fun n=>?_⟩
 have ep':putK xs k v=xs++[(k,v)]:=by
  unfold putK
  rw[zL,QR h4 hk]
  rfl
 have mp:p∈fp i:=by rw[h3]; exact cC
 have nl : ∀ a∈fp ρ.length,a∉fp i:=fun a m m2=>by
  have:=S.dj _ _ a m m2
  omega
 refine⟨fun j=>if j=i then p::(Fs++[fp ρ.length]).flatten else if j=ρ.length then [] else fp j,S.change hi h1 (fun j a b=>?_) (fun j a=>?_) ?_ (fun a m=>?_) (fun a na=>bP fun z=>na (by rw[show a=p from z]; exact mp)) (fun a m=>?_) fun xb=>?_⟩
 ·simp only[a,if_false]
  rw[if_neg (by omega)]
 ·have:j≠i:=by omega
  simp only[this,if_false]
  by_cases z:j=ρ.length
  ·rw[if_pos z]; exact .inl rfl
  ·rw[if_neg z]; exact .inr rfl
 ·simp only[if_true,WE,WD]
  have nd:=S.nd i
  rw[h3] at nd
  rw[← BU]
  refine BP.mpr ⟨nd,S.nd _,fun a ha b hb e=>?_⟩
  subst e
  exact nl a hb (by rw[h3]; exact ha)
 ·simp only[if_true,WE,WD] at m
  rw[← BU] at m
  rcases jS.mp m with m | m
  ·exact⟨i,by rw[h3]; exact m,.inl rfl⟩
  ·refine⟨ρ.length,m,.inr ?_⟩
   have:ρ.length≠i:=by omega
   simp only[this,if_false,if_true]
 ·simp only[if_true,WE,WD] at m
  rw[← BU] at m
  by_cases z:a=p
  ·subst z; exact .inr ⟨.inl (n,_),eL⟩
  ·rw[bP z]
   rcases jS.mp m with m | m
   ·exact(S.own i a (by rw[h3]; exact m)).2
   ·exact(S.own _ a m).2
 ·simp only[if_true]
  have nd:=S.nd i
  rw[h3,gH] at nd
  rw[ep'] at xb ⊢
  refine⟨p,(n,xs++[(k,v)]),Fs++[fp ρ.length],rfl,eL,rfl,?_⟩
  have rk:=Agc.keep xb (H':=upd H p (.dK n (xs++[(k,v)]))) (fun a m=>bP fun z=>nl a m (by rw[show a=p from z]; exact mp)) r
  refine QT ⟨rfl,rk⟩ (h4.imp fun a b c m rr=>⟨rr.1,Agc.keep xb (fun z hz=>bP fun z2=>nd.1 ?_) rr.2⟩)
  have z2:=z2
  rw[← z2]
  exact oI.mpr ⟨c,m,hz⟩
end
noncomputable def IB (i:Nat)(ρ:aW):Option (List (aA×aA)):=match ρ[i]? with
 | some (some (2,.dict ds))=>some ds
 | _=>none
theorem SC {i:Nat}{ρ:aW}{ds:List (aA×aA)}(h:IB i ρ=some ds):ρ[i]?=some (some (2,.dict ds)):=by
 unfold IB at h
 split at h
 ·rename_i e; cases h; exact e
 ·cases h
section
variable {X:Cx}{H0:Hp}{P0:aD->Prop}{n0:Nat}{e k o:aS}{f g:EF}{x:aB}{px pos apos cpos spos:bG}{i:Nat}
theorem Pq:DF 2 X (.Dict [] [] pos) (eC (.dict [])):=PE.imp FH fun σ H Q gh=>by
 obtain⟨P,ρ,d,hP,rs,ef,k⟩:=gh
 cases ef
 refine fun q hq=>k (.ref q) _ [q] (Ext.new hq) (gH.mpr ⟨by simp,.nil⟩) (fun a m=>?_) ⟨q,(0,[]),[],rfl,eL,rfl,.nil⟩
 have:a=q:=by simpa using m
 subst this
 exact⟨hq,_,eL⟩
noncomputable def CQ (i:Nat)(m:Md)(f:EF)(mk:Md)(g:EF):SF:=fun ρ=>(eV 1 m f ρ).bind fun d=>(IB i ρ).bind fun kds=>(eV 0 mk g ρ).bind fun k=>(cV k).bind fun k=>if cF kds k=none/\kds.length<sizeLine then some (.nx (ρ.set i (some (2,.dict (kds++[(kD k,d)]))))) else none
theorem Oa (i:Nat)(m mk:Md)(hu:X.A.units+40<cLine)(he:DF 1 X e f)(hk:DE X k g)(hN:X.N[i]?=some x:=by rfl)(hv:nB X.env.scope x:=by first | exact bB rfl | exact bC (bB rfl) | exact bC (bC rfl))(hd:(x == ("__debug__" : aB))=false:=by decide)
  (hcd:(x == ("__classdict__" : aB))=false:=by decide) (hs:lT e (some (.Subscript (.Name x px) k apos)) pos.line X.env=pure false:=by rfl):DS X H0 P0 n0 (.Assign [.Subscript (.Name x px) k apos] e pos) (CQ i m f mk g):=
 PS.imp (EN hu (qG hN hv hd hcd) hk (ev (H0:=H0) (P0:=P0) m he) hs) fun D σ H gh=>by
  obtain⟨B0,ρ,fp,o,S,ef,kk⟩:=gh
  obtain⟨d,e1,ef2⟩:=XBs ef
  obtain⟨kds,e2,ef3⟩:=XBs ef2
  obtain⟨kd,e3,ef4⟩:=XBs ef3
  obtain⟨key,e4,ef5⟩:=XBs ef4
  obtain⟨⟨hn,hl⟩,rfl⟩:=cW ef5
  clear ef ef2 ef3 ef4
  refine⟨B0,ρ,fp,d,S,e1,fun v H2 gh=>?_⟩
  obtain⟨fp2,S2,r2⟩:=gh
  obtain⟨p,ep,xs,h1,h2,_,_⟩:=S2.newKey (SC e2) hn r2
  have hf:eQ kd=true:=by rw[SD e4]; cases key <;> simp[kD,eQ]
  refine⟨.ref p,h1,KU S2 e3 hf fun u H3 x3 r3=>?_⟩
  have S3:=S2.grow x3
  have r4:Agc X.K (hid H3 (Hd P0 fp2)) H3 1 d v (fp2 ρ.length):=r2.keep (cI x3) fun a m=>by
   rcases(S2.own _ a m).2 with⟨xs,e⟩ | ⟨xs,e⟩
   ·rw[e,x3 _ _ e]
   ·rw[e,x3 _ _ e]
  obtain⟨p3,ep3,xs3,q1,q2,q3,q4⟩:=S3.newKey (SC e2) hn r4
  have:p3=p:=by rw[h1] at q1; cases q1; rfl
  subst this
  refine⟨p3,_,rfl,.inl ⟨ep3,xs3,key,q2,wO e4 r3,by rw[q3]; exact hl,rfl⟩,fun n=>?_⟩
  obtain⟨fp',S4⟩:=q4 n
  exact kk _ _ fp' S4
end
end L2
namespace Aw
open PySem L2
noncomputable def top (i:Nat):bH:=PySem.Challenge.pw_askwithin_k10_deeds_refused.main.body.getD i (.Pass ⟨0,0,0,0⟩)
noncomputable abbrev GM:bH:=top 13
noncomputable abbrev Gf:List aB:=["thing"]
noncomputable abbrev tT:List aB:=["thing"]
theorem Akt:FnScope Gf tT (bT GM):=⟨rfl,rfl,rfl,by decide +kernel,rfl,by decide +kernel,by decide +kernel⟩
noncomputable abbrev GJ:bH:=top 14
noncomputable abbrev Fm:List aB:=["thing"]
noncomputable abbrev wW:List aB:=["thing"]
theorem Akh:FnScope Fm wW (bT GJ):=⟨rfl,rfl,rfl,by decide +kernel,rfl,by decide +kernel,by decide +kernel⟩
noncomputable abbrev zS:bH:=top 15
noncomputable abbrev PH:List aB:=["thing"]
noncomputable abbrev tM:List aB:=["thing"]
theorem Ame:FnScope PH tM (bT zS):=⟨rfl,rfl,rfl,by decide +kernel,rfl,by decide +kernel,by decide +kernel⟩
noncomputable abbrev FY:bH:=top 16
noncomputable abbrev Eb:List aB:=["thing"]
noncomputable abbrev wQ:List aB:=["thing"]
theorem Al6:FnScope Eb wQ (bT FY):=⟨rfl,rfl,rfl,by decide +kernel,rfl,by decide +kernel,by decide +kernel⟩
noncomputable abbrev zI:bH:=top 21
noncomputable abbrev OQ:List aB:=["thing"]
noncomputable abbrev wN:List aB:=["thing"]
theorem Ap3:FnScope OQ wN (bT zI):=⟨rfl,rfl,rfl,by decide +kernel,rfl,by decide +kernel,by decide +kernel⟩
noncomputable abbrev GH:bH:=top 22
noncomputable abbrev Ew:List aB:=["thing"]
noncomputable abbrev wV:List aB:=["thing"]
theorem Akr:FnScope Ew wV (bT GH):=⟨rfl,rfl,rfl,by decide +kernel,rfl,by decide +kernel,by decide +kernel⟩
noncomputable abbrev xA:bH:=top 23
noncomputable abbrev HG:List aB:=["thing"]
noncomputable abbrev xF:List aB:=["thing"]
theorem Ah8:FnScope HG xF (bT xA):=⟨rfl,rfl,rfl,by decide +kernel,rfl,by decide +kernel,by decide +kernel⟩
noncomputable abbrev HL:bH:=inClass (top 24) 0
noncomputable abbrev SZ:List aB:=["self","widths","table"]
noncomputable abbrev xI:List aB:=["self","widths"]
theorem Aga:FnScope SZ xI (bT HL):=⟨rfl,rfl,rfl,by decide +kernel,rfl,by decide +kernel,by decide +kernel⟩
noncomputable abbrev HN:bH:=inClass (top 24) 1
noncomputable abbrev Jn:List aB:=["self","table"]
noncomputable abbrev qX:List aB:=["self","table"]
theorem Afa:FnScope Jn qX (bT HN):=⟨rfl,rfl,rfl,by decide +kernel,rfl,by decide +kernel,by decide +kernel⟩
noncomputable abbrev HM:bH:=inClass (top 24) 2
noncomputable abbrev Jh:List aB:=["self","table","row"]
noncomputable abbrev pI:List aB:=["self","table","row"]
theorem Agb:FnScope Jh pI (bT HM):=⟨rfl,rfl,rfl,by decide +kernel,rfl,by decide +kernel,by decide +kernel⟩
noncomputable abbrev zZ:bH:=inClass (top 24) 3
noncomputable abbrev SE:List aB:=["self","table","row"]
noncomputable abbrev nO:List aB:=["self","table","row"]
theorem Afw:FnScope SE nO (bT zZ):=⟨rfl,rfl,rfl,by decide +kernel,rfl,by decide +kernel,by decide +kernel⟩
noncomputable abbrev GY:bH:=inClass (top 24) 4
noncomputable abbrev Gh:List aB:=["self","table","row"]
noncomputable abbrev wY:List aB:=["self","table","row"]
theorem Ajp:FnScope Gh wY (bT GY):=⟨rfl,rfl,rfl,by decide +kernel,rfl,by decide +kernel,by decide +kernel⟩
noncomputable abbrev GR:bH:=inClass (top 24) 5
noncomputable abbrev Fz:List aB:=["self","table","row"]
noncomputable abbrev wU:List aB:=["self","table","row"]
theorem Ali:FnScope Fz wU (bT GR):=⟨rfl,rfl,rfl,by decide +kernel,rfl,by decide +kernel,by decide +kernel⟩
noncomputable abbrev HA:bH:=inClass (top 24) 6
noncomputable abbrev Gi:List aB:=["self","table"]
noncomputable abbrev tU:List aB:=["self","table"]
theorem Ajl:FnScope Gi tU (bT HA):=⟨rfl,rfl,rfl,by decide +kernel,rfl,by decide +kernel,by decide +kernel⟩
noncomputable abbrev HJ:bH:=inClass (top 24) 7
noncomputable abbrev Iz:List aB:=["self"]
noncomputable abbrev tZ:List aB:=["self"]
theorem Ag8:FnScope Iz tZ (bT HJ):=⟨rfl,rfl,rfl,by decide +kernel,rfl,by decide +kernel,by decide +kernel⟩
noncomputable abbrev HF:bH:=inClass (top 24) 8
noncomputable abbrev Hj:List aB:=["self","table"]
noncomputable abbrev xE:List aB:=["self","table"]
theorem Ahu:FnScope Hj xE (bT HF):=⟨rfl,rfl,rfl,by decide +kernel,rfl,by decide +kernel,by decide +kernel⟩
noncomputable abbrev AE:bH:=inClass (top 24) 9
noncomputable abbrev SI:List aB:=["self"]
noncomputable abbrev xB:List aB:=["self"]
theorem Ajk:FnScope SI xB (bT AE):=⟨rfl,rfl,rfl,by decide +kernel,rfl,by decide +kernel,by decide +kernel⟩
noncomputable abbrev HE:bH:=inClass (top 24) 10
noncomputable abbrev Hv:List aB:=["self","book","table"]
noncomputable abbrev wZ:List aB:=["self"]
theorem Aid:FnScope Hv wZ (bT HE):=⟨rfl,rfl,rfl,by decide +kernel,rfl,by decide +kernel,by decide +kernel⟩
noncomputable abbrev GW:bH:=top 26
noncomputable abbrev Hi:List aB:=["_law_script","_law_k","_law_number"]
noncomputable abbrev wX:List aB:=["_law_script","_law_k"]
theorem Ajg:FnScope Hi wX (bT GW):=⟨rfl,rfl,rfl,by decide +kernel,rfl,by decide +kernel,by decide +kernel⟩
noncomputable abbrev GS:bH:=top 27
noncomputable abbrev Er:List aB:=["_law_cell_here","_law_k","_law_number"]
noncomputable abbrev pA:List aB:=["_law_cell_here","_law_k"]
theorem Als:FnScope Er pA (bT GS):=⟨rfl,rfl,rfl,by decide +kernel,rfl,by decide +kernel,by decide +kernel⟩
noncomputable abbrev tV:bH:=top 28
noncomputable abbrev AD:List aB:=["_law_cell_here","_law_count","_law_signs","_law_size","_law_base","_law_at","_law_found","_law_k"]
noncomputable abbrev tW:List aB:=["_law_cell_here","_law_count"]
theorem Aie:FnScope AD tW (bT tV):=⟨rfl,rfl,rfl,by decide +kernel,rfl,by decide +kernel,by decide +kernel⟩
noncomputable abbrev HD:bH:=top 29
noncomputable abbrev Ie:List aB:=["_law_book","_law_way","_law_table","_law_row","_law_found","error"]
noncomputable abbrev xD:List aB:=["_law_book","_law_way","_law_table","_law_row"]
theorem Aii:FnScope Ie xD (bT HD):=⟨rfl,rfl,rfl,by decide +kernel,rfl,by decide +kernel,by decide +kernel⟩
noncomputable abbrev HK:bH:=top 30
noncomputable abbrev Jd:List aB:=["_law_cell_here","_law_names_here","_law_some","_law_found"]
noncomputable abbrev xG:List aB:=["_law_cell_here","_law_names_here"]
theorem Agd:FnScope Jd xG (bT HK):=⟨rfl,rfl,rfl,by decide +kernel,rfl,by decide +kernel,by decide +kernel⟩
noncomputable abbrev AI:bH:=top 31
noncomputable abbrev SR:List aB:=["_law_cell_here","_law_wide","_law_row","_law_far","_law_at","_law_way","_law_bad"]
noncomputable abbrev xC:List aB:=["_law_cell_here","_law_wide"]
theorem Ag4:FnScope SR xC (bT AI):=⟨rfl,rfl,rfl,by decide +kernel,rfl,by decide +kernel,by decide +kernel⟩
noncomputable abbrev mH:bH:=top 32
noncomputable abbrev AV:List aB:=["_law_script","_law_pairs","_law_name","_law_names_here","_law_book","_law_k","_law_table","_law_wide","_law_before","_law_cell_here","_law_way","_law_row","_law_size"]
noncomputable abbrev KD:List aB:=["_law_script"]
theorem A5e:FnScope AV KD (bT mH):=⟨rfl,rfl,rfl,by decide +kernel,rfl,by decide +kernel,by decide +kernel⟩
structure Blt (mg:aB->Option aE):Prop where
 «isinstance» : mg "isinstance" = none
 «int» : mg "int" = none
 «bool» : mg "bool" = none
 «abs» : mg "abs" = none
 «range» : mg "range" = none
 «len» : mg "len" = none
 «str» : mg "str" = none
 «all» : mg "all" = none
 «any» : mg "any" = none
 «list» : mg "list" = none
 «tuple» : mg "tuple" = none
 «dict» : mg "dict" = none
 «set» : mg "set" = none
 «sorted» : mg "sorted" = none
 «sum» : mg "sum" = none
 «min» : mg "min" = none
 «max» : mg "max" = none
 «enumerate» : mg "enumerate" = none
 «zip» : mg "zip" = none
 «reversed» : mg "reversed" = none
 «ValueError» : mg "ValueError" = none
structure Cst (mg:aB->Option aE):Prop where
 LETTERS : ∃ t,mg "LETTERS" = some (.str "abcdefghijklmnopqrstuvwxyz" t)
 FIGURES : ∃ t,mg "FIGURES" = some (.str "0123456789" t)
 MOST_SIGNS : ∃ t,mg "MOST_SIGNS" = some (.int 12 t)
 MOST_WIDTH : ∃ t,mg "MOST_WIDTH" = some (.int 6 t)
 MOST_TABLES : ∃ t,mg "MOST_TABLES" = some (.int 12 t)
 MOST_ROWS : ∃ t,mg "MOST_ROWS" = some (.int 60 t)
structure Xcs (K:aJ)(mg:aB->Option aE):Prop where
 bk:InsC K "Book"
 r_NoTable:yN K "NoTable"
 r_NoRow:yN K "NoRow"
 r_Full:yN K "Full"
 t_AskError:ExM K mg "NoTable" "AskError"
 i_TooMany:IsM K mg "NoTable" "TooMany" false
 i_Full:IsM K mg "NoTable" "Full" false
 i_ValueError:IsV K mg "NoTable" "ValueError" "ValueError" true
 i_NoDeed:IsM K mg "NoTable" "NoDeed" false
 i_NoName:IsM K mg "NoTable" "NoName" false
 i_NoText:IsM K mg "NoTable" "NoText" false
 i_NoRow:IsM K mg "NoTable" "NoRow" false
 i_NoTable:IsM K mg "NoTable" "NoTable" true
 t_AskError_NoRow:ExM K mg "NoRow" "AskError"
 i_TooMany_NoRow:IsM K mg "NoRow" "TooMany" false
 i_Full_NoRow:IsM K mg "NoRow" "Full" false
 i_ValueError_NoRow:IsV K mg "NoRow" "ValueError" "ValueError" true
 i_NoDeed_NoRow:IsM K mg "NoRow" "NoDeed" false
 i_NoName_NoRow:IsM K mg "NoRow" "NoName" false
 i_NoText_NoRow:IsM K mg "NoRow" "NoText" false
 i_NoRow_NoRow:IsM K mg "NoRow" "NoRow" true
 i_NoTable_NoRow:IsM K mg "NoRow" "NoTable" false
set_option maxHeartbeats 4000000
variable {P:bE}{w:bA}{K:aJ}{mg:aB->Option aE}{base:aU}{f:aD}{fd:fJ}
noncomputable def Gb:SF:=(cN 0 .s (iJ (eUn (jH "int") (aF 0)) (KB (eUn (jH "bool") (aF 0)))))
noncomputable def pB:List aA->Option aA:=fnD 1 1 Gb
theorem Gy (F:Fun K "is_whole" "is_whole" GM f fd)(B:Blt mg)(C:Cst mg)(V:Xcs K mg):FnOk P w K mg base CX0 1 f fd tT (spF K 0 pB):=by
 have nd:=Akt.nd
 exact jI F Akt rfl (by decide) fun cdv A outer s H E P0 hr=>by
  have hu:=fK hr
  have hv:=fA hr
  exact(bO (dD .s (qJ (sS (T:="int") rfl B.isinstance rfl B.int PyProof.Rows.boot_int (by decide) (aI 0)) (sU (ZC (sS (T:="bool") rfl B.isinstance rfl B.bool PyProof.Rows.boot_bool (by decide) (aI 0)))))))
noncomputable def Ea:SF:=(bD (sIf .s (bOr (fR (bOf (eUn (jH "str") (aF 0)))) (fR (bOf (iL gLe gLe (eC (.int 1)) (aO dH (aG (aF 0) aK)) (eC (.int 12)))))) (cN 0 .s (eC (.bool false))) dQ)
 (cN 0 .s (iJ (eOp (gIn false) (eOp gIx (aF 0) (eC (.int 0))) (eC (.str "abcdefghijklmnopqrstuvwxyz"))) (aO qY (aG (eLC [none] (iIt (aF 0)) (gB 0) fY (eOp (gIn false) (aF 0) (eOp cO (eC (.str "abcdefghijklmnopqrstuvwxyz")) (eC (.str "0123456789"))))) aK)))))
noncomputable def dR:List aA->Option aA:=fnD 1 1 Ea
theorem Eo (F:Fun K "is_name" "is_name" zS f fd)(B:Blt mg)(C:Cst mg)(V:Xcs K mg):FnOk P w K mg base CX0 1 f fd tM (spF K 0 dR):=by
 obtain⟨_,h_FIGURES⟩:=C.FIGURES
 obtain⟨_,h_LETTERS⟩:=C.LETTERS
 obtain⟨_,h_MOST_SIGNS⟩:=C.MOST_SIGNS
 have nd:=Ame.nd
 exact jI F Ame rfl (by decide) fun cdv A outer s H E P0 hr=>by
  have hu:=fK hr
  have hv:=fA hr
  exact(bQ (fC .s (lZ (lO (mL (jY (sS (T:="str") rfl B.isinstance rfl B.str PyProof.Rows.boot_str (by decide) (aI 0)))) (nD (mL (OK (Avr.or tN) (Avr.or tN) sT sT aR (fN kH kE rfl B.len jA (aL (aI 0) aT)) (tL (i:=12) rfl h_MOST_SIGNS ⟨_,rfl⟩)))))) (bO (dD .s gW)) fM)
   (bO (dD .s (qJ (nE (qT hu) nK (dN hv (aI 0) aR (fun _ _=>rfl)) (ET (i:="abcdefghijklmnopqrstuvwxyz") rfl h_LETTERS ⟨_,rfl⟩) (by with_unfolding_all rfl)) (sU (fN (FQ rfl) FR rfl B.all boot_all (aL (fV (n:=1) (mK rfl (lB (N:=["sign"]) (cap:=[none]) (out:=(bT zS).names) (XN:=PH) rfl rfl (by decide +kernel) rfl) kR (nJ (aI 0)) (fun cl C s₀ H₀ ex=>⟨lA (j:=0) (show(["sign"]:List aB).Nodup by decide +kernel) rfl (bB rfl),kZ,(nE (qT hu) nK (aI 0) (gE (ET (i:="abcdefghijklmnopqrstuvwxyz") rfl h_LETTERS ⟨_,rfl⟩) (ET (i:="0123456789") rfl h_FIGURES ⟨_,rfl⟩)) (by with_unfolding_all rfl))⟩))) aT)))))))
noncomputable def Cz:SF:=(cN 0 .s (iJ (eUn (jH "tuple") (aF 0)) (eOp gEq (aO dH (aG (aF 0) aK)) (eC (.int 2)))))
noncomputable def qU:List aA->Option aA:=fnD 1 1 Cz
theorem Fy (F:Fun K "is_pair" "is_pair" FY f fd)(B:Blt mg)(C:Cst mg)(V:Xcs K mg):FnOk P w K mg base CX0 1 f fd wQ (spF K 0 qU):=by
 have nd:=Al6.nd
 exact jI F Al6 rfl (by decide) fun cdv A outer s H E P0 hr=>by
  have hu:=fK hr
  have hv:=fA hr
  exact(bO (dD .s (qJ (sS (T:="tuple") rfl B.isinstance rfl B.tuple VP (by decide) (aI 0)) (sU (nE (iG hu) iF (fN kH kE rfl B.len jA (aL (aI 0) aT)) aR (eD _))))))
noncomputable def Iy (z:Option aB):SF:=(cN 1 .s (aO yX (aG (eUn (kT "Book") (aF 0)) aK)))
noncomputable def pJ:FX:=fun z=>fnD 1 1 (Iy z)
theorem Je (F:Fun K "tables" "Book.tables" HJ f fd)(B:Blt mg)(C:Cst mg)(V:Xcs K mg):FnOk P w K mg base (CXR base P w) 1 f fd tZ (spX K 1 pJ):=by
 have nd:=Ag8.nd
 exact mM F Ag8 rfl (by decide) fun cdv A outer s H E P0 z hr hz=>by
  have hu:=fK hr
  have hv:=fA hr
  exact(bO (dD .s (fN (Jb rfl) Ho rfl B.sorted VQ (aL (yV V.bk (aI 0)) aT))))
noncomputable def Hb (z:Option aB):SF:=(cN 0 .s (aO AY (aG (eLC [none] (iDV (eUn (hJ "Book") (aF 0))) (gB 0) fY (aO sI (aG (aF 0) aK))) aK)))
noncomputable def pD:FX:=fun z=>fnD 1 1 (Hb z)
theorem Iv (F:Fun K "size" "Book.size" AE f fd)(B:Blt mg)(C:Cst mg)(V:Xcs K mg):FnOk P w K mg base (CXR base P w) 1 f fd xB (spX K 0 pD):=by
 have nd:=Ajk.nd
 exact mM F Ajk rfl (by decide) fun cdv A outer s H E P0 z hr hz=>by
  have hu:=fK hr
  have hv:=fA hr
  exact(bO (dD .s (fN (QU rfl) RM rfl B.sum RB (aL (fV (n:=1) (mK rfl (lB (N:=["rows"]) (cap:=[none]) (out:=(bT AE).names) (XN:=SI) rfl rfl (by decide +kernel) rfl) kR (Ma (oU V.bk (aI 0))) (fun cl C s₀ H₀ ex=>⟨lA (j:=0) (show(["rows"]:List aB).Nodup by decide +kernel) rfl (bB rfl),kZ,(fN FV GN rfl B.len jA (aL (aI 0) aT))⟩))) aT))))
noncomputable def AA:SF:=(bD (sIf .s (bOf (eOp gLt (aF 1) (aO dH (aG (aF 0) aK)))) (cN 0 .s (eOp gIx (aF 0) (aF 1))) dQ)
 (bD (bW 2 0 .s (eOp cO (eOp fS (aF 1) (eC (.int 7919))) (eC (.int 5))))
 (bD (sIf .s (bOf (eOp gGt (aO dH (aG (aF 0) aK)) (eC (.int 0)))) (bW 2 0 .s (eOp cG (eOp cO (eOp fS (eOp gIx (aF 0) (eOp cG (eOp fS (aF 1) (eC (.int 7))) (aO dH (aG (aF 0) aK)))) (eC (.int 48271))) (eOp fS (aF 1) (eC (.int 7919)))) (eC (.int 2147483647)))) dQ)
 (cN 0 .s (eOp cG (eOp fS (aF 2) (aF 2)) (eC (.int 2147483629)))))))
noncomputable def kG:List aA->Option aA:=fnD 2 3 AA
theorem Hq (F:Fun K "_law_cell" "_law_cell" GW f fd)(B:Blt mg)(C:Cst mg)(V:Xcs K mg):FnOk P w K mg base CX0 1 f fd wX (spF K 0 kG):=by
 have nd:=Ajg.nd
 exact jI F Ajg rfl (by decide) fun cdv A outer s H E P0 hr=>by
  have hu:=fK hr
  have hv:=fA hr
  exact(bQ (fC .s (eE (Bdd.or QZ) UE (aI 1) (fN kH kE rfl B.len jA (aL (aI 0) aT)) (eD _)) (bO (dD .s (dN hv (aI 0) (aI 1) (fun _ _=>rfl)))) fM)
   (bQ (dA (i:=2) 0 .s nd rfl (by first | exact bB rfl | exact bC rfl) (gE (kW (aI 1) aR) aR))
   (bQ (fC .s (eE vJ vR (fN kH kE rfl B.len jA (aL (aI 0) aT)) aR (eD _)) (bO (dA (i:=2) 0 .s nd rfl (by first | exact bB rfl | exact bC rfl) (eK (gE (kW (dN hv (aI 0) (eK (kW (aI 1) aR) (fN kH kE rfl B.len jA (aL (aI 0) aT))) (fun _ _=>rfl)) aR) (kW (aI 1) aR)) aR))) fM)
   (bO (dD .s (eK (kW (aI 2) (aI 2)) aR))))))
noncomputable def RG:SF:=(bD (bW 2 0 .s (eOp cG (eOp cO (eOp cO (eOp cO (eOp fS (eOp cG (aF 0) (eC (.int 2147483647))) (eC (.int 48271))) (eOp fS (eOp fS (aF 1) (aF 1)) (eC (.int 69621)))) (aF 1)) (eC (.int 11))) (eC (.int 2147483629))))
 (cN 0 .s (eOp cG (eOp fS (aF 2) (aF 2)) (eC (.int 2147483587)))))
noncomputable def dE:List aA->Option aA:=fnD 2 3 RG
theorem Gj (F:Fun K "_law_mix" "_law_mix" GS f fd)(B:Blt mg)(C:Cst mg)(V:Xcs K mg):FnOk P w K mg base CX0 1 f fd pA (spF K 0 dE):=by
 have nd:=Als.nd
 exact jI F Als rfl (by decide) fun cdv A outer s H E P0 hr=>by
  have hu:=fK hr
  have hv:=fA hr
  exact(bQ (dA (i:=2) 0 .s nd rfl (by first | exact bB rfl | exact bC rfl) (eK (gE (gE (gE (kW (eK (aI 0) aR) aR) (kW (kW (aI 1) (aI 1)) aR)) (aI 1)) aR) aR))
   (bO (dD .s (eK (kW (aI 2) (aI 2)) aR))))
noncomputable def Eu:SF:=(cN 0 .s (iJ (aO pB (aG (aF 0) aK)) (eOp gLt (aO CD (aG (aF 0) aK)) (eOp fS (eOp mG (eC (.int 10)) (eC (.int 60))) (eOp mG (eC (.int 10)) (eC (.int 10)))))))
noncomputable def tR:List aA->Option aA:=fnD 1 1 Eu
theorem Gz (F:Fun K "is_value" "is_value" GJ f fd)(B:Blt mg)(C:Cst mg)(V:Xcs K mg)(D_is_whole:Def P w K mg base "is_whole" 1 tT (spF K 0 pB)):FnOk P w K mg base CX0 2 f fd wW (spF K 0 tR):=by
 have nd:=Akh.nd
 exact jI F Akh rfl (by decide) fun cdv A outer s H E P0 hr=>by
  have hu:=fK hr
  have hv:=fA hr
  exact(bO (dD .s (qJ (cS D_is_whole (hr.mono (by decide)) rfl (aL (aI 0) aT)) (sU (nE (Bdd.or QZ) UE (fN Cq Du rfl B.abs boot_abs (aL (aI 0) aT)) (kW (vO aR aR) (vO aR aR)) (eD _))))))
noncomputable def RU:SF:=(cN 0 .s (iJ (aO pB (aG (aF 0) aK)) (iL gLe gLe (eC (.int 1)) (aF 0) (eC (.int 6)))))
noncomputable def nP:List aA->Option aA:=fnD 1 1 RU
theorem Gw (F:Fun K "is_width" "is_width" GH f fd)(B:Blt mg)(C:Cst mg)(V:Xcs K mg)(D_is_whole:Def P w K mg base "is_whole" 1 tT (spF K 0 pB)):FnOk P w K mg base CX0 2 f fd wV (spF K 0 nP):=by
 obtain⟨_,h_MOST_WIDTH⟩:=C.MOST_WIDTH
 have nd:=Akr.nd
 exact jI F Akr rfl (by decide) fun cdv A outer s H E P0 hr=>by
  have hu:=fK hr
  have hv:=fA hr
  exact(bO (dD .s (qJ (cS D_is_whole (hr.mono (by decide)) rfl (aL (aI 0) aT)) (sU (Qa (Avr.or tN) (Avr.or tN) sT sT aR (aI 0) (tL (i:=6) rfl h_MOST_WIDTH ⟨_,rfl⟩))))))
noncomputable def AJ (z:Option aB):SF:=(sIf .s (bOr (fR (bOf (aO dR (aG (aF 1) aK)))) (bOf (eOp (gIn true) (aF 1) (eUn (kT "Book") (aF 0))))) (vM z "NoTable") dQ)
noncomputable def lD:FX:=fun z=>fnD 2 2 (AJ z)
theorem Jm (F:Fun K "want_table" "Book.want_table" HN f fd)(B:Blt mg)(C:Cst mg)(V:Xcs K mg)(D_is_name:Def P w K mg base "is_name" 1 tM (spF K 0 dR)):FnOk P w K mg base (CXR base P w) 2 f fd qX (spX K 0 lD):=by
 have nd:=Afa.nd
 exact mM F Afa rfl (by decide) fun cdv A outer s H E P0 z hr hz=>by
  have hu:=fK hr
  have hv:=fA hr
  exact(bO (fC .s (lZ (lO (mL (jY (cS D_is_name (hr.mono (by decide)) rfl (aL (aI 1) aT)))) (nD (eE (SM hu) nK (aI 1) (yV V.bk (aI 0)) (by with_unfolding_all rfl))))) (bO (zN hz V.r_NoTable rfl rfl)) fM))
noncomputable def Ic:SF:=(bD (bW 2 0 .s (eC (.str "abcdefghijklmnopqrstuvwxyz0123456789")))
 (bD (bW 3 0 .s (eOp cO (eC (.int 1)) (eOp cG (aO dE (aG (aF 0) (aG (eC (.int 1)) aK))) (eC (.int 12)))))
 (bD (sIf .s (bOf (eOp gEq (eOp cG (aO dE (aG (aF 0) (aG (eC (.int 2)) aK))) (eC (.int 3))) (eC (.int 0)))) (bW 3 0 .s (eC (.int 12))) dQ)
 (bD (bW 4 1 .s (eLC [none,some 2,some 0] (iR1 (aG (aF 3) aK)) (gB 0) fY (eOp gIx (aF 1) (eOp cG (aO dE (aG (aF 2) (aG (eOp cO (eC (.int 30)) (aF 0)) aK))) (eC (.int 36))))))
 (bD (vI 4 .s (eOp gIx (aF 2) (eOp cG (aO dE (aG (aF 0) (aG (eC (.int 50)) aK))) (eC (.int 26)))) .s (eC (.int 0)))
 (bD (sIf .s (bOf (eOp gEq (eOp cG (aO dE (aG (aF 0) (aG (eC (.int 2)) aK))) (eC (.int 3))) (eC (.int 0)))) (cN 1 .a (eLC [none,some 4] (iR1 (aG (aF 1) aK)) (gB 0) fY (eOp sH (eC (.str "")) (pM (aF 1) oN (oS (eOp cO (aF 0) (eC (.int 1)))))))) dQ)
 (bD (bW 5 0 .s (eOp cG (aO dE (aG (aF 0) (aG (eC (.int 3)) aK))) (aF 3)))
 (bD (bW 6 1 .s (jU aK))
 (bD (kP .s (iR1 (aG (aF 1) aK)) (gNm 7) (bD (vI 4 .s (eOp gIx (aF 2) (eOp cG (eOp cO (aO dE (aG (aF 0) (aG (eC (.int 4)) aK))) (aF 7)) (eOp cO (eC (.int 26)) (eOp fS (eC (.int 10)) (aO rW (aG (eOp gGt (aF 5) (eC (.int 0))) aK)))))) .s (aF 5))
 (rX 6 .a (eOp sH (eC (.str "")) (aF 4)))))
 (vF 4 (AW 6 1)))))))))))
noncomputable def pH:List aA->Option aA:=fnD 2 8 Ic
theorem Ii (F:Fun K "_law_names" "_law_names" tV f fd)(B:Blt mg)(C:Cst mg)(V:Xcs K mg)(D__law_mix:Def P w K mg base "_law_mix" 1 pA (spF K 0 dE)):FnOk P w K mg base CX0 2 f fd tW (spF K 1 pH):=by
 have nd:=Aie.nd
 exact jI F Aie rfl (by decide) fun cdv A outer s H E P0 hr=>by
  have hu:=fK hr
  have hv:=fA hr
  exact(bQ (dA (i:=2) 0 .s nd rfl (by first | exact bB rfl | exact bC rfl) kA)
   (bQ (dA (i:=3) 0 .s nd rfl (by first | exact bB rfl | exact bC rfl) (gE aR (eK (cS D__law_mix (hr.mono (by decide)) rfl (aL (aI 0) (aL aR aT))) aR)))
   (bQ (fC .s (eE (iG hu) iF (eK (cS D__law_mix (hr.mono (by decide)) rfl (aL (aI 0) (aL aR aT))) aR) aR (eD _)) (bO (dA (i:=3) 0 .s nd rfl (by first | exact bB rfl | exact bC rfl) aR)) fM)
   (bQ (by first | exact(NQ (i:=4) .s rfl nd rfl (by first | exact bB rfl | exact bC rfl) (lB (N:=["_law_k","_law_signs","_law_cell_here"]) (cap:=[none,some 2,some 0]) (out:=(bT tV).names) (XN:=AD) rfl rfl (by decide +kernel) rfl) kR (yS (tO rfl B.range (aL (aI 3) aT))) (fun cl C s₀ H₀ ex=>⟨lA (j:=0) (show(["_law_k","_law_signs","_law_cell_here"]:List aB).Nodup by decide +kernel) rfl (bB rfl),kZ,(dN hv (aI 1) (eK (cS D__law_mix (hr.mono (by decide)) rfl (aL (aI 2) (aL (gE aR (aI 0)) aT))) aR) (fun _ _=>rfl))⟩)) | exact(dA (i:=4) 1 .s nd rfl (by first | exact bB rfl | exact bC rfl) (mK rfl (lB (N:=["_law_k","_law_signs","_law_cell_here"]) (cap:=[none,some 2,some 0]) (out:=(bT tV).names) (XN:=AD) rfl rfl (by decide +kernel) rfl) kR (yS (tO rfl B.range (aL (aI 3) aT))) (fun cl C s₀ H₀ ex=>⟨lA (j:=0) (show(["_law_k","_law_signs","_law_cell_here"]:List aB).Nodup by decide +kernel) rfl (bB rfl),kZ,(dN hv (aI 1) (eK (cS D__law_mix (hr.mono (by decide)) rfl (aL (aI 2) (aL (gE aR (aI 0)) aT))) aR) (fun _ _=>rfl))⟩))))
   (bQ (NB 4 .s .s (dN hv (aI 2) (eK (cS D__law_mix (hr.mono (by decide)) rfl (aL (aI 0) (aL aR aT))) aR) (fun _ _=>rfl)) aR)
   (bQ (fC .s (eE (iG hu) iF (eK (cS D__law_mix (hr.mono (by decide)) rfl (aL (aI 0) (aL aR aT))) aR) aR (eD _)) (bO (dD .a (mK rfl (lB (N:=["_law_k","_law_base"]) (cap:=[none,some 4]) (out:=(bT tV).names) (XN:=AD) rfl rfl (by decide +kernel) rfl) kR (yS (tO rfl B.range (aL (aI 1) aT))) (fun cl C s₀ H₀ ex=>⟨lA (j:=0) (show(["_law_k","_law_base"]:List aB).Nodup by decide +kernel) rfl (bB rfl),kZ,(LX kA (fV (n:=1) (UA (aI 1) nL (lQ (gE (aI 0) aR)))))⟩)))) fM)
   (bQ (dA (i:=5) 0 .s nd rfl (by first | exact bB rfl | exact bC rfl) (eK (cS D__law_mix (hr.mono (by decide)) rfl (aL (aI 0) (aL aR aT))) (aI 3)))
   (bQ (dA (i:=6) 1 .s nd rfl (by first | exact bB rfl | exact bC rfl) (qL aT))
   (bQ (MN .s BM rfl (tO rfl B.range (aL (aI 1) aT)) (wA (i:=7) nd rfl (by first | exact bB rfl | exact bC rfl)) (bQ (NB 4 .s .s (dN hv (aI 2) (eK (gE (cS D__law_mix (hr.mono (by decide)) rfl (aL (aI 0) (aL aR aT))) (aI 7)) (gE aR (kW aR (zV Eh Dj rfl B.int PyProof.Rows.boot_int (aL (nE vJ vR (aI 5) aR (eD _)) aT))))) (fun _ _=>rfl)) (aI 5))
   (bO (RF 6 .a (LX kA (aI 4))))))
   (zB 4 (bO (LR 6))))))))))))
noncomputable def Ja:SF:=(bD (bW 2 0 .s (aO DZ (aG (eLC [none,some 0] (iR1 (aG (aF 1) aK)) (gB 0) fY (eOp vX (aO dE (aG (aF 1) (aG (eOp cO (eC (.int 11)) (aF 0)) aK))) (eOp mG (eC (.int 10)) (eC (.int 9))))) aK)))
 (bD (bW 3 0 .s (eOp fS (eOp mG (eC (.int 10)) (eC (.int 35))) (eOp mG (eC (.int 10)) (eC (.int 35)))))
 (bD (bW 4 0 .s (eOp cG (aO dE (aG (aF 0) (aG (eC (.int 18)) aK))) (aF 1)))
 (bD (bW 5 0 .s (eOp cG (aO dE (aG (aF 0) (aG (eC (.int 19)) aK))) (eC (.int 5))))
 (bD (sIf .s (bOf (eOp gEq (aF 5) (eC (.int 0)))) (cN 0 .s (eOp gIx (jU (aG (aO AO (aG (aF 2) aK)) (aG (eC .none) (aG (eC (.int 7)) (aG (eC (.str "row")) (aG (eC (.dict [])) (aG (eC (.bool true)) aK))))))) (eOp cG (aO dE (aG (aF 0) (aG (eC (.int 20)) aK))) (eC (.int 6))))) dQ)
 (bD (sIf .s (bOf (eOp gEq (aF 5) (eC (.int 1)))) (cN 0 .s (jG (aF 2) (oS (eC (.int 1))) oN)) dQ)
 (bD (sIf .s (bOf (eOp gEq (aF 5) (eC (.int 2)))) (cN 0 .s (eOp qE (aF 2) (gC (aG (eOp gIx (aF 2) (eC (.int 0))) aK)))) dQ)
 (bD (sIf .s (rZ (bOf (eOp gEq (aF 5) (eC (.int 3)))) (bOf (eOp gGt (aF 1) (eC (.int 1))))) (cN 0 .s (jG (gC (aG (eC (.int 0)) (aG (eC (.bool true)) (aG (eC (.int 2)) (aG (eC (.int 3)) (aG (eC (.int 4)) (aG (eC (.int 5)) aK))))))) oN (oS (aF 1)))) dQ)
 (bD (bW 6 0 .s (eOp gIx (jU (aG (eC (.bool true)) (aG (eC .none) (aG (eC (.str "7")) (aG (aF 3) (aG (eOp vX (eC (.int 0)) (aF 3)) (aG (gC (aG (eC (.int 7)) aK)) (aG (jU (aG (eC (.int 7)) aK)) (aG (eC (.dict [])) aK))))))))) (eOp cG (aO dE (aG (aF 0) (aG (eC (.int 20)) aK))) (eC (.int 8)))))
 (cN 0 .s (eOp qE (eOp qE (jG (aF 2) oN (oS (aF 4))) (gC (aG (aF 6) aK))) (jG (aF 2) (oS (eOp cO (aF 4) (eC (.int 1)))) oN))))))))))))
noncomputable def uA:List aA->Option aA:=fnD 2 7 Ja
theorem Jf (F:Fun K "_law_no_row" "_law_no_row" AI f fd)(B:Blt mg)(C:Cst mg)(V:Xcs K mg)(D__law_mix:Def P w K mg base "_law_mix" 1 pA (spF K 0 dE)):FnOk P w K mg base CX0 2 f fd xC (spF K 0 uA):=by
 have nd:=Ag4.nd
 exact jI F Ag4 rfl (by decide) fun cdv A outer s H E P0 hr=>by
  have hu:=fK hr
  have hv:=fA hr
  refine bQ ?_ ?_
  refine dA (i:=2) 0 .s ?_ ?_ ?_ ?_ ?_ ?_
  exact nd
  rfl
  first | exact bB rfl | exact bC rfl
  refine zV Iq Hh rfl B.tuple VP ?_
  refine aL ?_ ?_ ?_
  refine fV (n:=1) ?_
  refine mK rfl (lB (N:=["_law_k","_law_cell_here"]) (cap:=[none,some 0]) (out:=(bT AI).names) (XN:=SR) rfl rfl (by decide +kernel) rfl) kR ?_ (fun cl C s₀ H₀ ex=>⟨lA (j:=0) (show(["_law_k","_law_cell_here"]:List aB).Nodup by decide +kernel) rfl (bB rfl),kZ,(TH (cS D__law_mix (hr.mono (by decide)) rfl (aL (aI 1) (aL (gE aR (aI 0)) aT))) (vO aR aR))⟩)
  refine yS ?_
  refine tO rfl B.range ?_
  refine aL ?_ ?_ ?_
  exact(aI 1)
  exact aT
  rfl
  exact aT
  rfl
  rfl
  first | exact bB rfl | exact bC rfl | assumption
  refine bQ ?_ ?_
  refine dA (i:=3) 0 .s ?_ ?_ ?_ ?_ ?_ ?_
  exact nd
  rfl
  first | exact bB rfl | exact bC rfl
  refine kW ?_ ?_
  exact(vO aR aR)
  exact(vO aR aR)
  rfl
  first | exact bB rfl | exact bC rfl | assumption
  refine bQ ?_ ?_
  refine dA (i:=4) 0 .s ?_ ?_ ?_ ?_ ?_ ?_
  exact nd
  rfl
  first | exact bB rfl | exact bC rfl
  refine eK ?_ ?_
  refine cS D__law_mix (hr.mono (by decide)) rfl ?_
  refine aL ?_ ?_ ?_
  exact(aI 0)
  refine aL ?_ ?_ ?_
  exact aR
  exact aT
  rfl
  rfl
  exact(aI 1)
  rfl
  first | exact bB rfl | exact bC rfl | assumption
  refine bQ ?_ ?_
  refine dA (i:=5) 0 .s ?_ ?_ ?_ ?_ ?_ ?_
  exact nd
  rfl
  first | exact bB rfl | exact bC rfl
  refine eK ?_ aR
  refine cS D__law_mix (hr.mono (by decide)) rfl ?_
  refine aL ?_ ?_ ?_
  exact(aI 0)
  refine aL ?_ ?_ ?_
  exact aR
  exact aT
  rfl
  rfl
  rfl
  first | exact bB rfl | exact bC rfl | assumption
  refine bQ ?_ ?_
  refine fC .s ?_ ?_ fM
  refine eE (iG hu) iF ?_ aR (eD _)
  exact(aI 5)
  refine bO ?_
  refine dD .s ?_
  refine dN hv ?_ ?_ (fun _ _=>rfl)
  refine fV (n:=1) ?_
  refine qL ?_
  refine aL ?_ ?_ ?_
  refine fV (n:=1) ?_
  refine zV (Ir rfl) Fh rfl B.list PyProof.Rows.boot_list ?_
  refine aL ?_ ?_ ?_
  exact(aI 2)
  exact aT
  rfl
  refine aL ?_ ?_ ?_
  exact yQ
  refine aL ?_ ?_ ?_
  exact aR
  refine aL ?_ ?_ ?_
  exact kA
  refine aL ?_ ?_ ?_
  exact(fV (n:=1) MW)
  refine aL ?_ ?_ ?_
  exact gW
  exact aT
  rfl
  rfl
  rfl
  rfl
  rfl
  rfl
  refine eK ?_ aR
  refine cS D__law_mix (hr.mono (by decide)) rfl ?_
  refine aL ?_ ?_ ?_
  exact(aI 0)
  refine aL ?_ ?_ ?_
  exact aR
  exact aT
  rfl
  rfl
  refine bQ ?_ ?_
  refine fC .s ?_ ?_ fM
  refine eE (iG hu) iF ?_ aR (eD _)
  exact(aI 5)
  refine bO ?_
  refine dD .s ?_
  refine qH ?_ ?_ nL
  exact(aI 2)
  exact(lQ aR)
  refine bQ ?_ ?_
  refine fC .s ?_ ?_ fM
  refine eE (iG hu) iF ?_ aR (eD _)
  exact(aI 5)
  refine bO ?_
  refine dD .s ?_
  refine EE ?_ ?_
  exact(aI 2)
  refine jJ ?_
  refine aL ?_ ?_ ?_
  refine dN hv ?_ aR (fun _ _=>rfl)
  exact(aI 2)
  exact aT
  rfl
  refine bQ ?_ ?_
  refine fC .s ?_ ?_ fM
  refine lZ ?_
  refine ZO ?_ ?_
  refine eE (iG hu) iF ?_ aR (eD _)
  exact(aI 5)
  refine Lp ?_
  refine eE vJ vR ?_ aR (eD _)
  exact(aI 1)
  refine bO ?_
  refine dD .s ?_
  refine qH ?_ nL ?_
  refine jJ ?_
  refine aL ?_ ?_ ?_
  exact aR
  refine aL ?_ ?_ ?_
  exact gW
  refine aL ?_ ?_ ?_
  exact aR
  refine aL ?_ ?_ ?_
  exact aR
  refine aL ?_ ?_ ?_
  exact aR
  refine aL ?_ ?_ ?_
  exact aR
  exact aT
  rfl
  rfl
  rfl
  rfl
  rfl
  rfl
  refine lQ ?_
  exact(aI 1)
  refine bQ ?_ ?_
  refine dA (i:=6) 0 .s ?_ ?_ ?_ ?_ ?_ ?_
  exact nd
  rfl
  first | exact bB rfl | exact bC rfl
  refine dN hv ?_ ?_ (fun _ _=>rfl)
  refine fV (n:=1) ?_
  refine qL ?_
  refine aL ?_ ?_ ?_
  exact gW
  refine aL ?_ ?_ ?_
  exact yQ
  refine aL ?_ ?_ ?_
  exact kA
  refine aL ?_ ?_ ?_
  exact(aI 3)
  refine aL ?_ ?_ ?_
  refine TH aR ?_
  exact(aI 3)
  refine aL ?_ ?_ ?_
  refine jJ ?_
  refine aL ?_ ?_ ?_
  exact aR
  exact aT
  rfl
  refine aL ?_ ?_ ?_
  refine fV (n:=1) ?_
  refine qL ?_
  refine aL ?_ ?_ ?_
  exact aR
  exact aT
  rfl
  refine aL ?_ ?_ ?_
  exact(fV (n:=1) MW)
  exact aT
  rfl
  rfl
  rfl
  rfl
  rfl
  rfl
  rfl
  rfl
  refine eK ?_ aR
  refine cS D__law_mix (hr.mono (by decide)) rfl ?_
  refine aL ?_ ?_ ?_
  exact(aI 0)
  refine aL ?_ ?_ ?_
  exact aR
  exact aT
  rfl
  rfl
  rfl
  first | exact bB rfl | exact bC rfl | assumption
  refine bO ?_
  refine dD .s ?_
  refine EE ?_ ?_
  refine EE ?_ ?_
  refine qH ?_ nL ?_
  exact(aI 2)
  refine lQ ?_
  exact(aI 4)
  refine jJ ?_
  refine aL ?_ ?_ ?_
  exact(aI 6)
  exact aT
  rfl
  refine qH ?_ ?_ nL
  exact(aI 2)
  refine lQ ?_
  refine gE ?_ aR
  exact(aI 4)
noncomputable def Pp:SF:=(bD (sIf .s (bOr (fR (bOf (eUn (jH "tuple") (aF 0)))) (fR (bOf (iL gLe gLe (eC (.int 1)) (aO dH (aG (aF 0) aK)) (eC (.int 6)))))) (cN 0 .s (eC (.bool false))) dQ)
 (cN 0 .s (aO qY (aG (eLC [none] (iIt (aF 0)) (gB 0) fY (aO tR (aG (aF 0) aK))) aK))))
noncomputable def mS:List aA->Option aA:=fnD 1 1 Pp
theorem Cc (F:Fun K "is_row" "is_row" zI f fd)(B:Blt mg)(C:Cst mg)(V:Xcs K mg)(D_is_value:Def P w K mg base "is_value" 2 wW (spF K 0 tR)):FnOk P w K mg base CX0 3 f fd wN (spF K 0 mS):=by
 obtain⟨_,h_MOST_WIDTH⟩:=C.MOST_WIDTH
 have nd:=Ap3.nd
 exact jI F Ap3 rfl (by decide) fun cdv A outer s H E P0 hr=>by
  have hu:=fK hr
  have hv:=fA hr
  exact(bQ (fC .s (lZ (lO (mL (jY (sS (T:="tuple") rfl B.isinstance rfl B.tuple VP (by decide) (aI 0)))) (nD (mL (OK (Avr.or tN) (Avr.or tN) sT sT aR (fN kH kE rfl B.len jA (aL (aI 0) aT)) (tL (i:=6) rfl h_MOST_WIDTH ⟨_,rfl⟩)))))) (bO (dD .s gW)) fM)
   (bO (dD .s (fN (FQ rfl) FR rfl B.all boot_all (aL (fV (n:=1) (mK rfl (lB (N:=["value"]) (cap:=[none]) (out:=(bT zI).names) (XN:=OQ) rfl rfl (by decide +kernel) rfl) kR (nJ (aI 0)) (fun cl C s₀ H₀ ex=>⟨lA (j:=0) (show(["value"]:List aB).Nodup by decide +kernel) rfl (bB rfl),kZ,(cS D_is_value (hr.mono (by decide)) rfl (aL (aI 0) aT))⟩))) aT)))))
noncomputable def Hy:SF:=(bD (sIf .s (bOr (fR (bOf (eUn (jH "list") (aF 0)))) (bOf (eOp gGt (aO dH (aG (aF 0) aK)) (eC (.int 12))))) (cN 0 .s (eC (.bool false))) dQ)
 (bD (sIf .s (fR (bOf (aO qY (aG (eLC [none] (iIt (aF 0)) (gB 0) fY (iJ (aO qU (aG (aF 0) aK)) (iJ (aO dR (aG (eOp gIx (aF 0) (eC (.int 0))) aK)) (aO nP (aG (eOp gIx (aF 0) (eC (.int 1))) aK))))) aK)))) (cN 0 .s (eC (.bool false))) dQ)
 (cN 0 .s (eOp gEq (aO NZ (aG (eLC [none] (iIt (aF 0)) (gB 0) fY (eOp gIx (aF 0) (eC (.int 0)))) aK)) (aO dH (aG (aF 0) aK))))))
noncomputable def pF:List aA->Option aA:=fnD 1 1 Hy
theorem Im (F:Fun K "are_widths" "are_widths" xA f fd)(B:Blt mg)(C:Cst mg)(V:Xcs K mg)(D_is_name:Def P w K mg base "is_name" 1 tM (spF K 0 dR))(D_is_pair:Def P w K mg base "is_pair" 1 wQ (spF K 0 qU))(D_is_width:Def P w K mg base "is_width" 2 wV (spF K 0 nP)):FnOk P w K mg base CX0 3 f fd xF (spF K 0 pF):=by
 obtain⟨_,h_MOST_TABLES⟩:=C.MOST_TABLES
 have nd:=Ah8.nd
 exact jI F Ah8 rfl (by decide) fun cdv A outer s H E P0 hr=>by
  have hu:=fK hr
  have hv:=fA hr
  exact(bQ (fC .s (lZ (lO (mL (jY (sS (T:="list") rfl B.isinstance rfl B.list PyProof.Rows.boot_list (by decide) (aI 0)))) (nD (eE vJ vR (fN kH kE rfl B.len jA (aL (aI 0) aT)) (tL (i:=12) rfl h_MOST_TABLES ⟨_,rfl⟩) (eD _))))) (bO (dD .s gW)) fM)
   (bQ (fC .s (mL (jY (fN (FQ rfl) FR rfl B.all boot_all (aL (fV (n:=1) (mK rfl (lB (N:=["pair"]) (cap:=[none]) (out:=(bT xA).names) (XN:=HG) rfl rfl (by decide +kernel) rfl) kR (nJ (aI 0)) (fun cl C s₀ H₀ ex=>⟨lA (j:=0) (show(["pair"]:List aB).Nodup by decide +kernel) rfl (bB rfl),kZ,(qJ (cS D_is_pair (hr.mono (by decide)) rfl (aL (aI 0) aT)) (qJ (cS D_is_name (hr.mono (by decide)) rfl (aL (dN hv (aI 0) aR (fun _ _=>rfl)) aT)) (sU (cS D_is_width (hr.mono (by decide)) rfl (aL (dN hv (aI 0) aR (fun _ _=>rfl)) aT)))))⟩))) aT)))) (bO (dD .s gW)) fM)
   (bO (dD .s (nE (iG hu) iF (Ge rfl rfl B.len rfl B.set (fV (n:=1) (mK rfl (lB (N:=["pair"]) (cap:=[none]) (out:=(bT xA).names) (XN:=HG) rfl rfl (by decide +kernel) rfl) kR (nJ (aI 0)) (fun cl C s₀ H₀ ex=>⟨lA (j:=0) (show(["pair"]:List aB).Nodup by decide +kernel) rfl (bB rfl),kZ,(dN hv (aI 0) aR (fun _ _=>rfl))⟩)))) (fN kH kE rfl B.len jA (aL (aI 0) aT)) (eD _))))))
noncomputable def Gm (z:Option aB):SF:=(bD (iT 0 .s (aO (lD z) (cZ "Book" (aF 0) (aG (aF 1) aK))))
 (cN 1 .s (aO yZ (aG (eOp gIx (eUn (hJ "Book") (aF 0)) (aF 1)) aK))))
noncomputable def mU:FX:=fun z=>fnD 2 2 (Gm z)
theorem Ib (F:Fun K "rows" "Book.rows" HA f fd)(B:Blt mg)(C:Cst mg)(V:Xcs K mg)(D_Book_want_table:MethX P w K mg base "Book" "want_table" 2 qX (spX K 0 lD)):FnOk P w K mg base (CXR base P w) 3 f fd tU (spX K 1 mU):=by
 have nd:=Ajl.nd
 exact mM F Ajl rfl (by decide) fun cdv A outer s H E P0 z hr hz=>by
  have hu:=fK hr
  have hv:=fA hr
  exact(bQ (tK 0 .s (sF .s hz (hX D_Book_want_table (hr.mono (by decide)) (aI 0) (aL (aI 1) aT))))
   (bO (dD .s (fN (Jc rfl) Ht rfl B.sorted VQ (aL (dN hv (oU V.bk (aI 0)) (aI 1) (fun _ _=>rfl)) aT)))))
noncomputable def Ih (z:Option aB):SF:=(bD (iT 0 .s (aO (lD z) (cZ "Book" (aF 0) (aG (aF 1) aK))))
 (cN 0 .s (eOp gIx (eUn (kT "Book") (aF 0)) (aF 1))))
noncomputable def tX:FX:=fun z=>fnD 2 2 (Ih z)
theorem Ip (F:Fun K "width" "Book.width" HF f fd)(B:Blt mg)(C:Cst mg)(V:Xcs K mg)(D_Book_want_table:MethX P w K mg base "Book" "want_table" 2 qX (spX K 0 lD)):FnOk P w K mg base (CXR base P w) 3 f fd xE (spX K 0 tX):=by
 have nd:=Ahu.nd
 exact mM F Ahu rfl (by decide) fun cdv A outer s H E P0 z hr hz=>by
  have hu:=fK hr
  have hv:=fA hr
  exact(bQ (tK 0 .s (sF .s hz (hX D_Book_want_table (hr.mono (by decide)) (aI 0) (aL (aI 1) aT))))
   (bO (dD .s (dN hv (yV V.bk (aI 0)) (aI 1) (fun _ _=>rfl)))))
noncomputable def Jg:SF:=(bD (bW 2 0 .s (jU (aG (eC .none) (aG (eC (.bool true)) (aG (eC (.int 0)) (aG (eC (.str "")) (aG (eC (.str "A")) (aG (aF 1) (aG (gC (aG (eOp gIx (aF 1) (eC (.int 0))) aK)) (aG (eOp cO (eOp gIx (aF 1) (eC (.int 0))) (eC (.str "_"))) (aG (eOp cO (eOp gIx (aF 1) (eC (.int 0))) (eC (.str " "))) aK)))))))))))
 (bD (sIf .s (bOf (eOp gEq (eOp cG (aO dE (aG (aF 0) (aG (eC (.int 9)) aK))) (eC (.int 3))) (eC (.int 0)))) (cN 0 .s (eOp gIx (aF 2) (eOp cG (aO dE (aG (aF 0) (aG (eC (.int 10)) aK))) (eC (.int 9))))) dQ)
 (bD (bW 3 0 .s (eOp gIx (aO pH (aG (aF 0) (aG (eC (.int 12)) aK))) (eOp cG (aO dE (aG (aF 0) (aG (eC (.int 10)) aK))) (eC (.int 12)))))
 (bD (whD .s (bOf (eOp (gIn false) (aF 3) (aF 1))) (bD (bW 3 0 .s (eOp cO (eSl (aF 3) oN (oS (eC (.int 11)))) (eC (.str "q"))))
 (sIf .s (bOf (eOp (gIn false) (aF 3) (aF 1))) (bW 3 0 .s (eOp cO (eOp gIx (aF 1) (eC (.int 0))) (eC (.str " ")))) dQ)) 8)
 (cN 0 .s (aF 3))))))
noncomputable def xH:List aA->Option aA:=fnD 2 4 Jg
theorem Jk (F:Fun K "_law_no_table" "_law_no_table" HK f fd)(B:Blt mg)(C:Cst mg)(V:Xcs K mg)(D__law_mix:Def P w K mg base "_law_mix" 1 pA (spF K 0 dE))(D__law_names:Def P w K mg base "_law_names" 2 tW (spF K 1 pH)):FnOk P w K mg base CX0 3 f fd xG (spF K 0 xH):=by
 have nd:=Agd.nd
 exact jI F Agd rfl (by decide) fun cdv A outer s H E P0 hr=>by
  have hu:=fK hr
  have hv:=fA hr
  refine bQ ?_ ?_
  refine dA (i:=2) 0 .s ?_ ?_ ?_ ?_ ?_ ?_
  exact nd
  rfl
  first | exact bB rfl | exact bC rfl
  refine fV (n:=1) ?_
  refine qL ?_
  refine aL ?_ ?_ ?_
  exact yQ
  refine aL ?_ ?_ ?_
  exact gW
  refine aL ?_ ?_ ?_
  exact aR
  refine aL ?_ ?_ ?_
  exact kA
  refine aL ?_ ?_ ?_
  exact kA
  refine aL ?_ ?_ ?_
  exact(aI 1)
  refine aL ?_ ?_ ?_
  refine jJ ?_
  refine aL ?_ ?_ ?_
  refine dN hv ?_ aR (fun _ _=>rfl)
  exact(aI 1)
  exact aT
  rfl
  refine aL ?_ ?_ ?_
  refine gE ?_ kA
  refine dN hv ?_ aR (fun _ _=>rfl)
  exact(aI 1)
  refine aL ?_ ?_ ?_
  refine gE ?_ kA
  refine dN hv ?_ aR (fun _ _=>rfl)
  exact(aI 1)
  exact aT
  rfl
  rfl
  rfl
  rfl
  rfl
  rfl
  rfl
  rfl
  rfl
  rfl
  first | exact bB rfl | exact bC rfl | assumption
  refine bQ ?_ ?_
  refine fC .s ?_ ?_ fM
  refine eE (iG hu) iF ?_ aR (eD _)
  refine eK ?_ aR
  refine cS D__law_mix (hr.mono (by decide)) rfl ?_
  refine aL ?_ ?_ ?_
  exact(aI 0)
  refine aL ?_ ?_ ?_
  exact aR
  exact aT
  rfl
  rfl
  refine bO ?_
  refine dD .s ?_
  refine dN hv ?_ ?_ (fun _ _=>rfl)
  exact(aI 2)
  refine eK ?_ aR
  refine cS D__law_mix (hr.mono (by decide)) rfl ?_
  refine aL ?_ ?_ ?_
  exact(aI 0)
  refine aL ?_ ?_ ?_
  exact aR
  exact aT
  rfl
  rfl
  refine bQ ?_ ?_
  refine dA (i:=3) 0 .s ?_ ?_ ?_ ?_ ?_ ?_
  exact nd
  rfl
  first | exact bB rfl | exact bC rfl
  refine dN hv ?_ ?_ (fun _ _=>rfl)
  refine fV (n:=1) ?_
  refine cS D__law_names (hr.mono (by decide)) rfl ?_
  refine aL ?_ ?_ ?_
  exact(aI 0)
  refine aL ?_ ?_ ?_
  exact aR
  exact aT
  rfl
  rfl
  refine eK ?_ aR
  refine cS D__law_mix (hr.mono (by decide)) rfl ?_
  refine aL ?_ ?_ ?_
  exact(aI 0)
  refine aL ?_ ?_ ?_
  exact aR
  exact aT
  rfl
  rfl
  rfl
  first | exact bB rfl | exact bC rfl | assumption
  refine bQ ?_ ?_
  refine Nv .s 8 BM ?_ ?_
  refine eE (qT hu) nK ?_ ?_ (by with_unfolding_all rfl)
  exact(aI 3)
  exact(aI 1)
  refine bQ ?_ ?_
  refine dA (i:=3) 0 .s ?_ ?_ ?_ ?_ ?_ ?_
  exact nd
  rfl
  first | exact bB rfl | exact bC rfl
  refine gE ?_ kA
  refine YR ?_ nL ?_
  exact(aI 3)
  exact(lQ aR)
  rfl
  first | exact bB rfl | exact bC rfl | assumption
  refine bO ?_
  refine fC .s ?_ ?_ fM
  refine eE (qT hu) nK ?_ ?_ (by with_unfolding_all rfl)
  exact(aI 3)
  exact(aI 1)
  refine bO ?_
  refine dA (i:=3) 0 .s ?_ ?_ ?_ ?_ ?_ ?_
  exact nd
  rfl
  first | exact bB rfl | exact bC rfl
  refine gE ?_ kA
  refine dN hv ?_ aR (fun _ _=>rfl)
  exact(aI 1)
  rfl
  first | exact bB rfl | exact bC rfl | assumption
  refine bO ?_
  refine dD .s ?_
  exact(aI 3)
end Aw
namespace Aw
open PySem L2
set_option maxHeartbeats 4000000
variable {P:bE}{w:bA}{K:aJ}{mg:aB->Option aE}{base:aU}{f:aD}{fd:fJ}
noncomputable def tY:FX:=vP "Book" "NoTable" pF
set_option maxHeartbeats 4000000 in
theorem Jl {P:bE}{w:bA}{K:aJ}{mg:aB->Option aE}{base:aU}{f:aD}{fd:fJ}(F:Fun K "__init__" "Book.__init__" HL f fd)(B:Blt mg)(C:Cst mg)(V:Xcs K mg)(D_are_widths:Def P w K mg base "are_widths" 3 xF (spF K 0 pF)):FnOk P w K mg base (CXR base P w) (3+1) f fd xI (DC K "Book" tY):=by
 have nd:=Aga.nd
 refine F.okX Aga (fun vs H Q E h=>?_) (fun cdv A outer s H vs Q E hr h=>?_)
 ·obtain⟨x,dx,C,v1,P,d1,d,z,rfl,_⟩:=h
  rfl
 ·obtain⟨x,dx,C0,v1,P0,d1,d,z,rfl,hx,hc,hP,r1,ef,kq,kx⟩:=h
  have hu:=fA hr
  obtain⟨C9,c1,cl,nW,nH⟩:=V.bk.ex
  obtain rfl:=qM c1 hc
  refine⟨_,oV (AU (mL (jY (cS D_are_widths (hr.mono (by decide)) rfl (aL (aI 1) aT)))) (qP (zN (H0:=H) (P0:=P0) (n0:=0) (z:=z) (fun c hc=>MJ (kx c hc)) V.r_NoTable rfl rfl)) wC)
   (oV (TY (pv 0) (zV (Gu rfl) Gp rfl B.dict PyProof.Rows.boot_dict (aL (aI 1) aT)) rfl)
   (oV (TY (pv 0) FH rfl)
   (qP (UP PassesOwn.leaving rfl (LJ (vQ (pv 0) rfl)) (wD (i:=2) nd rfl (by first | exact bB rfl | exact bC rfl)) (qP (EN hu (vQ (pv 0) rfl) (pv 2) Pb rfl)))))),?_⟩
  have rs:Aj4 K (hid H P0) [none,some d1,none] (start SZ [.ref x,v1]):=fun i d' e=>by
   match i,e with
   | 0,e=>cases e
   | 1,e=>cases e; exact⟨v1,rfl,r1⟩
   | 2,e=>cases e
   | i+3,e=>simp at e
  rcases Hr ef with⟨e1,hz,rfl⟩ | ⟨kds,e1,e2,fl,ndk,hlen,rfl⟩
  ·refine⟨P0,[none,some d1,none],true,hP,rs,?_,fun H1 x1=>?_⟩
   ·show((pF [d1]).bind asB).bind _=_
    rw[e1]
    rfl
   refine nZ ⟨hid H1 P0,[none,none,none],fun _=>[],.rt (rsD "NoTable"),⟨rfl,fun _=>.nil,fun i j a h=>by simp at h,fun i a h=>by simp at h,x1,hP,?_,fun i n d e=>?_⟩,?_,?_⟩
   ·exact iH fun a h=>h.elim id fun⟨i,h⟩=>by simp at h
   ·match i,e with
    | 0,e=>cases e
    | 1,e=>cases e
    | 2,e=>cases e
    | i+3,e=>simp at e
   ·exact if_pos hz
   ·exact fun v H' ⟨_,_,_,_,r⟩=>(DM r).elim
  ·refine⟨P0,[none,some d1,none],false,hP,rs,?_,fun H1 x1=>?_⟩
   ·show((pF [d1]).bind asB).bind _=_
    rw[e1]
    rfl
   refine lM ⟨P0,[none,some d1,none],_,hP.ext x1,rs.ext (cI x1),(show(qF [d1])=_ from e2),fun v Hw Fr xw nf fr ro=>?_⟩
   obtain⟨wa,kvs,Fs,rfl,hw,hF,h3⟩:=ro
   obtain⟨rk,hn⟩:=Fv h3
   rw[hn] at hF
   subst hF
   have hwx:Hw x=some (.ins C0 dx []):=xw _ _ (x1 _ _ hx)
   have nwx:wa≠x:=fun z=>by rw[z,hwx] at hw; cases hw
   refine⟨_,rfl,x,C0,dx,[],rfl,hwx,cl,nW,(by show 0<1000; decide),?_⟩
   intro q hq
   have nqx:q≠x:=fun z=>by rw[z,eL] at hq; cases hq
   have hq0:Hw q=none:=by rw[bP nqx] at hq; exact hq
   have nqw:wa≠q:=gY hw hq0
   refine⟨_,rfl,x,C0,dx,_,rfl,(by rw[bP nqx.symm]; exact eL),cl,nH,(by show 1<1000; decide),?_⟩
   have eput:gV "held" (.ref q) (gV "wide" (.ref wa) [])=([("wide",.ref wa),("held",.ref q)]:List (aB×L2.V)):=by
    have : ¬ (("wide" : aB) = "held"):=by decide +kernel
    simp[gV,this]
   rw[eput]
   have lk:kvs.2.length=kds.length:=rk.length
   have nk:(kvs.2.map (·.1)).Nodup:=by
    have:kds.map (·.1)=(kvs.2.map (·.1)).map kD:=RE rk
    rw[this] at ndk
    exact(xV.mp ndk).imp fun h z=>h (by rw[z])
   refine⟨_,rfl,x,C0,dx,_,_,rfl,eL,cl,nW,PQ _ _,wa,kvs.1,kvs.2,rfl,(by rw[bP nwx,bP nqw,bP nwx]; exact hw),?_⟩
   refine Qu (fun i σ H2=>∃ v,σ=[some (.ref x),some v1,v]/\(∀ b o,b≠x->Hw b=some o->H2 b=some o)/\H2 x=some (.ins C0 dx [("wide",.ref wa),("held",.ref q)]) /\ ∃ n ps,H2 q=some (.dK n (hvZ kvs.2 ps))/\ps.length=i/\i≤kvs.2.length/\ps.Nodup /\ ∀ p∈ps,Hw p=none/\p≠q/\H2 p=some (.dT 0 []))
    ⟨none,rfl,fun b o nb e=>?_,eL,0,[],?_,rfl,fP _,.nil,fun p m=>by simp at m⟩ (fun i σ H2 _ ⟨_,_,kp,_⟩=>kp _ _ nwx hw) ?_ ?_
   ·rw[bP nb,bP (gY e hq0),bP nb]
    exact e
   ·rw[bP nqx,eL]
    simp[hvZ]
   ·rintro i kv σ H2 hk ⟨v,rfl,kp,hx2,n,ps,hq2,hpl,hil,ndp,hps⟩
    intro p hp
    have npx:p≠x:=fun z=>by rw[z,hx2] at hp; cases hp
    have npq:p≠q:=fun z=>by rw[z,hq2] at hp; cases hp
    have hl2:(hvZ kvs.2 ps).length<sizeLine:=by
     rw[Mt (by omega)]
     have:=(fI.mp hk).1
     omega
    refine⟨_,rfl,x,C0,dx,_,_,rfl,(by rw[bP npx.symm]; exact hx2),cl,nH,FW _ _,_,rfl,q,_,rfl,A4k.k (k:=kv.1) (by rw[bP npq.symm]; exact hq2) hl2,fun n2=>⟨_,rfl,fun b o nb e=>?_,?_,n2,ps++[p],?_,by simp[hpl],(fI.mp hk).1,?_,fun p' m=>?_⟩⟩
    ·rw[bP (gY e hq0),bP (gY (kp b o nb e) hp)]
     exact kp b o nb e
    ·rw[bP nqx.symm,bP npx.symm]
     exact hx2
    ·rw[eL,NO _ (Kp nk (by rw[hpl]; exact hk)),OG (by rw[hpl]; exact hk)]
    ·refine BP.mpr ⟨ndp,gH.mpr ⟨by simp,.nil⟩,fun a ma b mb=>?_⟩
     rw[dB.mp mb]
     intro z
     rw[z] at ma
     rw[(hps p ma).2.2] at hp
     cases hp
    ·rcases jS.mp m with m | m
     ·obtain⟨g1,g2,g3⟩:=hps p' m
      refine⟨g1,g2,?_⟩
      rw[bP g2,bP (gY g3 hp)]
      exact g3
     ·rw[dB.mp m]
      refine⟨?_,npq,by rw[bP npq,eL]⟩
      cases g:Hw p with
      | none=>rfl
      | some o=>rw[kp p o npx g] at hp; cases hp
   ·rintro σ H2 ⟨v,rfl,kp,hx2,n,ps,hq2,hpl,hil,ndp,hps⟩
    have hwp : ∀ p∈ps,p≠wa:=fun p m z=>by
     have:=(hps p m).1
     rw[z,hw] at this
     cases this
    have hxp : ∀ p∈ps,p≠x:=fun p m z=>by
     have:=(hps p m).1
     rw[z,hwx] at this
     cases this
    refine kq H2 (x::wa::q::ps) (fun b o nb e=>kp b o nb (xw _ _ (x1 _ _ e))) ?_ ?_ (Qm c1 hx2 (kp _ _ nwx hw) hq2 hpl (fun p m=>(hps p m).2.2) fl rk kp fun xs z=>by rw[hwx] at z; cases z)
    ·refine gH.mpr ⟨?_,gH.mpr ⟨?_,gH.mpr ⟨fun m=>(hps q m).2.1 rfl,ndp⟩⟩⟩
     ·simp only[cQ,not_or]
      exact⟨nwx.symm,nqx.symm,fun m=>hxp x m rfl⟩
     ·simp only[cQ,not_or]
      exact⟨nqw,fun m=>hwp wa m rfl⟩
    ·intro a m
     simp only[cQ] at m
     rcases m with rfl | rfl | rfl | m
     ·exact⟨.inl rfl,_,hx2⟩
     ·exact⟨.inr (x1.none (fr _ cC).1),_,kp _ _ nwx hw⟩
     ·exact⟨.inr (x1.none (xw.none hq0)),_,hq2⟩
     ·exact⟨.inr (x1.none (xw.none (hps a m).1)),_,(hps a m).2.2⟩
noncomputable def qW (z:Option aB):SF:=(bD (iT 0 .s (aO (lD z) (cZ "Book" (aF 0) (aG (aF 1) aK))))
 (sIf .s (bOr (fR (bOf (aO mS (aG (aF 2) aK)))) (bOf (eOp gNe (aO dH (aG (aF 2) aK)) (eOp gIx (eUn (kT "Book") (aF 0)) (aF 1))))) (vM z "NoRow") dQ))
noncomputable def iA:FX:=fun z=>fnD 3 3 (qW z)
theorem Jj (F:Fun K "want_row" "Book.want_row" HM f fd)(B:Blt mg)(C:Cst mg)(V:Xcs K mg)(D_Book_want_table:MethX P w K mg base "Book" "want_table" 2 qX (spX K 0 lD))(D_is_row:Def P w K mg base "is_row" 3 wN (spF K 0 mS)):FnOk P w K mg base (CXR base P w) 4 f fd pI (spX K 0 iA):=by
 have nd:=Agb.nd
 exact mM F Agb rfl (by decide) fun cdv A outer s H E P0 z hr hz=>by
  have hu:=fK hr
  have hv:=fA hr
  exact(bQ (tK 0 .s (sF .s hz (hX D_Book_want_table (hr.mono (by decide)) (aI 0) (aL (aI 1) aT))))
   (bO (fC .s (lZ (lO (mL (jY (cS D_is_row (hr.mono (by decide)) rfl (aL (aI 2) aT)))) (nD (eE (yO hu) yR (fN kH kE rfl B.len jA (aL (aI 2) aT)) (dN hv (yV V.bk (aI 0)) (aI 1) (fun _ _=>rfl)) (eD _))))) (bO (zN hz V.r_NoRow rfl rfl)) fM)))
noncomputable def Ig (z:Option aB):SF:=(bD (bW 1 2 .s (eC (.dict [])))
 (bD (kP .s (iIt (aO (pJ none) (cZ "Book" (aF 0) aK))) (gNm 2) (CQ 1 .s (aO (mU none) (cZ "Book" (aF 0) (aG (aF 2) aK))) .s (aF 2)))
 (AW 1 2)))
noncomputable def qV:FX:=fun z=>fnD 1 3 (Ig z)
theorem Il (F:Fun K "plain" "Book.plain" HE f fd)(B:Blt mg)(C:Cst mg)(V:Xcs K mg)(D_Book_tables:MethX P w K mg base "Book" "tables" 1 tZ (spX K 1 pJ))(D_Book_rows:MethX P w K mg base "Book" "rows" 3 tU (spX K 1 mU)):FnOk P w K mg base (CXR base P w) 4 f fd wZ (spX K 2 qV):=by
 have nd:=Aid.nd
 exact mM F Aid rfl (by decide) fun cdv A outer s H E P0 z hr hz=>by
  have hu:=fK hr
  have hv:=fA hr
  exact(bQ (dA (i:=1) 2 .s nd rfl (by first | exact bB rfl | exact bC rfl) Pq)
   (bQ (DD PassesOwn.leaving rfl (nJ (fV (n:=1) (mI (tJ D_Book_tables (hr.mono (by decide)) (aI 0))))) (wA (i:=2) nd rfl (by first | exact bB rfl | exact bC rfl)) (bO (Oa 1 .s .s hv (mI (hX D_Book_rows (hr.mono (by decide)) (aI 0) (aL (aI 2) aT))) (aI 2))))
   (bO (LR 1))))
noncomputable def GG (z:Option aB):SF:=(bD (iT 0 .s (aO (iA z) (cZ "Book" (aF 0) (aG (aF 1) (aG (aF 2) aK)))))
 (bD (sIf .s (bOf (eOp (gIn false) (aF 2) (eOp gIx (eUn (hJ "Book") (aF 0)) (aF 1)))) (cN 0 .s (eC (.bool false))) dQ)
 (bD (sIf .s (bOf (eOp gGe (aO sI (aG (eOp gIx (eUn (hJ "Book") (aF 0)) (aF 1)) aK)) (eC (.int 60)))) (vM z "Full") dQ)
 (bD sNo
 (cN 0 .s (eC (.bool true)))))))
noncomputable def oY:FX:=fun z=>fnD 3 3 (GG z)
theorem Gq (F:Fun K "put" "Book.put" zZ f fd)(B:Blt mg)(C:Cst mg)(V:Xcs K mg)(D_Book_want_row:MethX P w K mg base "Book" "want_row" 4 pI (spX K 0 iA)):FnOk P w K mg base (CXR base P w) 5 f fd nO (spX K 0 oY):=by
 obtain⟨_,h_MOST_ROWS⟩:=C.MOST_ROWS
 have nd:=Afw.nd
 exact mM F Afw rfl (by decide) fun cdv A outer s H E P0 z hr hz=>by
  have hu:=fK hr
  have hv:=fA hr
  exact(bQ (tK 0 .s (sF .s hz (hX D_Book_want_row (hr.mono (by decide)) (aI 0) (aL (aI 1) (aL (aI 2) aT)))))
   (bQ (fC .s (eE (qT hu) nK (aI 2) (dN hv (oU V.bk (aI 0)) (aI 1) (fun _ _=>rfl)) (by with_unfolding_all rfl)) (bO (dD .s gW)) fM)
   (bQ (fC .s (eE KN US (fN FV GN rfl B.len jA (aL (dN hv (oU V.bk (aI 0)) (aI 1) (fun _ _=>rfl)) aT)) (tL (i:=60) rfl h_MOST_ROWS ⟨_,rfl⟩) (eD _)) (bO (zN hz V.r_Full rfl rfl)) fM)
   (bQ KS
   (bO (dD .s gW))))))
noncomputable def lC:List aA->Option (Bool×aA):=wG "Book" iA
set_option maxHeartbeats 4000000 in
theorem Hk {P:bE}{w:bA}{K:aJ}{mg:aB->Option aE}{base:aU}{f:aD}{fd:fJ}(F:Fun K "put" "Book.put" zZ f fd)(B:Blt mg)(C:Cst mg)(V:Xcs K mg)(D_Book_want_row:MethX P w K mg base "Book" "want_row" 4 pI (spX K 0 iA)):FnOk P w K mg base (CXR base P w) (4+1) f fd nO (HQ K lC):=by
 obtain⟨_,h_MOST_ROWS⟩:=C.MOST_ROWS
 have nd:=Afw.nd
 refine F.okX Afw (fun vs H Q E h=>?_) (fun cdv A outer s H vs Q E hr h=>?_)
 ·obtain⟨P,F0,a,us,d,ds,r,d',rfl,_,_,_,_,rd,e,_⟩:=h
  obtain⟨W,hds,t,ks,kds,u,e2,_⟩:=HI e
  cases e2
  rw[fG,rd.length]
  rfl
 ·obtain⟨P0,F0,a,us,d,ds,r,d',rfl,hP,hF,nF,rb,rd,e,kq⟩:=h
  have hu:=fK hr
  have hv:=fA hr
  obtain⟨W,hds,t,ks,kds,u,e2,ew,el,k1,k2,ndk,nin,hl60,e3⟩:=HI e
  cases e2
  cases e3
  obtain⟨v1,us1,rfl,r1,rd⟩:=Aag.mp rd
  obtain⟨v2,us2,rfl,r2,rd⟩:=Aag.mp rd
  obtain rfl:=Aao.mp rd
  obtain⟨C9,c1,cl,nW,nH⟩:=V.bk.ex
  refine⟨_,oV (vZ (mI (hX D_Book_want_row (hr.mono (by decide)) (aI 0) (aL (aI 1) (aL (aI 2) aT)))) rfl)
   (oV (AU (eE (qT hu) nK (aI 2) (dN hv (oU V.bk (aI 0)) (aI 1) (fun _ _=>rfl)) (by with_unfolding_all rfl)) (qP (vL AQ)) wC)
   (oV (AU (eE KN US (fN FV GN rfl B.len jA (aL (dN hv (oU V.bk (aI 0)) (aI 1) (fun _ _=>rfl)) aT)) (tL (i:=60) rfl h_MOST_ROWS ⟨_,rfl⟩) (eD _)) Ee wC)
   (oV (EN hv (LY hv (vQ (pv 0) rfl) (pv 1) (fun _ _=>rfl)) (pv 2) AQ rfl)
   (qP (vL AQ))))),?_⟩
  have sub:Ext (hid H (orL P0 F0)) (hid H P0):=iH fun b h=>.inl h
  have rs:Aj4 K (hid H P0) [some (dC "Book" W (.dict hds)),some (.str t),some (.tuple ks)] (start SE [.ref a,v1,v2]):=fun i d' e=>by
   match i,e with
   | 0,e=>cases e; exact⟨.ref a,rfl,rb.share sub fun b m o q=>gJ (hF b m) q⟩
   | 1,e=>cases e; exact⟨v1,rfl,r1.ext sub⟩
   | 2,e=>cases e; exact⟨v2,rfl,r2.ext sub⟩
   | i+3,e=>simp at e
  have eI:eOp gIx (eUn (hJ "Book") (aF 0)) (aF 1) [some (dC "Book" W (.dict hds)),some (.str t),some (.tuple ks)]=some (.dict ((.none,.none)::kds)):=by
   show(((hJ "Book") (dC "Book" W (.dict hds))).bind fun x=>gIx x (.str t))=_
   rw[show hJ "Book" (dC "Book" W (.dict hds))=some (.dict hds) by unfold hJ; rw[FF]; rfl]
   exact el
  have eW:aO (iA none) (cZ "Book" (aF 0) (aG (aF 1) (aG (aF 2) aK))) [some (dC "Book" W (.dict hds)),some (.str t),some (.tuple ks)]=some u:=by
   show(cZ "Book" (aF 0) (aG (aF 1) (aG (aF 2) aK)) [some (dC "Book" W (.dict hds)),some (.str t),some (.tuple ks)]).bind (iA none)=_
   have:cZ "Book" (aF 0) (aG (aF 1) (aG (aF 2) aK)) [some (dC "Book" W (.dict hds)),some (.str t),some (.tuple ks)]=some [dC "Book" W (.dict hds),.str t,.tuple ks]:=by
    show(if (kS "Book" (dC "Book" W (.dict hds))).isSome=true then some [dC "Book" W (.dict hds),bK t,gG ks] else none)=_
    rw[FF]
    rfl
   rw[this]
   exact ew
  obtain⟨_,_,_,_,_,_,_,_,_,_,_,_,_,_,_,_,rt0,_⟩:=rb.at nF el ndk
  have nlook:=NR k1 rt0 nin
  refine⟨P0,_,u,hP,rs,eW,cY fun _ H1 x1 _=>?_⟩
  refine⟨P0,_,false,hP.ext x1,rs.ext (cI x1),?_,fun H2 x2=>lM ?_⟩
  ·show((eOp gIx (eUn (hJ "Book") (aF 0)) (aF 1) [some (dC "Book" W (.dict hds)),some (.str t),some (.tuple ks)]).bind fun x=>gIn false (.tuple ks) x).bind asB=_
   rw[eI]
   show(if (bX ks&&decide (dI ks≤6))=true then some (eM (false != (nC kds ks).isSome)) else none).bind asB=_
   rw[k1,decide_eq_true k2,nlook]
   rfl
  have x12:=x1.trans x2
  refine⟨P0,_,false,hP.ext x12,rs.ext (cI x12),?_,fun H3 x3=>lM ?_⟩
  ·show((((eOp gIx (eUn (hJ "Book") (aF 0)) (aF 1) [some (dC "Book" W (.dict hds)),some (.str t),some (.tuple ks)]).bind fun d=>some [d]).bind sI).bind fun x=>gGe x (.int 60)).bind asB=_
   rw[eI]
   show some (decide ((60:Int)≤(kds.length:Int)))=_
   rw[decide_eq_false (by omega)]
  have x13:=x12.trans x3
  have rb3:RepB K (hid H3 (orL P0 F0)) H3 (dC "Book" W (.dict hds)) (.ref a) F0:=rb.keep (cI x13) fun b m=>by
   rcases rb.mut b m with⟨xs,q⟩ | ⟨xs,q⟩ <;> rw[q,x13 _ _ q]
  obtain⟨a',C',dx,wa,q,p,hvs,ts,ea,hc,ha,hq,hval,hpF,hp,fl,rt,hnew⟩:=rb3.at nF el ndk
  cases ea
  obtain rfl:=qM c1 hc
  obtain rfl:=(Aas.mp r1).1
  have r2':=(r2.ext (cI x13)).ext Aa0
  obtain⟨b,rfl,tk⟩:=r2'.tupK k1 k2
  have lt:ts.2.length=kds.length:=by
   have:=congrArg uP (zD rt)
   simpa using this.symm
  have nv:eF ts.2 ks=none:=OW fun x m z=>nin (by
   rw[zD rt]
   exact cA.mpr ⟨x.1,cA.mpr ⟨x,m,rfl⟩,by rw[z]⟩)
  refine⟨_,rfl,a,_,dx,_,_,rfl,ha,cl,nH,FW _ _,_,rfl,q,.ref p,rfl,(by rw[← hval]; exact Axc.k (k:=.inr t) hq),_,rfl,p,_,rfl,A4k.t hp tk (by rw[lt]; exact gN hl60 (by decide)),fun n=>?_⟩
  refine kq _ (fun b' o nb q'=>?_) ?_
  ·rw[bP (fun z=>nb (by rw[z]; exact hpF))]
   exact x13 _ _ q'
  ·have xb:Ext (hid H3 (orL P0 F0)) (hid (upd H3 p (.dT n (putK ts.2 ks (.bl true)))) (orL P0 F0)):=fun b' o q'=>by
    obtain⟨nb,q'⟩:=Ada.mp q'
    exact gJ nb (by rw[bP (fun z=>nb (.inr (by rw[z]; exact hpF)))]; exact q')
   refine hnew _ _ _ (n,putK ts.2 ks (.bl true)) xb (fun b' m nb=>bP nb) eL (fun kd m=>?_) ?_
   ·rcases jS.mp m with m | m
    ·exact fl kd m
    ·rw[dB.mp m]; rfl
   ·have:=PY k1 (Aar.mpr rfl:Abb K _ (.bool true) (.bl true)) (rt.ext xb)
    rw[← NO (.bl true) nv] at this
    exact this
noncomputable def GX (z:Option aB):SF:=(bD (iT 0 .s (aO (iA z) (cZ "Book" (aF 0) (aG (aF 1) (aG (aF 2) aK)))))
 (bD (sIf .s (bOf (eOp (gIn true) (aF 2) (eOp gIx (eUn (hJ "Book") (aF 0)) (aF 1)))) (cN 0 .s (eC (.bool false))) dQ)
 (bD sNo
 (cN 0 .s (eC (.bool true))))))
noncomputable def pE:FX:=fun z=>fnD 3 3 (GX z)
theorem Hx (F:Fun K "drop" "Book.drop" GY f fd)(B:Blt mg)(C:Cst mg)(V:Xcs K mg)(D_Book_want_row:MethX P w K mg base "Book" "want_row" 4 pI (spX K 0 iA)):FnOk P w K mg base (CXR base P w) 5 f fd wY (spX K 0 pE):=by
 have nd:=Ajp.nd
 exact mM F Ajp rfl (by decide) fun cdv A outer s H E P0 z hr hz=>by
  have hu:=fK hr
  have hv:=fA hr
  exact(bQ (tK 0 .s (sF .s hz (hX D_Book_want_row (hr.mono (by decide)) (aI 0) (aL (aI 1) (aL (aI 2) aT)))))
   (bQ (fC .s (eE (SM hu) nK (aI 2) (dN hv (oU V.bk (aI 0)) (aI 1) (fun _ _=>rfl)) (by with_unfolding_all rfl)) (bO (dD .s gW)) fM)
   (bQ KS
   (bO (dD .s gW)))))
noncomputable def GF (z:Option aB):SF:=(bD (iT 0 .s (aO (iA z) (cZ "Book" (aF 0) (aG (aF 1) (aG (aF 2) aK)))))
 (cN 0 .s (eOp (gIn false) (aF 2) (eOp gIx (eUn (hJ "Book") (aF 0)) (aF 1)))))
noncomputable def oZ:FX:=fun z=>fnD 3 3 (GF z)
theorem Gn (F:Fun K "has" "Book.has" GR f fd)(B:Blt mg)(C:Cst mg)(V:Xcs K mg)(D_Book_want_row:MethX P w K mg base "Book" "want_row" 4 pI (spX K 0 iA)):FnOk P w K mg base (CXR base P w) 5 f fd wU (spX K 0 oZ):=by
 have nd:=Ali.nd
 exact mM F Ali rfl (by decide) fun cdv A outer s H E P0 z hr hz=>by
  have hu:=fK hr
  have hv:=fA hr
  exact(bQ (tK 0 .s (sF .s hz (hX D_Book_want_row (hr.mono (by decide)) (aI 0) (aL (aI 1) (aL (aI 2) aT)))))
   (bO (dD .s (nE (qT hu) nK (aI 2) (dN hv (oU V.bk (aI 0)) (aI 1) (fun _ _=>rfl)) (by with_unfolding_all rfl)))))
noncomputable def Hz:SF:=(bD (bW 4 0 .s (eC .none))
 (bD (sIf .s (bOf (eOp gEq (aF 1) (eC (.int 0)))) (sOr (gQ "NoTable" oY (cZ "Book" (aF 0) (aG (aF 2) (aG (aF 3) aK))) vExpr (sAs 5 "NoTable" (bW 4 0 .s (aF 5)))) (gQ "NoRow" oY (cZ "Book" (aF 0) (aG (aF 2) (aG (aF 3) aK))) vExpr (sAs 5 "NoRow" (bW 4 0 .s (aF 5))))) (sIf .s (bOf (eOp gEq (aF 1) (eC (.int 1)))) (sOr (gQ "NoTable" pE (cZ "Book" (aF 0) (aG (aF 2) (aG (aF 3) aK))) vExpr (sAs 5 "NoTable" (bW 4 0 .s (aF 5)))) (gQ "NoRow" pE (cZ "Book" (aF 0) (aG (aF 2) (aG (aF 3) aK))) vExpr (sAs 5 "NoRow" (bW 4 0 .s (aF 5))))) (sIf .s (bOf (eOp gEq (aF 1) (eC (.int 2)))) (sOr (gQ "NoTable" oZ (cZ "Book" (aF 0) (aG (aF 2) (aG (aF 3) aK))) vExpr (sAs 5 "NoTable" (bW 4 0 .s (aF 5)))) (gQ "NoRow" oZ (cZ "Book" (aF 0) (aG (aF 2) (aG (aF 3) aK))) vExpr (sAs 5 "NoRow" (bW 4 0 .s (aF 5))))) (sIf .s (bOf (eOp gEq (aF 1) (eC (.int 3)))) (sOr (gQ "NoTable" mU (cZ "Book" (aF 0) (aG (aF 2) aK)) vExpr (sAs 5 "NoTable" (bW 4 0 .s (aF 5)))) (gQ "NoRow" mU (cZ "Book" (aF 0) (aG (aF 2) aK)) vExpr (sAs 5 "NoRow" (bW 4 0 .s (aF 5))))) (sOr (gQ "NoTable" tX (cZ "Book" (aF 0) (aG (aF 2) aK)) vExpr (sAs 5 "NoTable" (bW 4 0 .s (aF 5)))) (gQ "NoRow" tX (cZ "Book" (aF 0) (aG (aF 2) aK)) vExpr (sAs 5 "NoRow" (bW 4 0 .s (aF 5)))))))))
 (bD (sIf .s (bOr (fR (bOf (jC (eUn (dP "NoTable" true) (aF 4)) (eUn (dP "NoRow" true) (aF 4))))) (bOr (bOf (jC (eUn (dP "NoTable" false) (aF 4)) (eUn (dP "NoRow" false) (aF 4)))) (bOf (jC (eUn (dP "NoTable" false) (aF 4)) (eUn (dP "NoRow" false) (aF 4)))))) (cN 0 .s (gC (aG (eC (.str "other")) aK))) dQ)
 (bD (sIf .s (bOr (bOf (jC (eUn (dP "NoTable" false) (aF 4)) (eUn (dP "NoRow" false) (aF 4)))) (bOr (bOf (jC (eUn (dP "NoTable" false) (aF 4)) (eUn (dP "NoRow" false) (aF 4)))) (bOf (jC (eUn (dP "NoTable" false) (aF 4)) (eUn (dP "NoRow" false) (aF 4)))))) (cN 0 .s (gC (aG (eC (.str "other")) aK))) dQ)
 (cN 0 .s (gC (aG (jC (eUn (dP "NoTable" true) (aF 4)) (eUn (dP "NoRow" false) (aF 4))) (aG (jC (eUn (dP "NoTable" false) (aF 4)) (eUn (dP "NoRow" true) (aF 4))) aK))))))))
noncomputable def pG:List aA->Option aA:=fnD 4 6 Hz
theorem Ij (F:Fun K "_law_asked" "_law_asked" HD f fd)(B:Blt mg)(C:Cst mg)(V:Xcs K mg)(D_Book_rows:MethX P w K mg base "Book" "rows" 3 tU (spX K 1 mU))(D_Book_width:MethX P w K mg base "Book" "width" 3 xE (spX K 0 tX))(D_Book_put:MethX P w K mg base "Book" "put" 5 nO (spX K 0 oY))(D_Book_drop:MethX P w K mg base "Book" "drop" 5 wY (spX K 0 pE))(D_Book_has:MethX P w K mg base "Book" "has" 5 wU (spX K 0 oZ)):FnOk P w K mg base CX0 6 f fd xD (spF K 0 pG):=by
 have nd:=Aii.nd
 exact jI F Aii rfl (by decide) fun cdv A outer s H E P0 hr=>by
  have hu:=fK hr
  have hv:=fA hr
  exact(bQ (dA (i:=4) 0 .s nd rfl (by first | exact bB rfl | exact bC rfl) yQ)
   (bQ (Nz (yY .s (fun _ _=>(eE (iG hu) iF (aI 1) aR (eD _))) (wF (mT (c:="NoTable") (mD V.t_AskError rfl rfl rfl rfl (by decide)) (fun _ _=>(hX D_Book_put (hr.mono (by decide)) (aI 0) (aL (aI 2) (aL (aI 3) aT)))) nd (j:=5) rfl rfl (fun _=>(bO (dA (i:=4) 0 .s nd rfl (by first | exact bB rfl | exact bC rfl) (aI 5))))) (mT (c:="NoRow") (mD V.t_AskError_NoRow rfl rfl rfl rfl (by decide)) (fun _ _=>(hX D_Book_put (hr.mono (by decide)) (aI 0) (aL (aI 2) (aL (aI 3) aT)))) nd (j:=5) rfl rfl (fun _=>(bO (dA (i:=4) 0 .s nd rfl (by first | exact bB rfl | exact bC rfl) (aI 5)))))) (yY .s (fun _ _=>(eE (iG hu) iF (aI 1) aR (eD _))) (wF (mT (c:="NoTable") (mD V.t_AskError rfl rfl rfl rfl (by decide)) (fun _ _=>(hX D_Book_drop (hr.mono (by decide)) (aI 0) (aL (aI 2) (aL (aI 3) aT)))) nd (j:=5) rfl rfl (fun _=>(bO (dA (i:=4) 0 .s nd rfl (by first | exact bB rfl | exact bC rfl) (aI 5))))) (mT (c:="NoRow") (mD V.t_AskError_NoRow rfl rfl rfl rfl (by decide)) (fun _ _=>(hX D_Book_drop (hr.mono (by decide)) (aI 0) (aL (aI 2) (aL (aI 3) aT)))) nd (j:=5) rfl rfl (fun _=>(bO (dA (i:=4) 0 .s nd rfl (by first | exact bB rfl | exact bC rfl) (aI 5)))))) (yY .s (fun _ _=>(eE (iG hu) iF (aI 1) aR (eD _))) (wF (mT (c:="NoTable") (mD V.t_AskError rfl rfl rfl rfl (by decide)) (fun _ _=>(hX D_Book_has (hr.mono (by decide)) (aI 0) (aL (aI 2) (aL (aI 3) aT)))) nd (j:=5) rfl rfl (fun _=>(bO (dA (i:=4) 0 .s nd rfl (by first | exact bB rfl | exact bC rfl) (aI 5))))) (mT (c:="NoRow") (mD V.t_AskError_NoRow rfl rfl rfl rfl (by decide)) (fun _ _=>(hX D_Book_has (hr.mono (by decide)) (aI 0) (aL (aI 2) (aL (aI 3) aT)))) nd (j:=5) rfl rfl (fun _=>(bO (dA (i:=4) 0 .s nd rfl (by first | exact bB rfl | exact bC rfl) (aI 5)))))) (yY .s (fun _ _=>(eE (iG hu) iF (aI 1) aR (eD _))) (wF (mT (c:="NoTable") (mD V.t_AskError rfl rfl rfl rfl (by decide)) (fun _ _=>(hX D_Book_rows (hr.mono (by decide)) (aI 0) (aL (aI 2) aT))) nd (j:=5) rfl rfl (fun _=>(bO (dA (i:=4) 0 .s nd rfl (by first | exact bB rfl | exact bC rfl) (aI 5))))) (mT (c:="NoRow") (mD V.t_AskError_NoRow rfl rfl rfl rfl (by decide)) (fun _ _=>(hX D_Book_rows (hr.mono (by decide)) (aI 0) (aL (aI 2) aT))) nd (j:=5) rfl rfl (fun _=>(bO (dA (i:=4) 0 .s nd rfl (by first | exact bB rfl | exact bC rfl) (aI 5)))))) (wF (mT (c:="NoTable") (mD V.t_AskError rfl rfl rfl rfl (by decide)) (fun _ _=>(hX D_Book_width (hr.mono (by decide)) (aI 0) (aL (aI 2) aT))) nd (j:=5) rfl rfl (fun _=>(bO (dA (i:=4) 0 .s nd rfl (by first | exact bB rfl | exact bC rfl) (aI 5))))) (mT (c:="NoRow") (mD V.t_AskError_NoRow rfl rfl rfl rfl (by decide)) (fun _ _=>(hX D_Book_width (hr.mono (by decide)) (aI 0) (aL (aI 2) aT))) nd (j:=5) rfl rfl (fun _=>(bO (dA (i:=4) 0 .s nd rfl (by first | exact bB rfl | exact bC rfl) (aI 5)))))))))))
   (bQ (fC .s (lZ (lO (mL (jY (oR (MR rfl B.isinstance V.i_ValueError rfl SY (aI 4)) (MR rfl B.isinstance V.i_ValueError_NoRow rfl SY (aI 4))))) (lO (jY (oR (jK rfl B.isinstance V.i_Full rfl (aI 4)) (jK rfl B.isinstance V.i_Full_NoRow rfl (aI 4)))) (nD (jY (oR (jK rfl B.isinstance V.i_TooMany rfl (aI 4)) (jK rfl B.isinstance V.i_TooMany_NoRow rfl (aI 4)))))))) (bO (dD .s (jJ (aL kA aT)))) fM)
   (bQ (fC .s (lZ (lO (jY (oR (jK rfl B.isinstance V.i_NoText rfl (aI 4)) (jK rfl B.isinstance V.i_NoText_NoRow rfl (aI 4)))) (lO (jY (oR (jK rfl B.isinstance V.i_NoName rfl (aI 4)) (jK rfl B.isinstance V.i_NoName_NoRow rfl (aI 4)))) (nD (jY (oR (jK rfl B.isinstance V.i_NoDeed rfl (aI 4)) (jK rfl B.isinstance V.i_NoDeed_NoRow rfl (aI 4)))))))) (bO (dD .s (jJ (aL kA aT)))) fM)
   (bO (dD .s (jJ (aL (oR (jK rfl B.isinstance V.i_NoTable rfl (aI 4)) (jK rfl B.isinstance V.i_NoTable_NoRow rfl (aI 4))) (aL (oR (jK rfl B.isinstance V.i_NoRow rfl (aI 4)) (jK rfl B.isinstance V.i_NoRow_NoRow rfl (aI 4))) aT)))))))))
end Aw
namespace Aw
open PySem L2
set_option maxHeartbeats 4000000
variable {P:bE}{w:bA}{K:aJ}{mg:aB->Option aE}{base:aU}{f:aD}{fd:fJ}
noncomputable def ZM:SF:=(bD (bW 1 1 .s (jU aK))
 (bD (kP .s (iIt (aO pH (aG (aO kG (aG (aF 0) (aG (eC (.int 0)) aK))) (aG (eOp cO (eC (.int 1)) (eOp cG (aO dE (aG (aO kG (aG (aF 0) (aG (eC (.int 1)) aK))) (aG (eC (.int 5)) aK))) (eC (.int 3)))) aK)))) (gNm 2) (rX 1 .a (gC (aG (aF 2) (aG (eOp cO (eC (.int 1)) (eOp cG (aO dE (aG (aO kG (aG (aF 0) (aG (eC (.int 1)) aK))) (aG (eOp cO (eC (.int 6)) (aO dH (aG (aF 1) aK))) aK))) (eC (.int 6)))) aK)))))
 (vF 1 (bD (bW 3 1 .s (eLC [none] (iIt (aF 1)) (gB 0) fY (eOp gIx (aF 0) (eC (.int 0)))))
 (vF 3 (bD (bW 4 9 .s (aO (tY none) (aG (aF 1) aK)))
 (bD (kP .s (iR1 (aG (eOp cG (aO dE (aG (aO kG (aG (aF 0) (aG (eC (.int 2)) aK))) (aG (eC (.int 7)) aK))) (eC (.int 5))) aK)) (gNm 5) (bD (sC .s (eOp gIx (aF 1) (eOp cG (aF 5) (aO dH (aG (aF 1) aK)))) (pW 6 7))
 (CM 4 lC (aG (aF 6) (aG (jG (gC (aG (aF 5) (aG (eC (.int 1)) (aG (eC (.int 2)) (aG (eC (.int 3)) (aG (eC (.int 4)) (aG (eC (.int 5)) aK))))))) oN (oS (aF 7))) aK)))))
 (bD (bW 8 2 .a (aO (qV none) (cZ "Book" (aF 4) aK)))
 (vF 8 (bD (kP .s (iIt (eOp uW (jU (aG (aO kG (aG (aF 0) (aG (eC (.int 3)) aK))) aK)) (pM (aF 0) (oS (eC (.int 4))) (oS (eC (.int 63)))))) (gNm 9) (bD (bW 10 0 .s (eOp cG (aO dE (aG (aF 9) (aG (eC (.int 25)) aK))) (eC (.int 5))))
 (bD (sC .s (eOp gIx (aF 1) (eOp cG (aO dE (aG (aF 9) (aG (eC (.int 26)) aK))) (aO dH (aG (aF 1) aK)))) (pW 6 7))
 (bD (bW 11 0 .s (jG (gC (aG (eC (.int 7)) (aG (eC (.int 7)) (aG (eC (.int 7)) (aG (eC (.int 7)) (aG (eC (.int 7)) (aG (eC (.int 7)) aK))))))) oN (oS (aF 7))))
 (sIf .s (bOr (bOf (eOp gEq (eOp cG (aO dE (aG (aF 9) (aG (eC (.int 27)) aK))) (eC (.int 2))) (eC (.int 0)))) (bOf (eOp gGt (aF 10) (eC (.int 2))))) (bD (sIf .s (bOf (eOp gEq (eOp cG (aO dE (aG (aF 9) (aG (eC (.int 28)) aK))) (eC (.int 2))) (eC (.int 0)))) (bW 11 0 .s (aO uA (aG (aF 9) (aG (aF 7) aK)))) dQ)
 (sIf .a (bOf (eOp gNe (aO pG (aG (aF 4) (aG (aF 10) (aG (aO xH (aG (aF 9) (aG (aF 3) aK))) (aG (aF 11) aK))))) (gC (aG (eC (.bool true)) (aG (eC (.bool false)) aK))))) (cN 0 .s (eC (.bool false))) dQ)) (sIf .a (bOf (eOp gNe (aO pG (aG (aF 4) (aG (aF 10) (aG (aF 6) (aG (aO uA (aG (aF 9) (aG (aF 7) aK))) aK))))) (gC (aG (eC (.bool false)) (aG (eC (.bool true)) aK))))) (cN 0 .s (eC (.bool false))) dQ))))))
 (bD (sIf .a (bOr (bOf (eOp (vE true) (aO (qV none) (cZ "Book" (aF 4) aK)) (aF 8))) (bOf (eOp gNe (aO (pJ none) (cZ "Book" (aF 4) aK)) (aO vN (aG (aF 3) aK))))) (cN 0 .s (eC (.bool false))) dQ)
 (bD (sC .s (eOp gIx (aF 1) (eC (.int 0))) (pW 6 7))
 (bD (bW 12 0 .s (aO AY (aG (eLC [none,some 8] (iDK (aF 8)) (gB 0) fY (aO dH (aG (eOp gIx (aF 1) (aF 0)) aK))) aK)))
 (HP .a (eOp gEq (aO (pD none) (cZ "Book" (aF 4) aK)) (aF 12)) 4 lC (aG (aF 6) (aG (jG (gC (aG (eC (.int 9)) (aG (eC (.int 9)) (aG (eC (.int 9)) (aG (eC (.int 9)) (aG (eC (.int 9)) (aG (eC (.int 9)) aK))))))) oN (oS (aF 7))) aK)) .a (eOp gEq (aO (pD none) (cZ "Book" (aF 4) aK)) (eOp cO (aF 12) (eC (.int 1))))))))))))))))))
noncomputable def HX:List aA->Option aA:=fnD 1 13 ZM
theorem YY (F:Fun K "law" "law" mH f fd)(B:Blt mg)(C:Cst mg)(V:Xcs K mg)(D_Book_tables:MethX P w K mg base "Book" "tables" 1 tZ (spX K 1 pJ))(D_Book_size:MethX P w K mg base "Book" "size" 1 xB (spX K 0 pD))(D__law_cell:Def P w K mg base "_law_cell" 1 wX (spF K 0 kG))(D__law_mix:Def P w K mg base "_law_mix" 1 pA (spF K 0 dE))(D__law_names:Def P w K mg base "_law_names" 2 tW (spF K 1 pH))(D__law_no_row:Def P w K mg base "_law_no_row" 2 xC (spF K 0 uA))(D__law_no_table:Def P w K mg base "_law_no_table" 3 xG (spF K 0 xH))(D_Book___init__:MakeX P w K mg base "Book" 4 xI tY)(D_Book_plain:MethX P w K mg base "Book" "plain" 4 wZ (spX K 2 qV))(D__law_asked:Def P w K mg base "_law_asked" 6 xD (spF K 0 pG))(DM_Book_put:MethM P w K mg base "Book" "put" 5 nO lC):FnOk P w K mg base CX0 7 f fd KD (spF K 0 HX):=by
 have nd:=A5e.nd
 exact jI F A5e rfl (by decide) fun cdv A outer s H E P0 hr=>by
  have hu:=fK hr
  have hv:=fA hr
  refine bQ ?_ ?_
  refine dA (i:=1) 1 .s ?_ ?_ ?_ ?_ ?_ ?_
  exact nd
  rfl
  first | exact bB rfl | exact bC rfl
  exact(qL aT)
  rfl
  first | exact bB rfl | exact bC rfl | assumption
  refine bQ ?_ ?_
  refine DD ?_ ?_ ?_ ?_ ?_ ?_
  exact BM
  rfl
  refine nJ ?_
  refine fV (n:=1) ?_
  refine cS D__law_names (hr.mono (by decide)) rfl ?_
  refine aL ?_ ?_ ?_
  refine cS D__law_cell (hr.mono (by decide)) rfl ?_
  refine aL ?_ ?_ ?_
  exact(aI 0)
  refine aL ?_ ?_ ?_
  exact aR
  exact aT
  rfl
  rfl
  refine aL ?_ ?_ ?_
  refine gE aR ?_
  refine eK ?_ aR
  refine cS D__law_mix (hr.mono (by decide)) rfl ?_
  refine aL ?_ ?_ ?_
  refine cS D__law_cell (hr.mono (by decide)) rfl ?_
  refine aL ?_ ?_ ?_
  exact(aI 0)
  refine aL ?_ ?_ ?_
  exact aR
  exact aT
  rfl
  rfl
  refine aL ?_ ?_ ?_
  exact aR
  exact aT
  rfl
  rfl
  exact aT
  rfl
  rfl
  exact(wA (i:=2) nd rfl (by first | exact bB rfl | exact bC rfl))
  refine bO ?_
  refine RF 1 .a ?_
  refine jJ ?_
  refine aL ?_ ?_ ?_
  exact(aI 2)
  refine aL ?_ ?_ ?_
  refine gE aR ?_
  refine eK ?_ aR
  refine cS D__law_mix (hr.mono (by decide)) rfl ?_
  refine aL ?_ ?_ ?_
  refine cS D__law_cell (hr.mono (by decide)) rfl ?_
  refine aL ?_ ?_ ?_
  exact(aI 0)
  refine aL ?_ ?_ ?_
  exact aR
  exact aT
  rfl
  rfl
  refine aL ?_ ?_ ?_
  refine gE aR ?_
  refine fN kH kE rfl B.len jA ?_
  refine aL ?_ ?_ ?_
  exact(aI 1)
  exact aT
  rfl
  exact aT
  rfl
  rfl
  exact aT
  rfl
  rfl
  intro _; rfl
  refine zB 1 ?_
  refine bQ (by first | exact(NQ (i:=3) .s rfl nd rfl (by first | exact bB rfl | exact bC rfl) (lB (N:=["_law_pair"]) (cap:=[none]) (out:=(bT mH).names) (XN:=AV) rfl rfl (by decide +kernel) rfl) kR (nJ (aI 1)) (fun cl C s₀ H₀ ex=>⟨lA (j:=0) (show(["_law_pair"]:List aB).Nodup by decide +kernel) rfl (bB rfl),kZ,(dN hv (aI 0) aR (fun _ _=>rfl))⟩)) | exact(dA (i:=3) 1 .s nd rfl (by first | exact bB rfl | exact bC rfl) (mK rfl (lB (N:=["_law_pair"]) (cap:=[none]) (out:=(bT mH).names) (XN:=AV) rfl rfl (by decide +kernel) rfl) kR (nJ (aI 1)) (fun cl C s₀ H₀ ex=>⟨lA (j:=0) (show(["_law_pair"]:List aB).Nodup by decide +kernel) rfl (bB rfl),kZ,(dN hv (aI 0) aR (fun _ _=>rfl))⟩)))) ?_
  refine zB 3 ?_
  refine bQ ?_ ?_
  refine dA (i:=4) 9 .s ?_ ?_ ?_ ?_ ?_ ?_
  exact nd
  rfl
  first | exact bB rfl | exact bC rfl
  exact(mI (Lv D_Book___init__ (hr.mono (by decide)) (by rfl) (aL (aI 1) aT)))
  rfl
  first | exact bB rfl | exact bC rfl | assumption
  refine bQ ?_ ?_
  refine MN .s BM rfl ?_ ?_ ?_
  refine tO rfl B.range ?_
  refine aL ?_ ?_ ?_
  refine eK ?_ aR
  refine cS D__law_mix (hr.mono (by decide)) rfl ?_
  refine aL ?_ ?_ ?_
  refine cS D__law_cell (hr.mono (by decide)) rfl ?_
  refine aL ?_ ?_ ?_
  exact(aI 0)
  refine aL ?_ ?_ ?_
  exact aR
  exact aT
  rfl
  rfl
  refine aL ?_ ?_ ?_
  exact aR
  exact aT
  rfl
  rfl
  exact aT
  rfl
  exact(wA (i:=5) nd rfl (by first | exact bB rfl | exact bC rfl))
  refine bQ ?_ ?_
  refine EO .s ?_ ?_
  refine dN hv ?_ ?_ (fun _ _=>rfl)
  exact(aI 1)
  refine eK ?_ ?_
  exact(aI 5)
  refine fN kH kE rfl B.len jA ?_
  refine aL ?_ ?_ ?_
  exact(aI 1)
  exact aT
  rfl
  exact(EG (i:=6) (j:=7) rfl nd rfl rfl (by first | exact bB rfl | exact bC rfl) (by first | exact bB rfl | exact bC rfl))
  refine bO ?_
  exact(Aq (UG 4 DM_Book_put (hr.mono (by decide)) (aL (aI 6) (aL (qH (jJ (aL (aI 5) (aL aR (aL aR (aL aR (aL aR (aL aR aT))))))) nL (lQ (aI 7))) aT))))
  refine bQ ?_ ?_
  refine dA (i:=8) 2 .a ?_ ?_ ?_ ?_ ?_ ?_
  exact nd
  rfl
  first | exact bB rfl | exact bC rfl
  exact(mI (tJ D_Book_plain (hr.mono (by decide)) (aI 4)))
  rfl
  first | exact bB rfl | exact bC rfl | assumption
  refine zB 8 ?_
  refine bQ ?_ ?_
  refine DD ?_ ?_ ?_ ?_ ?_ ?_
  exact BM
  rfl
  refine nJ ?_
  refine fV (n:=1) ?_
  refine Ar ?_ ?_
  refine fV (n:=1) ?_
  refine qL ?_
  refine aL ?_ ?_ ?_
  refine cS D__law_cell (hr.mono (by decide)) rfl ?_
  refine aL ?_ ?_ ?_
  exact(aI 0)
  refine aL ?_ ?_ ?_
  exact aR
  exact aT
  rfl
  rfl
  exact aT
  rfl
  refine fV (n:=1) ?_
  refine UA ?_ ?_ ?_
  exact(aI 0)
  exact(lQ aR)
  exact(lQ aR)
  exact(wA (i:=9) nd rfl (by first | exact bB rfl | exact bC rfl))
  refine bQ ?_ ?_
  refine dA (i:=10) 0 .s ?_ ?_ ?_ ?_ ?_ ?_
  exact nd
  rfl
  first | exact bB rfl | exact bC rfl
  refine eK ?_ aR
  refine cS D__law_mix (hr.mono (by decide)) rfl ?_
  refine aL ?_ ?_ ?_
  exact(aI 9)
  refine aL ?_ ?_ ?_
  exact aR
  exact aT
  rfl
  rfl
  rfl
  first | exact bB rfl | exact bC rfl | assumption
  refine bQ ?_ ?_
  refine EO .s ?_ ?_
  refine dN hv ?_ ?_ (fun _ _=>rfl)
  exact(aI 1)
  refine eK ?_ ?_
  refine cS D__law_mix (hr.mono (by decide)) rfl ?_
  refine aL ?_ ?_ ?_
  exact(aI 9)
  refine aL ?_ ?_ ?_
  exact aR
  exact aT
  rfl
  rfl
  refine fN kH kE rfl B.len jA ?_
  refine aL ?_ ?_ ?_
  exact(aI 1)
  exact aT
  rfl
  exact(EG (i:=6) (j:=7) rfl nd rfl rfl (by first | exact bB rfl | exact bC rfl) (by first | exact bB rfl | exact bC rfl))
  refine bQ ?_ ?_
  refine dA (i:=11) 0 .s ?_ ?_ ?_ ?_ ?_ ?_
  exact nd
  rfl
  first | exact bB rfl | exact bC rfl
  refine qH ?_ nL ?_
  refine jJ ?_
  refine aL ?_ ?_ ?_
  exact aR
  refine aL ?_ ?_ ?_
  exact aR
  refine aL ?_ ?_ ?_
  exact aR
  refine aL ?_ ?_ ?_
  exact aR
  refine aL ?_ ?_ ?_
  exact aR
  refine aL ?_ ?_ ?_
  exact aR
  exact aT
  rfl
  rfl
  rfl
  rfl
  rfl
  rfl
  refine lQ ?_
  exact(aI 7)
  rfl
  first | exact bB rfl | exact bC rfl | assumption
  refine bO ?_
  refine fC .s ?_ ?_ ?_
  refine lZ ?_
  refine lO ?_ ?_
  refine eE (iG hu) iF ?_ aR (eD _)
  refine eK ?_ aR
  refine cS D__law_mix (hr.mono (by decide)) rfl ?_
  refine aL ?_ ?_ ?_
  exact(aI 9)
  refine aL ?_ ?_ ?_
  exact aR
  exact aT
  rfl
  rfl
  refine nD ?_
  refine eE vJ vR ?_ aR (eD _)
  exact(aI 10)
  refine bQ ?_ ?_
  refine fC .s ?_ ?_ fM
  refine eE (iG hu) iF ?_ aR (eD _)
  refine eK ?_ aR
  refine cS D__law_mix (hr.mono (by decide)) rfl ?_
  refine aL ?_ ?_ ?_
  exact(aI 9)
  refine aL ?_ ?_ ?_
  exact aR
  exact aT
  rfl
  rfl
  refine bO ?_
  refine dA (i:=11) 0 .s ?_ ?_ ?_ ?_ ?_ ?_
  exact nd
  rfl
  first | exact bB rfl | exact bC rfl
  refine cS D__law_no_row (hr.mono (by decide)) rfl ?_
  refine aL ?_ ?_ ?_
  exact(aI 9)
  refine aL ?_ ?_ ?_
  exact(aI 7)
  exact aT
  rfl
  rfl
  rfl
  first | exact bB rfl | exact bC rfl | assumption
  refine bO ?_
  refine fC .a ?_ ?_ fM
  refine eE (yO hu) yR ?_ ?_ (eD _)
  refine cS D__law_asked (hr.mono (by decide)) rfl ?_
  refine aL ?_ ?_ ?_
  exact(aI 4)
  refine aL ?_ ?_ ?_
  exact(aI 10)
  refine aL ?_ ?_ ?_
  refine cS D__law_no_table (hr.mono (by decide)) rfl ?_
  refine aL ?_ ?_ ?_
  exact(aI 9)
  refine aL ?_ ?_ ?_
  exact(aI 3)
  exact aT
  rfl
  rfl
  refine aL ?_ ?_ ?_
  exact(aI 11)
  exact aT
  rfl
  rfl
  rfl
  rfl
  refine jJ ?_
  refine aL ?_ ?_ ?_
  exact gW
  refine aL ?_ ?_ ?_
  exact gW
  exact aT
  rfl
  rfl
  refine bO ?_
  exact(dD .s gW)
  refine bO ?_
  refine fC .a ?_ ?_ fM
  refine eE (yO hu) yR ?_ ?_ (eD _)
  refine cS D__law_asked (hr.mono (by decide)) rfl ?_
  refine aL ?_ ?_ ?_
  exact(aI 4)
  refine aL ?_ ?_ ?_
  exact(aI 10)
  refine aL ?_ ?_ ?_
  exact(aI 6)
  refine aL ?_ ?_ ?_
  refine cS D__law_no_row (hr.mono (by decide)) rfl ?_
  refine aL ?_ ?_ ?_
  exact(aI 9)
  refine aL ?_ ?_ ?_
  exact(aI 7)
  exact aT
  rfl
  rfl
  exact aT
  rfl
  rfl
  rfl
  rfl
  refine jJ ?_
  refine aL ?_ ?_ ?_
  exact gW
  refine aL ?_ ?_ ?_
  exact gW
  exact aT
  rfl
  rfl
  refine bO ?_
  exact(dD .s gW)
  intro _; rfl
  refine bQ ?_ ?_
  refine fC .a ?_ ?_ fM
  refine lZ ?_
  refine lO ?_ ?_
  refine eE (Bf hu) Ml ?_ ?_ (eD _)
  refine fV (n:=2) ?_
  exact(mI (tJ D_Book_plain (hr.mono (by decide)) (aI 4)))
  exact(aI 8)
  refine nD ?_
  refine eE (yO hu) yR ?_ ?_ (eD _)
  refine fV (n:=1) ?_
  exact(mI (tJ D_Book_tables (hr.mono (by decide)) (aI 4)))
  refine fV (n:=1) ?_
  refine fN Hu Gk rfl B.sorted VQ ?_
  refine aL ?_ ?_ ?_
  exact(aI 3)
  exact aT
  rfl
  refine bO ?_
  exact(dD .s gW)
  refine bQ ?_ ?_
  refine EO .s ?_ ?_
  refine dN hv ?_ aR (fun _ _=>rfl)
  exact(aI 1)
  exact(EG (i:=6) (j:=7) rfl nd rfl rfl (by first | exact bB rfl | exact bC rfl) (by first | exact bB rfl | exact bC rfl))
  refine bQ ?_ ?_
  refine dA (i:=12) 0 .s ?_ ?_ ?_ ?_ ?_ ?_
  exact nd
  rfl
  first | exact bB rfl | exact bC rfl
  refine fN (QU rfl) RM rfl B.sum RB ?_
  refine aL ?_ ?_ ?_
  refine fV (n:=1) ?_
  refine mK rfl (lB (N:=["_law_name","_law_before"]) (cap:=[none,some 8]) (out:=(bT mH).names) (XN:=AV) rfl rfl (by decide +kernel) rfl) kR ?_ (fun cl C s₀ H₀ ex=>⟨lA (j:=0) (show(["_law_name","_law_before"]:List aB).Nodup by decide +kernel) rfl (bB rfl),kZ,(fN kH kE rfl B.len jA (aL (dN hv (aI 1) (aI 0) (fun _ _=>rfl)) aT))⟩)
  refine Bu ?_
  exact(aI 8)
  exact aT
  rfl
  rfl
  first | exact bB rfl | exact bC rfl | assumption
  refine bO ?_
  refine Ju .a .a ?_ (UG 4 DM_Book_put (hr.mono (by decide)) (aL (aI 6) (aL (qH (jJ (aL aR (aL aR (aL aR (aL aR (aL aR (aL aR aT))))))) nL (lQ (aI 7))) aT))) ?_
  refine nE (iG hu) iF ?_ ?_ (eD _)
  exact(mI (tJ D_Book_size (hr.mono (by decide)) (aI 4)))
  exact(aI 12)
  refine nE (iG hu) iF ?_ ?_ (eD _)
  exact(mI (tJ D_Book_size (hr.mono (by decide)) (aI 4)))
  refine gE ?_ aR
  exact(aI 12)
end Aw
namespace L2
open PySem PySem.Spec PyProof.Rows
theorem Qn {F:SF}{T:aA->aW->Option aW}(P:Nat->aW->Prop){ds:List aA}{ρ:aW}(h0:P 0 ρ)
  (step : ∀ i d ρ,ds[i]?=some d->P i ρ -> ∃ ρ1 ρ2,T d ρ=some ρ1/\(F ρ1=some (.nx ρ2) \/ F ρ1=some (.ct ρ2))/\P (i+1) ρ2) : ∃ ρ',mB F T ds ρ=some (.nx ρ')/\P ds.length ρ':=by
 have go : ∀ (rest:List aA) (i:Nat) (ρ:aW),ds.drop i=rest->i+rest.length=ds.length->P i ρ -> ∃ ρ',mB F T rest ρ=some (.nx ρ')/\P ds.length ρ':=by
  intro rest
  induction rest with
  | nil=>
   intro i ρ _ hl p
   simp at hl
   subst hl
   exact⟨ρ,rfl,p⟩
  | cons d r ih=>
   intro i ρ hd hl p
   have hi:ds[i]?=some d:=by
    have:=congrArg (·[0]?) hd
    simpa using this
   obtain⟨ρ1,ρ2,e1,e2,p2⟩:=step i d ρ hi p
   have hd2:ds.drop (i+1)=r:=by
    have:=congrArg List.tail hd
    simpa using this
   obtain⟨ρ',e3,p3⟩:=ih (i+1) ρ2 hd2 (by simp at hl; omega) p2
   refine⟨ρ',?_,p3⟩
   show((T d ρ).bind fun ρ1=>(F ρ1).bind fun o=>match o with
    | .nx ρ'=>mB F T r ρ'
    | .ct ρ'=>mB F T r ρ'
    | .bk ρ'=>some (.nx ρ')
    | .rt d=>some (.rt d))=some (.nx ρ')
   rw[e1]
   rcases e2 with e2 | e2
   ·simp only[bR,e2]; exact e3
   ·simp only[bR,e2]; exact e3
 exact go ds 0 ρ (by simp) (by simp) h0
theorem MU {T:aA->List (Option aA)->Option (List (Option aA))}{t:BF}{f:EF}{ρ:List (Option aA)}(R:aA->aA->Prop) : ∀ (ds:List aA),(∀ d∈ds,∃ ρ1 y,T d ρ=some ρ1/\t ρ1=some true/\f ρ1=some y/\R d y) ->
  ∃ ys,lcD T t f ρ ds=some ys/\eO R ds ys
 | [],_=>⟨[],rfl,.nil⟩
 | d::r,h=>by
  obtain⟨ρ1,y,e1,e2,e3,hr⟩:=h d cC
  obtain⟨ys,e4,hp⟩:=MU R r fun d' m=>h d' (cD _ m)
  refine⟨y::ys,?_,.cons hr hp⟩
  show((T d ρ).bind fun ρ1=>(t ρ1).bind fun c=>if c=true then(f ρ1).bind fun y=>(lcD T t f ρ r).bind fun ys=>some (y::ys) else lcD T t f ρ r)=some (y::ys)
  simp[e1,e2,e3,e4]
theorem LW {T:aA->List (Option aA)->Option (List (Option aA))}{t:BF}{f:EF}{ρ:List (Option aA)}(g:aA->aA) : ∀ (ds:List aA),(∀ d∈ds,∃ ρ1,T d ρ=some ρ1/\t ρ1=some true/\f ρ1=some (g d))->lcD T t f ρ ds=some (ds.map g)
 | [],_=>rfl
 | d::r,h=>by
  obtain⟨ρ1,e1,e2,e3⟩:=h d cC
  have e4:=LW g r fun d' m=>h d' (cD _ m)
  show((T d ρ).bind fun ρ1=>(t ρ1).bind fun c=>if c=true then(f ρ1).bind fun y=>(lcD T t f ρ r).bind fun ys=>some (y::ys) else lcD T t f ρ r)=some (g d::r.map g)
  simp[e1,e2,e3,e4]
theorem Paired.mem_right {α β:Type}{R:α->β->Prop} : ∀ {as:List α} {bs:List β},eO R as bs -> ∀ b∈bs,∃ a∈as,R a b:=by
 intro as bs h
 induction h with
 | nil=>exact fun b m=>by simp at m
 | cons h _ ih=>
  intro b m
  rcases cQ.mp m with rfl | m
  ·exact⟨_,cC,h⟩
  ·obtain⟨a,ha,hr⟩:=ih b m
   exact⟨a,cD _ ha,hr⟩
theorem Ap {F G:SF}{ρ ρ':aW}(h:F ρ=some (.nx ρ')):bD F G ρ=G ρ':=by
 unfold bD
 rw[h]
 rfl
theorem Am {F G:SF}{ρ:aW}{d:aA}(h:F ρ=some (.rt d)):bD F G ρ=some (.rt d):=by
 unfold bD
 rw[h]
 rfl
theorem Mg {m:Md}{fi:AF}{T:aA->aW->Option aW}{F:SF}{ρ:aW}{ds:List aA}{o:Out}(h:aV m fi ρ=some ds)(h2:mB F T ds ρ=some o):kP m fi T F ρ=some o:=by
 unfold kP
 rw[h]
 exact h2
theorem KG {np n:Nat}{body:SF}{ds:List aA}{d:aA}(hl:ds.length=np)(h:body (ds.map (fun d=>some (0,d))++lI (n - np) none)=some (.rt d)):fnD np n body ds=some d:=by
 unfold fnD
 rw[if_pos hl,h]
 rfl
theorem Gd {α β:Type}{R:α->β->Prop}{as:List α}{bs:List β}(h:eO R as bs):bs.length=as.length:=(rJ h).symm
theorem UH {β:Type}{g:β->aA}{R:β->Prop} : ∀ (ys:List aA),(∀ y∈ys,∃ c,y=g c/\R c) -> ∃ cs:List β,ys=cs.map g /\ ∀ c∈cs,R c
 | [],_=>⟨[],rfl,fun _ m=>by simp at m⟩
 | y::r,h=>by
  obtain⟨c,e,hc⟩:=h y cC
  obtain⟨cs,e2,h2⟩:=UH r fun z m=>h z (cD _ m)
  refine⟨c::cs,by rw[e,e2]; rfl,fun x m=>?_⟩
  rcases cQ.mp m with rfl | m
  ·exact hc
  ·exact h2 x m
theorem ZD {ds:List aA}{k:Nat}(h:k≤ds.length):cutD ds none (some (k:Int))=ds.take k:=by
 unfold cutD
 rw[HT.An6,HT.Asa]
 simp[VT h]
theorem iM {n:Nat}(h:n≤100000):n≤sizeLine:=jQ h (by decide)
theorem yW {n:Nat}(h:n≤100000):n<sizeLine:=Nat.lt_of_le_of_lt h (by decide)
noncomputable def letter (c:Nat):Bool:=decide (97≤c)&&decide (c≤122)
noncomputable def figure (c:Nat):Bool:=decide (48≤c)&&decide (c≤57)
noncomputable def fT (c:Nat):Bool:=letter c||figure c
theorem Di {c:Nat}(h:letter c=true):fT c=true:=by simp[fT,h]
theorem zT {c:Nat}(h:fT c=true):c<128:=by
 simp[fT,letter,figure] at h
 omega
def YV (cs:List Nat):Prop:=∃ c r,cs=c::r/\letter c=true/\(∀ x∈cs,fT x=true)/\cs.length≤12
noncomputable abbrev iR (cs:List Nat):aB:=⟨cs.toArray⟩
def nameS (z:aB):Prop:=YV z.cps.toList
theorem As {z:aB}(h : ∀ c∈z.cps.toList,fT c=true):cM (.str z)=true:=by
 have:z.cps.all (fun x=>decide (x<1114112))=true:=by
  rw[Array.all_eq_true']
  intro x hx
  have:=zT (h x (by simpa using hx))
  simp; omega
 simpa [cM,BL] using this
noncomputable def cK (c:Nat):aA:=.str ⟨#[c]⟩
noncomputable def SIGNS:aB:="abcdefghijklmnopqrstuvwxyz0123456789"
theorem signs_at : ∀ j<36,∃ c,SIGNS.cps.toList[j]?=some c/\fT c=true/\(j<26->letter c=true):=by decide +kernel
theorem OT {i:Int}(h0:0≤i)(h1:i<36) : ∃ c,gIx (.str SIGNS) (.int i)=some (cK c)/\fT c=true/\(i<26->letter c=true):=by
 obtain⟨j,rfl⟩:=kO h0
 obtain⟨c,e,h2,h3⟩:=signs_at j (by omega)
 refine⟨c,?_,h2,fun h=>h3 (by omega)⟩
 show(if SIGNS.length≤sizeLine then(atI SIGNS.cps.toList (j:Int)).bind fun c=>some (bK ⟨#[c]⟩) else none)=_
 rw[if_pos (by decide +kernel),lP e]
 rfl
theorem RQ : ∀ cs:List Nat,pL (cs.map cK)=some (cs.map fun c=>(⟨#[c]⟩:aB))
 | []=>rfl
 | c::r=>by
  show((pL (r.map cK)).bind fun xs=>some ((⟨#[c]⟩:aB)::xs))=_
  rw[RQ r]
  rfl
theorem OL : ∀ cs:List Nat,((cs.map fun c=>(⟨#[c]⟩:aB)).map (·.length)).sum=cs.length
 | []=>rfl
 | c::r=>by
  rw[cR,cR,pQ,OL r,fG]
  show 1+r.length=r.length+1
  omega
theorem MC {cs:List Nat}(h:cs.length≤1000):sH (.str "") (.list (cs.map cK))=some (.str (iR cs)):=by
 show((pL (cs.map cK)).bind fun ys=>if (ys.map (·.length)).sum+ys.length*(BH "").length≤16777216 then some (bK (kK (BH "") ys)) else none)=_
 rw[RQ]
 simp only[bR,OL,cJ]
 rw[if_pos (by
  have:(BH "").length=0:=by decide +kernel
  rw[this]; omega)]
 have:=RL cs
 have e:(BH "")=(⟨#[]⟩:aB):=by decide +kernel
 rw[e,this]
noncomputable def bN (c k:Int):Int:=(c%2147483647*48271+k*k*69621+k+11)%2147483629*((c%2147483647*48271+k*k*69621+k+11)%2147483629)%2147483587
theorem fE (a:Int){b:Int}(h:0<b):0≤a%b/\a%b<b:=⟨Int.emod_nonneg _ (by omega),Int.emod_lt_of_pos _ h⟩
def Goes (F:SF)(ρ:aW)(P:Out->Prop):Prop:=∃ o,F ρ=some o/\P o
variable {F G:SF}{ρ:aW}{P:Out->Prop}{m:Md}
theorem AN {ρ':aW}(h:F ρ=some (.nx ρ'))(k:P (.nx ρ')):Goes F ρ P:=⟨_,h,k⟩
theorem dX {ρ':aW}(h:F ρ=some (.nx ρ'))(k:Goes G ρ' P):Goes (bD F G) ρ P:=by
 obtain⟨o,e,p⟩:=k
 exact⟨o,by rw[Ap h]; exact e,p⟩
theorem mQ (I:aW->Prop)(h:Goes F ρ fun o=>∃ ρ',o = .nx ρ'/\I ρ')(k : ∀ ρ',I ρ'->Goes G ρ' P):Goes (bD F G) ρ P:=by
 obtain⟨o,e,ρ',rfl,i⟩:=h
 exact dX e (k ρ' i)
theorem Jy {d:aA}(h:F ρ=some (.rt d))(k:P (.rt d)):Goes (bD F G) ρ P:=⟨_,Am h,k⟩
theorem LD {t:BF}{b:Bool}(h:bV m t ρ=some b)(k:Goes (if b=true then F else G) ρ P):Goes (sIf m t F G) ρ P:=by
 obtain⟨o,e,p⟩:=k
 refine⟨o,?_,p⟩
 show((bV m t ρ).bind fun b=>if b=true then F ρ else G ρ)=some o
 rw[h]
 cases b
 ·exact e
 ·exact e
theorem iV {t:BF}(h:bV m t ρ=some true)(k:Goes F ρ P):Goes (sIf m t F G) ρ P:=LD h k
theorem Ca {t:BF}(h:bV m t ρ=some false)(k:Goes G ρ P):Goes (sIf m t F G) ρ P:=LD h k
theorem gD {t:BF}(h:bV m t ρ=some false):sIf m t F dQ ρ=some (.nx ρ):=by
 unfold sIf
 rw[h]
 rfl
theorem kX (h:Goes F ρ fun o=>∃ d,o = .rt d/\P o):Goes (bD F G) ρ P:=by
 obtain⟨o,e,d,rfl,p⟩:=h
 exact Jy e p
theorem Jt {n:Nat}{f:EF}{d:aA}(h:f (vA ρ)=some d)(hf:fL n d=true)(k:P (.rt d)):Goes (cN n .a f) ρ P:=⟨_,by
 unfold cN eV
 simp only[h,bR,hf,rO,if_true],k⟩
theorem fU {n:Nat}{f:EF}{d:aA}(h:f (vS ρ)=some d)(k:P (.rt d)):Goes (cN n .s f) ρ P:=⟨_,by
 unfold cN eV
 simp only[h,bR],k⟩
theorem TL {i n:Nat}{f:EF}{d:aA}(h:eV n m f ρ=some d)(hl:i<ρ.length)(k:P (.nx (ρ.set i (some (n,d))))):Goes (bW i n m f) ρ P:=
 ⟨_,by unfold bW; rw[h]; simp only[bR,if_pos hl],k⟩
theorem LN {i n:Nat}{f:EF}{d:aA}(h:f (vS ρ)=some d)(hl:i<ρ.length)(k:P (.nx (ρ.set i (some (n,d))))):Goes (bW i n .s f) ρ P:=TL h hl k
theorem Bx {n:Nat}(h:n≤1000000):CI 0 (n:Int)=some ((dG n).map fun(k:Nat)=>aZ k):=by
 unfold CI
 rw[if_pos (by omega)]
 simp
theorem vW {fa:AF}{ρ:List (Option aA)}{n:Nat}(h:fa ρ=some [.int n])(hn:n≤1000000):iR1 fa ρ=some ((dG n).map fun(k:Nat)=>aZ k):=by
 have e:=Bx hn
 generalize some ((dG n).map fun(k:Nat)=>aZ k)=y at e ⊢
 rw[← e]
 unfold iR1
 rw[h,bR]
theorem avS {fi:AF}{ds:List aA}(h:fi (vS ρ)=some ds):aV .s fi ρ=some ds:=h
theorem vY {fi:AF}{T:aA->aW->Option aW}{ds:List aA}(I:Nat->aW->Prop)(h:aV m fi ρ=some ds)(h0:I 0 ρ)
  (step : ∀ i d ρ,ds[i]?=some d->I i ρ -> ∃ ρ1,T d ρ=some ρ1/\Goes F ρ1 fun o=>∃ ρ2,(o = .nx ρ2 \/ o = .ct ρ2)/\I (i+1) ρ2) (k : ∀ ρ',I ds.length ρ'->P (.nx ρ')):Goes (kP m fi T F) ρ P:=by
 obtain⟨ρ',e,i⟩:=Qn I h0 fun i d ρ hd p=>by
  obtain⟨ρ1,e1,o,e2,ρ2,e3,p2⟩:=step i d ρ hd p
  refine⟨ρ1,ρ2,e1,?_,p2⟩
  rcases e3 with rfl | rfl
  ·exact .inl e2
  ·exact .inr e2
 exact⟨_,Mg h e,k ρ' i⟩
theorem Ls {fi:AF}{T:aA->aW->Option aW}{n:Nat}(I:Nat->aW->Prop)(h:aV m fi ρ=some ((dG n).map fun(k:Nat)=>aZ k))(h0:I 0 ρ)
  (step : ∀ (i:Nat) ρ,i<n->I i ρ -> ∃ ρ1,T (.int i) ρ=some ρ1/\Goes F ρ1 fun o=>∃ ρ2,(o = .nx ρ2 \/ o = .ct ρ2)/\I (i+1) ρ2) (k : ∀ ρ',I n ρ'->P (.nx ρ')):Goes (kP m fi T F) ρ P:=by
 refine vY I h h0 (fun i d ρ hd p=>?_) (by simpa using k)
 have hlt:i<n:=by
  have:=(fI.mp hd).1
  simpa using this
 rw[fH,WB hlt] at hd
 have:aZ (i:Int)=d:=by simpa using hd
 subst this
 exact step i ρ hlt p
theorem vG {np n:Nat}{body:SF}{ds:List aA}{Q:aA->Prop}(hl:ds.length=np)(h:Goes body (ds.map (fun d=>some (0,d))++lI (n - np) none) fun o=>∃ d,o = .rt d/\Q d) : ∃ d,fnD np n body ds=some d/\Q d:=by
 obtain⟨o,e,d,rfl,q⟩:=h
 exact⟨d,KG hl e,q⟩
theorem YE {cap:List (Option Nat)}{fi:AF}{T:aA->List (Option aA)->Option (List (Option aA))}{t:BF}{f:EF}{ρ:List (Option aA)}{ds:List aA}(R:aA->aA->Prop)(h1:fi ρ=some ds)(h2:ds.length≤100000)
  (h : ∀ d∈ds,∃ ρ1 y,T d (jT cap ρ)=some ρ1/\t ρ1=some true/\f ρ1=some y/\R d y) : ∃ ys,eLC cap fi T t f ρ=some (.list ys)/\eO R ds ys:=by
 obtain⟨ys,e,hp⟩:=MU R ds h
 refine⟨ys,?_,hp⟩
 unfold eLC
 rw[h1,bR,e,bR,if_pos (iM h2)]
theorem DX {cap:List (Option Nat)}{fi:AF}{T:aA->List (Option aA)->Option (List (Option aA))}{t:BF}{f:EF}{ρ:List (Option aA)}{ds:List aA}(g:aA->aA)(h1:fi ρ=some ds)(h2:ds.length≤100000)
  (h : ∀ d∈ds,∃ ρ1,T d (jT cap ρ)=some ρ1/\t ρ1=some true/\f ρ1=some (g d)):eLC cap fi T t f ρ=some (.list (ds.map g)):=by
 unfold eLC
 rw[h1,bR,LW g ds h,bR,if_pos (iM h2)]
theorem Mb {cap:List (Option Nat)}{fi:AF}{T:aA->List (Option aA)->Option (List (Option aA))}{t:BF}{f:EF}{ρ:List (Option aA)}{n:Nat}{β:Type}(g:β->aA)(R:β->Prop)(h1:fi ρ=some ((dG n).map fun(k:Nat)=>aZ k))(h2:n≤100000)
  (h : ∀ k<n,∃ ρ1 y,T (.int (k:Nat)) (jT cap ρ)=some ρ1/\t ρ1=some true/\f ρ1=some (g y)/\R y) : ∃ ys:List β,eLC cap fi T t f ρ=some (.list (ys.map g))/\ys.length=n /\ ∀ y∈ys,R y:=by
 obtain⟨ys,e,hp⟩:=YE (fun _ y=>∃ x,y=g x/\R x) h1 (by simpa using h2) fun d m=>by
  obtain⟨k,hk,rfl⟩:=cA.mp m
  obtain⟨ρ1,y,a1,a2,a3,a4⟩:=h k (by simpa using hk)
  exact⟨ρ1,g y,a1,a2,a3,y,rfl,a4⟩
 obtain⟨xs,rfl,hx⟩:=UH ys fun y m=>by
  obtain⟨_,_,x,e,hx⟩:=L2.Paired.mem_right hp y m
  exact⟨x,e,hx⟩
 have:=Gd hp
 exact⟨xs,e,by simpa using this,hx⟩
end L2
namespace L2
open PySem PySem.Spec PyProof.Rows
variable {F G:SF}{ρ:aW}{P:Out->Prop}{m:Md}
theorem tD {f:EF}{ρ:List (Option aA)}{ds:List aA}(h:f ρ=some (.list ds)):iIt f ρ=some ds:=by
 unfold iIt
 rw[h]
 rfl
theorem Na {f:EF}{ρ:List (Option aA)}{ds:List aA}(h:f ρ=some (.tuple ds)):iIt f ρ=some ds:=by
 unfold iIt
 rw[h]
 rfl
theorem bL {fa:AF}{g:List aA->Option aA}{ρ:List (Option aA)}{ds:List aA}{d:aA}(h:fa ρ=some ds)(h2:g ds=some d):aO g fa ρ=some d:=by
 unfold aO
 rw[h]
 exact h2
theorem bM {fa fb:EF}{g:aA->aA->Option aA}{ρ:List (Option aA)}{a b d:aA}(h:fa ρ=some a)(h2:fb ρ=some b)(h3:g a b=some d):eOp g fa fb ρ=some d:=by
 unfold eOp
 rw[h,h2]
 exact h3
theorem Nk {i:Nat}{f:EF}{d:aA}{ds:List aA}(h:f (vA ρ)=some d)(hf:eQ d=true)(hg:getL i ρ=some ds)(hl:ds.length<100000)(k:P (.nx (ρ.set i (some (1,.list (ds++[d])))))):Goes (rX i .a f) ρ P:=⟨_,by
 unfold rX eV
 simp only[h,bR,fL,hf,rO,if_true,hg,if_pos (yW (BO hl))],k⟩
theorem NW : ∀ {ts:List aA},(∀ t∈ts,bF t=true)->bX ts=true
 | [],_=>by simp[bX]
 | t::r,h=>by
  simp only[bX,rQ]
  exact⟨h t cC,NW fun x m=>h x (cD _ m)⟩
theorem QP {n:Nat} : ∀ {ts:List aA},(∀ t∈ts,t.depth≤n)->dI ts≤n
 | [],_=>by simp[dI]
 | t::r,h=>by
  simp only[dI]
  exact Nat.max_le.mpr ⟨h t cC,QP fun x m=>h x (cD _ m)⟩
theorem RS : ∀ {ts:List aA},(∀ t∈ts,noDict t=true)->noDicts ts=true
 | [],_=>by simp[noDicts]
 | t::r,h=>by
  simp only[noDicts,rQ]
  exact⟨h t cC,RS fun x m=>h x (cD _ m)⟩
theorem MS : ∀ {kss:List (List aA)},(∀ k∈kss,bX k=true/\dI k≤6)->kQ (kss.map gG)=some kss
 | [],_=>rfl
 | k::r,h=>by
  show(if bX k=true/\dI k≤6 then(kQ (r.map gG)).bind fun kss=>some (k::kss) else none)=_
  rw[if_pos (h k cC),MS fun x m=>h x (cD _ m)]
  rfl
end L2
namespace L2
open PySem PySem.Spec PyProof.Rows
variable {F G:SF}{ρ:aW}{P:Out->Prop}{m:Md}
theorem NL {T:aA->List (Option aA)->Option (List (Option aA))}{t:BF}{f:EF}{ρ:List (Option aA)}{α:Type}{q:α->aA}(p:α->Bool)(g:α->aA) : ∀ (xs:List α),
  (∀ x∈xs,∃ ρ1,T (q x) ρ=some ρ1/\t ρ1=some (p x)/\(p x=true->f ρ1=some (g x)))->lcD T t f ρ (xs.map q)=some ((xs.filter p).map g)
 | [],_=>rfl
 | x::xs,h=>by
  obtain⟨ρ1,e1,e2,e3⟩:=h x cC
  have ih:=NL p g xs fun y m=>h y (cD _ m)
  show((T (q x) ρ).bind fun ρ1=>(t ρ1).bind fun c=>if c=true then(f ρ1).bind fun y=>(lcD T t f ρ (xs.map q)).bind fun ys=>some (y::ys) else lcD T t f ρ (xs.map q))=_
  rw[e1,bR,e2,bR,ih]
  cases hp:p x with
  | true=>rw[if_pos rfl,e3 hp,List.filter_cons_of_pos hp]; rfl
  | false=>rw[if_neg (by simp),List.filter_cons_of_neg (by simp[hp])]
theorem qN {cap:List (Option Nat)}{fi:AF}{T:aA->List (Option aA)->Option (List (Option aA))}{t:BF}{f:EF}{ρ:List (Option aA)}{α:Type}{xs:List α}{q:α->aA}(p:α->Bool)(g:α->aA)(h1:fi ρ=some (xs.map q))(h2:xs.length≤100000)
  (h : ∀ x∈xs,∃ ρ1,T (q x) (jT cap ρ)=some ρ1/\t ρ1=some (p x)/\(p x=true->f ρ1=some (g x))):eLC cap fi T t f ρ=some (.list ((xs.filter p).map g)):=by
 unfold eLC
 rw[h1,bR,NL p g xs h,bR,if_pos (iM (by simpa using h2))]
theorem CS {i n:Nat}{f:EF}{d:aA}(h:eV n m f ρ=some d)(hl:i<ρ.length):bW i n m f ρ=some (.nx (ρ.set i (some (n,d)))):=by
 obtain⟨o,e,q⟩:=TL (P:=fun o=>o = .nx (ρ.set i (some (n,d)))) h hl rfl
 rw[e,q]
theorem iU {i n:Nat}{f:EF}{d:aA}(h:f (vS ρ)=some d)(hl:i<ρ.length)(k:Goes G (ρ.set i (some (n,d))) P):Goes (bD (bW i n .s f) G) ρ P:=dX (CS h hl) k
theorem Ly {i n:Nat}{f:EF}{d:aA}(h:f (vA ρ)=some d)(hf:fL n d=true)(hl:i<ρ.length)(k:Goes G (ρ.set i (some (n,d))) P):Goes (bD (bW i n .a f) G) ρ P:=
 dX (CS (by show((f (vA ρ)).bind fun d=>if (fL n d||(uX ρ&&decide (n<9)&&iE n d)||(uV ρ&&decide (n=0)&&ftD d))=true then some d else none)=_; rw[h,bR,hf,rO,rO,if_pos rfl]) hl) k
theorem cH {f:EF}{g:AF}{ρ:List (Option aA)}{d:aA}{ds:List aA}(h:f ρ=some d)(h2:g ρ=some ds):aG f g ρ=some (d::ds):=by
 unfold aG
 rw[h,h2]
 rfl
end L2
namespace L2
open PySem PySem.Spec PyProof.Rows
variable {R:aA->Prop}{kds:List (aA×aA)}
noncomputable def dU (r:List Int):aA:=.tuple (r.map aZ)
noncomputable def lN (rs:List (List Int)):aA:=.list (rs.map dU)
theorem ZT {ds:List aA}{f:EF}{lo hi:OF}{ρ:List (Option aA)}{l u:Option Int}(e1:f ρ=some (.list ds))(e2:lo ρ=some l)(e3:hi ρ=some u):pM f lo hi ρ=some (.list (cutD ds l u)):=by
 unfold pM
 rw[e1,bR,e2,bR,e3,bR]
end L2
namespace L2
open PySem
theorem De {ks:List aN} : ∀ {acc:List aN} {k:aN},k∈ks.foldl gP acc↔k∈acc \/ k∈ks:=by
 induction ks with
 | nil=>intro acc k; simp
 | cons x r ih=>
  intro acc k
  rw[BS,ih]
  unfold gP
  by_cases hx:x∈acc
  ·rw[if_pos hx]
   constructor
   ·rintro(h | h)
    ·exact .inl h
    ·exact .inr (cD _ h)
   ·rintro(h | h)
    ·exact .inl h
    ·rcases cQ.mp h with rfl | h
     ·exact .inl hx
     ·exact .inr h
  ·rw[if_neg hx,jS,dB,cQ,or_assoc]
theorem Nx {ks:List aN} : ∀ {acc:List aN},acc.Nodup->(ks.foldl gP acc).Nodup:=by
 induction ks with
 | nil=>intro acc h; exact h
 | cons x r ih=>
  intro acc h
  rw[BS]
  refine ih ?_
  unfold gP
  by_cases hx:x∈acc
  ·rw[if_pos hx]; exact h
  ·rw[if_neg hx]
   refine BP.mpr ⟨h,by simp,fun a ha b hb=>?_⟩
   rw[dB.mp hb]
   exact fun e=>hx (e ▸ ha)
end L2
namespace Aw
open PySem L2
noncomputable abbrev s0 (d:aA):L2.Slot:=some (0,d)
def AL (n:Nat)(z:aB):Prop:=cM (.str z)=true/\z.length≤n
theorem Qr {n m:Nat}{y z:aB}(h:AL n y)(h2:AL m z)(hs:n+m≤100000):cO (.str y) (.str z)=some (.str (y++z)):=by
 show(if y.length+z.length≤sizeLine then some (bK (y++z)) else none)=_
 rw[if_pos (iM (by have:=h.2; have:=h2.2; omega))]
theorem Mj:AL 26 "abcdefghijklmnopqrstuvwxyz":=⟨by decide +kernel,by decide +kernel⟩
theorem qO (a b:Int):gEq (.int a) (.int b)=some (.bool (decide (a=b))):=by
 congr 2
theorem La {α:Type}(q:α->aA)(xs:List α)(l u:Option Int) : ∃ ys,cutD (xs.map q) l u=ys.map q/\ys.length≤xs.length/\(ys≠[]->xs≠[]):=by
 refine⟨(xs.drop (HT.sIx (xs.map q).length 0 l)).take (HT.sIx (xs.map q).length (xs.map q).length u - HT.sIx (xs.map q).length 0 l),?_,?_,?_⟩
 ·unfold cutD
  rw[← List.map_drop,← JD]
 ·simp; omega
 ·rintro h rfl
  simp at h
theorem EH (ds:List aA):dH [.tuple ds]=some (.int ds.length):=by simp[dH]
theorem eR {f:EF}{ρ:List (Option aA)}{b:Bool}(h:f ρ=some (.bool b)):bOf f ρ=some b:=by
 unfold bOf
 rw[h]
 rfl
theorem Dp {α:Type}[DecidableEq α]{xs ys:List α}(h1:xs.Nodup)(h2:ys.Nodup)(h : ∀ a,a∈xs↔a∈ys):xs.length=ys.length:=
 Nat.le_antisymm (Rc h1 fun a m=>(h a).mp m) (Rc h2 fun a m=>(h a).mpr m)
theorem qQ {a b:EF}{ρ:List (Option aA)}{x y:Bool}(h:a ρ=some (.bool x))(h2:x=true->b ρ=some (.bool y)):iJ a b ρ=some (.bool (x&&y)):=by
 unfold iJ
 cases x with
 | true=>rw[h,bR,show asB (.bool true)=some true from rfl,bR,if_pos rfl,h2 rfl]; rfl
 | false=>rw[h,bR,show asB (.bool false)=some false from rfl,bR,if_neg (by simp)]; rfl
theorem qK {fa:AF}{ρ:List (Option aA)}{ds:List aA}(h:fa ρ=some ds)(hl:ds.length≤1000:=by simp):gC fa ρ=some (.tuple ds):=by
 unfold gC
 rw[h,bR,if_pos (iM (by omega))]
theorem CZ {fa:AF}{ρ:List (Option aA)}{ds:List aA}(h:fa ρ=some ds)(hl:ds.length≤1000:=by simp):jU fa ρ=some (.list ds):=by
 unfold jU
 rw[h,bR,if_pos (iM (by omega))]
theorem fZ (c k:Int)(h0:0≤k)(h1:k≤1000000):dE [.int c,.int k]=some (.int (bN c k)):=by
 have b:=fE (c%2147483647*48271+k*k*69621+k+11) (show(0:Int)<2147483629 by decide)
 have hk:k.natAbs<18446744073709551616:=by omega
 have hn:((c%2147483647*48271+k*k*69621+k+11)%2147483629).natAbs<18446744073709551616:=by omega
 simp[dE,RG,fnD,bD,bW,cN,eV,vS,eOp,aF,eC,outD,cO,fS,cG,g2C,hk,hn,bN]
theorem zF {ns:List Int}{k:Int}(h0:0≤k)(h1:k≤1000000) : ∃ c,kG [.list (ns.map aZ),.int k]=some (.int c):=by
 have hk:k.natAbs<18446744073709551616:=by omega
 have at_ : ∀ i:Int,0≤i->i<ns.length -> ∃ c,gIx (.list (ns.map aZ)) (.int i)=some (.int c):=fun i a b=>by
  obtain⟨j,rfl⟩:=kO a
  have hj:j<ns.length:=by omega
  exact⟨ns[j],lP (by rw[fH,iP hj]; rfl)⟩
 by_cases hl:k<(ns.length:Int)
 ·obtain⟨c,e⟩:=at_ k h0 hl
  exact⟨c,by simp[kG,AA,fnD,bD,bW,cN,sIf,dQ,eV,bV,vS,eOp,aF,eC,aO,aG,aK,bOf,asB,outD,cO,fS,cG,g2I,g2C,gLt,gGt,dH,hl,e]⟩
 ·by_cases hz:(0:Int)<ns.length
  ·obtain⟨c,e⟩:=at_ (k*7%(ns.length:Int)) (fE _ hz).1 (fE _ hz).2
   have b:=fE (c*48271+k*7919) (show(0:Int)<2147483647 by decide)
   have hn:((c*48271+k*7919)%2147483647).natAbs<18446744073709551616:=by omega
   have hz':0<ns.length:=by omega
   exact⟨_,by simp[kG,AA,fnD,bD,bW,cN,sIf,dQ,eV,bV,vS,eOp,aF,eC,aO,aG,aK,bOf,asB,outD,cO,fS,cG,g2I,g2C,gLt,gGt,dH,hl,hz',hk,e,hn]; rfl⟩
  ·have hz':ns=[]:=by
    cases ns with
    | nil=>rfl
    | cons a r=>exact absurd (by simp) hz
   have hn:(k*7919+5).natAbs<18446744073709551616:=by omega
   have hl' : ¬ k<0:=by omega
   subst hz'
   exact⟨_,by simp[kG,AA,fnD,bD,bW,cN,sIf,dQ,eV,bV,vS,eOp,aF,eC,aO,aG,aK,bOf,asB,outD,cO,fS,cG,g2I,g2C,gLt,gGt,dH,hl',hk,hn]; rfl⟩
def baseOk (cs:List Nat)(s:Nat):Prop:=cs.length=s/\(∀ c∈cs,fT c=true) /\ ∃ c r,cs=c::r/\letter c=true
theorem baseOk.set {cs:List Nat}{s j c:Nat}(h:baseOk cs s)(hc:fT c=true)(hl:j=0->letter c=true):baseOk (cs.set j c) s:=by
 obtain⟨h1,h2,c0,r,e,h3⟩:=h
 refine⟨by simpa using h1,fun x m=>?_,?_⟩
 ·rcases Qz m with q | q
  ·exact h2 x q
  ·rw[q]; exact hc
 ·subst e
  cases j with
  | zero=>exact⟨c,r,rfl,hl rfl⟩
  | succ j=>exact⟨c0,r.set j c,rfl,h3⟩
theorem baseOk.name {cs:List Nat}{s:Nat}(h:baseOk cs s)(hs:s≤12):nameS (iR cs):=by
 obtain⟨h1,h2,c0,r,e,h3⟩:=h
 exact⟨c0,r,e,h3,h2,by show cs.length≤12; omega⟩
theorem RA (cs:List Nat)(j c:Nat):(cs.map cK).set j (cK c)=(cs.set j c).map cK:=by rw[List.map_set]
theorem FI {α β:Type}{f:α->β} : ∀ {l:List α},(∀ a∈l,∀ b∈l,f a=f b->a=b)->l.Nodup->(l.map f).Nodup
 | [],_,_=>by simp
 | x::l,h,nd=>by
  rw[gH] at nd
  rw[cR,gH]
  refine⟨fun m=>?_,FI (fun a ma b mb=>h a (cD _ ma) b (cD _ mb)) nd.2⟩
  obtain⟨y,my,e⟩:=cA.mp m
  exact nd.1 (h y (cD _ my) x cC e ▸ my)
noncomputable def sgn (j:Nat):Nat:=SIGNS.cps.toList.getD j 0
theorem EB : ∀ j<36,SIGNS.cps.toList[j]?=some (sgn j)/\fT (sgn j)=true/\(j<26->letter (sgn j)=true):=by decide +kernel
theorem Kj : ∀ i<36,∀ j<36,sgn i=sgn j->i=j:=by decide +kernel
theorem Az {i:Int}(h0:0≤i)(h1:i<36):gIx (.str SIGNS) (.int i)=some (cK (sgn i.toNat)):=by
 obtain⟨j,rfl⟩:=kO h0
 obtain⟨e,_,_⟩:=EB j (by omega)
 show(if SIGNS.length≤sizeLine then(atI SIGNS.cps.toList (j:Int)).bind fun c=>some (bK ⟨#[c]⟩) else none)=_
 rw[if_pos (by decide +kernel),lP e]
 rfl
theorem NT {a b:List Nat}(h:iR a=iR b):a=b:=by
 have h:a.toArray=b.toArray:=by injection h
 simpa using h
theorem Eg {cs:List Nat}{s k:Nat}(h:baseOk cs s)(hs:s≤12):nameS (iR (cs.take (k+1))):=by
 obtain⟨h1,h2,c0,r,e,h3⟩:=h
 refine⟨c0,r.take k,by subst e; rfl,h3,fun x m=>h2 x (xX m),?_⟩
 show(cs.take (k+1)).length≤12
 rw[oJ]; omega
theorem Cv (zs:List aB):fL 1 (.list (zs.map bK))=true:=by
 simp[fL,eQ]
theorem NV (c:Int){n:Nat}(hn:n≤12) : ∃ zs:List aB,pH [.int c,.int n]=some (.list (zs.map bK))/\zs.length=n/\(∀ z∈zs,nameS z)/\zs.Nodup:=by
 suffices h : ∃ d,pH [.int c,.int n]=some d /\ ∃ zs:List aB,d = .list (zs.map bK)/\zs.length=n/\(∀ z∈zs,nameS z)/\zs.Nodup by
  obtain⟨_,e,zs,rfl,h⟩:=h
  exact⟨zs,e,h⟩
 refine vG rfl ?_
 refine dX (ρ':=[s0 (.int c),s0 (.int n),s0 (.str SIGNS),none,none,none,none,none]) (by simp[bW,eV,eC,SIGNS]) ?_
 refine dX (ρ':=[s0 (.int c),s0 (.int n),s0 (.str SIGNS),s0 (.int (1+bN c 1%12)),none,none,none,none]) (by simp[bW,eV,vS,eOp,aF,eC,aO,aG,aK,cO,cG,g2C,fZ]) ?_
 have b1:=fE (bN c 1) (show(0:Int)<12 by decide)
 refine mQ (fun ρ'=>∃ s:Nat,1≤s/\s≤12/\(bN c 2%3=0->s=12)/\ρ'=[s0 (.int c),s0 (.int n),s0 (.str SIGNS),s0 (.int s),none,none,none,none]) ?_ ?_
 ·by_cases h3:bN c 2%3=0
  ·refine AN (ρ':=[s0 (.int c),s0 (.int n),s0 (.str SIGNS),s0 (.int 12),none,none,none,none]) (by simp[bW,sIf,dQ,eV,bV,vS,eOp,aF,eC,aO,aG,aK,bOf,asB,cG,g2C,gEq,dJ,noDict,jN,cL,fZ,h3]) ⟨_,rfl,12,by omega,by omega,fun _=>rfl,rfl⟩
  ·refine AN (ρ':=[s0 (.int c),s0 (.int n),s0 (.str SIGNS),s0 (.int (1+bN c 1%12)),none,none,none,none]) (by simp[bW,sIf,dQ,eV,bV,vS,eOp,aF,eC,aO,aG,aK,bOf,asB,cG,g2C,gEq,dJ,noDict,jN,cL,fZ,h3]) ⟨_,rfl,(1+bN c 1%12).toNat,by omega,by omega,fun h=>absurd h h3,?_⟩
   have e:((1+bN c 1%12).toNat:Int)=1+bN c 1%12:=by omega
   rw[e]
 rintro _ ⟨s,hs1,hs12,hsp,rfl⟩
 refine mQ (fun ρ'=>∃ cs:List Nat,cs.length=s/\(∀ x∈cs,fT x=true)/\ρ'=[s0 (.int c),s0 (.int n),s0 (.str SIGNS),s0 (.int s),some (1,.list (cs.map cK)),none,none,none]) ?_ ?_
 ·obtain⟨cs,e,hl,ho⟩:=Mb (cap:=[none,some 2,some 0]) (fi:=iR1 (aG (aF 3) aK)) (T:=gB 0) (t:=fY) (f:=(eOp gIx (aF 1) (eOp cG (aO dE (aG (aF 2) (aG (eOp cO (eC (.int 30)) (aF 0)) aK))) (eC (.int 36)))))
    (ρ:=vS [s0 (.int c),s0 (.int n),s0 (.str SIGNS),s0 (.int s),none,none,none,none]) (n:=s) cK (fun x=>fT x=true) (vW rfl (by omega)) (by omega) (fun k hk=>by
    have b:=fE (bN c (30+k)) (show(0:Int)<36 by decide)
    obtain⟨x,e,h1,_⟩:=OT b.1 b.2
    have e2:=fZ c (30+(k:Int)) (by omega) (by omega)
    refine⟨[some (.int k),some (.str SIGNS),some (.int c)],x,rfl,rfl,?_,h1⟩
    simp only[eOp,aF,eC,aO,aG,aK,cO,cG,g2C,bR,xZ,yA,BN,e2,if_pos (show(0:Int)<36 by decide),e])
  exact LN e (by simp) ⟨_,rfl,cs,hl,ho,rfl⟩
 rintro _ ⟨cs0,hl,ho,rfl⟩
 refine mQ (fun ρ'=>∃ cs:List Nat,baseOk cs s/\ρ'=[s0 (.int c),s0 (.int n),s0 (.str SIGNS),s0 (.int s),some (1,.list (cs.map cK)),none,none,none]) ?_ ?_
 ·have b:=fE (bN c 50) (show(0:Int)<26 by decide)
  obtain⟨x,e,h1,h2⟩:=OT b.1 (by omega)
  have hb:baseOk (cs0.set 0 x) s:=by
   refine⟨by simpa using hl,fun y m=>?_,?_⟩
   ·rcases Qz m with q | q
    ·exact ho y q
    ·rw[q]; exact h1
   ·cases cs0 with
    | nil=>simp at hl; omega
    | cons a r=>exact⟨x,r,rfl,h2 b.2⟩
  have hix:ixN (cs0.map cK).length 0=some 0:=by
   unfold ixN
   rw[if_pos (by decide),if_pos (by rw[cJ]; omega)]
   rfl
  refine AN (ρ':=[s0 (.int c),s0 (.int n),s0 (.str SIGNS),s0 (.int s),some (1,.list ((cs0.set 0 x).map cK)),none,none,none]) ?_ ⟨_,rfl,_,hb,rfl⟩
  simp only[vI,eV,vS,eOp,aF,eC,aO,aG,aK,cG,g2C,getL,cR,xZ,yA,BN,bR,fZ c 50 (by omega) (by omega),if_pos (show(0:Int)<26 by decide),e,hix]
  rw[← RA]
  rfl
 rintro _ ⟨cs,hb,rfl⟩
 by_cases h3:bN c 2%3=0
 ·have hs:=hsp h3
  subst hs
  have e:=DX (cap:=[none,some 4]) (fi:=iR1 (aG (aF 1) aK)) (T:=gB 0) (t:=fY) (f:=(eOp sH (eC (.str "")) (pM (aF 1) oN (oS (eOp cO (aF 0) (eC (.int 1)))))))
    (ρ:=vA [s0 (.int c),s0 (.int n),s0 (.str SIGNS),s0 (.int (12:Nat)),some (1,.list (cs.map cK)),none,none,none]) (ds:=(dG n).map fun(k:Nat)=>aZ k) (fun d=>match d with | .int k=>.str (iR (cs.take (k.toNat+1))) | d=>d) (vW rfl (by omega)) (by simp; omega) (fun d md=>by
    obtain⟨k,mk,rfl⟩:=cA.mp md
    have hk:=pR.mp mk
    have e1:=ZD (ds:=cs.map cK) (k:=k+1) (by have:=hb.1; simp; omega)
    have e2:=MC (cs:=cs.take (k+1)) (by have:=hb.1; simp; omega)
    refine⟨[some (.int k),some (.list (cs.map cK))],rfl,rfl,?_⟩
    have e3:((k:Int)+1)=((k+1:Nat):Int):=by omega
    simp only[eOp,aF,eC,pM,oN,oS,cO,bR,xZ,yA,BN,e3,e1]
    rw[← JD,e2]
    rfl)
  rw[eX] at e
  have e':((dG n).map ((fun d=>match d with | .int k=>bK (iR (cs.take (k.toNat+1))) | d=>d)∘fun(k:Nat)=>aZ k))=(((dG n).map fun k=>iR (cs.take (k+1))).map bK):=by
   rw[eX]
   rfl
  rw[e'] at e
  refine kX (iV ?_ (Jt e (Cv _) ⟨_,rfl,_,rfl,_,rfl,by simp,fun z m=>?_,?_⟩))
  ·simp[bV,vS,eOp,aF,eC,aO,aG,aK,bOf,asB,cG,g2C,gEq,dJ,noDict,jN,cL,fZ,h3]
  ·obtain⟨k,_,rfl⟩:=cA.mp m
   exact Eg hb (by omega)
  ·refine FI (fun a ma b mb q=>?_) List.nodup_range
   have ha:=pR.mp ma
   have hb':=pR.mp mb
   have:=congrArg uP (NT q)
   rw[oJ,oJ,hb.1] at this
   omega
 ·refine dX (ρ':=[s0 (.int c),s0 (.int n),s0 (.str SIGNS),s0 (.int s),some (1,.list (cs.map cK)),none,none,none]) (gD (by simp[bV,vS,eOp,aF,eC,aO,aG,aK,bOf,asB,cG,g2C,gEq,dJ,noDict,jN,cL,fZ,h3])) ?_
  have hs0:(0:Int)<s:=by omega
  have ba:=fE (bN c 3) hs0
  obtain⟨a,ha⟩:=kO ba.1
  have ha':a<s:=by omega
  refine dX (ρ':=[s0 (.int c),s0 (.int n),s0 (.str SIGNS),s0 (.int s),some (1,.list (cs.map cK)),s0 (.int a),none,none]) (by
   have:0<s:=by omega
   simp[bW,eV,vS,eOp,aF,eC,aO,aG,aK,cG,g2C,fZ,this,ha]) ?_
  refine dX (ρ':=[s0 (.int c),s0 (.int n),s0 (.str SIGNS),s0 (.int s),some (1,.list (cs.map cK)),s0 (.int a),some (1,.list []),none]) rfl ?_
  obtain⟨w,hw⟩ : ∃ w:Nat,w=if a=0 then 26 else 36:=⟨_,rfl⟩
  have hw1:26≤w/\w≤36:=by subst hw; split <;> omega
  let sg:Nat->Nat:=fun k=>sgn ((bN c 4+k)%(w:Int)).toNat
  have sgb : ∀ k:Nat,((bN c 4+k)%(w:Int)).toNat<w:=fun k=>by
   have:=fE (bN c 4+k) (show(0:Int)<w by omega)
   omega
  have sg1 : ∀ k,fT (sg k)=true:=fun k=>(EB _ (by have:=sgb k; omega)).2.1
  have sg2 : ∀ k,a=0->letter (sg k)=true:=fun k h0=>(EB _ (by have:=sgb k; omega)).2.2 (by have:=sgb k; rw[if_pos h0] at hw; omega)
  refine mQ (fun ρ'=>∃ (ds:List Nat) (x:L2.Slot),ρ'=[s0 (.int c),s0 (.int n),s0 (.str SIGNS),s0 (.int s),some (1,.list (ds.map cK)),s0 (.int a),some (1,.list (((dG n).map fun k=>iR (cs.set a (sg k))).map bK)),x]) ?_ ?_
  ·refine Ls (n:=n) (fun i ρ'=>∃ (ds:List Nat) (x:L2.Slot),baseOk ds s/\(∀ y,ds.set a y=cs.set a y)/\ρ'=[s0 (.int c),s0 (.int n),s0 (.str SIGNS),s0 (.int s),some (1,.list (ds.map cK)),s0 (.int a),some (1,.list (((dG i).map fun k=>iR (cs.set a (sg k))).map bK)),x]) ?_ ⟨cs,none,hb,fun _=>rfl,rfl⟩ ?_ ?_
   ·exact avS (vW rfl (by omega))
   ·rintro i _ hi ⟨ds,x,hd,hset,rfl⟩
    generalize hZ:((dG i).map fun k=>iR (cs.set a (sg k)))=zs
    have hzl:zs.length=i:=by rw[← hZ]; simp
    refine⟨[s0 (.int c),s0 (.int n),s0 (.str SIGNS),s0 (.int s),some (1,.list (ds.map cK)),s0 (.int a),some (1,.list (zs.map bK)),s0 (.int i)],rfl,?_⟩
    have hcl:=hd.1
    have hix:ixN (ds.map cK).length (a:Int)=some a:=by
     unfold ixN
     rw[if_pos (by omega),if_pos (by rw[cJ]; omega)]
     simp
    have ey:eV 0 .s (eOp gIx (aF 2) (eOp cG (eOp cO (aO dE (aG (aF 0) (aG (eC (.int 4)) aK))) (aF 7)) (eOp cO (eC (.int 26)) (eOp fS (eC (.int 10)) (aO rW (aG (eOp gGt (aF 5) (eC (.int 0))) aK)))))) [s0 (.int c),s0 (.int n),s0 (.str SIGNS),s0 (.int s),some (1,.list (ds.map cK)),s0 (.int a),some (1,.list (zs.map bK)),s0 (.int i)]=some (cK (sg i)):=by
     have hb1:=fE (bN c 4+i) (show(0:Int)<w by omega)
     have e:=Az hb1.1 (by omega)
     show _=some (cK (sgn ((bN c 4+i)%(w:Int)).toNat))
     by_cases h0:a=0
     ·rw[if_pos h0] at hw
      subst hw
      have e:gIx (.str SIGNS) (.int ((bN c 4+i)%26))=some (cK (sgn ((bN c 4+i)%26).toNat)):=e
      simp[eV,vS,eOp,aF,eC,aO,aG,aK,cO,fS,cG,g2I,g2C,gGt,rW,fZ,h0,e]
     ·rw[if_neg h0] at hw
      subst hw
      have e:gIx (.str SIGNS) (.int ((bN c 4+i)%36))=some (cK (sgn ((bN c 4+i)%36).toNat)):=e
      have h1:0<a:=by omega
      simp[eV,vS,eOp,aF,eC,aO,aG,aK,cO,fS,cG,g2I,g2C,gGt,rW,fZ,h1,e]
    refine dX (ρ':=[s0 (.int c),s0 (.int n),s0 (.str SIGNS),s0 (.int s),some (1,.list ((cs.set a (sg i)).map cK)),s0 (.int a),some (1,.list (zs.map bK)),s0 (.int i)]) ?_ ?_
    ·unfold vI
     rw[ey,← hset,← RA]
     simp only[eV,vS,aF,getL,cR,xZ,yA,BN,bR,hix]
     rfl
    ·have hb':=hb.set (j:=a) (sg1 i) (sg2 i)
     have ej:=MC (cs:=cs.set a (sg i)) (by have:=hb.1; simp; omega)
     refine AN (ρ':=[s0 (.int c),s0 (.int n),s0 (.str SIGNS),s0 (.int s),some (1,.list ((cs.set a (sg i)).map cK)),s0 (.int a),some (1,.list ((zs++[iR (cs.set a (sg i))]).map bK)),s0 (.int i)]) ?_ ⟨_,.inl rfl,cs.set a (sg i),s0 (.int i),hb',fun y=>by rw[List.set_set],?_⟩
     ·have hz:(zs.map bK).length<sizeLine:=yW (by simp; omega)
      have ee:eOp sH (eC (.str "")) (aF 4) (vA [s0 (.int c),s0 (.int n),s0 (.str SIGNS),s0 (.int s),some (1,.list ((cs.set a (sg i)).map cK)),s0 (.int a),some (1,.list (zs.map bK)),s0 (.int i)])=some (.str (iR (cs.set a (sg i)))):=by
       simp only[eOp,eC,aF,vA,cR,rK,xZ,yA,BN,bR,ej]
      unfold rX eV
      simp only[ee,bR,fL,eQ,if_true,getL,xZ,yA,if_pos hz]
      simp
     ·have e:((dG (i+1)).map fun k=>iR (cs.set a (sg k)))=zs++[iR (cs.set a (sg i))]:=by
       rw[List.range_succ,BQ,hZ]
       rfl
      rw[e]
   ·rintro _ ⟨ds,x,_,_,rfl⟩
    exact⟨_,rfl,ds,x,rfl⟩
  rintro _ ⟨ds,x,rfl⟩
  refine⟨_,rfl,_,rfl,_,rfl,by simp,fun z m=>?_,?_⟩
  ·obtain⟨k,_,rfl⟩:=cA.mp m
   exact(hb.set (sg1 k) (sg2 k)).name hs12
  ·refine FI (fun k mk k' mk' q=>?_) List.nodup_range
   have hk:=pR.mp mk
   have hk':=pR.mp mk'
   have e:=congrArg (fun l=>l[a]?) (NT q)
   have hcl:=hb.1
   simp only[lJ (show a<cs.length by omega)] at e
   have e:=Kj _ (by have:=sgb k; omega) _ (by have:=sgb k'; omega) (eU e)
   have b1:=fE (bN c 4+k) (show(0:Int)<w by omega)
   have b2:=fE (bN c 4+k') (show(0:Int)<w by omega)
   have e:(bN c 4+k)%(w:Int)=(bN c 4+k')%(w:Int):=by omega
   by_cases h0:a=0
   ·rw[if_pos h0] at hw
    subst hw
    omega
   ·rw[if_neg h0] at hw
    subst hw
    omega
noncomputable abbrev AB:aB:="abcdefghijklmnopqrstuvwxyz"
noncomputable abbrev ABF:aB:="abcdefghijklmnopqrstuvwxyz0123456789"
theorem Qh : ∀ c<128,fT c=true->(false != !(lY ABF ⟨#[c]⟩ 0 ABF.length 1).isEmpty)=true:=by decide +kernel
theorem Fj : ∀ c<128,letter c=true->(false != !(lY AB ⟨#[c]⟩ 0 AB.length 1).isEmpty)=true:=by decide +kernel
theorem Jo {c:Nat}(h:fT c=true):gIn false (cK c) (.str ABF)=some (.bool true):=by
 show some (eM (false != !(lY ABF ⟨#[c]⟩ 0 ABF.length 1).isEmpty))=_
 rw[Qh c (zT h) h]
theorem Ct {c:Nat}(h:letter c=true):gIn false (cK c) (.str AB)=some (.bool true):=by
 show some (eM (false != !(lY AB ⟨#[c]⟩ 0 AB.length 1).isEmpty))=_
 rw[Fj c (zT (Di h)) h]
theorem Bj:(AB++("0123456789" : aB))=ABF:=by decide +kernel
theorem Px:AL 10 "0123456789":=⟨by decide +kernel,by decide +kernel⟩
theorem LI:cO (.str AB) (.str "0123456789")=some (.str ABF):=by
 rw[Qr Mj Px (by omega),Bj]
theorem PF : ∀ n:Nat,mE (lI n (.bool true))=some (lI n true)
 | 0=>rfl
 | n+1=>by
  show((mE (lI n (.bool true))).bind fun bs=>some (true::bs))=_
  rw[PF n]
  rfl
theorem zW {z:aB}(h:nameS z):dR [.str z]=some (.bool true):=by
 obtain⟨c,r,ez,hc,hs,hl⟩:=h
 have : ∃ d,dR [.str z]=some d/\d = .bool true:=by
  refine vG rfl ?_
  let R:aW:=[s0 (.str z)]
  have hz:z.length=z.cps.toList.length:=by simp[BI]
  have h1:1≤z.length:=by rw[hz,ez]; simp
  have h12:z.length≤12:=by rw[hz]; exact hl
  have el:aO dH (aG (aF 0) aK) (vS R)=some (.int z.length):=bL (ds:=[.str z]) rfl (by simp[dH]; exact iM (by omega))
  have ec:iL gLe gLe (eC (.int 1)) (aO dH (aG (aF 0) aK)) (eC (.int 12)) (vS R)=some (.bool true):=by
   unfold iL
   rw[el]
   show(if decide ((1:Int)≤(z.length:Int))=true then some (eM (decide ((z.length:Int)≤12))) else some (eM false))=_
   rw[decide_eq_true (by omega),if_pos rfl,decide_eq_true (by omega)]
  have g1:eUn (jH "str") (aF 0) (vS R)=some (.bool true):=rfl
  refine dX (ρ':=R) (gD ?_) ?_
  ·show bOr (fR (bOf _)) (fR (bOf _)) (vS R)=_
   simp only[bOr,fR,bOf,g1,ec,bR,asB]
   rfl
  refine fU (d:=.bool (true&&true)) (qQ ?_ fun _=>?_) ⟨_,rfl,rfl⟩
  ·have ix:gIx (.str z) (.int 0)=some (cK c):=by
    show(if z.length≤sizeLine then(atI z.cps.toList 0).bind fun c=>some (bK ⟨#[c]⟩) else none)=_
    have e0:atI z.cps.toList 0=some c:=lP (j:=0) (by rw[ez]; rfl)
    rw[if_pos (iM (by omega)),e0]
    rfl
   exact bM (a:=cK c) (b:=.str AB) (bM (a:=.str z) (b:=.int 0) rfl rfl ix) rfl (Ct hc)
  ·have lc:=DX (cap:=[none]) (fi:=iIt (aF 0)) (T:=gB 0) (t:=fY) (f:=eOp (gIn false) (aF 0) (eOp cO (eC (.str "abcdefghijklmnopqrstuvwxyz")) (eC (.str "0123456789")))) (ρ:=vS R) (ds:=z.cps.toList.map cK) (fun _=>.bool true) rfl (by simp; simp at hl; omega) (fun d md=>by
    obtain⟨x,mx,rfl⟩:=cA.mp md
    exact⟨[some (cK x)],rfl,rfl,bM (a:=cK x) (b:=.str ABF) rfl (bM (a:=.str AB) (b:=.str "0123456789") rfl rfl LI) (Jo (hs x mx))⟩)
   refine bL (cH lc rfl) ?_
   rw[List.map_const']
   show((mE (lI _ (.bool true))).bind fun bs=>some (eM (bs.all id)))=_
   rw[PF,bR]
   simp
 obtain⟨d,e,rfl⟩:=this
 exact e
theorem name_kind {d:aA}(h : ∀ z,d ≠ .str z)(h2 : ∀ z,d ≠ .dict z):dR [d]=some (.bool false):=by
 have : ∃ r,dR [d]=some r/\r = .bool false:=by
  refine vG rfl ?_
  refine kX (iV ?_ (fU (d:=.bool false) rfl ⟨_,rfl,_,rfl,rfl⟩))
  cases d with
  | str z=>exact absurd rfl (h z)
  | dict z=>exact absurd rfl (h2 z)
  | _=>rfl
 obtain⟨r,e,rfl⟩:=this
 exact e
theorem Ed:dR [.str ""]=some (.bool false)/\dR [.str "A"]=some (.bool false)/\dR [.str "1a"]=some (.bool false)/\dR [.str "a b"]=some (.bool false)/\dR [.str "a-"]=some (.bool false)/\dR [.str "abcdefghijklm"]=some (.bool false)/\dR [.str " a"]=some (.bool false)/\dR [.str "a "]=some (.bool false)/\dR [.str "a\n"]=some (.bool false):=by
 refine⟨?_,?_,?_,?_,?_,?_,?_,?_,?_⟩
 all_goals kernel_rfl
noncomputable def asI:aA->Int
 | .int i=>i
 | _=>0
theorem MD (r:List Int):(r.map aZ).map asI=r:=by
 rw[eX]
 have:(asI∘aZ)=id:=rfl
 rw[this,xY]
theorem Ow (r:List Int):bX (r.map aZ)=true:=NW fun t m=>by
 obtain⟨i,_,rfl⟩:=cA.mp m
 rfl
theorem Dr (r:List Int):dI (r.map aZ)≤1:=QP fun t m=>by
 obtain⟨i,_,rfl⟩:=cA.mp m
 simp[jN]
noncomputable def srt (R:List (List Int)):List (List Int):=(jX (R.map fun r=>r.map aZ)).map fun k=>k.map asI
theorem Qb (R:List (List Int)):(srt R).Perm R:=by
 have h:=(zX (R.map fun r=>r.map aZ)).map fun k=>k.map asI
 rw[eX] at h
 have e:(R.map ((fun k=>k.map asI)∘fun r=>r.map aZ))=R:=by
  have:((fun k=>k.map asI)∘fun r=>r.map aZ)=(id:List Int->List Int):=by funext r; exact MD r
  rw[this,xY]
 rw[e] at h
 exact h
theorem Kf (R:List (List Int)):(srt R).length=R.length:=(Qb R).length_eq
theorem Dl (R:List (List Int)):kQ (R.map dU)=some (R.map fun r=>r.map aZ):=by
 have:=MS (kss:=R.map fun r=>r.map aZ) fun k m=>by
  obtain⟨r,_,rfl⟩:=cA.mp m
  have:=Dr r
  exact⟨Ow r,by omega⟩
 rw[eX] at this
 exact this
theorem QN : ∀ (a b:List Int),a.length=b.length->hE (a.map aZ) (b.map aZ)=true
 | [],[],_=>rfl
 | x::a,y::b,h=>QN a b (by simpa using h)
 | [],_::_,h=>by simp at h
 | _::_,[],h=>by simp at h
theorem Ka {R:List (List Int)}{n:Nat}(hn:1≤n)(hw : ∀ r∈R,r.length=n)(hl:R.length<64):Bo [lN R]=some (lN (srt R)):=by
 show((kQ (R.map dU)).bind fun kss=>if okT kss=true/\kss.length<64 then some (IU ((jX kss).map gG)) else none)=_
 rw[Dl,bR]
 have ok:okT (R.map fun r=>r.map aZ)=true:=by
  unfold okT
  rw[WO]
  refine .inr (iQ.mpr ⟨fQ.mpr fun k mk=>fQ.mpr fun k' mk'=>?_,fQ.mpr fun k mk=>?_⟩)
  ·obtain⟨a,ma,rfl⟩:=cA.mp mk
   obtain⟨b,mb,rfl⟩:=cA.mp mk'
   exact QN a b ((hw a ma).trans (hw b mb).symm)
  ·obtain⟨a,ma,rfl⟩:=cA.mp mk
   have:=hw a ma
   cases a with
   | nil=>simp at this; omega
   | cons x r=>rfl
 rw[if_pos ⟨ok,by rw[cJ]; exact hl⟩]
 unfold lN srt
 rw[eX]
 congr 2
 refine pT fun k mk=>?_
 obtain⟨a,_,rfl⟩:=cA.mp ((zX _).mem_iff.mp mk)
 show _=gG (((a.map aZ).map asI).map aZ)
 rw[MD]
theorem jW (c:Int)(n:Nat)(h:0<n):cG (.int c) (.int n)=some (.int (c%n)):=by
 show(if 0<(n:Int) then some (aZ (c%(n:Int))) else none)=_
 rw[if_pos (by omega)]
theorem KQ {a b:Int}(h:a.natAbs<2 ^ 200)(h2:b.natAbs<2 ^ 200):fS (.int a) (.int b)=some (.int (a*b)):=by
 show(if (a.natAbs<2 ^ 64 \/ b.natAbs<2 ^ 64) \/ (a.natAbs<2 ^ 1000/\b.natAbs<2 ^ 1000) then some (aZ (a*b)) else none)=_
 have hp:(2:Nat) ^ 200≤2 ^ 1000:=Nat.pow_le_pow_right (by decide) (by decide)
 rw[if_pos (.inr ⟨gN h hp,gN h2 hp⟩)]
theorem wH {k:Nat}(h:k≤100):mG (.int 10) (.int k)=some (.int (10 ^ k)):=by
 show(if 0≤(k:Int)/\(k:Int)≤1000000/\(10:Int).natAbs<2 ^ 64 then some (aZ (10 ^ (k:Int).toNat)) else none)=_
 rw[if_pos ⟨by omega,by omega,by decide⟩]
 rfl
theorem Lu {a b:BF}{ρ:List (Option aA)}{x y:Bool}(h:a ρ=some x)(h2:x=true->b ρ=some y):rZ a b ρ=some (x&&y):=by
 unfold rZ
 rw[h]
 cases x with
 | true=>exact h2 rfl
 | false=>rfl
theorem hU {a b:BF}{ρ:List (Option aA)}{x y:Bool}(h:a ρ=some x)(h2:x=false->b ρ=some y):bOr a b ρ=some (x||y):=by
 unfold bOr
 rw[h]
 cases x with
 | true=>rfl
 | false=>exact h2 rfl
theorem kC {f:EF}{ρ:List (Option aA)}{x:Bool}(h:f ρ=some (.bool x)):fR (bOf f) ρ=some (!x):=by
 unfold fR
 rw[eR h]
 rfl
theorem CP {xs ys:List aA}(h:xs.length+ys.length≤1000):qE (.tuple xs) (.tuple ys)=some (.tuple (xs++ys)):=by
 show(if xs.length+ys.length≤sizeLine then some (gG (xs++ys)) else none)=_
 rw[if_pos (iM (by omega))]
theorem vT {ds:List aA}{f:EF}{lo hi:OF}{ρ:List (Option aA)}{l u:Option Int}(e1:f ρ=some (.tuple ds))(e2:lo ρ=some l)(e3:hi ρ=some u):jG f lo hi ρ=some (.tuple (cutD ds l u)):=by
 unfold jG
 rw[e1,bR,e2,bR,e3,bR]
theorem fX {np n:Nat}{body:SF}{ds:List aA}{d:aA}(hl:ds.length=np)(h:Goes body (ds.map (fun d=>some (0,d))++lI (n - np) none) fun o=>o = .rt d):fnD np n body ds=some d:=by
 obtain⟨o,e,rfl⟩:=h
 exact KG hl e
theorem OA {α:Type}(f:α->Bool) : ∀ xs:List α,mE (xs.map fun x=>.bool (f x))=some (xs.map f)
 | []=>rfl
 | x::xs=>by
  show((mE (xs.map fun x=>.bool (f x))).bind fun bs=>some (f x::bs))=_
  rw[OA f xs]
  rfl
theorem DH {α:Type}(f:α->Bool)(xs:List α):qY [.list (xs.map fun x=>.bool (f x))]=some (.bool (xs.all f)):=by
 show((mE (xs.map fun x=>.bool (f x))).bind fun bs=>some (eM (bs.all id)))=_
 rw[OA,bR,List.all_map]
 rfl
theorem OZ : ∀ zs:List aB,rA (zs.map bK)=some (zs.map iN)
 | []=>rfl
 | z::zs=>by
  show((cV (.str z)).bind fun k=>(rA (zs.map bK)).bind fun ks=>some (k::ks))=_
  rw[OZ zs]
  rfl
noncomputable def dW (t:aB×Nat):aA:=.tuple [.str t.1,.int t.2]
def CN (t:aB×Nat):Prop:=nameS t.1/\1≤t.2/\t.2≤6
noncomputable def tlE (d:aA):Option aA:=iJ (aO qU (aG (aF 0) aK)) (iJ (aO dR (aG (eOp gIx (aF 0) (eC (.int 0))) aK)) (aO nP (aG (eOp gIx (aF 0) (eC (.int 1))) aK))) [some d]
theorem Bch {ds:List aA}:bV .s (bOr (fR (bOf (eUn (jH "list") (aF 0)))) (bOf (eOp gGt (aO dH (aG (aF 0) aK)) (eC (.int 12))))) [s0 (.list ds)]=some (decide (12<ds.length)):=by
 have e:eOp gGt (aO dH (aG (aF 0) aK)) (eC (.int 12)) (vS [s0 (.list ds)])=some (.bool (decide (12<ds.length))):=by
  refine bM (a:=.int ds.length) (b:=.int 12) (bL (ds:=[.list ds]) rfl rfl) rfl ?_
  show some (eM (decide ((ds.length:Int) > 12)))=_
  congr 2
  rw[decide_eq_decide]
  omega
 exact hU (x:=false) (kC (x:=true) rfl) (fun _=>eR e)
theorem Al {ds:List aA}(hl:ds.length≤12)(o:aA->Bool)(ho : ∀ d∈ds,tlE d=some (.bool (o d))):bV .s (fR (bOf (aO qY (aG (eLC [none] (iIt (aF 0)) (gB 0) fY (iJ (aO qU (aG (aF 0) aK)) (iJ (aO dR (aG (eOp gIx (aF 0) (eC (.int 0))) aK)) (aO nP (aG (eOp gIx (aF 0) (eC (.int 1))) aK))))) aK)))) [s0 (.list ds)]=some (!(ds.all o)):=by
 have lc:=qN (cap:=[none]) (fi:=iIt (aF 0)) (T:=gB 0) (t:=fY) (f:=iJ (aO qU (aG (aF 0) aK)) (iJ (aO dR (aG (eOp gIx (aF 0) (eC (.int 0))) aK)) (aO nP (aG (eOp gIx (aF 0) (eC (.int 1))) aK)))) (ρ:=vS [s0 (.list ds)]) (xs:=ds) (q:=id) (fun _=>true) (fun d=>.bool (o d)) (by rw[xY]; exact tD rfl) (by omega) (fun d md=>⟨[some d],rfl,rfl,fun _=>ho d md⟩)
 rw[uR.mpr (by simp)] at lc
 exact kC (bL (cH lc rfl) (DH o ds))
theorem Ff (i:Int):nP [.int i]=some (.bool (decide (1≤i/\i≤6))):=by
 show fnD 1 1 RU [.int i]=_
 refine fX rfl (fU (d:=.bool (decide (1≤i/\i≤6))) ?_ rfl)
 have:iL gLe gLe (eC (.int 1)) (aF 0) (eC (.int 6)) (vS [s0 (.int i)])=some (.bool (decide (1≤i/\i≤6))):=by
  show(if decide (1≤i)=true then some (eM (decide (i≤6))) else some (.bool false))=_
  by_cases h:1≤i
  ·rw[if_pos (by simpa using h)]
   simp[h]
  ·rw[if_neg (by simpa using h)]
   simp[h]
 exact qQ (x:=true) (bL (ds:=[.int i]) rfl rfl) fun _=>this
theorem Kz {a b:aA}{x y:Bool}(h1:dR [a]=some (.bool x))(h2:x=true->nP [b]=some (.bool y)):tlE (.tuple [a,b])=some (.bool (x&&y)):=
 qQ (x:=true) (bL (ds:=[.tuple [a,b]]) rfl rfl) fun _=>qQ (bL (ds:=[a]) rfl h1) fun z=>bL (ds:=[b]) rfl (h2 z)
theorem Mz {t:aB×Nat}(h:CN t):tlE (dW t)=some (.bool true):=by
 obtain⟨h1,h2,h3⟩:=h
 refine Kz (x:=true) (y:=true) (zW h1) fun _=>(Ff t.2).trans ?_
 rw[decide_eq_true (by omega)]
theorem NA : ∀ (ks acc:List aN),(ks.foldl gP acc).length≤acc.length+ks.length
 | [],acc=>by simp
 | k::ks,acc=>by
  rw[BS]
  have h:=NA ks (gP acc k)
  have h2:(gP acc k).length≤acc.length+1:=by
   unfold gP
   split <;> simp
  simp only[fG]
  omega
theorem UF : ∀ (ks acc:List aN),(ks.foldl gP acc).length=acc.length+ks.length->ks.Nodup /\ ∀ k∈ks,k∉acc
 | [],acc,_=>⟨.nil,fun k m=>by simp at m⟩
 | k::ks,acc,h=>by
  rw[BS] at h
  have h1:=NA ks (gP acc k)
  simp only[fG] at h
  by_cases c:k∈acc
  ·have:gP acc k=acc:=if_pos c
   rw[this] at h1
   rw[this] at h
   omega
  ·have e:gP acc k=acc++[k]:=if_neg c
   rw[e] at h
   obtain⟨h2,h3⟩:=UF ks (acc++[k]) (by simp; omega)
   refine⟨gH.mpr ⟨fun m=>h3 k m (by simp),h2⟩,fun x m=>?_⟩
   rcases cQ.mp m with rfl | m
   ·exact c
   ·exact fun z=>h3 x m (by simp[z])
theorem Ox (ks:List aN):(fD ks).length=ks.length↔ks.Nodup:=by
 have hm : ∀ x,x∈fD ks↔x∈ks:=fun x=>by unfold fD; rw[De]; simp
 have nd:(fD ks).Nodup:=Nx (by simp)
 exact⟨fun h=>(UF ks [] (by rw[List.length_nil,Nat.zero_add]; exact h)).1,fun h=>Dp nd h hm⟩
theorem Oe {ts:List (aB×Nat)}(hl:ts.length≤12)(ht : ∀ t∈ts,CN t) : ∃ b:Bool,pF [.list (ts.map dW)]=some (.bool b)/\(b=true↔(ts.map (·.1)).Nodup):=by
 refine⟨decide ((fD ((ts.map (·.1)).map iN)).length=ts.length),?_,?_⟩
 ·refine fX rfl (dX (gD (Bch.trans (by rw[decide_eq_false (by rw[cJ]; omega)]))) ?_)
  refine dX (gD ((Al (by rw[cJ]; omega) (fun _=>true) fun d m=>?_).trans ?_)) ?_
  ·obtain⟨t,mt,rfl⟩:=cA.mp m
   exact Mz (ht t mt)
  ·rw[show(ts.map dW).all (fun _=>true)=true by simp]
   rfl
  ·have lc:=qN (cap:=[none]) (fi:=iIt (aF 0)) (T:=gB 0) (t:=fY) (f:=eOp gIx (aF 0) (eC (.int 0))) (ρ:=vS [s0 (.list (ts.map dW))]) (xs:=ts) (q:=dW) (fun _=>true) (fun t=>.str t.1) (tD rfl) (by omega) (fun t mt=>⟨[some (dW t)],rfl,rfl,fun _=>rfl⟩)
   rw[uR.mpr (by simp)] at lc
   refine fU (d:=.bool (decide ((fD ((ts.map (·.1)).map iN)).length=ts.length))) ?_ rfl
   refine bM (a:=.int ((fD ((ts.map (·.1)).map iN)).length)) (b:=.int ts.length) (bL (cH lc rfl) ?_) (bL (ds:=[.list (ts.map dW)]) rfl ?_) ?_
   ·show((rA (ts.map fun t=>bK t.1)).bind fun ks=>if ks.length≤4000 then some (aZ (fD ks).length) else none)=_
    rw[show(ts.map fun t=>bK t.1)=(ts.map (·.1)).map bK by rw[eX]; rfl,OZ,bR,if_pos (by simp; omega)]
   ·show some (aZ (ts.map dW).length)=_
    rw[cJ]
   ·show some (eM (decide (((fD ((ts.map (·.1)).map iN)).length:Int)=ts.length)))=_
    congr 2
    rw[decide_eq_decide]
    omega
 ·rw[decide_eq_true_iff]
  have:=Ox ((ts.map (·.1)).map iN)
  rw[cJ,cJ] at this
  rw[this]
  constructor
  ·intro h
   exact(xV.mp h).imp fun h z=>h (by rw[z])
  ·intro h
   exact xV.mpr (h.imp fun h z=>h (Sum.inr.inj z))
end Aw
namespace L2
open PySem PySem.Spec PyProof.Rows PySem.NumText
noncomputable def tx (l:List Nat):aB:=⟨l.toArray⟩
theorem DN (l:List Nat):(tx l).cps.toList=l:=rfl
theorem sW (l:List Nat):(tx l).length=l.length:=by simp[tx,BI]
theorem TV (x:aB):x=tx x.cps.toList:=by cases x; simp[tx]
theorem TZ (a b:List Nat):tx a++tx b=tx (a++b):=by
 show(⟨a.toArray++b.toArray⟩:aB)=⟨(a++b).toArray⟩
 simp
noncomputable def jn:List (List Nat)->List Nat
 | []=>[]
 | [w]=>w
 | w::v::r=>w++32::jn (v::r)
theorem Bs (w:List Nat)(a b:Nat)(hb:b≤w.length):(((dG (b - a)).map (a + ·)).filterMap ((tx w).cps[·]?))=(w.take b).drop a:=by
 rw[pick_run,DN,List.drop_take]
theorem MX (w:List Nat)(lo hi:Option Int)(a b:Nat)(h:rN lo hi 1 w.length=sliceRange a b 1)(hb:b≤w.length):jV (tx w) lo hi=tx ((w.take b).drop a):=by
 unfold jV
 rw[sW,h,sliceRange_one]
 split
 ·rename_i hl
  have hl:b - a=w.length:=by simpa using hl
  congr 1
  by_cases h0:w.length=0
  ·rw[yB h0]; simp
  ·have:a=0/\b=w.length:=by omega
   rw[this.1,this.2]; simp
 ·rw[Bs w a b hb]
  rfl
theorem Ky {w:List Nat}{a:Nat}(h:a≤w.length):jV (tx w) none (some (a:Int))=tx (w.take a):=by
 rw[MX w _ _ 0 a (by
  unfold rN
  simp only[show(1:Int) > 0 by decide,if_true]
  rw[if_neg (by omega),show max 0 (min (a:Int) (w.length:Int))=a by omega]
  rfl) h]
 simp
def plain (w:List Nat):Prop:=∀ c∈w,c<128
end L2
namespace Aw
open PySem L2
def nd0:aA->Prop
 | .dict k=>k=[]
 | _=>True
noncomputable def UM:aA->Bool
 | .int _=>true
 | _=>false
theorem Oc (d:aA)(hd:nd0 d):pB [d]=some (.bool (UM d)):=by
 cases d with
 | dict k=>cases(show k=[] from hd); rfl
 | _=>rfl
theorem len_str {w:List Nat}(hl:w.length≤100000):dH [.str (tx w)]=some (.int w.length):=by
 show(if (tx w).length≤sizeLine then some (aZ ((tx w).length:Nat)) else none)=_
 rw[sW,if_pos (iM hl)]
theorem Og {f:EF}{ρ:List (Option aA)}{n a b:Int}(h:f ρ=some (.int n)):iL gLe gLe (eC (.int a)) f (eC (.int b)) ρ=some (.bool (decide (a≤n/\n≤b))):=by
 unfold iL
 rw[h]
 show(if decide (a≤n)=true then some (eM (decide (n≤b))) else some (eM false))=_
 by_cases h1:a≤n <;> by_cases h2:n≤b <;> simp[h1,h2]
theorem Kc {f:EF}{ρ:List (Option aA)}{w:List Nat}(h:f ρ=some (.str (tx w)))(hl:w.length≤100000):iIt f ρ=some (w.map cK):=by
 unfold iIt
 rw[h]
 show itemsOf (.str (tx w))=_
 simp[itemsOf,sW,DN,cK,iM hl]
noncomputable def nameB (w:List Nat):Bool:=decide (1≤w.length/\w.length≤12)&&((match w with | c::_=>letter c | []=>false)&&w.all fT)
theorem Mh : ∀ c<128,(false != !(lY ABF ⟨#[c]⟩ 0 ABF.length 1).isEmpty)=fT c:=by decide +kernel
theorem Nd : ∀ c<128,(false != !(lY AB ⟨#[c]⟩ 0 AB.length 1).isEmpty)=letter c:=by decide +kernel
theorem Ao {c:Nat}(h:c<128):gIn false (cK c) (.str ABF)=some (.bool (fT c)):=by
 show some (eM (false != !(lY ABF ⟨#[c]⟩ 0 ABF.length 1).isEmpty))=_
 rw[Mh c h]
theorem ZS {c:Nat}(h:c<128):gIn false (cK c) (.str AB)=some (.bool (letter c)):=by
 show some (eM (false != !(lY AB ⟨#[c]⟩ 0 AB.length 1).isEmpty))=_
 rw[Nd c h]
theorem Ot {w:List Nat}(hp:L2.plain w)(hl:w.length≤90000):dR [.str (tx w)]=some (.bool (nameB w)):=by
 refine fX rfl ?_
 let R:aW:=[s0 (.str (tx w))]
 have ec:iL gLe gLe (eC (.int 1)) (aO dH (aG (aF 0) aK)) (eC (.int 12)) (vS R)=some (.bool (decide (1≤w.length/\w.length≤12))):=by
  rw[Og (n:=w.length) (bL (ds:=[.str (tx w)]) rfl (len_str (by omega)))]
  congr 2
  rw[decide_eq_decide]
  omega
 have t1:=hU (a:=fR (bOf (eUn (jH "str") (aF 0)))) (b:=fR (bOf (iL gLe gLe (eC (.int 1)) (aO dH (aG (aF 0) aK)) (eC (.int 12))))) (ρ:=vS R) (kC (x:=true) rfl) (fun _=>kC ec)
 unfold nameB
 cases hb:decide (1≤w.length/\w.length≤12) with
 | false=>
  rw[hb] at t1
  exact kX (iV t1 (fU (d:=.bool false) rfl ⟨_,rfl,rfl⟩))
 | true=>
  rw[hb] at t1
  refine dX (gD t1) ?_
  cases w with
  | nil=>simp at hb
  | cons c r=>
   have ix:gIx (.str (tx (c::r))) (.int 0)=some (cK c):=by
    show(if (tx (c::r)).length≤sizeLine then(atI (tx (c::r)).cps.toList 0).bind fun c=>some (bK ⟨#[c]⟩) else none)=_
    rw[if_pos (by rw[sW]; exact iM (by omega)),DN]
    have e0:atI (c::r) 0=some c:=lP (xs:=c::r) (j:=0) rfl
    rw[e0]
    rfl
   have lc:=qN (cap:=[none]) (fi:=iIt (aF 0)) (T:=gB 0) (t:=fY) (f:=eOp (gIn false) (aF 0) (eOp cO (eC (.str "abcdefghijklmnopqrstuvwxyz")) (eC (.str "0123456789")))) (ρ:=vS R) (xs:=c::r) (q:=cK) (fun _=>true) (fun c=>.bool (fT c)) (Kc rfl (by omega)) (by omega) (fun x m=>⟨[some (cK x)],rfl,rfl,fun _=>bM (a:=cK x) (b:=.str ABF) rfl (bM (a:=.str AB) (b:=.str "0123456789") rfl rfl LI) (Ao (hp x m))⟩)
   rw[uR.mpr fun _ _=>rfl] at lc
   exact fU (d:=.bool (letter c&&(c::r).all fT)) (qQ (bM (a:=cK c) (b:=.str AB) (bM (a:=.str (tx (c::r))) (b:=.int 0) rfl rfl ix) rfl (ZS (hp c cC))) fun _=>bL (cH lc rfl) (DH fT _)) (by simp)
theorem Ai (c k:Int):bN c k<2147483587:=Int.emod_lt_of_pos _ (by decide)
theorem YU:fS (.int (10 ^ 35)) (.int (10 ^ 35))=some (.int (10 ^ 70)):=(KQ (by decide) (by decide)).trans (congrArg (fun x=>some (aZ x)) (by decide +kernel:(10:Int) ^ 35*10 ^ 35=10 ^ 70))
theorem YL (ρ:List (Option aA)):eOp fS (eOp mG (eC (.int 10)) (eC (.int 35))) (eOp mG (eC (.int 10)) (eC (.int 35))) ρ=some (.int (10 ^ 70)):=
 bM (a:=.int (10 ^ 35)) (b:=.int (10 ^ 35)) (bM (a:=.int 10) (b:=.int 35) rfl rfl (wH (k:=35) (by omega))) (bM (a:=.int 10) (b:=.int 35) rfl rfl (wH (k:=35) (by omega))) YU
noncomputable def jD:aA->Bool
 | .int i=>decide (i.natAbs<10 ^ 70)
 | _=>false
theorem YN:fS (.int (10 ^ 60)) (.int (10 ^ 10))=some (.int (10 ^ 70)):=(KQ (by decide) (by decide)).trans (congrArg (fun x=>some (aZ x)) (by decide +kernel:(10:Int) ^ 60*10 ^ 10=10 ^ 70))
theorem Qe (d:aA)(hd:nd0 d):tR [d]=some (.bool (jD d)):=by
 refine fX rfl ?_
 have hw:aO pB (aG (aF 0) aK) (vS [s0 d])=some (.bool (UM d)):=bL (ds:=[d]) rfl (Oc d hd)
 cases d with
 | int i=>
  refine fU (d:=.bool (true&&jD (.int i))) (qQ hw fun _=>?_) rfl
  refine bM (a:=.int (if i<0 then -i else i)) (b:=.int (10 ^ 70)) (bL (ds:=[.int i]) rfl rfl) (bM (a:=.int (10 ^ 60)) (b:=.int (10 ^ 10)) (bM (a:=.int 10) (b:=.int 60) rfl rfl (wH (k:=60) (by omega))) (bM (a:=.int 10) (b:=.int 10) rfl rfl (wH (k:=10) (by omega))) YN) ?_
  show some (eM (decide ((if i<0 then -i else i)<10 ^ 70)))=some (eM (decide (i.natAbs<10 ^ 70)))
  congr 2
  rw[decide_eq_decide]
  split <;> omega
 | _=>exact fU (d:=.bool (false&&true)) (qQ hw fun h=>nomatch h) rfl
noncomputable def vB:aA->Bool
 | .tuple ds=>decide (1≤ds.length/\ds.length≤6)&&ds.all jD
 | _=>false
theorem TB {d:aA}(h : ∀ ds,d = .tuple ds->ds.length≤1000 /\ ∀ x∈ds,nd0 x)(h0:nd0 d):mS [d]=some (.bool (vB d)):=by
 refine fX rfl ?_
 cases d with
 | tuple ds=>
  obtain⟨hl,hn⟩:=h ds rfl
  let R:aW:=[s0 (.tuple ds)]
  have el:aO dH (aG (aF 0) aK) (vS R)=some (.int ds.length):=bL (ds:=[.tuple ds]) rfl (EH ds)
  have ec:iL gLe gLe (eC (.int 1)) (aO dH (aG (aF 0) aK)) (eC (.int 6)) (vS R)=some (.bool (decide (1≤ds.length/\ds.length≤6))):=by
   unfold iL
   rw[el]
   show(if decide ((1:Int)≤(ds.length:Int))=true then some (eM (decide ((ds.length:Int)≤6))) else some (eM false))=_
   by_cases h1:1≤ds.length
   ·rw[decide_eq_true (by omega),if_pos rfl]
    congr 2
    rw[decide_eq_decide]
    omega
   ·rw[decide_eq_false (by omega),if_neg (by simp),decide_eq_false (by omega)]
  have t1:=hU (a:=fR (bOf (eUn (jH "tuple") (aF 0)))) (b:=fR (bOf (iL gLe gLe (eC (.int 1)) (aO dH (aG (aF 0) aK)) (eC (.int 6))))) (ρ:=vS R) (kC (x:=true) rfl) (fun _=>kC ec)
  show Goes _ _ fun o=>o = .rt (.bool (decide (1≤ds.length/\ds.length≤6)&&ds.all jD))
  cases hb:decide (1≤ds.length/\ds.length≤6) with
  | false=>
   rw[hb] at t1
   exact kX (iV t1 (fU (d:=.bool false) rfl ⟨_,rfl,rfl⟩))
  | true=>
   rw[hb] at t1
   refine dX (gD t1) ?_
   have lc:=DX (cap:=[none]) (fi:=iIt (aF 0)) (T:=gB 0) (t:=fY) (f:=aO tR (aG (aF 0) aK)) (ρ:=vS R) (ds:=ds) (fun d=>.bool (jD d)) (Na rfl) (by omega) (fun d md=>⟨[some d],rfl,rfl,bL (ds:=[d]) rfl (Qe d (hn d md))⟩)
   exact fU (d:=.bool (true&&ds.all jD)) (bL (cH lc rfl) (DH jD ds)) rfl
 | dict k=>cases(show k=[] from h0); exact kX (iV rfl (fU (d:=.bool false) rfl ⟨_,rfl,rfl⟩))
 | _=>exact kX (iV rfl (fU (d:=.bool false) rfl ⟨_,rfl,rfl⟩))
def RwG (r:List Int):Prop:=1≤r.length/\r.length≤6 /\ ∀ v∈r,v.natAbs<10 ^ 70
theorem RwG.b {r:List Int}(h:RwG r):vB (dU r)=true:=by
 show(decide (1≤(r.map aZ).length/\(r.map aZ).length≤6)&&(r.map aZ).all jD)=true
 rw[cJ,decide_eq_true ⟨h.1,h.2.1⟩,Bool.true_and,fQ]
 intro d m
 obtain⟨v,mv,rfl⟩:=cA.mp m
 exact decide_eq_true (h.2.2 v mv)
theorem RwG.row {r:List Int}(h:RwG r):mS [dU r]=some (.bool true):=by
 rw[TB (d:=dU r) (fun ds e=>by cases e; exact⟨by rw[cJ]; have:=h.2.1; omega,fun x m=>by obtain⟨v,_,rfl⟩:=cA.mp m; trivial⟩) fW,h.b]
theorem Mp {ds:List aA}{x:aA}(m:x∈ds)(h:jD x=false):vB (.tuple ds)=false:=by
 show(_&&ds.all jD)=false
 rw[List.all_eq_false.mpr ⟨x,m,by rw[h]; simp⟩,JL]
theorem Qq {ds:List aA}(h : ¬ (1≤ds.length/\ds.length≤6)):vB (.tuple ds)=false:=by
 show(decide (1≤ds.length/\ds.length≤6)&&_)=false
 rw[decide_eq_false h,Bool.false_and]
theorem TC (ds:List aA)(k:Nat):cutD ds (some (k:Int)) none=ds.drop k:=by
 unfold cutD
 rw[HT.An6,HT.Asa]
 by_cases h:k≤ds.length
 ·rw[VT h,IZ (by simp)]
 ·rw[Nat.min_eq_right (by omega),List.drop_of_length_le (by omega),List.drop_of_length_le (by omega)]
  simp
theorem DY (ds:List aA)(k:Nat):cutD ds none (some (k:Int))=ds.take k:=by
 unfold cutD
 rw[HT.An6,HT.Asa]
 by_cases h:k≤ds.length
 ·simp[VT h]
 ·rw[Nat.min_eq_right (by omega)]
  simp
  rw[IZ (by omega)]
theorem pX {f:EF}{ρ:List (Option aA)}{i:Int}(h:f ρ=some (.int i)):oS f ρ=some (some i):=by
 unfold oS
 rw[h]
 rfl
theorem Nr {xs ys:List aA}(h:xs.length+ys.length≤1000):uW (.list xs) (.list ys)=some (.list (xs++ys)):=by
 show(if xs.length+ys.length≤sizeLine then some (IU (xs++ys)) else none)=_
 rw[if_pos (iM (by omega))]
noncomputable def kdS (p:aB×aA):aA×aA:=(.str p.1,p.2)
theorem Lq {A:List (aB×aA)}{z:aB}{d:aA}(h:z∉A.map (·.1)):putD (A.map kdS) (.inr z) d=(A++[(z,d)]).map kdS:=by
 unfold putD
 rw[if_neg]
 ·simp[kdS,kD]
 ·intro q
  obtain⟨kd,m,e⟩:=List.any_eq_true.mp q
  obtain⟨p,mp,rfl⟩:=cA.mp m
  have:=of_decide_eq_true e
  simp[kdS,cV] at this
  exact h (cA.mpr ⟨p,mp,this⟩)
theorem QI : ∀ (M A:List (aB×aA)),((A++M).map (·.1)).Nodup->qI (M.map fun p=>(iN p.1,p.2)) (A.map kdS)=(A++M).map kdS
 | [],A,_=>by simp[qI]
 | p::M,A,h=>by
  show qI (M.map fun p=>(iN p.1,p.2)) (putD (A.map kdS) (.inr p.1) p.2)=_
  have hn:p.1∉A.map (·.1):=fun m=>by
   rw[BQ] at h
   exact(BP.mp h).2.2 p.1 m p.1 (by simp) rfl
  rw[Lq hn,QI M (A++[(p.1,p.2)]) (by simpa using h)]
  simp
theorem wM {z:aB}{d:aA} : ∀ {A:List (aB×aA)},(A.map (·.1)).Nodup->(z,d)∈A->cF (A.map kdS) (.inr z)=some d
 | [],_,m=>by simp at m
 | p::A,nd,m=>by
  rw[cR,gH] at nd
  unfold cF
  rw[cR,gT]
  rcases cQ.mp m with e | m
  ·rw[← e]
   simp[kdS,cV]
  ·have hne:p.1≠z:=fun e=>nd.1 (cA.mpr ⟨(z,d),m,e.symm⟩)
   have:=wM nd.2 m
   unfold cF at this
   simp only[kdS,cV,uN,Sum.inr.injEq,hne,decide_false]
   exact this
theorem GL {z:aB} : ∀ {A:List (aB×aA)},z∉A.map (·.1)->cF (A.map kdS) (.inr z)=none
 | [],_=>rfl
 | p::A,h=>by
  have h':z≠p.1/\z∉A.map (·.1):=by simpa using h
  have:=GL h'.2
  unfold cF at this ⊢
  rw[cR,gT]
  simp only[kdS,cV,uN,Sum.inr.injEq,h'.1.symm,decide_false]
  exact this
theorem sO (A:List (aB×aA)):plK (A.map kdS)=true:=by cases A <;> rfl
theorem NK {A:List (aB×aA)}(h : ∀ p∈A,nameS p.1):((A.map kdS).all fun kd=>cM kd.1)=true:=fQ.mpr fun d m=>by
 obtain⟨p,mp,rfl⟩:=cA.mp m
 obtain⟨_,_,_,_,h2,_⟩:=h p mp
 exact As h2
theorem zP (A:List (aB×aA)):(A.map kdS).map (·.1)=(A.map (·.1)).map bK:=by
 rw[eX,eX]
 rfl
theorem Pw {A:List (aB×aA)}(h : ∀ p∈A,nameS p.1)(hl:A.length<64):yX [.dict (A.map kdS)]=some (.list ((cT (A.map (·.1))).map bK)):=by
 show((nU ((A.map kdS).map (·.1))).bind fun is=>if (plK (A.map kdS)&&(A.map kdS).all fun kd=>cM kd.1)=true/\is.length<64 then some (IU ((cT is).map bK)) else none)=_
 rw[zP,FO,bR,if_pos ⟨by rw[sO,NK h]; rfl,by rw[cJ]; exact hl⟩]
abbrev bS:=aB×Nat×List (List Int)
noncomputable def rwE (r:List Int):aA×aA:=(dU r,.bool true)
noncomputable def dtD (R:List (List Int)):aA:=.dict ((.none,.none)::R.map rwE)
noncomputable def wdT (t:bS):aB×aA:=(t.1,.int t.2.1)
noncomputable def hdT (t:bS):aB×aA:=(t.1,dtD t.2.2)
noncomputable def bkD (L:List bS):aA:=dC "Book" (.dict ((L.map wdT).map kdS)) (.dict ((L.map hdT).map kdS))
structure RsG (w:Nat)(R:List (List Int)):Prop where
 len:R.length≤20
 rw : ∀ r∈R,r.length=w/\RwG r
 nd:R.Nodup
structure BkG (L:List bS):Prop where
 len:L.length≤12
 nm : ∀ t∈L,nameS t.1
 wd : ∀ t∈L,1≤t.2.1/\t.2.1≤6
 rs : ∀ t∈L,RsG t.2.1 t.2.2
 nd:(L.map (·.1)).Nodup
theorem wJ (L:List bS):(L.map wdT).map (·.1)=L.map (·.1):=by rw[eX]; rfl
theorem OP (L:List bS):(L.map hdT).map (·.1)=L.map (·.1):=by rw[eX]; rfl
noncomputable def t3 (t:aB×Nat):bS:=(t.1,t.2,[])
theorem RC : ∀ ts:List (aB×Nat),qZ (ts.map dW)=some (((ts.map t3).map wdT).map fun p=>(iN p.1,p.2))
 | []=>rfl
 | t::ts=>by
  show((qZ (ts.map dW)).bind fun r=>some ((iN t.1,aZ t.2)::r))=_
  rw[RC ts]
  rfl
structure TsG (ts:List (aB×Nat)):Prop where
 len:ts.length≤12
 tb : ∀ t∈ts,CN t
 nd:(ts.map (·.1)).Nodup
theorem EX (ts:List (aB×Nat)):(ts.map t3).map (·.1)=ts.map (·.1):=by rw[eX]; rfl
theorem TsG.bk {ts:List (aB×Nat)}(h:TsG ts):BkG (ts.map t3):=by
 refine⟨by rw[cJ]; exact h.len,fun t m=>?_,fun t m=>?_,fun t m=>?_,by rw[EX]; exact h.nd⟩
 all_goals obtain⟨t,mt,rfl⟩:=cA.mp m
 ·exact(h.tb t mt).1
 ·exact(h.tb t mt).2
 ·exact⟨by simp[t3],fun r m=>by simp[t3] at m,.nil⟩
theorem Ko {ts:List (aB×Nat)}(h:TsG ts)(z:Option aB):tY z [.list (ts.map dW)]=some (bkD (ts.map t3)):=by
 obtain⟨b,eb,hb⟩:=Oe h.len h.tb
 rw[hb.mpr h.nd] at eb
 have ed:qF [.list (ts.map dW)]=some (.dict (((ts.map t3).map wdT).map kdS)):=by
  show((qZ (ts.map dW)).bind fun ps=>some (PyData.dict (qI ps [])))=_
  rw[RC,bR]
  have:=QI ((ts.map t3).map wdT) [] (by rw[List.nil_append,wJ,EX]; exact h.nd)
  rw[List.map_nil,List.nil_append] at this
  rw[this]
 unfold tY vP
 show((pF [.list (ts.map dW)]).bind _)=_
 rw[eb,bR]
 show((qF [.list (ts.map dW)]).bind _)=_
 rw[ed,bR]
 have c1 : ∀ kd∈((ts.map t3).map wdT).map kdS,eQ kd.2=true:=fun kd m=>by
  obtain⟨p,mp,rfl⟩:=cA.mp m
  obtain⟨t,_,rfl⟩:=cA.mp mp
  rfl
 have c2:((((ts.map t3).map wdT).map kdS).map (·.1)).Nodup:=by
  rw[zP,wJ,EX]
  exact xV.mpr (h.nd.imp fun h z=>h (PyData.str.inj z))
 have c3:(((ts.map t3).map wdT).map kdS).length<sizeLine:=by
  rw[cJ,cJ,cJ]
  have:=h.len
  exact yW (by omega)
 refine(if_pos ⟨c1,c2,c3⟩).trans ?_
 unfold bkD sN
 congr 3
 simp[kdS,hdT,wdT,t3,dtD]
theorem AZ (L:List bS):kS "Book" (bkD L)=some (.dict ((L.map wdT).map kdS),.dict ((L.map hdT).map kdS)):=FF _ _ _
theorem wI (L:List bS):kT "Book" (bkD L)=some (.dict ((L.map wdT).map kdS)):=by unfold kT; rw[AZ]; rfl
theorem NF (L:List bS):hJ "Book" (bkD L)=some (.dict ((L.map hdT).map kdS)):=by unfold hJ; rw[AZ]; rfl
theorem eB {fo:EF}{fa:AF}{ρ:List (Option aA)}{L:List bS}{ds:List aA}(h:fo ρ=some (bkD L))(h2:fa ρ=some ds):cZ "Book" fo fa ρ=some (bkD L::ds):=by
 unfold cZ
 rw[h,bR,AZ]
 show((fa ρ).bind fun ds=>some (bkD L::ds))=_
 rw[h2]
 rfl
theorem LV (R:List (List Int)):(R.map rwE).map (·.1)=R.map dU:=by
 rw[eX]
 rfl
theorem Ng {w:Nat}{R:List (List Int)}(hw:1≤w)(h:RsG w R):yZ [dtD R]=some (lN (srt R)):=by
 have e:=Ka (R:=R) (n:=w) hw (fun r m=>(h.rw r m).1) (by have:=h.len; omega)
 show((kQ ((R.map rwE).map (·.1))).bind fun kss=>if okT kss=true/\kss.length<64 then some (IU ((jX kss).map gG)) else none)=_
 rw[LV]
 exact e
section
variable {L:List bS}(h:BkG L)
include h
theorem ZI : ∀ p∈L.map wdT,nameS p.1:=fun p m=>by
 obtain⟨t,mt,rfl⟩:=cA.mp m
 exact h.nm t mt
theorem EL {t:bS}(m:t∈L):cF ((L.map wdT).map kdS) (.inr t.1)=some (.int t.2.1):=wM (by rw[wJ]; exact h.nd) (cA.mpr ⟨t,m,rfl⟩)
theorem MM {t:bS}(m:t∈L):cF ((L.map hdT).map kdS) (.inr t.1)=some (dtD t.2.2):=wM (by rw[OP]; exact h.nd) (cA.mpr ⟨t,m,rfl⟩)
theorem QA (z:Option aB):pJ z [bkD L]=some (.list ((cT (L.map (·.1))).map bK)):=by
 refine fX rfl (fU (d:=.list ((cT (L.map (·.1))).map bK)) (bL (cH (f:=eUn (kT "Book") (aF 0)) (g:=aK) (wI L) rfl) ?_) rfl)
 have:=Pw (ZI h) (by have:=h.len; simp; omega)
 rw[wJ] at this
 exact this
theorem ND (z:Option aB):pD z [bkD L]=some (.int ((L.map fun t=>(t.2.2.length:Int)).sum)):=by
 have hl:=h.len
 have hi:iDV (eUn (hJ "Book") (aF 0)) (vS [s0 (bkD L)])=some (L.map fun t=>(hdT t).2):=by
  unfold iDV
  rw[show eUn (hJ "Book") (aF 0) (vS [s0 (bkD L)])=some (.dict ((L.map hdT).map kdS)) from NF L,bR]
  show(if plK ((L.map hdT).map kdS)=true then some (((L.map hdT).map kdS).map (·.2)) else none)=_
  rw[sO,if_pos rfl,eX,eX]
  rfl
 have lc:=qN (cap:=[none]) (fi:=iDV (eUn (hJ "Book") (aF 0))) (T:=gB 0) (t:=fY) (f:=aO sI (aG (aF 0) aK)) (ρ:=vS [s0 (bkD L)]) (xs:=L) (q:=fun t=>(hdT t).2) (fun _=>true) (fun t=>.int t.2.2.length) hi (by omega) (fun t mt=>⟨[some (hdT t).2],rfl,rfl,fun _=>bL (ds:=[(hdT t).2]) rfl (by show some (aZ ((t.2.2.map rwE).length:Nat))=_; rw[cJ])⟩)
 rw[uR.mpr (by simp)] at lc
 refine fX rfl (fU (d:=.int ((L.map fun t=>(t.2.2.length:Int)).sum)) (bL (cH lc rfl) ?_) rfl)
 have : ∀ l:List bS,mF (l.map fun t=>aZ t.2.2.length)=some (l.map fun t=>(t.2.2.length:Int)):=fun l=>by
  induction l with
  | nil=>rfl
  | cons a l ih=>
   show((mF (l.map fun t=>aZ t.2.2.length)).bind fun is=>some ((a.2.2.length:Int)::is))=_
   rw[ih]
   rfl
 show((mF (L.map fun t=>aZ t.2.2.length)).bind fun is=>some (aZ is.sum))=_
 rw[this,bR]
theorem zC (z:Option aB){t:bS}(m:t∈L):lD z [bkD L,.str t.1]=some .none:=by
 have e1:aO dR (aG (aF 1) aK) (vS [s0 (bkD L),s0 (.str t.1)])=some (.bool true):=bL (ds:=[.str t.1]) rfl (zW (h.nm t m))
 have e2:eOp (gIn true) (aF 1) (eUn (kT "Book") (aF 0)) (vS [s0 (bkD L),s0 (.str t.1)])=some (.bool false):=by
  refine bM (a:=.str t.1) (b:=.dict ((L.map wdT).map kdS)) rfl (wI L) ?_
  show(if plK ((L.map wdT).map kdS)=true then(cV (.str t.1)).bind fun k=>some (eM (true != (cF ((L.map wdT).map kdS) k).isSome)) else _)=_
  rw[if_pos (sO _)]
  show some (eM (true != (cF ((L.map wdT).map kdS) (.inr t.1)).isSome))=_
  rw[EL h m]
  rfl
 show fnD 2 2 (AJ z) [bkD L,.str t.1]=_
 have:AJ z [s0 (bkD L),s0 (.str t.1)]=some (.nx [s0 (bkD L),s0 (.str t.1)]):=gD (hU (x:=false) (y:=false) (kC e1) fun _=>eR e2)
 show outD (AJ z [s0 (bkD L),s0 (.str t.1)])=_
 rw[this]
 rfl
def NoT (L:List bS)(d:aA):Prop:=∃ b,dR [d]=some (.bool b)/\(b=true -> ∃ z,d = .str z/\z∉L.map (·.1))
theorem EI {d:aA}(hd:NoT L d):lD (some "NoTable") [bkD L,d]=some (rsD "NoTable"):=by
 obtain⟨b,e1,hb⟩:=hd
 have t1:bV .s (bOr (fR (bOf (aO dR (aG (aF 1) aK)))) (bOf (eOp (gIn true) (aF 1) (eUn (kT "Book") (aF 0))))) [s0 (bkD L),s0 d]=some true:=by
  refine(hU (x:=!b) (y:=true) (kC (bL (ds:=[d]) rfl e1)) fun q=>eR ?_).trans (by simp)
  obtain⟨z,rfl,hz⟩:=hb (by simpa using q)
  refine bM (a:=.str z) (b:=.dict ((L.map wdT).map kdS)) rfl (wI L) ?_
  show(if plK ((L.map wdT).map kdS)=true then(cV (.str z)).bind fun k=>some (eM (true != (cF ((L.map wdT).map kdS) k).isSome)) else _)=_
  rw[if_pos (sO _)]
  show some (eM (true != (cF ((L.map wdT).map kdS) (.inr z)).isSome))=_
  rw[GL (by rw[wJ]; exact hz)]
  rfl
 exact fX rfl (iV t1 ⟨_,if_pos rfl,rfl⟩)
theorem nN {F:FX}{fa:AF}{ρ:aW}{G:SF}{P:Out->Prop}{ds:List aA}{c:aB}(e1:fa (vS ρ)=some ds)(e2:F (some c) ds=some (rsD c))(k:P (.rt (rsD c))):Goes (bD (iT 0 .s (aO (F (some c)) fa)) G) ρ P:=by
 refine kX ⟨.rt (rsD c),?_,_,rfl,k⟩
 have e:eV 0 .s (aO (F (some c)) fa) ρ=some (rsD c):=bL e1 e2
 unfold iT
 rw[e]
 rfl
theorem NS {F:FX}{fa:AF}{ρ:aW}{G:SF}{P:Out->Prop}{ds:List aA}{z:Option aB}(e1:fa (vS ρ)=some ds)(e2:F z ds=some .none)(k:Goes G ρ P):Goes (bD (iT 0 .s (aO (F z) fa)) G) ρ P:=by
 refine dX (ρ':=ρ) ?_ k
 have e:eV 0 .s (aO (F z) fa) ρ=some .none:=bL e1 e2
 unfold iT
 rw[e]
 rfl
theorem Nn (z:Option aB){t:bS}(m:t∈L):mU z [bkD L,.str t.1]=some (lN (srt t.2.2)):=by
 refine fX rfl (NS h (eB (ds:=[.str t.1]) rfl rfl) (zC h z m) (fU (d:=lN (srt t.2.2)) (bL (ds:=[dtD t.2.2]) (cH (g:=aK) (bM (a:=.dict ((L.map hdT).map kdS)) (b:=.str t.1) (NF L) rfl (MM h m)) rfl) (Ng (h.wd t m).1 (h.rs t m))) rfl))
theorem Lo {d:aA}(hd:NoT L d):mU (some "NoTable") [bkD L,d]=some (rsD "NoTable"):=fX rfl (nN h (eB (ds:=[d]) rfl rfl) (EI h hd) rfl)
theorem Qg {d:aA}(hd:NoT L d):tX (some "NoTable") [bkD L,d]=some (rsD "NoTable"):=fX rfl (nN h (eB (ds:=[d]) rfl rfl) (EI h hd) rfl)
theorem FG {d r:aA}(hd:NoT L d):iA (some "NoTable") [bkD L,d,r]=some (rsD "NoTable"):=fX rfl (nN h (eB (ds:=[d]) rfl rfl) (EI h hd) rfl)
def NoR (w:Nat)(d:aA):Prop:=mS [d]=some (.bool false) \/ ∃ ds,d = .tuple ds/\mS [d]=some (.bool true)/\ds.length≠w/\ds.length≤1000
theorem RD {t:bS}(m:t∈L){d:aA}(hd:NoR t.2.1 d):bV .s (bOr (fR (bOf (aO mS (aG (aF 2) aK)))) (bOf (eOp gNe (aO dH (aG (aF 2) aK)) (eOp gIx (eUn (kT "Book") (aF 0)) (aF 1))))) [s0 (bkD L),s0 (.str t.1),s0 d]=some true:=by
 rcases hd with e | ⟨ds,rfl,e,hl,hl2⟩
 ·exact hU (x:=true) (y:=true) (kC (bL (ds:=[d]) rfl e)) fun q=>by cases q
 ·refine hU (x:=false) (y:=true) (kC (bL (ds:=[.tuple ds]) rfl e)) fun _=>eR (bM (a:=.int ds.length) (b:=.int t.2.1) (bL (ds:=[.tuple ds]) rfl (EH ds)) (bM (a:=.dict ((L.map wdT).map kdS)) (b:=.str t.1) (wI L) rfl (EL h m)) ?_)
  show some (eM (!(cL (.int ds.length) (.int t.2.1))))=_
  have:cL (.int (ds.length:Int)) (.int (t.2.1:Int))=false:=by
   simp[cL]
   omega
  rw[this]
  rfl
theorem ER {t:bS}(m:t∈L){d:aA}(hd:NoR t.2.1 d):iA (some "NoRow") [bkD L,.str t.1,d]=some (rsD "NoRow"):=
 fX rfl (NS h (eB (ds:=[.str t.1]) rfl rfl) (zC h _ m) (iV (RD h m hd) ⟨_,if_pos rfl,rfl⟩))
theorem GC {t:bS}(m:t∈L){d:aA}(hd:NoR t.2.1 d):iA (some "NoTable") [bkD L,.str t.1,d]=none:=by
 show outD (qW (some "NoTable") [s0 (bkD L),s0 (.str t.1),s0 d])=none
 have:qW (some "NoTable") [s0 (bkD L),s0 (.str t.1),s0 d]=none:=by
  unfold qW
  have e:eV 0 .s (aO (lD (some "NoTable")) (cZ "Book" (aF 0) (aG (aF 1) aK))) [s0 (bkD L),s0 (.str t.1),s0 d]=some .none:=bL (eB (ds:=[.str t.1]) rfl rfl) (zC h _ m)
  unfold bD iT
  rw[e]
  show(sIf .s _ (vM (some "NoTable") "NoRow") dQ) [s0 (bkD L),s0 (.str t.1),s0 d]=none
  unfold sIf
  rw[RD h m hd]
  show(if some ("NoTable" : aB)=some ("NoRow" : aB) then some (Out.rt (rsD "NoRow")) else none)=none
  rw[if_neg (by decide +kernel)]
 rw[this]
 rfl
theorem Jz (z:Option aB){t:bS}(m:t∈L){r:List Int}(hr:RwG r)(hl:r.length=t.2.1):iA z [bkD L,.str t.1,dU r]=some .none:=by
 show outD (qW z [s0 (bkD L),s0 (.str t.1),s0 (dU r)])=_
 have t1:bV .s (bOr (fR (bOf (aO mS (aG (aF 2) aK)))) (bOf (eOp gNe (aO dH (aG (aF 2) aK)) (eOp gIx (eUn (kT "Book") (aF 0)) (aF 1))))) [s0 (bkD L),s0 (.str t.1),s0 (dU r)]=some false:=by
  refine hU (x:=false) (y:=false) (kC (bL (ds:=[dU r]) rfl hr.row)) fun _=>eR (bM (a:=.int r.length) (b:=.int t.2.1) (bL (ds:=[dU r]) rfl ((EH _).trans (by rw[cJ]))) (bM (a:=.dict ((L.map wdT).map kdS)) (b:=.str t.1) (wI L) rfl (EL h m)) ?_)
  show some (eM (!(cL (.int r.length) (.int t.2.1))))=_
  rw[hl]
  simp[cL]
 have:qW z [s0 (bkD L),s0 (.str t.1),s0 (dU r)]=some (.nx [s0 (bkD L),s0 (.str t.1),s0 (dU r)]):=by
  unfold qW
  have e:eV 0 .s (aO (lD z) (cZ "Book" (aF 0) (aG (aF 1) aK))) [s0 (bkD L),s0 (.str t.1),s0 (dU r)]=some .none:=bL (eB (ds:=[.str t.1]) rfl rfl) (zC h _ m)
  unfold bD iT
  rw[e]
  exact gD t1
 rw[this]
 rfl
end
section
variable {L:List bS}(h:BkG L)
include h
theorem Jp {d r:aA}(hd:NoT L d):oY (some "NoTable") [bkD L,d,r]=some (rsD "NoTable"):=fX rfl (nN h (eB (ds:=[d,r]) rfl rfl) (FG h hd) rfl)
theorem Ol {d r:aA}(hd:NoT L d):pE (some "NoTable") [bkD L,d,r]=some (rsD "NoTable"):=fX rfl (nN h (eB (ds:=[d,r]) rfl rfl) (FG h hd) rfl)
theorem Lm {d r:aA}(hd:NoT L d):oZ (some "NoTable") [bkD L,d,r]=some (rsD "NoTable"):=fX rfl (nN h (eB (ds:=[d,r]) rfl rfl) (FG h hd) rfl)
theorem Lf {t:bS}(m:t∈L){d:aA}(hd:NoR t.2.1 d):oY (some "NoRow") [bkD L,.str t.1,d]=some (rsD "NoRow"):=fX rfl (nN h (eB (ds:=[.str t.1,d]) rfl rfl) (ER h m hd) rfl)
theorem Pc {t:bS}(m:t∈L){d:aA}(hd:NoR t.2.1 d):pE (some "NoRow") [bkD L,.str t.1,d]=some (rsD "NoRow"):=fX rfl (nN h (eB (ds:=[.str t.1,d]) rfl rfl) (ER h m hd) rfl)
theorem Ld {t:bS}(m:t∈L){d:aA}(hd:NoR t.2.1 d):oZ (some "NoRow") [bkD L,.str t.1,d]=some (rsD "NoRow"):=fX rfl (nN h (eB (ds:=[.str t.1,d]) rfl rfl) (ER h m hd) rfl)
theorem EY {F G:SF}{ρ:aW}(e:F ρ=none):bD F G ρ=none:=by unfold bD; rw[e]; rfl
theorem GI {F:FX}{fa:AF}{ρ:aW}{ds:List aA}{z:Option aB}(e1:fa (vS ρ)=some ds)(e2:F z ds=none):iT 0 .s (aO (F z) fa) ρ=none:=by
 have e:eV 0 .s (aO (F z) fa) ρ=none:=by
  show(fa (vS ρ)).bind (F z)=none
  rw[e1]
  exact e2
 unfold iT
 rw[e]
 rfl
theorem Nt {t:bS}(m:t∈L){d:aA}(hd:NoR t.2.1 d):oY (some "NoTable") [bkD L,.str t.1,d]=none:=by
 show outD (GG (some "NoTable") [s0 (bkD L),s0 (.str t.1),s0 d])=none
 unfold GG
 rw[EY h (GI h (eB (ds:=[.str t.1,d]) rfl rfl) (GC h m hd))]
 rfl
theorem Dy {t:bS}(m:t∈L){d:aA}(hd:NoR t.2.1 d):pE (some "NoTable") [bkD L,.str t.1,d]=none:=by
 show outD (GX (some "NoTable") [s0 (bkD L),s0 (.str t.1),s0 d])=none
 unfold GX
 rw[EY h (GI h (eB (ds:=[.str t.1,d]) rfl rfl) (GC h m hd))]
 rfl
theorem Qc {t:bS}(m:t∈L){d:aA}(hd:NoR t.2.1 d):oZ (some "NoTable") [bkD L,.str t.1,d]=none:=by
 show outD (GF (some "NoTable") [s0 (bkD L),s0 (.str t.1),s0 d])=none
 unfold GF
 rw[EY h (GI h (eB (ds:=[.str t.1,d]) rfl rfl) (GC h m hd))]
 rfl
theorem XW {F G:SF}{ρ:aW}{o:Out}(e:F ρ=some o):sOr F G ρ=some o:=by unfold sOr; rw[e]; rfl
theorem YB {F G:SF}{ρ:aW}{o:Out}(e:F ρ=none)(e2:G ρ=some o):sOr F G ρ=some o:=by unfold sOr; rw[e,e2]; rfl
theorem Pn {c:aB}{F:FX}{fa:AF}{V:aA->SF}{G:SF}{ρ:aW}{ds:List aA}(e:fa (vS ρ)=some ds)(e1:F (some c) ds=none):gQ c F fa V G ρ=none:=by
 unfold gQ
 rw[e,bR,e1]
 rfl
theorem vU {B d r:aA}{w:Int}{F:FX}{fa:AF}{ds:List aA}(e:fa (vS [s0 B,s0 (.int w),s0 d,s0 r,s0 .none,none])=some ds)(e1:F (some "NoTable") ds=some (rsD "NoTable")) :
  sOr (gQ "NoTable" F fa vExpr (sAs 5 "NoTable" (bW 4 0 .s (aF 5)))) (gQ "NoRow" F fa vExpr (sAs 5 "NoRow" (bW 4 0 .s (aF 5)))) [s0 B,s0 (.int w),s0 d,s0 r,s0 .none,none]=some (.nx [s0 B,s0 (.int w),s0 d,s0 r,s0 (exD "NoTable"),none]):=
 XW h ((TN e e1).trans rfl)
theorem DL {B d r:aA}{w:Int}{F:FX}{fa:AF}{ds:List aA}(e:fa (vS [s0 B,s0 (.int w),s0 d,s0 r,s0 .none,none])=some ds)(e0:F (some "NoTable") ds=none)(e1:F (some "NoRow") ds=some (rsD "NoRow")) :
  sOr (gQ "NoTable" F fa vExpr (sAs 5 "NoTable" (bW 4 0 .s (aF 5)))) (gQ "NoRow" F fa vExpr (sAs 5 "NoRow" (bW 4 0 .s (aF 5)))) [s0 B,s0 (.int w),s0 d,s0 r,s0 .none,none]=some (.nx [s0 B,s0 (.int w),s0 d,s0 r,s0 (exD "NoRow"),none]):=
 YB h (Pn h e e0) ((TN e e1).trans rfl)
theorem isT (b1 b2:Bool){B d r:aA}{w:Int}:jC (eUn (dP "NoTable" b1) (aF 4)) (eUn (dP "NoRow" b2) (aF 4)) (vS [s0 B,s0 (.int w),s0 d,s0 r,s0 (exD "NoTable"),none])=some (.bool b1):=by
 have:eUn (dP "NoTable" b1) (aF 4) (vS [s0 B,s0 (.int w),s0 d,s0 r,s0 (exD "NoTable"),none])=some (.bool b1):=by
  show dP "NoTable" b1 (exD "NoTable")=_
  simp[dP,exD]
 unfold jC
 rw[this]
 rfl
theorem pK (b1 b2:Bool){B d r:aA}{w:Int}:jC (eUn (dP "NoTable" b1) (aF 4)) (eUn (dP "NoRow" b2) (aF 4)) (vS [s0 B,s0 (.int w),s0 d,s0 r,s0 (exD "NoRow"),none])=some (.bool b2):=by
 have e1:eUn (dP "NoTable" b1) (aF 4) (vS [s0 B,s0 (.int w),s0 d,s0 r,s0 (exD "NoRow"),none])=none:=by
  show dP "NoTable" b1 (exD "NoRow")=none
  have : ¬ (("NoRow" : aB) = "NoTable"):=by decide +kernel
  simp[dP,exD,this]
 have e2:eUn (dP "NoRow" b2) (aF 4) (vS [s0 B,s0 (.int w),s0 d,s0 r,s0 (exD "NoRow"),none])=some (.bool b2):=by
  show dP "NoRow" b2 (exD "NoRow")=_
  simp[dP,exD]
 unfold jC
 rw[e1,e2]
 rfl
theorem oQ {m:Md}{t:BF}{F G:SF}{ρ:aW}{o:Out}(e:bV m t ρ=some true)(e2:F ρ=some o):sIf m t F G ρ=some o:=by unfold sIf; rw[e]; exact e2
theorem sQ {m:Md}{t:BF}{F G:SF}{ρ:aW}{o:Out}(e:bV m t ρ=some false)(e2:G ρ=some o):sIf m t F G ρ=some o:=by unfold sIf; rw[e]; exact e2
theorem Lx {d r:aA}{w:Nat}(hw:w<5)(hd:NoT L d):pG [bkD L,.int w,d,r]=some (.tuple [.bool true,.bool false]):=by
 refine fX rfl (iU (d:=.none) rfl (by simp) ?_)
 have tw : ∀ k:Int,bV .s (bOf (eOp gEq (aF 1) (eC (.int k)))) [s0 (bkD L),s0 (.int w),s0 d,s0 r,s0 .none,none]=some (decide ((w:Int)=k)):=fun k=>eR (bM (a:=.int w) (b:=.int k) rfl rfl (qO _ _))
 have ty : ∀ k:Int,(w:Int)=k->bV .s (bOf (eOp gEq (aF 1) (eC (.int k)))) [s0 (bkD L),s0 (.int w),s0 d,s0 r,s0 .none,none]=some true:=fun k e=>(tw k).trans (by rw[decide_eq_true e])
 have tn : ∀ k:Int,¬ (w:Int)=k->bV .s (bOf (eOp gEq (aF 1) (eC (.int k)))) [s0 (bkD L),s0 (.int w),s0 d,s0 r,s0 .none,none]=some false:=fun k e=>(tw k).trans (by rw[decide_eq_false e])
 refine dX (ρ':=[s0 (bkD L),s0 (.int w),s0 d,s0 r,s0 (exD "NoTable"),none]) ?_ ?_
 ·by_cases w0:(w:Int)=0
  ·exact oQ h (ty 0 w0) (vU h (eB (ds:=[d,r]) rfl rfl) (Jp h hd))
  refine sQ h (tn 0 w0) ?_
  by_cases w1:(w:Int)=1
  ·exact oQ h (ty 1 w1) (vU h (eB (ds:=[d,r]) rfl rfl) (Ol h hd))
  refine sQ h (tn 1 w1) ?_
  by_cases w2:(w:Int)=2
  ·exact oQ h (ty 2 w2) (vU h (eB (ds:=[d,r]) rfl rfl) (Lm h hd))
  refine sQ h (tn 2 w2) ?_
  by_cases w3:(w:Int)=3
  ·exact oQ h (ty 3 w3) (vU h (eB (ds:=[d]) rfl rfl) (Lo h hd))
  refine sQ h (tn 3 w3) ?_
  exact vU h (eB (ds:=[d]) rfl rfl) (Qg h hd)
 ·refine dX (gD (hU (x:=false) (y:=false) (kC (isT h true true)) fun _=>hU (x:=false) (y:=false) (eR (isT h false false)) fun _=>eR (isT h false false))) ?_
  refine dX (gD (hU (x:=false) (y:=false) (eR (isT h false false)) fun _=>hU (x:=false) (y:=false) (eR (isT h false false)) fun _=>eR (isT h false false))) ?_
  exact fU (d:=.tuple [.bool true,.bool false]) (qK (cH (isT h true false) (cH (g:=aK) (isT h false true) rfl))) rfl
theorem Kb {t:bS}(m:t∈L){r:aA}{w:Nat}(hw:w<3)(hd:NoR t.2.1 r):pG [bkD L,.int w,.str t.1,r]=some (.tuple [.bool false,.bool true]):=by
 refine fX rfl (iU (d:=.none) rfl (by simp) ?_)
 have tw : ∀ k:Int,bV .s (bOf (eOp gEq (aF 1) (eC (.int k)))) [s0 (bkD L),s0 (.int w),s0 (.str t.1),s0 r,s0 .none,none]=some (decide ((w:Int)=k)):=fun k=>eR (bM (a:=.int w) (b:=.int k) rfl rfl (qO _ _))
 have ty : ∀ k:Int,(w:Int)=k->bV .s (bOf (eOp gEq (aF 1) (eC (.int k)))) [s0 (bkD L),s0 (.int w),s0 (.str t.1),s0 r,s0 .none,none]=some true:=fun k e=>(tw k).trans (by rw[decide_eq_true e])
 have tn : ∀ k:Int,¬ (w:Int)=k->bV .s (bOf (eOp gEq (aF 1) (eC (.int k)))) [s0 (bkD L),s0 (.int w),s0 (.str t.1),s0 r,s0 .none,none]=some false:=fun k e=>(tw k).trans (by rw[decide_eq_false e])
 refine dX (ρ':=[s0 (bkD L),s0 (.int w),s0 (.str t.1),s0 r,s0 (exD "NoRow"),none]) ?_ ?_
 ·by_cases w0:(w:Int)=0
  ·exact oQ h (ty 0 w0) (DL h (eB (ds:=[.str t.1,r]) rfl rfl) (Nt h m hd) (Lf h m hd))
  refine sQ h (tn 0 w0) ?_
  by_cases w1:(w:Int)=1
  ·exact oQ h (ty 1 w1) (DL h (eB (ds:=[.str t.1,r]) rfl rfl) (Dy h m hd) (Pc h m hd))
  refine sQ h (tn 1 w1) ?_
  have w2:(w:Int)=2:=by omega
  exact oQ h (ty 2 w2) (DL h (eB (ds:=[.str t.1,r]) rfl rfl) (Qc h m hd) (Ld h m hd))
 ·refine dX (gD (hU (x:=false) (y:=false) (kC (pK h true true)) fun _=>hU (x:=false) (y:=false) (eR (pK h false false)) fun _=>eR (pK h false false))) ?_
  refine dX (gD (hU (x:=false) (y:=false) (eR (pK h false false)) fun _=>hU (x:=false) (y:=false) (eR (pK h false false)) fun _=>eR (pK h false false))) ?_
  exact fU (d:=.tuple [.bool false,.bool true]) (qK (cH (pK h true false) (cH (g:=aK) (pK h false true) rfl))) rfl
end
end Aw
namespace L2
open PySem PySem.Spec PyProof.Rows PySem.NumText
theorem Pu (w:List Nat)(a:Nat):jV (tx w) none (some (a:Int))=tx (w.take a):=by
 by_cases h:a≤w.length
 ·exact Ky h
 ·rw[MX w _ _ 0 w.length (by
   unfold rN
   simp only[show(1:Int) > 0 by decide,if_true]
   rw[if_neg (by omega),show max 0 (min (a:Int) (w.length:Int))=w.length by omega]
   rfl) (bU _),JA,List.drop_zero,IZ (by omega)]
end L2
namespace Aw
open PySem L2
theorem My (y z:aB):cL (.str y) (.str z)=decide (y=z):=by
 rw[show cL (.str y) (.str z)=(y == z) by simp[cL],WQ]
 simp
theorem Mw (zs:List aB)(z:aB):((zs.map bK).any fun d=>cL d (.str z))=decide (z∈zs):=by
 rw[List.any_map,WQ]
 simp[My]
theorem He (zs:List aB):noDicts (zs.map bK)=true:=RS fun t m=>by
 obtain⟨z,_,rfl⟩:=cA.mp m
 rfl
theorem Mc (neg:Bool)(zs:List aB)(z:aB):gIn neg (.str z) (.list (zs.map bK))=some (.bool (neg != decide (z∈zs))):=by
 show(if (dJ (.str z)&&noDicts (zs.map bK))=true then some (eM (neg != (zs.map bK).any fun d=>cL d (.str z))) else none)=_
 rw[He,Mw,show dJ (.str z)=true from rfl,Bool.and_self,if_pos rfl]
theorem KW {m:Md}{t:BF}{F:SF}{P:Out->Prop}(I:Nat->aW->Prop)(step : ∀ n ρ,I n ρ->(bV m t ρ=some false/\P (.nx ρ)) \/ (bV m t ρ=some true/\Goes F ρ fun o=>∃ ρ' n',o = .nx ρ'/\n'<n/\I n' ρ')) : ∀ (fuel n:Nat) (ρ:aW),n<fuel->I n ρ->Goes (whD m t F fuel) ρ P
 | 0,n,ρ,h,_=>by omega
 | fuel+1,n,ρ,h,i=>by
  rcases step n ρ i with⟨e,p⟩ | ⟨e,o,eo,ρ',n',rfl,hn,i'⟩
  ·exact⟨_,by
    show((bV m t ρ).bind fun b=>if b=true then(F ρ).bind fun o=>match o with
     | .nx ρ'=>whD m t F fuel ρ'
     | .ct ρ'=>whD m t F fuel ρ'
     | .bk ρ'=>some (.nx ρ')
     | .rt d=>some (.rt d)
    else some (.nx ρ))=_
    rw[e]
    rfl,p⟩
  ·obtain⟨o2,e2,p2⟩:=KW I step fuel n' ρ' (by omega) i'
   refine⟨o2,?_,p2⟩
   show((bV m t ρ).bind fun b=>if b=true then(F ρ).bind fun o=>match o with
     | .nx ρ'=>whD m t F fuel ρ'
     | .ct ρ'=>whD m t F fuel ρ'
     | .bk ρ'=>some (.nx ρ')
     | .rt d=>some (.rt d)
    else some (.nx ρ))=_
   rw[e,bR,if_pos rfl,eo]
   exact e2
theorem wR {z:aB}(h:nameS z):L2.plain z.cps.toList/\z.cps.toList.length≤12:=by
 obtain⟨_,_,_,_,h2,h3⟩:=h
 exact⟨fun c m=>zT (h2 c m),h3⟩
theorem ON {z:aB}(h:nameS z){c:Nat}(hc:c<128)(hb:fT c=false):dR [.str (z++tx [c])]=some (.bool false):=by
 obtain⟨hp,hl⟩:=wR h
 have e:z++tx [c]=tx (z.cps.toList++[c]):=by
  rw[← TZ,← TV]
 have hl2:(z.cps.toList++[c]).length≤90000:=by rw[pU,List.length_singleton]; omega
 rw[e,Ot (fun x m=>?_) hl2]
 ·unfold nameB
  have:(z.cps.toList++[c]).all fT=false:=List.all_eq_false.mpr ⟨c,by simp,by rw[hb]; simp⟩
  rw[this,JL,JL]
 ·rcases jS.mp m with m | m
  ·exact hp x m
  ·rw[dB.mp m]; exact hc
theorem ES {z:aB}(h:nameS z)(s:aB)(hs:s.length≤10):cO (.str z) (.str s)=some (.str (z++s)):=by
 show(if z.length+s.length≤sizeLine then some (bK (z++s)) else none)=_
 rw[if_pos]
 have:z.length=z.cps.toList.length:=by simp[BI]
 exact iM (by have:=(wR h).2; omega)
theorem ZG:("_" : aB)=tx [95]/\(" " : aB)=tx [32]/\("q" : aB)=tx [113]:=by decide +kernel
theorem Ou {z:aB}{zs:List aB}(hz : ∀ y∈zs,nameS y)(h:dR [.str z]=some (.bool false)):z∉zs:=fun m=>by
 have:=zW (hz z m)
 rw[h] at this
 cases this
theorem Gr {L:List bS}(h:BkG L)(h0:0<L.length)(c:Int) : ∃ d,xH [.int c,.list ((L.map (·.1)).map bK)]=some d/\NoT L d:=by
  let zs:List aB:=L.map (·.1)
  have hz : ∀ z∈zs,nameS z:=fun z m=>by
    obtain⟨t,mt,rfl⟩:=cA.mp m
    exact h.nm t mt
  have hl0:0<zs.length:=by simpa [zs] using h0
  let z0:aB:=zs[0]
  have hz0:nameS z0:=hz _ (lX hl0)
  obtain⟨u1,u2,u3⟩:=ZG
  have bt1:dR [.str (z0 ++ "_")]=some (.bool false):=by rw[u1]; exact ON hz0 (by decide) (by decide)
  have bt2:dR [.str (z0 ++ " ")]=some (.bool false):=by rw[u2]; exact ON hz0 (by decide) (by decide)
  have ix0 : ∀ {ρ:List (Option aA)},aF 1 ρ=some (.list (zs.map bK))->eOp gIx (aF 1) (eC (.int 0)) ρ=some (.str z0):=fun e=>bM (a:=.list (zs.map bK)) (b:=.int ((0:Nat):Int)) e rfl (lP (by rw[fH,iP hl0]; rfl))
  refine vG rfl ?_
  let ds:List aA:=[.none,.bool true,.int 0,.str "",.str "A",.list (zs.map bK),.tuple [.str z0],.str (z0 ++ "_"),.str (z0 ++ " ")]
  refine iU (d:=.list ds) (CZ (ds:=ds) (cH rfl (cH rfl (cH rfl (cH rfl (cH rfl (cH rfl (cH (qK (ds:=[.str z0]) (cH (g:=aK) (ix0 rfl) rfl)) (cH (bM (ix0 rfl) rfl (ES hz0 "_" (by decide +kernel))) (cH (g:=aK) (bM (ix0 rfl) rfl (ES hz0 " " (by decide +kernel))) rfl))))))))) (by show 9≤1000; omega)) (by simp) ?_
  have b3:=fE (bN c 9) (show(0:Int)<(3:Nat) by decide)
  have t3':bV .s (bOf (eOp gEq (eOp cG (aO dE (aG (aF 0) (aG (eC (.int 9)) aK))) (eC (.int 3))) (eC (.int 0)))) [s0 (.int c),s0 (.list (zs.map bK)),s0 (.list ds),none]=some (decide (bN c 9%(3:Nat)=0)):=
    eR (bM (a:=.int (bN c 9%(3:Nat))) (b:=.int 0) (bM (a:=.int (bN c 9)) (b:=.int (3:Nat)) (bL (ds:=[.int c,.int 9]) rfl (fZ c 9 (by omega) (by omega))) rfl (jW _ 3 (by omega))) rfl (qO _ _))
  by_cases q:bN c 9%(3:Nat)=0
  · have b:=fE (bN c 10) (show(0:Int)<(9:Nat) by decide)
    obtain⟨j,ej⟩:=kO b.1
    have hj:j<ds.length:=by show j<9; omega
    refine kX (iV (t3'.trans (by rw[decide_eq_true q])) (fU (d:=ds[j]) (bM (a:=.list ds) (b:=.int j) rfl (bM (a:=.int (bN c 10)) (b:=.int (9:Nat)) (bL (ds:=[.int c,.int 10]) rfl (fZ c 10 (by omega) (by omega))) rfl ((jW _ 9 (by omega)).trans (by rw[ej]))) (lP (iP hj))) ⟨_,rfl,_,rfl,false,?_,fun z=>by cases z⟩))
    have md:ds[j]∈ds:=lX hj
    obtain⟨o1,o2,_⟩:=Ed
    generalize ds[j]=d at md
    simp only[ds,cQ,xW,or_false] at md
    rcases md with rfl | rfl | rfl | rfl | rfl | rfl | rfl | rfl | rfl
    · exact name_kind (by intro _ z; cases z) (by intro _ z; cases z)
    · exact name_kind (by intro _ z; cases z) (by intro _ z; cases z)
    · exact name_kind (by intro _ z; cases z) (by intro _ z; cases z)
    · exact o1
    · exact o2
    · exact name_kind (by intro _ z; cases z) (by intro _ z; cases z)
    · exact name_kind (by intro _ z; cases z) (by intro _ z; cases z)
    · exact bt1
    · exact bt2
  refine dX (gD (t3'.trans (by rw[decide_eq_false q]))) ?_
  obtain⟨ys,ey,ly,hy,_⟩:=NV c (n:=12) (by omega)
  have b:=fE (bN c 10) (show(0:Int)<(12:Nat) by decide)
  obtain⟨j,ej⟩:=kO b.1
  have hj:j<ys.length:=by omega
  refine iU (d:=.str ys[j]) (bM (a:=.list (ys.map bK)) (b:=.int j) (bL (ds:=[.int c,.int ((12:Nat):Int)]) rfl ey) (bM (a:=.int (bN c 10)) (b:=.int (12:Nat)) (bL (ds:=[.int c,.int 10]) rfl (fZ c 10 (by omega) (by omega))) rfl ((jW _ 12 (by omega)).trans (by rw[ej]))) (lP (by rw[fH,iP hj]; rfl))) (by simp) ?_
  have tin : ∀ s:aB,bV .s (bOf (eOp (gIn false) (aF 3) (aF 1))) [s0 (.int c),s0 (.list (zs.map bK)),s0 (.list ds),s0 (.str s)]=some (decide (s∈zs)):=fun s=>eR (bM (a:=.str s) (b:=.list (zs.map bK)) rfl rfl ((Mc false zs s).trans (by simp)))
  refine mQ (fun ρ'=>∃ s,ρ'=[s0 (.int c),s0 (.list (zs.map bK)),s0 (.list ds),s0 (.str s)]/\s∉zs/\(nameS s \/ dR [.str s]=some (.bool false))) ?_ ?_
  · refine KW (fun n ρ'=>∃ s,ρ'=[s0 (.int c),s0 (.list (zs.map bK)),s0 (.list ds),s0 (.str s)]/\((n=1/\nameS s) \/ (n=0/\s∉zs/\(nameS s \/ dR [.str s]=some (.bool false))))) ?_ 8 1 _ (by omega) ⟨ys[j],rfl,.inl ⟨rfl,hy _ (lX hj)⟩⟩
    rintro n ρ ⟨s,rfl,⟨rfl,hs⟩ | ⟨rfl,hs,hs2⟩⟩
    · by_cases ms:s∈zs
      · refine .inr ⟨(tin s).trans (by rw[decide_eq_true ms]),?_⟩
        let s':aB:=tx (s.cps.toList.take 11++[113])
        have hs':nameS s':=by
          obtain⟨c1,r,e,h1,h2,h3⟩:=hs
          refine⟨c1,r.take 10++[113],?_,h1,fun x m=>?_,?_⟩
          · show s.cps.toList.take 11++[113]=_
            rw[e]
            rfl
          · have m:x∈s.cps.toList.take 11++[113]:=m
            rcases jS.mp m with m | m
            · exact h2 x (xX m)
            · rw[dB.mp m]; decide
          · show(s.cps.toList.take 11++[113]).length≤12
            simp
            omega
        have e1:eOp cO (eSl (aF 3) oN (oS (eC (.int 11)))) (eC (.str "q")) (vS [s0 (.int c),s0 (.list (zs.map bK)),s0 (.list ds),s0 (.str s)])=some (.str s'):=by
          have hlen:(wR hs).2=(wR hs).2:=rfl
          have hl12:=(wR hs).2
          have es:s=tx s.cps.toList:=TV s
          refine bM (a:=.str (tx (s.cps.toList.take 11))) (b:=.str "q") ?_ rfl ?_
          · show(if s.length≤sizeLine then some (bK (jV s none (some 11))) else none)=_
            have hL:s.length=s.cps.toList.length:=by simp[BI]
            rw[if_pos (iM (by omega))]
            congr 2
            have:=Pu s.cps.toList 11
            rw[← es] at this
            exact this
          · show(if (tx (s.cps.toList.take 11)).length+("q" : aB).length≤sizeLine then some (bK (tx (s.cps.toList.take 11) ++ "q")) else none)=_
            rw[u3,TZ,sW,sW,if_pos (iM (by simp; omega))]
        refine iU e1 (by simp) ?_
        by_cases ms':s'∈zs
        · refine⟨_,oQ h ((tin s').trans (by rw[decide_eq_true ms'])) (CS (d:=.str (z0 ++ " ")) (bM (ix0 rfl) rfl (ES hz0 " " (by decide +kernel))) (by simp)),_,0,rfl,by omega,z0 ++ " ",rfl,.inr ⟨rfl,Ou hz bt2,.inr bt2⟩⟩
        · refine⟨_,gD ((tin s').trans (by rw[decide_eq_false ms'])),_,0,rfl,by omega,s',rfl,.inr ⟨rfl,ms',.inl hs'⟩⟩
      · exact .inl ⟨(tin s).trans (by rw[decide_eq_false ms]),_,rfl,s,rfl,ms,.inl hs⟩
    · exact .inl ⟨(tin s).trans (by rw[decide_eq_false hs]),_,rfl,s,rfl,hs,hs2⟩
  rintro _ ⟨s,rfl,hs,hs2⟩
  refine fU (d:=.str s) rfl ⟨_,rfl,?_⟩
  rcases hs2 with hs2 | hs2
  · exact⟨true,zW hs2,fun _=>⟨s,rfl,hs⟩⟩
  · exact⟨false,hs2,fun z=>by cases z⟩
theorem OD {fa:AF}{ds:List aA}{c k:Int}{ρ:List (Option aA)}{n:Nat}(h:fa ρ=some ds)(hn:ds.length=n)(h0:0<n)(hl:n≤100)(hv:aF 0 ρ=some (.int c))(k0:0≤k)(k1:k≤1000) :
  ∃ d∈ds,eOp gIx (jU fa) (eOp cG (aO dE (aG (aF 0) (aG (eC (.int k)) aK))) (eC (.int n))) ρ=some d:=by
 have b:=fE (bN c k) (show(0:Int)<(n:Int) by omega)
 obtain⟨j,ej⟩:=kO b.1
 have hj:j<ds.length:=by omega
 refine⟨ds[j],lX hj,bM (a:=.list ds) (b:=.int j) (CZ h (by omega)) (bM (a:=.int (bN c k)) (b:=.int n) (bL (ds:=[.int c,.int k]) (cH hv rfl) (fZ c k k0 (by omega))) rfl ((jW _ n h0).trans (by rw[ej]))) (lP (by rw[iP hj]))⟩
theorem DP (v:Int):nd0 (.int v):=fW
theorem zQ {w:Nat}{d:aA}(h : ∀ ds,d = .tuple ds->ds.length≤1000 /\ ∀ x∈ds,nd0 x)(h0:nd0 d)(hb:vB d=false):NoR w d:=.inl (by rw[TB h h0,hb])
theorem LM {w:Nat}{r:List Int}(h:RwG r \/ r=[] \/ 6<r.length)(hl:r.length≠w)(hl2:r.length≤100):NoR w (dU r):=by
 have hn : ∀ ds,dU r = .tuple ds->ds.length≤1000 /\ ∀ x∈ds,nd0 x:=fun ds e=>by
  cases e
  refine⟨by rw[cJ]; omega,fun x m=>?_⟩
  obtain⟨v,_,rfl⟩:=cA.mp m
  exact DP v
 rcases h with h | rfl | h
 ·exact .inr ⟨_,rfl,h.row,by rw[cJ]; exact hl,by rw[cJ]; omega⟩
 ·exact zQ hn fW rfl
 ·exact zQ hn fW (Qq (by rw[cJ]; omega))
theorem TQ {w:Nat}{ds:List aA}{x:aA}(m:x∈ds)(hx:jD x=false)(hl:ds.length≤1000)(hn : ∀ y∈ds,nd0 y):NoR w (.tuple ds):=zQ (fun es e=>by cases e; exact⟨hl,hn⟩) fW (Mp m hx)
theorem Do (c:Int){w:Nat}(h1:1≤w)(h6:w≤6) : ∃ d,uA [.int c,.int w]=some d/\NoR w d:=by
 refine vG rfl ?_
 let r:List Int:=(dG w).map fun(k:Nat)=>bN c (11+(k:Int)) - 10 ^ 9
 have hr:r.length=w:=by simp[r]
 have gr:RwG r:=by
  refine⟨by omega,by omega,fun v m=>?_⟩
  obtain⟨k,_,rfl⟩:=cA.mp m
  have b0:0≤bN c (11+(k:Int)):=Int.emod_nonneg _ (by decide)
  have b1:=Ai c (11+(k:Int))
  have:(bN c (11+(k:Int)) - 10 ^ 9).natAbs<10 ^ 10:=by omega
  exact xU this (by decide +kernel)
 have lc:=qN (cap:=[none,some 0]) (fi:=iR1 (aG (aF 1) aK)) (T:=gB 0) (t:=fY) (f:=eOp vX (aO dE (aG (aF 1) (aG (eOp cO (eC (.int 11)) (aF 0)) aK))) (eOp mG (eC (.int 10)) (eC (.int 9)))) (ρ:=vS [s0 (.int c),s0 (.int w),none,none,none,none,none]) (xs:=dG w) (q:=fun(k:Nat)=>aZ k) (fun _=>true) (fun k=>.int (bN c (11+(k:Int)) - 10 ^ 9)) (vW (n:=w) rfl (by omega)) (by simp; omega) (fun k mk=>⟨[some (.int k),some (.int c)],rfl,rfl,fun _=>by
  have hk:=pR.mp mk
  exact bM (a:=.int (bN c (11+(k:Int)))) (b:=.int (10 ^ 9)) (bL (ds:=[.int c,.int (11+(k:Int))]) rfl (fZ c (11+(k:Int)) (by omega) (by omega))) (bM (a:=.int 10) (b:=.int 9) rfl rfl (wH (k:=9) (by omega))) rfl⟩)
 rw[uR.mpr (by simp),show(dG w).map (fun(k:Nat)=>aZ (bN c (11+(k:Int)) - 10 ^ 9))=r.map aZ by rw[eX]; rfl] at lc
 refine iU (d:=dU r) (bL (cH lc rfl) rfl) (by simp) ?_
 refine iU (d:=.int (10 ^ 70)) (YL _) (by simp) ?_
 have hw0:(0:Int)<(w:Int):=by omega
 obtain⟨a,ea⟩:=kO (fE (bN c 18) hw0).1
 have ha:a<w:=by have:=(fE (bN c 18) hw0).2; omega
 refine iU (d:=.int a) (bM (a:=.int (bN c 18)) (b:=.int w) (bL (ds:=[.int c,.int 18]) rfl (fZ c 18 (by omega) (by omega))) rfl ((jW _ w (by omega)).trans (by rw[ea]))) (by simp) ?_
 obtain⟨y,ey⟩:=kO (fE (bN c 19) (show(0:Int)<(5:Nat) by decide)).1
 refine iU (d:=.int y) (bM (a:=.int (bN c 19)) (b:=.int (5:Nat)) (bL (ds:=[.int c,.int 19]) rfl (fZ c 19 (by omega) (by omega))) rfl ((jW _ 5 (by omega)).trans (by rw[ey]))) (by simp) ?_
 let S:aW:=[s0 (.int c),s0 (.int w),s0 (dU r),s0 (.int (10 ^ 70)),s0 (.int a),s0 (.int y),none]
 show Goes _ S _
 have tw : ∀ k:Int,bV .s (bOf (eOp gEq (aF 5) (eC (.int k)))) S=some (decide ((y:Int)=k)):=fun k=>eR (bM (a:=.int y) (b:=.int k) rfl rfl (qO _ _))
 by_cases y0:(y:Int)=0
 ·obtain⟨d,md,ed⟩:=OD (fa:=aG (aO AO (aG (aF 2) aK)) (aG (eC .none) (aG (eC (.int 7)) (aG (eC (.str "row")) (aG (eC (.dict [])) (aG (eC (.bool true)) aK)))))) (ds:=[.list (r.map aZ),.none,.int 7,.str "row",.dict [],.bool true]) (c:=c) (k:=20) (ρ:=vS S) (n:=6) rfl rfl (by omega) (by omega) rfl (by omega) (by omega)
  refine kX (iV ((tw 0).trans (by rw[decide_eq_true y0])) (fU ed ⟨_,rfl,_,rfl,?_⟩))
  simp only[cQ,xW,or_false] at md
  rcases md with rfl | rfl | rfl | rfl | rfl | rfl
  all_goals refine zQ (by intro ds e; cases e) ?_ rfl
  all_goals first | exact fW | rfl
 refine dX (gD ((tw 0).trans (by rw[decide_eq_false y0]))) ?_
 by_cases y1:(y:Int)=1
 ·refine kX (iV ((tw 1).trans (by rw[decide_eq_true y1])) (fU (d:=dU (r.drop 1)) ((vT (ds:=r.map aZ) rfl (pX (i:=((1:Nat):Int)) rfl) rfl).trans (by rw[TC,← List.map_drop]; rfl)) ⟨_,rfl,_,rfl,?_⟩))
  have hd:(r.drop 1).length=w - 1:=by rw[VZ,hr]
  refine LM ?_ (by omega) (by omega)
  by_cases q:w=1
  ·exact .inr (.inl (yB (by omega)))
  ·exact .inl ⟨by omega,by omega,fun v m=>gr.2.2 v (List.mem_of_mem_drop m)⟩
 refine dX (gD ((tw 1).trans (by rw[decide_eq_false y1]))) ?_
 have hr0:0<r.length:=by omega
 by_cases y2:(y:Int)=2
 ·refine kX (iV ((tw 2).trans (by rw[decide_eq_true y2])) (fU (d:=dU (r++[r[0]])) (bM (a:=.tuple (r.map aZ)) (b:=.tuple [.int r[0]]) rfl (qK (cH (g:=aK) (bM (a:=dU r) (b:=.int ((0:Nat):Int)) rfl rfl (lP (by rw[fH,iP hr0]; rfl))) rfl)) ((CP (by simp; omega)).trans (by show some (gG (r.map aZ++[.int r[0]]))=some (gG ((r++[r[0]]).map aZ)); rw[BQ]; rfl))) ⟨_,rfl,_,rfl,?_⟩))
  have hd:(r++[r[0]]).length=w+1:=by rw[pU,hr]; rfl
  refine LM ?_ (by omega) (by omega)
  by_cases q:w=6
  ·exact .inr (.inr (by omega))
  ·refine .inl ⟨by omega,by omega,fun v m=>?_⟩
   rcases jS.mp m with m | m
   ·exact gr.2.2 v m
   ·rw[dB.mp m]; exact gr.2.2 _ (lX hr0)
 refine dX (gD ((tw 2).trans (by rw[decide_eq_false y2]))) ?_
 have tb:bV .s (rZ (bOf (eOp gEq (aF 5) (eC (.int 3)))) (bOf (eOp gGt (aF 1) (eC (.int 1))))) S=some (decide ((y:Int)=3)&&decide ((w:Int) > 1)):=Lu (tw 3) fun _=>eR (bM (a:=.int w) (b:=.int 1) rfl rfl rfl)
 by_cases y3:(y:Int)=3/\1<w
 ·refine kX (iV (tb.trans (by rw[decide_eq_true y3.1,decide_eq_true (by omega)]; rfl)) (fU (d:=.tuple (([.int 0,.bool true,.int 2,.int 3,.int 4,.int 5]:List aA).take w)) ((vT (ds:=[.int 0,.bool true,.int 2,.int 3,.int 4,.int 5]) rfl rfl (pX (i:=(w:Int)) rfl)).trans (by rw[DY])) ⟨_,rfl,_,rfl,?_⟩))
  refine TQ (x:=.bool true) ?_ rfl (by simp; omega) fun z m=>?_
  ·obtain⟨v,rfl⟩ : ∃ v,w=v+2:=⟨w - 2,by omega⟩
   simp
  ·have m:=xX m
   simp only[cQ,xW,or_false] at m
   rcases m with rfl | rfl | rfl | rfl | rfl | rfl <;> exact fW
 have tb':bV .s (rZ (bOf (eOp gEq (aF 5) (eC (.int 3)))) (bOf (eOp gGt (aF 1) (eC (.int 1))))) S=some false:=tb.trans (by
  by_cases q:(y:Int)=3
  ·rw[decide_eq_false (p:=(w:Int) > 1) (fun z=>y3 ⟨q,by omega⟩),JL]
  ·rw[decide_eq_false q]; rfl)
 refine dX (gD tb') ?_
 obtain⟨d,md,ed⟩:=OD (fa:=aG (eC (.bool true)) (aG (eC .none) (aG (eC (.str "7")) (aG (aF 3) (aG (eOp vX (eC (.int 0)) (aF 3)) (aG (gC (aG (eC (.int 7)) aK)) (aG (jU (aG (eC (.int 7)) aK)) (aG (eC (.dict [])) aK)))))))) (ds:=[.bool true,.none,.str "7",.int (10 ^ 70),.int (0 - 10 ^ 70),.tuple [.int 7],.list [.int 7],.dict []]) (c:=c) (k:=20) (ρ:=vS S) (n:=8) rfl rfl (by omega) (by omega) rfl (by omega) (by omega)
 have hv:jD d=false/\nd0 d:=by
  have hv1:jD (.int (10 ^ 70))=false:=by
   have:((10:Int) ^ 70).natAbs=10 ^ 70:=by decide +kernel
   show decide (((10:Int) ^ 70).natAbs<10 ^ 70)=false
   rw[this]
   exact decide_eq_false (jP _)
  have hv2:jD (.int (0 - 10 ^ 70))=false:=by
   have:((0:Int) - 10 ^ 70).natAbs=10 ^ 70:=by decide +kernel
   show decide (((0:Int) - 10 ^ 70).natAbs<10 ^ 70)=false
   rw[this]
   exact decide_eq_false (jP _)
  simp only[cQ,xW,or_false] at md
  rcases md with rfl | rfl | rfl | rfl | rfl | rfl | rfl | rfl
  ·exact⟨rfl,fW⟩
  ·exact⟨rfl,fW⟩
  ·exact⟨rfl,fW⟩
  ·exact⟨hv1,fW⟩
  ·exact⟨hv2,fW⟩
  ·exact⟨rfl,fW⟩
  ·exact⟨rfl,fW⟩
  ·exact⟨rfl,rfl⟩
 refine iU ed (by show 6<7; omega) (fU (d:=.tuple (((r.map aZ).take a++[d])++(r.map aZ).drop (a+1))) ?_ ⟨_,rfl,TQ (x:=d) (by simp) hv.1 (by simp; omega) fun z m=>?_⟩)
 ·refine bM (a:=.tuple ((r.map aZ).take a++[d])) (b:=.tuple ((r.map aZ).drop (a+1))) (bM (a:=.tuple ((r.map aZ).take a)) (b:=.tuple [d]) ((vT (ds:=r.map aZ) rfl rfl (pX (i:=(a:Int)) rfl)).trans (by rw[DY])) (qK (cH (g:=aK) rfl rfl)) (CP (by simp; omega))) ((vT (ds:=r.map aZ) rfl (pX (i:=((a+1:Nat):Int)) rfl) rfl).trans (by rw[TC])) (CP (by simp; omega))
 ·rcases jS.mp m with m | m
  ·rcases jS.mp m with m | m
   ·obtain⟨v,_,rfl⟩:=cA.mp (xX m)
    exact DP v
   ·rw[dB.mp m]; exact hv.2
  ·obtain⟨v,_,rfl⟩:=cA.mp (List.mem_of_mem_drop m)
   exact DP v
theorem AG (ss:List aB):(cT ss).Perm ss:=by
 have hp:=List.mergeSort_perm ss fun a b=>decide (a.cps.toList≤b.cps.toList)
 have hr:(ss.mergeSort fun a b=>decide (a.cps.toList≤b.cps.toList)).Pairwise leS:=by
  have:=Qy (le:=fun a b:aB=>decide (a.cps.toList≤b.cps.toList)) (fun a b c h1 h2=>decide_eq_true (WA (of_decide_eq_true h1) (of_decide_eq_true h2))) (fun a b=>by
   rcases List.le_total a.cps.toList b.cps.toList with h | h <;> simp[h]) ss
  exact this.imp fun h=>of_decide_eq_true h
 rw[← FZ hp hr]
 exact hp
mutual
theorem eqv_refl : ∀ d:aA,noDict d=true->cL d d=true
 | .none,_=>by simp[cL]
 | .bool b,_=>by simp[cL]
 | .int i,_=>by simp[cL]
 | .str x,_=>by simp[cL]
 | .list xs,h=>by
  have h':noDicts xs=true:=by simpa [noDict] using h
  simpa [cL] using FS xs h'
 | .tuple xs,h=>by
  have h':noDicts xs=true:=by simpa [noDict] using h
  simpa [cL] using FS xs h'
 | .dict _,h=>by simp[noDict] at h
theorem FS : ∀ ds:List aA,noDicts ds=true->pP ds ds=true
 | [],_=>by simp[pP]
 | d::ds,h=>by
  have h':noDict d=true/\noDicts ds=true:=by simpa [noDicts] using h
  simp[pP,eqv_refl d h'.1,FS ds h'.2]
end
theorem ne_self {d:aA}(h:dJ d=true):gNe d d=some (.bool false):=by
 have h1:noDict d=true:=(iQ.mp h).1
 unfold gNe
 rw[h,eqv_refl d h1]
 rfl
theorem LC {ds:List aA}(h : ∀ d∈ds,noDict d=true/\d.depth≤5):dJ (.list ds)=true:=by
 have h1:noDicts ds=true:=by
  induction ds with
  | nil=>rfl
  | cons d ds ih=>simp[noDicts,(h d cC).1,ih fun x m=>h x (cD _ m)]
 have h2:dI ds≤5:=by
  clear h1
  induction ds with
  | nil=>simp[dI]
  | cons d ds ih=>
   have:=(h d cC).2
   have:=ih fun x m=>h x (cD _ m)
   simp[dI]
   omega
 simp[dJ,noDict,h1,jN]
 omega
theorem Me (zs:List aB):dJ (.list (zs.map bK))=true:=LC fun d m=>by
 obtain⟨z,_,rfl⟩:=cA.mp m
 exact⟨rfl,by simp[jN]⟩
noncomputable def rowsOf (L:List bS)(z:aB):List (List Int):=((L.find? fun t=>decide (t.1=z)).map (·.2.2)).getD []
theorem zE : ∀ {L:List bS} {t:bS},(L.map (·.1)).Nodup->t∈L->L.find? (fun x=>decide (x.1=t.1))=some t
 | [],t,_,m=>by simp at m
 | x::L,t,nd,m=>by
  rw[cR,gH] at nd
  rw[gT]
  rcases cQ.mp m with rfl | m
  ·simp
  ·have:x.1≠t.1:=fun e=>nd.1 (by rw[e]; exact cA.mpr ⟨t,m,rfl⟩)
   simp only[this,decide_false]
   exact zE nd.2 m
noncomputable def eP (L:List bS)(z:aB):aB×aA:=(z,lN (srt (rowsOf L z)))
theorem zO (L:List bS)(zs:List aB):(zs.map (eP L)).map (·.1)=zs:=by
 rw[eX]
 exact xY zs
noncomputable def plD (L:List bS):aA:=.dict (((cT (L.map (·.1))).map (eP L)).map kdS)
section
variable {L:List bS}(h:BkG L)
include h
theorem RI {t:bS}(m:t∈L):rowsOf L t.1=t.2.2:=by
 unfold rowsOf
 rw[zE h.nd m]
 rfl
theorem MK {z:aB}(m:z∈cT (L.map (·.1))) : ∃ t∈L,t.1=z:=by
 have:=(AG (L.map (·.1))).mem_iff.mp m
 obtain⟨t,mt,e⟩:=cA.mp this
 exact⟨t,mt,e⟩
theorem CU:(cT (L.map (·.1))).Nodup:=(AG _).nodup_iff.mpr h.nd
theorem MB:(cT (L.map (·.1))).length=L.length:=(AG _).length_eq.trans (cJ _)
theorem OC (z:Option aB):qV z [bkD L]=some (plD L):=by
 have hl:=h.len
 have ln:=MB h
 have nd:=CU h
 refine fX rfl (dX (ρ':=[s0 (bkD L),some (2,.dict []),none]) rfl ?_)
 refine mQ (fun ρ'=>∃ x,ρ'=[s0 (bkD L),some (2,.dict (((cT (L.map (·.1))).map (eP L)).map kdS)),x]) ?_ ?_
 ·refine vY (ds:=(cT (L.map (·.1))).map bK) (fun i ρ'=>∃ x,ρ'=[s0 (bkD L),some (2,.dict ((((cT (L.map (·.1))).take i).map (eP L)).map kdS)),x]) (avS (tD (bL (eB (ds:=[]) rfl rfl) (QA h none)))) ⟨none,rfl⟩ ?_ ?_
  ·rintro i d _ hd ⟨x,rfl⟩
   rw[fH] at hd
   obtain⟨s,hs,rfl⟩:=oH.mp hd
   obtain⟨t,mt,rfl⟩:=MK h (pS hs)
   refine⟨[s0 (bkD L),some (2,.dict ((((cT (L.map (·.1))).take i).map (eP L)).map kdS)),s0 (.str t.1)],rfl,?_⟩
   refine⟨.nx [s0 (bkD L),some (2,.dict ((((cT (L.map (·.1))).take (i+1)).map (eP L)).map kdS)),s0 (.str t.1)],?_,_,.inl rfl,_,rfl⟩
   unfold CQ
   rw[show eV 1 .s (aO (mU none) (cZ "Book" (aF 0) (aG (aF 2) aK))) [s0 (bkD L),some (2,.dict ((((cT (L.map (·.1))).take i).map (eP L)).map kdS)),s0 (.str t.1)]=some (lN (srt t.2.2)) from bL (eB (ds:=[.str t.1]) rfl rfl) (Nn h none mt),bR]
   have hn:t.1∉(cT (L.map (·.1))).take i:=fun m=>by
    obtain⟨j,hj⟩:=List.mem_iff_getElem?.mp m
    rw[List.getElem?_take] at hj
    split at hj
    ·rename_i lt
     have:=(List.getElem?_inj (l:=cT (L.map (·.1))) (i:=j) (j:=i) (fI.mp hj).1 nd).mp (hj.trans hs.symm)
     omega
    ·cases hj
   refine(if_pos (t:=some (Out.nx [s0 (bkD L),some (2,.dict ((((cT (L.map (·.1))).take i).map (eP L)).map kdS++[(kD (.inr t.1),lN (srt t.2.2))])),s0 (.str t.1)])) (e:=none) (show cF ((((cT (L.map (·.1))).take i).map (eP L)).map kdS) (.inr t.1)=none/\((((cT (L.map (·.1))).take i).map (eP L)).map kdS).length<sizeLine from⟨GL (by rw[zO]; exact hn),?_⟩)).trans ?_
   ·rw[cJ,cJ,oJ]
    exact yW (by omega)
   ·rw[JB,hs]
    simp[kdS,eP,kD,RI h mt]
  ·rintro _ ⟨x,rfl⟩
   refine⟨_,rfl,x,?_⟩
   rw[cJ,JA]
 rintro _ ⟨x,rfl⟩
 exact⟨_,rfl,rfl⟩
theorem Ny (r:List Int):eQ (dU r)=true:=by
 show mO (r.map aZ)=true
 rw[RJ,fQ]
 intro d m
 obtain⟨v,_,rfl⟩:=cA.mp m
 rfl
theorem Ll:fL 2 (plD L)=true:=by
 show((((cT (L.map (·.1))).map (eP L)).map kdS).all fun kd=>fL 1 kd.2)=true
 refine fQ.mpr fun kd m=>?_
 obtain⟨p,mp,rfl⟩:=cA.mp m
 obtain⟨s,_,rfl⟩:=cA.mp mp
 show((srt (rowsOf L s)).map dU).all (fL 0)=true
 refine fQ.mpr fun d m=>?_
 obtain⟨r,_,rfl⟩:=cA.mp m
 exact Ny h r
theorem MZ (R:List (List Int)):dJ (lN R)=true:=LC fun d m=>by
 obtain⟨r,_,rfl⟩:=cA.mp m
 have : ∀ l:List Int,noDicts (l.map aZ)=true/\dI (l.map aZ)≤1:=fun l=>by
  induction l with
  | nil=>simp[noDicts,dI]
  | cons a l ih=>simp[noDicts,noDict,dI,jN,ih.1,ih.2]
 have:=this r
 exact⟨by simp[dU,noDict,this.1],by simp[dU,jN]; omega⟩
theorem Pa:vE true (plD L) (plD L)=some (.bool false):=by
 have nd:((((cT (L.map (·.1))).map (eP L))).map (·.1)).Nodup:=by rw[zO]; exact CU h
 have hv:valsOk (((cT (L.map (·.1))).map (eP L)).map kdS)=true:=fQ.mpr fun kd m=>by
  obtain⟨p,mp,rfl⟩:=cA.mp m
  obtain⟨s,_,rfl⟩:=cA.mp mp
  exact MZ h _
 have hit : ∀ A:List (aB×aA),(∀ p∈A,p∈(cT (L.map (·.1))).map (eP L))->nY (((cT (L.map (·.1))).map (eP L)).map kdS) (A.map kdS)=true:=fun A=>by
  induction A with
  | nil=>intro _; rfl
  | cons p A ih=>
   intro hA
   have mp:=hA p cC
   have lk:=wM (z:=p.1) (d:=p.2) nd mp
   obtain⟨s,_,e⟩:=cA.mp mp
   have ev:cL p.2 p.2=true:=by
    rw[← e]
    exact eqv_refl _ (iQ.mp (MZ h (srt (rowsOf L s)))).1
   show(match (cV (.str p.1)).bind (cF (((cT (L.map (·.1))).map (eP L)).map kdS)) with | none=>false | some e=>cL p.2 e&&nY _ (A.map kdS))=true
   rw[show(cV (.str p.1)).bind (cF (((cT (L.map (·.1))).map (eP L)).map kdS))=some p.2 from lk]
   show(cL p.2 p.2&&nY _ (A.map kdS))=true
   rw[ev,ih fun q m=>hA q (cD _ m)]
   rfl
 show(if (valsOk _&&valsOk _&&(plK _&&plK _))=true then some (eM (true != sP _ _)) else none)=_
 rw[hv,sO]
 show some (eM (true != sP _ _))=_
 unfold sP
 rw[hit _ fun p m=>m]
 simp
end
noncomputable def adR (z:aB)(r:List Int)(t:bS):bS:=if t.1=z then(t.1,t.2.1,t.2.2++[r]) else t
theorem AS (z:aB)(r:List Int)(t:bS):(adR z r t).1=t.1:=by unfold adR; split <;> rfl
theorem AK (z:aB)(r:List Int)(t:bS):(adR z r t).2.1=t.2.1:=by unfold adR; split <;> rfl
theorem Cg (L:List bS)(z:aB)(r:List Int):(L.map (adR z r)).map (·.1)=L.map (·.1):=by
 rw[eX]
 exact pT fun t _=>AS z r t
theorem Bv (L:List bS)(z:aB)(r:List Int):(L.map (adR z r)).map wdT=L.map wdT:=by
 rw[eX]
 refine pT fun t _=>?_
 show((adR z r t).1,aZ (adR z r t).2.1)=_
 rw[AS,AK]
 rfl
theorem Kk (L:List bS){t:bS}(r:List Int)(un : ∀ x∈L,x.1=t.1->x=t):jF ((L.map hdT).map kdS) t.1 (.dict ((.none,.none)::(t.2.2.map rwE++[(.tuple (r.map aZ),.bool true)])))=((L.map (adR t.1 r)).map hdT).map kdS:=by
 unfold jF
 rw[eX,eX,eX,eX]
 refine pT fun x m=>?_
 show(if cV (.str x.1)=some (.inr t.1) then _ else _)=kdS (hdT (adR t.1 r x))
 by_cases e:x.1=t.1
 ·have:=un x m e
  subst this
  have e2:adR x.1 r x=(x.1,x.2.1,x.2.2++[r]):=if_pos rfl
  rw[if_pos (show cV (.str x.1)=some (.inr x.1) from rfl),e2]
  show(bK x.1,PyData.dict _)=(bK x.1,dtD (x.2.2++[r]))
  unfold dtD
  rw[BQ]
  rfl
 ·have e2:adR t.1 r x=x:=if_neg e
  rw[if_neg (fun q=>e (by simpa [cV] using q)),e2]
theorem Cy (a:List Int):bX (a.map aZ)=true/\dI (a.map aZ)≤6:=by
 induction a with
 | nil=>simp[bX,dI]
 | cons a l ih=>simp[bX,bF,dI,jN,ih.1,ih.2]
theorem RsG.add {w:Nat}{R:List (List Int)}(h:RsG w R)(hl:R.length<20){r:List Int}(hr:RwG r)(hw:r.length=w)(hn:r∉R):RsG w (R++[r]):=by
 refine⟨by rw[pU]; simp; omega,fun x m=>?_,?_⟩
 ·rcases jS.mp m with m | m
  ·exact h.rw x m
  ·rw[dB.mp m]; exact⟨hw,hr⟩
 ·refine BP.mpr ⟨h.nd,gH.mpr ⟨by simp,.nil⟩,fun a ma b mb=>?_⟩
  rw[dB.mp mb]
  intro z
  exact hn (z ▸ ma)
section
variable {L:List bS}(h:BkG L)
include h
theorem AX {t:bS}(m:t∈L) : ∀ x∈L,x.1=t.1->x=t:=fun x mx e=>by
 have h1:=zE h.nd m
 have h2:=zE h.nd mx
 rw[e] at h2
 exact eU (h2.symm.trans h1)
theorem NM {t:bS}(m:t∈L){r:List Int}(hr:RwG r)(hw:r.length=t.2.1)(hn:r∉t.2.2)(hl:t.2.2.length<20):BkG (L.map (adR t.1 r)):=by
 refine⟨by rw[cJ]; exact h.len,fun x mx=>?_,fun x mx=>?_,fun x mx=>?_,by rw[Cg]; exact h.nd⟩
 all_goals obtain⟨y,my,rfl⟩:=cA.mp mx
 ·rw[AS]; exact h.nm y my
 ·rw[AK]; exact h.wd y my
 ·rw[AK]
  unfold adR
  by_cases e:y.1=t.1
  ·rw[if_pos e]
   have:=AX h m y my e
   subst this
   exact(h.rs y my).add hl hr hw hn
  ·rw[if_neg e]
   exact h.rs y my
theorem TK {t:bS}(m:t∈L){r:List Int}(hr:RwG r)(hw:r.length=t.2.1)(hn:r∉t.2.2)(hl:t.2.2.length<20):lC [bkD L,.str t.1,dU r]=some (true,bkD (L.map (adR t.1 r))):=by
 unfold lC wG
 show((kS "Book" (bkD L)).bind _)=_
 rw[AZ,bR]
 show((iA none [bkD L,.str t.1,.tuple (r.map aZ)]).bind _)=_
 rw[show iA none [bkD L,.str t.1,.tuple (r.map aZ)]=some .none from Jz h none m hr hw,bR,MM h m,bR]
 have c1:=Cy r
 have c2:(((L.map hdT).map kdS).map (·.1)).Nodup:=by
  rw[zP,OP]
  exact xV.mpr (h.nd.imp fun h z=>h (PyData.str.inj z))
 have c3:gG (r.map aZ)∉(t.2.2.map rwE).map (·.1):=fun z=>by
  rw[LV] at z
  obtain⟨r',mr,e⟩:=cA.mp z
  have e:r'.map aZ=r.map aZ:=IT e
  have:r'=r:=by
   have inj : ∀ l l':List Int,l.map aZ=l'.map aZ->l=l':=fun l=>by
    induction l with
    | nil=>intro l' h; cases l' <;> simp at h ⊢
    | cons a l ih=>
     intro l' h
     cases l' with
     | nil=>simp at h
     | cons b l'=>
      simp only[cR,JE,PyData.int.injEq] at h
      rw[h.1,ih l' h.2]
   exact inj _ _ e
  exact hn (this ▸ mr)
 refine(if_pos ⟨c1.1,c1.2,c2,c3,by rw[cJ]; omega⟩).trans ?_
 rw[Kk L r (AX h m)]
 unfold bkD
 rw[Bv]
end
theorem Qs {f:aB->Int}{a b:List aB}(h:a.Perm b):(a.map f).sum=(b.map f).sum:=by
 induction h with
 | nil=>rfl
 | cons x _ ih=>simp only[cR,pQ,ih]
 | swap x y l=>simp only[cR,pQ]; omega
 | trans _ _ ih1 ih2=>exact ih1.trans ih2
noncomputable def iK (L:List bS):Int:=(L.map fun t=>(t.2.2.length:Int)).sum
theorem PN {r:List Int}{z:aB} : ∀ {L:List bS},z∉L.map (·.1)->iK (L.map (adR z r))=iK L
 | [],_=>rfl
 | x::L,h=>by
  have h':z≠x.1/\z∉L.map (·.1):=by simpa using h
  have e:adR z r x=x:=if_neg fun q=>h'.1 q.symm
  have:=PN (r:=r) h'.2
  unfold iK at this ⊢
  rw[cR,cR,pQ,e,this,cR,pQ]
theorem OO {r:List Int}{t:bS} : ∀ {L:List bS},(L.map (·.1)).Nodup->t∈L->iK (L.map (adR t.1 r))=iK L+1
 | [],_,m=>by simp at m
 | x::L,nd,m=>by
  rw[cR,gH] at nd
  by_cases e:x.1=t.1
  ·have e2:adR t.1 r x=(x.1,x.2.1,x.2.2++[r]):=if_pos e
   have:=PN (r:=r) (z:=t.1) (L:=L) (by rw[← e]; exact nd.1)
   unfold iK at this ⊢
   rw[cR,cR,pQ,e2,this,cR,pQ]
   simp
   omega
  ·have e2:adR t.1 r x=x:=if_neg e
   have m':t∈L:=(cQ.mp m).resolve_left fun z=>e (by rw[z])
   have:=OO (r:=r) nd.2 m'
   unfold iK at this ⊢
   rw[cR,cR,pQ,e2,this,cR,pQ]
   omega
theorem Kt {L:List bS}(h:BkG L):((cT (L.map (·.1))).map fun z=>((srt (rowsOf L z)).length:Int)).sum=iK L:=by
 rw[Qs (AG _),eX]
 unfold iK
 congr 1
 refine pT fun t m=>?_
 show((srt (rowsOf L t.1)).length:Int)=_
 rw[Kf,RI h m]
noncomputable def wdP (t:bS):aB×Nat:=(t.1,t.2.1)
theorem Jq (L:List bS)(z:aB)(r:List Int):(L.map (adR z r)).map wdP=L.map wdP:=by
 rw[eX]
 refine pT fun t _=>?_
 show((adR z r t).1,(adR z r t).2.1)=_
 rw[AS,AK]
 rfl
noncomputable def iD (k:Int)(w:Nat):List Int:=[k,1,2,3,4,5].take w
theorem FP (k:Int){w:Nat}(h:w≤6):(iD k w).length=w:=by simp[iD]; omega
theorem OY (k:Int){w:Nat}(h:1≤w):(iD k w).head?=some k:=by
 obtain⟨v,rfl⟩ : ∃ v,w=v+1:=⟨w - 1,by omega⟩
 rfl
theorem Dd {k:Int}(hk:k.natAbs<1000){w:Nat}(h1:1≤w)(h6:w≤6):RwG (iD k w):=by
 have hl:=FP k h6
 refine⟨by omega,by omega,fun v m=>?_⟩
 have m:=xX m
 have:v.natAbs<1000:=by
  simp only[cQ,xW,or_false] at m
  rcases m with rfl | rfl | rfl | rfl | rfl | rfl <;> omega
 exact xU this (by decide +kernel)
noncomputable def nnR (w:Nat):List Int:=[9,9,9,9,9,9].take w
theorem EK {w:Nat}(h:w≤6):(nnR w).length=w:=by simp[nnR]; omega
theorem Of {w:Nat}(h:1≤w):(nnR w).head?=some 9:=by
 obtain⟨v,rfl⟩ : ∃ v,w=v+1:=⟨w - 1,by omega⟩
 rfl
theorem Co {w:Nat}(h1:1≤w)(h6:w≤6):RwG (nnR w):=by
 have hl:=EK h6
 refine⟨by omega,by omega,fun v m=>?_⟩
 have m:=xX m
 have:v=9:=by
  simp only[cQ,xW,or_false] at m
  rcases m with rfl | rfl | rfl | rfl | rfl | rfl <;> rfl
 rw[this]
 decide +kernel
structure Way (ts:List (aB×Nat))(k:Nat)(L:List bS):Prop where
 bk:BkG L
 ts:L.map wdP=ts
 hd : ∀ t∈L,∀ r∈t.2.2,∃ j:Nat,j<k/\r.head?=some (j:Int)
 len : ∀ t∈L,t.2.2.length≤k
theorem Way.at {ts:List (aB×Nat)}{k:Nat}{L:List bS}(h:Way ts k L){t:aB×Nat}(m:t∈ts) : ∃ x∈L,x.1=t.1/\x.2.1=t.2:=by
 rw[← h.ts] at m
 obtain⟨x,mx,rfl⟩:=cA.mp m
 exact⟨x,mx,rfl,rfl⟩
theorem Way.names {ts:List (aB×Nat)}{k:Nat}{L:List bS}(h:Way ts k L):L.map (·.1)=ts.map (·.1):=by
 rw[← h.ts,eX]
 rfl
theorem Way.put {ts:List (aB×Nat)}{k:Nat}{L:List bS}(h:Way ts k L)(hk:k<10){x:bS}(m:x∈L):Way ts (k+1) (L.map (adR x.1 (iD k x.2.1)))/\lC [bkD L,.str x.1,dU (iD k x.2.1)]=some (true,bkD (L.map (adR x.1 (iD k x.2.1)))):=by
 have hw:=h.bk.wd x m
 have hn:iD k x.2.1∉x.2.2:=fun z=>by
  obtain⟨j,hj,e⟩:=h.hd x m _ z
  rw[OY _ hw.1] at e
  have:=eU e
  omega
 have hl:=h.len x m
 have gr:=Dd (k:=(k:Int)) (by omega) hw.1 hw.2
 refine⟨⟨NM h.bk m gr (FP _ hw.2) hn (by omega),by rw[Jq]; exact h.ts,fun t mt r mr=>?_,fun t mt=>?_⟩,TK h.bk m gr (FP _ hw.2) hn (by omega)⟩
 all_goals
  obtain⟨y,my,rfl⟩:=cA.mp mt
  by_cases e:y.1=x.1
 ·have:=AX h.bk m y my e
  subst this
  rw[show adR y.1 (iD k y.2.1) y=(y.1,y.2.1,y.2.2++[iD k y.2.1]) from if_pos rfl] at mr
  rcases jS.mp mr with mr | mr
  ·obtain⟨j,hj,e⟩:=h.hd y my r mr
   exact⟨j,by omega,e⟩
  ·rw[dB.mp mr]
   exact⟨k,by omega,OY _ hw.1⟩
 ·rw[show adR x.1 (iD k x.2.1) y=y from if_neg e] at mr
  obtain⟨j,hj,e⟩:=h.hd y my r mr
  exact⟨j,by omega,e⟩
 ·have:=AX h.bk m y my e
  subst this
  rw[show adR y.1 (iD k y.2.1) y=(y.1,y.2.1,y.2.2++[iD k y.2.1]) from if_pos rfl]
  show(y.2.2++[iD k y.2.1]).length≤k+1
  rw[pU]
  simp
  omega
 ·rw[show adR x.1 (iD k x.2.1) y=y from if_neg e]
  have:=h.len y my
  omega
theorem UC {n:Nat}{f:EF}{ρ:aW}{d:aA}(h:f (vA ρ)=some d)(hf:fL n d=true):eV n .a f ρ=some d:=by
 show((f (vA ρ)).bind fun d=>if (fL n d||(uX ρ&&decide (n<9)&&iE n d)||(uV ρ&&decide (n=0)&&ftD d))=true then some d else none)=_
 rw[h,bR,hf,rO,rO,if_pos rfl]
theorem FM {f:EF}{ρ:aW}{t:aB×Nat}{ρ':aW}(h:f (vS ρ)=some (dW t))(e:pW 6 7 (dW t) ρ=some ρ'):sC .s f (pW 6 7) ρ=some (.nx ρ'):=by
 unfold sC
 rw[show eV 0 .s f ρ=some (dW t) from h,bR,e]
 rfl
theorem DR {ts:List (aB×Nat)}{ρ:List (Option aA)}{fk:EF}{i:Nat}(h0:0<ts.length)(hi:i<ts.length)(e1:aF 1 ρ=some (.list (ts.map dW)))(ek:fk ρ=some (.int i)):eOp gIx (aF 1) fk ρ=some (dW ts[i]):=
 bM (a:=.list (ts.map dW)) (b:=.int i) e1 ek (lP (by rw[fH,iP hi]; rfl))
theorem FE (ts:List (aB×Nat)):dH [.list (ts.map dW)]=some (.int ts.length):=by simp[dH]
theorem CH {ρ:List (Option aA)}{fe:AF}{ds:List aA}{w:Nat}(h:fe ρ=some ds)(hl:ds.length=6)(hw:aF 7 ρ=some (.int w)):jG (gC fe) oN (oS (aF 7)) ρ=some (.tuple (ds.take w)):=
 (vT (ds:=ds) (qK h (by omega)) rfl (pX hw)).trans (by rw[DY])
theorem TR (a b:Bool):gNe (.tuple [.bool a,.bool b]) (.tuple [.bool a,.bool b])=some (.bool false):=by cases a <;> cases b <;> rfl
theorem ZX (ns:List Int)(hl:ns.length≤63):HX [.list (ns.map aZ)]=some (.bool true):=by
 obtain⟨c0,e0⟩:=zF (ns:=ns) (k:=0) (by omega) (by omega)
 obtain⟨c1,e1⟩:=zF (ns:=ns) (k:=1) (by omega) (by omega)
 obtain⟨c2,e2⟩:=zF (ns:=ns) (k:=2) (by omega) (by omega)
 obtain⟨c3,e3⟩:=zF (ns:=ns) (k:=3) (by omega) (by omega)
 have b5:=fE (bN c1 5) (show(0:Int)<(3:Nat) by decide)
 obtain⟨n5,en5⟩:=kO b5.1
 obtain⟨zs,ez,lz,hz,hnd⟩:=NV c0 (n:=1+n5) (by omega)
 let A:aA:=.list (ns.map aZ)
 refine fX rfl ?_
 refine dX (ρ':=[s0 A,some (1,.list []),none,none,none,none,none,none,none,none,none,none,none]) rfl ?_
 refine mQ (fun ρ'=>∃ (ts:List (aB×Nat)) (x:L2.Slot),ts.map (·.1)=zs/\(∀ t∈ts,1≤t.2/\t.2≤6)/\ρ'=[s0 A,some (1,.list (ts.map dW)),x,none,none,none,none,none,none,none,none,none,none]) ?_ ?_
 ·refine vY (ds:=zs.map bK) (fun i ρ'=>∃ (ts:List (aB×Nat)) (x:L2.Slot),ts.map (·.1)=zs.take i/\(∀ t∈ts,1≤t.2/\t.2≤6)/\ρ'=[s0 A,some (1,.list (ts.map dW)),x,none,none,none,none,none,none,none,none,none,none]) (avS (tD (bL (ds:=[.int c0,.int ((1+n5:Nat):Int)]) (cH (bL (ds:=[A,.int 0]) rfl e0) (cH (g:=aK) (bM (a:=.int 1) (b:=.int n5) rfl (bM (a:=.int (bN c1 5)) (b:=.int (3:Nat)) (bL (ds:=[.int c1,.int 5]) (cH (bL (ds:=[A,.int 1]) rfl e1) rfl) (fZ c1 5 (by omega) (by omega))) rfl ((jW _ 3 (by omega)).trans (by rw[en5]))) (by show some (aZ (1+(n5:Int)))=_; congr 2)) rfl)) ez))) ⟨[],none,rfl,fun _ m=>by simp at m,rfl⟩ ?_ ?_
  ·rintro i d _ hd ⟨ts,x,ht1,ht,rfl⟩
   rw[fH] at hd
   obtain⟨z,hz1,rfl⟩:=oH.mp hd
   have hi:i<zs.length:=(fI.mp hz1).1
   have hl2:ts.length=i:=by
    have:=congrArg uP ht1
    rw[cJ,oJ] at this
    omega
   have b:=fE (bN c1 (6+(i:Int))) (show(0:Int)<(6:Nat) by decide)
   obtain⟨q,hq⟩:=kO b.1
   let S:aW:=[s0 A,some (1,.list (ts.map dW)),s0 (.str z),none,none,none,none,none,none,none,none,none,none]
   refine⟨S,rfl,?_⟩
   refine Nk (d:=dW (z,1+q)) ?_ ?_ (ds:=ts.map dW) rfl (by simp; omega) ⟨_,.inl rfl,ts++[(z,1+q)],s0 (.str z),?_,fun t m=>?_,by simp[S]⟩
   ·refine qK (ds:=[.str z,.int ((1+q:Nat):Int)]) (cH rfl (cH (g:=aK) (bM (a:=.int 1) (b:=.int q) rfl (bM (a:=.int (bN c1 (6+(i:Int)))) (b:=.int (6:Nat)) (bL (ds:=[.int c1,.int (6+(i:Int))]) (cH (bL (ds:=[A,.int 1]) rfl e1) (cH (g:=aK) (bM (a:=.int 6) (b:=.int i) rfl (bL (ds:=[.list (ts.map dW)]) rfl ((FE ts).trans (by rw[hl2]))) rfl) rfl)) (fZ c1 (6+(i:Int)) (by omega) (by omega))) rfl ((jW _ 6 (by omega)).trans (by rw[hq]))) (by show some (aZ (1+(q:Int)))=_; congr 2)) rfl))
   ·simp[dW,eQ,mO]
   ·rw[BQ,ht1,JB,hz1]
    rfl
   ·rcases jS.mp m with m | m
    ·exact ht t m
    ·rw[dB.mp m]
     exact⟨by simp,by simp; omega⟩
  ·rintro _ ⟨ts,x,h1,h2,rfl⟩
   exact⟨_,rfl,ts,x,by simpa using h1,h2,rfl⟩
 rintro _ ⟨ts,x2,h1,h2,rfl⟩
 have lts:ts.length=1+n5:=by rw[← lz,← h1,cJ]
 have hT:TsG ts:=⟨by omega,fun t m=>⟨hz _ (h1 ▸ cA.mpr ⟨t,m,rfl⟩),h2 t m⟩,by rw[h1]; exact hnd⟩
 have h0:0<ts.length:=by omega
 let B:aA:=.list (ts.map dW)
 let N:aA:=.list ((ts.map (·.1)).map bK)
 show Goes _ [s0 A,s0 B,x2,none,none,none,none,none,none,none,none,none,none] _
 have lc:=qN (cap:=[none]) (fi:=iIt (aF 1)) (T:=gB 0) (t:=fY) (f:=eOp gIx (aF 0) (eC (.int 0))) (ρ:=vS [s0 A,s0 B,x2,none,none,none,none,none,none,none,none,none,none]) (xs:=ts) (q:=dW) (fun _=>true) (fun t=>.str t.1) (tD rfl) (by omega) (fun t mt=>⟨[some (dW t)],rfl,rfl,fun _=>rfl⟩)
 rw[uR.mpr (by simp),show(ts.map fun t=>bK t.1)=(ts.map (·.1)).map bK by rw[eX]; rfl] at lc
 refine iU lc (by simp) ?_
 show Goes _ [s0 A,s0 B,x2,s0 N,none,none,none,none,none,none,none,none,none] _
 refine iU (d:=bkD (ts.map t3)) (bL (ds:=[B]) rfl (Ko hT none)) (by simp) ?_
 have b7:=fE (bN c2 7) (show(0:Int)<(5:Nat) by decide)
 obtain⟨q7,eq7⟩:=kO b7.1
 refine mQ (fun ρ'=>∃ L x5 x6 x7,Way ts q7 L/\ρ'=[s0 A,s0 B,x2,s0 N,some (9,bkD L),x5,x6,x7,none,none,none,none,none]) ?_ ?_
 ·refine vY (ds:=(dG q7).map fun(k:Nat)=>aZ k) (fun i ρ'=>∃ L x5 x6 x7,Way ts i L/\ρ'=[s0 A,s0 B,x2,s0 N,some (9,bkD L),x5,x6,x7,none,none,none,none,none]) (avS (vW (n:=q7) (cH (g:=aK) (bM (a:=.int (bN c2 7)) (b:=.int (5:Nat)) (bL (ds:=[.int c2,.int 7]) (cH (bL (ds:=[A,.int 2]) rfl e2) rfl) (fZ c2 7 (by omega) (by omega))) rfl ((jW _ 5 (by omega)).trans (by rw[eq7]))) rfl) (by omega))) ⟨ts.map t3,none,none,none,⟨hT.bk,?_,fun t m r mr=>?_,fun t m=>?_⟩,rfl⟩ ?_ ?_
  ·rw[eX]
   exact xY ts
  ·obtain⟨t,_,rfl⟩:=cA.mp m
   simp[t3] at mr
  ·obtain⟨t,_,rfl⟩:=cA.mp m
   simp[t3]
  ·rintro i d _ hd ⟨L,x5,x6,x7,hW,rfl⟩
   rw[fH] at hd
   obtain⟨k,hk,rfl⟩:=oH.mp hd
   have hi:i<q7:=by simpa using(fI.mp hk).1
   have ek:k=i:=by
    rw[WB hi] at hk
    exact(eU hk).symm
   subst ek
   refine⟨[s0 A,s0 B,x2,s0 N,some (9,bkD L),s0 (.int k),x6,x7,none,none,none,none,none],rfl,?_⟩
   have hj:k%ts.length<ts.length:=Nat.mod_lt _ h0
   have ej:(k:Int)%(ts.length:Nat)=((k%ts.length:Nat):Int):=by simp
   let t:=ts[k%ts.length]
   refine dX (ρ':=[s0 A,s0 B,x2,s0 N,some (9,bkD L),s0 (.int k),s0 (.str t.1),s0 (.int t.2),none,none,none,none,none]) (FM (t:=t) (DR h0 hj rfl (bM (a:=.int k) (b:=.int ts.length) rfl (bL (ds:=[B]) rfl (FE ts)) ((jW _ ts.length h0).trans (by rw[ej])))) rfl) ?_
   obtain⟨x,mx,ex1,ex2⟩:=hW.at (lX hj)
   obtain⟨hW',eP'⟩:=hW.put (by omega) mx
   refine⟨.nx [s0 A,s0 B,x2,s0 N,some (9,bkD (L.map (adR x.1 (iD k x.2.1)))),s0 (.int k),s0 (.str t.1),s0 (.int t.2),none,none,none,none,none],?_,_,.inl rfl,_,_,_,_,hW',rfl⟩
   have ea:aG (aF 6) (aG (jG (gC (aG (aF 5) (aG (eC (.int 1)) (aG (eC (.int 2)) (aG (eC (.int 3)) (aG (eC (.int 4)) (aG (eC (.int 5)) aK))))))) oN (oS (aF 7))) aK) (vS [s0 A,s0 B,x2,s0 N,some (9,bkD L),s0 (.int k),s0 (.str t.1),s0 (.int t.2),none,none,none,none,none])=some [.str x.1,dU (iD k x.2.1)]:=by
    refine cH (by rw[ex1]; rfl) (cH (g:=aK) ((CH (ds:=[.int k,.int 1,.int 2,.int 3,.int 4,.int 5]) (w:=t.2) rfl rfl rfl).trans ?_) rfl)
    rw[ex2]
    show _=some (gG (([(k:Int),1,2,3,4,5].take t.2).map aZ))
    rw[JD]
    rfl
   unfold CM nR
   show(((aG (aF 6) _ (vS _)).bind fun ds=>(lC (bkD L::ds)).bind fun q=>some (q.1,_)).bind _)=_
   rw[ea,bR,eP',bR]
   rfl
  ·rintro _ ⟨L,x5,x6,x7,hW,rfl⟩
   exact⟨_,rfl,L,x5,x6,x7,by simpa using hW,rfl⟩
 rintro _ ⟨L,x5,x6,x7,hW,rfl⟩
 have h:=hW.bk
 have hLn:=hW.names
 let P:aA:=plD L
 refine Ly (d:=P) (bL (eB (ds:=[]) rfl rfl) (OC h none)) (Ll h) (by simp) ?_
 show Goes _ [s0 A,s0 B,x2,s0 N,some (9,bkD L),x5,x6,x7,s0 P,none,none,none,none] _
 have hL0:0<L.length:=by
  have:=congrArg uP hLn
  simp at this
  omega
 have eN:N = .list ((L.map (·.1)).map bK):=by rw[hLn]
 refine mQ (fun ρ'=>∃ y5 y6 y7 y9 y10 y11,ρ'=[s0 A,s0 B,x2,s0 N,some (9,bkD L),y5,y6,y7,s0 P,y9,y10,y11,none]) ?_ ?_
 ·obtain⟨ys,ey,ly,_⟩:=La aZ ns (some 4) (some 63)
  have ei:aV .s (iIt (eOp uW (jU (aG (aO kG (aG (aF 0) (aG (eC (.int 3)) aK))) aK)) (pM (aF 0) (oS (eC (.int 4))) (oS (eC (.int 63)))))) [s0 A,s0 B,x2,s0 N,some (9,bkD L),x5,x6,x7,s0 P,none,none,none,none]=some ((c3::ys).map aZ):=by
   refine tD (bM (a:=.list [.int c3]) (b:=.list (ys.map aZ)) (CZ (cH (g:=aK) (bL (ds:=[A,.int 3]) rfl e3) rfl)) ((ZT (ds:=ns.map aZ) rfl (pX (i:=4) rfl) (pX (i:=63) rfl)).trans (by rw[ey])) ((Nr (by simp; omega)).trans (by simp)))
  refine vY (ds:=(c3::ys).map aZ) (fun i ρ'=>∃ y5 y6 y7 y9 y10 y11,ρ'=[s0 A,s0 B,x2,s0 N,some (9,bkD L),y5,y6,y7,s0 P,y9,y10,y11,none]) ei ⟨_,_,_,_,_,_,rfl⟩ ?_ ?_
  ·rintro i d _ hd ⟨y5,y6,y7,y9,y10,y11,rfl⟩
   rw[fH] at hd
   obtain⟨c,_,rfl⟩:=oH.mp hd
   refine⟨[s0 A,s0 B,x2,s0 N,some (9,bkD L),y5,y6,y7,s0 P,s0 (.int c),y10,y11,none],rfl,?_⟩
   obtain⟨w,ew⟩:=kO (fE (bN c 25) (show(0:Int)<(5:Nat) by decide)).1
   have hw5:w<5:=by have:=(fE (bN c 25) (show(0:Int)<(5:Nat) by decide)).2; omega
   refine iU (d:=.int w) (bM (a:=.int (bN c 25)) (b:=.int (5:Nat)) (bL (ds:=[.int c,.int 25]) rfl (fZ c 25 (by omega) (by omega))) rfl ((jW _ 5 (by omega)).trans (by rw[ew]))) (by simp) ?_
   have hl0:(0:Int)<(ts.length:Int):=by omega
   obtain⟨j,ej⟩:=kO (fE (bN c 26) hl0).1
   have hj:j<ts.length:=by have:=(fE (bN c 26) hl0).2; omega
   let t:=ts[j]
   refine dX (ρ':=[s0 A,s0 B,x2,s0 N,some (9,bkD L),y5,s0 (.str t.1),s0 (.int t.2),s0 P,s0 (.int c),s0 (.int w),y11,none]) (FM (t:=t) (DR h0 hj rfl (bM (a:=.int (bN c 26)) (b:=.int ts.length) (bL (ds:=[.int c,.int 26]) rfl (fZ c 26 (by omega) (by omega))) (bL (ds:=[B]) rfl (FE ts)) ((jW _ ts.length h0).trans (by rw[ej])))) rfl) ?_
   let r7:aA:=.tuple (([.int 7,.int 7,.int 7,.int 7,.int 7,.int 7]:List aA).take t.2)
   refine iU (d:=r7) (CH (ds:=[.int 7,.int 7,.int 7,.int 7,.int 7,.int 7]) (w:=t.2) rfl rfl rfl) (by simp) ?_
   let S:aA->aW:=fun r=>[s0 A,s0 B,x2,s0 N,some (9,bkD L),y5,s0 (.str t.1),s0 (.int t.2),s0 P,s0 (.int c),s0 (.int w),s0 r,none]
   show Goes _ (S r7) _
   have ht:=h2 t (lX hj)
   obtain⟨x,mx,ex1,ex2⟩:=hW.at (lX hj)
   obtain⟨nr,enr,hnr⟩:=Do c (w:=t.2) ht.1 ht.2
   have t1 : ∀ k:Int,0≤k->k≤100->bV .s (bOf (eOp gEq (eOp cG (aO dE (aG (aF 9) (aG (eC (.int k)) aK))) (eC (.int 2))) (eC (.int 0)))) (S r7)=some (decide (bN c k%(2:Nat)=0)):=fun k k0 k1=>eR (bM (a:=.int (bN c k%(2:Nat))) (b:=.int 0) (bM (a:=.int (bN c k)) (b:=.int (2:Nat)) (bL (ds:=[.int c,.int k]) rfl (fZ c k k0 (by omega))) rfl (jW _ 2 (by omega))) rfl (qO _ _))
   have t2:bV .s (bOr (bOf (eOp gEq (eOp cG (aO dE (aG (aF 9) (aG (eC (.int 27)) aK))) (eC (.int 2))) (eC (.int 0)))) (bOf (eOp gGt (aF 10) (eC (.int 2))))) (S r7)=some (decide (bN c 27%(2:Nat)=0)||decide ((w:Int) > 2)):=hU (t1 27 (by omega) (by omega)) fun _=>eR (bM (a:=.int w) (b:=.int 2) rfl rfl rfl)
   by_cases hq:bN c 27%(2:Nat)=0 \/ (w:Int) > 2
   ·refine iV (t2.trans (by
     rcases hq with q | q
     ·rw[decide_eq_true q,rO]
     ·rw[decide_eq_true q,Bool.or_true])) ?_
    obtain⟨nt,ent,hnt⟩:=Gr h hL0 c
    refine mQ (fun ρ'=>∃ r,ρ'=S r) ?_ ?_
    ·by_cases q:bN c 28%(2:Nat)=0
     ·exact iV ((t1 28 (by omega) (by omega)).trans (by rw[decide_eq_true q])) (LN (d:=nr) (bL (ds:=[.int c,.int t.2]) rfl enr) (by show 11<13; omega) ⟨_,rfl,nr,rfl⟩)
     ·exact⟨_,gD ((t1 28 (by omega) (by omega)).trans (by rw[decide_eq_false q])),_,rfl,r7,rfl⟩
    rintro _ ⟨r,rfl⟩
    refine⟨_,gD (m:=.a) (ρ:=S r) (eR (bM (a:=.tuple [.bool true,.bool false]) (b:=.tuple [.bool true,.bool false]) (bL (ds:=[bkD L,.int w,nt,r]) (cH rfl (cH rfl (cH (bL (ds:=[.int c,N]) rfl (by rw[eN]; exact ent)) (cH (g:=aK) rfl rfl)))) (Lx h hw5 hnt)) rfl (TR true false))),_,.inl rfl,_,_,_,_,_,_,rfl⟩
   ·refine Ca (t2.trans (by rw[decide_eq_false (fun q=>hq (.inl q)),decide_eq_false (fun q=>hq (.inr q))]; rfl)) ?_
    have hw3:w<3:=by
     by_cases q:(w:Int) > 2
     ·exact absurd (.inr q) hq
     ·omega
    have ask:pG [bkD L,.int w,.str t.1,nr]=some (.tuple [.bool false,.bool true]):=by
     have:=Kb h mx (r:=nr) (w:=w) hw3 (by rw[ex2]; exact hnr)
     rw[ex1] at this
     exact this
    refine⟨_,gD (m:=.a) (ρ:=S r7) (eR (bM (a:=.tuple [.bool false,.bool true]) (b:=.tuple [.bool false,.bool true]) (bL (ds:=[bkD L,.int w,.str t.1,nr]) (cH rfl (cH rfl (cH rfl (cH (g:=aK) (bL (ds:=[.int c,.int t.2]) rfl enr) rfl)))) ask) rfl (TR false true))),_,.inl rfl,_,_,_,_,_,_,rfl⟩
  ·rintro _ ⟨y5,y6,y7,y9,y10,y11,rfl⟩
   exact⟨_,rfl,_,_,_,_,_,_,rfl⟩
 rintro _ ⟨y5,y6,y7,y9,y10,y11,rfl⟩
 let S:aW:=[s0 A,s0 B,x2,s0 N,some (9,bkD L),y5,y6,y7,s0 P,y9,y10,y11,none]
 have g1:eOp (vE true) (aO (qV none) (cZ "Book" (aF 4) aK)) (aF 8) (vA S)=some (.bool false):=bM (a:=P) (b:=P) (bL (eB (ds:=[]) rfl rfl) (OC h none)) rfl (Pa h)
 have g2:eOp gNe (aO (pJ none) (cZ "Book" (aF 4) aK)) (aO vN (aG (aF 3) aK)) (vA S)=some (.bool false):=by
  refine bM (a:=.list ((cT (L.map (·.1))).map bK)) (b:=.list ((cT (L.map (·.1))).map bK)) (bL (eB (ds:=[]) rfl rfl) (QA h none)) (bL (ds:=[N]) rfl ?_) (ne_self (Me _))
  rw[eN]
  exact Pj (by rw[cJ]; have:=h.len; omega)
 refine dX (gD (m:=.a) (ρ:=S) (hU (x:=false) (y:=false) (eR g1) fun _=>eR g2)) ?_
 let t:=ts[0]
 have ht:=h2 t (lX h0)
 obtain⟨x,mx,ex1,ex2⟩:=hW.at (lX h0)
 refine dX (ρ':=[s0 A,s0 B,x2,s0 N,some (9,bkD L),y5,s0 (.str t.1),s0 (.int t.2),s0 P,y9,y10,y11,none]) (FM (t:=t) (DR h0 h0 rfl rfl) rfl) ?_
 have hi:iDK (aF 8) (vS [s0 A,s0 B,x2,s0 N,some (9,bkD L),y5,s0 (.str t.1),s0 (.int t.2),s0 P,y9,y10,y11,none])=some ((cT (L.map (·.1))).map bK):=by
  unfold iDK
  show(if (plK (((cT (L.map (·.1))).map (eP L)).map kdS)&&(((cT (L.map (·.1))).map (eP L)).map kdS).all fun kd=>cM kd.1)=true then some ((((cT (L.map (·.1))).map (eP L)).map kdS).map (·.1)) else none)=_
  rw[sO,NK fun p m=>?_]
  ·show some _=_
   rw[zP,zO]
  ·obtain⟨s,ms,rfl⟩:=cA.mp m
   obtain⟨y,my,rfl⟩:=MK h ms
   exact h.nm y my
 have ndE:(((cT (L.map (·.1))).map (eP L)).map (·.1)).Nodup:=by rw[zO]; exact CU h
 have lcs:=qN (cap:=[none,some 8]) (fi:=iDK (aF 8)) (T:=gB 0) (t:=fY) (f:=aO dH (aG (eOp gIx (aF 1) (aF 0)) aK)) (ρ:=vS [s0 A,s0 B,x2,s0 N,some (9,bkD L),y5,s0 (.str t.1),s0 (.int t.2),s0 P,y9,y10,y11,none]) (xs:=cT (L.map (·.1))) (q:=bK) (fun _=>true) (fun z=>.int ((srt (rowsOf L z)).length:Int)) hi (by rw[MB h]; have:=h.len; omega) (fun z mz=>⟨[some (.str z),some P],rfl,rfl,fun _=>by
  refine bL (ds:=[lN (srt (rowsOf L z))]) (cH (g:=aK) (bM (a:=P) (b:=.str z) rfl rfl ?_) rfl) ?_
  ·show cF (((cT (L.map (·.1))).map (eP L)).map kdS) (.inr z)=_
   exact wM ndE (cA.mpr ⟨z,mz,rfl⟩)
  ·show some (aZ ((srt (rowsOf L z)).map dU).length)=_
   rw[cJ]⟩)
 rw[uR.mpr (by simp)] at lcs
 have asIs_map : ∀ l:List aB,mF (l.map fun z=>aZ ((srt (rowsOf L z)).length:Int))=some (l.map fun z=>((srt (rowsOf L z)).length:Int)):=fun l=>by
  induction l with
  | nil=>rfl
  | cons a l ih=>
   show((mF (l.map fun z=>aZ ((srt (rowsOf L z)).length:Int))).bind fun is=>some (((srt (rowsOf L a)).length:Int)::is))=_
   rw[ih]
   rfl
 refine iU (d:=.int (iK L)) (bL (cH (g:=aK) lcs rfl) ?_) (by simp) ?_
 ·show((mF ((cT (L.map (·.1))).map fun z=>aZ ((srt (rowsOf L z)).length:Int))).bind fun is=>some (aZ is.sum))=_
  rw[asIs_map,bR,Kt h]
 let S4:aW:=[s0 A,s0 B,x2,s0 N,some (9,bkD L),y5,s0 (.str t.1),s0 (.int t.2),s0 P,y9,y10,y11,s0 (.int (iK L))]
 show Goes _ S4 _
 have hw:=h.wd x mx
 have hn:nnR x.2.1∉x.2.2:=fun z=>by
  obtain⟨j,hj,e⟩:=hW.hd x mx _ z
  rw[Of hw.1] at e
  have:=eU e
  omega
 have hlen:=hW.len x mx
 have gr:=Co hw.1 hw.2
 have eG:=TK h mx gr (EK hw.2) hn (by omega)
 have hB':=NM h mx gr (EK hw.2) hn (by omega)
 let L':=L.map (adR x.1 (nnR x.2.1))
 let S5:aW:=[s0 A,s0 B,x2,s0 N,some (9,bkD L'),y5,s0 (.str t.1),s0 (.int t.2),s0 P,y9,y10,y11,s0 (.int (iK L))]
 have ea:aG (aF 6) (aG (jG (gC (aG (eC (.int 9)) (aG (eC (.int 9)) (aG (eC (.int 9)) (aG (eC (.int 9)) (aG (eC (.int 9)) (aG (eC (.int 9)) aK))))))) oN (oS (aF 7))) aK) (vS S4)=some [.str x.1,dU (nnR x.2.1)]:=by
  refine cH (by rw[ex1]; rfl) (cH (g:=aK) ((CH (ds:=[.int 9,.int 9,.int 9,.int 9,.int 9,.int 9]) (w:=t.2) rfl rfl rfl).trans ?_) rfl)
  rw[ex2]
  show _=some (gG (([(9:Int),9,9,9,9,9].take t.2).map aZ))
  rw[JD]
  rfl
 have em:nR 4 lC (aG (aF 6) (aG (jG (gC (aG (eC (.int 9)) (aG (eC (.int 9)) (aG (eC (.int 9)) (aG (eC (.int 9)) (aG (eC (.int 9)) (aG (eC (.int 9)) aK))))))) oN (oS (aF 7))) aK)) S4=some (true,S5):=by
  unfold nR
  show((aG (aF 6) _ (vS S4)).bind fun ds=>(lC (bkD L::ds)).bind fun q=>some (q.1,_))=_
  rw[ea,bR,eG,bR]
  rfl
 have eA:eV 0 .a (eOp gEq (aO (pD none) (cZ "Book" (aF 4) aK)) (aF 12)) S4=some (.bool true):=UC (bM (a:=.int (iK L)) (b:=.int (iK L)) (bL (eB (ds:=[]) rfl rfl) (ND h none)) rfl ((qO _ _).trans (by simp))) rfl
 have eC':eV 0 .a (eOp gEq (aO (pD none) (cZ "Book" (aF 4) aK)) (eOp cO (aF 12) (eC (.int 1)))) S5=some (.bool true):=by
  refine UC (bM (a:=.int (iK L')) (b:=.int (iK L+1)) (bL (eB (ds:=[]) rfl rfl) (ND hB' none)) rfl ((qO _ _).trans ?_)) rfl
  rw[OO h.nd mx]
  simp
 refine⟨_,?_,rfl⟩
 unfold HP
 rw[eA,bR]
 show((nR 4 lC _ S4).bind _)=_
 rw[em,bR]
 show((eV 0 .a _ S5).bind fun d=>some (Out.rt d))=_
 rw[eC']
 rfl
noncomputable def AM (K:aJ):Sp:=fun vs H Q _=>∃ (a:aD) (ns:List Int),vs=[.ref a]/\SqL K H a (ns.map V.int)/\ns.length≤63 /\ ∀ H',Q (.bl true) H'
theorem Bh {K:aJ} : ∀ vs H Q E,AM K vs H Q E->spF K 0 HX vs H Q E:=fun vs H Q E gh=>by
 obtain⟨a,ns,ev,hS,hl,k⟩:=gh
 subst ev
 have e0:hid H (fun _=>False)=H:=by
  funext b
  unfold hid
  rw[if_neg (fun z=>z)]
 refine⟨fun _=>False,[.list (ns.map aZ)],.bool true,fun _ z=>z.elim,?_,ZX ns hl,cY fun v H' _ r=>?_⟩
 ·rw[e0]
  exact Aag.mpr ⟨_,_,rfl,Abg.mpr ⟨a,_,rfl,hS,PX ns⟩,Aao.mpr rfl⟩
 ·rw[Aar.mp r]
  exact k H'
def Hl (K:aJ)(n:aB)(st:bH)(f:aD):Prop:=∃ (od an:Option aD) (sl:Array (Option aE)) (oc kV dc pm cd ct:aE),cP K bZ n=some (some (.ref f))/\K.lookup f=some ⟨oc,od,.func (jM n n (kB st) (iI st) (bT st) .none kV dc pm an cd ct),sl⟩/\uM K cd n=true/\lV K (.ref f)=true
def Hs (K:aJ)(n:aB)(st:bH)(f:aD):Prop:=∃ fd,Fun K n n st f fd/\cP K bZ n=some (some (.ref f))/\lV K (.ref f)=true
section
variable {K:aJ}{n:aB}{st:bH}{f:aD}
theorem Bei {od an:Option aD}{sl:Array (Option aE)}{oc kV dc pm cd ct:aE}(a:cP K bZ n=some (some (.ref f)))(l:K.lookup f=some ⟨oc,od,.func (jM n n (kB st) (iI st) (bT st) .none kV dc pm an cd ct),sl⟩)(c:uM K cd n=true)(k:lV K (.ref f)=true):Hl K n st f:=⟨_,_,_,_,_,_,_,_,_,a,l,c,k⟩
theorem Air {od an:Option aD}{sl:Array (Option aE)}{oc kV dc pm cd ct:aE}(a:cP K bZ n=some (some (.ref f)))(l:K.lookup f=some ⟨oc,od,.func (jM n n (kB st) (iI st) (bT st) .none kV dc pm an cd ct),sl⟩)(c:uM K cd n=true)(k:lV K (.ref f)=true):Hs K n st f:=⟨_,CY (st:=st) l c k,a,k⟩
noncomputable def Hs.fd (h:Hs K n st f):fJ:=Classical.choose h
theorem Hs.fn (h:Hs K n st f):Fun K n n st f h.fd:=(BX h).1
theorem Hs.df {P:bE}{w:bA}{mg:aB->Option aE}{h base:aU}{k:Nat}{ps:List aB}{sp:Sp}(X:K.In h)(G:h.Ns bZ mg)(H:Hs K n st f)(ok:FnOk P w K mg base CX0 k f H.fd ps sp)(b:Binds K H.fd ps []):Def P w K mg base n k ps sp:=⟨_,_,ok,fO X G (BX H).2.1,(BX H).2.2,b⟩
end
def Hm (K:aJ)(m q:aB)(st:bH)(cB f:aD):Prop:=∃ fd,Fun K m q st f fd/\Meth K cB m f
section
variable {K:aJ}{m q:aB}{st:bH}{cB f:aD}
theorem Aln {od an:Option aD}{sl:Array (Option aE)}{oc kV dc pm cd ct:aE}(a:kM K (.ref cB) m=some (some (.ref f)))(i:IP K (.ref f)=true)(l:K.lookup f=some ⟨oc,od,.func (jM m q (kB st) (iI st) (bT st) .none kV dc pm an cd ct),sl⟩)(c:uM K cd q=true)(k:lV K (.ref f)=true):Hm K m q st cB f:=⟨_,CY (st:=st) l c k,a,i,k⟩
noncomputable def Hm.fd (h:Hm K m q st cB f):fJ:=Classical.choose h
theorem Hm.fn (h:Hm K m q st cB f):Fun K m q st f h.fd:=(BX h).1
theorem Hm.me (h:Hm K m q st cB f):Meth K cB m f:=(BX h).2
end
theorem mR {us:List aE}{n:Nat}(h:us.length=n+1) : ∃ a r,us=a::r/\r.length=n:=by
 cases us with
 | nil=>exact absurd h (by simp)
 | cons a r=>exact⟨a,r,rfl,Nat.succ.inj h⟩
theorem mC {K:aJ}{x qual:aB}{st:bH}{f:aD}{fd:fJ}{ps:List aB}(F:Fun K x qual st f fd)(hp:ps.length=1)(h : ∀ (kV doc pm:aE) (an:Option aD) (cdv ct:aE) a,xN (jM x qual (kB st) (iI st) (bT st) .none kV doc pm an cdv ct) ⟨[a],[]⟩=pure (ps.zip [a])):Binds K fd ps []:=F.binds fun kV doc pm an cdv ct u0 hl=>by
 have g0:=hl.trans hp
 clear hl
 obtain⟨a,u1,rfl,g1⟩:=mR g0
 cases yB g1
 exact h kV doc pm an cdv ct a
theorem nX {K:aJ}{x qual:aB}{st:bH}{f:aD}{fd:fJ}{ps:List aB}(F:Fun K x qual st f fd)(hp:ps.length=2)(h : ∀ (kV doc pm:aE) (an:Option aD) (cdv ct:aE) a b,xN (jM x qual (kB st) (iI st) (bT st) .none kV doc pm an cdv ct) ⟨[a,b],[]⟩=pure (ps.zip [a,b])):Binds K fd ps []:=F.binds fun kV doc pm an cdv ct u0 hl=>by
 have g0:=hl.trans hp
 clear hl
 obtain⟨a,u1,rfl,g1⟩:=mR g0
 obtain⟨b,u2,rfl,g2⟩:=mR g1
 cases yB g2
 exact h kV doc pm an cdv ct a b
theorem uY {K:aJ}{x qual:aB}{st:bH}{f:aD}{fd:fJ}{ps:List aB}(F:Fun K x qual st f fd)(hp:ps.length=3)(h : ∀ (kV doc pm:aE) (an:Option aD) (cdv ct:aE) a b c,xN (jM x qual (kB st) (iI st) (bT st) .none kV doc pm an cdv ct) ⟨[a,b,c],[]⟩=pure (ps.zip [a,b,c])):Binds K fd ps []:=F.binds fun kV doc pm an cdv ct u0 hl=>by
 have g0:=hl.trans hp
 clear hl
 obtain⟨a,u1,rfl,g1⟩:=mR g0
 obtain⟨b,u2,rfl,g2⟩:=mR g1
 obtain⟨c,u3,rfl,g3⟩:=mR g2
 cases yB g3
 exact h kV doc pm an cdv ct a b c
theorem YA {K:aJ}{x qual:aB}{st:bH}{f:aD}{fd:fJ}{ps:List aB}(F:Fun K x qual st f fd)(hp:ps.length=4)(h : ∀ (kV doc pm:aE) (an:Option aD) (cdv ct:aE) a b c d,xN (jM x qual (kB st) (iI st) (bT st) .none kV doc pm an cdv ct) ⟨[a,b,c,d],[]⟩=pure (ps.zip [a,b,c,d])):Binds K fd ps []:=F.binds fun kV doc pm an cdv ct u0 hl=>by
 have g0:=hl.trans hp
 clear hl
 obtain⟨a,u1,rfl,g1⟩:=mR g0
 obtain⟨b,u2,rfl,g2⟩:=mR g1
 obtain⟨c,u3,rfl,g3⟩:=mR g2
 obtain⟨d,u4,rfl,g4⟩:=mR g3
 cases yB g4
 exact h kV doc pm an cdv ct a b c d
set_option maxHeartbeats 4000000 in
theorem all_mk {l:VH}{w:bA}{K:aJ}{h:aU}{mg:aB->Option aE}{fa f_is_whole f_is_name f_is_pair f_Book_tables f_Book_size f__law_cell f__law_mix f_is_value f_is_width f_Book_want_table f__law_names f__law_no_row f_is_row f_are_widths f_Book_rows f_Book_width f__law_no_table f_Book___init__ f_Book_want_row f_Book_plain f_Book_put f_Book_drop f_Book_has f__law_asked f_law:aD}(X:K.In h)(G:h.Ns bZ mg)(hfa:mg "law" = some (.ref fa)){t_LETTERS t_FIGURES t_MOST_SIGNS t_MOST_WIDTH t_MOST_TABLES t_MOST_ROWS:Tok}
  {cB:aD} (aC:cP K bZ "Book" = some (some (.ref cB))) (pg:BK K cB Str.empty=true) (hd:IR K cB=true) (po:UZ K cB=true) (sa:kM K (.ref cB) "__setattr__" = some (some (.builtin "object.__setattr__"))) (mk:VE K cB=true) (kc:lV K (.ref cB)=true) (nW:kM K (.ref cB) "wide" = some none) (nH:kM K (.ref cB) "held" = some none)
  (h_is_whole:Hs K "is_whole" GM f_is_whole) (h_is_name:Hs K "is_name" zS f_is_name) (h_is_pair:Hs K "is_pair" FY f_is_pair) (h_Book_tables:Hm K "tables" "Book.tables" HJ cB f_Book_tables) (h_Book_size:Hm K "size" "Book.size" AE cB f_Book_size) (h__law_cell:Hs K "_law_cell" GW f__law_cell) (h__law_mix:Hs K "_law_mix" GS f__law_mix) (h_is_value:Hs K "is_value" GJ f_is_value) (h_is_width:Hs K "is_width" GH f_is_width) (h_Book_want_table:Hm K "want_table" "Book.want_table" HN cB f_Book_want_table) (h__law_names:Hs K "_law_names" tV f__law_names) (h__law_no_row:Hs K "_law_no_row" AI f__law_no_row) (h_is_row:Hs K "is_row" zI f_is_row) (h_are_widths:Hs K "are_widths" xA f_are_widths) (h_Book_rows:Hm K "rows" "Book.rows" HA cB f_Book_rows) (h_Book_width:Hm K "width" "Book.width" HF cB f_Book_width) (h__law_no_table:Hs K "_law_no_table" HK f__law_no_table) (h_Book___init__:Hm K "__init__" "Book.__init__" HL cB f_Book___init__) (h_Book_want_row:Hm K "want_row" "Book.want_row" HM cB f_Book_want_row) (h_Book_plain:Hm K "plain" "Book.plain" HE cB f_Book_plain) (h_Book_put:Hm K "put" "Book.put" zZ cB f_Book_put) (h_Book_drop:Hm K "drop" "Book.drop" GY cB f_Book_drop) (h_Book_has:Hm K "has" "Book.has" GR cB f_Book_has) (h__law_asked:Hs K "_law_asked" HD f__law_asked) (h_law:Hl K "law" mH f_law)
  {c_NoTable c_NoRow c_Full c_AskError c_TooMany c_NoDeed c_NoName c_NoText:aD} (y_NoTable:cP K bZ "NoTable" = some (some (.ref c_NoTable))) (y_NoRow:cP K bZ "NoRow" = some (some (.ref c_NoRow))) (y_Full:cP K bZ "Full" = some (some (.ref c_Full))) (y_AskError:cP K bZ "AskError" = some (some (.ref c_AskError))) (y_TooMany:cP K bZ "TooMany" = some (some (.ref c_TooMany))) (y_NoDeed:cP K bZ "NoDeed" = some (some (.ref c_NoDeed))) (y_NoName:cP K bZ "NoName" = some (some (.ref c_NoName))) (y_NoText:cP K bZ "NoText" = some (some (.ref c_NoText)))
  (x_NoTable:xR K c_NoTable [.type "ValueError",.type "Exception",.type "BaseException",.type "object"] "ValueError.__new__" = true) (x_NoRow:xR K c_NoRow [.type "ValueError",.type "Exception",.type "BaseException",.type "object"] "ValueError.__new__" = true) (x_Full:xR K c_Full [.type "ValueError",.type "Exception",.type "BaseException",.type "object"] "ValueError.__new__" = true) (xc:XCls K c_NoTable) (xc_NoRow:XCls K c_NoRow)
  (e_AskError:xQ K (.ref c_NoTable) (.ref c_AskError)=some true)
  (i_TooMany:gM K (.ref c_NoTable) (.ref c_TooMany)=some false) (i_Full:gM K (.ref c_NoTable) (.ref c_Full)=some false) (i_ValueError:gM K (.ref c_NoTable) (.type "ValueError")=some true) (i_NoDeed:gM K (.ref c_NoTable) (.ref c_NoDeed)=some false) (i_NoName:gM K (.ref c_NoTable) (.ref c_NoName)=some false) (i_NoText:gM K (.ref c_NoTable) (.ref c_NoText)=some false) (i_NoRow:gM K (.ref c_NoTable) (.ref c_NoRow)=some false) (i_NoTable:gM K (.ref c_NoTable) (.ref c_NoTable)=some true)
  (e_AskError_NoRow:xQ K (.ref c_NoRow) (.ref c_AskError)=some true)
  (i_TooMany_NoRow:gM K (.ref c_NoRow) (.ref c_TooMany)=some false) (i_Full_NoRow:gM K (.ref c_NoRow) (.ref c_Full)=some false) (i_ValueError_NoRow:gM K (.ref c_NoRow) (.type "ValueError")=some true) (i_NoDeed_NoRow:gM K (.ref c_NoRow) (.ref c_NoDeed)=some false) (i_NoName_NoRow:gM K (.ref c_NoRow) (.ref c_NoName)=some false) (i_NoText_NoRow:gM K (.ref c_NoRow) (.ref c_NoText)=some false) (i_NoRow_NoRow:gM K (.ref c_NoRow) (.ref c_NoRow)=some true) (i_NoTable_NoRow:gM K (.ref c_NoRow) (.ref c_NoTable)=some false)
  (z_isinstance:cP K bZ "isinstance" = some none) (z_int:cP K bZ "int" = some none) (z_bool:cP K bZ "bool" = some none) (z_abs:cP K bZ "abs" = some none) (z_range:cP K bZ "range" = some none) (z_len:cP K bZ "len" = some none) (z_str:cP K bZ "str" = some none) (z_all:cP K bZ "all" = some none) (z_any:cP K bZ "any" = some none) (z_list:cP K bZ "list" = some none) (z_tuple:cP K bZ "tuple" = some none) (z_dict:cP K bZ "dict" = some none) (z_set:cP K bZ "set" = some none) (z_sorted:cP K bZ "sorted" = some none) (z_sum:cP K bZ "sum" = some none) (z_min:cP K bZ "min" = some none) (z_max:cP K bZ "max" = some none) (z_enumerate:cP K bZ "enumerate" = some none) (z_zip:cP K bZ "zip" = some none) (z_reversed:cP K bZ "reversed" = some none) (z_ValueError:cP K bZ "ValueError" = some none) (g_LETTERS:cP K bZ "LETTERS" = some (some (.str "abcdefghijklmnopqrstuvwxyz" t_LETTERS))) (g_FIGURES:cP K bZ "FIGURES" = some (some (.str "0123456789" t_FIGURES))) (g_MOST_SIGNS:cP K bZ "MOST_SIGNS" = some (some (.int 12 t_MOST_SIGNS))) (g_MOST_WIDTH:cP K bZ "MOST_WIDTH" = some (some (.int 6 t_MOST_WIDTH))) (g_MOST_TABLES:cP K bZ "MOST_TABLES" = some (some (.int 12 t_MOST_TABLES))) (g_MOST_ROWS:cP K bZ "MOST_ROWS" = some (some (.int 60 t_MOST_ROWS))) :
  ∃ fd:fJ,(∀ (s:aH) (v:aE),rR s fd ⟨[v],[]⟩ [("_law_script",v)]) /\ ∀ base:aU,K.In base->base.Ns bZ mg->FnOk l.prog w K mg base CX0 7 fa fd ["_law_script"] (AM K):=by
 obtain⟨_,an_law,_,_,kV_law,dc_law,pm_law,cd_law,ct_law,a_law,l_law,c_law,k_law⟩:=h_law
 have e:=hfa.symm.trans (fO X G a_law)
 cases e
 have B:Blt mg:=⟨gF X G z_isinstance,gF X G z_int,gF X G z_bool,gF X G z_abs,gF X G z_range,gF X G z_len,gF X G z_str,gF X G z_all,gF X G z_any,gF X G z_list,gF X G z_tuple,gF X G z_dict,gF X G z_set,gF X G z_sorted,gF X G z_sum,gF X G z_min,gF X G z_max,gF X G z_enumerate,gF X G z_zip,gF X G z_reversed,gF X G z_ValueError⟩
 have C:Cst mg:=⟨⟨_,fO X G g_LETTERS⟩,⟨_,fO X G g_FIGURES⟩,⟨_,fO X G g_MOST_SIGNS⟩,⟨_,fO X G g_MOST_WIDTH⟩,⟨_,fO X G g_MOST_TABLES⟩,⟨_,fO X G g_MOST_ROWS⟩⟩
 have cl:Cls K cB:=⟨pg,hd,po,sa⟩
 have hB:dM K "Book" = some (.ref cB):=zA aC
 have V:Xcs K mg:=⟨⟨_,hB,cl,nW,nH⟩,⟨_,y_NoTable,x_NoTable⟩,⟨_,y_NoRow,x_NoRow⟩,⟨_,y_Full,x_Full⟩,⟨_,_,y_NoTable,fO X G y_AskError,e_AskError⟩,⟨_,_,y_NoTable,fO X G y_TooMany,xc,i_TooMany⟩,⟨_,_,y_NoTable,fO X G y_Full,xc,i_Full⟩,⟨_,y_NoTable,gF X G z_ValueError,xc,i_ValueError⟩,⟨_,_,y_NoTable,fO X G y_NoDeed,xc,i_NoDeed⟩,⟨_,_,y_NoTable,fO X G y_NoName,xc,i_NoName⟩,⟨_,_,y_NoTable,fO X G y_NoText,xc,i_NoText⟩,⟨_,_,y_NoTable,fO X G y_NoRow,xc,i_NoRow⟩,⟨_,_,y_NoTable,fO X G y_NoTable,xc,i_NoTable⟩,⟨_,_,y_NoRow,fO X G y_AskError,e_AskError_NoRow⟩,⟨_,_,y_NoRow,fO X G y_TooMany,xc_NoRow,i_TooMany_NoRow⟩,⟨_,_,y_NoRow,fO X G y_Full,xc_NoRow,i_Full_NoRow⟩,⟨_,y_NoRow,gF X G z_ValueError,xc_NoRow,i_ValueError_NoRow⟩,⟨_,_,y_NoRow,fO X G y_NoDeed,xc_NoRow,i_NoDeed_NoRow⟩,⟨_,_,y_NoRow,fO X G y_NoName,xc_NoRow,i_NoName_NoRow⟩,⟨_,_,y_NoRow,fO X G y_NoText,xc_NoRow,i_NoText_NoRow⟩,⟨_,_,y_NoRow,fO X G y_NoRow,xc_NoRow,i_NoRow_NoRow⟩,⟨_,_,y_NoRow,fO X G y_NoTable,xc_NoRow,i_NoTable_NoRow⟩⟩
 refine⟨jM "law" "law" (kB mH) (iI mH) (bT mH) .none kV_law dc_law pm_law an_law cd_law ct_law,fun s v=>.of_eq rfl,fun base _ _=>?_⟩
 have D_is_whole:Def l.prog w K mg base "is_whole" 1 tT (spF K 0 pB):=h_is_whole.df X G (Gy h_is_whole.fn B C V ) (mC h_is_whole.fn (ps:=tT) rfl fun _ _ _ _ _ _ _=>rfl)
 have D_is_name:Def l.prog w K mg base "is_name" 1 tM (spF K 0 dR):=h_is_name.df X G (Eo h_is_name.fn B C V ) (mC h_is_name.fn (ps:=tM) rfl fun _ _ _ _ _ _ _=>rfl)
 have D_is_pair:Def l.prog w K mg base "is_pair" 1 wQ (spF K 0 qU):=h_is_pair.df X G (Fy h_is_pair.fn B C V ) (mC h_is_pair.fn (ps:=wQ) rfl fun _ _ _ _ _ _ _=>rfl)
 have D_Book_tables:MethX l.prog w K mg base "Book" "tables" 1 tZ (spX K 1 pJ):=⟨⟨_,_,_,hB,cl,h_Book_tables.me,Je h_Book_tables.fn B C V ,(mC h_Book_tables.fn (ps:=tZ) rfl fun _ _ _ _ _ _ _=>rfl)⟩⟩
 have D_Book_size:MethX l.prog w K mg base "Book" "size" 1 xB (spX K 0 pD):=⟨⟨_,_,_,hB,cl,h_Book_size.me,Iv h_Book_size.fn B C V ,(mC h_Book_size.fn (ps:=xB) rfl fun _ _ _ _ _ _ _=>rfl)⟩⟩
 have D__law_cell:Def l.prog w K mg base "_law_cell" 1 wX (spF K 0 kG):=h__law_cell.df X G (Hq h__law_cell.fn B C V ) (nX h__law_cell.fn (ps:=wX) rfl fun _ _ _ _ _ _ _ _=>rfl)
 have D__law_mix:Def l.prog w K mg base "_law_mix" 1 pA (spF K 0 dE):=h__law_mix.df X G (Gj h__law_mix.fn B C V ) (nX h__law_mix.fn (ps:=pA) rfl fun _ _ _ _ _ _ _ _=>rfl)
 have D_is_value:Def l.prog w K mg base "is_value" 2 wW (spF K 0 tR):=h_is_value.df X G (Gz h_is_value.fn B C V D_is_whole) (mC h_is_value.fn (ps:=wW) rfl fun _ _ _ _ _ _ _=>rfl)
 have D_is_width:Def l.prog w K mg base "is_width" 2 wV (spF K 0 nP):=h_is_width.df X G (Gw h_is_width.fn B C V D_is_whole) (mC h_is_width.fn (ps:=wV) rfl fun _ _ _ _ _ _ _=>rfl)
 have D_Book_want_table:MethX l.prog w K mg base "Book" "want_table" 2 qX (spX K 0 lD):=⟨⟨_,_,_,hB,cl,h_Book_want_table.me,Jm h_Book_want_table.fn B C V D_is_name,(nX h_Book_want_table.fn (ps:=qX) rfl fun _ _ _ _ _ _ _ _=>rfl)⟩⟩
 have D__law_names:Def l.prog w K mg base "_law_names" 2 tW (spF K 1 pH):=h__law_names.df X G (Ii h__law_names.fn B C V D__law_mix) (nX h__law_names.fn (ps:=tW) rfl fun _ _ _ _ _ _ _ _=>rfl)
 have D__law_no_row:Def l.prog w K mg base "_law_no_row" 2 xC (spF K 0 uA):=h__law_no_row.df X G (Jf h__law_no_row.fn B C V D__law_mix) (nX h__law_no_row.fn (ps:=xC) rfl fun _ _ _ _ _ _ _ _=>rfl)
 have D_is_row:Def l.prog w K mg base "is_row" 3 wN (spF K 0 mS):=h_is_row.df X G (Cc h_is_row.fn B C V D_is_value) (mC h_is_row.fn (ps:=wN) rfl fun _ _ _ _ _ _ _=>rfl)
 have D_are_widths:Def l.prog w K mg base "are_widths" 3 xF (spF K 0 pF):=h_are_widths.df X G (Im h_are_widths.fn B C V D_is_name D_is_pair D_is_width) (mC h_are_widths.fn (ps:=xF) rfl fun _ _ _ _ _ _ _=>rfl)
 have D_Book_rows:MethX l.prog w K mg base "Book" "rows" 3 tU (spX K 1 mU):=⟨⟨_,_,_,hB,cl,h_Book_rows.me,Ib h_Book_rows.fn B C V D_Book_want_table,(nX h_Book_rows.fn (ps:=tU) rfl fun _ _ _ _ _ _ _ _=>rfl)⟩⟩
 have D_Book_width:MethX l.prog w K mg base "Book" "width" 3 xE (spX K 0 tX):=⟨⟨_,_,_,hB,cl,h_Book_width.me,Ip h_Book_width.fn B C V D_Book_want_table,(nX h_Book_width.fn (ps:=xE) rfl fun _ _ _ _ _ _ _ _=>rfl)⟩⟩
 have D__law_no_table:Def l.prog w K mg base "_law_no_table" 3 xG (spF K 0 xH):=h__law_no_table.df X G (Jk h__law_no_table.fn B C V D__law_mix D__law_names) (nX h__law_no_table.fn (ps:=xG) rfl fun _ _ _ _ _ _ _ _=>rfl)
 have D_Book___init__:MakeX l.prog w K mg base "Book" 4 xI tY:=⟨⟨_,_,_,hB,⟨mk,h_Book___init__.me.at_,h_Book___init__.me.fn,kc⟩,Jl h_Book___init__.fn B C V D_are_widths,(nX h_Book___init__.fn (ps:=xI) rfl fun _ _ _ _ _ _ _ _=>rfl),fO X G aC⟩,Fl⟩
 have D_Book_want_row:MethX l.prog w K mg base "Book" "want_row" 4 pI (spX K 0 iA):=⟨⟨_,_,_,hB,cl,h_Book_want_row.me,Jj h_Book_want_row.fn B C V D_Book_want_table D_is_row,(uY h_Book_want_row.fn (ps:=pI) rfl fun _ _ _ _ _ _ _ _ _=>rfl)⟩⟩
 have D_Book_plain:MethX l.prog w K mg base "Book" "plain" 4 wZ (spX K 2 qV):=⟨⟨_,_,_,hB,cl,h_Book_plain.me,Il h_Book_plain.fn B C V D_Book_tables D_Book_rows,(mC h_Book_plain.fn (ps:=wZ) rfl fun _ _ _ _ _ _ _=>rfl)⟩⟩
 have D_Book_put:MethX l.prog w K mg base "Book" "put" 5 nO (spX K 0 oY):=⟨⟨_,_,_,hB,cl,h_Book_put.me,Gq h_Book_put.fn B C V D_Book_want_row,(uY h_Book_put.fn (ps:=nO) rfl fun _ _ _ _ _ _ _ _ _=>rfl)⟩⟩
 have DM_Book_put:MethM l.prog w K mg base "Book" "put" 5 nO lC:=⟨⟨_,_,_,hB,cl,h_Book_put.me,Hk h_Book_put.fn B C V D_Book_want_row,(uY h_Book_put.fn (ps:=nO) rfl fun _ _ _ _ _ _ _ _ _=>rfl)⟩,Hc⟩
 have D_Book_drop:MethX l.prog w K mg base "Book" "drop" 5 wY (spX K 0 pE):=⟨⟨_,_,_,hB,cl,h_Book_drop.me,Hx h_Book_drop.fn B C V D_Book_want_row,(uY h_Book_drop.fn (ps:=wY) rfl fun _ _ _ _ _ _ _ _ _=>rfl)⟩⟩
 have D_Book_has:MethX l.prog w K mg base "Book" "has" 5 wU (spX K 0 oZ):=⟨⟨_,_,_,hB,cl,h_Book_has.me,Gn h_Book_has.fn B C V D_Book_want_row,(uY h_Book_has.fn (ps:=wU) rfl fun _ _ _ _ _ _ _ _ _=>rfl)⟩⟩
 have D__law_asked:Def l.prog w K mg base "_law_asked" 6 xD (spF K 0 pG):=h__law_asked.df X G (Ij h__law_asked.fn B C V D_Book_rows D_Book_width D_Book_put D_Book_drop D_Book_has) (YA h__law_asked.fn (ps:=xD) rfl fun _ _ _ _ _ _ _ _ _ _=>rfl)
 exact(YY (CY (st:=mH) l_law c_law k_law) B C V D_Book_tables D_Book_size D__law_cell D__law_mix D__law_names D__law_no_row D__law_no_table D_Book___init__ D_Book_plain D__law_asked DM_Book_put).imp Bh
theorem walk {l:VH}{q:bE}{loose:List aB}{XP:(aB->Option aE)->aU->Prop}{YP:bA->aU->Prop}{d:DefRec}{K:Params->aJ}(hn:l.most=some 63)(hdf:d.params.defaults=[])
  (hY : ∀ (w:bA) (h:aU),YP w h->(K w.params).In h)
  (F : ∀ (w:bA) (mg:aB->Option aE) (fa:aD) (h:aU),(K w.params).In h->h.Ns bZ mg->mg d.name=some (.ref fa) ->
   ∃ fd:fJ,(∀ (s:aH) (u:aE),rR s fd ⟨[u],[]⟩ [("_law_script",u)]) /\ ∀ base:aU,(K w.params).In base->base.Ns bZ mg->FnOk l.prog w (K w.params) mg base CX0 7 fa fd ["_law_script"] (AM (K w.params))) :
  PySem.W.WalkO q loose XP YP l.row.toRowW d [] (fun f vs=>PySem.call f vs):=
 L2.A8l (n:=63) (k:=7) (x:="_law_script") (CX:=fun _=>CX0) (sp:=fun w=>AM (K w.params)) hn (by decide) hdf ⟨rfl,by decide,by decide⟩ hY F (fun _ _ a ns hl _ hS=>⟨a,ns,rfl,hS,hl,fun _=>rfl⟩) fun _ _ _ _ _ z=>z
end Aw
def PySem.W.Fast.tw10089681376170009040:=0
def PySem.W.Fast.tw15698757283297888615:=0
def PySem.W.Fast.tw9954854225419738037:=0
def PySem.W.Fast.tw15079808651479986113:=0
def PySem.W.Fast.tw2389315102469269602:=0
def PySem.W.Fast.tw5980253993614587815:=0
def PySem.W.Fast.tw11848260376686829972:=0
def PySem.W.Fast.tw587555141848617167:=0
def PySem.W.Fast.tw14171448783289296761:=0
def PySem.W.Fast.tw13527924857946548292:=0
def PySem.W.Fast.tw9496702117082188307:=0
def PySem.W.Fast.tw8312280745468616256:=0
def PySem.W.Fast.tw2090674909558188179:=0
def PySem.W.Fast.tw10896066723558909359:=0
def PySem.W.Fast.tw2410613494818727991:=0
def PySem.W.Fast.tw7123355434918345890:=0
def PySem.W.Fast.tw5549114139758404288:=0
def PySem.W.Fast.tw1110710385055899719:=0
def PySem.W.Fast.tw2964048918175975156:=0
def PySem.W.Fast.tw14025356155150278600:=0
def PySem.W.Fast.tw9073719421005552062:=0
def PySem.W.Fast.tw8272897911089511726:=0
def PySem.W.Fast.tw7427892170937609923:=0
def PySem.W.Fast.tw1553972050635563615:=0
def PySem.W.Fast.tw3151217172460897104:=0
def PySem.W.Fast.tw16321869391901896162:=0
def PySem.W.Fast.tw13910371481326055646:=0
def PySem.W.Fast.tw1304032705508654257:=0
def PySem.W.Fast.tw12473754203450518743:=0
def PySem.W.Fast.tw5646739297301254256:=0
def PySem.W.Fast.tw526324240423446172:=0
def PySem.W.Fast.tw6933609049338456569:=0
def PySem.W.Fast.tw14216474513602387526:=0
def PySem.W.Fast.tw4187450042929459368:=0
def PySem.W.Fast.tw9328957120272419868:=0
def PySem.W.Fast.tw3833210529381693376:=0
def PySem.W.Fast.tw1985529137960232037:=0
def PySem.W.Fast.tw2800908403619111613:=0
def PySem.W.Fast.tw14692007573309511095:=0
def PySem.W.Fast.tw204042873194781058:=0
def PySem.W.Fast.tw17118682807563084543:=0
def PySem.W.Fast.tw5767440388848258292:=0
def PySem.W.Fast.tw13800161551460787544:=0
def PySem.W.Fast.tw1761019796058508733:=0
def PySem.W.Fast.tw3033448860655619003:=0
def PySem.W.Fast.tw12621271630103107701:=0
def PySem.W.Fast.tw11800072550501608348:=0
def PySem.W.Fast.tw7683060158748788659:=0
def PySem.W.Fast.tw7415567350293711079:=0
def PySem.W.Fast.tw16578927746669444953:=0
def PySem.W.Fast.tw4787185427266483853:=0
def PySem.W.Fast.tw10849165394953129683:=0
def PySem.W.Fast.tw7052619147393726847:=0
def PySem.W.Fast.tw17750962256391817502:=0
def PySem.W.Fast.tw8610176567921374213:=0
def PySem.W.Fast.tw1068627012634284883:=0
def PySem.W.Fast.tw7170724551443167566:=0
def PySem.W.Fast.tw18268919479988360114:=0
def PySem.W.Fast.tw5756348842628576596:=0
def PySem.W.Fast.tw11336034566111872036:=0
def PySem.W.Fast.tw11759238311304728825:=0
def PySem.W.Fast.tw14655185935118247748:=0
def PySem.W.Fast.tw14727668709831484138:=0
def PySem.W.Fast.tw7705635726139455190:=0
def PySem.W.Fast.tw13641781354985853424:=0
def PySem.W.Fast.tw14811038315590238479:=0
def PySem.W.Fast.tw14208866945817179526:=0
def PySem.W.Fast.tw17263654655401191795:=0
def PySem.W.Fast.tw3392110834530324370:=0
def PySem.W.Fast.tw17983012911650040636:=0
def PySem.W.Fast.tw12283486211041568624:=0
def PySem.W.Fast.tw4956482518120098803:=0
def PySem.W.Fast.tw7004062746603776238:=0
def PySem.W.Fast.tw13639187899544898027:=0
def PySem.W.Fast.tw6656013737529558675:=0
def PySem.W.Fast.tw3267970953689444366:=0
def PySem.W.Fast.tw10027089819062914107:=0
def PySem.W.Fast.tw9537114438342471602:=0
def PySem.W.Fast.tw4599380456758340463:=0
def PySem.W.Fast.tw5064817669061900623:=0
def PySem.W.Fast.tw7754522016576442829:=0
def PySem.W.Fast.tw7857128432031693238:=0
def PySem.W.Fast.tw15066089469834112164:=0
def PySem.W.Fast.tw8323833920404446068:=0
def PySem.W.Fast.tw9312973152133358822:=0
def PySem.W.Fast.tw2953296401021974471:=0
def PySem.W.Fast.tw7586552212836181277:=0
def PySem.W.Fast.tw7194173022646119950:=0
def PySem.W.Fast.tw244564398818616888:=0
def PySem.W.Fast.tw7916455298612231520:=0
def PySem.W.Fast.tw3644689725792336221:=0
def PySem.W.Fast.tw2802625830682362903:=0
def PySem.W.Fast.tw3265935435598408767:=0
def PySem.W.Fast.tw3897472815089677523:=0
def PySem.W.Fast.tw4936356422419349536:=0
def PySem.W.Fast.tw7488917362171653196:=0
def PySem.W.Fast.tw4068697353231314963:=0
def PySem.W.Fast.tw17860264099951754124:=0
def PySem.W.Fast.tw4611392423523046725:=0
def PySem.W.Fast.tw599854979876823507:=0
def PySem.W.Fast.tw11575259617338853450:=0
def PySem.W.Fast.tw9534406904021922158:=0
def PySem.W.Fast.tw5069983758189537249:=0
def PySem.W.Fast.tw5490122196945319249:=0
def PySem.W.Fast.tw14157612972210192917:=0
def PySem.W.Fast.tw17175993822642344965:=0
def PySem.W.Fast.tw14234659491561037673:=0
def PySem.W.Fast.tw2663703296423247797:=0
def PySem.W.Fast.tw17273304803500595061:=0
def PySem.W.Fast.tw6869811351801677381:=0
def PySem.W.Fast.tw9823455115308450083:=0
def PySem.W.Fast.tw6828812236190543244:=0
def PySem.W.Fast.tw10982285033288385373:=0
def PySem.W.Fast.tw17465588181925945088:=0
def PySem.W.Fast.tw8917719752842255033:=0
def PySem.W.Fast.tw14213880755707649439:=0
def PySem.W.Fast.tw4257175954894579879:=0
def PySem.W.Fast.tw2736497505532110887:=0
def PySem.W.Fast.tw11295937819323240709:=0
def PySem.W.Fast.tw4881370858039252315:=0
def PySem.W.Fast.tw10148756046773800212:=0
def PySem.W.Fast.tw16501386587540622916:=0
def PySem.W.Fast.tw11970392643651478259:=0
def PySem.W.Fast.tw12211606810667743498:=0
def PySem.W.Fast.tw9270954872042183194:=0
def PySem.W.Fast.tw2536453714547692336:=0
def PySem.W.Fast.tw4730130661167700496:=0
def PySem.W.Fast.tw8504802951665818617:=0
def PySem.W.Fast.tw8567908707405315577:=0
def PySem.W.Fast.tw11381121080804508539:=0
def PySem.W.Fast.tw2531570556081104668:=0
def PySem.W.Fast.tw273710329235839086:=0
def PySem.W.Fast.tw10199148526628706870:=0
def PySem.W.Fast.tw17490085081990629631:=0
def PySem.W.Fast.tw10107672593890916926:=0
def PySem.W.Fast.tw13650925178131617995:=0
def PySem.W.Fast.tw10627546919713216275:=0
def PySem.W.Fast.tw795719038949404305:=0
def PySem.W.Fast.tw4840194099236078778:=0
def PySem.W.Fast.tw5687873893698162183:=0
def PySem.W.Fast.tw3068792142947547655:=0
def PySem.W.Fast.tw11143783612841552921:=0
def PySem.W.Fast.tw15423357897400382038:=0
def PySem.W.Fast.tw16376286630399683223:=0
def PySem.W.Fast.tw11990733357234170752:=0
def PySem.W.Fast.tw2863120283891840643:=0
def PySem.W.Fast.tw9508004373175665480:=0
def PySem.W.Fast.tw4606248149260458461:=0
def PySem.W.Fast.tw10896838171574146343:=0
def PySem.W.Fast.tw11895257487042845386:=0
def PySem.W.Fast.tw7977928852619427052:=0
def PySem.W.Fast.tw9696582443440351754:=0
def PySem.W.Fast.tw4665151481330446955:=0
def PySem.W.Fast.tw18328487769259680357:=0
def PySem.W.Fast.tw15741081137220379752:=0
def PySem.W.Fast.tw4084532869004357914:=0
def PySem.W.Fast.tw1654200350377713356:=0
def PySem.W.Fast.tw17122249528242232108:=0
def PySem.W.Fast.tw11081621699991873550:=0
def PySem.W.Fast.tw8834527359905643333:=0
def PySem.W.Fast.tw4006856345453594254:=0
def PySem.W.Fast.tw3725413978127764477:=0
def PySem.W.Fast.tw17043701928452071136:=0
def PySem.W.Fast.tw7737331399422242298:=0
def PySem.W.Fast.tw2582838421564992115:=0
def PySem.W.Fast.tw7622502972125903947:=0
def PySem.W.Fast.tw3199122526445983441:=0
def PySem.W.Fast.tw10397701566486204703:=0
def PySem.W.Fast.tw16248350794275053115:=0
def PySem.W.Fast.tw6301181917512200126:=0
def PySem.W.Fast.tw7430019632737810166:=0
def PySem.W.Fast.tw4416903011680879586:=0
def PySem.W.Fast.tw2858059634531725692:=0
def PySem.W.Fast.tw1392000385388981157:=0
def PySem.W.Fast.tw2339453986224795320:=0
def PySem.W.Fast.tw13991017864582058365:=0
def PySem.W.Fast.tw15754811128181409921:=0
def PySem.W.Fast.tw15529224884581421165:=0
def PySem.W.Fast.tw9083081323798252944:=0
def PySem.W.Fast.tw7540253493141890784:=0
def PySem.W.Fast.tw15624934101645216256:=0
def PySem.W.Fast.tw4139669086930520519:=0
def PySem.W.Fast.tw5100829307685525332:=0
def PySem.W.Fast.tw13868954628859622458:=0
def PySem.W.Fast.tw10359685979635211866:=0
def PySem.W.Fast.tw14459374562707385296:=0
def PySem.W.Fast.tw4042649925479154487:=0
def PySem.W.Fast.tw12911780238976477787:=0
def PySem.W.Fast.tw1560762204277618319:=0
def PySem.W.Fast.tw15318960365353635427:=0
def PySem.W.Fast.tw8492688175298501543:=0
def PySem.W.Fast.tw11219068416993964580:=0
def PySem.W.Fast.tw1263176293199159934:=0
def PySem.W.Fast.tw13820666368319178645:=0
def PySem.W.Fast.tw6383023015094812555:=0
def PySem.W.Fast.tw7648813605036493406:=0
def PySem.W.Fast.tw307495592642493058:=0
def PySem.W.Fast.tw8881597696892749572:=0
def PySem.W.Fast.tw12693263410298067615:=0
def PySem.W.Fast.tw479898489065079158:=0
def PySem.W.Fast.tw1057577911062308246:=0
def PySem.W.Fast.tw15168405310784563589:=0
def PySem.W.Fast.tw14712012088551932365:=0
def PySem.W.Fast.tw17069821241650594838:=0
def PySem.W.Fast.tw3920301127324789699:=0
def PySem.W.Fast.tw1932338286852327530:=0
def PySem.W.Fast.tw13202623090453790032:=0
def PySem.W.Fast.tw17000484180772137233:=0
def PySem.W.Fast.tw16672890752917331460:=0
def PySem.W.Fast.tw1276263856149844850:=0
def PySem.W.Fast.tw8794187845916264216:=0
def PySem.W.Fast.tw5437988970639172893:=0
def PySem.W.Fast.tw9789596720613783289:=0
def PySem.W.Fast.tw17378646775782136194:=0
def PySem.W.Fast.tw7031281460429267403:=0
def PySem.W.Fast.tw11944343090137101230:=0
def PySem.W.Fast.tw17773369128810875292:=0
def PySem.W.Fast.tw8884291398118126942:=0
def PySem.W.Fast.tw6029597797057021070:=0
def PySem.W.Fast.tw4022409170051041000:=0
def PySem.W.Fast.tw6736160165934930564:=0
def PySem.W.Fast.tw15102868482279250296:=0
def PySem.W.Fast.tw5627119329312822861:=0
def PySem.W.Fast.tw11022080651599830859:=0
def PySem.W.Fast.tw11425581670773221885:=0
def PySem.W.Fast.tw8102088239706356355:=0
def PySem.W.Fast.tw6334823581703474017:=0
def PySem.W.Fast.tw3728394473388287639:=0
def PySem.W.Fast.tw6231610257503705365:=0
def PySem.W.Fast.tw11813976056414341200:=0
def PySem.W.Fast.tw4193594207260938604:=0
def PySem.W.Fast.tw17070332483855537588:=0
def PySem.W.Fast.tw12843164047023573881:=0
def PySem.W.Fast.tw9973166375242246296:=0
def PySem.W.Fast.tw7012036845927229208:=0
def PySem.W.Fast.tw13331597131636925977:=0
def PySem.W.Fast.tw9871471659223754538:=0
def PySem.W.Fast.tw3584913792635760886:=0
def PySem.W.Fast.tw16540250112969024289:=0
def PySem.W.Fast.tw6896767061292851148:=0
def PySem.W.Fast.tw9863679074004745561:=0
def PySem.W.Fast.tw14148063520078354661:=0
def PySem.W.Fast.tw5667088754803215520:=0
def PySem.W.Fast.tw17284360536671173585:=0
def PySem.W.Fast.tw14918062419206660421:=0
def PySem.W.Fast.tw451699986443590995:=0
def PySem.W.Fast.tw2718976425420002569:=0
def PySem.W.Fast.tw4128060000085090598:=0
def PySem.W.Fast.tw9036959666600136005:=0
def PySem.W.Fast.tw10906544272998981100:=0
def PySem.W.Fast.tw9754512864587298884:=0
def PySem.W.Fast.tw16216942204106263749:=0
def PySem.W.Fast.tw4674028751490804868:=0
def PySem.W.Fast.tw6626605699163951516:=0
def PySem.W.Fast.tw12073657958014994234:=0
def PySem.W.Fast.tw16670219980469285033:=0
def PySem.W.Fast.tw16523957812055489696:=0
def PySem.W.Fast.tw6308133188860868004:=0
def PySem.W.Fast.tw7844773613654789546:=0
def PySem.W.Fast.tw9603188480233597287:=0
def PySem.W.Fast.tw1524169013857974830:=0
def PySem.W.Fast.tw18059672223279691257:=0
def PySem.W.Fast.tw17382683306861746574:=0
def PySem.W.Fast.tw8829807613198387817:=0
def PySem.W.Fast.tw16682498557539536808:=0
def PySem.W.Fast.tw2314043826777420274:=0
def PySem.W.Fast.tw3377274218183178682:=0
def PySem.W.Fast.tw14743076556645728873:=0
def PySem.W.Fast.tw16628659346263536541:=0
def PySem.W.Fast.tw7816045233492527461:=0
def PySem.W.Fast.tw15558160946790134413:=0
def PySem.W.Fast.tw4312353101014951420:=0
def PySem.W.Fast.tw5009420514991002856:=0
def PySem.W.Fast.tw16085162482437139890:=0
def PySem.W.Fast.tw1734576685844753763:=0
def PySem.W.Fast.tw6322310950380382194:=0
def PySem.W.Fast.tw4279007369892814099:=0
def PySem.W.Fast.tw14221703012391340628:=0
def PySem.W.Fast.tw3207965734398499071:=0
def PySem.W.Fast.tw9611576196693676973:=0
def PySem.W.Fast.tw2417059252387971699:=0
def PySem.W.Fast.tw13388460426439012633:=0
def PySem.W.Fast.tw5927735433990569104:=0
def PySem.W.Fast.tw12042465573649892407:=0
def PySem.W.Fast.tw6463463749903564763:=0
def PySem.W.Fast.tw5061058344928462748:=0
def PySem.W.Fast.tw5105153298293209989:=0
def PySem.W.Fast.tw496177477028124005:=0
def PySem.W.Fast.tw5340541867822188704:=0
open PySem PySem.W PyProof.Rows
set_option maxRecDepth 100000 in
set_option maxHeartbeats 0 in
theorem PySem.Challenge.cw_askwithin_k10_deeds_refused_holds : PySem.Challenge.rw_askwithin_k10_deeds_refused.Holds := by
 w_on; o_law; k_head; (case hw=>w_witness2)
 k_fill
 refine Aw.walk (l:=PySem.Challenge.rw_askwithin_k10_deeds_refused) rfl rfl (fun w h Y=>PySem.W.kIn_of Y) ?F
 case F=>
  intro w mg fa h KX G hmg
  refine' Aw.all_mk KX G hmg ?aC ?pg ?hd ?po ?sa ?mk ?kc ?nW ?nH (Aw.Air ?a_is_whole ?l_is_whole ?c_is_whole ?k_is_whole) (Aw.Air ?a_is_name ?l_is_name ?c_is_name ?k_is_name) (Aw.Air ?a_is_pair ?l_is_pair ?c_is_pair ?k_is_pair) (Aw.Aln ?a_Book_tables ?i_Book_tables ?l_Book_tables ?c_Book_tables ?k_Book_tables) (Aw.Aln ?a_Book_size ?i_Book_size ?l_Book_size ?c_Book_size ?k_Book_size) (Aw.Air ?a__law_cell ?l__law_cell ?c__law_cell ?k__law_cell) (Aw.Air ?a__law_mix ?l__law_mix ?c__law_mix ?k__law_mix) (Aw.Air ?a_is_value ?l_is_value ?c_is_value ?k_is_value) (Aw.Air ?a_is_width ?l_is_width ?c_is_width ?k_is_width) (Aw.Aln ?a_Book_want_table ?i_Book_want_table ?l_Book_want_table ?c_Book_want_table ?k_Book_want_table) (Aw.Air ?a__law_names ?l__law_names ?c__law_names ?k__law_names) (Aw.Air ?a__law_no_row ?l__law_no_row ?c__law_no_row ?k__law_no_row) (Aw.Air ?a_is_row ?l_is_row ?c_is_row ?k_is_row) (Aw.Air ?a_are_widths ?l_are_widths ?c_are_widths ?k_are_widths) (Aw.Aln ?a_Book_rows ?i_Book_rows ?l_Book_rows ?c_Book_rows ?k_Book_rows) (Aw.Aln ?a_Book_width ?i_Book_width ?l_Book_width ?c_Book_width ?k_Book_width) (Aw.Air ?a__law_no_table ?l__law_no_table ?c__law_no_table ?k__law_no_table) (Aw.Aln ?a_Book___init__ ?i_Book___init__ ?l_Book___init__ ?c_Book___init__ ?k_Book___init__) (Aw.Aln ?a_Book_want_row ?i_Book_want_row ?l_Book_want_row ?c_Book_want_row ?k_Book_want_row) (Aw.Aln ?a_Book_plain ?i_Book_plain ?l_Book_plain ?c_Book_plain ?k_Book_plain) (Aw.Aln ?a_Book_put ?i_Book_put ?l_Book_put ?c_Book_put ?k_Book_put) (Aw.Aln ?a_Book_drop ?i_Book_drop ?l_Book_drop ?c_Book_drop ?k_Book_drop) (Aw.Aln ?a_Book_has ?i_Book_has ?l_Book_has ?c_Book_has ?k_Book_has) (Aw.Air ?a__law_asked ?l__law_asked ?c__law_asked ?k__law_asked) (Aw.Bei ?a_law ?l_law ?c_law ?k_law)  ?y_NoTable ?y_NoRow ?y_Full ?y_AskError ?y_TooMany ?y_NoDeed ?y_NoName ?y_NoText ?x_NoTable ?x_NoRow ?x_Full ⟨?xga,?xgh,?xcl,?xmo,?xmb,?xic⟩ ⟨?xga_NoRow,?xgh_NoRow,?xcl_NoRow,?xmo_NoRow,?xmb_NoRow,?xic_NoRow⟩ ?e_AskError ?i_TooMany ?i_Full ?i_ValueError ?i_NoDeed ?i_NoName ?i_NoText ?i_NoRow ?i_NoTable ?e_AskError_NoRow ?i_TooMany_NoRow ?i_Full_NoRow ?i_ValueError_NoRow ?i_NoDeed_NoRow ?i_NoName_NoRow ?i_NoText_NoRow ?i_NoRow_NoRow ?i_NoTable_NoRow ?z_isinstance ?z_int ?z_bool ?z_abs ?z_range ?z_len ?z_str ?z_all ?z_any ?z_list ?z_tuple ?z_dict ?z_set ?z_sorted ?z_sum ?z_min ?z_max ?z_enumerate ?z_zip ?z_reversed ?z_ValueError ?g_LETTERS ?g_FIGURES ?g_MOST_SIGNS ?g_MOST_WIDTH ?g_MOST_TABLES ?g_MOST_ROWS
  (case aC=>k_is); (case pg=>k_is); (case hd=>k_is); (case po=>k_is); (case sa=>k_is); (case mk=>k_is); (case kc=>k_is); (case nW=>k_is); (case nH=>k_is)
  (case a_is_whole=>k_is); (case l_is_whole=>k_is); (case c_is_whole=>k_is); (case k_is_whole=>k_is)
  (case a_is_name=>k_is); (case l_is_name=>k_is); (case c_is_name=>k_is); (case k_is_name=>k_is)
  (case a_is_pair=>k_is); (case l_is_pair=>k_is); (case c_is_pair=>k_is); (case k_is_pair=>k_is)
  (case a_Book_tables=>k_is); (case i_Book_tables=>k_is); (case l_Book_tables=>k_is); (case c_Book_tables=>k_is); (case k_Book_tables=>k_is)
  (case a_Book_size=>k_is); (case i_Book_size=>k_is); (case l_Book_size=>k_is); (case c_Book_size=>k_is); (case k_Book_size=>k_is)
  (case a__law_cell=>k_is); (case l__law_cell=>k_is); (case c__law_cell=>k_is); (case k__law_cell=>k_is)
  (case a__law_mix=>k_is); (case l__law_mix=>k_is); (case c__law_mix=>k_is); (case k__law_mix=>k_is)
  (case a_is_value=>k_is); (case l_is_value=>k_is); (case c_is_value=>k_is); (case k_is_value=>k_is)
  (case a_is_width=>k_is); (case l_is_width=>k_is); (case c_is_width=>k_is); (case k_is_width=>k_is)
  (case a_Book_want_table=>k_is); (case i_Book_want_table=>k_is); (case l_Book_want_table=>k_is); (case c_Book_want_table=>k_is); (case k_Book_want_table=>k_is)
  (case a__law_names=>k_is); (case l__law_names=>k_is); (case c__law_names=>k_is); (case k__law_names=>k_is)
  (case a__law_no_row=>k_is); (case l__law_no_row=>k_is); (case c__law_no_row=>k_is); (case k__law_no_row=>k_is)
  (case a_is_row=>k_is); (case l_is_row=>k_is); (case c_is_row=>k_is); (case k_is_row=>k_is)
  (case a_are_widths=>k_is); (case l_are_widths=>k_is); (case c_are_widths=>k_is); (case k_are_widths=>k_is)
  (case a_Book_rows=>k_is); (case i_Book_rows=>k_is); (case l_Book_rows=>k_is); (case c_Book_rows=>k_is); (case k_Book_rows=>k_is)
  (case a_Book_width=>k_is); (case i_Book_width=>k_is); (case l_Book_width=>k_is); (case c_Book_width=>k_is); (case k_Book_width=>k_is)
  (case a__law_no_table=>k_is); (case l__law_no_table=>k_is); (case c__law_no_table=>k_is); (case k__law_no_table=>k_is)
  (case a_Book___init__=>k_is); (case i_Book___init__=>k_is); (case l_Book___init__=>k_is); (case c_Book___init__=>k_is); (case k_Book___init__=>k_is)
  (case a_Book_want_row=>k_is); (case i_Book_want_row=>k_is); (case l_Book_want_row=>k_is); (case c_Book_want_row=>k_is); (case k_Book_want_row=>k_is)
  (case a_Book_plain=>k_is); (case i_Book_plain=>k_is); (case l_Book_plain=>k_is); (case c_Book_plain=>k_is); (case k_Book_plain=>k_is)
  (case a_Book_put=>k_is); (case i_Book_put=>k_is); (case l_Book_put=>k_is); (case c_Book_put=>k_is); (case k_Book_put=>k_is)
  (case a_Book_drop=>k_is); (case i_Book_drop=>k_is); (case l_Book_drop=>k_is); (case c_Book_drop=>k_is); (case k_Book_drop=>k_is)
  (case a_Book_has=>k_is); (case i_Book_has=>k_is); (case l_Book_has=>k_is); (case c_Book_has=>k_is); (case k_Book_has=>k_is)
  (case a__law_asked=>k_is); (case l__law_asked=>k_is); (case c__law_asked=>k_is); (case k__law_asked=>k_is)
  (case a_law=>k_is); (case l_law=>k_is); (case c_law=>k_is); (case k_law=>k_is)
  (case y_NoTable=>k_is); (case y_NoRow=>k_is); (case y_Full=>k_is); (case y_AskError=>k_is); (case y_TooMany=>k_is); (case y_NoDeed=>k_is); (case y_NoName=>k_is); (case y_NoText=>k_is); (case x_NoTable=>k_exc); (case x_NoRow=>k_exc); (case x_Full=>k_exc); (case xga=>k_is); (case xgh=>k_is); (case xcl=>k_is); (case xmo=>k_is); (case xmb=>k_is); (case xic=>k_is); (case xga_NoRow=>k_is); (case xgh_NoRow=>k_is); (case xcl_NoRow=>k_is); (case xmo_NoRow=>k_is); (case xmb_NoRow=>k_is); (case xic_NoRow=>k_is); (case e_AskError=>kts_exm); (case e_AskError_NoRow=>kts_exm); (case i_TooMany=>kit_is); (case i_Full=>kit_is); (case i_ValueError=>kit_is); (case i_NoDeed=>kit_is); (case i_NoName=>kit_is); (case i_NoText=>kit_is); (case i_NoRow=>kit_is); (case i_NoTable=>kit_is); (case i_TooMany_NoRow=>kit_is); (case i_Full_NoRow=>kit_is); (case i_ValueError_NoRow=>kit_is); (case i_NoDeed_NoRow=>kit_is); (case i_NoName_NoRow=>kit_is); (case i_NoText_NoRow=>kit_is); (case i_NoRow_NoRow=>kit_is); (case i_NoTable_NoRow=>kit_is)
  (case z_isinstance=>k_is); (case z_int=>k_is); (case z_bool=>k_is); (case z_abs=>k_is); (case z_range=>k_is); (case z_len=>k_is); (case z_str=>k_is); (case z_all=>k_is); (case z_any=>k_is); (case z_list=>k_is); (case z_tuple=>k_is); (case z_dict=>k_is); (case z_set=>k_is); (case z_sorted=>k_is); (case z_sum=>k_is); (case z_min=>k_is); (case z_max=>k_is); (case z_enumerate=>k_is); (case z_zip=>k_is); (case z_reversed=>k_is); (case z_ValueError=>k_is)
  (case g_LETTERS=>k_is); (case g_FIGURES=>k_is); (case g_MOST_SIGNS=>k_is); (case g_MOST_WIDTH=>k_is); (case g_MOST_TABLES=>k_is); (case g_MOST_ROWS=>k_is)
