import PyProof.Rows.All
import Wide.All
import OpenK.AllK
import Wide.FinOn
import Lean
import PyProof.EqAt
import PyProof.EqKinds
import PyProof.TupleCall
import PyProof.TupleOfStr
import PyProof.ListStr
import KE.KSortTup
import PyProof.Rows.SortShellK
import PyProof.MeetsSeq2
import PyProof.FactsAll.list_4
import PyProof.AutoSeq1
import PyProof.ConsumeWalk
import PyProof.ListMulRoad
import PyProof.Rows.SeqMore
import PyProof.FactsAll.tuple_2
import KE.KTryMore
import OpenK.KOwn
import PyProof.Rows.CatchBare
import KE.KIsAll
import PyProof.ExcArgsOwn
import PyProof.ExcAttrAll.ValueError
import KE.RegKTryMore
import KE.RegKIsAll
import PyProof.StrCalls2
import PyProof.StrLawsChain
import PyProof.StrLawsTight
import PyProof.Rows.StrNews
import KE.KIntText
import PyProof.Rows.StrNews2
import PyProof.Rows.StrLast
import PyProof.ZipIter
import PyProof.TupleIter
import PyProof.AttrMissHeap
import PyProof.Rows.SortStr
import PyProof.SetKind
import PyProof.Rows.SetFrom
import PyProof.AutoListH
import PyProof.ListNew
import PyProof.FactsAll.list_2
import PyProof.ListRange
import PyProof.CollectWalk
import PyProof.EnumMake
import PyProof.DictItemsLoops
import PyProof.DictWalks
import PyProof.DictValues
import PyProof.DictFindH
import PyProof.MeetsDictList
import PyProof.P3In
import PyProof.WalksMore
import PyProof.SeqI3
import PyProof.Rows.SumAny
import PyProof.Rows.StrItems
import PySem.Challenge.RW_askwithin_k09_rows_put_and_dropped
open PySem renaming PyData->aA,Addr->aB,Str->aD,Value->aE,Shared->aH,wpAny_bind->aK,Heap->aP,wpAny->aQ,Expr->aR,model->aT,World->aW,Obj->aY,wpAny_pure->bA,Program->bB,starEach->bI,eval->bJ,Stmt->bK,Pos->bL,Around->cA,mainGlobals->cF,Paired->dI,compareOp->dS,Env->dW,FuncData->eM,backTo->fD,Scope->gN,boot_len->gO,sysModules->gV,wpAny_mono->iX,wpAny_holding->iY,binaryOp->iZ,bootBuiltins->jN,assignEach->jO,Reads->kF,Spec->kI,NameKind->kL,holding->kZ,codeAny->lA,ReadsAll->lB,swapsWith->lY,merged->lZ,atKey->mB,assign->mC,DictEntry->mH,attributeBase->nG,codeAny_builtin->oY,wpAny_truthy_bool->qF,stored->qG,standAt->qH,sizeLine_eq->qI,foldedSetIterable->qJ,codeAny_mono->qK,call_meets->qL,Result->qM,Keyword->qS,BindsTo->qX,wpAny_ite_split->sT,wpAny_call_entry->sU,valueAt->sV,sliceBounds->sW,relabel->sX,plainId_quiet->sY,keywordEach->sZ,callerA->tD,backToKw->tH,GenState->tQ,wpAny_dictEntries->wI,bindArgs->wJ,behindInMarks->wK,SetTable->wL,wpAny_specialOf->AG,wpAny_rule->AH,wpAny_passesOwn->AI,wpAny_newObj_type->AJ,typeLookup->AK,scanBound->AM,getMethod->AN,mem_of_lookup->AR,wpAny_typeOf->HD,wpAny_typeNameOf_keyiter->HE,wpAny_typeNameOfWhole_keyiter->HF,wpAny_pyIter_list->HG,wpAny_newList->HH,wpAny_isInstance->HI,wpAny_Call_Name_kw->HJ,subscripted->HK,letOwnedTupleGo->HL,Fin->HU,wpAny_tupleItemsOf->TJ,wpAny_notOrdered_dict->TK,wpAny_forIn_list->TL,wpAny_callSpecial?_slot->TM,builtinLookup_eq_fast->TN,SetTable->UE,Builtin->UH
open PySem.W renaming Frag->aG,nsIn->dA,mg_none_of->gE,fnOf->jA,findIn->jR,kia_one->kG,keepIn->kH,mg_of->mD,emptyDict->mE,instObj->nJ,codeIn->tK,excIn->wM,plainGet->AS,lookIn->HN,isFn->HP,hideAll_get->HQ,hasDictIn->HR,callWith_K->HS,takerIn->TQ,plainOver->TR,plainGet_of->TU,of_hideAll->TV,methodObj->TX,methodCall_KW->TY,makesIn->TZ,kitx_list->UA,kitx_dict->UB,kitOne->UC,OpenLaw->UD
open PySem.PyData renaming int->aS,canLay0->cO,eqv->cS,str->cT,depthAll->dB,bool->fE,tuple->gP,depth->iO,eqvAll->oZ,canLayAll0->wN,strOk->HX,list->HY,dict->HZ
open Or renaming inr->bD,inl->bE
open Option renaming bind_some->bM,map_eq_some_iff->lC,map_some->qO,isSome_iff_exists->wQ,join_some->AW,none->IA,isSome_map->UL
open Nat renaming le_refl->bR,ne_of_lt->dG,zero_le->eX,lt_of_lt_of_le->gQ,le_trans->jC,lt_irrefl->kK,ne_of_gt->qP,le_succ->wR,le_of_lt->wU,lt_trans->IB,lt_succ_of_lt->IC,le_of_eq->ID,add_assoc->IE,lt_of_le_of_lt->UM,le_succ_of_le->UN
open List renaming mem_cons_self->bX,mem_cons_of_mem->cD,mem_map->cH,length_map->cL,mem_cons->cP,map_cons->cY,mem_singleton->dH,size_toArray->dJ,range->dN,getElem?_eq_some_iff->dU,replicate->eA,length_cons->eE,getElem?_map->eY,nodup_cons->fF,map_map->fG,find?_cons->fR,all_eq_true->fV,lookup->iH,getElem?_eq_getElem->iP,toArray->jD,flatten_cons->jE,mem_flatten->jS,getElem?_set_ne->jT,mem_range->lD,lookup_cons->lE,getElem?_set_self->lF,mem_append_right->mF,mem_of_getElem?->nL,mem_append->nM,map_congr_left->nN,getElem_mem->pA,length_take->qQ,filter_cons->qR,replicate_succ->tM,pairwise_map->tN,map_id->tO,append_nil->tP,nodup_append->wV,map_append->wW,length_append->wX,length->wY,getElem?_cons_zero->wZ,getElem?_cons_succ->xA,foldl_cons->xB,filter_eq_self->xC,eq_nil_of_length_eq_zero->xD,cons_lt_cons_iff->xE,mem_filter->AX,getElem?_append_left->AY,cons_append->AZ,any_cons->BA,zip_cons_cons->IF,take_add_one->IG,foldl->IH,any_eq_true->IJ,of_mem_zip->UO,nodup_nil->UP,mem_filterMap->UQ,map_take->UR,getElem?_append_right->US,flatten_singleton->UT,flatten_append->UU,filterMap_cons->UV,any_eq_false->UW,pairwise_iff_getElem->Ow,mem_or_eq_of_mem_set->Ox,eraseIdx_cons_succ->Oy,eraseIdxIfInBounds_toArray->Oz,drop_eq_getElem_cons->Pa
open PySem.Heap renaming lt_size->cG,get?_push_of_some->cN,get?_push_size->eZ,SameBut->qU,get?_update_self->BB,size_push->IK,get?_update_other->IL
open PySem.Value renaming ref->dE,none->fU,type->jP,str->AO,int->AQ
open Option.some renaming inj->dZ,injEq->tL
open PySem.NameKind renaming free->fN
open PyProof.Rows renaming envOfC->gW,seqObj->kC,AllBare->nO,boot_tuple->HW,boot_list->UI,boot_int->UJ,boot_bool->UK,callWith_type1->Ou,boot_sorted->Ov
open Sum renaming inr->iG,inl->tJ
open False renaming elim->iQ
open PySem.Obj renaming mapSeq->jB
open PySem.Str renaming join->jQ,ofString->HM
open True renaming intro->kE
open Ne renaming symm->kJ
open Bool renaming and_eq_true_iff->kM,false_eq_true->lG,false_ne_true->pB,and_eq_true->xH,true_or->BE,or_eq_true_iff->VC,not_true->VD,eq_false_iff->VE
open Int renaming ofNat->mG,eq_ofNat_of_zero_le->qT,toNat_natCast->UY
open Array renaming length_toList->mI,toList_inj->BG,getElem?_toList->VH,getElem?_eq_getElem->Pf
open PySem.Paired renaming length->nK
open PySem.PassesOwn renaming never->qN
open PySem.F renaming called_set->qV,slot_tuple_mul->AU,slot_dict_keyiterator_next->BD,plainAttrs_list->HV,slot_tuple_hash->IM,entry_tuple_mul->UF,args_tuple_mul_2->UG,slot_list_getattribute->UZ,type_list_append->On,slot_list_append->Oo,excBase_ValueError->Oq,entry_tuple_add->Os,args_tuple_add_2->Ot,entry_dict_keyiterator_next->Pc,args_dict_keyiterator_next_1->Pd
open PySem.Builtin.Str renaming occurrences->qW
open PySem.Around renaming under_plainId->qY
open Classical renaming choose_spec->tR,byContradiction->Pe
open PySem.AutoSeq1 renaming wpAny_loadPart'->tT,sub_tuple_tuple->VF,idx_int->VG
open Prod.mk renaming injEq->wO
open ForInStep renaming yield->xF
open PySem.Builtin.Tuple renaming tupleHashOf->xG
open PySem.PyData.tuple renaming inj->AV
open PySem.Heap.SameBut renaming update->BC
open Array.Perm renaming refl->BH
open List.cons renaming injEq->II
open List.Nodup renaming length_le_of_subset->UX
open PyProof.Rows.F renaming plain_set_update_loop->VA
open PySem.Calls renaming call_function_entry->VB
open List.Perm renaming eq_of_pairwise->Pb
theorem XBs {α β:Type}{x:Option α}{f:α->Option β}{b:β}(h:x.bind f=some b) : ∃ a,x=some a/\f a=some b:=Option.bind_eq_some_iff.mp h
set_option Elab.async false
set_option bootstrap.genMatcherCode false
set_option genSizeOfSpec false
set_option linter.all false
set_option maxRecDepth 100000
set_option exponentiation.threshold 2000
namespace L2
open PySem PySem.Spec PyProof.Rows
noncomputable instance decEqData:DecidableEq aA:=fun a b=>Classical.propDecidable (a=b)
mutual
noncomputable def bF:aA->Bool
 | .int _=>true
 | .str x=>cO (.str x)
 | .tuple ds=>bP ds
 | _=>false
noncomputable def bP:List aA->Bool
 | []=>true
 | d::r=>bF d&&bP r
end
mutual
theorem EI : ∀ d:aA,bF d=true->d.canLay0=true
 | .int _,_=>by simp[cO]
 | .str x,h=>by simpa [bF] using h
 | .tuple ds,h=>by
  simp only[cO]
  exact OU ds (by simpa [bF] using h)
 | .none,h=>by simp[bF] at h
 | .bool _,h=>by simp[bF] at h
 | .list _,h=>by simp[bF] at h
 | .dict _,h=>by simp[bF] at h
theorem OU : ∀ ds:List aA,bP ds=true->wN ds=true
 | [],_=>by simp[wN]
 | d::r,h=>by
  have h':bF d=true/\bP r=true:=by simpa [bP] using h
  simp only[wN,EI d h'.1,OU r h'.2,Bool.and_self]
end
mutual
theorem ER : ∀ x y:aA,bF x=true->bF y=true->cS x y=decide (x=y)
 | .int i,.int j,_,_=>by
  by_cases e:i=j
  ·subst e; simp[cS]
  ·have : ¬ aS i = .int j:=fun q=>e (PyData.int.inj q)
   simp[cS,e]
 | .str i,.str j,_,_=>by
  by_cases e:i=j
  ·subst e; simp[cS]
  ·simp[cS,e]
 | .tuple xs,.tuple ys,h1,h2=>by
  have e:=FM xs ys (by simpa [bF] using h1) (by simpa [bF] using h2)
  simp only[cS,e]
  by_cases q:xs=ys
  ·subst q; simp
  ·have : ¬ gP xs = .tuple ys:=fun z=>q (AV z)
   rw[decide_eq_false q,decide_eq_false this]
 | .int _,.str _,_,_=>by simp[cS]
 | .int _,.tuple _,_,_=>by simp[cS]
 | .str _,.int _,_,_=>by simp[cS]
 | .str _,.tuple _,_,_=>by simp[cS]
 | .tuple _,.int _,_,_=>by simp[cS]
 | .tuple _,.str _,_,_=>by simp[cS]
 | .none,_,h,_=>by simp[bF] at h
 | .bool _,_,h,_=>by simp[bF] at h
 | .list _,_,h,_=>by simp[bF] at h
 | .dict _,_,h,_=>by simp[bF] at h
 | .int _,.none,_,h=>by simp[bF] at h
 | .int _,.bool _,_,h=>by simp[bF] at h
 | .int _,.list _,_,h=>by simp[bF] at h
 | .int _,.dict _,_,h=>by simp[bF] at h
 | .str _,.none,_,h=>by simp[bF] at h
 | .str _,.bool _,_,h=>by simp[bF] at h
 | .str _,.list _,_,h=>by simp[bF] at h
 | .str _,.dict _,_,h=>by simp[bF] at h
 | .tuple _,.none,_,h=>by simp[bF] at h
 | .tuple _,.bool _,_,h=>by simp[bF] at h
 | .tuple _,.list _,_,h=>by simp[bF] at h
 | .tuple _,.dict _,_,h=>by simp[bF] at h
theorem FM : ∀ xs ys:List aA,bP xs=true->bP ys=true->oZ xs ys=decide (xs=ys)
 | [],[],_,_=>by simp[oZ]
 | [],_::_,_,_=>by simp[oZ]
 | _::_,[],_,_=>by simp[oZ]
 | x::xs,y::ys,h1,h2=>by
  have h1':bF x=true/\bP xs=true:=by simpa [bP] using h1
  have h2':bF y=true/\bP ys=true:=by simpa [bP] using h2
  simp only[oZ,ER x y h1'.1 h2'.1,FM xs ys h1'.2 h2'.2]
  by_cases e:x=y
  ·subst e
   by_cases q:xs=ys
   ·subst q; simp
   ·simp[q]
  ·simp[e]
end
mutual
noncomputable def nQ (w:aW):aA->Int
 | .int i=>hashInt i
 | .str x=>hashStr w x
 | .tuple ds=>reduceHash (xG (jH w ds))
 | _=>0
noncomputable def jH (w:aW):List aA->List Int
 | []=>[]
 | d::r=>nQ w d::jH w r
end
mutual
noncomputable def pL:aA->Nat
 | .tuple ds=>lT ds+1
 | _=>1
noncomputable def lT:List aA->Nat
 | []=>0
 | d::r=>pL d+lT r
end
theorem RG (a b:List aA):lT (a++b)=lT a+lT b:=by
 induction a with
 | nil=>simp[lT]
 | cons x r ih=>simp only[AZ,lT,ih]; omega
theorem RD (w:aW)(a b:List aA):jH w (a++b)=jH w a++jH w b:=by
 induction a with
 | nil=>rfl
 | cons x r ih=>simp only[AZ,jH,ih]
section
variable {prog:bB}{w:aW}
theorem mZ {h:aP}{v:aE}{ks:List aA}{as:List aB}(r:kF h v (.tuple ks) as) : ∃ a o vs n,v = .ref a/\h.get? a=some o/\o.cls = .type "tuple" /\ o.data = .seq vs n/\lB h vs.toList ks as:=by
 cases r with
 | tuple h1 h2 h3 h4=>exact⟨_,_,_,_,rfl,h1,h2,h3,h4⟩
theorem GQ {s:aH}{a:aB}{ks:List aA}{as:List aB}(r:kF s.heap (.ref a) (.tuple ks) as):s.TypeIs (.ref a) "tuple":=by
 obtain⟨a',o,vs,n,e,h1,h2,_⟩:=mZ r
 cases e
 exact⟨o,h1,h2⟩
mutual
theorem PZ : ∀ (d:aA) {A:cA} {E:aE->aH->Prop} {s:aH} {v:aE} {as:List aB} {Q:Int->aH->Prop},A.units+d.depth<cLine->bF d=true->kF s.heap v d as ->
  Q (nQ w d) { s with toks:=s.toks+pL d }->aQ (aT prog w) A (pyHash v) Q E s
 | .int i,A,E,s,v,as,Q,hu,hk,r,h=>by
  cases r with
  | int _ t=>exact wpAny_pyHash_int (by simpa [nQ,pL] using h)
 | .str x,A,E,s,v,as,Q,hu,hk,r,h=>by
  cases r with
  | str _ t=>exact wpAny_pyHash_str (by simpa [nQ,pL] using h)
 | .tuple ks,A,E,s,v,as,Q,hu,hk,r,h=>by
  obtain⟨a,o,items,n,rfl,ho,hc,hd,hi⟩:=mZ r
  have hT:s.TypeIs (.ref a) "tuple":=⟨o,ho,hc⟩
  have hdep:A.units+(dB ks+1)<cLine:=by simpa [iO] using hu
  unfold pyHash
  first | unfold pyHashByItsType | skip
  first | refine aK (wpAny_cRoomFor_or (.inr (by omega)) ?_) | skip
  refine aK (AG hT IM.lookup ?_)
  rw[if_neg (by rw[beq_builtin_none]; exact pB)]
  refine aK (AG hT IM.lookup ?_)
  refine aK (wpAny_callSpecialIfBoundUnlessNone?_slot hT IM (sU IM hT F.entry_tuple_hash ?_ (F.args_tuple_hash_1 _)))
  show aQ _ _ (Builtin.Tuple.tupleItemsOf (.ref a) >>= _) _ _ s
  refine aK (TJ ho hd ?_)
  refine aK ?_
  rw[← Array.forIn_toList]
  refine TL _
   (fun rest (b:Array Int) s'=>∃ done left bs,ks=done++left/\lB s.heap rest left bs/\b.toList=jH w done/\s' = { s with toks:=s.toks+lT done })
   _ ?_ ?_ _ _ ⟨[],ks,as,rfl,hi,rfl,rfl⟩
  ·rintro x rest b s' ⟨done,left,bs,e,hl,hb,rfl⟩
   cases hl with
   | @cons _ _ d ds as1 bs1 h1 hl'=>
    have hm:d∈ks:=by rw[e]; exact mF _ bX
    have hk':bP ks=true:=by simpa [bF] using hk
    refine aK (QT ks hm (by
     have:A.in1.units=A.units+1:=rfl
     omega) hk' h1 ?_)
    first
     | exact bA ⟨done++[d],ds,bs1,by simp[e],hl',by simp[hb,RD,jH],by simp[RG,lT,IE]⟩
     | exact aK (bA (bA ⟨done++[d],ds,bs1,by simp[e],hl',by simp[hb,RD,jH],by simp[RG,lT,IE]⟩))
  ·rintro b s' ⟨done,left,bs,e,hl,hb,rfl⟩
   cases hl
   rw[tP] at e
   subst e
   show aQ _ _ (retInt (xG b.toList)) _ _ _
   rw[hb]
   refine wpAny_ret_mkInt ?_
   show aQ _ _ (if (decide (-(2:Int) ^ 63≤xG (jH w ks))&&decide (xG (jH w ks)<2 ^ 63))=true then _ else _) Q E _
   simp only[nQ,pL] at h
   unfold reduceHash at h
   by_cases hr:(decide (-(2:Int) ^ 63≤xG (jH w ks))&&decide (xG (jH w ks)<2 ^ 63))=true
   ·rw[if_pos hr]
    rw[if_pos hr] at h
    exact bA (by simpa [IE] using h)
   ·rw[if_neg hr]
    rw[if_neg hr] at h
    exact aK (AH (bA (by simpa [IE] using h)))
 | .none,A,E,s,v,as,Q,hu,hk,r,h=>by simp[bF] at hk
 | .bool _,A,E,s,v,as,Q,hu,hk,r,h=>by simp[bF] at hk
 | .list _,A,E,s,v,as,Q,hu,hk,r,h=>by simp[bF] at hk
 | .dict _,A,E,s,v,as,Q,hu,hk,r,h=>by simp[bF] at hk
theorem QT : ∀ (ks:List aA) {d:aA},d∈ks -> ∀ {A:cA} {E:aE->aH->Prop} {s:aH} {v:aE} {as:List aB} {Q:Int->aH->Prop},A.units+dB ks<cLine->bP ks=true->kF s.heap v d as ->
  Q (nQ w d) { s with toks:=s.toks+pL d }->aQ (aT prog w) A (pyHash v) Q E s
 | [],_,hm,_,_,_,_,_,_,_,_,_,_=>by simp at hm
 | k::ks,d,hm,A,E,s,v,as,Q,hu,hk,r,h=>by
  have hk':bF k=true/\bP ks=true:=by simpa [bP] using hk
  have hdep:A.units+max k.depth (dB ks)<cLine:=by simpa [dB] using hu
  by_cases e:d=k
  ·exact PZ k (by omega) hk'.1 (e ▸ r) (by rw[← e]; exact h)
  ·have hm':d∈ks:=by
    rcases cP.mp hm with q | q
    ·exact absurd q e
    ·exact q
   exact QT ks hm' (by omega) hk'.2 r h
end
end
section
variable {prog:bB}{w:aW}
mutual
theorem OS : ∀ (d:aA) (n:Nat) {A:cA} {E:aE->aH->Prop} {s:aH} {v:aE} {as:List aB} {Q:Bool->aH->Prop},d.depth≤n->bF d=true->kF s.heap v d as ->
  Q true s->aQ (aT prog w) A (eqIsQuiet n v) Q E s
 | .int i,n,A,E,s,v,as,Q,hu,hk,r,h=>by
  cases r with
  | int _ t=>
   rw[eqIsQuiet_byValue n (by rfl)]
   exact bA h
 | .str x,n,A,E,s,v,as,Q,hu,hk,r,h=>by
  cases r with
  | str _ t=>
   rw[eqIsQuiet_byValue n (by rfl)]
   exact bA h
 | .tuple ks,n,A,E,s,v,as,Q,hu,hk,r,h=>by
  obtain⟨a,o,items,m,rfl,ho,hc,hd,hi⟩:=mZ r
  have hT:s.TypeIs (.ref a) "tuple":=⟨o,ho,hc⟩
  have hdep:dB ks+1≤n:=by simpa [iO] using hu
  obtain⟨n,rfl⟩ : ∃ m,n=m+1:=⟨n - 1,by omega⟩
  have hk':bP ks=true:=by simpa [bF] using hk
  unfold eqIsQuiet
  refine aK (AG hT F.slot_tuple_eq.lookup ?_)
  refine aK (HI hT isSubtype_tuple_tuple ?_)
  simp only[VD,lG,if_false]
  refine aK (wpAny_seqItems ho hd ?_)
  refine aK ?_
  rw[← Array.forIn_toList]
  refine TL _ (fun rest r s'=>r.1=none/\s'=s /\ ∃ ds bs,lB s.heap rest ds bs /\ ∀ d∈ds,d∈ks) _ ?_ ?_ _ _ ⟨rfl,rfl,ks,as,hi,fun _ h=>h⟩
  ·rintro v rest r s' ⟨hr,rfl,ds,bs,hl,hall⟩
   cases hl with
   | @cons _ _ d ds as1 bs1 h1 hl'=>
    refine aK (PQ ks (hall d bX) n (by omega) hk' h1 ?_)
    simp only[VD,lG,if_false]
    exact bA ⟨rfl,rfl,ds,bs1,hl',fun u hu'=>hall u (cD _ hu')⟩
  ·rintro⟨r1,r2⟩ s' ⟨hr,rfl,_⟩
   simp only at hr
   subst hr
   exact bA h
 | .none,n,A,E,s,v,as,Q,hu,hk,r,h=>by simp[bF] at hk
 | .bool _,n,A,E,s,v,as,Q,hu,hk,r,h=>by simp[bF] at hk
 | .list _,n,A,E,s,v,as,Q,hu,hk,r,h=>by simp[bF] at hk
 | .dict _,n,A,E,s,v,as,Q,hu,hk,r,h=>by simp[bF] at hk
theorem PQ : ∀ (ks:List aA) {d:aA},d∈ks -> ∀ (n:Nat) {A:cA} {E:aE->aH->Prop} {s:aH} {v:aE} {as:List aB} {Q:Bool->aH->Prop},dB ks≤n->bP ks=true->kF s.heap v d as ->
  Q true s->aQ (aT prog w) A (eqIsQuiet n v) Q E s
 | [],_,hm,_,_,_,_,_,_,_,_,_,_,_=>by simp at hm
 | k::ks,d,hm,n,A,E,s,v,as,Q,hu,hk,r,h=>by
  have hk':bF k=true/\bP ks=true:=by simpa [bP] using hk
  have hdep:max k.depth (dB ks)≤n:=by simpa [dB] using hu
  by_cases e:d=k
  ·exact OS k n (by omega) hk'.1 (e ▸ r) h
  ·have hm':d∈ks:=by
    rcases cP.mp hm with q | q
    ·exact absurd q e
    ·exact q
   exact PQ ks hm' n (by omega) hk'.2 r h
end
mutual
theorem QO {h h':aP}(kp : ∀ b o vs n,h.get? b=some o->o.cls = .type "tuple" -> o.data = .seq vs n->h'.get? b=some o) : ∀ (d:aA) {v:aE} {as:List aB},bF d=true->kF h v d as->kF h' v d as
 | .int i,v,as,hk,r=>by
  cases r with
  | int _ t=>exact .int i t
 | .str x,v,as,hk,r=>by
  cases r with
  | str _ t=>exact .str x t
 | .tuple ks,v,as,hk,r=>by
  obtain⟨a,o,items,m,rfl,ho,hc,hd,hi⟩:=mZ r
  exact .tuple (kp _ _ _ _ ho hc hd) hc hd (RF kp ks (by simpa [bF] using hk) hi)
 | .none,v,as,hk,r=>by simp[bF] at hk
 | .bool _,v,as,hk,r=>by simp[bF] at hk
 | .list _,v,as,hk,r=>by simp[bF] at hk
 | .dict _,v,as,hk,r=>by simp[bF] at hk
theorem RF {h h':aP}(kp : ∀ b o vs n,h.get? b=some o->o.cls = .type "tuple" -> o.data = .seq vs n->h'.get? b=some o) : ∀ (ds:List aA) {vs:List aE} {as:List aB},bP ds=true->lB h vs ds as->lB h' vs ds as
 | [],vs,as,hk,r=>by
  cases r with
  | nil=>exact .nil
 | d::ds,vs,as,hk,r=>by
  have hk':bF d=true/\bP ds=true:=by simpa [bP] using hk
  cases r with
  | cons r1 r2=>exact .cons (QO kp d hk'.1 r1) (RF kp ds hk'.2 r2)
end
def Ag9 (h:aP)(ks:List aA)(a:aB):Prop:=bP ks=true/\dB ks≤6 /\ ∃ as,kF h (.ref a) (.tuple ks) as
theorem Ag9.keep {h h':aP}{ks:List aA}{a:aB}(kp : ∀ b o vs n,h.get? b=some o->o.cls = .type "tuple" -> o.data = .seq vs n->h'.get? b=some o)(k:Ag9 h ks a):Ag9 h' ks a:=
 ⟨k.1,k.2.1,k.2.2.choose,QO kp (.tuple ks) (by simpa [bF] using k.1) k.2.2.choose_spec⟩
noncomputable def lX (prog:bB)(w:aW):HeapKind prog w (List aA) where
 is:=Ag9
 hash:=fun ks=>nQ w (.tuple ks)
 draws:=fun ks=>pL (.tuple ks)
 room:=fun A=>A.units+20<cLine
 inj:=fun {h a x y} hx hy=>by
  obtain⟨k1,_,as,r1⟩:=hx
  obtain⟨k2,_,bs,r2⟩:=hy
  exact AV (reads_det (fun _ _ e _=>e) r2 r1).1
 keeps:=fun {h h' k a d o es ep} x ho hd hs=>x.keep fun b ob vs n hb _ hd'=>by
  have hne:b≠d:=by
   rintro rfl
   rw[ho] at hb
   cases hb
   rw[hd] at hd'
   cases hd'
  exact(hs.2 b hne).trans hb
 pyHash:=fun {A E s k a Q} hu hk h=>by
  obtain⟨k1,k2,as,r⟩:=hk
  exact PZ (.tuple k) (by simp only[iO]; omega) (by simpa [bF] using k1) r h
 eqBool:=fun {A E s x y a b Q} hu hx hy h=>by
  obtain⟨k1,d1,as,r1⟩:=hx
  obtain⟨k2,d2,bs,r2⟩:=hy
  have e:=ER (.tuple x) (.tuple y) (by simpa [bF] using k1) (by simpa [bF] using k2)
  have e2:decide ((gP x) = .tuple y)=decide (x=y):=by
   by_cases q:x=y
   ·subst q; simp
   ·rw[decide_eq_false q,decide_eq_false (fun z=>q (AV z))]
  have:=SeqAt.eqAt_reads (.tuple x) (.tuple y) A s (.ref a) (.ref b) as bs r1 r2 (EI _ (by simpa [bF] using k1)) (EI _ (by simpa [bF] using k2)) (by simp only[iO]; omega)
  rw[e,e2] at this
  exact this prog w E Q h
 quiet:=fun {A E s k a Q} hk h=>by
  obtain⟨k1,k2,as,r⟩:=hk
  exact OS (.tuple k) 8 (by simp only[iO]; omega) (by simpa [bF] using k1) r h
end
abbrev aL:=Sum Int aD
noncomputable def rK:aL->aE->Bool
 | .inl k,v=>Value.isInt k v
 | .inr x,v=>Value.isStrOf x v
noncomputable def VW (w:aW):aL->Int
 | .inl k=>hashInt k
 | .inr x=>hashStr w x
theorem kX : ∀ {k:aL} {v:aE},rK k v=true->(∃ i t,k=tJ i/\v=AQ i t) \/ (∃ x t,k=iG x/\v=AO x t)
 | .inl i,v,h=>by
  obtain⟨t,e⟩:=Value.isInt_shape (k:=i) (v:=v) h
  exact .inl ⟨i,t,rfl,e⟩
 | .inr x,v,h=>by
  obtain⟨t,e⟩:=Value.isStrOf_shape (x:=x) (v:=v) h
  exact .inr ⟨x,t,rfl,e⟩
theorem Au (i:Int)(t:Tok):rK (.inl i) (.int i t)=true:=by simp[rK,Value.isInt]
theorem As (x:aD)(t:Tok):rK (.inr x) (.str x t)=true:=by simp[rK,Value.isStrOf]
theorem He (a b:Int):decide ((tJ a:aL)=tJ b)=(a == b):=by
 by_cases e:a=b
 ·subst e; simp
 ·have h : ¬ (tJ a:aL)=tJ b:=fun q=>e (Sum.inl.inj q)
  rw[decide_eq_false h]
  exact(beq_eq_false_iff_ne.mpr e).symm
theorem YD (a b:aD):decide ((iG a:aL)=iG b)=decide (a=b):=by
 by_cases e:a=b
 ·subst e; simp
 ·have h : ¬ (iG a:aL)=iG b:=fun q=>e (Sum.inr.inj q)
  rw[decide_eq_false h,decide_eq_false e]
theorem Ik (a:Int)(b:aD):decide ((tJ a:aL)=iG b)=false:=decide_eq_false (fun q=>nomatch q)
theorem Ic (a:aD)(b:Int):decide ((iG a:aL)=tJ b)=false:=decide_eq_false (fun q=>nomatch q)
noncomputable def dR (prog:bB)(w:aW):PySem.KeyKind prog w aL where
 is:=rK
 hash:=VW w
 inj:=fun v a b ha hb=>by
  rcases kX ha with⟨i,t,rfl,rfl⟩ | ⟨x,t,rfl,rfl⟩
  ·rcases kX hb with⟨j,u,rfl,e⟩ | ⟨y,u,rfl,e⟩
   ·injection e with e1 _; rw[e1]
   ·exact nomatch e
  ·rcases kX hb with⟨j,u,rfl,e⟩ | ⟨y,u,rfl,e⟩
   ·exact nomatch e
   ·injection e with e1 _; rw[e1]
 byValue:=fun k v h=>by
  rcases kX h with⟨i,t,rfl,rfl⟩ | ⟨x,t,rfl,rfl⟩ <;> rfl
 pyHash:=fun hv h=>by
  rcases kX hv with⟨i,t,rfl,rfl⟩ | ⟨x,t,rfl,rfl⟩
  ·exact wpAny_pyHash_int h
  ·exact wpAny_pyHash_str h
 eqBool:=fun hu hv h=>by
  rcases kX hu with⟨i,t,rfl,rfl⟩ | ⟨x,t,rfl,rfl⟩
  ·rcases kX hv with⟨j,u,rfl,rfl⟩ | ⟨y,u,rfl,rfl⟩
   ·rw[He] at h; exact wpAny_eqBool_int h
   ·rw[Ik] at h; exact SeqAt.EqAt.int_str i t y u _ _ _ _ h
  ·rcases kX hv with⟨j,u,rfl,rfl⟩ | ⟨y,u,rfl,rfl⟩
   ·rw[Ic] at h; exact SeqAt.EqAt.str_int x t j u _ _ _ _ h
   ·rw[YD] at h; exact wpAny_eqBool_str h
 «strs»:=fun k x t v h=>by
  rcases kX h with⟨i,u,rfl,e⟩ | ⟨y,u,rfl,e⟩
  ·exact nomatch e
  ·injection e with e1 _
   subst e1
   cases v <;> rfl
theorem vQ (prog:bB)(w:aW)(i:Int)(t:Tok):(dR prog w).is (.inl i) (.int i t)=true:=Au i t
theorem vT (prog:bB)(w:aW)(x:aD)(t:Tok):(dR prog w).is (.inr x) (.str x t)=true:=As x t
inductive V where
 | non | bl (b:Bool) | int (i:Int) | str (x:aD) | byt (b:Array UInt8) | flt (b:UInt64) | ref (a:aB) | ty (n:String)
 deriving DecidableEq
def RelV:V->aE->Prop
 | .non,u=>u=fU
 | .bl b,u=>u=Value.bool b
 | .int i,u=>∃ t,u=AQ i t
 | .str x,u=>∃ t,u=AO x t
 | .byt b,u=>∃ t,u=Value.bytes b t
 | .flt b,u=>∃ t,u=Value.float b t
 | .ref a,u=>u=dE a
 | .ty n,u=>u=jP n
abbrev Vals:List V->List aE->Prop:=dI RelV
theorem Vals.length {xs:List V}{us:List aE}(r:Vals xs us):xs.length=us.length:=nK r
theorem Vals.get : ∀ {xs:List V} {us:List aE} {i:Nat} {x:V},Vals xs us->xs[i]?=some x -> ∃ u,us[i]?=some u/\RelV x u
 | _,_,_,_,.nil,e=>by simp at e
 | _,_,0,_,.cons r _,e=>by simp at e; subst e; exact⟨_,rfl,r⟩
 | _,_,i+1,x,.cons _ t,e=>by
  obtain⟨u,h1,h2⟩:=Vals.get (i:=i) (x:=x) t (by simpa using e)
  exact⟨u,by simpa using h1,h2⟩
theorem Vals.set {x:V}{u:aE}(r:RelV x u) : ∀ {xs:List V} {us:List aE} (i:Nat),Vals xs us->Vals (xs.set i x) (us.set i u)
 | _,_,_,.nil=>.nil
 | _,_,0,.cons _ t=>.cons r t
 | _,_,i+1,.cons q t=>.cons q (Vals.set r i t)
theorem Vals.append : ∀ {xs ys:List V} {us ws:List aE},Vals xs us->Vals ys ws->Vals (xs++ys) (us++ws)
 | _,_,_,_,.nil,s=>s
 | _,_,_,_,.cons r t,s=>.cons r (Vals.append t s)
theorem Vals.take : ∀ {xs:List V} {us:List aE} (n:Nat),Vals xs us->Vals (xs.take n) (us.take n)
 | _,_,0,_=>.nil
 | _,_,_+1,.nil=>.nil
 | _,_,n+1,.cons r t=>.cons r (Vals.take n t)
theorem Vals.drop : ∀ {xs:List V} {us:List aE} (n:Nat),Vals xs us->Vals (xs.drop n) (us.drop n)
 | _,_,0,r=>r
 | _,_,_+1,.nil=>.nil
 | _,_,n+1,.cons _ t=>Vals.drop n t
def Aoh:Option V->Option aE->Prop
 | some v,some u=>RelV v u
 | none,none=>True
 | _,_=>False
def KV {κ:Type}:List (κ×V)->List (κ×aE)->Prop:=dI fun(p:κ×V) (q:κ×aE)=>p.1=q.1/\RelV p.2 q.2
noncomputable def kV:aL->V
 | .inl i=>.int i
 | .inr x=>.str x
inductive HO where
 | lst (xs:List V)
 | tup (xs:List V)
 | dK (ep:Nat) (kvs:List (aL×V)) | dT (ep:Nat) (kvs:List (List aA×V))
 | set (S:Int->Bool) (n:Nat)
 | ins (C dx:aB) (fs:List (aD×V))
 | own (x:aB)
 | xd (fs:List (aD×V))
 | met (f x:aB)
 | rng (lo hi:Int)
 | frz (o:aY) (u:HO)
 | tbl (ps:Array aE)
 | ext (φ:aP->Prop)
abbrev Hp:=aB->Option HO
noncomputable def upd (H:Hp)(a:aB)(o:HO):Hp:=fun b=>if b=a then some o else H b
theorem eB {H:Hp}{a:aB}{o:HO}:upd H a o a=some o:=by unfold upd; rw[if_pos rfl]
theorem bO {H:Hp}{a b:aB}{o:HO}(h:b≠a):upd H a o b=H b:=by unfold upd; rw[if_neg h]
theorem RO {H:Hp}{a b:aB}{o u:HO}(h:H a=some o)(h':H b=some u)(d:o≠u):a≠b:=by
 intro e; subst e; rw[h] at h'; exact d (dZ h')
theorem gM {H:Hp}{a b:aB}{o:HO}(h:H a=some o)(h':H b=none):a≠b:=by
 intro e; subst e; rw[h] at h'; cases h'
mutual
def Aht (H:Hp):aA->V->Prop
 | .int i,v=>v = .int i
 | .str x,v=>v = .str x
 | .tuple ds,v=>∃ a xs,v = .ref a/\H a=some (.tup xs)/\Aev H ds xs
 | _,_=>False
def Aev (H:Hp):List aA->List V->Prop
 | [],vs=>vs=[]
 | d::r,vs=>∃ x rr,vs=x::rr/\Aht H d x/\Aev H r rr
end
mutual
theorem Aht.keep {H H':Hp}(ht : ∀ b xs,H b=some (.tup xs)->H' b=some (.tup xs)) : ∀ {d:aA} {v:V},Aht H d v->Aht H' d v
 | .int _,_,k=>by simpa [Aht] using k
 | .str _,_,k=>by simpa [Aht] using k
 | .tuple ds,_,k=>by
  simp only[Aht] at k ⊢
  obtain⟨a,xs,e,h,ks⟩:=k
  exact⟨a,xs,e,ht _ _ h,Aev.keep ht ks⟩
 | .none,_,k=>by simp[Aht] at k
 | .bool _,_,k=>by simp[Aht] at k
 | .list _,_,k=>by simp[Aht] at k
 | .dict _,_,k=>by simp[Aht] at k
theorem Aev.keep {H H':Hp}(ht : ∀ b xs,H b=some (.tup xs)->H' b=some (.tup xs)) : ∀ {ds:List aA} {vs:List V},Aev H ds vs->Aev H' ds vs
 | [],_,k=>by simpa [Aev] using k
 | d::ds,_,k=>by
  simp only[Aev] at k ⊢
  obtain⟨x,r,e,k1,k2⟩:=k
  exact⟨x,r,e,Aht.keep ht k1,Aev.keep ht k2⟩
end
def Air (H:Hp)(ks:List aA)(a:aB):Prop:=bP ks=true/\dB ks≤6 /\ ∃ xs,H a=some (.tup xs)/\Aev H ks xs
theorem Air.keep {H H':Hp}{ks:List aA}{a:aB}(k:Air H ks a)(ht : ∀ b xs,H b=some (.tup xs)->H' b=some (.tup xs)):Air H' ks a:=
 ⟨k.1,k.2.1,k.2.2.choose,ht _ _ k.2.2.choose_spec.1,k.2.2.choose_spec.2.keep ht⟩
def A7o (h:aP)(a:aB)(its:Array aE):Prop:=IsTup h a its /\ ∃ o,h.get? a=some o/\o.dict=none
theorem A7o.new (h:aP)(its:Array aE):A7o (h.push { cls:=.type "tuple",data:=.seq its }) h.objs.size its:=⟨IsTup.new _ _,_,eZ _ rfl,rfl⟩
section
variable (P:bB)(w:aW)
def Aci (H:Hp)(h:aP)(a:aB):HO->Prop
 | .lst xs=>xs.length≤sizeLine /\ ∃ (its:List aE) (n:Nat),Vals xs its/\h.get? a=some { cls:=.type "list",data:=.seq its.toArray n }
 | .tup xs=>xs.length≤sizeLine /\ ∃ its:List aE,Vals xs its/\A7o h a its.toArray
 | .dK ep kvs=>kvs.length≤sizeLine/\(a == gV)=false /\ ∃ vs,KV kvs vs/\h.DictAt (dR P w) a vs ep
 | .dT ep kvs=>kvs.length≤sizeLine/\(a == gV)=false /\ ∃ xs:List (List aA×aB×aE),
   dI (fun(p:List aA×V) (q:List aA×aB×aE)=>p.1=q.1/\Air H p.1 q.2.1/\RelV p.2 q.2.2) kvs xs /\
   ∃ o es,h.get? a=some o/\o.ExactDict/\o.data = .dict es ep/\es.toList=xs.map (entryOfKey (lX P w))/\(xs.map (·.1)).Nodup
 | .set S n=>h.SetOf (intKind P w) a S n
 | .ins C dx fs=>H dx=some (.own a)/\fs.length≤1000/\dx≠a/\h.get? a=some (nJ C dx) /\
   ∃ mA,h.Ns1 dx mA/\(∀ f,Aoh (fs.lookup f) (mA f))/\PySem.Within mA (fs.map (·.1))
 | .own _=>∃ o,h.get? a=some o
 | .xd fs=>∃ mA,h.Ns1 a mA /\ ∀ f,Aoh (fs.lookup f) (mA f)
 | .rng lo hi=>∃ t u v,h.get? a=some { cls:=.type "range",data:=.fields #[.int lo t,.int hi u,.int 1 v] }
 | .frz o u=>h.get? a=some o/\Aci H h a u
 | .tbl ps=>h.get? a=some { cls:=.none,data:=.fields ps }
 | .met f x=>h.get? a=some (TX (.ref f) (.ref x))
 | .ext φ=>φ h/\(∃ o,h.get? a=some o) /\ ∀ h1 h2:aP,φ h1->(∀ o,h1.get? a=some o->h2.get? a=some o)->φ h2
def HOk (H:Hp)(h:aP):Prop:=∀ a o,H a=some o->Aci P w H h a o
end
section
variable {P:bB}{w:aW}{H H':Hp}{h h':aP}{a:aB}{o:HO}
theorem Aci.lt (x:Aci P w H h a o):a<h.objs.size:=by
 cases o with
 | lst xs=>obtain⟨_,_,_,_,e⟩:=x; exact cG e
 | tup xs=>obtain⟨_,_,_,p⟩:=x; exact p.1.lt
 | dK ep kvs=>obtain⟨_,_,_,_,o,_,e,_⟩:=x; exact cG e
 | dT ep kvs=>obtain⟨_,_,_,_,o,_,e,_⟩:=x; exact cG e
 | set S n=>obtain⟨o,_,_,_,e,_⟩:=x; exact cG e
 | ins C dx fs=>obtain⟨_,_,_,e,_⟩:=x; exact cG e
 | own y=>obtain⟨_,e⟩:=x; exact cG e
 | xd fs=>obtain⟨_,⟨_,_,_,e,_⟩,_⟩:=x; exact cG e
 | rng lo hi=>obtain⟨_,_,_,e⟩:=x; exact cG e
 | frz ob u=>obtain⟨e,_⟩:=x; exact cG e
 | tbl ps=>exact cG (show h.get? a=some _ from x)
 | met f y=>exact cG (show h.get? a=some _ from x)
 | ext φ=>obtain⟨_,⟨_,e⟩,_⟩:=x; exact cG e
theorem Paired.mapP {α β:Type}{F G:α->β->Prop} : ∀ {l₁:List α} {l₂:List β},dI F l₁ l₂->(∀ a b,F a b->G a b)->dI G l₁ l₂:=by
 intro l₁ l₂ h
 induction h with
 | nil=>exact fun _=>.nil
 | cons r _ ih=>exact fun f=>.cons (f _ _ r) (ih f)
theorem Aci.stay (x:Aci P w H h a o)(k : ∀ b u,(b=a \/ H b=some (.own a))->h.get? b=some u->h'.get? b=some u)
  (ho : ∀ b,H b=some (.own a)->H' b=some (.own a)) (ht : ∀ b xs,H b=some (.tup xs)->H' b=some (.tup xs)):Aci P w H' h' a o:=by
 induction o with
 | lst xs=>obtain⟨z,its,n,r,e⟩:=x; exact⟨z,its,n,r,k _ _ (.inl rfl) e⟩
 | tup xs=>obtain⟨z,its,r,⟨ob,e,c⟩,ob2,e2,c2⟩:=x; exact⟨z,its,r,⟨ob,k _ _ (.inl rfl) e,c⟩,ob2,k _ _ (.inl rfl) e2,c2⟩
 | dK ep kvs=>obtain⟨z,y,vs,r,ob,es,e,c⟩:=x; exact⟨z,y,vs,r,ob,es,k _ _ (.inl rfl) e,c⟩
 | dT ep kvs=>
  obtain⟨z,y,xs,r,ob,es,e,c⟩:=x
  exact⟨z,y,xs,Paired.mapP r fun p q z=>⟨z.1,z.2.1.keep ht,z.2.2⟩,ob,es,k _ _ (.inl rfl) e,c⟩
 | set S n=>obtain⟨ob,es,ep,t,e,c⟩:=x; exact⟨ob,es,ep,t,k _ _ (.inl rfl) e,c⟩
 | ins C dx fs=>
  obtain⟨d,z,ne,e,mA,⟨od,es,ep,e2,c⟩,r⟩:=x
  exact⟨ho _ d,z,ne,k _ _ (.inl rfl) e,mA,⟨od,es,ep,k _ _ (.inr d) e2,c⟩,r⟩
 | own y=>obtain⟨ob,e⟩:=x; exact⟨ob,k _ _ (.inl rfl) e⟩
 | xd fs=>obtain⟨mA,⟨od,es,ep,e,c⟩,r⟩:=x; exact⟨mA,⟨od,es,ep,k _ _ (.inl rfl) e,c⟩,r⟩
 | rng lo hi=>obtain⟨t,u,v,e⟩:=x; exact⟨t,u,v,k _ _ (.inl rfl) e⟩
 | frz ob u ih=>obtain⟨e,q⟩:=x; exact⟨k _ _ (.inl rfl) e,ih q⟩
 | tbl ps=>
  have e:h.get? a=some { cls:=.none,data:=.fields ps }:=x
  show h'.get? a=some { cls:=.none,data:=.fields ps }
  exact k a _ (.inl rfl) e
 | met f y=>
  have e:h.get? a=some (TX (.ref f) (.ref y)):=x
  show h'.get? a=some (TX (.ref f) (.ref y))
  exact k a _ (.inl rfl) e
 | ext φ=>obtain⟨p,⟨o,e⟩,st⟩:=x; exact⟨st _ _ p fun o q=>k _ _ (.inl rfl) q,⟨o,k _ _ (.inl rfl) e⟩,st⟩
theorem HOk.lt (x:HOk P w H h)(e:H a=some o):a<h.objs.size:=(x a o e).lt
theorem HOk.fresh (x:HOk P w H h)(e:h.objs.size≤a):H a=none:=by
 cases q:H a with
 | none=>rfl
 | some u=>exact absurd (gQ (x.lt q) e) (kK _)
theorem HOk.kept (x:HOk P w H h)(k : ∀ b u,h.get? b=some u->h'.get? b=some u):HOk P w H h':=fun a o e=>
 (x a o e).stay (fun b u _ q=>k b u q) (fun _ q=>q) fun _ _ q=>q
theorem HOk.laid (x:HOk P w H h)(k : ∀ b u,h.get? b=some u->h'.get? b=some u)(hp:h.objs.size≤a)(new:Aci P w (upd H a o) h' a o):HOk P w (upd H a o) h':=fun b u e=>by
 have hn:=x.fresh hp
 by_cases hb:b=a
 ·subst hb; rw[eB] at e; cases e; exact new
 ·rw[bO hb] at e
  exact(x b u e).stay (fun c v _ q=>k c v q) (fun c q=>by rw[bO (gM q hn)]; exact q) fun c xs q=>by rw[bO (gM q hn)]; exact q
end
def Rd (H:Hp)(a:aB)(u:HO):Prop:=H a=some u \/ ∃ o,H a=some (.frz o u)
theorem Rd.ok {P:bB}{w:aW}{H:Hp}{h:aP}{a:aB}{u:HO}(r:Rd H a u)(x:HOk P w H h):Aci P w H h a u:=by
 rcases r with r | ⟨o,r⟩
 ·exact x a u r
 ·obtain⟨_,q⟩:=x a _ r
  exact q
def tU:Option HO->Prop
 | some (.lst _)=>True
 | some (.dK _ _)=>True
 | some (.dT _ _)=>True
 | some (.set _ _)=>True
 | some (.ins _ _ _)=>True
 | some (.ext _)=>True
 | _=>False
section
variable {P:bB}{w:aW}{H:Hp}{h h':aP}{x e:aB}{o':HO}
theorem HOk.write (ok:HOk P w H h)(mu:tU (H x))(he:e=x \/ H e=some (.own x))(k : ∀ b u,b≠e->h.get? b=some u->h'.get? b=some u)(heo : ∃ u,h'.get? e=some u)
  (new:Aci P w (upd H x o') h' x o'):HOk P w (upd H x o') h':=fun b u q=>by
 have nown : ∀ c y,H c=some (.own y)->c≠x:=fun c y r z=>by subst z; rw[r] at mu; exact mu
 have ntup : ∀ c xs,H c=some (.tup xs)->c≠x:=fun c xs r z=>by subst z; rw[r] at mu; exact mu
 by_cases hb:b=x
 ·subst hb; rw[eB] at q; cases q; exact new
 ·rw[bO hb] at q
  by_cases hbe:b=e
  ·have q':H b=some (.own x):=by
    rcases he with z | z
    ·exact absurd (hbe.trans z) hb
    ·rw[hbe]; exact z
   rw[q] at q'; cases q'
   obtain⟨v,hv⟩:=heo
   exact⟨v,by rw[hbe]; exact hv⟩
  ·refine(ok b u q).stay (fun c v hc r=>k c v ?_ r) (fun c r=>by rw[bO (nown c b r)]; exact r) fun c xs r=>by rw[bO (ntup c xs r)]; exact r
   rcases hc with rfl | hc
   ·exact hbe
   ·rintro rfl
    rcases he with z | z
    ·exact nown c b hc z
    ·rw[hc] at z; cases z; exact hb rfl
end
structure Un (fs ex:List aB)(H H':Hp)(h h':aP):Prop where
 keep : ∀ b o,h.get? b=some o->H b=none->b∉fs->b∉ex->h'.get? b=some o
 slot : ∀ b o,h.get? b=some o->H b=none->b∈fs->b∉ex -> ∃ sl,h'.get? b=some { o with slots:=sl }
 free : ∀ b o,h.get? b=some o->H b=none->b∉ex->H' b=none
 there : ∀ b o,h.get? b=some o->b∉ex -> ∃ o',h'.get? b=some o'
 tups : ∀ b xs,H b=some (.tup xs)->H' b=some (.tup xs)
 frzs : ∀ b o u,H b=some (.frz o u)->H' b=some (.frz o u)
 tbls : ∀ b ps,H b=some (.tbl ps) -> ∃ more,H' b=some (.tbl (ps++more))
section
variable {fs fs' ex ex':List aB}{H H1 H2:Hp}{h h1 h2 h':aP}{a x e:aB}{o:HO}
theorem Un.any (u:Un fs ex H H1 h h1){b:aB}{ob:aY}(q:h.get? b=some ob)(n:H b=none)(hx:b∉ex) : ∃ sl,h1.get? b=some { ob with slots:=sl }:=by
 by_cases hb:b∈fs
 ·exact u.slot b ob q n hb hx
 ·exact⟨ob.slots,u.keep b ob q n hb hx⟩
theorem Un.trans (a:Un fs ex H H1 h h1)(b:Un fs ex H1 H2 h1 h2):Un fs ex H H2 h h2 where
 keep:=fun c ob q n hc hx=>b.keep c ob (a.keep c ob q n hc hx) (a.free c ob q n hx) hc hx
 slot:=fun c ob q n hc hx=>by
  obtain⟨sl,e1⟩:=a.slot c ob q n hc hx
  obtain⟨sl',e2⟩:=b.slot c _ e1 (a.free c ob q n hx) hc hx
  exact⟨sl',e2⟩
 free:=fun c ob q n hx=>by
  obtain⟨o',e1⟩:=a.there c ob q hx
  exact b.free c o' e1 (a.free c ob q n hx) hx
 there:=fun c ob q hx=>by
  obtain⟨o',e1⟩:=a.there c ob q hx
  exact b.there c o' e1 hx
 tups:=fun c xs q=>b.tups c xs (a.tups c xs q)
 frzs:=fun c ob xs q=>b.frzs c ob xs (a.frzs c ob xs q)
 tbls:=fun c ps q=>by
  obtain⟨m1,e1⟩:=a.tbls c ps q
  obtain⟨m2,e2⟩:=b.tbls c _ e1
  exact⟨m1++m2,by rw[e2,Array.append_assoc]⟩
theorem Un.kept (k : ∀ b u,h.get? b=some u->h'.get? b=some u):Un fs ex H H h h':=
 ⟨fun b ob q _ _ _=>k b ob q,fun b ob q _ _ _=>⟨ob.slots,k b ob q⟩,fun _ _ _ n _=>n,fun b ob q _=>⟨ob,k b ob q⟩,fun _ _ q=>q,fun _ _ _ q=>q,fun _ ps q=>⟨#[],by rw[q]; simp⟩⟩
theorem Un.refl:Un fs ex H H h h:=Un.kept fun _ _ q=>q
theorem Un.laid (k : ∀ b u,h.get? b=some u->h'.get? b=some u)(hp:h.objs.size≤a)(hn:H a=none):Un fs ex H (upd H a o) h h' where
 keep:=fun b u q _ _ _=>k b u q
 slot:=fun b u q _ _ _=>⟨u.slots,k b u q⟩
 free:=fun b u q n _=>by rw[bO (dG (gQ (cG q) hp))]; exact n
 there:=fun b u q _=>⟨u,k b u q⟩
 tups:=fun b xs q=>by rw[bO (gM q hn)]; exact q
 frzs:=fun b u xs q=>by rw[bO (gM q hn)]; exact q
 tbls:=fun b ps q=>⟨#[],by rw[bO (gM q hn),q]; simp⟩
theorem Un.write (mu:tU (H x))(he:e=x \/ H e=some (.own x))(k : ∀ b u,b≠e->h.get? b=some u->h'.get? b=some u)(heo : ∃ u,h'.get? e=some u):Un fs ex H (upd H x o) h h':=by
 have hx : ∀ b,H b=none->b≠x:=fun b n z=>by subst z; rw[n] at mu; exact mu
 have hb : ∀ b,H b=none->b≠e:=fun b n z=>by
  subst z
  rcases he with r | r
  ·exact hx b n r
  ·rw[n] at r; cases r
 have hm : ∀ b u,H b=some u -> ¬ tU (some u)->b≠x:=fun b u q nm z=>by subst z; rw[q] at mu; exact nm mu
 refine⟨fun b u q n _ _=>k b u (hb b n) q,fun b u q n _ _=>⟨u.slots,k b u (hb b n) q⟩,fun b u q n _=>by rw[bO (hx b n)]; exact n,fun b u q _=>?_,
  fun b xs q=>by rw[bO (hm b _ q fun z=>z)]; exact q,fun b u xs q=>by rw[bO (hm b _ q fun z=>z)]; exact q,fun b ps q=>⟨#[],by rw[bO (hm b _ q fun z=>z),q]; simp⟩⟩
 by_cases hbe:b=e
 ·subst hbe; exact heo
 ·exact⟨u,k b u hbe q⟩
end
noncomputable def trk (h:aP)(H:Hp):List aB:=(dN h.objs.size).filter fun a=>(H a).isSome
noncomputable def mJ (h:aP)(H:Hp):aP:=PySem.W.hideAll h (trk h H)
theorem Al (h:aP)(H:Hp):(mJ h H).objs.size=h.objs.size:=PySem.W.hideAll_size _ _
theorem Ng {h:aP}{H:Hp}{b:aB}{o:aY}(e:h.get? b=some o)(n:H b=none):(mJ h H).get? b=some o:=
 HQ _ e fun hm=>by
  have q:(H b).isSome=true:=(AX.mp hm).2
  rw[n] at q; simp at q
theorem Kk {h:aP}{H:Hp}{b:aB}{o:aY}(e:(mJ h H).get? b=some o):h.get? b=some o/\H b=none:=by
 have e':h.get? b=some o:=TV (trk h H) e
 refine⟨e',?_⟩
 cases q:H b with
 | none=>rfl
 | some x=>
  have hm:b∈trk h H:=AX.mpr ⟨lD.mpr (cG e'),by simp[q]⟩
  have z:(mJ h H).get? b=none:=PySem.W.hideAll_none (trk h H) hm
  rw[z] at e; cases e
noncomputable def Lw (g h:aP)(L:aB):List (aB×aY):=(dN h.objs.size).filterMap fun a=>if a=L \/ (g.get? a).isSome=true then none else(h.get? a).map fun o=>(a,o)
noncomputable def rest (g h:aP)(L d:aB):List (aB×aY):=(Lw g h L).filter fun p=>decide (p.1≠d)
structure Mod (K:aG)(mg:aD->Option aE)(base:aP):Prop where
 kin:K.In base
 glob:base.Ns cF mg
 blt : ∃ mb,base.Ns builtinsNs mb /\ ∀ x:aD,x ≠ "__name__" -> mb x=jN x
 nolimit:base.NoLimit
structure Cx where
 prog:bB
 w:aW
 K:aG
 mg:aD->Option aE
 base:aP
 A:cA
 N:List aD
 s₀:aH
 H₀:Hp
 env:dW
 outer:List dW
 stack:List dW
 ex:List aB
 fn:aD->Bool
 calm:Bool
 pn:List (aB×aY)
 xe:aE->aH->Prop
noncomputable def frs (l:List dW):List aB:=l.filterMap (·.frame)
noncomputable abbrev Cx.fs (X:Cx):List aB:=frs X.outer
def kN (sc:gN)(x:aD):Prop:=sc.names.lookup x=some .local \/ sc.names.lookup x=some .cell \/ sc.names.lookup x=some .free
def kO (sc:gN)(x:aD):Prop:=sc.names.lookup x=some .local \/ sc.names.lookup x=some .cell
def Look (env:dW)(h:aP)(m:aD->Option aE)(x:aD)(u:aE):Prop:=
 (env.kindOf x=some .local/\m x=some u) \/ ((env.kindOf x=some .cell \/ env.kindOf x=some .free) /\ ∃ c,env.cells.lookup x=some c/\h.IsCell c (some u))
structure Cx.Ok (X:Cx):Prop where
 mod:Mod X.K X.mg X.base
 kind:X.env.scope.kind = .function
 glob:X.env.globals=cF
 blt:X.env.builtins=builtinsNs
 above:X.s₀.heap.objs.size≤X.env.locals
 inj : ∀ x y c,X.env.cells.lookup x=some c->X.env.cells.lookup y=some c->x=y
 has : ∀ x,(X.env.kindOf x=some .cell \/ X.env.kindOf x=some .free) -> ∃ c,X.env.cells.lookup x=some c
 cab : ∀ x c,X.fn x=true->X.env.cells.lookup x=some c->X.s₀.heap.objs.size≤c
 hd:X.calm=true->X.A.handled=none
 frames:X.A.frames=some X.stack
 stk:X.stack=X.outer \/ (X.stack=X.env::X.outer/\X.env.frame=some X.env.locals)
 exf : ∀ b∈X.ex,b≠X.env.locals /\ ∀ x c,X.env.cells.lookup x=some c->c≠b
 bs : ∀ b o,X.base.get? b=some o->X.s₀.heap.get? b=some o/\X.H₀ b=none
 bsz:X.base.objs.size≤X.s₀.heap.objs.size
 noex : ∀ b o,X.base.get? b=some o->b∉X.ex
 exfs : ∀ b∈X.ex,b∉X.fs
 funs:X.s₀.heap.FunFrames X.base X.outer
 frf : ∀ b∈X.fs,X.H₀ b=none
structure Inv (X:Cx)(pins:List (aB×aY))(σ:List (Option V))(H:Hp)(s:aH):Prop where
 ok:X.Ok
 os:s.os=X.s₀.os
 bare:nO s.gens
 base:Un X.fs X.ex X.H₀ H X.s₀.heap s.heap
 loc : ∃ m,s.heap.Ns X.env.locals m /\ ∀ (i:Nat) (x:aD) (v:V),X.N[i]?=some x->σ[i]?=some (some v)->kN X.env.scope x -> ∃ u,RelV v u/\Look X.env s.heap m x u
 cell : ∀ x c,X.env.cells.lookup x=some c -> ∃ v,s.heap.IsCell c v
 free:H X.env.locals=none
 freeC : ∀ x c,X.env.cells.lookup x=some c->H c=none
 pin : ∀ p∈X.pn++pins,s.heap.get? p.1=some p.2/\H p.1=none/\p.1≠X.env.locals/\p.1∉X.fs /\ ∀ v,p.2.data ≠ .cell v
 hok:HOk X.prog X.w H s.heap
 len:σ.length=X.N.length
section
variable {X:Cx}{pins:List (aB×aY)}{σ:List (Option V)}{H H':Hp}{s:aH}{h':aP}
theorem Cx.Ok.nofr (ok:X.Ok){b:aB}{o:aY}(e:X.base.get? b=some o):b∉X.fs:=fun hb=>by
 have:=(ok.funs.mem hb).1
 rw[e] at this; cases this
theorem Inv.bs (I:Inv X pins σ H s) : ∀ b o,X.base.get? b=some o->s.heap.get? b=some o/\H b=none:=fun b o e=>
 ⟨I.base.keep b o (I.ok.bs b o e).1 (I.ok.bs b o e).2 (I.ok.nofr e) (I.ok.noex b o e),I.base.free b o (I.ok.bs b o e).1 (I.ok.bs b o e).2 (I.ok.noex b o e)⟩
theorem Inv.bk (I:Inv X pins σ H s) : ∀ b o,X.base.get? b=some o->s.heap.get? b=some o:=fun b o e=>(I.bs b o e).1
theorem Inv.mod (I:Inv X pins σ H s):Mod X.K X.mg X.base:=I.ok.mod
theorem Inv.kIn (I:Inv X pins σ H s):X.K.In s.heap:=I.ok.mod.kin.keeps I.bk
theorem Inv.lt (I:Inv X pins σ H s):X.env.locals<s.heap.objs.size:=let ⟨_,hn,_⟩:=I.loc; hn.lt
theorem Inv.sz (I:Inv X pins σ H s):X.s₀.heap.objs.size≤s.heap.objs.size:=jC I.ok.above (wU I.lt)
theorem Inv.nofs (I:Inv X pins σ H s){a:aB}(h:s.heap.objs.size≤a):a∉X.fs:=fun hb=>by
 obtain⟨_,o,ho,_⟩:=I.ok.funs.mem hb
 exact absurd (gQ (cG ho) (jC I.sz h)) (kK _)
theorem Inv.cne (I:Inv X pins σ H s) : ∀ x c,X.env.cells.lookup x=some c->c≠X.env.locals:=fun x c e z=>by
 obtain⟨v,o,ho,hd⟩:=I.cell x c e
 obtain⟨m,⟨o',es,ep,ho',hd',_⟩,_⟩:=I.loc
 rw[z,ho'] at ho; cases ho; rw[hd'] at hd; cases hd
theorem Inv.funs (I:Inv X pins σ H s):s.heap.FunFrames X.base X.outer:=by
 have all : ∀ (l:List dW),(∀ b∈frs l,b∈X.fs)->X.s₀.heap.FunFrames X.base l->s.heap.FunFrames X.base l:=by
  intro l
  induction l with
  | nil=>intro _ _; trivial
  | cons env r ih=>
   intro hs hl
   obtain⟨hk,⟨L,o,hf,hn,ho,hd⟩,hr⟩:=hl
   have hL:L∈X.fs:=hs L (by unfold frs; rw[UV,hf]; exact bX)
   obtain⟨sl,e⟩:=I.base.slot L o ho (I.ok.frf L hL) hL fun z=>I.ok.exfs L z hL
   exact⟨hk,⟨L,_,hf,hn,e,hd⟩,ih (fun b hb=>hs b (by unfold frs; rw[UV,hf]; exact cD _ hb)) hr⟩
 exact all X.outer (fun _ hb=>hb) I.ok.funs
theorem Inv.stack (I:Inv X pins σ H s):s.heap.FunFrames X.base X.stack:=by
 rcases I.ok.stk with e | ⟨e,hf⟩
 ·rw[e]; exact I.funs
 ·rw[e]
  obtain⟨m,hn,_⟩:=I.loc
  refine .cons (by rw[I.ok.kind]; decide) hf hn ?_ I.funs
  exact Heap.get?_none_of_le (jC I.ok.bsz I.ok.above)
theorem Inv.stkSub (I:Inv X pins σ H s) : ∀ b∈frs X.stack,b∈X.env.locals::X.fs:=fun b hb=>by
 rcases I.ok.stk with e | ⟨e,hf⟩
 ·rw[e] at hb; exact cD _ hb
 ·rw[e] at hb
  unfold frs at hb
  rw[UV,hf] at hb
  exact hb
theorem Inv.stkFree (I:Inv X pins σ H s) : ∀ b∈frs X.stack,H b=none:=fun b hb=>by
 rcases cP.mp (I.stkSub b hb) with e | hb
 ·rw[e]; exact I.free
 ·obtain⟨_,o,ho,_⟩:=I.ok.funs.mem hb
  exact I.base.free b o ho (I.ok.frf b hb) fun z=>I.ok.exfs b z hb
theorem Inv.step {g':Array tQ}{t':Nat}{d':Drawn}{ch:List aB}(I:Inv X pins σ H s)
  (hch : ∀ b∈ch,(b∈X.ex \/ X.s₀.heap.objs.size≤b)/\b≠X.env.locals/\(∀ x c,X.env.cells.lookup x=some c->c≠b) /\ ∀ p∈X.pn++pins,p.1≠b)
  (keep : ∀ b o,b≠X.env.locals->b∉X.fs->b∉ch->s.heap.get? b=some o->H b=none->h'.get? b=some o)
  (slot : ∀ b o,b≠X.env.locals->b∈X.fs->b∉ch->s.heap.get? b=some o->H b=none -> ∃ sl,h'.get? b=some { o with slots:=sl }) (free : ∀ b o,b∉ch->s.heap.get? b=some o->H b=none->H' b=none)
  (there : ∀ b o,b∉ch->s.heap.get? b=some o -> ∃ o',h'.get? b=some o')
  (tups : ∀ b xs,H b=some (.tup xs)->H' b=some (.tup xs)) (frzs : ∀ b o u,H b=some (.frz o u)->H' b=some (.frz o u)) (tbls : ∀ b ps,H b=some (.tbl ps) -> ∃ more,H' b=some (.tbl (ps++more)))
  (ns : ∀ m,s.heap.Ns X.env.locals m->h'.Ns X.env.locals m) (hok:HOk X.prog X.w H' h') (hg:nO g') :
  Inv X pins σ H' { s with heap:=h',gens:=g',drawn:=d',toks:=t' }:=by
 have neL : ∀ b o,X.s₀.heap.get? b=some o->b≠X.env.locals:=fun b o e=>dG (gQ (cG e) I.ok.above)
 have neC : ∀ b o,X.s₀.heap.get? b=some o->b∉X.ex->b∉ch:=fun b o e hx hb=>by
  rcases(hch b hb).1 with z | z
  ·exact hx z
  ·exact absurd (gQ (cG e) z) (kK _)
 have cellK : ∀ x c,X.env.cells.lookup x=some c -> ∀ v,s.heap.IsCell c v->h'.IsCell c v:=fun x c e v gh=>by
  obtain⟨o,ho,hd⟩:=gh
  have nch:c∉ch:=fun z=>(hch c z).2.2.1 x c e rfl
  by_cases hc:c∈X.fs
  ·obtain⟨sl,q⟩:=slot c o (I.cne x c e) hc nch ho (I.freeC x c e)
   exact⟨_,q,hd⟩
  ·exact⟨o,keep c o (I.cne x c e) hc nch ho (I.freeC x c e),hd⟩
 refine⟨I.ok,I.os,hg,⟨fun b o e n hb hx=>?_,fun b o e n hb hx=>?_,fun b o e n hx=>?_,fun b o e hx=>?_,fun b xs e=>tups b xs (I.base.tups b xs e),fun b o xs e=>frzs b o xs (I.base.frzs b o xs e),fun b ps e=>?_⟩,?_,fun x c e=>?_,?_,fun x c e=>?_,fun p hp=>?_,hok,I.len⟩
 ·exact keep b o (neL b o e) hb (neC b o e hx) (I.base.keep b o e n hb hx) (I.base.free b o e n hx)
 ·obtain⟨sl,e1⟩:=I.base.slot b o e n hb hx
  obtain⟨sl',e2⟩:=slot b _ (neL b o e) hb (neC b o e hx) e1 (I.base.free b o e n hx)
  exact⟨sl',e2⟩
 ·obtain⟨o',e1⟩:=I.base.there b o e hx
  exact free b o' (neC b o e hx) e1 (I.base.free b o e n hx)
 ·obtain⟨o',e1⟩:=I.base.there b o e hx
  exact there b o' (neC b o e hx) e1
 ·obtain⟨m1,e1⟩:=I.base.tbls b ps e
  obtain⟨m2,e2⟩:=tbls b _ e1
  exact⟨m1++m2,by rw[e2,Array.append_assoc]⟩
 ·obtain⟨m,hn,hl⟩:=I.loc
  refine⟨m,ns m hn,fun i x v e1 e2 e3=>?_⟩
  obtain⟨u,r,l⟩:=hl i x v e1 e2 e3
  refine⟨u,r,?_⟩
  rcases l with l | ⟨k,c,e,z⟩
  ·exact .inl l
  ·exact .inr ⟨k,c,e,cellK x c e _ z⟩
 ·obtain⟨v,z⟩:=I.cell x c e
  exact⟨v,cellK x c e v z⟩
 ·obtain⟨m,⟨o,_,_,ho,_⟩,_⟩:=I.loc
  exact free _ o (fun z=>(hch _ z).2.1 rfl) ho I.free
 ·obtain⟨v,o,ho,hd⟩:=I.cell x c e
  exact free c o (fun z=>(hch c z).2.2.1 x c e rfl) ho (I.freeC x c e)
 ·obtain⟨e,n,ne,nf,d⟩:=I.pin p hp
  have nch:p.1∉ch:=fun z=>(hch p.1 z).2.2.2 p hp rfl
  exact⟨keep p.1 p.2 ne nf nch e n,free p.1 p.2 nch e n,ne,nf,d⟩
theorem Inv.un {t':Nat}(I:Inv X pins σ H s)(u:Un X.fs [] H H' s.heap h')(hok:HOk X.prog X.w H' h'):Inv X pins σ H' { s with heap:=h',toks:=t' }:=by
 obtain⟨m,⟨o,es,ep,ho,r⟩,_⟩:=id I.loc
 obtain⟨sl,hL⟩:=u.any ho I.free (by simp)
 exact I.step (g':=s.gens) (d':=s.drawn) (ch:=[]) (fun _ z=>nomatch z) (fun b o _ hb _ e n=>u.keep b o e n hb (by simp)) (fun b o _ hb _ e n=>u.slot b o e n hb (by simp)) (fun b o _ e n=>u.free b o e n (by simp)) (fun b o _ e=>u.there b o e (by simp)) u.tups u.frzs u.tbls (fun m' hm=>by
  obtain⟨o',es',ep',ho',r'⟩:=hm
  rw[ho] at ho'; cases ho'
  exact⟨_,es',ep',hL,r'⟩) hok I.bare
theorem Inv.call {g':Array tQ}{t':Nat}{d':Drawn}{ch:List aB}(I:Inv X pins σ H s)(u:Un (frs X.stack) ch H H' s.heap h')(hok:HOk X.prog X.w H' h')(hg:nO g')
  (hch : ∀ b∈ch,(b∈X.ex \/ X.s₀.heap.objs.size≤b)/\b≠X.env.locals/\(∀ x c,X.env.cells.lookup x=some c->c≠b) /\ ∀ p∈X.pn++pins,p.1≠b) :
  Inv X pins σ H' { s with heap:=h',gens:=g',drawn:=d',toks:=t' }:=by
 obtain⟨m,⟨o,es,ep,ho,r⟩,_⟩:=id I.loc
 obtain⟨sl,hL⟩:=u.any ho I.free fun z=>(hch _ z).2.1 rfl
 exact I.step (ch:=ch) hch (fun b o hL hb hc e n=>u.keep b o e n (fun z=>(cP.mp (I.stkSub b z)).elim hL hb) hc) (fun b o _ _ hc e n=>u.any e n hc) (fun b o hc e n=>u.free b o e n hc) (fun b o hc e=>u.there b o e hc) u.tups u.frzs u.tbls (fun m' hm=>by
  obtain⟨o',es',ep',ho',r'⟩:=hm
  rw[ho] at ho'; cases ho'
  exact⟨_,es',ep',hL,r'⟩) hok hg
theorem Inv.turned {t':Nat}{it:aB}(I:Inv X pins σ H s)(k : ∀ b o,b≠it->s.heap.get? b=some o->h'.get? b=some o)(hn:H it=none)(hL:it≠X.env.locals)
  (h1:it∈X.ex \/ X.s₀.heap.objs.size≤it) (h2 : ∀ x c,X.env.cells.lookup x=some c->c≠it) (h3 : ∀ p∈X.pn++pins,p.1≠it):Inv X pins σ H { s with heap:=h',toks:=t' }:=by
 have nit : ∀ b u,H b=some u->b≠it:=fun b u e z=>by rw[z,hn] at e; cases e
 refine I.step (g':=s.gens) (d':=s.drawn) (ch:=[it]) (fun b hb=>?_) (fun b o _ _ hc e _=>k b o (fun z=>hc (by simp[z])) e) (fun b o _ _ hc e _=>⟨o.slots,k b o (fun z=>hc (by simp[z])) e⟩) (fun _ _ _ _ n=>n)
  (fun b o hc e=>⟨o,k b o (fun z=>hc (by simp[z])) e⟩) (fun _ _ e=>e) (fun _ _ _ e=>e) (fun b ps e=>⟨#[],by rw[e]; simp⟩) (fun m hm=>?_) (fun b u e=>?_) I.bare
 ·have e:b=it:=by simpa using hb
  subst e
  exact⟨h1,hL,h2,h3⟩
 ·obtain⟨o,es,ep,ho,r⟩:=hm
  exact⟨o,es,ep,k _ o (kJ hL) ho,r⟩
 ·refine(I.hok b u e).stay (fun c v hc q=>k c v ?_ q) (fun _ q=>q) fun _ _ q=>q
  rcases hc with z | z
  ·rw[z]; exact nit b u e
  ·exact nit c _ z
theorem Inv.tok (I:Inv X pins σ H s)(t:Nat):Inv X pins σ H { s with toks:=t }:=I.un (h':=s.heap) (t':=t) Un.refl I.hok
theorem Inv.kept {t':Nat}(I:Inv X pins σ H s)(k : ∀ b u,s.heap.get? b=some u->h'.get? b=some u):Inv X pins σ H { s with heap:=h',toks:=t' }:=I.un (Un.kept k) (I.hok.kept k)
theorem Inv.laid {a:aB}{o:HO}{t':Nat}(I:Inv X pins σ H s)(k : ∀ b u,s.heap.get? b=some u->h'.get? b=some u)(hp:s.heap.objs.size≤a)(new:Aci X.prog X.w (upd H a o) h' a o) :
  Inv X pins σ (upd H a o) { s with heap:=h',toks:=t' }:=I.un (Un.laid k hp (I.hok.fresh hp)) (I.hok.laid k hp new)
theorem Inv.write {x e:aB}{o:HO}{t':Nat}(I:Inv X pins σ H s)(mu:tU (H x))(he:e=x \/ H e=some (.own x))(k : ∀ b u,b≠e->s.heap.get? b=some u->h'.get? b=some u)(heo : ∃ u,h'.get? e=some u)
  (new:Aci X.prog X.w (upd H x o) h' x o):Inv X pins σ (upd H x o) { s with heap:=h',toks:=t' }:=I.un (Un.write mu he k heo) (I.hok.write mu he k heo new)
theorem Inv.pins_of {pins':List (aB×aY)}(I:Inv X pins σ H s)(h : ∀ p∈pins',s.heap.get? p.1=some p.2/\H p.1=none/\p.1≠X.env.locals/\p.1∉X.fs /\ ∀ v,p.2.data ≠ .cell v):Inv X pins' σ H s:=
 ⟨I.ok,I.os,I.bare,I.base,I.loc,I.cell,I.free,I.freeC,fun p hp=>(nM.mp hp).elim (fun z=>I.pin p (List.mem_append_left _ z)) (h p),I.hok,I.len⟩
theorem ND {N:List aD}(hN:N.Nodup){i j:Nat}{x:aD}(a:N[i]?=some x)(b:N[j]?=some x):i=j:=by
 obtain⟨h1,e1⟩:=dU.mp a
 obtain⟨h2,e2⟩:=dU.mp b
 exact(List.getElem_inj hN).mp (e1.trans e2.symm)
theorem NX {M:Model}{A:cA}{E:aE->aH->Prop}{i:Nat}{x:aD}{v:V}{u:aE}{Q:Unit->aH->Prop}(I:Inv X pins σ H s)(hN:X.N.Nodup)(hi:X.N[i]?=some x)(hx:kO X.env.scope x)(r:RelV v u)
  (h : ∀ s',Inv X pins (σ.set i (some v)) H s'->(∃ a,qU a s.heap s'.heap/\(a=X.env.locals \/ X.env.cells.lookup x=some a))->Q () s') (hf:X.fn x=true \/ X.env.scope.names.lookup x=some .local:=by first | exact .inl rfl | exact .inr rfl | assumption):aQ M A (storeName X.env x u) Q E s:=by
 obtain⟨m,hn,hl⟩:=id I.loc
 have hcls:(X.env.scope.kind == .class||(X.env.scope.kind == .module&&X.env.locals != X.env.globals))=false:=by rw[I.ok.kind]; rfl
 have hiσ:i<σ.length:=by rw[I.len]; exact(dU.mp hi).1
 have cne:=I.cne
 have tracked : ∀ {a:aB} {h':aP},(∃ o,s.heap.get? a=some o/\H a=none)->qU a s.heap h'->HOk X.prog X.w H h':=fun {a h'} ha hs b ob e=>by
  obtain⟨_,_,hfree⟩:=ha
  refine(I.hok b ob e).stay (fun c w' hc q=>(hs.2 c ?_).trans q) (fun _ q=>q) fun _ _ q=>q
  rintro rfl
  rcases hc with rfl | hc
  ·rw[hfree] at e; cases e
  ·rw[hfree] at hc; cases hc
 rcases hx with hk | hk
 ·refine wpAny_storeName_local hk hn (fun h' hn' hs=>?_) hcls
  obtain⟨oL,_,_,hoL,_⟩:=id hn
  refine h _ ⟨I.ok,I.os,I.bare,⟨fun b o e n hb hx=>?_,fun b o e n hb hx=>?_,I.base.free,fun b o e hx=>?_,I.base.tups,I.base.frzs,I.base.tbls⟩,⟨_,hn',fun j y v' e1 e2 e3=>?_⟩,fun y c e=>?_,I.free,I.freeC,fun p hp=>?_,tracked ⟨oL,hoL,I.free⟩ hs,by simpa using I.len⟩ ⟨_,hs,.inl rfl⟩
  ·exact(hs.2 b (dG (gQ (cG e) I.ok.above))).trans (I.base.keep b o e n hb hx)
  ·obtain⟨sl,e1⟩:=I.base.slot b o e n hb hx
   exact⟨sl,(hs.2 b (dG (gQ (cG e) I.ok.above))).trans e1⟩
  ·obtain⟨o',e1⟩:=I.base.there b o e hx
   exact⟨o',(hs.2 b (dG (gQ (cG e) I.ok.above))).trans e1⟩
  ·by_cases hj:j=i
   ·subst hj
    rw[hi] at e1; cases e1
    rw[lF hiσ] at e2
    cases e2
    exact⟨u,r,.inl ⟨hk,by simp⟩⟩
   ·rw[jT (kJ hj)] at e2
    obtain⟨u',r',q⟩:=hl j y v' e1 e2 e3
    refine⟨u',r',?_⟩
    rcases q with⟨k,e⟩ | ⟨k,c,e,z⟩
    ·refine .inl ⟨k,?_⟩
     have:y≠x:=fun e=>hj (ND hN e1 (e ▸ hi))
     simp[this,e]
    ·exact .inr ⟨k,c,e,z.sameBut hs (cne y c e)⟩
  ·obtain⟨w',z⟩:=I.cell y c e
   exact⟨w',z.sameBut hs (cne y c e)⟩
  ·obtain⟨e,n,ne,nf,d⟩:=I.pin p hp
   exact⟨(hs.2 p.1 ne).trans e,n,ne,nf,d⟩
 ·have hfn:X.fn x=true:=by
   rcases hf with z | z
   ·exact z
   ·rw[z] at hk; cases hk
  obtain⟨c,hc⟩:=I.ok.has x (.inl hk)
  obtain⟨w',z⟩:=I.cell x c hc
  refine wpAny_storeName_cell I.ok.kind hk hc z (fun h' hc' hs=>?_)
  obtain⟨oc,hoc,hocd⟩:=id z
  refine h { s with heap:=h' } ⟨I.ok,I.os,I.bare,⟨fun b o e n hb hx=>?_,fun b o e n hb hx=>?_,I.base.free,fun b o e hx=>?_,I.base.tups,I.base.frzs,I.base.tbls⟩,⟨m,hn.sameBut hs (kJ (cne x c hc)),fun j y v' e1 e2 e3=>?_⟩,fun y c' e=>?_,I.free,I.freeC,fun p hp=>?_,tracked ⟨oc,hoc,I.freeC x c hc⟩ hs,by simpa using I.len⟩ ⟨c,hs,.inr hc⟩
  ·exact(hs.2 b (dG (gQ (cG e) (I.ok.cab x c hfn hc)))).trans (I.base.keep b o e n hb hx)
  ·obtain⟨sl,e1⟩:=I.base.slot b o e n hb hx
   exact⟨sl,(hs.2 b (dG (gQ (cG e) (I.ok.cab x c hfn hc)))).trans e1⟩
  ·obtain⟨o',e1⟩:=I.base.there b o e hx
   exact⟨o',(hs.2 b (dG (gQ (cG e) (I.ok.cab x c hfn hc)))).trans e1⟩
  ·by_cases hj:j=i
   ·subst hj
    rw[hi] at e1; cases e1
    rw[lF hiσ] at e2
    cases e2
    exact⟨u,r,.inr ⟨.inl hk,c,hc,hc'⟩⟩
   ·rw[jT (kJ hj)] at e2
    obtain⟨u',r',q⟩:=hl j y v' e1 e2 e3
    refine⟨u',r',?_⟩
    rcases q with q | ⟨k,c',e,z'⟩
    ·exact .inl q
    ·refine .inr ⟨k,c',e,z'.sameBut hs ?_⟩
     rintro rfl
     exact hj (ND hN e1 (I.ok.inj _ _ _ e hc ▸ hi))
  ·by_cases hcc:c'=c
   ·subst hcc; exact⟨_,hc'⟩
   ·obtain⟨w2,z2⟩:=I.cell y c' e
    exact⟨w2,z2.sameBut hs hcc⟩
  ·obtain⟨e,n,ne,nf,d⟩:=I.pin p hp
   refine⟨(hs.2 p.1 ?_).trans e,n,ne,nf,d⟩
   intro q
   rw[q,hoc] at e
   have q':oc=p.2:=dZ e
   exact d w' (by rw[← q']; exact hocd)
theorem LY {M:Model}{A:cA}{E:aE->aH->Prop}{i:Nat}{x:aD}{v:V}{u:aE}{Q:Unit->aH->Prop}(I:Inv X pins σ H s)(hN:X.N.Nodup)(hi:X.N[i]?=some x)(hx:kO X.env.scope x)(r:RelV v u)
  (h : ∀ s',Inv X pins (σ.set i (some v)) H s'->Q () s') (hf:X.fn x=true \/ X.env.scope.names.lookup x=some .local:=by first | exact .inl rfl | exact .inr rfl | assumption):aQ M A (storeName X.env x u) Q E s:=
 NX I hN hi hx r (fun s' I' _=>h s' I') hf
theorem Inv.call' {s':aH}{ch:List aB}(I:Inv X pins σ H s)(ho:s'.os=s.os)(u:Un (frs X.stack) ch H H' s.heap s'.heap)(hok:HOk X.prog X.w H' s'.heap)(hg:nO s'.gens)
  (hch : ∀ b∈ch,(b∈X.ex \/ X.s₀.heap.objs.size≤b)/\b≠X.env.locals/\(∀ x c,X.env.cells.lookup x=some c->c≠b) /\ ∀ p∈X.pn++pins,p.1≠b):Inv X pins σ H' s':=by
 obtain⟨h',g',d',t',o'⟩:=s'
 have e:o'=s.os:=ho
 subst e
 exact I.call (g':=g') (t':=t') (d':=d') u hok hg hch
end
abbrev XK:=aE->Option aB->Hp->Prop
abbrev St:=List (Option V)
abbrev VK:=V->Hp->Prop
abbrev TE:=St->Hp->VK->Prop
abbrev TT:=St->Hp->(Bool->Hp->Prop)->Prop
abbrev TA:=St->Hp->(List V->Hp->Prop)->Prop
structure Ends where
 nx:St->Hp->Prop
 rt:VK
 bk:St->Hp->Prop:=fun _ _=>False
 ct:St->Hp->Prop:=fun _ _=>False
abbrev TS:=Ends->St->Hp->Prop
def EP (X:Cx)(pins:List (aB×aY))(σ:St)(Q:VK)(u:aE)(s':aH):Prop:=∃ v H',Inv X pins σ H' s'/\RelV v u/\Q v H'
def TP (X:Cx)(pins:List (aB×aY))(σ:St)(Q:Bool->Hp->Prop)(b:Bool)(s':aH):Prop:=∃ H',Inv X pins σ H' s'/\Q b H'
def AP (X:Cx)(pins:List (aB×aY))(σ:St)(Q:List V->Hp->Prop)(us:List aE)(s':aH):Prop:=∃ vs H',Inv X pins σ H' s'/\Vals vs us/\Q vs H'
def SP (X:Cx)(pins:List (aB×aY))(D:Ends)(f:Flow)(s':aH):Prop:=
 match f with
 | .next=>∃ σ' H',Inv X pins σ' H' s'/\D.nx σ' H'
 | .brk=>∃ σ' H',Inv X pins σ' H' s'/\D.bk σ' H'
 | .cont=>∃ σ' H',Inv X pins σ' H' s'/\D.ct σ' H'
 | .ret u=>∃ v σ' H',Inv X pins σ' H' s'/\RelV v u/\D.rt v H'
def PE (X:Cx)(e:aR)(t:TE):Prop:=
 ∀ (pins:List (aB×aY)) (s:aH) (σ:St) (H:Hp) (Q:VK),Inv X pins σ H s->t σ H Q->aQ (aT X.prog X.w) X.A (bJ e X.env) (EP X pins σ Q) X.xe s
def PT (X:Cx)(e:aR)(t:TT):Prop:=
 ∀ (pins:List (aB×aY)) (s:aH) (σ:St) (H:Hp) (Q:Bool->Hp->Prop),Inv X pins σ H s->t σ H Q->aQ (aT X.prog X.w) X.A (isTrue e X.env (bJ e X.env)) (TP X pins σ Q) X.xe s
def PW (X:Cx)(e:aR)(t:TT):Prop:=
 ∀ (whole:Sem aE) (pins:List (aB×aY)) (s:aH) (σ:St) (H:Hp) (Q:Bool->Hp->Prop),Inv X pins σ H s->t σ H Q->aQ (aT X.prog X.w) X.A (isTrue e X.env whole) (TP X pins σ Q) X.xe s
theorem PW.pt {X:Cx}{e:aR}{t:TT}(h:PW X e t):PT X e t:=h _
def PA (X:Cx)(es:List aR)(t:TA):Prop:=
 ∀ (pos:bL) (pins:List (aB×aY)) (s:aH) (σ:St) (H:Hp) (Q:List V->Hp->Prop),Inv X pins σ H s->t σ H Q->aQ (aT X.prog X.w) X.A (spliced (fD pos (bI es X.env))) (AP X pins σ Q) X.xe s
def PS (X:Cx)(st:bK)(t:TS):Prop:=
 ∀ (pins:List (aB×aY)) (s:aH) (σ:St) (H:Hp) (D:Ends),Inv X pins σ H s->t D σ H->aQ (aT X.prog X.w) X.A (exec st X.env) (SP X pins D) X.xe s
def PSs (X:Cx)(st:List bK)(t:TS):Prop:=
 ∀ (pins:List (aB×aY)) (s:aH) (σ:St) (H:Hp) (D:Ends),Inv X pins σ H s->t D σ H->aQ (aT X.prog X.w) X.A (execs st X.env) (SP X pins D) X.xe s
theorem thn {α:Type}{t:Sem α}{Q Q':α->aH->Prop}{M:Model}{A:cA}{E:aE->aH->Prop}{s:aH}(h:aQ M A t Q E s)(hQ : ∀ a s,Q a s->Q' a s):aQ M A t Q' E s:=iX h hQ fun _ _ x=>x
section
variable {X:Cx}
noncomputable abbrev sP (i:Nat):TE:=fun σ H Q=>∃ v,σ[i]?=some (some v)/\Q v H
noncomputable abbrev tC (v:V):TE:=fun _ H Q=>Q v H
theorem mU {i:Nat}{x:aD}{pos:bL}(hN:X.N[i]?=some x)(hv:kN X.env.scope x)(hd:(x == ("__debug__" : aD))=false:=by decide)(hcd:(x == ("__classdict__" : aD))=false:=by decide):PE X (.Name x pos) (sP i):=by
 intro pins s σ H Q I h
 obtain⟨v,e,h⟩:=h
 obtain⟨m,hn,hl⟩:=I.loc
 obtain⟨u,r,l⟩:=hl i x v hN e hv
 have fin:EP X pins σ Q u s:=⟨v,H,I,r,h⟩
 rcases l with⟨hk,hm⟩ | ⟨hk,c,hc,hcell⟩
 ·exact wpAny_Name (wpAny_loadName_local I.ok.kind hk hn hm fin) hd
 ·rcases hk with hk | hk
  ·exact wpAny_Name (wpAny_loadName_cell I.ok.kind hk hc hcell fin) hd
  ·exact wpAny_Name (wpAny_loadName_free I.ok.kind hk hc hcell fin hcd) hd
theorem YO {i j pos}:PE X (.Constant (.int i) j pos) (tC (.int i)):=fun _ _ _ H _ I h=>wpAny_Constant_int ⟨.int i,H,I.tok _,⟨_,rfl⟩,h⟩
theorem rC {b j pos}:PE X (.Constant (.bool b) j pos) (tC (.bl b)):=fun _ _ _ H _ I h=>Constant_bool ⟨.bl b,H,I,rfl,h⟩
theorem SM {x j pos}:PE X (.Constant (.str x) j pos) (tC (.str x)):=fun _ _ _ H _ I h=>Calls.Constant_str ⟨.str x,H,I.tok _,⟨_,rfl⟩,h⟩
def Gl (X:Cx)(x:aD):Prop:=X.env.kindOf x=some .globalImplicit
theorem yH {E:aE->aH->Prop}{pins:List (aB×aY)}{s:aH}{σ:St}{H:Hp}{x:aD}{u:aE}{pos:bL}{Q:aE->aH->Prop}(I:Inv X pins σ H s)(hg:Gl X x)(hm:X.mg x=some u)(h:Q u s)
  (hd:(x == ("__debug__" : aD))=false:=by decide):aQ (aT X.prog X.w) X.A (bJ (.Name x pos) X.env) Q E s:=
 Calls.Name_function_global I.ok.kind hg (Calls.loadGlobal_global (by rw[I.ok.glob]; exact I.mod.glob.keeps I.bk) hm h) hd
theorem xY {E:aE->aH->Prop}{pins:List (aB×aY)}{s:aH}{σ:St}{H:Hp}{x:aD}{u:aE}{pos:bL}{Q:aE->aH->Prop}(I:Inv X pins σ H s)(hg:Gl X x)(hm:X.mg x=none)(hv:jN x=some u)(h:Q u s)
  (hn:x ≠ "__name__":=by decide) (hd:(x == ("__debug__" : aD))=false:=by decide):aQ (aT X.prog X.w) X.A (bJ (.Name x pos) X.env) Q E s:=by
 obtain⟨mb,h1,h2⟩:=I.mod.blt
 exact Calls.Name_function_global I.ok.kind hg (Calls.loadGlobal_builtin (by rw[I.ok.glob]; exact I.mod.glob.keeps I.bk) hm (by rw[I.ok.blt]; exact h1.keeps I.bk) ((h2 x hn).trans hv) h) hd
theorem KJ {x:aD}{v:V}{u:aE}{pos:bL}(hg:Gl X x)(hm:X.mg x=some u)(r:RelV v u)(hd:(x == ("__debug__" : aD))=false:=by decide):PE X (.Name x pos) (tC v):=
 fun _ _ _ H _ I h=>yH I hg hm ⟨v,H,I,r,h⟩ hd
theorem Ls {x:aD}{v:V}{u:aE}{pos:bL}(hg:Gl X x)(hm:X.mg x=none)(hv:jN x=some u)(r:RelV v u)(hn:x ≠ "__name__":=by decide)(hd:(x == ("__debug__" : aD))=false:=by decide):PE X (.Name x pos) (tC v):=
 fun _ _ _ H _ I h=>xY I hg hm hv ⟨v,H,I,r,h⟩ hn hd
variable {a b:aR}{ta tb:TE}{pos:bL}
noncomputable def tB (t:TE):TT:=fun σ H Q=>t σ H fun x H1=>∃ c,x = .bl c/\Q c H1
theorem SO {e:aR}{t:TE}(h:PE X e t)(he : ∀ whole,isTrue e X.env whole=(do let v ← whole; qH e.pos; kZ [v] (truthy v)):=by intro _; rfl):PT X e (tB t):=by
 intro pins s σ H Q I hw
 refine isTrue_plain (thn (h pins s σ H _ I hw) fun v s1 ⟨x,H1,I1,r1,q1⟩=>?_) (he _)
 obtain⟨d,rfl,q⟩:=q1
 cases r1
 exact qF ⟨H1,I1,q⟩
variable {tA tB':TT}{rest:List aR}
noncomputable def WJ (t u:TT):TT:=fun σ H Q=>t σ H fun c H1=>if c=true then u σ H1 Q else Q false H1
noncomputable def tOr (t u:TT):TT:=fun σ H Q=>t σ H fun c H1=>if c=true then Q true H1 else u σ H1 Q
noncomputable def WR (t:TT):TT:=fun σ H Q=>t σ H fun c H1=>Q (!c) H1
theorem KU (ha:PT X a tA):PW X (.BoolOp .And [a] pos) tA:=by
 intro wh pins s σ H Q I h
 refine isTrue_and (thn (ha pins s σ H Q I h) fun c s1 e=>?_)
 cases c with
 | true=>exact isTrue_and_nil e
 | false=>exact e
theorem Ij (ha:PT X a tA):PW X (.BoolOp .Or [a] pos) tA:=by
 intro wh pins s σ H Q I h
 refine isTrue_or (thn (ha pins s σ H Q I h) fun c s1 e=>?_)
 cases c with
 | false=>exact isTrue_or_nil e
 | true=>exact e
theorem SX (ha:PT X a tA)(hb:PW X (.BoolOp .And (b::rest) pos) tB'):PW X (.BoolOp .And (a::b::rest) pos) (WJ tA tB'):=by
 intro wh pins s σ H Q I h
 refine isTrue_and (thn (ha pins s σ H _ I h) fun c s1 gh=>?_)
 obtain⟨H1,I1,q1⟩:=gh
 cases c with
 | true=>exact hb wh pins s1 σ H1 Q I1 q1
 | false=>exact⟨H1,I1,q1⟩
theorem XJ (ha:PT X a tA)(hb:PW X (.BoolOp .Or (b::rest) pos) tB'):PW X (.BoolOp .Or (a::b::rest) pos) (tOr tA tB'):=by
 intro wh pins s σ H Q I h
 refine isTrue_or (thn (ha pins s σ H _ I h) fun c s1 gh=>?_)
 obtain⟨H1,I1,q1⟩:=gh
 cases c with
 | true=>exact⟨H1,I1,q1⟩
 | false=>exact hb wh pins s1 σ H1 Q I1 q1
theorem SB (ha:PT X a tA):PT X (.UnaryOp .Not a pos) (WR tA):=by
 intro pins s σ H Q I h
 exact isTrue_not (ha pins s σ H (fun c H1=>Q (!c) H1) I h)
noncomputable def WU (ta tb:TE):TE:=fun σ H Q=>ta σ H fun x H1=>∃ c,x = .bl c/\if c=true then tb σ H1 Q else Q (.bl false) H1
noncomputable def XO (ta:TE):TE:=fun σ H Q=>ta σ H fun x H1=>∃ c,x = .bl c/\Q (.bl (!c)) H1
theorem YQ {op}{t:TE}(h:PE X a t):PE X (.BoolOp op [a] pos) t:=fun pins s σ H Q I hw=>BoolOp_one (h pins s σ H Q I hw)
theorem YT (ha:PE X a ta)(hb:PE X (.BoolOp .And (b::rest) pos) tb):PE X (.BoolOp .And (a::b::rest) pos) (WU ta tb):=by
 intro pins s σ H Q I h
 refine BoolOp_and (thn (ha pins s σ H _ I h) fun v s1 gh=>?_)
 obtain⟨x,H1,I1,r1,q1⟩:=gh
 obtain⟨c,rfl,q1⟩:=q1
 cases r1
 refine qF ?_
 cases c with
 | true=>exact hb pins s1 σ H1 Q I1 q1
 | false=>exact⟨.bl false,H1,I1,rfl,q1⟩
theorem ZC (ha:PE X a ta):PE X (.UnaryOp .Not a pos) (XO ta):=by
 intro pins s σ H Q I h
 refine UnaryOp_ (thn (ha pins s σ H _ I h) fun v s1 gh=>?_)
 obtain⟨x,H1,I1,r1,q1⟩:=gh
 obtain⟨c,rfl,q1⟩:=q1
 cases r1
 exact not_of (qF ⟨.bl (!c),H1,I1,rfl,q1⟩)
end
def SqL (K:aG)(H:Hp)(a:aB)(xs:List V):Prop:=
 Rd H a (.lst xs) \/
  ∃ (o:aY) (its:Array aE) (n:Nat),K.lookup a=some o/\o.cls = .type "list" /\ o.dict=none/\o.data = .seq its n/\its.size≤sizeLine/\Vals xs its.toList
def SqT (K:aG)(H:Hp)(a:aB)(xs:List V):Prop:=
 Rd H a (.tup xs) \/
  ∃ (o:aY) (its:Array aE) (n:Nat),K.lookup a=some o/\o.cls = .type "tuple" /\ o.data = .seq its n/\its.size≤sizeLine/\Vals xs its.toList
noncomputable def VV:aE->Option V
 | .none=>some .non
 | .bool b=>some (.bl b)
 | .int i _=>some (.int i)
 | .str x _=>some (.str x)
 | .bytes b _=>some (.byt b)
 | .float b _=>some (.flt b)
 | .ref a=>some (.ref a)
 | .type n=>some (.ty n)
 | _=>none
theorem RelV.abs {x:V}{u:aE}(r:RelV x u):VV u=some x:=by
 cases x with
 | non=>cases r; rfl
 | bl _=>cases r; rfl
 | int _=>obtain⟨t,rfl⟩:=r; rfl
 | str _=>obtain⟨t,rfl⟩:=r; rfl
 | byt _=>obtain⟨t,rfl⟩:=r; rfl
 | flt _=>obtain⟨t,rfl⟩:=r; rfl
 | ref _=>cases r; rfl
 | ty _=>cases r; rfl
theorem RelV.inj {x y:V}{u:aE}(r:RelV x u)(q:RelV y u):x=y:=dZ (r.abs.symm.trans q.abs)
theorem Vals.inj : ∀ {xs ys:List V} {us:List aE},Vals xs us->Vals ys us->xs=ys:=by
 intro xs ys us h
 induction h generalizing ys with
 | nil=>intro h; cases h; rfl
 | cons r _ ih=>
  intro h
  cases h with
  | cons r' t'=>rw[r.inj r',ih t']
section
variable {X:Cx}{pins:List (aB×aY)}{σ:St}{H:Hp}{s:aH}{a:aB}{xs ys:List V}
theorem SqL.of {K:aG}(h:H a=some (.lst xs)):SqL K H a xs:=.inl (.inl h)
theorem SqT.of {K:aG}(h:H a=some (.tup xs)):SqT K H a xs:=.inl (.inl h)
theorem Inv.list (I:Inv X pins σ H s)(h:SqL X.K H a xs) : ∃ its:List aE,Vals xs its/\PlainL s.heap a its.toArray/\xs.length≤sizeLine:=by
 rcases h with h | ⟨o,its,n,hk,hc,hd,hs,hz,r⟩
 ·obtain⟨z,its,n,r,e⟩:=h.ok I.hok
  exact⟨its,r,⟨_,n,e,rfl,rfl,rfl⟩,z⟩
 ·refine⟨its.toList,r,⟨o,n,I.kIn a o hk,hc,hd,by simpa using hs⟩,?_⟩
  have e:=r.length
  simp only[mI] at e
  omega
theorem Inv.tuple (I:Inv X pins σ H s)(h:SqT X.K H a xs) : ∃ its:List aE,Vals xs its/\IsTup s.heap a its.toArray/\xs.length≤sizeLine:=by
 rcases h with h | ⟨o,its,n,hk,hc,hs,hz,r⟩
 ·obtain⟨z,its,r,p⟩:=h.ok I.hok
  exact⟨its,r,p.1,z⟩
 ·refine⟨its.toList,r,⟨o,I.kIn a o hk,hc,n,by simpa using hs⟩,?_⟩
  have e:=r.length
  simp only[mI] at e
  omega
theorem Inv.list_inj (I:Inv X pins σ H s)(h:SqL X.K H a xs)(h':SqL X.K H a ys):xs=ys:=by
 obtain⟨its,r,⟨o,n,e,_,_,d⟩,_⟩:=I.list h
 obtain⟨its',r',⟨o',n',e',_,_,d'⟩,_⟩:=I.list h'
 rw[e] at e'; cases e'
 rw[d] at d'
 injection d' with d1 _
 have:its=its':=by simpa using congrArg Array.toList d1
 subst this
 exact r.inj r'
theorem Inv.tuple_inj (I:Inv X pins σ H s)(h:SqT X.K H a xs)(h':SqT X.K H a ys):xs=ys:=by
 obtain⟨its,r,⟨o,e,_,n,d⟩,_⟩:=I.tuple h
 obtain⟨its',r',⟨o',e',_,n',d'⟩,_⟩:=I.tuple h'
 rw[e] at e'; cases e'
 rw[d] at d'
 injection d' with d1 _
 have:its=its':=by simpa using congrArg Array.toList d1
 subst this
 exact r.inj r'
end
noncomputable abbrev Cx.wish (X:Cx)(E:aE->aH->Prop):Cx:={ X with xe:=E }
noncomputable abbrev Cx.nox (X:Cx):Cx:=X.wish fun _ _=>False
theorem Cx.Ok.wish {X:Cx}(ok:X.Ok)(E:aE->aH->Prop):(X.wish E).Ok:=
 ⟨ok.mod,ok.kind,ok.glob,ok.blt,ok.above,ok.inj,ok.has,ok.cab,ok.hd,ok.frames,ok.stk,ok.exf,ok.bs,ok.bsz,ok.noex,ok.exfs,ok.funs,ok.frf⟩
theorem Cx.Ok.unwish {X:Cx}{E:aE->aH->Prop}(ok:(X.wish E).Ok):X.Ok:=
 ⟨ok.mod,ok.kind,ok.glob,ok.blt,ok.above,ok.inj,ok.has,ok.cab,ok.hd,ok.frames,ok.stk,ok.exf,ok.bs,ok.bsz,ok.noex,ok.exfs,ok.funs,ok.frf⟩
section
variable {X:Cx}{pins:List (aB×aY)}{σ:St}{H:Hp}{s:aH}{E:aE->aH->Prop}
theorem Inv.wish (I:Inv X pins σ H s)(E:aE->aH->Prop):Inv (X.wish E) pins σ H s:=⟨I.ok.wish E,I.os,I.bare,I.base,I.loc,I.cell,I.free,I.freeC,I.pin,I.hok,I.len⟩
theorem Inv.unwish (I:Inv (X.wish E) pins σ H s):Inv X pins σ H s:=⟨I.ok.unwish,I.os,I.bare,I.base,I.loc,I.cell,I.free,I.freeC,I.pin,I.hok,I.len⟩
theorem SP.unwish {D:Ends}{f:Flow}{s':aH}(h:SP (X.wish E) pins D f s'):SP X pins D f s':=by
 cases f with
 | next=>obtain⟨σ',H',I,q⟩:=h; exact⟨σ',H',I.unwish,q⟩
 | brk=>obtain⟨σ',H',I,q⟩:=h; exact⟨σ',H',I.unwish,q⟩
 | cont=>obtain⟨σ',H',I,q⟩:=h; exact⟨σ',H',I.unwish,q⟩
 | ret u=>obtain⟨v,σ',H',I,r,q⟩:=h; exact⟨v,σ',H',I.unwish,r,q⟩
theorem PSs.nox {st:List bK}{t:TS}(h:PSs X.nox st t):PSs X st t:=fun pins s σ H D I hw=>
 iX (h pins s σ H D (I.wish _) hw) (fun _ _ q=>q.unwish) fun _ _ z=>iQ z
end
section
variable {X:Cx}{st:bK}{rest:List bK}{t u:TS}{e:aR}{te:TE}{pos:bL}
noncomputable def XA:TS:=fun D σ H=>D.nx σ H
noncomputable def WL (t u:TS):TS:=fun D σ H=>t { D with nx:=u D } σ H
theorem lV:PSs X [] XA:=fun _ _ σ H _ I h=>wpAny_execs_nil ⟨σ,H,I,h⟩
theorem gU (h1:PS X st t)(h2:PSs X rest u):PSs X (st::rest) (WL t u):=by
 intro pins s σ H D I h
 refine wpAny_execs_cons (thn (h1 pins s σ H { D with nx:=u D } I h) fun f s1 q=>?_)
 cases f with
 | next=>
  obtain⟨σ',H',I',q⟩:=q
  exact h2 pins s1 σ' H' D I' q
 | ret v=>exact q
 | brk=>exact q
 | cont=>exact q
theorem jI (h1:PS X st t):PSs X [st] t:=by
 intro pins s σ H D I h
 refine wpAny_execs_cons (thn (h1 pins s σ H D I h) fun f s1 q=>?_)
 cases f with
 | next=>exact wpAny_execs_nil q
 | ret v=>exact q
 | brk=>exact q
 | cont=>exact q
theorem Inv.quiet {pins:List (aB×aY)}{σ:St}{H:Hp}{s:aH}(I:Inv X pins σ H s):interactive X.env=false:=by simp[interactive,I.ok.kind]
noncomputable def XD (te:TE):TS:=fun D σ H=>te σ H fun _ H1=>D.nx σ H1
theorem oE (he:PE X e te)(hs:lY e none pos.line X.env=pure false:=by rfl):PS X (.Expr e pos) (XD te):=by
 intro pins s σ H D I h
 exact wpAny_Expr_any (thn (he pins s σ H _ I h) fun v s1 ⟨x,H1,I1,r1,q1⟩=>⟨σ,H1,I1,q1⟩) I.quiet hs
noncomputable def WK (te:TE):TS:=fun D σ H=>te σ H D.rt
theorem mP (he:PE X e te):PS X (.Return (some e) pos) (WK te):=by
 intro pins s σ H D I h
 exact wpAny_Return_some (thn (he pins s σ H _ I h) fun v s1 ⟨x,H1,I1,r1,q1⟩=>⟨x,σ,H1,I1,r1,q1⟩)
noncomputable def WO (c:TT)(t u:TS):TS:=fun D σ H=>c σ H fun b H1=>if b=true then t D σ H1 else u D σ H1
theorem lP {c:aR}{a b:List bK}{tc:TT}(hc:PT X c tc)(ha:PSs X a t)(hb:PSs X b u):PS X (.If c a b pos) (WO tc t u):=by
 intro pins s σ H D I h
 refine wpAny_If (thn (hc pins s σ H _ I h) fun d s1 gh=>?_)
 obtain⟨H1,I1,q1⟩:=gh
 cases d with
 | true=>exact ha pins s1 σ H1 D I1 q1
 | false=>exact hb pins s1 σ H1 D I1 q1
noncomputable def Ia:TS:=fun _ _ _=>False
theorem NK {sts:List bK}:PSs X sts Ia:=fun _ _ _ _ _ _ h=>h.elim
end
abbrev TG:=V->St->Hp->(St->Hp->Prop)->Prop
abbrev TGs:=List V->St->Hp->(St->Hp->Prop)->Prop
def PG (X:Cx)(target:aR)(t:TG):Prop:=
 ∀ (pins:List (aB×aY)) (s:aH) (σ:St) (H:Hp) (v:V) (u:aE) (Q:St->Hp->Prop),Inv X pins σ H s->RelV v u->t v σ H Q ->
  aQ (aT X.prog X.w) X.A (mC target X.env u) (fun _ s'=>∃ σ' H',Inv X pins σ' H' s'/\Q σ' H') X.xe s
def PGs (X:Cx)(ts:List aR)(t:TGs):Prop:=
 ∀ (pins:List (aB×aY)) (s:aH) (σ:St) (H:Hp) (vs:List V) (us:List aE) (Q:St->Hp->Prop),Inv X pins σ H s->Vals vs us->t vs σ H Q ->
  aQ (aT X.prog X.w) X.A (assignInOrder ((jO ts X.env).map (·.2)) us) (fun _ s'=>∃ σ' H',Inv X pins σ' H' s'/\Q σ' H') X.xe s
abbrev BP:=V->V->V->Hp->(Hp->Prop)->Prop
def IV (X:Cx)(t:BP):Prop:=
 ∀ (pins:List (aB×aY)) (s:aH) (σ:St) (H:Hp) (o i v:V) (ov iv u:aE) (Q:Hp->Prop),Inv X pins σ H s->RelV o ov->RelV i iv->RelV v u->t o i v H Q ->
  aQ (aT X.prog X.w) X.A (setItem ov iv u) (fun _ s'=>∃ H',Inv X pins σ H' s'/\Q H') X.xe s
section
variable {X:Cx}{pos:bL}
noncomputable def HA (i:Nat):TG:=fun v σ H Q=>Q (σ.set i (some v)) H
theorem uS {i:Nat}{x:aD}(hN:X.N.Nodup)(hi:X.N[i]?=some x)(hx:kO X.env.scope x)(hf:X.fn x=true \/ X.env.scope.names.lookup x=some .local:=by first | exact .inl rfl | exact .inr rfl | assumption):PG X (.Name x pos) (HA i):=by
 intro pins s σ H v u Q I r h
 exact wpAny_assign_Name (LY I hN hi hx r (fun s' I'=>⟨_,H,I',h⟩) hf)
noncomputable def WN:TGs:=fun vs σ H Q=>vs=[]/\Q σ H
noncomputable def XB (t:TG)(u:TGs):TGs:=fun vs σ H Q=>∃ v r,vs=v::r/\t v σ H fun σ' H'=>u r σ' H' Q
theorem Kz:PGs X [] WN:=by
 intro pins s σ H vs us Q I r h
 obtain⟨e,h⟩:=h
 subst e
 cases r
 exact assignInOrder_nil ⟨σ,H,I,h⟩
theorem MR {e:aR}{es:List aR}{t:TG}{u:TGs}(h1:PG X e t)(h2:PGs X es u)
  (hs:(jO (e::es) X.env).map (·.2)=mC e X.env::(jO es X.env).map (·.2):=by rfl):PGs X (e::es) (XB t u):=by
 intro pins s σ H vs us Q I r h
 obtain⟨v,vr,e1,h⟩:=h
 subst e1
 cases r with
 | cons r rr=>
  rw[hs]
  refine assignInOrder_cons (thn (h1 pins s σ H _ _ _ I r h) fun _ s1 gh=>?_)
  obtain⟨σ1,H1,I1,q1⟩:=gh
  exact h2 pins s1 σ1 H1 _ _ Q I1 rr q1
noncomputable def VQ (K:aG)(n:Nat)(t:TGs):TG:=fun v σ H Q=>∃ a xs,v = .ref a/\SqT K H a xs/\xs.length=n/\t xs σ H Q
theorem YB {es:List aR}{k:Nat}{t:TGs}{n:Nat}(hc:X.calm=true)(h:PGs X es t)
  (hn:(jO es X.env).length=n:=by rfl) (hst:(jO es X.env).findIdx? (·.1)=none:=by rfl):PG X (.Tuple es k pos) (VQ X.K n t):=by
 intro pins s σ H v u Q I r hw
 obtain⟨a,xs,e1,hq,hl,hw⟩:=hw
 subst e1
 cases r
 obtain⟨its,rv,ht,hz⟩:=I.tuple hq
 refine assign_Tuple_tuple (I.ok.hd hc) ht (by simp[hn,← hl,rv.length]) hst fun h' hx=>?_
 have I1:Inv X pins σ H { s with heap:=h' }:=I.kept (t':=s.toks) fun b o e=>hx b o (dG (cG e)) e
 exact h pins _ σ H xs _ Q I1 (by simpa using rv) hw
noncomputable def VN (to ti:TE)(t:BP):TG:=fun v σ H Q=>to σ H fun o H1=>ti σ H1 fun i H2=>t o i v H2 fun H3=>Q σ H3
theorem YR {o i:aR}{to ti:TE}{t:BP}(ho:PE X o to)(hi:PE X i ti)(hs:IV X t)
  (ha : ∀ v,mC (.Subscript o i pos) X.env v=(do
   let ov ← kZ [v] (bJ o X.env)
   let iv ← kZ [v,ov] (bJ i X.env)
   qH pos
   kZ [v,ov,iv] (setItem ov iv v)
   release [v,ov,iv] []):=by intro _; rfl):PG X (.Subscript o i pos) (VN to ti t):=by
 intro pins s σ H v u Q I r h
 rw[ha]
 refine aK (iY (thn (ho pins s σ H _ I h) fun ov s1 gh=>?_))
 obtain⟨x,H1,I1,r1,q1⟩:=gh
 refine aK (iY (thn (hi pins s1 σ H1 _ I1 q1) fun iv s2 gh=>?_))
 obtain⟨y,H2,I2,r2,q2⟩:=gh
 refine aK (wpAny_standAt (aK (iY (thn (hs pins s2 σ H2 x y v ov iv u _ I2 r1 r2 r q2) fun _ s3 gh=>?_))))
 obtain⟨H3,I3,q3⟩:=gh
 exact wpAny_release ⟨σ,H3,I3,q3⟩
noncomputable def BK (te:TE)(g:TG):TS:=fun D σ H=>te σ H fun x H1=>g x σ H1 D.nx
theorem SH {tg e:aR}{te:TE}{g:TG}(he:PE X e te)(hg:PG X tg g)(hs:swapsWithSole [tg] e pos.line X.env=pure false:=by rfl)(hw:swappedStores [tg] e X.env=pure none:=by rfl)
  (h1:(jO [tg] X.env).map (·.2)=[mC tg X.env]:=by rfl):PS X (.Assign [tg] e pos) (BK te g):=by
 intro pins s σ H D I h
 refine wpAny_Assign_stores (thn (he pins s σ H _ I h) fun v s1 ⟨x,H1,I1,r1,q1⟩=>?_) hs hw
 rw[h1]
 exact thn (hg pins s1 σ H1 x v _ I1 r1 q1) fun _ s2 q=>q
theorem xZ {i:Nat}{x:aD}{e:aR}{te:TE}{pos':bL}(hN:X.N.Nodup)(hi:X.N[i]?=some x)(hx:kO X.env.scope x)(he:PE X e te)(hs:lY e (some (.Name x pos')) pos.line X.env=pure false:=by rfl)(hf:X.fn x=true \/ X.env.scope.names.lookup x=some .local:=by first | exact .inl rfl | exact .inr rfl | assumption) :
  PS X (.Assign [.Name x pos'] e pos) (BK te (HA i)):=by
 intro pins s σ H D I h
 refine wpAny_Assign_Name (thn (he pins s σ H _ I h) fun v s1 ⟨y,H1,I1,r1,q1⟩=>?_) hs
 exact LY I1 hN hi hx r1 (fun s2 I2=>⟨_,H1,I2,q1⟩) hf
end
structure It where
 go:Nat->Hp->Prop
 yld:Nat->Hp->V->Hp->Prop
 stop:Nat->Hp->Prop
def iR (X:Cx)(pins:List (aB×aY))(H:Hp)(b:aB):Prop:=
 H b=none/\b≠X.env.locals/\b∉X.fs/\(b∈X.ex \/ X.s₀.heap.objs.size≤b)/\(∀ x c,X.env.cells.lookup x=some c->c≠b) /\ ∀ p∈X.pn++pins,p.1≠b
theorem Inv.fpOk {X:Cx}{pins:List (aB×aY)}{σ:St}{H H':Hp}{s:aH}{b:aB}(I:Inv X pins σ H s)(hb:s.heap.objs.size≤b)(hn:H' b=none):iR X pins H' b:=by
 refine⟨hn,qP (gQ I.lt hb),I.nofs hb,.inr (jC I.sz hb),fun x c e z=>?_,fun p hp z=>?_⟩
 ·obtain⟨v,q⟩:=I.cell x c e
  exact absurd (gQ q.lt (by rw[z]; exact hb)) (kK _)
 ·exact absurd (gQ (cG (I.pin p hp).1) (by rw[z]; exact hb)) (kK _)
structure Turn (P:bB)(w:aW)(K:aG)(tg:aR)(J:It)(fp:List aB)(it:aB)(tn:Nat->aP->Prop):Prop where
 mem:it∈fp
 obj : ∀ i h,tn i h -> ∀ b∈fp,∃ o,h.get? b=some o /\ ∀ v,o.data ≠ .cell v
 keep : ∀ i h h',tn i h->(∀ b∈fp,∀ o,h.get? b=some o->h'.get? b=some o)->tn i h'
 item : ∀ (X:Cx),X.prog=P->X.w=w->X.K=K->X.calm=true -> ∀ (i:Nat) (pins:List (aB×aY)) (s:aH) (σ:St) (H:Hp) (E:aE->aH->Prop),Inv X pins σ H s->(∀ b∈fp,iR X pins H b)->tn i s.heap->J.go i H ->
  aQ (aT P w) X.A (pyNext (.ref it)) (fun r s1=>∃ u,r=some u /\
   aQ (aT P w) X.A (HL tg (.ref it) u) (fun _ s2=>∃ x H',Inv X pins σ H' s2/\RelV x u/\J.yld i H x H'/\tn (i+1) s2.heap /\ ∀ b∈fp,H' b=none) E s1) E s
 done : ∀ (X:Cx),X.prog=P->X.w=w->X.K=K->X.calm=true -> ∀ (i:Nat) (pins:List (aB×aY)) (s:aH) (σ:St) (H:Hp) (E:aE->aH->Prop),Inv X pins σ H s->(∀ b∈fp,iR X pins H b)->tn i s.heap->J.stop i H ->
  aQ (aT P w) X.A (pyNext (.ref it)) (fun r s1=>r=none/\Inv X pins σ H s1) E s
 self : ∀ (A:cA) (i:Nat) (s:aH) (Q:aE->aH->Prop) (E:aE->aH->Prop),tn i s.heap->Q (.ref it) s->aQ (aT P w) A (pyIter (.ref it)) Q E s
abbrev TI:=St->Hp->(It->Hp->Prop)->Prop
def PIE (X:Cx)(pins:List (aB×aY))(σ:St)(tg:aR)(R:It->Hp->Prop)(itv:aE)(s2:aH):Prop:=
 ∃ (it:aB) (fp:List aB) (tn:Nat->aP->Prop) (J:It) (H':Hp),itv = .ref it/\Inv X pins σ H' s2/\Turn X.prog X.w X.K tg J fp it tn/\tn 0 s2.heap/\(∀ b∈fp,iR X pins H' b)/\R J H'
def PI (X:Cx)(tg iter:aR)(wi:TI):Prop:=
 ∀ (pins:List (aB×aY)) (s:aH) (σ:St) (H:Hp) (R:It->Hp->Prop),Inv X pins σ H s->wi σ H R ->
  aQ (aT X.prog X.w) X.A (bJ iter X.env) (fun v s1=>aQ (aT X.prog X.w) X.A (pyIter v) (PIE X pins σ tg R) X.xe s1) X.xe s
theorem rL {M:Model}{A:cA}{E:aE->aH->Prop}{s:aH}{tg:aR}{it:aB}{u:aE}{o:aY}{n:String}{vs:Array aE}{Q:Unit->aH->Prop}(ho:s.heap.get? it=some o)(hc:o.cls = .type n)(hd:o.data = .fields vs)
    (hn:["enumerate","zip","dict_itemiterator","dict_reverseitemiterator","odict_iterator","itertools.zip_longest","itertools.pairwise"].contains n=false) (hQ:Q () s):aQ M A (HL tg (.ref it) u) Q E s:=by
  unfold HL
  cases tg <;> first
    | exact bA hQ
    | (cases u <;> first
        | exact bA hQ
        | (refine aK (wpAny_load ho ?_)
           rw[hc,hd]
           show aQ M A (if (["enumerate","zip","dict_itemiterator","dict_reverseitemiterator","odict_iterator","itertools.zip_longest","itertools.pairwise"].contains n&&vs[0]? == some (rawInt _))=true then _ else _) Q E s
           rw[if_neg (by intro h; rw[hn,Bool.false_and] at h; cases h)]
           exact bA hQ))
noncomputable def BJ (K:aG)(a:aB):It:=
 ⟨fun i H=>∃ xs x,SqL K H a xs/\xs[i]?=some x,fun i H x H'=>H'=H /\ ∀ xs,SqL K H a xs->xs[i]?=some x,fun i H=>∃ xs,SqL K H a xs/\xs.length≤i⟩
noncomputable def BI (K:aG)(a:aB):It:=
 ⟨fun i H=>∃ xs x,SqT K H a xs/\xs[i]?=some x,fun i H x H'=>H'=H /\ ∀ xs,SqT K H a xs->xs[i]?=some x,fun i H=>∃ xs,SqT K H a xs/\xs.length≤i⟩
noncomputable def xJ (lo:Int)(n:Nat):It:=⟨fun i _=>i<n,fun i H x H'=>H'=H/\x = .int (lo+i),fun i _=>n≤i⟩
theorem Bl {P:bB}{w:aW}{K:aG}{tg:aR}(a it:aB):Turn P w K tg (BJ K a) [it] it (fun i h=>h.IsListIter it a i) where
 mem:=by simp
 obj:=fun i h st b hb=>by
  have e:b=it:=by simpa using hb
  subst e
  obtain⟨o,e,c,d⟩:=st
  exact⟨o,e,fun v z=>by rw[d] at z; cases z⟩
 keep:=fun i h h' st k=>st.at fun o e=>k it (by simp) o e
 item:=by
  intro X hP hw hK hc i pins s σ H E I hf st hg
  subst hP hw hK
  obtain⟨xs,x,hq,hx⟩:=hg
  obtain⟨its,rv,p,hz⟩:=I.list hq
  obtain⟨u,hu,ru⟩:=rv.get hx
  obtain⟨f0,f1,f2,f3,f4,f5⟩:=hf it (by simp)
  refine wpAny_pyNext_list_item st p.isList (x:=u) (by simpa using hu) fun h' st' sb=>?_
  have I1:Inv X pins σ H { s with heap:=h' }:=I.turned (t':=s.toks) (fun b o hb e=>(sb.2 b hb).trans e) f0 f1 f3 f4 f5
  obtain⟨o,e,c,d⟩:=id st'
  exact⟨u,rfl,rL (s:={ s with heap:=h' }) e c d (by decide) ⟨x,H,I1,ru,⟨rfl,fun ys hy=>by rw[I.list_inj hy hq]; exact hx⟩,st',fun b hb=>(hf b hb).1⟩⟩
 done:=by
  intro X hP hw hK hc i pins s σ H E I hf st hg
  subst hP hw hK
  obtain⟨xs,hq,hx⟩:=hg
  obtain⟨its,rv,p,hz⟩:=I.list hq
  obtain⟨f0,f1,f2,f3,f4,f5⟩:=hf it (by simp)
  have hl:=rv.length
  exact wpAny_pyNext_list_end (I.ok.hd hc) st p.isList (by simp; omega) fun h' eb=>⟨rfl,I.turned (t':=s.toks) (fun b o hb e=>eb b o hb e) f0 f1 f3 f4 f5⟩
 self:=fun _ _ _ _ _ st h=>wpAny_pyIter_listiter st h
theorem Co {P:bB}{w:aW}{K:aG}{tg:aR}(a it:aB):Turn P w K tg (BI K a) [it] it (fun i h=>h.IsTupleIter it a i) where
 mem:=by simp
 obj:=fun i h st b hb=>by
  have e:b=it:=by simpa using hb
  subst e
  obtain⟨o,e,c,d⟩:=st
  exact⟨o,e,fun v z=>by rw[d] at z; cases z⟩
 keep:=fun i h h' st k=>st.at fun o e=>k it (by simp) o e
 item:=by
  intro X hP hw hK hc i pins s σ H E I hf st hg
  subst hP hw hK
  obtain⟨xs,x,hq,hx⟩:=hg
  obtain⟨its,rv,p,hz⟩:=I.tuple hq
  obtain⟨u,hu,ru⟩:=rv.get hx
  obtain⟨f0,f1,f2,f3,f4,f5⟩:=hf it (by simp)
  refine wpAny_pyNext_tuple_item st (show s.heap.IsTuple a its.toArray from p) (x:=u) (by simpa using hu) fun h' st' sb=>?_
  have I1:Inv X pins σ H { s with heap:=h' }:=I.turned (t':=s.toks) (fun b o hb e=>(sb.2 b hb).trans e) f0 f1 f3 f4 f5
  obtain⟨o,e,c,d⟩:=id st'
  exact⟨u,rfl,rL (s:={ s with heap:=h' }) e c d (by decide) ⟨x,H,I1,ru,⟨rfl,fun ys hy=>by rw[I.tuple_inj hy hq]; exact hx⟩,st',fun b hb=>(hf b hb).1⟩⟩
 done:=by
  intro X hP hw hK hc i pins s σ H E I hf st hg
  subst hP hw hK
  obtain⟨xs,hq,hx⟩:=hg
  obtain⟨its,rv,p,hz⟩:=I.tuple hq
  obtain⟨f0,f1,f2,f3,f4,f5⟩:=hf it (by simp)
  have hl:=rv.length
  exact wpAny_pyNext_tuple_end (I.ok.hd hc) st (show s.heap.IsTuple a its.toArray from p) (by simp; omega) fun h' eb=>⟨rfl,I.turned (t':=s.toks) (fun b o hb e=>eb b o hb e) f0 f1 f3 f4 f5⟩
 self:=fun _ _ _ _ _ st h=>wpAny_pyIter_tupleiter st h
theorem Dz {P:bB}{w:aW}{K:aG}{tg:aR}(it:aB)(lo:Int)(n:Nat):Turn P w K tg (xJ lo n) [it] it (fun i h=>IsRangeIter h it (lo+(i:Nat)*1) ((n:Int) - (i:Nat)) 1) where
 mem:=by simp
 obj:=fun i h st b hb=>by
  have e:b=it:=by simpa using hb
  subst e
  exact⟨_,st,fun v z=>by
   have z':Data.fields _=Data.cell v:=z
   cases z'⟩
 keep:=fun i h h' st k=>k it (by simp) _ st
 item:=by
  intro X hP hw hK hc i pins s σ H E I hf st hg
  subst hP hw hK
  obtain⟨f0,f1,f2,f3,f4,f5⟩:=hf it (by simp)
  have W:=Walks.range (prog:=X.prog) (w:=X.w) (I.ok.hd hc) it lo 1 n
  refine W.item i s _ _ hg st fun v h' tk hv st' kk=>?_
  obtain⟨t,rfl⟩:=hv
  have I1:Inv X pins σ H { s with heap:=h',toks:=tk }:=I.turned (fun b o hb e=>kk b o (by simpa using hb) e) f0 f1 f3 f4 f5
  refine⟨_,rfl,rL (s:={ s with heap:=h',toks:=tk }) (n:="range_iterator") st' rfl rfl (by decide) ⟨.int (lo+i),H,I1,⟨t,?_⟩,⟨rfl,rfl⟩,st',fun b hb=>(hf b hb).1⟩⟩
  rw[Int.mul_one]
 done:=by
  intro X hP hw hK hc i pins s σ H E I hf st hg
  subst hP hw hK
  obtain⟨f0,f1,f2,f3,f4,f5⟩:=hf it (by simp)
  exact wpAny_pyNext_range_end (I.ok.hd hc) st (by have:n≤i:=hg; omega) fun h' eb=>⟨rfl,I.turned (t':=s.toks) (fun b o hb e=>eb b o hb e) f0 f1 f3 f4 f5⟩
 self:=fun _ _ _ _ _ st h=>wpAny_pyIter_rangeiter st h
section
variable {X:Cx}{tg:aR}
noncomputable def XT (K:aG)(tl:TE):TI:=fun σ H R=>tl σ H fun x H1=>∃ a,x = .ref a/\(∃ xs,SqL K H1 a xs)/\R (BJ K a) H1
noncomputable def VP (K:aG)(tl:TE):TI:=fun σ H R=>tl σ H fun x H1=>∃ a,x = .ref a/\(∃ xs,SqT K H1 a xs)/\R (BI K a) H1
theorem Mj {l:aR}{tl:TE}(hl:PE X l tl):PI X tg l (XT X.K tl):=by
 intro pins s σ H R I h
 refine thn (hl pins s σ H _ I h) fun v s1 gh=>?_
 obtain⟨x,H1,I1,r1,q1⟩:=gh
 obtain⟨a,e,⟨xs,hq⟩,q⟩:=q1
 subst e
 cases r1
 obtain⟨its,rv,p,hz⟩:=I1.list hq
 refine HG p.isList ?_
 refine⟨s1.heap.objs.size,[s1.heap.objs.size],_,_,H1,rfl,I1.kept (t':=s1.toks) fun b o e=>cN _ e,Bl a _,⟨_,eZ _ rfl,rfl,rfl⟩,fun b hb=>?_,q⟩
 have e:b=s1.heap.objs.size:=by simpa using hb
 subst e
 exact I1.fpOk (bR _) (I1.hok.fresh (bR _))
theorem Hn {l:aR}{tl:TE}(hl:PE X l tl):PI X tg l (VP X.K tl):=by
 intro pins s σ H R I h
 refine thn (hl pins s σ H _ I h) fun v s1 gh=>?_
 obtain⟨x,H1,I1,r1,q1⟩:=gh
 obtain⟨a,e,⟨xs,hq⟩,q⟩:=q1
 subst e
 cases r1
 obtain⟨its,rv,p,hz⟩:=I1.tuple hq
 refine wpAny_pyIter_tuple (show s1.heap.IsTuple a its.toArray from p) ?_
 refine⟨s1.heap.objs.size,[s1.heap.objs.size],_,_,H1,rfl,I1.kept (t':=s1.toks) fun b o e=>cN _ e,Co a _,⟨_,eZ _ rfl,rfl,rfl⟩,fun b hb=>?_,q⟩
 have e:b=s1.heap.objs.size:=by simpa using hb
 subst e
 exact I1.fpOk (bR _) (I1.hok.fresh (bR _))
theorem Mq {pins:List (aB×aY)}{σ:St}{H:Hp}{s:aH}{R:It->Hp->Prop}{E:aE->aH->Prop}{lo hi:Int}{t u v:Tok}{tk:Nat}(I:Inv X pins σ H s)(h1 : -(2 ^ 62)≤lo)(h2:lo<2 ^ 62)(h3 : -(2 ^ 62)≤hi)(h4:hi<2 ^ 62)
  (q:R (xJ lo (hi - lo).toNat) H):aQ (aT X.prog X.w) X.A (pyIter (.ref s.heap.objs.size)) (PIE X pins σ tg R) E { s with heap:=s.heap.push { cls:=.type "range",data:=.fields #[.int lo t,.int hi u,.int 1 v] },toks:=tk }:=by
 refine wpAny_pyIter_range (IsRange.new ..) (small_one h1 h2 h3 h4) ?_
 have I1:Inv X pins σ H { s with heap:=s.heap.push { cls:=.type "range",data:=.fields #[.int lo t,.int hi u,.int 1 v] },toks:=tk }:=I.kept fun b o e=>cN _ e
 refine⟨(s.heap.push { cls:=.type "range",data:=.fields #[.int lo t,.int hi u,.int 1 v] }).objs.size,[(s.heap.push { cls:=.type "range",data:=.fields #[.int lo t,.int hi u,.int 1 v] }).objs.size],_,_,H,rfl,
  I1.kept (t':=tk) fun b o e=>cN _ e,Dz _ lo (hi - lo).toNat,?_,fun b hb=>?_,q⟩
 ·have e1:lo+((0:Nat):Int)*1=lo:=by simp
  have e2:(((hi - lo).toNat:Nat):Int) - ((0:Nat):Int)=Builtin.Range.rangeSize lo hi 1:=by rw[rangeSize_one]; split <;> omega
  show IsRangeIter _ _ (lo+((0:Nat):Int)*1) ((((hi - lo).toNat:Nat):Int) - ((0:Nat):Int)) 1
  rw[e1,e2]
  exact eZ _ rfl
 ·have e:b=(s.heap.push { cls:=.type "range",data:=.fields #[.int lo t,.int hi u,.int 1 v] }).objs.size:=by simpa using hb
  subst e
  exact I1.fpOk (bR _) (I1.hok.fresh (bR _))
noncomputable def XE (ta:TA):TI:=fun σ H R=>ta σ H fun vs H1=>∃ j:Int,vs=[.int j] /\ -(2 ^ 62)≤j/\j<2 ^ 62/\R (xJ 0 j.toNat) H1
theorem Bp {a:aR}{ta:TA}{p pos:bL}(hg:Gl X "range")(hm:X.mg "range" = none)(ha:PA X [a] ta)(hs:bI [a] X.env=[(false,bJ a X.env)]:=by rfl):PI X tg (.Call (.Name "range" p) [a] [] pos) (XE ta):=by
 intro pins s σ H R I h
 refine Call_ (xY I hg hm boot_range (Ou (thn (ha pos pins s σ H _ I h) fun us s1 ⟨vs,H1,I1,r1,q1⟩=>?_) hs rfl))
 obtain⟨j,e,q1,q2,q⟩:=q1
 subst e
 cases r1 with
 | cons r rr=>
  cases rr
  obtain⟨t,rfl⟩:=r
  exact call_range_1 (Mq I1 (by omega) (by omega) q1 q2 (by simpa using q))
noncomputable def WQ (wi:TI)(g:TG)(tb:TS):TS:=fun D σ H=>wi σ H fun J H1=>∃ W:Nat->Nat->St->Hp->Prop,(∃ m,W 0 m σ H1) /\ ∀ i m σ H,W i m σ H ->
 (J.stop i H/\D.nx σ H) \/ (J.go i H /\ ∃ N:St->Hp->Prop,(∀ σ' H',N σ' H' -> ∃ m',m'<m/\W (i+1) m' σ' H') /\ ∀ x H',J.yld i H x H'->g x σ H' fun σ2 H2=>tb { D with nx:=N,ct:=N,bk:=D.nx } σ2 H2)
noncomputable def uI (fp:List aB)(h:aP):List (aB×aY):=fp.filterMap fun b=>(h.get? b).map fun o=>(b,o)
theorem zG {fp:List aB}{h:aP}{b:aB}{o:aY}(hb:b∈fp)(e:h.get? b=some o):(b,o)∈uI fp h:=UQ.mpr ⟨b,hb,by rw[e]; rfl⟩
theorem Cg {fp:List aB}{h:aP}{p:aB×aY}(hp:p∈uI fp h):p.1∈fp/\h.get? p.1=some p.2:=by
 obtain⟨b,hb,e⟩:=UQ.mp hp
 cases q:h.get? b with
 | none=>rw[q] at e; cases e
 | some o=>
  rw[q] at e
  have e':(b,o)=p:=dZ e
  subst e'
  exact⟨hb,q⟩
theorem Inv.pinned {pins:List (aB×aY)}{σ:St}{H:Hp}{s:aH}{fp:List aB}(I:Inv X pins σ H s)(hf : ∀ b∈fp,iR X pins H b)(ho : ∀ b∈fp,∃ o,s.heap.get? b=some o /\ ∀ v,o.data ≠ .cell v):Inv X (pins++uI fp s.heap) σ H s:=
 I.pins_of fun p hp=>(nM.mp hp).elim (fun z=>I.pin p (mF _ z)) fun z=>by
  obtain⟨hb,e⟩:=Cg z
  obtain⟨f0,f1,f2,_⟩:=hf p.1 hb
  obtain⟨o,e',d⟩:=ho p.1 hb
  rw[e] at e'; cases e'
  exact⟨e,f0,f1,f2,d⟩
theorem Inv.unpinned {pins pl:List (aB×aY)}{σ:St}{H:Hp}{s:aH}(I:Inv X (pins++pl) σ H s):Inv X pins σ H s:=I.pins_of fun p hp=>I.pin p (mF _ (List.mem_append_left _ hp))
theorem SI {iter:aR}{body:List bK}{wi:TI}{g:TG}{tb:TS}{pos:bL}(hp:PassesOwn (aT X.prog X.w) X.A X.env X.xe)(hc:X.calm=true)(hi:PI X tg iter wi)(hg:PG X tg g)(hb:PSs X body tb)
  (hs : ∀ x,qJ iter X.env x=pure x:=by intro _; rfl):PS X (.For tg iter body [] pos) (WQ wi g tb):=by
 intro pins s σ H D I h
 refine wpAny_For (thn (hi pins s σ H _ I h) fun v s1 h1=>thn h1 fun itv s2 h2=>?_) hs
 obtain⟨it,fp,tn,J,H2,e,I2,T,st2,f2,W,⟨m0,w0⟩,turn⟩:=h2
 subst e
 have stat : ∀ {H':Hp},(∀ b∈fp,H' b=none) -> ∀ b∈fp,iR X pins H' b:=fun hn b hb=>⟨hn b hb,(f2 b hb).2⟩
 refine codeAny_forLoop_any (fun n s'=>∃ i σ' H',Inv X pins σ' H' s'/\tn i s'.heap/\(∀ b∈fp,H' b=none)/\W i n σ' H') ?_ m0 ⟨0,σ,H2,I2,st2,fun b hb=>(f2 b hb).1,w0⟩
 rintro n s3 ⟨i,σ3,H3,I3,st3,fr3,w3⟩
 rcases turn i n σ3 H3 w3 with⟨stop,qn⟩ | ⟨go,N,hN,step⟩
 ·refine AI hp (thn (T.done X rfl rfl rfl hc i pins s3 σ3 H3 X.xe I3 (stat fr3) st3 stop) fun r s4 gh=>?_)
  obtain⟨hr,I4⟩:=gh
  subst hr
  exact wpAny_execs_nil ⟨σ3,H3,I4,qn⟩
 ·refine AI hp (thn (T.item X rfl rfl rfl hc i pins s3 σ3 H3 X.xe I3 (stat fr3) st3 go) fun r s4 gh=>?_)
  obtain⟨u,hr,h4⟩:=gh
  subst hr
  refine AI hp (thn h4 fun _ s5 gh=>?_)
  obtain⟨x,H5,I5,r5,y5,st5,fr5⟩:=gh
  have I5':=I5.pinned (stat fr5) (T.obj _ _ st5)
  refine AI hp (thn (hg _ s5 σ3 H5 x u _ I5' r5 (step x H5 y5)) fun _ s6 gh=>?_)
  obtain⟨σ6,H6,I6,q6⟩:=gh
  refine AI hp (thn (hb _ s6 σ6 H6 _ I6 q6) fun f s7 q7=>?_)
  have again : ∀ {σ7:St} {H7:Hp},Inv X (pins++uI fp s5.heap) σ7 H7 s7->N σ7 H7 -> ∃ m,m<n /\ ∃ i σ' H',Inv X pins σ' H' s7/\tn i s7.heap/\(∀ b∈fp,H' b=none)/\W i m σ' H':=fun {σ7 H7} I7 n7=>by
   obtain⟨m',hm,w7⟩:=hN σ7 H7 n7
   refine⟨m',hm,i+1,σ7,H7,I7.unpinned,T.keep _ _ _ st5 fun b hb o e=>(I7.pin (b,o) (mF _ (mF _ (zG hb e)))).1,fun b hb=>?_,w7⟩
   obtain⟨o,e,d⟩:=T.obj _ _ st5 b hb
   exact(I7.pin (b,o) (mF _ (mF _ (zG hb e)))).2.1
  cases f with
  | next=>obtain⟨σ7,H7,I7,n7⟩:=q7; exact again I7 n7
  | cont=>obtain⟨σ7,H7,I7,n7⟩:=q7; exact again I7 n7
  | brk=>obtain⟨σ7,H7,I7,q7⟩:=q7; exact⟨σ7,H7,I7.unpinned,q7⟩
  | ret v=>obtain⟨x7,σ7,H7,I7,r7,q7⟩:=q7; exact⟨x7,σ7,H7,I7.unpinned,r7,q7⟩
end
abbrev R2:=V->V->Hp->VK->Prop
def OpR (X:Cx)(f:aE->aE->Sem aE)(r:R2):Prop:=
 ∀ (pins:List (aB×aY)) (s:aH) (σ:St) (H:Hp) (x y:V) (v u:aE) (Q:VK),Inv X pins σ H s->RelV x v->RelV y u->r x y H Q ->
  aQ (aT X.prog X.w) X.A (f v u) (EP X pins σ Q) X.xe s
def Ado (X:Cx)(f:aE)(r:List V->Hp->VK->Prop):Prop:=
 ∀ (pins:List (aB×aY)) (s:aH) (σ:St) (H:Hp) (xs:List V) (us:List aE) (Q:VK),Inv X pins σ H s->Vals xs us->r xs H Q ->
  aQ (aT X.prog X.w) X.A (call f us) (EP X pins σ Q) X.xe s
noncomputable def tOp (r:R2)(ta tb:TE):TE:=fun σ H Q=>ta σ H fun x H1=>tb σ H1 fun y H2=>r x y H2 Q
noncomputable def rI (C:Int->Int->Prop)(g:Int->Int->V):R2:=fun x y H Q=>∃ i j,x = .int i/\y = .int j/\C i j/\Q (g i j) H
noncomputable def rI0 (g:Int->Int->V):R2:=fun x y H Q=>∃ i j,x = .int i/\y = .int j/\Q (g i j) H
section
variable {X:Cx}{a b c:aR}{ta tb tc:TE}{pos:bL}
theorem BL (ha:PE X a ta)(hb:PE X b tb){pins:List (aB×aY)}{s:aH}{σ:St}{H:Hp}{R:V->V->Hp->Prop}(I:Inv X pins σ H s)
  (h:ta σ H fun x H1=>tb σ H1 fun y H2=>R x y H2) {Q:aE->aH->Prop} {f:aE->aE->Sem aE}
  (hf : ∀ v u s2 x y H2,Inv X pins σ H2 s2->RelV x v->RelV y u->R x y H2->aQ (aT X.prog X.w) X.A (f v u) Q X.xe s2) :
  aQ (aT X.prog X.w) X.A (bJ a X.env) (fun v s₁=>aQ (aT X.prog X.w) X.A (bJ b X.env) (fun u s₂=>aQ (aT X.prog X.w) X.A (f v u) Q X.xe s₂) X.xe s₁) X.xe s:=by
 refine thn (ha pins s σ H _ I h) fun v s1 gh=>?_
 obtain⟨x,H1,I1,r1,q1⟩:=gh
 refine thn (hb pins s1 σ H1 _ I1 q1) fun u s2 gh=>?_
 obtain⟨y,H2,I2,r2,q2⟩:=gh
 exact hf v u s2 x y H2 I2 r1 r2 q2
theorem YJ {op:Operator}{r:R2}(ho:OpR X (iZ op) r)(ha:PE X a ta)(hb:PE X b tb):PE X (.BinOp a op b pos) (tOp r ta tb):=by
 intro pins s σ H Q I h
 exact wpAny_BinOp (BL ha hb I h fun v u s2 x y H2 I2 rx ry q=>ho pins s2 σ H2 x y v u Q I2 rx ry q)
theorem opI {f:aE->aE->Sem aE}{C:Int->Int->Prop}{g:Int->Int->Int}
  (rule : ∀ (i j:Int) (t u:Tok) (s:aH) (Q:aE->aH->Prop) (E:aE->aH->Prop),C i j->Q (.int (g i j) s.toks) { s with toks:=s.toks+1 }->aQ (aT X.prog X.w) X.A (f (.int i t) (.int j u)) Q E s) :
  OpR X f (rI C fun i j=>.int (g i j)):=by
 intro pins s σ H x y v u Q I rx ry h
 obtain⟨i,j,rfl,rfl,hc,q⟩:=h
 obtain⟨t,rfl⟩:=rx
 obtain⟨t',rfl⟩:=ry
 exact rule i j t t' s _ _ hc ⟨.int (g i j),H,I.tok _,⟨_,rfl⟩,q⟩
theorem IR {f:aE->aE->Sem aE}{g:Int->Int->Int}
  (rule : ∀ (i j:Int) (t u:Tok) (s:aH) (Q:aE->aH->Prop) (E:aE->aH->Prop),Q (.int (g i j) s.toks) { s with toks:=s.toks+1 }->aQ (aT X.prog X.w) X.A (f (.int i t) (.int j u)) Q E s) :
  OpR X f (rI0 fun i j=>.int (g i j)):=by
 intro pins s σ H x y v u Q I rx ry h
 obtain⟨i,j,rfl,rfl,q⟩:=h
 obtain⟨t,rfl⟩:=rx
 obtain⟨t',rfl⟩:=ry
 exact rule i j t t' s _ _ ⟨.int (g i j),H,I.tok _,⟨_,rfl⟩,q⟩
theorem xQ {f:aE->aE->Sem aE}{g:Int->Int->Bool}
  (rule : ∀ (i j:Int) (t u:Tok) (s:aH) (Q:aE->aH->Prop) (E:aE->aH->Prop),Q (.bool (g i j)) s->aQ (aT X.prog X.w) X.A (f (.int i t) (.int j u)) Q E s) :
  OpR X f (rI0 fun i j=>.bl (g i j)):=by
 intro pins s σ H x y v u Q I rx ry h
 obtain⟨i,j,rfl,rfl,q⟩:=h
 obtain⟨t,rfl⟩:=rx
 obtain⟨t',rfl⟩:=ry
 exact rule i j t t' s _ _ ⟨.bl (g i j),H,I,rfl,q⟩
def VT (i j:Int):Prop:=0<j/\j<1073741824
def WM (i j:Int):Prop:=0≤j/\j≤1000000/\i.natAbs<2 ^ 64
def Bde (i j:Int):Prop:=(-(2 ^ 64)<i/\i<2 ^ 64) \/ (-(2 ^ 64)<j/\j<2 ^ 64)
theorem Bde.ok {i j:Int}(h:Bde i j):IntMulOk i j:=by
 rcases h with⟨h1,h2⟩ | ⟨h1,h2⟩
 ·exact .of_left (intBits_le_64 h1 h2)
 ·exact .of_right (intBits_le_64 h1 h2)
theorem Bav:OpR X (iZ .Add) (rI0 fun i j=>.int (i+j)):=IR fun _ _ _ _ _ _ _ q=>add_int q
theorem Hr:OpR X (iZ .Sub) (rI0 fun i j=>.int (i - j)):=IR fun _ _ _ _ _ _ _ q=>sub_int q
theorem Hv:OpR X (iZ .Mult) (rI Bde fun i j=>.int (i*j)):=opI fun _ _ _ _ _ _ _ hc q=>mul_int q hc.ok
theorem Jx:OpR X (iZ .FloorDiv) (rI VT fun i j=>.int (i / j)):=opI fun i j _ _ _ _ _ hc q=>by
 have h1:(0:Int)<j:=hc.1
 have h2:j<1073741824:=hc.2
 exact floordiv_int (by omega) (by rw[Int.fdiv_eq_ediv_of_nonneg i (by omega)]; exact q) (.inl (PyProof.noPylong_small (by omega)))
theorem YZ:OpR X (iZ .Mod) (rI (fun _ j=>0<j) fun i j=>.int (i%j)):=opI fun i j _ _ _ _ _ hc q=>by
 have h1:(0:Int)<j:=hc
 exact mod_int' (by omega) (by rw[Int.fmod_eq_emod_of_nonneg i (by omega)]; exact q)
theorem Io:OpR X (iZ .Pow) (rI WM fun i j=>.int (i ^ j.toNat)):=opI fun _ _ _ _ _ _ _ hc q=>pow_int_small hc.1 hc.2.1 hc.2.2 q
end
section
variable {X:Cx}{a b c:aR}{ta tb tc:TE}{pos:bL}
theorem CC {pins:List (aB×aY)}{σ:St}{H:Hp}{s:aH}{Q:VK}{k k':Bool}(I:Inv X pins σ H s)(q:Q (.bl k) H)(e:k=k'):EP X pins σ Q (.bool k') s:=by
 subst e
 exact⟨.bl k,H,I,rfl,q⟩
theorem Ao8:OpR X (dS .Lt) (rI0 fun i j=>.bl (decide (i<j))):=xQ fun _ _ _ _ _ _ _ q=>lt_int q
theorem Avf:OpR X (dS .LtE) (rI0 fun i j=>.bl (decide (i≤j))):=xQ fun _ _ _ _ _ _ _ q=>le_int q
theorem uA:OpR X (dS .Gt) (rI0 fun i j=>.bl (decide (j<i))):=xQ fun _ _ _ _ _ _ _ q=>gt_int q
theorem RS:OpR X (dS .GtE) (rI0 fun i j=>.bl (decide (j≤i))):=xQ fun _ _ _ _ _ _ _ q=>ge_int q
theorem oH:OpR X (dS .Lt) (fun x y H Q=>∃ i j,x = .str i/\y = .str j/\Q (.bl (decide (i.cps.toList<j.cps.toList))) H):=by
 intro pins s σ H x y v u Q I rx ry h
 obtain⟨i,j,rfl,rfl,q⟩:=h
 obtain⟨t,rfl⟩:=rx
 obtain⟨t',rfl⟩:=ry
 exact lt_str (CC I q rfl)
theorem Bu:OpR X (dS .In) (fun x y H Q=>∃ i j,x = .str i/\y = .str j/\Q (.bl (!(qW j i 0 j.length 1).isEmpty)) H):=by
 intro pins s σ H x y v u Q I rx ry h
 obtain⟨i,j,rfl,rfl,q⟩:=h
 obtain⟨t,rfl⟩:=rx
 obtain⟨t',rfl⟩:=ry
 exact in_str (CC I q rfl)
theorem OpR.or {f:aE->aE->Sem aE}{r r':R2}(h:OpR X f r)(h':OpR X f r'):OpR X f (fun x y H Q=>r x y H Q \/ r' x y H Q):=by
 intro pins s σ H x y v u Q I rx ry q
 rcases q with q | q
 ·exact h pins s σ H x y v u Q I rx ry q
 ·exact h' pins s σ H x y v u Q I rx ry q
theorem fJ (b:aR){op:CmpOp}(h:op ≠ .In:=by decide)(h2:op ≠ .NotIn:=by decide):wK op b=false:=by
 have e1:(op == CmpOp.In)=false:=by cases op <;> first | rfl | exact absurd rfl h
 have e2:(op == CmpOp.NotIn)=false:=by cases op <;> first | rfl | exact absurd rfl h2
 cases b <;> simp[wK,e1,e2]
theorem Mb {op:CmpOp}{r:R2}(ho:OpR X (dS op) r)(ha:PE X a ta)(hb:PE X b tb)(hm:wK op b=false):PE X (.Compare a [op] [b] pos) (tOp r ta tb):=by
 intro pins s σ H Q I h
 exact wpAny_Compare1 (BL ha hb I h fun v u s2 x y H2 I2 rx ry q=>ho pins s2 σ H2 x y v u Q I2 rx ry q) hm
noncomputable def RT (t:TE):TT:=fun σ H Q=>t σ H fun x H'=>∃ k,x = .bl k/\Q k H'
theorem Kb {op:CmpOp}{r:R2}(ho:OpR X (dS op) r)(ha:PE X a ta)(hb:PE X b tb)(hm:wK op b=false):PT X (.Compare a [op] [b] pos) (RT (tOp r ta tb)):=by
 intro pins s σ H Q I h
 refine wpAny_isTrue_Compare1 (thn (ha pins s σ H _ I h) fun v s1 ⟨x,H1,I1,r1,q1⟩=>thn (hb pins s1 σ H1 _ I1 q1) fun u s2 ⟨y,H2,I2,r2,q2⟩=>
  thn (ho pins s2 σ H2 x y v u _ I2 r1 r2 q2) fun c s3 ⟨z,H3,I3,r3,k,e,q3⟩=>?_) hm
 subst e
 cases r3
 exact qF ⟨H3,I3,q3⟩
noncomputable def CJ (r r':R2)(ta tb tc:TE):TE:=fun σ H Q=>ta σ H fun x H1=>tb σ H1 fun y H2=>r x y H2 fun z H3=>∃ k,z = .bl k /\
 (if k=true then tc σ H3 fun w' H4=>r' y w' H4 Q else Q (.bl false) H3)
theorem Nk {op op':CmpOp}{r r':R2}(ho:OpR X (dS op) r)(ho':OpR X (dS op') r')(ha:PE X a ta)(hb:PE X b tb)(hc:PE X c tc)
  (hm:lastMarks [op,op'] [b,c]=false:=by with_unfolding_all rfl):PE X (.Compare a [op,op'] [b,c] pos) (CJ r r' ta tb tc):=by
 intro pins s σ H Q I h
 refine Compare_chain (thn (ha pins s σ H _ I h) fun v s1 ⟨x,H1,I1,r1,q1⟩=>chain_link (thn (hb pins s1 σ H1 _ I1 q1) fun u s2 ⟨y,H2,I2,r2,q2⟩=>
  thn (ho pins s2 σ H2 x y v u _ I2 r1 r2 q2) fun d s3 ⟨z,H3,I3,r3,k,e,q3⟩=>?_)) hm
 subst e
 cases r3
 refine qF ?_
 cases k with
 | false=>exact ite_ff ⟨.bl false,H3,I3,rfl,q3⟩
 | true=>exact ite_tt (chain_last (thn (hc pins s3 σ H3 _ I3 q3) fun w' s4 ⟨z',H4,I4,r4,q4⟩=>ho' pins s4 σ H4 y z' u w' Q I4 r2 r4 q4))
theorem Mt {op op':CmpOp}{r r':R2}(ho:OpR X (dS op) r)(ho':OpR X (dS op') r')(ha:PE X a ta)(hb:PE X b tb)(hc:PE X c tc)
  (hm:lastMarks [op,op'] [b,c]=false:=by with_unfolding_all rfl):PT X (.Compare a [op,op'] [b,c] pos) (RT (CJ r r' ta tb tc)):=by
 intro pins s σ H Q I h
 refine isTrue_chain (thn (ha pins s σ H _ I h) fun v s1 ⟨x,H1,I1,r1,q1⟩=>test_link (thn (hb pins s1 σ H1 _ I1 q1) fun u s2 ⟨y,H2,I2,r2,q2⟩=>
  thn (ho pins s2 σ H2 x y v u _ I2 r1 r2 q2) fun d s3 ⟨z,H3,I3,r3,k,e,q3⟩=>?_)) hm
 subst e
 cases r3
 refine qF ?_
 cases k with
 | false=>
  obtain⟨k',e',q'⟩:=q3
  cases e'
  exact ite_ff ⟨H3,I3,q'⟩
 | true=>
  refine ite_tt (test_last (thn (hc pins s3 σ H3 _ I3 q3) fun w' s4 ⟨z',H4,I4,r4,q4⟩=>thn (ho' pins s4 σ H4 y z' u w' _ I4 r2 r4 q4) fun d' s5 gh=>?_))
  obtain⟨z2,H5,I5,r5,k2,e2,q5⟩:=gh
  subst e2
  cases r5
  exact qF ⟨H5,I5,q5⟩
theorem pM:(sizeLine:Nat)<2 ^ 63:=by rw[qI]; decide
theorem Aub:OpR X (iZ .Add) (fun x y H Q=>∃ i j,x = .str i/\y = .str j/\i.length+j.length≤sizeLine/\Q (.str (i++j)) H):=by
 intro pins s σ H x y v u Q I rx ry h
 obtain⟨i,j,rfl,rfl,hz,q⟩:=h
 obtain⟨t,rfl⟩:=rx
 obtain⟨t',rfl⟩:=ry
 exact add_str (fun t' tk=>⟨.str (i++j),H,I.tok _,⟨_,rfl⟩,q⟩) hz
theorem vals1 {x:V}{us:List aE}(r:Vals [x] us) : ∃ u,us=[u]/\RelV x u:=by
 cases r with
 | cons r1 r2=>cases r2; exact⟨_,rfl,r1⟩
theorem vals2 {x y:V}{us:List aE}(r:Vals [x,y] us) : ∃ u w',us=[u,w']/\RelV x u/\RelV y w':=by
 cases r with
 | cons r1 r2=>
  cases r2 with
  | cons r3 r4=>cases r4; exact⟨_,_,rfl,r1,r3⟩
theorem Nd:Ado X (.builtin "abs") (fun xs H Q=>∃ i,xs=[.int i]/\Q (.int (if i<0 then -i else i)) H):=by
 intro pins s σ H xs us Q I r h
 obtain⟨i,rfl,q⟩:=h
 obtain⟨u,rfl,t,rfl⟩:=vals1 r
 exact call_abs_int fun u tk=>⟨.int (if i<0 then -i else i),H,I.tok _,⟨_,rfl⟩,q⟩
theorem Aj:Ado X (.type "int") (fun xs H Q=>(∃ i,xs=[.int i]/\Q (.int i) H) \/ ∃ k,xs=[.bl k]/\Q (.int (if k then 1 else 0)) H):=by
 intro pins s σ H xs us Q I r h
 rcases h with⟨i,rfl,q⟩ | ⟨k,rfl,q⟩
 ·obtain⟨u,rfl,t,rfl⟩:=vals1 r
  exact call_int_int ⟨.int i,H,I,⟨_,rfl⟩,q⟩
 ·obtain⟨u,rfl,r1⟩:=vals1 r
  cases r1
  exact call_int_bool ⟨.int (if k then 1 else 0),H,I.tok _,⟨_,rfl⟩,q⟩
end
structure ObjM (h:aP)(x dx C:aB)(mA:aD->Option aE):Prop where
 obj:h.get? x=some (nJ C dx)
 ns:h.Ns1 dx mA
 ne:dx≠x
theorem Bc {h:aP}{dx:aB}{mA:aD->Option aE}(n:h.Ns1 dx mA) : ∃ od,h.get? dx=some od /\ ∀ name,HN name od=some (mA name):=by
 obtain⟨o,es,ep,ho,hd,hk,_,hm⟩:=n
 refine⟨o,ho,fun name=>?_⟩
 have e:=hm name
 unfold nsFind findBy at e
 rw[← Array.find?_toList] at e
 unfold HN
 rw[hd]
 dsimp only
 split
 ·rename_i y q
  rw[q] at e
  exact congrArg some e
 ·rename_i q
  rw[q] at e
  have a:es.toList.any (·.refKey)=false:=by
   rw[UW]
   intro y hy
   obtain⟨z,t,hkey⟩:=hk y (Array.mem_toList_iff.mp hy)
   simp[DictEntry.refKey,hkey]
  have a' : ¬ es.toList.any (·.refKey)=true:=by rw[a]; exact pB
  rw[if_neg a']
  exact congrArg some e
theorem ObjM.look {h:aP}{x dx C:aB}{mA:aD->Option aE}(I:ObjM h x dx C mA) : ∃ od,PySem.W.InstAt h x (nJ C dx) C (some od) /\ ∀ name,HN name od=some (mA name):=
 let ⟨od,ho,hl⟩:=Bc I.ns
 ⟨od,⟨I.obj,rfl,rfl,ho⟩,hl⟩
section
variable {prog:bB}{w:aW}{A:cA}{E:aE->aH->Prop}{s:aH}{K:aG}{x dx C f:aB}{mA:aD->Option aE}{name:aD}{v:aE}
theorem get_map {expr:Bool}{Q:aE->aH->Prop}(X:K.In s.heap)(I:ObjM s.heap x dx C mA)(hg:AS K C name=true)(hh:HR K C=true)
  (ha:jR K (.ref C) name=some none) (hv:mA name=some v) (hv':PySem.W.handedIn v=true) (h:Q v { s with toks:=s.toks+1 }) :
  aQ (aT prog w) A (getAttr (.ref x) name expr) Q E s:=by
 obtain⟨od,J,hl⟩:=I.look
 exact PySem.W.get_value X J (TU hg).1 (PySem.W.findObj_own hh ha rfl (by rw[hl,hv])) hv' h
theorem Nr {pl:Sem Bool}{Q:aE×List aE->aH->Prop}(X:K.In s.heap)(I:ObjM s.heap x dx C mA)(hg:AS K C name=true)
  (hf:jR K (.ref C) name=some (some (.ref f))) (ht:HP K (.ref f)=true) (hv:mA name=none) (h:Q (.ref f,[.ref x]) s) :
  aQ (aT prog w) A (AN (.ref x) name pl) Q E s:=by
 obtain⟨od,J,hl⟩:=I.look
 exact PySem.W.method_fn X J (TU hg).1 (TU hg).2 hf (beq_iff_eq.mp ht) (by show(HN name od).map (·.isSome)=some false; rw[hl,hv]; rfl) h
theorem Kp {ns:List aD}{Q:Unit->aH->Prop}(X:K.In s.heap)(I:ObjM s.heap x dx C mA)
  (hs:jR K (.ref C) "__setattr__" = some (some (.builtin "object.__setattr__"))) (hp:TR K C=true) (ht:TQ K C name=some none) (hh:HR K C=true)
  (hw:PySem.Within mA ns) (hsz:ns.length≤sizeLine)
  (h : ∀ h',ObjM h' x dx C (fun y=>if y=name then some v else mA y)->qU dx s.heap h'->Q () { s with heap:=h',toks:=s.toks+2 }) :
  aQ (aT prog w) A (setAttr (.ref x) name v) Q E s:=by
 obtain⟨od,J,hl⟩:=I.look
 refine PySem.W.set_plain X J hs (PySem.W.osa_open (s:={ s with toks:=s.toks+1 }) (r:=none) X J hp ht fun b=>?_)
 obtain⟨cd,hc,hd'⟩:=PySem.W.any_some hh
 have hx:s.heap.get? x=some ⟨.ref C,some dx,.plain,#[]⟩:=I.obj
 refine aK (bA (aK (aK (wpAny_loadPart hx (aK (PySem.W.Looks.here (s:={ s with toks:=s.toks+1 }) (PySem.W.looks_clsIn X hc) ?_))))))
 rw[hd']
 refine bA (a:=some dx) (aK (bA (aK ?_)))
 refine wpAny_nsSet1 (s:={ s with toks:=s.toks+1 }) I.ns fun h' hn2 hs2=>?_
 obtain⟨oD,esD,epD,hoD,hdD,hcD⟩:=hn2.count (PySem.Within.cons name v hw)
 refine aK (wpAny_lookBehind hoD (by rw[hdD]; exact pastItsLine_dict (jC hcD (by rw[eE]; omega))) ?_)
 exact bA (h _ ⟨(hs2.2 _ (kJ I.ne)).trans I.obj,hn2,I.ne⟩ hs2)
theorem Mm {R:qM->aH->Prop}{vs:List aE}{kw:List (aD×aE)}(X:K.In s.heap)(hm:TZ K C=true)
  (hi:jR K (.ref C) "__init__" = some (some (.ref f))) (hf:PySem.W.typeIn K (.ref f)=some (.type "function"))
  (h:lA (aT prog w) (A.under (.builtin "type.__call__" ⟨.ref C::vs,kw⟩)) (.call (.ref f) ⟨.ref (s.heap.objs.size+1)::vs,kw⟩) (PySem.W.InitBack (s.heap.objs.size+1) R)
   { s with heap:=(s.heap.push mE).push (nJ C s.heap.objs.size) }) :
  lA (aT prog w) A (.call (.ref C) ⟨vs,kw⟩) R s:=by
 obtain⟨hh,g,d,t,os⟩:=s
 exact PySem.W.make_core (PySem.W.makes_of X hm) (PySem.W.looks_findIn X hi) (fun self=>PySem.W.bind_fn X self hf) (.inl rfl) h
end
noncomputable def gH (f:aD)(v:V):List (aD×V)->List (aD×V)
 | []=>[(f,v)]
 | (g,x)::r=>if g=f then(g,v)::r else(g,x)::gH f v r
theorem QJ (f g:aD)(v:V) : ∀ fs:List (aD×V),(gH f v fs).lookup g=if g=f then some v else fs.lookup g
 | []=>by
  show iH g [(f,v)]=_
  by_cases h:g=f
  ·have hb:(g == f)=true:=beq_iff_eq.mpr h
   simp only[iH,hb,if_pos h]
  ·have hb:(g == f)=false:=beq_eq_false_iff_ne.mpr h
   simp only[iH,hb,if_neg h]
 | (k,x)::r=>by
  have ih:=QJ f g v r
  rw[show gH f v ((k,x)::r)=(if k=f then(k,v)::r else(k,x)::gH f v r) from rfl]
  by_cases hk:k=f
  ·rw[if_pos hk]
   by_cases h:g=k
   ·have hb:(g == k)=true:=beq_iff_eq.mpr h
    simp only[iH,hb,if_pos (h.trans hk)]
   ·have hb:(g == k)=false:=beq_eq_false_iff_ne.mpr h
    simp only[iH,hb,if_neg (fun e:g=f=>h (e.trans hk.symm))]
  ·rw[if_neg hk]
   by_cases h:g=k
   ·have hb:(g == k)=true:=beq_iff_eq.mpr h
    simp only[iH,hb,if_neg (fun e:g=f=>hk (h.symm.trans e))]
   ·have hb:(g == k)=false:=beq_eq_false_iff_ne.mpr h
    simp only[iH,hb]
    exact ih
theorem FC (f:aD)(v:V) : ∀ fs:List (aD×V),f∈(gH f v fs).map (·.1) /\ ∀ g,g∈fs.map (·.1)->g∈(gH f v fs).map (·.1)
 | []=>⟨by simp[gH],fun g h=>by simp at h⟩
 | (k,x)::r=>by
  obtain⟨i1,i2⟩:=FC f v r
  rw[show gH f v ((k,x)::r)=(if k=f then(k,v)::r else(k,x)::gH f v r) from rfl]
  by_cases hk:k=f
  ·rw[if_pos hk]
   subst hk
   exact⟨by simp,fun g h=>by simpa using h⟩
  ·rw[if_neg hk]
   refine⟨?_,fun g h=>?_⟩
   ·rw[cY]
    exact cD _ i1
   ·rw[cY] at h ⊢
    rcases cP.mp h with e | e
    ·exact cP.mpr (.inl e)
    ·exact cD _ (i2 g e)
theorem QS (f:aD)(v:V) : ∀ fs:List (aD×V),(gH f v fs).length≤fs.length+1
 | []=>by simp[gH]
 | (k,x)::r=>by
  have ih:=QS f v r
  rw[show gH f v ((k,x)::r)=(if k=f then(k,v)::r else(k,x)::gH f v r) from rfl]
  by_cases hk:k=f
  ·rw[if_pos hk,eE,eE]; omega
  ·rw[if_neg hk,eE,eE]; omega
theorem Aoh.some_of {v:V}{o:Option aE}(r:Aoh (some v) o) : ∃ u,o=some u/\RelV v u:=by
 cases o with
 | none=>exact(show False from r).elim
 | some u=>exact⟨u,rfl,r⟩
theorem Aoh.none_of {o:Option aE}(r:Aoh none o):o=none:=by
 cases o with
 | none=>rfl
 | some u=>exact(show False from r).elim
theorem Bs {v:V}{u:aE}(r:RelV v u):PySem.W.handedIn u=true:=by
 cases v with
 | non=>cases(show u=fU from r); rfl
 | bl b=>cases(show u=Value.bool b from r); rfl
 | int i=>obtain⟨t,e⟩:=(show ∃ t,u=AQ i t from r); cases e; rfl
 | str x=>obtain⟨t,e⟩:=(show ∃ t,u=AO x t from r); cases e; rfl
 | byt b=>obtain⟨t,e⟩:=(show ∃ t,u=Value.bytes b t from r); cases e; rfl
 | flt b=>obtain⟨t,e⟩:=(show ∃ t,u=Value.float b t from r); cases e; rfl
 | ref a=>cases(show u=dE a from r); rfl
 | ty n=>cases(show u=jP n from r); rfl
section
variable {P:bB}{w:aW}{H H':Hp}{h h':aP}{a C dx:aB}{fs fs':List (aD×V)}
theorem yC (hok:HOk P w H h)(e:H a=some (.ins C dx fs)) : ∃ mA,ObjM h a dx C mA/\(∀ f,Aoh (fs.lookup f) (mA f))/\PySem.Within mA (fs.map (·.1))/\fs.length≤1000/\H dx=some (.own a):=by
 obtain⟨d,z,ne,ob,mA,n,r,q⟩:=(show Aci P w H h a (.ins C dx fs) from hok a _ e)
 exact⟨mA,⟨ob,n,ne⟩,r,q,z,d⟩
end
structure Cls (K:aG)(C:aB):Prop where
 pg:AS K C Str.empty=true
 hd:HR K C=true
 po:TR K C=true
 sa:jR K (.ref C) "__setattr__" = some (some (.builtin "object.__setattr__"))
theorem Cls.get {K:aG}{C:aB}(c:Cls K C)(f:aD):AS K C f=true:=c.pg
def Ajs (K:aG)(C:aB)(f:aD):Prop:=jR K (.ref C) f=some none
theorem Ajs.taker {K:aG}{C:aB}{f:aD}(n:Ajs K C f):TQ K C f=some none:=by
 unfold TQ
 rw[show jR K (.ref C) f=some none from n]
 rfl
structure Meth (K:aG)(C:aB)(m:aD)(f:aB):Prop where
 at_:jR K (.ref C) m=some (some (.ref f))
 fn:HP K (.ref f)=true
 kp:kH K (.ref f)=true
section
variable {X:Cx}{pins:List (aB×aY)}{σ:St}{H:Hp}{s:aH}{a C dx:aB}{fs:List (aD×V)}{f:aD}{v:V}{A:cA}{E:aE->aH->Prop}
theorem Dn {b:Bool}{Q:aE->aH->Prop}(I:Inv X pins σ H s)(e:H a=some (.ins C dx fs))(c:Cls X.K C)(n:Ajs X.K C f)(l:fs.lookup f=some v)
  (h : ∀ u s',Inv X pins σ H s'->RelV v u->Q u s'):aQ (aT X.prog X.w) A (getAttr (.ref a) f b) Q E s:=by
 obtain⟨mA,O,r,_,_,_⟩:=yC I.hok e
 obtain⟨u,hu,ru⟩:=Aoh.some_of (v:=v) (o:=mA f) (by rw[← l]; exact r f)
 exact get_map I.kIn O (c.get f) c.hd n hu (Bs ru) (h u _ (I.tok _) ru)
theorem FZ {m:aD}{g:aB}{pl:Sem Bool}{Q:aE×List aE->aH->Prop}(I:Inv X pins σ H s)(e:H a=some (.ins C dx fs))(c:Cls X.K C)(k:Meth X.K C m g)(l:fs.lookup m=none)
  (h:Q (.ref g,[.ref a]) s):aQ (aT X.prog X.w) A (AN (.ref a) m pl) Q E s:=by
 obtain⟨mA,O,r,_,_,_⟩:=yC I.hok e
 have hn:mA m=none:=Aoh.none_of (by rw[← l]; exact r m)
 exact Nr I.kIn O (c.get m) k.at_ k.fn hn h
theorem Du {y:V}{u:aE}{Q:Unit->aH->Prop}(I:Inv X pins σ H s)(e:H a=some (.ins C dx fs))(c:Cls X.K C)(n:Ajs X.K C f)(hl:fs.length<1000)(ry:RelV y u)
  (h : ∀ s',Inv X pins σ (upd H a (.ins C dx (gH f y fs))) s'->Q () s'):aQ (aT X.prog X.w) A (setAttr (.ref a) f u) Q E s:=by
 obtain⟨mA,O,r,wi,_,ho⟩:=yC I.hok e
 have hz:(fs.map (·.1)).length≤sizeLine:=by rw[cL,qI]; omega
 refine Kp I.kIn O c.sa c.po n.taker c.hd wi hz fun h' O' sb=>h _ ?_
 have hd : ∃ o,h'.get? dx=some o:=let ⟨o,_,_,e',_⟩:=O'.ns; ⟨o,e'⟩
 refine I.write (x:=a) (e:=dx) (by rw[e]; exact kE) (.inr ho) (fun b q hb z=>(sb.2 b hb).trans z) hd ?_
 refine⟨by rw[bO O.ne]; exact ho,?_,O.ne,O'.obj,_,O'.ns,fun g=>?_,fun g hg=>?_⟩
 ·have:=QS f y fs; omega
 ·show Aoh ((gH f y fs).lookup g) (if g=f then some u else mA g)
  rw[QJ]
  by_cases q:g=f
  ·rw[if_pos q,if_pos q]; exact ry
  ·rw[if_neg q,if_neg q]; exact r g
 ·by_cases q:g=f
  ·rw[q]; exact(FC f y fs).1
  ·refine(FC f y fs).2 g (wi g fun z=>hg ?_)
   show(if g=f then some u else mA g)=none
   rw[if_neg q]; exact z
theorem Inv.made (I:Inv X pins σ H s):Inv X pins σ (upd (upd H s.heap.objs.size (.own (s.heap.objs.size+1))) (s.heap.objs.size+1) (.ins C s.heap.objs.size []))
  { s with heap:=(s.heap.push mE).push (nJ C s.heap.objs.size) }:=by
 have e1:(s.heap.push mE).get? s.heap.objs.size=some mE:=eZ s.heap rfl
 have e2:((s.heap.push mE).push (nJ C s.heap.objs.size)).get? (s.heap.objs.size+1)=some (nJ C s.heap.objs.size):=by
  have:=eZ (s.heap.push mE) (o:=nJ C s.heap.objs.size) rfl
  rwa [IK] at this
 have e3:(s.heap.push mE).Ns s.heap.objs.size (fun _=>none):=⟨mE,#[],_,e1,rfl,(fun e he=>absurd he (by simp)),fun _=>rfl⟩
 have I1:=I.laid (a:=s.heap.objs.size) (o:=.own (s.heap.objs.size+1)) (h':=s.heap.push mE) (t':=s.toks) (fun b u q=>cN _ q) (bR _) ⟨_,e1⟩
 refine I1.laid (a:=s.heap.objs.size+1) (o:=.ins C s.heap.objs.size []) (t':=s.toks) (fun b u q=>cN _ q) (ID (IK _ _)) ?_
 have ne:s.heap.objs.size≠s.heap.objs.size+1:=dG (Nat.lt_succ_self _)
 refine⟨by rw[bO ne,eB],eX _,ne,e2,fun _=>none,(Heap.Ns1.of_empty e3).at fun o q=>cN _ q,fun _=>kE,fun y hy=>absurd rfl hy⟩
theorem Je {prog:bB}{w:aW}{env:dW}{e:aR}{f:aD}{pos:bL}{s:aH}{Q:aE->aH->Prop}(hb:nG e f env (bJ e env)=bJ e env)
  (h:aQ (aT prog w) A (bJ e env) (fun o s₁=>aQ (aT prog w) A (getAttr o f true) Q E s₁) E s):aQ (aT prog w) A (bJ (.Attribute e f pos) env) Q E s:=
 Attribute_any_ h (by rw[arm_eval_Attribute,hb])
end
noncomputable def VL (K:aG)(ta:TE)(f:aD):TE:=fun σ H Q=>ta σ H fun x H1=>∃ a C dx fs v,x = .ref a/\H1 a=some (.ins C dx fs)/\Cls K C/\Ajs K C f/\fs.lookup f=some v/\Q v H1
noncomputable def VU (K:aG)(ta tv:TE)(f:aD):TS:=fun D σ H=>tv σ H fun y H1=>ta σ H1 fun x H2=>∃ a C dx fs,x = .ref a/\H2 a=some (.ins C dx fs)/\Cls K C/\Ajs K C f/\fs.length<1000 /\
 D.nx σ (upd H2 a (.ins C dx (gH f y fs)))
section
variable {X:Cx}{o e value:aR}{f:aD}{pos pos' tpos:bL}{ta tv:TE}
theorem rN (he:PE X e ta)(hb:nG e f X.env (bJ e X.env)=bJ e X.env):PE X (.Attribute e f pos) (VL X.K ta f):=by
 intro pins s σ H Q I h
 refine Je hb (thn (he pins s σ H _ I h) fun u s1 gh=>?_)
 obtain⟨x,H1,I1,rx,a,C,dx,fs,v,ex,ea,c,n,l,q⟩:=gh
 subst ex
 obtain rfl:u=dE a:=rx
 exact Dn I1 ea c n l fun u' s2 I2 ru=>⟨v,H1,I2,ru,q⟩
theorem SV (ha:PE X o ta)(hv:PE X value tv)(hs:lY value (some (.Attribute o f pos')) pos.line X.env=pure false):PS X (.Assign [.Attribute o f pos'] value pos) (VU X.K ta tv f):=by
 intro pins s σ H D I h
 refine plainObj_wpAny_Assign_Attribute (thn (hv pins s σ H _ I h) fun u s1 ⟨y,H1,I1,ry,q⟩=>thn (ha pins s1 σ H1 _ I1 q) fun ov s2 ⟨x,H2,I2,rx,a,C,dx,fs,ex,ea,c,n,l,q2⟩=>?_) hs
 subst ex
 obtain rfl:ov=dE a:=rx
 exact Du I2 ea c n l ry fun s3 I3=>⟨σ,_,I3,q2⟩
end
section
variable {X:Cx}{pins:List (aB×aY)}{σ:St}{H:Hp}{s:aH}{A:cA}{E:aE->aH->Prop}{Q:aE->aH->Prop}{c:aE}{b:Bool}
inductive TyOf (K:aG)(H:Hp):V->aE->Prop where
 | non:TyOf K H .non (.type "NoneType")
 | bl (x:Bool):TyOf K H (.bl x) (.type "bool")
 | int (i:Int):TyOf K H (.int i) (.type "int")
 | str (x:aD):TyOf K H (.str x) (.type "str")
 | flt (x:UInt64):TyOf K H (.flt x) (.type "float")
 | lst {a:aB} {xs:List V} (e:H a=some (.lst xs)):TyOf K H (.ref a) (.type "list")
 | frz {a:aB} {o:aY} {xs:List V} (e:H a=some (.frz o (.lst xs))):TyOf K H (.ref a) (.type "list")
 | tup {a:aB} {xs:List V} (e:H a=some (.tup xs)):TyOf K H (.ref a) (.type "tuple")
 | dK {a:aB} {ep:Nat} {kvs:List (aL×V)} (e:H a=some (.dK ep kvs)):TyOf K H (.ref a) (.type "dict")
 | dT {a:aB} {ep:Nat} {kvs:List (List aA×V)} (e:H a=some (.dT ep kvs)):TyOf K H (.ref a) (.type "dict")
 | ins {a C dx:aB} {fs:List (aD×V)} (e:H a=some (.ins C dx fs)) (cl:Cls K C) (ha:jR K (.ref C) "__class__" = some (some (.builtin "object.__class__")))
   (hn:PySem.W.specialIn K (.builtin "object.__class__") "__get__" = some (some (.builtin "getset_descriptor.__get__"))) (htk:PySem.W.takesIn K (.builtin "object.__class__")=some true)
   (hm:PySem.W.mroIn K C (.type "object")=some true):TyOf K H (.ref a) (.ref C)
theorem Bi {x:V}{u t:aE}(I:Inv X pins σ H s)(rx:RelV x u)(ty:TyOf X.K H x t)(e:UC X.K t c=some b)(h : ∀ tk,Q (.bool b) { s with toks:=tk }) :
  aQ (aT X.prog X.w) A (call (.builtin "isinstance") [u,c]) Q E s:=by
 cases ty with
 | non=>cases(show u=fU from rx); exact kG PySem.W.kitx_none I.kIn kE e (fun z=>nomatch z) h
 | bl y=>cases(show u=Value.bool y from rx); exact kG PySem.W.kitx_bool I.kIn kE e (fun z=>nomatch z) h
 | int i=>obtain⟨t,q⟩:=(show ∃ t,u=AQ i t from rx); cases q; exact kG PySem.W.kitx_int I.kIn kE e (fun z=>nomatch z) h
 | str y=>obtain⟨t,q⟩:=(show ∃ t,u=AO y t from rx); cases q; exact kG PySem.W.kitx_str I.kIn kE e (fun z=>nomatch z) h
 | flt y=>obtain⟨t,q⟩:=(show ∃ t,u=Value.float y t from rx); cases q; exact kG PySem.W.kitx_float I.kIn kE e (fun z=>nomatch z) h
 | @lst a xs ea=>
  cases(show u=dE a from rx)
  obtain⟨_,_,n,_,h1⟩:=(show Aci X.prog X.w H s.heap a (.lst xs) from I.hok a _ ea)
  exact kG UA I.kIn ⟨_,h1,rfl⟩ e (fun z=>nomatch z) h
 | @frz a ob xs ea=>
  cases(show u=dE a from rx)
  obtain⟨_,_,_,n,_,h1⟩:=(show Aci X.prog X.w H s.heap a (.frz ob (.lst xs)) from I.hok a _ ea)
  exact kG UA I.kIn ⟨_,h1,rfl⟩ e (fun z=>nomatch z) h
 | @tup a xs ea=>
  cases(show u=dE a from rx)
  obtain⟨_,_,_,p⟩:=(show Aci X.prog X.w H s.heap a (.tup xs) from I.hok a _ ea)
  obtain⟨o,h1,h2,_⟩:=p.1
  exact kG PySem.W.kitx_tuple I.kIn ⟨o,h1,h2⟩ e (fun z=>nomatch z) h
 | @dK a ep kvs ea=>
  cases(show u=dE a from rx)
  obtain⟨_,_,vs,_,p⟩:=(show Aci X.prog X.w H s.heap a (.dK ep kvs) from I.hok a _ ea)
  obtain⟨o,es,h1,h2,_⟩:=p
  exact kG UB I.kIn ⟨o,h1,h2.1⟩ e (fun z=>nomatch z) h
 | @dT a ep kvs ea=>
  cases(show u=dE a from rx)
  obtain⟨_,_,xs,_,o,es,h1,h2,_⟩:=(show Aci X.prog X.w H s.heap a (.dT ep kvs) from I.hok a _ ea)
  exact kG UB I.kIn ⟨o,h1,h2.1⟩ e (fun z=>nomatch z) h
 | @ins a C dx fs ea cl ha hn htk hm=>
  cases(show u=dE a from rx)
  obtain⟨mA,O,_⟩:=yC I.hok ea
  obtain⟨od,J,_⟩:=O.look
  exact kG (PySem.W.kitx_own (cl.get _) cl.hd ha hn htk hm) I.kIn J e (fun z=>nomatch z) h
end
structure Room (k:Nat)(A:cA):Prop where
 hd:A.handled=none
 dp:A.depth+3*k+5<recursionLimit
 un:A.units+16*k+200<cLine
theorem Room.mono {j k:Nat}{A:cA}(r:Room k A)(h:j≤k):Room j A:=⟨r.hd,by have:=r.dp; omega,by have:=r.un; omega⟩
theorem Room.deeper {k:Nat}{A:cA}(r:Room (k+1) A)(env:dW):Room k (A.deeper env):=
 ⟨r.hd,by have:=r.dp; show A.depth+1+3*k+5<_; omega,by have:=r.un; show A.units+3+16*k+200<_; omega⟩
theorem Cp {A:cA}{C:aB}{us:List aE}{kw:List (aD×aE)}:(A.under (.builtin "type.__call__" ⟨.ref C::us,kw⟩)).depth=A.depth+1:=by
 first | rfl | simp[Around.under,Code.weight,Code.isCreation,Code.isGuard,Code.isCaller,Code.frames,Code.isFrame,guardIds]
theorem Dj {A:cA}{C:aB}{us:List aE}{kw:List (aD×aE)}:(A.under (.builtin "type.__call__" ⟨.ref C::us,kw⟩)).units=A.units+1:=by
 first | rfl | simp[Around.under,Code.cUnits,Code.frames,Code.isFrame]
theorem Room.make {k:Nat}{A:cA}(r:Room (k+1) A)(C:aB)(us:List aE)(kw:List (aD×aE)):Room k (A.under (.builtin "type.__call__" ⟨.ref C::us,kw⟩)):=
 ⟨r.hd,by have:=r.dp; rw[Cp]; omega,by have:=r.un; rw[Dj]; omega⟩
theorem Room.depth {k:Nat}{A:cA}(r:Room k A):A.depth<recursionLimit:=by have:=r.dp; omega
theorem Room.units {k:Nat}{A:cA}(r:Room k A):A.units+64<cLine:=by have:=r.un; omega
noncomputable abbrev BY:TA:=fun _ H Q=>Q [] H
noncomputable abbrev uB (ta:TE)(tr:TA):TA:=fun σ H Q=>ta σ H fun x H1=>tr σ H1 fun xs H2=>Q (x::xs) H2
section
variable {X:Cx}{e:aR}{es:List aR}{te:TE}{t:TA}{pos:bL}
theorem iN:PA X [] BY:=fun _ _ _ _ H Q I h=>Calls.spliced_nil ⟨[],H,I,.nil,h⟩
theorem fP (ha:PE X e te)(hr:PA X es t)(hs:bI (e::es) X.env=(false,bJ e X.env)::bI es X.env:=by rfl):PA X (e::es) (uB te t):=by
 intro pos pins s σ H Q I h
 rw[hs]
 show aQ _ _ (spliced ((false,bJ e X.env)::fD pos (bI es X.env))) _ _ s
 refine Calls.spliced_cons (thn (ha pins s σ H _ I h) fun u s1 gh=>?_)
 obtain⟨x,H1,I1,r1,q1⟩:=gh
 exact thn (hr pos pins s1 σ H1 _ I1 q1) fun us s2 ⟨xs,H2,I2,r2,q2⟩=>⟨x::xs,H2,I2,.cons r1 r2,q2⟩
noncomputable def VY (t:TA):TE:=fun σ H Q=>t σ H fun xs H1=>xs.length≤sizeLine /\ ∀ p,H1 p=none->Q (.ref p) (upd H1 p (.tup xs))
noncomputable def VO (t:TA):TE:=fun σ H Q=>t σ H fun xs H1=>xs.length≤sizeLine /\ ∀ p,H1 p=none->Q (.ref p) (upd H1 p (.lst xs))
theorem YV {x1}(h:PA X es t):PE X (.Tuple es x1 pos) (VY t):=by
 intro pins s σ H Q I hq
 refine wpAny_Tuple_spliced (thn (h pos pins s σ H _ I hq) fun us s1 ⟨xs,H1,I1,r,z,q⟩=>⟨by rw[← r.length]; exact z,?_⟩)
 have hf:H1 s1.heap.objs.size=none:=I1.hok.fresh (bR _)
 refine⟨.ref s1.heap.objs.size,upd H1 s1.heap.objs.size (.tup xs),I1.laid (t':=s1.toks) (fun b u e=>cN _ e) (bR _) ?_,rfl,q _ hf⟩
 exact⟨z,us,r,⟨_,eZ _ rfl,rfl,_,rfl⟩,_,eZ _ rfl,rfl⟩
theorem Iq (h:PA X es t):PE X (.List es pos) (VO t):=by
 intro pins s σ H Q I hq
 refine wpAny_List_spliced (thn (h pos pins s σ H _ I hq) fun us s1 ⟨xs,H1,I1,r,z,q⟩=>⟨by rw[← r.length]; exact z,?_⟩)
 have hf:H1 s1.heap.objs.size=none:=I1.hok.fresh (bR _)
 refine⟨.ref s1.heap.objs.size,upd H1 s1.heap.objs.size (.lst xs),I1.laid (t':=s1.toks) (fun b u e=>cN _ e) (bR _) ?_,rfl,q _ hf⟩
 exact⟨z,us,0,r,eZ _ rfl⟩
end
abbrev Sp:=List V->Hp->VK->XK->Prop
abbrev CXT:=List dW->Hp->aH->XK->aE->aH->Prop
structure Env0 (P:bB)(w:aW)(K:aG)(mg:aD->Option aE)(base:aP)(A:cA)(outer:List dW)(s:aH)(H:Hp):Prop where
 frames:A.frames=some outer
 mod:Mod K mg base
 bs : ∀ b o,base.get? b=some o->s.heap.get? b=some o/\H b=none
 bsz:base.objs.size≤s.heap.objs.size
 funs:s.heap.FunFrames base outer
 frf : ∀ b∈frs outer,H b=none
 hok:HOk P w H s.heap
 bare:nO s.gens
def CE (outer:List dW)(P:bB)(w:aW)(H:Hp)(s:aH)(Q:VK)(u:aE)(s':aH):Prop:=
 ∃ v H',s'.os=s.os/\nO s'.gens/\Un (frs outer) [] H H' s.heap s'.heap/\HOk P w H' s'.heap/\RelV v u/\Q v H'
def CR (CX:CXT)(outer:List dW)(P:bB)(w:aW)(H:Hp)(s:aH)(Q:VK)(E:XK)(r:qM)(s':aH):Prop:=
 match r with
 | .ok (.ret u)=>CE outer P w H s Q u s'
 | .ok _=>False
 | .error e=>CX outer H s E e s'
structure FnOk (P:bB)(w:aW)(K:aG)(mg:aD->Option aE)(base:aP)(CX:CXT)(k:Nat)(f:aB)(fd:eM)(ps:List aD)(sp:Sp):Prop where
 len : ∀ vs H Q E,sp vs H Q E->vs.length=ps.length
 run : ∀ (A:cA) (outer:List dW) (s:aH) (H:Hp) (args:Args) (us:List aE) (vs:List V) (Q:VK) (E:XK),Room k A->Env0 P w K mg base A outer s H->qX s fd args (ps.zip us)->Vals vs us->sp vs H Q E ->
  lA (aT P w) A (.call (.ref f) args) (CR CX outer P w H s Q E) s
theorem FnOk.imp {P:bB}{w:aW}{K:aG}{mg:aD->Option aE}{base:aP}{CX:CXT}{k:Nat}{f:aB}{fd:eM}{ps:List aD}{sp sp':Sp}(F:FnOk P w K mg base CX k f fd ps sp)
  (h : ∀ vs H Q E,sp' vs H Q E->sp vs H Q E):FnOk P w K mg base CX k f fd ps sp':=
 ⟨fun vs H Q E q=>F.len vs H Q E (h _ _ _ _ q),fun A outer s H args us vs Q E hr he hb hv hs=>F.run A outer s H args us vs Q E hr he hb hv (h _ _ _ _ hs)⟩
theorem Env0.make {P:bB}{w:aW}{K:aG}{mg:aD->Option aE}{base:aP}{A:cA}{outer:List dW}{s:aH}{H:Hp}(e:Env0 P w K mg base A outer s H)(C:aB)(us:List aE)(kw:List (aD×aE)) :
  Env0 P w K mg base (A.under (.builtin "type.__call__" ⟨.ref C::us,kw⟩)) outer s H:=⟨by first | exact e.frames | (simpa [Around.under,Code.envs,Code.isFrame,pushEnvs] using e.frames),e.mod,e.bs,e.bsz,e.funs,e.frf,e.hok,e.bare⟩
section
variable {X:Cx}{pins:List (aB×aY)}{σ:St}{H:Hp}{s s':aH}
theorem Inv.env0 (I:Inv X pins σ H s):Env0 X.prog X.w X.K X.mg X.base X.A X.stack s H:=
 ⟨I.ok.frames,I.ok.mod,I.bs,jC I.ok.bsz I.sz,I.stack,I.stkFree,I.hok,I.bare⟩
theorem Inv.after {Q:VK}{u:aE}(I:Inv X pins σ H s)(h:CE X.stack X.prog X.w H s Q u s'):EP X pins σ Q u s':=by
 obtain⟨v,H',os,bare,un,hok,r,q⟩:=h
 obtain⟨hh,g,d,t,os'⟩:=s'
 obtain rfl:os'=s.os:=os
 exact⟨v,H',I.call (h':=hh) (g':=g) (d':=d) (t':=t) (ch:=[]) un hok bare (fun b z=>absurd z (by simp)),r,q⟩
end
noncomputable def zX (sp:Sp)(dvs:List V)(E:XK)(t:TA):TE:=fun σ H Q=>t σ H fun vs H1=>sp (vs++dvs) H1 Q E
noncomputable def JH (C:aB)(m:aD)(sp:Sp)(dvs:List V)(E:XK)(ta:TE)(t:TA):TE:=fun σ H Q=>ta σ H fun x H1=>∃ a dx fs,x = .ref a/\H1 a=some (.ins C dx fs)/\fs.lookup m=none /\
 t σ H1 fun vs H2=>sp (x::(vs++dvs)) H2 Q E
def Binds (K:aG)(fd:eM)(ps:List aD)(ds:List aE):Prop:=
 ∀ (s:aH) (us:List aE),K.In s.heap->(us++ds).length=ps.length->qX s fd ⟨us,[]⟩ (ps.zip (us++ds))
theorem Binds.all {K:aG}{fd:eM}{ps:List aD}(h : ∀ us:List aE,us.length=ps.length->wJ fd ⟨us,[]⟩=pure (ps.zip us)):Binds K fd ps []:=fun s us _ hl=>by
 rw[tP] at hl ⊢
 exact .of_eq (h us hl)
def Passes (CX:CXT)(X:Cx)(E:XK):Prop:=∀ (pins:List (aB×aY)) (σ:St) (H:Hp) (s:aH) (e:aE) (s':aH),Inv X pins σ H s->CX X.stack H s E e s'->X.xe e s'
section
variable {X:Cx}{CX:CXT}{k:Nat}{f C:aB}{fd:eM}{ps:List aD}{sp:Sp}{dvs:List V}{ds:List aE}{E:XK}{x m:aD}{p pos apos:bL}{e o:aR}{es:List aR}{ta:TE}{t:TA}
theorem SG {pins:List (aB×aY)}{σ:St}{H:Hp}{s:aH}{Q:VK}{us:List aE}{vs:List V}(F:FnOk X.prog X.w X.K X.mg X.base CX k f fd ps sp)(hr:Room k X.A)(hb:Binds X.K fd ps ds)(hd:Vals dvs ds)(hx:Passes CX X E)
  (I:Inv X pins σ H s) (r:Vals vs us) (h:sp (vs++dvs) H Q E):aQ (aT X.prog X.w) X.A (call (.ref f) us) (EP X pins σ Q) X.xe s:=by
 have r2:Vals (vs++dvs) (us++ds):=r.append hd
 have hl:(us++ds).length=ps.length:=by rw[← r2.length]; exact F.len _ _ _ _ h
 refine wpAny_call (qK (F.run X.A X.stack s H ⟨us,[]⟩ (us++ds) (vs++dvs) Q E hr I.env0 (hb s us I.kIn hl) r2 h) fun r s' hq=>?_)
 cases r with
 | error e=>exact hx pins σ H s e s' I hq
 | ok fl=>
  cases fl with
  | ret u=>exact I.after hq
  | next=>exact iQ hq
  | brk=>exact iQ hq
  | cont=>exact iQ hq
theorem LO (F:FnOk X.prog X.w X.K X.mg X.base CX k f fd ps sp)(hr:Room k X.A)(hg:Gl X x)(hm:X.mg x=some (.ref f))(hk:kH X.K (.ref f)=true)(hb:Binds X.K fd ps ds)(hd:Vals dvs ds)(hx:Passes CX X E)
  (ha:PA X (e::es) t) (hdb:(x == ("__debug__" : aD))=false:=by decide) (he:bI (e::es) X.env=(false,bJ e X.env)::bI es X.env:=by rfl) (hpl:(fD pos (bI es X.env)).any (·.1)=false:=by rfl) :
  PE X (.Call (.Name x p) (e::es) [] pos) (zX sp dvs E t):=by
 intro pins s σ H Q I h
 refine HJ (yH I hg hm ?_ hdb)
 refine HS (h₀:=X.base) I.ok.mod.kin hk (thn (ha pos pins s σ H _ I h) fun us s1 ⟨vs,H1,I1,r,q⟩=>⟨I1.kIn,?_⟩) he hpl
 exact SG F hr hb hd hx I1 r q
theorem KO {pl:Sem Bool}(he:PE X o ta)(c:Cls X.K C)(hm:Meth X.K C m f)(F:FnOk X.prog X.w X.K X.mg X.base CX k f fd ps sp)(hr:Room k X.A)(hb:Binds X.K fd ps ds)(hd:Vals dvs ds)(hx:Passes CX X E)(ha:PA X (e::es) t)
  (hst:bI (e::es) X.env=(false,bJ e X.env)::bI es X.env:=by rfl) (hpl:(fD pos (bI es X.env)).any (·.1)=false:=by rfl)
  (ht:bJ (.Call (.Attribute o m apos) (e::es) [] pos) X.env=(do
   let ov ← bJ o X.env
   qH apos.atName
   let (f,first) ← kZ [ov] (AN ov m pl)
   callWith pos f first (fD pos (bI (e::es) X.env)) (tH pos (sZ [] X.env))):=by rfl) :
  PE X (.Call (.Attribute o m apos) (e::es) [] pos) (JH C m sp dvs E ta t):=by
 intro pins s σ H Q I h
 refine TY (pl:=pl) (thn (he pins s σ H _ I h) fun u s1 ⟨x,H1,I1,rx,a,dx,fs,ex,ea,l,q⟩=>?_) ht
 subst ex
 obtain rfl:u=dE a:=rx
 refine FZ I1 ea c hm l ?_
 refine HS (first:=[.ref a]) (h₀:=X.base) I.ok.mod.kin hm.kp (thn (ha pos pins s1 σ H1 _ I1 q) fun us s2 ⟨vs,H2,I2,r,q2⟩=>⟨I2.kIn,?_⟩) hst hpl
 exact SG (us:=.ref a::us) (vs:=.ref a::vs) F hr hb hd hx I2 (.cons rfl r) q2
structure Mk (K:aG)(C f:aB):Prop where
 makes:TZ K C=true
 init:jR K (.ref C) "__init__" = some (some (.ref f))
 fn:HP K (.ref f)=true
 kp:kH K (.ref C)=true
end
structure FnScope (N P:List aD)(sc:gN):Prop where
 kind:sc.kind = .function
 co:sc.isCoroutine=false
 gen:sc.isGenerator=false
 nd:N.Nodup
 pre:N.take P.length=P
 par : ∀ x∈P,sc.names.lookup x=some .local \/ sc.names.lookup x=some .cell
 nofree : ∀ y∈sc.names,y.2 ≠ .free
theorem NV {kindOf:aD->Option kL}{x:aD} : ∀ {binds:List (aD×aE)} {m:aD->Option aE},(∀ v,(x,v)∉binds)->bindL kindOf binds m x=m x
 | [],_,_=>rfl
 | (n,v)::r,m,h=>by
  unfold bindL
  rw[NV fun w hw=>h w (cD _ hw)]
  split
  ·have:x≠n:=by rintro rfl; exact h v bX
   simp[this]
  ·rfl
theorem OR {kindOf:aD->Option kL}{x:aD} : ∀ {binds:List (aD×aE)} {m:aD->Option aE},(∀ v,(x,v)∉binds)->bindC kindOf binds m x=m x
 | [],_,_=>rfl
 | (n,v)::r,m,h=>by
  unfold bindC
  rw[OR fun w hw=>h w (cD _ hw)]
  split
  ·rfl
  ·have:x≠n:=by rintro rfl; exact h v bX
   simp[this]
theorem NO {kindOf:aD->Option kL}{x:aD}{v:aE} : ∀ {P:List aD} {vs:List aE} {i:Nat} {m:aD->Option aE},P.Nodup->P[i]?=some x->vs[i]?=some v->kindOf x=some .local ->
  bindL kindOf (P.zip vs) m x=some v
 | [],_,_,_,_,h,_,_=>by simp at h
 | _::_,[],_,_,_,_,h,_=>by simp at h
 | p::P,w::vs,0,m,nd,h1,h2,hk=>by
  simp at h1 h2; subst h1; subst h2
  show bindL kindOf ((p,w)::P.zip vs) m p=_
  unfold bindL
  rw[NV fun v hv=>(fF.mp nd).1 (UO hv).1,if_pos hk]
  simp
 | p::P,w::vs,i+1,m,nd,h1,h2,hk=>by
  show bindL kindOf ((p,w)::P.zip vs) m x=_
  unfold bindL
  exact NO (i:=i) (fF.mp nd).2 (by simpa using h1) (by simpa using h2) hk
theorem OI {kindOf:aD->Option kL}{x:aD}{v:aE} : ∀ {P:List aD} {vs:List aE} {i:Nat} {m:aD->Option aE},P.Nodup->P[i]?=some x->vs[i]?=some v->kindOf x≠some .local ->
  bindC kindOf (P.zip vs) m x=some v
 | [],_,_,_,_,h,_,_=>by simp at h
 | _::_,[],_,_,_,_,h,_=>by simp at h
 | p::P,w::vs,0,m,nd,h1,h2,hk=>by
  simp at h1 h2; subst h1; subst h2
  show bindC kindOf ((p,w)::P.zip vs) m p=_
  unfold bindC
  rw[OR fun v hv=>(fF.mp nd).1 (UO hv).1,if_neg hk]
  simp
 | p::P,w::vs,i+1,m,nd,h1,h2,hk=>by
  show bindC kindOf ((p,w)::P.zip vs) m x=_
  unfold bindC
  exact OI (i:=i) (fF.mp nd).2 (by simpa using h1) (by simpa using h2) hk
noncomputable def start (N:List aD)(vs:List V):St:=vs.map some++eA (N.length - vs.length) none
noncomputable def iI (CX:CXT)(P:bB)(w:aW)(K:aG)(mg:aD->Option aE)(base:aP)(N:List aD)(qual:aD)(scope:gN)(f:aB)(cd:aE)(A:cA)(outer:List dW)(s:aH)(H:Hp)(E:XK):Cx where
 prog:=P
 w:=w
 K:=K
 mg:=mg
 base:=base
 A:=A.deeper (gW qual scope s.heap.objs.size f cd)
 N:=N
 s₀:=s
 H₀:=H
 env:=gW qual scope s.heap.objs.size f cd
 outer:=outer
 stack:=gW qual scope s.heap.objs.size f cd::outer
 ex:=[]
 calm:=true
 fn:=fun _=>true
 pn:=[]
 xe:=fun e s'=>aQ (aT P w) (A.deeper (gW qual scope s.heap.objs.size f cd)) (leaving (gW qual scope s.heap.objs.size f cd) e) (fun _ s''=>CX outer H s E e s'') (fun e' s''=>CX outer H s E e' s'') s'
theorem NA {sc:gN}{n:Nat}{x:aD}(h:sc.names.lookup x=some .cell) : ∃ c,(cellsFrom n sc.names []).lookup x=some c:=by
 have q:=PySem.W.cellsFrom_some sc.names n [] (.inl h)
 exact wQ.mp q
theorem Cu {CX:CXT}{P:bB}{w:aW}{K:aG}{mg:aD->Option aE}{base:aP}{N ps:List aD}{qual:aD}{scope:gN}{f:aB}{cd:aE}{A:cA}{outer:List dW}{s s1:aH}{H:Hp}{E:XK}{us:List aE}{vs:List V}
  (S:FnScope N ps scope) (hd:A.handled=none) (e0:Env0 P w K mg base A outer s H) (hl:vs.length=ps.length) (r:Vals vs us)
  (x:InCallC s s.heap.objs.size (bindL (gW qual scope s.heap.objs.size f cd).kindOf (ps.zip us) fun _=>none) (cellsFrom (s.heap.objs.size+1) scope.names []) (bindC (gW qual scope s.heap.objs.size f cd).kindOf (ps.zip us) fun _=>none) s1) :
  Inv (iI CX P w K mg base N qual scope f cd A outer s H E) [] (start N vs) H s1:=by
 have hpl:ps.length≤N.length:=by have:=congrArg wY S.pre; rw[qQ] at this; omega
 obtain⟨h1,tk,rfl,hk⟩:=x.done
 have noA : ∀ b:aB,b∉(iI CX P w K mg base N qual scope f cd A outer s H E).ex:=fun b z=>absurd (show b∈([]:List aB) from z) (by simp)
 refine⟨⟨e0.mod,S.kind,rfl,rfl,bR _,fun y z c h1 h2=>?_,fun y hy=>?_,fun y c _ h=>?_,fun _=>hd,Around.frames_deeper e0.frames,.inr ⟨rfl,rfl⟩,fun b z=>absurd z (noA b),e0.bs,e0.bsz,fun b _ _=>noA b,fun b z=>absurd z (noA b),e0.funs,e0.frf⟩,
  rfl,e0.bare,Un.kept hk,⟨_,x.toInCall.ns,fun i y v h1 h2 h3=>?_⟩,fun y c h=>⟨_,x.cell y c h⟩,e0.hok.fresh (bR _),fun y c h=>?_,fun p hp=>absurd (show p∈([]:List (aB×aY)) from hp) (by simp),e0.hok.kept hk,?_⟩
 ·exact name_of_addr x.apart (AR h1) (AR h2)
 ·have hy:scope.names.lookup y=some .cell \/ scope.names.lookup y=some .free:=hy
  rcases hy with hy | hy
  ·exact NA hy
  ·exact absurd rfl (S.nofree _ (AR hy))
 ·exact wU (x.above y c (AR h))
 ·have hi:i<vs.length:=by
   unfold start at h2
   by_cases hi:i<vs.length
   ·exact hi
   ·rw[US (by simpa using hi)] at h2
    rw[List.getElem?_replicate] at h2
    split at h2 <;> cases h2
  have ha:vs[i]?=some v:=by
   unfold start at h2
   rw[AY (by simpa using hi),eY] at h2
   cases e:vs[i]? with
   | none=>rw[e] at h2; cases h2
   | some a=>rw[e] at h2; cases h2; rfl
  obtain⟨u,hu,rv⟩:=r.get ha
  have hp:ps[i]?=some y:=by
   rw[← S.pre,List.getElem?_take_of_lt (by omega)]; exact h1
  have ndP:ps.Nodup:=by rw[← S.pre]; exact S.nd.sublist (List.take_sublist _ _)
  refine⟨u,rv,?_⟩
  rcases S.par y (nL hp) with k | k
  ·exact .inl ⟨k,NO ndP hp hu k⟩
  ·obtain⟨c,e⟩:=NA (n:=s.heap.objs.size+1) k
   refine .inr ⟨.inl k,c,e,?_⟩
   have q:=x.cell y c e
   rw[OI ndP hp hu (by show scope.names.lookup y≠_; rw[k]; decide)] at q
   exact q
 ·exact e0.hok.fresh (wU (x.above y c (AR h)))
 ·unfold start
  show _=N.length
  rw[wX,cL,List.length_replicate]
  omega
theorem JP {CX:CXT}{P:bB}{w:aW}{K:aG}{mg:aD->Option aE}{base:aP}{k:Nat}{f:aB}{name qual:aD}{params:Arguments}{body:List bK}{scope:gN}{dV kV doc pm cdv ct oc:aE}{an od:Option aB}
  {osl:Array (Option aE)} {N ps:List aD} {sp:Sp} (lk:K.lookup f=some ⟨oc,od,.func (jA name qual params body scope dV kV doc pm an cdv ct),osl⟩) (hcd:tK K cdv qual=true) (S:FnScope N ps scope)
  (len : ∀ vs H Q E,sp vs H Q E->vs.length=ps.length)
  (hbody : ∀ (A:cA) (outer:List dW) (s:aH) (H:Hp) (vs:List V) (Q:VK) (E:XK),Room k (A.deeper (gW qual scope s.heap.objs.size f cdv))->sp vs H Q E ->
   ∃ t,PSs (iI CX P w K mg base N qual scope f cdv A outer s H E) body t/\t { nx:=fun _ H'=>Q .non H',rt:=Q } (start N vs) H) :
  FnOk P w K mg base CX (k+1) f (jA name qual params body scope dV kV doc pm an cdv ct) ps sp:=by
 refine⟨len,fun A outer s H args us vs Q E hr e0 hb r hsp=>?_⟩
 have hl:=len _ _ _ _ hsp
 have KX:K.In s.heap:=e0.mod.kin.keeps fun b o e=>(e0.bs b o e).1
 have lim:s.heap.NoLimit:=e0.mod.nolimit.keeps fun b o e=>(e0.bs b o e).1
 have hkind : ∀ y∈ps.zip us,scope.names.lookup y.1=some .local \/ (scope.names.lookup y.1=some .cell/\((cellsFrom (s.heap.objs.size+1) scope.names []).lookup y.1).isSome=true):=fun⟨n,v⟩ hy=>by
  rcases S.par n (UO hy).1 with q | q
  ·exact .inl q
  ·exact .inr ⟨q,PySem.W.cellsFrom_some _ _ _ (.inl q)⟩
 refine codeAny_call_function hr.depth (KX _ _ lk) rfl S.co S.gen rfl (PySem.W.codeRec_of KX hcd) (hb _ _ _ _ ?_)
 refine wpAny_newFunctionEnv_cells S.kind hkind fun env he s1 x=>?_
 subst he
 refine⟨lim.keeps x.toInCall.keep,codeAny_func ?_⟩
 obtain⟨t,ht,hq⟩:=hbody A outer s H vs Q E (hr.deeper _) hsp
 have I:Inv (iI CX P w K mg base N qual scope f cdv A outer s H E) [] (start N vs) H s1:=Cu S hr.hd e0 hl r x
 refine iX (ht [] s1 (start N vs) H _ I hq) (fun fl s' hs=>?_) fun e s' hs=>hs
 have fin : ∀ {σ':St} {H':Hp} {v:V} {u:aE},Inv (iI CX P w K mg base N qual scope f cdv A outer s H E) [] σ' H' s'->RelV v u->Q v H'->CE outer P w H s Q u s':=
  fun {σ' H' v u} J rv q=>⟨v,H',J.os,J.bare,J.base,J.hok,rv,q⟩
 cases fl with
 | ret u=>
  obtain⟨v,σ',H',J,rv,q⟩:=hs
  exact fin J rv q
 | next=>
  obtain⟨σ',H',J,q⟩:=hs
  exact fin (v:=V.non) (u:=fU) J rfl q
 | brk=>
  obtain⟨_,_,_,q⟩:=hs
  exact iQ q
 | cont=>
  obtain⟨_,_,_,q⟩:=hs
  exact iQ q
section
variable {X:Cx}{x:aD}{p pos:bL}{e:aR}{es:List aR}{t:TA}{id T:String}{r:List V->Hp->VK->Prop}
noncomputable def tCB (r:List V->Hp->VK->Prop)(t:TA):TE:=fun σ H Q=>t σ H fun vs H1=>r vs H1 Q
theorem EN (hc:Ado X (.builtin id) r)(hg:Gl X x)(hm:X.mg x=none)(hv:jN x=some (.builtin id))(ha:PA X (e::es) t)(hn:x ≠ "__name__":=by decide)(hdb:(x == ("__debug__" : aD))=false:=by decide)
  (he:bI (e::es) X.env=(false,bJ e X.env)::bI es X.env:=by rfl) (hpl:(fD pos (bI es X.env)).any (·.1)=false:=by rfl):PE X (.Call (.Name x p) (e::es) [] pos) (tCB r t):=by
 intro pins s σ H Q I h
 refine HJ (xY I hg hm hv ?_ hn hdb)
 exact PyProof.Rows.callWith_builtin1 (thn (ha pos pins s σ H _ I h) fun us s1 ⟨vs,H1,I1,r1,q1⟩=>hc pins s1 σ H1 vs us Q I1 r1 q1) he hpl
theorem PC (hc:Ado X (.type T) r)(hg:Gl X x)(hm:X.mg x=none)(hv:jN x=some (.type T))(ha:PA X (e::es) t)(hn:x ≠ "__name__":=by decide)(hdb:(x == ("__debug__" : aD))=false:=by decide)
  (he:bI (e::es) X.env=(false,bJ e X.env)::bI es X.env:=by rfl) (hpl:(fD pos (bI es X.env)).any (·.1)=false:=by rfl):PE X (.Call (.Name x p) (e::es) [] pos) (tCB r t):=by
 intro pins s σ H Q I h
 refine HJ (xY I hg hm hv ?_ hn hdb)
 exact Ou (thn (ha pos pins s σ H _ I h) fun us s1 ⟨vs,H1,I1,r1,q1⟩=>hc pins s1 σ H1 vs us Q I1 r1 q1) he hpl
end
section
variable {κ:Type}[DecidableEq κ]
noncomputable def cZ (kvs:List (κ×V))(k:κ):Option V:=(kvs.find? fun kv=>decide (kv.1=k)).map (·.2)
noncomputable def putK (kvs:List (κ×V))(k:κ)(v:V):List (κ×V):=
 if (kvs.any fun kv=>decide (kv.1=k))=true then kvs.map (fun kv=>if kv.1=k then(kv.1,v) else kv) else kvs++[(k,v)]
theorem rW {p:κ×V}{r:List (κ×V)}{k:κ}(e:p.1=k):cZ (p::r) k=some p.2:=by simp[cZ,fR,e]
theorem pT {p:κ×V}{r:List (κ×V)}{k:κ}(e : ¬ p.1=k):cZ (p::r) k=cZ r k:=by simp[cZ,fR,e]
theorem yR (k:κ) : ∀ kvs:List (κ×V),(kvs.any fun kv=>decide (kv.1=k))=(cZ kvs k).isSome
 | []=>rfl
 | p::r=>by
  rw[BA]
  by_cases e:p.1=k
  ·simp only[rW e,decide_eq_true e,BE,Option.isSome_some]
  ·rw[pT e,decide_eq_false e,Bool.false_or]; exact yR k r
theorem GF (kvs:List (κ×V))(k:κ)(v:V):(putK kvs k v).length≤kvs.length+1:=by
 unfold putK
 split
 ·rw[cL]; omega
 ·rw[wX,eE,List.length_nil]; omega
theorem LZ {kvs:List (κ×V)}{k:κ}(v:V)(h:cZ kvs k=none):putK kvs k v=kvs++[(k,v)]:=by
 unfold putK
 rw[yR,h]
 exact if_neg (by decide)
theorem Aoh.isSome_eq {o:Option V}{u:Option aE}(r:Aoh o u):o.isSome=u.isSome:=by
 cases o with
 | none=>cases u with
  | none=>rfl
  | some _=>exact(show False from r).elim
 | some _=>cases u with
  | none=>exact(show False from r).elim
  | some _=>rfl
theorem Aoh.getD {o:Option V}{u:Option aE}{d:V}{d':aE}(r:Aoh o u)(rd:RelV d d'):RelV (o.getD d) (u.getD d'):=by
 cases o with
 | none=>cases u with
  | none=>exact rd
  | some _=>exact(show False from r).elim
 | some _=>cases u with
  | none=>exact(show False from r).elim
  | some _=>exact r
theorem KV.val {kvs:List (κ×V)}{vs:List (κ×aE)}(r:KV kvs vs)(k:κ):Aoh (cZ kvs k) (sV vs k):=by
 unfold KV at r
 induction r with
 | nil=>exact kE
 | @cons p q ps qs h t ih=>
  obtain⟨h1,h2⟩:=h
  by_cases e:p.1=k
  ·have e':q.1=k:=h1.symm.trans e
   have b:sV (q::qs) k=some q.2:=by simp[sV,fR,e']
   rw[rW e,b]; exact h2
  ·have e' : ¬ q.1=k:=fun z=>e (h1.trans z)
   have b:sV (q::qs) k=sV qs k:=by simp[sV,fR,e']
   rw[pT e,b]; exact ih
theorem KV.any {kvs:List (κ×V)}{vs:List (κ×aE)}(r:KV kvs vs)(k:κ):(kvs.any fun kv=>decide (kv.1=k))=vs.any fun kv=>decide (kv.1=k):=by
 unfold KV at r
 induction r with
 | nil=>rfl
 | cons h t ih=>rw[BA,BA,ih,h.1]
theorem KV.repl {kvs:List (κ×V)}{vs:List (κ×aE)}(r:KV kvs vs)(k:κ){y:V}{u:aE}(ry:RelV y u) :
  KV (kvs.map fun kv=>if kv.1=k then(kv.1,y) else kv) (vs.map fun kv=>if kv.1=k then(kv.1,u) else kv):=by
 unfold KV at r ⊢
 induction r with
 | nil=>exact .nil
 | @cons p q ps qs h t ih=>
  rw[cY,cY]
  refine .cons ?_ ih
  obtain⟨h1,h2⟩:=h
  by_cases e:p.1=k
  ·rw[if_pos e,if_pos (h1.symm.trans e)]; exact⟨h1,ry⟩
  ·rw[if_neg e,if_neg (fun z=>e (h1.trans z))]; exact⟨h1,h2⟩
theorem KV.put {kvs:List (κ×V)}{vs:List (κ×aE)}(r:KV kvs vs)(k:κ){y:V}{u:aE}(ry:RelV y u):KV (putK kvs k y) (qG vs k u):=by
 unfold putK qG
 rw[r.any k]
 by_cases e:(vs.any fun kv=>decide (kv.1=k))=true
 ·rw[if_pos e,if_pos e]; exact r.repl k ry
 ·rw[if_neg e,if_neg e]; exact Paired.snoc r ⟨rfl,ry⟩
theorem KV.length {kvs:List (κ×V)}{vs:List (κ×aE)}(r:KV kvs vs):kvs.length=vs.length:=nK r
end
theorem rB {P:bB}{w:aW}{k:aL}{u:aE}(r:RelV (kV k) u):(dR P w).is k u=true:=by
 cases k with
 | inl i=>obtain⟨t,e⟩:=(show ∃ t,u=AQ i t from r); subst e; exact vQ P w i t
 | inr x=>obtain⟨t,e⟩:=(show ∃ t,u=AO x t from r); subst e; exact vT P w x t
abbrev KT (H:Hp):List (List aA×V)->List (List aA×aB×aE)->Prop:=dI fun p q=>p.1=q.1/\Air H p.1 q.2.1/\RelV p.2 q.2.2
theorem KT.val {H:Hp}{kvs:List (List aA×V)}{xs:List (List aA×aB×aE)}(r:KT H kvs xs)(k:List aA):Aoh (cZ kvs k) ((mB xs k).map (·.2)):=by
 induction r with
 | nil=>exact kE
 | @cons p q ps qs h t ih=>
  obtain⟨h1,_,h2⟩:=h
  by_cases e:p.1=k
  ·have e':q.1=k:=h1.symm.trans e
   have b:mB (q::qs) k=some q.2:=by simp[mB,fR,e']
   rw[rW e,b]; exact h2
  ·have e' : ¬ q.1=k:=fun z=>e (h1.trans z)
   have b:mB (q::qs) k=mB qs k:=by simp[mB,fR,e']
   rw[pT e,b]; exact ih
theorem KT.repl {H:Hp}{kvs:List (List aA×V)}{xs:List (List aA×aB×aE)}(r:KT H kvs xs)(k:List aA){y:V}{u:aE}(ry:RelV y u) :
  KT H (kvs.map fun kv=>if kv.1=k then(kv.1,y) else kv) (xs.map (putAt k u)):=by
 induction r with
 | nil=>exact .nil
 | @cons p q ps qs h t ih=>
  rw[cY,cY]
  refine .cons ?_ ih
  obtain⟨h1,h2,h3⟩:=h
  unfold putAt
  by_cases e:p.1=k
  ·rw[if_pos e,if_pos (h1.symm.trans e)]; exact⟨h1,h2,ry⟩
  ·rw[if_neg e,if_neg (fun z=>e (h1.trans z))]; exact⟨h1,h2,h3⟩
theorem KT.put {H:Hp}{kvs:List (List aA×V)}{xs:List (List aA×aB×aE)}(r:KT H kvs xs)(k:List aA){b:aB}{y:V}{u:aE}(hb:Air H k b)(ry:RelV y u) :
  KT H (putK kvs k y) (storedH xs k b u):=by
 have e:(kvs.any fun kv=>decide (kv.1=k))=(mB xs k).isSome:=by
  rw[yR,(r.val k).isSome_eq,UL]
 unfold putK storedH
 rw[e]
 by_cases q:(mB xs k).isSome=true
 ·rw[if_pos q,if_pos q]; exact r.repl k ry
 ·rw[if_neg q,if_neg q]; exact Paired.snoc r ⟨rfl,hb,ry⟩
theorem KT.keeps {H H':Hp}{kvs:List (List aA×V)}{xs:List (List aA×aB×aE)}(r:KT H kvs xs)(ht : ∀ b ys,H b=some (.tup ys)->H' b=some (.tup ys)):KT H' kvs xs:=
 Paired.mapP r fun _ _ z=>⟨z.1,z.2.1.keep ht,z.2.2⟩
section
variable {P:bB}{w:aW}{H:Hp}{h:aP}{a:aB}
theorem JS {u:HO}(ok:HOk P w H h)(e:Rd H a u):Aci P w H h a u:=e.ok ok
theorem pJ {ep:Nat}{kvs:List (aL×V)}(ok:HOk P w H h)(e:Rd H a (.dK ep kvs)):kvs.length≤sizeLine/\(a == gV)=false /\ ∃ vs,KV kvs vs/\h.DictAt (dR P w) a vs ep:=
 show Aci P w H h a (.dK ep kvs) from JS ok e
theorem rE {ep:Nat}{kvs:List (aL×V)}(ok:HOk P w H h)(e:Rd H a (.dK ep kvs)):kvs.length≤sizeLine/\(a == gV)=false /\ ∃ vs,KV kvs vs/\h.DictOf (dR P w) a vs:=
 let ⟨z,y,vs,r,d⟩:=pJ ok e; ⟨z,y,vs,r,d.dictOf⟩
theorem GV {ep:Nat}{kvs:List (aL×V)}(ok:HOk P w H h)(e:H a=some (.dK ep kvs)):kvs.length≤sizeLine/\(a == gV)=false /\ ∃ vs,KV kvs vs/\h.DictOf (dR P w) a vs:=rE ok (.inl e)
theorem vZ {P:bB}{w:aW}{A:cA}(hu:A.units+40<cLine):(lX P w).room A.in1:=by
 show A.in1.units+20<cLine
 have:A.in1.units=A.units+1:=rfl
 omega
mutual
theorem NN (ok:HOk P w H h) : ∀ (d:aA) {v:V} {u:aE},Aht H d v->RelV v u -> ∃ as,kF h u d as
 | .int i,v,u,k,r=>by
  have e:v = .int i:=by simpa [Aht] using k
  subst e
  obtain⟨t,rfl⟩:=r
  exact⟨_,.int i t⟩
 | .str x,v,u,k,r=>by
  have e:v = .str x:=by simpa [Aht] using k
  subst e
  obtain⟨t,rfl⟩:=r
  exact⟨_,.str x t⟩
 | .tuple ds,v,u,k,r=>by
  simp only[Aht] at k
  obtain⟨a,xs,rfl,e,ks⟩:=k
  cases r
  obtain⟨_,its,rv,⟨o,h1,h2,n,h3⟩,_⟩:=(show Aci P w H h a (.tup xs) from ok a _ e)
  obtain⟨as,ra⟩:=OZ ok ds ks rv
  exact⟨as,.tuple h1 h2 h3 (by simpa using ra)⟩
 | .none,v,u,k,r=>by simp[Aht] at k
 | .bool _,v,u,k,r=>by simp[Aht] at k
 | .list _,v,u,k,r=>by simp[Aht] at k
 | .dict _,v,u,k,r=>by simp[Aht] at k
theorem OZ (ok:HOk P w H h) : ∀ (ds:List aA) {vs:List V} {us:List aE},Aev H ds vs->Vals vs us -> ∃ as,lB h us ds as
 | [],vs,us,k,r=>by
  have e:vs=[]:=by simpa [Aev] using k
  subst e
  cases r
  exact⟨_,.nil⟩
 | d::ds,vs,us,k,r=>by
  simp only[Aev] at k
  obtain⟨x,rr,rfl,k1,k2⟩:=k
  cases r with
  | cons r1 r2=>
   obtain⟨as,ra⟩:=NN ok d k1 r1
   obtain⟨bs,rb⟩:=OZ ok ds k2 r2
   exact⟨_,.cons ra rb⟩
end
theorem mO {ks:List aA}(ok:HOk P w H h)(e:Air H ks a):(lX P w).is h ks a:=by
 obtain⟨k1,k2,xs,e,ks'⟩:=e
 refine⟨k1,k2,?_⟩
 exact NN ok (.tuple ks) (v:=.ref a) (u:=.ref a) (by simp only[Aht]; exact⟨a,xs,rfl,e,ks'⟩) rfl
theorem uE {kvs:List (List aA×V)}(ok:HOk P w H h)(e : ∃ ep,Rd H a (.dT ep kvs)):kvs.length≤sizeLine/\(a == gV)=false /\
  ∃ xs,KT H kvs xs/\h.DictOfH (lX P w) a xs:=by
 obtain⟨ep,e⟩:=e
 obtain⟨z,y,xs,r,o,es,h1,h2,h3,h4,h5⟩:=(show Aci P w H h a (.dT ep kvs) from JS ok e)
 refine⟨z,y,xs,r,o,es,ep,h1,h2,h3,h4,fun x hx=>?_,h5⟩
 have all : ∀ {l:List (List aA×V)} {m:List (List aA×aB×aE)},KT H l m -> ∀ x∈m,(lX P w).is h x.1 x.2.1:=by
  intro l m q
  induction q with
  | nil=>intro x hx; exact nomatch hx
  | @cons p q ps qs hq t ih=>
   intro x hx
   rcases cP.mp hx with e | hx
   ·subst e
    exact mO ok (by rw[← hq.1]; exact hq.2.1)
   ·exact ih x hx
 exact all r x hx
theorem GX {ep:Nat}{kvs:List (List aA×V)}(ok:HOk P w H h)(e:H a=some (.dT ep kvs)):kvs.length≤sizeLine/\(a == gV)=false /\
  ∃ xs,KT H kvs xs/\h.DictOfH (lX P w) a xs:=uE ok ⟨ep,.inl e⟩
end
def Au2 (H:Hp)(a:aB)(y:V)(r:Option V):Prop:=
 (∃ ep kvs k,Rd H a (.dK ep kvs)/\y=kV k/\r=cZ kvs k) \/ ∃ kvs k b,(∃ ep,Rd H a (.dT ep kvs))/\y = .ref b/\Air H k b/\r=cZ kvs k
def A2l (H:Hp)(a:aB)(y v:V)(H':Nat->Hp):Prop:=
 (∃ ep kvs k,H a=some (.dK ep kvs)/\y=kV k/\kvs.length<sizeLine/\H'=fun n=>upd H a (.dK n (putK kvs k v))) \/
 ∃ kvs k b,(∃ ep,H a=some (.dT ep kvs))/\y = .ref b/\Air H k b/\kvs.length<sizeLine/\H'=fun n=>upd H a (.dT n (putK kvs k v))
theorem Au2.k {H:Hp}{a:aB}{ep:Nat}{kvs:List (aL×V)}{k:aL}(e:H a=some (.dK ep kvs)):Au2 H a (kV k) (cZ kvs k):=.inl ⟨ep,kvs,k,.inl e,rfl,rfl⟩
theorem Au2.t {H:Hp}{a b:aB}{ep:Nat}{kvs:List (List aA×V)}{k:List aA}(e:H a=some (.dT ep kvs))(eb:Air H k b):Au2 H a (.ref b) (cZ kvs k):=.inr ⟨kvs,k,b,⟨ep,.inl e⟩,rfl,eb,rfl⟩
theorem A2l.k {H:Hp}{a:aB}{ep:Nat}{kvs:List (aL×V)}{k:aL}{v:V}(e:H a=some (.dK ep kvs))(hl:kvs.length<sizeLine):A2l H a (kV k) v (fun n=>upd H a (.dK n (putK kvs k v))):=.inl ⟨ep,kvs,k,e,rfl,hl,rfl⟩
theorem A2l.t {H:Hp}{a b:aB}{ep:Nat}{kvs:List (List aA×V)}{k:List aA}{v:V}(e:H a=some (.dT ep kvs))(eb:Air H k b)(hl:kvs.length<sizeLine) :
  A2l H a (.ref b) v (fun n=>upd H a (.dT n (putK kvs k v))):=.inr ⟨kvs,k,b,⟨ep,e⟩,rfl,eb,hl,rfl⟩
section
variable {X:Cx}{pins:List (aB×aY)}{σ:St}{H:Hp}{s:aH}{a:aB}{y v:V}{u r:aE}{o:Option V}{A:cA}{E:aE->aH->Prop}
theorem Inv.big (I:Inv X pins σ H s):gV<s.heap.objs.size:=by
 have h:cF<s.heap.objs.size:=(I.mod.glob.keeps I.bk).lt
 exact IB (by decide) h
theorem Cf {Q:aE->aH->Prop}(hu:A.units+40<cLine)(I:Inv X pins σ H s)(g:Au2 H a y (some v))(ry:RelV y u)(h : ∀ w' s',Inv X pins σ H s'->RelV v w'->Q w' s') :
  aQ (aT X.prog X.w) A (getItem (.ref a) u) Q E s:=by
 rcases g with⟨ep,kvs,k,e,ey,l⟩ | ⟨kvs,k,b,e,ey,eb,l⟩
 ·subst ey
  obtain⟨z,hd,vs,rel,dd⟩:=rE I.hok e
  obtain⟨w',hw,rw'⟩:=Aoh.some_of (v:=v) (o:=sV vs k) (by rw[l]; exact rel.val k)
  exact wpAny_getItem_of (rB ry) dd.mapOf hw (h w' _ (I.tok _) rw')
 ·subst ey
  cases(show u=dE b from ry)
  obtain⟨z,hd,xs,rel,dd⟩:=uE I.hok e
  obtain⟨w',hw,rw'⟩:=Aoh.some_of (v:=v) (o:=(mB xs k).map (·.2)) (by rw[l]; exact rel.val k)
  obtain⟨p,hp,hp2⟩:=lC.mp hw
  refine wpAny_getItem_heap (vZ hu) (mO I.hok eb) dd hp ?_
  rw[hp2]
  exact h w' _ (I.tok _) rw'
theorem WB {Q:aE->aH->Prop}(hu:A.units+40<cLine)(I:Inv X pins σ H s)(g:Au2 H a y o)(ry:RelV y u)(h : ∀ s',Inv X pins σ H s'->Q (.bool o.isSome) s') :
  aQ (aT X.prog X.w) A (dS .In u (.ref a)) Q E s:=by
 rcases g with⟨ep,kvs,k,e,ey,l⟩ | ⟨kvs,k,b,e,ey,eb,l⟩
 ·subst ey
  obtain⟨z,hd,vs,rel,dd⟩:=rE I.hok e
  refine wpAny_in_of (rB ry) hd dd.mapOf ?_
  rw[← (rel.val k).isSome_eq,← l]
  exact h _ (I.tok _)
 ·subst ey
  cases(show u=dE b from ry)
  obtain⟨z,hd,xs,rel,dd⟩:=uE I.hok e
  refine wpAny_in_heap (vZ hu) (mO I.hok eb) hd dd ?_
  have q:=(rel.val k).isSome_eq
  rw[UL] at q
  rw[← q,← l]
  exact h _ (I.tok _)
theorem Jg {Q:aE->aH->Prop}(hu:A.units+40<cLine)(I:Inv X pins σ H s)(g:Au2 H a y o)(ry:RelV y u)(h : ∀ s',Inv X pins σ H s'->Q (.bool (!o.isSome)) s') :
  aQ (aT X.prog X.w) A (dS .NotIn u (.ref a)) Q E s:=by
 rcases g with⟨ep,kvs,k,e,ey,l⟩ | ⟨kvs,k,b,e,ey,eb,l⟩
 ·subst ey
  obtain⟨z,hd,vs,rel,dd⟩:=rE I.hok e
  refine wpAny_notIn_of (rB ry) hd dd.mapOf ?_
  rw[← (rel.val k).isSome_eq,← l]
  exact h _ (I.tok _)
 ·subst ey
  cases(show u=dE b from ry)
  obtain⟨z,hd,xs,rel,dd⟩:=uE I.hok e
  refine wpAny_notIn_heap (vZ hu) (mO I.hok eb) hd dd ?_
  have q:=(rel.val k).isSome_eq
  rw[UL] at q
  rw[← q,← l]
  exact h _ (I.tok _)
theorem DP {h':aP}{t':Nat}{ob:HO}(I:Inv X pins σ H s)(mu:tU (H a))(hs:qU a s.heap h')(he : ∃ q,h'.get? a=some q)(new:Aci X.prog X.w (upd H a ob) h' a ob) :
  Inv X pins σ (upd H a ob) { s with heap:=h',toks:=t' }:=
 I.write (x:=a) (e:=a) mu (.inl rfl) (fun b q hb z=>(hs.2 b hb).trans z) he new
theorem TC {P:bB}{w:aW}{H':Hp}{h':aP}{kvs:List (aL×V)}{vs:List (aL×aE)}(z:kvs.length≤sizeLine)(hd:(a == gV)=false)(rel:KV kvs vs){ep:Nat}(dd:h'.DictAt (dR P w) a vs ep) :
  Aci P w H' h' a (.dK ep kvs):=⟨z,hd,vs,rel,dd⟩
theorem ZU {H':Nat->Hp}{Q:Unit->aH->Prop}(hu:A.units+40<cLine)(I:Inv X pins σ H s)(g:A2l H a y v H')(ry:RelV y u)(rv:RelV v r)(h : ∀ n s',Inv X pins σ (H' n) s'->Q () s') :
  aQ (aT X.prog X.w) A (setItem (.ref a) u r) Q E s:=by
 rcases g with⟨ep,kvs,k,e,ey,l,eH⟩ | ⟨kvs,k,b,e,ey,eb,l,eH⟩
 ·subst ey eH
  obtain⟨z,hd,vs,rel,dd⟩:=GV I.hok e
  have hz:vs.length≤sizeLine:=by rw[← rel.length]; exact z
  have hl:(putK kvs k v).length≤sizeLine:=by have:=GF kvs k v; omega
  refine wpAny_setItem_pairs (hsz:=hz) (rB ry) dd fun h' dd' hs=>?_
  have he : ∃ q,h'.get? a=some q:=let ⟨q,_,_,hq,_⟩:=dd'; ⟨q,hq⟩
  obtain⟨n,da⟩:=dd'.dictAt
  exact h n _ (DP I (by rw[e]; exact kE) hs he (TC hl hd (rel.put k rv) da))
 ·subst ey eH
  cases(show u=dE b from ry)
  obtain⟨ep0,e⟩:=e
  obtain⟨z,hd,xs,rel,dd⟩:=GX I.hok e
  have hz:xs.length≤sizeLine:=by rw[← nK rel]; exact z
  have hl:(putK kvs k v).length≤sizeLine:=by have:=GF kvs k v; omega
  refine wpAny_setItem_heap (hsz:=hz) (vZ hu) (mO I.hok eb) dd fun h' dd' hs=>?_
  obtain⟨q,es,ep,hq,h2,h3,h4,_,h5⟩:=dd'
  refine h ep _ ?_
  refine DP I (by rw[e]; exact kE) hs ⟨q,hq⟩ ⟨hl,hd,_,(rel.put k eb rv).keeps fun c ys ec=>?_,q,es,hq,h2,h3,h4,h5⟩
  rw[bO (RO ec e (fun z=>nomatch z))]
  exact ec
end
section
variable {X:Cx}{pins:List (aB×aY)}{σ:St}{H:Hp}{s:aH}{a:aB}{kvs:List (aL×V)}{k:aL}{u:aE}{A:cA}{E:aE->aH->Prop}
theorem WY {ep:Nat}{Q:aE->aH->Prop}(I:Inv X pins σ H s)(e:Rd H a (.dK ep kvs))(h : ∀ t s',Inv X pins σ H s'->Q (.int kvs.length t) s'):aQ (aT X.prog X.w) A (call (.builtin "len") [.ref a]) Q E s:=by
 obtain⟨z,hd,vs,rel,dd⟩:=rE I.hok e
 refine call_len_dict hd dd (by rw[← rel.length]; rw[qI] at z; omega) ?_
 rw[← rel.length]
 exact h _ _ (I.tok _)
end
def IW (i:aR):Prop:=∀ ov iv,HK i false ov iv=operate [ov,iv] (getItem ov iv)
theorem Kc {prog:bB}{w:aW}{A:cA}{E:aE->aH->Prop}{s:aH}{env:dW}{value slice:aR}{pos:bL}{T id:String}{Q:aE->aH->Prop}
  (hl:AK (.type T) "__getitem__" = pure (some (.builtin id))) (hs:IW slice)
  (h:aQ (aT prog w) A (bJ value env) (fun o s₁=>aQ (aT prog w) A (bJ slice env) (fun i s₂=>s₂.TypeIs o T/\aQ (aT prog w) A (getItem o i) Q E s₂) E s₁) E s) :
  aQ (aT prog w) A (bJ (.Subscript value slice pos) env) Q E s:=by
 refine Subscript_ (iX h (fun o s₁ h₁=>iX h₁ (fun i s₂ h₂=>?_) fun _ _ x=>x) fun _ _ x=>x)
 obtain⟨hT,h₂⟩:=h₂
 unfold subscriptTail
 refine aK ?_
 rw[getitemInPython_of_ne hT.not_modules]
 refine aK (AG hT hl ?_)
 have fin:aQ (aT prog w) A (HK slice false o i) (fun r s₃=>aQ (aT prog w) A (letTemporaryGo value o r >>= fun _=>pure r) Q E s₃) E s₂:=by
  rw[hs o i]
  exact wpAny_operating (iX h₂ (fun r s₃ h₃=>aK (wpAny_letTemporaryGo (bA h₃))) fun _ _ x=>x)
 first
  | exact bA (aK fin)
  | exact aK (bA (aK fin))
  | exact aK fin
theorem Ff {X:Cx}{pins:List (aB×aY)}{σ:St}{H:Hp}{s:aH}{a:aB}{y:V}{o:Option V}(I:Inv X pins σ H s)(g:Au2 H a y o):s.TypeIs (.ref a) "dict":=by
 rcases g with⟨ep,kvs,k,e,_,_⟩ | ⟨kvs,k,b,e,_,_,_⟩
 ·obtain⟨_,_,vs,_,dd⟩:=rE I.hok e
  exact dd.typeIs
 ·obtain⟨_,_,xs,_,dd⟩:=uE I.hok e
  exact dd.typeIs
noncomputable def WW (td ty:TE):TE:=fun σ H Q=>td σ H fun x H1=>ty σ H1 fun y H2=>∃ a v,x = .ref a/\Au2 H2 a y (some v)/\Q v H2
noncomputable def XF (td ty tv:TE):TS:=fun D σ H=>tv σ H fun v H1=>td σ H1 fun x H2=>ty σ H2 fun y H3=>∃ a H4,x = .ref a/\A2l H3 a y v H4 /\ ∀ n,D.nx σ (H4 n)
section
variable {X:Cx}{o i e value:aR}{pos pos' tpos:bL}{td ty tv:TE}
theorem yL (hu:X.A.units+40<cLine)(ho:PE X o td)(hi:PE X i ty)(hs:IW i):PE X (.Subscript o i pos) (WW td ty):=by
 intro pins s σ H Q I h
 refine Kc PySem.F.slot_dict_getitem.lookup hs (thn (ho pins s σ H _ I h) fun u s1 ⟨x,H1,I1,rx,q1⟩=>thn (hi pins s1 σ H1 _ I1 q1) fun iv s2 gh=>?_)
 obtain⟨y,H2,I2,ry,a,v,ex,g,q2⟩:=gh
 subst ex
 obtain rfl:u=dE a:=rx
 exact⟨Ff I2 g,Cf hu I2 g ry fun w' s3 I3 rw'=>⟨v,H2,I3,rw',q2⟩⟩
theorem DB (hu:X.A.units+40<cLine)(ho:PE X o td)(hi:PE X i ty)(hv:PE X value tv)(hs:lY value (some (.Subscript o i pos')) pos.line X.env=pure false) :
  PS X (.Assign [.Subscript o i pos'] value pos) (XF td ty tv):=by
 intro pins s σ H D I h
 refine wpAny_Assign_Subscript (thn (hv pins s σ H _ I h) fun r s1 ⟨v,H1,I1,rv,q1⟩=>thn (ho pins s1 σ H1 _ I1 q1) fun u s2 ⟨x,H2,I2,rx,q2⟩=>thn (hi pins s2 σ H2 _ I2 q2) fun iv s3 ⟨y,H3,I3,ry,a,H4,ex,g,q3⟩=>?_) hs
 subst ex
 obtain rfl:u=dE a:=rx
 exact ZU hu I3 g ry rv fun n s4 I4=>⟨σ,H4 n,I4,q3 n⟩
end
theorem Mp {P:bB}{w:aW}{H:Hp}(h:aP)(hb:gV<h.objs.size):Aci P w H (h.push { cls:=.type "dict",data:=.dict #[] }) h.objs.size (.dK 0 []):=
 ⟨eX _,beq_eq_false_iff_ne.mpr (kJ (dG hb)),[],.nil,_,#[],eZ _ rfl,⟨rfl,rfl,rfl⟩,rfl,fun _ he=>by simp at he,Pairs.nil,UP⟩
theorem Nm {P:bB}{w:aW}{H:Hp}(h:aP)(hb:gV<h.objs.size):Aci P w H (h.push { cls:=.type "dict",data:=.dict #[] }) h.objs.size (.dT 0 []):=
 ⟨eX _,beq_eq_false_iff_ne.mpr (kJ (dG hb)),[],.nil,_,#[],eZ _ rfl,⟨rfl,rfl,rfl⟩,rfl,rfl,UP⟩
noncomputable def Hj:TE:=fun _ H Q=>∀ p,H p=none->Q (.ref p) (upd H p (.dK 0 []))
noncomputable def ZH:TE:=fun _ H Q=>∀ p,H p=none->Q (.ref p) (upd H p (.dT 0 []))
section
variable {X:Cx}{pos:bL}
theorem MO:PE X (.Dict [] [] pos) Hj:=fun pins s σ H Q I h=>
 wpAny_Dict_empty ⟨.ref s.heap.objs.size,_,I.laid (a:=s.heap.objs.size) (o:=.dK 0 []) (t':=s.toks) (fun _ _ q=>cN _ q) (bR _) (Mp s.heap I.big),rfl,h _ (I.hok.fresh (bR _))⟩
theorem Nu:PE X (.Dict [] [] pos) ZH:=fun pins s σ H Q I h=>
 wpAny_Dict_empty ⟨.ref s.heap.objs.size,_,I.laid (a:=s.heap.objs.size) (o:=.dT 0 []) (t':=s.toks) (fun _ _ q=>cN _ q) (bR _) (Nm s.heap I.big),rfl,h _ (I.hok.fresh (bR _))⟩
end
noncomputable def nZ (kvs more:List (aL×V)):List (aL×V):=more.foldl (fun acc kv=>putK acc kv.1 kv.2) kvs
theorem KV.merge : ∀ {more:List (aL×V)} {rs:List (aL×aE)} {kvs:List (aL×V)} {vs:List (aL×aE)},KV more rs->KV kvs vs->KV (nZ kvs more) (lZ vs rs):=by
 intro more rs kvs vs r
 unfold KV at r
 induction r generalizing kvs vs with
 | nil=>intro q; exact q
 | @cons p q ps qs h t ih=>
  intro r0
  have e:KV (putK kvs p.1 p.2) (qG vs q.1 q.2):=by
   have:=r0.put p.1 h.2
   rw[← h.1]; exact this
  exact ih e
theorem RC : ∀ (more kvs:List (aL×V)),(nZ kvs more).length≤kvs.length+more.length
 | [],kvs=>by show kvs.length≤kvs.length+0; omega
 | p::r,kvs=>by
  have h1:=RC r (putK kvs p.1 p.2)
  have h2:=GF kvs p.1 p.2
  show(nZ (putK kvs p.1 p.2) r).length≤_
  rw[eE]; omega
end L2
namespace HT
open PySem PyProof.Rows
section
variable {prog:bB}{w:aW}{A:cA}{E:aE->aH->Prop}{s:aH}
theorem A3v {t b:aB}{vs ws:List aE}{Q:aE->aH->Prop}(ht:IsTup s.heap t vs.toArray)(hb:IsTup s.heap b ws.toArray)(hv:vs≠[])
  (h1:ws=[]->Q (.ref t) s) (h2:ws≠[]->Q (.ref s.heap.objs.size) { s with heap:=s.heap.push { cls:=.type "tuple",data:=.seq (vs++ws).toArray } })
  (hsz:vs.length+ws.length≤sizeLine):aQ (aT prog w) A (iZ .Add (.ref t) (.ref b)) Q E s:=by
 obtain⟨⟨cls,dd,data,sl⟩,ho,hc,n,hd⟩:=id ht
 obtain⟨⟨cls2,dd2,data2,sl2⟩,ho2,hc2,n2,hd2⟩:=id hb
 simp only at hc hd hc2 hd2
 subst hc hd hc2 hd2
 have e:vs.toArray++ws.toArray=(vs++ws).toArray:=by simp
 by_cases hw:ws=[]
 ·exact concat_meets ⟨_,ho,rfl⟩ ⟨_,ho2,rfl⟩ noFill_tuple_add seq_tuple_add PySem.F.slot_tuple_add Os (Ot _ _)
   (tuple_addW1 t b vs.toArray ws.toArray n n2 dd dd2 sl sl2 (by simpa using hv) (by simp[hw])) ⟨ho,ho2,h1 hw⟩
 ·refine concat_meets ⟨_,ho,rfl⟩ ⟨_,ho2,rfl⟩ noFill_tuple_add seq_tuple_add PySem.F.slot_tuple_add Os (Ot _ _)
   (tuple_addW2 t b vs.toArray ws.toArray n n2 dd dd2 sl sl2 (by simpa using hv) (by simpa using hw) (by rw[dJ,dJ]; exact hsz)) ⟨ho,ho2,?_⟩
  rw[e]
  exact h2 hw
noncomputable def sIx (n d:Nat):Option Int->Nat
 | none=>d
 | some v=>if v<0 then(v+(n:Int)).toNat else min v.toNat n
theorem A1s (n d:Nat):sIx n d none=d:=rfl
theorem A5g (n d k:Nat):sIx n d (some (k:Int))=min k n:=by
 show(if (k:Int)<0 then((k:Int)+(n:Int)).toNat else min (k:Int).toNat n)=min k n
 rw[if_neg (by omega),UY]
end
end HT
namespace L2
open PySem PySem.Spec PyProof.Rows
abbrev TO:=St->Hp->(Option Int->Hp->Prop)->Prop
def PO (X:Cx)(e:Option aR)(t:TO):Prop:=
 ∀ (pins:List (aB×aY)) (s:aH) (σ:St) (H:Hp) (Q:Option Int->Hp->Prop),Inv X pins σ H s->t σ H Q ->
  aQ (aT X.prog X.w) X.A (evalPart e X.env) (fun u s'=>∃ o H',Inv X pins σ H' s'/\IsPart u o/\Q o H') X.xe s
noncomputable def Js:TO:=fun _ H Q=>Q none H
noncomputable def YI (t:TE):TO:=fun σ H Q=>t σ H fun x H1=>∃ i,x = .int i/\Q (some i) H1
section
variable {X:Cx}{e:aR}{te:TE}{lo hi:Option aR}{tl th:TO}{pos p2:bL}
theorem Jr:PO X none Js:=by
 intro pins s σ H Q I h
 rw[evalPart_none]
 exact bA ⟨none,H,I,.none,h⟩
theorem Ka (h:PE X e te):PO X (some e) (YI te):=by
 intro pins s σ H Q I hw
 rw[evalPart_some]
 refine thn (h pins s σ H _ I hw) fun u s1 gh=>?_
 obtain⟨x,H1,I1,r1,q1⟩:=gh
 obtain⟨i,rfl,q⟩:=q1
 obtain⟨t,rfl⟩:=r1
 exact⟨some i,H1,I1,.int i t,q⟩
def SlR (X:Cx)(r:V->Option Int->Option Int->Hp->VK->Prop):Prop:=
 ∀ (pins:List (aB×aY)) (s:aH) (σ:St) (H:Hp) (x:V) (v vl vu:aE) (lo hi:Option Int) (sl:aB) (Q:VK),Inv X pins σ H s->RelV x v->s.heap.IsSliceOf sl vl vu .none->IsPart vl lo->IsPart vu hi->r x lo hi H Q ->
  ∃ T id,AK (.type T) "__getitem__" = pure (some (.builtin id))/\s.TypeIs v T/\aQ (aT X.prog X.w) X.A (getItem v (.ref sl)) (EP X pins σ Q) X.xe s
noncomputable def tSl (r:V->Option Int->Option Int->Hp->VK->Prop)(te:TE)(tl th:TO):TE:=fun σ H Q=>te σ H fun x H1=>tl σ H1 fun l H2=>th σ H2 fun u H3=>r x l u H3 Q
theorem ZN {r:V->Option Int->Option Int->Hp->VK->Prop}(hr:SlR X r)(he:PE X e te)(hl:PO X lo tl)(hu:PO X hi th):PE X (.Subscript e (.Slice lo hi none p2) pos) (tSl r te tl th):=by
 intro pins s σ H Q I h
 refine Subscript_ (thn (he pins s σ H _ I h) fun v s1 gh=>?_)
 obtain⟨x,H1,I1,r1,q1⟩:=gh
 refine wpAny_Slice (thn (hl pins s1 σ H1 _ I1 q1) fun vl s2 ⟨l,H2,I2,pl,q2⟩=>thn (hu pins s2 σ H2 _ I2 q2) fun vu s3 gh=>?_)
 obtain⟨u,H3,I3,pu,q3⟩:=gh
 rw[evalPart_none]
 refine bA ?_
 have I4:Inv X pins σ H3 { s3 with heap:=s3.heap.push { cls:=.type "slice",data:=.fields #[vl,vu,.none] } }:=I3.kept (t':=s3.toks) fun b ob q=>cN _ q
 obtain⟨T,id,hT,ht,hg⟩:=hr pins { s3 with heap:=s3.heap.push { cls:=.type "slice",data:=.fields #[vl,vu,.none] } } σ H3 x v vl vu l u s3.heap.objs.size Q I4 r1 (Heap.IsSliceOf.new ..) pl pu q3
 show aQ (aT X.prog X.w) X.A (subscriptTail e (.Slice lo hi none p2) v (.ref s3.heap.objs.size)) (EP X pins σ Q) X.xe { s3 with heap:=s3.heap.push { cls:=.type "slice",data:=.fields #[vl,vu,.none] } }
 exact tail_any (ops:=[.ref s3.heap.objs.size,v]) ht hT hg (by with_unfolding_all rfl)
noncomputable def tX (xs:List V)(lo hi:Option Int):List V:=(xs.drop (HT.sIx xs.length 0 lo)).take (HT.sIx xs.length xs.length hi - HT.sIx xs.length 0 lo)
theorem Et (xs:List V)(lo hi:Option Int):(tX xs lo hi).length≤xs.length:=by
 unfold tX
 rw[qQ,List.length_drop]
 omega
noncomputable def RM (K:aG):R2:=fun x y H Q=>∃ a b xs ys,x = .ref a/\y = .ref b/\SqT K H a xs/\SqT K H b ys/\xs≠[]/\xs.length+ys.length≤sizeLine /\
 (ys=[]->Q (.ref a) H)/\(ys≠[] -> ∀ p,H p=none->Q (.ref p) (upd H p (.tup (xs++ys))))
theorem Vals.nil_iff {xs:List V}{us:List aE}(r:Vals xs us):us=[]↔xs=[]:=by
 cases r with
 | nil=>simp
 | cons _ _=>simp
theorem Kj:OpR X (iZ .Add) (RM X.K):=by
 intro pins s σ H x y v u Q I rx ry h
 obtain⟨a,b,xs,ys,rfl,rfl,ha,hb,hx,hz,q1,q2⟩:=h
 cases rx
 cases ry
 obtain⟨its,r1,p1,_⟩:=I.tuple ha
 obtain⟨its2,r2,p2,_⟩:=I.tuple hb
 refine HT.A3v p1 p2 (fun z=>hx (r1.nil_iff.mp z)) (fun z=>⟨.ref a,H,I,rfl,q1 (r2.nil_iff.mp z)⟩) (fun z=>?_) (by rw[← r1.length,← r2.length]; exact hz)
 refine⟨.ref s.heap.objs.size,_,I.laid (t':=s.toks) (o:=.tup (xs++ys)) (fun b ob q=>cN _ q) (bR _) ?_,rfl,q2 (fun w=>z (r2.nil_iff.mpr w)) _ (I.hok.fresh (bR _))⟩
 exact⟨by rw[wX]; exact hz,_,r1.append r2,A7o.new _ _⟩
end
noncomputable def ixN (n:Nat)(i:Int):Option Nat:=if 0≤i then(if i<n then some i.toNat else none) else if -(n:Int)≤i then some (i+n).toNat else none
noncomputable def atI {α:Type}(xs:List α)(i:Int):Option α:=(ixN xs.length i).bind fun j=>xs[j]?
theorem DV {n:Nat}{i:Int}{j:Nat}(h:ixN n i=some j):seqIndex? i n=some j/\j<n /\ -(n:Int)≤i/\i<n:=by
 unfold ixN at h
 by_cases h0:0≤i
 ·rw[if_pos h0] at h
  by_cases h1:i<n
  ·rw[if_pos h1] at h
   have e:i.toNat=j:=dZ h
   exact⟨by rw[seqIndex_of h0 h1,e],by omega,by omega,h1⟩
  ·rw[if_neg h1] at h; cases h
 ·rw[if_neg h0] at h
  by_cases h1 : -(n:Int)≤i
  ·rw[if_pos h1] at h
   have e:(i+n).toNat=j:=dZ h
   exact⟨by rw[seqIndex_neg (by omega) h1,e],by omega,h1,by omega⟩
  ·rw[if_neg h1] at h; cases h
theorem DD {α:Type}{xs:List α}{i:Int}{v:α}(h:atI xs i=some v) : ∃ j,seqIndex? i xs.length=some j/\xs[j]?=some v/\j<xs.length /\ -(xs.length:Int)≤i/\i<xs.length:=by
 unfold atI at h
 cases e:ixN xs.length i with
 | none=>rw[e] at h; cases h
 | some j=>
  rw[e] at h
  obtain⟨h1,h2,h3,h4⟩:=DV e
  exact⟨j,h1,h,h2,h3,h4⟩
theorem pS {α:Type}{xs:List α}{j:Nat}{v:α}(h:xs[j]?=some v):atI xs (j:Int)=some v:=by
 have hj:j<xs.length:=(dU.mp h).1
 have e:ixN xs.length (j:Int)=some j:=by
  unfold ixN
  rw[if_pos (by omega),if_pos (by omega)]; simp
 unfold atI; rw[e]; exact h
def LJ (b:aR):Prop:=∀ o i,HK b false o i=operate [o,i] (getItem o i)
def IxR (X:Cx)(r:R2):Prop:=
 ∀ (value slice:aR) (pins:List (aB×aY)) (s:aH) (σ:St) (H:Hp) (x y:V) (v u:aE) (Q:VK),Inv X pins σ H s->RelV x v->RelV y u->r x y H Q ->
  HK slice false v u=operate [v,u] (getItem v u)->aQ (aT X.prog X.w) X.A (subscriptTail value slice v u) (EP X pins σ Q) X.xe s
def MtR (X:Cx)(id:String)(r:V->List V->Hp->VK->Prop):Prop:=
 ∀ (pins:List (aB×aY)) (s:aH) (σ:St) (H:Hp) (x:V) (xs:List V) (v:aE) (us:List aE) (Q:VK),Inv X pins σ H s->RelV x v->Vals xs us->r x xs H Q ->
  aQ (aT X.prog X.w) X.A (call (.builtin id) (v::us)) (EP X pins σ Q) X.xe s
section
variable {X:Cx}{a b:aR}{ta tb:TE}{pos:bL}
theorem IxR.or {r r':R2}(h:IxR X r)(h':IxR X r'):IxR X (fun x y H Q=>r x y H Q \/ r' x y H Q):=by
 intro value slice pins s σ H x y v u Q I rx ry q hs
 rcases q with q | q
 ·exact h value slice pins s σ H x y v u Q I rx ry q hs
 ·exact h' value slice pins s σ H x y v u Q I rx ry q hs
theorem XI {r:R2}(hr:IxR X r)(ha:PE X a ta)(hb:PE X b tb)(hs:LJ b):PE X (.Subscript a b pos) (tOp r ta tb):=by
 intro pins s σ H Q I h
 exact Subscript_ (BL ha hb I h fun v u s2 x y H2 I2 rx ry q=>hr a b pins s2 σ H2 x y v u Q I2 rx ry q (hs _ _))
noncomputable def IU (K:aG):R2:=fun x y H Q=>∃ p xs i v,x = .ref p/\y = .int i/\SqL K H p xs/\atI xs i=some v/\Q v H
noncomputable def JC (K:aG):R2:=fun x y H Q=>∃ p xs i v,x = .ref p/\y = .int i/\SqT K H p xs/\atI xs i=some v/\Q v H
noncomputable def IS:R2:=fun x y H Q=>∃ z i c,x = .str z/\y = .int i/\z.length≤sizeLine/\atI z.cps.toList i=some c/\Q (.str ⟨#[c]⟩) H
theorem A5x:IxR X (IU X.K):=by
 intro value slice pins s σ H x y v u Q I rx ry h hs
 obtain⟨p,xs,i,z,rfl,rfl,hq,he,q⟩:=h
 cases rx
 obtain⟨t,rfl⟩:=ry
 obtain⟨its,r,pl,hz⟩:=I.list hq
 obtain⟨j,h1,h2,h3,h4,h5⟩:=DD he
 obtain⟨w,ew,rw'⟩:=r.get h2
 have hl:=r.length
 have hn:=pM
 have fin:EP X pins σ Q w s:=⟨z,H,I,rw',q⟩
 by_cases h0:0≤i
 ·have hj:i.toNat=j:=by
   rw[seqIndex_of h0 h5] at h1
   exact dZ h1
  exact item_listR pl.isList h0 (by omega) (by rw[hj]; simpa using ew) fin hs
 ·have hj:(i+(its.toArray.size:Int)).toNat=j:=by
   rw[seqIndex_neg (by omega) h4] at h1
   rw[dJ,← hl]
   exact dZ h1
  exact subscriptTail_builtinR (x:=w) pl.isList.typeIs slot_list_getitem.lookup
   (wpAny_getItem_list_neg (Q:=fun r s'=>r=w/\EP X pins σ Q r s') pl.isList (by omega) (by rw[dJ] <;> omega) (by omega) (by rw[hj]; simpa using ew) ⟨rfl,fin⟩) hs
theorem Bbh:IxR X (JC X.K):=by
 intro value slice pins s σ H x y v u Q I rx ry h hs
 obtain⟨p,xs,i,z,rfl,rfl,hq,he,q⟩:=h
 cases rx
 obtain⟨t,rfl⟩:=ry
 obtain⟨its,r,pl,hz⟩:=I.tuple hq
 obtain⟨j,h1,h2,h3,h4,h5⟩:=DD he
 obtain⟨w,ew,rw'⟩:=r.get h2
 have hl:=r.length
 have hn:=pM
 have fin:EP X pins σ Q w s:=⟨z,H,I,rw',q⟩
 exact subscriptTail_builtinR (x:=w) pl.typeIs slot_tuple_getitem.lookup
  (getItem_tuple (j:=j) (Q:=fun r s'=>r=w/\EP X pins σ Q r s') pl (by omega) (by omega) (by rw[dJ,← hl]; exact h1) (by simpa using ew) ⟨rfl,fin⟩) hs
theorem YE:IxR X IS:=by
 intro value slice pins s σ H x y v u Q I rx ry h hs
 obtain⟨z,i,c,rfl,rfl,hz,he,q⟩:=h
 obtain⟨t,rfl⟩:=rx
 obtain⟨t',rfl⟩:=ry
 obtain⟨j,h1,h2,h3,h4,h5⟩:=DD he
 have hl:z.cps.toList.length=z.length:=by simp[Str.length]
 rw[hl] at h1 h4 h5
 have hn:=pM
 exact tail_any (typeIs_str s z t) slot_str_getitem.lookup (getItem_str (c:=c) (by
  have e1:decide (i < -(2 ^ 63:Int))=false:=decide_eq_false (by omega)
  have e2:decide (i ≥ 2 ^ 63)=false:=decide_eq_false (by omega)
  rw[e1,e2,Bool.or_false]) (by rw[h1]; simpa using h2) ⟨.str ⟨#[c]⟩,H,I.tok _,⟨_,rfl⟩,q⟩) hs
noncomputable def rIx (K:aG):R2:=fun x y H Q=>IU K x y H Q \/ JC K x y H Q \/ IS x y H Q
theorem ZA:IxR X (rIx X.K):=A5x.or (Bbh.or YE)
theorem Dw (its:List aE)(n j:Nat)(u:aE):jB (·.setIfInBounds j u) { cls:=.type "list",data:=.seq its.toArray n } = { cls:=.type "list",data:=.seq (its.set j u).toArray n }:=by
 simp[jB]
theorem Inv.lst {pins:List (aB×aY)}{σ:St}{H:Hp}{s:aH}{p:aB}{xs:List V}(I:Inv X pins σ H s)(h:H p=some (.lst xs)) :
  ∃ (its:List aE) (n:Nat),Vals xs its/\s.heap.get? p=some { cls:=.type "list",data:=.seq its.toArray n }/\xs.length≤sizeLine:=by
 obtain⟨z,its,n,r,e⟩:=I.hok p _ h
 exact⟨its,n,r,e,z⟩
theorem Inv.lstUpd {pins:List (aB×aY)}{σ:St}{H:Hp}{s:aH}{p:aB}{xs ys:List V}{its its':List aE}{n n':Nat}{f:aY->aY}(I:Inv X pins σ H s)(h:H p=some (.lst xs))
  (ho:s.heap.get? p=some { cls:=.type "list",data:=.seq its.toArray n }) (hf:f { cls:=.type "list",data:=.seq its.toArray n } = { cls:=.type "list",data:=.seq its'.toArray n' }) (r:Vals ys its') (hz:ys.length≤sizeLine) (t:Nat) :
  Inv X pins σ (upd H p (.lst ys)) { s with heap:=s.heap.update p f,toks:=t }:=by
 have e:(s.heap.update p f).get? p=some { cls:=.type "list",data:=.seq its'.toArray n' }:=by
  rw[BB f ho (by rw[hf] <;> rfl),hf]
 refine I.write (x:=p) (e:=p) (by rw[h]; trivial) (.inl rfl) (fun b u hb q=>(IL _ _ (kJ hb)).trans q) ⟨_,e⟩ ?_
 exact⟨hz,its',n',r,e⟩
def XC:V->V->V->Hp->(Hp->Prop)->Prop:=fun o i v H Q=>∃ p xs k j,o = .ref p/\i = .int k/\H p=some (.lst xs)/\ixN xs.length k=some j/\Q (upd H p (.lst (xs.set j v)))
theorem set_list:IV X XC:=by
 intro pins s σ H o i v ov iv u Q I ro ri rv h
 obtain⟨p,xs,k,j,rfl,rfl,hp,hj,q⟩:=h
 cases ro
 obtain⟨t,rfl⟩:=ri
 obtain⟨its,n,r,ho,hz⟩:=I.lst hp
 obtain⟨h1,h2,h3,h4⟩:=DV hj
 have hl:=r.length
 have hn:=pM
 have I':Inv X pins σ (upd H p (.lst (xs.set j v))) { s with heap:=s.heap.update p (jB (·.setIfInBounds j u)) }:=
  I.lstUpd hp ho (Dw its n j u) (r.set rv j) (by rw[List.length_set]; exact hz) s.toks
 by_cases h0:0≤k
 ·have hk:k.toNat=j:=by
   rw[seqIndex_of h0 h4] at h1
   exact dZ h1
  exact PySem.W.ki_setAt ho h0 (by omega) (by rw[dJ,← hl]; exact h4) (by rw[hk]; exact⟨_,I',q⟩)
 ·have hk:(k+(its.toArray.size:Int)).toNat=j:=by
   rw[seqIndex_neg (by omega) h3] at h1
   rw[dJ,← hl]
   exact dZ h1
  exact PySem.W.ki_setBack ho (by omega) (by rw[dJ,← hl]; exact h3) (by omega) (by rw[hk]; exact⟨_,I',q⟩)
theorem Fu (lo hi:Option Int)(n:Nat):(sW lo hi none n).1=((HT.sIx n 0 lo:Nat):Int)/\(sW lo hi none n).2.1=((HT.sIx n n hi:Nat):Int)/\(sW lo hi none n).2.2=1:=by
 refine⟨?_,?_,rfl⟩
 ·cases lo with
  | none=>simp[sW,HT.sIx]
  | some i=>
   simp only[sW,HT.sIx,Option.getD_none,show(1:Int) > 0 by decide,if_true]
   by_cases h:i<0
   ·simp only[h,if_true] <;> omega
   ·simp only[h,if_false] <;> omega
 ·cases hi with
  | none=>simp[sW,HT.sIx]
  | some i=>
   simp only[sW,HT.sIx,Option.getD_none,show(1:Int) > 0 by decide,if_true]
   by_cases h:i<0
   ·simp only[h,if_true] <;> omega
   ·simp only[h,if_false] <;> omega
theorem Gd (its:List aE)(lo hi:Option Int):slicePick its.toArray lo hi none=((its.drop (HT.sIx its.length 0 lo)).take (HT.sIx its.length its.length hi - HT.sIx its.length 0 lo)).toArray:=by
 obtain⟨h1,h2,h3⟩:=Fu lo hi its.toArray.size
 unfold slicePick
 rw[h1,h2,h3]
 simp only[sliceRange_one,pick_run,dJ] <;> rfl
def VS (K:aG):V->Option Int->Option Int->Hp->VK->Prop:=fun x lo hi H Q=>∃ a xs,x = .ref a/\SqL K H a xs /\ ∀ p,H p=none->Q (.ref p) (upd H p (.lst (tX xs lo hi)))
theorem Lk:SlR X (VS X.K):=by
 intro pins s σ H x v vl vu lo hi sl Q I rx hs pl pu h
 obtain⟨a,xs,rfl,hx,q⟩:=h
 cases rx
 obtain⟨its,r,ht,hz⟩:=I.list hx
 have hlen:=r.length
 refine⟨"list",_,slot_list_getitem.lookup,ht.isList.typeIs,?_⟩
 refine wpAny_getItem_list_slice ht.isList hs pl pu .none (by simp) ?_ (by rw[dJ] <;> omega)
 rw[Gd,← hlen]
 refine⟨.ref s.heap.objs.size,_,I.laid (t':=s.toks) (o:=.lst (tX xs lo hi)) (fun b ob q=>cN _ q) (bR _) ?_,rfl,q _ (I.hok.fresh (bR _))⟩
 exact⟨jC (Et xs lo hi) hz,_,0,(r.drop (HT.sIx xs.length 0 lo)).take (HT.sIx xs.length xs.length hi - HT.sIx xs.length 0 lo),eZ _ rfl⟩
theorem Fc:OpR X (dS .NotIn) (fun x y H Q=>∃ i j,x = .str i/\y = .str j/\Q (.bl (!(!(qW j i 0 j.length 1).isEmpty))) H):=by
 intro pins s σ H x y v u Q I rx ry h
 obtain⟨i,j,rfl,rfl,q⟩:=h
 obtain⟨t,rfl⟩:=rx
 obtain⟨t',rfl⟩:=ry
 exact notIn_str ⟨.bl _,H,I,rfl,q⟩
theorem Ao4:Ado X (.builtin "len") (fun xs H Q=>∃ p ys,xs=[.ref p]/\(SqL X.K H p ys \/ SqT X.K H p ys)/\Q (.int ys.length) H):=by
 intro pins s σ H xs us Q I r h
 obtain⟨p,ys,rfl,hq,q⟩:=h
 obtain⟨u,rfl,rx⟩:=vals1 r
 cases rx
 have hn:=pM
 rcases hq with hq | hq
 ·obtain⟨its,r',pl,hz⟩:=I.list hq
  have hlen:=r'.length
  exact Calls.call_len_list pl.isList (by simp only[dJ] <;> omega) ⟨.int ys.length,H,I.tok _,⟨s.toks+1,by rw[dJ,hlen]⟩,q⟩
 ·obtain⟨its,r',pl,hz⟩:=I.tuple hq
  have hlen:=r'.length
  exact len_tuple pl (by simp only[dJ] <;> omega) ⟨.int ys.length,H,I.tok _,⟨s.toks+1,by rw[dJ,hlen]⟩,q⟩
theorem Ao6:Ado X (.builtin "len") (fun xs H Q=>∃ z,xs=[.str z]/\z.length≤sizeLine/\Q (.int z.length) H):=by
 intro pins s σ H xs us Q I r h
 obtain⟨z,rfl,hz,q⟩:=h
 obtain⟨u,rfl,t,rfl⟩:=vals1 r
 have hn:=pM
 exact len_str (by omega) ⟨.int z.length,H,I.tok _,⟨_,rfl⟩,q⟩
theorem Ado.or {f:aE}{r r':List V->Hp->VK->Prop}(h:Ado X f r)(h':Ado X f r'):Ado X f (fun xs H Q=>r xs H Q \/ r' xs H Q):=by
 intro pins s σ H xs us Q I rs q
 rcases q with q | q
 ·exact h pins s σ H xs us Q I rs q
 ·exact h' pins s σ H xs us Q I rs q
theorem Aot:Ado X (.type "list") (fun xs H Q=>∃ p ys,xs=[.ref p]/\(SqL X.K H p ys \/ SqT X.K H p ys) /\ ∀ l,H l=none->Q (.ref l) (upd H l (.lst ys))):=by
 intro pins s σ H xs us Q I r h
 obtain⟨p,ys,rfl,hq,q⟩:=h
 obtain⟨u,rfl,rx⟩:=vals1 r
 cases rx
 have fin : ∀ (its:List aE),Vals ys its->ys.length≤sizeLine -> ∀ (h':aP) (c':Nat),(∀ b o',s.heap.get? b=some o'->h'.get? b=some o') ->
   h'.get? s.heap.objs.size=some { cls:=.type "list",dict:=none,data:=.seq its.toArray c',slots:=#[] }->EP X pins σ Q (.ref s.heap.objs.size) { s with heap:=h' }:=fun its r' hz h' c' kp e=>
  ⟨.ref s.heap.objs.size,_,I.laid (t':=s.toks) kp (bR _) (show Aci X.prog X.w _ h' _ (.lst ys) from⟨hz,its,c',r',e⟩),rfl,q _ (I.hok.fresh (bR _))⟩
 rcases hq with hq | hq
 ·obtain⟨its,r',pl,hz⟩:=I.list hq
  have hlen:=r'.length
  obtain⟨o,ho,hc,n,hd⟩:=pl.isList
  exact call_list_seq p (.inl rfl) ho hc hd (fun h' c' kp e=>fin its r' hz h' c' kp e) (by simp only[dJ] <;> omega)
 ·obtain⟨its,r',pl,hz⟩:=I.tuple hq
  have hlen:=r'.length
  obtain⟨o,ho,hc,n,hd⟩:=pl
  exact call_list_seq p (.inr rfl) ho hc hd (fun h' c' kp e=>fin its r' hz h' c' kp e) (by simp only[dJ] <;> omega)
theorem Ft:Ado X (.type "tuple") (fun xs H Q=>∃ p ys,xs=[.ref p]/\((SqL X.K H p ys /\ ∀ l,H l=none->Q (.ref l) (upd H l (.tup ys))) \/ (SqT X.K H p ys/\Q (.ref p) H))):=by
 intro pins s σ H xs us Q I r h
 obtain⟨p,ys,rfl,h⟩:=h
 obtain⟨u,rfl,rx⟩:=vals1 r
 cases rx
 rcases h with⟨hq,q⟩ | ⟨hq,q⟩
 ·obtain⟨its,r',pl,hz⟩:=I.list hq
  have hlen:=r'.length
  refine call_tuple_list pl.isList (fun h' kp=>?_) (by simp only[dJ] <;> omega)
  have I1:Inv X pins σ H { s with heap:=h' }:=I.kept (t':=s.toks) kp
  have I2:Inv X pins σ (upd H h'.objs.size (.tup ys)) { s with heap:=h'.push { cls:=.type "tuple",data:=.seq its.toArray } }:=
   I1.laid (t':=s.toks) (fun b o e=>cN _ e) (bR _) (show Aci X.prog X.w _ _ _ (.tup ys) from⟨hz,its,r',A7o.new _ _⟩)
  exact⟨.ref h'.objs.size,_,I2,rfl,q _ (I1.hok.fresh (bR _))⟩
 ·obtain⟨its,r',pl,hz⟩:=I.tuple hq
  exact call_tuple_same pl ⟨.ref p,H,I,rfl,q⟩
def tyV (K:aG)(T:String)(x:V)(H:Hp):Prop:=match x with
 | .str _=>T = "str"
 | .int _=>T = "int"
 | .ref p=>(T = "list" /\ ∃ xs,SqL K H p xs) \/ (T = "tuple" /\ ((∃ o,K.lookup p=some o/\o.cls = .type "tuple" /\ o.dict=none) \/ ∃ xs,H p=some (.tup xs))) \/
   (T = "dict" /\ ((∃ ep kvs,H p=some (.dK ep kvs)) \/ ∃ kvs,∃ ep,H p=some (.dT ep kvs))) \/ (T = "set" /\ ∃ S n,H p=some (.set S n))
 | _=>False
theorem XZ {pins:List (aB×aY)}{σ:St}{H:Hp}{s:aH}{T:String}{x:V}{v:aE}(I:Inv X pins σ H s)(r:RelV x v)(ty:tyV X.K T x H) :
  s.TypeIs v T /\ ∀ a,v = .ref a -> ∃ ob,s.heap.get? a=some ob/\ob.dict=none:=by
 cases x with
 | str z=>
  obtain⟨t,rfl⟩:=r
  cases(show T = "str" from ty)
  exact⟨typeIs_str s z t,fun _ e=>nomatch e⟩
 | int i=>
  obtain⟨t,rfl⟩:=r
  cases(show T = "int" from ty)
  exact⟨typeIs_int s i t,fun _ e=>nomatch e⟩
 | ref p=>
  cases r
  rcases ty with⟨rfl,xs,hq⟩ | ⟨rfl,⟨o,hk,hc,hd⟩ | ⟨xs,hx⟩⟩ | ⟨rfl,hk⟩ | ⟨rfl,S,n,hk⟩
  ·obtain⟨its,_,pl,_⟩:=I.list hq
   refine⟨pl.isList.typeIs,fun a e=>?_⟩
   cases e
   obtain⟨o,n,e,c,hd,_⟩:=pl
   exact⟨o,e,hd⟩
  ·refine⟨⟨o,I.kIn p o hk,hc⟩,fun a e=>?_⟩
   cases e
   exact⟨o,I.kIn _ o hk,hd⟩
  ·obtain⟨_,_,_,⟨o,e,c,_⟩,n⟩:=(show Aci X.prog X.w H s.heap p (.tup xs) from I.hok p _ hx)
   refine⟨⟨o,e,c⟩,fun a e=>?_⟩
   cases e
   exact n
  ·have z : ∃ o,s.heap.get? p=some o/\o.ExactDict:=by
    rcases hk with⟨ep,kvs,hk⟩ | ⟨kvs,ep,hk⟩
    ·obtain⟨_,_,_,_,o,_,e,ex,_⟩:=I.hok p _ hk
     exact⟨o,e,ex⟩
    ·obtain⟨_,_,_,_,o,_,e,ex,_⟩:=I.hok p _ hk
     exact⟨o,e,ex⟩
   obtain⟨o,e,ex⟩:=z
   refine⟨⟨o,e,ex.1⟩,fun a e2=>?_⟩
   cases e2
   exact⟨o,e,ex.2.1⟩
  ·obtain⟨o,_,_,_,e,ex,_⟩:=I.hok p _ hk
   refine⟨⟨o,e,ex.1⟩,fun a e2=>?_⟩
   cases e2
   exact⟨o,e,ex.2.1⟩
 | _=>exact iQ ty
noncomputable def tBM (K:aG)(T:String)(r:V->List V->Hp->VK->Prop)(to:TE)(t:TA):TE:=fun σ H Q=>to σ H fun x H1=>tyV K T x H1/\t σ H1 fun xs H2=>r x xs H2 Q
variable {o e:aR}{es:List aR}{to:TE}{t:TA}{name:aD}{apos cpos:bL}{T id:String}{r:V->List V->Hp->VK->Prop}
theorem rG (pa:PlainAttrs T)(slot:Slot T name id)(hty:typeOf (.builtin id)=pure (.type "method_descriptor"))(hm:MtR X id r)(ho:PE X o to)(ha:PA X (e::es) t)
  (hbase:nG o name X.env (bJ o X.env)=bJ o X.env:=by rfl)
  (hfew:((fD cpos (bI (e::es) X.env)).all (fun x=>!x.1)&&(tH cpos (sZ [] X.env)).all (fun x=>x.1.isSome)
   && decide ((e::es).length+([]:List qS).length+(if ([]:List qS).isEmpty then 0 else 1)<30))=true:=by rfl)
  (hline:(apos.endLine == cpos.line)=true:=by rfl) (hs:bI (e::es) X.env=(false,bJ e X.env)::bI es X.env:=by rfl) (hplain:(fD cpos (bI es X.env)).any (·.1)=false:=by rfl) :
  PE X (.Call (.Attribute o name apos) (e::es) [] cpos) (tBM X.K T r to t):=by
 intro pins s σ H Q I h
 refine wpAny_Call_method_late hbase hfew hline rfl (thn (ho pins s σ H _ I h) fun v s1 gh=>?_)
 obtain⟨x,H1,I1,r1,ty,q1⟩:=gh
 obtain⟨h1,h2⟩:=XZ I1 r1 ty
 refine⟨T,id,pa,slot,hty,h1,h2,?_⟩
 have hA:=ha cpos pins s1 σ H1 _ I1 q1
 rw[hs] at hA ⊢
 refine Calls.callWith_builtin (by show(false||(fD cpos (bI es X.env)).any (·.1))=false; rw[hplain] <;> rfl) (Calls.evalArgs_plain ?_)
 exact thn hA fun us s2 ⟨vs,H2,I2,r2,q2⟩=>hm pins s2 σ H2 x vs v us Q I2 r1 r2 q2
end
def MtM (X:Cx)(id:String)(r:V->List V->Hp->VK->Prop):Prop:=
 ∀ (pins:List (aB×aY)) (s:aH) (σ:St) (H:Hp) (x:V) (xs:List V) (v:aE) (us:List aE) (Q:VK),Inv X pins σ H s->RelV x v->Vals xs us->r x xs H Q ->
  aQ (aT X.prog X.w) X.A (call (.builtin id) (v::us)) (EP X pins σ Q) X.xe s
theorem Vals.one : ∀ {x:V} {us:List aE},Vals [x] us -> ∃ u,us=[u]/\RelV x u:=by
 intro x us h
 cases h with
 | cons r t=>cases t; exact⟨_,rfl,r⟩
theorem Vals.eraseIdx : ∀ {xs:List V} {us:List aE} (i:Nat),Vals xs us->Vals (xs.eraseIdx i) (us.eraseIdx i)
 | _,_,_,.nil=>.nil
 | _,_,0,.cons _ t=>t
 | _,_,i+1,.cons r t=>.cons r (Vals.eraseIdx i t)
theorem FK {α:Type} : ∀ (l:List α) (i:Nat),(l.eraseIdx i).length≤l.length
 | [],_=>bR _
 | _::_,0=>wR _
 | _::r,i+1=>Nat.succ_le_succ (FK r i)
section
variable {X:Cx}{pins:List (aB×aY)}{σ:St}{H:Hp}{s:aH}{l b:aB}{xs ys zs:List V}
theorem Inv.lset {its its':List aE}{n:Nat}{f:Array aE->Array aE}{t':Nat}(I:Inv X pins σ H s)(hH:H l=some (.lst xs))
  (e:s.heap.get? l=some { cls:=.type "list",data:=.seq its.toArray n }) (hf:f its.toArray=its'.toArray) (hv:Vals ys its') (hz:ys.length≤sizeLine) :
  Inv X pins σ (upd H l (.lst ys)) { s with heap:=s.heap.update l (jB f),toks:=t' }:=by
 have q:=PySem.IsL.update e f
 rw[hf] at q
 refine I.write (x:=l) (e:=l) (by rw[hH]; exact trivial) (.inl rfl) (fun b' u hb hu=>(IL s.heap (jB f) (kJ hb)).trans hu) ⟨_,q⟩ ?_
 exact⟨hz,its',_,hv,q⟩
theorem Inv.lnew {its:List aE}{t':Nat}(I:Inv X pins σ H s)(hv:Vals ys its)(hz:ys.length≤sizeLine) :
  Inv X pins σ (upd H s.heap.objs.size (.lst ys)) { s with heap:=s.heap.push { cls:=.type "list",data:=.seq its.toArray },toks:=t' }:=
 I.laid (fun _ _ q=>cN _ q) (bR _) ⟨hz,its,0,hv,eZ _ rfl⟩
theorem Inv.fresh (I:Inv X pins σ H s):H s.heap.objs.size=none:=I.hok.fresh (bR _)
theorem Inv.lstM (I:Inv X pins σ H s)(hH:H l=some (.lst xs)):xs.length≤sizeLine /\ ∃ (its:List aE) (n:Nat),Vals xs its/\xs.length=its.length/\s.heap.get? l=some { cls:=.type "list",data:=.seq its.toArray n }:=by
 obtain⟨z,its,n,r,e⟩:=I.hok l _ hH
 exact⟨z,its,n,r,r.length,e⟩
end
section
variable {X:Cx}
def Lu:V->List V->Hp->VK->Prop:=fun x vs H Q=>∃ l xs y,x = .ref l/\vs=[y]/\H l=some (.lst xs)/\xs.length<sizeLine/\Q .non (upd H l (.lst (xs++[y])))
theorem FG:MtM X "list.append" Lu:=by
 intro pins s σ H x vs v us Q I rx rv h
 obtain⟨l,xs,y,rfl,rfl,hH,hz,q⟩:=h
 cases rx
 obtain⟨u,rfl,ru⟩:=rv.one
 obtain⟨z,its,n,r,hl,e⟩:=I.lstM hH
 refine qL F.slot_list_append ⟨_,e,rfl⟩ F.entry_list_append (F.args_list_append_2 _ _) (PySem.list_append l its.toArray n u (by rw[dJ]; omega)) ⟨e,?_⟩
 refine⟨.non,_,I.lset (its':=its++[u]) hH e (by simp) (r.append (.cons ru .nil)) ?_,rfl,q⟩
 rw[wX,List.length_singleton]
 omega
def Ih:V->List V->Hp->VK->Prop:=fun x vs H Q=>∃ l xs i k y,x = .ref l/\vs=[.int i]/\H l=some (.lst xs) /\ -(2 ^ 63)≤i/\i<2 ^ 63/\seqIndex? i xs.length=some k/\xs[k]?=some y/\Q y (upd H l (.lst (xs.eraseIdx k)))
theorem ZX:MtM X "list.pop" Ih:=by
 intro pins s σ H x vs v us Q I rx rv h
 obtain⟨l,xs,i,k,y,rfl,rfl,hH,h1,h2,hk,hy,q⟩:=h
 cases rx
 obtain⟨u,rfl,ru⟩:=rv.one
 obtain⟨t,rfl⟩:=ru
 obtain⟨z,its,n,r,hl,e⟩:=I.lstM hH
 obtain⟨w,hw,rw'⟩:=r.get hy
 refine qL F.slot_list_pop ⟨_,e,rfl⟩ F.entry_list_pop (F.args_list_pop_2 _ _)
  (MeetsSeq.list_pop_at l its.toArray n i t k w (fitsIndex_both h1 h2) (by rw[dJ,← hl]; exact hk) (by rw[← VH]; exact hw) (by rw[dJ]; omega)) ⟨e,?_⟩
 refine⟨y,_,I.lset (its':=its.eraseIdx k) hH e ?_ (r.eraseIdx k) ?_,rw',q⟩
 ·show its.toArray.eraseIdxIfInBounds k=(its.eraseIdx k).toArray
  rw[Oz]
 ·have:=FK xs k
  omega
end
end L2
namespace Att
open PySem PySem.W PySem.Calls PyProof.Rows
theorem Gq {P:Params}{h:aP} : ∀ (ns:List Int) (vs:List aE),WellAll P h vs (ns.map WData.int)->IntsAre vs ns:=by
 intro ns
 induction ns with
 | nil=>
  intro vs w
  rw[List.map_nil] at w
  cases w
  exact .nil
 | cons n ns ih=>
  intro vs w
  rw[cY] at w
  cases w with
  | cons a b=>
   cases a
   exact .cons _ _ (ih _ b)
theorem Ct {l:OpenLaw}{n:Nat}(hn:l.most=some n){P:Params}{h:aP}{args:List WData}{vals:List aE}
  (hpre:l.row.toRowW.claim.pre args=true) (hwl:WellAll P h vals args) :
  ∃ a vs ns,vals=[dE a]/\args=[WData.list (ns.map WData.int)]/\h.get? a=some { cls:=.type "list",data:=.seq vs.toArray }/\IntsAre vs ns/\ns.length≤n:=by
 have hsh:WShape.hasAll [] args [.list .int]=true:=(pre_splitW hpre).1
 have hc:l.pre.holds [] { args:=args }=true:=(pre_splitW hpre).2
 obtain⟨d,r,rfl,h1,h2⟩:=hasAllW_cons hsh
 obtain rfl:=hasAllW_nil h2
 obtain⟨xs,rfl,h3⟩:=hasW_list h1
 obtain⟨ns,rfl⟩:=items_int h3
 have hlen:ns.length≤n:=by
  unfold OpenLaw.pre at hc
  have h4:(WTm.not (.lt (.lit (.int (n:Int))) (.len (.arg 0)))).holds [] { args:=[.list (ns.map .int)] }=true:=by
   have h4:=(holds_andW hc).1
   rw[hn] at h4
   exact h4
  have h5:=condW_of h4 (w_not (w_lt w_lit (w_len_list (w_arg rfl))))
  rw[cL] at h5
  refine Nat.le_of_not_lt fun q=>?_
  have q':(n:Int)<((ns.length:Nat):Int):=by omega
  first
   | (rw[decide_eq_true q'] at h5; exact absurd h5 (by decide))
   | (simp at h5; omega)
 cases hwl with
 | cons w1 w2=>
  cases w2
  cases w1 with
  | list ho hall=>exact⟨_,_,ns,rfl,rfl,ho,Gq ns _ hall,hlen⟩
theorem Bz (l:OpenLaw)(args:List WData):l.row.toRowW.claim.post args (.bool true) args=true:=
 postW_of (r:=l.row.toRowW) (X:=(true == true))
  (show WShape.has [] (.bool true) .bool=true by first | rfl | decide | simp[WShape.has,WShape.arms,WShape.armsAll])
  (show(WTm.eq .res (.lit (.bool true))).value [] { args:=args,res:=some (.bool true),after:=args }=some (.bool (true == true)) from w_eq_bool (w_res rfl) w_lit) rfl
theorem Ary {l:OpenLaw}{n:Nat}{q:bB}{loose:List aD}{XP:(aD->Option aE)->aP->Prop}{YP:aW->aP->Prop}{d:DefRec}
  (hn:l.most=some n) (hdf:d.params.defaults=[])
  (call : ∀ (w:aW) (s₀ s₁:aH) (mg mb:aD->Option aE) (fa:aB) (o:aY) (pm cd doc:aE) (a:aB) (vs:List aE) (ns:List Int),
   Ground q loose [] XP w s₀ mg mb s₁.heap->YP w s₁.heap ->
   s₁.heap.get? fa=some o->o.data = .func (docDef d.name d.params d.body d.scope pm cd doc)->s₁.heap.CodeRec cd d.name->mg d.name=some (.ref fa) ->
   s₁.heap.get? a=some { cls:=.type "list",data:=.seq vs.toArray }->IntsAre vs ns->ns.length≤n->s₁.gens = #[] ->
   lA (aT l.prog w) tD (.call (.ref fa) ⟨[.ref a],[]⟩) (fun r s'=>r = .ok (.ret (.bool true))/\OldK s₁.heap s'.heap/\s'.os=s₁.os/\nO s'.gens) s₁) :
  WalkO q loose XP YP l.row.toRowW d [] (fun f vs=>PySem.call f vs):=by
 intro w s₀ s₁ mg mb G Y fa o pm cd doc dV kV ho hd hcd hD hmg hg args vals as hpre hlay hrd hwl hlo
 obtain rfl:dV = .none:=Dflts.none hD hdf
 obtain rfl:kV = .none:=Dflts.noKw hD
 obtain⟨a,vs,ns,rfl,rfl,hobj,hints,hlen⟩:=Ct hn hpre hwl
 refine enter_call (qK (call w s₀ s₁ mg mb fa o pm cd doc a vs ns G Y ho (fd_plain hd) hcd hmg hobj hints hlen hg) fun r s' hq=>?_)
 obtain⟨rfl,h2,h3,h4⟩:=hq
 exact⟨.inl ⟨.bool true,.bool true,[],rfl,fun _=>rfl,.bool true,Bz l _,fun _=>⟨List.Pairwise.nil,fun _ hm=>(nomatch hm)⟩⟩,h2,h3,h4⟩
end Att
namespace L2
open PySem PySem.Spec PyProof.Rows
theorem NU : ∀ {vs:List aE} {ns:List Int},IntsAre vs ns->Vals (ns.map V.int) vs
 | _,_,.nil=>.nil
 | _,_,.cons n t h=>.cons ⟨t,rfl⟩ (NU h)
def Only (H:Hp):Prop:=∀ b,H b=none \/ ∃ o xs,H b=some (.frz o (.lst xs))
theorem Od {P:bB}{w:aW}{K:aG}{mg mb:aD->Option aE}{CX:CXT}{k:Nat}{fa a:aB}{fd:eM}{x:aD}{sp:Sp}{s₁:aH}{vs:List aE}{ns:List Int}
  (KX:K.In s₁.heap) (hns:s₁.heap.Ns cF mg) (hb:s₁.heap.Ns builtinsNs mb) (hbb : ∀ x:aD,x ≠ "__name__" -> mb x=jN x) (hlim:s₁.heap.NoLimit) (hg:s₁.gens = #[])
  (ha:s₁.heap.get? a=some { cls:=.type "list",data:=.seq vs.toArray }) (hi:IntsAre vs ns) (hl:ns.length≤sizeLine) (hr:Room k tD)
  (F : ∀ base:aP,K.In base->base.Ns cF mg->FnOk P w K mg base CX k fa fd [x] sp) (hbind : ∀ (s:aH) (u:aE),qX s fd ⟨[u],[]⟩ [(x,u)])
  (hsp : ∀ H:Hp,Only H->SqL K H a (ns.map V.int)->sp [.ref a] H (fun v _=>v = .bl true) fun _ _ _=>False)
  (hCX : ∀ H e s',CX [] H s₁ (fun _ _ _=>False) e s'->False) :
  lA (aT P w) tD (.call (.ref fa) ⟨[.ref a],[]⟩) (fun r s'=>r = .ok (.ret (.bool true))/\OldK s₁.heap s'.heap/\s'.os=s₁.os/\nO s'.gens) s₁:=by
 have rv:=NU hi
 have lenV:=hi.length
 have core : ∀ H:Hp,Only H->SqL K H a (ns.map V.int)->HOk P w H s₁.heap->(∀ b,H b≠none->b=a)->(H a≠none->K.lookup a=none) ->
   lA (aT P w) tD (.call (.ref fa) ⟨[.ref a],[]⟩) (fun r s'=>r = .ok (.ret (.bool true))/\OldK s₁.heap s'.heap/\s'.os=s₁.os/\nO s'.gens) s₁:=by
  intro H hO hS hok hA hK
  have base_of : ∀ {b:aB} {o:aY},s₁.heap.get? b=some o->H b=none->(mJ s₁.heap H).get? b=some o:=fun e n=>Ng e n
  have noA : ∀ {b:aB} {o:aY} {es:Array mH} {ep:Nat},s₁.heap.get? b=some o->o.data = .dict es ep->H b=none:=fun {b o es ep} e d=>by
   cases q:H b with
   | none=>rfl
   | some u=>
    have e':b=a:=hA b (by rw[q]; simp)
    subst e'
    rw[ha] at e; cases e
    have d':Data.seq vs.toArray _=Data.dict es ep:=d
    cases d'
  have nsK : ∀ {b:aB} {m:aD->Option aE},s₁.heap.Ns b m->(mJ s₁.heap H).Ns b m:=fun {b m} ⟨o,es,ep,e,d,r⟩=>⟨o,es,ep,base_of e (noA e d),d,r⟩
  have hKb:K.In (mJ s₁.heap H):=fun b o e=>base_of (KX b o e) (by
   cases q:H b with
   | none=>rfl
   | some u=>
    have e':b=a:=hA b (by rw[q]; simp)
    subst e'
    rw[hK (by rw[q]; simp)] at e; cases e)
  have hM:Mod K mg (mJ s₁.heap H):=⟨hKb,nsK hns,⟨mb,nsK hb,hbb⟩,let ⟨mc,h1,h2⟩:=hlim; ⟨mc,nsK h1,h2⟩⟩
  have e0:Env0 P w K mg (mJ s₁.heap H) tD [] s₁ H:=⟨rfl,hM,fun b o e=>Kk e,ID (Al _ _),trivial,fun b hb=>absurd (show b∈([]:List aB) from hb) (by simp),hok,.of_eq hg⟩
  refine qK ((F _ hKb (nsK hns)).run tD [] s₁ H ⟨[.ref a],[]⟩ [.ref a] [.ref a] _ _ hr e0 (hbind s₁ (.ref a)) (.cons rfl .nil) (hsp H hO hS)) fun r s' h=>?_
  cases r with
  | error e=>exact(hCX H e s' h).elim
  | ok fl=>
   cases fl with
   | next=>exact iQ h
   | brk=>exact iQ h
   | cont=>exact iQ h
   | ret u=>
    obtain⟨v,H',os,bare,un,hok',r',q⟩:=h
    have q':v = .bl true:=q
    subst q'
    obtain rfl:u=Value.bool true:=r'
    refine⟨rfl,OldK.of_keep fun b o e=>?_,os,bare⟩
    cases q:H b with
    | none=>exact un.keep b o e q (by intro z; exact absurd (show b∈([]:List aB) from z) (by simp)) (by simp)
    | some u=>
     rcases hO b with z | ⟨ob,xs,z⟩
     ·rw[q] at z; cases z
     ·have z2:=un.frzs b ob _ z
      obtain⟨e1,_⟩:=hok b _ z
      obtain⟨e2,_⟩:=hok' b _ z2
      rw[e] at e1; cases e1
      exact e2
 cases hk:K.lookup a with
 | some o=>
  have e:=KX a o hk
  rw[ha] at e
  cases e
  refine core (fun _=>none) (fun _=>.inl rfl) (.inr ⟨_,vs.toArray,_,hk,rfl,rfl,rfl,by rw[dJ,lenV]; exact hl,by simpa using rv⟩) (fun b u z=>by have z':(none:Option HO)=some u:=z; cases z') (fun b z=>absurd rfl z) fun z=>absurd rfl z
 | none=>
  refine core (fun b=>if b=a then some (.frz { cls:=.type "list",data:=.seq vs.toArray } (.lst (ns.map V.int))) else none) (fun b=>?_) (.inl (.inr ⟨{ cls:=.type "list",data:=.seq vs.toArray },if_pos rfl⟩)) (fun b u z=>?_) (fun b z=>?_) fun _=>hk
  ·by_cases hb:b=a
   ·exact .inr ⟨_,_,if_pos hb⟩
   ·exact .inl (if_neg hb)
  ·by_cases hb:b=a
   ·have z':=(if_pos hb).symm.trans z
    cases z'
    subst hb
    exact⟨ha,by rw[cL]; exact hl,vs,_,rv,ha⟩
   ·have z':=(if_neg hb).symm.trans z
    cases z'
  ·by_cases hb:b=a
   ·exact hb
   ·exact absurd (if_neg hb) z
theorem A6h {l:UD}{n k:Nat}{q:bB}{loose:List aD}{XP:(aD->Option aE)->aP->Prop}{YP:aW->aP->Prop}{d:DefRec}{K:Params->aG}{CX:aW->CXT}{sp:aW->Sp}{x:aD}
  (hn:l.most=some n) (hn2:n≤sizeLine) (hdf:d.params.defaults=[]) (hr:Room k tD)
  (hY : ∀ (w:aW) (h:aP),YP w h->(K w.params).In h)
  (F : ∀ (w:aW) (mg:aD->Option aE) (fa:aB) (h:aP),(K w.params).In h->h.Ns cF mg->mg d.name=some (.ref fa) ->
   ∃ fd:eM,(∀ (s:aH) (u:aE),qX s fd ⟨[u],[]⟩ [(x,u)]) /\
    ∀ base:aP,(K w.params).In base->base.Ns cF mg->FnOk l.prog w (K w.params) mg base (CX w) k fa fd [x] (sp w))
  (hsp : ∀ (w:aW) (H:Hp) (a:aB) (ns:List Int),ns.length≤n->Only H->SqL (K w.params) H a (ns.map V.int)->sp w [.ref a] H (fun v _=>v = .bl true) fun _ _ _=>False)
  (hCX : ∀ (w:aW) (H:Hp) (s:aH) (e:aE) (s':aH),CX w [] H s (fun _ _ _=>False) e s'->False) :
  PySem.W.WalkO q loose XP YP l.row.toRowW d [] (fun f vs=>PySem.call f vs):=by
 refine Att.Ary hn hdf fun w s₀ s₁ mg mb fa o pm cd doc a vs ns G Y ho hd hcd hmg hobj hints hlen hg=>?_
 have KX:=hY w _ Y
 obtain⟨fd,hb,hF⟩:=F w mg fa _ KX G.T.g hmg
 exact Od KX G.T.g G.T.b G.T.builtins G.T.nolimit hg hobj hints (jC hlen hn2) hr hF hb (fun H hO hS=>hsp w H a ns hlen hO hS) fun H e s'=>hCX w H s₁ e s'
noncomputable def inClass (s:bK)(j:Nat):bK:=match s with
 | .ClassDef _ _ _ body _ _ _ _ _ _ _=>body.getD j (.Pass ⟨0,0,0,0⟩)
 | _=>.Pass ⟨0,0,0,0⟩
noncomputable def jJ (s:bK):Arguments:=match s with
 | .FunctionDef _ a _ _ _ _ _ _ _ _=>a
 | _=>{ posonlyargs:=[],args:=[],vararg:=none,kwonlyargs:=[],kw_defaults:=[],kwarg:=none,defaults:=[] }
noncomputable def hJ (s:bK):List bK:=match s with
 | .FunctionDef _ _ b _ _ _ _ _ _ _=>b
 | _=>[]
noncomputable def bQ (s:bK):gN:=match s with
 | .FunctionDef _ _ _ _ _ _ sc _ _ _=>sc
 | _=>{ kind:=.function,names:=[],isGenerator:=false,isCoroutine:=false }
noncomputable abbrev CX0:CXT:=fun _ _ _ _ _ _=>False
noncomputable abbrev E0:XK:=fun _ _ _=>False
theorem WV {X:Cx}:Passes CX0 X E0:=fun _ _ _ _ _ _ _ h=>h.elim
structure Fun (K:aG)(x qual:aD)(st:bK)(f:aB)(fd:eM):Prop where
 ex : ∃ (oc:aE) (od:Option aB) (kV doc pm:aE) (an:Option aB) (cdv ct:aE) (osl:Array (Option aE)),
  fd=jA x qual (jJ st) (hJ st) (bQ st) .none kV doc pm an cdv ct/\K.lookup f=some ⟨oc,od,.func fd,osl⟩/\tK K cdv qual=true
 kp:kH K (.ref f)=true
section
variable {P:bB}{w:aW}{K:aG}{mg:aD->Option aE}{base:aP}
theorem Fun.ok {x qual:aD}{st:bK}{f:aB}{fd:eM}{N ps:List aD}{k:Nat}{sp:Sp}(F:Fun K x qual st f fd)(S:FnScope N ps (bQ st))(len : ∀ vs H Q E,sp vs H Q E->vs.length=ps.length)
  (hbody : ∀ (cdv:aE) (A:cA) (outer:List dW) (s:aH) (H:Hp) (vs:List V) (Q:VK) (E:XK),Room k (A.deeper (gW qual (bQ st) s.heap.objs.size f cdv))->sp vs H Q E ->
   ∃ t,PSs (iI CX0 P w K mg base N qual (bQ st) f cdv A outer s H E).nox (hJ st) t/\t { nx:=fun _ H'=>Q .non H',rt:=Q } (start N vs) H):FnOk P w K mg base CX0 (k+1) f fd ps sp:=by
 obtain⟨oc,od,kV,doc,pm,an,cdv,ct,osl,rfl,lk,hcd⟩:=F.ex
 refine JP lk hcd S len fun A outer s H vs Q E hr hsp=>?_
 obtain⟨t,h,q⟩:=hbody cdv A outer s H vs Q E hr hsp
 exact⟨t,h.nox,q⟩
theorem Fun.binds {x qual:aD}{st:bK}{f:aB}{fd:eM}{ps:List aD}(F:Fun K x qual st f fd)
  (h : ∀ (kV doc pm:aE) (an:Option aB) (cdv ct:aE) (us:List aE),us.length=ps.length->wJ (jA x qual (jJ st) (hJ st) (bQ st) .none kV doc pm an cdv ct) ⟨us,[]⟩=pure (ps.zip us)):Binds K fd ps []:=by
 obtain⟨oc,od,kV,doc,pm,an,cdv,ct,osl,rfl,lk,hcd⟩:=F.ex
 exact .all (h kV doc pm an cdv ct)
theorem CG {x qual:aD}{st:bK}{f:aB}{oc:aE}{od an:Option aB}{osl:Array (Option aE)}{kV doc pm cdv ct:aE}(l:K.lookup f=some ⟨oc,od,.func (jA x qual (jJ st) (hJ st) (bQ st) .none kV doc pm an cdv ct),osl⟩)
  (c:tK K cdv qual=true) (k:kH K (.ref f)=true):Fun K x qual st f (jA x qual (jJ st) (hJ st) (bQ st) .none kV doc pm an cdv ct):=⟨⟨oc,od,kV,doc,pm,an,cdv,ct,osl,rfl,l,c⟩,k⟩
end
theorem eF {A:cA}{k:Nat}(hr:Room k A):A.units+40<cLine:=UM (Nat.add_le_add_left (by decide:40≤64) _) hr.units
section
variable {X:Cx}
theorem pv (i:Nat){x:aD}{pos:bL}(hN:X.N[i]?=some x:=by rfl)(hv:kN X.env.scope x:=by first | exact bE rfl | exact bD (bE rfl) | exact bD (bD rfl))(hd:(x == ("__debug__" : aD))=false:=by decide)
  (hcd:(x == ("__classdict__" : aD))=false:=by decide):PE X (.Name x pos) (sP i):=mU hN hv hd hcd
theorem Bn:Ado X (.builtin "len") (fun xs H Q=>∃ a ep kvs,xs=[V.ref a]/\H a=some (.dK ep kvs)/\Q (.int kvs.length) H):=by
 intro pins s σ H xs us Q I r h
 obtain⟨a,ep,kvs,rfl,ha,q⟩:=h
 obtain⟨u,rfl,ru⟩:=vals1 r
 cases ru
 exact WY I (.inl ha) fun t s' I'=>⟨.int kvs.length,H,I',⟨t,rfl⟩,q⟩
end
theorem gX {A B:Prop}(h:B):if false=true then A else B:=by
 rw[if_neg pB]
 exact h
theorem iS {A B:Prop}(h:A):if true=true then A else B:=by
 rw[if_pos rfl]
 exact h
def Same (H H':Hp):Prop:=∀ b o,H b=some o->H' b=some o
theorem Same.trans {H H1 H2:Hp}(a:Same H H1)(b:Same H1 H2):Same H H2:=fun c o h=>b c o (a c o h)
theorem Same.free {H H':Hp}(e:Same H H'){l:aB}(h:H' l=IA):H l=IA:=by
 cases q:H l with
 | none=>rfl
 | some o=>
  rw[e l o q] at h
  cases h
theorem Same.seq {K:aG}{H H':Hp}{a:aB}{xs:List V}(e:Same H H')(h:SqL K H a xs):SqL K H' a xs:=by
 rcases h with(h | ⟨o,h⟩) | h
 ·exact .inl (.inl (e _ _ h))
 ·exact .inl (.inr ⟨o,e _ _ h⟩)
 ·exact .inr h
section
variable {prog:bB}{w:aW}{A:cA}{R:qM->aH->Prop}{s:aH}
theorem Ep {elt target iter:aR}{ifs:List aR}{scope:gN}{pos:bL}{it acc:aE}{env:dW}(I:Nat->aH->Prop)
  (turn : ∀ n s,I n s->aQ (aT prog w) A (pyNext it) (fun r s₁=>match r with
   | none=>R (.ok .next) s₁
   | some v=>aQ (aT prog w) A (HL target it v) (fun _ s₂=>aQ (aT prog w) A (mC target env v) (fun _ s₃=>
     aQ (aT prog w) A (forIn ifs true fun c r=>if r=true then do let ok ← isTrue c env (bJ c env); pure (xF ok) else pure (xF r)) (fun ok s₄=>
      if ok=true then aQ (aT prog w) A (bJ elt env) (fun x s₅=>
       aQ (aT prog w) A (call (.builtin "list.append") [acc,x]) (fun _ s₆=>∃ m,m<n/\I m s₆) (fun _ _=>False) s₅) (fun _ _=>False) s₄
      else ∃ m,m<n/\I m s₄) (fun _ _=>False) s₃) (fun _ _=>False) s₂) (fun _ _=>False) s₁) (fun _ _=>False) s)
  (n:Nat) (h:I n s):lA (aT prog w) A (.compLoop (.ListComp elt [⟨target,iter,ifs,0⟩] scope pos) 0 it acc env) R s:=by
 refine codeAny_loop rfl I (fun n s hI=>?_) n h
 refine wpAny_noted ?_
 rw[compTurn_list]
 refine aK (wpAny_standAt (aK (iX (turn n s hI) (fun r s₁ h₁=>?_) fun _ _ h'=>h'.elim)))
 cases r with
 | none=>exact bA h₁
 | some v=>
  refine aK (iX h₁ (fun _ s₂ h₂=>?_) fun _ _ h'=>h'.elim)
  refine aK (iX h₂ (fun _ s₃ h₃=>aK (iX h₃ (fun ok s₄ h₄=>?_) fun _ _ h'=>h'.elim)) fun _ _ h'=>h'.elim)
  cases ok with
  | false=>exact bA ⟨rfl,h₄⟩
  | true=>
   exact aK (aK (iX h₄ (fun x s₅ h₅=>aK (iX h₅ (fun _ s₆ h₆=>bA (bA ⟨rfl,h₆⟩)) fun _ _ h'=>h'.elim)) fun _ _ h'=>h'.elim))
end
theorem cellOf_eq {env:dW}{n:aD}{c:aB}(h:env.cells.lookup n=some c):cellOf env n=pure c:=by
 unfold cellOf
 rw[h]
noncomputable def eU (env:dW):List (aD×kL)->List (aD×aB)->List (aD×aB)
 | [],cs=>cs
 | (n,k)::r,cs=>eU env r (if (k == fN)=true then(match env.cells.lookup n with | some c=>(n,c)::cs | none=>cs) else cs)
theorem RE {sc:gN}{env:dW}(h : ∀ n,(n,fN)∈sc.names -> ∃ c,env.cells.lookup n=some c):closureFor sc env=pure (eU env sc.names []):=by
 unfold closureFor
 generalize sc.names=l at h
 have go : ∀ (l:List (aD×kL)) (cs:List (aD×aB)),(∀ n,(n,fN)∈l -> ∃ c,env.cells.lookup n=some c) ->
   (forIn l cs (fun(x:aD×kL) (r:List (aD×aB))=>if (x.2 == fN)=true then(do let c ← cellOf env x.1; pure (xF ((x.1,c)::r))) else pure (xF r)):Sem (List (aD×aB)))=pure (eU env l cs):=by
  intro l
  induction l with
  | nil=>intro cs _; rfl
  | cons p r ih=>
   intro cs hl
   obtain⟨n,k⟩:=p
   rw[List.forIn_cons]
   have hr : ∀ n,(n,fN)∈r -> ∃ c,env.cells.lookup n=some c:=fun n hn=>hl n (cD _ hn)
   cases hk:(k == fN) with
   | true=>
    have ek:k=fN:=by simpa using hk
    subst ek
    obtain⟨c,hc⟩:=hl n bX
    have e1:eU env ((n,fN)::r) cs=eU env r ((n,c)::cs):=by
     show eU env r (if (fN == fN)=true then(match env.cells.lookup n with | some c=>(n,c)::cs | none=>cs) else cs)=_
     rw[hc]; rfl
    rw[e1]
    simp only[cellOf_eq hc,hk,if_true]
    exact ih ((n,c)::cs) hr
   | false=>
    have e1:eU env ((n,k)::r) cs=eU env r cs:=by
     show eU env r (if (k == fN)=true then(match env.cells.lookup n with | some c=>(n,c)::cs | none=>cs) else cs)=_
     rw[hk]; rfl
    rw[e1]
    simp only[hk,lG,if_false]
    exact ih cs hr
 have e:=go l [] h
 simp only[e]
 rfl
theorem FT {env:dW} : ∀ (l:List (aD×kL)) (cs:List (aD×aB)),(∀ x c,cs.lookup x=some c->env.cells.lookup x=some c) -> ∀ x c,(eU env l cs).lookup x=some c->env.cells.lookup x=some c
 | [],cs,h,x,c,e=>h x c e
 | (n,k)::r,cs,h,x,c,e=>by
  refine FT r _ ?_ x c e
  intro y d q
  by_cases hk:(k == fN)=true
  ·rw[if_pos hk] at q
   cases hc:env.cells.lookup n with
   | none=>rw[hc] at q; exact h y d q
   | some a=>
    rw[hc] at q
    by_cases hy:(y == n)=true
    ·simp only[lE,hy] at q
     have:y=n:=by simpa using hy
     rw[this,hc]; exact q
    ·have hy':(y == n)=false:=by simpa using hy
     simp only[lE,hy'] at q
     exact h y d q
  ·rw[if_neg hk] at q; exact h y d q
theorem QQ {env:dW}{x:aD}{c:aB}(hx:env.cells.lookup x=some c) : ∀ (l:List (aD×kL)) (cs:List (aD×aB)),cs.lookup x=some c->(eU env l cs).lookup x=some c
 | [],cs,h=>h
 | (n,k)::r,cs,h=>by
  refine QQ hx r _ ?_
  by_cases hk:(k == fN)=true
  ·rw[if_pos hk]
   cases hc:env.cells.lookup n with
   | none=>exact h
   | some a=>
    by_cases hy:(x == n)=true
    ·have:x=n:=by simpa using hy
     subst this
     rw[hx] at hc; cases hc
     simp[lE]
    ·have hy':(x == n)=false:=by simpa using hy
     simp only[lE,hy']; exact h
  ·rw[if_neg hk]; exact h
theorem GC {env:dW}{x:aD}{c:aB}(hx:env.cells.lookup x=some c) : ∀ (l:List (aD×kL)) (cs:List (aD×aB)),(x,fN)∈l->(eU env l cs).lookup x=some c
 | [],cs,h=>by simp at h
 | (n,k)::r,cs,h=>by
  rcases cP.mp h with e | h
  ·cases e
   refine QQ hx r _ ?_
   rw[if_pos (by rfl),hx]
   simp[lE]
  ·exact GC hx r _ h
theorem QZ {sc:gN}{env:dW}(x:aD):(sX sc env).names.lookup x=(sc.names.lookup x).map fun k=>if (k == fN&&env.scope.kind == .function&&env.kindOf x == some .cell)=true then NameKind.cell else k:=by
 unfold sX
 induction sc.names with
 | nil=>rfl
 | cons p r ih=>
  obtain⟨n,k⟩:=p
  show iH x ((if (k == fN&&env.scope.kind == .function&&env.kindOf n == some .cell)=true then(n,NameKind.cell) else(n,k))::List.map _ r)=_
  by_cases hy:(x == n)=true
  ·have:x=n:=by simpa using hy
   subst this
   by_cases hc:(k == fN&&env.scope.kind == .function&&env.kindOf x == some .cell)=true
   ·rw[if_pos hc]
    simp only[lE,hy,qO]
    rw[if_pos hc]
   ·rw[if_neg hc]
    simp only[lE,hy,qO]
    rw[if_neg hc]
  ·have hy':(x == n)=false:=by simpa using hy
   have e2:iH x ((n,k)::r)=iH x r:=by simp only[lE,hy']
   rw[e2]
   by_cases hc:(k == fN&&env.scope.kind == .function&&env.kindOf n == some .cell)=true
   ·rw[if_pos hc]
    simp only[lE,hy']
    exact ih
   ·rw[if_neg hc]
    simp only[lE,hy']
    exact ih
theorem lookup_mem {α:Type}{x:aD}{v:α} : ∀ {l:List (aD×α)},l.lookup x=some v->(x,v)∈l
 | [],h=>by simp at h
 | (n,k)::r,h=>by
  by_cases hy:(x == n)=true
  ·have:x=n:=by simpa using hy
   subst this
   simp[lE] at h
   subst h
   exact bX
  ·have hy':(x == n)=false:=by simpa using hy
   simp only[lE,hy'] at h
   exact cD _ (lookup_mem h)
noncomputable def gL (X:Cx)(N:List aD)(sc:gN)(cl:List (aD×aB))(C:aB)(s₀:aH)(H₀:Hp)(ex:List aB):Cx:=
 { X with N:=N,s₀:=s₀,H₀:=H₀,env:=compEnvC sc cl C X.env,outer:=X.stack,ex:=ex,fn:=fun _=>false,pn:=[],xe:=fun _ _=>False }
structure CompScope (X:Cx)(N:List aD)(cap:List (Option Nat))(sc:gN):Prop where
 kind:sc.kind = .function
 nocell : ∀ y∈sc.names,y.2 ≠ .cell
 nm : ∀ y∈sc.names,y.2 = .local->sc.names.lookup y.1=some .local
 fre : ∀ y∈sc.names,y.2 = .free->X.env.scope.names.lookup y.1=some .cell \/ X.env.scope.names.lookup y.1=some .free
 len:cap.length=N.length
 cap : ∀ (i j:Nat),cap[i]?=some (some j) -> ∃ x,N[i]?=some x/\X.N[j]?=some x/\sc.names.lookup x=some .free
noncomputable def sS (cap:List (Option Nat))(σ:St):St:=cap.map fun o=>o.bind fun j=>(σ[j]?).join
def xM (X:Cx)(ifs:List aR)(t:TT):Prop:=
 ∀ (pins:List (aB×aY)) (s:aH) (σ:St) (H:Hp) (Q:Bool->Hp->Prop),Inv X pins σ H s->t σ H Q ->
  aQ (aT X.prog X.w) X.A (forIn ifs true fun c r=>if r=true then do let ok ← isTrue c X.env (bJ c X.env); pure (xF ok) else pure (xF r)) (TP X pins σ Q) X.xe s
noncomputable def XU:TT:=fun _ H Q=>Q true H
theorem Kh {X:Cx}:xM X [] XU:=fun _ _ _ H _ I h=>wpAny_tests_nil ⟨H,I,h⟩
def JE (cap:List (Option Nat))(J:It)(g:TG)(tc:TT)(te:TE)(σ:St)(H1:Hp)(Q:VK):Prop:=∀ D,H1 D=none ->
 ∃ W:Nat->Nat->List V->St->Hp->Prop,(∃ m,W 0 m [] (sS cap σ) (upd H1 D (.lst []))) /\
  ∀ i m ys σ' H',W i m ys σ' H'->H' D=some (.lst ys)/\((J.stop i H'/\Q (.ref D) H') \/
   (J.go i H'/\ys.length<sizeLine /\ ∃ M:List V->St->Hp->Prop,(∀ zs σ2 H2,M zs σ2 H2 -> ∃ m',m'<m/\W (i+1) m' zs σ2 H2) /\ ∀ x H2,J.yld i H' x H2->g x σ' H2 fun σ3 H3=>tc σ3 H3 fun b H4=>
    if b=true then te σ3 H4 fun y H5=>H5 D=some (.lst ys)/\M (ys++[y]) σ3 (upd H5 D (.lst (ys++[y]))) else M ys σ3 H4))
noncomputable def tLC (cap:List (Option Nat))(wi:TI)(g:TG)(tc:TT)(te:TE):TE:=fun σ H Q=>wi σ H fun J H1=>JE cap J g tc te σ H1 Q
section
variable {X:Cx}{N:List aD}{cap:List (Option Nat)}{sc:gN}{pins:List (aB×aY)}{σ:St}{H:Hp}{s:aH}
theorem CompScope.cells (S:CompScope X N cap sc)(ok:X.Ok) : ∀ n,(n,fN)∈sc.names -> ∃ c,X.env.cells.lookup n=some c:=fun n hn=>ok.has n (S.fre _ hn rfl)
theorem Ax (S:CompScope X N cap sc){fp:List aB}(I:Inv X pins σ H s)(hf : ∀ b∈fp,iR X pins H b)(hl : ∀ b∈fp,b<s.heap.objs.size) :
  (gL X N sc (eU X.env sc.names []) s.heap.objs.size s H fp).Ok:=by
 have sub : ∀ x c,(eU X.env sc.names []).lookup x=some c->X.env.cells.lookup x=some c:=FT sc.names [] (fun x c e=>by simp at e)
 refine⟨I.ok.mod,?_,I.ok.glob,I.ok.blt,bR _,?_,?_,?_,I.ok.hd,I.ok.frames,.inl rfl,?_,I.bs,jC I.ok.bsz I.sz,?_,?_,I.stack,I.stkFree⟩
 ·exact S.kind
 ·intro x y c h1 h2
  exact I.ok.inj x y c (sub x c h1) (sub y c h2)
 ·intro x hx
  have hk:(sX sc X.env).names.lookup x=some .cell \/ (sX sc X.env).names.lookup x=some .free:=hx
  have hfree:sc.names.lookup x=some .free:=by
   rw[QZ] at hk
   cases e:sc.names.lookup x with
   | none=>rw[e] at hk; simp at hk
   | some k=>
    rw[e] at hk
    have hm:=lookup_mem e
    have nc:=S.nocell _ hm
    simp only[qO,tL] at hk
    by_cases hc:(k == fN&&X.env.scope.kind == .function&&X.env.kindOf x == some .cell)=true
    ·have:(k == fN)=true:=by
      simp only[xH] at hc; exact hc.1.1
     rw[show k=fN by simpa using this]
    ·rw[if_neg hc] at hk
     rcases hk with q | q
     ·exact absurd q nc
     ·rw[q]
  obtain⟨c,hc⟩:=S.cells I.ok x (lookup_mem hfree)
  exact⟨c,GC hc _ _ (lookup_mem hfree)⟩
 ·intro x c h1 _
  exact absurd (show false=true from h1) pB
 ·intro b hb
  refine⟨dG (hl b hb),fun x c e=>(hf b hb).2.2.2.2.1 x c (sub x c e)⟩
 ·intro b o e hb
  rcases(hf b hb).2.2.2.1 with z | z
  ·exact I.ok.noex b o e z
  ·exact absurd (gQ (cG e) (jC I.ok.bsz z)) (kK _)
 ·intro b hb hz
  obtain⟨_,h1,h2,_⟩:=hf b hb
  rcases cP.mp (I.stkSub b hz) with e | e
  ·exact h1 e
  ·exact h2 e
theorem Oa (S:CompScope X N cap sc){fp:List aB}{h':aP}{tk:Nat}(I:Inv X pins σ H s)(hf : ∀ b∈fp,iR X pins H b)(hl : ∀ b∈fp,b<s.heap.objs.size)
  (hn:h'.Ns s.heap.objs.size fun _=>none) (hk : ∀ b o,s.heap.get? b=some o->h'.get? b=some o) :
  Inv (gL X N sc (eU X.env sc.names []) s.heap.objs.size s H fp) [] (sS cap σ) H { s with heap:=h',toks:=tk }:=by
 have sub : ∀ x c,(eU X.env sc.names []).lookup x=some c->X.env.cells.lookup x=some c:=FT sc.names [] (fun x c e=>by simp at e)
 have fr:H s.heap.objs.size=none:=I.hok.fresh (bR _)
 refine⟨Ax S I hf hl,rfl,I.bare,Un.kept hk,⟨_,hn,fun i x v e1 e2 e3=>?_⟩,fun x c e=>?_,fr,fun x c e=>I.freeC x c (sub x c e),fun p hp=>by simp[gL] at hp,I.hok.kept hk,?_⟩
 ·have e2':(cap.map fun o=>o.bind fun j=>(σ[j]?).join)[i]?=some (some v):=e2
  rw[eY] at e2'
  cases hc:cap[i]? with
  | none=>rw[hc] at e2'; simp at e2'
  | some o=>
   rw[hc] at e2'
   simp only[qO,tL] at e2'
   cases o with
   | none=>simp at e2'
   | some j=>
    have e2':(σ[j]?).join=some v:=e2'
    have ej:σ[j]?=some (some v):=by
     cases q:σ[j]? with
     | none=>rw[q] at e2'; simp at e2'
     | some z=>rw[q] at e2'; simp at e2'; rw[e2']
    obtain⟨y,n1,n2,fr1⟩:=S.cap i j hc
    have exy:x=y:=dZ (e1.symm.trans n1)
    subst exy
    have hmem:=lookup_mem fr1
    have hkind:=S.fre _ hmem rfl
    obtain⟨m,_,hlk⟩:=I.loc
    obtain⟨u,r,l⟩:=hlk j x v n2 ej (.inr hkind)
    refine⟨u,r,.inr ⟨?_,?_⟩⟩
    ·show(sX sc X.env).names.lookup x=some .cell \/ (sX sc X.env).names.lookup x=some .free
     rw[QZ,fr1]
     simp only[qO,tL]
     by_cases hc:(fN == fN&&X.env.scope.kind == .function&&X.env.kindOf x == some .cell)=true
     ·exact .inl (if_pos hc)
     ·exact .inr (if_neg hc)
    ·rcases l with⟨k1,_⟩ | ⟨_,c,hc1,hcell⟩
     ·exfalso
      have k1':X.env.scope.names.lookup x=some .local:=k1
      rcases hkind with q | q
      ·rw[k1'] at q; cases q
      ·rw[k1'] at q; cases q
     ·obtain⟨oc,h1,h2⟩:=hcell
      exact⟨c,GC hc1 _ _ hmem,oc,hk _ _ h1,h2⟩
 ·obtain⟨v,oc,h1,h2⟩:=I.cell x c (sub x c e)
  exact⟨v,oc,hk _ _ h1,h2⟩
 ·show(cap.map _).length=N.length
  rw[cL,S.len]
theorem comp_back {fp:List aB}{cl:List (aD×aB)}{σ':St}{H':Hp}{s':aH}{pl:List (aB×aY)}(I:Inv X pins σ H s)(hf : ∀ b∈fp,iR X pins H b)
  (I':Inv (gL X N sc cl s.heap.objs.size s H fp) pl σ' H' s'):Inv X pins σ H' s':=
 I.call' I'.os (show Un (frs X.stack) fp H H' s.heap s'.heap from I'.base) I'.hok I'.bare fun b hb=>⟨(hf b hb).2.2.2.1,(hf b hb).2.1,(hf b hb).2.2.2.2.1,(hf b hb).2.2.2.2.2⟩
end
section
variable {X:Cx}{N:List aD}{cap:List (Option Nat)}{sc:gN}{elt iter tg:aR}{ifs:List aR}{pos:bL}{wi:TI}{g:TG}{tc:TT}{te:TE}
def Block (X:Cx)(N:List aD)(sc:gN)(tg elt:aR)(ifs:List aR)(g:TG)(tc:TT)(te:TE):Prop:=
 ∀ (cl:List (aD×aB)) (C:aB) (s₀:aH) (H₀:Hp) (ex:List aB),PG (gL X N sc cl C s₀ H₀ ex) tg g/\xM (gL X N sc cl C s₀ H₀ ex) ifs tc/\PE (gL X N sc cl C s₀ H₀ ex) elt te
theorem KN {pins:List (aB×aY)}{σ:St}{H:Hp}{s:aH}{RR:aE->aB->qM->aH->Prop}{E:aE->aH->Prop}(hc:X.calm=true)(S:CompScope X N cap sc)(hb:Block X N sc tg elt ifs g tc te)
  {it:aB} {fp:List aB} {tn:Nat->aP->Prop} {J:It} {Q:VK} (I:Inv X pins σ H s) (T:Turn X.prog X.w X.K tg J fp it tn) (st:tn 0 s.heap) (hf : ∀ b∈fp,iR X pins H b)
  (q:JE cap J g tc te σ H Q)
  (hRR : ∀ (D:aB) (s₀:aH) (H₀:Hp) (σ':St) (H':Hp) (s':aH),Inv X pins σ H₀ s₀->(∀ b∈fp,iR X pins H₀ b)->Inv (gL X N sc (eU X.env sc.names []) s₀.heap.objs.size s₀ H₀ fp) [] σ' H' s'->Q (.ref D) H' ->
   RR (.ref D) s₀.heap.objs.size (.ok .next) s') :
  aQ (aT X.prog X.w) X.A (newList []) (fun acc s₃=>aQ (aT X.prog X.w) X.A (newFunctionEnv sc X.env.globals (eU X.env sc.names []) [] X.env.qual none .none (some X.env)) (fun cenv s₄=>
   lA (aT X.prog X.w) X.A (.compStart (.ListComp elt [⟨tg,iter,ifs,0⟩] sc pos) 0 (.ref it) acc { cenv with scope:=sX sc X.env }) (RR acc cenv.locals) s₄) E s₃) E s:=by
 have hl : ∀ b∈fp,b<s.heap.objs.size:=fun b hb=>by
  obtain⟨o,e,_⟩:=T.obj 0 _ st b hb
  exact cG e
 refine AJ (wpAny_newFunctionEnv S.nocell (by intro y hy; simp at hy) (fun h₁ hns₁ hsb₁=>?_) S.kind)
 dsimp only at hns₁ hsb₁ ⊢
 have I0:Inv X pins σ (upd H s.heap.objs.size (.lst [])) { s with heap:=s.heap.push { cls:=.type "list",data:=.seq ([]:List aE).toArray },toks:=s.toks }:=I.lnew (ys:=[]) .nil (by simp)
 obtain⟨W,⟨m0,w0⟩,turn⟩:=q s.heap.objs.size I.fresh
 generalize hs0:({ s with heap:=s.heap.push { cls:=.type "list",data:=.seq ([]:List aE).toArray },toks:=s.toks }:aH)=s0 at I0
 have hh:s.heap.push { cls:=.type "list",dict:=none,data:=.seq ([]:List aE).toArray }=s0.heap:=by rw[← hs0]
 have ht0:s0.toks=s.toks:=by rw[← hs0]
 have hg0:s0.gens=s.gens/\s0.drawn=s.drawn/\s0.os=s.os:=by rw[← hs0]; exact⟨rfl,rfl,rfl⟩
 rw[hh] at hns₁ hsb₁ ⊢
 have old0 : ∀ b o,s.heap.get? b=some o->s0.heap.get? b=some o:=fun b o e=>by rw[← hh]; exact cN _ e
 have old1 : ∀ b o,s0.heap.get? b=some o->h₁.get? b=some o:=fun b o e=>hsb₁.extBut b o (dG (cG e)) (cN _ e)
 have hl0 : ∀ b∈fp,b<s0.heap.objs.size:=fun b hb=>by
  obtain⟨o,e,_⟩:=T.obj 0 _ st b hb
  exact cG (old0 b o e)
 have hf0 : ∀ b∈fp,iR X pins (upd H s.heap.objs.size (.lst [])) b:=fun b hb=>by
  refine⟨?_,(hf b hb).2⟩
  rw[bO (dG (hl b hb))]
  exact(hf b hb).1
 have I1:Inv (gL X N sc (eU X.env sc.names []) s0.heap.objs.size s0 (upd H s.heap.objs.size (.lst [])) fp) [] (sS cap σ) (upd H s.heap.objs.size (.lst [])) { s0 with heap:=h₁,toks:=s.toks+0 }:=
  Oa S I0 hf0 hl0 hns₁ old1
 obtain⟨pg,pf,pe⟩:=hb (eU X.env sc.names []) s0.heap.objs.size s0 (upd H s.heap.objs.size (.lst [])) fp
 have st1:tn 0 h₁:=T.keep _ _ _ st fun b hb o e=>old1 b o (old0 b o e)
 have stat : ∀ {H':Hp},(∀ b∈fp,H' b=none) -> ∀ b∈fp,iR (gL X N sc (eU X.env sc.names []) s0.heap.objs.size s0 (upd H s.heap.objs.size (.lst [])) fp) [] H' b:=fun hn b hb=>
  ⟨hn b hb,(I1.ok.exf b hb).1,I1.ok.exfs b hb,.inl hb,(I1.ok.exf b hb).2,fun p hp=>by simp[gL] at hp⟩
 have loop : ∀ s3:aH,s3 = { s0 with heap:=h₁,toks:=s.toks+0 } ->
   lA (aT X.prog X.w) X.A (.compLoop (.ListComp elt [⟨tg,iter,ifs,0⟩] sc pos) 0 (.ref it) (.ref s.heap.objs.size) (compEnvC sc (eU X.env sc.names []) s0.heap.objs.size X.env)) (RR (.ref s.heap.objs.size) s0.heap.objs.size) s3:=by
  rintro s3 rfl
  refine Ep (fun n s'=>∃ i ys σ' H',Inv (gL X N sc (eU X.env sc.names []) s0.heap.objs.size s0 (upd H s.heap.objs.size (.lst [])) fp) [] σ' H' s'/\tn i s'.heap/\(∀ b∈fp,H' b=none)/\W i n ys σ' H') ?_ m0
   ⟨0,[],sS cap σ,_,I1,st1,fun b hb=>(hf0 b hb).1,w0⟩
  rintro n s3 ⟨i,ys,σ3,H3,I3,st3,fr3,w3⟩
  obtain⟨hD,h3⟩:=turn i n ys σ3 H3 w3
  rcases h3 with⟨stop,qn⟩ | ⟨go,hlen,M,hM,step⟩
  ·refine thn (T.done (gL X N sc (eU X.env sc.names []) s0.heap.objs.size s0 (upd H s.heap.objs.size (.lst [])) fp) rfl rfl rfl hc i [] s3 σ3 H3 (fun _ _=>False) I3 (stat fr3) st3 stop) fun r s4 gh=>?_
   obtain⟨hr,I4⟩:=gh
   subst hr
   exact hRR _ s0 _ σ3 H3 s4 I0 hf0 I4 qn
  ·refine thn (T.item (gL X N sc (eU X.env sc.names []) s0.heap.objs.size s0 (upd H s.heap.objs.size (.lst [])) fp) rfl rfl rfl hc i [] s3 σ3 H3 (fun _ _=>False) I3 (stat fr3) st3 go) fun r s4 gh=>?_
   obtain⟨u,hr,h4⟩:=gh
   subst hr
   refine thn h4 fun _ s5 gh=>?_
   obtain⟨x,H5,I5,r5,y5,st5,fr5⟩:=gh
   have I5':=I5.pinned (stat fr5) (T.obj _ _ st5)
   refine thn (pg _ s5 σ3 H5 x u _ I5' r5 (step x H5 y5)) fun _ s6 gh=>?_
   obtain⟨σ6,H6,I6,q6⟩:=gh
   refine thn (pf _ s6 σ6 H6 _ I6 q6) fun b s7 gh=>?_
   obtain⟨H7,I7,q7⟩:=gh
   have again : ∀ {s8:aH} {H8:Hp} {zs:List V},Inv (gL X N sc (eU X.env sc.names []) s0.heap.objs.size s0 (upd H s.heap.objs.size (.lst [])) fp) ([]++uI fp s5.heap) σ6 H8 s8->M zs σ6 H8 ->
     ∃ m,m<n /\ ∃ i ys σ' H',Inv (gL X N sc (eU X.env sc.names []) s0.heap.objs.size s0 (upd H s.heap.objs.size (.lst [])) fp) [] σ' H' s8/\tn i s8.heap/\(∀ b∈fp,H' b=none)/\W i m ys σ' H':=fun {s8 H8 zs} I8 w8=>by
    obtain⟨m',hm,w8⟩:=hM _ _ _ w8
    refine⟨m',hm,i+1,zs,σ6,H8,I8.unpinned,T.keep _ _ _ st5 fun b hb o e=>(I8.pin (b,o) (mF _ (mF _ (zG hb e)))).1,fun b hb=>?_,w8⟩
    obtain⟨o,e,d⟩:=T.obj _ _ st5 b hb
    exact(I8.pin (b,o) (mF _ (mF _ (zG hb e)))).2.1
   cases b with
   | false=>
    rw[if_neg pB] at q7 ⊢
    exact again I7 q7
   | true=>
    rw[if_pos rfl] at q7 ⊢
    refine thn (pe _ s7 σ6 H7 _ I7 q7) fun v s8 gh=>?_
    obtain⟨y,H8,I8,r8,hD8,w8⟩:=gh
    refine thn (FG _ s8 σ6 H8 (.ref s.heap.objs.size) [y] (.ref s.heap.objs.size) [v] (fun _ H9=>H9=upd H8 s.heap.objs.size (.lst (ys++[y]))) I8 rfl (.cons r8 .nil) ⟨_,ys,y,rfl,rfl,hD8,hlen,rfl⟩) fun _ s9 gh=>?_
    obtain⟨_,H9,I9,_,e9⟩:=gh
    subst e9
    exact again I9 w8
 have e3:({ s with heap:=h₁,toks:=s.toks+([]:List (aD×aE)).length }:aH) = { s0 with heap:=h₁,toks:=s.toks+0 }:=by
  rw[← hs0]; rfl
 have fin:=codeAny_compStart_list (loop _ rfl) (T.self X.A 0 _ _ _ st1 (loop _ rfl))
 rw[← e3] at fin
 exact fin
theorem YK (hc:X.calm=true)(S:CompScope X N cap sc)(hi:PI X tg iter wi)(hb:Block X N sc tg elt ifs g tc te)(hs : ∀ x,qJ iter X.env x=pure x:=by intro _; rfl) :
  PE X (.ListComp elt [⟨tg,iter,ifs,0⟩] sc pos) (tLC cap wi g tc te):=by
 intro pins s σ H Q I h
 rw[eval_ListComp]
 refine wpAny_comprehension_free rfl hs (RE (S.cells I.ok)) S.kind S.nm (thn (hi pins s σ H _ I h) fun v s1 h1=>thn h1 fun itv s2 h2=>?_)
 obtain⟨it,fp,tn,J,H2,e,I2,T,st2,f2,q2⟩:=h2
 subst e
 refine KN hc S hb I2 T st2 f2 q2 ?_
 intro D s₀ H₀ σ' H' s' I0 f0 I' qD
 obtain⟨m,hn,_⟩:=id I'.loc
 have IX:=comp_back I0 f0 I'
 refine⟨m,hn,fun h' hs'=>⟨.ref D,H',?_,rfl,qD⟩⟩
 exact IX.turned (fun b o hb e=>(hs'.2 b hb).trans e) I'.free (qP I0.lt) (.inr I0.sz) (fun x c e z=>by
  obtain⟨v,oc,h1,_⟩:=I0.cell x c e
  exact absurd (cG h1) (by rw[z]; exact kK _)) fun p hp z=>by
   have h1:=(I0.pin p hp).1
   exact absurd (cG h1) (by rw[z]; exact kK _)
theorem Oh {i:Nat}{x:aD}{px spos:bL}(hc:X.calm=true)(hN:X.N.Nodup)(hi':X.N[i]?=some x)(hx:kO X.env.scope x)(S:CompScope X N cap sc)(hi:PI X tg iter wi)(hb:Block X N sc tg elt ifs g tc te)
  (hsw:lY (.ListComp elt [⟨tg,iter,ifs,0⟩] sc pos) (some (.Name x px)) spos.line X.env=pure true:=by rfl)
  (hs : ∀ x,qJ iter X.env x=pure x:=by intro _; rfl) (hf:X.fn x=true \/ X.env.scope.names.lookup x=some .local:=by first | exact .inl rfl | exact .inr rfl | assumption) :
  PS X (.Assign [.Name x px] (.ListComp elt [⟨tg,iter,ifs,0⟩] sc pos) spos) (BK (tLC cap wi g tc te) (HA i)):=by
 intro pins s σ H D I h
 rw[exec_Assign_Name_used _ _ _ _ hsw]
 refine aK (wpAny_standAt (aK ?_))
 refine aK (iX (wpAny_comprehension_free rfl hs (RE (S.cells I.ok)) S.kind S.nm
  (thn (hi pins s σ H _ I h) fun v s1 h1=>thn h1 fun itv s2 h2=>?_)) (fun _ s' hq=>bA (bA hq)) fun _ _ e=>e)
 obtain⟨it,fp,tn,J,H2,e,I2,T,st2,f2,q2⟩:=h2
 subst e
 refine KN hc S hb I2 T st2 f2 q2 ?_
 intro D' s₀ H₀ σ' H' s' I0 f0 I' qD
 obtain⟨m,hn,_⟩:=id I'.loc
 have IX:=comp_back I0 f0 I'
 have cellNe : ∀ x c,X.env.cells.lookup x=some c->c≠s₀.heap.objs.size:=fun x c e z=>by
  obtain⟨v,oc,h1,_⟩:=I0.cell x c e
  exact absurd (cG h1) (by rw[z]; exact kK _)
 refine wpAny_assign_Name (NX IX hN hi' hx (show RelV (.ref D') (.ref D') from rfl) (fun s3 I3 ch=>?_) hf)
 obtain⟨a,sb,ha⟩:=ch
 have hne:s₀.heap.objs.size≠a:=by
  rcases ha with z | z
  ·rw[z]; exact qP I0.lt
  ·exact fun q=>cellNe x a z q.symm
 refine⟨m,Heap.Ns.sameBut hn sb hne,fun h' hs'=>⟨_,H',?_,qD⟩⟩
 exact I3.turned (fun b o hb e=>(hs'.2 b hb).trans e) I'.free (qP I0.lt) (.inr I0.sz) cellNe fun p hp z=>by
  have h1:=(I0.pin p hp).1
  exact absurd (cG h1) (by rw[z]; exact kK _)
end
noncomputable def KY (out:List (aD×kL))(XN N:List aD)(cap:List (Option Nat))(ns:List (aD×kL)):Bool:=
 ns.all (fun y=>y.2 != .cell)&&ns.all (fun y=>y.2 != .local||ns.lookup y.1 == some .local)&&ns.all (fun y=>y.2 != .free||out.lookup y.1 == some .cell||out.lookup y.1 == some .free) &&
 cap.length == N.length&&(cap.zip N).all (fun p=>match p.1 with | none=>true | some j=>XN[j]? == some p.2&&ns.lookup p.2 == some .free)
theorem nB {X:Cx}{N:List aD}{cap:List (Option Nat)}{sc:gN}{out:List (aD×kL)}{XN:List aD}(h1:X.env.scope.names=out)(h2:X.N=XN)(chk:KY out XN N cap sc.names=true)(hk:sc.kind = .function):CompScope X N cap sc:=by
 unfold KY at chk
 simp only[xH,fV,bne_iff_ne,ne_eq,Bool.or_eq_true,beq_iff_eq] at chk
 obtain⟨⟨⟨⟨c1,c2⟩,c3⟩,c4⟩,c5⟩:=chk
 refine⟨hk,c1,fun y hy e=>?_,fun y hy e=>?_,c4,fun i j e=>?_⟩
 ·rcases c2 y hy with q | q
  ·exact absurd e q
  ·exact q
 ·rw[h1]
  rcases c3 y hy with(q | q) | q
  ·exact absurd e q
  ·exact .inl q
  ·exact .inr q
 ·have hi:=(dU.mp e).1
  have hi':i<N.length:=by omega
  have hm:(cap[i],N[i])∈cap.zip N:=by
   have:(cap.zip N)[i]?=some (cap[i],N[i]):=by
    rw[List.getElem?_zip_eq_some]
    exact⟨iP hi,iP hi'⟩
   exact nL this
  have q:=c5 _ hm
  have ec:cap[i]=some j:=by
   rw[iP hi] at e
   exact dZ e
  rw[ec] at q
  simp only[xH,beq_iff_eq] at q
  exact⟨N[i],iP hi',by rw[h2]; exact q.1,q.2⟩
abbrev Ext (H H':Hp):Prop:=∀ b o,H b=some o->H' b=some o
theorem Ext.refl {H:Hp}:Ext H H:=fun _ _ e=>e
theorem Ext.trans {H H1 H2:Hp}(a:Ext H H1)(b:Ext H1 H2):Ext H H2:=fun x o e=>b x o (a x o e)
theorem Ext.new {H:Hp}{p:aB}{o:HO}(n:H p=none):Ext H (upd H p o):=fun b u e=>by
 rw[bO (gM e n)]; exact e
theorem Ext.rd {H H':Hp}(x:Ext H H'){a:aB}{u:HO}(r:Rd H a u):Rd H' a u:=by
 rcases r with r | ⟨o,r⟩
 ·exact .inl (x _ _ r)
 ·exact .inr ⟨o,x _ _ r⟩
theorem Ext.sqL {K:aG}{H H':Hp}(x:Ext H H'){a:aB}{xs:List V}(h:SqL K H a xs):SqL K H' a xs:=h.imp x.rd id
theorem Ext.none {H H':Hp}(x:Ext H H'){a:aB}(h:H' a=IA):H a=IA:=by
 cases e:H a with
 | none=>rfl
 | some o=>rw[x a o e] at h; cases h
theorem Ext.ty {K:aG}{H H':Hp}(x:Ext H H'){v:V}{t:aE}(h:TyOf K H v t):TyOf K H' v t:=by
 cases h with
 | non=>exact .non
 | bl b=>exact .bl b
 | int i=>exact .int i
 | str y=>exact .str y
 | flt y=>exact .flt y
 | lst e=>exact .lst (x _ _ e)
 | frz e=>exact .frz (x _ _ e)
 | tup e=>exact .tup (x _ _ e)
 | dK e=>exact .dK (x _ _ e)
 | dT e=>exact .dT (x _ _ e)
 | ins e cl ha hn htk hm=>exact .ins (x _ _ e) cl ha hn htk hm
open Classical in
noncomputable def hid (H:Hp)(P:aB->Prop):Hp:=fun a=>if P a then none else H a
theorem Ab7 {H:Hp}{P:aB->Prop}{a:aB}{o:HO}:hid H P a=some o ↔ ¬ P a/\H a=some o:=by
 unfold hid
 by_cases h:P a <;> simp[h]
theorem eK {H:Hp}{P:aB->Prop}{a:aB}{o:HO}(n : ¬ P a)(e:H a=some o):hid H P a=some o:=Ab7.mpr ⟨n,e⟩
theorem Aay {H:Hp}{P:aB->Prop}:Ext (hid H P) H:=fun _ _ e=>(Ab7.mp e).2
theorem bS {H H':Hp}{P:aB->Prop}(x:Ext H H'):Ext (hid H P) (hid H' P):=fun b o e=>by
 obtain⟨n,e⟩:=Ab7.mp e
 exact eK n (x b o e)
theorem fQ {H:Hp}{P P':aB->Prop}(s : ∀ a,P' a->P a):Ext (hid H P) (hid H P'):=fun b o e=>by
 obtain⟨n,e⟩:=Ab7.mp e
 exact eK (fun q=>n (s b q)) e
inductive DQ where
 | inl (kvs:Nat×List (aL×V)) | inr (ts:Nat×List (List aA×V)) | ins (C dx:aB) (fs:List (aD×V))
noncomputable def dO:DQ->HO
 | .inl kvs=>.dK kvs.1 kvs.2
 | .inr ts=>.dT ts.1 ts.2
 | .ins C dx fs=>.ins C dx fs
def Hid (P:aB->Prop)(H:Hp):Prop:=∀ a,P a->(∃ xs,H a=some (.lst xs)) \/ ∃ q:DQ,H a=some (dO q)
theorem Hid.ext {P:aB->Prop}{H H':Hp}(h:Hid P H)(x:Ext H H'):Hid P H':=fun a p=>(h a p).imp (fun⟨xs,e⟩=>⟨xs,x _ _ e⟩) fun⟨xs,e⟩=>⟨xs,x _ _ e⟩
theorem Hid.new {P:aB->Prop}{H:Hp}(h:Hid P H){a:aB}(n:H a=none) : ¬ P a:=fun p=>by
 rcases h a p with⟨xs,e⟩ | ⟨xs,e⟩ <;> rw[n] at e <;> cases e
theorem Hid.tup {P:aB->Prop}{H:Hp}(h:Hid P H){a:aB}{xs:List V}(e:H a=some (.tup xs)):hid H P a=some (.tup xs):=eK (fun p=>by
 rcases h a p with⟨ys,e2⟩ | ⟨ys,e2⟩ <;> rw[e] at e2 <;> first | cases e2 | (cases ys <;> simp[dO] at e2)) e
abbrev orL (P:aB->Prop)(F:List aB):aB->Prop:=fun a=>P a \/ a∈F
theorem LI {P:aB->Prop}:orL P []=P:=by
 funext a
 simp[orL]
noncomputable def kD:aL->aA
 | .inl i=>.int i
 | .inr x=>.str x
noncomputable def JB (a:aB)(kvs:Nat×List (V×V)):HO:=.ext fun h=>kvs.2.length≤sizeLine/\(a == gV)=false /\ ∃ o es,h.get? a=some o/\o.ExactDict/\o.data = .dict es kvs.1/\dI (fun(p:V×V) (e:mH)=>RelV p.1 e.key/\RelV p.2 e.val) kvs.2 es.toList
noncomputable def dP (K:aG)(c:aD):Option aE:=(dA K cF c).join
def Bcn (x:aB)(cls:aE)(h:aP):Prop:=∃ o,h.get? x=some o/\o.cls=cls /\ ∃ vs,o.data = .fields vs
noncomputable def exO (cls:aE)(a:aB):HO:=.ext (Bcn a cls)
def A2n (K:aG)(H:Hp)(kds:List (aA×aA))(a:aB):Prop:=(∃ c cls,kds=[(.none,.str c),(.none,.none)]/\dP K c=some cls/\H a=some (exO cls a)) \/ ∃ c,kds=[(.none,.str c),(.none,.bool false)]/\dP K c=some (.ref a)
theorem A2n.mark {K:aG}{H:Hp}{kds:List (aA×aA)}{a:aB}(h:A2n K H kds a) : ∃ c m,kds=[(.none,.str c),(.none,m)]:=by
 rcases h with⟨c,_,e,_⟩ | ⟨c,e,_⟩
 ·exact⟨c,_,e⟩
 ·exact⟨c,_,e⟩
theorem A2n.ext {K:aG}{H H':Hp}(x:Ext H H'){kds:List (aA×aA)}{a:aB}(h:A2n K H kds a):A2n K H' kds a:=h.imp (fun⟨c,cls,e,h1,h2⟩=>⟨c,cls,e,h1,x _ _ h2⟩) id
mutual
def Abe (K:aG)(H:Hp):aA->V->Prop
 | .none,v=>v = .non
 | .bool b,v=>v = .bl b
 | .int i,v=>v = .int i
 | .str x,v=>v = .str x/\cO (.str x)=true
 | .list ds,v=>∃ a xs,v = .ref a/\SqL K H a xs/\Aap K H ds xs
 | .tuple ds,v=>∃ a xs,v = .ref a/\H a=some (.tup xs)/\Aap K H ds xs
 | .dict kds,v=>∃ a,v = .ref a/\((∃ kvs:Nat×List (aL×V),H a=some (.dK kvs.1 kvs.2)/\Abq K H kds kvs.2) \/ (∃ ts:Nat×List (List aA×V),H a=some (.dT ts.1 ts.2)/\Avm K H kds ts.2) \/ (∃ xs,H a=some (JB a xs)/\Axm K H kds xs.2) \/ A2n K H kds a \/ Aw1 K H kds a)
def Aap (K:aG)(H:Hp):List aA->List V->Prop
 | [],xs=>xs=[]
 | d::ds,xs=>∃ x r,xs=x::r/\Abe K H d x/\Aap K H ds r
def Abq (K:aG)(H:Hp):List (aA×aA)->List (aL×V)->Prop
 | [],xs=>xs=[]
 | (k,d)::ds,xs=>∃ k' x r,xs=(k',x)::r/\k=kD k'/\Abe K H d x/\Abq K H ds r
def Ab0 (K:aG)(H:Hp):List (aA×aA)->List (List aA×V)->Prop
 | [],xs=>xs=[]
 | (k,d)::ds,xs=>∃ k' x r,xs=(k',x)::r/\(k = .tuple k'/\bP k'=true)/\Abe K H d x/\Ab0 K H ds r
def Avm (K:aG)(H:Hp):List (aA×aA)->List (List aA×V)->Prop
 | [],_=>False
 | (k,_)::ds,xs=>k = .none/\Ab0 K H ds xs
def Axm (K:aG)(H:Hp):List (aA×aA)->List (V×V)->Prop
 | [],_=>False
 | (k,m)::ds,xs=>k = .none/\ds=[(.none,.none)]/\Aq0 K H m xs
def Aq0 (K:aG)(H:Hp):aA->List (V×V)->Prop
 | .list es,xs=>Ah3 K H es xs
 | _,_=>False
def Ah3 (K:aG)(H:Hp):List aA->List (V×V)->Prop
 | [],xs=>xs=[]
 | d::ds,xs=>∃ x r,xs=x::r/\Amo K H d x/\Ah3 K H ds r
def Amo (K:aG)(H:Hp):aA->V×V->Prop
 | .tuple ds,x=>Aap K H ds [x.1,x.2]
 | _,_=>False
def Aw1 (K:aG)(H:Hp):List (aA×aA)->aB->Prop
 | [],_=>False
 | (k,m)::ds,a=>k = .none /\ ∃ c C dx fs,m = .str c/\dP K c=some (.ref C)/\H a=some (.ins C dx fs)/\Aig K H ds fs
def Aig (K:aG)(H:Hp):List (aA×aA)->List (aD×V)->Prop
 | [],fs=>fs=[]
 | (k,m)::ds,fs=>∃ f x r,fs=(f,x)::r/\k = .none/\Amo K H m (.str f,x)/\Aig K H ds r
end
noncomputable def plK:List (aA×aA)->Bool
 | (.none,_)::_=>false
 | _=>true
section
variable {K:aG}{H H':Hp}
theorem Acd {v:V}:Abe K H .none v↔v = .non:=by simp[Abe]
theorem Aan {b:Bool}{v:V}:Abe K H (.bool b) v↔v = .bl b:=by simp[Abe]
theorem Aaq {b:Int}{v:V}:Abe K H (.int b) v↔v = .int b:=by simp[Abe]
theorem Aas {b:aD}{v:V}:Abe K H (.str b) v↔v = .str b/\cO (.str b)=true:=by simp only[Abe]
theorem Abm {ds:List aA}{v:V}:Abe K H (.list ds) v ↔ ∃ a xs,v = .ref a/\SqL K H a xs/\Aap K H ds xs:=by simp only[Abe]
theorem Aaw {ds:List aA}{v:V}:Abe K H (.tuple ds) v ↔ ∃ a xs,v = .ref a/\H a=some (.tup xs)/\Aap K H ds xs:=by simp only[Abe]
theorem Abz {ds:List (aA×aA)}{v:V}:Abe K H (.dict ds) v ↔ ∃ a,v = .ref a/\((∃ kvs:Nat×List (aL×V),H a=some (.dK kvs.1 kvs.2)/\Abq K H ds kvs.2) \/ (∃ ts:Nat×List (List aA×V),H a=some (.dT ts.1 ts.2)/\Avm K H ds ts.2) \/ (∃ xs,H a=some (JB a xs)/\Axm K H ds xs.2) \/ A2n K H ds a \/ Aw1 K H ds a):=by simp only[Abe]
theorem Ai0 {k m:aA}{ds:List (aA×aA)}{a:aB}:Aw1 K H ((k,m)::ds) a↔k = .none /\ ∃ c C dx fs,m = .str c/\dP K c=some (.ref C)/\H a=some (.ins C dx fs)/\Aig K H ds fs:=by simp only[Aw1]
theorem Aka {fs:List (aD×V)}:Aig K H [] fs↔fs=[]:=by simp[Aig]
theorem Ad8 {k m:aA}{ds:List (aA×aA)}{fs:List (aD×V)}:Aig K H ((k,m)::ds) fs ↔ ∃ f x r,fs=(f,x)::r/\k = .none/\Amo K H m (.str f,x)/\Aig K H ds r:=by simp only[Aig]
theorem OQ : ∀ {ds:List (aA×aA)} {fs:List (aD×V)},Aig K H ds fs -> ∀ p∈ds,p.1 = .none
 | [],_,_,p,m=>by simp at m
 | (k,d)::ds,fs,h,p,m=>by
  obtain⟨_,_,_,_,rfl,_,h2⟩:=Ad8.mp h
  rcases cP.mp m with rfl | m
  ·rfl
  ·exact OQ h2 p m
theorem yN {ds:List (aA×aA)}{a:aB}(h:A2n K H ds a \/ Aw1 K H ds a) : ∃ c r,ds=(.none,.str c)::r /\ ∀ p∈r,p.1 = .none:=by
 rcases h with h | h
 ·obtain⟨c,m,rfl⟩:=h.mark
  exact⟨c,_,rfl,fun p m=>by rw[dH.mp m]⟩
 ·cases ds with
  | nil=>simp[Aw1] at h
  | cons p r=>
   obtain⟨k,m⟩:=p
   obtain⟨rfl,c,_,_,_,rfl,_,_,h2⟩:=Ai0.mp h
   exact⟨c,r,rfl,OQ h2⟩
theorem Agr {k m:aA}{ds:List (aA×aA)}{xs:List (V×V)}:Axm K H ((k,m)::ds) xs↔k = .none/\ds=[(.none,.none)]/\Aq0 K H m xs:=by simp only[Axm]
theorem Br {m:aA}{xs:List (V×V)}(h:Aq0 K H m xs) : ∃ es,m = .list es/\Ah3 K H es xs:=by
 cases m with
 | list es=>exact⟨es,rfl,by simpa only[Aq0] using h⟩
 | _=>simp[Aq0] at h
theorem Atb {xs:List (V×V)}:Ah3 K H [] xs↔xs=[]:=by simp[Ah3]
theorem Apc {d:aA}{ds:List aA}{xs:List (V×V)}:Ah3 K H (d::ds) xs ↔ ∃ x r,xs=x::r/\Amo K H d x/\Ah3 K H ds r:=by simp only[Ah3]
theorem vE {ds:List (aA×aA)}{xs:List (V×V)}(h:Axm K H ds xs) : ∃ es,ds=[(.none,.list es),(.none,.none)]/\Ah3 K H es xs:=by
 cases ds with
 | nil=>simp[Axm] at h
 | cons p r=>
  obtain⟨k,m⟩:=p
  obtain⟨rfl,rfl,h1⟩:=Agr.mp h
  obtain⟨es,rfl,h2⟩:=Br h1
  exact⟨es,rfl,h2⟩
theorem Ab2 {xs:List (List aA×V)}:Ab0 K H [] xs↔xs=[]:=by simp[Ab0]
theorem Aa5 {k d:aA}{ds:List (aA×aA)}{xs:List (List aA×V)}:Ab0 K H ((k,d)::ds) xs ↔ ∃ k' x r,xs=(k',x)::r/\(k = .tuple k'/\bP k'=true)/\Abe K H d x/\Ab0 K H ds r:=by simp only[Ab0]
theorem Adc {k m:aA}{ds:List (aA×aA)}{xs:List (List aA×V)}:Avm K H ((k,m)::ds) xs↔k = .none/\Ab0 K H ds xs:=by simp only[Avm]
theorem ZJ {ds:List (aA×aA)}{xs:List (List aA×V)}(hk:plK ds=true) : ¬ Avm K H ds xs:=by
 cases ds with
 | nil=>simp[Avm]
 | cons p r=>
  obtain⟨k,d⟩:=p
  intro h
  rw[(Adc.mp h).1] at hk
  simp[plK] at hk
theorem uZ {ds:List (aA×aA)}{v:V}(hk:plK ds=true):Abe K H (.dict ds) v ↔ ∃ a,∃ kvs:Nat×List (aL×V),v = .ref a/\H a=some (.dK kvs.1 kvs.2)/\Abq K H ds kvs.2:=by
 rw[Abz]
 constructor
 ·rintro⟨a,e,⟨kvs,h,r⟩ | ⟨ts,h,r⟩ | ⟨xs,h,r⟩ | r⟩
  case inr.inr.inr=>
   obtain⟨_,_,rfl,_⟩:=yN r
   simp[plK] at hk
  ·exact⟨a,kvs,e,h,r⟩
  ·exact absurd r (ZJ hk)
  ·obtain⟨es,rfl,_⟩:=vE r
   simp[plK] at hk
 ·rintro⟨a,kvs,e,h,r⟩
  exact⟨a,e,.inl ⟨kvs,h,r⟩⟩
theorem FB {ds:List (aA×aA)}{v:V}{a:aB}{kvs:Nat×List (aL×V)}(e:v = .ref a)(h:H a=some (.dK kvs.1 kvs.2))(r:Abq K H ds kvs.2):Abe K H (.dict ds) v:=Abz.mpr ⟨a,e,.inl ⟨kvs,h,r⟩⟩
theorem Aai {xs:List V}:Aap K H [] xs↔xs=[]:=by simp[Aap]
theorem Aac {d:aA}{ds:List aA}{xs:List V}:Aap K H (d::ds) xs ↔ ∃ x r,xs=x::r/\Abe K H d x/\Aap K H ds r:=by simp only[Aap]
theorem Abr {xs:List (aL×V)}:Abq K H [] xs↔xs=[]:=by simp[Abq]
theorem Aaz {k d:aA}{ds:List (aA×aA)}{xs:List (aL×V)}:Abq K H ((k,d)::ds) xs ↔ ∃ k' x r,xs=(k',x)::r/\k=kD k'/\Abe K H d x/\Abq K H ds r:=by simp only[Abq]
theorem oI {m:aA}{ds:List (aA×aA)}{v:V}(hm : ∀ es,m ≠ .list es:=by intro _ z; cases z)(hm2 : ∀ c,m ≠ .str c:=by intro _ z; cases z):Abe K H (.dict ((.none,m)::ds)) v ↔ ∃ a,∃ ts:Nat×List (List aA×V),v = .ref a/\H a=some (.dT ts.1 ts.2)/\Ab0 K H ds ts.2:=by
 rw[Abz]
 constructor
 ·rintro⟨a,e,⟨kvs,h,r⟩ | ⟨ts,h,r⟩ | ⟨xs,h,r⟩ | r⟩
  case inr.inr.inr=>
   obtain⟨_,_,z,_⟩:=yN r
   cases z
   exact absurd rfl (hm2 _)
  ·obtain⟨k',_,_,_,ek,_⟩:=Aaz.mp r
   cases k' <;> simp[kD] at ek
  ·exact⟨a,ts,e,h,(Adc.mp r).2⟩
  ·obtain⟨es,z,_⟩:=vE r
   cases z
   exact absurd rfl (hm es)
 ·rintro⟨a,ts,e,h,r⟩
  exact⟨a,e,.inr (.inl ⟨ts,h,Adc.mpr ⟨rfl,r⟩⟩)⟩
end
mutual
theorem Abe.ext {K:aG}{H H':Hp}(x:Ext H H') : ∀ {d:aA} {v:V},Abe K H d v->Abe K H' d v
 | .none,_,h=>Acd.mpr (Acd.mp h)
 | .bool _,_,h=>Aan.mpr (Aan.mp h)
 | .int _,_,h=>Aaq.mpr (Aaq.mp h)
 | .str _,_,h=>Aas.mpr (Aas.mp h)
 | .list ds,_,h=>by
  obtain⟨a,xs,e,s,r⟩:=Abm.mp h
  exact Abm.mpr ⟨a,xs,e,x.sqL s,Aap.ext x r⟩
 | .tuple ds,_,h=>by
  obtain⟨a,xs,e,s,r⟩:=Aaw.mp h
  exact Aaw.mpr ⟨a,xs,e,x _ _ s,Aap.ext x r⟩
 | .dict ds,_,h=>by
  obtain⟨a,e,⟨kvs,r,q⟩ | ⟨ts,r,q⟩ | ⟨xs,r,q⟩ | r⟩:=Abz.mp h
  ·exact Abz.mpr ⟨a,e,.inl ⟨kvs,x _ _ r,Abq.ext x q⟩⟩
  ·exact Abz.mpr ⟨a,e,.inr (.inl ⟨ts,x _ _ r,Avm.ext x q⟩)⟩
  ·exact Abz.mpr ⟨a,e,.inr (.inr (.inl ⟨xs,x _ _ r,Axm.ext x q⟩))⟩
  ·exact Abz.mpr ⟨a,e,.inr (.inr (.inr (r.imp (fun r=>r.ext x) fun r=>Aw1.ext x r)))⟩
theorem Aw1.ext {K:aG}{H H':Hp}(x:Ext H H') : ∀ {ds:List (aA×aA)} {a:aB},Aw1 K H ds a->Aw1 K H' ds a
 | [],_,h=>absurd h (by simp[Aw1])
 | (k,d)::ds,_,h=>by
  obtain⟨e,c,C,dx,fs,e1,e2,e3,h2⟩:=Ai0.mp h
  exact Ai0.mpr ⟨e,c,C,dx,fs,e1,e2,x _ _ e3,Aig.ext x h2⟩
theorem Aig.ext {K:aG}{H H':Hp}(x:Ext H H') : ∀ {ds:List (aA×aA)} {fs:List (aD×V)},Aig K H ds fs->Aig K H' ds fs
 | [],_,h=>Aka.mpr (Aka.mp h)
 | (k,d)::ds,_,h=>by
  obtain⟨f,y,r,e,ek,h1,h2⟩:=Ad8.mp h
  exact Ad8.mpr ⟨f,y,r,e,ek,Amo.ext x h1,Aig.ext x h2⟩
theorem Aap.ext {K:aG}{H H':Hp}(x:Ext H H') : ∀ {ds:List aA} {vs:List V},Aap K H ds vs->Aap K H' ds vs
 | [],_,h=>Aai.mpr (Aai.mp h)
 | d::ds,_,h=>by
  obtain⟨y,r,e,h1,h2⟩:=Aac.mp h
  exact Aac.mpr ⟨y,r,e,Abe.ext x h1,Aap.ext x h2⟩
theorem Abq.ext {K:aG}{H H':Hp}(x:Ext H H') : ∀ {ds:List (aA×aA)} {vs:List (aL×V)},Abq K H ds vs->Abq K H' ds vs
 | [],_,h=>Abr.mpr (Abr.mp h)
 | (k,d)::ds,_,h=>by
  obtain⟨k',y,r,e,ek,h1,h2⟩:=Aaz.mp h
  exact Aaz.mpr ⟨k',y,r,e,ek,Abe.ext x h1,Abq.ext x h2⟩
theorem Ab0.ext {K:aG}{H H':Hp}(x:Ext H H') : ∀ {ds:List (aA×aA)} {vs:List (List aA×V)},Ab0 K H ds vs->Ab0 K H' ds vs
 | [],_,h=>Ab2.mpr (Ab2.mp h)
 | (k,d)::ds,_,h=>by
  obtain⟨k',y,r,e,ek,h1,h2⟩:=Aa5.mp h
  exact Aa5.mpr ⟨k',y,r,e,ek,Abe.ext x h1,Ab0.ext x h2⟩
theorem Avm.ext {K:aG}{H H':Hp}(x:Ext H H') : ∀ {ds:List (aA×aA)} {vs:List (List aA×V)},Avm K H ds vs->Avm K H' ds vs
 | [],_,h=>absurd h (by simp[Avm])
 | (k,d)::ds,_,h=>Adc.mpr ⟨(Adc.mp h).1,Ab0.ext x (Adc.mp h).2⟩
theorem Axm.ext {K:aG}{H H':Hp}(x:Ext H H') : ∀ {ds:List (aA×aA)} {vs:List (V×V)},Axm K H ds vs->Axm K H' ds vs
 | [],_,h=>absurd h (by simp[Axm])
 | (k,d)::ds,_,h=>Agr.mpr ⟨(Agr.mp h).1,(Agr.mp h).2.1,Aq0.ext x (Agr.mp h).2.2⟩
theorem Aq0.ext {K:aG}{H H':Hp}(x:Ext H H') : ∀ {d:aA} {vs:List (V×V)},Aq0 K H d vs->Aq0 K H' d vs
 | .list es,_,h=>by
  rw[Aq0] at h ⊢
  exact Ah3.ext x h
 | .none,_,h=>absurd h (by simp[Aq0])
 | .bool _,_,h=>absurd h (by simp[Aq0])
 | .int _,_,h=>absurd h (by simp[Aq0])
 | .str _,_,h=>absurd h (by simp[Aq0])
 | .tuple _,_,h=>absurd h (by simp[Aq0])
 | .dict _,_,h=>absurd h (by simp[Aq0])
theorem Ah3.ext {K:aG}{H H':Hp}(x:Ext H H') : ∀ {ds:List aA} {vs:List (V×V)},Ah3 K H ds vs->Ah3 K H' ds vs
 | [],_,h=>Atb.mpr (Atb.mp h)
 | d::ds,_,h=>by
  obtain⟨y,r,e,h1,h2⟩:=Apc.mp h
  exact Apc.mpr ⟨y,r,e,Amo.ext x h1,Ah3.ext x h2⟩
theorem Amo.ext {K:aG}{H H':Hp}(x:Ext H H') : ∀ {d:aA} {y:V×V},Amo K H d y->Amo K H' d y
 | .tuple ds,_,h=>by
  rw[Amo] at h ⊢
  exact Aap.ext x h
 | .none,_,h=>absurd h (by simp[Amo])
 | .bool _,_,h=>absurd h (by simp[Amo])
 | .int _,_,h=>absurd h (by simp[Amo])
 | .str _,_,h=>absurd h (by simp[Amo])
 | .list _,_,h=>absurd h (by simp[Amo])
 | .dict _,_,h=>absurd h (by simp[Amo])
end
section
variable {K:aG}{H H':Hp}
theorem Aap.length : ∀ {ds:List aA} {vs:List V},Aap K H ds vs->vs.length=ds.length
 | [],_,h=>by rw[Aai.mp h]; rfl
 | d::ds,_,h=>by
  obtain⟨y,r,e,h1,h2⟩:=Aac.mp h
  rw[e,eE,eE,Aap.length h2]
theorem Aap.get : ∀ {ds:List aA} {vs:List V} {i:Nat} {d:aA},Aap K H ds vs->ds[i]?=some d -> ∃ v,vs[i]?=some v/\Abe K H d v
 | [],_,_,_,h,e=>by simp at e
 | d::ds,_,0,d',h,e=>by
  obtain⟨y,r,rfl,h1,h2⟩:=Aac.mp h
  have:d=d':=by simpa using e
  subst this
  exact⟨y,rfl,h1⟩
 | d::ds,_,i+1,d',h,e=>by
  obtain⟨y,r,rfl,h1,h2⟩:=Aac.mp h
  obtain⟨v,h3,h4⟩:=Aap.get h2 (by simpa using e)
  exact⟨v,by simpa using h3,h4⟩
theorem Aap.append : ∀ {ds es:List aA} {vs ws:List V},Aap K H ds vs->Aap K H es ws->Aap K H (ds++es) (vs++ws)
 | [],es,_,_,h,g=>by rw[Aai.mp h]; exact g
 | d::ds,es,_,_,h,g=>by
  obtain⟨y,r,rfl,h1,h2⟩:=Aac.mp h
  exact Aac.mpr ⟨y,_,rfl,h1,Aap.append h2 g⟩
theorem Aap.snoc {ds:List aA}{vs:List V}{d:aA}{v:V}(h:Aap K H ds vs)(g:Abe K H d v):Aap K H (ds++[d]) (vs++[v]):=
 h.append (Aac.mpr ⟨v,[],rfl,g,Aai.mpr rfl⟩)
theorem Aap.drop : ∀ {ds:List aA} {vs:List V} (n:Nat),Aap K H ds vs->Aap K H (ds.drop n) (vs.drop n)
 | _,_,0,h=>h
 | [],_,n+1,h=>by rw[Aai.mp h]; exact Aai.mpr rfl
 | d::ds,_,n+1,h=>by
  obtain⟨y,r,rfl,h1,h2⟩:=Aac.mp h
  exact Aap.drop n h2
theorem Aap.take : ∀ {ds:List aA} {vs:List V} (n:Nat),Aap K H ds vs->Aap K H (ds.take n) (vs.take n)
 | _,_,0,h=>Aai.mpr rfl
 | [],_,n+1,h=>by rw[Aai.mp h]; exact Aai.mpr rfl
 | d::ds,_,n+1,h=>by
  obtain⟨y,r,rfl,h1,h2⟩:=Aac.mp h
  exact Aac.mpr ⟨y,_,rfl,h1,Aap.take n h2⟩
theorem Aap.set {d:aA}{v:V}(g:Abe K H d v) : ∀ {ds:List aA} {vs:List V} (n:Nat),Aap K H ds vs->Aap K H (ds.set n d) (vs.set n v)
 | [],_,n,h=>by rw[Aai.mp h]; exact Aai.mpr rfl
 | e::ds,_,0,h=>by
  obtain⟨y,r,rfl,h1,h2⟩:=Aac.mp h
  exact Aac.mpr ⟨v,r,rfl,g,h2⟩
 | e::ds,_,n+1,h=>by
  obtain⟨y,r,rfl,h1,h2⟩:=Aac.mp h
  exact Aac.mpr ⟨y,_,rfl,h1,Aap.set g n h2⟩
theorem NL : ∀ ns:List Int,Aap K H (ns.map aS) (ns.map V.int)
 | []=>Aai.mpr rfl
 | n::r=>Aac.mpr ⟨_,_,rfl,Aaq.mpr rfl,NL r⟩
theorem Fg {k:aL}{v:V}(h:Abe K H (kD k) v):v=kV k:=by
 cases k with
 | inl i=>exact Aaq.mp h
 | inr x=>exact(Aas.mp h).1
mutual
theorem Abe.key {K:aG}{H:Hp} : ∀ (d:aA) {v:V},bF d=true->Abe K H d v->Aht H d v
 | .int i,v,_,h=>by simpa [Aht] using Aaq.mp h
 | .str i,v,_,h=>by simpa [Aht] using(Aas.mp h).1
 | .tuple ds,v,k,h=>by
  obtain⟨a,xs,e,s,r⟩:=Aaw.mp h
  simp only[Aht]
  exact⟨a,xs,e,s,Aap.keys ds (by simpa [bF] using k) r⟩
 | .none,v,k,_=>by simp[bF] at k
 | .bool _,v,k,_=>by simp[bF] at k
 | .list _,v,k,_=>by simp[bF] at k
 | .dict _,v,k,_=>by simp[bF] at k
theorem Aap.keys {K:aG}{H:Hp} : ∀ (ds:List aA) {vs:List V},bP ds=true->Aap K H ds vs->Aev H ds vs
 | [],vs,_,h=>by simpa [Aev] using Aai.mp h
 | d::ds,vs,k,h=>by
  have k':bF d=true/\bP ds=true:=by simpa [bP] using k
  obtain⟨y,r,e,h1,h2⟩:=Aac.mp h
  simp only[Aev]
  exact⟨y,r,e,Abe.key d k'.1 h1,Aap.keys ds k'.2 h2⟩
end
end
mutual
noncomputable def eJ:aA->Bool
 | .list _=>false
 | .dict _=>false
 | .tuple ds=>lU ds
 | _=>true
noncomputable def lU:List aA->Bool
 | []=>true
 | d::r=>eJ d&&lU r
end
theorem QE : ∀ ds:List aA,lU ds=ds.all eJ
 | []=>by simp[lU]
 | d::r=>by simp[lU,QE r]
mutual
theorem Abe.flat {K:aG}{H H':Hp}(x : ∀ a xs,H a=some (.tup xs)->H' a=some (.tup xs)) : ∀ (d:aA) {v:V},eJ d=true->Abe K H d v->Abe K H' d v
 | .none,_,_,h=>Acd.mpr (Acd.mp h)
 | .bool _,_,_,h=>Aan.mpr (Aan.mp h)
 | .int _,_,_,h=>Aaq.mpr (Aaq.mp h)
 | .str _,_,_,h=>Aas.mpr (Aas.mp h)
 | .tuple ds,_,f,h=>by
  obtain⟨a,xs,e,s,r⟩:=Aaw.mp h
  exact Aaw.mpr ⟨a,xs,e,x _ _ s,Aap.flat x ds (by simpa [eJ] using f) r⟩
 | .list _,_,f,_=>by simp[eJ] at f
 | .dict _,_,f,_=>by simp[eJ] at f
theorem Aap.flat {K:aG}{H H':Hp}(x : ∀ a xs,H a=some (.tup xs)->H' a=some (.tup xs)) : ∀ (ds:List aA) {vs:List V},lU ds=true->Aap K H ds vs->Aap K H' ds vs
 | [],_,_,h=>Aai.mpr (Aai.mp h)
 | d::ds,_,f,h=>by
  have f':eJ d=true/\lU ds=true:=by simpa [lU] using f
  obtain⟨y,r,e,h1,h2⟩:=Aac.mp h
  exact Aac.mpr ⟨y,r,e,Abe.flat x d f'.1 h1,Aap.flat x ds f'.2 h2⟩
end
inductive All3 {α β γ:Type}(R:α->β->γ->Prop):List α->List β->List γ->Prop
 | nil:All3 R [] [] []
 | cons {a b c as bs cs}:R a b c->All3 R as bs cs->All3 R (a::as) (b::bs) (c::cs)
theorem All3.imp {α β γ:Type}{R S:α->β->γ->Prop} : ∀ {as:List α} {bs:List β} {cs:List γ},All3 R as bs cs->(∀ a b c,c∈cs->R a b c->S a b c)->All3 S as bs cs:=by
 intro as bs cs h
 induction h with
 | nil=>exact fun _=>.nil
 | cons h _ ih=>exact fun f=>.cons (f _ _ _ bX h) (ih fun a b c m=>f a b c (cD _ m))
def Ae0 (K:aG)(B H:Hp):Nat->aA->V->List aB->Prop
 | 0,d,v,F=>F=[]/\Abe K B d v
 | n+1,d,v,F=>match d with
  | .list ds=>∃ p xs Fs,v = .ref p/\H p=some (.lst xs)/\F=p::Fs.flatten/\All3 (Ae0 K B H n) ds xs Fs
  | .dict kds=>∃ p,∃ kvs:Nat×List (aL×V),∃ Fs,v = .ref p/\H p=some (.dK kvs.1 kvs.2)/\F=p::Fs.flatten/\All3 (fun(kd:aA×aA) (kv:aL×V) f=>kd.1=kD kv.1/\Ae0 K B H n kd.2 kv.2 f) kds kvs.2 Fs
  | .tuple ds=>(n=0/\F=[]/\Abe K B (.tuple ds) v) \/ (n≠0 /\ ∃ p xs Fs,v = .ref p/\B p=some (.tup xs)/\F=Fs.flatten/\All3 (Ae0 K B H n) ds xs Fs)
  | d=>F=[]/\Abe K B d v
theorem Ae0.keep {K:aG}{B B' H H':Hp}(xb:Ext B B') : ∀ {n:Nat} {d:aA} {v:V} {F:List aB},(∀ a∈F,H' a=H a)->Ae0 K B H n d v F->Ae0 K B' H' n d v F
 | 0,d,v,F,_,h=>⟨h.1,h.2.ext xb⟩
 | n+1,.list ds,v,F,kp,h=>by
  obtain⟨p,xs,Fs,e,hp,rfl,q⟩:=h
  refine⟨p,xs,Fs,e,(kp p bX).trans hp,rfl,q.imp fun a b c m r=>Ae0.keep xb (fun z hz=>kp z (cD _ (jS.mpr ⟨c,m,hz⟩))) r⟩
 | n+1,.dict kds,v,F,kp,h=>by
  obtain⟨p,xs,Fs,e,hp,rfl,q⟩:=h
  refine⟨p,xs,Fs,e,(kp p bX).trans hp,rfl,q.imp fun a b c m r=>⟨r.1,Ae0.keep xb (fun z hz=>kp z (cD _ (jS.mpr ⟨c,m,hz⟩))) r.2⟩⟩
 | n+1,.none,v,F,_,h=>⟨h.1,h.2.ext xb⟩
 | n+1,.bool _,v,F,_,h=>⟨h.1,h.2.ext xb⟩
 | n+1,.int _,v,F,_,h=>⟨h.1,h.2.ext xb⟩
 | n+1,.str _,v,F,_,h=>⟨h.1,h.2.ext xb⟩
 | n+1,.tuple ds,v,F,kp,h=>by
  rcases h with⟨h0,h1,h2⟩ | ⟨h0,p,xs,Fs,e,hp,rfl,q⟩
  ·exact .inl ⟨h0,h1,h2.ext xb⟩
  ·exact .inr ⟨h0,p,xs,Fs,e,xb _ _ hp,rfl,q.imp fun a b c m r=>Ae0.keep xb (fun z hz=>kp z (jS.mpr ⟨c,m,hz⟩)) r⟩
theorem NP {K:aG}{B:Hp}{R:aA->V->List aB->Prop}(f : ∀ d v F,R d v F->Abe K B d v) : ∀ {ds:List aA} {xs:List V} {Fs:List (List aB)},All3 R ds xs Fs->Aap K B ds xs:=by
 intro ds xs Fs h
 induction h with
 | nil=>exact Aai.mpr rfl
 | cons h _ ih=>exact Aac.mpr ⟨_,_,rfl,f _ _ _ h,ih⟩
theorem Ca {K:aG}{B:Hp}{R:aA×aA->aL×V->List aB->Prop}(f : ∀ d v F,R d v F->d.1=kD v.1/\Abe K B d.2 v.2) : ∀ {ds:List (aA×aA)} {xs:List (aL×V)} {Fs:List (List aB)},All3 R ds xs Fs->Abq K B ds xs:=by
 intro ds xs Fs h
 induction h with
 | nil=>exact Abr.mpr rfl
 | @cons p q F ds xs Fs h _ ih=>
  obtain⟨k,d⟩:=p
  obtain⟨k',v⟩:=q
  exact Aaz.mpr ⟨_,_,_,rfl,(f _ _ _ h).1,(f _ _ _ h).2,ih⟩
theorem Ae0.share {K:aG}{B B' H:Hp}(xb:Ext B B') : ∀ {n:Nat} {d:aA} {v:V} {F:List aB},(∀ a∈F,∀ o,H a=some o->B' a=some o)->Ae0 K B H n d v F->Abe K B' d v
 | 0,d,v,F,_,h=>h.2.ext xb
 | n+1,.list ds,v,F,kp,h=>by
  obtain⟨p,xs,Fs,e,hp,rfl,q⟩:=h
  refine Abm.mpr ⟨p,xs,e,SqL.of (kp p bX _ hp),?_⟩
  exact NP (fun d v F r=>r) (q.imp fun a b c m r=>Ae0.share xb (fun z hz=>kp z (cD _ (jS.mpr ⟨c,m,hz⟩))) r)
 | n+1,.dict kds,v,F,kp,h=>by
  obtain⟨p,xs,Fs,e,hp,rfl,q⟩:=h
  refine FB e (kp p bX _ hp) ?_
  exact Ca (fun d v F r=>r) (q.imp fun a b c m r=>⟨r.1,Ae0.share xb (fun z hz=>kp z (cD _ (jS.mpr ⟨c,m,hz⟩))) r.2⟩)
 | n+1,.none,v,F,_,h=>h.2.ext xb
 | n+1,.bool _,v,F,_,h=>h.2.ext xb
 | n+1,.int _,v,F,_,h=>h.2.ext xb
 | n+1,.str _,v,F,_,h=>h.2.ext xb
 | n+1,.tuple ds,v,F,kp,h=>by
  rcases h with⟨h0,h1,h2⟩ | ⟨h0,p,xs,Fs,e,hp,rfl,q⟩
  ·exact h2.ext xb
  ·refine Aaw.mpr ⟨p,xs,e,xb _ _ hp,?_⟩
   exact NP (fun d v F r=>r) (q.imp fun a b c m r=>Ae0.share xb (fun z hz=>kp z (jS.mpr ⟨c,m,hz⟩)) r)
noncomputable def fT:Nat->aA->Bool
 | 0,d=>eJ d
 | n+1,.list ds=>ds.all (fT n)
 | n+1,.dict kds=>kds.all fun kd=>fT n kd.2
 | n+2,.tuple ds=>ds.all (fT (n+1))
 | n+1,d=>eJ d
theorem Ae0.flat {K:aG}{B B' H:Hp}(xb : ∀ a xs,B a=some (.tup xs)->B' a=some (.tup xs)) : ∀ {n:Nat} {d:aA} {v:V} {F:List aB},fT n d=true->Ae0 K B H n d v F->Ae0 K B' H n d v F
 | 0,d,v,F,f,h=>⟨h.1,h.2.flat xb d f⟩
 | n+1,.list ds,v,F,f,h=>by
  obtain⟨p,xs,Fs,e,hp,rfl,q⟩:=h
  refine⟨p,xs,Fs,e,hp,rfl,?_⟩
  have f' : ∀ d∈ds,fT n d=true:=by simpa [fT] using f
  clear hp f e
  induction q with
  | nil=>exact .nil
  | cons h t ih=>exact .cons (Ae0.flat xb (f' _ bX) h) (ih fun d m=>f' d (cD _ m))
 | n+1,.dict kds,v,F,f,h=>by
  obtain⟨p,xs,Fs,e,hp,rfl,q⟩:=h
  refine⟨p,xs,Fs,e,hp,rfl,?_⟩
  have f' : ∀ d∈kds,fT n d.2=true:=fun d m=>by
   have:kds.all (fun kd=>fT n kd.2)=true:=by simpa [fT] using f
   exact fV.mp this d m
  clear hp f e
  obtain⟨xe,xs⟩:=xs
  replace q:All3 _ kds xs Fs:=q
  induction q with
  | nil=>exact .nil
  | cons h t ih=>exact .cons ⟨h.1,Ae0.flat xb (f' _ bX) h.2⟩ (ih fun d m=>f' d (cD _ m))
 | n+1,.none,v,F,f,h=>⟨h.1,h.2.flat xb _ f⟩
 | n+1,.bool _,v,F,f,h=>⟨h.1,h.2.flat xb _ f⟩
 | n+1,.int _,v,F,f,h=>⟨h.1,h.2.flat xb _ f⟩
 | n+1,.str _,v,F,f,h=>⟨h.1,h.2.flat xb _ f⟩
 | 1,.tuple ds,v,F,f,h=>by
  rcases h with⟨h0,h1,h2⟩ | ⟨h0,_⟩
  ·exact .inl ⟨h0,h1,h2.flat xb _ f⟩
  ·exact absurd rfl h0
 | n+2,.tuple ds,v,F,f,h=>by
  rcases h with⟨h0,_⟩ | ⟨h0,p,xs,Fs,e,hp,rfl,q⟩
  ·exact absurd h0 (by omega)
  ·refine .inr ⟨h0,p,xs,Fs,e,xb _ _ hp,rfl,?_⟩
   have f' : ∀ d∈ds,fT (n+1) d=true:=by simpa [fT] using f
   clear hp f e
   induction q with
   | nil=>exact .nil
   | cons h t ih=>exact .cons (Ae0.flat xb (f' _ bX) h) (ih fun d m=>f' d (cD _ m))
theorem All3.of {α β γ:Type}{R:α->β->γ->Prop} : ∀ {as:List α} {bs:List β} {cs:List γ},All3 R as bs cs -> ∀ c∈cs,∃ a b,R a b c:=by
 intro as bs cs h
 induction h with
 | nil=>exact fun c m=>by simp at m
 | cons h _ ih=>
  intro c m
  rcases cP.mp m with rfl | m
  ·exact⟨_,_,h⟩
  ·exact ih c m
mutual
noncomputable def ndD:aA->Bool
 | .dict kds=>ndM kds
 | .list ds=>sQ ds
 | .tuple ds=>sQ ds
 | _=>true
noncomputable def sQ:List aA->Bool
 | []=>true
 | d::r=>ndD d&&sQ r
noncomputable def ndM:List (aA×aA)->Bool
 | (.none,.none)::r=>tW r
 | _=>false
noncomputable def tW:List (aA×aA)->Bool
 | []=>true
 | (_,d)::r=>ndD d&&tW r
end
noncomputable def hW:Nat->aA->Bool
 | 0,d=>ndD d
 | n+1,.list ds=>ds.all (hW n)
 | n+1,.dict kds=>kds.all fun kd=>hW n kd.2
 | _,_=>false
theorem XY (xs:List V) : ∀ q,HO.lst xs≠dO q:=fun q z=>by cases q <;> cases z
theorem YN (xs:List V) : ∀ q,HO.tup xs≠dO q:=fun q z=>by cases q <;> cases z
theorem Hi (o:aY)(u:HO) : ∀ q,HO.frz o u≠dO q:=fun q z=>by cases q <;> cases z
def NdX (H H':Hp):Prop:=∀ a o,H a=some o->(∀ q,o≠dO (.inl q))->H' a=some o
mutual
theorem Abe.nd {K:aG}{H H':Hp}(x:NdX H H') : ∀ (d:aA) {v:V},ndD d=true->Abe K H d v->Abe K H' d v
 | .none,_,_,h=>Acd.mpr (Acd.mp h)
 | .bool _,_,_,h=>Aan.mpr (Aan.mp h)
 | .int _,_,_,h=>Aaq.mpr (Aaq.mp h)
 | .str _,_,_,h=>Aas.mpr (Aas.mp h)
 | .tuple ds,_,f,h=>by
  obtain⟨a,xs,e,s,r⟩:=Aaw.mp h
  exact Aaw.mpr ⟨a,xs,e,x _ _ s (fun q=>YN _ _),Aap.nd x ds (by simpa [ndD] using f) r⟩
 | .list ds,_,f,h=>by
  obtain⟨a,xs,e,s,r⟩:=Abm.mp h
  refine Abm.mpr ⟨a,xs,e,s.imp (fun s=>?_) id,Aap.nd x ds (by simpa [ndD] using f) r⟩
  rcases s with s | ⟨o,s⟩
  ·exact .inl (x _ _ s (fun q=>XY _ _))
  ·exact .inr ⟨o,x _ _ s (fun q=>Hi _ _ _)⟩
 | .dict [],_,f,_=>by simp[ndD,ndM] at f
 | .dict ((k,m)::kds),_,f,h=>by
  have f:ndM ((k,m)::kds)=true:=by simpa only[ndD] using f
  cases k <;> cases m <;> first | (simp[ndM] at f; done) | skip
  obtain⟨a,ts,e,s,r⟩:=(oI).mp h
  exact(oI).mpr ⟨a,ts,e,x _ _ s (fun q z=>by cases z),Ab0.nd x kds (by simpa only[ndM] using f) r⟩
theorem Ab0.nd {K:aG}{H H':Hp}(x:NdX H H') : ∀ (kds:List (aA×aA)) {ts:List (List aA×V)},tW kds=true->Ab0 K H kds ts->Ab0 K H' kds ts
 | [],_,_,h=>Ab2.mpr (Ab2.mp h)
 | (k,d)::r,_,f,h=>by
  have f':ndD d=true/\tW r=true:=by simpa [tW] using f
  obtain⟨k',y,rr,e,ek,h1,h2⟩:=Aa5.mp h
  exact Aa5.mpr ⟨k',y,rr,e,ek,Abe.nd x d f'.1 h1,Ab0.nd x r f'.2 h2⟩
theorem Aap.nd {K:aG}{H H':Hp}(x:NdX H H') : ∀ (ds:List aA) {vs:List V},sQ ds=true->Aap K H ds vs->Aap K H' ds vs
 | [],_,_,h=>Aai.mpr (Aai.mp h)
 | d::ds,_,f,h=>by
  have f':ndD d=true/\sQ ds=true:=by simpa [sQ] using f
  obtain⟨y,r,e,h1,h2⟩:=Aac.mp h
  exact Aac.mpr ⟨y,r,e,Abe.nd x d f'.1 h1,Aap.nd x ds f'.2 h2⟩
end
theorem Ae0.mut1 {K:aG}{B H:Hp} : ∀ {n:Nat} {d:aA} {v:V} {F:List aB},Ae0 K B H n d v F -> ∀ a∈F,(∃ xs,H a=some (.lst xs)) \/ ∃ q,H a=some (dO (.inl q))
 | 0,d,v,F,h,a,m=>by rw[h.1] at m; simp at m
 | n+1,.list ds,v,F,h,a,m=>by
  obtain⟨p,xs,Fs,e,hp,rfl,q⟩:=h
  rcases cP.mp m with e1 | m2
  ·rw[e1]; exact .inl ⟨xs,hp⟩
  ·obtain⟨f,hf,ha⟩:=jS.mp m2
   obtain⟨_,_,r⟩:=q.of f hf
   exact Ae0.mut1 r a ha
 | n+1,.dict kds,v,F,h,a,m=>by
  obtain⟨p,xs,Fs,e,hp,rfl,q⟩:=h
  rcases cP.mp m with e1 | m2
  ·rw[e1]; exact .inr ⟨xs,hp⟩
  ·obtain⟨f,hf,ha⟩:=jS.mp m2
   obtain⟨_,_,r⟩:=q.of f hf
   exact Ae0.mut1 r.2 a ha
 | n+1,.none,v,F,h,a,m=>by rw[h.1] at m; simp at m
 | n+1,.bool _,v,F,h,a,m=>by rw[h.1] at m; simp at m
 | n+1,.int _,v,F,h,a,m=>by rw[h.1] at m; simp at m
 | n+1,.str _,v,F,h,a,m=>by rw[h.1] at m; simp at m
 | n+1,.tuple ds,v,F,h,a,m=>by
  rcases h with⟨_,h1,_⟩ | ⟨h0,p,xs,Fs,e,hp,rfl,q⟩
  ·rw[h1] at m; simp at m
  ·obtain⟨f,hf,ha⟩:=jS.mp m
   obtain⟨_,_,r⟩:=q.of f hf
   exact Ae0.mut1 r a ha
theorem Ae0.mut {K:aG}{B H:Hp}{n:Nat}{d:aA}{v:V}{F:List aB}(h:Ae0 K B H n d v F) : ∀ a∈F,(∃ xs,H a=some (.lst xs)) \/ ∃ q:DQ,H a=some (dO q):=fun a m=>(h.mut1 a m).imp id fun⟨q,e⟩=>⟨.inl q,e⟩
mutual
noncomputable def ftD:aA->Bool
 | .dict kds=>ftM kds
 | .list _=>false
 | .tuple ds=>tY ds
 | _=>true
noncomputable def tY:List aA->Bool
 | []=>true
 | d::r=>ftD d&&tY r
noncomputable def ftM:List (aA×aA)->Bool
 | (.none,.none)::r=>tV r
 | _=>false
noncomputable def tV:List (aA×aA)->Bool
 | []=>true
 | (_,d)::r=>ftD d&&tV r
end
def FtX (H H':Hp):Prop:=∀ a o,H a=some o->((∃ xs,o = .tup xs) \/ ∃ q,o=dO (.inr q))->H' a=some o
mutual
theorem Abe.ft {K:aG}{H H':Hp}(x:FtX H H') : ∀ (d:aA) {v:V},ftD d=true->Abe K H d v->Abe K H' d v
 | .none,_,_,h=>Acd.mpr (Acd.mp h)
 | .bool _,_,_,h=>Aan.mpr (Aan.mp h)
 | .int _,_,_,h=>Aaq.mpr (Aaq.mp h)
 | .str _,_,_,h=>Aas.mpr (Aas.mp h)
 | .tuple ds,_,f,h=>by
  obtain⟨a,xs,e,s,r⟩:=Aaw.mp h
  exact Aaw.mpr ⟨a,xs,e,x _ _ s (.inl ⟨xs,rfl⟩),Aap.ft x ds (by simpa [ftD] using f) r⟩
 | .list ds,_,f,h=>by simp[ftD] at f
 | .dict [],_,f,_=>by simp[ftD,ftM] at f
 | .dict ((k,m)::kds),_,f,h=>by
  have f:ftM ((k,m)::kds)=true:=by simpa only[ftD] using f
  cases k <;> cases m <;> first | (simp[ftM] at f; done) | skip
  obtain⟨a,ts,e,s,r⟩:=(oI).mp h
  exact(oI).mpr ⟨a,ts,e,x _ _ s (.inr ⟨ts,rfl⟩),Ab0.ft x kds (by simpa only[ftM] using f) r⟩
theorem Ab0.ft {K:aG}{H H':Hp}(x:FtX H H') : ∀ (kds:List (aA×aA)) {ts:List (List aA×V)},tV kds=true->Ab0 K H kds ts->Ab0 K H' kds ts
 | [],_,_,h=>Ab2.mpr (Ab2.mp h)
 | (k,d)::r,_,f,h=>by
  have f':ftD d=true/\tV r=true:=by simpa [tV] using f
  obtain⟨k',y,rr,e,ek,h1,h2⟩:=Aa5.mp h
  exact Aa5.mpr ⟨k',y,rr,e,ek,Abe.ft x d f'.1 h1,Ab0.ft x r f'.2 h2⟩
theorem Aap.ft {K:aG}{H H':Hp}(x:FtX H H') : ∀ (ds:List aA) {vs:List V},tY ds=true->Aap K H ds vs->Aap K H' ds vs
 | [],_,_,h=>Aai.mpr (Aai.mp h)
 | d::ds,_,f,h=>by
  have f':ftD d=true/\tY ds=true:=by simpa [tY] using f
  obtain⟨y,r,e,h1,h2⟩:=Aac.mp h
  exact Aac.mpr ⟨y,r,e,Abe.ft x d f'.1 h1,Aap.ft x ds f'.2 h2⟩
end
theorem Ae0.nd {K:aG}{B B' H:Hp}(xb:NdX B B') : ∀ {n:Nat} {d:aA} {v:V} {F:List aB},hW n d=true->Ae0 K B H n d v F->Ae0 K B' H n d v F
 | 0,d,v,F,f,h=>⟨h.1,h.2.nd xb d f⟩
 | n+1,.list ds,v,F,f,h=>by
  obtain⟨p,xs,Fs,e,hp,rfl,q⟩:=h
  refine⟨p,xs,Fs,e,hp,rfl,?_⟩
  have f' : ∀ d∈ds,hW n d=true:=by simpa [hW] using f
  clear hp f e
  induction q with
  | nil=>exact .nil
  | cons h t ih=>exact .cons (Ae0.nd xb (f' _ bX) h) (ih fun d m=>f' d (cD _ m))
 | n+1,.dict kds,v,F,f,h=>by
  obtain⟨p,xs,Fs,e,hp,rfl,q⟩:=h
  refine⟨p,xs,Fs,e,hp,rfl,?_⟩
  have f' : ∀ d∈kds,hW n d.2=true:=fun d m=>by
   have:kds.all (fun kd=>hW n kd.2)=true:=by simpa [hW] using f
   exact fV.mp this d m
  clear hp f e
  obtain⟨xe,xs⟩:=xs
  replace q:All3 _ kds xs Fs:=q
  induction q with
  | nil=>exact .nil
  | cons h t ih=>exact .cons ⟨h.1,Ae0.nd xb (f' _ bX) h.2⟩ (ih fun d m=>f' d (cD _ m))
 | n+1,.none,v,F,f,h=>by simp[hW] at f
 | n+1,.bool _,v,F,f,h=>by simp[hW] at f
 | n+1,.int _,v,F,f,h=>by simp[hW] at f
 | n+1,.str _,v,F,f,h=>by simp[hW] at f
 | n+1,.tuple ds,v,F,f,h=>by simp[hW] at f
def Ahu (K:aG)(B H:Hp)(d:aA)(v:V)(F:List aB):Prop:=∃ kds p,∃ ts:Nat×List (List aA×V),d = .dict ((.none,.none)::kds)/\v = .ref p/\H p=some (.dT ts.1 ts.2)/\F=[p]/\(∀ kd∈kds,eJ kd.2=true)/\Ab0 K B kds ts.2
def HeldAt (K:aG)(B H:Hp)(kd:aA×aA)(kv:aL×V)(p:aB):Prop:=kd.1=kD kv.1/\kv.2 = .ref p/\Ahu K B H kd.2 (.ref p) [p]
noncomputable abbrev bG (c:aD)(W Hd:aA):aA:=.dict [(.none,.str c),(.none,.tuple [.str "wide",W]),(.none,.tuple [.str "held",Hd])]
structure RepB (K:aG)(B H:Hp)(d:aA)(v:V)(F:List aB):Prop where
 ex : ∃ c C dx a w q kds hds,∃ kvs hvs:Nat×List (aL×V),∃ ps,d=bG c (.dict kds) (.dict hds)/\v = .ref a/\dP K c=some (.ref C)/\H a=some (.ins C dx [("wide",.ref w),("held",.ref q)])/\H w=some (.dK kvs.1 kvs.2)/\(∀ kd∈kds,eJ kd.2=true)/\Abq K B kds kvs.2 /\
  H q=some (.dK hvs.1 hvs.2)/\F=a::w::q::ps/\All3 (HeldAt K B H) hds hvs.2 ps
def Aed (K:aG)(B H:Hp)(n:Nat)(d:aA)(v:V)(F:List aB):Prop:=if n=9 then(d = .none/\v = .non/\F=[]) \/ Ahu K B H d v F \/ RepB K B H d v F else Ae0 K B H n d v F
theorem Abq.flat {K:aG}{B B':Hp}(xb : ∀ a xs,B a=some (.tup xs)->B' a=some (.tup xs)) : ∀ {kds:List (aA×aA)} {ts:List (aL×V)},(∀ kd∈kds,eJ kd.2=true)->Abq K B kds ts->Abq K B' kds ts
 | [],ts,_,h=>Abr.mpr (Abr.mp h)
 | (k,d)::r,ts,f,h=>by
  obtain⟨k',x,rr,e,ek,h1,h2⟩:=Aaz.mp h
  exact Aaz.mpr ⟨k',x,rr,e,ek,h1.flat xb _ (f (k,d) bX),Abq.flat xb (fun kd m=>f kd (cD _ m)) h2⟩
theorem Ab0.flat {K:aG}{B B':Hp}(xb : ∀ a xs,B a=some (.tup xs)->B' a=some (.tup xs)) : ∀ {kds:List (aA×aA)} {ts:List (List aA×V)},(∀ kd∈kds,eJ kd.2=true)->Ab0 K B kds ts->Ab0 K B' kds ts
 | [],ts,_,h=>Ab2.mpr (Ab2.mp h)
 | (k,d)::r,ts,f,h=>by
  obtain⟨k',x,rr,e,ek,h1,h2⟩:=Aa5.mp h
  exact Aa5.mpr ⟨k',x,rr,e,ek,h1.flat xb _ (f (k,d) bX),Ab0.flat xb (fun kd m=>f kd (cD _ m)) h2⟩
section
variable {K:aG}{B B' H H':Hp}{n:Nat}{d:aA}{v:V}{F:List aB}
theorem Ahu.keep (xb:Ext B B')(kp : ∀ a∈F,H' a=H a)(h:Ahu K B H d v F):Ahu K B' H' d v F:=by
 obtain⟨kds,p,ts,e1,e2,hp,rfl,f,r⟩:=h
 exact⟨kds,p,ts,e1,e2,(kp p bX).trans hp,rfl,f,r.ext xb⟩
theorem Ahu.flat (xb : ∀ a xs,B a=some (.tup xs)->B' a=some (.tup xs))(h:Ahu K B H d v F):Ahu K B' H d v F:=by
 obtain⟨kds,p,ts,e1,e2,hp,rfl,f,r⟩:=h
 exact⟨kds,p,ts,e1,e2,hp,rfl,f,r.flat xb f⟩
theorem Ahu.share (xb:Ext B B')(kp : ∀ a∈F,∀ o,H a=some o->B' a=some o)(h:Ahu K B H d v F):Abe K B' d v:=by
 obtain⟨kds,p,ts,rfl,e2,hp,rfl,f,r⟩:=h
 exact(oI).mpr ⟨p,ts,e2,kp p bX _ hp,r.ext xb⟩
theorem RepB.keep (xb:Ext B B')(kp : ∀ a∈F,H' a=H a)(h:RepB K B H d v F):RepB K B' H' d v F:=by
 obtain⟨c,C,dx,a,w,q,kds,hds,kvs,hvs,ps,e1,e2,e3,ha,hw,fl,rk,hq,rfl,h3⟩:=h.ex
 exact⟨c,C,dx,a,w,q,kds,hds,kvs,hvs,ps,e1,e2,e3,(kp a (by simp)).trans ha,(kp w (by simp)).trans hw,fl,rk.ext xb,(kp q (by simp)).trans hq,rfl,
  h3.imp fun kd kv p m r=>⟨r.1,r.2.1,r.2.2.keep xb fun b hb=>kp b (by rw[dH.mp hb]; simp[m])⟩⟩
theorem RepB.flat (xb : ∀ a xs,B a=some (.tup xs)->B' a=some (.tup xs))(h:RepB K B H d v F):RepB K B' H d v F:=by
 obtain⟨c,C,dx,a,w,q,kds,hds,kvs,hvs,ps,e1,e2,e3,ha,hw,fl,rk,hq,rfl,h3⟩:=h.ex
 exact⟨c,C,dx,a,w,q,kds,hds,kvs,hvs,ps,e1,e2,e3,ha,hw,fl,rk.flat xb fl,hq,rfl,h3.imp fun kd kv p m r=>⟨r.1,r.2.1,r.2.2.flat xb⟩⟩
theorem Ji {c:aD}{W D:aA}{C dx a:aB}{w q:V}(hc:dP K c=some (.ref C))(ha:H a=some (.ins C dx [("wide",w),("held",q)]))(h1:Abe K H W w)(h2:Abe K H D q):Abe K H (bG c W D) (.ref a):=by
 refine Abz.mpr ⟨a,rfl,.inr (.inr (.inr (.inr (Ai0.mpr ⟨rfl,c,C,dx,_,rfl,hc,ha,Ad8.mpr ⟨_,_,_,rfl,rfl,?_,Ad8.mpr ⟨_,_,_,rfl,rfl,?_,Aka.mpr rfl⟩⟩⟩))))⟩
 ·rw[Amo]
  exact Aac.mpr ⟨_,_,rfl,Aas.mpr ⟨rfl,by decide +kernel⟩,Aac.mpr ⟨_,_,rfl,h1,Aai.mpr rfl⟩⟩
 ·rw[Amo]
  exact Aac.mpr ⟨_,_,rfl,Aas.mpr ⟨rfl,by decide +kernel⟩,Aac.mpr ⟨_,_,rfl,h2,Aai.mpr rfl⟩⟩
theorem yS {c:aD}{W D:aA}{v:V}(h:Abe K H (bG c W D) v) : ∃ C dx a w q,v = .ref a/\dP K c=some (.ref C)/\H a=some (.ins C dx [("wide",w),("held",q)])/\Abe K H W w/\Abe K H D q:=by
 obtain⟨a,e,⟨kvs,_,r⟩ | ⟨ts,_,r⟩ | ⟨xs,_,r⟩ | r | r⟩:=Abz.mp h
 ·obtain⟨k',_,_,_,ek,_⟩:=Aaz.mp r
  cases k' <;> cases ek
 ·obtain⟨_,_,_,_,⟨z,_⟩,_⟩:=Aa5.mp (Adc.mp r).2
  cases z
 ·obtain⟨es,z,_⟩:=vE r
  cases z
 ·obtain⟨_,_,z⟩:=r.mark
  cases z
 ·obtain⟨_,c',C,dx,fs,z,hc,ha,r⟩:=Ai0.mp r
  cases z
  obtain⟨f1,x1,r1,rfl,_,q1,r⟩:=Ad8.mp r
  obtain⟨f2,x2,r2,rfl,_,q2,r⟩:=Ad8.mp r
  rw[Aka.mp r] at ha
  rw[Amo] at q1 q2
  obtain⟨_,_,z1,p1,q1⟩:=Aac.mp q1
  obtain⟨_,_,z2,p2,q2⟩:=Aac.mp q2
  cases z1
  cases z2
  obtain⟨_,_,z1,p3,_⟩:=Aac.mp q1
  obtain⟨_,_,z2,p4,_⟩:=Aac.mp q2
  cases z1
  cases z2
  have e1:=(Aas.mp p1).1
  have e2:=(Aas.mp p2).1
  cases e1
  cases e2
  exact⟨C,dx,a,_,_,e,hc,ha,p3,p4⟩
theorem RepB.share (xb:Ext B B')(kp : ∀ a∈F,∀ o,H a=some o->B' a=some o)(h:RepB K B H d v F):Abe K B' d v:=by
 obtain⟨c,C,dx,a,w,q,kds,hds,kvs,hvs,ps,rfl,rfl,e3,ha,hw,fl,rk,hq,rfl,h3⟩:=h.ex
 refine Ji e3 (kp a (by simp) _ ha) (FB rfl (kp w (by simp) _ hw) (rk.ext xb)) (FB rfl (kp q (by simp) _ hq) ?_)
 have kp2 : ∀ p∈ps,∀ o,H p=some o->B' p=some o:=fun p m=>kp p (by simp[m])
 clear hq ha kp h
 obtain⟨xe,hvs⟩:=hvs
 replace h3:All3 _ hds hvs ps:=h3
 induction h3 with
 | nil=>exact Abr.mpr rfl
 | cons h t ih=>
  refine Aaz.mpr ⟨_,_,_,rfl,h.1,?_,ih fun p m=>kp2 p (cD _ m)⟩
  have:=h.2.2.share xb fun b hb=>kp2 b (by rw[dH.mp hb]; exact bX)
  rw[h.2.1]
  exact this
theorem RepB.mut (h:RepB K B H d v F) : ∀ a∈F,(∃ xs,H a=some (.lst xs)) \/ ∃ q:DQ,H a=some (dO q):=by
 obtain⟨c,C,dx,a,w,q,kds,hds,kvs,hvs,ps,rfl,rfl,e3,ha,hw,fl,rk,hq,rfl,h3⟩:=h.ex
 intro b m
 simp only[cP] at m
 rcases m with rfl | rfl | rfl | m
 ·exact .inr ⟨.ins _ _ _,ha⟩
 ·exact .inr ⟨.inl _,hw⟩
 ·exact .inr ⟨.inl _,hq⟩
 ·obtain⟨_,_,_,_,kds,p,ts,_,e2,hp,_⟩:=h3.of b m
  cases e2
  exact .inr ⟨.inr ts,hp⟩
theorem Aed.keep (xb:Ext B B')(kp : ∀ a∈F,H' a=H a)(h:Aed K B H n d v F):Aed K B' H' n d v F:=by
 unfold Aed at h ⊢
 split at h
 ·rw[if_pos ‹_›]
  exact h.imp id fun h=>h.imp (fun h=>h.keep xb kp) fun h=>h.keep xb kp
 ·rw[if_neg ‹_›]
  exact Ae0.keep xb kp h
theorem Aed.share (xb:Ext B B')(kp : ∀ a∈F,∀ o,H a=some o->B' a=some o)(h:Aed K B H n d v F):Abe K B' d v:=by
 unfold Aed at h
 split at h
 ·rcases h with⟨rfl,rfl,_⟩ | h | h
  ·exact Acd.mpr rfl
  ·exact h.share xb kp
  ·exact h.share xb kp
 ·exact Ae0.share xb kp h
theorem Aed.flat (xb : ∀ a xs,B a=some (.tup xs)->B' a=some (.tup xs))(f:fT n d=true)(h:Aed K B H n d v F):Aed K B' H n d v F:=by
 unfold Aed at h ⊢
 split at h
 ·rw[if_pos ‹_›]
  exact h.imp id fun h=>h.imp (fun h=>h.flat xb) fun h=>h.flat xb
 ·rw[if_neg ‹_›]
  exact Ae0.flat xb f h
theorem Aed.nd (xb:NdX B B')(hn:n<9)(f:hW n d=true)(h:Aed K B H n d v F):Aed K B' H n d v F:=by
 unfold Aed at h ⊢
 rw[if_neg (by omega)] at h ⊢
 exact Ae0.nd xb f h
theorem Aed.mut (h:Aed K B H n d v F) : ∀ a∈F,(∃ xs,H a=some (.lst xs)) \/ ∃ q:DQ,H a=some (dO q):=by
 unfold Aed at h
 split at h
 ·rcases h with⟨_,_,rfl⟩ | ⟨kds,p,ts,e1,e2,hp,rfl,f,r⟩ | h
  ·exact fun a m=>by simp at m
  ·intro a m
   rw[dH.mp m]
   exact .inr ⟨.inr ts,hp⟩
  ·exact h.mut
 ·exact Ae0.mut h
end
abbrev EF:=List (Option aA)->Option aA
abbrev BF:=List (Option aA)->Option Bool
abbrev AF:=List (Option aA)->Option (List aA)
def Ai2 (K:aG)(B:Hp)(ρ:List (Option aA))(σ:St):Prop:=∀ (i:Nat) d,ρ[i]?=some (some d) -> ∃ v,σ[i]?=some (some v)/\Abe K B d v
theorem Ai2.ext {K:aG}{B B':Hp}{ρ:List (Option aA)}{σ:St}(h:Ai2 K B ρ σ)(x:Ext B B'):Ai2 K B' ρ σ:=fun i d e=>let ⟨v,h1,h2⟩:=h i d e; ⟨v,h1,h2.ext x⟩
def Res (K:aG)(P:aB->Prop)(n:Nat)(d:aA)(H:Hp)(Q:VK):Prop:=
 ∀ v H' Fr,Ext H H'->Fr.Nodup->(∀ a∈Fr,H a=none /\ ∃ o,H' a=some o)->Aed K (hid H' (orL P Fr)) H' n d v Fr->Q v H'
section
variable {K:aG}{P:aB->Prop}{n:Nat}{d:aA}{H H':Hp}{Q:VK}{v:V}
theorem Res.zero (h:Res K P 0 d H Q)(x:Ext H H')(r:Abe K (hid H' P) d v):Q v H':=
 h v H' [] x .nil (fun a m=>by simp at m) ⟨rfl,by rw[LI]; exact r⟩
theorem cR (h : ∀ v H',Ext H H'->Abe K (hid H' P) d v->Q v H'):Res K P 0 d H Q:=fun v H' Fr x _ _ r=>by
 obtain⟨rfl,r⟩:=r
 rw[LI] at r
 exact h v H' x r
theorem Res.mono (h:Res K P n d H Q)(x:Ext H H'):Res K P n d H' Q:=fun v H2 Fr x2 nd fr r=>
 h v H2 Fr (x.trans x2) nd (fun a m=>⟨x.none (fr a m).1,(fr a m).2⟩) r
theorem Res.of (hP:Hid P H)(h:Res K P 0 d H Q):Res K P n d H Q:=fun v H2 Fr x2 nd fr r=>
 h.zero x2 (r.share (fQ fun a p=>.inl p) fun a m o e=>eK (hP.new (fr a m).1) e)
theorem Res.lst {ds:List aA}{xs:List V}{p:aB}(hP:Hid P H)(h:Res K P 1 (.list ds) H Q)(n:H p=none)(r:Aap K (hid H P) ds xs):Q (.ref p) (upd H p (.lst xs)):=by
 refine h (.ref p) _ [p] (Ext.new n) (fF.mpr ⟨by simp,.nil⟩) (fun a m=>?_) ⟨p,xs,xs.map fun _=>[],rfl,eB,?_,?_⟩
 ·have:a=p:=by simpa using m
  subst this
  exact⟨n,_,eB⟩
 ·have : ∀ l:List V,(l.map fun _=>([]:List aB)).flatten=[]:=fun l=>by
   induction l with
   | nil=>rfl
   | cons a l ih=>rw[cY,jE,ih]; rfl
  rw[this]
 ·have xe:Ext (hid H P) (hid (upd H p (.lst xs)) (orL P [p])):=fun b o e=>by
   obtain⟨nb,e⟩:=Ab7.mp e
   have hb:=gM e n
   exact eK (fun q=>q.elim nb fun m=>hb (by simpa using m)) (by rw[bO hb]; exact e)
  generalize hid (upd H p (.lst xs)) (orL P [p])=B at xe
  generalize upd H p (.lst xs)=H1
  clear h
  have go : ∀ (ds:List aA) (xs:List V),Aap K (hid H P) ds xs->All3 (Ae0 K B H1 0) ds xs (xs.map fun _=>[]):=by
   intro ds
   induction ds with
   | nil=>intro xs r; rw[Aai.mp r]; exact .nil
   | cons d ds ih=>
    intro xs r
    obtain⟨y,t,rfl,h1,h2⟩:=Aac.mp r
    exact .cons ⟨rfl,h1.ext xe⟩ (ih t h2)
  exact go ds xs r
theorem Res.tup {ds:List aA}{xs:List V}{p:aB}(hP:Hid P H)(h:Res K P 0 (.tuple ds) H Q)(n:H p=none)(r:Aap K (hid H P) ds xs):Q (.ref p) (upd H p (.tup xs)):=by
 refine h.zero (Ext.new n) (Aaw.mpr ⟨p,xs,rfl,eK (hP.new n) eB,r.ext fun b o e=>?_⟩)
 obtain⟨nb,e⟩:=Ab7.mp e
 exact eK nb (Ext.new n _ _ e)
end
noncomputable def tF (K:aG)(n:Nat)(f:EF):TE:=fun σ H Q=>∃ P ρ d,Hid P H/\Ai2 K (hid H P) ρ σ/\f ρ=some d/\Res K P n d H Q
noncomputable def tTF (K:aG)(f:BF):TT:=fun σ H Q=>∃ P ρ b,Hid P H/\Ai2 K (hid H P) ρ σ/\f ρ=some b /\ ∀ H',Ext H H'->Q b H'
noncomputable def tAF (K:aG)(f:AF):TA:=fun σ H Q=>∃ P ρ ds,Hid P H/\Ai2 K (hid H P) ρ σ/\f ρ=some ds /\ ∀ vs H',Ext H H'->Aap K (hid H' P) ds vs->Q vs H'
abbrev DF (n:Nat)(X:Cx)(e:aR)(f:EF):Prop:=PE X e (tF X.K n f)
abbrev DE (X:Cx)(e:aR)(f:EF):Prop:=PE X e (tF X.K 0 f)
abbrev DT (X:Cx)(e:aR)(f:BF):Prop:=PT X e (tTF X.K f)
abbrev DW (X:Cx)(e:aR)(f:BF):Prop:=PW X e (tTF X.K f)
abbrev DA (X:Cx)(es:List aR)(f:AF):Prop:=PA X es (tAF X.K f)
section
variable {X:Cx}{e a b:aR}{es:List aR}{pos:bL}{n:Nat}
theorem PE.imp {t t':TE}(h:PE X e t)(w : ∀ σ H Q,t' σ H Q->t σ H Q):PE X e t':=fun pins s σ H Q I q=>h pins s σ H Q I (w _ _ _ q)
theorem PT.imp {t t':TT}(h:PT X e t)(w : ∀ σ H Q,t' σ H Q->t σ H Q):PT X e t':=fun pins s σ H Q I q=>h pins s σ H Q I (w _ _ _ q)
theorem PW.imp {t t':TT}(h:PW X e t)(w : ∀ σ H Q,t' σ H Q->t σ H Q):PW X e t':=fun whole pins s σ H Q I q=>h whole pins s σ H Q I (w _ _ _ q)
theorem PA.imp {t t':TA}(h:PA X es t)(w : ∀ σ H Q,t' σ H Q->t σ H Q):PA X es t':=fun pos pins s σ H Q I q=>h pos pins s σ H Q I (w _ _ _ q)
theorem jK {f:EF}(h:DF n X e f):DE X e f:=PE.imp h fun σ H Q ⟨P,ρ,d,hP,rs,ef,k⟩=>⟨P,ρ,d,hP,rs,ef,Res.of hP k⟩
noncomputable def aF (i:Nat):EF:=fun ρ=>(ρ[i]?).join
theorem OV {i:Nat}{ρ:List (Option aA)}{d:aA}(h:aF i ρ=some d):ρ[i]?=some (some d):=by
 unfold aF at h
 cases e:ρ[i]? with
 | none=>rw[e] at h; simp at h
 | some o=>rw[e] at h; simp at h; rw[h]
theorem aI (i:Nat){x:aD}(hN:X.N[i]?=some x:=by rfl)(hv:kN X.env.scope x:=by first | exact bE rfl | exact bD (bE rfl) | exact bD (bD rfl))(hd:(x == ("__debug__" : aD))=false:=by decide)
  (hcd:(x == ("__classdict__" : aD))=false:=by decide):DE X (.Name x pos) (aF i):=PE.imp (mU hN hv hd hcd) fun σ H Q gh=>by
 obtain⟨P,ρ,d,hP,rs,ef,k⟩:=gh
 obtain⟨v,h1,h2⟩:=rs i d (OV ef)
 exact⟨v,h1,k.zero Ext.refl h2⟩
noncomputable def eC (d:aA):EF:=fun _=>some d
theorem wH {d:aA}{v:V}(h:PE X e (tC v))(hr : ∀ H,Abe X.K H d v):DE X e (eC d):=PE.imp h fun σ H Q gh=>by
 obtain⟨P,ρ,d',hP,rs,ef,k⟩:=gh
 cases ef
 exact k.zero Ext.refl (hr _)
theorem aZ {i j}:DE X (.Constant (.int i) j pos) (eC (.int i)):=wH YO fun _=>Aaq.mpr rfl
theorem iM {i j}:DE X (.Constant (.bool i) j pos) (eC (.bool i)):=wH rC fun _=>Aan.mpr rfl
theorem CI {i j}(h:cO (.str i)=true:=by decide +kernel):DE X (.Constant (.str i) j pos) (eC (.str i)):=wH SM fun _=>Aas.mpr ⟨rfl,h⟩
theorem rY {x:aD}{i:Int}{u:aE}(hg:Gl X x)(hm:X.mg x=some u)(r:RelV (.int i) u)(hd:(x == ("__debug__" : aD))=false:=by decide):DE X (.Name x pos) (eC (.int i)):=wH (KJ hg hm r hd) fun _=>Aaq.mpr rfl
theorem ES {x:aD}{i:aD}{u:aE}(hg:Gl X x)(hm:X.mg x=some u)(r:RelV (.str i) u)(hl:cO (.str i)=true:=by decide +kernel)(hd:(x == ("__debug__" : aD))=false:=by decide):DE X (.Name x pos) (eC (.str i)):=wH (KJ hg hm r hd) fun _=>Aas.mpr ⟨rfl,hl⟩
noncomputable def aM:AF:=fun _=>some []
noncomputable def aJ (f:EF)(g:AF):AF:=fun ρ=>(f ρ).bind fun d=>(g ρ).bind fun ds=>some (d::ds)
theorem aX:DA X [] aM:=PA.imp iN fun σ H Q gh=>by
 obtain⟨P,ρ,d,hP,rs,ef,k⟩:=gh
 cases ef
 exact k [] H Ext.refl (Aai.mpr rfl)
theorem aO {f:EF}{g:AF}(h1:DE X e f)(h2:DA X es g)(hs:bI (e::es) X.env=(false,bJ e X.env)::bI es X.env:=by rfl):DA X (e::es) (aJ f g):=
 PA.imp (fP h1 h2 hs) fun σ H Q gh=>by
  obtain⟨P,ρ,ds,hP,rs,ef,k⟩:=gh
  obtain⟨d,e1,ef⟩:=XBs ef
  obtain⟨r,e2,ef⟩:=XBs ef
  cases ef
  exact⟨P,ρ,d,hP,rs,e1,cR fun v H1 x1 r1=>⟨P,ρ,r,hP.ext x1,rs.ext (bS x1),e2,fun vs H2 x2 r2=>
   k _ _ (x1.trans x2) (Aac.mpr ⟨v,vs,rfl,r1.ext (bS x2),r2⟩)⟩⟩
noncomputable def sR (g:AF):EF:=fun ρ=>(g ρ).bind fun ds=>if ds.length≤sizeLine then some (.tuple ds) else none
noncomputable def lK (g:AF):EF:=fun ρ=>(g ρ).bind fun ds=>if ds.length≤sizeLine then some (.list ds) else none
theorem cX {α:Type}{c:Prop}[Decidable c]{x y:α}(h:(if c then some x else none)=some y):c/\x=y:=by
 by_cases q:c
 ·rw[if_pos q] at h; exact⟨q,dZ h⟩
 ·rw[if_neg q] at h; cases h
theorem CB {g:AF}{x1}(h:DA X es g):DE X (.Tuple es x1 pos) (sR g):=PE.imp (YV h) fun σ H Q gh=>by
 obtain⟨P,ρ,d,hP,rs,ef,k⟩:=gh
 obtain⟨ds,e1,ef⟩:=XBs ef
 obtain⟨hl,rfl⟩:=cX ef
 exact⟨P,ρ,ds,hP,rs,e1,fun vs H1 x1 r1=>⟨by rw[r1.length]; exact hl,fun p hp=>(k.mono x1).tup (hP.ext x1) hp r1⟩⟩
theorem rQ {g:AF}(h:DA X es g):DF 1 X (.List es pos) (lK g):=PE.imp (Iq h) fun σ H Q gh=>by
 obtain⟨P,ρ,d,hP,rs,ef,k⟩:=gh
 obtain⟨ds,e1,ef⟩:=XBs ef
 obtain⟨hl,rfl⟩:=cX ef
 exact⟨P,ρ,ds,hP,rs,e1,fun vs H1 x1 r1=>⟨by rw[r1.length]; exact hl,fun p hp=>(k.mono x1).lst (hP.ext x1) hp r1⟩⟩
def OpD (K:aG)(n:Nat)(r:R2)(g:aA->aA->Option aA):Prop:=
 ∀ (P:aB->Prop) (H:Hp) (x y:V) (a b d:aA) (Q:VK),Hid P H->Abe K (hid H P) a x->Abe K (hid H P) b y->g a b=some d->Res K P n d H Q->r x y H Q
noncomputable def eOp (g:aA->aA->Option aA)(fa fb:EF):EF:=fun ρ=>(fa ρ).bind fun a=>(fb ρ).bind fun b=>g a b
theorem GS {r:R2}{g:aA->aA->Option aA}{fa fb:EF}{K:aG}(hg:OpD K n r g) : ∀ σ H Q,tF K n (eOp g fa fb) σ H Q->tOp r (tF K 0 fa) (tF K 0 fb) σ H Q:=fun σ H Q gh=>by
 obtain⟨P,ρ,d,hP,rs,ef,k⟩:=gh
 obtain⟨d1,e1,ef⟩:=XBs ef
 obtain⟨d2,e2,ef⟩:=XBs ef
 exact⟨P,ρ,d1,hP,rs,e1,cR fun v H1 x1 r1=>⟨P,ρ,d2,hP.ext x1,rs.ext (bS x1),e2,cR fun u H2 x2 r2=>
  hg P H2 v u d1 d2 d Q (hP.ext (x1.trans x2)) (r1.ext (bS x2)) r2 ef (k.mono (x1.trans x2))⟩⟩
theorem pG {op:Operator}{r:R2}{g:aA->aA->Option aA}{fa fb:EF}(ho:OpR X (iZ op) r)(hg:OpD X.K n r g)(ha:DE X a fa)(hb:DE X b fb):DF n X (.BinOp a op b pos) (eOp g fa fb):=PE.imp (YJ ho ha hb) (GS hg)
theorem jW {op:CmpOp}{r:R2}{g:aA->aA->Option aA}{fa fb:EF}(ho:OpR X (dS op) r)(hg:OpD X.K 0 r g)(ha:DE X a fa)(hb:DE X b fb)(hm:wK op b=false):DE X (.Compare a [op] [b] pos) (eOp g fa fb):=PE.imp (Mb ho ha hb hm) (GS hg)
noncomputable def eUn (g:aA->Option aA)(fa:EF):EF:=fun ρ=>(fa ρ).bind g
def CallD (K:aG)(n:Nat)(r:List V->Hp->VK->Prop)(g:List aA->Option aA):Prop:=
 ∀ (P:aB->Prop) (H:Hp) (xs:List V) (ds:List aA) (d:aA) (Q:VK),Hid P H->Aap K (hid H P) ds xs->g ds=some d->Res K P n d H Q->r xs H Q
noncomputable def aN (g:List aA->Option aA)(fa:AF):EF:=fun ρ=>(fa ρ).bind g
variable {r:List V->Hp->VK->Prop}{g:List aA->Option aA}{fa:AF}{x:aD}{p:bL}{id T:String}
theorem eL (hc:Ado X (.builtin id) r)(hg:CallD X.K n r g)(hgl:Gl X x)(hm:X.mg x=none)(hv:jN x=some (.builtin id))(ha:DA X (e::es) fa)(hn:x ≠ "__name__":=by decide)(hdb:(x == ("__debug__" : aD))=false:=by decide)
  (he:bI (e::es) X.env=(false,bJ e X.env)::bI es X.env:=by rfl) (hpl:(fD pos (bI es X.env)).any (·.1)=false:=by rfl):DF n X (.Call (.Name x p) (e::es) [] pos) (aN g fa):=
 PE.imp (EN hc hgl hm hv ha hn hdb he hpl) fun σ H Q gh=>by
  obtain⟨P,ρ,d,hP,rs,ef,k⟩:=gh
  obtain⟨d1,e1,ef⟩:=XBs ef
  exact⟨P,ρ,d1,hP,rs,e1,fun vs H1 x1 r1=>hg P H1 vs d1 d Q (hP.ext x1) r1 ef (k.mono x1)⟩
theorem yY (hc:Ado X (.type T) r)(hg:CallD X.K n r g)(hgl:Gl X x)(hm:X.mg x=none)(hv:jN x=some (.type T))(ha:DA X (e::es) fa)(hn:x ≠ "__name__":=by decide)(hdb:(x == ("__debug__" : aD))=false:=by decide)
  (he:bI (e::es) X.env=(false,bJ e X.env)::bI es X.env:=by rfl) (hpl:(fD pos (bI es X.env)).any (·.1)=false:=by rfl):DF n X (.Call (.Name x p) (e::es) [] pos) (aN g fa):=
 PE.imp (PC hc hgl hm hv ha hn hdb he hpl) fun σ H Q gh=>by
  obtain⟨P,ρ,d,hP,rs,ef,k⟩:=gh
  obtain⟨d1,e1,ef⟩:=XBs ef
  exact⟨P,ρ,d1,hP,rs,e1,fun vs H1 x1 r1=>hg P H1 vs d1 d Q (hP.ext x1) r1 ef (k.mono x1)⟩
noncomputable def asB:aA->Option Bool
 | .bool b=>some b
 | _=>none
theorem mY {d:aA}{b:Bool}(h:asB d=some b):d = .bool b:=by
 cases d <;> simp[asB] at h
 rw[h]
noncomputable def bOf (f:EF):BF:=fun ρ=>(f ρ).bind asB
theorem iE {f:EF}(h:DE X e f)(he : ∀ whole,isTrue e X.env whole=(do let v ← whole; qH e.pos; kZ [v] (truthy v)):=by intro _; rfl):DT X e (bOf f):=PT.imp (SO h he) fun σ H Q gh=>by
 obtain⟨P,ρ,b,hP,rs,ef,k⟩:=gh
 obtain⟨d,e1,ef⟩:=XBs ef
 cases mY ef
 exact⟨P,ρ,_,hP,rs,e1,cR fun v H1 x1 r1=>⟨b,Aan.mp r1,k H1 x1⟩⟩
theorem fK {op:CmpOp}{r:R2}{g:aA->aA->Option aA}{fa fb:EF}(ho:OpR X (dS op) r)(hg:OpD X.K 0 r g)(ha:DE X a fa)(hb:DE X b fb)(hm:wK op b=false):DT X (.Compare a [op] [b] pos) (bOf (eOp g fa fb)):=
 PT.imp (Kb ho ha hb hm) fun σ H Q gh=>by
  obtain⟨P,ρ,c,hP,rs,ef,k⟩:=gh
  obtain⟨d,e1,ef⟩:=XBs ef
  cases mY ef
  exact GS hg σ H _ ⟨P,ρ,_,hP,rs,e1,cR fun v H1 x1 r1=>⟨c,Aan.mp r1,k H1 x1⟩⟩
noncomputable def eO (f:BF):BF:=fun ρ=>(f ρ).bind fun b=>some (!b)
noncomputable def xS (f g:BF):BF:=fun ρ=>(f ρ).bind fun b=>if b=true then g ρ else some false
noncomputable def bOr (f g:BF):BF:=fun ρ=>(f ρ).bind fun b=>if b=true then some true else g ρ
variable {fB gB:BF}{rest:List aR}
theorem hE (h:DT X a fB):DT X (.UnaryOp .Not a pos) (eO fB):=PT.imp (SB h) fun σ H Q gh=>by
 obtain⟨P,ρ,c,hP,rs,ef,k⟩:=gh
 obtain⟨b,e1,ef⟩:=XBs ef
 cases ef
 exact⟨P,ρ,b,hP,rs,e1,fun H1 x1=>k H1 x1⟩
theorem KH (h:DT X a fB):DW X (.BoolOp .And [a] pos) fB:=KU h
theorem mR (h:DT X a fB):DW X (.BoolOp .Or [a] pos) fB:=Ij h
theorem TF (h:DT X a fB)(h2:DW X (.BoolOp .And (b::rest) pos) gB):DW X (.BoolOp .And (a::b::rest) pos) (xS fB gB):=PW.imp (SX h h2) fun σ H Q gh=>by
 obtain⟨P,ρ,c,hP,rs,ef,k⟩:=gh
 obtain⟨b,e1,ef⟩:=XBs ef
 refine⟨P,ρ,b,hP,rs,e1,fun H1 x1=>?_⟩
 cases b with
 | true=>exact iS ⟨P,ρ,c,hP.ext x1,rs.ext (bS x1),by simpa using ef,fun H2 x2=>k H2 (x1.trans x2)⟩
 | false=>
  have:false=c:=by simpa using ef
  subst this
  exact gX (k H1 x1)
theorem lN (h:DT X a fB)(h2:DW X (.BoolOp .Or (b::rest) pos) gB):DW X (.BoolOp .Or (a::b::rest) pos) (bOr fB gB):=PW.imp (XJ h h2) fun σ H Q gh=>by
 obtain⟨P,ρ,c,hP,rs,ef,k⟩:=gh
 obtain⟨b,e1,ef⟩:=XBs ef
 refine⟨P,ρ,b,hP,rs,e1,fun H1 x1=>?_⟩
 cases b with
 | true=>
  have:true=c:=by simpa using ef
  subst this
  exact iS (k H1 x1)
 | false=>exact gX ⟨P,ρ,c,hP.ext x1,rs.ext (bS x1),by simpa using ef,fun H2 x2=>k H2 (x1.trans x2)⟩
theorem kP (h:DW X a fB):DT X a fB:=h.pt
noncomputable def BO (f:EF):EF:=fun ρ=>(f ρ).bind fun d=>(asB d).bind fun b=>some (.bool (!b))
noncomputable def gJ (f g:EF):EF:=fun ρ=>(f ρ).bind fun d=>(asB d).bind fun b=>if b=true then g ρ else some (.bool false)
variable {f1 f2:EF}
theorem nU {op}(h:DE X a f1):DE X (.BoolOp op [a] pos) f1:=YQ h
theorem RZ (h:DE X a f1):DE X (.UnaryOp .Not a pos) (BO f1):=PE.imp (ZC h) fun σ H Q gh=>by
 obtain⟨P,ρ,c,hP,rs,ef,k⟩:=gh
 obtain⟨d,e1,ef⟩:=XBs ef
 obtain⟨b,e2,ef2⟩:=XBs ef
 clear ef
 have ef:=ef2
 clear ef2
 cases ef
 cases mY e2
 exact⟨P,ρ,_,hP,rs,e1,cR fun v H1 x1 r1=>⟨b,Aan.mp r1,k.zero x1 (Aan.mpr rfl)⟩⟩
theorem lR (h:DE X a f1)(h2:DE X (.BoolOp .And (b::rest) pos) f2):DE X (.BoolOp .And (a::b::rest) pos) (gJ f1 f2):=PE.imp (YT h h2) fun σ H Q gh=>by
 obtain⟨P,ρ,c,hP,rs,ef,k⟩:=gh
 obtain⟨d,e1,ef⟩:=XBs ef
 obtain⟨b,e2,ef2⟩:=XBs ef
 clear ef
 have ef:=ef2
 clear ef2
 cases mY e2
 refine⟨P,ρ,_,hP,rs,e1,cR fun v H1 x1 r1=>⟨b,Aan.mp r1,?_⟩⟩
 cases b with
 | true=>exact iS ⟨P,ρ,c,hP.ext x1,rs.ext (bS x1),by simpa using ef,k.mono x1⟩
 | false=>
  have:fE false=c:=by simpa using ef
  subst this
  exact gX (k.zero x1 (Aan.mpr rfl))
noncomputable def jX (g g':aA->aA->Option aA)(fa fb fc:EF):EF:=fun ρ=>(fa ρ).bind fun a=>(fb ρ).bind fun b=>(g a b).bind fun z=>(asB z).bind fun t=>if t=true then(fc ρ).bind fun c=>g' b c else some (.bool false)
theorem MJ {r r':R2}{g g':aA->aA->Option aA}{fa fb fc:EF}{K:aG}(hg:OpD K 0 r g)(hg':OpD K 0 r' g') : ∀ σ H Q,tF K 0 (jX g g' fa fb fc) σ H Q->CJ r r' (tF K 0 fa) (tF K 0 fb) (tF K 0 fc) σ H Q:=fun σ H Q gh=>by
 obtain⟨P,ρ,d,hP,rs,ef,k⟩:=gh
 obtain⟨d1,e1,ef⟩:=XBs ef
 obtain⟨d2,e2,ef⟩:=XBs ef
 obtain⟨z,e3,ef⟩:=XBs ef
 obtain⟨t,e4,ef2⟩:=XBs ef
 clear ef
 have ef:=ef2
 clear ef2
 cases mY e4
 refine⟨P,ρ,d1,hP,rs,e1,cR fun v H1 x1 r1=>⟨P,ρ,d2,hP.ext x1,rs.ext (bS x1),e2,cR fun u H2 x2 r2=>?_⟩⟩
 refine hg P H2 v u d1 d2 _ _ (hP.ext (x1.trans x2)) (r1.ext (bS x2)) r2 e3 (cR fun q H3 x3 r3=>⟨t,Aan.mp r3,?_⟩)
 cases t with
 | true=>
  obtain⟨d3,e5,ef⟩:=XBs (show((fc ρ).bind fun c=>g' d2 c)=some d by simpa using ef)
  exact iS ⟨P,ρ,d3,hP.ext ((x1.trans x2).trans x3),rs.ext (bS ((x1.trans x2).trans x3)),e5,cR fun w H4 x4 r4=>
   hg' P H4 u w d2 d3 d Q (hP.ext (((x1.trans x2).trans x3).trans x4)) (r2.ext (bS (x3.trans x4))) r4 ef (k.mono (((x1.trans x2).trans x3).trans x4))⟩
 | false=>
  have:fE false=d:=by simpa using ef
  subst this
  exact gX (k.zero ((x1.trans x2).trans x3) (Aan.mpr rfl))
end
abbrev Slot:=Option (Nat×aA)
abbrev bC:=List Slot
noncomputable def vS (ρ:bC):List (Option aA):=ρ.map fun s=>match s with | some (0,d)=>some d | _=>none
noncomputable def vA (ρ:bC):List (Option aA):=ρ.map fun s=>s.map (·.2)
theorem ZF {ρ:bC}{i:Nat}{d:aA}(h:(vS ρ)[i]?=some (some d)):ρ[i]?=some (some (0,d)):=by
 unfold vS at h
 rw[eY] at h
 cases e:ρ[i]? with
 | none=>rw[e] at h; simp at h
 | some s=>
  rw[e] at h
  simp only[qO,tL] at h
  cases s with
  | none=>simp at h
  | some q=>
   obtain⟨n,d'⟩:=q
   cases n with
   | zero=>simp at h; rw[h]
   | succ n=>simp at h
theorem Ip {ρ:bC}{i:Nat}{d:aA}(h:(vA ρ)[i]?=some (some d)) : ∃ n,ρ[i]?=some (some (n,d)):=by
 unfold vA at h
 rw[eY] at h
 cases e:ρ[i]? with
 | none=>rw[e] at h; simp at h
 | some s=>
  rw[e] at h
  cases s with
  | none=>simp at h
  | some q=>
   obtain⟨n,d'⟩:=q
   simp at h
   exact⟨n,by rw[h]⟩
abbrev Hd (P0:aB->Prop)(fp:Nat->List aB):aB->Prop:=fun a=>P0 a \/ ∃ i,a∈fp i
structure Sta (K:aG)(H0:Hp)(P0:aB->Prop)(B0:Hp)(ρ:bC)(σ:St)(H:Hp)(fp:Nat->List aB):Prop where
 len:σ.length=ρ.length
 nd : ∀ i,(fp i).Nodup
 dj : ∀ i j a,a∈fp i->a∈fp j->i=j
 own : ∀ i a,a∈fp i->H0 a=none/\((∃ xs,H a=some (.lst xs)) \/ ∃ q:DQ,H a=some (dO q))
 ext:Ext H0 H
 hd:Hid P0 H0
 base:Ext B0 (hid H (Hd P0 fp))
 slot : ∀ (i:Nat) n d,ρ[i]?=some (some (n,d)) -> ∃ v,σ[i]?=some (some v)/\Aed K (hid H (Hd P0 fp)) H n d v (fp i)
section
variable {K:aG}{H0 H H' B0:Hp}{P0:aB->Prop}{ρ:bC}{σ:St}{fp:Nat->List aB}
theorem Sta.hid (S:Sta K H0 P0 B0 ρ σ H fp):Hid (Hd P0 fp) H:=fun a h=>by
 rcases h with h | ⟨i,h⟩
 ·exact S.hd.ext S.ext a h
 ·exact(S.own i a h).2
theorem Sta.np (S:Sta K H0 P0 B0 ρ σ H fp){i:Nat}{a:aB}(m:a∈fp i) : ¬ P0 a:=S.hd.new (S.own i a m).1
theorem Sta.grow (S:Sta K H0 P0 B0 ρ σ H fp)(x:Ext H H'):Sta K H0 P0 B0 ρ σ H' fp:=by
 refine⟨S.len,S.nd,S.dj,fun i a m=>⟨(S.own i a m).1,(S.own i a m).2.imp (fun⟨xs,e⟩=>⟨xs,x _ _ e⟩) fun⟨xs,e⟩=>⟨xs,x _ _ e⟩⟩,S.ext.trans x,S.hd,S.base.trans (bS x),fun i n d e=>?_⟩
 obtain⟨v,h1,h2⟩:=S.slot i n d e
 refine⟨v,h1,h2.keep (bS x) fun a m=>?_⟩
 rcases(S.own i a m).2 with⟨xs,e⟩ | ⟨xs,e⟩
 ·rw[e,x _ _ e]
 ·rw[e,x _ _ e]
theorem Sta.viewS (S:Sta K H0 P0 B0 ρ σ H fp):Ai2 K (L2.hid H (Hd P0 fp)) (vS ρ) σ:=fun i d e=>by
 obtain⟨v,h1,h2⟩:=S.slot i 0 d (ZF e)
 exact⟨v,h1,h2.2⟩
theorem Sta.viewA (S:Sta K H0 P0 B0 ρ σ H fp):Ai2 K (L2.hid H P0) (vA ρ) σ:=fun i d e=>by
 obtain⟨n,e⟩:=Ip e
 obtain⟨v,h1,h2⟩:=S.slot i n d e
 exact⟨v,h1,h2.share (fQ fun a p=>.inl p) fun a m o e=>eK (S.np m) e⟩
def Tmp (K:aG)(H0:Hp)(P0:aB->Prop)(B0:Hp)(ρ:bC)(σ:St)(n:Nat)(d:aA)(v:V)(H:Hp):Prop:=
 ∃ fp,Sta K H0 P0 B0 ρ σ H fp/\Aed K (L2.hid H (Hd P0 fp)) H n d v (fp ρ.length)
inductive Md | s | a
noncomputable def xN (ρ:bC):Bool:=ρ.all fun s=>match s with
 | some (0,_)=>true
 | some (1,.dict _)=>true
 | none=>true
 | _=>false
noncomputable def xT (ρ:bC):Bool:=ρ.all fun s=>match s with
 | some (9,_)=>false
 | _=>true
noncomputable def eV (n:Nat)(m:Md)(f:EF)(ρ:bC):Option aA:=match m with
 | .s=>f (vS ρ)
 | .a=>(f (vA ρ)).bind fun d=>if (fT n d||(xN ρ&&decide (n<9)&&hW n d)||(xT ρ&&decide (n=0)&&ftD d))=true then some d else none
noncomputable def bV (m:Md)(f:BF)(ρ:bC):Option Bool:=match m with
 | .s=>f (vS ρ)
 | .a=>f (vA ρ)
noncomputable def aV (m:Md)(f:AF)(ρ:bC):Option (List aA):=match m with
 | .s=>f (vS ρ)
 | .a=>f (vA ρ)
noncomputable def tE (K:aG)(H0:Hp)(P0:aB->Prop)(n:Nat)(m:Md)(f:EF):TE:=fun σ H Q=>∃ B0 ρ fp d,Sta K H0 P0 B0 ρ σ H fp/\eV n m f ρ=some d /\ ∀ v H',Tmp K H0 P0 B0 ρ σ n d v H'->Q v H'
end
section
variable {X:Cx}{H0:Hp}{P0:aB->Prop}{e:aR}{n:Nat}
theorem Sta.trim {K:aG}{B0:Hp}{ρ:bC}{σ:St}{H:Hp}{fp:Nat->List aB}(S:Sta K H0 P0 B0 ρ σ H fp) : ∃ fp',Sta K H0 P0 B0 ρ σ H fp' /\ ∀ i a,a∈fp' i->a∈fp i /\ ∃ n d,ρ[i]?=some (some (n,d)):=by
 let fp':Nat->List aB:=fun i=>match ρ[i]? with
  | some (some _)=>fp i
  | _=>[]
 have sub : ∀ i a,a∈fp' i->a∈fp i /\ ∃ n d,ρ[i]?=some (some (n,d)):=fun i a m=>by
  have m:a∈(match ρ[i]? with | some (some _)=>fp i | _=>[]):=m
  split at m
  ·rename_i x e
   exact⟨m,x.1,x.2,e⟩
  ·simp at m
 have same : ∀ i n d,ρ[i]?=some (some (n,d))->fp' i=fp i:=fun i n d e=>by
  show(match ρ[i]? with | some (some _)=>fp i | _=>[])=fp i
  rw[e]
 have xb:Ext (L2.hid H (Hd P0 fp)) (L2.hid H (Hd P0 fp')):=fQ fun a h=>h.imp id fun⟨i,m⟩=>⟨i,(sub i a m).1⟩
 refine⟨fp',⟨S.len,fun i=>?_,fun i j a h1 h2=>S.dj i j a (sub i a h1).1 (sub j a h2).1,fun i a m=>S.own i a (sub i a m).1,S.ext,S.hd,S.base.trans xb,fun i n d e=>?_⟩,sub⟩
 ·show(match ρ[i]? with | some (some _)=>fp i | _=>[]).Nodup
  split
  ·exact S.nd i
  ·exact UP
 ·obtain⟨v,h1,h2⟩:=S.slot i n d e
  rw[same i n d e]
  exact⟨v,h1,h2.keep xb fun a m=>rfl⟩
theorem Sta.dicts {K:aG}{B0:Hp}{ρ:bC}{σ:St}{H:Hp}{fp:Nat->List aB}(S:Sta K H0 P0 B0 ρ σ H fp)(ho:xN ρ=true){i:Nat}{a:aB}{n:Nat}{d:aA}(m:a∈fp i)(e:ρ[i]?=some (some (n,d))) : ∃ q,H a=some (dO (.inl q)):=by
 have:=fV.mp ho _ (nL e)
 obtain⟨v,h1,h2⟩:=S.slot i n d e
 split at this
 ·rename_i z
  cases z
  rw[h2.1] at m
  simp at m
 ·rename_i kds z
  cases z
  obtain⟨p,xs,Fs,_,hp,hF,h3⟩:=h2
  have hn : ∀ {ds:List (aA×aA)} {ys:List (aL×V)} {Gs:List (List aB)},All3 (fun(kd:aA×aA) (kv:aL×V) f=>kd.1=kD kv.1/\Ae0 K (L2.hid H (Hd P0 fp)) H 0 kd.2 kv.2 f) ds ys Gs->Gs.flatten=[]:=fun q=>by
   induction q with
   | nil=>rfl
   | cons h _ ih=>rw[jE,h.2.1,ih]; rfl
  rw[hF,hn h3] at m
  rw[dH.mp m]
  exact⟨xs,hp⟩
 ·rename_i z
  cases z
 ·cases this
theorem Sta.no9 {K:aG}{B0:Hp}{ρ:bC}{σ:St}{H:Hp}{fp:Nat->List aB}(S:Sta K H0 P0 B0 ρ σ H fp)(ho:xT ρ=true){i:Nat}{a:aB}{n:Nat}{d:aA}(m:a∈fp i)(e:ρ[i]?=some (some (n,d))) : ∀ q,H a≠some (dO (.inr q)):=fun q z=>by
 have:=fV.mp ho _ (nL e)
 have n9:n≠9:=fun w=>by subst w; simp at this
 obtain⟨v,h1,h2⟩:=S.slot i n d e
 unfold Aed at h2
 rw[if_neg n9] at h2
 rcases h2.mut1 a m with⟨xs,w⟩ | ⟨p,w⟩ <;> rw[z] at w <;> cases w
theorem BX {K:aG}{f:EF}(m:Md) : ∀ σ H Q,tE K H0 P0 n m f σ H Q->tF K n f σ H Q:=fun σ H Q gh=>by
 obtain⟨B0,ρ,fp,d,S,ef,k⟩:=gh
 cases m with
 | s=>
  refine⟨Hd P0 fp,vS ρ,d,S.hid,S.viewS,ef,fun v H' Fr x nd fr r=>k v H' ?_⟩
  have S':=S.grow x
  have hsub : ∀ a,Hd P0 (fun i=>if i=ρ.length then Fr else fp i) a->orL (Hd P0 fp) Fr a:=fun a h=>by
   rcases h with h | ⟨i,h⟩
   ·exact .inl (.inl h)
   ·by_cases hi:i=ρ.length
    ·simp only[hi,if_true] at h; exact .inr h
    ·simp only[hi,if_false] at h; exact .inl (.inr ⟨i,h⟩)
  have nfr : ∀ i a,a∈fp i->a∉Fr:=fun i a h1 h2=>by
   have:=(fr a h2).1
   rcases(S.own i a h1).2 with⟨xs,e⟩ | ⟨xs,e⟩ <;> rw[this] at e <;> first | cases e | (cases xs <;> simp[dO] at e)
  have xb:Ext (L2.hid H (Hd P0 fp)) (L2.hid H' (Hd P0 fun i=>if i=ρ.length then Fr else fp i)):=fun b o e=>by
   obtain⟨nb,e⟩:=Ab7.mp e
   refine eK (fun q=>?_) (x _ _ e)
   rcases q with q | ⟨j,q⟩
   ·exact nb (.inl q)
   ·by_cases hj:j=ρ.length
    ·simp only[hj,if_true] at q; rw[(fr b q).1] at e; cases e
    ·simp only[hj,if_false] at q; exact nb (.inr ⟨j,q⟩)
  refine⟨fun i=>if i=ρ.length then Fr else fp i,⟨S.len,fun i=>?_,fun i j a hi hj=>?_,fun i a hi=>?_,S'.ext,S.hd,S.base.trans xb,fun i n' d' e'=>?_⟩,?_⟩
  ·by_cases hi:i=ρ.length
   ·simp only[hi,if_true]; exact nd
   ·simp only[hi,if_false]; exact S.nd i
  ·by_cases h1:i=ρ.length <;> by_cases h2:j=ρ.length
   ·rw[h1,h2]
   ·simp only[h1,if_true] at hi; simp only[h2,if_false] at hj; exact absurd hi (nfr _ _ hj)
   ·simp only[h1,if_false] at hi; simp only[h2,if_true] at hj; exact absurd hj (nfr _ _ hi)
   ·simp only[h1,if_false] at hi; simp only[h2,if_false] at hj; exact S.dj i j a hi hj
  ·by_cases h1:i=ρ.length
   ·simp only[h1,if_true] at hi
    exact⟨S.ext.none (fr a hi).1,r.mut a hi⟩
   ·simp only[h1,if_false] at hi
    exact S'.own i a hi
  ·have hlt:=(dU.mp e').1
   have h1:i≠ρ.length:=by omega
   obtain⟨v',q1,q2⟩:=S'.slot i n' d' e'
   refine⟨v',q1,?_⟩
   simp only[h1,if_false]
   obtain⟨v2,p1,p2⟩:=S.slot i n' d' e'
   have ev:=dZ (dZ (p1.symm.trans q1))
   subst ev
   refine p2.keep xb fun a m=>?_
   rcases(S.own i a m).2 with⟨xs,e⟩ | ⟨xs,e⟩
   ·rw[e,x _ _ e]
   ·rw[e,x _ _ e]
  ·simp only[if_true]
   exact r.keep (fQ hsub) fun a m=>rfl
 | a=>
  obtain⟨d',ed,ef⟩:=XBs ef
  obtain⟨fl,rfl⟩:=cX ef
  obtain⟨fp,S,trm⟩:=S.trim
  refine⟨P0,vA ρ,d',S.hd.ext S.ext,S.viewA,ed,fun v H' Fr x nd fr r=>k v H' ?_⟩
  have S':=S.grow x
  have nfr : ∀ i a,a∈fp i->a∉Fr:=fun i a h1 h2=>by
   have:=(fr a h2).1
   rcases(S.own i a h1).2 with⟨xs,e⟩ | ⟨xs,e⟩ <;> rw[this] at e <;> first | cases e | (cases xs <;> simp[dO] at e)
  have xb:Ext (L2.hid H (Hd P0 fp)) (L2.hid H' (Hd P0 fun i=>if i=ρ.length then Fr else fp i)):=fun b o e=>by
   obtain⟨nb,e⟩:=Ab7.mp e
   refine eK (fun q=>?_) (x _ _ e)
   rcases q with q | ⟨j,q⟩
   ·exact nb (.inl q)
   ·by_cases hj:j=ρ.length
    ·simp only[hj,if_true] at q; rw[(fr b q).1] at e; cases e
    ·simp only[hj,if_false] at q; exact nb (.inr ⟨j,q⟩)
  refine⟨fun i=>if i=ρ.length then Fr else fp i,⟨S.len,fun i=>?_,fun i j a hi hj=>?_,fun i a hi=>?_,S'.ext,S.hd,S.base.trans xb,fun i n' d' e'=>?_⟩,?_⟩
  ·by_cases hi:i=ρ.length
   ·simp only[hi,if_true]; exact nd
   ·simp only[hi,if_false]; exact S.nd i
  ·by_cases h1:i=ρ.length <;> by_cases h2:j=ρ.length
   ·rw[h1,h2]
   ·simp only[h1,if_true] at hi; simp only[h2,if_false] at hj; exact absurd hi (nfr _ _ hj)
   ·simp only[h1,if_false] at hi; simp only[h2,if_true] at hj; exact absurd hj (nfr _ _ hi)
   ·simp only[h1,if_false] at hi; simp only[h2,if_false] at hj; exact S.dj i j a hi hj
  ·by_cases h1:i=ρ.length
   ·simp only[h1,if_true] at hi
    exact⟨S.ext.none (fr a hi).1,r.mut a hi⟩
   ·simp only[h1,if_false] at hi
    exact S'.own i a hi
  ·have hlt:=(dU.mp e').1
   have h1:i≠ρ.length:=by omega
   obtain⟨v2,p1,p2⟩:=S.slot i n' d' e'
   refine⟨v2,p1,?_⟩
   simp only[h1,if_false]
   refine p2.keep xb fun a m=>?_
   rcases(S.own i a m).2 with⟨xs,e⟩ | ⟨xs,e⟩
   ·rw[e,x _ _ e]
   ·rw[e,x _ _ e]
  ·simp only[if_true]
   have up : ∀ a o,(L2.hid H' (orL P0 Fr)) a=some o->((∃ xs,o = .tup xs) \/ (xN ρ=true /\ ∀ q,o≠dO (.inl q)) \/ (xT ρ=true /\ ∃ q,o=dO (.inr q)))->(L2.hid H' (Hd P0 fun i=>if i=ρ.length then Fr else fp i)) a=some o:=fun a o e ho=>by
    obtain⟨na,e⟩:=Ab7.mp e
    refine eK (fun q=>?_) e
    rcases q with q | ⟨j,q⟩
    ·exact na (.inl q)
    ·by_cases hj:j=ρ.length
     ·simp only[hj,if_true] at q; exact na (.inr q)
     ·simp only[hj,if_false] at q
      rcases ho with⟨xs,rfl⟩ | ⟨ho,hq⟩ | ⟨ho,qq,rfl⟩
      ·rcases(S'.own j a q).2 with⟨ys,e2⟩ | ⟨ys,e2⟩ <;> rw[e] at e2 <;> first | cases e2 | (cases ys <;> simp[dO] at e2)
      ·obtain⟨_,n',d',e'⟩:=trm j a q
       obtain⟨z,ez⟩:=S'.dicts ho q e'
       rw[e] at ez
       injection ez with ez
       exact hq z ez
      ·obtain⟨_,n',d',e'⟩:=trm j a q
       exact absurd e (S'.no9 ho q e' qq)
   rcases VC.mp fl with fl | fl3
   rcases VC.mp fl with fl | fl
   ·exact r.flat (fun a xs e=>up a _ e (.inl ⟨xs,rfl⟩)) fl
   ·have fl:=kM.mp fl
    have fl1:=kM.mp fl.1
    exact r.nd (fun a o e hq=>up a o e (.inr (.inl ⟨fl1.1,hq⟩))) (of_decide_eq_true fl1.2) fl.2
   ·have fl:=kM.mp fl3
    have fl1:=kM.mp fl.1
    have z:=of_decide_eq_true fl1.2
    subst z
    exact⟨r.1,r.2.ft (fun a o e hq=>up a o e (hq.imp id fun hq=>.inr ⟨fl1.1,hq⟩)) _ fl.2⟩
theorem ev {f:EF}(m:Md)(h:DF n X e f):PE X e (tE X.K H0 P0 n m f):=PE.imp h (BX m)
noncomputable def tB' (K:aG)(H0:Hp)(P0:aB->Prop)(m:Md)(f:BF):TT:=fun σ H Q=>∃ B0 ρ fp b,Sta K H0 P0 B0 ρ σ H fp/\bV m f ρ=some b /\ ∀ H',Sta K H0 P0 B0 ρ σ H' fp->Q b H'
theorem evB {f:BF}(m:Md)(h:DT X e f):PT X e (tB' X.K H0 P0 m f):=PT.imp h fun σ H Q gh=>by
 obtain⟨B0,ρ,fp,b,S,ef,k⟩:=gh
 cases m with
 | s=>exact⟨Hd P0 fp,vS ρ,b,S.hid,S.viewS,ef,fun H' x=>k H' (S.grow x)⟩
 | a=>exact⟨P0,vA ρ,b,S.hd.ext S.ext,S.viewA,ef,fun H' x=>k H' (S.grow x)⟩
end
inductive Out where
 | nx (ρ:bC) | rt (d:aA) | bk (ρ:bC) | ct (ρ:bC)
abbrev SF:=bC->Option Out
def IP (K:aG)(H0:Hp)(P0:aB->Prop)(n0:Nat)(d:aA)(v:V)(H':Hp):Prop:=
 ∃ Fr,Ext H0 H'/\Fr.Nodup/\(∀ a∈Fr,H0 a=none /\ ∃ o,H' a=some o)/\Aed K (hid H' (orL P0 Fr)) H' n0 d v Fr
def WH (K:aG)(H0:Hp)(P0:aB->Prop)(B0:Hp)(n0:Nat)(D:Ends):Out->Prop
 | .nx ρ=>∀ σ H fp,Sta K H0 P0 B0 ρ σ H fp->D.nx σ H
 | .bk ρ=>∀ σ H fp,Sta K H0 P0 B0 ρ σ H fp->D.bk σ H
 | .ct ρ=>∀ σ H fp,Sta K H0 P0 B0 ρ σ H fp->D.ct σ H
 | .rt d=>∀ v H',IP K H0 P0 n0 d v H'->D.rt v H'
noncomputable def tS (K:aG)(H0:Hp)(P0:aB->Prop)(n0:Nat)(F:SF):TS:=fun D σ H=>∃ B0 ρ fp o,Sta K H0 P0 B0 ρ σ H fp/\F ρ=some o/\WH K H0 P0 B0 n0 D o
abbrev DS (X:Cx)(H0:Hp)(P0:aB->Prop)(n0:Nat)(s:bK)(F:SF):Prop:=PS X s (tS X.K H0 P0 n0 F)
abbrev DSs (X:Cx)(H0:Hp)(P0:aB->Prop)(n0:Nat)(s:List bK)(F:SF):Prop:=PSs X s (tS X.K H0 P0 n0 F)
section
variable {X:Cx}{H0:Hp}{P0:aB->Prop}{n0 n:Nat}{s:bK}{ss:List bK}{F G:SF}{e:aR}{f:EF}{pos:bL}
theorem PS.imp {t t':TS}(h:PS X s t)(w : ∀ D σ H,t' D σ H->t D σ H):PS X s t':=fun pins st σ H D I q=>h pins st σ H D I (w _ _ _ q)
theorem PSs.imp {t t':TS}(h:PSs X ss t)(w : ∀ D σ H,t' D σ H->t D σ H):PSs X ss t':=fun pins st σ H D I q=>h pins st σ H D I (w _ _ _ q)
noncomputable def eQ:SF:=fun ρ=>some (.nx ρ)
noncomputable def bH (F G:SF):SF:=fun ρ=>(F ρ).bind fun o=>match o with
 | .nx ρ'=>G ρ'
 | o=>some o
theorem gA:DSs X H0 P0 n0 [] eQ:=PSs.imp lV fun D σ H gh=>by
 obtain⟨B0,ρ,fp,o,S,ef,k⟩:=gh
 cases ef
 exact k σ H fp S
theorem cC (h:DS X H0 P0 n0 s F):DSs X H0 P0 n0 [s] F:=jI h
theorem bU (h:DS X H0 P0 n0 s F)(h2:DSs X H0 P0 n0 ss G):DSs X H0 P0 n0 (s::ss) (bH F G):=PSs.imp (gU h h2) fun D σ H gh=>by
 obtain⟨B0,ρ,fp,o,S,ef,k⟩:=gh
 obtain⟨o1,e1,ef⟩:=XBs ef
 refine⟨B0,ρ,fp,o1,S,e1,?_⟩
 cases o1 with
 | nx ρ1=>exact fun σ1 H1 fp1 S1=>⟨B0,ρ1,fp1,o,S1,ef,k⟩
 | rt d=>cases ef; exact k
 | bk ρ1=>cases ef; exact k
 | ct ρ1=>cases ef; exact k
noncomputable def sIf (m:Md)(t:BF)(F G:SF):SF:=fun ρ=>(bV m t ρ).bind fun b=>if b=true then F ρ else G ρ
theorem fS {c:aR}{a b:List bK}{t:BF}(m:Md)(hc:DT X c t)(ha:DSs X H0 P0 n0 a F)(hb:DSs X H0 P0 n0 b G):DS X H0 P0 n0 (.If c a b pos) (sIf m t F G):=
 PS.imp (lP (evB m hc) ha hb) fun D σ H gh=>by
  obtain⟨B0,ρ,fp,o,S,ef,k⟩:=gh
  obtain⟨b,e1,ef⟩:=XBs ef
  refine⟨B0,ρ,fp,b,S,e1,fun H1 S1=>?_⟩
  cases b with
  | true=>exact iS ⟨B0,ρ,fp,o,S1,by simpa using ef,k⟩
  | false=>exact gX ⟨B0,ρ,fp,o,S1,by simpa using ef,k⟩
noncomputable def frz (i:Nat)(ρ:bC):bC:=match ρ[i]? with
 | some (some (_,d))=>ρ.set i (some (0,d))
 | _=>ρ
theorem Sta.frz {K:aG}{H B0:Hp}{ρ:bC}{σ:St}{fp:Nat->List aB}(S:Sta K H0 P0 B0 ρ σ H fp)(i:Nat) : ∃ fp',Sta K H0 P0 B0 (L2.frz i ρ) σ H fp':=by
 unfold L2.frz
 cases e:ρ[i]? with
 | none=>exact⟨fp,S⟩
 | some s=>
  cases s with
  | none=>exact⟨fp,S⟩
  | some q=>
   obtain⟨n,d⟩:=q
   have hi:=(dU.mp e).1
   have hsub : ∀ a,Hd P0 (fun j=>if j=i then [] else fp j) a->Hd P0 fp a:=fun a h=>by
    rcases h with h | ⟨j,h⟩
    ·exact .inl h
    ·by_cases hj:j=i
     ·simp only[hj,if_true] at h; simp at h
     ·simp only[hj,if_false] at h; exact .inr ⟨j,h⟩
   refine⟨fun j=>if j=i then [] else fp j,⟨by simp[S.len],fun j=>?_,fun j k a h1 h2=>?_,fun j a h1=>?_,S.ext,S.hd,S.base.trans (fQ hsub),fun j n' d' e'=>?_⟩⟩
   ·by_cases hj:j=i
    ·simp only[hj,if_true]; exact .nil
    ·simp only[hj,if_false]; exact S.nd j
   ·by_cases hj:j=i
    ·simp only[hj,if_true] at h1; simp at h1
    ·by_cases hk:k=i
     ·simp only[hk,if_true] at h2; simp at h2
     ·simp only[hj,if_false] at h1; simp only[hk,if_false] at h2; exact S.dj j k a h1 h2
   ·by_cases hj:j=i
    ·simp only[hj,if_true] at h1; simp at h1
    ·simp only[hj,if_false] at h1; exact S.own j a h1
   ·by_cases hj:j=i
    ·subst hj
     rw[lF hi] at e'
     cases e'
     obtain⟨v,h1,h2⟩:=S.slot j n d e
     refine⟨v,h1,?_⟩
     simp only[if_true]
     refine⟨rfl,h2.share (fQ hsub) fun a m o q=>eK (fun z=>?_) q⟩
     rcases z with z | ⟨k,z⟩
     ·exact S.np m z
     ·by_cases hk:k=j
      ·simp only[hk,if_true] at z; simp at z
      ·simp only[hk,if_false] at z; exact hk (S.dj k j a z m)
    ·rw[jT (fun z=>hj z.symm)] at e'
     obtain⟨v,h1,h2⟩:=S.slot j n' d' e'
     refine⟨v,h1,?_⟩
     simp only[hj,if_false]
     exact h2.keep (fQ hsub) fun a m=>rfl
noncomputable def nE (i:Nat)(F:SF):SF:=fun ρ=>F (frz i ρ)
theorem pR (i:Nat)(h:DSs X H0 P0 n0 ss F):DSs X H0 P0 n0 ss (nE i F):=PSs.imp h fun D σ H ⟨B0,ρ,fp,o,S,ef,k⟩=>let ⟨fp',S'⟩:=S.frz i; ⟨B0,_,fp',o,S',ef,k⟩
theorem Tmp.set {K:aG}{H B0:Hp}{ρ:bC}{σ:St}{d:aA}{v:V}{i:Nat}(t:Tmp K H0 P0 B0 ρ σ n d v H)(hi:i<ρ.length) : ∃ fp,Sta K H0 P0 B0 (ρ.set i (some (n,d))) (σ.set i (some v)) H fp:=by
 obtain⟨fp,S,r⟩:=t
 have hne:ρ.length≠i:=by omega
 have hsub : ∀ a,Hd P0 (fun j=>if j=i then fp ρ.length else if j=ρ.length then [] else fp j) a->Hd P0 fp a:=fun a h=>by
  rcases h with h | ⟨j,h⟩
  ·exact .inl h
  ·by_cases hj:j=i
   ·simp only[hj,if_true] at h; exact .inr ⟨_,h⟩
   ·by_cases hk:j=ρ.length
    ·simp only[hj,if_false,hk,if_true] at h
     rw[if_neg hne] at h
     simp at h
    ·simp only[hj,if_false,hk] at h; exact .inr ⟨j,h⟩
 have src : ∀ j a,a∈(if j=i then fp ρ.length else if j=ρ.length then [] else fp j)->(j=i/\a∈fp ρ.length) \/ (j≠i/\j≠ρ.length/\a∈fp j):=fun j a h=>by
  by_cases hj:j=i
  ·simp only[hj,if_true] at h; exact .inl ⟨hj,h⟩
  ·by_cases hk:j=ρ.length
   ·rw[if_neg hj,if_pos hk] at h; simp at h
   ·rw[if_neg hj,if_neg hk] at h; exact .inr ⟨hj,hk,h⟩
 refine⟨fun j=>if j=i then fp ρ.length else if j=ρ.length then [] else fp j,⟨by simp[S.len],fun j=>?_,fun j k a h1 h2=>?_,fun j a h1=>?_,S.ext,S.hd,S.base.trans (fQ hsub),fun j n' d' e'=>?_⟩⟩
 ·by_cases hj:j=i
  ·rw[if_pos hj]; exact S.nd _
  ·by_cases hk:j=ρ.length
   ·rw[if_neg hj,if_pos hk]; exact .nil
   ·rw[if_neg hj,if_neg hk]; exact S.nd _
 ·rcases src j a h1 with⟨e1,m1⟩ | ⟨e1,l1,m1⟩ <;> rcases src k a h2 with⟨e2,m2⟩ | ⟨e2,l2,m2⟩
  ·rw[e1,e2]
  ·exact absurd (S.dj _ _ a m2 m1) l2
  ·exact absurd (S.dj _ _ a m1 m2) l1
  ·exact S.dj j k a m1 m2
 ·rcases src j a h1 with⟨e1,m1⟩ | ⟨e1,l1,m1⟩
  ·exact S.own _ a m1
  ·exact S.own _ a m1
 ·by_cases hj:j=i
  ·subst hj
   rw[lF hi] at e'
   cases e'
   refine⟨v,?_,?_⟩
   ·rw[lF (by rw[S.len]; exact hi)]
   ·rw[if_pos rfl]
    exact r.keep (fQ hsub) fun a m=>rfl
  ·rw[jT (fun z=>hj z.symm)] at e'
   have hlt:=(dU.mp e').1
   have hk:j≠ρ.length:=by omega
   obtain⟨v',h1,h2⟩:=S.slot j n' d' e'
   refine⟨v',?_,?_⟩
   ·rw[jT (fun z=>hj z.symm)]; exact h1
   ·rw[if_neg hj,if_neg hk]
    exact h2.keep (fQ hsub) fun a m=>rfl
noncomputable def cM (i n:Nat)(m:Md)(f:EF):SF:=fun ρ=>(eV n m f ρ).bind fun d=>if i<ρ.length then some (.nx (ρ.set i (some (n,d)))) else none
theorem fC {i:Nat}{x:aD}{pos':bL}(n:Nat)(m:Md)(hN:X.N.Nodup)(hi:X.N[i]?=some x)(hx:kO X.env.scope x)(he:DF n X e f)(hs:lY e (some (.Name x pos')) pos.line X.env=pure false:=by rfl)(hf:X.fn x=true \/ X.env.scope.names.lookup x=some .local:=by first | exact .inl rfl | exact .inr rfl | assumption) :
  DS X H0 P0 n0 (.Assign [.Name x pos'] e pos) (cM i n m f):=PS.imp (xZ hN hi hx (ev m he) hs hf) fun D σ H gh=>by
 obtain⟨B0,ρ,fp,o,S,ef,k⟩:=gh
 obtain⟨d,e1,ef⟩:=XBs ef
 obtain⟨hl,rfl⟩:=cX ef
 refine⟨B0,ρ,fp,d,S,e1,fun v H' t=>?_⟩
 obtain⟨fp',S'⟩:=t.set hl
 exact k _ _ fp' S'
theorem Tmp.ret {K:aG}{H B0:Hp}{ρ:bC}{σ:St}{d:aA}{v:V}(t:Tmp K H0 P0 B0 ρ σ n d v H):IP K H0 P0 n d v H:=by
 obtain⟨fp,S,r⟩:=t
 refine⟨fp ρ.length,S.ext,S.nd _,fun a m=>⟨(S.own _ a m).1,?_⟩,r.keep (fQ fun a h=>?_) fun a m=>rfl⟩
 ·rcases(S.own _ a m).2 with⟨xs,e⟩ | ⟨xs,e⟩
  ·exact⟨_,e⟩
  ·exact⟨_,e⟩
 ·rcases h with h | h
  ·exact .inl h
  ·exact .inr ⟨_,h⟩
noncomputable def cK (n:Nat)(m:Md)(f:EF):SF:=fun ρ=>(eV n m f ρ).bind fun d=>some (.rt d)
theorem dD (m:Md)(he:DF n0 X e f):DS X H0 P0 n0 (.Return (some e) pos) (cK n0 m f):=PS.imp (mP (ev m he)) fun D σ H gh=>by
 obtain⟨B0,ρ,fp,o,S,ef,k⟩:=gh
 obtain⟨d,e1,ef⟩:=XBs ef
 cases ef
 exact⟨B0,ρ,fp,d,S,e1,fun v H' t=>k v H' t.ret⟩
noncomputable def GT (i n0:Nat):SF:=fun ρ=>match ρ[i]? with
 | some (some (n,d))=>if n=n0 then some (.rt d) else none
 | _=>none
theorem Lo (i:Nat){x:aD}{p:bL}(hN:X.N[i]?=some x:=by rfl)(hv:kN X.env.scope x:=by first | exact bE rfl | exact bD (bE rfl) | exact bD (bD rfl))(hd:(x == ("__debug__" : aD))=false:=by decide)
  (hcd:(x == ("__classdict__" : aD))=false:=by decide):DS X H0 P0 n0 (.Return (some (.Name x p)) pos) (GT i n0):=PS.imp (mP (mU hN hv hd hcd)) fun D σ H gh=>by
 obtain⟨B0,ρ,fp,o,S,ef,k⟩:=gh
 unfold GT at ef
 cases e:ρ[i]? with
 | none=>rw[e] at ef; simp at ef
 | some q=>
  cases q with
  | none=>rw[e] at ef; simp at ef
  | some q=>
   obtain⟨n,d⟩:=q
   rw[e] at ef
   obtain⟨rfl,rfl⟩:=cX ef
   obtain⟨v,h1,h2⟩:=S.slot i n d e
   refine⟨v,h1,k v H ⟨fp i,S.ext,S.nd i,fun a m=>⟨(S.own i a m).1,?_⟩,h2.keep (fQ fun a h=>?_) fun a m=>rfl⟩⟩
   ·rcases(S.own i a m).2 with⟨xs,e⟩ | ⟨xs,e⟩
    ·exact⟨_,e⟩
    ·exact⟨_,e⟩
   ·rcases h with h | h
    ·exact .inl h
    ·exact .inr ⟨_,h⟩
end
section
variable {X:Cx}
theorem Eg:Ado X (.builtin "isinstance") (fun xs H Q=>∃ x T t b,xs=[x,.ty T]/\TyOf X.K H x t/\UC X.K t (.type T)=some b/\Q (.bl b) H):=by
 intro pins s σ H xs us Q I r h
 obtain⟨x,T,t,b,rfl,ty,e,q⟩:=h
 obtain⟨u,w',rfl,ru,rw'⟩:=vals2 r
 cases rw'
 exact Bi I ru ty e fun tk=>⟨.bl b,H,I.tok tk,rfl,q⟩
end
section
variable {X:Cx}
noncomputable def xI (x:aD):It:=⟨fun i _=>i<x.cps.size,fun i H v H'=>H'=H /\ ∃ c,x.cps[i]?=some c/\v = .str ⟨#[c]⟩,fun i _=>x.cps.size≤i⟩
theorem OG {P:bB}{w:aW}{K:aG}{tg:aR}{it:aB}{x:aD}{tk0:Tok}{ty:String}
  (W : ∀ A':cA,A'.handled=none->Walks P w A' it [it] [it] x.cps.size (SignAt x) (fun i h=>h.IsStrIter it ty x tk0 i))
  (sf : ∀ (A:cA) (i:Nat) (s:aH) (Q:aE->aH->Prop) (E:aE->aH->Prop),s.heap.IsStrIter it ty x tk0 i->Q (.ref it) s->aQ (aT P w) A (pyIter (.ref it)) Q E s)
  (hno:["enumerate","zip","dict_itemiterator","dict_reverseitemiterator","odict_iterator","itertools.zip_longest","itertools.pairwise"].contains ty=false) :
  Turn P w K tg (xI x) [it] it (fun i h=>h.IsStrIter it ty x tk0 i/\i≤x.cps.size) where
 mem:=by simp
 obj:=fun i h st b hb=>by
  have e:b=it:=by simpa using hb
  subst e
  obtain⟨o,e,_,d⟩:=st.1
  exact⟨o,e,fun v z=>by rw[d] at z; cases z⟩
 keep:=fun i h h' st k=>⟨let ⟨o,e,r⟩:=st.1; ⟨o,k it (by simp) o e,r⟩,st.2⟩
 item:=by
  intro X hP hw hK hc i pins s σ H E I hf st hg
  subst hP hw hK
  obtain⟨f0,f1,f2,f3,f4,f5⟩:=hf it (by simp)
  refine(W X.A (I.ok.hd hc)).item i s _ _ hg st.1 fun v h' tk hv st' kk=>?_
  obtain⟨c,u,hcx,rfl⟩:=hv
  have I1:Inv X pins σ H { s with heap:=h',toks:=tk }:=I.turned (fun b o hb e=>kk b o (by simpa using hb) e) f0 f1 f3 f4 f5
  obtain⟨o,e,hcl,d⟩:=id st'
  exact⟨_,rfl,rL (s:={ s with heap:=h',toks:=tk }) e hcl d hno ⟨.str ⟨#[c]⟩,H,I1,⟨u,rfl⟩,⟨rfl,c,hcx,rfl⟩,⟨st',hg⟩,fun b hb=>(hf b hb).1⟩⟩
 done:=by
  intro X hP hw hK hc i pins s σ H E I hf st hg
  subst hP hw hK
  obtain⟨f0,f1,f2,f3,f4,f5⟩:=hf it (by simp)
  have hi:i=x.cps.size:=Nat.le_antisymm st.2 hg
  subst hi
  exact(W X.A (I.ok.hd hc)).done s _ _ st.1 fun h' tk kk=>⟨rfl,I.turned (fun b o hb e=>kk b o (by simpa using hb) e) f0 f1 f3 f4 f5⟩
 self:=fun A i s Q E st h=>sf A i s Q E st.1 h
noncomputable def WC (tl:TE):TI:=fun σ H R=>tl σ H fun v H1=>∃ x,v = .str x/\R (xI x) H1
theorem Ii {X:Cx}{tg l:aR}{tl:TE}(hl:PE X l tl):PI X tg l (WC tl):=by
 intro pins s σ H R I h
 refine thn (hl pins s σ H _ I h) fun v s1 gh=>?_
 obtain⟨y,H1,I1,r1,q1⟩:=gh
 obtain⟨x,rfl,q⟩:=q1
 obtain⟨t,rfl⟩:=r1
 have fin : ∀ (o:aY) (ty:String),Turn X.prog X.w X.K tg (xI x) [s1.heap.objs.size] s1.heap.objs.size (fun i h=>h.IsStrIter s1.heap.objs.size ty x t i/\i≤x.cps.size)->(s1.heap.push o).IsStrIter s1.heap.objs.size ty x t 0 ->
   PIE X pins σ tg R (.ref s1.heap.objs.size) { s1 with heap:=s1.heap.push o }:=fun o ty T st=>by
  refine⟨s1.heap.objs.size,[s1.heap.objs.size],_,_,H1,rfl,I1.kept fun b o e=>cN _ e,T,⟨st,eX _⟩,fun b hb=>?_,q⟩
  have e:b=s1.heap.objs.size:=by simpa using hb
  subst e
  exact I1.fpOk (bR _) (I1.hok.fresh (bR _))
 cases ha:x.cps.all (· < 128)
 ·exact wpAny_pyIter_wide ha (fin _ "str_iterator" (OG (fun A' hA=>Walks.strWide hA _ x t) (fun A i s Q E st h=>wpAny_pyIter_striter_wide st h) (by decide)) ⟨_,eZ _ rfl,rfl,rfl⟩)
 ·exact wpAny_pyIter_ascii ha (fin _ "str_ascii_iterator" (OG (fun A' hA=>Walks.strAscii hA _ x t) (fun A i s Q E st h=>wpAny_pyIter_striter_ascii st h) (by decide)) ⟨_,eZ _ rfl,rfl,rfl⟩)
noncomputable def allB (xs:List V):Bool:=xs.all fun v=>decide (v = .bl true)
theorem EZ (hc:X.calm=true):Ado X (.builtin "all") (fun xs H Q=>∃ p ys,xs=[.ref p]/\SqL X.K H p ys/\(∀ y∈ys,∃ b,y = .bl b)/\Q (.bl (allB ys)) H):=by
 intro pins s σ H xs us Q I r h
 obtain⟨p,ys,rfl,hs,hb,q⟩:=h
 obtain⟨u,rfl,ru⟩:=vals1 r
 cases ru
 obtain⟨its,rv,pl,hz⟩:=I.list hs
 have hl:=pl.isList
 have hlt:p<s.heap.objs.size:=by obtain⟨o,n,e,_⟩:=pl; exact cG e
 have hh:=I.ok.hd hc
 have len:=rv.length
 refine call_all_walk (HG hl ⟨s.heap.objs.size,_,_,_,_,_,fun i=>decide (ys[i]?=some (.bl true)),rfl,Walks.list (A:=X.A.in1) hh s.heap.objs.size p (dG hlt) its.toArray,
  ⟨⟨_,eZ _ rfl,rfl,rfl⟩,hl.at fun o e=>cN _ e⟩,?_,?_⟩)
 ·intro i v s' Q' E' hv hq
  have hv':its[i]?=some v:=by simpa using hv
  have hi:i<ys.length:=by rw[len]; exact(dU.mp hv').1
  obtain⟨b,hy⟩:=hb ys[i] (pA hi)
  have hy':ys[i]?=some (.bl b):=by rw[iP hi,hy]
  obtain⟨u',h1,h2⟩:=rv.get hy'
  rw[hv'] at h1; cases h1
  cases h2
  refine qF ?_
  have:decide (ys[i]?=some (V.bl true))=b:=by rw[hy']; cases b <;> simp
  have hq:Q' (decide (ys[i]?=some (V.bl true))) s':=hq
  rw[this] at hq
  exact hq
 ·intro h' tk hk
  have e:((dN its.toArray.size).all fun i=>decide (ys[i]?=some (V.bl true)))=allB ys:=by
   have hn:its.toArray.size=ys.length:=by simp[len]
   rw[hn]
   unfold allB
   rw[Bool.eq_iff_iff]
   simp only[fV,lD,decide_eq_true_eq]
   constructor
   ·intro h v hv
    obtain⟨i,hi,rfl⟩:=List.getElem_of_mem hv
    have:=h i hi
    rw[iP hi] at this
    exact dZ this
   ·intro h i hi
    rw[iP hi,h _ (pA hi)]
  rw[e]
  refine⟨.bl (allB ys),H,?_,rfl,q⟩
  exact I.kept fun b o eb=>hk b o (by simp; exact dG (cG eb)) (cN _ eb)
end
structure Def (P:bB)(w:aW)(K:aG)(mg:aD->Option aE)(base:aP)(x:aD)(k:Nat)(ps:List aD)(sp:Sp):Prop where
 ex : ∃ f fd,FnOk P w K mg base CX0 k f fd ps sp/\mg x=some (.ref f)/\kH K (.ref f)=true/\Binds K fd ps []
section
variable {X:Cx}{x:aD}{k:Nat}{ps:List aD}{sp:Sp}{e:aR}{es:List aR}{t:TA}{p pos:bL}
theorem CP (D:Def X.prog X.w X.K X.mg X.base x k ps sp)(hr:Room k X.A)(hg:Gl X x)(ha:PA X (e::es) t)(hdb:(x == ("__debug__" : aD))=false:=by decide)(he:bI (e::es) X.env=(false,bJ e X.env)::bI es X.env:=by rfl)
  (hpl:(fD pos (bI es X.env)).any (·.1)=false:=by rfl):PE X (.Call (.Name x p) (e::es) [] pos) (zX sp [] E0 t):=by
 obtain⟨f,fd,F,hm,hk,hb⟩:=D.ex
 exact LO F hr hg hm hk hb .nil WV ha hdb he hpl
end
noncomputable def BM (a b:String):Option Bool:=if (jP a == jP b)=true then some true else if PySem.W.kitMeta b=true then(fastBuiltinMro a).map (·.contains (.type b)) else none
theorem Akb {K:aG}{a b:String}:UC K (.type a) (.type b)=BM a b:=rfl
noncomputable def kinds:List String:=["NoneType","bool","int","str","list","tuple","dict"]
noncomputable def isK (t T:String):Bool:=t == T||(t == "bool" && T == "int")
theorem ZP:(kinds.all fun t=>["int","bool","str","list","tuple","dict"].all fun T=>decide (BM t T=some (isK t T)))=true:=by decide +kernel
theorem Me {t T:String}(ht:t∈kinds)(hT:T∈["int","bool","str","list","tuple","dict"]):BM t T=some (isK t T):=by
 have h:=fV.mp ZP t ht
 have h:=fV.mp h T hT
 exact of_decide_eq_true h
def Kd (K:aG)(H:Hp)(x:V)(t:String):Prop:=TyOf K H x (.type t)/\t∈kinds
theorem Kd.ext {K:aG}{H H':Hp}(x:Ext H H'){v:V}{t:String}(h:Kd K H v t):Kd K H' v t:=⟨x.ty h.1,h.2⟩
theorem Kd.int {K:aG}{H:Hp}{x:V}(h:Kd K H x "int") : ∃ i,x = .int i:=by
 obtain⟨h,_⟩:=h
 generalize e:jP "int" = t at h
 cases h <;> first | exact⟨_,rfl⟩ | exact absurd (Value.type.inj e) (by decide) | cases e
theorem Kd.str {K:aG}{H:Hp}{x:V}(h:Kd K H x "str") : ∃ i,x = .str i:=by
 obtain⟨h,_⟩:=h
 generalize e:jP "str" = t at h
 cases h <;> first | exact⟨_,rfl⟩ | exact absurd (Value.type.inj e) (by decide) | cases e
section
variable {X:Cx}
theorem WX {x:aD}{T:String}{pos:bL}(hg:Gl X x)(hm:X.mg x=none)(hv:jN x=some (.type T))(hn:x ≠ "__name__":=by decide)(hd:(x == ("__debug__" : aD))=false:=by decide):PE X (.Name x pos) (tC (.ty T)):=
 Ls hg hm hv rfl hn hd
end
theorem boot_isinstance:jN "isinstance" = some (.builtin "isinstance"):=by decide +kernel
theorem boot_abs:jN "abs" = some (.builtin "abs"):=by decide +kernel
theorem boot_all:jN "all" = some (.builtin "all"):=by decide +kernel
theorem bits_le {i:Int}{n:Nat}(h:i.natAbs<2 ^ n):Builtin.Int.intBits i≤n:=by
 unfold Builtin.Int.intBits
 split
 ·exact eX _
 ·rename_i hne
  have h0:i.natAbs≠0:=by
   intro z; apply hne; simp[Int.natAbs_eq_zero.mp z]
  have:=(Nat.log2_lt h0).mpr h
  omega
theorem Lz {X:Cx}:OpR X (iZ .Mult) (rI (fun i j=>i.natAbs<2 ^ 1000/\j.natAbs<2 ^ 1000) fun i j=>.int (i*j)):=opI fun i j _ _ _ _ _ hc q=>
 mul_int q (PyProof.Rows.mulOk_of_bits (bits_le hc.1) (bits_le hc.2) (by decide))
theorem eR {A:cA}{k:Nat}(hr:Room k A):A.units+100<cLine:=by
 have:=hr.un
 omega
theorem QH : ∀ {xs:List V} {us:List aE},xs.length=us.length->(∀ (j:Nat) x u,xs[j]?=some x->us[j]?=some u->RelV x u)->Vals xs us
 | [],[],_,_=>.nil
 | [],_::_,h,_=>by simp at h
 | _::_,[],h,_=>by simp at h
 | x::xs,u::us,h,r=>.cons (r 0 x u rfl rfl) (QH (by simpa using h) fun j y w h1 h2=>r (j+1) y w (by simpa using h1) (by simpa using h2))
noncomputable def JA:R2:=fun x y H Q=>∃ i j,x = .str i/\y = .str j/\Q (.bl (!(decide (j.cps.toList<i.cps.toList)))) H
noncomputable def pI (c:Nat):V:=.str ⟨#[c]⟩
section
variable {X:Cx}
theorem Cr (hc:X.calm=true):Ado X (.type "list") (fun xs H Q=>∃ z:aD,xs=[.str z]/\z.length≤sizeLine /\ ∀ l,H l=none->Q (.ref l) (upd H l (.lst (z.cps.toList.map pI)))):=by
 intro pins s σ H xs us Q I r h
 obtain⟨z,rfl,hz,q⟩:=h
 obtain⟨u,rfl,t,rfl⟩:=vals1 r
 refine call_list_str (I.ok.hd hc) z t (fun h' tk acc' c' hk hS hacc=>?_) hz
 have hv:Vals (z.cps.toList.map pI) acc'.toList:=by
  refine QH (by simp[hacc.1]) fun j x u h1 h2=>?_
  obtain⟨c,t',hc1,rfl⟩:=hacc.2 j u (by simpa using h2)
  have:(z.cps.toList.map pI)[j]?=some (pI c):=by simp[hc1]
  rw[this] at h1
  cases h1
  exact⟨t',rfl⟩
 exact⟨.ref s.heap.objs.size,_,I.laid hk (bR _) (show Aci X.prog X.w _ h' _ (.lst (z.cps.toList.map pI)) from⟨by rw[cL,mI]; exact hz,acc'.toList,c',hv,by simpa using hS⟩),rfl,q _ I.fresh⟩
theorem sF:OpR X (dS .LtE) JA:=by
 intro pins s σ H x y v u Q I rx ry h
 obtain⟨i,j,rfl,rfl,q⟩:=h
 obtain⟨t,rfl⟩:=rx
 obtain⟨t',rfl⟩:=ry
 exact PySem.P.le_str ⟨.bl _,H,I,rfl,q⟩
theorem Dk {ys:List aD} : ∀ {us:List aE},Vals (ys.map V.str) us->StrsAre us ys:=by
 induction ys with
 | nil=>intro us r; cases r; exact .nil
 | cons y r ih=>
  intro us h
  cases h with
  | cons h1 h2=>
   obtain⟨t,rfl⟩:=h1
   exact .cons y t (ih h2)
theorem Kl:MtR X "str.join" (fun x vs H Q=>∃ sep l ys,x = .str sep/\vs=[.ref l]/\SqL X.K H l (ys.map V.str)/\(ys.map (·.length)).sum+ys.length*sep.length≤16777216/\Q (.str (jQ sep ys)) H):=by
 intro pins s σ H x xs v us Q I rx rv h
 obtain⟨sep,l,ys,rfl,rfl,hs,hok,q⟩:=h
 obtain⟨t,rfl⟩:=rx
 obtain⟨u,rfl,ru⟩:=vals1 rv
 cases ru
 obtain⟨its,r,pl,hz⟩:=I.list hs
 refine join_list pl.isList (by simpa using Dk r) hok fun t' k=>?_
 have e:Txt.join sep ys=jQ sep ys:=StrLaws.glued_eq_join sep ys
 rw[e]
 exact⟨.str _,H,I.tok k,⟨t',rfl⟩,q⟩
theorem PP : ∀ cs:List Nat,jQ ⟨#[]⟩ (cs.map fun c=>(⟨#[c]⟩:aD))=⟨cs.toArray⟩
 | []=>rfl
 | c::r=>by
  rw[cY,join_nil_cons,PP r]
  show(⟨#[c]++r.toArray⟩:aD)=⟨(c::r).toArray⟩
  simp
end
def ItD (K:aG)(B:Hp)(J:It)(ds:List aA):Prop:=∀ (i:Nat) (H2:Hp),Ext B H2 ->
 (∀ d,ds[i]?=some d->J.go i H2 /\ ∀ x H3,J.yld i H2 x H3->Ext H2 H3 /\ ∀ P2,Hid P2 H2->Ext B (hid H2 P2)->Abe K (hid H3 P2) d x)/\(ds.length=i->J.stop i H2)
noncomputable def tI (K:aG)(f:AF):TI:=fun σ H R=>∃ P ρ ds,Hid P H/\Ai2 K (hid H P) ρ σ/\f ρ=some ds /\ ∀ J H',Ext H H'->ItD K (hid H' P) J ds->R J H'
noncomputable def tI0 (K:aG)(f:AF):TI:=fun σ H R=>∃ P ρ ds,Hid P H/\Ai2 K (hid H P) ρ σ/\f ρ=some ds /\ ∀ J H',Ext H H'->ItD K (fun _=>none) J ds->R J H'
abbrev DI (X:Cx)(tg e:aR)(f:AF):Prop:=PI X tg e (tI X.K f)
abbrev DI0 (X:Cx)(tg e:aR)(f:AF):Prop:=PI X tg e (tI0 X.K f)
noncomputable def itemsOf:aA->Option (List aA)
 | .list ds=>some ds
 | .tuple ds=>some ds
 | .str x=>some (x.cps.toList.map fun c=>.str ⟨#[c]⟩)
 | _=>none
noncomputable def iIt (f:EF):AF:=fun ρ=>(f ρ).bind itemsOf
section
variable {X:Cx}{tg e a b:aR}{p pos:bL}
theorem PI.imp {t t':TI}(h:PI X tg e t)(w : ∀ σ H R,t' σ H R->t σ H R):PI X tg e t':=fun pins s σ H R I q=>h pins s σ H R I (w _ _ _ q)
theorem PI.or {t t':TI}(h:PI X tg e t)(h':PI X tg e t'):PI X tg e (fun σ H R=>t σ H R \/ t' σ H R):=fun pins s σ H R I q=>q.elim (h pins s σ H R I) (h' pins s σ H R I)
theorem ZZ {K:aG}{B:Hp}{a:aB}{xs:List V}{ds:List aA}(h:SqL K B a xs)(r:Aap K B ds xs):ItD K B (BJ K a) ds:=fun i H2 x2=>by
 have h2:=x2.sqL h
 refine⟨fun d hd=>?_,fun e=>⟨xs,h2,by rw[r.length]; omega⟩⟩
 obtain⟨v,h3,h4⟩:=r.get hd
 refine⟨⟨xs,v,h2,h3⟩,?_⟩
 rintro x H3 ⟨rfl,hx⟩
 have:=h3.symm.trans (hx xs h2)
 cases this
 exact⟨Ext.refl,fun P2 _ xb=>h4.ext xb⟩
theorem Kx {K:aG}{B:Hp}{a:aB}{xs:List V}{ds:List aA}(h:B a=some (.tup xs))(r:Aap K B ds xs):ItD K B (BI K a) ds:=fun i H2 x2=>by
 have h2:SqT K H2 a xs:=SqT.of (x2 _ _ h)
 refine⟨fun d hd=>?_,fun e=>⟨xs,h2,by rw[r.length]; omega⟩⟩
 obtain⟨v,h3,h4⟩:=r.get hd
 refine⟨⟨xs,v,h2,h3⟩,?_⟩
 rintro x H3 ⟨rfl,hx⟩
 have:some v=some x:=h3.symm.trans (hx xs h2)
 cases this
 exact⟨Ext.refl,fun P2 _ xb=>h4.ext xb⟩
theorem EJ {z:aD}{i c:Nat}(h:cO (.str z)=true)(hc:z.cps.toList[i]?=some c):cO (.str ⟨#[c]⟩)=true:=by
 have hz : ∀ d∈z.cps,d<0x110000:=by
  have h':z.cps.all (· < 0x110000)=true:=by simpa only[cO,HX] using h
  intro d hd
  exact of_decide_eq_true (Array.all_eq_true'.mp h' d hd)
 have:=hz c (by simpa using nL hc)
 simp[cO,HX,this]
theorem Lp {K:aG}{B:Hp}{z:aD}(hl:cO (.str z)=true):ItD K B (xI z) (z.cps.toList.map fun c=>.str ⟨#[c]⟩):=fun i H2 x2=>by
 refine⟨fun d hd=>?_,fun e=>?_⟩
 ·rw[eY] at hd
  cases hc:z.cps.toList[i]? with
  | none=>rw[hc] at hd; simp at hd
  | some c=>
   rw[hc] at hd
   have hd:cT ⟨#[c]⟩=d:=by simpa using hd
   subst hd
   have hlt:i<z.cps.size:=by simpa using(dU.mp hc).1
   refine⟨hlt,?_⟩
   rintro x H3 ⟨rfl,c',hc',rfl⟩
   have:z.cps.toList[i]?=some c':=by simpa using hc'
   rw[hc] at this
   cases this
   exact⟨Ext.refl,fun P2 _ _=>Aas.mpr ⟨rfl,EJ hl hc⟩⟩
 ·have:z.cps.size=i:=by simpa using e
  exact ID this
theorem Af {K:aG}{lo:Int}{n:Nat}{B:Hp}:ItD K B (xJ lo n) ((dN n).map fun(k:Nat)=>aS (lo+k)):=fun i H2 x2=>by
 refine⟨fun d hd=>?_,fun e=>?_⟩
 ·have hlt:i<n:=by
   have:=(dU.mp hd).1
   simpa using this
  have hd':aS (lo+i)=d:=by
   rw[eY,List.getElem?_range hlt] at hd
   simpa using hd
  subst hd'
  refine⟨hlt,?_⟩
  rintro x H3 ⟨rfl,rfl⟩
  exact⟨Ext.refl,fun P2 _ _=>Aaq.mpr rfl⟩
 ·have:n=i:=by simpa using e
  exact ID this
theorem nV {f:EF}(h:DE X e f):DI X tg e (iIt f):=PI.imp (PI.or (Mj h) (PI.or (Hn h) (Ii h))) fun σ H R gh=>by
 obtain⟨P,ρ,ds,hP,rs,ef,k⟩:=gh
 obtain⟨d,e1,ef⟩:=XBs ef
 cases d with
 | list ds'=>
  have:ds'=ds:=by simpa [itemsOf] using ef
  subst this
  refine .inl ⟨P,ρ,_,hP,rs,e1,cR fun v H1 x1 r1=>?_⟩
  obtain⟨a,xs,rfl,hr,rr⟩:=Abm.mp r1
  exact⟨a,rfl,⟨xs,Aay.sqL hr⟩,k _ H1 x1 (ZZ hr rr)⟩
 | tuple ds'=>
  have:ds'=ds:=by simpa [itemsOf] using ef
  subst this
  refine .inr (.inl ⟨P,ρ,_,hP,rs,e1,cR fun v H1 x1 r1=>?_⟩)
  obtain⟨a,xs,rfl,hr,rr⟩:=Aaw.mp r1
  exact⟨a,rfl,⟨xs,SqT.of (Aay _ _ hr)⟩,k _ H1 x1 (Kx hr rr)⟩
 | str z=>
  have:z.cps.toList.map (fun c=>cT ⟨#[c]⟩)=ds:=by simpa [itemsOf] using ef
  subst this
  refine .inr (.inr ⟨P,ρ,_,hP,rs,e1,cR fun v H1 x1 r1=>?_⟩)
  exact⟨z,(Aas.mp r1).1,k _ H1 x1 (Lp (Aas.mp r1).2)⟩
 | _=>simp[itemsOf] at ef
noncomputable def BV (lo hi:Int):Option (List aA):=if -(2 ^ 62)≤lo/\lo<2 ^ 62 /\ -(2 ^ 62)≤hi/\hi<2 ^ 62 then some ((dN (hi - lo).toNat).map fun(k:Nat)=>aS (lo+k)) else none
noncomputable def iR1 (fa:AF):AF:=fun ρ=>(fa ρ).bind fun ds=>match ds with
 | [.int j]=>BV 0 j
 | _=>none
theorem sA {fa:AF}(hg:Gl X "range")(hm:X.mg "range" = none)(ha:DA X [a] fa)(hs:bI [a] X.env=[(false,bJ a X.env)]:=by rfl):DI0 X tg (.Call (.Name "range" p) [a] [] pos) (iR1 fa):=PI.imp (Bp hg hm ha hs) fun σ H R gh=>by
 obtain⟨P,ρ,ds,hP,rs,ef,k⟩:=gh
 obtain⟨as,e1,ef⟩:=XBs ef
 refine⟨P,ρ,as,hP,rs,e1,fun vs H1 x1 r1=>?_⟩
 split at ef
 ·rename_i j
  obtain⟨hb,rfl⟩:=cX ef
  obtain⟨v,t,rfl,h1,h2⟩:=Aac.mp r1
  obtain rfl:=Aai.mp h2
  obtain rfl:=Aaq.mp h1
  have e0:(j - 0).toNat=j.toNat:=by simp
  refine⟨j,rfl,hb.2.2.1,hb.2.2.2,k _ H1 x1 ?_⟩
  rw[e0]
  exact Af
 ·cases ef
theorem CQ {f:AF}(h:DI0 X tg e f):DI X tg e f:=PI.imp h fun σ H R ⟨P,ρ,ds,hP,rs,ef,k⟩=>⟨P,ρ,ds,hP,rs,ef,fun J H' x it=>k J H' x fun i H2 x2=>by
 obtain⟨h1,h2⟩:=it i H2 (fun _ _ e=>by cases e)
 exact⟨fun d hd=>⟨(h1 d hd).1,fun v H3 y=>⟨((h1 d hd).2 v H3 y).1,fun P2 hp _=>((h1 d hd).2 v H3 y).2 P2 hp fun _ _ e=>by cases e⟩⟩,h2⟩⟩
noncomputable def tI' (K:aG)(H0:Hp)(P0:aB->Prop)(m:Md)(f:AF):TI:=fun σ H R=>∃ B0 ρ fp ds,Sta K H0 P0 B0 ρ σ H fp/\aV m f ρ=some ds /\ ∀ J B1 H',Sta K H0 P0 B1 ρ σ H' fp->Ext B0 B1->ItD K B1 J ds->R J H'
theorem Sta.rebase {K:aG}{H0 H B0 B1:Hp}{P0:aB->Prop}{ρ:bC}{σ:St}{fp:Nat->List aB}(S:Sta K H0 P0 B0 ρ σ H fp)(b:Ext B1 (L2.hid H (Hd P0 fp))):Sta K H0 P0 B1 ρ σ H fp:=⟨S.len,S.nd,S.dj,S.own,S.ext,S.hd,b,S.slot⟩
variable {H0:Hp}{P0:aB->Prop}
theorem evI {f:AF}(h:DI X tg e f):PI X tg e (tI' X.K H0 P0 .s f):=PI.imp h fun σ H R ⟨B0,ρ,fp,ds,S,ef,k⟩=>
 ⟨Hd P0 fp,vS ρ,ds,S.hid,S.viewS,ef,fun J H' x it=>k J _ H' ((S.grow x).rebase Ext.refl) (S.grow x).base it⟩
theorem WA {f:AF}(m:Md)(h:DI0 X tg e f):PI X tg e (tI' X.K H0 P0 m f):=PI.imp h fun σ H R gh=>by
 obtain⟨B0,ρ,fp,ds,S,ef,k⟩:=gh
 have up : ∀ {J:It} {B:Hp},ItD X.K (fun _=>none) J ds->ItD X.K B J ds:=fun {J B} it i H2 x2=>by
  obtain⟨h1,h2⟩:=it i H2 (fun _ _ e=>by cases e)
  exact⟨fun d hd=>⟨(h1 d hd).1,fun v H3 y=>⟨((h1 d hd).2 v H3 y).1,fun P2 hp _=>((h1 d hd).2 v H3 y).2 P2 hp fun _ _ e=>by cases e⟩⟩,h2⟩
 cases m with
 | s=>exact⟨Hd P0 fp,vS ρ,ds,S.hid,S.viewS,ef,fun J H' x it=>k J _ H' (S.grow x) Ext.refl (up it)⟩
 | a=>exact⟨P0,vA ρ,ds,S.hd.ext S.ext,S.viewA,ef,fun J H' x it=>k J _ H' (S.grow x) Ext.refl (up it)⟩
end
noncomputable def tG (K:aG)(H0:Hp)(P0:aB->Prop)(T:aA->bC->Option bC):TG:=fun v σ H Q=>∃ B0 ρ fp d ρ',Sta K H0 P0 B0 ρ σ H fp/\Abe K (hid H (Hd P0 fp)) d v/\T d ρ=some ρ' /\ ∀ σ' fp',Sta K H0 P0 B0 ρ' σ' H fp'->Q σ' H
abbrev DG (X:Cx)(H0:Hp)(P0:aB->Prop)(tg:aR)(T:aA->bC->Option bC):Prop:=PG X tg (tG X.K H0 P0 T)
section
variable {X:Cx}{H0:Hp}{P0:aB->Prop}{n0:Nat}{pos:bL}
theorem PG.imp {tg:aR}{t t':TG}(h:PG X tg t)(w : ∀ v σ H Q,t' v σ H Q->t v σ H Q):PG X tg t':=fun pins s σ H v u Q I r q=>h pins s σ H v u Q I r (w _ _ _ _ q)
theorem Sta.Aqy {K:aG}{H B0:Hp}{ρ:bC}{σ:St}{fp:Nat->List aB}{d:aA}{v:V}{i:Nat}(S:Sta K H0 P0 B0 ρ σ H fp)(r:Abe K (L2.hid H (Hd P0 fp)) d v)(hi:i<ρ.length) : ∃ fp',Sta K H0 P0 B0 (ρ.set i (some (0,d))) (σ.set i (some v)) H fp':=by
 have hsub : ∀ a,Hd P0 (fun j=>if j=ρ.length then [] else fp j) a->Hd P0 fp a:=fun a h=>by
  rcases h with h | ⟨j,h⟩
  ·exact .inl h
  ·by_cases hj:j=ρ.length
   ·simp only[hj,if_true] at h; simp at h
   ·simp only[hj,if_false] at h; exact .inr ⟨j,h⟩
 have S2:Sta K H0 P0 B0 ρ σ H (fun j=>if j=ρ.length then [] else fp j):=by
  refine⟨S.len,fun j=>?_,fun j k a h1 h2=>?_,fun j a h1=>?_,S.ext,S.hd,S.base.trans (fQ hsub),fun j n d e=>?_⟩
  ·by_cases hj:j=ρ.length
   ·simp only[hj,if_true]; exact .nil
   ·simp only[hj,if_false]; exact S.nd j
  ·by_cases hj:j=ρ.length
   ·simp only[hj,if_true] at h1; simp at h1
   ·by_cases hk:k=ρ.length
    ·simp only[hk,if_true] at h2; simp at h2
    ·simp only[hj,if_false] at h1; simp only[hk,if_false] at h2; exact S.dj j k a h1 h2
  ·by_cases hj:j=ρ.length
   ·simp only[hj,if_true] at h1; simp at h1
   ·simp only[hj,if_false] at h1; exact S.own j a h1
  ·have hlt:=(dU.mp e).1
   have hj:j≠ρ.length:=by omega
   obtain⟨v',h1,h2⟩:=S.slot j n d e
   refine⟨v',h1,?_⟩
   simp only[hj,if_false]
   exact h2.keep (fQ hsub) fun a m=>rfl
 refine Tmp.set ⟨_,S2,?_⟩ hi
 simp only[if_true]
 exact⟨rfl,r.ext (fQ hsub)⟩
noncomputable def gNm (i:Nat):aA->bC->Option bC:=fun d ρ=>if i<ρ.length then some (ρ.set i (some (0,d))) else none
theorem rU {i:Nat}{x:aD}(hN:X.N.Nodup)(hi:X.N[i]?=some x)(hx:kO X.env.scope x)(hf:X.fn x=true \/ X.env.scope.names.lookup x=some .local:=by first | exact .inl rfl | exact .inr rfl | assumption):DG X H0 P0 (.Name x pos) (gNm i):=
 PG.imp (uS hN hi hx hf) fun v σ H Q gh=>by
  obtain⟨B0,ρ,fp,d,ρ',S,r,ef,k⟩:=gh
  obtain⟨hl,rfl⟩:=cX ef
  obtain⟨fp',S'⟩:=S.Aqy r hl
  exact k _ fp' S'
noncomputable def pD (i j:Nat):aA->bC->Option bC:=fun d ρ=>match d with
 | .tuple [a,b]=>(gNm i a ρ).bind fun ρ'=>gNm j b ρ'
 | _=>none
theorem DR {i j:Nat}{x y:aD}{p1 p2:bL}{k}(hc:X.calm=true)(hN:X.N.Nodup)(hi:X.N[i]?=some x)(hj:X.N[j]?=some y)(hx:kO X.env.scope x)(hy:kO X.env.scope y)
  (hf:X.fn x=true \/ X.env.scope.names.lookup x=some .local:=by first | exact .inl rfl | exact .inr rfl | assumption) (hf2:X.fn y=true \/ X.env.scope.names.lookup y=some .local:=by first | exact .inl rfl | exact .inr rfl | assumption)
  (hn:(jO [.Name x p1,.Name y p2] X.env).length=2:=by rfl) (hst:(jO [.Name x p1,.Name y p2] X.env).findIdx? (·.1)=none:=by rfl)
  (h1:(jO [.Name x p1,.Name y p2] X.env).map (·.2)=mC (.Name x p1) X.env::(jO [.Name y p2] X.env).map (·.2):=by rfl) (h2:(jO [.Name y p2] X.env).map (·.2)=mC (.Name y p2) X.env::(jO [] X.env).map (·.2):=by rfl):DG X H0 P0 (.Tuple [.Name x p1,.Name y p2] k pos) (pD i j):=
 PG.imp (YB hc (MR (uS hN hi hx hf) (MR (uS hN hj hy hf2) Kz h2) h1) hn hst) fun v σ H Q gh=>by
  obtain⟨B0,ρ,fp,d,ρ',S,r,ef,k⟩:=gh
  unfold pD at ef
  split at ef
  ·rename_i a b
   obtain⟨ρ1,e1,e2⟩:=XBs ef
   obtain⟨l1,rfl⟩:=cX e1
   obtain⟨l2,rfl⟩:=cX e2
   obtain⟨p,xs,rfl,hp,rr⟩:=Aaw.mp r
   obtain⟨v1,t1,rfl,r1,rr⟩:=Aac.mp rr
   obtain⟨v2,t2,rfl,r2,rr⟩:=Aac.mp rr
   obtain rfl:=Aai.mp rr
   refine⟨p,_,rfl,SqT.of (Aay _ _ hp),rfl,v1,_,rfl,v2,_,rfl,rfl,?_⟩
   have Sb:=S.rebase Ext.refl
   obtain⟨fp1,S1⟩:=Sb.Aqy r1 l1
   obtain⟨fp2,S2⟩:=S1.Aqy (r2.ext S1.base) l2
   exact k _ fp2 (S2.rebase (S.base.trans S2.base))
  ·cases ef
end
noncomputable def lJ (F:SF)(T:aA->bC->Option bC):List aA->SF
 | [],ρ=>some (.nx ρ)
 | d::r,ρ=>(T d ρ).bind fun ρ1=>(F ρ1).bind fun o=>match o with
  | .nx ρ'=>lJ F T r ρ'
  | .ct ρ'=>lJ F T r ρ'
  | .bk ρ'=>some (.nx ρ')
  | .rt d=>some (.rt d)
noncomputable def iK (m:Md)(fi:AF)(T:aA->bC->Option bC)(F:SF):SF:=fun ρ=>(aV m fi ρ).bind fun ds=>lJ F T ds ρ
section
variable {X:Cx}{H0:Hp}{P0:aB->Prop}{n0:Nat}{pos:bL}{tg iter:aR}{body:List bK}{F:SF}{T:aA->bC->Option bC}{fi:AF}{m:Md}
theorem MK (hp:PassesOwn (aT X.prog X.w) X.A X.env X.xe)(hc:X.calm=true)(hi:PI X tg iter (tI' X.K H0 P0 m fi))(hg:DG X H0 P0 tg T)(hb:DSs X H0 P0 n0 body F)
  (hs : ∀ x,qJ iter X.env x=pure x:=by intro _; rfl):DS X H0 P0 n0 (.For tg iter body [] pos) (iK m fi T F):=PS.imp (SI hp hc hi hg hb hs) fun D σ H gh=>by
 obtain⟨B0,ρ,fp,o,S,ef,k⟩:=gh
 obtain⟨ds,e1,ef⟩:=XBs ef
 refine⟨B0,ρ,fp,ds,S,e1,fun J B1 H' S1 xb it=>?_⟩
 refine⟨fun i m σ H=>m=ds.length - i/\i≤ds.length /\ ∃ ρ fp,Sta X.K H0 P0 B1 ρ σ H fp/\lJ F T (ds.drop i) ρ=some o,⟨ds.length,by simp,eX _,ρ,fp,S1,by simpa using ef⟩,?_⟩
 rintro i m σ2 H2 ⟨rfl,hi,ρ2,fp2,S2,e2⟩
 have x2:=S2.base.trans Aay
 obtain⟨go,st⟩:=it i H2 x2
 by_cases hlt:i<ds.length
 ·have hd:=iP hlt
  rw[Pa hlt] at e2
  obtain⟨ρ3,e3,e2⟩:=XBs e2
  obtain⟨o3,e4,e2⟩:=XBs e2
  obtain⟨g1,g2⟩:=go _ hd
  refine .inr ⟨g1,fun σ' H'=>i+1≤ds.length /\ ∃ ρ fp,Sta X.K H0 P0 B1 ρ σ' H' fp/\lJ F T (ds.drop (i+1)) ρ=some o,fun σ' H' ⟨h1,h2⟩=>⟨ds.length - (i+1),by omega,rfl,h1,h2⟩,fun x H3 y=>?_⟩
  obtain⟨x3,r3⟩:=g2 x H3 y
  refine⟨B1,ρ2,fp2,_,ρ3,S2.grow x3,r3 _ S2.hid S2.base,e3,fun σ4 fp4 S4=>⟨B1,ρ3,fp4,o3,S4,e4,?_⟩⟩
  cases o3 with
  | nx ρ5=>exact fun σ5 H5 fp5 S5=>⟨hlt,ρ5,fp5,S5,e2⟩
  | ct ρ5=>exact fun σ5 H5 fp5 S5=>⟨hlt,ρ5,fp5,S5,e2⟩
  | bk ρ5=>
   cases e2
   exact fun σ5 H5 fp5 S5=>k σ5 H5 fp5 (S5.rebase (xb.trans S5.base))
  | rt d=>
   cases e2
   exact k
 ·have e:i=ds.length:=by omega
  subst e
  rw[List.drop_length] at e2
  cases e2
  exact .inl ⟨st rfl,k σ2 H2 fp2 (S2.rebase (xb.trans S2.base))⟩
theorem uG (hp:PassesOwn (aT X.prog X.w) X.A X.env X.xe)(hc:X.calm=true)(hi:DI X tg iter fi)(hg:DG X H0 P0 tg T)(hb:DSs X H0 P0 n0 body F)
  (hs : ∀ x,qJ iter X.env x=pure x:=by intro _; rfl):DS X H0 P0 n0 (.For tg iter body [] pos) (iK .s fi T F):=MK hp hc (evI hi) hg hb hs
theorem DM (m:Md)(hp:PassesOwn (aT X.prog X.w) X.A X.env X.xe)(hc:X.calm=true)(hi:DI0 X tg iter fi)(hg:DG X H0 P0 tg T)(hb:DSs X H0 P0 n0 body F)
  (hs : ∀ x,qJ iter X.env x=pure x:=by intro _; rfl):DS X H0 P0 n0 (.For tg iter body [] pos) (iK m fi T F):=MK hp hc (WA m hi) hg hb hs
end
noncomputable def lcD (T:aA->List (Option aA)->Option (List (Option aA)))(t:BF)(f:EF)(ρ:List (Option aA)):List aA->Option (List aA)
 | []=>some []
 | d::r=>(T d ρ).bind fun ρ1=>(t ρ1).bind fun c=>if c=true then(f ρ1).bind fun y=>(lcD T t f ρ r).bind fun ys=>some (y::ys) else lcD T t f ρ r
noncomputable def jF (cap:List (Option Nat))(ρ:List (Option aA)):List (Option aA):=cap.map fun o=>o.bind fun j=>(ρ[j]?).join
noncomputable def eLC (cap:List (Option Nat))(fi:AF)(T:aA->List (Option aA)->Option (List (Option aA)))(t:BF)(f:EF):EF:=fun ρ=>(fi ρ).bind fun ds=>(lcD T t f (jF cap ρ) ds).bind fun ys=>if ds.length≤sizeLine then some (.list ys) else none
noncomputable def tGB (K:aG)(T:aA->List (Option aA)->Option (List (Option aA))):TG:=fun v σ H Q=>∃ P ρ d ρ',Hid P H/\Ai2 K (hid H P) ρ σ/\Abe K (hid H P) d v/\T d ρ=some ρ' /\ ∀ σ',Ai2 K (hid H P) ρ' σ'->Q σ' H
def TOk (T:aA->List (Option aA)->Option (List (Option aA))):Prop:=∀ d ρ ρ',T d ρ=some ρ' -> ∀ (i:Nat) d',ρ[i]?=some (some d')->ρ'[i]?=some (some d')
noncomputable def gT:BF:=fun _=>some true
noncomputable def gB (j:Nat):aA->List (Option aA)->Option (List (Option aA)):=fun d ρ=>match ρ[j]? with
 | some none=>some (ρ.set j (some d))
 | _=>none
theorem KI {j:Nat}{d:aA}{ρ ρ':List (Option aA)}(h:gB j d ρ=some ρ'):ρ[j]?=some none/\ρ.set j (some d)=ρ':=by
 unfold gB at h
 split at h
 ·rename_i e
  exact⟨e,dZ h⟩
 ·cases h
theorem mM {j:Nat}:TOk (gB j):=fun d ρ ρ' e i d' h=>by
 obtain⟨hj,rfl⟩:=KI e
 by_cases q:j=i
 ·subst q; rw[hj] at h; cases h
 ·rw[jT q]; exact h
section
variable {X:Cx}{N:List aD}{cap:List (Option Nat)}{sc:gN}{elt iter tg c:aR}{ifs:List aR}{pos:bL}{fi:AF}{T:aA->List (Option aA)->Option (List (Option aA))}{t:BF}{f:EF}
theorem mW:xM X [] (tTF X.K gT):=fun pins s σ H Q I gh=>by
 obtain⟨P,ρ,b,hP,rs,ef,k⟩:=gh
 cases ef
 exact Kh pins s σ H Q I (k H Ext.refl)
theorem Ai2.set {K:aG}{B:Hp}{ρ:List (Option aA)}{σ:St}{d:aA}{v:V}{j:Nat}(h:Ai2 K B ρ σ)(r:Abe K B d v)(hl:j<σ.length):Ai2 K B (ρ.set j (some d)) (σ.set j (some v)):=fun i d' e=>by
 by_cases q:j=i
 ·subst q
  have hj:j<ρ.length:=by
   have:=(dU.mp e).1
   simpa using this
  rw[lF hj] at e
  cases e
  exact⟨v,lF hl,r⟩
 ·rw[jT q] at e
  obtain⟨w,h1,h2⟩:=h i d' e
  exact⟨w,by rw[jT q]; exact h1,h2⟩
def DGB (X:Cx)(tg:aR)(T:aA->List (Option aA)->Option (List (Option aA))):Prop:=
 ∀ (pins:List (aB×aY)) (s:aH) (σ:St) (H:Hp) (v:V) (u:aE) (Q:St->Hp->Prop),Inv X pins σ H s->RelV v u->tGB X.K T v σ H Q ->
  aQ (aT X.prog X.w) X.A (mC tg X.env u) (fun _ s'=>∃ σ' H',Inv X pins σ' H' s'/\Q σ' H') X.xe s
theorem mX {j:Nat}{x:aD}(hN:X.N.Nodup)(hi:X.N[j]?=some x)(hx:kO X.env.scope x)(hf:X.fn x=true \/ X.env.scope.names.lookup x=some .local:=by first | exact .inl rfl | exact .inr rfl | assumption):DGB X (.Name x pos) (gB j):=fun pins s σ H v u Q I r gh=>by
 obtain⟨P,ρ,d,ρ',hP,rs,rd,ef,k⟩:=gh
 obtain⟨hj,rfl⟩:=KI ef
 have hl:j<σ.length:=by rw[I.len]; exact(dU.mp hi).1
 exact uS hN hi hx hf pins s σ H v u Q I r (k _ (rs.set rd hl))
theorem Nz {K:aG}{B:Hp}{ρ:List (Option aA)}{σ:St}(h:Ai2 K B ρ σ):Ai2 K B (jF cap ρ) (sS cap σ):=fun i d e=>by
 unfold jF at e
 unfold sS
 rw[eY] at e ⊢
 cases hc:cap[i]? with
 | none=>rw[hc] at e; simp at e
 | some o=>
  rw[hc] at e
  cases o with
  | none=>simp at e
  | some j=>
   simp only[qO,bM,tL] at e ⊢
   obtain⟨v,h1,h2⟩:=h j d (OV e)
   exact⟨v,by rw[h1]; rfl,h2⟩
theorem RU {K:aG}(hT:TOk T) : ∀ σ H Q,tF K 1 (eLC cap fi T t f) σ H Q->tLC cap (tI K fi) (tGB K T) (tTF K t) (tF K 0 f) σ H Q:=fun σ H Q gh=>by
 obtain⟨P,ρ,d,hP,rs,ef,k⟩:=gh
 obtain⟨ds,e1,ef⟩:=XBs ef
 obtain⟨all,e2,ef⟩:=XBs ef
 obtain⟨hz,rfl⟩:=cX ef
 refine⟨P,ρ,ds,hP,rs,e1,fun J H1 x1 it A hA=>?_⟩
 have hPA:=(hP.ext x1).new hA
 have back : ∀ {H':Hp} {ys:List V},hid (upd H' A (.lst ys)) (orL P [A])=hid H' (orL P [A]):=fun {H' ys}=>by
  funext b
  unfold hid
  by_cases hb:orL P [A] b
  ·rw[if_pos hb,if_pos hb]
  ·rw[if_neg hb,if_neg hb]
   exact bO (fun z=>hb (.inr (by simp[z])))
 refine⟨fun i m ys σ' H'=>m=ds.length - i/\i≤ds.length/\H' A=some (.lst ys)/\Ext H1 H'/\Ext (hid H1 P) (hid H' (orL P [A]))/\Ai2 K (hid H' (orL P [A])) (jF cap ρ) σ'/\ys.length≤i /\
  ∃ done rest,Aap K (hid H' (orL P [A])) done ys/\lcD T t f (jF cap ρ) (ds.drop i)=some rest/\all=done++rest,⟨ds.length,?_⟩,?_⟩
 ·have xa:Ext (hid H1 P) (hid (upd H1 A (.lst [])) (orL P [A])):=fun b o e=>by
   obtain⟨nb,e⟩:=Ab7.mp e
   have hb:=gM e hA
   exact eK (fun z=>z.elim nb fun m=>hb (by simpa using m)) (by rw[bO hb]; exact e)
  exact⟨by simp,eX _,eB,Ext.new hA,xa,(Nz (rs.ext (bS x1))).ext xa,eX _,[],all,Aai.mpr rfl,by simpa using e2,rfl⟩
 ·rintro i m ys σ' H' ⟨rfl,hi,hD,x2,xb,rs2,hl,done,rest,rd,e3,rfl⟩
  refine⟨hD,?_⟩
  obtain⟨go,st⟩:=it i H' (Aay.trans x2)
  have hid2:Hid (orL P [A]) H':=fun a h=>by
   rcases h with h | h
   ·exact(hP.ext (x1.trans x2)) a h
   ·have:a=A:=by simpa using h
    subst this
    exact .inl ⟨_,hD⟩
  by_cases hlt:i<ds.length
  ·have hd:=iP hlt
   rw[Pa hlt] at e3
   obtain⟨ρ1,e4,e3⟩:=XBs e3
   obtain⟨c,e5,e3⟩:=XBs e3
   obtain⟨g1,g2⟩:=go _ hd
   refine .inr ⟨g1,by omega,fun ys σ' H'=>i+1≤ds.length/\H' A=some (.lst ys)/\Ext H1 H'/\Ext (hid H1 P) (hid H' (orL P [A]))/\Ai2 K (hid H' (orL P [A])) (jF cap ρ) σ'/\ys.length≤i+1 /\
    ∃ d2 r2,Aap K (hid H' (orL P [A])) d2 ys/\lcD T t f (jF cap ρ) (ds.drop (i+1))=some r2/\done++rest=d2++r2,fun zs σ2 H2 h=>⟨ds.length - (i+1),by omega,rfl,h⟩,fun x H2 y=>?_⟩
   obtain⟨x3,r3⟩:=g2 x H2 y
   refine⟨orL P [A],jF cap ρ,_,ρ1,hid2.ext x3,rs2.ext (bS x3),r3 _ hid2 xb,e4,fun σ3 rs3=>?_⟩
   refine⟨orL P [A],ρ1,c,hid2.ext x3,rs3,e5,fun H4 x4=>?_⟩
   have rs4:Ai2 K (hid H2 (orL P [A])) (jF cap ρ) σ3:=fun j d' e=>rs3 j d' (hT _ _ _ e4 j d' e)
   cases c with
   | false=>
    rw[if_neg pB] at e3
    refine gX ⟨hlt,x4 _ _ (x3 _ _ hD),x2.trans (x3.trans x4),xb.trans (bS (x3.trans x4)),rs4.ext (bS x4),by omega,done,rest,rd.ext (bS (x3.trans x4)),e3,rfl⟩
   | true=>
    rw[if_pos rfl] at e3
    obtain⟨yd,e6,e3⟩:=XBs e3
    obtain⟨r2,e7,e3⟩:=XBs e3
    cases e3
    refine iS ⟨orL P [A],ρ1,yd,hid2.ext (x3.trans x4),rs3.ext (bS x4),e6,cR fun v H5 x5 r5=>⟨x5 _ _ (x4 _ _ (x3 _ _ hD)),hlt,eB,?_,?_,?_,by simp; omega,done++[yd],r2,?_,e7,by simp⟩⟩
    ·intro b o e
     rw[bO (gM e hA)]
     exact x5 _ _ (x4 _ _ (x3 _ _ (x2 _ _ e)))
    ·rw[back]; exact xb.trans (bS (x3.trans (x4.trans x5)))
    ·rw[back]; exact rs4.ext (bS (x4.trans x5))
    ·rw[back]; exact(rd.ext (bS (x3.trans (x4.trans x5)))).snoc r5
  ·have e:i=ds.length:=by omega
   subst e
   rw[List.drop_length] at e3
   cases e3
   rw[tP] at k
   refine .inl ⟨st rfl,?_⟩
   refine k (.ref A) H' [A] (x1.trans x2) (fF.mpr ⟨by simp,.nil⟩) (fun a m=>?_) ⟨A,ys,ys.map fun _=>[],rfl,hD,?_,?_⟩
   ·have:a=A:=by simpa using m
    subst this
    exact⟨x1.none hA,_,hD⟩
   ·have : ∀ l:List V,(l.map fun _=>([]:List aB)).flatten=[]:=fun l=>by
     induction l with
     | nil=>rfl
     | cons a l ih=>rw[cY,jE,ih]; rfl
    rw[this]
   ·have go : ∀ (ds:List aA) (xs:List V),Aap K (hid H' (orL P [A])) ds xs->All3 (Ae0 K (hid H' (orL P [A])) H' 0) ds xs (xs.map fun _=>[]):=by
     intro ds
     induction ds with
     | nil=>intro xs r; rw[Aai.mp r]; exact .nil
     | cons d ds ih=>
      intro xs r
      obtain⟨y,t,rfl,h1,h2⟩:=Aac.mp r
      exact .cons ⟨rfl,h1⟩ (ih t h2)
    exact go _ _ rd
def SN (X:Cx)(N:List aD)(sc:gN)(tg elt:aR)(ifs:List aR)(T:aA->List (Option aA)->Option (List (Option aA)))(t:BF)(f:EF):Prop:=
 ∀ (cl:List (aD×aB)) (C:aB) (s₀:aH) (H₀:Hp) (ex:List aB),DGB (gL X N sc cl C s₀ H₀ ex) tg T/\xM (gL X N sc cl C s₀ H₀ ex) ifs (tTF X.K t)/\DE (gL X N sc cl C s₀ H₀ ex) elt f
theorem nP (hc:X.calm=true)(S:CompScope X N cap sc)(hT:TOk T)(hi:DI X tg iter fi)(hb:SN X N sc tg elt ifs T t f)(hs : ∀ x,qJ iter X.env x=pure x:=by intro _; rfl) :
  DF 1 X (.ListComp elt [⟨tg,iter,ifs,0⟩] sc pos) (eLC cap fi T t f):=PE.imp (YK hc S hi (g:=tGB X.K T) (tc:=tTF X.K t) (te:=tF X.K 0 f) hb hs) (RU hT)
variable {H0:Hp}{P0:aB->Prop}{n0:Nat}
theorem ZL {i:Nat}{x:aD}{px spos:bL}(m:Md)(hc:X.calm=true)(hN:X.N.Nodup)(hi':X.N[i]?=some x)(hx:kO X.env.scope x)(S:CompScope X N cap sc)(hT:TOk T)(hi:DI X tg iter fi)(hb:SN X N sc tg elt ifs T t f)
  (hsw:lY (.ListComp elt [⟨tg,iter,ifs,0⟩] sc pos) (some (.Name x px)) spos.line X.env=pure true:=by rfl)
  (hs : ∀ x,qJ iter X.env x=pure x:=by intro _; rfl) (hf:X.fn x=true \/ X.env.scope.names.lookup x=some .local:=by first | exact .inl rfl | exact .inr rfl | assumption) :
  DS X H0 P0 n0 (.Assign [.Name x px] (.ListComp elt [⟨tg,iter,ifs,0⟩] sc pos) spos) (cM i 1 m (eLC cap fi T t f)):=PS.imp (Oh hc hN hi' hx S hi (g:=tGB X.K T) (tc:=tTF X.K t) (te:=tF X.K 0 f) hb hsw hs hf) fun D σ H gh=>by
 obtain⟨B0,ρ,fp,o,S,ef,k⟩:=gh
 obtain⟨d,e1,ef⟩:=XBs ef
 obtain⟨hl,rfl⟩:=cX ef
 refine RU hT σ H _ (BX m σ H _ ⟨B0,ρ,fp,d,S,e1,fun v H' t=>?_⟩)
 obtain⟨fp',S'⟩:=t.set hl
 exact k _ _ fp' S'
end
noncomputable def outD:Option Out->Option aA
 | some (.rt d)=>some d
 | some (.nx _)=>some .none
 | _=>none
noncomputable def fnD (np n:Nat)(body:SF):List aA->Option aA:=fun ds=>if ds.length=np then outD (body (ds.map (fun d=>some (0,d))++eA (n - np) none)) else none
noncomputable def spF (K:aG)(n0:Nat)(F:List aA->Option aA):Sp:=fun vs H Q _=>∃ P ds d,Hid P H/\Aap K (hid H P) ds vs/\F ds=some d/\Res K P n0 d H Q
section
variable {P:bB}{w:aW}{K:aG}{mg:aD->Option aE}{base:aP}
theorem iB {x qual:aD}{st:bK}{f:aB}{fd:eM}{N ps:List aD}{k n0 np:Nat}{body:SF}(F:Fun K x qual st f fd)(S:FnScope N ps (bQ st))(hnp:np=ps.length)(hN:ps.length≤N.length)
  (hb : ∀ (cdv:aE) (A:cA) (outer:List dW) (s:aH) (H:Hp) (E:XK) (P0:aB->Prop),Room k (A.deeper (gW qual (bQ st) s.heap.objs.size f cdv))->DSs (iI CX0 P w K mg base N qual (bQ st) f cdv A outer s H E).nox H P0 n0 (hJ st) body) :
  FnOk P w K mg base CX0 (k+1) f fd ps (spF K n0 (fnD np N.length body)):=by
 refine F.ok S (fun vs H Q E h=>?_) (fun cdv A outer s H vs Q E hr h=>?_)
 ·obtain⟨P,ds,d,_,r,ef,_⟩:=h
  unfold fnD at ef
  by_cases hl:ds.length=np
  ·rw[r.length,hl,hnp]
  ·rw[if_neg hl] at ef; cases ef
 ·obtain⟨P0,ds,d,hP,r,ef,k⟩:=h
  refine⟨_,hb cdv A outer s H E P0 hr,?_⟩
  unfold fnD at ef
  by_cases hl:ds.length=np
  case neg=>rw[if_neg hl] at ef; cases ef
  rw[if_pos hl] at ef
  rw[← hl] at ef
  have hlen:=r.length
  have S0:Sta K H P0 (hid H P0) (ds.map (fun d=>some (0,d))++eA (N.length - ds.length) none) (start N vs) H (fun _=>[]):=by
   have eH:Hd P0 (fun _=>[])=P0:=by
    funext a
    simp[Hd]
   refine⟨by simp[start,hlen],fun _=>.nil,fun i j a h=>by simp at h,fun i a h=>by simp at h,Ext.refl,hP,by rw[eH]; exact Ext.refl,fun i n' d' e=>?_⟩
   rw[eH]
   by_cases hi:i<ds.length
   ·rw[AY (by simpa using hi),eY] at e
    cases q:ds[i]? with
    | none=>rw[q] at e; simp at e
    | some d2=>
     rw[q] at e
     have e':0=n'/\d2=d':=by simpa using e
     obtain⟨rfl,rfl⟩:=e'
     obtain⟨v,h1,h2⟩:=r.get q
     refine⟨v,?_,rfl,h2⟩
     unfold start
     rw[AY (by rw[cL,hlen]; exact hi),eY,h1]
     rfl
   ·rw[US (by simpa using hi)] at e
    have:=nL e
    simp at this
  cases eb:body (ds.map (fun d=>some (0,d))++eA (N.length - ds.length) none) with
  | none=>rw[eb] at ef; cases ef
  | some o=>
   rw[eb] at ef
   refine⟨_,_,_,o,S0,eb,?_⟩
   cases o with
   | rt d'=>
    cases ef
    exact fun v H' ⟨Fr,h1,h2,h3,h4⟩=>k v H' Fr h1 h2 h3 h4
   | nx ρ'=>
    cases ef
    intro σ' H' fp' S'
    refine k .non H' [] S'.ext .nil (fun a m=>by simp at m) ?_
    cases n0 with
    | zero=>exact⟨rfl,Acd.mpr rfl⟩
    | succ n=>
     unfold Aed
     split
     ·exact .inl ⟨rfl,rfl,rfl⟩
     ·exact⟨rfl,Acd.mpr rfl⟩
   | bk _=>cases ef
   | ct _=>cases ef
variable {X:Cx}{x:aD}{k n0 np:Nat}{ps:List aD}{F:List aA->Option aA}{e:aR}{es:List aR}{fa:AF}{p pos:bL}
theorem cW (D:Def X.prog X.w X.K X.mg X.base x k ps (spF X.K n0 F))(hr:Room k X.A)(hg:Gl X x)(ha:DA X (e::es) fa)(hdb:(x == ("__debug__" : aD))=false:=by decide)(he:bI (e::es) X.env=(false,bJ e X.env)::bI es X.env:=by rfl)
  (hpl:(fD pos (bI es X.env)).any (·.1)=false:=by rfl):DF n0 X (.Call (.Name x p) (e::es) [] pos) (aN F fa):=
 PE.imp (CP D hr hg ha hdb he hpl) fun σ H Q gh=>by
  obtain⟨P,ρ,d,hP,rs,ef,k⟩:=gh
  obtain⟨ds,e1,ef⟩:=XBs ef
  refine⟨P,ρ,ds,hP,rs,e1,fun vs H1 x1 r1=>?_⟩
  show spF X.K n0 F (vs++[]) H1 Q E0
  rw[tP]
  exact⟨P,ds,d,hP.ext x1,r1,ef,k.mono x1⟩
end
noncomputable def g2I (g:Int->Int->aA):aA->aA->Option aA
 | .int i,.int j=>some (g i j)
 | _,_=>none
noncomputable def g2C (C:Int->Int->Prop)[∀ i j,Decidable (C i j)](g:Int->Int->aA):aA->aA->Option aA
 | .int i,.int j=>if C i j then some (g i j) else none
 | _,_=>none
section
variable {K:aG}
theorem CD {g:Int->Int->V}{gd:Int->Int->aA}(h : ∀ i j H,Abe K H (gd i j) (g i j)):OpD K 0 (rI0 g) (g2I gd):=fun P H x y a b d Q hP ra rb e k=>by
 unfold g2I at e
 split at e
 ·rename_i i j
  cases e
  exact⟨i,j,Aaq.mp ra,Aaq.mp rb,k.zero Ext.refl (h i j _)⟩
 ·cases e
theorem zW {C C':Int->Int->Prop}[∀ i j,Decidable (C' i j)]{g:Int->Int->V}{gd:Int->Int->aA}(hC : ∀ i j,C' i j->C i j)(h : ∀ i j H,Abe K H (gd i j) (g i j)):OpD K 0 (rI C g) (g2C C' gd):=fun P H x y a b d Q hP ra rb e k=>by
 unfold g2C at e
 split at e
 ·rename_i i j
  obtain⟨hc,rfl⟩:=cX e
  exact⟨i,j,Aaq.mp ra,Aaq.mp rb,hC i j hc,k.zero Ext.refl (h i j _)⟩
 ·cases e
end
section
variable {X:Cx}{a b c:aR}{fa fb fc:EF}{pos:bL}
noncomputable def uN:aA->aA->Option aA:=g2I fun i j=>.int (i - j)
theorem yA (ha:DE X a fa)(hb:DE X b fb):DE X (.BinOp a .Sub b pos) (eOp uN fa fb):=pG Hr (CD fun _ _ _=>Aaq.mpr rfl) ha hb
noncomputable def eT:aA->aA->Option aA:=g2C (fun i j=>(i.natAbs<2 ^ 64 \/ j.natAbs<2 ^ 64) \/ (i.natAbs<2 ^ 1000/\j.natAbs<2 ^ 1000)) fun i j=>.int (i*j)
theorem Ae:OpR X (iZ .Mult) (rI (fun i j=>(i.natAbs<2 ^ 64 \/ j.natAbs<2 ^ 64) \/ (i.natAbs<2 ^ 1000/\j.natAbs<2 ^ 1000)) fun i j=>.int (i*j)):=by
 intro pins s σ H x y v u Q I rx ry h
 obtain⟨i,j,ex,ey,hc,q⟩:=h
 rcases hc with hc | hc
 ·refine Hv pins s σ H x y v u Q I rx ry ⟨i,j,ex,ey,?_,q⟩
  rcases hc with hc | hc
  ·exact .inl ⟨by omega,by omega⟩
  ·exact .inr ⟨by omega,by omega⟩
 ·exact Lz pins s σ H x y v u Q I rx ry ⟨i,j,ex,ey,hc,q⟩
theorem jG (ha:DE X a fa)(hb:DE X b fb):DE X (.BinOp a .Mult b pos) (eOp eT fa fb):=pG Ae (zW (fun _ _ h=>h) fun _ _ _=>Aaq.mpr rfl) ha hb
noncomputable def AA:aA->aA->Option aA:=g2C (fun _ j=>0<j/\j<1073741824) fun i j=>.int (i / j)
theorem KF (ha:DE X a fa)(hb:DE X b fb):DE X (.BinOp a .FloorDiv b pos) (eOp AA fa fb):=pG Jx (zW (fun _ _ h=>h) fun _ _ _=>Aaq.mpr rfl) ha hb
noncomputable def cQ:aA->aA->Option aA:=g2C (fun _ j=>0<j) fun i j=>.int (i%j)
theorem fM (ha:DE X a fa)(hb:DE X b fb):DE X (.BinOp a .Mod b pos) (eOp cQ fa fb):=pG YZ (zW (fun _ _ h=>h) fun _ _ _=>Aaq.mpr rfl) ha hb
noncomputable def nD:aA->aA->Option aA:=g2C (fun i j=>0≤j/\j≤1000000/\i.natAbs<2 ^ 64) fun i j=>.int (i ^ j.toNat)
theorem uH (ha:DE X a fa)(hb:DE X b fb):DE X (.BinOp a .Pow b pos) (eOp nD fa fb):=pG Io (zW (fun _ _ h=>h) fun _ _ _=>Aaq.mpr rfl) ha hb
theorem FO {x y:aD}(hx:cO (.str x)=true)(hy:cO (.str y)=true):cO (.str (x++y))=true:=by
 have e:(x++y).cps=x.cps++y.cps:=rfl
 simp only[cO,HX] at hx hy ⊢
 rw[e,Array.all_append,hx,hy]
 rfl
noncomputable def dC:aA->aA->Option aA
 | .int i,.int j=>some (.int (i+j))
 | .str x,.str y=>if x.length+y.length≤sizeLine then some (.str (x++y)) else none
 | .tuple (x::xs),.tuple ys=>if (x::xs).length+ys.length≤sizeLine then some (.tuple ((x::xs)++ys)) else none
 | _,_=>none
theorem Ke {K:aG}:OpD K 0 (fun x y H Q=>rI0 (fun i j=>.int (i+j)) x y H Q \/ (∃ i j,x = .str i/\y = .str j/\i.length+j.length≤sizeLine/\Q (.str (i++j)) H) \/ RM K x y H Q) dC:=fun P H x y a b d Q hP ra rb e k=>by
 unfold dC at e
 split at e
 ·rename_i i j
  cases e
  exact .inl ⟨i,j,Aaq.mp ra,Aaq.mp rb,k.zero Ext.refl (Aaq.mpr rfl)⟩
 ·rename_i i j
  obtain⟨hc,rfl⟩:=cX e
  exact .inr (.inl ⟨i,j,(Aas.mp ra).1,(Aas.mp rb).1,hc,k.zero Ext.refl (Aas.mpr ⟨rfl,FO (Aas.mp ra).2 (Aas.mp rb).2⟩)⟩)
 ·rename_i z zs ys
  obtain⟨hc,rfl⟩:=cX e
  obtain⟨p,us,rfl,hp,r1⟩:=Aaw.mp ra
  obtain⟨q,ws,rfl,hq,r2⟩:=Aaw.mp rb
  have l1:=r1.length
  have l2:=r2.length
  refine .inr (.inr ⟨p,q,us,ws,rfl,rfl,SqT.of (Aay _ _ hp),SqT.of (Aay _ _ hq),fun z=>by rw[z] at l1; simp at l1,by rw[l1,l2]; exact hc,fun z=>?_,fun z r hr=>?_⟩)
  ·subst z
   have:ys=[]:=by simpa using l2.symm
   subst this
   refine k.zero Ext.refl ?_
   rw[tP]
   exact ra
  ·exact k.tup hP hr (r1.append r2)
 ·cases e
theorem gY (ha:DE X a fa)(hb:DE X b fb):DE X (.BinOp a .Add b pos) (eOp dC fa fb):=pG (Bav.or (Aub.or Kj)) Ke ha hb
mutual
noncomputable def noDict:aA->Bool
 | .dict _=>false
 | .list ds=>noDicts ds
 | .tuple ds=>noDicts ds
 | _=>true
noncomputable def noDicts:List aA->Bool
 | []=>true
 | d::r=>noDict d&&noDicts r
end
mutual
theorem kA {X:Cx}{pins:List (aB×aY)}{σ:St}{H:Hp}{s:aH}(I:Inv X pins σ H s) : ∀ {d:aA} {v:V} {u:aE},noDict d=true->Abe X.K H d v->RelV v u->d.canLay0=true /\ ∃ as,kF s.heap u d as
 | .none,v,u,_,h,r=>by
  obtain rfl:=Acd.mp h
  cases r; exact⟨by simp[cO],_,.none⟩
 | .bool b,v,u,_,h,r=>by
  obtain rfl:=Aan.mp h
  cases r; exact⟨by simp[cO],_,.bool b⟩
 | .int i,v,u,_,h,r=>by
  obtain rfl:=Aaq.mp h
  obtain⟨t,rfl⟩:=r; exact⟨by simp[cO],_,.int i t⟩
 | .str x,v,u,_,h,r=>by
  obtain⟨rfl,hl⟩:=Aas.mp h
  obtain⟨t,rfl⟩:=r; exact⟨hl,_,.str x t⟩
 | .list ds,v,u,n,h,r=>by
  obtain⟨a,xs,rfl,hs,hr⟩:=Abm.mp h
  cases r
  obtain⟨its,rv,⟨o,m,e,hc,_,hd⟩,_⟩:=I.list hs
  obtain⟨hl,as,ha⟩:=zH I (by simpa [noDict] using n) hr rv
  exact⟨by simpa [cO] using hl,_,.list e hc hd (by simpa using ha)⟩
 | .tuple ds,v,u,n,h,r=>by
  obtain⟨a,xs,rfl,hs,hr⟩:=Aaw.mp h
  cases r
  obtain⟨its,rv,⟨o,e,hc,m,hd⟩,_⟩:=I.tuple (SqT.of hs)
  obtain⟨hl,as,ha⟩:=zH I (by simpa [noDict] using n) hr rv
  exact⟨by simpa [cO] using hl,_,.tuple e hc hd (by simpa using ha)⟩
 | .dict _,_,_,n,h,_=>by simp[noDict] at n
theorem zH {X:Cx}{pins:List (aB×aY)}{σ:St}{H:Hp}{s:aH}(I:Inv X pins σ H s) : ∀ {ds:List aA} {vs:List V} {us:List aE},noDicts ds=true->Aap X.K H ds vs->Vals vs us->wN ds=true /\ ∃ as,lB s.heap us ds as
 | [],vs,us,_,h,r=>by
  obtain rfl:=Aai.mp h
  cases r; exact⟨by simp[wN],_,.nil⟩
 | d::ds,vs,us,n,h,r=>by
  have n':noDict d=true/\noDicts ds=true:=by simpa [noDicts] using n
  obtain⟨x,rr,rfl,h1,h2⟩:=Aac.mp h
  cases r with
  | cons r1 r2=>
   obtain⟨l1,as,ha⟩:=kA I n'.1 h1 r1
   obtain⟨l2,bs,hb⟩:=zH I n'.2 h2 r2
   exact⟨by simp[wN,l1,l2],_,.cons ha hb⟩
end
noncomputable def dF (d:aA):Bool:=noDict d&&decide (d.depth≤60)
noncomputable def gEq:aA->aA->Option aA:=fun a b=>if (dF a&&dF b)=true then some (.bool (cS a b)) else none
noncomputable def gNe:aA->aA->Option aA:=fun a b=>if (dF a&&dF b)=true then some (.bool (!cS a b)) else none
noncomputable def xK (K:aG)(neg:Bool):R2:=fun x y H Q=>∃ da db,Abe K H da x/\Abe K H db y/\dF da=true/\dF db=true/\Q (.bl (neg != cS da db)) H
theorem rP (hu:X.A.units+100<cLine):OpR X (dS .Eq) (xK X.K false):=by
 intro pins s σ H x y v u Q I rx ry h
 obtain⟨da,db,ra,rb,fa,fb,q⟩:=h
 have fa':noDict da=true/\da.depth≤60:=by simpa [dF] using fa
 have fb':noDict db=true/\db.depth≤60:=by simpa [dF] using fb
 obtain⟨la,as,ra⟩:=kA I fa'.1 ra rx
 obtain⟨lb,bs,rb⟩:=kA I fb'.1 rb ry
 exact SeqAt.compareEq_reads ra rb la lb (by omega) ⟨.bl _,H,I,rfl,by simpa using q⟩
theorem CO (hu:X.A.units+100<cLine):OpR X (dS .NotEq) (xK X.K true):=by
 intro pins s σ H x y v u Q I rx ry h
 obtain⟨da,db,ra,rb,fa,fb,q⟩:=h
 have fa':noDict da=true/\da.depth≤60:=by simpa [dF] using fa
 have fb':noDict db=true/\db.depth≤60:=by simpa [dF] using fb
 obtain⟨la,as,ra⟩:=kA I fa'.1 ra rx
 obtain⟨lb,bs,rb⟩:=kA I fb'.1 rb ry
 exact SeqAt.compareNe_reads ra rb la lb (by omega) ⟨.bl _,H,I,rfl,by simpa using q⟩
theorem rR {K:aG}:OpD K 0 (xK K false) gEq:=fun P H x y a b d Q hP ra rb e k=>by
 obtain⟨hc,rfl⟩:=cX e
 have hc':dF a=true/\dF b=true:=by simpa using hc
 exact⟨a,b,ra.ext Aay,rb.ext Aay,hc'.1,hc'.2,k.zero Ext.refl (Aan.mpr (by simp))⟩
theorem CF {K:aG}:OpD K 0 (xK K true) gNe:=fun P H x y a b d Q hP ra rb e k=>by
 obtain⟨hc,rfl⟩:=cX e
 have hc':dF a=true/\dF b=true:=by simpa using hc
 exact⟨a,b,ra.ext Aay,rb.ext Aay,hc'.1,hc'.2,k.zero Ext.refl (Aan.mpr (by simp))⟩
noncomputable def BU (K:aG)(neg:Bool):R2:=fun x y H Q=>∃ d ds,Abe K H d x/\(Abe K H (.list ds) y \/ Abe K H (.tuple ds) y)/\dF d=true/\noDicts ds=true/\Q (.bl (neg != ds.any fun z=>cS z d)) H
theorem Ht (hu:X.A.units+100<cLine):OpR X (dS .In) (BU X.K false):=by
 intro pins s σ H x y v u Q I rx ry h
 obtain⟨d,ds,ra,rb,fa,fb,q⟩:=h
 have fa':noDict d=true/\d.depth≤60:=by simpa [dF] using fa
 obtain⟨la,as,ra⟩:=kA I fa'.1 ra rx
 rcases rb with rb | rb
 ·obtain⟨lb,bs,rb⟩:=kA I (by simpa [noDict] using fb) rb ry
  exact SeqAt.in_list_reads rb ra (by simpa [cO] using lb) la (by omega) ⟨.bl _,H,I,rfl,by simpa using q⟩
 ·obtain⟨lb,bs,rb⟩:=kA I (by simpa [noDict] using fb) rb ry
  exact SeqAt.in_tuple_reads rb ra (by simpa [cO] using lb) la (by omega) ⟨.bl _,H,I,rfl,by simpa using q⟩
theorem Ay (hu:X.A.units+100<cLine):OpR X (dS .NotIn) (BU X.K true):=by
 intro pins s σ H x y v u Q I rx ry h
 obtain⟨d,ds,ra,rb,fa,fb,q⟩:=h
 have fa':noDict d=true/\d.depth≤60:=by simpa [dF] using fa
 obtain⟨la,as,ra⟩:=kA I fa'.1 ra rx
 rcases rb with rb | rb
 ·obtain⟨lb,bs,rb⟩:=kA I (by simpa [noDict] using fb) rb ry
  exact SeqAt.notIn_list_reads rb ra (by simpa [cO] using lb) la (by omega) ⟨.bl _,H,I,rfl,by simpa using q⟩
 ·obtain⟨lb,bs,rb⟩:=kA I (by simpa [noDict] using fb) rb ry
  exact SeqAt.notIn_tuple_reads rb ra (by simpa [cO] using lb) la (by omega) ⟨.bl _,H,I,rfl,by simpa using q⟩
end
theorem PE.or {X:Cx}{e:aR}{t t':TE}(h:PE X e t)(h':PE X e t'):PE X e (fun σ H Q=>t σ H Q \/ t' σ H Q):=fun pins s σ H Q I q=>q.elim (h pins s σ H Q I) (h' pins s σ H Q I)
noncomputable def gLt:aA->aA->Option aA
 | .int i,.int j=>some (.bool (decide (i<j)))
 | .str i,.str j=>some (.bool (decide (i.cps.toList<j.cps.toList)))
 | _,_=>none
noncomputable def gLe:aA->aA->Option aA
 | .int i,.int j=>some (.bool (decide (i≤j)))
 | .str i,.str j=>some (.bool (!(decide (j.cps.toList<i.cps.toList))))
 | _,_=>none
noncomputable def gGt:aA->aA->Option aA:=g2I fun i j=>.bool (decide (j<i))
noncomputable def gGe:aA->aA->Option aA:=g2I fun i j=>.bool (decide (j≤i))
section
variable {K:aG}
theorem nX:OpD K 0 (fun x y H Q=>rI0 (fun i j=>.bl (decide (i<j))) x y H Q \/ ∃ i j,x = .str i/\y = .str j/\Q (.bl (decide (i.cps.toList<j.cps.toList))) H) gLt:=fun P H x y a b d Q hP ra rb e k=>by
 unfold gLt at e
 split at e
 ·cases e
  exact .inl ⟨_,_,Aaq.mp ra,Aaq.mp rb,k.zero Ext.refl (Aan.mpr rfl)⟩
 ·cases e
  exact .inr ⟨_,_,(Aas.mp ra).1,(Aas.mp rb).1,k.zero Ext.refl (Aan.mpr rfl)⟩
 ·cases e
theorem rM:OpD K 0 (fun x y H Q=>rI0 (fun i j=>.bl (decide (i≤j))) x y H Q \/ JA x y H Q) gLe:=fun P H x y a b d Q hP ra rb e k=>by
 unfold gLe at e
 split at e
 ·cases e
  exact .inl ⟨_,_,Aaq.mp ra,Aaq.mp rb,k.zero Ext.refl (Aan.mpr rfl)⟩
 ·cases e
  exact .inr ⟨_,_,(Aas.mp ra).1,(Aas.mp rb).1,k.zero Ext.refl (Aan.mpr rfl)⟩
 ·cases e
theorem uJ:OpD K 0 (rI0 fun i j=>.bl (decide (j<i))) gGt:=CD fun _ _ _=>Aan.mpr rfl
theorem SK:OpD K 0 (rI0 fun i j=>.bl (decide (j≤i))) gGe:=CD fun _ _ _=>Aan.mpr rfl
end
noncomputable def cI:aA->Option aL
 | .int i=>some (.inl i)
 | .str x=>some (.inr x)
 | _=>none
theorem PR {d:aA}{k:aL}(h:cI d=some k):d=kD k:=by
 cases d <;> simp[cI] at h <;> subst h <;> rfl
noncomputable def bZ (kds:List (aA×aA))(k:aL):Option aA:=(kds.find? fun kd=>decide (cI kd.1=some k)).map (·.2)
theorem lW (k:aL):cI (kD k)=some k:=by cases k <;> rfl
theorem FJ {K:aG}{H:Hp}{k:aL} : ∀ {kds:List (aA×aA)} {kvs:List (aL×V)},Abq K H kds kvs->(bZ kds k=none/\cZ kvs k=none) \/ ∃ d v,bZ kds k=some d/\cZ kvs k=some v/\Abe K H d v
 | [],kvs,h=>by rw[Abr.mp h]; exact .inl ⟨rfl,rfl⟩
 | (k0,d)::r,kvs,h=>by
  obtain⟨k',x,rr,rfl,rfl,h1,h2⟩:=Aaz.mp h
  by_cases e:k'=k
  ·refine .inr ⟨d,x,?_,rW e,h1⟩
   simp[bZ,fR,lW,e]
  ·have e1:bZ ((kD k',d)::r) k=bZ r k:=by simp[bZ,fR,lW,e]
   rw[e1,pT e]
   exact FJ h2
theorem QG {K:aG}{H:Hp}{k:aL} : ∀ {kds:List (aA×aA)} {kvs:List (List aA×V)},Ab0 K H kds kvs->bZ kds k=none
 | [],kvs,h=>rfl
 | (k0,d)::r,kvs,h=>by
  obtain⟨k',x,rr,rfl,⟨rfl,_⟩,h1,h2⟩:=Aa5.mp h
  have e1:bZ ((.tuple k',d)::r) k=bZ r k:=by simp[bZ,fR,cI]
  rw[e1]
  exact QG h2
theorem Mz {K:aG}{H:Hp}{k:aL}{kds:List (aA×aA)}{v:V}{d:aA}(h:Abe K H (.dict kds) v)(e:bZ kds k=some d) : ∃ a,∃ kvs:Nat×List (aL×V),v = .ref a/\H a=some (.dK kvs.1 kvs.2)/\Abq K H kds kvs.2:=by
 obtain⟨a,ev,⟨kvs,h1,r⟩ | ⟨ts,h1,r⟩ | ⟨xs,h1,r⟩ | r⟩:=Abz.mp h
 case inr.inr.inr=>
  obtain⟨c,r',rfl,hn⟩:=yN r
  have:bZ ((.none,.str c)::r') k=none:=by
   unfold bZ
   rw[List.find?_eq_none.mpr fun p m=>?_]
   ·rfl
   ·have:p.1 = .none:=(cP.mp m).elim (fun z=>by rw[z]) (hn p)
    rw[this]
    simp[cI]
  rw[this] at e
  cases e
 case inr.inr.inl=>
  obtain⟨es,rfl,_⟩:=vE r
  cases e
 ·exact⟨a,kvs,ev,h1,r⟩
 ·cases kds with
  | nil=>simp[Avm] at r
  | cons p q=>
   obtain⟨k0,m⟩:=p
   obtain⟨rfl,r2⟩:=Adc.mp r
   have e1:bZ ((.none,m)::q) k=bZ q k:=by simp[bZ,fR,cI]
   rw[e1,QG r2] at e
   cases e
noncomputable def iC (kds:List (aA×aA))(k:List aA):Option aA:=(kds.find? fun kd=>cS kd.1 (.tuple k)).map (·.2)
theorem Lm (a b:List aA):cS (.tuple a) (.tuple b)=oZ a b:=by simp[cS]
theorem zF {a k:List aA}{d:aA}{r:List (aA×aA)}(ha:bP a=true)(hk:bP k=true):iC ((.tuple a,d)::r) k=if a=k then some d else iC r k:=by
 have e:cS (.tuple a) (.tuple k)=decide (a=k):=by rw[Lm,FM _ _ ha hk]
 unfold iC
 rw[fR,e]
 by_cases h:a=k
 ·rw[if_pos h,decide_eq_true h]; rfl
 ·rw[if_neg h,decide_eq_false h]
theorem NM {K:aG}{H:Hp}{k:List aA}(hk:bP k=true) : ∀ {kds:List (aA×aA)} {kvs:List (List aA×V)},Ab0 K H kds kvs->(iC kds k=none/\cZ kvs k=none) \/ ∃ d v,iC kds k=some d/\cZ kvs k=some v/\Abe K H d v
 | [],kvs,h=>by rw[Ab2.mp h]; exact .inl ⟨rfl,rfl⟩
 | (k0,d)::r,kvs,h=>by
  obtain⟨k',x,rr,rfl,⟨rfl,hk'⟩,h1,h2⟩:=Aa5.mp h
  rw[zF hk' hk]
  by_cases e:k'=k
  ·rw[if_pos e]
   exact .inr ⟨d,x,rfl,rW e,h1⟩
  ·rw[if_neg e,pT e]
   exact NM hk h2
noncomputable def putD (kds:List (aA×aA))(k:aL)(d:aA):List (aA×aA):=
 if (kds.any fun kd=>decide (cI kd.1=some k))=true then kds.map fun kd=>if cI kd.1=some k then(kd.1,d) else kd else kds++[(kD k,d)]
theorem KR {K:aG}{H:Hp}{k:aL} : ∀ {kds:List (aA×aA)} {kvs:List (aL×V)},Abq K H kds kvs->(kds.any fun kd=>decide (cI kd.1=some k))=kvs.any fun kv=>decide (kv.1=k)
 | [],kvs,h=>by rw[Abr.mp h]; rfl
 | (k0,d)::r,kvs,h=>by
  obtain⟨k',x,rr,rfl,rfl,h1,h2⟩:=Aaz.mp h
  rw[BA,BA,KR h2,lW]
  simp
theorem EK {K:aG}{H:Hp}{k:aL}{d:aA}{v:V}(rv:Abe K H d v) : ∀ {kds:List (aA×aA)} {kvs:List (aL×V)},Abq K H kds kvs ->
  Abq K H (kds.map fun kd=>if cI kd.1=some k then(kd.1,d) else kd) (kvs.map fun kv=>if kv.1=k then(kv.1,v) else kv)
 | [],kvs,h=>by rw[Abr.mp h]; exact Abr.mpr rfl
 | (k0,d0)::r,kvs,h=>by
  obtain⟨k',x,rr,rfl,rfl,h1,h2⟩:=Aaz.mp h
  rw[cY,cY]
  by_cases e:k'=k
  ·rw[if_pos (show cI (kD k',d0).1=some k by rw[lW,e]),if_pos (show(k',x).1=k from e)]
   exact Aaz.mpr ⟨k',v,_,rfl,rfl,rv,EK rv h2⟩
  ·rw[if_neg (show ¬ cI (kD k',d0).1=some k by rw[lW]; simpa using e),if_neg (show ¬ (k',x).1=k from e)]
   exact Aaz.mpr ⟨k',x,_,rfl,rfl,h1,EK rv h2⟩
theorem Abq.snoc {K:aG}{H:Hp}{k:aL}{d:aA}{v:V}(rv:Abe K H d v) : ∀ {kds:List (aA×aA)} {kvs:List (aL×V)},Abq K H kds kvs->Abq K H (kds++[(kD k,d)]) (kvs++[(k,v)])
 | [],kvs,h=>by rw[Abr.mp h]; exact Aaz.mpr ⟨k,v,[],rfl,rfl,rv,Abr.mpr rfl⟩
 | (k0,d0)::r,kvs,h=>by
  obtain⟨k',x,rr,rfl,rfl,h1,h2⟩:=Aaz.mp h
  exact Aaz.mpr ⟨k',x,_,rfl,rfl,h1,Abq.snoc rv h2⟩
theorem Jf {K:aG}{H:Hp}{k:aL}{d:aA}{v:V}{kds:List (aA×aA)}{kvs:List (aL×V)}(h:Abq K H kds kvs)(rv:Abe K H d v):Abq K H (putD kds k d) (putK kvs k v):=by
 unfold putD putK
 rw[KR h]
 by_cases q:(kvs.any fun kv=>decide (kv.1=k))=true
 ·rw[if_pos q,if_pos q]; exact EK rv h
 ·rw[if_neg q,if_neg q]; exact Abq.snoc rv h
theorem Abq.length {K:aG}{H:Hp} : ∀ {kds:List (aA×aA)} {kvs:List (aL×V)},Abq K H kds kvs->kvs.length=kds.length
 | [],kvs,h=>by rw[Abr.mp h]; rfl
 | (k0,d0)::r,kvs,h=>by
  obtain⟨k',x,rr,rfl,rfl,h1,h2⟩:=Aaz.mp h
  rw[eE,eE,Abq.length h2]
theorem vB {K:aG}{H:Hp}{d:aA}{x:V}{k:aL}(h:cI d=some k)(r:Abe K H d x):x=kV k:=by
 rw[PR h] at r
 exact Fg r
noncomputable def gIx:aA->aA->Option aA
 | .list ds,.int i=>atI ds i
 | .tuple ds,.int i=>atI ds i
 | .str z,.int i=>if z.length≤sizeLine then(atI z.cps.toList i).bind fun c=>some (.str ⟨#[c]⟩) else none
 | .dict kds,d=>(cI d).bind fun k=>bZ kds k
 | _,_=>none
theorem KS {K:aG}{H:Hp}{ds:List aA}{xs:List V}{i:Int}{d:aA}(r:Aap K H ds xs)(h:atI ds i=some d) : ∃ v,atI xs i=some v/\Abe K H d v:=by
 unfold atI at h ⊢
 rw[r.length]
 obtain⟨j,h1,h2⟩:=XBs h
 obtain⟨v,h3,h4⟩:=r.get h2
 exact⟨v,by rw[h1]; exact h3,h4⟩
theorem Ku {α:Type}{xs:List α}{i:Int}{x:α}(h:atI xs i=some x) : ∃ j:Nat,xs[j]?=some x:=by
 unfold atI at h
 obtain⟨j,h1,h2⟩:=XBs h
 exact⟨j,h2⟩
section
variable {X:Cx}{a b e:aR}{es:List aR}{fa fb f:EF}{pos p:bL}
theorem dX (hu:X.A.units+40<cLine)(ha:DE X a fa)(hb:DE X b fb)(hs:LJ b):DE X (.Subscript a b pos) (eOp gIx fa fb):=PE.imp (PE.or (XI ZA ha hb hs) (yL hu ha hb hs)) fun σ H Q h=>by
 obtain⟨P,ρ,d,hP,rs,ef,k⟩:=h
 obtain⟨d1,e1,ef2⟩:=XBs ef
 obtain⟨d2,e2,ef3⟩:=XBs ef2
 clear ef ef2
 have seq:(∀ (H2:Hp) (v u:V),Ext H H2->Abe X.K (hid H2 P) d1 v->Abe X.K (hid H2 P) d2 u->rIx X.K v u H2 Q)->tOp (rIx X.K) (tF X.K 0 fa) (tF X.K 0 fb) σ H Q:=fun z=>
  ⟨P,ρ,d1,hP,rs,e1,cR fun v H1 x1 r1=>⟨P,ρ,d2,hP.ext x1,rs.ext (bS x1),e2,cR fun u H2 x2 r2=>z H2 v u (x1.trans x2) (r1.ext (bS x2)) r2⟩⟩
 cases d1 with
 | list ds=>
  cases d2 with
  | int i=>
   refine .inl (seq fun H2 v u x r1 r2=>.inl ?_)
   obtain⟨q,xs,rfl,hq,rr⟩:=Abm.mp r1
   obtain⟨w,h1,h2⟩:=KS rr (show atI ds i=some d from ef3)
   exact⟨q,xs,i,w,rfl,Aaq.mp r2,Aay.sqL hq,h1,k.zero x h2⟩
  | _=>cases ef3
 | tuple ds=>
  cases d2 with
  | int i=>
   refine .inl (seq fun H2 v u x r1 r2=>.inr (.inl ?_))
   obtain⟨q,xs,rfl,hq,rr⟩:=Aaw.mp r1
   obtain⟨w,h1,h2⟩:=KS rr (show atI ds i=some d from ef3)
   exact⟨q,xs,i,w,rfl,Aaq.mp r2,SqT.of (Aay _ _ hq),h1,k.zero x h2⟩
  | _=>cases ef3
 | str z=>
  cases d2 with
  | int i=>
   have ef3:(if z.length≤sizeLine then(atI z.cps.toList i).bind fun c=>some (.str ⟨#[c]⟩) else none)=some d:=ef3
   by_cases hz:z.length≤sizeLine
   ·rw[if_pos hz] at ef3
    obtain⟨c,h1,h2⟩:=XBs ef3
    cases h2
    obtain⟨j,hj⟩:=Ku h1
    refine .inl (seq fun H2 v u x r1 r2=>.inr (.inr ⟨z,i,c,(Aas.mp r1).1,Aaq.mp r2,hz,h1,k.zero x (Aas.mpr ⟨rfl,EJ (Aas.mp r1).2 hj⟩)⟩))
   ·rw[if_neg hz] at ef3; cases ef3
  | _=>cases ef3
 | dict kds=>
  obtain⟨kk,h1,h2⟩:=XBs (show((cI d2).bind fun k=>bZ kds k)=some d by cases d2 <;> exact ef3)
  refine .inr ⟨P,ρ,_,hP,rs,e1,cR fun v H1 x1 r1=>⟨P,ρ,d2,hP.ext x1,rs.ext (bS x1),e2,cR fun u H2 x2 r2=>?_⟩⟩
  obtain⟨q,kvs,rfl,hq,rr⟩:=Mz (r1.ext (bS x2)) h2
  rcases FJ rr with⟨n1,_⟩ | ⟨d',v',s1,s2,rd⟩
  ·rw[h2] at n1; cases n1
  ·rw[h2] at s1
   cases s1
   refine⟨q,v',rfl,.inl ⟨kvs.1,kvs.2,kk,.inl (Aay _ _ hq),vB h1 r2,s2.symm⟩,k.zero (x1.trans x2) rd⟩
 | _=>cases d2 <;> cases ef3
noncomputable def IT (neg:Bool):aA->List (aA×aA)->Option aA
 | .tuple _,(_,.list _)::_=>none
 | .tuple _,(_,.str _)::_=>none
 | .tuple k,(_,_)::kds=>if (bP k&&decide (dB k≤6))=true then some (.bool (neg != (iC kds k).isSome)) else none
 | _,_=>none
noncomputable def gIn (neg:Bool):aA->aA->Option aA
 | d,.list ds=>if (dF d&&noDicts ds)=true then some (.bool (neg != ds.any fun z=>cS z d)) else none
 | d,.tuple ds=>if (dF d&&noDicts ds)=true then some (.bool (neg != ds.any fun z=>cS z d)) else none
 | .str i,.str j=>some (.bool (neg != !(qW j i 0 j.length 1).isEmpty))
 | d,.dict kds=>if plK kds=true then(cI d).bind fun k=>some (.bool (neg != (bZ kds k).isSome)) else IT neg d kds
 | _,_=>none
noncomputable def CS (K:aG)(neg:Bool):R2:=fun x y H Q=>BU K neg x y H Q \/ (∃ i j,x = .str i/\y = .str j/\Q (.bl (neg != !(qW j i 0 j.length 1).isEmpty)) H) \/ ∃ a o,y = .ref a/\Au2 H a x o/\Q (.bl (neg != o.isSome)) H
theorem pU (hu:X.A.units+100<cLine):OpR X (dS .In) (CS X.K false):=by
 intro pins s σ H x y v u Q I rx ry h
 rcases h with h | ⟨i,j,ex,ey,q⟩ | ⟨a,o,rfl,g,q⟩
 ·exact Ht hu pins s σ H x y v u Q I rx ry h
 ·exact Bu pins s σ H x y v u Q I rx ry ⟨i,j,ex,ey,by simpa using q⟩
 ·cases ry
  exact WB (by omega) I g rx fun s' I'=>⟨.bl _,H,I',rfl,by simpa using q⟩
theorem vU (hu:X.A.units+100<cLine):OpR X (dS .NotIn) (CS X.K true):=by
 intro pins s σ H x y v u Q I rx ry h
 rcases h with h | ⟨i,j,ex,ey,q⟩ | ⟨a,o,rfl,g,q⟩
 ·exact Ay hu pins s σ H x y v u Q I rx ry h
 ·exact Fc pins s σ H x y v u Q I rx ry ⟨i,j,ex,ey,by simpa using q⟩
 ·cases ry
  exact Jg (by omega) I g rx fun s' I'=>⟨.bl _,H,I',rfl,by simpa using q⟩
theorem jV {K:aG}{neg:Bool}:OpD K 0 (CS K neg) (gIn neg):=fun P H x y a b d Q hP ra rb e k=>by
 unfold gIn at e
 split at e
 ·obtain⟨hc,rfl⟩:=cX e
  have hc':=kM.mp hc
  exact .inl ⟨a,_,ra.ext Aay,.inl (rb.ext Aay),hc'.1,hc'.2,k.zero Ext.refl (Aan.mpr rfl)⟩
 ·obtain⟨hc,rfl⟩:=cX e
  have hc':=kM.mp hc
  exact .inl ⟨a,_,ra.ext Aay,.inr (rb.ext Aay),hc'.1,hc'.2,k.zero Ext.refl (Aan.mpr rfl)⟩
 ·cases e
  exact .inr (.inl ⟨_,_,(Aas.mp ra).1,(Aas.mp rb).1,k.zero Ext.refl (Aan.mpr rfl)⟩)
 ·rename_i kds
  by_cases pk:plK kds=true
  case neg=>
   rw[if_neg pk] at e
   have ek : ∃ m r,kds=(.none,m)::r:=by
    cases kds with
    | nil=>simp[plK] at pk
    | cons p r=>
     obtain⟨k0,m⟩:=p
     cases k0 <;> simp[plK] at pk
     exact⟨m,r,rfl⟩
   obtain⟨m,r,rfl⟩:=ek
   cases a with
   | tuple kk=>
    have hm : ∀ es,m ≠ .list es:=by
     rintro es rfl
     cases e
    have hm2 : ∀ c,m ≠ .str c:=by
     rintro c rfl
     cases e
    replace e:(if (bP kk&&decide (dB kk≤6))=true then some (fE (neg != (iC r kk).isSome)) else none)=some d:=by
     cases m with
     | list es=>exact absurd rfl (hm es)
     | str es=>cases e
     | _=>exact e
    obtain⟨hc,rfl⟩:=cX e
    have hc':bP kk=true/\dB kk≤6:=by simpa using hc
    obtain⟨q,ts,rfl,hq,rr⟩:=(oI hm hm2).mp rb
    obtain⟨b,xs,rfl,hb,rx⟩:=Aaw.mp (ra.ext Aay)
    refine .inr (.inr ⟨q,cZ ts.2 kk,rfl,.inr ⟨ts.2,kk,b,⟨_,.inl (Aay _ _ hq)⟩,rfl,⟨hc'.1,hc'.2,xs,hb,Aap.keys kk hc'.1 rx⟩,rfl⟩,k.zero Ext.refl (Aan.mpr ?_)⟩)
    rcases NM hc'.1 rr with⟨n1,n2⟩ | ⟨d',v',s1,s2,rd⟩
    ·rw[n1,n2]; rfl
    ·rw[s1,s2]; rfl
   | _=>simp[IT] at e
  rw[if_pos pk] at e
  obtain⟨kk,h1,h2⟩:=XBs e
  cases h2
  obtain⟨q,kvs,rfl,hq,rr⟩:=(uZ pk).mp rb
  refine .inr (.inr ⟨q,cZ kvs.2 kk,rfl,.inl ⟨kvs.1,kvs.2,kk,.inl (Aay _ _ hq),vB h1 ra,rfl⟩,k.zero Ext.refl (Aan.mpr ?_)⟩)
  rcases FJ rr with⟨n1,n2⟩ | ⟨d',v',s1,s2,rd⟩
  ·rw[n1,n2]; rfl
  ·rw[s1,s2]; rfl
 ·cases e
end
noncomputable def cU:List aA->Option aA
 | [.list ds]=>some (.int ds.length)
 | [.tuple ds]=>some (.int ds.length)
 | [.dict kds]=>if plK kds=true then some (.int kds.length) else none
 | [.str z]=>if z.length≤sizeLine then some (.int z.length) else none
 | _=>none
theorem fZ {K:aG}{H:Hp}{d:aA}{xs:List V}(r:Aap K H [d] xs) : ∃ v,xs=[v]/\Abe K H d v:=by
 obtain⟨v,t,rfl,h1,h2⟩:=Aac.mp r
 obtain rfl:=Aai.mp h2
 exact⟨v,rfl,h1⟩
section
variable {X:Cx}
def IZ (K:aG):List V->Hp->VK->Prop:=fun xs H Q=>(∃ p ys,xs=[.ref p]/\(SqL K H p ys \/ SqT K H p ys)/\Q (.int ys.length) H) \/ (∃ z,xs=[.str z]/\z.length≤sizeLine/\Q (.int z.length) H) \/ ∃ a ep kvs,xs=[V.ref a]/\H a=some (.dK ep kvs)/\Q (.int kvs.length) H
theorem hV:Ado X (.builtin "len") (IZ X.K):=Ao4.or (Ao6.or Bn)
theorem hU {K:aG}:CallD K 0 (IZ K) cU:=fun P H xs ds d Q hP r e k=>by
 unfold cU at e
 split at e
 ·cases e
  obtain⟨v,rfl,r'⟩:=fZ r
  replace r:=r'
  obtain⟨q,ys,rfl,hq,rr⟩:=Abm.mp r
  exact .inl ⟨q,ys,rfl,.inl (Aay.sqL hq),k.zero Ext.refl (Aaq.mpr (by rw[rr.length]))⟩
 ·cases e
  obtain⟨v,rfl,r'⟩:=fZ r
  replace r:=r'
  obtain⟨q,ys,rfl,hq,rr⟩:=Aaw.mp r
  exact .inl ⟨q,ys,rfl,.inr (SqT.of (Aay _ _ hq)),k.zero Ext.refl (Aaq.mpr (by rw[rr.length]))⟩
 ·obtain⟨pk,rfl⟩:=cX e
  obtain⟨v,rfl,r'⟩:=fZ r
  replace r:=r'
  obtain⟨q,ys,rfl,hq,rr⟩:=(uZ pk).mp r
  exact .inr (.inr ⟨q,ys.1,ys.2,rfl,Aay _ _ hq,k.zero Ext.refl (Aaq.mpr (by rw[rr.length]))⟩)
 ·obtain⟨hz,rfl⟩:=cX e
  obtain⟨v,rfl,r'⟩:=fZ r
  replace r:=r'
  exact .inr (.inl ⟨_,by rw[(Aas.mp r).1],hz,k.zero Ext.refl (Aaq.mpr rfl)⟩)
 ·cases e
noncomputable def rJ:aA->String
 | .none=>"NoneType"
 | .bool _=>"bool"
 | .int _=>"int"
 | .str _=>"str"
 | .list _=>"list"
 | .tuple _=>"tuple"
 | .dict _=>"dict"
noncomputable def MB:List String:=["int","bool","str","list","tuple","dict"]
theorem Bt (d:aA):rJ d∈kinds:=by cases d <;> simp[rJ,kinds]
noncomputable def gG (T:String):aA->Option aA
 | .dict ((.none,.str _)::_)=>none
 | d=>some (.bool (isK (rJ d) T))
theorem Az:Ado X (.builtin "isinstance") (fun xs H Q=>∃ x T d b,xs=[x,.ty T]/\Abe X.K H d x/\T∈MB/\gG T d=some (.bool b)/\Q (.bl b) H):=by
 intro pins s σ H xs us Q I r h
 obtain⟨x,T,d,b,rfl,rd,hT,hb,q⟩:=h
 have hb2:b=isK (rJ d) T:=by
  unfold gG at hb
  split at hb
  ·cases hb
  ·cases hb; rfl
 subst hb2
 have ek:=Me (Bt d) hT
 have by_ty:TyOf X.K H x (.type (rJ d))->aQ (aT X.prog X.w) X.A (call (.builtin "isinstance") us) (EP X pins σ Q) X.xe s:=fun ty=>
  Eg pins s σ H _ us Q I r ⟨x,T,_,isK (rJ d) T,rfl,ty,Akb.trans ek,q⟩
 cases d with
 | none=>obtain rfl:=Acd.mp rd; exact by_ty .non
 | bool b=>obtain rfl:=Aan.mp rd; exact by_ty (.bl _)
 | int b=>obtain rfl:=Aaq.mp rd; exact by_ty (.int _)
 | str b=>obtain⟨rfl,_⟩:=Aas.mp rd; exact by_ty (.str _)
 | list b=>
  obtain⟨a,ys,rfl,h,_⟩:=Abm.mp rd
  obtain⟨u,w',rfl,ru,rw'⟩:=vals2 r
  cases rw'
  cases ru
  obtain⟨its,_,⟨o,n,e1,hc,_,_⟩,_⟩:=I.list h
  exact kG UA I.kIn ⟨o,e1,hc⟩ (Akb.trans ek) (fun z=>nomatch z) fun tk=>⟨.bl _,H,I.tok tk,rfl,q⟩
 | tuple b=>obtain⟨_,_,rfl,h,_⟩:=Aaw.mp rd; exact by_ty (.tup h)
 | dict b=>
  obtain⟨_,rfl,⟨_,h,_⟩ | ⟨_,h,_⟩ | ⟨_,h,_⟩ | h⟩:=Abz.mp rd
  case inr.inr.inr=>
   obtain⟨_,_,rfl,_⟩:=yN h
   cases hb
  ·exact by_ty (.dK h)
  ·exact by_ty (.dT h)
  ·obtain⟨u,w',rfl,ru,rw'⟩:=vals2 r
   cases rw'
   cases ru
   obtain⟨⟨_,_,o,_,e1,hc,_⟩,_⟩:=I.hok _ _ h
   exact kG UB I.kIn ⟨o,e1,hc.1⟩ (Akb.trans ek) (fun z=>nomatch z) fun tk=>⟨.bl _,H,I.tok tk,rfl,q⟩
variable {e a b:aR}{es:List aR}{f:EF}{fa:AF}{p p2 pos apos cpos:bL}{x:aD}
theorem kT {T:String}(hgl:Gl X "isinstance")(hm:X.mg "isinstance" = none)(hg:Gl X x)(hmx:X.mg x=none)(hv:jN x=some (.type T))(hT:T∈MB)(he:DE X e f)
  (hn:x ≠ "__name__":=by decide) (hd:(x == ("__debug__" : aD))=false:=by decide) (hs1:bI (e::[.Name x p2]) X.env=(false,bJ e X.env)::bI [.Name x p2] X.env:=by rfl)
  (hs2:bI (.Name x p2::[]) X.env=(false,bJ (.Name x p2) X.env)::bI [] X.env:=by rfl) (hpl:(fD pos (bI [.Name x p2] X.env)).any (·.1)=false:=by rfl):DE X (.Call (.Name "isinstance" p) [e,.Name x p2] [] pos) (eUn (gG T) f):=
 PE.imp (EN Az hgl hm boot_isinstance (fP he (fP (WX hg hmx hv hn hd) iN hs2) hs1) (by decide) (by decide) hs1 hpl) fun σ H Q gh=>by
  obtain⟨P,ρ,d,hP,rs,ef,k⟩:=gh
  obtain⟨d1,e1,ef⟩:=XBs ef
  have hb : ∃ b,d = .bool b:=by
   unfold gG at ef
   split at ef
   ·cases ef
   ·cases ef; exact⟨_,rfl⟩
  obtain⟨b,rfl⟩:=hb
  exact⟨P,ρ,d1,hP,rs,e1,cR fun v H1 x1 r1=>⟨v,T,d1,b,rfl,r1.ext Aay,hT,ef,k.zero x1 (Aan.mpr rfl)⟩⟩
noncomputable def CM:List aA->Option aA
 | [.list ds]=>some (.tuple ds)
 | [.tuple ds]=>some (.tuple ds)
 | _=>none
theorem Ej {K:aG}:CallD K 0 (fun xs H Q=>∃ p ys,xs=[.ref p]/\((SqL K H p ys /\ ∀ l,H l=none->Q (.ref l) (upd H l (.tup ys))) \/ (SqT K H p ys/\Q (.ref p) H))) CM:=fun P H xs ds d Q hP r e k=>by
 unfold CM at e
 split at e
 ·cases e
  obtain⟨v,rfl,r'⟩:=fZ r
  replace r:=r'
  obtain⟨q,ys,rfl,hq,rr⟩:=Abm.mp r
  exact⟨q,ys,rfl,.inl ⟨Aay.sqL hq,fun l hl=>k.tup hP hl rr⟩⟩
 ·cases e
  obtain⟨v,rfl,r'⟩:=fZ r
  replace r:=r'
  obtain⟨q,ys,rfl,hq,rr⟩:=Aaw.mp r
  exact⟨q,ys,rfl,.inr ⟨SqT.of (Aay _ _ hq),k.zero Ext.refl r⟩⟩
 ·cases e
noncomputable def GW:List aA->Option aA
 | [.list ds]=>some (.list ds)
 | [.tuple ds]=>some (.list ds)
 | [.str z]=>if z.length≤sizeLine then some (.list (z.cps.toList.map fun c=>.str ⟨#[c]⟩)) else none
 | _=>none
def JN (K:aG):List V->Hp->VK->Prop:=fun xs H Q=>(∃ p ys,xs=[.ref p]/\(SqL K H p ys \/ SqT K H p ys) /\ ∀ l,H l=none->Q (.ref l) (upd H l (.lst ys))) \/ ∃ z:aD,xs=[.str z]/\z.length≤sizeLine /\ ∀ l,H l=none->Q (.ref l) (upd H l (.lst (z.cps.toList.map pI)))
theorem Ex (hc:X.calm=true):Ado X (.type "list") (JN X.K):=Aot.or (Cr hc)
theorem PV {K:aG}{H:Hp} : ∀ {cs:List Nat},(∀ c∈cs,cO (.str ⟨#[c]⟩)=true)->Aap K H (cs.map fun c=>.str ⟨#[c]⟩) (cs.map pI)
 | [],_=>Aai.mpr rfl
 | c::r,h=>Aac.mpr ⟨_,_,rfl,Aas.mpr ⟨rfl,h c bX⟩,PV fun c' m=>h c' (cD _ m)⟩
theorem Ds {K:aG}:CallD K 1 (JN K) GW:=fun P H xs ds d Q hP r e k=>by
 unfold GW at e
 split at e
 ·cases e
  obtain⟨v,rfl,r'⟩:=fZ r
  replace r:=r'
  obtain⟨q,ys,rfl,hq,rr⟩:=Abm.mp r
  exact .inl ⟨q,ys,rfl,.inl (Aay.sqL hq),fun l hl=>k.lst hP hl rr⟩
 ·cases e
  obtain⟨v,rfl,r'⟩:=fZ r
  replace r:=r'
  obtain⟨q,ys,rfl,hq,rr⟩:=Aaw.mp r
  exact .inl ⟨q,ys,rfl,.inr (SqT.of (Aay _ _ hq)),fun l hl=>k.lst hP hl rr⟩
 ·obtain⟨hz,rfl⟩:=cX e
  obtain⟨v,rfl,r'⟩:=fZ r
  replace r:=r'
  refine .inr ⟨_,by rw[(Aas.mp r).1],hz,fun l hl=>k.lst hP hl (PV fun c m=>?_)⟩
  obtain⟨j,hj⟩:=List.mem_iff_getElem?.mp m
  exact EJ (Aas.mp r).2 hj
 ·cases e
noncomputable def sO:List aA->Option aA
 | [.int i]=>some (.int i)
 | [.bool b]=>some (.int (if b then 1 else 0))
 | _=>none
theorem Ai {K:aG}:CallD K 0 (fun xs H Q=>(∃ i,xs=[.int i]/\Q (.int i) H) \/ ∃ k,xs=[.bl k]/\Q (.int (if k then 1 else 0)) H) sO:=fun P H xs ds d Q hP r e k=>by
 unfold sO at e
 split at e
 ·cases e
  obtain⟨v,rfl,r'⟩:=fZ r
  replace r:=r'
  exact .inl ⟨_,by rw[Aaq.mp r],k.zero Ext.refl (Aaq.mpr rfl)⟩
 ·cases e
  obtain⟨v,rfl,r'⟩:=fZ r
  replace r:=r'
  exact .inr ⟨_,by rw[Aan.mp r],k.zero Ext.refl (Aaq.mpr rfl)⟩
 ·cases e
noncomputable def BR:List aA->Option aA
 | [.int i]=>some (.int (if i<0 then -i else i))
 | _=>none
theorem Cc {K:aG}:CallD K 0 (fun xs H Q=>∃ i,xs=[.int i]/\Q (.int (if i<0 then -i else i)) H) BR:=fun P H xs ds d Q hP r e k=>by
 unfold BR at e
 split at e
 ·cases e
  obtain⟨v,rfl,r'⟩:=fZ r
  replace r:=r'
  exact⟨_,by rw[Aaq.mp r],k.zero Ext.refl (Aaq.mpr rfl)⟩
 ·cases e
noncomputable def lL:List aA->Option (List Bool)
 | []=>some []
 | .bool b::r=>(lL r).bind fun bs=>some (b::bs)
 | _::_=>none
noncomputable def qE:List aA->Option aA
 | [.list ds]=>(lL ds).bind fun bs=>some (.bool (bs.all id))
 | _=>none
theorem MT {K:aG}{H:Hp} : ∀ {ds:List aA} {xs:List V} {bs:List Bool},lL ds=some bs->Aap K H ds xs->xs=bs.map V.bl
 | [],xs,bs,e,r=>by
  cases e
  rw[Aai.mp r]; rfl
 | .bool b::ds,xs,bs,e,r=>by
  obtain⟨bs',e1,e2⟩:=XBs (show((lL ds).bind fun bs=>some (b::bs))=some bs from e)
  cases e2
  obtain⟨v,t,rfl,h1,h2⟩:=Aac.mp r
  rw[Aan.mp h1,MT e1 h2]; rfl
 | .none::_,_,_,e,_=>by cases e
 | .int _::_,_,_,e,_=>by cases e
 | .str _::_,_,_,e,_=>by cases e
 | .list _::_,_,_,e,_=>by cases e
 | .tuple _::_,_,_,e,_=>by cases e
 | .dict _::_,_,_,e,_=>by cases e
theorem FE {K:aG}:CallD K 0 (fun xs H Q=>∃ p ys,xs=[.ref p]/\SqL K H p ys/\(∀ y∈ys,∃ b,y = .bl b)/\Q (.bl (allB ys)) H) qE:=fun P H xs ds d Q hP r e k=>by
 unfold qE at e
 split at e
 ·obtain⟨bs,e1,e2⟩:=XBs e
  cases e2
  obtain⟨v,rfl,r'⟩:=fZ r
  replace r:=r'
  obtain⟨q,ys,rfl,hq,rr⟩:=Abm.mp r
  obtain rfl:=MT e1 rr
  refine⟨q,_,rfl,Aay.sqL hq,fun y m=>?_,k.zero Ext.refl (Aan.mpr ?_)⟩
  ·obtain⟨b,_,rfl⟩:=cH.mp m
   exact⟨b,rfl⟩
  ·unfold allB
   rw[List.all_map]
   congr 2
   funext b
   cases b <;> rfl
 ·cases e
noncomputable def cutD (ds:List aA)(lo hi:Option Int):List aA:=(ds.drop (HT.sIx ds.length 0 lo)).take (HT.sIx ds.length ds.length hi - HT.sIx ds.length 0 lo)
abbrev OF:=List (Option aA)->Option (Option Int)
noncomputable def tOF (K:aG)(f:OF):TO:=fun σ H Q=>∃ P ρ o,Hid P H/\Ai2 K (hid H P) ρ σ/\f ρ=some o /\ ∀ H',Ext H H'->Q o H'
abbrev DO (X:Cx)(e:Option aR)(f:OF):Prop:=PO X e (tOF X.K f)
noncomputable def oN:OF:=fun _=>some none
noncomputable def oS (f:EF):OF:=fun ρ=>(f ρ).bind fun d=>match d with
 | .int i=>some (some i)
 | _=>none
theorem PO.imp {o:Option aR}{t t':TO}(h:PO X o t)(w : ∀ σ H Q,t' σ H Q->t σ H Q):PO X o t':=fun pins s σ H Q I q=>h pins s σ H Q I (w _ _ _ q)
theorem Km:DO X none oN:=PO.imp Jr fun σ H Q gh=>by
 obtain⟨P,ρ,o,hP,rs,ef,k⟩:=gh
 cases ef
 exact k H Ext.refl
theorem DJ (h:DE X e f):DO X (some e) (oS f):=PO.imp (Ka h) fun σ H Q gh=>by
 obtain⟨P,ρ,o,hP,rs,ef,k⟩:=gh
 obtain⟨d,e1,ef⟩:=XBs ef
 refine⟨P,ρ,d,hP,rs,e1,cR fun v H1 x1 r1=>?_⟩
 cases d with
 | int i=>cases ef; exact⟨i,Aaq.mp r1,k H1 x1⟩
 | _=>cases ef
noncomputable def oX (f:EF)(lo hi:OF):EF:=fun ρ=>(f ρ).bind fun d=>(lo ρ).bind fun l=>(hi ρ).bind fun h=>match d with
 | .list ds=>some (.list (cutD ds l h))
 | _=>none
theorem SS {lo hi:Option aR}{fl fh:OF}{pp:bL}(he:DE X e f)(hl:DO X lo fl)(hh:DO X hi fh):DF 1 X (.Subscript e (.Slice lo hi none pp) pos) (oX f fl fh):=PE.imp (ZN Lk he hl hh) fun σ H Q gh=>by
 obtain⟨P,ρ,d,hP,rs,ef,k⟩:=gh
 obtain⟨d1,e1,ef2⟩:=XBs ef
 obtain⟨l,e2,ef3⟩:=XBs ef2
 obtain⟨h,e3,ef4⟩:=XBs ef3
 clear ef ef2 ef3
 cases d1 with
 | list ds=>
  cases ef4
  refine⟨P,ρ,_,hP,rs,e1,cR fun v H1 x1 r1=>⟨P,ρ,l,hP.ext x1,rs.ext (bS x1),e2,fun H2 x2=>⟨P,ρ,h,hP.ext (x1.trans x2),rs.ext (bS (x1.trans x2)),e3,fun H3 x3=>?_⟩⟩⟩
  obtain⟨q,ys,rfl,hq,rr⟩:=Abm.mp (r1.ext (bS (x2.trans x3)))
  refine⟨q,ys,rfl,Aay.sqL hq,fun p hp=>(k.mono ((x1.trans x2).trans x3)).lst (hP.ext ((x1.trans x2).trans x3)) hp ?_⟩
  unfold tX cutD
  rw[rr.length]
  exact(rr.drop _).take _
 | _=>cases ef4
noncomputable def oV:List aA->Option (List aD)
 | []=>some []
 | .str x::r=>(oV r).bind fun xs=>some (x::xs)
 | _::_=>none
theorem MI {K:aG}{H:Hp} : ∀ {ds:List aA} {xs:List V} {bs:List aD},oV ds=some bs->Aap K H ds xs->xs=bs.map V.str /\ ∀ b∈bs,cO (.str b)=true
 | [],xs,bs,e,r=>by
  cases e
  rw[Aai.mp r]; exact⟨rfl,fun b m=>by simp at m⟩
 | .str b::ds,xs,bs,e,r=>by
  obtain⟨bs',e1,e2⟩:=XBs (show((oV ds).bind fun bs=>some (b::bs))=some bs from e)
  cases e2
  obtain⟨v,t,rfl,h1,h2⟩:=Aac.mp r
  obtain⟨q1,q2⟩:=MI e1 h2
  rw[(Aas.mp h1).1,q1]
  refine⟨rfl,fun c m=>?_⟩
  rcases cP.mp m with rfl | m
  ·exact(Aas.mp h1).2
  ·exact q2 c m
 | .none::_,_,_,e,_=>by cases e
 | .int _::_,_,_,e,_=>by cases e
 | .bool _::_,_,_,e,_=>by cases e
 | .list _::_,_,_,e,_=>by cases e
 | .tuple _::_,_,_,e,_=>by cases e
 | .dict _::_,_,_,e,_=>by cases e
theorem NG {sep:aD}(hs:cO (.str sep)=true) : ∀ {ys:List aD},(∀ b∈ys,cO (.str b)=true)->cO (.str (jQ sep ys))=true
 | [],_=>by
  have:jQ sep []=Str.empty:=by simp[jQ]
  rw[this]
  decide +kernel
 | [x],h=>by
  have:jQ sep [x]=x:=by simp[jQ]
  rw[this]
  exact h x bX
 | x::y::r,h=>by
  have e:jQ sep (x::y::r)=x++sep++jQ sep (y::r):=by
   rw[jQ]
   intro z; cases z
  rw[e]
  exact FO (FO (h x bX) hs) (NG hs fun b m=>h b (cD _ m))
noncomputable def rA:aA->aA->Option aA
 | .str sep,.list ds=>(oV ds).bind fun ys=>if (ys.map (·.length)).sum+ys.length*sep.length≤16777216 then some (.str (jQ sep ys)) else none
 | _,_=>none
theorem LV {g:EF}(ho:DE X a f)(he:DE X e g)(hbase:nG a "join" X.env (bJ a X.env)=bJ a X.env:=by rfl)
  (hfew:((fD cpos (bI (e::[]) X.env)).all (fun x=>!x.1)&&(tH cpos (sZ [] X.env)).all (fun x=>x.1.isSome)
   && decide ((e::[]).length+([]:List qS).length+(if ([]:List qS).isEmpty then 0 else 1)<30))=true:=by rfl)
  (hline:(apos.endLine == cpos.line)=true:=by rfl) (hs:bI (e::[]) X.env=(false,bJ e X.env)::bI [] X.env:=by rfl) (hplain:(fD cpos (bI [] X.env)).any (·.1)=false:=by rfl):DE X (.Call (.Attribute a "join" apos) [e] [] cpos) (eOp rA f g):=
 PE.imp (rG PySem.F.plainAttrs_str PySem.F.slot_str_join PySem.F.type_str_join Kl ho (fP he iN hs) hbase hfew hline hs hplain) fun σ H Q gh=>by
  obtain⟨P,ρ,d,hP,rs,ef,k⟩:=gh
  obtain⟨d1,e1,ef2⟩:=XBs ef
  obtain⟨d2,e2,ef3⟩:=XBs ef2
  clear ef ef2
  cases d1 with
  | str sep=>
   cases d2 with
   | list ds=>
    obtain⟨ys,h1,h2⟩:=XBs (show((oV ds).bind fun ys=>if (ys.map (·.length)).sum+ys.length*sep.length≤16777216 then some (cT (jQ sep ys)) else none)=some d from ef3)
    obtain⟨hz,rfl⟩:=cX h2
    refine⟨P,ρ,_,hP,rs,e1,cR fun v H1 x1 r1=>⟨by rw[(Aas.mp r1).1]; rfl,P,ρ,_,hP.ext x1,rs.ext (bS x1),e2,cR fun u H2 x2 r2=>?_⟩⟩
    obtain⟨q,zs,rfl,hq,rr⟩:=Abm.mp r2
    obtain⟨rfl,hl⟩:=MI h1 rr
    exact⟨sep,q,ys,(Aas.mp r1).1,rfl,Aay.sqL hq,hz,k.zero (x1.trans x2) (Aas.mpr ⟨rfl,NG (Aas.mp r1).2 hl⟩)⟩
   | _=>cases ef3
  | _=>cases d2 <;> cases ef3
noncomputable def XH:aA->aA->aA->Option aA
 | .dict kds,k,x=>if plK kds=true then(cI k).bind fun k=>some ((bZ kds k).getD x) else none
 | _,_,_=>none
noncomputable def GU (fd fk fx:EF):EF:=fun ρ=>(fd ρ).bind fun d=>(fk ρ).bind fun k=>(fx ρ).bind fun x=>XH d k x
theorem Res.dic {K:aG}{P:aB->Prop}{H:Hp}{Q:VK}{kds:List (aA×aA)}{ep:Nat}{kvs:List (aL×V)}{q:aB}(hP:Hid P H)(h:Res K P 1 (.dict kds) H Q)(n:H q=none)(r:Abq K (hid H P) kds kvs):Q (.ref q) (upd H q (.dK ep kvs)):=by
 refine h (.ref q) _ [q] (Ext.new n) (fF.mpr ⟨by simp,.nil⟩) (fun a m=>?_) ⟨q,(ep,kvs),kvs.map fun _=>[],rfl,eB,?_,?_⟩
 ·have:a=q:=by simpa using m
  subst this
  exact⟨n,_,eB⟩
 ·have : ∀ l:List (aL×V),(l.map fun _=>([]:List aB)).flatten=[]:=fun l=>by
   induction l with
   | nil=>rfl
   | cons a l ih=>rw[cY,jE,ih]; rfl
  rw[this]
 ·have xe:Ext (hid H P) (hid (upd H q (.dK ep kvs)) (orL P [q])):=fun b o e=>by
   obtain⟨nb,e⟩:=Ab7.mp e
   have hb:=gM e n
   exact eK (fun z=>z.elim nb fun m=>hb (by simpa using m)) (by rw[bO hb]; exact e)
  generalize hid (upd H q (.dK ep kvs)) (orL P [q])=B at xe
  generalize upd H q (.dK ep kvs)=H1
  clear h
  have go : ∀ (ds:List (aA×aA)) (xs:List (aL×V)),Abq K (hid H P) ds xs->All3 (fun(kd:aA×aA) (kv:aL×V) f=>kd.1=kD kv.1/\Aed K B H1 0 kd.2 kv.2 f) ds xs (xs.map fun _=>[]):=by
   intro ds
   induction ds with
   | nil=>intro xs r; rw[Abr.mp r]; exact .nil
   | cons d ds ih=>
    intro xs r
    obtain⟨k',y,t,rfl,ek,h1,h2⟩:=Aaz.mp (show Abq K (hid H P) ((d.1,d.2)::ds) xs from r)
    exact .cons ⟨ek,rfl,h1.ext xe⟩ (ih t h2)
  exact go kds kvs r
end
section
variable {K:aG}{H0 H B0:Hp}{P0:aB->Prop}{ρ:bC}{σ:St}{fp:Nat->List aB}{i:Nat}
theorem OC {B:Hp} : ∀ {ds:List aA} {xs:List V} {Fs:List (List aB)},All3 (Ae0 K B H 0) ds xs Fs->Aap K B ds xs/\Fs.flatten=[]:=by
 intro ds xs Fs h
 induction h with
 | nil=>exact⟨Aai.mpr rfl,rfl⟩
 | cons h t ih=>
  obtain⟨rfl,r⟩:=h
  exact⟨Aac.mpr ⟨_,_,rfl,r,ih.1⟩,by rw[jE,ih.2]; rfl⟩
theorem Da {B:Hp} : ∀ {ds:List (aA×aA)} {xs:List (aL×V)} {Fs:List (List aB)},All3 (fun(kd:aA×aA) (kv:aL×V) f=>kd.1=kD kv.1/\Ae0 K B H 0 kd.2 kv.2 f) ds xs Fs->Abq K B ds xs/\Fs.flatten=[]:=by
 intro ds xs Fs h
 induction h with
 | nil=>exact⟨Abr.mpr rfl,rfl⟩
 | @cons p q F ds xs Fs h t ih=>
  obtain⟨k,d⟩:=p
  obtain⟨k',v⟩:=q
  obtain⟨ek,rfl,r⟩:=h
  exact⟨Aaz.mpr ⟨_,_,_,rfl,ek,r,ih.1⟩,by rw[jE,ih.2]; rfl⟩
theorem FH {B H1:Hp} : ∀ {ds:List aA} {xs:List V},Aap K B ds xs->All3 (Ae0 K B H1 0) ds xs (xs.map fun _=>[])/\(xs.map fun _=>([]:List aB)).flatten=[]
 | [],xs,r=>by rw[Aai.mp r]; exact⟨.nil,rfl⟩
 | d::ds,xs,r=>by
  obtain⟨y,t,rfl,h1,h2⟩:=Aac.mp r
  obtain⟨q1,q2⟩:=FH h2
  exact⟨.cons ⟨rfl,h1⟩ q1,by rw[cY,jE,q2]; rfl⟩
theorem Sta.write {p:aB}{o:HO}{d':aA}(S:Sta K H0 P0 B0 ρ σ H fp)(hi:i<ρ.length)(hv:σ[i]?=some (some (.ref p)))(hp:p∈fp i)(ho:(∃ xs,o = .lst xs) \/ ∃ q:DQ,o=dO q)
  (new:Aed K (L2.hid H (Hd P0 fp)) (upd H p o) 1 d' (.ref p) (fp i)):Sta K H0 P0 B0 (ρ.set i (some (1,d'))) σ (upd H p o) fp:=by
 have hb:L2.hid (upd H p o) (Hd P0 fp)=L2.hid H (Hd P0 fp):=by
  funext b
  unfold L2.hid
  by_cases q:Hd P0 fp b
  ·rw[if_pos q,if_pos q]
  ·rw[if_neg q,if_neg q]
   exact bO fun z=>q (.inr ⟨i,by rw[z]; exact hp⟩)
 refine⟨by simp[S.len],S.nd,S.dj,fun j a m=>⟨(S.own j a m).1,?_⟩,fun b u e=>?_,S.hd,by rw[hb]; exact S.base,fun j n d e=>?_⟩
 ·by_cases q:a=p
  ·subst q
   rcases ho with⟨xs,rfl⟩ | ⟨xs,rfl⟩
   ·exact .inl ⟨xs,eB⟩
   ·exact .inr ⟨xs,eB⟩
  ·rw[bO q]; exact(S.own j a m).2
 ·rw[bO (gM e (S.own i p hp).1)]; exact S.ext b u e
 ·by_cases q:j=i
  ·subst q
   rw[lF hi] at e
   cases e
   exact⟨_,hv,by rw[hb]; exact new⟩
  ·rw[jT (fun z=>q z.symm)] at e
   obtain⟨v,h1,h2⟩:=S.slot j n d e
   refine⟨v,h1,?_⟩
   rw[hb]
   exact h2.keep Ext.refl fun a m=>bO fun z=>q (S.dj j i a m (by rw[z]; exact hp))
theorem Sta.lst1 {ds:List aA}(S:Sta K H0 P0 B0 ρ σ H fp)(e:ρ[i]?=some (some (1,.list ds))) : ∃ p xs,σ[i]?=some (some (.ref p))/\H p=some (.lst xs)/\Aap K (L2.hid H (Hd P0 fp)) ds xs /\
  ∀ ds' xs',Aap K (L2.hid H (Hd P0 fp)) ds' xs'->Sta K H0 P0 B0 (ρ.set i (some (1,.list ds'))) σ (upd H p (.lst xs')) fp:=by
 obtain⟨v,h1,h2⟩:=S.slot i 1 _ e
 obtain⟨p,xs,Fs,rfl,hp,hF,h3⟩:=h2
 obtain⟨r,hn⟩:=OC h3
 rw[hn] at hF
 refine⟨p,xs,h1,hp,r,fun ds' xs' r'=>S.write (dU.mp e).1 h1 (by rw[hF]; exact bX) (.inl ⟨_,rfl⟩) ?_⟩
 obtain⟨q1,q2⟩:=FH r'
 exact⟨p,xs',_,rfl,eB,by rw[hF,q2],q1⟩
end
noncomputable def getL (i:Nat)(ρ:bC):Option (List aA):=match ρ[i]? with
 | some (some (1,.list ds))=>some ds
 | _=>none
theorem sC {i:Nat}{ρ:bC}{ds:List aA}(h:getL i ρ=some ds):ρ[i]?=some (some (1,.list ds)):=by
 unfold getL at h
 split at h
 ·rename_i e; cases h; exact e
 ·cases h
section
variable {X:Cx}{H0:Hp}{P0:aB->Prop}{n0:Nat}{e k o:aR}{f g:EF}{x:aD}{px pos apos cpos spos:bL}{i:Nat}
noncomputable def kQ (i:Nat)(m:Md)(f:EF):SF:=fun ρ=>(eV 0 m f ρ).bind fun d=>(getL i ρ).bind fun ds=>if ds.length<sizeLine then some (.nx (ρ.set i (some (1,.list (ds++[d]))))) else none
theorem vD (i:Nat)(m:Md)(he:DE X e f)(hN:X.N[i]?=some x:=by rfl)(hv:kN X.env.scope x:=by first | exact bE rfl | exact bD (bE rfl) | exact bD (bD rfl))(hd:(x == ("__debug__" : aD))=false:=by decide)
  (hcd:(x == ("__classdict__" : aD))=false:=by decide) (hbase:nG (.Name x px) "append" X.env (bJ (.Name x px) X.env)=bJ (.Name x px) X.env:=by rfl)
  (hfew:((fD cpos (bI (e::[]) X.env)).all (fun x=>!x.1)&&(tH cpos (sZ [] X.env)).all (fun x=>x.1.isSome)
   && decide ((e::[]).length+([]:List qS).length+(if ([]:List qS).isEmpty then 0 else 1)<30))=true:=by rfl)
  (hline:(apos.endLine == cpos.line)=true:=by rfl) (hs:bI (e::[]) X.env=(false,bJ e X.env)::bI [] X.env:=by rfl) (hplain:(fD cpos (bI [] X.env)).any (·.1)=false:=by rfl)
  (hsw:lY (.Call (.Attribute (.Name x px) "append" apos) [e] [] cpos) none pos.line X.env=pure false:=by rfl):DS X H0 P0 n0 (.Expr (.Call (.Attribute (.Name x px) "append" apos) [e] [] cpos) pos) (kQ i m f):=
 PS.imp (oE (rG HV Oo On FG (mU hN hv hd hcd) (fP (ev m he) iN hs) hbase hfew hline hs hplain) hsw) fun D σ H gh=>by
  obtain⟨B0,ρ,fp,o,S,ef,k⟩:=gh
  obtain⟨d,e1,ef2⟩:=XBs ef
  obtain⟨ds,e2,ef3⟩:=XBs ef2
  obtain⟨hl,rfl⟩:=cX ef3
  obtain⟨p,xs,h1,h2,_,_⟩:=S.lst1 (sC e2)
  refine⟨.ref p,h1,.inl ⟨rfl,xs,SqL.of h2⟩,B0,ρ,fp,d,S,e1,fun v H2 gh=>?_⟩
  obtain⟨fp2,S2,r2⟩:=gh
  obtain⟨p2,xs2,q1,q2,q3,q4⟩:=S2.lst1 (sC e2)
  have:p2=p:=by rw[h1] at q1; cases q1; rfl
  subst this
  exact⟨p2,xs2,v,rfl,rfl,q2,by rw[q3.length]; exact hl,k _ _ fp2 (q4 _ _ (q3.snoc r2.2))⟩
noncomputable def tZ (i:Nat)(m:Md)(f:EF)(mk:Md)(g:EF):SF:=fun ρ=>(eV 0 m f ρ).bind fun d=>(getL i ρ).bind fun ds=>(eV 0 mk g ρ).bind fun k=>match k with
 | .int j=>(ixN ds.length j).bind fun j=>some (.nx (ρ.set i (some (1,.list (ds.set j d)))))
 | _=>none
theorem RQ {K:aG}{m:Md}{σ:St}{H B0:Hp}{ρ:bC}{fp:Nat->List aB}{d:aA}(S:Sta K H0 P0 B0 ρ σ H fp)(e:eV 0 m g ρ=some d){Q:VK}(hd:eJ d=true)(k : ∀ v H',Ext H H'->Abe K (hid H' (Hd P0 fp)) d v->Q v H'):tF K 0 g σ H Q:=by
 cases m with
 | s=>exact⟨Hd P0 fp,vS ρ,d,S.hid,S.viewS,e,cR k⟩
 | a=>
  obtain⟨d',ed,ef⟩:=XBs e
  obtain⟨fl,rfl⟩:=cX ef
  refine⟨P0,vA ρ,d',S.hd.ext S.ext,S.viewA,ed,cR fun v H' x r=>k v H' x (r.flat (fun a xs e=>?_) _ hd)⟩
  obtain⟨na,e⟩:=Ab7.mp e
  refine eK (fun q=>?_) e
  rcases q with q | ⟨j,q⟩
  ·exact na q
  ·rcases((S.grow x).own j a q).2 with⟨ys,e2⟩ | ⟨ys,e2⟩ <;> rw[e] at e2 <;> first | cases e2 | (cases ys <;> simp[dO] at e2)
theorem LU (i:Nat)(m mk:Md)(he:DE X e f)(hk:DE X k g)(hN:X.N[i]?=some x:=by rfl)(hv:kN X.env.scope x:=by first | exact bE rfl | exact bD (bE rfl) | exact bD (bD rfl))(hd:(x == ("__debug__" : aD))=false:=by decide)
  (hcd:(x == ("__classdict__" : aD))=false:=by decide)
  (ha : ∀ v,mC (.Subscript (.Name x px) k apos) X.env v=(do
   let ov ← kZ [v] (bJ (.Name x px) X.env)
   let iv ← kZ [v,ov] (bJ k X.env)
   qH apos
   kZ [v,ov,iv] (setItem ov iv v)
   release [v,ov,iv] []):=by intro _; rfl)
  (hs:swapsWithSole [.Subscript (.Name x px) k apos] e pos.line X.env=pure false:=by rfl) (hw:swappedStores [.Subscript (.Name x px) k apos] e X.env=pure none:=by rfl)
  (h1:(jO [.Subscript (.Name x px) k apos] X.env).map (·.2)=[mC (.Subscript (.Name x px) k apos) X.env]:=by rfl):DS X H0 P0 n0 (.Assign [.Subscript (.Name x px) k apos] e pos) (tZ i m f mk g):=
 PS.imp (SH (ev m he) (YR (mU hN hv hd hcd) hk set_list ha) hs hw h1) fun D σ H gh=>by
  obtain⟨B0,ρ,fp,o,S,ef,kk⟩:=gh
  obtain⟨d,e1,ef2⟩:=XBs ef
  obtain⟨ds,e2,ef3⟩:=XBs ef2
  obtain⟨kd,e3,ef4⟩:=XBs ef3
  clear ef ef2 ef3
  cases kd with
  | int j=>
   obtain⟨jn,e5,ef5⟩:=XBs (show((ixN ds.length j).bind fun j=>some (Out.nx (ρ.set i (some (1,.list (ds.set j d))))))=some o from ef4)
   cases ef5
   refine⟨B0,ρ,fp,d,S,e1,fun v H2 gh=>?_⟩
   obtain⟨fp2,S2,r2⟩:=gh
   obtain⟨p,xs,h1,h2,_,_⟩:=S2.lst1 (sC e2)
   refine⟨.ref p,h1,RQ S2 e3 (by simp[eJ]) fun u H3 x3 r3=>?_⟩
   have S3:=S2.grow x3
   obtain⟨p3,xs3,q1,q2,q3,q4⟩:=S3.lst1 (sC e2)
   have:p3=p:=by rw[h1] at q1; cases q1; rfl
   subst this
   exact⟨p3,xs3,j,jn,rfl,Aaq.mp r3,q2,by rw[q3.length]; exact e5,kk _ _ fp2 (q4 _ _ (q3.set (r2.2.ext (bS x3)) jn))⟩
  | _=>cases ef4
end
section
variable {X:Cx}{a b c:aR}{fa fb fc:EF}{pos:bL}
theorem Ob {op op':CmpOp}{r r':R2}{g g':aA->aA->Option aA}(ho:OpR X (dS op) r)(ho':OpR X (dS op') r')(hg:OpD X.K 0 r g)(hg':OpD X.K 0 r' g')(ha:DE X a fa)(hb:DE X b fb)(hc:DE X c fc)
  (hm:lastMarks [op,op'] [b,c]=false:=by with_unfolding_all rfl):DE X (.Compare a [op,op'] [b,c] pos) (jX g g' fa fb fc):=PE.imp (Nk ho ho' ha hb hc hm) (MJ hg hg')
theorem MP {op op':CmpOp}{r r':R2}{g g':aA->aA->Option aA}(ho:OpR X (dS op) r)(ho':OpR X (dS op') r')(hg:OpD X.K 0 r g)(hg':OpD X.K 0 r' g')(ha:DE X a fa)(hb:DE X b fb)(hc:DE X c fc)
  (hm:lastMarks [op,op'] [b,c]=false:=by with_unfolding_all rfl):DT X (.Compare a [op,op'] [b,c] pos) (bOf (jX g g' fa fb fc)):=PT.imp (Mt ho ho' ha hb hc hm) fun σ H Q gh=>by
 obtain⟨P,ρ,t,hP,rs,ef,k⟩:=gh
 obtain⟨d,e1,ef⟩:=XBs ef
 cases mY ef
 exact MJ hg hg' σ H _ ⟨P,ρ,_,hP,rs,e1,cR fun v H1 x1 r1=>⟨t,Aan.mp r1,k H1 x1⟩⟩
end
def Auu (h:aP)(d:aB)(es:Array mH)(ep:Nat):Prop:=∃ o,h.get? d=some o/\o.ExactDict/\o.data = .dict es ep
theorem Auu.keep {h h':aP}{d:aB}{es:Array mH}{ep:Nat}(x:Auu h d es ep)(k : ∀ o,h.get? d=some o->h'.get? d=some o):Auu h' d es ep:=
 let ⟨o,e,r⟩:=x; ⟨o,k o e,r⟩
theorem Auu.ty {s:aH}{d:aB}{es:Array mH}{ep:Nat}(x:Auu s.heap d es ep):s.TypeIs (.ref d) "dict":=let ⟨o,e,c,_⟩:=x; ⟨o,e,c.1⟩
section
variable {prog:bB}{w:aW}{A:cA}{E:aE->aH->Prop}{s:aH}{d it:aB}{es:Array mH}{ep i:Nat}
theorem Mx {Q:aE->aH->Prop}(nm:(d == gV)=false)(R:Auu s.heap d es ep)
  (q:Q (.ref s.heap.objs.size) { s with heap:=s.heap.push { cls:=.type "dict_keyiterator",data:=.fields #[.ref d,.int 0 0,.int es.size 0,.int ep 0] } }):aQ (aT prog w) A (pyIter (.ref d)) Q E s:=by
 have ty:=R.ty
 obtain⟨o,eo,_,ed⟩:=R
 refine wpAny_pyIter_slot ty F.slot_dict_iter (sU F.slot_dict_iter ty F.entry_dict_iter
  ?_ (F.args_dict_iter_1 _))
 unfold Builtin.«dict.__iter__»
 refine aK ?_
 unfold Builtin.Dict.dictSlotNone
 refine aK (TK ty ?_)
 refine bA ?_
 show aQ _ _ (Builtin.Dict.showsAll d >>= _) _ _ s
 unfold Builtin.Dict.showsAll
 rw[if_neg (show ¬ (d == gV)=true by rw[nm]; exact pB)]
 refine aK (bA ?_)
 refine aK (wI eo ed ?_)
 refine aK (wpAny_dictEpoch eo ed ?_)
 refine aK (AJ (bA ⟨_,rfl,"dict_keyiterator",_,
  ⟨_,eZ _ rfl,rfl⟩,BD.lookup,?_⟩))
 simpa [rawInt] using q
theorem Og {e:mH}{Q:Option aE->aH->Prop}(K:s.heap.IsKeyIter it d i es.size ep)(R:Auu s.heap d es ep)(x:es[i]?=some e)
  (q : ∀ h',h'.IsKeyIter it d (i+1) es.size ep->qU it s.heap h'->Q (some e.key) { s with heap:=h' }):aQ (aT prog w) A (pyNext (.ref it)) Q E s:=by
 obtain⟨oi,ei,ci,di⟩:=id K
 obtain⟨o,eo,_,ed⟩:=R
 unfold pyNext
 refine aK (wpAny_attempt (TM K.typeIs
  BD (sU BD K.typeIs
   Pc ?_ (Pd _))))
 refine aK (bA ?_)
 refine aK ?_
 refine aK ?_
 first
  | refine aK (HF K.typeIs (bA ?_))
  | refine aK (HE K.typeIs (bA ?_))
 refine aK (wpAny_fieldsOf ei di ?_)
 have own:Builtin.Dict_items.ownsTuple "dict_keyiterator" = false:=by decide
 simp only[own,lG,if_false]
 show aQ _ _ (if (dE d == fU)=true then _ else _) _ _ s
 rw[if_neg (show ¬ (dE d == fU)=true from pB)]
 refine aK (bA ?_)
 refine aK (wI eo ed ?_)
 rw[if_neg (by simp)]
 refine aK (bA ?_)
 refine aK (wpAny_dictEpoch eo ed ?_)
 rw[if_neg (by simp)]
 refine bA ?_
 simp only[show ¬ ((i:Int)<0) from by omega,if_false,UY,x]
 refine aK ?_
 first
  | refine aK (HF K.typeIs (bA ?_))
  | refine aK (HE K.typeIs (bA ?_))
 refine aK (wpAny_isOneOf_keyiter K.typeIs ?_)
 show aQ _ _ (setField (.ref it) 1 (rawInt ((i:Int)+1)) >>= _) _ _ s
 refine aK (wpAny_setField ei di (by simp) ?_)
 have K':(s.heap.update it (Obj.mapFields (·.setIfInBounds 1 (rawInt ((i:Int)+1))))).IsKeyIter it d (i+1) es.size ep:=
  ⟨_,BB _ ei (Obj.isFreed_of_fields (Obj.data_mapFields di _)),(Obj.cls_mapFields ..).trans ci,by
   rw[Obj.data_mapFields di]; simp[rawInt]⟩
 refine aK (iY ?_)
 refine aK (wpAny_isOneOf_keyiter
  K'.typeIs ?_)
 exact bA (bA ⟨_,rfl,bA (q _ K' (BC ..))⟩)
theorem Lf {Q:Option aE->aH->Prop}(hh:A.handled=none)(K:s.heap.IsKeyIter it d i es.size ep)(R:Auu s.heap d es ep)(x:es.size≤i)
  (q : ∀ h',Heap.ExtBut it s.heap h'->Q none { s with heap:=h' }):aQ (aT prog w) A (pyNext (.ref it)) Q E s:=by
 obtain⟨oi,ei,ci,di⟩:=id K
 obtain⟨o,eo,_,ed⟩:=R
 unfold pyNext
 refine aK (wpAny_attempt (TM K.typeIs
  BD (sU BD K.typeIs
   Pc ?_ (Pd _))))
 refine aK (bA ?_)
 refine aK ?_
 refine aK ?_
 first
  | refine aK (HF K.typeIs (bA ?_))
  | refine aK (HE K.typeIs (bA ?_))
 refine aK (wpAny_fieldsOf ei di ?_)
 have own:Builtin.Dict_items.ownsTuple "dict_keyiterator" = false:=by decide
 simp only[own,lG,if_false]
 show aQ _ _ (if (dE d == fU)=true then _ else _) _ _ s
 rw[if_neg (show ¬ (dE d == fU)=true from pB)]
 refine aK (bA ?_)
 refine aK (wI eo ed ?_)
 rw[if_neg (by simp)]
 refine aK (bA ?_)
 refine aK (wpAny_dictEpoch eo ed ?_)
 rw[if_neg (by simp)]
 refine bA ?_
 simp only[show ¬ ((i:Int)<0) from by omega,if_false,UY,Array.getElem?_eq_none x]
 refine aK ?_
 first
  | refine aK (HF K.typeIs (bA ?_))
  | refine aK (HE K.typeIs (bA ?_))
 show aQ _ _ (setField (.ref it) 0 .none >>= _) _ _ s
 refine aK (wpAny_setField ei di (by simp) ?_)
 refine aK ?_
 simp only[newExc,newTuple]
 refine aK (AJ ?_ (by size_fits))
 refine aK (wpAny_of_eq
  (by first | rfl | (simp only[firstArgMember]; rfl)) ?_)
 refine AJ ?_ (by size_fits)
 simp only[raiseNew]
 refine aK (wpAny_handled ?_)
 rw[show A.in1.handled=none from hh]
 refine aK (bA (wpAny_throw ?_))
 refine aK (HI
  ⟨_,eZ _ rfl,rfl⟩ isSubtype_stop ?_)
 exact bA (q _ (((BC ..).extBut.push _).push _))
theorem Bw (hh:A.handled=none)(I d:aB)(ne:d≠I)(es:Array mH)(ep:Nat) :
  Walks prog w A I [I,d] [I] es.size (fun i v=>∃ e,es[i]?=some e/\v=e.key) (fun i h=>h.IsKeyIter I d i es.size ep/\Auu h d es ep) where
 sub:=fun b hb=>by simp at hb; simp[hb]
 frame:=fun _ _ _ st hk=>⟨st.1.at fun o e=>hk I (by simp) o e,st.2.keep fun o e=>hk d (by simp) o e⟩
 item:=fun i s Q E hi st hQ=>by
  have hx:=Pf hi
  refine Og st.1 st.2 hx fun h' K' hs=>?_
  exact hQ _ h' s.toks ⟨_,hx,rfl⟩ ⟨K',st.2.keep fun o e=>hs.extBut d o ne e⟩ fun b o hb e=>hs.extBut b o (fun h=>hb (by simp[h])) e
 done:=fun s Q E st hQ=>Lf hh st.1 st.2 (bR _) fun h' he=>hQ h' s.toks fun b o hb e=>he b o (fun h=>hb (by simp[h])) e
 self:=fun _ _ _ _ st hQ=>wpAny_pyIter_keyiter st.1 hQ
theorem Gi:AK (.type "dict") "__len__" = pure (some (.builtin "dict.__len__")):=by rw[typeLookup_type,TN]; kernel_rfl
theorem Dd {R:qM->aH->Prop}(hh:A.handled=none)(nm:(d == gV)=false)(D:Auu s.heap d es ep)(S:aB)(res:aE)(c₀:Nat)(hSd:S≠d)
  (hS:s.heap.get? S=some { cls:=.type "list",data:=.seq #[] c₀ }) (hn:es.size≤sizeLine)
  (q : ∀ h' tk acc c',(∀ b o,b≠S->s.heap.get? b=some o->h'.get? b=some o)->h'.get? S=some { cls:=.type "list",dict:=none,data:=.seq acc c',slots:=#[] } ->
   ItemsOf (fun i v=>∃ e,es[i]?=some e/\v=e.key) acc es.size->R (.ok (.ret res)) { s with heap:=h',toks:=tk }) :
  aQ (aT prog w) A.in1 (Builtin.List.listExtendWith (.ref S) (.ref d) res)
   (fun fin s'=>match fin with | .done f=>R (.ok f) s' | .again c'=>c'.quiet=true/\lA (aT prog w) A c' R s') (fun e s'=>R (.error e) s') s:=by
 have ty:=D.ty
 unfold Builtin.List.listExtendWith
 refine aK (HD ty ?_)
 have h1:Builtin.List.listSameRef (.ref S) (.ref d)=false:=by
  simp[Builtin.List.listSameRef,hSd]
 have h2:(jP "dict" == jP "list")=false:=by decide
 have h3:(jP "dict" == jP "tuple")=false:=by decide
 simp only[h1,h2,h3,Bool.or_false,lG,if_false]
 refine aK (Mx nm D ?_)
 refine aK (iY ?_)
 have hd0:d<s.heap.objs.size:=by obtain⟨o,e,_⟩:=D; exact cG e
 have hS0:S<s.heap.objs.size:=cG hS
 have keepP : ∀ b o,s.heap.get? b=some o->(s.heap.push { cls:=.type "dict_keyiterator",data:=.fields #[.ref d,.int 0 0,.int es.size 0,.int ep 0] }).get? b=some o:=fun b o e=>cN _ e
 have D':Auu (s.heap.push { cls:=.type "dict_keyiterator",data:=.fields #[.ref d,.int 0 0,.int es.size 0,.int ep 0] }) d es ep:=D.keep fun o e=>keepP d o e
 have itG:(s.heap.push { cls:=.type "dict_keyiterator",data:=.fields #[.ref d,.int 0 0,.int es.size 0,.int ep 0] }).IsKeyIter s.heap.objs.size d 0 es.size ep:=⟨_,eZ _ rfl,rfl,rfl⟩
 unfold Builtin.List.listLengthHint
 refine aK (AG (T:="dict") (v:=.ref d) (by obtain⟨o,e,c,_⟩:=D'; exact⟨o,e,c.1⟩) Gi ?_)
 wp_delta
 refine aK (HI (T:="dict") (v:=.ref d) (b:=true) (by obtain⟨o,e,c,_⟩:=D'; exact⟨o,e,c.1⟩) (by rw[isSubtype_type]; kernel_rfl) ?_)
 show aQ _ _ (typeOf (dE d) >>= _) _ _ _
 refine aK (HD (T:="dict") (v:=.ref d) (by obtain⟨o,e,c,_⟩:=D'; exact⟨o,e,c.1⟩) ?_)
 refine bA ?_
 rw[if_pos (by decide)]
 refine aK (AH ?_)
 refine aK ?_
 have S1:=keepP _ _ hS
 generalize(s.heap.push { cls:=.type "dict_keyiterator",data:=.fields #[.ref d,.int 0 0,.int es.size 0,.int ep 0] })=G at keepP D' S1 itG ⊢
 show aQ _ _ (updateSeq S (·.push .none) >>= fun _=>updateSeq S (·.pop)) _ _ _
 refine aK (wpAny_updateSeq S1 rfl ?_)
 have S2:=BB (jB (·.push fU)) S1 rfl
 refine wpAny_updateSeq (hz:=by seq_fits) S2 rfl ?_
 have S3:=BB (jB (·.pop)) S2 rfl
 have other : ∀ b o,b≠S->G.get? b=some o->((G.update S (jB (·.push fU))).update S (jB (·.pop))).get? b=some o:=fun b o hb e=>
  (IL _ _ (kJ hb)).trans ((IL _ _ (kJ hb)).trans e)
 have hne:d≠s.heap.objs.size:=dG hd0
 have hSf:S∉[s.heap.objs.size,d]:=fun hm=>by
  rcases cP.mp hm with z | z
  ·exact absurd hS0 (by rw[z]; exact kK _)
  ·exact hSd (dH.mp z)
 refine bA ⟨sY F.plain_extend_loop _,codeAny_extend_loopS (Bw (A:=A.in1) hh s.heap.objs.size d hne es ep).toS hn _ hSf _ es.size 0 _ _ _ rfl (eX _)
  ⟨itG.at fun o e=>other _ o (qP hS0) e,D'.keep fun o e=>other _ o (kJ hSd) e⟩ S3 (ItemsOf.nil _) fun s' acc c' hm hS' hacc=>?_⟩
 rw[Moved.eq_with hm]
 refine q s'.heap s'.toks acc c' (fun b ob hb e=>hm.heap b ob (fun hmem=>?_) (other b ob hb (keepP _ _ e))) hS' hacc
 rcases cP.mp hmem with z | hmem
 ·exact hb z
 ·exact absurd (cG e) (by rw[dH.mp hmem]; exact kK _)
theorem QV {Q:List aE->aH->Prop}(hh:A.handled=none)(nm:(d == gV)=false)(D:Auu s.heap d es ep)(hn:es.size≤sizeLine)
  (q : ∀ s' acc,(∀ b o,s.heap.get? b=some o->s'.heap.get? b=some o)->s'.gens=s.gens->s'.drawn=s.drawn->s'.os=s.os->ItemsOf (fun i v=>∃ e,es[i]?=some e/\v=e.key) acc es.size->Q acc.toList s') :
  aQ (aT prog w) A (collect (.ref d)) Q E s:=by
 have hd0:d<s.heap.objs.size:=by obtain⟨o,e,_⟩:=D; exact cG e
 unfold collect
 refine aK (wpAny_runValue (oY F.entry_proto_collect ?_))
 rw[qY F.plain_proto_collect _]
 refine aK (AJ ?_)
 refine bA ⟨sY F.plain_list_iadd _,oY F.entry_list_iadd ?_⟩
 rw[qY F.plain_list_iadd _]
 have fin : ∀ (r:qM) (s':aH),(r = .ok (.ret (.ref s.heap.objs.size)) /\ ∃ h' tk acc c',s' = { s with heap:=h',toks:=tk }/\(∀ b o,b≠s.heap.objs.size->(s.heap.push { cls:=.type "list",data:=.seq ([]:List aE).toArray }).get? b=some o->h'.get? b=some o) /\
   h'.get? s.heap.objs.size=some { cls:=.type "list",dict:=none,data:=.seq acc c',slots:=#[] }/\ItemsOf (fun i v=>∃ e,es[i]?=some e/\v=e.key) acc es.size) ->
   (match r with
    | .ok (.ret v)=>aQ (aT prog w) A (match v with
      | .ref a=>do
       let o ← load a
       match o.data with
        | .seq xs _=>pure xs.toList
        | _=>unsupported "internal:collect"
      | _=>unsupported "internal:collect") Q E s'
    | .ok _=>False
    | .error e=>E e s'):=by
  rintro r s' ⟨rfl,h',tk,acc,c',rfl,hk,hS',hacc⟩
  refine aK (wpAny_load hS' ?_)
  exact bA (q { s with heap:=h',toks:=tk } acc (fun b o e=>hk b o (dG (cG e)) (cN _ e)) rfl rfl rfl hacc)
 refine iX (Dd
  (R:=fun r s'=>r = .ok (.ret (.ref s.heap.objs.size)) /\ ∃ h' tk acc c',s' = { s with heap:=h',toks:=tk }/\(∀ b o,b≠s.heap.objs.size->(s.heap.push { cls:=.type "list",data:=.seq ([]:List aE).toArray }).get? b=some o->h'.get? b=some o) /\
   h'.get? s.heap.objs.size=some { cls:=.type "list",dict:=none,data:=.seq acc c',slots:=#[] }/\ItemsOf (fun i v=>∃ e,es[i]?=some e/\v=e.key) acc es.size)
  hh nm (D.keep fun o e=>cN _ e) s.heap.objs.size _ 0 (qP hd0) (eZ _ rfl) hn fun h' tk acc c' hk hS' hacc=>⟨rfl,h',tk,acc,c',rfl,hk,hS',hacc⟩) (fun f s' hf=>?_) fun e s' hf=>absurd hf.1 (by intro z; cases z)
 cases f with
 | done f=>exact fin _ s' hf
 | again c=>exact⟨hf.1,qK hf.2 fun r s2 h2=>fin r s2 h2⟩
end
section
variable {X:Cx}{pins:List (aB×aY)}{σ:St}{H:Hp}{s:aH}
theorem FW {P:bB}{w:aW} : ∀ {es:List mH} {kvs:List (aL×V)} {vs:List (aL×aE)},KV kvs vs->PySem.Pairs (dR P w) es vs->Vals (kvs.map fun kv=>kV kv.1) (es.map (·.key))
 | [],kvs,vs,r,p=>by
  cases p
  cases r
  exact .nil
 | e::es,kvs,vs,r,p=>by
  cases p with
  | cons h hv t=>
   cases r with
   | cons h' t'=>
    refine .cons ?_ (FW t' t)
    show RelV (kV _) e.key
    rw[h'.1]
    rcases kX h with⟨i,tk,e1,e2⟩ | ⟨x,tk,e1,e2⟩
    ·rw[e1,e2]; exact⟨tk,rfl⟩
    ·rw[e1,e2]; exact⟨tk,rfl⟩
theorem OX {es:Array mH}{acc:Array aE}(h:ItemsOf (fun i v=>∃ e,es[i]?=some e/\v=e.key) acc es.size):acc.toList=es.toList.map (·.key):=by
 obtain⟨h1,h2⟩:=h
 apply List.ext_getElem?
 intro i
 rw[eY]
 by_cases hi:i<acc.size
 ·have ha:acc.toList[i]?=some acc[i]:=by simp[hi]
  obtain⟨e,he,hv⟩:=h2 i acc[i] (by simp[hi])
  have he':es.toList[i]?=some e:=by simpa using he
  rw[ha,he',hv]
  rfl
 ·have ha:acc.toList[i]?=none:=by simp; omega
  have he:es.toList[i]?=none:=by simp; omega
  rw[ha,he]
  rfl
theorem Hh {ep0:Nat}{kvs:List (aL×V)}{a:aB}(I:Inv X pins σ H s)(ha:H a=some (.dK ep0 kvs)):kvs.length≤sizeLine/\(a == gV)=false /\ ∃ es ep,Auu s.heap a es ep/\Vals (kvs.map fun kv=>kV kv.1) (es.toList.map (·.key))/\es.size=kvs.length:=by
 obtain⟨z,nm,vs,r,o,es,ep,e1,e2,e3,_,e5,_⟩:=GV I.hok ha
 refine⟨z,nm,es,ep,⟨o,e1,e2,e3⟩,FW r e5,?_⟩
 have l1:=(FW r e5).length
 simp at l1
 exact l1.symm
theorem Mn {H:Hp} : ∀ {kvs:List (List aA×V)} {ys:List (List aA×aB×aE)},dI (fun p q=>p.1=q.1/\Air H p.1 q.2.1/\RelV p.2 q.2.2) kvs ys->dI (fun(p:List aA×V) (b:aB)=>Air H p.1 b) kvs (ys.map fun y=>y.2.1):=by
 intro kvs ys h
 induction h with
 | nil=>exact .nil
 | cons h _ ih=>exact .cons h.2.1 ih
theorem NY {P:bB}{w:aW} : ∀ (ys:List (List aA×aB×aE)),Vals ((ys.map fun y=>y.2.1).map V.ref) ((ys.map (entryOfKey (lX P w))).map (·.key))
 | []=>.nil
 | _::t=>.cons rfl (NY t)
theorem OK {K:aG} : ∀ {kds:List (aA×aA)} {kvs:List (aL×V)},Abq K H kds kvs->(∀ kd∈kds,cO kd.1=true)->Aap K H (kds.map (·.1)) (kvs.map fun kv=>kV kv.1)
 | [],kvs,r,_=>by rw[Abr.mp r]; exact Aai.mpr rfl
 | (k,d)::kds,kvs,r,h=>by
  obtain⟨k',x,rr,rfl,rfl,h1,h2⟩:=Aaz.mp r
  refine Aac.mpr ⟨_,_,rfl,?_,OK h2 fun kd m=>h kd (cD _ m)⟩
  have hl:=h (kD k',d) bX
  cases k' with
  | inl i=>exact Aaq.mpr rfl
  | inr z=>exact Aas.mpr ⟨rfl,hl⟩
end
section
variable {X:Cx}{H0:Hp}{P0:aB->Prop}{n0:Nat}{pos:bL}
noncomputable def AE (m:Md)(f:EF)(T:aA->bC->Option bC):SF:=fun ρ=>(eV 0 m f ρ).bind fun d=>(T d ρ).bind fun ρ'=>some (.nx ρ')
theorem Kw {tg e:aR}{f:EF}{T:aA->bC->Option bC}(m:Md)(he:DE X e f)(hg:DG X H0 P0 tg T)(hs:swapsWithSole [tg] e pos.line X.env=pure false:=by rfl)(hw:swappedStores [tg] e X.env=pure none:=by rfl)
  (h1:(jO [tg] X.env).map (·.2)=[mC tg X.env]:=by rfl):DS X H0 P0 n0 (.Assign [tg] e pos) (AE m f T):=PS.imp (SH (ev m he) hg hs hw h1) fun D σ H gh=>by
 obtain⟨B0,ρ,fp,o,S,ef,k⟩:=gh
 obtain⟨d,e1,ef⟩:=XBs ef
 obtain⟨ρ',e2,ef⟩:=XBs ef
 cases ef
 refine⟨B0,ρ,fp,d,S,e1,fun v H' gh=>?_⟩
 obtain⟨fp',S',r⟩:=gh
 exact⟨B0,ρ,fp',d,ρ',S',r.2,e2,fun σ' fp2 S2=>k _ _ fp2 S2⟩
end
open PySem PySem.W PyProof.Rows
noncomputable def evT {α:Type}(lt:Nat->Nat->Bool):KasT α->α
 | .ret a=>a
 | .ask i j k=>evT lt (k (lt i j))
theorem rT {α β:Type}(lt:Nat->Nat->Bool)(f:α->KasT β) : ∀ t:KasT α,evT lt (t.bind f)=evT lt (f (evT lt t))
 | .ret _=>rfl
 | .ask i j k=>rT lt f (k (lt i j))
structure Ord (lt:Nat->Nat->Bool):Prop where
 asym : ∀ a b,lt a b=true->lt b a=false
 tr : ∀ a b c,lt b a=false->lt c b=false->lt c a=false
section
variable {lt:Nat->Nat->Bool}(O:Ord lt)
noncomputable abbrev at' (p:Array Nat)(i:Nat):Nat:=p.getD i 0
def gF (lt:Nat->Nat->Bool)(p:Array Nat)(m:Nat):Prop:=∀ i j,i≤j->j<m->lt (at' p j) (at' p i)=false
def pC (lt:Nat->Nat->Bool)(p:Array Nat)(m:Nat):Prop:=∀ i j,i≤j->j<m->lt (at' p i) (at' p j)=false
include O
theorem Ord.refl (a:Nat):lt a a=false:=by
 cases h:lt a a with
 | false=>rfl
 | true=>exact absurd (O.asym a a h) (by rw[h]; decide)
theorem Jk {p:Array Nat}{n:Nat}(h1:1≤n)(h:gF lt p n)(hl:lt (at' p n) (at' p (n - 1))=false):gF lt p (n+1):=fun i j hij hj=>by
 by_cases c:j<n
 ·exact h i j hij c
 ·obtain rfl:j=n:=by omega
  by_cases d:i=j
  ·subst d; exact O.refl _
  ·exact O.tr _ _ _ (h i (j - 1) (by omega) (by omega)) hl
theorem uU {p:Array Nat}{n:Nat}(h1:1≤n)(h:pC lt p n)(hl:lt (at' p (n - 1)) (at' p n)=false):pC lt p (n+1):=fun i j hij hj=>by
 by_cases c:j<n
 ·exact h i j hij c
 ·obtain rfl:j=n:=by omega
  by_cases d:i=j
  ·subst d; exact O.refl _
  ·exact O.tr _ _ _ hl (h i (j - 1) (by omega) (by omega))
theorem Jn (p:Array Nat):gF lt p 1:=fun i j hij hj=>by
 obtain rfl:j=0:=by omega
 obtain rfl:i=0:=by omega
 exact O.refl _
theorem DK {p:Array Nat} : ∀ (f n:Nat),1≤n->gF lt p n->n≤evT lt (kas_asc p f n)/\evT lt (kas_asc p f n)≤n+f/\gF lt p (evT lt (kas_asc p f n))/\(evT lt (kas_asc p f n)<n+f->lt (at' p (evT lt (kas_asc p f n))) (at' p (evT lt (kas_asc p f n) - 1))=true)
 | 0,n,h1,h=>⟨bR _,bR _,h,fun z=>absurd z (by show ¬ n<n+0; omega)⟩
 | f+1,n,h1,h=>by
  have e:evT lt (kas_asc p (f+1) n)=evT lt (if lt (at' p n) (at' p (n - 1))=true then KasT.ret n else kas_asc p f (n+1)):=rfl
  rw[e]
  by_cases c:lt (at' p n) (at' p (n - 1))=true
  ·rw[if_pos c]
   exact⟨bR _,by show n≤n+(f+1); omega,h,fun _=>c⟩
  ·rw[if_neg c]
   obtain⟨a1,a2,a3,a4⟩:=DK f (n+1) (by omega) (Jk O h1 h (by simpa using c))
   exact⟨by omega,by omega,a3,fun z=>a4 (by omega)⟩
theorem FI {p:Array Nat}{k:Nat}(h:gF lt p k) : ∀ (f l r:Nat),l≤r->r≤k->r - l≤f->(∀ i<l,lt (at' p k) (at' p i)=false)->(∀ i,r≤i->i<k->lt (at' p i) (at' p k)=false) ->
  evT lt (kas_place p k f l r)≤k/\(∀ i<evT lt (kas_place p k f l r),lt (at' p k) (at' p i)=false) /\ ∀ i,evT lt (kas_place p k f l r)≤i->i<k->lt (at' p i) (at' p k)=false
 | 0,l,r,h1,h2,h3,hl,hr=>by
  have e:evT lt (kas_place p k 0 l r)=l:=rfl
  obtain rfl:l=r:=by omega
  rw[e]
  exact⟨h2,hl,hr⟩
 | f+1,l,r,h1,h2,h3,hl,hr=>by
  unfold kas_place
  by_cases c:l ≥ r
  ·rw[if_pos c]
   obtain rfl:l=r:=by omega
   exact⟨h2,hl,hr⟩
  ·rw[if_neg c]
   show evT lt (if lt (at' p k) (at' p ((l+r) / 2))=true then kas_place p k f l ((l+r) / 2) else kas_place p k f ((l+r) / 2+1) r)≤k/\_
   by_cases d:lt (at' p k) (at' p ((l+r) / 2))=true
   ·have e:evT lt (KasT.ask (p.getD k 0) (p.getD ((l+r) / 2) 0) fun c=>if c=true then kas_place p k f l ((l+r) / 2) else kas_place p k f ((l+r) / 2+1) r)=evT lt (kas_place p k f l ((l+r) / 2)):=by
     show evT lt (if lt (at' p k) (at' p ((l+r) / 2))=true then _ else _)=_
     rw[if_pos d]
    rw[e,if_pos d]
    exact FI h f l ((l+r) / 2) (by omega) (by omega) (by omega) hl fun i a b=>O.tr _ _ _ (O.asym _ _ d) (h _ i a b)
   ·have d':lt (at' p k) (at' p ((l+r) / 2))=false:=by simpa using d
    have e:evT lt (KasT.ask (p.getD k 0) (p.getD ((l+r) / 2) 0) fun c=>if c=true then kas_place p k f l ((l+r) / 2) else kas_place p k f ((l+r) / 2+1) r)=evT lt (kas_place p k f ((l+r) / 2+1) r):=by
     show evT lt (if lt (at' p k) (at' p ((l+r) / 2))=true then _ else _)=_
     rw[if_neg d]
    rw[e,if_neg d]
    refine FI h f ((l+r) / 2+1) r (by omega) h2 (by omega) (fun i hi=>?_) hr
    exact O.tr _ _ _ (h i ((l+r) / 2) (by omega) (by omega)) d'
end
theorem at_of {p:Array Nat}(i:Nat):at' p i=(p[i]?).getD 0:=Array.getD_eq_getD_getElem?
theorem TH {p:Array Nat}{k l:Nat}(hk:k<p.size)(hl:l≤k)(i:Nat):at' (bubble p k (k - l)) i=if i=l then at' p k else if l<i/\i≤k then at' p (i - 1) else at' p i:=by
 have e:k - (k - l)=l:=by omega
 have q:=getElem?_bubble hk (k - l) (by omega) i
 rw[e] at q
 simp only[at_of,q]
 split
 ·rfl
 ·split <;> rfl
theorem jY {p:Array Nat}{i j:Nat}(hj:j≤p.size)(k:Nat):at' (kas_rev p i j) k=if i≤k/\k<j then at' p (i+j - 1 - k) else at' p k:=by
 have q:=getElem?_mirror_all (i:=i) hj k
 simp only[at_of]
 unfold kas_rev
 rw[q]
 split <;> rfl
theorem EW (p:Array Nat)(i j:Nat):(kas_rev p i j).size=p.size:=mirror_size _ _ _ _
theorem oG (p:Array Nat)(i j:Nat):(kas_rev p i j).Perm p:=mirror_perm _ _ _ _
section
variable {lt:Nat->Nat->Bool}(O:Ord lt)
include O
theorem LW : ∀ (f:Nat) (p:Array Nat) (k:Nat),gF lt p k->k+f≤p.size->(evT lt (kas_bin f p k)).Perm p/\gF lt (evT lt (kas_bin f p k)) (k+f)
 | 0,p,k,h,_=>⟨BH _,h⟩
 | f+1,p,k,h,hz=>by
  have e:evT lt (kas_bin (f+1) p k)=evT lt (kas_bin f (bubble p k (k - evT lt (kas_place p k k 0 k))) (k+1)):=by
   show evT lt ((kas_place p k k 0 k).bind fun l=>kas_bin f (bubble p k (k - l)) (k+1))=_
   rw[rT]
  obtain⟨h1,h2,h3⟩:=FI O h k 0 k (eX _) (bR _) (by omega) (fun i hi=>absurd hi (by omega)) (fun i a b=>absurd b (by omega))
  rw[e]
  generalize evT lt (kas_place p k k 0 k)=l at h1 h2 h3
  have hk:k<p.size:=by omega
  have A':gF lt (bubble p k (k - l)) (k+1):=fun i j hij hj=>by
   rw[TH hk h1,TH hk h1]
   by_cases ci:i=l
   ·rw[if_pos ci]
    by_cases cj:j=l
    ·rw[if_pos cj]; exact O.refl _
    ·rw[if_neg cj,if_pos ⟨by omega,by omega⟩]
     exact h3 (j - 1) (by omega) (by omega)
   ·rw[if_neg ci]
    by_cases cj:j=l
    ·rw[if_pos cj,if_neg (by omega)]
     exact h2 i (by omega)
    ·rw[if_neg cj]
     by_cases di:l<i/\i≤k
     ·rw[if_pos di,if_pos ⟨by omega,by omega⟩]
      exact h (i - 1) (j - 1) (by omega) (by omega)
     ·rw[if_neg di]
      by_cases dj:l<j/\j≤k
      ·rw[if_pos dj]
       exact h i (j - 1) (by omega) (by omega)
      ·rw[if_neg dj]
       exact h i j hij (by omega)
  obtain⟨a1,a2⟩:=LW f (bubble p k (k - l)) (k+1) A' (by rw[bubble_size]; omega)
  exact⟨a1.trans (bubble_perm _ _ _),by rw[show k+(f+1)=k+1+f by omega]; exact a2⟩
structure Fall (lt:Nat->Nat->Bool)(p:Array Nat)(n q:Nat):Prop where
 pos:q+1≤n
 dsc:pC lt p n
 eq : ∀ i j,n - (q+1)≤i->i<n->n - (q+1)≤j->j<n->lt (at' p i) (at' p j)=false
theorem Fall.rev {p:Array Nat}{n q:Nat}(F:Fall lt p n q)(hz:n≤p.size):Fall lt (kas_rev p (n - (q+1)) n) n q:=by
 have hp:=F.pos
 refine⟨hp,fun i j hij hj=>?_,fun i j a b c d=>?_⟩
 ·rw[jY hz,jY hz]
  by_cases ci:n - (q+1)≤i/\i<n
  ·rw[if_pos ci,if_pos ⟨by omega,hj⟩]
   exact F.eq _ _ (by omega) (by omega) (by omega) (by omega)
  ·rw[if_neg ci]
   by_cases cj:n - (q+1)≤j/\j<n
   ·rw[if_pos cj]
    exact F.dsc _ _ (by omega) (by omega)
   ·rw[if_neg cj]
    exact F.dsc i j hij hj
 ·rw[jY hz,jY hz,if_pos ⟨a,b⟩,if_pos ⟨c,d⟩]
  exact F.eq _ _ (by omega) (by omega) (by omega) (by omega)
theorem yQ : ∀ (f:Nat) (p:Array Nat) (n q:Nat),Fall lt p n q->n+f≤p.size->(evT lt (kas_desc f p n q)).1.Perm p/\n≤(evT lt (kas_desc f p n q)).2.1/\(evT lt (kas_desc f p n q)).2.1≤n+f/\Fall lt (evT lt (kas_desc f p n q)).1 (evT lt (kas_desc f p n q)).2.1 (evT lt (kas_desc f p n q)).2.2
 | 0,p,n,q,F,_=>⟨BH _,bR _,bR _,F⟩
 | f+1,p,n,q,F,hz=>by
  have hp:=F.pos
  have e:evT lt (kas_desc (f+1) p n q)=evT lt (if lt (at' p n) (at' p (n - 1))=true then(if q > 0 then kas_desc f (kas_rev p (n - (q+1)) n) (n+1) 0 else kas_desc f p (n+1) 0) else KasT.ask (p.getD (n - 1) 0) (p.getD n 0) fun d=>if d=true then .ret (p,n,q) else kas_desc f p (n+1) (q+1)):=rfl
  rw[e]
  by_cases c:lt (at' p n) (at' p (n - 1))=true
  ·rw[if_pos c]
   by_cases hq:q > 0
   ·rw[if_pos hq]
    have F':=F.rev O (by omega)
    have hn:at' (kas_rev p (n - (q+1)) n) n=at' p n:=by rw[jY (by omega),if_neg (by omega)]
    have F2:Fall lt (kas_rev p (n - (q+1)) n) (n+1) 0:=by
     refine⟨by omega,uU O (by omega) F'.dsc ?_,fun i j a b c' d=>?_⟩
     ·rw[hn,jY (by omega),if_pos ⟨by omega,by omega⟩]
      exact O.tr _ _ _ (O.asym _ _ c) (F.eq _ _ (by omega) (by omega) (by omega) (by omega))
     ·obtain rfl:i=n:=by omega
      obtain rfl:j=i:=by omega
      exact O.refl _
    obtain⟨a1,a2,a3,a4⟩:=yQ f _ (n+1) 0 F2 (by rw[EW]; omega)
    exact⟨a1.trans (oG _ _ _),by omega,by omega,a4⟩
   ·rw[if_neg hq]
    have F2:Fall lt p (n+1) 0:=by
     refine⟨by omega,uU O (by omega) F.dsc (O.asym _ _ c),fun i j a b c' d=>?_⟩
     obtain rfl:i=n:=by omega
     obtain rfl:j=i:=by omega
     exact O.refl _
    obtain⟨a1,a2,a3,a4⟩:=yQ f _ (n+1) 0 F2 (by omega)
    exact⟨a1,by omega,by omega,a4⟩
  ·rw[if_neg c]
   have c':lt (at' p n) (at' p (n - 1))=false:=by simpa using c
   have e2:evT lt (KasT.ask (p.getD (n - 1) 0) (p.getD n 0) fun d=>if d=true then .ret (p,n,q) else kas_desc f p (n+1) (q+1))=evT lt (if lt (at' p (n - 1)) (at' p n)=true then .ret (p,n,q) else kas_desc f p (n+1) (q+1)):=rfl
   rw[e2]
   by_cases d:lt (at' p (n - 1)) (at' p n)=true
   ·rw[if_pos d]
    exact⟨BH _,bR _,by show n≤n+(f+1); omega,F⟩
   ·rw[if_neg d]
    have d':lt (at' p (n - 1)) (at' p n)=false:=by simpa using d
    have F2:Fall lt p (n+1) (q+1):=by
     refine⟨by omega,uU O (by omega) F.dsc d',fun i j a b a' b'=>?_⟩
     by_cases ci:i=n
     ·by_cases cj:j=n
      ·rw[ci,cj]; exact O.refl _
      ·rw[ci]
       exact O.tr _ _ _ (F.eq (n - 1) j (by omega) (by omega) (by omega) (by omega)) c'
     ·by_cases cj:j=n
      ·rw[cj]
       exact O.tr _ _ _ d' (F.eq i (n - 1) (by omega) (by omega) (by omega) (by omega))
      ·exact F.eq i j (by omega) (by omega) (by omega) (by omega)
    obtain⟨a1,a2,a3,a4⟩:=yQ f _ (n+1) (q+1) F2 (by omega)
    exact⟨a1,by omega,by omega,a4⟩
end
section
variable {lt:Nat->Nat->Bool}(O:Ord lt)
include O
theorem Iu {p:Array Nat}{n:Nat}(h:pC lt p n)(hz:n≤p.size):gF lt (kas_rev p 0 n) n:=fun i j hij hj=>by
 rw[jY hz,jY hz,if_pos ⟨eX _,hj⟩,if_pos ⟨eX _,by omega⟩]
 exact h _ _ (by omega) (by omega)
theorem MF {p:Array Nat}{n m:Nat}(h1:1≤n)(hn:n≤m)(hz:m≤p.size)(h:pC lt p n):(evT lt (kas_tail3 n m p)).2.Perm p/\(evT lt (kas_tail3 n m p)).1≤m/\1≤(evT lt (kas_tail3 n m p)).1/\gF lt (evT lt (kas_tail3 n m p)).2 (evT lt (kas_tail3 n m p)).1:=by
 unfold kas_tail3
 rw[rT]
 obtain⟨a1,a2,a3,_⟩:=DK O (m - n) n h1 (Iu O h (by omega))
 exact⟨oG _ _ _,by show evT lt (kas_asc (kas_rev p 0 n) (m - n) n)≤m; omega,by show 1≤evT lt (kas_asc (kas_rev p 0 n) (m - n) n); omega,a3⟩
theorem NI {p:Array Nat}{n m:Nat}(h1:1≤n)(hn:n+1≤m)(hz:m≤p.size)(h:pC lt p (n+1)):(evT lt (kas_descPart n m p)).2.Perm p/\(evT lt (kas_descPart n m p)).1≤m/\1≤(evT lt (kas_descPart n m p)).1/\gF lt (evT lt (kas_descPart n m p)).2 (evT lt (kas_descPart n m p)).1:=by
 have F0:Fall lt p (n+1) 0:=⟨by omega,h,fun i j a b c d=>by
  obtain rfl:i=n:=by omega
  obtain rfl:j=i:=by omega
  exact O.refl _⟩
 obtain⟨a1,a2,a3,a4⟩:=yQ O (m - (n+1)) p (n+1) 0 F0 (by omega)
 unfold kas_descPart
 rw[rT]
 generalize evT lt (kas_desc (m - (n+1)) p (n+1) 0)=r at a1 a2 a3 a4
 have hs:=a1.size_eq
 split
 ·have F':=a4.rev O (by omega)
  obtain⟨b1,b2,b3,b4⟩:=MF O (by omega) (by omega) (by rw[EW]; omega) F'.dsc (m:=m)
  exact⟨b1.trans ((oG _ _ _).trans a1),b2,b3,b4⟩
 ·obtain⟨b1,b2,b3,b4⟩:=MF O (by omega) (by omega) (by omega) a4.dsc (m:=m)
  exact⟨b1.trans a1,b2,b3,b4⟩
theorem PF {p:Array Nat}{m:Nat}(h1:1≤m)(hz:m≤p.size):(evT lt (kas_count m p)).2.Perm p/\(evT lt (kas_count m p)).1≤m/\1≤(evT lt (kas_count m p)).1/\gF lt (evT lt (kas_count m p)).2 (evT lt (kas_count m p)).1:=by
 obtain⟨a1,a2,a3,a4⟩:=DK O (m - 1) 1 (bR _) (Jn O p)
 unfold kas_count
 rw[rT]
 generalize evT lt (kas_asc p (m - 1) 1)=n at a1 a2 a3 a4
 by_cases c:(n == m)=true
 ·rw[if_pos c]
  exact⟨BH _,by show n≤m; omega,a1,a3⟩
 ·rw[if_neg c]
  have hnm:n≠m:=by simpa using c
  have hl:=a4 (by omega)
  by_cases d:n > 1
  ·rw[if_pos d]
   show(evT lt (if lt (at' p 0) (at' p (n - 1))=true then KasT.ret (n,p) else kas_descPart n m (kas_rev p 0 n))).2.Perm p/\(evT lt (if lt (at' p 0) (at' p (n - 1))=true then KasT.ret (n,p) else kas_descPart n m (kas_rev p 0 n))).1≤m/\1≤(evT lt (if lt (at' p 0) (at' p (n - 1))=true then KasT.ret (n,p) else kas_descPart n m (kas_rev p 0 n))).1/\gF lt (evT lt (if lt (at' p 0) (at' p (n - 1))=true then KasT.ret (n,p) else kas_descPart n m (kas_rev p 0 n))).2 (evT lt (if lt (at' p 0) (at' p (n - 1))=true then KasT.ret (n,p) else kas_descPart n m (kas_rev p 0 n))).1
   by_cases e:lt (at' p 0) (at' p (n - 1))=true
   ·rw[if_pos e]
    exact⟨BH _,by show n≤m; omega,a1,a3⟩
   ·rw[if_neg e]
    have e':lt (at' p 0) (at' p (n - 1))=false:=by simpa using e
    have same : ∀ i j,i<n->j<n->lt (at' p i) (at' p j)=false:=fun i j hi hj=>
     O.tr _ (at' p 0) _ (O.tr _ _ _ (a3 j (n - 1) (by omega) (by omega)) e') (a3 0 i (eX _) hi)
    have D:pC lt (kas_rev p 0 n) (n+1):=by
     refine uU O a1 (fun i j hij hj=>?_) ?_
     ·rw[jY (by omega),jY (by omega),if_pos ⟨eX _,by omega⟩,if_pos ⟨eX _,hj⟩]
      exact same _ _ (by omega) (by omega)
     ·rw[jY (by omega),jY (by omega),if_pos ⟨eX _,by omega⟩,if_neg (by omega)]
      exact O.tr _ _ _ (O.asym _ _ hl) (same _ _ (by omega) (by omega))
    obtain⟨b1,b2,b3,b4⟩:=NI O a1 (by omega) (by rw[EW]; exact hz) D (m:=m)
    exact⟨b1.trans (oG _ _ _),b2,b3,b4⟩
  ·rw[if_neg d]
   obtain rfl:n=1:=by omega
   exact NI O (bR _) (by omega) hz (uU O (bR _) (fun i j hij hj=>by
    obtain rfl:j=0:=by omega
    obtain rfl:i=0:=by omega
    exact O.refl _) (O.asym _ _ hl))
theorem MG {n:Nat}(h1:1≤n):(evT lt (kas_sort n)).Perm (jD (dN n))/\gF lt (evT lt (kas_sort n)) n:=by
 have hs:(jD (dN n)).size=n:=by simp
 obtain⟨a1,a2,a3,a4⟩:=PF O h1 (by rw[hs]; exact bR _)
 unfold kas_sort
 rw[rT]
 generalize evT lt (kas_count n (jD (dN n)))=r at a1 a2 a3 a4
 have hz:=a1.size_eq.trans hs
 split
 ·have em:max r.1 1=r.1:=by omega
  rw[em]
  obtain⟨b1,b2⟩:=LW O (n - r.1) r.2 r.1 a4 (by omega)
  exact⟨b1.trans a1,by rw[show r.1+(n - r.1)=n by omega] at b2; exact b2⟩
 ·have:r.1=n:=by omega
  exact⟨a1,by rw[this] at a4; exact a4⟩
end
def fY {α:Type}(lt:Nat->Nat->Bool)(N:Nat):KasT α->Prop
 | .ret _=>True
 | .ask i j k=>(i<N/\j<N)/\fY lt N (k (lt i j))
theorem rV {α β:Type}{lt:Nat->Nat->Bool}{N:Nat}{f:α->KasT β} : ∀ {t:KasT α},fY lt N t->fY lt N (f (evT lt t))->fY lt N (t.bind f)
 | .ret _,_,h=>h
 | .ask i j k,h,h2=>⟨h.1,rV h.2 h2⟩
theorem RW {α:Type}{lt:Nat->Nat->Bool}{N:Nat}{cmp:Nat->Nat->(Bool->aH->Prop)->aH->Prop}{s:aH}(hc : ∀ i j (C:Bool->aH->Prop),i<N->j<N->C (lt i j) s->cmp i j C s){Q:α->aH->Prop} : ∀ {t:KasT α},fY lt N t->Q (evT lt t) s->t.kasWp cmp Q s
 | .ret _,_,h=>h
 | .ask i j k,h,q=>hc i j _ h.1.1 h.1.2 (RW hc h.2 q)
abbrev El (N:Nat)(p:Array Nat):Prop:=∀ x∈p,x<N
theorem El.at {N:Nat}{p:Array Nat}(h:El N p)(h0:0<N)(i:Nat):at' p i<N:=by
 rw[at_of]
 cases e:p[i]? with
 | none=>exact h0
 | some v=>exact h v (Array.mem_of_getElem? e)
theorem El.perm {N:Nat}{p q:Array Nat}(h:El N p)(x:q.Perm p):El N q:=fun v m=>h v (x.mem_iff.mp m)
section
variable {lt:Nat->Nat->Bool}{N:Nat}(h0:0<N)
include h0
theorem CH {p:Array Nat}(h:El N p) : ∀ f n,fY lt N (kas_asc p f n)
 | 0,_=>trivial
 | f+1,n=>by
  refine⟨⟨h.at h0 _,h.at h0 _⟩,?_⟩
  show fY lt N (if lt (at' p n) (at' p (n - 1))=true then KasT.ret n else kas_asc p f (n+1))
  by_cases c:lt (at' p n) (at' p (n - 1))=true
  ·rw[if_pos c]; trivial
  ·rw[if_neg c]; exact CH h f (n+1)
theorem EA {p:Array Nat}{k:Nat}(h:El N p) : ∀ f l r,fY lt N (kas_place p k f l r)
 | 0,_,_=>trivial
 | f+1,l,r=>by
  unfold kas_place
  by_cases c:l ≥ r
  ·rw[if_pos c]; trivial
  ·rw[if_neg c]
   refine⟨⟨h.at h0 _,h.at h0 _⟩,?_⟩
   show fY lt N (if lt (at' p k) (at' p ((l+r) / 2))=true then kas_place p k f l ((l+r) / 2) else kas_place p k f ((l+r) / 2+1) r)
   by_cases d:lt (at' p k) (at' p ((l+r) / 2))=true
   ·rw[if_pos d]; exact EA h f _ _
   ·rw[if_neg d]; exact EA h f _ _
theorem SW : ∀ (f:Nat) (p:Array Nat) (k:Nat),El N p->fY lt N (kas_bin f p k)
 | 0,_,_,_=>trivial
 | f+1,p,k,h=>rV (EA h0 h k 0 k) (SW f _ _ (h.perm (bubble_perm _ _ _)))
theorem yM : ∀ (f:Nat) (p:Array Nat) (n q:Nat),El N p->fY lt N (kas_desc f p n q)/\El N (evT lt (kas_desc f p n q)).1
 | 0,_,_,_,h=>⟨trivial,h⟩
 | f+1,p,n,q,h=>by
  have e:evT lt (kas_desc (f+1) p n q)=evT lt (if lt (at' p n) (at' p (n - 1))=true then(if q > 0 then kas_desc f (kas_rev p (n - (q+1)) n) (n+1) 0 else kas_desc f p (n+1) 0) else KasT.ask (p.getD (n - 1) 0) (p.getD n 0) fun d=>if d=true then .ret (p,n,q) else kas_desc f p (n+1) (q+1)):=rfl
  have g:fY lt N (kas_desc (f+1) p n q)↔(at' p n<N/\at' p (n - 1)<N)/\fY lt N (if lt (at' p n) (at' p (n - 1))=true then(if q > 0 then kas_desc f (kas_rev p (n - (q+1)) n) (n+1) 0 else kas_desc f p (n+1) 0) else KasT.ask (p.getD (n - 1) 0) (p.getD n 0) fun d=>if d=true then .ret (p,n,q) else kas_desc f p (n+1) (q+1)):=Iff.rfl
  rw[g,e]
  by_cases c:lt (at' p n) (at' p (n - 1))=true
  ·rw[if_pos c]
   by_cases hq:q > 0
   ·rw[if_pos hq]
    obtain⟨a,b⟩:=yM f _ (n+1) 0 (h.perm (oG p (n - (q+1)) n))
    exact⟨⟨⟨h.at h0 _,h.at h0 _⟩,a⟩,b⟩
   ·rw[if_neg hq]
    obtain⟨a,b⟩:=yM f _ (n+1) 0 h
    exact⟨⟨⟨h.at h0 _,h.at h0 _⟩,a⟩,b⟩
  ·rw[if_neg c]
   have e2:evT lt (KasT.ask (p.getD (n - 1) 0) (p.getD n 0) fun d=>if d=true then .ret (p,n,q) else kas_desc f p (n+1) (q+1))=evT lt (if lt (at' p (n - 1)) (at' p n)=true then .ret (p,n,q) else kas_desc f p (n+1) (q+1)):=rfl
   have g2:fY lt N (KasT.ask (p.getD (n - 1) 0) (p.getD n 0) fun d=>if d=true then .ret (p,n,q) else kas_desc f p (n+1) (q+1))↔(at' p (n - 1)<N/\at' p n<N)/\fY lt N (if lt (at' p (n - 1)) (at' p n)=true then .ret (p,n,q) else kas_desc f p (n+1) (q+1)):=Iff.rfl
   rw[g2,e2]
   by_cases d:lt (at' p (n - 1)) (at' p n)=true
   ·rw[if_pos d]
    exact⟨⟨⟨h.at h0 _,h.at h0 _⟩,⟨h.at h0 _,h.at h0 _⟩,trivial⟩,h⟩
   ·rw[if_neg d]
    obtain⟨a,b⟩:=yM f _ (n+1) (q+1) h
    exact⟨⟨⟨h.at h0 _,h.at h0 _⟩,⟨h.at h0 _,h.at h0 _⟩,a⟩,b⟩
theorem LK {p:Array Nat}(n m:Nat)(h:El N p):fY lt N (kas_tail3 n m p):=rV (CH h0 (h.perm (oG _ _ _)) _ _) trivial
theorem KD {p:Array Nat}(n m:Nat)(h:El N p):fY lt N (kas_descPart n m p):=by
 obtain⟨a,b⟩:=yM h0 (m - (n+1)) p (n+1) 0 h
 refine rV a ?_
 split
 ·exact LK h0 _ _ (b.perm (oG _ _ _))
 ·exact LK h0 _ _ b
theorem Nc {p:Array Nat}(m:Nat)(h:El N p):fY lt N (kas_count m p):=by
 refine rV (CH h0 h _ _) ?_
 generalize evT lt (kas_asc p (m - 1) 1)=n
 by_cases c:(n == m)=true
 ·rw[if_pos c]; trivial
 ·rw[if_neg c]
  by_cases d:n > 1
  ·rw[if_pos d]
   refine⟨⟨h.at h0 _,h.at h0 _⟩,?_⟩
   show fY lt N (if lt (at' p 0) (at' p (n - 1))=true then KasT.ret (n,p) else kas_descPart n m (kas_rev p 0 n))
   by_cases e:lt (at' p 0) (at' p (n - 1))=true
   ·rw[if_pos e]; trivial
   ·rw[if_neg e]; exact KD h0 _ _ (h.perm (oG _ _ _))
  ·rw[if_neg d]; exact KD h0 _ _ h
end
theorem Li {lt:Nat->Nat->Bool}(O:Ord lt){n:Nat}(h1:1≤n):fY lt n (kas_sort n):=by
 have hs:(jD (dN n)).size=n:=by simp
 have h:El n (jD (dN n)):=fun x m=>by simpa using m
 refine rV (Nc (by omega) n h) ?_
 obtain⟨a1,_⟩:=PF O h1 (by rw[hs]; exact bR _)
 generalize evT lt (kas_count n (jD (dN n)))=r at a1
 split
 ·exact SW (by omega) _ _ _ (h.perm a1)
 ·trivial
theorem Le {lt:Nat->Nat->Bool}(O:Ord lt){n:Nat}(h1:1≤n){cmp:Nat->Nat->(Bool->aH->Prop)->aH->Prop}{s:aH}(hc : ∀ i j (C:Bool->aH->Prop),i<n->j<n->C (lt i j) s->cmp i j C s){G:Array Nat->aH->Prop}
  (h : ∀ p:Array Nat,p.Perm (jD (dN n))->gF lt p n->G p s):(kas_sort n).kasWp cmp G s:=
 RW hc (Li O h1) (h _ (MG O h1).1 (MG O h1).2)
section
variable {prog:bB}{w:aW}{A:cA}{E:aE->aH->Prop}{s:aH}
abbrev VJ (a:aB)(h h':aP):Prop:=∀ b o,b≠a->h.get? b=some o->h'.get? b=some o
noncomputable abbrev iU (h:aP)(a:aB)(vs:List aE):aP:=((h.update a (jB fun _=>#[])).push (kC "tuple" vs.toArray 0)).push (kC "list" #[] 0)
theorem Jl {h:aP}{a:aB}{vs:List aE}:VJ a h (iU h a vs):=fun b o hb e=>
 cN _ (cN _ (((BC h a (jB fun _=>(#[]:Array aE))).2 b hb).trans e))
theorem Lg {a:aB}{vs:List aE}{n:Nat}{κ:SortKind}{lt:Nat->Nat->Bool}{P:HU->aH->Prop}(O:Ord lt)(ho:s.heap.get? a=some (kC "list" vs.toArray n))(h2:2≤vs.length)(h64:vs.length<64)
  (hk : ∀ (Q:SortKind->aH->Prop),Q κ { s with heap:=iU s.heap a vs }->aQ (aT prog w) A (keyKind' vs.toArray) Q E { s with heap:=iU s.heap a vs })
  (hc : ∀ i j (C:Bool->aH->Prop),i<vs.length->j<vs.length->C (lt i j) { s with heap:=iU s.heap a vs }->aQ (aT prog w) A (keyLt' κ (vs.getD i fU) (vs.getD j fU)) C (fun _ _=>False) { s with heap:=iU s.heap a vs })
  (h : ∀ p:Array Nat,p.Perm (jD (dN vs.length))->gF lt p vs.length->P (.done (.ret .none)) { s with heap:=sortedHeap s.heap a vs (jD (p.toList.map fun i=>vs.getD i fU)) }) :
  aQ (aT prog w) A (Builtin.«list.sort» ⟨[.ref a],[]⟩) P E s:=by
 have lz:vs.length≤sizeLine:=by rw[qI]; omega
 have ha:a<s.heap.objs.size:=cG ho
 obtain⟨e1,ho1⟩ : ∃ e,(s.heap.update a (jB fun _=>(#[]:Array aE))).get? a=some (kC "list" #[] e):=⟨_,get?_update_seq ho fun _=>#[]⟩
 have hoM:(iU s.heap a vs).get? a=some (kC "list" #[] e1):=cN _ (cN _ ho1)
 rw[list_sort_plain]
 refine aK (listItems_at ho rfl (aK (listUpdate_at ho rfl (aK (seqEpoch_at ho1 rfl (aK (wpAny_newTuple (aK (HH (iY ?_) (eX _))) (by simpa using lz))))) (by rw[dJ]; exact lz) (eX _))))
 show aQ (aT prog w) A _ P E { s with heap:=iU s.heap a vs }
 dsimp only
 have big : ¬ vs.toArray.size<2:=by rw[dJ]; omega
 rw[if_neg big,if_neg big]
 refine aK (hk _ ?_)
 have eS:SortSt.mk' κ (vs.toArray.zip vs.toArray) #[] 7 none=kas_st κ (pairsOf vs) (jD (dN vs.length)):=by
  have e:=kas_range (pairsOf vs)
  rw[pairsOf_size] at e
  unfold kas_st
  rw[e]
  rfl
 have run:=kas_runs (prog:=prog) (w:=w) (A:=A) (κ:=κ) (it:=pairsOf vs) (E:=E) (s:={ s with heap:=iU s.heap a vs }) (Q:=fun _ st' s'=>s' = { s with heap:=iU s.heap a vs } /\ ∃ p:Array Nat,p.Perm (jD (dN vs.length))/\gF lt p vs.length/\arrOf st'=p.map (kas_item (pairsOf vs))/\failedOf st'=none)
  (G:=fun p s'=>s' = { s with heap:=iU s.heap a vs }/\p.Perm (jD (dN vs.length))/\gF lt p vs.length) h2 h64 (fun p' st' s' a1 a2 a3 ⟨b1,b2,b3⟩=>⟨b1,p',b2,b3,a2,a3⟩)
  (Le O (by omega) (fun i j C hi hj q=>by
   unfold kas_cmp
   rw[kas_item_eq,kas_item_eq]
   exact hc i j C hi hj q) fun p b1 b2=>⟨rfl,b1,b2⟩)
 rw[← eS] at run
 refine aK (iX run ?_ fun _ _ e=>e)
 rintro⟨⟨⟩,st'⟩ s' ⟨rfl,p,b1,b2,har,hf⟩
 dsimp only
 have hout:(arrOf st').map (·.2)=jD (p.toList.map fun i=>vs.getD i fU):=by
  apply BG.mp
  rw[har,Array.map_map,Array.toList_map]
  exact nN fun i _=>congrArg Prod.snd (kas_item_eq vs i)
 have hps:p.size=vs.length:=by
  have:=b1.size_eq
  simpa using this
 have hsz:(jD (p.toList.map fun i=>vs.getD i fU)).size≤sizeLine:=by
  rw[dJ,cL,mI,hps]; exact lz
 rw[hout]
 refine aK (seqEpoch_at hoM rfl (aK (listUpdate_at hoM rfl ?_ (eX _) (UN hsz))))
 rw[hf]
 simp only[bne_self_eq_false,lG,if_false]
 exact bA (h p b1 b2)
end
noncomputable def fW:aA->List Int
 | .int i=>[0,i]
 | .str x=>1::x.cps.toList.map mG
 | _=>[2]
noncomputable def bN (ks:List aA):List (List Int):=ks.map fW
theorem PK (a b:List (List Int))(h:a<b) : ¬ b<a:=List.lt_asymm h
theorem NQ (a b c:List (List Int))(h1 : ¬ b<a)(h2 : ¬ c<b) : ¬ c<a:=by
 have h1:=h1
 have h2:=h2
 exact List.le_trans h1 h2
theorem ED {d e:aA}(h1:(∃ i,d = .int i) \/ ∃ x,d = .str x)(h2:(∃ i,e = .int i) \/ ∃ x,e = .str x)(h:fW d=fW e):d=e:=by
 rcases h1 with⟨i,rfl⟩ | ⟨x,rfl⟩ <;> rcases h2 with⟨j,rfl⟩ | ⟨y,rfl⟩
 ·simp[fW] at h; rw[h]
 ·simp[fW] at h
 ·simp[fW] at h
 ·have h':x.cps.toList.map mG=y.cps.toList.map mG:=by simpa [fW] using h
  have:=(List.map_inj_right (fun a b q=>Int.ofNat.inj q)).mp h'
  have:x=y:=by
   cases x; cases y
   simp only at this
   rw[BG.mp this]
  rw[this]
noncomputable def VX (kss:List (List aA))(i j:Nat):Bool:=decide (bN (kss.getD i [])<bN (kss.getD j []))
theorem Hz (kss:List (List aA)):Ord (VX kss):=by
 refine⟨fun a b h=>?_,fun a b c h1 h2=>?_⟩
 ·have:=PK _ _ (of_decide_eq_true h)
  exact decide_eq_false this
 ·exact decide_eq_false (NQ _ _ _ (of_decide_eq_false h1) (of_decide_eq_false h2))
mutual
theorem Aht.rep {K:aG}{H:Hp} : ∀ (d:aA) {v:V},bF d=true->Aht H d v->Abe K H d v
 | .int i,v,_,h=>Aaq.mpr (by simpa [Aht] using h)
 | .str i,v,k,h=>Aas.mpr ⟨by simpa [Aht] using h,by simpa [bF] using k⟩
 | .tuple ds,v,k,h=>by
  simp only[Aht] at h
  obtain⟨a,xs,e,s,r⟩:=h
  exact Aaw.mpr ⟨a,xs,e,s,Aev.reps ds (by simpa [bF] using k) r⟩
 | .none,v,k,_=>by simp[bF] at k
 | .bool _,v,k,_=>by simp[bF] at k
 | .list _,v,k,_=>by simp[bF] at k
 | .dict _,v,k,_=>by simp[bF] at k
theorem Aev.reps {K:aG}{H:Hp} : ∀ (ds:List aA) {vs:List V},bP ds=true->Aev H ds vs->Aap K H ds vs
 | [],vs,_,h=>Aai.mpr (by simpa [Aev] using h)
 | d::ds,vs,k,h=>by
  have k':bF d=true/\bP ds=true:=by simpa [bP] using k
  simp only[Aev] at h
  obtain⟨x,r,e,h1,h2⟩:=h
  exact Aac.mpr ⟨x,r,e,Aht.rep d k'.1 h1,Aev.reps ds k'.2 h2⟩
end
theorem Air.rep {K:aG}{H:Hp}{ks:List aA}{a:aB}(h:Air H ks a):Abe K H (.tuple ks) (.ref a):=by
 obtain⟨k,_,xs,e,r⟩:=h
 exact Aaw.mpr ⟨a,xs,rfl,e,Aev.reps ks k r⟩
theorem Abe.tupK {K:aG}{H:Hp}{ks:List aA}{v:V}(r:Abe K H (.tuple ks) v)(h1:bP ks=true)(h2:dB ks≤6) : ∃ a,v = .ref a/\Air H ks a:=by
 obtain⟨a,xs,e,s,r⟩:=Aaw.mp r
 exact⟨a,e,h1,h2,xs,s,Aap.keys ks h1 r⟩
noncomputable def jU:List aA->Option (List (List aA))
 | []=>some []
 | .tuple ks::r=>if bP ks=true/\dB ks≤6 then(jU r).bind fun kss=>some (ks::kss) else none
 | _::_=>none
theorem MA : ∀ {ds:List aA} {kss:List (List aA)},jU ds=some kss->ds=kss.map gP /\ ∀ ks∈kss,bP ks=true/\dB ks≤6
 | [],kss,h=>by cases h; exact⟨rfl,fun _ m=>by simp at m⟩
 | .tuple ks::r,kss,h=>by
  by_cases c:bP ks=true/\dB ks≤6
  ·have h':((jU r).bind fun kss=>some (ks::kss))=some kss:=by
    have:(if bP ks=true/\dB ks≤6 then(jU r).bind fun kss=>some (ks::kss) else none)=some kss:=h
    rw[if_pos c] at this
    exact this
   obtain⟨k2,e1,e2⟩:=XBs h'
   cases e2
   obtain⟨q1,q2⟩:=MA e1
   refine⟨by rw[q1]; rfl,fun x m=>?_⟩
   rcases cP.mp m with rfl | m
   ·exact c
   ·exact q2 x m
  ·have:(if bP ks=true/\dB ks≤6 then(jU r).bind fun kss=>some (ks::kss) else none)=some kss:=h
   rw[if_neg c] at this
   cases this
 | .none::_,_,h=>by cases h
 | .bool _::_,_,h=>by cases h
 | .int _::_,_,h=>by cases h
 | .str _::_,_,h=>by cases h
 | .list _::_,_,h=>by cases h
 | .dict _::_,_,h=>by cases h
open PySem PySem.Spec PySem.W PyProof.Rows
noncomputable def dM:List aA->List aA->Bool
 | [],[]=>true
 | .int _::r,.int _::r'=>dM r r'
 | .str _::r,.str _::r'=>dM r r'
 | _,_=>false
theorem yE (i j:Int)(r r':List aA):(bN (.int i::r)<bN (.int j::r'))↔i<j \/ i=j/\bN r<bN r':=by
 show(fW (.int i)::bN r<fW (.int j)::bN r')↔_
 rw[xE]
 simp[fW,xE]
theorem map_lt (xs ys:List Nat):(xs.map mG<ys.map mG)↔xs<ys:=by
 induction xs generalizing ys with
 | nil=>cases ys <;> simp
 | cons x r ih=>
  cases ys with
  | nil=>simp
  | cons y r'=>
   rw[cY,cY,xE,xE,ih]
   have h1:(mG x<mG y)↔x<y:=Int.ofNat_lt
   have h2:(mG x=mG y)↔x=y:=⟨fun e=>Int.ofNat.inj e,fun e=>by rw[e]⟩
   rw[h1,h2]
theorem yK (x y:aD)(r r':List aA):(bN (.str x::r)<bN (.str y::r'))↔x.cps.toList<y.cps.toList \/ x=y/\bN r<bN r':=by
 show(fW (.str x)::bN r<fW (.str y)::bN r')↔_
 rw[xE]
 have h1:(fW (.str x)<fW (.str y))↔x.cps.toList<y.cps.toList:=by
  show((1:Int)::x.cps.toList.map mG<(1:Int)::y.cps.toList.map mG)↔_
  rw[xE,map_lt]
  simp
 have h2:(fW (.str x)=fW (.str y))↔x=y:=⟨fun e=>by
  have:=ED (.inr ⟨x,rfl⟩) (.inr ⟨y,rfl⟩) e
  injection this,fun e=>by rw[e]⟩
 rw[h1,h2]
section
variable {prog:bB}{w:aW}{A:cA}{s:aH}{Q:Bool->aH->Prop}
theorem CU {b:Bool} : ∀ (ks ks':List aA) {vs vs':List aE} {as as':List aB} (i:Nat),dM ks ks'=true->lB s.heap vs ks as->lB s.heap vs' ks' as'->Q (decide (bN ks<bN ks')) s->KatLex prog w A b false Q (vs.zip vs') i s
 | [],[],vs,vs',as,as',i,_,r,r',h=>by
  cases r; cases r'
  exact kat_nil h
 | .int x::ks,.int y::ks',vs,vs',as,as',i,hs,r,r',h=>by
  cases r with
  | cons r1 r2=>
   cases r' with
   | cons r1' r2'=>
    cases r1 with
    | int _ t=>
     cases r1' with
     | int _ u=>
      rw[IF]
      refine kat_cons ((dR prog w).eqBool (vQ _ _ x t) (vQ _ _ y u) ?_)
      refine kat_go (fun e=>kat_yes ?_) fun e=>kat_no ?_
      ·have e':x=y:=by simpa using e
       subst e'
       refine CU ks ks' (i+1) (by simpa [dM] using hs) r2 r2' ?_
       have:decide (bN (.int x::ks)<bN (.int x::ks'))=decide (bN ks<bN ks'):=decide_eq_decide.mpr (by rw[yE]; simp)
       rw[← this]; exact h
      ·have e':x≠y:=by simpa using e
       have:decide (bN (.int x::ks)<bN (.int y::ks'))=decide (x<y):=decide_eq_decide.mpr (by rw[yE]; simp[e'])
       rw[this] at h
       cases(b&&i == 0) with
       | true=>exact oneLt_int h
       | false=>exact kat_one _ _ (lt_int h)
 | .str x::ks,.str y::ks',vs,vs',as,as',i,hs,r,r',h=>by
  cases r with
  | cons r1 r2=>
   cases r' with
   | cons r1' r2'=>
    cases r1 with
    | str _ t=>
     cases r1' with
     | str _ u=>
      rw[IF]
      refine kat_cons ((dR prog w).eqBool (vT _ _ x t) (vT _ _ y u) ?_)
      refine kat_go (fun e=>kat_yes ?_) fun e=>kat_no ?_
      ·have e':x=y:=by simpa using e
       subst e'
       refine CU ks ks' (i+1) (by simpa [dM] using hs) r2 r2' ?_
       have:decide (bN (.str x::ks)<bN (.str x::ks'))=decide (bN ks<bN ks'):=decide_eq_decide.mpr (by rw[yK]; simp[List.lt_irrefl])
       rw[← this]; exact h
      ·have e':x≠y:=by simpa using e
       have:decide (bN (.str x::ks)<bN (.str y::ks'))=decide (x.cps.toList<y.cps.toList):=decide_eq_decide.mpr (by rw[yK]; simp[e'])
       rw[this] at h
       cases(b&&i == 0) with
       | true=>exact oneLt_str h
       | false=>exact kat_one _ _ (lt_str h)
end
noncomputable def lO:List aA->Option String
 | .int _::_=>some "int"
 | .str _::_=>some "str"
 | _=>none
theorem Of {M:Model}{h:aP}{k:List aA}{b:aB}{T:String}(hd:Ag9 h k b)(hk:lO k=some T) :
  ∃ o xs n f,h.get? b=some o/\o.cls = .type "tuple" /\ o.data = .seq xs n/\xs[0]?=some f/\Looks M h (typeOf f) (.type T):=by
 obtain⟨_,_,as,r⟩:=hd
 obtain⟨a,o,xs,n,e,ho,hc,hd,hi⟩:=mZ r
 cases e
 match k,hk,hi with
 | .int i::r,hk,hi=>
  cases hk
  generalize hx:xs.toList=l at hi
  cases hi with
  | cons h1 _=>
   cases h1 with
   | int _ t=>exact⟨o,xs,n,.int i t,ho,hc,hd,by rw[← VH,hx]; rfl,Looks.of_pure rfl⟩
 | .str x::r,hk,hi=>
  cases hk
  generalize hx:xs.toList=l at hi
  cases hi with
  | cons h1 _=>
   cases h1 with
   | str _ t=>exact⟨o,xs,n,.str x t,ho,hc,hd,by rw[← VH,hx]; rfl,Looks.of_pure rfl⟩
abbrev Ahb (h:aP)(vs:List aE)(kss:List (List aA)):Prop:=dI (fun v k=>∃ b,v=dE b/\Ag9 h k b) vs kss
theorem OW {M:Model}{h:aP}{T:String} : ∀ {vs:List aE} {kss:List (List aA)},Ahb h vs kss->(∀ k∈kss,lO k=some T) -> ∃ fs,KatTups h vs fs/\fs.length=vs.length /\ ∀ f∈fs,Looks M h (typeOf f) (.type T)
 | _,_,.nil,_=>⟨[],KatTups.nil,rfl,fun _ m=>by simp at m⟩
 | _,_,.cons ⟨b,e,hd⟩ t,hk=>by
  obtain⟨fs,h1,h2,h3⟩:=OW (M:=M) t fun k m=>hk k (cD _ m)
  obtain⟨o,xs,n,f,q1,q2,q3,q4,q5⟩:=Of (M:=M) hd (hk _ bX)
  subst e
  refine⟨f::fs,KatTups.cons q1 q2 q3 q4 h1,by rw[eE,eE,h2],fun g m=>?_⟩
  rcases cP.mp m with rfl | m
  ·exact q5
  ·exact h3 g m
theorem Ahb.get {h:aP} : ∀ {vs:List aE} {kss:List (List aA)},Ahb h vs kss -> ∀ i,i<vs.length -> ∃ b,vs.getD i fU = .ref b/\Ag9 h (kss.getD i []) b/\kss.getD i []∈kss
 | _,_,.nil,i,hi=>absurd hi (by simp)
 | _,_,.cons ⟨b,e,hd⟩ t,0,_=>⟨b,e,hd,bX⟩
 | _,_,.cons _ t,i+1,hi=>by
  obtain⟨b,q1,q2,q3⟩:=Ahb.get t i (by simpa using hi)
  exact⟨b,by simpa using q1,by simpa using q2,by simpa using cD _ q3⟩
theorem Ahb.keep {h h':aP}(k : ∀ b o,h.get? b=some o->h'.get? b=some o) : ∀ {vs:List aE} {kss:List (List aA)},Ahb h vs kss->Ahb h' vs kss
 | _,_,.nil=>.nil
 | _,_,.cons ⟨b,e,hd⟩ t=>.cons ⟨b,e,hd.keep fun b o _ _ q _ _=>k b o q⟩ (Ahb.keep k t)
theorem yX : ∀ {k k':List aA},dM k k'=true->k.length=k'.length
 | [],[],_=>rfl
 | .int _::r,.int _::r',h=>by rw[eE,eE,yX (by simpa [dM] using h)]
 | .str _::r,.str _::r',h=>by rw[eE,eE,yX (by simpa [dM] using h)]
theorem vC {h:aP} : ∀ {vs:List aE} {ks:List aA} {as:List aB},lB h vs ks as->vs.length=ks.length
 | _,_,_,.nil=>rfl
 | _,_,_,.cons _ t=>by rw[eE,eE,vC t]
section
variable {prog:bB}{w:aW}{A:cA}{E:aE->aH->Prop}{s:aH}
theorem Ni {a:aB}{vs:List aE}{n:Nat}{P:HU->aH->Prop}(ho:s.heap.get? a=some (kC "list" vs.toArray n))(h2:vs.length<2)(h:P (.done (.ret .none)) { s with heap:=sortedHeap s.heap a vs vs.toArray }) :
  aQ (aT prog w) A (Builtin.«list.sort» ⟨[.ref a],[]⟩) P E s:=by
 have lz:vs.length≤sizeLine:=by rw[qI]; omega
 obtain⟨e1,ho1⟩ : ∃ e,(s.heap.update a (jB fun _=>(#[]:Array aE))).get? a=some (kC "list" #[] e):=⟨_,get?_update_seq ho fun _=>#[]⟩
 have hoM:(iU s.heap a vs).get? a=some (kC "list" #[] e1):=cN _ (cN _ ho1)
 rw[list_sort_plain]
 refine aK (listItems_at ho rfl (aK (listUpdate_at ho rfl (aK (seqEpoch_at ho1 rfl (aK (wpAny_newTuple (aK (HH (iY ?_) (eX _))) (by simpa using lz))))) (by rw[dJ]; exact lz) (eX _))))
 show aQ (aT prog w) A _ P E { s with heap:=iU s.heap a vs }
 dsimp only
 have few:vs.toArray.size<2:=by rw[dJ]; exact h2
 rw[if_pos few,if_pos few]
 refine aK (bA ?_)
 rw[StateT.run_pure]
 refine aK (bA ?_)
 dsimp only
 have hout:(arrOf (SortSt.mk' general' (vs.toArray.zip vs.toArray) #[] 7 none)).map (·.2)=vs.toArray:=by
  show(vs.toArray.zip vs.toArray).map (·.2)=vs.toArray
  apply BG.mp
  have : ∀ l:List aE,List.map (fun x=>x.snd) (l.zip l)=l:=fun l=>by
   induction l with
   | nil=>rfl
   | cons a l ih=>rw[IF,cY,ih]
  simpa using this vs
 rw[hout]
 refine aK (seqEpoch_at hoM rfl (aK (listUpdate_at hoM rfl ?_ (eX _) (UN (by rw[dJ]; exact lz)))))
 simp only[bne_self_eq_false,lG,if_false]
 exact bA h
end
theorem CY : ∀ {a b:List aA},dM a b=true->bN a=bN b->a=b
 | [],[],_,_=>rfl
 | .int i::r,.int j::r',h,e=>by
  have h':dM r r'=true:=by simpa [dM] using h
  have e':fW (.int i)=fW (.int j)/\bN r=bN r':=by simpa [bN] using e
  rw[ED (.inl ⟨i,rfl⟩) (.inl ⟨j,rfl⟩) e'.1,CY h' e'.2]
 | .str x::r,.str y::r',h,e=>by
  have h':dM r r'=true:=by simpa [dM] using h
  have e':fW (.str x)=fW (.str y)/\bN r=bN r':=by simpa [bN] using e
  rw[ED (.inr ⟨x,rfl⟩) (.inr ⟨y,rfl⟩) e'.1,CY h' e'.2]
noncomputable def leT (a b:List aA):Bool:=!decide (bN b<bN a)
theorem Ahj {a b:List aA}:leT a b=true ↔ ¬ bN b<bN a:=by simp[leT]
theorem Ak (a b c:List aA)(h1:leT a b=true)(h2:leT b c=true):leT a c=true:=Ahj.mpr (NQ _ _ _ (Ahj.mp h1) (Ahj.mp h2))
theorem Be (a b:List aA):(leT a b||leT b a)=true:=by
 by_cases h:bN b<bN a
 ·have:=PK _ _ h
  simp[leT,h,this]
 ·simp[leT,h]
theorem ML {a b:List aA}(hs:dM a b=true)(h1:leT a b=true)(h2:leT b a=true):a=b:=by
 have h1:=Ahj.mp h1
 have h2:=Ahj.mp h2
 exact CY hs (List.le_antisymm h1 h2)
noncomputable def iA (kss:List (List aA)):List (List aA):=kss.mergeSort leT
noncomputable def sameAll (kss:List (List aA)):Bool:=kss.all fun k=>kss.all fun k'=>dM k k'
noncomputable def okT (kss:List (List aA)):Bool:=decide (kss.length<2)||(sameAll kss&&kss.all fun k=>(lO k).isSome)
theorem vI (kss:List (List aA)):(iA kss).Perm kss:=List.mergeSort_perm kss leT
theorem QU (kss:List (List aA)):(iA kss).Pairwise fun a b=>leT a b=true:=List.pairwise_mergeSort Ak Be kss
theorem NW {kss qs:List (List aA)}(hs:okT kss=true)(hp:qs.Perm kss)(hr:qs.Pairwise fun a b=>leT a b=true):qs=iA kss:=by
 have hp':=hp.trans (vI kss).symm
 by_cases h2:kss.length<2
 ·have l1:qs.length<2:=by rw[hp.length_eq]; exact h2
  match qs,l1,hp' with
  | [],_,hp'=>exact(List.nil_perm.mp hp').symm
  | [q],_,hp'=>exact List.singleton_perm.mp hp'
 ·have hs':sameAll kss=true:=by
   have:(sameAll kss&&kss.all fun k=>(lO k).isSome)=true:=by simpa [okT,h2] using hs
   exact(kM.mp this).1
  refine Pb (fun a b ma mb h1 h2=>ML ?_ h1 h2) hr (QU kss) hp'
  have ma':=hp.mem_iff.mp ma
  have mb':=(vI kss).mem_iff.mp mb
  exact fV.mp (fV.mp hs' a ma') b mb'
theorem same_kind : ∀ {k k':List aA},dM k k'=true->lO k=lO k'
 | [],[],_=>rfl
 | .int _::_,.int _::_,_=>rfl
 | .str _::_,.str _::_,_=>rfl
theorem Jy {k:List aA}{T:String}(h:lO k=some T):T = "int" \/ T = "str":=by
 unfold lO at h
 split at h
 ·cases h; exact .inl rfl
 ·cases h; exact .inr rfl
 ·cases h
section
variable {X:Cx}
abbrev JM (H:Hp)(ys:List V)(kss:List (List aA)):Prop:=dI (fun y k=>∃ b,y=V.ref b/\Air H k b) ys kss
theorem LM {P:bB}{w:aW}{H:Hp}{h:aP}(ok:HOk P w H h) : ∀ {ys:List V} {kss:List (List aA)} {vs:List aE},JM H ys kss->Vals ys vs->Ahb h vs kss
 | _,_,_,.nil,.nil=>.nil
 | _,_,_,.cons ⟨b,e,tk⟩ t,.cons r rr=>by
  subst e
  cases r
  exact .cons ⟨b,rfl,mO ok tk⟩ (LM ok t rr)
noncomputable def YS:List aA->Option aA
 | [.list ds]=>(jU ds).bind fun kss=>if okT kss=true/\kss.length<64 then some (.list ((iA kss).map gP)) else none
 | _=>none
theorem JF : ∀ {ns:List Int} {vs:List aE},Vals (ns.map V.int) vs->IntsAre vs ns
 | [],_,.nil=>.nil
 | n::ns,_,.cons ⟨t,e⟩ r=>by
  subst e
  exact .cons n t (JF r)
noncomputable def lH:List aA->Option (List Int)
 | []=>some []
 | .int i::r=>(lH r).bind fun is=>some (i::is)
 | _::_=>none
theorem LP : ∀ {ds:List aA} {is:List Int},lH ds=some is->ds=is.map aS
 | [],is,e=>by cases e; rfl
 | .int i::ds,is,e=>by
  obtain⟨is',e1,e2⟩:=XBs (show((lH ds).bind fun is=>some (i::is))=some is from e)
  cases e2
  rw[LP e1]
  rfl
 | .none::_,_,e=>by cases e
 | .bool _::_,_,e=>by cases e
 | .str _::_,_,e=>by cases e
 | .list _::_,_,e=>by cases e
 | .tuple _::_,_,e=>by cases e
 | .dict _::_,_,e=>by cases e
theorem RA {K:aG}{H:Hp} : ∀ {is:List Int} {ys:List V},Aap K H (is.map aS) ys->ys=is.map V.int
 | [],ys,r=>Aai.mp r
 | i::is,ys,r=>by
  obtain⟨v,t,rfl,r1,r2⟩:=Aac.mp r
  rw[Aaq.mp r1,RA r2]
  rfl
end
noncomputable def sNo:SF:=fun _=>none
theorem JT {X:Cx}{H0:Hp}{P0:aB->Prop}{n0:Nat}{s:bK}:DS X H0 P0 n0 s sNo:=fun pins st σ H D I q=>by
 obtain⟨B0,ρ,fp,o,S,ef,k⟩:=q
 cases ef
section
variable {X:Cx}{o k:aR}{fo fk:EF}{apos cpos:bL}
theorem PU {K:aG}{H:Hp} : ∀ {ds:List aA} {xs:List V} (n:Nat),Aap K H ds xs->Aap K H (ds.eraseIdx n) (xs.eraseIdx n)
 | [],xs,n,r=>by
  rw[Aai.mp r]
  exact Aai.mpr rfl
 | d::ds,xs,0,r=>by
  obtain⟨v,t,rfl,h1,h2⟩:=Aac.mp r
  exact h2
 | d::ds,xs,n+1,r=>by
  obtain⟨v,t,rfl,h1,h2⟩:=Aac.mp r
  exact Aac.mpr ⟨v,_,rfl,h1,PU n h2⟩
end
section
variable {X:Cx}{H0:Hp}{P0:aB->Prop}{n0:Nat}{e:aR}{f:EF}{x:aD}{px pos apos cpos:bL}{i:Nat}
noncomputable def BN (i:Nat)(m:Md)(f:EF):SF:=fun ρ=>(eV 0 m f ρ).bind fun d=>(getL i ρ).bind fun ds=>match d with
 | .int j=>(ixN ds.length j).bind fun n=>if ds.length≤sizeLine then some (.nx (ρ.set i (some (1,.list (ds.eraseIdx n))))) else none
 | _=>none
theorem YM (i:Nat)(m:Md)(he:DE X e f)(hN:X.N[i]?=some x:=by rfl)(hv:kN X.env.scope x:=by first | exact bE rfl | exact bD (bE rfl) | exact bD (bD rfl))(hd:(x == ("__debug__" : aD))=false:=by decide)
  (hcd:(x == ("__classdict__" : aD))=false:=by decide) (hbase:nG (.Name x px) "pop" X.env (bJ (.Name x px) X.env)=bJ (.Name x px) X.env:=by rfl)
  (hfew:((fD cpos (bI (e::[]) X.env)).all (fun x=>!x.1)&&(tH cpos (sZ [] X.env)).all (fun x=>x.1.isSome)
   && decide ((e::[]).length+([]:List qS).length+(if ([]:List qS).isEmpty then 0 else 1)<30))=true:=by rfl)
  (hline:(apos.endLine == cpos.line)=true:=by rfl) (hs:bI (e::[]) X.env=(false,bJ e X.env)::bI [] X.env:=by rfl) (hplain:(fD cpos (bI [] X.env)).any (·.1)=false:=by rfl)
  (hsw:lY (.Call (.Attribute (.Name x px) "pop" apos) [e] [] cpos) none pos.line X.env=pure false:=by rfl):DS X H0 P0 n0 (.Expr (.Call (.Attribute (.Name x px) "pop" apos) [e] [] cpos) pos) (BN i m f):=
 PS.imp (oE (rG HV PySem.F.slot_list_pop PySem.F.type_list_pop ZX (mU hN hv hd hcd) (fP (ev m he) iN hs) hbase hfew hline hs hplain) hsw) fun D σ H gh=>by
  obtain⟨B0,ρ,fp,o,S,ef,k⟩:=gh
  obtain⟨d,e1,ef2⟩:=XBs ef
  obtain⟨ds,e2,ef3⟩:=XBs ef2
  cases d with
  | int j=>
   obtain⟨n,e4,ef4⟩:=XBs (show((ixN ds.length j).bind fun n=>if ds.length≤sizeLine then some (Out.nx (ρ.set i (some (1,.list (ds.eraseIdx n))))) else none)=some o from ef3)
   obtain⟨lz,rfl⟩:=cX ef4
   obtain⟨p,xs,h1,h2,_,_⟩:=S.lst1 (sC e2)
   refine⟨.ref p,h1,.inl ⟨rfl,xs,SqL.of h2⟩,B0,ρ,fp,.int j,S,e1,fun v H2 gh=>?_⟩
   obtain⟨fp2,S2,r2⟩:=gh
   obtain⟨p2,xs2,q1,q2,q3,q4⟩:=S2.lst1 (sC e2)
   have:p2=p:=by rw[h1] at q1; cases q1; rfl
   subst this
   obtain⟨s1,s2,s3,s4⟩:=DV e4
   have hl:=q3.length
   have hz:xs2.length≤sizeLine:=by rw[hl]; exact lz
   have hn:=pM
   have hy:xs2[n]?=some xs2[n]:=iP (by omega)
   exact⟨p2,xs2,j,n,xs2[n],rfl,by rw[Aaq.mp r2.2],q2,by omega,by omega,by rw[hl]; exact s1,hy,k _ _ fp2 (q4 _ _ (PU n q3))⟩
  | _=>cases ef3
end
theorem ME:AK (.type "tuple") "__rmul__" = pure (some (.builtin "tuple.__rmul__")):=by rw[typeLookup_type,TN]; kernel_rfl
theorem Ef:fillsNumberSlot (.type "tuple") "mul" = pure false:=
 PySem.fillsNumberSlot_seq AU.lookup (by decide +kernel) ME (by decide +kernel)
theorem Dg:seqRepeat? (.type "tuple")=pure (some (.builtin "tuple.__mul__")):=by
 unfold seqRepeat?
 rw[PySem.seqSlot_of (T:="tuple") (name:="__mul__") (id:="tuple.__mul__") AU.lookup (by decide +kernel),PySem.seqSlot_of (T:="tuple") (name:="__rmul__") (id:="tuple.__rmul__") ME (by decide +kernel)]
 rfl
theorem Fy (a:Int)(t:Tok)(l:aB)(items:Array aE)(n:Nat)(dd:Option aB)(sl:Array (Option aE)) :
  Meets (Builtin.«int.__rmul__» ⟨[.int a t,.ref l],[]⟩) (fun _ R s=>s.heap.get? l=some { cls:=.type "tuple",dict:=dd,data:=.seq items n,slots:=sl }/\R (.ok (.ret Value.notImplemented)) s):=
 .of_wp fun prog w A R s h=>by obtain⟨hp,g,d,tk,os⟩:=s; obtain⟨hl,h⟩:=h; wp_walk; exact⟨_,rfl,h⟩
theorem Oe (l:aB)(items:Array aE)(n:Nat)(dd:Option aB)(sl:Array (Option aE))(x:Int)(u:Tok)(hlo:0≤x+1000)(hhi:x<1000000)(hc:(items.isEmpty||x == 1)=true) :
  Meets (Builtin.«tuple.__mul__» ⟨[.ref l,.int x u],[]⟩) (fun _ R s=>s.heap.get? l=some { cls:=.type "tuple",dict:=dd,data:=.seq items n,slots:=sl }/\R (.ok (.ret (.ref l))) s):=
 .of_wp fun prog w A R s h=>by
  obtain⟨hp,g,d,tk,os⟩:=s
  obtain⟨hl,h⟩:=h
  have f1:=VG
  have f2:=VF
  wp_walk using tT hl
  refine sT (fun hab=>absurd hab (by simp; omega)) (fun _=>?_)
  wp_walk using tT hl
  exact⟨_,rfl,h⟩
theorem Nh (l:aB)(items:Array aE)(n:Nat)(dd:Option aB)(sl:Array (Option aE))(x:Int)(u:Tok)(hlo:0≤x+1000)(hhi:x<1000000)(hc : ¬ (items.isEmpty||x == 1)=true)(hx:(decide (x≤0)||items.isEmpty)=true) :
  Meets (Builtin.«tuple.__mul__» ⟨[.ref l,.int x u],[]⟩) (fun _ R s=>s.heap.get? l=some { cls:=.type "tuple",dict:=dd,data:=.seq items n,slots:=sl }/\R (.ok (.ret (.ref s.heap.objs.size))) { s with heap:=s.heap.push { cls:=.type "tuple",data:=.seq #[] } }):=
 .of_wp fun prog w A R s h=>by
  obtain⟨hp,g,d,tk,os⟩:=s
  obtain⟨hl,h⟩:=h
  have f1:=VG
  have f2:=VF
  wp_walk using tT hl
  refine sT (fun hab=>absurd hab (by simp; omega)) (fun _=>?_)
  wp_walk using tT hl
  exact⟨_,rfl,h⟩
theorem Mw (l:aB)(items:Array aE)(n:Nat)(dd:Option aB)(sl:Array (Option aE))(x:Int)(u:Tok)(hlo:0≤x+1000)(hhi:x<1000000)(hc : ¬ (items.isEmpty||x == 1)=true)(hx : ¬ (decide (x≤0)||items.isEmpty)=true)
  (h3:(items.size:Int)*x≤1000000) (hsz:(IH (· ++ ·) #[] (eA x.toNat items)).size≤sizeLine) :
  Meets (Builtin.«tuple.__mul__» ⟨[.ref l,.int x u],[]⟩) (fun _ R s=>s.heap.get? l=some { cls:=.type "tuple",dict:=dd,data:=.seq items n,slots:=sl }/\R (.ok (.ret (.ref s.heap.objs.size))) { s with heap:=s.heap.push { cls:=.type "tuple",data:=.seq (IH (· ++ ·) #[] (eA x.toNat items)) } }):=
 .of_wp fun prog w A R s h=>by
  obtain⟨hp,g,d,tk,os⟩:=s
  obtain⟨hl,h⟩:=h
  have f1:=VG
  have f2:=VF
  wp_walk using tT hl
  refine sT (fun hab=>absurd hab (by simp; omega)) (fun _=>?_)
  wp_walk using tT hl
  refine sT (fun hab=>absurd hab (by omega)) (fun _=>?_)
  refine sT (fun hab=>absurd hab (by simp[Builtin.Tuple.tupleTooMany,sizeLine]; omega)) (fun _=>?_)
  wp_walk using tT hl
  exact⟨_,rfl,h⟩
theorem MH : ∀ (n:Nat) (acc its:Array aE),(IH (· ++ ·) acc (eA n its)).toList=acc.toList++(eA n its.toList).flatten
 | 0,acc,its=>by simp
 | n+1,acc,its=>by
  rw[tM,xB,MH n (acc++its) its,tM,jE,Array.toList_append,List.append_assoc]
theorem MC {xs:List V}{us:List aE}(r:Vals xs us) : ∀ n:Nat,Vals (eA n xs).flatten (eA n us).flatten
 | 0=>.nil
 | n+1=>by
  rw[tM,tM,jE,jE]
  exact r.append (MC r n)
theorem MV {K:aG}{H:Hp}{ds:List aA}{xs:List V}(r:Aap K H ds xs) : ∀ n:Nat,Aap K H (eA n ds).flatten (eA n xs).flatten
 | 0=>Aai.mpr rfl
 | n+1=>by
  rw[tM,tM,jE,jE]
  exact r.append (MV r n)
theorem EU {α:Type}(xs:List α)(n:Nat):(eA n xs).flatten.length=n*xs.length:=by
 induction n with
 | zero=>simp
 | succ n ih=>rw[tM,jE,wX,ih]; rw[Nat.succ_mul]; omega
section
variable {X:Cx}{a b:aR}{fa fb:EF}{pos:bL}
noncomputable def RN (K:aG):R2:=fun x y H Q=>∃ a xs n,x = .ref a/\y = .int n/\SqT K H a xs /\ -1000≤n/\n<1000000/\xs.length*n.toNat≤1000000 /\
 ((xs=[] \/ n=1)->Q (.ref a) H)/\(¬ (xs=[] \/ n=1) -> ∀ p,H p=none->Q (.ref p) (upd H p (.tup (eA n.toNat xs).flatten)))
theorem Iw:OpR X (iZ .Mult) (RN X.K):=by
 intro pins s σ H x y v u Q I rx ry h
 obtain⟨a,xs,n,rfl,rfl,ha,hlo,hhi,hz,q1,q2⟩:=h
 cases rx
 obtain⟨t,rfl⟩:=ry
 obtain⟨its,r1,p1,_⟩:=I.tuple ha
 have hl:=r1.length
 obtain⟨⟨cls,dd,data,sl⟩,ho,hc,m,hd⟩:=p1
 simp only at hc hd
 subst hc hd
 have go : ∀ {Q1 E1:aE->aH->Prop},aQ (aT X.prog X.w) X.A (call (.builtin "tuple.__mul__") [.ref a,.int n t]) Q1 E1 s->aQ (aT X.prog X.w) X.A (iZ .Mult (.ref a) (.int n t)) Q1 E1 s:=fun h=>
  wpAny_binaryOp_repeat_ref (by decide) ⟨_,ho,rfl⟩ (fun s'=>typeIs_int s' n t) Ef PySem.F.fills_int_mul PySem.F.slot_int_rmul Dg PySem.F.slot_int_index.lookup
   (qL PySem.F.slot_int_rmul (typeIs_int s n t) PySem.F.entry_int_rmul (PySem.F.args_int_rmul_2 _ _) (Fy n t a its.toArray m dd sl) ⟨ho,rfl,⟨_,ho,rfl⟩,h⟩)
 refine go ?_
 have ee:its.toArray.isEmpty=decide (xs=[]):=by
  cases its with
  | nil=>
   have:xs=[]:=by simpa using hl
   subst this; rfl
  | cons i r=>
   have:xs≠[]:=fun e=>by rw[e] at hl; simp at hl
   simp[this]
 have e1:(n == 1)=decide (n=1):=by
  rw[Bool.eq_iff_iff]
  simp
 by_cases c:xs=[] \/ n=1
 ·exact qL AU ⟨_,ho,rfl⟩ UF (UG _ _) (Oe a its.toArray m dd sl n t (by omega) (by omega) (by rw[ee,e1]; simpa using c)) ⟨ho,⟨.ref a,H,I,rfl,q1 c⟩⟩
 ·have nc : ¬ (its.toArray.isEmpty||n == 1)=true:=by rw[ee,e1]; simpa using c
  have hx:xs≠[]:=fun e=>c (.inl e)
  by_cases h0:n≤0
  ·refine qL AU ⟨_,ho,rfl⟩ UF (UG _ _) (Nh a its.toArray m dd sl n t (by omega) (by omega) nc (by simp[h0])) ⟨ho,?_⟩
   have en:(eA n.toNat xs).flatten=[]:=by
    rw[show n.toNat=0 by omega]
    rfl
   have:=q2 c _ (I.hok.fresh (bR s.heap.objs.size))
   rw[en] at this
   exact⟨.ref s.heap.objs.size,_,I.laid (fun b ob q=>cN _ q) (bR _) (show Aci X.prog X.w _ _ _ (.tup []) from⟨eX _,[],.nil,A7o.new _ _⟩),rfl,this⟩
  ·have sz:(eA n.toNat its).flatten.length≤1000000:=by
    rw[EU,Nat.mul_comm,← hl]
    exact hz
   have l2:1000000≤sizeLine:=by rw[qI]; omega
   have ea:(IH (· ++ ·) #[] (eA n.toNat its.toArray))=(eA n.toNat its).flatten.toArray:=by
    apply BG.mp
    rw[MH]
    simp
   refine qL AU ⟨_,ho,rfl⟩ UF (UG _ _) (Mw a its.toArray m dd sl n t (by omega) (by omega) nc (by rw[ee]; simp[h0,hx]) ?_ (by rw[ea,dJ]; omega)) ⟨ho,?_⟩
   ·rw[dJ,← hl]
    have:(n.toNat:Int)=n:=by omega
    rw[← this,← Int.natCast_mul]
    omega
   ·rw[ea]
    refine⟨.ref s.heap.objs.size,_,I.laid (fun b ob q=>cN _ q) (bR _) (show Aci X.prog X.w _ _ _ (.tup _) from⟨by rw[EU,Nat.mul_comm]; omega,_,MC r1 _,A7o.new _ _⟩),rfl,q2 c _ (I.hok.fresh (bR _))⟩
noncomputable def rF:aA->aA->Option aA
 | .tuple xs,.int n=>if -1000≤n/\n<1000000/\xs.length*n.toNat≤1000000 then some (.tuple (eA n.toNat xs).flatten) else none
 | _,_=>none
theorem Ms {K:aG}:OpD K 0 (RN K) rF:=fun P H x y a b d Q hP ra rb e k=>by
 unfold rF at e
 split at e
 ·rename_i zs n
  obtain⟨hc,rfl⟩:=cX e
  obtain⟨p,us,rfl,hp,r1⟩:=Aaw.mp ra
  have l1:=r1.length
  refine⟨p,us,n,rfl,Aaq.mp rb,SqT.of (Aay _ _ hp),hc.1,hc.2.1,by rw[l1]; exact hc.2.2,fun c=>?_,fun c q hq=>k.tup hP hq (MV r1 _)⟩
  rcases c with c | c
  ·subst c
   have:zs=[]:=by simpa using l1.symm
   subst this
   have en:(eA n.toNat ([]:List aA)).flatten=[]:=by
    apply xD
    rw[EU]
    simp
   rw[en] at k
   exact k.zero Ext.refl ra
  ·subst c
   refine k.zero Ext.refl ?_
   rw[show(1:Int).toNat=1 from rfl,List.replicate_one,jE,List.flatten_nil,tP]
   exact ra
 ·cases e
theorem Ld (ha:DE X a fa)(hb:DE X b fb):DE X (.BinOp a .Mult b pos) (eOp rF fa fb):=pG Iw Ms ha hb
end
noncomputable def CXR (base:aP)(P:bB)(w:aW):CXT:=fun outer H s E e s'=>∃ (ea:aB) (cls a0:aE) (H':Hp) (B:aP),e = .ref ea/\s'.os=s.os/\nO s'.gens/\Un (frs outer) [] H H' s.heap s'.heap/\HOk P w H' s'.heap /\
 base.StaysIn B/\(∀ b u,s.heap.get? b=some u->b∉frs outer -> ∃ u',B.get? b=some u')/\(∀ b o,H' b=some o -> ∃ u,B.get? b=some u)/\Heap.FlyingW B outer ea cls a0 s'.heap/\E cls none H'
noncomputable def EC (K:aG)(c:aD)(H:Hp):XK:=fun cls _ H'=>dP K c=some cls/\Ext H H'
theorem CXR.imp {base:aP}{P:bB}{w:aW}{outer:List dW}{H:Hp}{s s':aH}{E E':XK}{e:aE}(h:CXR base P w outer H s E e s')(k : ∀ cls H',E cls none H'->E' cls none H'):CXR base P w outer H s E' e s':=by
 obtain⟨ea,cls,a0,H',B,h1,h2,h3,h4,h5,h6,h7,h8,h9,q⟩:=h
 exact⟨ea,cls,a0,H',B,h1,h2,h3,h4,h5,h6,h7,h8,h9,k _ _ q⟩
structure XOk (X:Cx)(H:Hp)(c:aD):Prop where
 pass:Passes (CXR X.base X.prog X.w) X (EC X.K c H)
 made : ∀ {cls:aE} {pins:List (aB×aY)} {σ:St} {H1:Hp} {s1:aH} {h':aP} {e:aB} {args:List aE},dP X.K c=some cls->Inv X pins σ H1 s1->Ext H H1->Heap.MadeExcOf s1.heap h' e cls args->X.xe (.ref e) { s1 with heap:=h' }
theorem Aci.here {P:bB}{w:aW}{H:Hp}{h:aP}{a:aB}{o:HO}(x:Aci P w H h a o) : ∃ u,h.get? a=some u:=by
 cases o with
 | lst xs=>obtain⟨_,_,_,_,e⟩:=x; exact⟨_,e⟩
 | tup xs=>obtain⟨_,_,_,_,ob,e,_⟩:=x; exact⟨ob,e⟩
 | dK ep kvs=>obtain⟨_,_,_,_,o,_,e,_⟩:=x; exact⟨_,e⟩
 | dT ep kvs=>obtain⟨_,_,_,_,o,_,e,_⟩:=x; exact⟨_,e⟩
 | set S n=>obtain⟨o,_,_,_,e,_⟩:=x; exact⟨_,e⟩
 | ins C dx fs=>obtain⟨_,_,_,e,_⟩:=x; exact⟨_,e⟩
 | own y=>exact x
 | xd fs=>obtain⟨_,⟨_,_,_,e,_⟩,_⟩:=x; exact⟨_,e⟩
 | rng lo hi=>obtain⟨_,_,_,e⟩:=x; exact⟨_,e⟩
 | frz ob u=>obtain⟨e,_⟩:=x; exact⟨_,e⟩
 | tbl ps=>exact⟨_,show h.get? a=some _ from x⟩
 | met f y=>exact⟨_,show h.get? a=some _ from x⟩
 | ext φ=>obtain⟨_,e,_⟩:=x; exact e
theorem MX {B h:aP}{b:aB}{u u':aY}(k:B.StaysIn h)(e:B.get? b=some u')(q:h.get? b=some u):u'=u:=dZ ((k b u' e).symm.trans q)
section
variable {P:bB}{w:aW}{K:aG}{mg:aD->Option aE}{base:aP}{N:List aD}{qual:aD}{scope:gN}{f:aB}{cd:aE}{A:cA}{outer:List dW}{s:aH}{H:Hp}{E:XK}
theorem SD {pins:List (aB×aY)}{σ:St}{H':Hp}{s':aH}{h'' B:aP}{ea:aB}{cls a0:aE}
  (I:Inv (iI (CXR base P w) P w K mg base N qual scope f cd A outer s H E) pins σ H' s') (hin : ∀ b u,s.heap.get? b=some u->b∉frs outer -> ∃ u',B.get? b=some u') (hT : ∀ b o,H' b=some o -> ∃ u,B.get? b=some u)
  (f1:B.StaysIn s'.heap) (f2:Heap.FlyingW B outer ea cls a0 h'') (up:s'.heap.UpToSlots h'') (hb:base.StaysIn B) (q:E cls none H'):CXR base P w outer H s E (.ref ea) { s' with heap:=h'' }:=by
 have f3:=f2.1
 have U:Un (frs outer) [] H H' s.heap s'.heap:=I.base
 have fr : ∀ b∈frs outer,∃ o,s'.heap.get? b=some o /\ ∀ vs,o.data ≠ .fields vs:=fun b m=>(I.funs.mem m).2
 refine⟨ea,cls,a0,H',B,rfl,I.os,I.bare,⟨fun b o e n hb he=>?_,fun b o e n hb he=>?_,U.free,fun b o e he=>?_,U.tups,U.frzs,U.tbls⟩,fun a o e=>?_,hb,hin,hT,f2,q⟩
 ·have z:=U.keep b o e n hb he
  obtain⟨u',z2⟩:=hin b o e hb
  exact f3 b o (MX f1 z2 z ▸ z2)
 ·obtain⟨sl,z⟩:=U.slot b o e n hb he
  obtain⟨o2,z2,nf⟩:=fr b hb
  obtain⟨sl2,z3⟩:=up b o2 z2 nf
  have:o2 = { o with slots:=sl }:=dZ (z2.symm.trans z)
  exact⟨sl2,by rw[z3,this]⟩
 ·by_cases hb:b∈frs outer
  ·obtain⟨o2,z2,nf⟩:=fr b hb
   obtain⟨sl2,z3⟩:=up b o2 z2 nf
   exact⟨_,z3⟩
  ·obtain⟨u',z2⟩:=hin b o e hb
   exact⟨u',f3 b u' z2⟩
 ·refine(I.hok a o e).stay (fun b u hb q=>?_) (fun _ q=>q) fun _ _ q=>q
  have ht : ∃ o2,H' b=some o2:=by
   rcases hb with rfl | hb
   ·exact⟨o,e⟩
   ·exact⟨_,hb⟩
  obtain⟨o2,ht⟩:=ht
  obtain⟨u',z2⟩:=hT b o2 ht
  exact f3 b u (MX f1 z2 q ▸ z2)
theorem QI {X:Cx}{pins:List (aB×aY)}{σ:St}{H1:Hp}{s1:aH}(I:Inv X pins σ H1 s1){b:aB}{u:aY}(e:X.s₀.heap.get? b=some u)(n:b∉X.fs):b∉frs X.stack:=fun m=>by
 rcases cP.mp (I.stkSub b m) with z | z
 ·exact absurd (gQ (cG e) I.ok.above) (by rw[z]; exact kK _)
 ·exact n z
theorem Oi:Passes (CXR base P w) (iI (CXR base P w) P w K mg base N qual scope f cd A outer s H E) E:=fun pins σ H1 s1 e s' I h=>by
 obtain⟨ea,cls,a0,H',B,rfl,os,bare,un,hok,hb,hB,hT,fl,q⟩:=h
 have I':=I.call' (ch:=[]) os un hok bare (fun _ z=>nomatch z)
 refine wpAny_leaves_onW (base:=B) (env:=gW qual scope s.heap.objs.size f cd) (outer:=outer) (L:=s.heap.objs.size) I.ok.frames rfl fl fun h'' fl'' up=>?_
 refine SD I' (fun b u e n=>?_) hT fl.1 fl'' up hb q
 obtain⟨o',z⟩:=I.base.there b u e (by show b∉[]; simp)
 exact hB b o' z (QI I e n)
theorem Nf {cls:aE}{pins:List (aB×aY)}{σ:St}{H1:Hp}{s1:aH}{h':aP}{e:aB}{args:List aE}(I:Inv (iI (CXR base P w) P w K mg base N qual scope f cd A outer s H E) pins σ H1 s1)(m:Heap.MadeExcOf s1.heap h' e cls args)(q:E cls none H1) :
  (iI (CXR base P w) P w K mg base N qual scope f cd A outer s H E).xe (.ref e) { s1 with heap:=h' }:=by
 have I':=I.kept (t':=s1.toks) m.keeps
 have hin : ∀ env∈(gW qual scope s.heap.objs.size f cd::outer),∀ b,env.frame=some b->b∈frs (gW qual scope s.heap.objs.size f cd::outer):=fun env he b hb=>UQ.mpr ⟨env,he,hb⟩
 have hl:s1.heap.FunFrames base (gW qual scope s.heap.objs.size f cd::outer):=I.stack
 refine wpAny_leaves_madeW (base:=PySem.W.hideAll s1.heap (frs (gW qual scope s.heap.objs.size f cd::outer))) (h:=s1.heap) (env:=gW qual scope s.heap.objs.size f cd) (outer:=outer) (L:=s.heap.objs.size) I.ok.frames rfl (fun b o q=>TV _ q) (PySem.W.funFrames_hide hl hin) m fun h'' t fl tup hnt up=>?_
 refine SD I' (fun b u e n=>?_) (fun b o e=>?_) (fun b o e=>m.keeps b o (TV _ e)) fl up (fun b o e=>?_) q
 ·obtain⟨o',z⟩:=I.base.there b u e (by show b∉[]; simp)
  exact⟨o',HQ _ z (QI I e n)⟩
 ·have hn:b∉frs (gW qual scope s.heap.objs.size f cd::outer):=fun z=>by
   have:=I.stkFree b z
   rw[e] at this
   cases this
  obtain⟨u,hg⟩:=(I.hok b o e).here
  exact⟨u,HQ _ hg hn⟩
 ·refine HQ _ (I.bk b o e) fun z=>?_
  have:=(hl.mem z).1
  rw[e] at this
  cases this
theorem LA {c:aD}(q : ∀ cls H',dP K c=some cls->Ext H H'->E cls none H'):XOk (iI (CXR base P w) P w K mg base N qual scope f cd A outer s H E) H c:=
 ⟨fun pins σ H1 s1 e s' I h=>Oi pins σ H1 s1 e s' I (h.imp fun cls H' z=>q cls H' z.1 z.2),fun hc I x m=>Nf I m (q _ _ hc x)⟩
end
abbrev FX:=Option aD->List aA->Option aA
noncomputable def spX (K:aG)(n0:Nat)(F:FX):Sp:=fun vs H Q E=>∃ P ds d z,Hid P H/\Aap K (hid H P) ds vs/\F z ds=some d/\Res K P n0 d H Q /\ ∀ c,z=some c -> ∀ cls H',dP K c=some cls->Ext H H'->E cls none H'
noncomputable def rsD (c:aD):aA:=.dict [(.none,.str c),(.none,.bool true)]
noncomputable def isR:aA->Bool
 | .dict [(.none,.str _),(.none,.bool true)]=>true
 | _=>false
structure DefX (P:bB)(w:aW)(K:aG)(mg:aD->Option aE)(base:aP)(x:aD)(k:Nat)(ps:List aD)(sp:Sp):Prop where
 ex : ∃ f fd,FnOk P w K mg base (CXR base P w) k f fd ps sp/\mg x=some (.ref f)/\kH K (.ref f)=true/\Binds K fd ps []
section
variable {P:bB}{w:aW}{K:aG}{mg:aD->Option aE}{base:aP}
theorem Fun.okX {CX:CXT}{x qual:aD}{st:bK}{f:aB}{fd:eM}{N ps:List aD}{k:Nat}{sp:Sp}(F:Fun K x qual st f fd)(S:FnScope N ps (bQ st))(len : ∀ vs H Q E,sp vs H Q E->vs.length=ps.length)
  (hb : ∀ (cdv:aE) (A:cA) (outer:List dW) (s:aH) (H:Hp) (vs:List V) (Q:VK) (E:XK),Room k (A.deeper (gW qual (bQ st) s.heap.objs.size f cdv))->sp vs H Q E ->
   ∃ t,PSs (iI CX P w K mg base N qual (bQ st) f cdv A outer s H E) (hJ st) t/\t { nx:=fun _ H'=>Q .non H',rt:=Q } (start N vs) H):FnOk P w K mg base CX (k+1) f fd ps sp:=by
 obtain⟨oc,od,kV,doc,pm,an,cdv,ct,osl,rfl,lk,hcd⟩:=F.ex
 exact JP lk hcd S len fun A outer s H vs Q E hr hsp=>hb cdv A outer s H vs Q E hr hsp
theorem Ko {N:List aD}{np n0:Nat}{body:SF}{H:Hp}{P0:aB->Prop}{vs:List V}{ds:List aA}{d:aA}{Q:VK}(hP:Hid P0 H)(r:Aap K (hid H P0) ds vs)(ef:fnD np N.length body ds=some d)(k:Res K P0 n0 d H Q) :
  tS K H P0 n0 body { nx:=fun _ H'=>Q .non H',rt:=Q } (start N vs) H:=by
 unfold fnD at ef
 by_cases hl:ds.length=np
 case neg=>rw[if_neg hl] at ef; cases ef
 rw[if_pos hl] at ef
 rw[← hl] at ef
 have hlen:=r.length
 have eH:Hd P0 (fun _=>[])=P0:=by
  funext a
  simp[Hd]
 have S0:Sta K H P0 (hid H P0) (ds.map (fun d=>some (0,d))++eA (N.length - ds.length) none) (start N vs) H (fun _=>[]):=by
  refine⟨by simp[start,hlen],fun _=>.nil,fun i j a h=>by simp at h,fun i a h=>by simp at h,Ext.refl,hP,by rw[eH]; exact Ext.refl,fun i n' d' e=>?_⟩
  rw[eH]
  by_cases hi:i<ds.length
  ·rw[AY (by simpa using hi),eY] at e
   cases q:ds[i]? with
   | none=>rw[q] at e; simp at e
   | some d2=>
    rw[q] at e
    have e':0=n'/\d2=d':=by simpa using e
    obtain⟨rfl,rfl⟩:=e'
    obtain⟨v,h1,h2⟩:=r.get q
    refine⟨v,?_,rfl,h2⟩
    unfold start
    rw[AY (by rw[cL,hlen]; exact hi),eY,h1]
    rfl
  ·rw[US (by simpa using hi)] at e
   have:=nL e
   simp at this
 cases eb:body (ds.map (fun d=>some (0,d))++eA (N.length - ds.length) none) with
 | none=>rw[eb] at ef; cases ef
 | some o=>
  rw[eb] at ef
  refine⟨_,_,_,o,S0,eb,?_⟩
  cases o with
  | rt d'=>
   cases ef
   exact fun v H' ⟨Fr,h1,h2,h3,h4⟩=>k v H' Fr h1 h2 h3 h4
  | nx ρ'=>
   cases ef
   intro σ' H' fp' S'
   refine k .non H' [] S'.ext .nil (fun a m=>by simp at m) ?_
   cases n0 with
   | zero=>exact⟨rfl,Acd.mpr rfl⟩
   | succ n=>
    unfold Aed
    split
    ·exact .inl ⟨rfl,rfl,rfl⟩
    ·exact⟨rfl,Acd.mpr rfl⟩
  | bk _=>cases ef
  | ct _=>cases ef
theorem nT {x qual:aD}{st:bK}{f:aB}{fd:eM}{N ps:List aD}{k n0 np:Nat}{body:Option aD->SF}(F:Fun K x qual st f fd)(S:FnScope N ps (bQ st))(hnp:np=ps.length)(hN:ps.length≤N.length)
  (hb : ∀ (cdv:aE) (A:cA) (outer:List dW) (s:aH) (H:Hp) (E:XK) (P0:aB->Prop) (z:Option aD),Room k (A.deeper (gW qual (bQ st) s.heap.objs.size f cdv))->(∀ c,z=some c->XOk (iI (CXR base P w) P w K mg base N qual (bQ st) f cdv A outer s H E) H c) ->
   DSs (iI (CXR base P w) P w K mg base N qual (bQ st) f cdv A outer s H E) H P0 n0 (hJ st) (body z)) :
  FnOk P w K mg base (CXR base P w) (k+1) f fd ps (spX K n0 fun z=>fnD np N.length (body z)):=by
 refine F.okX S (fun vs H Q E h=>?_) (fun cdv A outer s H vs Q E hr h=>?_)
 ·obtain⟨P,ds,d,z,_,r,ef,_⟩:=h
  have ef:fnD np N.length (body z) ds=some d:=ef
  unfold fnD at ef
  by_cases hl:ds.length=np
  ·rw[r.length,hl,hnp]
  ·rw[if_neg hl] at ef; cases ef
 ·obtain⟨P0,ds,d,z,hP,r,ef,k,kx⟩:=h
  exact⟨_,hb cdv A outer s H E P0 z hr fun c hc=>LA (kx c hc),Ko hP r ef k⟩
variable {X:Cx}{x:aD}{k n0 np:Nat}{ps:List aD}{F:FX}{e:aR}{es:List aR}{fa:AF}{p pos:bL}
theorem Mc {sp:Sp}{E:XK}{t:TA}(D:DefX X.prog X.w X.K X.mg X.base x k ps sp)(hr:Room k X.A)(hg:Gl X x)(hx:Passes (CXR X.base X.prog X.w) X E)(ha:PA X (e::es) t)(hdb:(x == ("__debug__" : aD))=false:=by decide)(he:bI (e::es) X.env=(false,bJ e X.env)::bI es X.env:=by rfl)
  (hpl:(fD pos (bI es X.env)).any (·.1)=false:=by rfl):PE X (.Call (.Name x p) (e::es) [] pos) (zX sp [] E t):=by
 obtain⟨f,fd,F,hm,hk,hb⟩:=D.ex
 exact LO F hr hg hm hk hb .nil hx ha hdb he hpl
end
theorem Im {d:aA}(h:isR d=true) : ∃ c,d=rsD c:=by
 unfold isR at h
 split at h
 ·exact⟨_,rfl⟩
 ·cases h
theorem Ir {k:aL}(e:PyData.none=kD k):False:=by cases k <;> cases e
theorem SE {K:aG}{B H:Hp}{n:Nat}{c:aD}{v:V}{F:List aB} : ¬ Aed K B H n (rsD c) v F:=fun h=>by
 have hD : ¬ Abe K B (rsD c) v:=fun r=>by
  obtain⟨a,e,⟨kvs,_,r⟩ | ⟨ts,_,r⟩ | ⟨xs,h,r⟩ | r⟩:=Abz.mp r
  ·obtain⟨k',_,_,_,ek,_⟩:=Aaz.mp r
   cases k' <;> cases ek
  ·obtain⟨_,_,_,_,⟨z,_⟩,_⟩:=Aa5.mp (Adc.mp r).2
   cases z
  ·obtain⟨es,z,_⟩:=vE r
   cases z
  ·rcases r with(⟨_,_,z,_⟩ | ⟨_,z,_⟩) | r
   ·cases z
   ·cases z
   ·obtain⟨_,c',C,dx,fs,z,hc,ha,r⟩:=Ai0.mp r
    obtain⟨f1,x1,r1,_,_,q1,_⟩:=Ad8.mp r
    simp[Amo] at q1
 unfold Aed at h
 split at h
 ·rcases h with⟨z,_⟩ | ⟨kds,p,ts,z,_⟩ | ⟨⟨c',C,dx,a,w,q,kds,hds,kvs,hvs,ps,z,_⟩⟩ <;> cases z
 ·cases n with
  | zero=>exact hD h.2
  | succ n=>
   obtain⟨p,xs,Fs,e,hp,_,q⟩:=h
   obtain⟨_,xs⟩:=xs
   replace q:All3 _ _ xs Fs:=q
   cases q with
   | cons h _=>
    exact Ir h.1
section
variable {X:Cx}{H0:Hp}{P0:aB->Prop}{x:aD}{k n0 n np:Nat}{ps:List aD}{F:FX}{e:aR}{es:List aR}{fa:AF}{p pos:bL}{z:Option aD}
noncomputable def mT (n:Nat)(m:Md)(f:EF):SF:=fun ρ=>(eV n m f ρ).bind fun d=>if isR d=true then some (.rt d) else some (.nx ρ)
theorem uW {f:EF}(n:Nat)(m:Md)(he:PE X e (tE X.K H0 P0 n m f))(hs:lY e none pos.line X.env=pure false:=by rfl):DS X H0 P0 n0 (.Expr e pos) (mT n m f):=PS.imp (oE he hs) fun D σ H gh=>by
 obtain⟨B0,ρ,fp,o,S,ef,k⟩:=gh
 obtain⟨d,e1,ef⟩:=XBs ef
 refine⟨B0,ρ,fp,d,S,e1,fun v H' t=>?_⟩
 by_cases h:isR d=true
 ·obtain⟨c,rfl⟩:=Im h
  obtain⟨fp',_,r⟩:=t
  exact(SE r).elim
 ·rw[if_neg h] at ef
  cases ef
  obtain⟨fp',S',_⟩:=t
  exact k _ _ fp' S'
end
def xO (K:aG)(c:aD):Prop:=∃ C,dA K cF c=some (some (.ref C))/\wM K C [.type "ValueError",.type "Exception",.type "BaseException",.type "object"] "ValueError.__new__" = true
theorem Jm {K:aG}{h:aP}{C:aB}{bmB:List aE}{newId:String}(X:K.In h)(q:wM K C bmB newId=true) :
  ∃ bm N nm q bs hdct sn sub ab col dd k0 k1 k2 k3 k5 mN,h.get? C=some (excClassObj nm q C N bs bm hdct sn sub ab col dd k0 k1 k2 k3 k5 newId)/\h.Ns N mN/\mN "__init__" = none/\OwnTail h bmB bm:=by
 unfold wM at q
 split at q
 ·rename_i dd cd sl ho
  split at q
  ·rename_i C' bm k0 k1 k2 k3 n k5 hm hs
   simp only[xH,beq_iff_eq,Bool.not_eq_true'] at q
   obtain⟨⟨⟨⟨⟨rfl,rfl⟩,hdel⟩,ht⟩,hok⟩,hni⟩:=q
   obtain⟨nm,bs,mro,ns,qn,hd,sn,sub,ab,col,del⟩:=cd
   dsimp only at hm hdel hok hni
   subst hm hdel
   have hsl:sl = #[k0,k1,k2,k3,some (.builtin n),k5]:=by
    obtain⟨l⟩:=sl
    simp only at hs
    rw[hs]
   subst hsl
   exact⟨bm,ns,nm,qn,bs,hd,sn,sub,ab,col,dd,k0,k1,k2,k3,k5,_,X _ _ ho,.of_isNs (PySem.W.isNs_of_in X hok),PySem.W.nsMap_none_of_in X hok hni,PySem.W.tail_of_in X ht⟩
  ·cases q
 ·cases q
noncomputable def xW (z:Option aD)(c:aD):SF:=fun _=>if z=some c then some (.rt (rsD c)) else none
section
variable {X:Cx}{H0:Hp}{P0:aB->Prop}{n0:Nat}{z:Option aD}{c t:aD}{np tp cpos pos:bL}{j:Nat}
theorem yT (hz : ∀ c,z=some c->XOk X H0 c)(V:xO X.K c)(hc:X.calm=true)(hg:Gl X c)(hd:(c == ("__debug__" : aD))=false:=by decide):DS X H0 P0 n0 (.Raise (some (.Call (.Name c np) [.Constant (.str t) j tp] [] cpos)) none pos) (xW z c):=by
 intro pins s σ H D I ⟨B0,ρ,fp,o,S,ef,k⟩
 obtain⟨he,_⟩:=cX ef
 obtain⟨C,hC,hx⟩:=V
 have hm:=mD I.mod.kin I.mod.glob hC
 have hcv:dP X.K c=some (.ref C):=by unfold dP; rw[hC]; rfl
 obtain⟨tl,N,nm,q,bs,hdct,sn,sub,ab,col,dd,k0,k1,k2,k3,k5,mN,oC,oN,hni,T⟩:=Jm I.mod.kin hx
 refine wpAny_Raise_call_subT (C:=C) (nm:=nm) (q:=q) (N:=N) (bs:=bs) (bm:=tl) (hdct:=hdct) (sn:=sn) (sub:=sub) (ab:=ab) (col:=col) (dd:=dd) (k0:=k0) (k1:=k1) (k2:=k2) (k3:=k3) (k5:=k5)
  Oq (mN:=mN) (T.hasType Oq.hasBase) (I.ok.hd hc) rfl hni (yH I hg hm ⟨rfl,?_⟩ hd)
 refine Calls.evalArgs_plain ?_
 refine thn ((fP SM iN) cpos pins s σ H (fun vs H1=>vs.length=1/\H1=H) I ⟨rfl,rfl⟩) fun vs s2 gh=>?_
 obtain⟨vv,H1,I1,r,hl,e1⟩:=gh
 subst e1
 have hl2:vs.length=1:=by rw[← r.length]; exact hl
 exact⟨rfl,by show vs.length≤sizeLine; rw[hl2]; decide,I1.bk _ _ oC,oN.keeps I1.bk,T.keeps I1.bk,fun h' e m=>(hz c he).made hcv I1 S.ext m⟩
end
section
variable {X:Cx}{H0:Hp}{P0:aB->Prop}{n0 k n:Nat}{x c T:aD}{ps:List aD}{F:FX}{e:aR}{es:List aR}{fa:AF}{p cpos np hpos pos:bL}{CT:aE}{st b₀:bK}{suite:List bK}{V:aA->SF}{G:SF}{nm:Option aD}{W:TE->TS}
def CallAt (X:Cx)(ce:aR)(n:Nat)(F:FX)(fa:AF):Prop:=∀ {pins:List (aB×aY)} {σ:St} {H:Hp} {s:aH} {z:Option aD} {Q:VK} {P:aB->Prop} {ρ:List (Option aA)} {ds:List aA} {d:aA},Inv X pins σ H s->Hid P H->Ai2 X.K (hid H P) ρ σ->fa ρ=some ds->F z ds=some d->Res X.K P n d H Q ->
  (∀ H1 s1 v s',Inv X pins σ H1 s1->Ext H H1->CXR X.base X.prog X.w X.stack H1 s1 (fun cls _ H'=>(∃ c,z=some c/\dP X.K c=some cls)/\Ext H1 H') v s'->X.xe v s') ->
  aQ (aT X.prog X.w) X.A (bJ ce X.env) (EP X pins σ Q) X.xe s
variable {y:aD}{py apos:bL}{i:Nat}
end
open PySem PySem.Spec PySem.Calls PyProof.Rows PySem.W PySem.Builtin PySem.Builtin.ObjectAttr PySem.Builtin.Getset_descriptor
section
variable {prog:bB}{w:aW}{A:cA}{E:aE->aH->Prop}{h:aP}{g:Array tQ}{d:Drawn}{t:Nat}{os:OsState}{K:Frag}{x C:aB}{ox:aY}{vs:Array aE}
structure XCls (K:Frag)(C:aB):Prop where
 ga:findIn K (.ref C) "__getattribute__" = some (some (.builtin "BaseException.__getattribute__"))
 gh:findIn K (.ref C) "__getattr__" = some none
 cl:findIn K (.ref C) "__class__" = some (some (.builtin "object.__class__"))
 mo:mroIn K C (.type "object")=some true
 mb:mroIn K C (.type "BaseException")=some true
 ic:hasDictIn K C=true
theorem Bcn.ty {M:Model}{cls:aE}(e:Bcn x cls h):Looks M h (typeOf (.ref x)) cls:=by
 obtain⟨o,h1,rfl,_⟩:=e
 exact(Looks.ld h1).andThen .now
end
theorem Jz {K:aG}{c:aD}{v:aE}(h:dA K cF c=some (some v)):dP K c=some v:=by unfold dP; rw[h]; rfl
noncomputable def isFn (i:Nat)(c:aD)(ρ:List (Option aA)):Bool:=match aF i ρ with
 | some (.dict [(.none,.str c'),(.none,.bool false)])=>decide (c'=c)
 | _=>false
open PySem
structure Sub (P:bB)(w:aW)(it:aB)(own:List aB)(St:Nat->aP->Prop)(xs:Array aE):Prop where
 mem:it∈own
 obj : ∀ k h,St k h -> ∀ c∈own,∃ o,h.get? c=some o
 keep : ∀ k h h',St k h->(∀ c∈own,∀ o,h.get? c=some o->h'.get? c=some o)->St k h'
 item : ∀ (A:cA) (E:aE->aH->Prop) (s:aH) (Q:aE->aH->Prop) (k:Nat) (x:aE),St k s.heap->xs[k]?=some x ->
  (∀ h',St (k+1) h'->qU it s.heap h'->Q x { s with heap:=h' })->aQ (aT P w) A (Builtin.SmallTypes.nextOf (.ref it)) Q E s
 done : ∀ (A:cA) (E:aE->aH->Prop) (s:aH) (Q:aE->aH->Prop) (k:Nat),A.handled=none->St k s.heap->xs[k]?=none ->
  (∀ h' e,Heap.ExtBut it s.heap h'->(∃ o,h'.get? e=some o/\o.cls = .type "StopIteration")->E (.ref e) { s with heap:=h' })->aQ (aT P w) A (Builtin.SmallTypes.nextOf (.ref it)) Q E s
def SqB (b:Bool)(h:aP)(l:aB)(us:Array aE):Prop:=match b with
 | true=>h.IsList l us
 | false=>h.IsTuple l us
theorem SqB.keep {b:Bool}{h h':aP}{l:aB}{us:Array aE}(q:SqB b h l us)(k : ∀ o,h.get? l=some o->h'.get? l=some o):SqB b h' l us:=by
 cases b with
 | true=>
  obtain⟨o,e,r⟩:=q
  exact⟨o,k o e,r⟩
 | false=>
  obtain⟨o,e,r⟩:=q
  exact⟨o,k o e,r⟩
def ItB (b:Bool)(j l:aB)(k:Nat)(h:aP):Prop:=match b with
 | true=>h.IsListIter j l k
 | false=>h.IsTupleIter j l k
theorem ItB.get {b:Bool}{j l:aB}{k:Nat}{h:aP}(q:ItB b j l k h) : ∃ o,h.get? j=some o /\ ∀ v,o.data ≠ .cell v:=by
 cases b with
 | true=>
  obtain⟨o,e,_,d⟩:=q
  exact⟨o,e,fun v z=>by rw[d] at z; cases z⟩
 | false=>
  obtain⟨o,e,_,d⟩:=q
  exact⟨o,e,fun v z=>by rw[d] at z; cases z⟩
theorem ItB.keep {b:Bool}{j l:aB}{k:Nat}{h h':aP}(q:ItB b j l k h)(kp : ∀ o,h.get? j=some o->h'.get? j=some o):ItB b j l k h':=by
 cases b with
 | true=>
  obtain⟨o,e,r⟩:=q
  exact⟨o,kp o e,r⟩
 | false=>
  obtain⟨o,e,r⟩:=q
  exact⟨o,kp o e,r⟩
section
variable {X:Cx}{pins:List (aB×aY)}{σ:St}{H:Hp}{s:aH}
theorem Inv.turnM {t':Nat}{fp:List aB}{h':aP}(I:Inv X pins σ H s)(hf : ∀ b∈fp,iR X pins H b)(k : ∀ b o,b∉fp->s.heap.get? b=some o->h'.get? b=some o):Inv X pins σ H { s with heap:=h',toks:=t' }:=by
 have out : ∀ b u,H b=some u->b∉fp:=fun b u e m=>by
  rw[(hf b m).1] at e
  cases e
 have loc:X.env.locals∉fp:=fun m=>(hf _ m).2.1 rfl
 refine I.step (fun b m=>⟨(hf b m).2.2.2.1,(hf b m).2.1,(hf b m).2.2.2.2.1,(hf b m).2.2.2.2.2⟩) (fun b o _ _ n e _=>k b o n e) (fun b o _ _ n e _=>⟨o.slots,k b o n e⟩) (fun _ _ _ _ n=>n)
  (fun b o n e=>⟨o,k b o n e⟩) (fun _ _ e=>e) (fun _ _ _ e=>e) (fun b ps e=>⟨#[],by rw[e]; simp⟩) (fun m hm=>?_) (fun b u e=>?_) I.bare
 ·obtain⟨o,es,ep,ho,r⟩:=hm
  exact⟨o,es,ep,k _ o loc ho,r⟩
 ·refine(I.hok b u e).stay (fun c v hc q=>k c v ?_ q) (fun _ q=>q) fun _ _ q=>q
  rcases hc with z | z
  ·rw[z]; exact out b u e
  ·exact out c _ z
end
theorem Kq {P:bB}{w:aW}{k:aL}{u:aE}(h:(dR P w).is k u=true):RelV (kV k) u:=by
 rcases kX h with⟨i,tk,e1,e2⟩ | ⟨x,tk,e1,e2⟩
 ·rw[e1,e2]; exact⟨tk,rfl⟩
 ·rw[e1,e2]; exact⟨tk,rfl⟩
theorem BZ : ∀ {kvs:List (aL×V)} {vs:List (aL×aE)} {i:Nat} {kv:aL×V},KV kvs vs->kvs[i]?=some kv -> ∃ u,vs[i]?=some u/\kv.1=u.1/\RelV kv.2 u.2
 | _,_,0,_,.cons h _,e=>by
  cases e
  exact⟨_,rfl,h.1,h.2⟩
 | _,_,i+1,_,.cons _ t,e=>by
  obtain⟨u,g⟩:=BZ t (by simpa using e)
  exact⟨u,by simpa using g⟩
noncomputable def qZ (a:aB)(ep n:Nat):It:=
 ⟨fun i H=>∃ kvs kv,H a=some (.dK ep kvs)/\kvs.length=n/\kvs[i]?=some kv,fun i H x H'=>H'=H /\ ∀ kvs,H a=some (.dK ep kvs) -> ∃ kv,kvs[i]?=some kv/\x=kV kv.1,fun i H=>∃ kvs,H a=some (.dK ep kvs)/\kvs.length=n/\n≤i⟩
theorem Bh {P:bB}{w:aW}{K:aG}{tg:aR}(a it:aB)(ep n:Nat):Turn P w K tg (qZ a ep n) [it] it (fun i h=>h.IsKeyIter it a i n ep) where
 mem:=dH.mpr rfl
 obj:=fun i h ⟨o,e,_,d⟩ b hb=>by
  rw[dH.mp hb]
  exact⟨o,e,fun v z=>by rw[d] at z; cases z⟩
 keep:=fun i h h' st k=>st.at fun o e=>k it (dH.mpr rfl) o e
 item:=by
  intro X hP hw hK hc i pins s σ H E I hf st hg
  subst hP hw hK
  obtain⟨kvs,kv,ha,hn,hk⟩:=hg
  subst hn
  obtain⟨z,nm,vs,r,d⟩:=pJ I.hok (.inl ha)
  have hl:kvs.length=vs.length:=r.length
  obtain⟨u,hu,r1,r2⟩:=BZ r hk
  obtain⟨uk,uv⟩:=u
  rw[hl] at st
  refine wpAny_pyNext_dict_item st d hu fun key h' hkey st' sb=>?_
  have I1:Inv X pins σ H { s with heap:=h' }:=I.turnM (t':=s.toks) hf fun b o nb e=>sb.extBut b o (fun q=>nb (dH.mpr q)) e
  obtain⟨o,e,c,dd⟩:=id st'
  have r1':kv.1=uk:=r1
  refine⟨key,rfl,rL (s:={ s with heap:=h' }) e c dd (by decide) ⟨kV kv.1,H,I1,by rw[r1']; exact Kq hkey,⟨rfl,fun kvs' h2=>?_⟩,by rw[hl]; exact st',fun b hb=>(hf b hb).1⟩⟩
  rw[ha] at h2
  cases h2
  exact⟨kv,hk,rfl⟩
 done:=by
  intro X hP hw hK hc i pins s σ H E I hf st hg
  subst hP hw hK
  obtain⟨kvs,ha,hn,hi⟩:=hg
  subst hn
  obtain⟨z,nm,vs,r,d⟩:=pJ I.hok (.inl ha)
  have hl:kvs.length=vs.length:=r.length
  rw[hl] at st
  exact wpAny_pyNext_dict_end (I.ok.hd hc) st d (by simp; omega) fun h' eb=>⟨rfl,I.turnM (t':=s.toks) hf fun b o nb e=>eb b o (fun q=>nb (dH.mpr q)) e⟩
 self:=fun _ _ _ _ _ st h=>wpAny_pyIter_keyiter st h
section
variable {X:Cx}{tg l e:aR}
noncomputable def VM (tl:TE):TI:=fun σ H R=>tl σ H fun x H1=>∃ a ep kvs,x = .ref a/\H1 a=some (.dK ep kvs)/\R (qZ a ep kvs.length) H1
theorem LX {tl:TE}(hl:PE X l tl):PI X tg l (VM tl):=by
 intro pins s σ H R I h
 refine thn (hl pins s σ H _ I h) fun v s1 gh=>?_
 obtain⟨x,H1,I1,r1,q1⟩:=gh
 obtain⟨a,ep,kvs,rfl,ha,q⟩:=q1
 cases r1
 obtain⟨z,nm,vs,r,d⟩:=pJ I1.hok (.inl ha)
 have hn:=r.length
 refine wpAny_pyIter_dict nm d ?_
 refine⟨s1.heap.objs.size,[s1.heap.objs.size],_,_,H1,rfl,I1.kept fun b o e=>cN _ e,Bh a _ ep kvs.length,⟨_,eZ _ rfl,rfl,by rw[hn]; rfl⟩,fun b hb=>?_,q⟩
 rw[dH.mp hb]
 exact I1.fpOk (bR _) (I1.hok.fresh (bR _))
noncomputable def iDK (f:EF):AF:=fun ρ=>(f ρ).bind fun d=>match d with
 | .dict kds=>if (plK kds&&kds.all fun kd=>cO kd.1)=true then some (kds.map (·.1)) else none
 | _=>none
theorem EM {K:aG}{H:Hp} : ∀ {kds:List (aA×aA)} {kvs:List (aL×V)} {i:Nat} {kd:aA×aA},Abq K H kds kvs->kds[i]?=some kd -> ∃ kv,kvs[i]?=some kv/\kd.1=kD kv.1/\Abe K H kd.2 kv.2
 | (k,d)::ds,kvs,0,kd,r,e=>by
  obtain⟨k',y,t,rfl,ek,h1,h2⟩:=Aaz.mp r
  cases e
  exact⟨(k',y),rfl,ek,h1⟩
 | (k,d)::ds,kvs,i+1,kd,r,e=>by
  obtain⟨k',y,t,rfl,ek,h1,h2⟩:=Aaz.mp r
  obtain⟨kv,g1,g2⟩:=EM h2 (by simpa using e)
  exact⟨kv,by simpa using g1,g2⟩
theorem Ml {K:aG}{H:Hp}{k:aL}(h:cO (kD k)=true):Abe K H (kD k) (kV k):=by
 cases k with
 | inl i=>exact Aaq.mpr rfl
 | inr x=>exact Aas.mpr ⟨rfl,h⟩
theorem Ab {K:aG}{B:Hp}{a:aB}{ep:Nat}{kvs:List (aL×V)}{kds:List (aA×aA)}(h:B a=some (.dK ep kvs))(r:Abq K B kds kvs)(hl:(kds.all fun kd=>cO kd.1)=true):ItD K B (qZ a ep kvs.length) (kds.map (·.1)):=fun i H2 x2=>by
 have h2:=x2 _ _ h
 refine⟨fun d hd=>?_,fun e=>⟨kvs,h2,rfl,by rw[← e,cL,r.length]; exact bR _⟩⟩
 rw[eY] at hd
 obtain⟨kd,hk,rfl⟩:=lC.mp hd
 obtain⟨kv,g1,g2,g3⟩:=EM r hk
 refine⟨⟨kvs,kv,h2,rfl,g1⟩,?_⟩
 rintro x H3 ⟨rfl,hx⟩
 obtain⟨kv',q1,rfl⟩:=hx kvs h2
 have:=dZ (q1.symm.trans g1)
 subst this
 refine⟨Ext.refl,fun P2 _ xb=>?_⟩
 rw[g2]
 have:=fV.mp hl kd (nL hk)
 exact Ml (by rw[← g2]; exact this)
theorem LG {f:EF}(h:DE X e f):DI X tg e (iDK f):=PI.imp (LX h) fun σ H R gh=>by
 obtain⟨P,ρ,ds,hP,rs,ef,k⟩:=gh
 obtain⟨d,e1,ef⟩:=XBs ef
 cases d with
 | dict kds=>
  obtain⟨hl,rfl⟩:=cX ef
  refine⟨P,ρ,_,hP,rs,e1,cR fun v H1 x1 r1=>?_⟩
  obtain⟨pk,hl⟩:=kM.mp hl
  obtain⟨a,kvs,rfl,hq,rr⟩:=(uZ pk).mp r1
  exact⟨a,kvs.1,kvs.2,rfl,Aay _ _ hq,k _ H1 x1 (Ab hq rr hl)⟩
 | _=>cases ef
end
theorem QW:entryFor table "dict.update.loop" = some Builtin.«dict.update.loop»:=entryFor_of_tree (by kernel_rfl)
theorem zK:plainId "dict.update.loop" = true:=by decide +kernel
theorem Fv:AK (.type "list") "keys" = pure none:=by rw[typeLookup_type,TN]; kernel_rfl
section
variable {prog:bB}{w:aW}{A:cA}{E:aE->aH->Prop}{s:aH}
set_option maxHeartbeats 4000000 in
theorem Jq {a:aB}{xs:Array aE}{k:Nat}{sl:Array (Option aE)}{Q:Option aE->aH->Prop}(hx:s.heap.get? a=some { cls:=.type "list",dict:=none,data:=.seq xs k,slots:=sl })(hA:A.handled=none)
  (h : ∀ h' tk,(∀ b o,s.heap.get? b=some o->h'.get? b=some o)->Q none { s with heap:=h',toks:=tk }):aQ (aT prog w) A (getAttr? (.ref a) "keys") Q E s:=by
 obtain⟨hp,g,d,tk,os⟩:=s
 have hT : ∀ tk',(⟨hp,g,d,tk',os⟩:aH).TypeIs (.ref a) "list":=fun _=>⟨_,hx,rfl⟩
 have f1:=sub_AttributeError
 have f3:=UZ.lookup
 have f4:=UZ.bind (.ref a)
 have f5:=am_list_getattr_none
 unfold getAttr? getAttrBy? getAttrBy
 repeat (any_goals (first | assumption | exact hT _ | ((with_reducible show aQ _ _ (call (Value.builtin "list.__getattribute__") _ _) _ _ _); refine qL UZ (hT _) am_entry_list_getattribute (F.args_list_getattribute_2 _ _) (meets_getattribute_miss_list a xs k sl _ _ Fv (by decide +kernel)) ⟨hx,hA,fun h' tk' e hx'=>?_⟩) | wp_step))
 obtain⟨t',u',he⟩:=hx'.there
 unfold getattributeRaised
 repeat (any_goals (first | assumption | wp_step))
 exact h _ _ hx'.keeps
def Am6 (h:aP)(D:aB)(wr:List aB)(items:Array aE)(kvs:List (aL×aE)):Prop:=
 ∀ (j:Nat) v,items[j]?=some v -> ∃ b kv p,v = .ref b/\kvs[j]?=some p/\h.IsTuple b #[kv,p.2]/\(dR prog w).is p.1 kv=true/\b≠D/\b∉wr
theorem Am6.keep {h h':aP}{D:aB}{wr:List aB}{items:Array aE}{kvs:List (aL×aE)}(q:Am6 (prog:=prog) (w:=w) h D wr items kvs)(k : ∀ b o,b≠D->b∉wr->h.get? b=some o->h'.get? b=some o):Am6 (prog:=prog) (w:=w) h' D wr items kvs:=fun j v e=>by
 obtain⟨b,kv,p,rfl,e1,⟨o,e2,e3⟩,e4,e5,e6⟩:=q j v e
 exact⟨b,kv,p,rfl,e1,⟨o,k b o e5 e6 e2,e3⟩,e4,e5,e6⟩
theorem QP : ∀ (more kvs:List (aL×aE)),(lZ kvs more).length≤kvs.length+more.length
 | [],kvs=>bR _
 | p::r,kvs=>by
  have h1:=QP r (qG kvs p.1 p.2)
  have h2:(qG kvs p.1 p.2).length≤kvs.length+1:=by
   unfold qG
   split <;> simp
  show(lZ (qG kvs p.1 p.2) r).length≤_
  rw[eE]
  omega
theorem Cd {R:qM->aH->Prop}{I:aB}{fp wr:List aB}{G:Array tQ->Array tQ->Prop}{n:Nat}{items:Array aE}{St:Nat->aH->Prop}
  (W:WalksS prog w A.in1 I fp wr G n (fun i v=>items[i]?=some v) St) (D:aB) (hDf:D∉fp) (kvs:List (aL×aE)) (hn:n≤sizeLine) (hkl:kvs.length=n) :
  ∀ (k i:Nat) (s:aH),n - i=k->i≤n->St i s->s.heap.DictOf (dR prog w) D (lZ [] (kvs.take i))->Am6 (prog:=prog) (w:=w) s.heap D wr items kvs ->
   (∀ s',Moved (D::wr) G s s'->s'.heap.DictOf (dR prog w) D (lZ [] kvs)->R (.ok (.ret .none)) s') ->
   lA (aT prog w) A (.builtin "dict.update.loop" ⟨[.ref D,.ref I,rawInt (i:Int),.none],[]⟩) R s:=by
 have hDw:D∉wr:=fun z=>hDf (W.sub _ z)
 have more : ∀ b∈wr,b∈D::wr:=fun b z=>cD _ z
 intro k
 induction k with
 | zero=>
  intro i s hk hi hst hS hT hR
  obtain rfl:i=n:=by omega
  refine oY QW ?_
  rw[qY zK _]
  refine aK (W.done s _ _ hst fun s' hm=>?_)
  refine aK (bA (bA (hR s' (hm.mono more) ?_)))
  obtain⟨o,es,ep,ho,r⟩:=hS
  rw[← hkl,List.take_length] at r
  exact⟨o,es,ep,hm.heap D o hDw ho,r⟩
 | succ k ih=>
  intro i s hk hi hst hS hT hR
  have hlt:i<n:=by omega
  refine oY QW ?_
  rw[qY zK _]
  refine aK (W.item i s _ _ hlt hst fun v s' hPi hst' hm=>?_)
  have hT':=hT.keep fun b o _ h2 e=>hm.heap b o h2 e
  obtain⟨b,kv,p,rfl,e1,tb,e4,e5,e6⟩:=hT' i v hPi
  have hS':s'.heap.DictOf (dR prog w) D (lZ [] (kvs.take i)):=by
   obtain⟨o,es,ep,ho,r⟩:=hS
   exact⟨o,es,ep,hm.heap D o hDw ho,r⟩
  have hstep:lZ [] (kvs.take (i+1))=qG (lZ [] (kvs.take i)) p.1 p.2:=by
   rw[IG,e1]
   simp[lZ,List.foldl_append]
  have hlen:(lZ [] (kvs.take i)).length≤sizeLine:=by
   have:=QP (kvs.take i) []
   rw[qQ] at this
   simp at this
   omega
  refine aK (iY (aK (wpAny_tryCatch ?_)))
  unfold Builtin.Dict.pairItems
  refine aK (HD tb.typeIs ?_)
  obtain⟨ob,g1,g2,nb,g3⟩:=tb
  refine aK (wpAny_seqItems g1 g3 (bA ?_))
  refine iY (wpAny_dictSet_pairs e4 hS' (fun h' d' sb=>?_) hlen)
  refine bA ⟨sY zK _,?_⟩
  refine ih (i+1) _ (by omega) hlt (W.frame _ s' _ _ hst' (wR _) fun c hc o e=>?_) (by rw[hstep]; exact d') (hT'.keep fun b o h1 _ e=>(sb.2 b h1).trans e) fun s'' hm'' S4=>?_
  ·exact(sb.2 c (fun z=>hDf (z ▸ hc))).trans e
  ·exact hR s'' (Moved.trans W.gtrans ((hm.mono more).then_heap (wR _) fun c o hc e=>(sb.2 c (fun z=>hc (z ▸ bX))).trans e) hm'') S4
theorem Dp {l:aB}{items:Array aE}{nl:Nat}{sl:Array (Option aE)}{kvs:List (aL×aE)}{Q:aE->aH->Prop}(hh:A.handled=none)(hl:s.heap.get? l=some { cls:=.type "list",dict:=none,data:=.seq items nl,slots:=sl })
  (hkl:kvs.length=items.size) (hz:items.size≤sizeLine) (hp : ∀ (j:Nat) v,items[j]?=some v -> ∃ b kv p,v = .ref b/\kvs[j]?=some p/\s.heap.IsTuple b #[kv,p.2]/\(dR prog w).is p.1 kv=true)
  (h : ∀ h' tk,h'.DictOf (dR prog w) s.heap.objs.size (lZ [] kvs)->(∀ b o,s.heap.get? b=some o->h'.get? b=some o)->Q (.ref s.heap.objs.size) { s with heap:=h',toks:=tk }) :
  aQ (aT prog w) A (call (.type "dict") [.ref l]) Q E s:=by
 refine callType_codes (Q₁:=fun obj s₁=>obj = .ref s.heap.objs.size/\s₁ = { s with heap:=s.heap.push { cls:=.type "dict",data:=.dict #[] } }) F.kt_called_dict (F.kt_typeCall_dict_1 _) F.entry_dict_init (kt_code_dict_new _ ⟨rfl,rfl⟩) ?_
 rintro obj s₁ ⟨rfl,rfl⟩
 have dn:(s.heap.push { cls:=.type "dict",data:=.dict #[] }).DictOf (dR prog w) s.heap.objs.size []:=Heap.DictOf.new s.heap
 have l1:(s.heap.push { cls:=.type "dict",data:=.dict #[] }).get? l=some { cls:=.type "list",dict:=none,data:=.seq items nl,slots:=sl }:=cN _ hl
 refine⟨dn.typeIs,F.args_dict_init_2 _ _,?_⟩
 unfold Builtin.«dict.__init__»
 refine aK ?_
 unfold Builtin.Dict.selfAndRest
 refine aK (TK dn.typeIs (bA ?_))
 show aQ _ _ (Builtin.Dict.updateFrom "dict.__init__" s.heap.objs.size (.ref l) [] .none) _ _ _
 unfold Builtin.Dict.updateFrom
 refine aK (HD (T:="list") ⟨_,l1,rfl⟩ ?_)
 rw[if_pos (by decide)]
 refine aK (Jq l1 (by simp[hh]) fun h1 tk k1=>?_)
 show aQ _ _ (rule _ >>= fun _=>pyIter (.ref l) >>= _) _ _ _
 have l2:h1.get? l=some { cls:=.type "list",dict:=none,data:=.seq items nl,slots:=sl }:=k1 _ _ l1
 have L2:h1.IsList l items:=⟨_,l2,rfl,nl,rfl⟩
 refine aK (AH (aK (HG L2 (bA ⟨sY zK _,?_⟩))))
 have lS:l<s.heap.objs.size:=cG hl
 have d1:h1.DictOf (dR prog w) s.heap.objs.size []:=by
  obtain⟨o,es,ep,ho,r⟩:=dn
  exact⟨o,es,ep,k1 _ _ ho,r⟩
 have sD:s.heap.objs.size<h1.objs.size:=by
  obtain⟨o,es,ep,ho,r⟩:=d1
  exact cG ho
 have nI:l≠h1.objs.size:=dG (IB lS sD)
 have nS:s.heap.objs.size∉[h1.objs.size,l]:=fun z=>by
  rcases cP.mp z with z | z
  ·exact absurd z (dG sD)
  ·exact absurd (dH.mp z) (qP lS)
 have old : ∀ b o,s.heap.get? b=some o->(h1.push { cls:=.type "list_iterator",data:=.fields #[.ref l,.int 0 0] }).get? b=some o:=fun b o e=>cN _ (k1 _ _ (cN _ e))
 refine Cd (w:=w) ((Walks.list (by simp[hh]) _ l nI items).toS) s.heap.objs.size nS kvs hz hkl (items.size - 0) 0 _ rfl (eX _) ⟨⟨_,eZ _ rfl,rfl,rfl⟩,L2.push _⟩ (d1.push _) ?_ fun s' hm S'=>?_
 ·intro j v e
  obtain⟨b,kv,p,rfl,e1,⟨o,e2,e3⟩,e4⟩:=hp j v e
  have lb:b<s.heap.objs.size:=cG e2
  exact⟨b,kv,p,rfl,e1,⟨o,old b o e2,e3⟩,e4,dG lb,fun z=>absurd (dH.mp z) (dG (IB lb sD))⟩
 ·obtain⟨h',g',d',tk',os'⟩:=s'
  obtain rfl:g'=s.gens:=hm.gens
  obtain rfl:d'=s.drawn:=hm.drawn
  obtain rfl:os'=s.os:=hm.os
  refine⟨rfl,h h' tk' S' fun b o e=>?_⟩
  have lb:b<s.heap.objs.size:=cG e
  refine hm.heap b o (fun z=>?_) (old b o e)
  rcases cP.mp z with z | z
  ·exact absurd z (dG lb)
  ·exact absurd (dH.mp z) (dG (IB lb sD))
end
theorem ZE {α β:Type}{R R':α->β->Prop}(f : ∀ a b,R a b->R' a b) : ∀ {as:List α} {bs:List β},dI R as bs->dI R' as bs:=by
 intro as bs h
 induction h with
 | nil=>exact .nil
 | cons h _ ih=>exact .cons (f _ _ h) ih
section
variable {X:Cx}
abbrev HB (K:aG)(H:Hp)(ys:List V)(ps:List (aL×V)):Prop:=dI (fun y (p:aL×V)=>∃ b,y=V.ref b/\SqT K H b [kV p.1,p.2]) ys ps
theorem Mo {pins:List (aB×aY)}{σ:St}{H:Hp}{s:aH}(I:Inv X pins σ H s) : ∀ {ys:List V} {ps:List (aL×V)} {its:List aE},HB X.K H ys ps->Vals ys its ->
  ∃ kvs:List (aL×aE),KV ps kvs/\kvs.length=its.length /\ ∀ (j:Nat) v,its[j]?=some v -> ∃ b kv p,v = .ref b/\kvs[j]?=some p/\s.heap.IsTuple b #[kv,p.2]/\(dR X.prog X.w).is p.1 kv=true:=by
 intro ys ps its hp
 induction hp generalizing its with
 | nil=>
  intro r
  cases r
  exact⟨[],.nil,rfl,fun j v e=>by simp at e⟩
 | @cons y p ys ps hq t ih=>
  intro r
  obtain⟨b,e,q⟩:=hq
  subst e
  cases r with
  | cons r rr=>
   cases r
   obtain⟨kvs,h1,h2,h3⟩:=ih rr
   obtain⟨us,rv,tb,_⟩:=I.tuple q
   cases rv with
   | cons ra rb=>
    cases rb with
    | cons rb rc=>
     cases rc
     refine⟨(p.1,_)::kvs,.cons ⟨rfl,rb⟩ h1,by simp[h2],fun j v e=>?_⟩
     cases j with
     | zero=>
      cases e
      exact⟨b,_,(p.1,_),rfl,rfl,tb,rB ra⟩
     | succ j=>exact h3 j v (by simpa using e)
theorem Eo (hc:X.calm=true):Ado X (.type "dict") (fun xs H Q=>∃ p ys ps,xs=[.ref p]/\SqL X.K H p ys/\HB X.K H ys ps /\ ∀ q n,H q=none->Q (.ref q) (upd H q (.dK n (nZ [] ps)))):=by
 intro pins s σ H xs us Q I r h
 obtain⟨p,ys,ps,rfl,hp,hv,q⟩:=h
 obtain⟨u,rfl,ru⟩:=vals1 r
 cases ru
 obtain⟨its,rv,⟨o,n,ho,hc1,hc2,hc3⟩,hz⟩:=I.list hp
 obtain⟨kvs,h1,h2,h3⟩:=Mo I hv rv
 have e1:=rv.length
 obtain⟨c,dct,dat,sl⟩:=o
 simp only at hc1 hc2 hc3
 subst hc1 hc2 hc3
 refine Dp (I.ok.hd hc) ho (by rw[dJ]; exact h2) (by rw[dJ]; omega) (fun j v e=>h3 j v (by simpa using e)) fun h' tk dd hk=>?_
 obtain⟨m,da⟩:=dd.dictAt
 have lz:(nZ [] ps).length≤sizeLine:=by
  have l1:=RC ps []
  have l2:=nK h1
  simp at l1
  omega
 exact⟨.ref s.heap.objs.size,_,I.laid hk (bR _) (TC lz (beq_eq_false_iff_ne.mpr (kJ (dG I.big))) (h1.merge .nil) da),rfl,q _ m I.fresh⟩
noncomputable def qA:List aA->Option (List (aL×aA))
 | []=>some []
 | .tuple [k,d]::r=>(cI k).bind fun k=>(qA r).bind fun ps=>some ((k,d)::ps)
 | _::_=>none
noncomputable def pQ (ps:List (aL×aA))(kds:List (aA×aA)):List (aA×aA):=ps.foldl (fun acc p=>putD acc p.1 p.2) kds
noncomputable def pO:List aA->Option aA
 | [.list ds]=>(qA ds).bind fun ps=>some (.dict (pQ ps []))
 | _=>none
theorem Cv {K:aG}{H:Hp} : ∀ {ps:List (aL×aA)} {qs:List (aL×V)},dI (fun(p:aL×aA) (q:aL×V)=>p.1=q.1/\Abe K H p.2 q.2) ps qs -> ∀ {kds:List (aA×aA)} {kvs:List (aL×V)},Abq K H kds kvs->Abq K H (pQ ps kds) (nZ kvs qs):=by
 intro ps qs hp
 induction hp with
 | nil=>exact fun r=>r
 | @cons p q ps qs hq t ih=>
  intro kds kvs r
  have:=ih (Jf (k:=p.1) r hq.2)
  show Abq K H (pQ _ (putD kds p.1 p.2)) (nZ (putK kvs q.1 q.2) _)
  rw[← hq.1]
  exact this
theorem Om {K:aG}{H:Hp} : ∀ {ds:List aA} {ps:List (aL×aA)} {ys:List V},qA ds=some ps->Aap K H ds ys -> ∃ qs:List (aL×V),dI (fun(y:V) (q:aL×V)=>∃ b,y=V.ref b/\H b=some (.tup [kV q.1,q.2])) ys qs/\dI (fun(p:aL×aA) (q:aL×V)=>p.1=q.1/\Abe K H p.2 q.2) ps qs:=by
 intro ds
 induction ds with
 | nil=>
  intro ps ys e r
  cases e
  rw[Aai.mp r]
  exact⟨[],.nil,.nil⟩
 | cons z ds ih=>
  intro ps ys e r
  cases z with
  | tuple zs=>
   cases zs with
   | nil=>cases e
   | cons k zs=>
    cases zs with
    | nil=>cases e
    | cons d zs=>
     cases zs with
     | cons _ _=>cases e
     | nil=>
      obtain⟨key,e1,e⟩:=XBs (show((cI k).bind fun k=>(qA ds).bind fun ps=>some ((k,d)::ps))=some ps from e)
      obtain⟨ps',e2,e⟩:=XBs e
      cases e
      obtain⟨v,t,rfl,r1,r2⟩:=Aac.mp r
      obtain⟨qs,h1,h2⟩:=ih e2 r2
      obtain⟨b,xs,rfl,hb,rx⟩:=Aaw.mp r1
      obtain⟨u1,t1,rfl,a1,a2⟩:=Aac.mp rx
      obtain⟨u2,rfl,a3⟩:=fZ a2
      rw[vB e1 a1] at hb
      exact⟨(key,u2)::qs,.cons ⟨b,rfl,hb⟩ h1,.cons ⟨rfl,a3⟩ h2⟩
  | _=>cases e
theorem Eh {K:aG}:CallD K 1 (fun xs H Q=>∃ p ys ps,xs=[.ref p]/\SqL K H p ys/\HB K H ys ps /\ ∀ q n,H q=none->Q (.ref q) (upd H q (.dK n (nZ [] ps)))) pO:=fun P H xs ds d Q hP r e k=>by
 unfold pO at e
 split at e
 ·obtain⟨ps,e1,e2⟩:=XBs e
  cases e2
  obtain⟨v,rfl,r'⟩:=fZ r
  obtain⟨q,ys,rfl,hq,rr⟩:=Abm.mp r'
  obtain⟨qs,h1,h2⟩:=Om e1 rr
  refine⟨q,ys,qs,rfl,Aay.sqL hq,?_,fun l n hn=>k.dic hP hn (Cv h2 (Abr.mpr rfl))⟩
  exact ZE (fun y p ⟨b,e,hb⟩=>⟨b,e,SqT.of (Aay _ _ hb)⟩) h1
 ·cases e
end
abbrev TE3:=List aA×aB×aE
section
variable {X:Cx}
theorem Air.ext {H H':Hp}(x:Ext H H'){k:List aA}{c:aB}(t:Air H k c):Air H' k c:=t.keep fun b xs e=>x _ _ e
end
theorem Ab0.length {K:aG}{H:Hp} : ∀ {kds:List (aA×aA)} {ts:List (List aA×V)},Ab0 K H kds ts->ts.length=kds.length
 | [],ts,h=>by rw[Ab2.mp h]; rfl
 | (k,d)::r,ts,h=>by
  obtain⟨k',x,rr,rfl,_,_,h2⟩:=Aa5.mp h
  simp[Ab0.length h2]
section
variable {X:Cx}{H0:Hp}{P0:aB->Prop}{n0:Nat}{x:aD}{e k:aR}{f g:EF}{pos px apos:bL}
theorem Dr {prog:bB}{w:aW}(d:aB)(hd:(d == gV)=false) :
  MeetsIn prog w (Builtin.«dict.__len__» ⟨[.ref d],[]⟩) (fun _ R s=>∃ xs,s.heap.DictOfH (lX prog w) d xs/\R (.ok (.ret (.int xs.length s.toks))) { s with toks:=s.toks+1 }):=
 .of_wp fun A R s gh=>by
  obtain⟨xs,hm,h⟩:=gh
  obtain⟨o,es,ep,ho,hc,hdat,hes,_,_⟩:=hm
  show aQ _ _ (dictSize d >>= _) _ _ s
  unfold dictSize
  refine aK (aK (wI ho hdat (bA ?_)))
  refine aK (wpAny_pendingCount_other hd (wpAny_ret_mkInt ?_))
  have:=size_of_entries hes
  rw[Nat.add_zero,this]
  exact h
theorem VR {prog:bB}{w:aW}{A:cA}{E:aE->aH->Prop}{s:aH}{d:aB}{xs:List TE3}{Q:aE->aH->Prop}(hd:(d == gV)=false)(hm:s.heap.DictOfH (lX prog w) d xs)(hz:(xs.length:Int)<2 ^ 63)(h : ∀ t s',s' = { s with toks:=s.toks+1+1 }->Q (.int xs.length t) s') :
  aQ (aT prog w) A (call (.builtin "len") [.ref d]) Q E s:=by
 refine VB kind_len plain_len entry_len (args_len1 _) ?_
 unfold Builtin.«len»
 refine aK (bA ?_)
 refine aK (TM hm.typeIs F.slot_dict_len (call_meetsIn F.slot_dict_len hm.typeIs F.entry_dict_len (F.args_dict_len_1 _) (Dr d hd) ⟨xs,hm,?_⟩))
 refine aK (iY (bA ?_))
 refine aK (wpAny_letGo ?_)
 rw[if_neg (by omega)]
 rw[if_neg (by omega)]
 exact aK (wpAny_mkInt (bA ⟨_,rfl,h _ _ rfl⟩))
theorem FD:Ado X (.builtin "len") (fun xs H Q=>∃ a ep ts,xs=[V.ref a]/\H a=some (.dT ep ts)/\Q (.int ts.length) H):=by
 intro pins s σ H xs us Q I r h
 obtain⟨a,ep,ts,rfl,ha,q⟩:=h
 obtain⟨u,rfl,ru⟩:=vals1 r
 cases ru
 obtain⟨z,hd,ys,kt,dd⟩:=GX I.hok ha
 have e:=nK kt
 refine VR hd dd (by rw[← e]; rw[qI] at z; omega) fun t s' es=>?_
 subst es
 exact⟨.int ts.length,H,I.tok _,⟨t,by rw[e]⟩,q⟩
noncomputable def rH:List aA->Option aA
 | [.dict ((.none,.none)::kds)]=>some (.int kds.length)
 | _=>none
theorem FR {K:aG}:CallD K 0 (fun xs H Q=>∃ a ep ts,xs=[V.ref a]/\H a=some (.dT ep ts)/\Q (.int ts.length) H) rH:=fun P H xs ds d Q hP r e k=>by
 unfold rH at e
 split at e
 ·cases e
  obtain⟨v,rfl,r'⟩:=fZ r
  obtain⟨a,ts,rfl,ha,rr⟩:=(oI).mp r'
  exact⟨a,ts.1,ts.2,rfl,Aay _ _ ha,k.zero Ext.refl (Aaq.mpr (by rw[rr.length]))⟩
 ·cases e
end
noncomputable def hX (c:aD):aA->Option (aA×aA)
 | .dict [(.none,.str c'),(.none,.tuple [.str a,W]),(.none,.tuple [.str b,D])]=>if c'=c/\a = "wide" /\ b = "held" then some (W,D) else none
 | _=>none
theorem uY {c:aD}{d:aA}{p:aA×aA}(h:hX c d=some p):d=bG c p.1 p.2:=by
 unfold hX at h
 split at h
 ·obtain⟨⟨rfl,rfl,rfl⟩,rfl⟩:=cX h
  rfl
 ·cases h
theorem rZ (c:aD)(W D:aA):hX c (bG c W D)=some (W,D):=by simp[hX,bG]
noncomputable def nR (c:aD)(d:aA):Option aA:=(hX c d).map (·.1)
noncomputable def fH (c:aD)(d:aA):Option aA:=(hX c d).map (·.2)
structure InsC (K:aG)(c:aD):Prop where
 ex : ∃ C,dP K c=some (.ref C)/\Cls K C/\Ajs K C "wide" /\ Ajs K C "held"
theorem oB {K:aG}{c:aD}{C C':aB}(h:dP K c=some (.ref C))(h':dP K c=some (.ref C')):C'=C:=by
 rw[h] at h'
 injection h' with h'
 injection h' with h'
 exact h'.symm
theorem OT (w q:V):iH ("wide" : aD) [(("wide" : aD),w),("held",q)]=some w:=by simp[iH]
theorem zA (w q:V):iH ("held" : aD) [(("wide" : aD),w),("held",q)]=some q:=by
 have:(("held" : aD) == ("wide" : aD))=false:=by decide +kernel
 simp[iH,this]
section
variable {X:Cx}{e o:aR}{es:List aR}{f fo:EF}{fa:AF}{c m:aD}{pos apos:bL}{k n:Nat}{ps:List aD}{F:FX}
theorem CV (T:InsC X.K c)(h:DE X e f)(hb:nG e "wide" X.env (bJ e X.env)=bJ e X.env:=by rfl):DE X (.Attribute e "wide" pos) (eUn (nR c) f):=
 PE.imp (rN h hb) fun σ H Q gh=>by
  obtain⟨P,ρ,d,hP,rs,ef,k⟩:=gh
  obtain⟨d1,e1,ef⟩:=XBs ef
  refine⟨P,ρ,d1,hP,rs,e1,cR fun v H1 x1 r1=>?_⟩
  obtain⟨p,ep,rfl⟩:=lC.mp ef
  rw[uY ep] at r1
  obtain⟨C,dx,a,w,q,rfl,hc,ha,h1,h2⟩:=yS r1
  obtain⟨C',c1,c2,c3,c4⟩:=T.ex
  obtain rfl:=oB c1 hc
  exact⟨a,_,dx,_,w,rfl,Aay _ _ ha,c2,c3,OT w q,k.zero x1 h1⟩
theorem mV (T:InsC X.K c)(h:DE X e f)(hb:nG e "held" X.env (bJ e X.env)=bJ e X.env:=by rfl):DE X (.Attribute e "held" pos) (eUn (fH c) f):=
 PE.imp (rN h hb) fun σ H Q gh=>by
  obtain⟨P,ρ,d,hP,rs,ef,k⟩:=gh
  obtain⟨d1,e1,ef⟩:=XBs ef
  refine⟨P,ρ,d1,hP,rs,e1,cR fun v H1 x1 r1=>?_⟩
  obtain⟨p,ep,rfl⟩:=lC.mp ef
  rw[uY ep] at r1
  obtain⟨C,dx,a,w,q,rfl,hc,ha,h1,h2⟩:=yS r1
  obtain⟨C',c1,c2,c3,c4⟩:=T.ex
  obtain rfl:=oB c1 hc
  exact⟨a,_,dx,_,q,rfl,Aay _ _ ha,c2,c4,zA w q,k.zero x1 h2⟩
theorem lM {ce:aR}(h:CallAt X ce n F fa):DF n X ce (aN (F none) fa):=fun pins s σ H Q I gh=>by
 obtain⟨P,ρ,d,hP,rs,ef,k⟩:=gh
 obtain⟨ds,e1,ef⟩:=XBs ef
 exact h I hP rs e1 ef k fun H1 s1 v s' I1 x1 hc=>by
  obtain⟨_,_,_,_,_,_,_,_,_,_,_,_,_,_,⟨c',z,_⟩,_⟩:=hc
  cases z
theorem uD {ce:aR}{H0:Hp}{P0:aB->Prop}{z:Option aD}(m:Md)(hz : ∀ c,z=some c->XOk X H0 c)(h:CallAt X ce n F fa):PE X ce (tE X.K H0 P0 n m (aN (F z) fa)):=by
 cases z with
 | none=>exact ev m (lM h)
 | some c=>
  intro pins s σ H Q I hq
  obtain⟨B0,ρ0,fp,d0,S,_,_⟩:=id hq
  obtain⟨P,ρ,d,hP,rs,ef,k⟩:=BX m σ H Q hq
  obtain⟨ds,e1,ef⟩:=XBs ef
  exact h I hP rs e1 ef k fun H1 s1 v s' I1 x1 hc=>(hz c rfl).pass pins σ H1 s1 v s' I1 (hc.imp fun cls H' ⟨⟨c',z1,z2⟩,z3⟩=>by
   cases z1
   exact⟨z2,S.ext.trans (x1.trans z3)⟩)
theorem SL {fa':aB}{fd:eM}{pins:List (aB×aY)}{σ:St}{H1:Hp}{s1:aH}{us:List aE}{vs:List V}{P:aB->Prop}{ds:List aA}{d:aA}{z:Option aD}{Q:VK}(Fk:FnOk X.prog X.w X.K X.mg X.base (CXR X.base X.prog X.w) k fa' fd ps (spX X.K n F))(hr:Room k X.A)(hb:Binds X.K fd ps [])
  (I1:Inv X pins σ H1 s1) (r:Vals vs us) (hP:Hid P H1) (rd:Aap X.K (hid H1 P) ds vs) (ef:F z ds=some d) (k':Res X.K P n d H1 Q)
  (hx : ∀ v s',CXR X.base X.prog X.w X.stack H1 s1 (fun cls _ H'=>(∃ c,z=some c/\dP X.K c=some cls)/\Ext H1 H') v s'->X.xe v s'):aQ (aT X.prog X.w) X.A (call (.ref fa') us) (EP X pins σ Q) X.xe s1:=by
 have q:spX X.K n F vs H1 Q (fun cls _ H'=>(∃ c,z=some c/\dP X.K c=some cls)/\Ext H1 H'):=⟨P,ds,d,z,hP,rd,ef,k',fun c hc cls H' e2 x2=>⟨⟨c,hc,e2⟩,x2⟩⟩
 have hl:us.length=ps.length:=by rw[← r.length]; exact Fk.len _ _ _ _ q
 have hbs:qX s1 fd ⟨us,[]⟩ (ps.zip us):=by
  have:=hb s1 us I1.kIn (by simpa using hl)
  simpa using this
 refine wpAny_call (qK (Fk.run X.A X.stack s1 H1 ⟨us,[]⟩ us vs Q _ hr I1.env0 hbs r q) fun r s' hq=>?_)
 cases r with
 | error e=>exact hx e s' hq
 | ok fl=>
  cases fl with
  | ret u=>exact I1.after hq
  | next=>exact iQ hq
  | brk=>exact iQ hq
  | cont=>exact iQ hq
structure MethX (P:bB)(w:aW)(K:aG)(mg:aD->Option aE)(base:aP)(c m:aD)(k:Nat)(ps:List aD)(sp:Sp):Prop where
 ex : ∃ C f fd,dP K c=some (.ref C)/\Cls K C/\Meth K C m f/\FnOk P w K mg base (CXR base P w) k f fd ps sp/\Binds K fd ps []
noncomputable def eN (c:aD)(fo:EF)(fa:AF):AF:=fun ρ=>(fo ρ).bind fun d=>if (hX c d).isSome=true then(fa ρ).bind fun ds=>some (d::ds) else none
theorem OP {ρ:List (Option aA)}{ds:List aA}(h:eN c fo fa ρ=some ds) : ∃ W D ds',fo ρ=some (bG c W D)/\fa ρ=some ds'/\ds=bG c W D::ds':=by
 obtain⟨d,e1,h⟩:=XBs h
 by_cases q:(hX c d).isSome=true
 ·rw[if_pos q] at h
  obtain⟨ds',e2,h⟩:=XBs h
  cases h
  obtain⟨p,ep⟩:=wQ.mp q
  have:=uY ep
  subst this
  exact⟨_,_,ds',e1,e2,rfl⟩
 ·rw[if_neg q] at h; cases h
theorem jZ {pl:Sem Bool}(M:MethX X.prog X.w X.K X.mg X.base c m k ps (spX X.K n F))(hr:Room k X.A)(ho:DE X o fo)(ha:DA X (e::es) fa)(hlk : ∀ w q:V,iH m [(("wide" : aD),w),("held",q)]=none:=by intro _ _; rfl)
  (hst:bI (e::es) X.env=(false,bJ e X.env)::bI es X.env:=by rfl) (hpl:(fD pos (bI es X.env)).any (·.1)=false:=by rfl)
  (ht:bJ (.Call (.Attribute o m apos) (e::es) [] pos) X.env=(do
   let ov ← bJ o X.env
   qH apos.atName
   let (f,first) ← kZ [ov] (AN ov m pl)
   callWith pos f first (fD pos (bI (e::es) X.env)) (tH pos (sZ [] X.env))):=by rfl):CallAt X (.Call (.Attribute o m apos) (e::es) [] pos) n F (eN c fo fa):=by
 intro pins σ H s z Q P ρ ds d I hP rs e1 ef k' hx
 obtain⟨C,f,fd,hc,cl,me,Fk,hb⟩:=M.ex
 obtain⟨W,D,ds',e0,e1',rfl⟩:=OP e1
 refine TY (pl:=pl) (thn (ho pins s σ H (fun v H1=>Ext H H1/\Abe X.K (hid H1 P) (bG c W D) v) I ⟨P,ρ,_,hP,rs,e0,cR fun v H1 x1 r1=>⟨x1,r1⟩⟩) fun u s1 ⟨x,H1,I1,rx,x1,r1⟩=>?_) ht
 obtain⟨C',dx,a,w,q,rfl,hc',ha',h1,h2⟩:=yS r1
 obtain rfl:=oB hc hc'
 obtain rfl:u=dE a:=rx
 refine FZ I1 (Aay _ _ ha') cl me (hlk w q) ?_
 refine HS (first:=[.ref a]) (h₀:=X.base) I.ok.mod.kin me.kp (thn (ha pos pins s1 σ H1 (fun vs H2=>Ext H1 H2/\Aap X.K (hid H2 P) ds' vs) I1 ⟨P,ρ,ds',hP.ext x1,rs.ext (bS x1),e1',fun vs H2 x2 r2=>⟨x2,r2⟩⟩) fun us s2 ⟨vs,H2,I2,r,x2,r2⟩=>⟨I2.kIn,?_⟩) hst hpl
 exact SL (us:=.ref a::us) (vs:=.ref a::vs) Fk hr hb I2 (.cons rfl r) (hP.ext (x1.trans x2)) (Aac.mpr ⟨_,_,rfl,r1.ext (bS x2),r2⟩) ef (k'.mono (x1.trans x2)) fun v s' hc=>hx H2 s2 v s' I2 (x1.trans x2) hc
theorem Np {pl:Sem Bool}(M:MethX X.prog X.w X.K X.mg X.base c m k ps (spX X.K n F))(hr:Room k X.A)(ho:DE X o fo)(hlk : ∀ w q:V,iH m [(("wide" : aD),w),("held",q)]=none:=by intro _ _; rfl)
  (ht:bJ (.Call (.Attribute o m apos) [] [] pos) X.env=(do
   let ov ← bJ o X.env
   qH apos.atName
   let (f,first) ← kZ [ov] (AN ov m pl)
   callWith pos f first (fD pos (bI [] X.env)) (tH pos (sZ [] X.env))):=by rfl):CallAt X (.Call (.Attribute o m apos) [] [] pos) n F (eN c fo aM):=by
 intro pins σ H s z Q P ρ ds d I hP rs e1 ef k' hx
 obtain⟨C,f,fd,hc,cl,me,Fk,hb⟩:=M.ex
 obtain⟨W,D,ds',e0,e1',rfl⟩:=OP e1
 cases e1'
 refine TY (pl:=pl) (thn (ho pins s σ H (fun v H1=>Ext H H1/\Abe X.K (hid H1 P) (bG c W D) v) I ⟨P,ρ,_,hP,rs,e0,cR fun v H1 x1 r1=>⟨x1,r1⟩⟩) fun u s1 ⟨x,H1,I1,rx,x1,r1⟩=>?_) ht
 obtain⟨C',dx,a,w,q,rfl,hc',ha',h1,h2⟩:=yS r1
 obtain rfl:=oB hc hc'
 obtain rfl:u=dE a:=rx
 refine FZ I1 (Aay _ _ ha') cl me (hlk w q) ?_
 exact PySem.W.callWith_K0 (first:=[.ref a]) I1.kIn me.kp (SL (us:=[.ref a]) (vs:=[.ref a]) Fk hr hb I1 (.cons rfl .nil) (hP.ext x1) (Aac.mpr ⟨_,_,rfl,r1,Aai.mpr rfl⟩) ef (k'.mono x1) fun v s' hc=>hx H1 s1 v s' I1 x1 hc)
noncomputable def CL (K:aG)(c:aD)(F:FX):Sp:=fun vs H Q E=>∃ x dx C v1 P d1 d z,vs=[.ref x,v1]/\H x=some (.ins C dx [])/\dP K c=some (.ref C)/\Hid P H/\Abe K (hid H P) d1 v1/\F z [d1]=some d /\
 (∀ H' Fr,(∀ b o,b≠x->H b=some o->H' b=some o)->Fr.Nodup->(∀ a∈Fr,(a=x \/ H a=none) /\ ∃ o,H' a=some o)->Aed K (hid H' (orL P Fr)) H' 9 d (.ref x) Fr->Q .non H') /\ ∀ c',z=some c' -> ∀ cls H',dP K c'=some cls->Ext H H'->E cls none H'
structure MakeX (P:bB)(w:aW)(K:aG)(mg:aD->Option aE)(base:aP)(c:aD)(k:Nat)(ps:List aD)(F:FX):Prop where
 ex : ∃ C f fd,dP K c=some (.ref C)/\Mk K C f/\FnOk P w K mg base (CXR base P w) k f fd ps (CL K c F)/\Binds K fd ps []/\mg c=some (.ref C)
 one : ∀ z ds d,F z ds=some d -> ∃ d1,ds=[d1]
theorem Lb {p:bL}(D:MakeX X.prog X.w X.K X.mg X.base c k ps F)(hr:Room (k+1) X.A)(hg:Gl X c)(ha:DA X (e::es) fa)(hdb:(c == ("__debug__" : aD))=false:=by decide)(he:bI (e::es) X.env=(false,bJ e X.env)::bI es X.env:=by rfl)
  (hpl:(fD pos (bI es X.env)).any (·.1)=false:=by rfl):CallAt X (.Call (.Name c p) (e::es) [] pos) 9 F fa:=by
 intro pins σ H s z Q P ρ ds d I hP rs e1 ef k' hx
 obtain⟨C,f,fd,hc,M,Fk,hb,hm⟩:=D.ex
 obtain⟨d1,rfl⟩:=D.one _ _ _ ef
 refine HJ (yH I hg hm ?_ hdb)
 refine HS (h₀:=X.base) I.ok.mod.kin M.kp (thn (ha pos pins s σ H (fun vs H1=>Ext H H1/\Aap X.K (hid H1 P) [d1] vs) I ⟨P,ρ,_,hP,rs,e1,fun vs H1 x1 r1=>⟨x1,r1⟩⟩) fun us s1 ⟨vs,H1,I1,r,x1,r1⟩=>⟨I1.kIn,?_⟩) he hpl
 obtain⟨v1,rfl,r3⟩:=fZ r1
 obtain⟨u1,rfl,ru⟩:=vals1 r
 have fx:H1 (s1.heap.objs.size+1)=none:=I1.hok.fresh (wR _)
 have fdx:H1 s1.heap.objs.size=none:=I1.hok.fresh (bR _)
 have I2:=Inv.made (C:=C) I1
 have x2:Ext H1 (upd (upd H1 s1.heap.objs.size (.own (s1.heap.objs.size+1))) (s1.heap.objs.size+1) (.ins C s1.heap.objs.size [])):=fun b o q=>by
  rw[bO (gM q fx),bO (gM q fdx)]
  exact q
 have hq:CL X.K c F [.ref (s1.heap.objs.size+1),v1] (upd (upd H1 s1.heap.objs.size (.own (s1.heap.objs.size+1))) (s1.heap.objs.size+1) (.ins C s1.heap.objs.size [])) (fun v H2=>v = .non/\Q (.ref (s1.heap.objs.size+1)) H2)
   (fun cls _ H'=>(∃ c,z=some c/\dP X.K c=some cls)/\Ext (upd (upd H1 s1.heap.objs.size (.own (s1.heap.objs.size+1))) (s1.heap.objs.size+1) (.ins C s1.heap.objs.size [])) H'):=by
  refine⟨_,_,C,v1,P,d1,d,z,rfl,eB,hc,hP.ext (x1.trans x2),r3.ext (bS x2),ef,fun H' Fr kp nd fr ro=>⟨rfl,?_⟩,fun c' hc' cls H' e2 x3=>⟨⟨c',hc',e2⟩,x3⟩⟩
  refine k' _ H' Fr (fun b o q=>?_) nd (fun a m=>⟨?_,(fr a m).2⟩) ro
  ·exact kp b o (gM (x1 _ _ q) fx) (x2 _ _ (x1 _ _ q))
  ·rcases(fr a m).1 with rfl | q
   ·exact x1.none fx
   ·exact x1.none (x2.none q)
 have r2:Vals [V.ref (s1.heap.objs.size+1),v1] [dE (s1.heap.objs.size+1),u1]:=.cons rfl (.cons ru .nil)
 have hl:[dE (s1.heap.objs.size+1),u1].length=ps.length:=by
  have e:=r2.length
  rw[Fk.len _ _ _ _ hq] at e
  exact e.symm
 have hbs:qX { s1 with heap:=(s1.heap.push mE).push (nJ C s1.heap.objs.size) } fd ⟨[dE (s1.heap.objs.size+1),u1],[]⟩ (ps.zip [dE (s1.heap.objs.size+1),u1]):=by
  have:=hb { s1 with heap:=(s1.heap.push mE).push (nJ C s1.heap.objs.size) } [dE (s1.heap.objs.size+1),u1] I2.kIn (by simpa using hl)
  simpa using this
 refine wpAny_call (Mm (f:=f) I1.kIn M.makes M.init (beq_iff_eq.mp M.fn) (qK (Fk.run _ X.stack _ _ ⟨[dE (s1.heap.objs.size+1),u1],[]⟩ [dE (s1.heap.objs.size+1),u1] _ _ _ (hr.make C [u1] [])
  (I2.env0.make C [u1] []) hbs r2 hq) fun r s' hq'=>?_))
 cases r with
 | error e=>exact hx _ _ e s' I2 (x1.trans x2) hq'
 | ok fl=>
  cases fl with
  | ret u=>
   obtain⟨v,H',I3,rv,ev,q3⟩:=I2.after hq'
   subst ev
   exact⟨rv,⟨V.ref (s1.heap.objs.size+1),H',I3,rfl,q3⟩⟩
  | next=>exact iQ hq'
  | brk=>exact iQ hq'
  | cont=>exact iQ hq'
end
def leS (a b:aD):Prop:=a.cps.toList≤b.cps.toList
theorem Bf {a b c:aD}(h1:leS a b)(h2:leS b c):leS a c:=List.le_trans h1 h2
theorem Mu {a b:aD}(h1:leS a b)(h2:leS b a):a=b:=by
 have e:=List.le_antisymm h1 h2
 obtain⟨x⟩:=a
 obtain⟨y⟩:=b
 have e':x.toList=y.toList:=e
 rw[BG.mp e']
theorem QK : ∀ {p:aD} {l:List aD},risingS p l=true->(∀ x∈l,leS p x)/\l.Pairwise leS
 | p,[],_=>⟨fun x m=>by simp at m,.nil⟩
 | p,x::r,h=>by
  have h':=h
  obtain⟨h1,h2⟩:=kM.mp h'
  rw[ltCps_eq] at h1
  have l1:leS p x:=by
   have:decide (x.cps.toList<p.cps.toList)=false:=by simpa using h1
   exact List.not_lt.mp (of_decide_eq_false this)
  obtain⟨a1,a2⟩:=QK h2
  refine⟨fun y m=>?_,.cons a1 a2⟩
  rcases cP.mp m with rfl | m
  ·exact l1
  ·exact Bf l1 (a1 y m)
theorem Es : ∀ {l:List aD},sortedS l=true->l.Pairwise leS
 | [],_=>.nil
 | x::r,h=>by
  obtain⟨a1,a2⟩:=QK h
  exact .cons a1 a2
noncomputable def GY (ss:List aD):List aD:=open Classical in if h : ∃ js:List aD,js.Perm ss/\js.Pairwise leS then h.choose else ss
theorem By {ss js:List aD}(hp:js.Perm ss)(hr:js.Pairwise leS):js=GY ss:=by
 have h : ∃ js:List aD,js.Perm ss/\js.Pairwise leS:=⟨js,hp,hr⟩
 unfold GY
 rw[dif_pos h]
 exact Pb (fun a b _ _ h1 h2=>Mu h1 h2) hr h.choose_spec.2 (hp.trans h.choose_spec.1.symm)
section
variable {X:Cx}
theorem RK : ∀ {ns:List aD} {vs:List aE},Vals (ns.map V.str) vs->StrsAre vs ns
 | [],_,.nil=>.nil
 | n::ns,_,.cons ⟨t,e⟩ r=>by
  subst e
  exact .cons n t (RK r)
theorem JL : ∀ {ns:List aD} {vs:List aE},StrsAre vs ns->Vals (ns.map V.str) vs
 | _,_,.nil=>.nil
 | _,_,.cons n t h=>.cons ⟨t,rfl⟩ (JL h)
noncomputable def xP:List aA->Option (List aD)
 | []=>some []
 | .str i::r=>(xP r).bind fun is=>some (i::is)
 | _::_=>none
theorem LN : ∀ {ds:List aA} {is:List aD},xP ds=some is->ds=is.map cT
 | [],is,e=>by cases e; rfl
 | .str i::ds,is,e=>by
  obtain⟨is',e1,e2⟩:=XBs (show((xP ds).bind fun is=>some (i::is))=some is from e)
  cases e2
  rw[LN e1]
  rfl
 | .none::_,_,e=>by cases e
 | .bool _::_,_,e=>by cases e
 | .int _::_,_,e=>by cases e
 | .list _::_,_,e=>by cases e
 | .tuple _::_,_,e=>by cases e
 | .dict _::_,_,e=>by cases e
theorem RB {K:aG}{H:Hp} : ∀ {is:List aD} {ys:List V},Aap K H (is.map cT) ys->ys=is.map V.str /\ ∀ i∈is,cO (.str i)=true
 | [],ys,r=>⟨Aai.mp r,fun i m=>by simp at m⟩
 | i::is,ys,r=>by
  obtain⟨v,t,rfl,r1,r2⟩:=Aac.mp r
  obtain⟨e1,c1⟩:=Aas.mp r1
  obtain⟨e2,c2⟩:=RB r2
  refine⟨by rw[e1,e2]; rfl,fun j m=>?_⟩
  rcases cP.mp m with rfl | m
  ·exact c1
  ·exact c2 j m
theorem QD {K:aG}{H:Hp} : ∀ {is:List aD},(∀ i∈is,cO (.str i)=true)->Aap K H (is.map cT) (is.map V.str)
 | [],_=>Aai.mpr rfl
 | i::is,h=>Aac.mpr ⟨_,_,rfl,Aas.mpr ⟨rfl,h i bX⟩,QD fun j m=>h j (cD _ m)⟩
variable {x:aD}{k n0:Nat}{ps:List aD}{F:List aA->Option aA}{p pos:bL}
end
open PySem PySem.SetTable
def VI (xs:Array Nat):Prop:=∀ a b u v:Nat,a<b->xs[a]?=some u->xs[b]?=some v->u<v
noncomputable def adv (mask:Nat)(p:Probe):Probe:=if p.more > 0 then { p with j:=p.j+1,more:=p.more - 1 } else
 { p with j:=(leap mask p.i p.perturb).1,more:=runEnd mask (leap mask p.i p.perturb).1 - (leap mask p.i p.perturb).1,i:=(leap mask p.i p.perturb).1,perturb:=(leap mask p.i p.perturb).2 }
noncomputable def pN (mask:Nat)(p:Probe):Nat->Probe
 | 0=>p
 | n+1=>adv mask (pN mask p n)
noncomputable def blk (mask i per:Nat):Probe:={ j:=i,more:=runEnd mask i - i,i,perturb:=per,dummy:=none }
noncomputable def lp (mask:Nat)(s:Nat×Nat):Nat->Nat×Nat
 | 0=>s
 | m+1=>leap mask (lp mask s m).1 (lp mask s m).2
def ZT (mask:Nat):Prop:=mask=7 \/ mask=31 \/ mask=127 \/ mask=511 \/ mask=2047 \/ mask=8191
noncomputable def rd (mask:Nat)(h:Int)(n:Nat):Probe:=pN mask (blk mask (bits h%(mask+1)) (bits h)) n
def WT (t:wL)(j:Nat):Prop:=∃ i:Nat,t.place[i]?=some j
structure Good (t:wL)(es:Array (Int×aE)):Prop where
 small:ZT t.mask
 nod:t.dummies = #[]
 ris:VI t.place
 len:t.place.size=es.size
 inb : ∀ i j:Nat,t.place[i]?=some j->j≤t.mask
 room:es.size≤t.mask
 reach : ∀ (i j:Nat) (e:Int×aE),t.place[i]?=some j->es[i]?=some e -> ∃ n,(rd t.mask e.1 n).j=j /\ ∀ m<n,WT t (rd t.mask e.1 m).j
structure Own (mask:Nat)(hs:List Int)(ow:Array (Option Nat)):Prop where
 size:ow.size=mask+1
 lt : ∀ j i:Nat,ow[j]?=some (some i)->i<hs.length
 inj : ∀ j j' i:Nat,ow[j]?=some (some i)->ow[j']?=some (some i)->j=j'
 all : ∀ i<hs.length,∃ j:Nat,ow[j]?=some (some i)
 reach : ∀ (j i:Nat) (h:Int),ow[j]?=some (some i)->hs[i]?=some h -> ∃ n,(rd mask h n).j=j /\ ∀ m<n,∃ i':Nat,ow[(rd mask h m).j]?=some (some i')
theorem Mr {ow:Array (Option Nat)}{j:Nat}(hj:j<ow.size):ow[j]?=some none \/ ∃ i,ow[j]?=some (some i):=by
 rw[Pf hj]
 cases ow[j] with
 | none=>exact .inl rfl
 | some i=>exact .inr ⟨i,rfl⟩
theorem Own.free {mask:Nat}{hs:List Int}{ow:Array (Option Nat)}(O:Own mask hs ow)(hl:hs.length≤mask) : ∃ e,e≤mask/\ow[e]?=some none:=by
 apply Pe
 intro hn
 have hall : ∀ j≤mask,∃ i:Nat,ow[j]?=some (some i):=fun j hj=>by
  rcases Mr (ow:=ow) (j:=j) (by rw[O.size]; omega) with c | c
  ·exact absurd ⟨j,hj,c⟩ hn
  ·exact c
 have hnd:((dN (mask+1)).map fun j=>((ow[j]?).join).getD 0).Nodup:=by
  unfold List.Nodup
  rw[tN]
  refine List.Pairwise.imp_of_mem ?_ List.pairwise_lt_range
  intro a b ha hb hab e
  obtain⟨i,ei⟩:=hall a (by have:=lD.mp ha; omega)
  obtain⟨i',ei'⟩:=hall b (by have:=lD.mp hb; omega)
  rw[ei,ei'] at e
  have:i=i':=by simpa using e
  subst this
  have:=O.inj a b i ei ei'
  omega
 have:=UX hnd (fun v m=>by
  obtain⟨j,hj,rfl⟩:=cH.mp m
  obtain⟨i,ei⟩:=hall j (by have:=lD.mp hj; omega)
  rw[ei]
  exact lD.mpr (O.lt j i ei))
 simp at this
 omega
structure Fine (t:wL)(es:Array (Int×aE)):Prop where
 good:Good t es
 few:es.size*5<t.mask*3/\es.size≤4914
theorem Fine.fits {t:wL}{es:Array (Int×aE)}(F:Fine t es):t.fits es.size=true:=by
 have h1:=F.good.len
 have h2:=F.good.nod
 have h3:=F.good.room
 simp[SetTable.fits,SetTable.fill,h1,h2,h3]
open PySem PySem.Spec PyProof.Rows PySem.SetTable
noncomputable def RV (w:aW):Bool:=w.params.followText "set-order"
noncomputable abbrev Aqy (led:Bool):aY:={ cls:=.type "set",dict:=none,data:=.set #[] 0 (.fresh 0 0 led) }
theorem SA {α β:Type}{R:α->β->Prop} : ∀ {as:List α} {bs:List β},dI R as bs -> ∀ {i:Nat} {a:α},as[i]?=some a -> ∃ b,bs[i]?=some b/\R a b
 | _,_,.nil,i,a,h=>by simp at h
 | _,_,.cons h t,0,a,e=>⟨_,rfl,by simp at e; exact e ▸ h⟩
 | _,_,.cons h t,i+1,a,e=>SA t (by simpa using e)
theorem JX {α β:Type}{R:α->β->Prop} : ∀ {as:List α} {bs:List β},dI R as bs -> ∀ {i:Nat} {b:β},bs[i]?=some b -> ∃ a,as[i]?=some a/\R a b
 | _,_,.nil,i,a,h=>by simp at h
 | _,_,.cons h t,0,a,e=>⟨_,rfl,by simp at e; exact e ▸ h⟩
 | _,_,.cons h t,i+1,a,e=>JX t (by simpa using e)
section
variable {prog:bB}{w:aW}{B:List aA->aB->Prop}
def ElT (w:aW)(B:List aA->aB->Prop)(h:aP)(e:Int×aE)(k:List aA):Prop:=∃ b,e.2 = .ref b/\e.1=nQ w (.tuple k)/\Ag9 h k b/\B k b
structure SetAt (w:aW)(B:List aA->aB->Prop)(h:aP)(a:aB)(o:aY)(es:Array (Int×aE))(ep:Nat)(t:wL)(ks:List (List aA)):Prop where
 get:h.get? a=some o
 exact:o.ExactSet
 data:o.data = .set es ep t
 fine:Fine t es
 led:t.led = !RV w
 els:dI (ElT w B h) es.toList ks
 nod:ks.Nodup
end
section
variable {prog:bB}{w:aW}{B:List aA->aB->Prop}
theorem SJ {α β:Type}{R R':α->β->Prop}(f : ∀ a b,R a b->R' a b) : ∀ {as:List α} {bs:List β},dI R as bs->dI R' as bs
 | _,_,.nil=>.nil
 | _,_,.cons h t=>.cons (f _ _ h) (SJ f t)
def SetT (w:aW)(B:List aA->aB->Prop)(h:aP)(a:aB)(ks:List (List aA)):Prop:=∃ o es ep t ks',SetAt w B h a o es ep t ks'/\ks'.Perm ks
end
section
variable {prog:bB}{w:aW}{B:List aA->aB->Prop}
theorem SetT.len {h:aP}{a:aB}{ks:List (List aA)}(S:SetT w B h a ks) : ∃ o es ep t,h.get? a=some o/\o.ExactSet/\o.data = .set es ep t/\t.fits es.size=true/\es.size=ks.length:=by
 obtain⟨o,es,ep,t,ks',Z,p⟩:=S
 refine⟨o,es,ep,t,Z.get,Z.exact,Z.data,Z.fine.fits,?_⟩
 have:=nK Z.els
 rw[mI] at this
 rw[this,p.length_eq]
theorem SetT.keep {h h':aP}{a:aB}{ks:List (List aA)}(S:SetT w B h a ks)(k1 : ∀ o,h.get? a=some o->h'.get? a=some o)(k2 : ∀ b o vs n,h.get? b=some o->o.cls = .type "tuple" -> o.data = .seq vs n->h'.get? b=some o):SetT w B h' a ks:=by
 obtain⟨o,es,ep,t,ks',Z,p⟩:=S
 exact⟨o,es,ep,t,ks',⟨k1 o Z.get,Z.exact,Z.data,Z.fine,Z.led,SJ (fun e k ⟨b,q1,q2,q3,q4⟩=>⟨b,q1,q2,q3.keep k2,q4⟩) Z.els,Z.nod⟩,p⟩
end
noncomputable abbrev isO (a:aB)(o:aY):HO:=.ext fun h=>h.get? a=some o
noncomputable instance memK (k:aL)(acc:List aL):Decidable (k∈acc):=decidable_of_iff (acc.any (fun x=>decide (x=k))=true) (by simp[IJ])
noncomputable def fX (acc:List aL)(k:aL):List aL:=if k∈acc then acc else acc++[k]
noncomputable def fA (ks:List aL):List aL:=ks.foldl fX []
theorem Ar (ks:List aL):(fA ks).length≤ks.length:=by
 have go : ∀ (l acc:List aL),(l.foldl fX acc).length≤acc.length+l.length:=by
  intro l
  induction l with
  | nil=>intro acc; simp
  | cons x r ih=>
   intro acc
   have h2:(fX acc x).length≤acc.length+1:=by unfold fX; split <;> simp
   have:=ih (fX acc x)
   simp only[xB,eE]
   omega
 have:=go ks []
 simpa [fA] using this
def Avn (prog:bB)(w:aW)(h:aP)(a:aB)(ks:List aL):Prop:=h.SetOf (dR prog w) a (fun k=>decide (k∈ks)) ks.length
section
variable {prog:bB}{w:aW}{A:cA}{E:aE->aH->Prop}{s:aH}
theorem ZI {h:aP}{a:aB}{led:Bool}(e:h.get? a=some (Aqy led)):Avn prog w h a []:=
 ⟨_,#[],0,_,e,⟨rfl,rfl,rfl⟩,rfl,fun e he=>by simp at he,fun k=>by simp,by decide,by rfl,rfl⟩
theorem Avn.keep {h h':aP}{a:aB}{ks:List aL}(S:Avn prog w h a ks)(k : ∀ o,h.get? a=some o->h'.get? a=some o):Avn prog w h' a ks:=by
 obtain⟨o,es,ep,t,ho,rest⟩:=S
 exact⟨o,es,ep,t,k o ho,rest⟩
theorem Avn.congr {h:aP}{a:aB}{S:aL->Bool}{n:Nat}{ks:List aL}(x:h.SetOf (dR prog w) a S n)(e1 : ∀ k,S k=decide (k∈ks))(e2:n=ks.length):Avn prog w h a ks:=by
 have:S=fun k=>decide (k∈ks):=funext e1
 subst this
 subst e2
 exact x
theorem Bm {R:qM->aH->Prop}{I:aB}{fp wr:List aB}{G:Array tQ->Array tQ->Prop}{n:Nat}{P:Nat->aE->Prop}{St:Nat->aH->Prop}
  (W:WalksS prog w A.in1 I fp wr G n P St) (S:aB) (hSf:S∉fp) (kss:List aL) (hn:n+1<AM) (hP : ∀ j v,P j v -> ∃ q,kss[j]?=some q/\(dR prog w).is q v=true/\v.scannable=true) :
  ∀ (k i:Nat) (s:aH),n - i=k->i≤n->St i s->Avn prog w s.heap S (fA (kss.take i)) ->
   (∀ s',Moved (S::wr) G s s'->Avn prog w s'.heap S (fA (kss.take n))->R (.ok (.ret .none)) s') ->
   lA (aT prog w) A (.builtin "set.update.loop" ⟨[.ref S,.ref I],[]⟩) R s:=by
 have hSw:S∉wr:=fun z=>hSf (W.sub _ z)
 have more : ∀ b∈wr,b∈S::wr:=fun b z=>cD _ z
 intro k
 induction k with
 | zero=>
  intro i s hk hi hst hS hR
  obtain rfl:i=n:=by omega
  refine oY F.entry_set_update_loop ?_
  rw[qY VA _]
  refine aK (W.done s _ _ hst fun s' hm=>?_)
  exact bA (hR s' (hm.mono more) (hS.keep fun o q=>hm.heap S o hSw q))
 | succ k ih=>
  intro i s hk hi hst hS hR
  have hlt:i<n:=by omega
  refine oY F.entry_set_update_loop ?_
  rw[qY VA _]
  refine aK (W.item i s _ _ hlt hst fun v s' hPi hst' hm=>?_)
  obtain⟨q,hq,his,hsc⟩:=hP i v hPi
  have hS':=hS.keep fun o z=>hm.heap S o hSw z
  have hstep:fA (kss.take (i+1))=fX (fA (kss.take i)) q:=by
   rw[IG,hq]
   simp[fA,List.foldl_append]
  have hlen:(fA (kss.take i)).length≤i:=jC (Ar _) (by rw[qQ]; omega)
  refine aK (iY ?_)
  unfold setAdd
  refine iY (aK ((dR prog w).pyHash his ?_))
  refine wpAny_setAddHashed_of his hsc hS' (by omega) fun h' sb S2=>?_
  have S3:Avn prog w h' S (fA (kss.take (i+1))):=by
   rw[hstep]
   refine Avn.congr S2 (fun k'=>?_) ?_
   ·unfold fX
    by_cases m:q∈fA (kss.take i)
    ·rw[if_pos m]
     by_cases c:k'=q
     ·subst c; simp[m]
     ·simp[c]
    ·rw[if_neg m]
     simp
   ·unfold fX
    by_cases m:q∈fA (kss.take i)
    ·simp[m]
    ·simp[m]
  refine bA ⟨sY VA _,ih (i+1) _ (by omega) hlt (W.frame _ s' _ _ hst' (wR _) fun c hc o e=>?_) S3 fun s'' hm'' S4=>?_⟩
  ·exact(sb.2 c (fun z=>hSf (z ▸ hc))).trans e
  ·exact hR s'' (Moved.trans W.gtrans ((hm.mono more).then_heap (wR _) fun c o hc e=>(sb.2 c (fun z=>hc (z ▸ bX))).trans e) hm'') S4
set_option maxHeartbeats 4000000 in
theorem Bg {l:aB}{items:Array aE}{kss:List aL}{Q:aE->aH->Prop}(hh:A.handled=none)(hl:s.heap.IsList l items)
  (hd : ∀ (j:Nat) v,items[j]?=some v -> ∃ q,kss[j]?=some q/\(dR prog w).is q v=true/\v.scannable=true) (hlen:items.size+1<AM) (hkl:kss.length=items.size)
  (h : ∀ (h':aP) (tk:Nat),s.toks≤tk->Avn prog w h' s.heap.objs.size (fA kss)->(∀ b o,b<s.heap.objs.size->s.heap.get? b=some o->h'.get? b=some o)->Q (.ref s.heap.objs.size) { s with heap:=h',toks:=tk }) :
  aQ (aT prog w) A (call (.type "set") [.ref l]) Q E s:=by
 obtain⟨c,tl,hmro⟩:=qV.mro
 have hmade:=qV.made
 have hsub:=qV.sub
 refine wpAny_call (codeAny_of_tree (show aQ _ _ (callAny (.type "set") _) _ _ _ from ?_))
 refine bA ⟨Code.quiet_builtin _ (by decide +kernel),oY F.entry_type_call ?_⟩
 rw[Around.under_plain (weight_type_call_type "set" [.ref l] []) rfl]
 have z1:=qV.notType
 have z2:=qV.canCreate
 have z3:=F.typeCall_set_1 (.ref l)
 repeat (any_goals (first | assumption | wp_step))
 refine qK (code_set_new_1 (.ref l) (E:=E) (Q₁:=fun u s₁=>∃ led:Bool,u = .ref s.heap.objs.size/\s₁ = { s with heap:=s.heap.push (Aqy led) }) fun led=>⟨led,rfl,rfl⟩) fun r s₁ hr=>?_
 match r,hr with
 | .error e,hr=>exact hr
 | .ok (.ret u),hr=>
  obtain⟨led,rfl,rfl⟩:=hr
  have gS:(s.heap.push (Aqy led)).get? s.heap.objs.size=some (Aqy led):=eZ _ rfl
  have hT:Shared.TypeIs { s with heap:=s.heap.push (Aqy led) } (.ref s.heap.objs.size) "set":=⟨_,gS,rfl⟩
  have y1:=qV.init.lookup
  have y2:=qV.init.bind (.ref s.heap.objs.size)
  repeat (any_goals (first | assumption | wp_step))
  refine qK (codeAny_call_builtin (R:=wants (fun r s₂=>r = .none /\ ∃ h' tk,s.toks≤tk/\s₂ = { s with heap:=h',toks:=tk }/\Avn prog w h' s.heap.objs.size (fA kss)/\(∀ b o,b<s.heap.objs.size->s.heap.get? b=some o->h'.get? b=some o)) E) qV.init.plain F.entry_set_init (check_set_init_1 hT ?_)) fun r₂ s₂ hr₂=>?_
  ·obtain⟨ol,gl,cl,nl,dl⟩:=hl
   obtain⟨ocls,odict,odata,oslots⟩:=ol
   simp only at cl dl
   subst cl
   subst dl
   have gl':(s.heap.push (Aqy led)).get? l=some { cls:=.type "list",dict:=odict,data:=.seq items nl,slots:=oslots }:=cN _ gl
   have x1:=F.sub_list_set
   have x2:=F.sub_list_frozenset
   have x3:(jP "list" == jP "dict")=false:=by decide
   have L1:(s.heap.push (Aqy led)).IsList l items:=⟨_,gl',rfl,nl,rfl⟩
   unfold Builtin.«set.__init__» noKeywords Builtin.Frozenset.updateFrom
   generalize hPI:pyIter=PI
   wp_walk
   subst hPI
   refine HG L1 (aK (wpAny_runValue ?_))
   have lS:l<s.heap.objs.size:=cG gl
   have hI:(s.heap.push (Aqy led)).objs.size=s.heap.objs.size+1:=IK _ _
   have nI:l≠(s.heap.push (Aqy led)).objs.size:=by rw[hI]; exact dG (IC lS)
   have nS:s.heap.objs.size∉[(s.heap.push (Aqy led)).objs.size,l]:=by
    intro z
    rw[hI] at z
    rcases cP.mp z with z | z
    ·exact absurd z (dG (Nat.lt_succ_self _))
    ·exact absurd (dH.mp z) (qP lS)
   have gI:((s.heap.push (Aqy led)).push { cls:=.type "list_iterator",data:=.fields #[.ref l,.int 0 0] }).get? s.heap.objs.size=some (Aqy led):=cN _ gS
   refine Bm (w:=w) ((Walks.list (by simp[hh]) _ l nI items).toS) s.heap.objs.size nS kss hlen hd (items.size - 0) 0 _ rfl (eX _) ⟨⟨_,eZ _ rfl,rfl,rfl⟩,L1.push _⟩ (ZI gI) fun s' hm S'=>?_
   ·obtain⟨h',g',d',tk',os'⟩:=s'
    obtain rfl:g'=s.gens:=hm.gens
    obtain rfl:d'=s.drawn:=hm.drawn
    obtain rfl:os'=s.os:=hm.os
    show aQ _ _ _ _ _ _
    refine bA ?_
    show aQ _ _ (ret fU) _ _ _
    refine bA ⟨rfl,h',tk',hm.toks,rfl,by rw[← List.take_length (l:=kss),hkl]; exact S',fun b o hb e=>?_⟩
    refine hm.heap b o (fun z=>?_) (cN _ (cN _ e))
    rw[hI] at z
    rcases cP.mp z with z | z
    ·exact absurd z (dG hb)
    ·exact absurd (dH.mp z) (dG (IC hb))
  ·match r₂,hr₂ with
   | .error e,hr₂=>exact hr₂
   | .ok (.ret v),hr₂=>
    obtain⟨rfl,h',tk,ht,rfl,S',hk'⟩:=hr₂
    repeat (any_goals (first | assumption | wp_step))
    exact h _ _ ht S' hk'
end
def JR (prog:bB)(w:aW)(o:aY)(ks:List aL):Prop:=∃ es ep t,o.ExactSet/\o.data = .set es ep t/\ElemsOf (dR prog w) es.toList/\(∀ k,k∈ks ↔ ∃ e∈es.toList,(dR prog w).is k e.2=true)/\es.size<AM/\t.fits es.size=true/\es.size=ks.length
section
variable {X:Cx}
theorem Cy (hc:X.calm=true):Ado X (.type "set") (fun xs H Q=>∃ p ks,xs=[.ref p]/\SqL X.K H p (ks.map kV)/\ks.length≤4000 /\ ∀ a o,H a=none->JR X.prog X.w o (fA ks)->Q (.ref a) (upd H a (isO a o))):=by
 intro pins s σ H xs us Q I r h
 obtain⟨p,ks,rfl,hp,hl,q⟩:=h
 obtain⟨u,rfl,ru⟩:=vals1 r
 cases ru
 obtain⟨its,rv,pl,_⟩:=I.list hp
 have e1:=rv.length
 rw[cL] at e1
 refine Bg (I.ok.hd hc) pl.isList (fun j v ev=>?_) (by rw[dJ]; unfold AM; omega) (by rw[dJ]; omega) fun h' tk ht S' hk=>?_
 ·have ev':its[j]?=some v:=by simpa using ev
  obtain⟨y,hy,ry⟩:=JX rv ev'
  rw[eY] at hy
  obtain⟨k,hk,rfl⟩:=lC.mp hy
  refine⟨k,hk,rB ry,?_⟩
  cases k with
  | inl i=>obtain⟨t,rfl⟩:=ry; rfl
  | inr z=>obtain⟨t,rfl⟩:=ry; rfl
 ·obtain⟨o,es,ep,t,ho,hex,hd,hel,hmem,hb,hf,hn⟩:=S'
  have I':=I.laid (t':=tk) (h':=h') (o:=isO s.heap.objs.size o) (fun b u e=>hk b u (cG e) e) (bR _) (show Aci X.prog X.w _ _ _ (.ext _) from⟨ho,⟨o,ho⟩,fun _ _ e k=>k _ e⟩)
  exact⟨.ref s.heap.objs.size,_,I',rfl,q _ o I.fresh ⟨es,ep,t,hex,hd,hel,fun k=>by rw[← hmem k]; simp,hb,hf,hn⟩⟩
theorem Ck:Ado X (.builtin "len") (fun xs H Q=>∃ a o ks,xs=[.ref a]/\H a=some (isO a o)/\JR X.prog X.w o ks/\Q (.int ks.length) H):=by
 intro pins s σ H xs us Q I r h
 obtain⟨a,o,ks,rfl,ha,⟨es,ep,t,hx,hd,_,_,hb,hf,hz⟩,q⟩:=h
 obtain⟨u,rfl,ru⟩:=vals1 r
 cases ru
 obtain⟨g,_,_⟩:=(show Aci X.prog X.w H s.heap a (.ext _) from I.hok a _ ha)
 exact call_len_set g hx hd hf (by unfold AM at hb; omega) ⟨.int ks.length,H,I.tok _,⟨s.toks+1,by rw[hz]⟩,q⟩
noncomputable def qB:List aA->Option (List aL)
 | []=>some []
 | d::r=>(cI d).bind fun k=>(qB r).bind fun ks=>some (k::ks)
theorem OE {K:aG}{H:Hp} : ∀ {ds:List aA} {ks:List aL} {ys:List V},qB ds=some ks->Aap K H ds ys->ys=ks.map kV
 | [],ks,ys,e,r=>by cases e; exact Aai.mp r
 | d::ds,ks,ys,e,r=>by
  obtain⟨k,e1,e⟩:=XBs e
  obtain⟨ks',e2,e⟩:=XBs e
  cases e
  obtain⟨v,t,rfl,r1,r2⟩:=Aac.mp r
  rw[vB e1 r1,OE e2 r2]
  rfl
noncomputable def MZ:List aA->Option aA
 | [.list ds]=>(qB ds).bind fun ks=>if ks.length≤4000 then some (.int (fA ks).length) else none
 | _=>none
theorem Cz {e:aR}{fe:EF}{p1 p2 pos1 pos2:bL}(hc:X.calm=true)(g1:Gl X "len")(m1:X.mg "len" = none)(g2:Gl X "set")(m2:X.mg "set" = none)(he:DE X e fe)
  (hs1:bI [Expr.Call (.Name "set" p2) [e] [] pos2] X.env=[(false,bJ (Expr.Call (.Name "set" p2) [e] [] pos2) X.env)]:=by rfl) (hs2:bI [e] X.env=[(false,bJ e X.env)]:=by rfl) :
  DE X (.Call (.Name "len" p1) [.Call (.Name "set" p2) [e] [] pos2] [] pos1) (aN MZ (aJ fe aM)):=by
 have h1:PE X (.Call (.Name "set" p2) [e] [] pos2) _:=PC (Cy hc) g2 m2 rfl (fP he iN hs2) (by decide) (by decide) hs2 rfl
 have h2:PE X (.Call (.Name "len" p1) [.Call (.Name "set" p2) [e] [] pos2] [] pos1) _:=EN Ck g1 m1 rfl (fP h1 iN hs1) (by decide) (by decide) hs1 rfl
 refine PE.imp h2 fun σ H Q gh=>?_
 obtain⟨P,ρ,d,hP,rs,ef,k⟩:=gh
 obtain⟨ds0,e0,ef⟩:=XBs ef
 obtain⟨d1,e1,e0⟩:=XBs e0
 have e0:[d1]=ds0:=by simpa [aM] using e0
 subst e0
 cases d1 with
 | list ds=>
  obtain⟨ks,e2,ef⟩:=XBs (show((qB ds).bind fun ks=>if ks.length≤4000 then some (aS (fA ks).length) else none)=some d from ef)
  obtain⟨hl,rfl⟩:=cX ef
  refine⟨P,ρ,.list ds,hP,rs,e1,cR fun v H1 x1 r1=>?_⟩
  obtain⟨q,ys,rfl,hq,rr⟩:=Abm.mp r1
  obtain rfl:=OE e2 rr
  exact⟨q,ks,rfl,Aay.sqL hq,hl,fun a o hn S=>⟨a,o,fA ks,rfl,eB,S,k.zero (x1.trans (Ext.new hn)) (Aaq.mpr rfl)⟩⟩
 | _=>cases ef
end
section
variable {prog:bB}{w:aW}
def ElI (prog:bB)(w:aW)(e:Int×aE)(n:Int):Prop:=e.1=(intKind prog w).hash n /\ ∃ t,e.2 = .int n t
structure IntsAt (prog:bB)(w:aW)(h:aP)(a:aB)(o:aY)(es:Array (Int×aE))(ep:Nat)(t:wL)(ns:List Int):Prop where
 get:h.get? a=some o
 exact:o.ExactSet
 data:o.data = .set es ep t
 fine:Fine t es
 led:t.led = !RV w
 plain:t.plain=true
 els:dI (ElI prog w) es.toList ns
 nod:ns.Nodup
def Bb7 (prog:bB)(w:aW)(h:aP)(a:aB)(ns:List Int):Prop:=∃ o es ep t ns',IntsAt prog w h a o es ep t ns'/\ns'.Perm ns
theorem Bb7.keep {h h':aP}{a:aB}{ns:List Int}(S:Bb7 prog w h a ns)(k : ∀ o,h.get? a=some o->h'.get? a=some o):Bb7 prog w h' a ns:=by
 obtain⟨o,es,ep,t,ns',S,p⟩:=S
 exact⟨o,es,ep,t,ns',⟨k o S.get,S.exact,S.data,S.fine,S.led,S.plain,S.els,S.nod⟩,p⟩
end
open PySem PySem.Spec PySem.W PyProof.Rows PySem.SetTable
theorem ET {α:Type}(xs:List α)(d:α):(dN xs.length).map (fun i=>xs.getD i d)=xs:=by
 apply List.ext_getElem
 ·simp
 ·intro i h1 h2
  simp at h1
  simp[h1]
section
variable {prog:bB}{w:aW}{A:cA}{E:aE->aH->Prop}{s:aH}
theorem Ol {h0:aP}{a:aB}{n:Nat}{vs:List aE}{kss:List (List aA)}{P:HU->aH->Prop}(ho:s.heap.get? a=some (kC "list" vs.toArray n))(ht:Ahb h0 vs kss)(kp : ∀ b o,h0.get? b=some o->(iU s.heap a vs).get? b=some o)(ok:okT kss=true)(h64:vs.length<64)
  (h : ∀ p:List Nat,p.Perm (dN vs.length)->p.map (fun i=>kss.getD i [])=iA kss->P (.done (.ret .none)) { s with heap:=sortedHeap s.heap a vs (jD (p.map fun i=>vs.getD i fU)) }) :
  aQ (aT prog w) A (Builtin.«list.sort» ⟨[.ref a],[]⟩) P E s:=by
 have ln:=nK ht
 by_cases h2:vs.length<2
 ·refine Ni ho h2 ?_
  have:=h (dN vs.length) (List.Perm.refl _) (by
   rw[ln,ET kss]
   refine NW ok (List.Perm.refl _) ?_
   match kss,ln with
   | [],_=>exact .nil
   | [k],_=>simp
   | _::_::_,ln=>simp at ln; omega)
  rw[ET vs] at this
  exact this
 ·have hs:sameAll kss=true/\(kss.all fun k=>(lO k).isSome)=true:=by
   have h2' : ¬ kss.length<2:=by omega
   have:(sameAll kss&&kss.all fun k=>(lO k).isSome)=true:=by simpa [okT,h2'] using ok
   exact kM.mp this
  obtain⟨k0,m0⟩ : ∃ k0,k0∈kss:=by
   cases hk:kss with
   | nil=>rw[hk] at ln; exact absurd ln (by simp; intro e; rw[e] at h2; simp at h2)
   | cons k r=>exact⟨k,bX⟩
  obtain⟨T,hT⟩:=wQ.mp (fV.mp hs.2 k0 m0)
  have sm : ∀ k∈kss,∀ k'∈kss,dM k k'=true:=fun k m k' m'=>fV.mp (fV.mp hs.1 k m) k' m'
  have ht':=ht.keep kp
  refine Lg (κ:=tuples' (jP T != jP "tuple")) (Hz kss) ho (by omega) h64 (fun R q=>?_) (fun i j C hi hj q=>?_) fun p hp ha=>?_
  ·obtain⟨fs,f1,f2,f3⟩:=OW (M:=aT prog w) ht' fun k m=>(same_kind (sm k m k0 m0)).trans hT
   exact kat_kind f1 (by omega) f3 (by rcases Jy hT with rfl | rfl <;> decide) q
  ·obtain⟨b,e1,⟨_,_,as,r1⟩,m1⟩:=ht'.get i hi
   obtain⟨b',e2,⟨_,_,as',r2⟩,m2⟩:=ht'.get j hj
   rw[e1,e2]
   obtain⟨_,o,xs,n,z,ho,_,hd,hr⟩:=mZ r1
   cases z
   obtain⟨_,o',xs',n',z,ho',_,hd',hr'⟩:=mZ r2
   cases z
   have hsm:=sm _ m1 _ m2
   have l1:=vC hr
   have l2:=vC hr'
   have ll:=yX hsm
   have:decide (xs.size<xs'.size)=false:=decide_eq_false (by simp only[mI] at l1 l2; omega)
   refine kat_lt (s:={ s with heap:=iU s.heap a vs }) ho hd ho' hd' ?_
   rw[this]
   exact CU _ _ 0 hsm hr hr' q
  ·have hp':p.toList.Perm (dN vs.length):=by simpa using Array.perm_iff_toList_perm.mp hp
   have pl:p.toList.length=vs.length:=by rw[hp'.length_eq,List.length_range]
   refine h p.toList hp' (NW ok ?_ ?_)
   ·have:=hp'.map (fun i=>kss.getD i [])
    rw[ln,ET kss] at this
    exact this
   ·rw[tN,Ow]
    intro i j hi hj hij
    refine Ahj.mpr ?_
    have:=ha i j (wU hij) (by omega)
    have e1:at' p i=p.toList[i]:=by simp at hi; simp[at',hi]
    have e2:at' p j=p.toList[j]:=by simp at hj; simp[at',hj]
    rw[e1,e2] at this
    exact of_decide_eq_false this
theorem LH {α β:Type}{R:α->β->Prop}{as:List α}{bs:List β}(h:dI R as bs)(x:α)(y:β) : ∀ p:List Nat,(∀ i∈p,i<as.length)->dI R (p.map fun i=>as.getD i x) (p.map fun i=>bs.getD i y)
 | [],_=>.nil
 | i::p,hi=>by
  refine .cons ?_ (LH h x y p fun j m=>hi j (cD _ m))
  have hlt:=hi i bX
  obtain⟨b,hb,r⟩:=SA h (iP hlt)
  have e1:as.getD i x=as[i]:=by simp[hlt]
  have e2:bs.getD i y=b:=by simp[hb]
  show R (as.getD i x) (bs.getD i y)
  rw[e1,e2]
  exact r
end
theorem Oc {a:aB}{ep:Nat}{kvs:List (aL×V)}{g:TG}{tb:TS}{D:Ends}{σ:St}{H:Hp}(Pv:Nat->St->Hp->Prop)(h0:Pv 0 σ H)(hl : ∀ i σ H,i≤kvs.length->Pv i σ H->H a=some (.dK ep kvs))
  (hs : ∀ i kv σ H,kvs[i]?=some kv->Pv i σ H->g (kV kv.1) σ H fun σ2 H2=>tb { D with nx:=Pv (i+1),ct:=Pv (i+1),bk:=D.nx } σ2 H2) (hd : ∀ σ H,Pv kvs.length σ H->D.nx σ H) :
  ∃ W:Nat->Nat->St->Hp->Prop,(∃ m,W 0 m σ H) /\ ∀ i m σ H,W i m σ H ->
   ((qZ a ep kvs.length).stop i H/\D.nx σ H) \/ ((qZ a ep kvs.length).go i H /\ ∃ N:St->Hp->Prop,(∀ σ' H',N σ' H' -> ∃ m',m'<m/\W (i+1) m' σ' H') /\ ∀ x H',(qZ a ep kvs.length).yld i H x H'->g x σ H' fun σ2 H2=>tb { D with nx:=N,ct:=N,bk:=D.nx } σ2 H2):=by
 refine⟨fun i m σ H=>m=kvs.length - i/\i≤kvs.length/\Pv i σ H,⟨kvs.length,by simp,eX _,h0⟩,?_⟩
 rintro i m σ H ⟨rfl,hi,p⟩
 have q:=hl i σ H hi p
 by_cases hlt:i<kvs.length
 ·refine .inr ⟨⟨kvs,kvs[i],q,rfl,by simp[hlt]⟩,Pv (i+1),fun σ' H' p'=>⟨kvs.length - (i+1),by omega,rfl,hlt,p'⟩,fun x H' y=>?_⟩
  obtain⟨rfl,y⟩:=y
  obtain⟨kv,h1,rfl⟩:=y kvs q
  exact hs i kv σ _ h1 p
 ·have e:i=kvs.length:=by omega
  subst e
  exact .inl ⟨⟨kvs,q,rfl,bR _⟩,hd σ H p⟩
section
variable {X:Cx}
theorem Gj (hc:X.calm=true):Ado X (.builtin "sorted") (fun xs H Q=>∃ a ep kvs,∃ ns:List aD,xs=[.ref a]/\H a=some (.dK ep kvs)/\(kvs.map fun kv=>kV kv.1)=ns.map V.str/\ns.length<64 /\ ∀ (l:aB) (ns':List aD),H l=none->ns'.Perm ns->ns'.Pairwise leS->Q (.ref l) (upd H l (.lst (ns'.map V.str)))):=by
 intro pins s σ H xs us Q I r h
 obtain⟨a,ep1,kvs,ns,rfl,ha,hk,hl,q⟩:=h
 obtain⟨u,rfl,ru⟩:=vals1 r
 cases ru
 obtain⟨z,nm,es,ep,D,rv,el⟩:=Hh I ha
 have hh:=I.ok.hd hc
 refine VB kind_sorted plain_sorted entry_sorted (args_sorted1 _) ?_
 unfold Builtin.«sorted»
 have hkl:kvs.length=ns.length:=by simpa using congrArg wY hk
 refine aK (bA (aK (QV (by simp[hh]) nm D (by omega) fun s' acc hkp hg hd hos hacc=>aK (HH ?_ (by
  have:=hacc.1
  rw[mI,this]
  omega)))))
 obtain⟨h',g',d',tk',os'⟩:=s'
 have e1:=hg
 have e2:=hd
 have e3:=hos
 subst e1 e2 e3
 rw[← OX hacc,hk] at rv
 have hS:=RK rv
 have hlen:acc.toList.length<64:=by
  have:=hacc.1
  rw[mI,this]
  omega
 generalize acc.toList=vs at rv hS hlen
 have hoL:(h'.push (kC "list" vs.toArray 0)).get? h'.objs.size=some (kC "list" vs.toArray 0):=eZ _ rfl
 refine aK (iY (sU slot_list_sort ⟨_,hoL,rfl⟩ entry_list_sort (list_sort_treeK strKind_oneLt hoL hS.keysOf (fun v₁ v₂ rest e=>keyKind_strs (by rw[← e]; exact hS)) hlen fun st' a1 a2=>⟨_,rfl,?_⟩) (args_list_sort _)))
 refine bA ⟨_,rfl,?_⟩
 obtain⟨ss',h1,h2,h3⟩:=sorted_out_str hS a1 a2
 obtain⟨e,he⟩:=sortedHeap_at hoL
 have I1:Inv X pins σ H { s with heap:=h',toks:=tk' }:=I.kept (t':=tk') hkp
 refine⟨.ref h'.objs.size,_,I1.laid (t':=tk') (a:=h'.objs.size) (o:=.lst (ss'.map V.str)) (fun b ob eb=>?_) (bR _) ⟨by rw[cL,h2.length_eq]; omega,_,e,JL h1,he⟩,rfl,q _ ss' I1.fresh h2 (Es h3)⟩
 have hb:=cG (show h'.get? b=some ob from eb)
 rw[sortedHeap_old (dG hb) (by rw[size_push']; exact IC hb),Heap.get?_push_ne _ _ _ (dG hb)]
 exact eb
noncomputable def DH:List aA->Option aA
 | [.dict kds]=>(xP (kds.map (·.1))).bind fun is=>if (plK kds&&kds.all fun kd=>cO kd.1)=true/\is.length<64 then some (.list ((GY is).map cT)) else none
 | _=>none
theorem Fm {K:aG}:CallD K 1 (fun xs H Q=>∃ a ep kvs,∃ ns:List aD,xs=[.ref a]/\H a=some (.dK ep kvs)/\(kvs.map fun kv=>kV kv.1)=ns.map V.str/\ns.length<64 /\ ∀ (l:aB) (ns':List aD),H l=none->ns'.Perm ns->ns'.Pairwise leS->Q (.ref l) (upd H l (.lst (ns'.map V.str)))) DH:=fun P H xs ds d Q hP r e k=>by
 unfold DH at e
 split at e
 ·obtain⟨is,e1,e2⟩:=XBs e
  obtain⟨⟨hl,hn⟩,rfl⟩:=cX e2
  obtain⟨pk,hl⟩:=kM.mp hl
  obtain⟨v,rfl,r'⟩:=fZ r
  obtain⟨a,kvs,rfl,hq,rr⟩:=(uZ pk).mp r'
  have rk:=OK rr fun kd m=>fV.mp hl kd m
  rw[LN e1] at rk
  obtain⟨ek,hc⟩:=RB rk
  refine⟨a,kvs.1,kvs.2,is,rfl,Aay _ _ hq,ek,hn,fun l ns' hf hp hr=>?_⟩
  have hc' : ∀ i∈ns',cO (.str i)=true:=fun i m=>hc i (hp.mem_iff.mp m)
  obtain rfl:=By hp hr
  exact k.lst hP hf (QD hc')
 ·cases e
theorem Ga (hc:X.calm=true):Ado X (.builtin "sorted") (fun xs H Q=>∃ a ep,∃ kvs:List (List aA×V),xs=[.ref a]/\H a=some (.dT ep kvs)/\okT (kvs.map (·.1))=true/\kvs.length<64 /\ ∀ (l:aB) (as:List aB),H l=none->dI (fun(k:List aA) (b:aB)=>Air H k b) (iA (kvs.map (·.1))) as->Q (.ref l) (upd H l (.lst (as.map V.ref)))):=by
 intro pins s σ H xs us Q I r h
 obtain⟨a,ep,kvs,rfl,ha,ok,hl,q⟩:=h
 obtain⟨u,rfl,ru⟩:=vals1 r
 cases ru
 obtain⟨z,nm,ys,kt,o,es,e1,e2,e3,e4,_⟩:=(show Aci X.prog X.w H s.heap a (.dT ep kvs) from I.hok a _ ha)
 have el:es.size=kvs.length:=by
  have:=congrArg wY e4
  rw[cL,← nK kt] at this
  simpa using this
 have hp:dI (fun(p:List aA×V) (b:aB)=>Air H p.1 b) kvs (ys.map fun y=>y.2.1):=Mn kt
 have rv:Vals ((ys.map fun y=>y.2.1).map V.ref) (es.toList.map (·.key)):=by
  rw[e4]
  exact NY ys
 have hh:=I.ok.hd hc
 generalize(ys.map fun y=>y.2.1)=as at hp rv
 refine VB kind_sorted plain_sorted entry_sorted (args_sorted1 _) ?_
 unfold Builtin.«sorted»
 refine aK (bA (aK (QV (by simp[hh]) nm ⟨o,e1,e2,e3⟩ (by omega) fun s' acc hkp hg hd hos hacc=>aK (HH ?_ (by
  have:=hacc.1
  rw[mI,this]
  omega)))))
 obtain⟨h',g',d',tk',os'⟩:=s'
 have e1:=hg
 have e2:=hd
 have e3:=hos
 subst e1 e2 e3
 rw[← OX hacc] at rv
 have hlen:acc.toList.length<64:=by
  have:=hacc.1
  rw[mI,this]
  omega
 generalize acc.toList=vs at rv hlen
 have rf:JM H (as.map V.ref) (kvs.map (·.1)):=by
  clear rv ha ok hl q z kt el
  induction hp with
  | nil=>exact .nil
  | cons h t ih=>exact .cons ⟨_,rfl,h⟩ ih
 have tv:=LM I.hok rf rv
 have hoL:(h'.push (kC "list" vs.toArray 0)).get? h'.objs.size=some (kC "list" vs.toArray 0):=eZ _ rfl
 refine aK (iY (sU slot_list_sort ⟨_,hoL,rfl⟩ entry_list_sort (Ol hoL tv (fun b ob eb=>?_) ok hlen fun p hp' hs=>⟨_,rfl,?_⟩) (args_list_sort _)))
 ·have hb:=cG (hkp b ob eb)
  exact Jl b ob (dG hb) (cN _ (hkp b ob eb))
 refine bA ⟨_,rfl,?_⟩
 obtain⟨e,he⟩:=sortedHeap_at hoL
 have I1:Inv X pins σ H { s with heap:=h',toks:=tk' }:=I.kept (t':=tk') hkp
 have hv:vs.length=as.length:=by simpa using rv.length.symm
 have hi : ∀ i∈p,i<as.length:=fun i m=>by
  have:=lD.mp (hp'.mem_iff.mp m)
  omega
 have pk:=LH rf (V.ref 0) [] p (by simpa using hi)
 have pv:Vals (p.map fun i=>(as.map V.ref).getD i (V.ref 0)) (p.map fun i=>vs.getD i fU):=by
  have : ∀ q:List Nat,(∀ i∈q,i<as.length)->Vals (q.map fun i=>(as.map V.ref).getD i (V.ref 0)) (q.map fun i=>vs.getD i fU):=fun q=>by
   induction q with
   | nil=>exact fun _=>.nil
   | cons i q ih=>
    intro h
    refine .cons ?_ (ih fun j m=>h j (cD _ m))
    have hi:=h i bX
    show RelV ((as.map V.ref).getD i (V.ref 0)) (vs.getD i fU)
    obtain⟨u,g1,g2⟩:=Vals.get (i:=i) (x:=.ref as[i]) rv (by simp[hi])
    have:(as.map V.ref).getD i (V.ref 0) = .ref as[i]:=by simp[List.getD,hi]
    rw[this]
    have:vs.getD i fU=u:=by simp[List.getD,g1]
    rw[this]
    exact g2
  exact this p hi
 rw[hs] at pk
 have em:(p.map fun i=>(as.map V.ref).getD i (V.ref 0))=(p.map fun i=>as.getD i 0).map V.ref:=by
  rw[fG]
  refine nN fun i m=>?_
  simp[List.getD,hi i m]
 rw[em] at pk pv
 have pk2:dI (fun(k:List aA) (b:aB)=>Air H k b) (iA (kvs.map (·.1))) (p.map fun i=>as.getD i 0):=by
  generalize(p.map fun i=>as.getD i 0)=bs at pk
  generalize iA (kvs.map (·.1))=kss at pk
  clear pv em he hs
  induction bs generalizing kss with
  | nil=>cases pk; exact .nil
  | cons b bs ih=>
   cases pk with
   | cons h t=>
    obtain⟨b',e',h⟩:=h
    cases e'
    exact .cons h (ih _ t)
 have hz:((p.map fun i=>as.getD i 0).map V.ref).length≤sizeLine:=by
  rw[cL,cL,hp'.length_eq,List.length_range,qI]
  omega
 refine⟨.ref h'.objs.size,_,I1.laid (t':=tk') (a:=h'.objs.size) (o:=.lst ((p.map fun i=>as.getD i 0).map V.ref)) (fun b ob eb=>?_) (bR _) ⟨hz,_,e,pv,he⟩,rfl,q _ _ I1.fresh pk2⟩
 have hb:=cG (show h'.get? b=some ob from eb)
 rw[sortedHeap_old (dG hb) (by rw[size_push']; exact IC hb),Heap.get?_push_ne _ _ _ (dG hb)]
 exact eb
noncomputable def yJ:List aA->Option aA
 | [.dict ((.none,.none)::kds)]=>(jU (kds.map (·.1))).bind fun kss=>if okT kss=true/\kss.length<64 then some (.list ((iA kss).map gP)) else none
 | _=>none
theorem yD {K:aG}{H:Hp} : ∀ {kds:List (aA×aA)} {ts:List (List aA×V)},Ab0 K H kds ts->kds.map (·.1)=(ts.map (·.1)).map gP
 | [],ts,r=>by rw[Ab2.mp r]; rfl
 | (k,d)::kds,ts,r=>by
  obtain⟨k',x,rr,rfl,⟨rfl,_⟩,h1,h2⟩:=Aa5.mp r
  rw[cY,yD h2]
  rfl
theorem JV {K:aG}{H1 G:Hp}(x : ∀ c ys,H1 c=some (.tup ys)->G c=some (.tup ys)) : ∀ {kss:List (List aA)} {as:List aB},dI (fun(k:List aA) (b:aB)=>Air H1 k b) kss as->Aap K G (kss.map gP) (as.map V.ref)
 | _,_,.nil=>Aai.mpr rfl
 | _,_,.cons h t=>Aac.mpr ⟨_,_,rfl,(h.keep x).rep,JV x t⟩
theorem Fl {K:aG}:CallD K 1 (fun xs H Q=>∃ a ep,∃ kvs:List (List aA×V),xs=[.ref a]/\H a=some (.dT ep kvs)/\okT (kvs.map (·.1))=true/\kvs.length<64 /\ ∀ (l:aB) (as:List aB),H l=none->dI (fun(k:List aA) (b:aB)=>Air H k b) (iA (kvs.map (·.1))) as->Q (.ref l) (upd H l (.lst (as.map V.ref)))) yJ:=fun P H xs ds d Q hP r e k=>by
 unfold yJ at e
 split at e
 ·obtain⟨kss,e1,e2⟩:=XBs e
  obtain⟨⟨ok,hn⟩,rfl⟩:=cX e2
  obtain⟨v,rfl,r'⟩:=fZ r
  obtain⟨a,ts,rfl,hq,rr⟩:=(oI).mp r'
  have ek:=yD rr
  have ek2:=(MA e1).1
  rw[ek2] at ek
  have:ts.2.map (·.1)=kss:=by
   have inj : ∀ l l':List (List aA),l.map gP=l'.map gP->l=l':=fun l=>by
    induction l with
    | nil=>intro l' h; cases l' <;> simp at h ⊢
    | cons a l ih=>
     intro l' h
     cases l' with
     | nil=>simp at h
     | cons b l'=>
      simp only[cY,II,PyData.tuple.injEq] at h
      rw[h.1,ih l' h.2]
   exact(inj _ _ ek).symm
  subst this
  refine⟨a,ts.1,ts.2,rfl,Aay _ _ hq,ok,by simpa using hn,fun l as hf pr=>k.lst hP hf ?_⟩
  exact JV (fun c ys ec=>hP.tup ec) pr
 ·cases e
end
noncomputable def BS (a:aB)(ep n:Nat):It:=
 ⟨fun i H=>∃ kvs kv,H a=some (.dK ep kvs)/\kvs.length=n/\kvs[i]?=some kv,fun i H x H'=>H'=H /\ ∀ kvs,H a=some (.dK ep kvs) -> ∃ kv,kvs[i]?=some kv/\x=kv.2,fun i H=>∃ kvs,H a=some (.dK ep kvs)/\kvs.length=n/\n≤i⟩
theorem Ag {P:bB}{w:aW}{K:aG}{tg:aR}(a it:aB)(ep n:Nat):Turn P w K tg (BS a ep n) [it] it (fun i h=>h.IsValIter it a i n ep) where
 mem:=dH.mpr rfl
 obj:=fun i h ⟨o,e,_,d⟩ b hb=>by
  rw[dH.mp hb]
  exact⟨o,e,fun v z=>by rw[d] at z; cases z⟩
 keep:=fun i h h' st k=>st.at fun o e=>k it (dH.mpr rfl) o e
 item:=by
  intro X hP hw hK hc i pins s σ H E I hf st hg
  subst hP hw hK
  obtain⟨kvs,kv,ha,hn,hk⟩:=hg
  subst hn
  obtain⟨z,nm,vs,r,d⟩:=pJ I.hok (.inl ha)
  have hl:kvs.length=vs.length:=r.length
  obtain⟨u,hu,r1,r2⟩:=BZ r hk
  obtain⟨uk,uv⟩:=u
  rw[hl] at st
  refine wpAny_pyNext_values_item st d hu fun h' st' sb=>?_
  have I1:Inv X pins σ H { s with heap:=h' }:=I.turnM (t':=s.toks) hf fun b o nb e=>sb.extBut b o (fun q=>nb (dH.mpr q)) e
  obtain⟨o,e,c,dd⟩:=id st'
  refine⟨uv,rfl,rL (s:={ s with heap:=h' }) e c dd (by decide) ⟨kv.2,H,I1,r2,⟨rfl,fun kvs' h2=>?_⟩,by rw[hl]; exact st',fun b hb=>(hf b hb).1⟩⟩
  rw[ha] at h2
  cases h2
  exact⟨kv,hk,rfl⟩
 done:=by
  intro X hP hw hK hc i pins s σ H E I hf st hg
  subst hP hw hK
  obtain⟨kvs,ha,hn,hi⟩:=hg
  subst hn
  obtain⟨z,nm,vs,r,d⟩:=pJ I.hok (.inl ha)
  have hl:kvs.length=vs.length:=r.length
  rw[hl] at st
  exact wpAny_pyNext_values_end (I.ok.hd hc) st d (by simp; omega) fun h' eb=>⟨rfl,I.turnM (t':=s.toks) hf fun b o nb e=>eb b o (fun q=>nb (dH.mpr q)) e⟩
 self:=fun _ _ _ _ _ st h=>wpAny_pyIter_valiter st h
section
variable {X:Cx}{l e tg:aR}{apos pos:bL}
noncomputable def WS (tl:TE):TI:=fun σ H R=>tl σ H fun x H1=>∃ a ep kvs,x = .ref a/\H1 a=some (.dK ep kvs)/\R (BS a ep kvs.length) H1
theorem Lx {tl:TE}(hl:PE X l tl)(hbase:nG l "values" X.env (bJ l X.env)=bJ l X.env:=by rfl)(hline:(apos.endLine == pos.line)=true:=by rfl):PI X tg (.Call (.Attribute l "values" apos) [] [] pos) (WS tl):=by
 intro pins s σ H R I h
 refine wpAny_Call_method hbase rfl hline F.plainAttrs_dict F.slot_dict_values F.type_dict_values (thn (hl pins s σ H _ I h) fun v s1 gh=>?_)
 obtain⟨x,H1,I1,r1,q1⟩:=gh
 obtain⟨a,ep,kvs,rfl,ha,q⟩:=q1
 cases r1
 obtain⟨z,nm,vs,r,d⟩:=pJ I1.hok (.inl ha)
 obtain⟨_,_,vs2,_,dd⟩:=GV I1.hok ha
 have hn:=r.length
 refine⟨dd.typeIs,dd.mapOf.noDict,?_⟩
 refine method_meetsIn F.slot_dict_values F.entry_dict_values rfl (PySem.evalArgs_none ⟨rfl,dd.typeIs,F.args_dict_values_1 _,_,meets_dict_values _ a nm,⟨vs2,dd⟩,?_⟩)
 have d2:(s1.heap.push { cls:=.type "dict_values",data:=.fields #[.ref a] }).DictAt (dR X.prog X.w) a vs ep:=by
  obtain⟨o,es,ho,rr⟩:=d
  exact⟨o,es,cN _ ho,rr⟩
 refine wpAny_pyIter_values ⟨_,eZ _ rfl,rfl,rfl⟩ d2 ?_
 have all : ∀ b o,s1.heap.get? b=some o->((s1.heap.push { cls:=.type "dict_values",data:=.fields #[.ref a] }).push { cls:=.type "dict_valueiterator",data:=.fields #[.ref a,.int 0 0,.int vs.length 0,.int ep 0] }).get? b=some o:=fun b o e=>cN _ (cN _ e)
 refine⟨_,[_],_,_,H1,rfl,I1.kept all,Ag a _ ep kvs.length,?_,fun b hb=>?_,q⟩
 ·rw[hn]
  exact⟨_,eZ _ rfl,rfl,rfl⟩
 ·rw[dH.mp hb]
  have le:s1.heap.objs.size≤(s1.heap.push { cls:=.type "dict_values",data:=.fields #[.ref a] }).objs.size:=by
   rw[IK]
   omega
  exact I1.fpOk le (I1.hok.fresh le)
noncomputable def iDV (f:EF):AF:=fun ρ=>(f ρ).bind fun d=>match d with
 | .dict kds=>if plK kds=true then some (kds.map (·.2)) else none
 | _=>none
theorem Ac {K:aG}{B:Hp}{a:aB}{ep:Nat}{kvs:List (aL×V)}{kds:List (aA×aA)}(h:B a=some (.dK ep kvs))(r:Abq K B kds kvs):ItD K B (BS a ep kvs.length) (kds.map (·.2)):=fun i H2 x2=>by
 have h2:=x2 _ _ h
 refine⟨fun d hd=>?_,fun e=>⟨kvs,h2,rfl,by rw[← e,cL,r.length]; exact bR _⟩⟩
 rw[eY] at hd
 obtain⟨kd,hk,rfl⟩:=lC.mp hd
 obtain⟨kv,g1,g2,g3⟩:=EM r hk
 refine⟨⟨kvs,kv,h2,rfl,g1⟩,?_⟩
 rintro x H3 ⟨rfl,hx⟩
 obtain⟨kv',q1,rfl⟩:=hx kvs h2
 have:=dZ (q1.symm.trans g1)
 subst this
 exact⟨Ext.refl,fun P2 _ xb=>g3.ext xb⟩
theorem Jo {f:EF}(h:DE X l f)(hbase:nG l "values" X.env (bJ l X.env)=bJ l X.env:=by rfl)(hline:(apos.endLine == pos.line)=true:=by rfl):DI X tg (.Call (.Attribute l "values" apos) [] [] pos) (iDV f):=PI.imp (Lx h hbase hline) fun σ H R gh=>by
 obtain⟨P,ρ,ds,hP,rs,ef,k⟩:=gh
 obtain⟨d,e1,ef⟩:=XBs ef
 cases d with
 | dict kds=>
  obtain⟨pk,rfl⟩:=cX ef
  refine⟨P,ρ,_,hP,rs,e1,cR fun v H1 x1 r1=>?_⟩
  obtain⟨a,kvs,rfl,hq,rr⟩:=(uZ pk).mp r1
  exact⟨a,kvs.1,kvs.2,rfl,Aay _ _ hq,k _ H1 x1 (Ac hq rr)⟩
 | _=>cases ef
end
noncomputable def rD (kds:List (aA×aA)):List (aA×aA):=kds.map fun kd=>(kd.1,.dict [(.none,.none)])
noncomputable def uM (c x:aD)(Fa:List aA->Option aA):FX:=open Classical in fun z ds=>match ds with
 | [d]=>(Fa [d]).bind fun b=>match b with
  | .bool true=>(pO [d]).bind fun w=>match w with
   | .dict kds=>if (∀ kd∈kds,eJ kd.2=true)/\(kds.map (·.1)).Nodup/\kds.length<sizeLine then some (bG c (.dict kds) (.dict (rD kds))) else none
   | _=>none
  | .bool false=>if z=some x then some (rsD x) else none
  | _=>none
 | _=>none
theorem Dl {c x:aD}{Fa:List aA->Option aA} : ∀ z ds d,uM c x Fa z ds=some d -> ∃ d1,ds=[d1]:=fun z ds d h=>by
 unfold uM at h
 split at h
 ·exact⟨_,rfl⟩
 ·cases h
theorem Ew {c x:aD}{Fa:List aA->Option aA}{z:Option aD}{d1 d:aA}(h:uM c x Fa z [d1]=some d) :
  (Fa [d1]=some (.bool false)/\z=some x/\d=rsD x) \/ ∃ kds,Fa [d1]=some (.bool true)/\pO [d1]=some (.dict kds)/\(∀ kd∈kds,eJ kd.2=true)/\(kds.map (·.1)).Nodup/\kds.length<sizeLine/\d=bG c (.dict kds) (.dict (rD kds)):=by
 have h:((Fa [d1]).bind fun b=>_)=some d:=h
 obtain⟨b,e1,h⟩:=XBs h
 split at h
 ·obtain⟨w,e2,h⟩:=XBs h
  split at h
  ·obtain⟨⟨h1,h2,h3⟩,rfl⟩:=cX h
   exact .inr ⟨_,e1,e2,h1,h2,h3,rfl⟩
  ·cases h
 ·obtain⟨h1,rfl⟩:=cX h
  exact .inl ⟨e1,h1,rfl⟩
 ·cases h
noncomputable def hvZ (kvs:List (aL×V))(ps:List aB):List (aL×V):=List.zipWith (fun kv p=>(kv.1,V.ref p)) kvs ps
theorem NF : ∀ {kvs:List (aL×V)} {ps:List aB} {kv:aL×V} {p:aB},kvs[ps.length]?=some kv->hvZ kvs (ps++[p])=hvZ kvs ps++[(kv.1,V.ref p)]
 | k::kvs,[],kv,p,e=>by
  cases e
  simp[hvZ]
 | k::kvs,q::ps,kv,p,e=>by
  show _::hvZ kvs (ps++[p])=_::(hvZ kvs ps++_)
  rw[NF (kv:=kv) (by simpa using e)]
 | [],ps,kv,p,e=>by simp at e
theorem Jv : ∀ {kvs:List (aL×V)} {ps:List aB},ps.length≤kvs.length->(hvZ kvs ps).length=ps.length:=fun {kvs ps} h=>by
 unfold hvZ
 rw[List.length_zipWith]
 omega
theorem KP : ∀ {kvs:List (aL×V)} {ps:List aB} {e:aL×V},e∈hvZ kvs ps -> ∃ i kv,i<ps.length/\kvs[i]?=some kv/\e.1=kv.1
 | [],ps,e,m=>by simp[hvZ] at m
 | k::kvs,[],e,m=>by simp[hvZ] at m
 | k::kvs,p::ps,e,m=>by
  have m:e∈(k.1,V.ref p)::hvZ kvs ps:=m
  rcases cP.mp m with rfl | m
  ·exact⟨0,k,by simp,rfl,rfl⟩
  ·obtain⟨i,kv,h1,h2,h3⟩:=KP m
   exact⟨i+1,kv,by simpa using h1,by simpa using h2,h3⟩
theorem OJ {k:aL} : ∀ {l:List (aL×V)},(∀ e∈l,e.1≠k)->cZ l k=none
 | [],_=>rfl
 | e::l,h=>by
  have h1:=h e bX
  have h2:=OJ fun e m=>h e (cD _ m)
  unfold cZ at h2 ⊢
  simp[fR,h1] at h2 ⊢
  first | exact h2 | simp_all
theorem Jj {kvs:List (aL×V)}{ps:List aB}{kv:aL×V}(nd:(kvs.map (·.1)).Nodup)(e:kvs[ps.length]?=some kv):cZ (hvZ kvs ps) kv.1=none:=OJ fun x m=>by
 obtain⟨i,kv',h1,h2,h3⟩:=KP m
 rw[h3]
 intro z
 have hl:=(dU.mp e).1
 have g1:(kvs.map (·.1))[i]?=some kv'.1:=by rw[eY,h2]; rfl
 have g2:(kvs.map (·.1))[ps.length]?=some kv.1:=by rw[eY,e]; rfl
 have:=(List.getElem?_inj (l:=kvs.map (·.1)) (i:=i) (j:=ps.length) (by simpa using(dU.mp h2).1) nd).mp (by rw[g1,g2,z])
 omega
theorem OB {K:aG}{H:Hp} : ∀ {kds:List (aA×aA)} {kvs:List (aL×V)},Abq K H kds kvs->kds.map (·.1)=(kvs.map (·.1)).map kD
 | [],kvs,r=>by rw[Abr.mp r]; rfl
 | (k,d)::ds,kvs,r=>by
  obtain⟨k',x,t,rfl,ek,r1,r2⟩:=Aaz.mp r
  rw[cY,OB r2,ek]
  rfl
theorem MS {K:aG}{B B2 H:Hp} : ∀ {kds:List (aA×aA)} {kvs:List (aL×V)} {ps:List aB},Abq K B2 kds kvs->ps.length=kvs.length->(∀ p∈ps,H p=some (.dT 0 []))->All3 (HeldAt K B H) (rD kds) (hvZ kvs ps) ps
 | [],kvs,ps,r,hl,hp=>by
  rw[Abr.mp r] at hl ⊢
  cases ps with
  | nil=>exact .nil
  | cons _ _=>simp at hl
 | (k,d)::kds,kvs,ps,r,hl,hp=>by
  obtain⟨k',y,t,rfl,ek,h1,h2⟩:=Aaz.mp r
  cases ps with
  | nil=>simp at hl
  | cons p ps=>exact .cons ⟨ek,rfl,[],p,(0,[]),rfl,rfl,hp p bX,rfl,fun kd m=>by simp at m,Ab2.mpr rfl⟩ (MS h2 (by simpa using hl) fun q m=>hp q (cD _ m))
theorem Nv {K:aG}{P0:aB->Prop}{Hw H':Hp}{c:aD}{C dx x w q:aB}{kds:List (aA×aA)}{kvs:Nat×List (aL×V)}{n:Nat}{ps:List aB}(hc:dP K c=some (.ref C))(hx:H' x=some (.ins C dx [("wide",.ref w),("held",.ref q)]))(hw:H' w=some (.dK kvs.1 kvs.2))
  (hq:H' q=some (.dK n (hvZ kvs.2 ps))) (hl:ps.length=kvs.2.length) (hp : ∀ p∈ps,H' p=some (.dT 0 [])) (fl : ∀ kd∈kds,eJ kd.2=true) (rk:Abq K (hid Hw (orL P0 [w])) kds kvs.2) (kp : ∀ b o,b≠x->Hw b=some o->H' b=some o) (hn : ∀ xs,Hw x≠some (.tup xs)) :
  Aed K (hid H' (orL P0 (x::w::q::ps))) H' 9 (bG c (.dict kds) (.dict (rD kds))) (.ref x) (x::w::q::ps):=by
 refine(bD (.inr ⟨⟨c,C,dx,x,w,q,kds,rD kds,kvs,(n,hvZ kvs.2 ps),ps,rfl,rfl,hc,hx,hw,fl,?_,hq,rfl,MS rk hl hp⟩⟩):_ \/ Ahu _ _ _ _ _ _ \/ RepB _ _ _ _ _ _)
 refine rk.flat (fun a xs e=>?_) fl
 obtain⟨na,e⟩:=Ab7.mp e
 have nx:a≠x:=fun z=>by rw[z] at e; exact hn xs e
 have e2:=kp a _ nx e
 refine eK (fun z=>?_) e2
 rcases z with z | z
 ·exact na (.inl z)
 ·simp only[cP] at z
  rcases z with z | z | z | z
  ·exact nx z
  ·rw[z,hw] at e2; cases e2
  ·rw[z,hq] at e2; cases e2
  ·rw[hp a z] at e2; cases e2
noncomputable def gR (hds:List (aA×aA))(t:aD)(d:aA):List (aA×aA):=hds.map fun kd=>if cI kd.1=some (.inr t) then(kd.1,d) else kd
theorem Kf {hds:List (aA×aA)}{t:aD}{d:aA}(h : ∀ kd∈hds,kd.1 ≠ .str t):gR hds t d=hds:=by
 unfold gR
 refine(nN fun kd m=>?_).trans (tO hds)
 rw[if_neg]
 ·rfl
 ·intro e
  apply h kd m
  cases q:kd.1 <;> rw[q] at e <;> simp[cI] at e
  rw[e]
theorem KL {K:aG}{B H:Hp}{t:aD}{dd:aA} : ∀ {hds:List (aA×aA)} {hvs:List (aL×V)} {ps:List aB},All3 (HeldAt K B H) hds hvs ps->bZ hds (.inr t)=some dd->(hds.map (·.1)).Nodup->ps.Nodup ->
  ∃ p,cZ hvs (.inr t)=some (.ref p)/\p∈ps/\Ahu K B H dd (.ref p) [p] /\ ∀ B' H' dd',Ext B B'->(∀ q∈ps,q≠p->H' q=H q)->Ahu K B' H' dd' (.ref p) [p]->All3 (HeldAt K B' H') (gR hds t dd') hvs ps
 | _,_,_,.nil,e,_,_=>by cases e
 | kd::hds,kv::hvs,p::ps,.cons h t',e,nd,np=>by
  rw[cY,fF] at nd
  rw[fF] at np
  by_cases c:kv.1 = .inr t
  ·have ck:kd.1 = .str t:=by rw[h.1,c]; rfl
   have ek:cI kd.1=some (.inr t):=by rw[ck]; rfl
   have ed:kd.2=dd:=by
    unfold bZ at e
    rw[fR,ek] at e
    simpa using e
   refine⟨p,?_,bX,by rw[← ed]; exact h.2.2,fun B' H' dd' xb kp r=>?_⟩
   ·unfold cZ
    rw[fR,c]
    simp[h.2.1]
   ·have e1:gR (kd::hds) t dd'=(kd.1,dd')::gR hds t dd':=by
     unfold gR
     rw[cY,if_pos ek]
    rw[e1,Kf fun x m z=>nd.1 (by rw[ck]; exact cH.mpr ⟨x,m,z⟩)]
    refine .cons ⟨h.1,h.2.1,r⟩ (t'.imp fun a b q m hq=>⟨hq.1,hq.2.1,hq.2.2.keep xb fun z mz=>?_⟩)
    rw[dH.mp mz]
    exact kp q (cD _ m) fun z=>np.1 (z ▸ m)
  ·have ek:cI kd.1≠some (.inr t):=by
    rw[h.1,lW]
    exact fun z=>c (dZ z)
   have e':bZ hds (.inr t)=some dd:=by
    unfold bZ at e ⊢
    rw[fR] at e
    simpa [ek] using e
   obtain⟨p',h1,h2,h3,h4⟩:=KL t' e' nd.2 np.2
   refine⟨p',?_,cD _ h2,h3,fun B' H' dd' xb kp r=>?_⟩
   ·unfold cZ at h1 ⊢
    rw[fR]
    simpa [c] using h1
   ·have e1:gR (kd::hds) t dd'=kd::gR hds t dd':=by
     unfold gR
     rw[cY,if_neg ek]
    rw[e1]
    refine .cons ⟨h.1,h.2.1,h.2.2.keep xb fun z mz=>?_⟩ (h4 B' H' dd' xb (fun q m=>kp q (cD _ m)) r)
    rw[dH.mp mz]
    exact kp p bX fun z=>np.1 (z ▸ h2)
theorem RepB.at {K:aG}{B H:Hp}{c t:aD}{W:aA}{hds:List (aA×aA)}{v:V}{F:List aB}{kds:List (aA×aA)}(h:RepB K B H (bG c W (.dict hds)) v F)(nF:F.Nodup)(e:bZ hds (.inr t)=some (.dict ((.none,.none)::kds)))(nd:(hds.map (·.1)).Nodup) :
  ∃ a C dx w q p,∃ hvs:Nat×List (aL×V),∃ ts:Nat×List (List aA×V),v = .ref a/\dP K c=some (.ref C)/\H a=some (.ins C dx [("wide",.ref w),("held",.ref q)])/\H q=some (.dK hvs.1 hvs.2)/\cZ hvs.2 (.inr t)=some (.ref p)/\p∈F/\H p=some (.dT ts.1 ts.2)/\(∀ kd∈kds,eJ kd.2=true)/\Ab0 K B kds ts.2 /\
   ∀ B' H' kds',∀ ts':Nat×List (List aA×V),Ext B B'->(∀ b∈F,b≠p->H' b=H b)->H' p=some (.dT ts'.1 ts'.2)->(∀ kd∈kds',eJ kd.2=true)->Ab0 K B' kds' ts'.2->RepB K B' H' (bG c W (.dict (gR hds t (.dict ((.none,.none)::kds'))))) v F:=by
 obtain⟨c',C,dx,a,w,q,wds,hds',kvs,hvs,ps,e1,rfl,e3,ha,hw,fl,rk,hq,rfl,h3⟩:=h.ex
 have e1':c'=c/\W = .dict wds/\hds'=hds:=by
  simp only[bG,PyData.dict.injEq,II,wO,PyData.str.injEq,PyData.tuple.injEq,and_true,true_and] at e1
  exact⟨e1.1.symm,e1.2.1,e1.2.2.symm⟩
 obtain⟨rfl,rfl,rfl⟩:=e1'
 have np:a∉w::q::ps/\w∉q::ps/\q∉ps/\ps.Nodup:=by
  simp only[fF] at nF
  exact⟨nF.1,nF.2.1,nF.2.2.1,nF.2.2.2⟩
 obtain⟨p,h1,h2,h4,h5⟩:=KL h3 e nd np.2.2.2
 obtain⟨kds2,p2,ts,e4,e5,hp,_,fl2,r2⟩:=h4
 cases e4
 cases e5
 refine⟨a,C,dx,w,q,p,hvs,ts,rfl,e3,ha,hq,h1,by simp[h2],hp,fl2,r2,fun B' H' kds' ts' xb kp hp' fl' r'=>?_⟩
 have ap:a≠p:=fun z=>np.1 (by rw[z]; simp[h2])
 have wp:w≠p:=fun z=>np.2.1 (by rw[z]; simp[h2])
 have qp:q≠p:=fun z=>np.2.2.1 (by rw[z]; exact h2)
 exact⟨c',C,dx,a,w,q,wds,_,kvs,hvs,ps,rfl,rfl,e3,(kp a (by simp) ap).trans ha,(kp w (by simp) wp).trans hw,fl,rk.ext xb,(kp q (by simp) qp).trans hq,rfl,h5 B' H' _ xb (fun x m nx=>kp x (by simp[m]) nx) ⟨kds',p,ts',rfl,rfl,hp',rfl,fl',r'⟩⟩
noncomputable def xV (K:aG)(G:List aA->Option (Bool×aA)):Sp:=fun vs H Q _=>∃ P F0 a us d ds r d',vs = .ref a::us/\Hid P H/\(∀ b∈F0,¬ P b)/\F0.Nodup/\RepB K (hid H (orL P F0)) H d (.ref a) F0/\Aap K (hid H (orL P F0)) ds us/\G (d::ds)=some (r,d') /\
 ∀ H',(∀ b o,b∉F0->H b=some o->H' b=some o)->RepB K (hid H' (orL P F0)) H' d' (.ref a) F0->Q (.bl r) H'
structure MethM (P:bB)(w:aW)(K:aG)(mg:aD->Option aE)(base:aP)(c m:aD)(k:Nat)(ps:List aD)(G:List aA->Option (Bool×aA)):Prop where
 ex : ∃ C f fd,dP K c=some (.ref C)/\Cls K C/\Meth K C m f/\FnOk P w K mg base (CXR base P w) k f fd ps (xV K G)/\Binds K fd ps []
 ins : ∀ d ds q,G (d::ds)=some q -> ∃ W D,d=bG c W D
theorem EX {K:aG}{H:Hp}{ks:List aA}(hk:bP ks=true) : ∀ {kds:List (aA×aA)} {ts:List (List aA×V)},Ab0 K H kds ts -> .tuple ks∉kds.map (·.1)->iC kds ks=none
 | [],_,_,_=>rfl
 | (k,d)::kds,_,r,nin=>by
  obtain⟨k',x,rr,rfl,⟨rfl,hk'⟩,h1,h2⟩:=Aa5.mp r
  rw[zF hk' hk,if_neg (fun z=>nin (by rw[z]; simp))]
  exact EX hk h2 fun m=>nin (cD _ m)
theorem PJ {K:aG}{H:Hp}{ks:List aA}{d:aA}{v:V}(hk:bP ks=true)(hd:Abe K H d v) : ∀ {kds:List (aA×aA)} {ts:List (List aA×V)},Ab0 K H kds ts->Ab0 K H (kds++[(.tuple ks,d)]) (ts++[(ks,v)])
 | [],ts,r=>by
  rw[Ab2.mp r]
  exact Aa5.mpr ⟨ks,v,[],rfl,⟨rfl,hk⟩,hd,Ab2.mpr rfl⟩
 | (k,d')::kds,_,r=>by
  obtain⟨k',x,rr,rfl,e,h1,h2⟩:=Aa5.mp r
  exact Aa5.mpr ⟨k',x,_,rfl,e,h1,PJ hk hd h2⟩
theorem NR {k:List aA} : ∀ {l:List (List aA×V)},(∀ e∈l,e.1≠k)->cZ l k=none
 | [],_=>rfl
 | e::l,h=>by
  have h1:=h e bX
  have h2:=NR fun e m=>h e (cD _ m)
  unfold cZ at h2 ⊢
  simp[fR,h1] at h2 ⊢
  first | exact h2 | simp_all
section
variable {prog:bB}{w:aW}{A:cA}{E:aE->aH->Prop}{s:aH}{K:Type}[DecidableEq K]{knd:HeapKind prog w K}
theorem OD {k:K}{p:aB×aE} : ∀ {xs:List (K×aB×aE)} {j:Nat},(xs.map (·.1)).Nodup->xs[j]?=some (k,p)->xs.eraseIdx j=xs.filter fun x=>decide (x.1≠k)
 | [],j,_,e=>by simp at e
 | x::xs,0,nd,e=>by
  rw[cY,fF] at nd
  cases e
  rw[List.eraseIdx_cons_zero,qR,if_neg (by simp)]
  refine(xC.mpr fun y m=>?_).symm
  exact decide_eq_true fun z=>nd.1 (z ▸ cH.mpr ⟨y,m,rfl⟩)
 | x::xs,j+1,nd,e=>by
  rw[cY,fF] at nd
  have e':xs[j]?=some (k,p):=by simpa using e
  have hx:x.1≠k:=fun z=>nd.1 (by rw[z]; exact cH.mpr ⟨(k,p),nL e',rfl⟩)
  rw[Oy,qR,if_pos (by simp[hx]),OD nd.2 e']
theorem OA {α β:Type}(f:α->β) : ∀ (l:List α) (j:Nat),(l.eraseIdx j).map f=(l.map f).eraseIdx j
 | [],j=>by simp
 | a::l,0=>by simp
 | a::l,j+1=>by simp[OA f l j]
theorem Fx {d a:aB}{xs:List (K×aB×aE)}{k:K}{p:aB×aE}{Q:Option mH->aH->Prop}(hu:knd.room A)(hkey:knd.is s.heap k a)(hm:s.heap.DictOfH knd d xs)(hp:mB xs k=some p)
  (hQ : ∀ h',h'.DictOfH knd d (xs.filter fun x=>decide (x.1≠k))->qU d s.heap h'->Q (some (entryOfKey knd (k,p))) { s with heap:=h',toks:=s.toks+knd.draws k }) (hsz:xs.length≤sizeLine) :
  aQ (aT prog w) A (Builtin.Dict.takeOut d (.ref a)) Q E s:=by
 obtain⟨o,es,ep,ho,hc,hd,he,his,hn⟩:=hm
 unfold Builtin.Dict.takeOut
 try with_reducible refine iY ?_
 refine aK (knd.pyHash hu hkey ?_)
 refine aK (wpAny_dictFind_heap (s:={ s with toks:=s.toks+knd.draws k }) hu hkey ho hd he his hn ?_ ?_)
 ·intro hno
  rw[atKey_none_of_get hno] at hp
  cases hp
 ·intro j p' hj
  rw[atKey_of_get hn hj] at hp
  cases hp
  refine aK (wI (s:={ s with toks:=s.toks+knd.draws k }) ho hd ?_)
  have he':es[j]?=some (entryOfKey knd (k,p)):=by rw[entry_at he j,hj]; rfl
  rw[he']
  refine aK (wpAny_updateDictKeys (hz:=by have e:=size_of_entries he; omega) (s:={ s with toks:=s.toks+knd.draws k }) ho hd (bA (hQ _ ⟨_,_,ep+1,BB _ ho (Obj.isFreed_of_dict (Obj.data_mapDictKeys hd _)),
   hc.mapDictKeys _,Obj.data_mapDictKeys hd _,?_,fun x hx=>?_,?_⟩ (BC ..))))
  ·rw[← OD hn hj,OA,← he]
   obtain⟨l⟩:=es
   simp
  ·exact knd.keeps (his x (AX.mp hx).1) ho hd (BC ..)
  ·exact hn.sublist (List.filter_sublist.map _)
theorem Dx (d a:aB)(k:K):MeetsIn prog w (Builtin.«dict.pop» ⟨[.ref d,.ref a],[]⟩) (fun A R s=>knd.room A.in1 /\ ∃ xs p,s.heap.DictOfH knd d xs/\xs.length≤sizeLine/\knd.is s.heap k a/\mB xs k=some p /\
   ∀ h' tk,h'.DictOfH knd d (xs.filter fun x=>decide (x.1≠k))->qU d s.heap h'->R (.ok (.ret p.2)) { s with heap:=h',toks:=tk }):=fun A R s gh=>by
 obtain⟨hu,xs,p,hm,hsz,hkey,hp,h⟩:=gh
 obtain⟨o,es,ep,ho,hc,hd,he,his,hn⟩:=id hm
 have hes:es.isEmpty=false:=by
  cases q:es.isEmpty with
  | false=>rfl
  | true=>
   have hz:es.size=0:=by simpa using q
   rw[size_of_entries he] at hz
   have:xs=[]:=xD hz
   rw[this] at hp
   cases hp
 unfold Builtin.«dict.pop»
 refine aK ?_
 unfold Builtin.Dict.keyAndDefault
 refine aK (TK hm.typeIs ?_)
 show aQ _ _ (pure (d,dE a,none)) _ _ s
 refine bA ?_
 have hk:(keyPart (dE a)).isSome=false:=rfl
 simp only[hk,lG,if_false]
 refine aK (wI ho hd (aK (bA ?_)))
 simp only[hes,lG,if_false]
 refine aK (Fx hu hkey hm hp (fun h' hm' hs'=>?_) hsz)
 simp only[Option.isNone_some,lG,if_false]
 exact aK (wpAny_letGo (bA (h h' _ hm' hs')))
end
section
variable {X:Cx}
noncomputable def mK (kvs:List (List aA×V))(k:List aA):List (List aA×V):=kvs.filter fun kv=>decide (kv.1≠k)
theorem KT.out {H:Hp}(k:List aA) : ∀ {kvs:List (List aA×V)} {xs:List (List aA×aB×aE)},KT H kvs xs->KT H (mK kvs k) (xs.filter fun x=>decide (x.1≠k))
 | _,_,.nil=>.nil
 | p::_,q::_,.cons h t=>by
  unfold mK
  rw[qR,qR]
  by_cases c:p.1=k
  ·rw[if_neg (by simp[c]),if_neg (by rw[← h.1]; simp[c])]
   exact KT.out k t
  ·rw[if_pos (by simp[c]),if_pos (by rw[← h.1]; simp[c])]
   exact .cons h (KT.out k t)
def YA:V->List V->Hp->VK->Prop:=fun x vs H Q=>∃ d ep kvs k b u,x = .ref d/\vs=[.ref b]/\H d=some (.dT ep kvs)/\Air H k b/\cZ kvs k=some u /\ ∀ n,Q u (upd H d (.dT n (mK kvs k)))
theorem ZR (hu:X.A.units+40<cLine):MtM X "dict.pop" YA:=by
 intro pins s σ H x vs v us Q I rx rv h
 obtain⟨d,ep,kvs,k,b,u,rfl,rfl,e,eb,hu',q⟩:=h
 cases rx
 cases rv with
 | @cons _ key _ _ rk rr=>
  cases rr
  cases(show key=dE b from rk)
  obtain⟨z,hd,xs,rel,dd⟩:=GX I.hok e
  have rl:=rel.val k
  rw[hu'] at rl
  obtain⟨w',e1,e2⟩:=rl.some_of
  obtain⟨p,ep',rfl⟩:=lC.mp e1
  refine call_meetsIn PySem.F.slot_dict_pop dd.typeIs PySem.F.entry_dict_pop (PySem.F.args_dict_pop_2 _ _) (Dx (knd:=lX X.prog X.w) d b k) ⟨vZ hu,xs,p,dd,by rw[← nK rel]; exact z,mO I.hok eb,ep',fun h' tk dd' hs=>?_⟩
  obtain⟨o,es,ep2,ho,h2,h3,h4,_,h5⟩:=dd'
  have hl:(mK kvs k).length≤sizeLine:=jC (List.length_filter_le _ _) z
  refine⟨u,_,DP (ob:=.dT ep2 (mK kvs k)) I (by rw[e]; exact kE) hs ⟨o,ho⟩ ⟨hl,hd,_,(rel.out k).keeps fun c ys ec=>?_,o,es,ho,h2,h3,h4,h5⟩,e2,q ep2⟩
  rw[bO (RO ec e (fun z=>nomatch z))]
  exact ec
end
theorem zD {K:aG}{H:Hp}{ks:List aA}(hk:bP ks=true) : ∀ {kds:List (aA×aA)} {ts:List (List aA×V)},Ab0 K H kds ts -> .tuple ks∈kds.map (·.1)->(iC kds ks).isSome=true/\(cZ ts ks).isSome=true
 | [],_,_,m=>by simp at m
 | (k,d)::kds,_,r,m=>by
  obtain⟨k',x,rr,rfl,⟨rfl,hk'⟩,h1,h2⟩:=Aa5.mp r
  rw[zF hk' hk]
  by_cases e:k'=ks
  ·subst e
   refine⟨by simp,?_⟩
   unfold cZ
   simp[fR]
  ·have m' : .tuple ks∈kds.map (·.1):=by
    rcases cP.mp m with z | m
    ·exact absurd (AV z).symm e
    ·exact m
   obtain⟨g1,g2⟩:=zD hk h2 m'
   refine⟨by rw[if_neg e]; exact g1,?_⟩
   unfold cZ at g2 ⊢
   simp only[fR,e,decide_false]
   exact g2
noncomputable def pK (kds:List (aA×aA))(ks:List aA):List (aA×aA):=open Classical in kds.filter fun kd=>decide (kd.1 ≠ .tuple ks)
theorem EG {K:aG}{H:Hp}(ks:List aA) : ∀ {kds:List (aA×aA)} {ts:List (List aA×V)},Ab0 K H kds ts->Ab0 K H (pK kds ks) (mK ts ks)
 | [],ts,r=>by
  rw[Ab2.mp r]
  exact Ab2.mpr rfl
 | (k,d)::kds,_,r=>by
  obtain⟨k',x,rr,rfl,⟨rfl,hk'⟩,h1,h2⟩:=Aa5.mp r
  unfold pK mK
  rw[qR,qR]
  by_cases e:k'=ks
  ·rw[if_neg (by simp[e]),if_neg (by simp[e])]
   exact EG ks h2
  ·rw[if_pos (by simp[e]),if_pos (by simp[e])]
   exact Aa5.mpr ⟨k',x,_,rfl,⟨rfl,hk'⟩,h1,EG ks h2⟩
noncomputable def pP (c:aD)(Fw:FX)(g:List (aA×aA)->List aA->Option (Bool×List (aA×aA))):List aA->Option (Bool×aA):=open Classical in fun ds=>match ds with
 | [d,.str t,.tuple ks]=>(hX c d).bind fun p=>match p.2 with
  | .dict hds=>(Fw none [d,.str t,.tuple ks]).bind fun _=>(bZ hds (.inr t)).bind fun h=>match h with
   | .dict ((.none,.none)::kds)=>if bP ks=true/\dB ks≤6/\(hds.map (·.1)).Nodup then(g kds ks).bind fun q=>some (q.1,if q.1=true then bG c p.1 (.dict (gR hds t (.dict ((.none,.none)::q.2)))) else d) else none
   | _=>none
  | _=>none
 | _=>none
theorem DZ {α:Type}{c:Prop}[Decidable c]{x:Option α}{y:α}(h:(if c then x else none)=some y):c/\x=some y:=by
 by_cases q:c
 ·rw[if_pos q] at h; exact⟨q,h⟩
 ·rw[if_neg q] at h; cases h
theorem vW {c:aD}{Fw:FX}{g:List (aA×aA)->List aA->Option (Bool×List (aA×aA))}{ds:List aA}{q:Bool×aA}(h:pP c Fw g ds=some q) : ∃ W hds t ks kds u,∃ p:Bool×List (aA×aA),ds=[bG c W (.dict hds),.str t,.tuple ks]/\Fw none ds=some u/\bZ hds (.inr t)=some (.dict ((.none,.none)::kds))/\bP ks=true/\dB ks≤6/\(hds.map (·.1)).Nodup/\g kds ks=some p /\
  q=(p.1,if p.1=true then bG c W (.dict (gR hds t (.dict ((.none,.none)::p.2)))) else bG c W (.dict hds)):=by
 unfold pP at h
 split at h
 ·obtain⟨p,e1,h⟩:=XBs h
  have e1:=uY e1
  subst e1
  obtain⟨W,D⟩:=p
  dsimp only at h
  split at h
  ·obtain⟨u,e2,h⟩:=XBs h
   obtain⟨hh,e3,h⟩:=XBs h
   split at h
   ·obtain⟨cc,h⟩:=DZ h
    obtain⟨p,e4,h⟩:=XBs h
    exact⟨W,_,_,_,_,u,p,rfl,e2,e3,cc.1,cc.2.1,cc.2.2,e4,(dZ h).symm⟩
   ·cases h
  ·cases h
 ·cases h
theorem PN {c:aD}{Fw:FX}{g:List (aA×aA)->List aA->Option (Bool×List (aA×aA))} : ∀ d ds q,pP c Fw g (d::ds)=some q -> ∃ W D,d=bG c W D:=fun d ds q h=>by
 obtain⟨W,hds,t,ks,kds,u,p,e,_⟩:=vW h
 cases e
 exact⟨_,_,rfl⟩
noncomputable def BW (kds:List (aA×aA))(ks:List aA):Option (Bool×List (aA×aA)):=open Classical in if .tuple ks∈kds.map (·.1) then some (false,kds) else if kds.length<60 then some (true,kds++[(.tuple ks,.bool true)]) else none
noncomputable def HC (kds:List (aA×aA))(ks:List aA):Option (Bool×List (aA×aA)):=open Classical in if .tuple ks∈kds.map (·.1) then some (true,pK kds ks) else some (false,kds)
section
open MeetsSeq
theorem Cj (l:aB)(items:Array aE)(n:Nat)(x:aE)(e:aE->Bool)(j:Nat)(hj:j<items.size)(hit:e items[j]=true)(hz:items.size≤sizeLine)(k:Nat) :
  ∀ i:Nat,j - i=k->i≤j->(∀ m (hm:m<items.size),m<j->e items[m]=false)->Meets (Builtin.«list.remove.loop» ⟨[.ref l,x,rawInt i],[]⟩)
   (fun A R s=>s.heap.get? l=some { cls:=.type "list",data:=.seq items n }/\(∀ y,y∈items->SeqAt.EqAt A.in1 s y x (e y))/\R (.ok (.ret .none)) { s with heap:=s.heap.update l (jB fun xs=>xs.eraseIdxIfInBounds j) }):=by
 induction k with
 | zero=>
  intro i hk hij hno prog w A R s h
  obtain⟨hp,g,d,tk,os⟩:=s
  obtain⟨hl,he,h⟩:=h
  obtain rfl:i=j:=by omega
  wp_walk using wpAny_loadPart' hl
  rw[show items[((i:Nat):Int).toNat]?=some items[i] by simp[hj]]
  refine aK (he _ (Array.getElem_mem hj) prog w _ _ ?_)
  rw[hit]
  have z2:(items.eraseIdxIfInBounds i).size≤sizeLine+1:=jC (size_erased items _) (UN hz)
  wp_walk using(wpAny_updateSeq hl rfl (hz:=hz) (_hz':=z2)),wpAny_loadPart' hl
  simpa using h
 | succ k ih=>
  intro i hk hij hno prog w A R s h
  obtain⟨hp,g,d,tk,os⟩:=s
  obtain⟨hl,he,h⟩:=h
  have hlt:i<items.size:=by omega
  wp_walk using wpAny_loadPart' hl
  rw[show items[((i:Nat):Int).toNat]?=some items[i] by simp[hlt]]
  refine aK (he _ (Array.getElem_mem hlt) prog w _ _ ?_)
  rw[hno i hlt (by omega)]
  wp_walk
  rw[show((i:Int)+1)=((i+1:Nat):Int) by push_cast; rfl]
  exact⟨sY plain_remove_loop _,oY entry_remove_loop (by
   rw[qY plain_remove_loop _]
   exact ih (i+1) (by omega) (by omega) hno prog w A R _ ⟨hl,he,h⟩)⟩
theorem Ib (l:aB)(items:Array aE)(n:Nat)(x:aE)(e:aE->Bool)(j:Nat)(hj:j<items.size)(hit:e items[j]=true)(hno : ∀ m (hm:m<items.size),m<j->e items[m]=false)(hz:items.size≤sizeLine) :
  Meets (Builtin.«list.remove» ⟨[.ref l,x],[]⟩)
   (fun A R s=>s.heap.get? l=some { cls:=.type "list",data:=.seq items n }/\(∀ y,y∈items->SeqAt.EqAt A.in1 s y x (e y))/\R (.ok (.ret .none)) { s with heap:=s.heap.update l (jB fun xs=>xs.eraseIdxIfInBounds j) }):=by
 intro prog w A R s h
 obtain⟨hp,g,d,tk,os⟩:=s
 obtain⟨hl,he,h⟩:=h
 wp_walk using wpAny_loadPart' hl
 exact⟨sY plain_remove_loop _,oY entry_remove_loop (by
  rw[qY plain_remove_loop _]
  exact Cj l items n x e j hj hit hz _ 0 rfl (eX _) hno prog w A R _ ⟨hl,he,h⟩)⟩
end
section
variable {X:Cx}
theorem Aap.erase {K:aG}{H:Hp} : ∀ {ds:List aA} {vs:List V} (j:Nat),Aap K H ds vs->Aap K H (ds.eraseIdx j) (vs.eraseIdx j)
 | [],vs,j,h=>by
  obtain rfl:=Aai.mp h
  simpa using Aai.mpr rfl
 | d::ds,vs,0,h=>by
  obtain⟨v,r,rfl,h1,h2⟩:=Aac.mp h
  exact h2
 | d::ds,vs,j+1,h=>by
  obtain⟨v,r,rfl,h1,h2⟩:=Aac.mp h
  exact Aac.mpr ⟨v,_,rfl,h1,h2.erase j⟩
noncomputable def atD (ds:List aA)(d:aA):Option Nat:=ds.findIdx? fun z=>cS z d
def Nn (K:aG):V->List V->Hp->VK->Prop:=fun x vs H Q=>∃ p xs y ds d j,x = .ref p/\vs=[y]/\H p=some (.lst xs)/\Aap K H ds xs/\Abe K H d y/\dF d=true/\noDicts ds=true/\atD ds d=some j/\Q .non (upd H p (.lst (xs.eraseIdx j)))
theorem Dy (hu:X.A.units+100<cLine):MtM X "list.remove" (Nn X.K):=by
 intro pins s σ H x vs v us Q I rx rv h
 obtain⟨p,xs,y,ds,d,j,rfl,rfl,hp,rs,rd,ok,nds,hj,q⟩:=h
 cases rx
 obtain⟨u,rfl,ru⟩:=rv.one
 obtain⟨z,its,n,r,hl,e⟩:=I.lstM hp
 have ok':noDict d=true/\d.depth≤60:=by simpa [dF] using ok
 obtain⟨la,as,ra⟩:=kA I ok'.1 rd ru
 obtain⟨lb,bs,rb⟩:=zH I nds rs r
 have em:its.map (SeqAt.readOf s.heap)=ds:=SeqAt.readsAll_map ds its bs lb rb
 obtain⟨hj1,hj2,hj3⟩:=List.findIdx?_eq_some_iff_getElem.mp hj
 have lj:ds.length=its.length:=by rw[← em,cL]
 have at' : ∀ m (hm:m<its.length),ds[m]'(by omega)=SeqAt.readOf s.heap its[m]:=fun m hm=>by
  simp only[← em,List.getElem_map]
 refine qL F.slot_list_remove ⟨_,e,rfl⟩ F.entry_list_remove (F.args_list_remove_2 _ _) (Ib p its.toArray n u (fun y=>cS (SeqAt.readOf s.heap y) d) j (by simpa using(by omega:j<its.length)) ?_ (fun m hm hlt=>?_) (by rw[dJ]; omega)) ⟨e,SeqAt.items_eqAt (by simpa using rb) ra lb la (by omega),?_⟩
 ·have:=at' j (by omega)
  rw[this] at hj2
  simpa using hj2
 ·have hm':m<its.length:=by simpa using hm
  have h3:=hj3 m hlt
  rw[at' m hm'] at h3
  simpa using h3
 refine⟨.non,_,I.lset hp e ?_ (r.eraseIdx j) ?_,rfl,q⟩
 ·rw[Oz]
 ·have:=FK xs j
  omega
end
section
variable {X:Cx}{H0:Hp}{P0:aB->Prop}{n0:Nat}{e k:aR}{f g:EF}{x y:aD}{px py pos apos spos:bL}{i j:Nat}
theorem Tmp.free {K:aG}{H B0:Hp}{ρ:bC}{σ:St}{n:Nat}{d:aA}{v:V}(t:Tmp K H0 P0 B0 ρ σ n d v H) : ∃ fp,Sta K H0 P0 B0 ρ σ H fp/\Abe K (L2.hid H (Hd P0 fp)) d v:=by
 obtain⟨fp,S,r⟩:=t
 have hsub : ∀ a,Hd P0 (fun j=>if j=ρ.length then [] else fp j) a->Hd P0 fp a:=fun a h=>by
  rcases h with h | ⟨j,h⟩
  ·exact .inl h
  ·by_cases hj:j=ρ.length
   ·simp only[hj,if_true] at h; simp at h
   ·simp only[hj,if_false] at h; exact .inr ⟨j,h⟩
 refine⟨fun j=>if j=ρ.length then [] else fp j,⟨S.len,fun j=>?_,fun j k a h1 h2=>?_,fun j a h1=>?_,S.ext,S.hd,S.base.trans (fQ hsub),fun j n' d' e'=>?_⟩,r.share (fQ hsub) fun a m o q=>eK (fun z=>?_) q⟩
 ·by_cases hj:j=ρ.length
  ·simp only[hj,if_true]; exact .nil
  ·simp only[hj,if_false]; exact S.nd j
 ·by_cases hj:j=ρ.length
  ·simp only[hj,if_true] at h1; simp at h1
  ·by_cases hk:k=ρ.length
   ·simp only[hk,if_true] at h2; simp at h2
   ·simp only[hj,if_false] at h1; simp only[hk,if_false] at h2; exact S.dj j k a h1 h2
 ·by_cases hj:j=ρ.length
  ·simp only[hj,if_true] at h1; simp at h1
  ·simp only[hj,if_false] at h1; exact S.own j a h1
 ·have hlt:=(dU.mp e').1
  have hj:j≠ρ.length:=by omega
  obtain⟨v',h1,h2⟩:=S.slot j n' d' e'
  refine⟨v',h1,?_⟩
  simp only[hj,if_false]
  exact h2.keep (fQ hsub) fun a m=>rfl
 ·rcases z with z | ⟨k,z⟩
  ·exact S.np m z
  ·by_cases hk:k=ρ.length
   ·simp only[hk,if_true] at z; simp at z
   ·simp only[hk,if_false] at z; exact hk (S.dj k _ a z m)
end
section
variable {K:aG}{H0 H B0:Hp}{P0:aB->Prop}{ρ:bC}{σ:St}{fp:Nat->List aB}{i:Nat}
theorem Sta.change {H':Hp}{fp':Nat->List aB}{n:Nat}{d':aA}{v:V}(S:Sta K H0 P0 B0 ρ σ H fp)(hi:i<ρ.length)(hv:σ[i]?=some (some v))
  (hf : ∀ j,j≠i->j<ρ.length->fp' j=fp j) (hz : ∀ j,ρ.length≤j->fp' j=[] \/ fp' j=fp j) (nd:(fp' i).Nodup) (sub : ∀ a∈fp' i,∃ j,a∈fp j/\(j=i \/ fp' j=[]))
  (kp : ∀ a,a∉fp i->H' a=H a) (ow : ∀ a∈fp' i,(∃ xs,H' a=some (.lst xs)) \/ ∃ q:DQ,H' a=some (dO q))
  (new:Ext (L2.hid H (Hd P0 fp)) (L2.hid H' (Hd P0 fp'))->Aed K (L2.hid H' (Hd P0 fp')) H' n d' v (fp' i)):Sta K H0 P0 B0 (ρ.set i (some (n,d'))) σ H' fp':=by
 have same : ∀ j,j≠i -> ∀ a∈fp' j,a∈fp j:=fun j hj a m=>by
  by_cases h:j<ρ.length
  ·rw[hf j hj h] at m; exact m
  ·rcases hz j (by omega) with e | e
   ·rw[e] at m; simp at m
   ·rw[e] at m; exact m
 have from_ : ∀ j,∀ a∈fp' j,∃ l,a∈fp l:=fun j a m=>by
  by_cases h:j=i
  ·subst h
   obtain⟨l,ml,_⟩:=sub a m
   exact⟨l,ml⟩
  ·exact⟨j,same j h a m⟩
 have xb:Ext (L2.hid H (Hd P0 fp)) (L2.hid H' (Hd P0 fp')):=fun b o e=>by
  obtain⟨nb,e⟩:=Ab7.mp e
  refine eK (fun q=>nb ?_) ?_
  ·rcases q with q | ⟨j,q⟩
   ·exact .inl q
   ·obtain⟨l,ml⟩:=from_ j b q
    exact .inr ⟨l,ml⟩
  ·rw[kp b fun q=>nb (.inr ⟨i,q⟩)]; exact e
 have other : ∀ j,j≠i -> ∀ a∈fp' j,H' a=H a:=fun j hj a m=>kp a fun q=>hj (S.dj j i a (same j hj a m) q)
 refine⟨by simp[S.len],fun j=>?_,fun j l a h1 h2=>?_,fun j a m=>?_,fun b u e=>?_,S.hd,S.base.trans xb,fun j n' d2 e=>?_⟩
 ·by_cases h:j=i
  ·rw[h]; exact nd
  ·by_cases h2:j<ρ.length
   ·rw[hf j h h2]; exact S.nd j
   ·rcases hz j (by omega) with e | e
    ·rw[e]; exact .nil
    ·rw[e]; exact S.nd j
 ·by_cases e1:j=i <;> by_cases e2:l=i
  ·rw[e1,e2]
  ·subst e1
   obtain⟨m,hm,hm2⟩:=sub a h1
   have:=S.dj m l a hm (same l e2 a h2)
   subst this
   rcases hm2 with hm2 | hm2
   ·exact hm2.symm
   ·rw[hm2] at h2; simp at h2
  ·subst e2
   obtain⟨m,hm,hm2⟩:=sub a h2
   have:=S.dj m j a hm (same j e1 a h1)
   subst this
   rcases hm2 with hm2 | hm2
   ·exact hm2
   ·rw[hm2] at h1; simp at h1
  ·exact S.dj j l a (same j e1 a h1) (same l e2 a h2)
 ·obtain⟨l,ml⟩:=from_ j a m
  refine⟨(S.own l a ml).1,?_⟩
  by_cases h:j=i
  ·subst h; exact ow a m
  ·rw[other j h a m]; exact(S.own j a (same j h a m)).2
 ·rw[kp b fun q=>by rw[(S.own i b q).1] at e; cases e]
  exact S.ext b u e
 ·by_cases q:j=i
  ·subst q
   rw[lF hi] at e
   cases e
   exact⟨v,hv,new xb⟩
  ·rw[jT (fun z=>q z.symm)] at e
   obtain⟨v2,h1,h2⟩:=S.slot j n' d2 e
   have hj:=(dU.mp e).1
   refine⟨v2,h1,?_⟩
   have:=other j q
   rw[hf j q hj] at this ⊢
   exact h2.keep xb this
abbrev R1 (K:aG)(B H:Hp):aA×aA->aL×V->List aB->Prop:=fun kd kv f=>kd.1=kD kv.1/\Aed K B H 1 kd.2 kv.2 f
theorem Sta.dic2 {ds:List (aA×aA)}(S:Sta K H0 P0 B0 ρ σ H fp)(e:ρ[i]?=some (some (2,.dict ds))) : ∃ p ep xs Fs,σ[i]?=some (some (.ref p))/\H p=some (.dK ep xs)/\fp i=p::Fs.flatten/\All3 (R1 K (L2.hid H (Hd P0 fp)) H) ds xs Fs:=by
 obtain⟨v,h1,h2⟩:=S.slot i 2 _ e
 obtain⟨p,xs,Fs,rfl,hp,hF,h3⟩:=h2
 exact⟨p,xs.1,xs.2,Fs,h1,hp,hF,h3⟩
noncomputable def iJ:List (aA×aA)->aL->aA->List (aA×aA)
 | [],_,_=>[]
 | (k0,d0)::r,k,d=>if cI k0=some k then(k0,d)::r else(k0,d0)::iJ r k d
theorem QC (k0 d0:aA)(r:List (aA×aA))(k:aL):bZ ((k0,d0)::r) k=if cI k0=some k then some d0 else bZ r k:=by
 unfold bZ
 rw[fR]
 by_cases h:cI k0=some k
 ·rw[if_pos h]; simp[h]
 ·rw[if_neg h]; simp[h]
theorem ON {B:Hp}{k:aL} : ∀ {ds:List (aA×aA)} {xs:List (aL×V)} {Fs:List (List aB)},All3 (R1 K B H) ds xs Fs->Fs.flatten.Nodup -> ∀ d,bZ ds k=some d ->
  ∃ v f,f∈Fs/\cZ xs k=some v/\Aed K B H 1 d v f /\ ∀ (B' H':Hp) (d':aA),Ext B B'->Aed K B' H' 1 d' v f->(∀ a,a∉f->H' a=H a)->All3 (R1 K B' H') (iJ ds k d') xs Fs
 | _,_,_,.nil,_,d,e=>by simp[bZ] at e
 | (k0,d0)::ds,(k',v0)::xs,f0::Fs,.cons h t,nd,d,e=>by
  obtain⟨ek,h⟩:=h
  have ek:=ek
  subst ek
  rw[QC,lW] at e
  rw[jE,wV] at nd
  by_cases q:k'=k
  ·rw[if_pos (by rw[q])] at e
   cases e
   refine⟨v0,f0,bX,rW q,h,fun B' H' d' xb r kp=>?_⟩
   show All3 _ (if cI (kD k')=some k then(kD k',d')::ds else _) _ _
   rw[if_pos (by rw[lW,q])]
   refine .cons ⟨rfl,r⟩ (t.imp fun a b c m rr=>⟨rr.1,rr.2.keep xb fun z hz=>kp z fun z2=>?_⟩)
   exact nd.2.2 z z2 z (jS.mpr ⟨c,m,hz⟩) rfl
  ·rw[if_neg (fun z=>q (dZ z))] at e
   obtain⟨v,f,m,h1,h2,h3⟩:=ON t nd.2.1 d e
   refine⟨v,f,cD _ m,(pT q).trans h1,h2,fun B' H' d' xb r kp=>?_⟩
   show All3 _ (if cI (kD k')=some k then(kD k',d')::ds else(kD k',d0)::iJ ds k d') _ _
   rw[if_neg (by rw[lW]; exact fun z=>q (dZ z))]
   refine .cons ⟨rfl,h.keep xb fun z hz=>kp z fun z2=>?_⟩ (h3 B' H' d' xb r kp)
   exact nd.2.2 z hz z (jS.mpr ⟨f,m,z2⟩) rfl
theorem OO {B:Hp}{kd:aA×aA}{kv:aL×V}{f:List aB}(h:R1 K B H kd kv f) : ∀ {ds:List (aA×aA)} {xs:List (aL×V)} {Fs:List (List aB)},All3 (R1 K B H) ds xs Fs->All3 (R1 K B H) (ds++[kd]) (xs++[kv]) (Fs++[f])
 | _,_,_,.nil=>.cons h .nil
 | _,_,_,.cons h' t=>.cons h' (OO h t)
theorem OM {B:Hp}{k:aL} : ∀ {ds:List (aA×aA)} {xs:List (aL×V)} {Fs:List (List aB)},All3 (R1 K B H) ds xs Fs->bZ ds k=none->cZ xs k=none
 | _,_,_,.nil,_=>rfl
 | (k0,d0)::ds,(k',v0)::xs,f0::Fs,.cons h t,e=>by
  obtain⟨ek,h⟩:=h
  have ek:=ek
  subst ek
  rw[QC,lW] at e
  by_cases q:k'=k
  ·rw[if_pos (by rw[q])] at e; cases e
  ·rw[if_neg (fun z=>q (dZ z))] at e
   exact(pT q).trans (OM t e)
theorem MD {B:Hp} : ∀ {ds:List (aA×aA)} {xs:List (aL×V)} {Fs:List (List aB)},All3 (R1 K B H) ds xs Fs->xs.length=ds.length
 | _,_,_,.nil=>rfl
 | _,_,_,.cons _ t=>by rw[eE,eE,MD t]
theorem Sta.newKey {ds:List (aA×aA)}{k:aL}{d:aA}{v:V}(S:Sta K H0 P0 B0 ρ σ H fp)(e:ρ[i]?=some (some (2,.dict ds)))(hk:bZ ds k=none)(r:Aed K (L2.hid H (Hd P0 fp)) H 1 d v (fp ρ.length)) : ∃ p ep xs,σ[i]?=some (some (.ref p))/\H p=some (.dK ep xs)/\xs.length=ds.length /\
  ∀ n,∃ fp',Sta K H0 P0 B0 (ρ.set i (some (2,.dict (ds++[(kD k,d)])))) σ (upd H p (.dK n (putK xs k v))) fp':=by
 obtain⟨p,ep,xs,Fs,h1,h2,h3,h4⟩:=S.dic2 e
 have hi:=(dU.mp e).1
 refine⟨p,ep,xs,h1,h2,MD h4,fun n=>?_⟩
 have ep':putK xs k v=xs++[(k,v)]:=by
  unfold putK
  rw[yR,OM h4 hk]
  rfl
 have mp:p∈fp i:=by rw[h3]; exact bX
 have nl : ∀ a∈fp ρ.length,a∉fp i:=fun a m m2=>by
  have:=S.dj _ _ a m m2
  omega
 refine⟨fun j=>if j=i then p::(Fs++[fp ρ.length]).flatten else if j=ρ.length then [] else fp j,S.change hi h1 (fun j a b=>?_) (fun j a=>?_) ?_ (fun a m=>?_) (fun a na=>bO fun z=>na (by rw[show a=p from z]; exact mp)) (fun a m=>?_) fun xb=>?_⟩
 ·simp only[a,if_false]
  rw[if_neg (by omega)]
 ·have:j≠i:=by omega
  simp only[this,if_false]
  by_cases z:j=ρ.length
  ·rw[if_pos z]; exact .inl rfl
  ·rw[if_neg z]; exact .inr rfl
 ·simp only[if_true,UU,UT]
  have nd:=S.nd i
  rw[h3] at nd
  rw[← AZ]
  refine wV.mpr ⟨nd,S.nd _,fun a ha b hb e=>?_⟩
  subst e
  exact nl a hb (by rw[h3]; exact ha)
 ·simp only[if_true,UU,UT] at m
  rw[← AZ] at m
  rcases nM.mp m with m | m
  ·exact⟨i,by rw[h3]; exact m,.inl rfl⟩
  ·refine⟨ρ.length,m,.inr ?_⟩
   have:ρ.length≠i:=by omega
   simp only[this,if_false,if_true]
 ·simp only[if_true,UU,UT] at m
  rw[← AZ] at m
  by_cases z:a=p
  ·subst z; exact .inr ⟨.inl (n,_),eB⟩
  ·rw[bO z]
   rcases nM.mp m with m | m
   ·exact(S.own i a (by rw[h3]; exact m)).2
   ·exact(S.own _ a m).2
 ·simp only[if_true]
  have nd:=S.nd i
  rw[h3,fF] at nd
  rw[ep'] at xb ⊢
  refine⟨p,(n,xs++[(k,v)]),Fs++[fp ρ.length],rfl,eB,rfl,?_⟩
  have rk:=Aed.keep xb (H':=upd H p (.dK n (xs++[(k,v)]))) (fun a m=>bO fun z=>nl a m (by rw[show a=p from z]; exact mp)) r
  refine OO ⟨rfl,rk⟩ (h4.imp fun a b c m rr=>⟨rr.1,Aed.keep xb (fun z hz=>bO fun z2=>nd.1 ?_) rr.2⟩)
  have z2:=z2
  rw[← z2]
  exact jS.mpr ⟨c,m,hz⟩
end
noncomputable def AC (i:Nat)(ρ:bC):Option (List (aA×aA)):=match ρ[i]? with
 | some (some (2,.dict ds))=>some ds
 | _=>none
theorem PX {i:Nat}{ρ:bC}{ds:List (aA×aA)}(h:AC i ρ=some ds):ρ[i]?=some (some (2,.dict ds)):=by
 unfold AC at h
 split at h
 ·rename_i e; cases h; exact e
 ·cases h
section
variable {X:Cx}{H0:Hp}{P0:aB->Prop}{n0:Nat}{e k o:aR}{f g:EF}{x:aD}{px pos apos cpos spos:bL}{i:Nat}
theorem Nb:DF 2 X (.Dict [] [] pos) (eC (.dict [])):=PE.imp MO fun σ H Q gh=>by
 obtain⟨P,ρ,d,hP,rs,ef,k⟩:=gh
 cases ef
 refine fun q hq=>k (.ref q) _ [q] (Ext.new hq) (fF.mpr ⟨by simp,.nil⟩) (fun a m=>?_) ⟨q,(0,[]),[],rfl,eB,rfl,.nil⟩
 have:a=q:=by simpa using m
 subst this
 exact⟨hq,_,eB⟩
noncomputable def xX (i:Nat)(m:Md)(f:EF)(mk:Md)(g:EF):SF:=fun ρ=>(eV 1 m f ρ).bind fun d=>(AC i ρ).bind fun kds=>(eV 0 mk g ρ).bind fun k=>(cI k).bind fun k=>if bZ kds k=none/\kds.length<sizeLine then some (.nx (ρ.set i (some (2,.dict (kds++[(kD k,d)]))))) else none
theorem Nx (i:Nat)(m mk:Md)(hu:X.A.units+40<cLine)(he:DF 1 X e f)(hk:DE X k g)(hN:X.N[i]?=some x:=by rfl)(hv:kN X.env.scope x:=by first | exact bE rfl | exact bD (bE rfl) | exact bD (bD rfl))(hd:(x == ("__debug__" : aD))=false:=by decide)
  (hcd:(x == ("__classdict__" : aD))=false:=by decide) (hs:lY e (some (.Subscript (.Name x px) k apos)) pos.line X.env=pure false:=by rfl):DS X H0 P0 n0 (.Assign [.Subscript (.Name x px) k apos] e pos) (xX i m f mk g):=
 PS.imp (DB hu (mU hN hv hd hcd) hk (ev (H0:=H0) (P0:=P0) m he) hs) fun D σ H gh=>by
  obtain⟨B0,ρ,fp,o,S,ef,kk⟩:=gh
  obtain⟨d,e1,ef2⟩:=XBs ef
  obtain⟨kds,e2,ef3⟩:=XBs ef2
  obtain⟨kd,e3,ef4⟩:=XBs ef3
  obtain⟨key,e4,ef5⟩:=XBs ef4
  obtain⟨⟨hn,hl⟩,rfl⟩:=cX ef5
  clear ef ef2 ef3 ef4
  refine⟨B0,ρ,fp,d,S,e1,fun v H2 gh=>?_⟩
  obtain⟨fp2,S2,r2⟩:=gh
  obtain⟨p,ep,xs,h1,h2,_,_⟩:=S2.newKey (PX e2) hn r2
  have hf:eJ kd=true:=by rw[PR e4]; cases key <;> simp[kD,eJ]
  refine⟨.ref p,h1,RQ S2 e3 hf fun u H3 x3 r3=>?_⟩
  have S3:=S2.grow x3
  have r4:Aed X.K (hid H3 (Hd P0 fp2)) H3 1 d v (fp2 ρ.length):=r2.keep (bS x3) fun a m=>by
   rcases(S2.own _ a m).2 with⟨xs,e⟩ | ⟨xs,e⟩
   ·rw[e,x3 _ _ e]
   ·rw[e,x3 _ _ e]
  obtain⟨p3,ep3,xs3,q1,q2,q3,q4⟩:=S3.newKey (PX e2) hn r4
  have:p3=p:=by rw[h1] at q1; cases q1; rfl
  subst this
  refine⟨p3,_,rfl,.inl ⟨ep3,xs3,key,q2,vB e4 r3,by rw[q3]; exact hl,rfl⟩,fun n=>?_⟩
  obtain⟨fp',S4⟩:=q4 n
  exact kk _ _ fp' S4
end
noncomputable def uK (K:aG)(n:Nat)(G:List aA->Option (Bool×aA×aA)):Sp:=fun vs H Q _=>∃ P F0 F1 a p us d m ds r d' m',vs = .ref a :: .ref p::us/\Hid P H/\(∀ b∈F0,¬ P b)/\(∀ b∈F1,¬ P b)/\(∀ b∈F0,b∉F1)/\F0.Nodup/\F1.Nodup /\
 RepB K (hid H (orL (orL P F1) F0)) H d (.ref a) F0/\Aed K (hid H (orL (orL P F1) F0)) H n m (.ref p) F1/\Aap K (hid H (orL (orL P F1) F0)) ds us/\G (d::m::ds)=some (r,d',m') /\
 ∀ H',(∀ b o,b∉F0->b∉F1->H b=some o->H' b=some o)->RepB K (hid H' (orL (orL P F1) F0)) H' d' (.ref a) F0->Aed K (hid H' (orL (orL P F1) F0)) H' n m' (.ref p) F1->Q (.bl r) H'
noncomputable def pF (i j n:Nat)(G:List aA->Option (Bool×aA×aA))(fa:AF)(ρ:bC):Option (Bool×bC):=match ρ[i]?,ρ[j]? with
 | some (some (9,d)),some (some (n',m))=>if n'=n then(fa (vS ρ)).bind fun ds=>(G (d::m::ds)).bind fun q=>some (q.1,(ρ.set i (some (9,q.2.1))).set j (some (n,q.2.2))) else none
 | _,_=>none
noncomputable def JJ (K:aG)(H0:Hp)(P0:aB->Prop)(i j n:Nat)(G:List aA->Option (Bool×aA×aA))(fa:AF):TE:=fun σ H Q=>∃ B0 ρ fp r ρ',Sta K H0 P0 B0 ρ σ H fp/\pF i j n G fa ρ=some (r,ρ') /\ ∀ H' fp',Sta K H0 P0 B0 ρ' σ H' fp'->Q (.bl r) H'
theorem Sta.told2 {K:aG}{H0 H H' B0:Hp}{P0:aB->Prop}{ρ:bC}{σ:St}{fp:Nat->List aB}{i j n n':Nat}{d' m':aA}{v u:V}(S:Sta K H0 P0 B0 ρ σ H fp)(ij:i≠j)(hi:i<ρ.length)(hj:j<ρ.length)(hv:σ[i]?=some (some v))(hu:σ[j]?=some (some u))(kp : ∀ b o,b∉fp i->b∉fp j->H b=some o->H' b=some o)(new:Aed K (L2.hid H' (Hd P0 fp)) H' n d' v (fp i))(new2:Aed K (L2.hid H' (Hd P0 fp)) H' n' m' u (fp j)) :
  Sta K H0 P0 B0 ((ρ.set i (some (n,d'))).set j (some (n',m'))) σ H' fp:=by
 have xb:Ext (L2.hid H (Hd P0 fp)) (L2.hid H' (Hd P0 fp)):=fun b o e=>by
  obtain⟨nb,e⟩:=Ab7.mp e
  exact eK nb (kp b o (fun m=>nb (.inr ⟨i,m⟩)) (fun m=>nb (.inr ⟨j,m⟩)) e)
 refine⟨by simp[S.len],S.nd,S.dj,fun l a m=>⟨(S.own l a m).1,?_⟩,fun b u e=>kp b u (fun m=>?_) (fun m=>?_) (S.ext b u e),S.hd,S.base.trans xb,fun l n2 d e=>?_⟩
 ·by_cases h:l=i
  ·subst h; exact new.mut a m
  by_cases h2:l=j
  ·subst h2; exact new2.mut a m
  have na:a∉fp i:=fun z=>h (S.dj l i a m z)
  have nb:a∉fp j:=fun z=>h2 (S.dj l j a m z)
  rcases(S.own l a m).2 with⟨xs,e⟩ | ⟨xs,e⟩
  ·exact .inl ⟨xs,kp _ _ na nb e⟩
  ·exact .inr ⟨xs,kp _ _ na nb e⟩
 ·rw[(S.own i b m).1] at e; cases e
 ·rw[(S.own j b m).1] at e; cases e
 ·by_cases h2:l=j
  ·subst h2
   rw[lF (by simpa using hj)] at e
   cases e
   exact⟨u,hu,new2⟩
  rw[jT (fun z=>h2 z.symm)] at e
  by_cases h:l=i
  ·subst h
   rw[lF hi] at e
   cases e
   exact⟨v,hv,new⟩
  ·rw[jT (fun z=>h z.symm)] at e
   obtain⟨v',h1,h3⟩:=S.slot l n2 d e
   refine⟨v',h1,h3.keep xb fun a m=>?_⟩
   have na:a∉fp i:=fun z=>h (S.dj l i a m z)
   have nb:a∉fp j:=fun z=>h2 (S.dj l j a m z)
   rcases(S.own l a m).2 with⟨xs,e⟩ | ⟨xs,e⟩
   ·rw[e,kp _ _ na nb e]
   ·rw[e,kp _ _ na nb e]
theorem Na {K:aG}{B H:Hp}{n:Nat}{kds:List (aA×aA)}{v:V}{F:List aB}(h:Aed K B H n (.dict kds) v F) : ∃ p,v = .ref p:=by
 unfold Aed at h
 split at h
 ·rcases h with⟨z,_⟩ | ⟨_,p,_,_,rfl,_⟩ | h
  ·cases z
  ·exact⟨p,rfl⟩
  ·obtain⟨c',C',dx,a,w,qq,wds,hds,kvs,hvs,pps,e3,rfl,_⟩:=h.ex
   exact⟨a,rfl⟩
 ·cases n with
  | zero=>
   obtain⟨a,rfl,_⟩:=Abz.mp h.2
   exact⟨a,rfl⟩
  | succ n=>
   obtain⟨p,_,_,rfl,_⟩:=h
   exact⟨p,rfl⟩
section
variable {X:Cx}{H0:Hp}{P0:aB->Prop}{e:aR}{es:List aR}{fa:AF}{c x y z:aD}{px py pz pos:bL}{k n0 i j n:Nat}{ps:List aD}{G:List aA->Option (Bool×aA×aA)}
theorem Lv (i j:Nat)(D:DefX X.prog X.w X.K X.mg X.base x k ps (uK X.K n G))(hr:Room k X.A)(hg:Gl X x)(hG : ∀ d m ds q,G (d::m::ds)=some q->(∃ W D,d=bG c W D) /\ ∃ kds,m = .dict kds)(ij:i≠j)(ha:DA X (e::es) fa)
  (hN:X.N[i]?=some y:=by rfl) (hv:kN X.env.scope y:=by first | exact bE rfl | exact bD (bE rfl) | exact bD (bD rfl)) (hd:(y == ("__debug__" : aD))=false:=by decide) (hcd:(y == ("__classdict__" : aD))=false:=by decide)
  (hN2:X.N[j]?=some z:=by rfl) (hv2:kN X.env.scope z:=by first | exact bE rfl | exact bD (bE rfl) | exact bD (bD rfl)) (hd2:(z == ("__debug__" : aD))=false:=by decide) (hcd2:(z == ("__classdict__" : aD))=false:=by decide)
  (hdb:(x == ("__debug__" : aD))=false:=by decide) (hs1:bI (.Name y py :: .Name z pz::e::es) X.env=(false,bJ (.Name y py) X.env)::bI (.Name z pz::e::es) X.env:=by rfl) (hs2:bI (.Name z pz::e::es) X.env=(false,bJ (.Name z pz) X.env)::bI (e::es) X.env:=by rfl)
  (hpl:(fD pos (bI (.Name z pz::e::es) X.env)).any (·.1)=false:=by rfl):PE X (.Call (.Name x px) (.Name y py :: .Name z pz::e::es) [] pos) (JJ X.K H0 P0 i j n G fa):=by
 refine PE.imp (Mc (E:=fun _ _ _=>False) D hr hg (fun _ _ _ _ _ _ _ h=>by obtain⟨_,_,_,_,_,_,_,_,_,_,_,_,_,_,q⟩:=h; exact q.elim) (fP (mU hN hv hd hcd) (fP (mU hN2 hv2 hd2 hcd2) ha hs2) hs1) hdb hs1 hpl) fun σ H Q gh=>?_
 obtain⟨B0,ρ,fp,r,ρ',S,ev,kk⟩:=gh
 unfold pF at ev
 split at ev
 case h_2=>cases ev
 rename_i d n' m es1 es2
 obtain⟨rfl,ev⟩:=DZ ev
 obtain⟨ds,e1,ev⟩:=XBs ev
 obtain⟨q,e2,ev⟩:=XBs ev
 cases ev
 obtain⟨v,hv1,ro⟩:=S.slot i 9 d es1
 obtain⟨u,hu1,rm⟩:=S.slot j _ m es2
 obtain⟨⟨W,D',rfl⟩,kds,rfl⟩:=hG _ _ _ _ e2
 rcases(show _ \/ Ahu _ _ _ _ _ _ \/ RepB _ _ _ _ _ _ from ro) with⟨z,_⟩ | ⟨_,_,_,z,_⟩ | rb
 ·cases z
 ·cases z
 obtain⟨c',C',dx,a,w,qq,wds,hds,kvs,hvs,pps,e3,rfl,_⟩:=id rb.ex
 obtain⟨p,rfl⟩:=Na rm
 refine⟨.ref a,hv1,.ref p,hu1,Hd P0 fp,vS ρ,ds,S.hid,S.viewS,e1,fun vs H2 x2 r2=>?_⟩
 show uK X.K _ G (.ref a :: .ref p::(vs++[])) H2 Q _
 rw[tP]
 have S2:=S.grow x2
 have eP:orL (orL (fun b=>P0 b \/ ∃ l,l≠i/\l≠j/\b∈fp l) (fp j)) (fp i)=Hd P0 fp:=by
  funext b
  refine propext ⟨fun h=>?_,fun h=>?_⟩
  ·rcases h with((h | ⟨l,_,_,h⟩) | h) | h
   ·exact .inl h
   ·exact .inr ⟨l,h⟩
   ·exact .inr ⟨j,h⟩
   ·exact .inr ⟨i,h⟩
  ·rcases h with h | ⟨l,h⟩
   ·exact .inl (.inl (.inl h))
   ·by_cases q:l=i
    ·exact .inr (q ▸ h)
    by_cases q2:l=j
    ·exact .inl (.inr (q2 ▸ h))
    ·exact .inl (.inl (.inr ⟨l,q,q2,h⟩))
 have kp2 : ∀ l,∀ b∈fp l,H2 b=H b:=fun l b m=>by
  rcases(S.own l b m).2 with⟨xs,e⟩ | ⟨xs,e⟩
  ·rw[e,x2 _ _ e]
  ·rw[e,x2 _ _ e]
 have rb2:RepB X.K (hid H2 (Hd P0 fp)) H2 _ (.ref a) (fp i):=rb.keep (bS x2) (kp2 i)
 have rm2:=rm.keep (bS x2) (kp2 j)
 refine⟨fun b=>P0 b \/ ∃ l,l≠i/\l≠j/\b∈fp l,fp i,fp j,a,p,vs,_,_,ds,q.1,q.2.1,q.2.2,rfl,fun b h=>S2.hid b (h.imp id fun⟨l,_,_,h⟩=>⟨l,h⟩),fun b m h=>?_,fun b m h=>?_,fun b m h=>ij (S.dj i j b m h),S.nd i,S.nd j,by rw[eP]; exact rb2,by rw[eP]; exact rm2,by rw[eP]; exact r2,e2,fun H' kp rn rn2=>?_⟩
 ·rcases h with h | ⟨l,nj,_,h⟩
  ·exact S.np m h
  ·exact nj (S.dj l i b h m)
 ·rcases h with h | ⟨l,_,nj,h⟩
  ·exact S.np m h
  ·exact nj (S.dj l j b h m)
 ·rw[eP] at rn rn2
  exact kk H' fp (S2.told2 ij (dU.mp es1).1 (dU.mp es2).1 hv1 hu1 kp (bD (.inr rn):_ \/ Ahu _ _ _ _ _ _ \/ RepB _ _ _ _ _ _) rn2)
noncomputable def yI (m:Md)(t:BF)(i j n:Nat)(G:List aA->Option (Bool×aA×aA))(fa:AF):SF:=fun ρ=>(bV m t ρ).bind fun b=>if b=true then(pF i j n G fa ρ).bind fun q=>if q.1=true then some (.nx q.2) else none else some (.nx ρ)
theorem Bj {a ce:aR}{body:List bK}{t:BF}{p1 p2:bL}(m:Md)(ht:DT X a t)(h:PE X ce (JJ X.K H0 P0 i j n G fa))(he : ∀ whole,isTrue ce X.env whole=(do let v ← whole; qH ce.pos; kZ [v] (truthy v)):=by intro _; rfl) :
  DS X H0 P0 n0 (.If (.BoolOp .And [a,.UnaryOp .Not ce p1] p2) body [] pos) (yI m t i j n G fa):=
 PS.imp (lP (PW.pt (SX (evB (H0:=H0) (P0:=P0) m ht) (KU (SB (SO h he))))) NK lV) fun D σ H gh=>by
  obtain⟨B0,ρ,fp,o,S,ef,k⟩:=gh
  obtain⟨b,e1,ef⟩:=XBs ef
  refine⟨B0,ρ,fp,b,S,e1,fun H1 S1=>?_⟩
  cases b with
  | false=>
   cases ef
   exact gX (gX (k σ H1 fp S1))
  | true=>
   have ef:((pF i j n G fa ρ).bind fun q=>if q.1=true then some (Out.nx q.2) else none)=some o:=ef
   obtain⟨q,e3,ef⟩:=XBs ef
   by_cases hq:q.1=true
   case neg=>rw[if_neg hq] at ef; cases ef
   rw[if_pos hq] at ef
   cases ef
   refine iS ⟨B0,ρ,fp,q.1,q.2,S1,e3,fun H' fp' S'=>⟨q.1,rfl,?_⟩⟩
   rw[hq]
   exact gX (k σ H' fp' S')
end
theorem KA {K:aG}{B H:Hp}{p:aB}{F:List aB}{ms:List (aA×aA)}{k:aL}{es:List aA}(h:Aed K B H 2 (.dict ms) (.ref p) F)(nd:F.Nodup)(hk:bZ ms k=some (.list es)) : ∃ ep xs q ys,H p=some (.dK ep xs)/\cZ xs k=some (.ref q)/\H q=some (.lst ys)/\q∈F/\Aap K B es ys /\
  ∀ B' es' ys',Ext B B'->Aap K B' es' ys'->Aed K B' (upd H q (.lst ys')) 2 (.dict (iJ ms k (.list es'))) (.ref p) F:=by
 obtain⟨p',xs,Fs,ep,hp,hF,h4⟩:=h
 cases ep
 rw[hF,fF] at nd
 obtain⟨v,f,mf,hv,hr,up⟩:=ON (show All3 (R1 K B H) ms xs.2 Fs from h4) nd.2 _ hk
 obtain⟨q,ys,Gs,rfl,hq,hF2,g3⟩:=hr
 obtain⟨r,hn⟩:=OC g3
 rw[hn] at hF2
 have npq:p≠q:=fun z=>nd.1 (jS.mpr ⟨f,mf,by rw[hF2,z]; exact bX⟩)
 refine⟨xs.1,xs.2,q,ys,hp,hv,hq,?_,r,fun B' es' ys' xb r'=>?_⟩
 ·rw[hF]
  exact cD _ (jS.mpr ⟨f,mf,by rw[hF2]; exact bX⟩)
 ·refine⟨p,xs,Fs,rfl,by rw[bO npq]; exact hp,hF,up _ _ _ xb ?_ fun a na=>bO fun z=>na (by rw[hF2,z]; exact bX)⟩
  obtain⟨q1,q2⟩:=FH r'
  exact⟨q,ys',_,rfl,eB,by rw[hF2,q2],q1⟩
theorem La {P:bB}{w:aW}{A:cA}{E:aE->aH->Prop}{s:aH}{l:aB}{vs:List aE}{is:List Int}{Q:aE->aH->Prop}(hh:A.handled=none)(hl:s.heap.IsList l vs.toArray)(hi:IntsAre vs is)
  (h : ∀ t h' tk,(∀ b o,s.heap.get? b=some o->h'.get? b=some o)->Q (.int is.sum t) { s with heap:=h',toks:=tk }):aQ (aT P w) A (call (.builtin "sum") [.ref l]) Q E s:=by
 obtain⟨xs,e⟩:=hi.allInts.items
 have e2:is=numsOf (intItems xs).toList:=by
  rw[← e]
  exact hi.numsOf.symm
 rw[e] at hl
 refine sum_intListG hh hl fun h' tk t' hk=>?_
 have:=h t' h' tk hk
 rw[e2,nums_intItems] at this
 rw[preSum_eq,List.take_of_length_le (by simp)]
 exact this
theorem NZ:jN "sum" = some (.builtin "sum"):=by kernel_rfl
section
variable {X:Cx}
theorem PD (hc:X.calm=true):Ado X (.builtin "sum") (fun xs H Q=>∃ p,∃ is:List Int,xs=[.ref p]/\SqL X.K H p (is.map V.int)/\Q (.int is.sum) H):=by
 intro pins s σ H xs us Q I r h
 obtain⟨p,is,rfl,hp,q⟩:=h
 obtain⟨u,rfl,ru⟩:=vals1 r
 cases ru
 obtain⟨its,rv,pl,_⟩:=I.list hp
 refine La (I.ok.hd hc) pl.isList (JF rv) fun t h' tk hk=>?_
 exact⟨.int is.sum,H,I.kept fun b o e=>hk b o e,⟨t,rfl⟩,q⟩
noncomputable def zZ:List aA->Option aA
 | [.list ds]=>(lH ds).bind fun is=>some (.int is.sum)
 | _=>none
theorem PM {K:aG}:CallD K 0 (fun xs H Q=>∃ p,∃ is:List Int,xs=[.ref p]/\SqL K H p (is.map V.int)/\Q (.int is.sum) H) zZ:=fun P H xs ds d Q hP r e k=>by
 unfold zZ at e
 split at e
 ·obtain⟨is,e1,e2⟩:=XBs e
  cases e2
  obtain rfl:=LP e1
  obtain⟨v,rfl,r'⟩:=fZ r
  obtain⟨q,ys,rfl,hq,rr⟩:=Abm.mp r'
  obtain rfl:=RA rr
  exact⟨q,is,rfl,Aay.sqL hq,k.zero Ext.refl (Aaq.mpr rfl)⟩
 ·cases e
end
section
variable {prog:bB}{w:aW}{A:cA}{E:aE->aH->Prop}{s:aH}
theorem Ea {k k':List aA}{a b:aB}{as as':List aB}{P:HU->aH->Prop}(ra:kF s.heap (.ref a) (.tuple k) as)(rb:kF s.heap (.ref b) (.tuple k') as')(hs:dM k k'=true)(h:P (.done (.ret (.bool (decide (bN k<bN k'))))) s) :
  aQ (aT prog w) A (Builtin.«tuple.__lt__» ⟨[.ref a,.ref b],[]⟩) P E s:=by
 obtain⟨_,o,xs,n,z,ho,hc,hd,hr⟩:=mZ ra
 cases z
 obtain⟨_,o',ys,n',z,ho',hc',hd',hr'⟩:=mZ rb
 cases z
 have hsz:xs.size=ys.size:=by
  have l1:=vC hr
  have l2:=vC hr'
  have ll:=yX hs
  simp only[mI] at l1 l2
  omega
 have ty:s.TypeIs (.ref b) "tuple":=⟨_,ho',hc'⟩
 show aQ _ _ (isInstance (.ref b) (.type "tuple") >>= _) _ _ s
 refine aK (HI ty isSubtype_tuple_tuple ?_)
 simp only[VD,lG,if_false]
 refine aK (TJ ho hd ?_)
 refine aK (TJ ho' hd' ?_)
 refine aK ?_
 refine TL _
  (fun rest r s'=>r.1=none/\s'=s /\ ∃ q q' xs' ys' bs bs',rest=List.zip xs' ys'/\lB s.heap xs' q bs/\lB s.heap ys' q' bs'/\dM q q'=true/\decide (bN q<bN q')=decide (bN k<bN k'))
  _ ?_ ?_ _ _ ⟨rfl,rfl,k,k',xs.toList,ys.toList,_,_,rfl,hr,hr',hs,rfl⟩
 ·rintro⟨u,v⟩ rest r s' ⟨hr0,rfl,q,q',xs',ys',bs,bs',hz,h1,h2,hq,hdec⟩
  cases h1 with
  | nil=>simp at hz
  | cons r1 r2=>
   cases h2 with
   | nil=>simp at hz
   | cons r1' r2'=>
    simp only[IF,II,wO] at hz
    obtain⟨⟨rfl,rfl⟩,rfl⟩:=hz
    cases r1 with
    | int x t=>
     cases r1' with
     | int y t'=>
      refine aK ((dR prog w).eqBool (vQ _ _ x t) (vQ _ _ y t') ?_)
      refine sT (fun z=>?_) fun z=>?_
      ·have e:x≠y:=fun q=>by simp[q] at z
       refine aK (AH (aK (show aQ _ _ (dS .Lt (.int x t) (.int y t')) _ _ _ from lt_int ?_)))
       have:decide (bN k<bN k')=decide (x<y):=by
        rw[← hdec,decide_eq_decide,yE]
        simp[e]
       rw[this] at h
       exact aK (bA (bA (bA h)))
      ·have e:x=y:=by simpa using z
       subst e
       refine bA ⟨rfl,rfl,_,_,_,_,_,_,rfl,r2,r2',by simpa [dM] using hq,?_⟩
       rw[← hdec,decide_eq_decide,yE]
       simp
     | _=>simp[dM] at hq
    | str x t=>
     cases r1' with
     | str y t'=>
      refine aK ((dR prog w).eqBool (vT _ _ x t) (vT _ _ y t') ?_)
      refine sT (fun z=>?_) fun z=>?_
      ·have e:x≠y:=fun q=>by simp[q] at z
       refine aK (AH (aK (show aQ _ _ (dS .Lt (.str x t) (.str y t')) _ _ _ from lt_str ?_)))
       have:decide (bN k<bN k')=decide (x.cps.toList<y.cps.toList):=by
        rw[← hdec,decide_eq_decide,yK]
        simp[e]
       rw[this] at h
       exact aK (bA (bA (bA h)))
      ·have e:x=y:=by simpa using z
       subst e
       refine bA ⟨rfl,rfl,_,_,_,_,_,_,rfl,r2,r2',by simpa [dM] using hq,?_⟩
       rw[← hdec,decide_eq_decide,yK]
       have : ¬ x.cps.toList<x.cps.toList:=List.lt_irrefl _
       simp[this]
     | _=>simp[dM] at hq
    | _=>simp[dM] at hq
 ·rintro⟨r1,r2⟩ s' ⟨hr0,rfl,q,q',xs',ys',bs,bs',hz,h1,h2,hq,hdec⟩
  simp only at hr0
  subst hr0
  refine bA ?_
  have hf:decide (bN k<bN k')=false:=by
   rw[← hdec]
   cases h1 with
   | nil=>
    cases h2 with
    | nil=>rfl
    | cons _ _=>simp[dM] at hq
   | cons _ _=>
    cases h2 with
    | nil=>simp[dM] at hq
    | cons _ _=>simp at hz
  rw[hf] at h
  show P (.done (.ret (.bool (decide (xs.size<ys.size))))) s'
  rw[decide_eq_false (by omega)]
  exact h
theorem Ie {k k':List aA}{a b:aB}{Q:aE->aH->Prop}(hu:A.units<cLine)(ha:Ag9 s.heap k a)(hb:Ag9 s.heap k' b)(hs:dM k k'=true)(h:Q (.bool (decide (bN k<bN k'))) s) :
  aQ (aT prog w) A (dS .Lt (.ref a) (.ref b)) Q E s:=by
 obtain⟨_,_,as,ra⟩:=ha
 obtain⟨_,_,as',rb⟩:=hb
 show aQ _ _ (richCompare .Lt (.ref a) (.ref b)) Q E s
 exact wpAny_richCompare_same_room (op:=.Lt) (GQ ra) (GQ rb) PySem.F.slot_tuple_lt (sU PySem.F.slot_tuple_lt (GQ ra) PySem.F.entry_tuple_lt (Ea ra rb hs ⟨_,rfl,(fun e=>nomatch e),h⟩) (PySem.F.args_tuple_lt_2 _ _)) hu
end
section
variable {X:Cx}
noncomputable abbrev IQ:R2:=fun x y H Q=>∃ a b k k',x = .ref a/\y = .ref b/\Air H k a/\Air H k' b/\dM k k'=true/\Q (.bl (decide (bN k<bN k'))) H
theorem YW (hu:X.A.units<cLine):OpR X (dS .Lt) IQ:=by
 intro pins s σ H x y v u Q I rx ry h
 obtain⟨a,b,k,k',rfl,rfl,ta,tb,hs,q⟩:=h
 cases rx
 cases ry
 exact Ie hu (mO I.hok ta) (mO I.hok tb) hs (CC I q rfl)
noncomputable def xR:aA->aA->Option aA
 | .tuple k,.tuple k'=>if (bP k=true/\dB k≤6)/\(bP k'=true/\dB k'≤6)/\dM k k'=true then some (.bool (decide (bN k<bN k'))) else none
 | d,d'=>gLt d d'
theorem Ll {K:aG}:OpD K 0 (fun x y H Q=>(rI0 (fun i j=>.bl (decide (i<j))) x y H Q \/ ∃ i j,x = .str i/\y = .str j/\Q (.bl (decide (i.cps.toList<j.cps.toList))) H) \/ IQ x y H Q) xR:=fun P H x y a b d Q hP ra rb e k=>by
 unfold xR at e
 split at e
 ·obtain⟨⟨h1,h2,h3⟩,rfl⟩:=cX e
  obtain⟨p,rfl,tp⟩:=ra.tupK h1.1 h1.2
  obtain⟨q,rfl,tq⟩:=rb.tupK h2.1 h2.2
  exact .inr ⟨p,q,_,_,rfl,rfl,tp.keep fun c zs e=>Aay _ _ e,tq.keep fun c zs e=>Aay _ _ e,h3,k.zero Ext.refl (Aan.mpr rfl)⟩
 ·exact .inl (nX P H x y a b d Q hP ra rb e k)
end
end L2
namespace Aw
open PySem L2
noncomputable def top (i:Nat):bK:=PySem.Challenge.pw_askwithin_k09_rows_put_and_dropped.main.body.getD i (.Pass ⟨0,0,0,0⟩)
noncomputable abbrev FV:bK:=top 10
noncomputable abbrev Do:List aD:=["thing"]
noncomputable abbrev sI:List aD:=["thing"]
theorem Akh:FnScope Do sI (bQ FV):=⟨rfl,rfl,rfl,by decide +kernel,rfl,by decide +kernel,by decide +kernel⟩
noncomputable abbrev GD:bK:=top 11
noncomputable abbrev De:List aD:=["thing"]
noncomputable abbrev vJ:List aD:=["thing"]
theorem Ak3:FnScope De vJ (bQ GD):=⟨rfl,rfl,rfl,by decide +kernel,rfl,by decide +kernel,by decide +kernel⟩
noncomputable abbrev zC:bK:=top 12
noncomputable abbrev PB:List aD:=["thing"]
noncomputable abbrev sG:List aD:=["thing"]
theorem Al7:FnScope PB sG (bQ zC):=⟨rfl,rfl,rfl,by decide +kernel,rfl,by decide +kernel,by decide +kernel⟩
noncomputable abbrev FF:bK:=top 13
noncomputable abbrev Bd:List aD:=["thing"]
noncomputable abbrev vF:List aD:=["thing"]
theorem Amn:FnScope Bd vF (bQ FF):=⟨rfl,rfl,rfl,by decide +kernel,rfl,by decide +kernel,by decide +kernel⟩
noncomputable abbrev yV:bK:=top 18
noncomputable abbrev NH:List aD:=["thing"]
noncomputable abbrev uX:List aD:=["thing"]
theorem Apd:FnScope NH uX (bQ yV):=⟨rfl,rfl,rfl,by decide +kernel,rfl,by decide +kernel,by decide +kernel⟩
noncomputable abbrev FP:bK:=top 19
noncomputable abbrev Dq:List aD:=["thing"]
noncomputable abbrev vG:List aD:=["thing"]
theorem Akk:FnScope Dq vG (bQ FP):=⟨rfl,rfl,rfl,by decide +kernel,rfl,by decide +kernel,by decide +kernel⟩
noncomputable abbrev wB:bK:=top 20
noncomputable abbrev GK:List aD:=["thing"]
noncomputable abbrev wA:List aD:=["thing"]
theorem Aip:FnScope GK wA (bQ wB):=⟨rfl,rfl,rfl,by decide +kernel,rfl,by decide +kernel,by decide +kernel⟩
noncomputable abbrev GO:bK:=inClass (top 21) 0
noncomputable abbrev RI:List aD:=["self","widths","table"]
noncomputable abbrev wD:List aD:=["self","widths"]
theorem Age:FnScope RI wD (bQ GO):=⟨rfl,rfl,rfl,by decide +kernel,rfl,by decide +kernel,by decide +kernel⟩
noncomputable abbrev GR:bK:=inClass (top 21) 1
noncomputable abbrev Gw:List aD:=["self","table"]
noncomputable abbrev sM:List aD:=["self","table"]
theorem Ae6:FnScope Gw sM (bQ GR):=⟨rfl,rfl,rfl,by decide +kernel,rfl,by decide +kernel,by decide +kernel⟩
noncomputable abbrev GN:bK:=inClass (top 21) 2
noncomputable abbrev Gp:List aD:=["self","table","row"]
noncomputable abbrev nC:List aD:=["self","table","row"]
theorem Agc:FnScope Gp nC (bQ GN):=⟨rfl,rfl,rfl,by decide +kernel,rfl,by decide +kernel,by decide +kernel⟩
noncomputable abbrev zE:bK:=inClass (top 21) 3
noncomputable abbrev QL:List aD:=["self","table","row"]
noncomputable abbrev oQ:List aD:=["self","table","row"]
theorem Af8:FnScope QL oQ (bQ zE):=⟨rfl,rfl,rfl,by decide +kernel,rfl,by decide +kernel,by decide +kernel⟩
noncomputable abbrev zJ:bK:=inClass (top 21) 4
noncomputable abbrev QR:List aD:=["self","table","row"]
noncomputable abbrev oJ:List aD:=["self","table","row"]
theorem Ae2:FnScope QR oJ (bQ zJ):=⟨rfl,rfl,rfl,by decide +kernel,rfl,by decide +kernel,by decide +kernel⟩
noncomputable abbrev FU:bK:=inClass (top 21) 5
noncomputable abbrev Dm:List aD:=["self","table","row"]
noncomputable abbrev vL:List aD:=["self","table","row"]
theorem Ak7:FnScope Dm vL (bQ FU):=⟨rfl,rfl,rfl,by decide +kernel,rfl,by decide +kernel,by decide +kernel⟩
noncomputable abbrev GH:bK:=inClass (top 21) 6
noncomputable abbrev Ek:List aD:=["self","table"]
noncomputable abbrev vM:List aD:=["self","table"]
theorem Ajq:FnScope Ek vM (bQ GH):=⟨rfl,rfl,rfl,by decide +kernel,rfl,by decide +kernel,by decide +kernel⟩
noncomputable abbrev GM:bK:=inClass (top 21) 7
noncomputable abbrev Gk:List aD:=["self"]
noncomputable abbrev zO:List aD:=["self"]
theorem Aha:FnScope Gk zO (bQ GM):=⟨rfl,rfl,rfl,by decide +kernel,rfl,by decide +kernel,by decide +kernel⟩
noncomputable abbrev zI:bK:=inClass (top 21) 9
noncomputable abbrev QX:List aD:=["self"]
noncomputable abbrev vV:List aD:=["self"]
theorem Ajv:FnScope QX vV (bQ zI):=⟨rfl,rfl,rfl,by decide +kernel,rfl,by decide +kernel,by decide +kernel⟩
noncomputable abbrev GE:bK:=top 23
noncomputable abbrev Ei:List aD:=["_law_script","_law_k","_law_number"]
noncomputable abbrev vP:List aD:=["_law_script","_law_k"]
theorem Aju:FnScope Ei vP (bQ GE):=⟨rfl,rfl,rfl,by decide +kernel,rfl,by decide +kernel,by decide +kernel⟩
noncomputable abbrev FQ:bK:=top 24
noncomputable abbrev Dt:List aD:=["_law_cell_here","_law_k","_law_number"]
noncomputable abbrev oT:List aD:=["_law_cell_here","_law_k"]
theorem Akl:FnScope Dt oT (bQ FQ):=⟨rfl,rfl,rfl,by decide +kernel,rfl,by decide +kernel,by decide +kernel⟩
noncomputable abbrev sJ:bK:=top 25
noncomputable abbrev zP:List aD:=["_law_cell_here","_law_count","_law_signs","_law_size","_law_base","_law_at","_law_found","_law_k"]
noncomputable abbrev wC:List aD:=["_law_cell_here","_law_count"]
theorem Aio:FnScope zP wC (bQ sJ):=⟨rfl,rfl,rfl,by decide +kernel,rfl,by decide +kernel,by decide +kernel⟩
noncomputable abbrev GL:bK:=top 26
noncomputable abbrev Ge:List aD:=["_law_cell_here","_law_far","_law_big"]
noncomputable abbrev vX:List aD:=["_law_cell_here"]
theorem Ahg:FnScope Ge vX (bQ GL):=⟨rfl,rfl,rfl,by decide +kernel,rfl,by decide +kernel,by decide +kernel⟩
noncomputable abbrev FN:bK:=top 27
noncomputable abbrev Dc:List aD:=["_law_cell_here","_law_values_here","_law_wide","_law_number","_law_row_here","_law_k"]
noncomputable abbrev vH:List aD:=["_law_cell_here","_law_values_here","_law_wide"]
theorem Ak9:FnScope Dc vH (bQ FN):=⟨rfl,rfl,rfl,by decide +kernel,rfl,by decide +kernel,by decide +kernel⟩
noncomputable abbrev GI:bK:=top 28
noncomputable abbrev Eb:List aD:=["_law_found","_law_owed"]
noncomputable abbrev vO:List aD:=["_law_found","_law_owed"]
theorem Ajr:FnScope Eb vO (bQ GI):=⟨rfl,rfl,rfl,by decide +kernel,rfl,by decide +kernel,by decide +kernel⟩
noncomputable abbrev GP:bK:=top 29
noncomputable abbrev Gu:List aD:=["_law_found","_law_rows","_law_k"]
noncomputable abbrev wF:List aD:=["_law_found","_law_rows"]
theorem Afj:FnScope Gu wF (bQ GP):=⟨rfl,rfl,rfl,by decide +kernel,rfl,by decide +kernel,by decide +kernel⟩
noncomputable abbrev zS:bK:=top 30
noncomputable abbrev RJ:List aD:=["_law_book","_law_model","_law_size"]
noncomputable abbrev wG:List aD:=["_law_book","_law_model"]
theorem Ae1:FnScope RJ wG (bQ zS):=⟨rfl,rfl,rfl,by decide +kernel,rfl,by decide +kernel,by decide +kernel⟩
noncomputable abbrev GG:bK:=top 31
noncomputable abbrev zL:List aD:=["_law_book","_law_model","_law_table","_law_row_here","_law_way","_law_rows","_law_owed"]
noncomputable abbrev vR:List aD:=["_law_book","_law_model","_law_table","_law_row_here","_law_way"]
theorem Ajp:FnScope zL vR (bQ GG):=⟨rfl,rfl,rfl,by decide +kernel,rfl,by decide +kernel,by decide +kernel⟩
noncomputable abbrev pE:bK:=top 32
noncomputable abbrev WI:List aD:=["_law_script","_law_pairs","_law_name","_law_values_here","_law_far","_law_book","_law_model","_law_wide","_law_held","_law_cell_here","_law_table","_law_way","_law_row_here","_law_found","_law_spoiled","_law_kept"]
noncomputable abbrev JU:List aD:=["_law_script"]
theorem A3f:FnScope WI JU (bQ pE):=⟨rfl,rfl,rfl,by decide +kernel,rfl,by decide +kernel,by decide +kernel⟩
structure Blt (mg:aD->Option aE):Prop where
 «isinstance» : mg "isinstance" = none
 «int» : mg "int" = none
 «bool» : mg "bool" = none
 «abs» : mg "abs" = none
 «range» : mg "range" = none
 «len» : mg "len" = none
 «str» : mg "str" = none
 «all» : mg "all" = none
 «any» : mg "any" = none
 «list» : mg "list" = none
 «tuple» : mg "tuple" = none
 «dict» : mg "dict" = none
 «set» : mg "set" = none
 «sorted» : mg "sorted" = none
 «sum» : mg "sum" = none
 «min» : mg "min" = none
 «max» : mg "max" = none
 «enumerate» : mg "enumerate" = none
 «zip» : mg "zip" = none
 «reversed» : mg "reversed" = none
 «ValueError» : mg "ValueError" = none
structure Cst (mg:aD->Option aE):Prop where
 LETTERS : ∃ t,mg "LETTERS" = some (.str "abcdefghijklmnopqrstuvwxyz" t)
 FIGURES : ∃ t,mg "FIGURES" = some (.str "0123456789" t)
 MOST_SIGNS : ∃ t,mg "MOST_SIGNS" = some (.int 12 t)
 MOST_WIDTH : ∃ t,mg "MOST_WIDTH" = some (.int 6 t)
 MOST_TABLES : ∃ t,mg "MOST_TABLES" = some (.int 12 t)
 MOST_ROWS : ∃ t,mg "MOST_ROWS" = some (.int 60 t)
structure Xcs (K:aG)(mg:aD->Option aE):Prop where
 bk:InsC K "Book"
 r_NoTable:xO K "NoTable"
 r_NoRow:xO K "NoRow"
 r_Full:xO K "Full"
set_option maxHeartbeats 4000000
variable {P:bB}{w:aW}{K:aG}{mg:aD->Option aE}{base:aP}{f:aB}{fd:eM}
noncomputable def Cq:SF:=(cK 0 .s (gJ (eUn (gG "int") (aF 0)) (BO (eUn (gG "bool") (aF 0)))))
noncomputable def oP:List aA->Option aA:=fnD 1 1 Cq
theorem Eu (F:Fun K "is_whole" "is_whole" FV f fd)(B:Blt mg)(C:Cst mg)(V:Xcs K mg):FnOk P w K mg base CX0 1 f fd sI (spF K 0 oP):=by
 have nd:=Akh.nd
 exact iB F Akh rfl (by decide) fun cdv A outer s H E P0 hr=>by
  have hu:=eR hr
  have hv:=eF hr
  exact(cC (dD .s (lR (kT (T:="int") rfl B.isinstance rfl B.int UJ (by decide) (aI 0)) (nU (RZ (kT (T:="bool") rfl B.isinstance rfl B.bool UK (by decide) (aI 0)))))))
noncomputable def An:SF:=(bH (sIf .s (bOr (eO (bOf (eUn (gG "str") (aF 0)))) (eO (bOf (jX gLe gLe (eC (.int 1)) (aN cU (aJ (aF 0) aM)) (eC (.int 12)))))) (cK 0 .s (eC (.bool false))) eQ)
 (cK 0 .s (gJ (eOp (gIn false) (eOp gIx (aF 0) (eC (.int 0))) (eC (.str "abcdefghijklmnopqrstuvwxyz"))) (aN qE (aJ (eLC [none] (iIt (aF 0)) (gB 0) gT (eOp (gIn false) (aF 0) (eOp dC (eC (.str "abcdefghijklmnopqrstuvwxyz")) (eC (.str "0123456789"))))) aM)))))
noncomputable def jM:List aA->Option aA:=fnD 1 1 An
theorem Cs (F:Fun K "is_name" "is_name" zC f fd)(B:Blt mg)(C:Cst mg)(V:Xcs K mg):FnOk P w K mg base CX0 1 f fd sG (spF K 0 jM):=by
 obtain⟨_,h_FIGURES⟩:=C.FIGURES
 obtain⟨_,h_LETTERS⟩:=C.LETTERS
 obtain⟨_,h_MOST_SIGNS⟩:=C.MOST_SIGNS
 have nd:=Al7.nd
 exact iB F Al7 rfl (by decide) fun cdv A outer s H E P0 hr=>by
  have hu:=eR hr
  have hv:=eF hr
  exact(bU (fS .s (kP (lN (hE (iE (kT (T:="str") rfl B.isinstance rfl B.str PyProof.Rows.boot_str (by decide) (aI 0)))) (mR (hE (MP (Avf.or sF) (Avf.or sF) rM rM aZ (eL hV hU rfl B.len gO (aO (aI 0) aX)) (rY (i:=12) rfl h_MOST_SIGNS ⟨_,rfl⟩)))))) (cC (dD .s iM)) gA)
   (cC (dD .s (lR (jW (pU hu) jV (dX hv (aI 0) aZ (fun _ _=>rfl)) (ES (i:="abcdefghijklmnopqrstuvwxyz") rfl h_LETTERS ⟨_,rfl⟩) (by with_unfolding_all rfl)) (nU (eL (EZ rfl) FE rfl B.all boot_all (aO (jK (n:=1) (nP rfl (nB (N:=["sign"]) (cap:=[none]) (out:=(bQ zC).names) (XN:=PB) rfl rfl (by decide +kernel) rfl) mM (nV (aI 0)) (fun cl C s₀ H₀ ex=>⟨mX (j:=0) (show(["sign"]:List aD).Nodup by decide +kernel) rfl (bE rfl),mW,(jW (pU hu) jV (aI 0) (gY (ES (i:="abcdefghijklmnopqrstuvwxyz") rfl h_LETTERS ⟨_,rfl⟩) (ES (i:="0123456789") rfl h_FIGURES ⟨_,rfl⟩)) (by with_unfolding_all rfl))⟩))) aX)))))))
noncomputable def Bb:SF:=(cK 0 .s (gJ (eUn (gG "tuple") (aF 0)) (eOp gEq (aN cU (aJ (aF 0) aM)) (eC (.int 2)))))
noncomputable def pX:List aA->Option aA:=fnD 1 1 Bb
theorem Df (F:Fun K "is_pair" "is_pair" FF f fd)(B:Blt mg)(C:Cst mg)(V:Xcs K mg):FnOk P w K mg base CX0 1 f fd vF (spF K 0 pX):=by
 have nd:=Amn.nd
 exact iB F Amn rfl (by decide) fun cdv A outer s H E P0 hr=>by
  have hu:=eR hr
  have hv:=eF hr
  exact(cC (dD .s (lR (kT (T:="tuple") rfl B.isinstance rfl B.tuple HW (by decide) (aI 0)) (nU (jW (rP hu) rR (eL hV hU rfl B.len gO (aO (aI 0) aX)) aZ (fJ _))))))
noncomputable def Gb (z:Option aD):SF:=(cK 1 .s (aN DH (aJ (eUn (nR "Book") (aF 0)) aM)))
noncomputable def RH:FX:=fun z=>fnD 1 1 (Gb z)
theorem Gn (F:Fun K "tables" "Book.tables" GM f fd)(B:Blt mg)(C:Cst mg)(V:Xcs K mg):FnOk P w K mg base (CXR base P w) 1 f fd zO (spX K 1 RH):=by
 have nd:=Aha.nd
 exact nT F Aha rfl (by decide) fun cdv A outer s H E P0 z hr hz=>by
  have hu:=eR hr
  have hv:=eF hr
  exact(cC (dD .s (eL (Gj rfl) Fm rfl B.sorted Ov (aO (CV V.bk (aI 0)) aX))))
noncomputable def En (z:Option aD):SF:=(cK 0 .s (aN zZ (aJ (eLC [none] (iDV (eUn (fH "Book") (aF 0))) (gB 0) gT (aN rH (aJ (aF 0) aM))) aM)))
noncomputable def vN:FX:=fun z=>fnD 1 1 (En z)
theorem Ez (F:Fun K "size" "Book.size" zI f fd)(B:Blt mg)(C:Cst mg)(V:Xcs K mg):FnOk P w K mg base (CXR base P w) 1 f fd vV (spX K 0 vN):=by
 have nd:=Ajv.nd
 exact nT F Ajv rfl (by decide) fun cdv A outer s H E P0 z hr hz=>by
  have hu:=eR hr
  have hv:=eF hr
  exact(cC (dD .s (eL (PD rfl) PM rfl B.sum NZ (aO (jK (n:=1) (nP rfl (nB (N:=["rows"]) (cap:=[none]) (out:=(bQ zI).names) (XN:=QX) rfl rfl (by decide +kernel) rfl) mM (Jo (mV V.bk (aI 0))) (fun cl C s₀ H₀ ex=>⟨mX (j:=0) (show(["rows"]:List aD).Nodup by decide +kernel) rfl (bE rfl),mW,(eL FD FR rfl B.len gO (aO (aI 0) aX))⟩))) aX))))
noncomputable def zM:SF:=(bH (sIf .s (bOf (eOp gLt (aF 1) (aN cU (aJ (aF 0) aM)))) (cK 0 .s (eOp gIx (aF 0) (aF 1))) eQ)
 (bH (cM 2 0 .s (eOp dC (eOp eT (aF 1) (eC (.int 7919))) (eC (.int 5))))
 (bH (sIf .s (bOf (eOp gGt (aN cU (aJ (aF 0) aM)) (eC (.int 0)))) (cM 2 0 .s (eOp cQ (eOp dC (eOp eT (eOp gIx (aF 0) (eOp cQ (eOp eT (aF 1) (eC (.int 7))) (aN cU (aJ (aF 0) aM)))) (eC (.int 48271))) (eOp eT (aF 1) (eC (.int 7919)))) (eC (.int 2147483647)))) eQ)
 (cK 0 .s (eOp cQ (eOp eT (aF 2) (aF 2)) (eC (.int 2147483629)))))))
noncomputable def kB:List aA->Option aA:=fnD 2 3 zM
theorem Fq (F:Fun K "_law_cell" "_law_cell" GE f fd)(B:Blt mg)(C:Cst mg)(V:Xcs K mg):FnOk P w K mg base CX0 1 f fd vP (spF K 0 kB):=by
 have nd:=Aju.nd
 exact iB F Aju rfl (by decide) fun cdv A outer s H E P0 hr=>by
  have hu:=eR hr
  have hv:=eF hr
  exact(bU (fS .s (fK (Ao8.or oH) nX (aI 1) (eL hV hU rfl B.len gO (aO (aI 0) aX)) (fJ _)) (cC (dD .s (dX hv (aI 0) (aI 1) (fun _ _=>rfl)))) gA)
   (bU (fC (i:=2) 0 .s nd rfl (by first | exact bE rfl | exact bD rfl) (gY (jG (aI 1) aZ) aZ))
   (bU (fS .s (fK uA uJ (eL hV hU rfl B.len gO (aO (aI 0) aX)) aZ (fJ _)) (cC (fC (i:=2) 0 .s nd rfl (by first | exact bE rfl | exact bD rfl) (fM (gY (jG (dX hv (aI 0) (fM (jG (aI 1) aZ) (eL hV hU rfl B.len gO (aO (aI 0) aX))) (fun _ _=>rfl)) aZ) (jG (aI 1) aZ)) aZ))) gA)
   (cC (dD .s (fM (jG (aI 2) (aI 2)) aZ))))))
noncomputable def QN:SF:=(bH (cM 2 0 .s (eOp cQ (eOp dC (eOp dC (eOp dC (eOp eT (eOp cQ (aF 0) (eC (.int 2147483647))) (eC (.int 48271))) (eOp eT (eOp eT (aF 1) (aF 1)) (eC (.int 69621)))) (aF 1)) (eC (.int 11))) (eC (.int 2147483629))))
 (cK 0 .s (eOp cQ (eOp eT (aF 2) (aF 2)) (eC (.int 2147483587)))))
noncomputable def fL:List aA->Option aA:=fnD 2 3 QN
theorem Fe (F:Fun K "_law_mix" "_law_mix" FQ f fd)(B:Blt mg)(C:Cst mg)(V:Xcs K mg):FnOk P w K mg base CX0 1 f fd oT (spF K 0 fL):=by
 have nd:=Akl.nd
 exact iB F Akl rfl (by decide) fun cdv A outer s H E P0 hr=>by
  have hu:=eR hr
  have hv:=eF hr
  exact(bU (fC (i:=2) 0 .s nd rfl (by first | exact bE rfl | exact bD rfl) (fM (gY (gY (gY (jG (fM (aI 0) aZ) aZ) (jG (jG (aI 1) (aI 1)) aZ)) (aI 1)) aZ) aZ))
   (cC (dD .s (fM (jG (aI 2) (aI 2)) aZ))))
noncomputable def Fd:SF:=(cK 0 .s (gJ (eUn (gG "bool") (aF 0)) (eOp gEq (aF 0) (aF 1))))
noncomputable def gC:List aA->Option aA:=fnD 2 2 Fd
theorem Fb (F:Fun K "_law_told" "_law_told" GI f fd)(B:Blt mg)(C:Cst mg)(V:Xcs K mg):FnOk P w K mg base CX0 1 f fd vO (spF K 0 gC):=by
 have nd:=Ajr.nd
 exact iB F Ajr rfl (by decide) fun cdv A outer s H E P0 hr=>by
  have hu:=eR hr
  have hv:=eF hr
  exact(cC (dD .s (lR (kT (T:="bool") rfl B.isinstance rfl B.bool UK (by decide) (aI 0)) (nU (jW (rP hu) rR (aI 0) (aI 1) (fJ _))))))
noncomputable def Gr:SF:=(bH (sIf .s (bOr (eO (bOf (eUn (gG "list") (aF 0)))) (bOf (eOp gNe (aN cU (aJ (aF 0) aM)) (aN cU (aJ (aF 1) aM))))) (cK 0 .s (eC (.bool false))) eQ)
 (bH (iK .s (iR1 (aJ (aN cU (aJ (aF 0) aM)) aM)) (gNm 2) (sIf .s (bOr (eO (bOf (eUn (gG "tuple") (eOp gIx (aF 0) (aF 2))))) (bOr (bOf (eOp (gIn true) (eOp gIx (aF 0) (aF 2)) (aF 1))) (xS (bOf (eOp gGt (aF 2) (eC (.int 0)))) (eO (bOf (eOp xR (eOp gIx (aF 0) (eOp uN (aF 2) (eC (.int 1)))) (eOp gIx (aF 0) (aF 2)))))))) (cK 0 .s (eC (.bool false))) eQ))
 (cK 0 .s (eC (.bool true)))))
noncomputable def pY:List aA->Option aA:=fnD 2 3 Gr
theorem Gz (F:Fun K "_law_rows_hold" "_law_rows_hold" GP f fd)(B:Blt mg)(C:Cst mg)(V:Xcs K mg):FnOk P w K mg base CX0 1 f fd wF (spF K 0 pY):=by
 have nd:=Afj.nd
 exact iB F Afj rfl (by decide) fun cdv A outer s H E P0 hr=>by
  have hu:=eR hr
  have hv:=eF hr
  exact(bU (fS .s (kP (lN (hE (iE (kT (T:="list") rfl B.isinstance rfl B.list UI (by decide) (aI 0)))) (mR (fK (CO hu) CF (eL hV hU rfl B.len gO (aO (aI 0) aX)) (eL hV hU rfl B.len gO (aO (aI 1) aX)) (fJ _))))) (cC (dD .s iM)) gA)
   (bU (DM .s qN rfl (sA rfl B.range (aO (eL hV hU rfl B.len gO (aO (aI 0) aX)) aX)) (rU (i:=2) nd rfl (by first | exact bE rfl | exact bD rfl)) (cC (fS .s (kP (lN (hE (iE (kT (T:="tuple") rfl B.isinstance rfl B.tuple HW (by decide) (dX hv (aI 0) (aI 2) (fun _ _=>rfl))))) (lN (fK (vU hu) jV (dX hv (aI 0) (aI 2) (fun _ _=>rfl)) (aI 1) (by with_unfolding_all rfl)) (mR (kP (TF (fK uA uJ (aI 2) aZ (fJ _)) (KH (hE (fK ((Ao8.or oH).or (YW (UM (Nat.le_add_right _ _) hv))) Ll (dX hv (aI 0) (yA (aI 2) aZ) (fun _ _=>rfl)) (dX hv (aI 0) (aI 2) (fun _ _=>rfl)) (fJ _)))))))))) (cC (dD .s iM)) gA)))
   (cC (dD .s iM))))
noncomputable def Cm:SF:=(cK 0 .s (gJ (aN oP (aJ (aF 0) aM)) (eOp gLt (aN BR (aJ (aF 0) aM)) (eOp eT (eOp nD (eC (.int 10)) (eC (.int 60))) (eOp nD (eC (.int 10)) (eC (.int 10)))))))
noncomputable def sH:List aA->Option aA:=fnD 1 1 Cm
theorem Er (F:Fun K "is_value" "is_value" GD f fd)(B:Blt mg)(C:Cst mg)(V:Xcs K mg)(D_is_whole:Def P w K mg base "is_whole" 1 sI (spF K 0 oP)):FnOk P w K mg base CX0 2 f fd vJ (spF K 0 sH):=by
 have nd:=Ak3.nd
 exact iB F Ak3 rfl (by decide) fun cdv A outer s H E P0 hr=>by
  have hu:=eR hr
  have hv:=eF hr
  exact(cC (dD .s (lR (cW D_is_whole (hr.mono (by decide)) rfl (aO (aI 0) aX)) (nU (jW (Ao8.or oH) nX (eL Nd Cc rfl B.abs boot_abs (aO (aI 0) aX)) (jG (uH aZ aZ) (uH aZ aZ)) (fJ _))))))
noncomputable def QM:SF:=(cK 0 .s (gJ (aN oP (aJ (aF 0) aM)) (jX gLe gLe (eC (.int 1)) (aF 0) (eC (.int 6)))))
noncomputable def nA:List aA->Option aA:=fnD 1 1 QM
theorem Ee (F:Fun K "is_width" "is_width" FP f fd)(B:Blt mg)(C:Cst mg)(V:Xcs K mg)(D_is_whole:Def P w K mg base "is_whole" 1 sI (spF K 0 oP)):FnOk P w K mg base CX0 2 f fd vG (spF K 0 nA):=by
 obtain⟨_,h_MOST_WIDTH⟩:=C.MOST_WIDTH
 have nd:=Akk.nd
 exact iB F Akk rfl (by decide) fun cdv A outer s H E P0 hr=>by
  have hu:=eR hr
  have hv:=eF hr
  exact(cC (dD .s (lR (cW D_is_whole (hr.mono (by decide)) rfl (aO (aI 0) aX)) (nU (Ob (Avf.or sF) (Avf.or sF) rM rM aZ (aI 0) (rY (i:=6) rfl h_MOST_WIDTH ⟨_,rfl⟩))))))
noncomputable def zR (z:Option aD):SF:=(sIf .s (bOr (eO (bOf (aN jM (aJ (aF 1) aM)))) (bOf (eOp (gIn true) (aF 1) (eUn (nR "Book") (aF 0))))) (xW z "NoTable") eQ)
noncomputable def oU:FX:=fun z=>fnD 2 2 (zR z)
theorem Ha (F:Fun K "want_table" "Book.want_table" GR f fd)(B:Blt mg)(C:Cst mg)(V:Xcs K mg)(D_is_name:Def P w K mg base "is_name" 1 sG (spF K 0 jM)):FnOk P w K mg base (CXR base P w) 2 f fd sM (spX K 0 oU):=by
 have nd:=Ae6.nd
 exact nT F Ae6 rfl (by decide) fun cdv A outer s H E P0 z hr hz=>by
  have hu:=eR hr
  have hv:=eF hr
  exact(cC (fS .s (kP (lN (hE (iE (cW D_is_name (hr.mono (by decide)) rfl (aO (aI 1) aX)))) (mR (fK (vU hu) jV (aI 1) (CV V.bk (aI 0)) (by with_unfolding_all rfl))))) (cC (yT hz V.r_NoTable rfl rfl)) gA))
noncomputable def Fp:SF:=(bH (cM 2 0 .s (eC (.str "abcdefghijklmnopqrstuvwxyz0123456789")))
 (bH (cM 3 0 .s (eOp dC (eC (.int 1)) (eOp cQ (aN fL (aJ (aF 0) (aJ (eC (.int 1)) aM))) (eC (.int 12)))))
 (bH (sIf .s (bOf (eOp gEq (eOp cQ (aN fL (aJ (aF 0) (aJ (eC (.int 2)) aM))) (eC (.int 3))) (eC (.int 0)))) (cM 3 0 .s (eC (.int 12))) eQ)
 (bH (cM 4 1 .s (eLC [none,some 2,some 0] (iR1 (aJ (aF 3) aM)) (gB 0) gT (eOp gIx (aF 1) (eOp cQ (aN fL (aJ (aF 2) (aJ (eOp dC (eC (.int 30)) (aF 0)) aM))) (eC (.int 36))))))
 (bH (tZ 4 .s (eOp gIx (aF 2) (eOp cQ (aN fL (aJ (aF 0) (aJ (eC (.int 50)) aM))) (eC (.int 26)))) .s (eC (.int 0)))
 (bH (sIf .s (bOf (eOp gEq (eOp cQ (aN fL (aJ (aF 0) (aJ (eC (.int 2)) aM))) (eC (.int 3))) (eC (.int 0)))) (cK 1 .a (eLC [none,some 4] (iR1 (aJ (aF 1) aM)) (gB 0) gT (eOp rA (eC (.str "")) (oX (aF 1) oN (oS (eOp dC (aF 0) (eC (.int 1)))))))) eQ)
 (bH (cM 5 0 .s (eOp cQ (aN fL (aJ (aF 0) (aJ (eC (.int 3)) aM))) (aF 3)))
 (bH (cM 6 1 .s (lK aM))
 (bH (iK .s (iR1 (aJ (aF 1) aM)) (gNm 7) (bH (tZ 4 .s (eOp gIx (aF 2) (eOp cQ (eOp dC (aN fL (aJ (aF 0) (aJ (eC (.int 4)) aM))) (aF 7)) (eOp dC (eC (.int 26)) (eOp eT (eC (.int 10)) (aN sO (aJ (eOp gGt (aF 5) (eC (.int 0))) aM)))))) .s (aF 5))
 (kQ 6 .a (eOp rA (eC (.str "")) (aF 4)))))
 (nE 4 (GT 6 1)))))))))))
noncomputable def sL:List aA->Option aA:=fnD 2 8 Fp
theorem Fz (F:Fun K "_law_names" "_law_names" sJ f fd)(B:Blt mg)(C:Cst mg)(V:Xcs K mg)(D__law_mix:Def P w K mg base "_law_mix" 1 oT (spF K 0 fL)):FnOk P w K mg base CX0 2 f fd wC (spF K 1 sL):=by
 have nd:=Aio.nd
 exact iB F Aio rfl (by decide) fun cdv A outer s H E P0 hr=>by
  have hu:=eR hr
  have hv:=eF hr
  exact(bU (fC (i:=2) 0 .s nd rfl (by first | exact bE rfl | exact bD rfl) CI)
   (bU (fC (i:=3) 0 .s nd rfl (by first | exact bE rfl | exact bD rfl) (gY aZ (fM (cW D__law_mix (hr.mono (by decide)) rfl (aO (aI 0) (aO aZ aX))) aZ)))
   (bU (fS .s (fK (rP hu) rR (fM (cW D__law_mix (hr.mono (by decide)) rfl (aO (aI 0) (aO aZ aX))) aZ) aZ (fJ _)) (cC (fC (i:=3) 0 .s nd rfl (by first | exact bE rfl | exact bD rfl) aZ)) gA)
   (bU (by first | exact(ZL (i:=4) .s rfl nd rfl (by first | exact bE rfl | exact bD rfl) (nB (N:=["_law_k","_law_signs","_law_cell_here"]) (cap:=[none,some 2,some 0]) (out:=(bQ sJ).names) (XN:=zP) rfl rfl (by decide +kernel) rfl) mM (CQ (sA rfl B.range (aO (aI 3) aX))) (fun cl C s₀ H₀ ex=>⟨mX (j:=0) (show(["_law_k","_law_signs","_law_cell_here"]:List aD).Nodup by decide +kernel) rfl (bE rfl),mW,(dX hv (aI 1) (fM (cW D__law_mix (hr.mono (by decide)) rfl (aO (aI 2) (aO (gY aZ (aI 0)) aX))) aZ) (fun _ _=>rfl))⟩)) | exact(fC (i:=4) 1 .s nd rfl (by first | exact bE rfl | exact bD rfl) (nP rfl (nB (N:=["_law_k","_law_signs","_law_cell_here"]) (cap:=[none,some 2,some 0]) (out:=(bQ sJ).names) (XN:=zP) rfl rfl (by decide +kernel) rfl) mM (CQ (sA rfl B.range (aO (aI 3) aX))) (fun cl C s₀ H₀ ex=>⟨mX (j:=0) (show(["_law_k","_law_signs","_law_cell_here"]:List aD).Nodup by decide +kernel) rfl (bE rfl),mW,(dX hv (aI 1) (fM (cW D__law_mix (hr.mono (by decide)) rfl (aO (aI 2) (aO (gY aZ (aI 0)) aX))) aZ) (fun _ _=>rfl))⟩))))
   (bU (LU 4 .s .s (dX hv (aI 2) (fM (cW D__law_mix (hr.mono (by decide)) rfl (aO (aI 0) (aO aZ aX))) aZ) (fun _ _=>rfl)) aZ)
   (bU (fS .s (fK (rP hu) rR (fM (cW D__law_mix (hr.mono (by decide)) rfl (aO (aI 0) (aO aZ aX))) aZ) aZ (fJ _)) (cC (dD .a (nP rfl (nB (N:=["_law_k","_law_base"]) (cap:=[none,some 4]) (out:=(bQ sJ).names) (XN:=zP) rfl rfl (by decide +kernel) rfl) mM (CQ (sA rfl B.range (aO (aI 1) aX))) (fun cl C s₀ H₀ ex=>⟨mX (j:=0) (show(["_law_k","_law_base"]:List aD).Nodup by decide +kernel) rfl (bE rfl),mW,(LV CI (jK (n:=1) (SS (aI 1) Km (DJ (gY (aI 0) aZ)))))⟩)))) gA)
   (bU (fC (i:=5) 0 .s nd rfl (by first | exact bE rfl | exact bD rfl) (fM (cW D__law_mix (hr.mono (by decide)) rfl (aO (aI 0) (aO aZ aX))) (aI 3)))
   (bU (fC (i:=6) 1 .s nd rfl (by first | exact bE rfl | exact bD rfl) (rQ aX))
   (bU (DM .s qN rfl (sA rfl B.range (aO (aI 1) aX)) (rU (i:=7) nd rfl (by first | exact bE rfl | exact bD rfl)) (bU (LU 4 .s .s (dX hv (aI 2) (fM (gY (cW D__law_mix (hr.mono (by decide)) rfl (aO (aI 0) (aO aZ aX))) (aI 7)) (gY aZ (jG aZ (yY Aj Ai rfl B.int UJ (aO (jW uA uJ (aI 5) aZ (fJ _)) aX))))) (fun _ _=>rfl)) (aI 5))
   (cC (vD 6 .a (LV CI (aI 4))))))
   (pR 4 (cC (Lo 6))))))))))))
noncomputable def Gc:SF:=(bH (cM 1 0 .s (eOp uN (eOp eT (eOp nD (eC (.int 10)) (eC (.int 35))) (eOp nD (eC (.int 10)) (eC (.int 35)))) (eC (.int 1))))
 (bH (cM 2 0 .s (eOp uN (eOp cQ (aF 0) (eOp dC (eOp eT (eC (.int 2)) (aF 1)) (eC (.int 1)))) (aF 1)))
 (cK 1 .s (lK (aJ (aF 2) (aJ (eOp uN (eC (.int 0)) (aF 2)) (aJ (eOp cQ (aN fL (aJ (aF 0) (aJ (eC (.int 21)) aM))) (eC (.int 100))) aM)))))))
noncomputable def vY:List aA->Option aA:=fnD 1 3 Gc
theorem Gm (F:Fun K "_law_values" "_law_values" GL f fd)(B:Blt mg)(C:Cst mg)(V:Xcs K mg)(D__law_mix:Def P w K mg base "_law_mix" 1 oT (spF K 0 fL)):FnOk P w K mg base CX0 2 f fd vX (spF K 1 vY):=by
 have nd:=Ahg.nd
 exact iB F Ahg rfl (by decide) fun cdv A outer s H E P0 hr=>by
  have hu:=eR hr
  have hv:=eF hr
  exact(bU (fC (i:=1) 0 .s nd rfl (by first | exact bE rfl | exact bD rfl) (yA (jG (uH aZ aZ) (uH aZ aZ)) aZ))
   (bU (fC (i:=2) 0 .s nd rfl (by first | exact bE rfl | exact bD rfl) (yA (fM (aI 0) (gY (jG aZ (aI 1)) aZ)) (aI 1)))
   (cC (dD .s (rQ (aO (aI 2) (aO (yA aZ (aI 2)) (aO (fM (cW D__law_mix (hr.mono (by decide)) rfl (aO (aI 0) (aO aZ aX))) aZ) aX))))))))
noncomputable def GB:SF:=(bH (cM 3 0 .s (aN fL (aJ (aF 0) (aJ (eC (.int 22)) aM))))
 (bH (cM 4 1 .s (lK aM))
 (bH (iK .s (iR1 (aJ (aF 2) aM)) (gNm 5) (bH (kQ 4 .s (eOp gIx (aF 1) (eOp cQ (aF 3) (eC (.int 3)))))
 (bH (cM 3 0 .s (eOp AA (aF 3) (eC (.int 3))))
 (sIf .s (bOf (eOp gGt (aF 5) (eC (.int 1)))) (cM 3 0 .s (eOp cQ (eOp AA (aN fL (aJ (aF 0) (aJ (eC (.int 22)) aM))) (eC (.int 9))) (eC (.int 2)))) eQ))))
 (nE 4 (cK 0 .s (aN CM (aJ (aF 4) aM)))))))
noncomputable def vK:List aA->Option aA:=fnD 3 6 GB
theorem Ed (F:Fun K "_law_row" "_law_row" FN f fd)(B:Blt mg)(C:Cst mg)(V:Xcs K mg)(D__law_mix:Def P w K mg base "_law_mix" 1 oT (spF K 0 fL)):FnOk P w K mg base CX0 2 f fd vH (spF K 0 vK):=by
 have nd:=Ak9.nd
 exact iB F Ak9 rfl (by decide) fun cdv A outer s H E P0 hr=>by
  have hu:=eR hr
  have hv:=eF hr
  exact(bU (fC (i:=3) 0 .s nd rfl (by first | exact bE rfl | exact bD rfl) (cW D__law_mix (hr.mono (by decide)) rfl (aO (aI 0) (aO aZ aX))))
   (bU (fC (i:=4) 1 .s nd rfl (by first | exact bE rfl | exact bD rfl) (rQ aX))
   (bU (DM .s qN rfl (sA rfl B.range (aO (aI 2) aX)) (rU (i:=5) nd rfl (by first | exact bE rfl | exact bD rfl)) (bU (vD 4 .s (dX hv (aI 1) (fM (aI 3) aZ) (fun _ _=>rfl)))
   (bU (fC (i:=3) 0 .s nd rfl (by first | exact bE rfl | exact bD rfl) (KF (aI 3) aZ))
   (cC (fS .s (fK uA uJ (aI 5) aZ (fJ _)) (cC (fC (i:=3) 0 .s nd rfl (by first | exact bE rfl | exact bD rfl) (fM (KF (cW D__law_mix (hr.mono (by decide)) rfl (aO (aI 0) (aO aZ aX))) aZ) aZ))) gA)))))
   (pR 4 (cC (dD .s (yY Ft Ej rfl B.tuple HW (aO (aI 4) aX))))))))
noncomputable def Gx:SF:=(bH (cM 2 0 .s (aN (vN none) (eN "Book" (aF 0) aM)))
 (cK 0 .s (gJ (eUn (gG "int") (aF 2)) (gJ (BO (eUn (gG "bool") (aF 2))) (eOp gEq (aF 2) (aN zZ (aJ (eLC [none,some 1] (iDK (aF 1)) (gB 0) gT (aN cU (aJ (eOp gIx (aF 1) (aF 0)) aM))) aM)))))))
noncomputable def pZ:List aA->Option aA:=fnD 2 3 Gx
theorem Hb (F:Fun K "_law_size_holds" "_law_size_holds" zS f fd)(B:Blt mg)(C:Cst mg)(V:Xcs K mg)(D_Book_size:MethX P w K mg base "Book" "size" 1 vV (spX K 0 vN)):FnOk P w K mg base CX0 2 f fd wG (spF K 0 pZ):=by
 have nd:=Ae1.nd
 exact iB F Ae1 rfl (by decide) fun cdv A outer s H E P0 hr=>by
  have hu:=eR hr
  have hv:=eF hr
  exact(bU (fC (i:=2) 0 .s nd rfl (by first | exact bE rfl | exact bD rfl) (lM (Np D_Book_size (hr.mono (by decide)) (aI 0))))
   (cC (dD .s (lR (kT (T:="int") rfl B.isinstance rfl B.int UJ (by decide) (aI 2)) (lR (RZ (kT (T:="bool") rfl B.isinstance rfl B.bool UK (by decide) (aI 2))) (nU (jW (rP hu) rR (aI 2) (eL (PD rfl) PM rfl B.sum NZ (aO (jK (n:=1) (nP rfl (nB (N:=["_law_name","_law_model"]) (cap:=[none,some 1]) (out:=(bQ zS).names) (XN:=RJ) rfl rfl (by decide +kernel) rfl) mM (LG (aI 1)) (fun cl C s₀ H₀ ex=>⟨mX (j:=0) (show(["_law_name","_law_model"]:List aD).Nodup by decide +kernel) rfl (bE rfl),mW,(eL hV hU rfl B.len gO (aO (dX hv (aI 1) (aI 0) (fun _ _=>rfl)) aX))⟩))) aX)) (fJ _))))))))
noncomputable def ZY:SF:=(bH (sIf .s (bOr (eO (bOf (eUn (gG "tuple") (aF 0)))) (eO (bOf (jX gLe gLe (eC (.int 1)) (aN cU (aJ (aF 0) aM)) (eC (.int 6)))))) (cK 0 .s (eC (.bool false))) eQ)
 (cK 0 .s (aN qE (aJ (eLC [none] (iIt (aF 0)) (gB 0) gT (aN sH (aJ (aF 0) aM))) aM))))
noncomputable def pV:List aA->Option aA:=fnD 1 1 ZY
theorem Am (F:Fun K "is_row" "is_row" yV f fd)(B:Blt mg)(C:Cst mg)(V:Xcs K mg)(D_is_value:Def P w K mg base "is_value" 2 vJ (spF K 0 sH)):FnOk P w K mg base CX0 3 f fd uX (spF K 0 pV):=by
 obtain⟨_,h_MOST_WIDTH⟩:=C.MOST_WIDTH
 have nd:=Apd.nd
 exact iB F Apd rfl (by decide) fun cdv A outer s H E P0 hr=>by
  have hu:=eR hr
  have hv:=eF hr
  exact(bU (fS .s (kP (lN (hE (iE (kT (T:="tuple") rfl B.isinstance rfl B.tuple HW (by decide) (aI 0)))) (mR (hE (MP (Avf.or sF) (Avf.or sF) rM rM aZ (eL hV hU rfl B.len gO (aO (aI 0) aX)) (rY (i:=6) rfl h_MOST_WIDTH ⟨_,rfl⟩)))))) (cC (dD .s iM)) gA)
   (cC (dD .s (eL (EZ rfl) FE rfl B.all boot_all (aO (jK (n:=1) (nP rfl (nB (N:=["value"]) (cap:=[none]) (out:=(bQ yV).names) (XN:=NH) rfl rfl (by decide +kernel) rfl) mM (nV (aI 0)) (fun cl C s₀ H₀ ex=>⟨mX (j:=0) (show(["value"]:List aD).Nodup by decide +kernel) rfl (bE rfl),mW,(cW D_is_value (hr.mono (by decide)) rfl (aO (aI 0) aX))⟩))) aX)))))
noncomputable def Fj:SF:=(bH (sIf .s (bOr (eO (bOf (eUn (gG "list") (aF 0)))) (bOf (eOp gGt (aN cU (aJ (aF 0) aM)) (eC (.int 12))))) (cK 0 .s (eC (.bool false))) eQ)
 (bH (sIf .s (eO (bOf (aN qE (aJ (eLC [none] (iIt (aF 0)) (gB 0) gT (gJ (aN pX (aJ (aF 0) aM)) (gJ (aN jM (aJ (eOp gIx (aF 0) (eC (.int 0))) aM)) (aN nA (aJ (eOp gIx (aF 0) (eC (.int 1))) aM))))) aM)))) (cK 0 .s (eC (.bool false))) eQ)
 (cK 0 .s (eOp gEq (aN MZ (aJ (eLC [none] (iIt (aF 0)) (gB 0) gT (eOp gIx (aF 0) (eC (.int 0)))) aM)) (aN cU (aJ (aF 0) aM))))))
noncomputable def oO:List aA->Option aA:=fnD 1 1 Fj
theorem Gh (F:Fun K "are_widths" "are_widths" wB f fd)(B:Blt mg)(C:Cst mg)(V:Xcs K mg)(D_is_name:Def P w K mg base "is_name" 1 sG (spF K 0 jM))(D_is_pair:Def P w K mg base "is_pair" 1 vF (spF K 0 pX))(D_is_width:Def P w K mg base "is_width" 2 vG (spF K 0 nA)):FnOk P w K mg base CX0 3 f fd wA (spF K 0 oO):=by
 obtain⟨_,h_MOST_TABLES⟩:=C.MOST_TABLES
 have nd:=Aip.nd
 exact iB F Aip rfl (by decide) fun cdv A outer s H E P0 hr=>by
  have hu:=eR hr
  have hv:=eF hr
  exact(bU (fS .s (kP (lN (hE (iE (kT (T:="list") rfl B.isinstance rfl B.list UI (by decide) (aI 0)))) (mR (fK uA uJ (eL hV hU rfl B.len gO (aO (aI 0) aX)) (rY (i:=12) rfl h_MOST_TABLES ⟨_,rfl⟩) (fJ _))))) (cC (dD .s iM)) gA)
   (bU (fS .s (hE (iE (eL (EZ rfl) FE rfl B.all boot_all (aO (jK (n:=1) (nP rfl (nB (N:=["pair"]) (cap:=[none]) (out:=(bQ wB).names) (XN:=GK) rfl rfl (by decide +kernel) rfl) mM (nV (aI 0)) (fun cl C s₀ H₀ ex=>⟨mX (j:=0) (show(["pair"]:List aD).Nodup by decide +kernel) rfl (bE rfl),mW,(lR (cW D_is_pair (hr.mono (by decide)) rfl (aO (aI 0) aX)) (lR (cW D_is_name (hr.mono (by decide)) rfl (aO (dX hv (aI 0) aZ (fun _ _=>rfl)) aX)) (nU (cW D_is_width (hr.mono (by decide)) rfl (aO (dX hv (aI 0) aZ (fun _ _=>rfl)) aX)))))⟩))) aX)))) (cC (dD .s iM)) gA)
   (cC (dD .s (jW (rP hu) rR (Cz rfl rfl B.len rfl B.set (jK (n:=1) (nP rfl (nB (N:=["pair"]) (cap:=[none]) (out:=(bQ wB).names) (XN:=GK) rfl rfl (by decide +kernel) rfl) mM (nV (aI 0)) (fun cl C s₀ H₀ ex=>⟨mX (j:=0) (show(["pair"]:List aD).Nodup by decide +kernel) rfl (bE rfl),mW,(dX hv (aI 0) aZ (fun _ _=>rfl))⟩)))) (eL hV hU rfl B.len gO (aO (aI 0) aX)) (fJ _))))))
noncomputable def Fi (z:Option aD):SF:=(bH (mT 0 .s (aN (oU z) (eN "Book" (aF 0) (aJ (aF 1) aM))))
 (cK 1 .s (aN yJ (aJ (eOp gIx (eUn (fH "Book") (aF 0)) (aF 1)) aM))))
noncomputable def oM:FX:=fun z=>fnD 2 2 (Fi z)
theorem Ey (F:Fun K "rows" "Book.rows" GH f fd)(B:Blt mg)(C:Cst mg)(V:Xcs K mg)(D_Book_want_table:MethX P w K mg base "Book" "want_table" 2 sM (spX K 0 oU)):FnOk P w K mg base (CXR base P w) 3 f fd vM (spX K 1 oM):=by
 have nd:=Ajq.nd
 exact nT F Ajq rfl (by decide) fun cdv A outer s H E P0 z hr hz=>by
  have hu:=eR hr
  have hv:=eF hr
  exact(bU (uW 0 .s (uD .s hz (jZ D_Book_want_table (hr.mono (by decide)) (aI 0) (aO (aI 1) aX))))
   (cC (dD .s (eL (Ga rfl) Fl rfl B.sorted Ov (aO (dX hv (mV V.bk (aI 0)) (aI 1) (fun _ _=>rfl)) aX)))))
end Aw
namespace Aw
open PySem L2
set_option maxHeartbeats 4000000
variable {P:bB}{w:aW}{K:aG}{mg:aD->Option aE}{base:aP}{f:aB}{fd:eM}
noncomputable def sN:FX:=uM "Book" "NoTable" oO
set_option maxHeartbeats 4000000 in
theorem Gv {P:bB}{w:aW}{K:aG}{mg:aD->Option aE}{base:aP}{f:aB}{fd:eM}(F:Fun K "__init__" "Book.__init__" GO f fd)(B:Blt mg)(C:Cst mg)(V:Xcs K mg)(D_are_widths:Def P w K mg base "are_widths" 3 wA (spF K 0 oO)):FnOk P w K mg base (CXR base P w) (3+1) f fd wD (CL K "Book" sN):=by
 have nd:=Age.nd
 refine F.okX Age (fun vs H Q E h=>?_) (fun cdv A outer s H vs Q E hr h=>?_)
 ·obtain⟨x,dx,C,v1,P,d1,d,z,rfl,_⟩:=h
  rfl
 ·obtain⟨x,dx,C0,v1,P0,d1,d,z,rfl,hx,hc,hP,r1,ef,kq,kx⟩:=h
  have hu:=eF hr
  obtain⟨C9,c1,cl,nW,nH⟩:=V.bk.ex
  obtain rfl:=oB c1 hc
  refine⟨_,gU (lP (hE (iE (cW D_are_widths (hr.mono (by decide)) rfl (aO (aI 1) aX)))) (jI (yT (H0:=H) (P0:=P0) (n0:=0) (z:=z) (fun c hc=>LA (kx c hc)) V.r_NoTable rfl rfl)) lV)
   (gU (SV (pv 0) (yY (Eo rfl) Eh rfl B.dict PyProof.Rows.boot_dict (aO (aI 1) aX)) rfl)
   (gU (SV (pv 0) MO rfl)
   (jI (SI PassesOwn.leaving rfl (LX (rN (pv 0) rfl)) (uS (i:=2) nd rfl (by first | exact bE rfl | exact bD rfl)) (jI (DB hu (rN (pv 0) rfl) (pv 2) Nu rfl)))))),?_⟩
  have rs:Ai2 K (hid H P0) [none,some d1,none] (start RI [.ref x,v1]):=fun i d' e=>by
   match i,e with
   | 0,e=>cases e
   | 1,e=>cases e; exact⟨v1,rfl,r1⟩
   | 2,e=>cases e
   | i+3,e=>simp at e
  rcases Ew ef with⟨e1,hz,rfl⟩ | ⟨kds,e1,e2,fl,ndk,hlen,rfl⟩
  ·refine⟨P0,[none,some d1,none],true,hP,rs,?_,fun H1 x1=>?_⟩
   ·show((oO [d1]).bind asB).bind _=_
    rw[e1]
    rfl
   refine iS ⟨hid H1 P0,[none,none,none],fun _=>[],.rt (rsD "NoTable"),⟨rfl,fun _=>.nil,fun i j a h=>by simp at h,fun i a h=>by simp at h,x1,hP,?_,fun i n d e=>?_⟩,?_,?_⟩
   ·exact fQ fun a h=>h.elim id fun⟨i,h⟩=>by simp at h
   ·match i,e with
    | 0,e=>cases e
    | 1,e=>cases e
    | 2,e=>cases e
    | i+3,e=>simp at e
   ·exact if_pos hz
   ·exact fun v H' ⟨_,_,_,_,r⟩=>(SE r).elim
  ·refine⟨P0,[none,some d1,none],false,hP,rs,?_,fun H1 x1=>?_⟩
   ·show((oO [d1]).bind asB).bind _=_
    rw[e1]
    rfl
   refine gX ⟨P0,[none,some d1,none],_,hP.ext x1,rs.ext (bS x1),(show(pO [d1])=_ from e2),fun v Hw Fr xw nf fr ro=>?_⟩
   obtain⟨wa,kvs,Fs,rfl,hw,hF,h3⟩:=ro
   obtain⟨rk,hn⟩:=Da h3
   rw[hn] at hF
   subst hF
   have hwx:Hw x=some (.ins C0 dx []):=xw _ _ (x1 _ _ hx)
   have nwx:wa≠x:=fun z=>by rw[z,hwx] at hw; cases hw
   refine⟨_,rfl,x,C0,dx,[],rfl,hwx,cl,nW,(by show 0<1000; decide),?_⟩
   intro q hq
   have nqx:q≠x:=fun z=>by rw[z,eB] at hq; cases hq
   have hq0:Hw q=none:=by rw[bO nqx] at hq; exact hq
   have nqw:wa≠q:=gM hw hq0
   refine⟨_,rfl,x,C0,dx,_,rfl,(by rw[bO nqx.symm]; exact eB),cl,nH,(by show 1<1000; decide),?_⟩
   have eput:gH "held" (.ref q) (gH "wide" (.ref wa) [])=([("wide",.ref wa),("held",.ref q)]:List (aD×L2.V)):=by
    have : ¬ (("wide" : aD) = "held"):=by decide +kernel
    simp[gH,this]
   rw[eput]
   have lk:kvs.2.length=kds.length:=rk.length
   have nk:(kvs.2.map (·.1)).Nodup:=by
    have:kds.map (·.1)=(kvs.2.map (·.1)).map kD:=OB rk
    rw[this] at ndk
    exact(tN.mp ndk).imp fun h z=>h (by rw[z])
   refine⟨_,rfl,x,C0,dx,_,_,rfl,eB,cl,nW,OT _ _,wa,kvs.1,kvs.2,rfl,(by rw[bO nwx,bO nqw,bO nwx]; exact hw),?_⟩
   refine Oc (fun i σ H2=>∃ v,σ=[some (.ref x),some v1,v]/\(∀ b o,b≠x->Hw b=some o->H2 b=some o)/\H2 x=some (.ins C0 dx [("wide",.ref wa),("held",.ref q)]) /\ ∃ n ps,H2 q=some (.dK n (hvZ kvs.2 ps))/\ps.length=i/\i≤kvs.2.length/\ps.Nodup /\ ∀ p∈ps,Hw p=none/\p≠q/\H2 p=some (.dT 0 []))
    ⟨none,rfl,fun b o nb e=>?_,eB,0,[],?_,rfl,eX _,.nil,fun p m=>by simp at m⟩ (fun i σ H2 _ ⟨_,_,kp,_⟩=>kp _ _ nwx hw) ?_ ?_
   ·rw[bO nb,bO (gM e hq0),bO nb]
    exact e
   ·rw[bO nqx,eB]
    simp[hvZ]
   ·rintro i kv σ H2 hk ⟨v,rfl,kp,hx2,n,ps,hq2,hpl,hil,ndp,hps⟩
    intro p hp
    have npx:p≠x:=fun z=>by rw[z,hx2] at hp; cases hp
    have npq:p≠q:=fun z=>by rw[z,hq2] at hp; cases hp
    have hl2:(hvZ kvs.2 ps).length<sizeLine:=by
     rw[Jv (by omega)]
     have:=(dU.mp hk).1
     omega
    refine⟨_,rfl,x,C0,dx,_,_,rfl,(by rw[bO npx.symm]; exact hx2),cl,nH,zA _ _,_,rfl,q,_,rfl,A2l.k (k:=kv.1) (by rw[bO npq.symm]; exact hq2) hl2,fun n2=>⟨_,rfl,fun b o nb e=>?_,?_,n2,ps++[p],?_,by simp[hpl],(dU.mp hk).1,?_,fun p' m=>?_⟩⟩
    ·rw[bO (gM e hq0),bO (gM (kp b o nb e) hp)]
     exact kp b o nb e
    ·rw[bO nqx.symm,bO npx.symm]
     exact hx2
    ·rw[eB,LZ _ (Jj nk (by rw[hpl]; exact hk)),NF (by rw[hpl]; exact hk)]
    ·refine wV.mpr ⟨ndp,fF.mpr ⟨by simp,.nil⟩,fun a ma b mb=>?_⟩
     rw[dH.mp mb]
     intro z
     rw[z] at ma
     rw[(hps p ma).2.2] at hp
     cases hp
    ·rcases nM.mp m with m | m
     ·obtain⟨g1,g2,g3⟩:=hps p' m
      refine⟨g1,g2,?_⟩
      rw[bO g2,bO (gM g3 hp)]
      exact g3
     ·rw[dH.mp m]
      refine⟨?_,npq,by rw[bO npq,eB]⟩
      cases g:Hw p with
      | none=>rfl
      | some o=>rw[kp p o npx g] at hp; cases hp
   ·rintro σ H2 ⟨v,rfl,kp,hx2,n,ps,hq2,hpl,hil,ndp,hps⟩
    have hwp : ∀ p∈ps,p≠wa:=fun p m z=>by
     have:=(hps p m).1
     rw[z,hw] at this
     cases this
    have hxp : ∀ p∈ps,p≠x:=fun p m z=>by
     have:=(hps p m).1
     rw[z,hwx] at this
     cases this
    refine kq H2 (x::wa::q::ps) (fun b o nb e=>kp b o nb (xw _ _ (x1 _ _ e))) ?_ ?_ (Nv c1 hx2 (kp _ _ nwx hw) hq2 hpl (fun p m=>(hps p m).2.2) fl rk kp fun xs z=>by rw[hwx] at z; cases z)
    ·refine fF.mpr ⟨?_,fF.mpr ⟨?_,fF.mpr ⟨fun m=>(hps q m).2.1 rfl,ndp⟩⟩⟩
     ·simp only[cP,not_or]
      exact⟨nwx.symm,nqx.symm,fun m=>hxp x m rfl⟩
     ·simp only[cP,not_or]
      exact⟨nqw,fun m=>hwp wa m rfl⟩
    ·intro a m
     simp only[cP] at m
     rcases m with rfl | rfl | rfl | m
     ·exact⟨.inl rfl,_,hx2⟩
     ·exact⟨.inr (x1.none (fr _ bX).1),_,kp _ _ nwx hw⟩
     ·exact⟨.inr (x1.none (xw.none hq0)),_,hq2⟩
     ·exact⟨.inr (x1.none (xw.none (hps a m).1)),_,(hps a m).2.2⟩
noncomputable def zQ (z:Option aD):SF:=(bH (mT 0 .s (aN (oU z) (eN "Book" (aF 0) (aJ (aF 1) aM))))
 (sIf .s (bOr (eO (bOf (aN pV (aJ (aF 2) aM)))) (bOf (eOp gNe (aN cU (aJ (aF 2) aM)) (eOp gIx (eUn (nR "Book") (aF 0)) (aF 1))))) (xW z "NoRow") eQ))
noncomputable def gD:FX:=fun z=>fnD 3 3 (zQ z)
theorem Gy (F:Fun K "want_row" "Book.want_row" GN f fd)(B:Blt mg)(C:Cst mg)(V:Xcs K mg)(D_Book_want_table:MethX P w K mg base "Book" "want_table" 2 sM (spX K 0 oU))(D_is_row:Def P w K mg base "is_row" 3 uX (spF K 0 pV)):FnOk P w K mg base (CXR base P w) 4 f fd nC (spX K 0 gD):=by
 have nd:=Agc.nd
 exact nT F Agc rfl (by decide) fun cdv A outer s H E P0 z hr hz=>by
  have hu:=eR hr
  have hv:=eF hr
  exact(bU (uW 0 .s (uD .s hz (jZ D_Book_want_table (hr.mono (by decide)) (aI 0) (aO (aI 1) aX))))
   (cC (fS .s (kP (lN (hE (iE (cW D_is_row (hr.mono (by decide)) rfl (aO (aI 2) aX)))) (mR (fK (CO hu) CF (eL hV hU rfl B.len gO (aO (aI 2) aX)) (dX hv (CV V.bk (aI 0)) (aI 1) (fun _ _=>rfl)) (fJ _))))) (cC (yT hz V.r_NoRow rfl rfl)) gA)))
noncomputable def Dv (z:Option aD):SF:=(bH (mT 0 .s (aN (gD z) (eN "Book" (aF 0) (aJ (aF 1) (aJ (aF 2) aM)))))
 (bH (sIf .s (bOf (eOp (gIn false) (aF 2) (eOp gIx (eUn (fH "Book") (aF 0)) (aF 1)))) (cK 0 .s (eC (.bool false))) eQ)
 (bH (sIf .s (bOf (eOp gGe (aN rH (aJ (eOp gIx (eUn (fH "Book") (aF 0)) (aF 1)) aM)) (eC (.int 60)))) (xW z "Full") eQ)
 (bH sNo
 (cK 0 .s (eC (.bool true)))))))
noncomputable def QB:FX:=fun z=>fnD 3 3 (Dv z)
theorem Fh (F:Fun K "put" "Book.put" zE f fd)(B:Blt mg)(C:Cst mg)(V:Xcs K mg)(D_Book_want_row:MethX P w K mg base "Book" "want_row" 4 nC (spX K 0 gD)):FnOk P w K mg base (CXR base P w) 5 f fd oQ (spX K 0 QB):=by
 obtain⟨_,h_MOST_ROWS⟩:=C.MOST_ROWS
 have nd:=Af8.nd
 exact nT F Af8 rfl (by decide) fun cdv A outer s H E P0 z hr hz=>by
  have hu:=eR hr
  have hv:=eF hr
  exact(bU (uW 0 .s (uD .s hz (jZ D_Book_want_row (hr.mono (by decide)) (aI 0) (aO (aI 1) (aO (aI 2) aX)))))
   (bU (fS .s (fK (pU hu) jV (aI 2) (dX hv (mV V.bk (aI 0)) (aI 1) (fun _ _=>rfl)) (by with_unfolding_all rfl)) (cC (dD .s iM)) gA)
   (bU (fS .s (fK RS SK (eL FD FR rfl B.len gO (aO (dX hv (mV V.bk (aI 0)) (aI 1) (fun _ _=>rfl)) aX)) (rY (i:=60) rfl h_MOST_ROWS ⟨_,rfl⟩) (fJ _)) (cC (yT hz V.r_Full rfl rfl)) gA)
   (bU JT
   (cC (dD .s iM))))))
noncomputable def oR:List aA->Option (Bool×aA):=pP "Book" gD BW
set_option maxHeartbeats 4000000 in
theorem Fo {P:bB}{w:aW}{K:aG}{mg:aD->Option aE}{base:aP}{f:aB}{fd:eM}(F:Fun K "put" "Book.put" zE f fd)(B:Blt mg)(C:Cst mg)(V:Xcs K mg)(D_Book_want_row:MethX P w K mg base "Book" "want_row" 4 nC (spX K 0 gD)):FnOk P w K mg base (CXR base P w) (4+1) f fd oQ (xV K oR):=by
 obtain⟨_,h_MOST_ROWS⟩:=C.MOST_ROWS
 have nd:=Af8.nd
 refine F.okX Af8 (fun vs H Q E h=>?_) (fun cdv A outer s H vs Q E hr h=>?_)
 ·obtain⟨P,F0,a,us,d,ds,r,d',rfl,_,_,_,_,rd,e,_⟩:=h
  obtain⟨W,hds,t,ks,kds,u,pq,e2,_⟩:=vW e
  cases e2
  rw[eE,rd.length]
  rfl
 ·obtain⟨P0,F0,a,us,d,ds,r,d',rfl,hP,hF,nF,rb,rd,e,kq⟩:=h
  have hu:=eR hr
  have hv:=eF hr
  obtain⟨W,hds,t,ks,kds,u,pq,e2,ew,el,k1,k2,ndk,eg,e3⟩:=vW e
  cases e2
  obtain⟨e3a,e3b⟩:=Prod.mk.inj e3
  obtain⟨v1,us1,rfl,r1,rd⟩:=Aac.mp rd
  obtain⟨v2,us2,rfl,r2,rd⟩:=Aac.mp rd
  obtain rfl:=Aai.mp rd
  obtain⟨C9,c1,cl,nW,nH⟩:=V.bk.ex
  refine⟨_,gU (oE (lM (jZ D_Book_want_row (hr.mono (by decide)) (aI 0) (aO (aI 1) (aO (aI 2) aX)))) rfl)
   (gU (lP (fK (pU hu) jV (aI 2) (dX hv (mV V.bk (aI 0)) (aI 1) (fun _ _=>rfl)) (by with_unfolding_all rfl)) (jI (mP rC)) lV)
   (gU (lP (fK RS SK (eL FD FR rfl B.len gO (aO (dX hv (mV V.bk (aI 0)) (aI 1) (fun _ _=>rfl)) aX)) (rY (i:=60) rfl h_MOST_ROWS ⟨_,rfl⟩) (fJ _)) NK lV)
   (gU (DB hv (yL hv (rN (pv 0) rfl) (pv 1) (fun _ _=>rfl)) (pv 2) rC rfl)
   (jI (mP rC))))),?_⟩
  have sub:Ext (hid H (orL P0 F0)) (hid H P0):=fQ fun b h=>.inl h
  have rs:Ai2 K (hid H P0) [some (bG "Book" W (.dict hds)),some (.str t),some (.tuple ks)] (start QL [.ref a,v1,v2]):=fun i d' e=>by
   match i,e with
   | 0,e=>cases e; exact⟨.ref a,rfl,rb.share sub fun b m o q=>eK (hF b m) q⟩
   | 1,e=>cases e; exact⟨v1,rfl,r1.ext sub⟩
   | 2,e=>cases e; exact⟨v2,rfl,r2.ext sub⟩
   | i+3,e=>simp at e
  have eI:eOp gIx (eUn (fH "Book") (aF 0)) (aF 1) [some (bG "Book" W (.dict hds)),some (.str t),some (.tuple ks)]=some (.dict ((.none,.none)::kds)):=by
   show(((fH "Book") (bG "Book" W (.dict hds))).bind fun x=>gIx x (.str t))=_
   rw[show fH "Book" (bG "Book" W (.dict hds))=some (.dict hds) by unfold fH; rw[rZ]; rfl]
   exact el
  have eW:aN (gD none) (eN "Book" (aF 0) (aJ (aF 1) (aJ (aF 2) aM))) [some (bG "Book" W (.dict hds)),some (.str t),some (.tuple ks)]=some u:=by
   show(eN "Book" (aF 0) (aJ (aF 1) (aJ (aF 2) aM)) [some (bG "Book" W (.dict hds)),some (.str t),some (.tuple ks)]).bind (gD none)=_
   have:eN "Book" (aF 0) (aJ (aF 1) (aJ (aF 2) aM)) [some (bG "Book" W (.dict hds)),some (.str t),some (.tuple ks)]=some [bG "Book" W (.dict hds),.str t,.tuple ks]:=by
    show(if (hX "Book" (bG "Book" W (.dict hds))).isSome=true then some [bG "Book" W (.dict hds),cT t,gP ks] else none)=_
    rw[rZ]
    rfl
   rw[this]
   exact ew
  obtain⟨_,_,_,_,_,_,_,_,_,_,_,_,_,_,_,_,rt0,_⟩:=rb.at nF el ndk
  refine⟨P0,_,u,hP,rs,eW,cR fun _ H1 x1 _=>?_⟩
  have eIn : ∀ neg:Bool,bOf (eOp (gIn neg) (aF 2) (eOp gIx (eUn (fH "Book") (aF 0)) (aF 1))) [some (bG "Book" W (.dict hds)),some (.str t),some (.tuple ks)]=some (neg != (iC kds ks).isSome):=fun neg=>by
   show((eOp gIx (eUn (fH "Book") (aF 0)) (aF 1) [some (bG "Book" W (.dict hds)),some (.str t),some (.tuple ks)]).bind fun x=>gIn neg (.tuple ks) x).bind asB=_
   rw[eI]
   show(if (bP ks&&decide (dB ks≤6))=true then some (fE (neg != (iC kds ks).isSome)) else none).bind asB=_
   rw[k1,decide_eq_true k2]
   rfl
  have same : ∀ {H2:Hp},Ext H H2->r=false->Q (.bl false) H2:=fun {H2} x2 er=>by
   have:=kq H2 (fun b o _ q=>x2 _ _ q) (by
    rw[e3b,if_neg (by rw[← e3a,er]; decide)]
    exact rb.keep (bS x2) fun b m=>by
     rcases rb.mut b m with⟨xs,q⟩ | ⟨xs,q⟩ <;> rw[q,x2 _ _ q])
   rwa [er] at this
  by_cases hin : .tuple ks∈kds.map (·.1)
  ·have eg:some (false,kds)=some pq:=(if_pos hin).symm.trans eg
   cases eg
   refine⟨P0,_,true,hP.ext x1,rs.ext (bS x1),?_,fun H2 x2=>iS ?_⟩
   ·rw[eIn,(zD k1 rt0 hin).1]
    rfl
   ·exact same (x1.trans x2) e3a
  have nin:=hin
  have eg:(if kds.length<60 then some (true,kds++[(.tuple ks,.bool true)]) else none)=some pq:=(if_neg hin).symm.trans eg
  obtain⟨hl60,rfl⟩:=cX eg
  have nlook:=EX k1 rt0 nin
  refine⟨P0,_,false,hP.ext x1,rs.ext (bS x1),?_,fun H2 x2=>gX ?_⟩
  ·rw[eIn,nlook]
   rfl
  have x12:=x1.trans x2
  refine⟨P0,_,false,hP.ext x12,rs.ext (bS x12),?_,fun H3 x3=>gX ?_⟩
  ·show((((eOp gIx (eUn (fH "Book") (aF 0)) (aF 1) [some (bG "Book" W (.dict hds)),some (.str t),some (.tuple ks)]).bind fun d=>some [d]).bind rH).bind fun x=>gGe x (.int 60)).bind asB=_
   rw[eI]
   show some (decide ((60:Int)≤(kds.length:Int)))=_
   rw[decide_eq_false (by omega)]
  have x13:=x12.trans x3
  have rb3:RepB K (hid H3 (orL P0 F0)) H3 (bG "Book" W (.dict hds)) (.ref a) F0:=rb.keep (bS x13) fun b m=>by
   rcases rb.mut b m with⟨xs,q⟩ | ⟨xs,q⟩ <;> rw[q,x13 _ _ q]
  obtain⟨a',C',dx,wa,q,p,hvs,ts,ea,hc,ha,hq,hval,hpF,hp,fl,rt,hnew⟩:=rb3.at nF el ndk
  cases ea
  obtain rfl:=oB c1 hc
  obtain rfl:=(Aas.mp r1).1
  have r2':=(r2.ext (bS x13)).ext Aay
  obtain⟨b,rfl,tk⟩:=r2'.tupK k1 k2
  have lt:ts.2.length=kds.length:=by
   have:=congrArg wY (yD rt)
   simpa using this.symm
  have nv:cZ ts.2 ks=none:=NR fun x m z=>nin (by
   rw[yD rt]
   exact cH.mpr ⟨x.1,cH.mpr ⟨x,m,rfl⟩,by rw[z]⟩)
  refine⟨_,rfl,a,_,dx,_,_,rfl,ha,cl,nH,zA _ _,_,rfl,q,.ref p,rfl,(by rw[← hval]; exact Au2.k (k:=.inr t) hq),_,rfl,p,_,rfl,A2l.t hp tk (by rw[lt]; exact gQ hl60 (by decide)),fun n=>?_⟩
  have e3b':d'=bG "Book" W (.dict (gR hds t (.dict ((.none,.none)::(kds++[(.tuple ks,.bool true)]))))):=e3b
  have e3a':r=true:=e3a
  subst e3b'
  subst e3a'
  refine kq _ (fun b' o nb q'=>?_) ?_
  ·rw[bO (fun z=>nb (by rw[z]; exact hpF))]
   exact x13 _ _ q'
  ·have xb:Ext (hid H3 (orL P0 F0)) (hid (upd H3 p (.dT n (putK ts.2 ks (.bl true)))) (orL P0 F0)):=fun b' o q'=>by
    obtain⟨nb,q'⟩:=Ab7.mp q'
    exact eK nb (by rw[bO (fun z=>nb (.inr (by rw[z]; exact hpF)))]; exact q')
   refine hnew _ _ _ (n,putK ts.2 ks (.bl true)) xb (fun b' m nb=>bO nb) eB (fun kd m=>?_) ?_
   ·rcases nM.mp m with m | m
    ·exact fl kd m
    ·rw[dH.mp m]; rfl
   ·have:=PJ k1 (Aan.mpr rfl:Abe K _ (.bool true) (.bl true)) (rt.ext xb)
    rw[← LZ (.bl true) nv] at this
    exact this
noncomputable def Em (z:Option aD):SF:=(bH (mT 0 .s (aN (gD z) (eN "Book" (aF 0) (aJ (aF 1) (aJ (aF 2) aM)))))
 (bH (sIf .s (bOf (eOp (gIn true) (aF 2) (eOp gIx (eUn (fH "Book") (aF 0)) (aF 1)))) (cK 0 .s (eC (.bool false))) eQ)
 (bH sNo
 (cK 0 .s (eC (.bool true))))))
noncomputable def QY:FX:=fun z=>fnD 3 3 (Em z)
theorem Fn (F:Fun K "drop" "Book.drop" zJ f fd)(B:Blt mg)(C:Cst mg)(V:Xcs K mg)(D_Book_want_row:MethX P w K mg base "Book" "want_row" 4 nC (spX K 0 gD)):FnOk P w K mg base (CXR base P w) 5 f fd oJ (spX K 0 QY):=by
 have nd:=Ae2.nd
 exact nT F Ae2 rfl (by decide) fun cdv A outer s H E P0 z hr hz=>by
  have hu:=eR hr
  have hv:=eF hr
  exact(bU (uW 0 .s (uD .s hz (jZ D_Book_want_row (hr.mono (by decide)) (aI 0) (aO (aI 1) (aO (aI 2) aX)))))
   (bU (fS .s (fK (vU hu) jV (aI 2) (dX hv (mV V.bk (aI 0)) (aI 1) (fun _ _=>rfl)) (by with_unfolding_all rfl)) (cC (dD .s iM)) gA)
   (bU JT
   (cC (dD .s iM)))))
noncomputable def oK:List aA->Option (Bool×aA):=pP "Book" gD HC
set_option maxHeartbeats 4000000 in
theorem Gf {P:bB}{w:aW}{K:aG}{mg:aD->Option aE}{base:aP}{f:aB}{fd:eM}(F:Fun K "drop" "Book.drop" zJ f fd)(B:Blt mg)(C:Cst mg)(V:Xcs K mg)(D_Book_want_row:MethX P w K mg base "Book" "want_row" 4 nC (spX K 0 gD)):FnOk P w K mg base (CXR base P w) (4+1) f fd oJ (xV K oK):=by
 have nd:=Ae2.nd
 refine F.okX Ae2 (fun vs H Q E h=>?_) (fun cdv A outer s H vs Q E hr h=>?_)
 ·obtain⟨P,F0,a,us,d,ds,r,d',rfl,_,_,_,_,rd,e,_⟩:=h
  obtain⟨W,hds,t,ks,kds,u,pq,e2,_⟩:=vW e
  cases e2
  rw[eE,rd.length]
  rfl
 ·obtain⟨P0,F0,a,us,d,ds,r,d',rfl,hP,hF,nF,rb,rd,e,kq⟩:=h
  have hu:=eR hr
  have hv:=eF hr
  obtain⟨W,hds,t,ks,kds,u,pq,e2,ew,el,k1,k2,ndk,eg,e3⟩:=vW e
  cases e2
  obtain⟨e3a,e3b⟩:=Prod.mk.inj e3
  obtain⟨v1,us1,rfl,r1,rd⟩:=Aac.mp rd
  obtain⟨v2,us2,rfl,r2,rd⟩:=Aac.mp rd
  obtain rfl:=Aai.mp rd
  obtain⟨C9,c1,cl,nW,nH⟩:=V.bk.ex
  refine⟨_,gU (oE (lM (jZ D_Book_want_row (hr.mono (by decide)) (aI 0) (aO (aI 1) (aO (aI 2) aX)))) rfl)
   (gU (lP (fK (vU hu) jV (aI 2) (dX hv (mV V.bk (aI 0)) (aI 1) (fun _ _=>rfl)) (by with_unfolding_all rfl)) (jI (mP rC)) lV)
   (gU (oE (rG PySem.F.plainAttrs_dict PySem.F.slot_dict_pop PySem.F.type_dict_pop (ZR hv) (yL hv (rN (pv 0) rfl) (pv 1) (fun _ _=>rfl)) (fP (pv 2) iN)) rfl)
   (jI (mP rC)))),?_⟩
  have sub:Ext (hid H (orL P0 F0)) (hid H P0):=fQ fun b h=>.inl h
  have rs:Ai2 K (hid H P0) [some (bG "Book" W (.dict hds)),some (.str t),some (.tuple ks)] (start QR [.ref a,v1,v2]):=fun i d' e=>by
   match i,e with
   | 0,e=>cases e; exact⟨.ref a,rfl,rb.share sub fun b m o q=>eK (hF b m) q⟩
   | 1,e=>cases e; exact⟨v1,rfl,r1.ext sub⟩
   | 2,e=>cases e; exact⟨v2,rfl,r2.ext sub⟩
   | i+3,e=>simp at e
  have eI:eOp gIx (eUn (fH "Book") (aF 0)) (aF 1) [some (bG "Book" W (.dict hds)),some (.str t),some (.tuple ks)]=some (.dict ((.none,.none)::kds)):=by
   show(((fH "Book") (bG "Book" W (.dict hds))).bind fun x=>gIx x (.str t))=_
   rw[show fH "Book" (bG "Book" W (.dict hds))=some (.dict hds) by unfold fH; rw[rZ]; rfl]
   exact el
  have eW:aN (gD none) (eN "Book" (aF 0) (aJ (aF 1) (aJ (aF 2) aM))) [some (bG "Book" W (.dict hds)),some (.str t),some (.tuple ks)]=some u:=by
   show(eN "Book" (aF 0) (aJ (aF 1) (aJ (aF 2) aM)) [some (bG "Book" W (.dict hds)),some (.str t),some (.tuple ks)]).bind (gD none)=_
   have:eN "Book" (aF 0) (aJ (aF 1) (aJ (aF 2) aM)) [some (bG "Book" W (.dict hds)),some (.str t),some (.tuple ks)]=some [bG "Book" W (.dict hds),.str t,.tuple ks]:=by
    show(if (hX "Book" (bG "Book" W (.dict hds))).isSome=true then some [bG "Book" W (.dict hds),cT t,gP ks] else none)=_
    rw[rZ]
    rfl
   rw[this]
   exact ew
  obtain⟨_,_,_,_,_,_,_,_,_,_,_,_,_,_,_,_,rt0,_⟩:=rb.at nF el ndk
  refine⟨P0,_,u,hP,rs,eW,cR fun _ H1 x1 _=>?_⟩
  have eIn : ∀ neg:Bool,bOf (eOp (gIn neg) (aF 2) (eOp gIx (eUn (fH "Book") (aF 0)) (aF 1))) [some (bG "Book" W (.dict hds)),some (.str t),some (.tuple ks)]=some (neg != (iC kds ks).isSome):=fun neg=>by
   show((eOp gIx (eUn (fH "Book") (aF 0)) (aF 1) [some (bG "Book" W (.dict hds)),some (.str t),some (.tuple ks)]).bind fun x=>gIn neg (.tuple ks) x).bind asB=_
   rw[eI]
   show(if (bP ks&&decide (dB ks≤6))=true then some (fE (neg != (iC kds ks).isSome)) else none).bind asB=_
   rw[k1,decide_eq_true k2]
   rfl
  have same : ∀ {H2:Hp},Ext H H2->r=false->Q (.bl false) H2:=fun {H2} x2 er=>by
   have:=kq H2 (fun b o _ q=>x2 _ _ q) (by
    rw[e3b,if_neg (by rw[← e3a,er]; decide)]
    exact rb.keep (bS x2) fun b m=>by
     rcases rb.mut b m with⟨xs,q⟩ | ⟨xs,q⟩ <;> rw[q,x2 _ _ q])
   rwa [er] at this
  by_cases hin : .tuple ks∈kds.map (·.1)
  case neg=>
   have eg:some (false,kds)=some pq:=(if_neg hin).symm.trans eg
   cases eg
   refine⟨P0,_,true,hP.ext x1,rs.ext (bS x1),?_,fun H2 x2=>iS ?_⟩
   ·rw[eIn,EX k1 rt0 hin]
    rfl
   ·exact same (x1.trans x2) e3a
  have eg:some (true,pK kds ks)=some pq:=(if_pos hin).symm.trans eg
  cases eg
  refine⟨P0,_,false,hP.ext x1,rs.ext (bS x1),?_,fun H3 x2=>gX ?_⟩
  ·rw[eIn,(zD k1 rt0 hin).1]
   rfl
  have x13:=x1.trans x2
  have rb3:RepB K (hid H3 (orL P0 F0)) H3 (bG "Book" W (.dict hds)) (.ref a) F0:=rb.keep (bS x13) fun b m=>by
   rcases rb.mut b m with⟨xs,q⟩ | ⟨xs,q⟩ <;> rw[q,x13 _ _ q]
  obtain⟨a',C',dx,wa,q,p,hvs,ts,ea,hc,ha,hq,hval,hpF,hp,fl,rt,hnew⟩:=rb3.at nF el ndk
  cases ea
  obtain rfl:=oB c1 hc
  obtain rfl:=(Aas.mp r1).1
  have r2':=(r2.ext (bS x13)).ext Aay
  obtain⟨b,rfl,tk⟩:=r2'.tupK k1 k2
  obtain⟨uu,hu2⟩:=wQ.mp (zD k1 rt hin).2
  refine⟨_,rfl,a,_,dx,_,_,rfl,ha,cl,nH,zA _ _,_,rfl,q,.ref p,rfl,(by rw[← hval]; exact Au2.k (k:=.inr t) hq),.inr (.inr (.inl ⟨rfl,.inr ⟨_,_,hp⟩⟩)),_,rfl,p,_,_,ks,b,uu,rfl,rfl,hp,tk,hu2,fun n=>?_⟩
  have e3b':d'=bG "Book" W (.dict (gR hds t (.dict ((.none,.none)::pK kds ks)))):=e3b
  have e3a':r=true:=e3a
  subst e3b'
  subst e3a'
  refine kq _ (fun b' o nb q'=>?_) ?_
  ·rw[bO (fun z=>nb (by rw[z]; exact hpF))]
   exact x13 _ _ q'
  ·have xb:Ext (hid H3 (orL P0 F0)) (hid (upd H3 p (.dT n (mK ts.2 ks))) (orL P0 F0)):=fun b' o q'=>by
    obtain⟨nb,q'⟩:=Ab7.mp q'
    exact eK nb (by rw[bO (fun z=>nb (.inr (by rw[z]; exact hpF)))]; exact q')
   refine hnew _ _ _ (n,mK ts.2 ks) xb (fun b' m nb=>bO nb) eB (fun kd m=>?_) ?_
   ·exact fl kd (AX.mp m).1
   ·exact EG ks (rt.ext xb)
noncomputable def Cn (z:Option aD):SF:=(bH (mT 0 .s (aN (gD z) (eN "Book" (aF 0) (aJ (aF 1) (aJ (aF 2) aM)))))
 (cK 0 .s (eOp (gIn false) (aF 2) (eOp gIx (eUn (fH "Book") (aF 0)) (aF 1)))))
noncomputable def kY:FX:=fun z=>fnD 3 3 (Cn z)
theorem Ec (F:Fun K "has" "Book.has" FU f fd)(B:Blt mg)(C:Cst mg)(V:Xcs K mg)(D_Book_want_row:MethX P w K mg base "Book" "want_row" 4 nC (spX K 0 gD)):FnOk P w K mg base (CXR base P w) 5 f fd vL (spX K 0 kY):=by
 have nd:=Ak7.nd
 exact nT F Ak7 rfl (by decide) fun cdv A outer s H E P0 z hr hz=>by
  have hu:=eR hr
  have hv:=eF hr
  exact(bU (uW 0 .s (uD .s hz (jZ D_Book_want_row (hr.mono (by decide)) (aI 0) (aO (aI 1) (aO (aI 2) aX)))))
   (cC (dD .s (jW (pU hu) jV (aI 2) (dX hv (mV V.bk (aI 0)) (aI 1) (fun _ _=>rfl)) (by with_unfolding_all rfl)))))
noncomputable def fI (rs ks:List aA):Bool:=rs.any fun z=>cS z (.tuple ks)
noncomputable def jL:List aA->Option (Bool×aA×aA):=fun ds=>match ds with
 | [d,.dict ms,.str t,.tuple ks,.int way]=>match bZ ms (.inr t) with
  | some (.list rs)=>if (hX "Book" d).isSome=true/\dF (.tuple ks)=true/\noDicts rs=true/\rs.length<1000 then
    if way<4 then(oR [d,.str t,.tuple ks]).bind fun q=>(gC [.bool q.1,.bool (!fI rs ks)]).bind fun r=>(asB r).bind fun r=>some (r,q.2,if (!fI rs ks&&decide (rs.length<60))=true then .dict (iJ ms (.inr t) (.list (rs++[.tuple ks]))) else .dict ms)
    else if way<6 then(oK [d,.str t,.tuple ks]).bind fun q=>(gC [.bool q.1,.bool (fI rs ks)]).bind fun r=>(asB r).bind fun r=>some (r,q.2,match atD rs (.tuple ks) with | some j=>.dict (iJ ms (.inr t) (.list (rs.eraseIdx j))) | none=>.dict ms)
    else(kY none [d,.str t,.tuple ks]).bind fun b=>(gC [b,.bool (fI rs ks)]).bind fun r=>(asB r).bind fun r=>some (r,d,.dict ms)
   else none
  | _=>none
 | _=>none
theorem FY {ds:List aA}{q:Bool×aA×aA}(h:jL ds=some q) : ∃ W D ms t ks way rs,ds=[bG "Book" W D,.dict ms,.str t,.tuple ks,.int way]/\bZ ms (.inr t)=some (.list rs)/\dF (.tuple ks)=true/\noDicts rs=true/\rs.length<1000 /\
  (if way<4 then(oR [bG "Book" W D,.str t,.tuple ks]).bind fun q=>(gC [.bool q.1,.bool (!fI rs ks)]).bind fun r=>(asB r).bind fun r=>some (r,q.2,if (!fI rs ks&&decide (rs.length<60))=true then .dict (iJ ms (.inr t) (.list (rs++[.tuple ks]))) else .dict ms)
    else if way<6 then(oK [bG "Book" W D,.str t,.tuple ks]).bind fun q=>(gC [.bool q.1,.bool (fI rs ks)]).bind fun r=>(asB r).bind fun r=>some (r,q.2,match atD rs (.tuple ks) with | some j=>.dict (iJ ms (.inr t) (.list (rs.eraseIdx j))) | none=>.dict ms)
    else(kY none [bG "Book" W D,.str t,.tuple ks]).bind fun b=>(gC [b,.bool (fI rs ks)]).bind fun r=>(asB r).bind fun r=>some (r,bG "Book" W D,.dict ms))=some q:=by
 unfold jL at h
 split at h
 ·split at h
  ·obtain⟨⟨c1,c2,c3,c4⟩,h⟩:=DZ h
   obtain⟨p,e⟩:=wQ.mp c1
   have e:=uY e
   subst e
   exact⟨p.1,p.2,_,_,_,_,_,rfl,by assumption,c2,c3,c4,h⟩
  ·cases h
 ·cases h
theorem ZS : ∀ d m ds q,jL (d::m::ds)=some q->(∃ W D,d=bG "Book" W D) /\ ∃ kds,m = .dict kds:=fun d m ds q h=>by
 obtain⟨W,D,ms,t,ks,way,rs,e,_⟩:=FY h
 cases e
 exact⟨⟨_,_,rfl⟩,_,rfl⟩
set_option maxHeartbeats 8000000 in
theorem Gg {P:bB}{w:aW}{K:aG}{mg:aD->Option aE}{base:aP}{f:aB}{fd:eM}(F:Fun K "_law_deed" "_law_deed" GG f fd)(B:Blt mg)(C:Cst mg)(V:Xcs K mg)(D__law_told:Def P w K mg base "_law_told" 1 vO (spF K 0 gC))
  (D_Book_has:MethX P w K mg base "Book" "has" 5 vL (spX K 0 kY)) (DM_Book_put:MethM P w K mg base "Book" "put" 5 oQ oR) (DM_Book_drop:MethM P w K mg base "Book" "drop" 5 oJ oK):FnOk P w K mg base (CXR base P w) (5+1) f fd vR (uK K 2 jL):=by
 have nd:=Ajp.nd
 obtain⟨C1,f1,fd1,hc1,cl1,me1,Fk1,hb1⟩:=DM_Book_put.ex
 obtain⟨C2,f2,fd2,hc2,cl2,me2,Fk2,hb2⟩:=DM_Book_drop.ex
 refine F.okX Ajp (fun vs H Q E h=>?_) (fun cdv A outer s H vs Q E hr h=>?_)
 ·obtain⟨P,F0,F1,a,p,us,d,m,ds,r,d',m',rfl,_,_,_,_,_,_,_,_,rd,e,_⟩:=h
  obtain⟨W,D,ms,t,ks,way,rs,e2,_⟩:=FY e
  cases e2
  rw[eE,eE,rd.length]
  rfl
 ·obtain⟨P0,F0,F1,a,p,us,d,m,ds,r,d',m',rfl,hP,hF0,hF1,hdj,nF0,nF1,rb,rm,rd,e,kq⟩:=h
  have hu:=eR hr
  have hv:=eF hr
  obtain⟨W,D,ms,t,ks,way,rs,e2,el,ok1,ok2,l1000,eg⟩:=FY e
  cases e2
  obtain⟨v2,us2,rfl,r2,rd⟩:=Aac.mp rd
  obtain⟨v3,us3,rfl,r3,rd⟩:=Aac.mp rd
  obtain⟨v4,us4,rfl,r4,rd⟩:=Aac.mp rd
  obtain rfl:=Aai.mp rd
  obtain rfl:=(Aas.mp r2).1
  obtain rfl:=Aaq.mp r4
  refine⟨_,gU (xZ (i:=5) nd rfl (by first | exact bE rfl | exact bD rfl) (yL hv (pv 1) (pv 2) (fun _ _=>rfl)))
   (gU (lP (fK (Ao8.or oH) nX (aI 4) aZ (fJ _))
    (gU (xZ (i:=6) nd rfl (by first | exact bE rfl | exact bD rfl) (jW (vU hu) jV (aI 3) (aI 5) (by with_unfolding_all rfl)))
    (gU (lP (kP (TF (iE (aI 6)) (KH (fK (Ao8.or oH) nX (eL hV hU rfl B.len gO (aO (aI 5) aX)) aZ (fJ _)))))
     (jI (oE (rG HV Oo On FG (pv 5) (fP (pv 3) iN)) rfl)) lV)
    (jI (mP (CP D__law_told (hr.mono (by decide)) rfl (fP (KO (pl:=_) (E:=fun _ _ _=>False) (pv 0) cl1 me1 Fk1 (hr.mono (by decide)) hb1 .nil (fun _ _ _ _ _ _ _ h=>by obtain⟨_,_,_,_,_,_,_,_,_,_,_,_,_,_,q⟩:=h; exact q.elim) (fP (pv 2) (fP (pv 3) iN))) (fP (pv 6) iN))))))) lV)
   (gU (lP (fK (Ao8.or oH) nX (aI 4) aZ (fJ _))
    (gU (xZ (i:=6) nd rfl (by first | exact bE rfl | exact bD rfl) (jW (pU hu) jV (aI 3) (aI 5) (by with_unfolding_all rfl)))
    (gU (lP (iE (aI 6))
     (jI (oE (rG HV PySem.F.slot_list_remove PySem.F.type_list_remove (Dy hu) (pv 5) (fP (pv 3) iN)) rfl)) lV)
    (jI (mP (CP D__law_told (hr.mono (by decide)) rfl (fP (KO (pl:=_) (E:=fun _ _ _=>False) (pv 0) cl2 me2 Fk2 (hr.mono (by decide)) hb2 .nil (fun _ _ _ _ _ _ _ h=>by obtain⟨_,_,_,_,_,_,_,_,_,_,_,_,_,_,q⟩:=h; exact q.elim) (fP (pv 2) (fP (pv 3) iN))) (fP (pv 6) iN))))))) lV)
   (jI (mP (cW D__law_told (hr.mono (by decide)) rfl (aO (lM (jZ D_Book_has (hr.mono (by decide)) (aI 0) (aO (aI 2) (aO (aI 3) aX)))) (aO (jW (pU hu) jV (aI 3) (aI 5) (by with_unfolding_all rfl)) aX))))))),?_⟩
  have sub:Ext (hid H (orL (orL P0 F1) F0)) (hid H P0):=fQ fun b h=>.inl (.inl h)
  obtain⟨ep,xs,q,ys,hp,hval,hq,mq,rrs,_⟩:=KA rm nF1 el
  have rsA : ∀ {H2:Hp},Ext H H2->Ai2 K (hid H2 P0) [some (bG "Book" W D),none,some (.str t),some (.tuple ks),some (.int way),some (.list rs)] ((start zL [.ref a,.ref p,.str t,v3,.int way]).set 5 (some (.ref q))):=fun {H2} x i d' e=>by
   match i,e with
   | 0,e=>cases e; exact⟨.ref a,rfl,(rb.share sub fun b m o q=>eK (hF0 b m) q).ext (bS x)⟩
   | 1,e=>cases e
   | 2,e=>cases e; exact⟨_,rfl,(r2.ext sub).ext (bS x)⟩
   | 3,e=>cases e; exact⟨_,rfl,(r3.ext sub).ext (bS x)⟩
   | 4,e=>cases e; exact⟨_,rfl,(r4.ext sub).ext (bS x)⟩
   | 5,e=>cases e; exact⟨_,rfl,(Abm.mpr ⟨q,ys,rfl,SqL.of (eK (hF1 q mq) hq),rrs.ext sub⟩:Abe K (hid H P0) _ _).ext (bS x)⟩
   | i+6,e=>simp at e
  have rsB : ∀ {H2:Hp} (o:Bool),Ext H H2->Ai2 K (hid H2 P0) [some (bG "Book" W D),none,some (.str t),some (.tuple ks),some (.int way),some (.list rs),some (.bool o)] (((start zL [.ref a,.ref p,.str t,v3,.int way]).set 5 (some (.ref q))).set 6 (some (.bl o))):=fun {H2} o x i d' e=>by
   match i,e with
   | 6,e=>cases e; exact⟨_,rfl,Aan.mpr rfl⟩
   | 0,e=>exact rsA x 0 d' e
   | 1,e=>exact rsA x 1 d' e
   | 2,e=>exact rsA x 2 d' e
   | 3,e=>exact rsA x 3 d' e
   | 4,e=>exact rsA x 4 d' e
   | 5,e=>exact rsA x 5 d' e
   | i+7,e=>simp at e
  have kpO : ∀ {H2:Hp} {b:aB},Ext H H2->(b∈F0 \/ b∈F1)->H2 b=H b:=fun {H2 b} x m=>by
   rcases m with m | m
   ·rcases rb.mut b m with⟨xs,q⟩ | ⟨xs,q⟩ <;> rw[q,x _ _ q]
   ·rcases rm.mut b m with⟨xs,q⟩ | ⟨xs,q⟩ <;> rw[q,x _ _ q]
  have fin : ∀ {C:aB} {mm:aD} {G:List aA->Option (Bool×aA)} {Hx:Hp} {m1:aA} {o:Bool} {qv:Bool×aA},dP K "Book" = some (.ref C)->(∀ w q:L2.V,iH mm [(("wide" : aD),w),("held",q)]=none)->(∀ b o,b∉F1->H b=some o->Hx b=some o) ->
    Aed K (hid Hx (orL (orL P0 F1) F0)) Hx 2 m1 (.ref p) F1->G [bG "Book" W D,.str t,.tuple ks]=some qv->gC [.bool qv.1,.bool o]=some (.bool r)->qv.2=d'->m1=m' ->
    zX (spF K 0 gC) [] E0 (uB (JH C mm (xV K G) [] (fun _ _ _=>False) (sP 0) (uB (sP 2) (uB (sP 3) BY))) (uB (sP 6) BY)) (((start zL [.ref a,.ref p,.str t,v3,.int way]).set 5 (some (.ref q))).set 6 (some (.bl o))) Hx Q:=fun {C mm G Hx m1 o qv} hc hlk kp rmx eG et ed em=>by
   subst ed
   subst em
   have xb:Ext (hid H (orL (orL P0 F1) F0)) (hid Hx (orL (orL P0 F1) F0)):=fun b o e=>by
    obtain⟨nb,e⟩:=Ab7.mp e
    exact eK nb (kp b o (fun m=>nb (.inl (.inr m))) e)
   have rbx:RepB K (hid Hx (orL (orL P0 F1) F0)) Hx (bG "Book" W D) (.ref a) F0:=rb.keep xb fun b m=>by
    rcases rb.mut b m with⟨xs,q⟩ | ⟨xs,q⟩ <;> rw[q,kp _ _ (hdj b m) q]
   obtain⟨c',C',dx,a',w',qq,wds,hds,kvs,hvs,pps,e3,ea,e4,hia,_⟩:=id rbx.ex
   cases ea
   have e3':c' = "Book":=by
    simp only[bG,PyData.dict.injEq,II,wO,PyData.str.injEq,and_true,true_and] at e3
    exact e3.1.symm
   subst e3'
   obtain rfl:=oB hc e4
   refine⟨.ref a,rfl,a,dx,_,rfl,hia,hlk _ _,.str t,rfl,v3,rfl,orL P0 F1,F0,a,[.str t,v3],_,[.str t,.tuple ks],qv.1,qv.2,rfl,fun b h=>?_,fun b m h=>?_,nF0,rbx,Aac.mpr ⟨_,_,rfl,r2.ext xb,Aac.mpr ⟨_,_,rfl,r3.ext xb,Aai.mpr rfl⟩⟩,eG,fun H' kp' rb'=>?_⟩
   ·rcases h with h | h
    ·rcases hP b h with⟨xs,e⟩ | ⟨xs,e⟩
     ·exact .inl ⟨xs,kp _ _ (fun m=>hF1 b m h) e⟩
     ·exact .inr ⟨xs,kp _ _ (fun m=>hF1 b m h) e⟩
    ·exact rmx.mut b h
   ·rcases h with h | h
    ·exact hF0 b m h
    ·exact hdj b m h
   ·refine⟨.bl o,rfl,fun _=>False,[.bool qv.1,.bool o],.bool r,fun _ h=>h.elim,Aac.mpr ⟨_,_,rfl,Aan.mpr rfl,Aac.mpr ⟨_,_,rfl,Aan.mpr rfl,Aai.mpr rfl⟩⟩,et,cR fun v H2 x2 r2=>?_⟩
    obtain rfl:=Aan.mp r2
    have xc:Ext (hid Hx (orL (orL P0 F1) F0)) (hid H2 (orL (orL P0 F1) F0)):=fun b o e=>by
     obtain⟨nb,e⟩:=Ab7.mp e
     exact eK nb (x2 _ _ (kp' b o (fun m=>nb (.inr m)) e))
    refine kq H2 (fun b o n0 n1 e=>x2 _ _ (kp' _ _ n0 (kp _ _ n1 e))) (rb'.keep (bS x2) fun b m=>?_) (rmx.keep xc fun b m=>?_)
    ·rcases rb'.mut b m with⟨xs,q⟩ | ⟨xs,q⟩ <;> rw[q,x2 _ _ q]
    ·have nb:b∉F0:=fun z=>hdj b z m
     rcases rmx.mut b m with⟨xs,q⟩ | ⟨xs,q⟩ <;> rw[q,x2 _ _ (kp' _ _ nb q)]
  refine⟨.ref p,rfl,.str t,rfl,p,.ref q,rfl,(by rw[← hval]; exact Au2.k (k:=.inr t) hp),?_⟩
  have eIn : ∀ (neg:Bool),gIn neg (.tuple ks) (.list rs)=some (.bool (neg != fI rs ks)):=fun neg=>by
   show(if (dF (.tuple ks)&&noDicts rs)=true then some (fE (neg != rs.any fun z=>cS z (.tuple ks))) else none)=_
   rw[ok1,ok2]
   rfl
  have rmk : ∀ {H2:Hp},Ext H H2->Aed K (hid H2 (orL (orL P0 F1) F0)) H2 2 (.dict ms) (.ref p) F1:=fun {H2} x=>rm.keep (bS x) fun b m=>kpO x (.inr m)
  have upd3 : ∀ {H3:Hp},Ext H H3->H3 q=some (.lst ys)/\Aap K (hid H3 (orL (orL P0 F1) F0)) rs ys /\ ∀ es' ys',Aap K (hid H3 (orL (orL P0 F1) F0)) es' ys'->Aed K (hid (upd H3 q (.lst ys')) (orL (orL P0 F1) F0)) (upd H3 q (.lst ys')) 2 (.dict (iJ ms (.inr t) (.list es'))) (.ref p) F1:=fun {H3} x=>by
   obtain⟨ep3,xs3,q3,ys3,hp3,hval3,hq3,mq3,rrs3,up⟩:=KA (rmk x) nF1 el
   have e1:=x _ _ hp
   rw[hp3] at e1
   cases e1
   rw[hval] at hval3
   cases hval3
   have e2:=x _ _ hq
   rw[hq3] at e2
   cases e2
   have xu : ∀ ys',Ext (hid H3 (orL (orL P0 F1) F0)) (hid (upd H3 q (.lst ys')) (orL (orL P0 F1) F0)):=fun ys' b o e=>by
    obtain⟨nb,e⟩:=Ab7.mp e
    exact eK nb (by rw[bO (fun z=>nb (.inl (.inr (by rw[z]; exact mq))))]; exact e)
   exact⟨hq3,rrs3,fun es' ys' r'=>up _ _ _ (xu ys') (r'.ext (xu ys'))⟩
  have kpu : ∀ {H3:Hp} (ys':List L2.V),Ext H H3 -> ∀ b o,b∉F1->H b=some o->upd H3 q (.lst ys') b=some o:=fun {H3} ys' x b o nb e=>by
   rw[bO (fun z=>nb (by rw[z]; exact mq))]
   exact x _ _ e
  by_cases h4:way<4
  ·rw[if_pos h4] at eg
   obtain⟨qv,e1,eg⟩:=XBs eg
   obtain⟨rr,e2,eg⟩:=XBs eg
   obtain⟨rb1,e3,eg⟩:=XBs eg
   have:=mY e3
   subst this
   have eg:=dZ eg
   simp only[wO] at eg
   obtain⟨rfl,ed,em⟩:=eg
   refine⟨P0,_,true,hP,rsA Ext.refl,?_,fun H1 x1=>iS ?_⟩
   ·show some (decide (way<4))=_
    rw[decide_eq_true h4]
   refine⟨P0,_,.bool (!fI rs ks),hP.ext x1,rsA x1,?_,cR fun v H2 x2 rv=>?_⟩
   ·exact(eIn true).trans (by cases fI rs ks <;> rfl)
   obtain rfl:=Aan.mp rv
   have x12:=x1.trans x2
   refine⟨P0,_,(!fI rs ks&&decide (rs.length<60)),hP.ext x12,rsB _ x12,?_,fun H3 x3=>?_⟩
   ·show(some (!fI rs ks)).bind (fun b=>if b=true then some (decide ((rs.length:Int)<60)) else some false)=_
    cases fI rs ks with
    | true=>rfl
    | false=>
     show some (decide ((rs.length:Int)<60))=some (true&&decide (rs.length<60))
     rw[Bool.true_and]
     exact congrArg some (decide_eq_decide.mpr ⟨fun h=>by omega,fun h=>by omega⟩)
   have x13:=x12.trans x3
   obtain⟨hq3,rrs3,up⟩:=upd3 x13
   by_cases hc:(!fI rs ks&&decide (rs.length<60))=true
   ·rw[if_pos hc] at em
    rw[hc]
    refine iS ⟨.ref q,rfl,.inl ⟨rfl,ys,SqL.of hq3⟩,v3,rfl,q,ys,v3,rfl,rfl,hq3,?_,?_⟩
    ·rw[rrs3.length]
     exact gQ l1000 (by decide)
    ·exact fin hc1 (fun _ _=>rfl) (kpu _ x13) (up _ _ (rrs3.snoc (r3.ext (bS x13)))) e1 e2 ed em
   ·rw[if_neg hc] at em
    rw[VE.mpr hc]
    exact gX (fin hc1 (fun _ _=>rfl) (fun b o _ e=>x13 _ _ e) (rmk x13) e1 e2 ed em)
  rw[if_neg h4] at eg
  refine⟨P0,_,false,hP,rsA Ext.refl,?_,fun H1 x1=>gX ?_⟩
  ·show some (decide (way<4))=_
   rw[decide_eq_false h4]
  by_cases h6:way<6
  ·rw[if_pos h6] at eg
   obtain⟨qv,e1,eg⟩:=XBs eg
   obtain⟨rr,e2,eg⟩:=XBs eg
   obtain⟨rb1,e3,eg⟩:=XBs eg
   have:=mY e3
   subst this
   have eg:=dZ eg
   simp only[wO] at eg
   obtain⟨rfl,ed,em⟩:=eg
   refine⟨P0,_,true,hP.ext x1,rsA x1,?_,fun H2 x2=>iS ?_⟩
   ·show some (decide (way<6))=_
    rw[decide_eq_true h6]
   have x12:=x1.trans x2
   refine⟨P0,_,.bool (fI rs ks),hP.ext x12,rsA x12,?_,cR fun v H3 x3 rv=>?_⟩
   ·exact(eIn false).trans (by cases fI rs ks <;> rfl)
   obtain rfl:=Aan.mp rv
   have x13:=x12.trans x3
   refine⟨P0,_,fI rs ks,hP.ext x13,rsB _ x13,rfl,fun H4 x4=>?_⟩
   have x14:=x13.trans x4
   obtain⟨hq3,rrs3,up⟩:=upd3 x14
   have ha:(atD rs (.tuple ks)).isSome=fI rs ks:=List.findIdx?_isSome
   by_cases hc:fI rs ks=true
   ·rw[hc] at ha e2
    obtain⟨j,hj⟩:=wQ.mp ha
    rw[hj] at em
    rw[hc]
    refine iS ⟨.ref q,rfl,.inl ⟨rfl,ys,SqL.of hq3⟩,v3,rfl,q,ys,v3,rs,.tuple ks,j,rfl,rfl,hq3,rrs3.ext Aay,(r3.ext (bS x14)).ext Aay,ok1,ok2,hj,?_⟩
    exact fin hc2 (fun _ _=>rfl) (kpu _ x14) (up _ _ (rrs3.erase j)) e1 e2 ed em
   ·rw[VE.mpr hc] at ha e2
    have hj:atD rs (.tuple ks)=none:=by
     cases q:atD rs (.tuple ks) with
     | none=>rfl
     | some j=>rw[q] at ha; cases ha
    rw[hj] at em
    rw[VE.mpr hc]
    exact gX (fin hc2 (fun _ _=>rfl) (fun b o _ e=>x14 _ _ e) (rmk x14) e1 e2 ed em)
  rw[if_neg h6] at eg
  obtain⟨bv,e1,eg⟩:=XBs eg
  obtain⟨rr,e2,eg⟩:=XBs eg
  obtain⟨rb1,e3,eg⟩:=XBs eg
  have:=mY e3
  subst this
  have eg:=dZ eg
  simp only[wO] at eg
  obtain⟨rfl,rfl,rfl⟩:=eg
  refine⟨P0,_,false,hP.ext x1,rsA x1,?_,fun H2 x2=>gX ?_⟩
  ·show some (decide (way<6))=_
   rw[decide_eq_false h6]
  have x12:=x1.trans x2
  refine⟨P0,_,.bool rb1,hP.ext x12,rsA x12,?_,cR fun v H3 x3 rv=>?_⟩
  ·have ea:eN "Book" (aF 0) (aJ (aF 2) (aJ (aF 3) aM)) [some (bG "Book" W D),none,some (.str t),some (.tuple ks),some (.int way),some (.list rs)]=some [bG "Book" W D,.str t,.tuple ks]:=by
    show(if (hX "Book" (bG "Book" W D)).isSome=true then some [bG "Book" W D,cT t,gP ks] else none)=_
    rw[rZ]
    rfl
   have e4:aN (kY none) (eN "Book" (aF 0) (aJ (aF 2) (aJ (aF 3) aM))) [some (bG "Book" W D),none,some (.str t),some (.tuple ks),some (.int way),some (.list rs)]=some bv:=by
    unfold aN
    rw[ea]
    exact e1
   have e5:eOp (gIn false) (aF 3) (aF 5) [some (bG "Book" W D),none,some (.str t),some (.tuple ks),some (.int way),some (.list rs)]=some (.bool (fI rs ks)):=(eIn false).trans (by cases fI rs ks <;> rfl)
   have e6:aJ (aN (kY none) (eN "Book" (aF 0) (aJ (aF 2) (aJ (aF 3) aM)))) (aJ (eOp (gIn false) (aF 3) (aF 5)) aM) [some (bG "Book" W D),none,some (.str t),some (.tuple ks),some (.int way),some (.list rs)]=some [bv,.bool (fI rs ks)]:=by
    show((aN (kY none) (eN "Book" (aF 0) (aJ (aF 2) (aJ (aF 3) aM))) [some (bG "Book" W D),none,some (.str t),some (.tuple ks),some (.int way),some (.list rs)]).bind fun d=>((eOp (gIn false) (aF 3) (aF 5) [some (bG "Book" W D),none,some (.str t),some (.tuple ks),some (.int way),some (.list rs)]).bind fun d2=>some [d2]).bind fun ds=>some (d::ds))=_
    rw[e4,e5]
    rfl
   show(aJ (aN (kY none) (eN "Book" (aF 0) (aJ (aF 2) (aJ (aF 3) aM)))) (aJ (eOp (gIn false) (aF 3) (aF 5)) aM) [some (bG "Book" W D),none,some (.str t),some (.tuple ks),some (.int way),some (.list rs)]).bind gC=_
   rw[e6]
   exact e2
  obtain rfl:=Aan.mp rv
  have x13:=x12.trans x3
  exact kq H3 (fun b o _ _ e=>x13 _ _ e) (rb.keep (bS x13) fun b m=>kpO x13 (.inl m)) (rmk x13)
end Aw
namespace Aw
open PySem L2
set_option maxHeartbeats 4000000
variable {P:bB}{w:aW}{K:aG}{mg:aD->Option aE}{base:aP}{f:aB}{fd:eM}
noncomputable def XG:SF:=(bH (cM 1 1 .s (lK aM))
 (bH (iK .s (iIt (aN sL (aJ (aN kB (aJ (aF 0) (aJ (eC (.int 1)) aM))) (aJ (eOp dC (eC (.int 1)) (eOp cQ (aN fL (aJ (aN kB (aJ (aF 0) (aJ (eC (.int 0)) aM))) (aJ (eC (.int 5)) aM))) (eC (.int 3)))) aM)))) (gNm 2) (kQ 1 .a (sR (aJ (aF 2) (aJ (eOp dC (eC (.int 1)) (eOp cQ (aN fL (aJ (aN kB (aJ (aF 0) (aJ (eC (.int 2)) aM))) (aJ (eOp dC (eC (.int 6)) (aN cU (aJ (aF 1) aM))) aM))) (eC (.int 6)))) aM)))))
 (nE 1 (bH (cM 3 0 .s (aN vY (aJ (aN kB (aJ (aF 0) (aJ (eC (.int 3)) aM))) aM)))
 (bH (cM 4 0 .s (eOp dC (eOp cQ (aN kB (aJ (aF 0) (aJ (eC (.int 3)) aM))) (eOp nD (eC (.int 10)) (eC (.int 60)))) (eC (.int 100))))
 (bH (cM 5 9 .s (aN (sN none) (aJ (aF 1) aM)))
 (bH (cM 6 2 .s (eC (.dict [])))
 (bH (iK .s (iIt (aF 1)) (pD 2 7) (xX 6 .s (lK aM) .s (aF 2)))
 (bH (cM 8 1 .s (lK aM))
 (bH (iK .s (iIt (oX (aF 0) (oS (eC (.int 4))) (oS (eC (.int 84))))) (gNm 9) (bH (AE .s (eOp gIx (aF 1) (eOp cQ (aN fL (aJ (aF 9) (aJ (eC (.int 23)) aM))) (aN cU (aJ (aF 1) aM)))) (pD 10 7))
 (bH (cM 11 0 .s (eOp cQ (aN fL (aJ (aF 9) (aJ (eC (.int 24)) aM))) (eC (.int 9))))
 (sIf .s (bOf (eOp gLt (aF 11) (eC (.int 8)))) (bH (cM 12 0 .s (aN vK (aJ (aF 9) (aJ (aF 3) (aJ (aF 7) aM)))))
 (yI .a (bOf (eOp gLt (aN cU (aJ (eOp gIx (aF 6) (aF 10)) aM)) (eC (.int 59)))) 5 6 2 jL (aJ (aF 10) (aJ (aF 12) (aJ (aF 11) aM))))) (bH (cM 13 1 .a (aN (oM none) (eN "Book" (aF 5) (aJ (aF 10) aM))))
 (nE 13 (bH (sIf .a (bOr (eO (bOf (aN pY (aJ (aF 13) (aJ (eOp gIx (aF 6) (aF 10)) aM))))) (eO (bOf (aN pZ (aJ (aF 5) (aJ (aF 6) aM)))))) (cK 0 .s (eC (.bool false))) eQ)
 (bH (kQ 8 .s (sR (aJ (aF 13) (aJ (aN GW (aJ (aF 13) aM)) aM))))
 (bH (cM 14 1 .a (aN (oM none) (eN "Book" (aF 5) (aJ (aF 10) aM))))
 (bH (kQ 14 .s (eOp rF (sR (aJ (aF 4) aM)) (aF 7)))
 (bH (BN 14 .s (eC (.int 0)))
 (nE 14 (sIf .a (bOr (eO (bOf (aN pY (aJ (aN (oM none) (eN "Book" (aF 5) (aJ (aF 10) aM))) (aJ (eOp gIx (aF 6) (aF 10)) aM))))) (eO (bOf (aN pZ (aJ (aF 5) (aJ (aF 6) aM)))))) (cK 0 .s (eC (.bool false))) eQ)))))))))))))
 (nE 8 (nE 6 (bH (iK .s (iDK (aF 6)) (gNm 10) (sIf .a (eO (bOf (aN pY (aJ (aN (oM none) (eN "Book" (aF 5) (aJ (aF 10) aM))) (aJ (eOp gIx (aF 6) (aF 10)) aM))))) (cK 0 .s (eC (.bool false))) eQ))
 (bH (iK .s (iIt (aF 8)) (pD 13 15) (sIf .s (bOf (eOp gNe (aF 13) (aF 15))) (cK 0 .s (eC (.bool false))) eQ))
 (cK 0 .a (aN pZ (aJ (aF 5) (aJ (aF 6) aM))))))))))))))))))
noncomputable def GZ:List aA->Option aA:=fnD 1 16 XG
theorem ZG (F:Fun K "law" "law" pE f fd)(B:Blt mg)(C:Cst mg)(V:Xcs K mg)(D__law_cell:Def P w K mg base "_law_cell" 1 vP (spF K 0 kB))(D__law_mix:Def P w K mg base "_law_mix" 1 oT (spF K 0 fL))(D__law_rows_hold:Def P w K mg base "_law_rows_hold" 1 wF (spF K 0 pY))(D__law_names:Def P w K mg base "_law_names" 2 wC (spF K 1 sL))(D__law_values:Def P w K mg base "_law_values" 2 vX (spF K 1 vY))(D__law_row:Def P w K mg base "_law_row" 2 vH (spF K 0 vK))(D__law_size_holds:Def P w K mg base "_law_size_holds" 2 wG (spF K 0 pZ))(D_Book_rows:MethX P w K mg base "Book" "rows" 3 vM (spX K 1 oM))(D_Book___init__:MakeX P w K mg base "Book" 4 wD sN)(DM__law_deed:DefX P w K mg base "_law_deed" 6 vR (uK K 2 jL)):FnOk P w K mg base CX0 7 f fd JU (spF K 0 GZ):=by
 have nd:=A3f.nd
 exact iB F A3f rfl (by decide) fun cdv A outer s H E P0 hr=>by
  have hu:=eR hr
  have hv:=eF hr
  refine bU ?_ ?_
  refine fC (i:=1) 1 .s ?_ ?_ ?_ ?_ ?_ ?_
  exact nd
  rfl
  first | exact bE rfl | exact bD rfl
  exact(rQ aX)
  rfl
  first | exact bE rfl | exact bD rfl | assumption
  refine bU ?_ ?_
  refine uG ?_ ?_ ?_ ?_ ?_ ?_
  exact qN
  rfl
  refine nV ?_
  refine jK (n:=1) ?_
  refine cW D__law_names (hr.mono (by decide)) rfl ?_
  refine aO ?_ ?_ ?_
  refine cW D__law_cell (hr.mono (by decide)) rfl ?_
  refine aO ?_ ?_ ?_
  exact(aI 0)
  refine aO ?_ ?_ ?_
  exact aZ
  exact aX
  rfl
  rfl
  refine aO ?_ ?_ ?_
  refine gY aZ ?_
  refine fM ?_ aZ
  refine cW D__law_mix (hr.mono (by decide)) rfl ?_
  refine aO ?_ ?_ ?_
  refine cW D__law_cell (hr.mono (by decide)) rfl ?_
  refine aO ?_ ?_ ?_
  exact(aI 0)
  refine aO ?_ ?_ ?_
  exact aZ
  exact aX
  rfl
  rfl
  refine aO ?_ ?_ ?_
  exact aZ
  exact aX
  rfl
  rfl
  exact aX
  rfl
  rfl
  exact(rU (i:=2) nd rfl (by first | exact bE rfl | exact bD rfl))
  refine cC ?_
  refine vD 1 .a ?_
  refine CB ?_
  refine aO ?_ ?_ ?_
  exact(aI 2)
  refine aO ?_ ?_ ?_
  refine gY aZ ?_
  refine fM ?_ aZ
  refine cW D__law_mix (hr.mono (by decide)) rfl ?_
  refine aO ?_ ?_ ?_
  refine cW D__law_cell (hr.mono (by decide)) rfl ?_
  refine aO ?_ ?_ ?_
  exact(aI 0)
  refine aO ?_ ?_ ?_
  exact aZ
  exact aX
  rfl
  rfl
  refine aO ?_ ?_ ?_
  refine gY aZ ?_
  refine eL hV hU rfl B.len gO ?_
  refine aO ?_ ?_ ?_
  exact(aI 1)
  exact aX
  rfl
  exact aX
  rfl
  rfl
  exact aX
  rfl
  rfl
  intro _; rfl
  refine pR 1 ?_
  refine bU ?_ ?_
  refine fC (i:=3) 0 .s ?_ ?_ ?_ ?_ ?_ ?_
  exact nd
  rfl
  first | exact bE rfl | exact bD rfl
  refine jK (n:=1) ?_
  refine cW D__law_values (hr.mono (by decide)) rfl ?_
  refine aO ?_ ?_ ?_
  refine cW D__law_cell (hr.mono (by decide)) rfl ?_
  refine aO ?_ ?_ ?_
  exact(aI 0)
  refine aO ?_ ?_ ?_
  exact aZ
  exact aX
  rfl
  rfl
  exact aX
  rfl
  rfl
  first | exact bE rfl | exact bD rfl | assumption
  refine bU ?_ ?_
  refine fC (i:=4) 0 .s ?_ ?_ ?_ ?_ ?_ ?_
  exact nd
  rfl
  first | exact bE rfl | exact bD rfl
  refine gY ?_ aZ
  refine fM ?_ ?_
  refine cW D__law_cell (hr.mono (by decide)) rfl ?_
  refine aO ?_ ?_ ?_
  exact(aI 0)
  refine aO ?_ ?_ ?_
  exact aZ
  exact aX
  rfl
  rfl
  exact(uH aZ aZ)
  rfl
  first | exact bE rfl | exact bD rfl | assumption
  refine bU ?_ ?_
  refine fC (i:=5) 9 .s ?_ ?_ ?_ ?_ ?_ ?_
  exact nd
  rfl
  first | exact bE rfl | exact bD rfl
  exact(lM (Lb D_Book___init__ (hr.mono (by decide)) (by rfl) (aO (aI 1) aX)))
  rfl
  first | exact bE rfl | exact bD rfl | assumption
  refine bU ?_ ?_
  exact(fC (i:=6) 2 .s nd rfl (by first | exact bE rfl | exact bD rfl) Nb)
  refine bU ?_ ?_
  refine uG ?_ ?_ ?_ ?_ ?_ ?_
  exact qN
  rfl
  refine nV ?_
  exact(aI 1)
  exact(DR (i:=2) (j:=7) rfl nd rfl rfl (by first | exact bE rfl | exact bD rfl) (by first | exact bE rfl | exact bD rfl))
  refine cC ?_
  refine Nx 6 .s .s hv ?_ ?_
  exact(rQ aX)
  exact(aI 2)
  intro _; rfl
  refine bU ?_ ?_
  refine fC (i:=8) 1 .s ?_ ?_ ?_ ?_ ?_ ?_
  exact nd
  rfl
  first | exact bE rfl | exact bD rfl
  exact(rQ aX)
  rfl
  first | exact bE rfl | exact bD rfl | assumption
  refine bU ?_ ?_
  refine uG ?_ ?_ ?_ ?_ ?_ ?_
  exact qN
  rfl
  refine nV ?_
  refine jK (n:=1) ?_
  refine SS ?_ ?_ ?_
  exact(aI 0)
  exact(DJ aZ)
  exact(DJ aZ)
  exact(rU (i:=9) nd rfl (by first | exact bE rfl | exact bD rfl))
  refine bU ?_ ?_
  refine Kw .s ?_ ?_
  refine dX hv ?_ ?_ (fun _ _=>rfl)
  exact(aI 1)
  refine fM ?_ ?_
  refine cW D__law_mix (hr.mono (by decide)) rfl ?_
  refine aO ?_ ?_ ?_
  exact(aI 9)
  refine aO ?_ ?_ ?_
  exact aZ
  exact aX
  rfl
  rfl
  refine eL hV hU rfl B.len gO ?_
  refine aO ?_ ?_ ?_
  exact(aI 1)
  exact aX
  rfl
  exact(DR (i:=10) (j:=7) rfl nd rfl rfl (by first | exact bE rfl | exact bD rfl) (by first | exact bE rfl | exact bD rfl))
  refine bU ?_ ?_
  refine fC (i:=11) 0 .s ?_ ?_ ?_ ?_ ?_ ?_
  exact nd
  rfl
  first | exact bE rfl | exact bD rfl
  refine fM ?_ aZ
  refine cW D__law_mix (hr.mono (by decide)) rfl ?_
  refine aO ?_ ?_ ?_
  exact(aI 9)
  refine aO ?_ ?_ ?_
  exact aZ
  exact aX
  rfl
  rfl
  rfl
  first | exact bE rfl | exact bD rfl | assumption
  refine cC ?_
  refine fS .s ?_ ?_ ?_
  refine fK (Ao8.or oH) nX ?_ aZ (fJ _)
  exact(aI 11)
  refine bU ?_ ?_
  refine fC (i:=12) 0 .s ?_ ?_ ?_ ?_ ?_ ?_
  exact nd
  rfl
  first | exact bE rfl | exact bD rfl
  refine cW D__law_row (hr.mono (by decide)) rfl ?_
  refine aO ?_ ?_ ?_
  exact(aI 9)
  refine aO ?_ ?_ ?_
  exact(aI 3)
  refine aO ?_ ?_ ?_
  exact(aI 7)
  exact aX
  rfl
  rfl
  rfl
  rfl
  first | exact bE rfl | exact bD rfl | assumption
  refine cC ?_
  refine Bj .a ?_ (Lv 5 6 DM__law_deed (hr.mono (by decide)) rfl ZS (by decide) (aO (aI 10) (aO (aI 12) (aO (aI 11) aX))))
  refine fK (Ao8.or oH) nX ?_ aZ (fJ _)
  refine eL hV hU rfl B.len gO ?_
  refine aO ?_ ?_ ?_
  refine dX hv ?_ ?_ (fun _ _=>rfl)
  exact(aI 6)
  exact(aI 10)
  exact aX
  rfl
  refine bU ?_ ?_
  refine fC (i:=13) 1 .a ?_ ?_ ?_ ?_ ?_ ?_
  exact nd
  rfl
  first | exact bE rfl | exact bD rfl
  exact(lM (jZ D_Book_rows (hr.mono (by decide)) (aI 5) (aO (aI 10) aX)))
  rfl
  first | exact bE rfl | exact bD rfl | assumption
  refine pR 13 ?_
  refine bU ?_ ?_
  refine fS .a ?_ ?_ gA
  refine kP ?_
  refine lN ?_ ?_
  refine hE ?_
  refine iE ?_
  refine cW D__law_rows_hold (hr.mono (by decide)) rfl ?_
  refine aO ?_ ?_ ?_
  exact(aI 13)
  refine aO ?_ ?_ ?_
  refine dX hv ?_ ?_ (fun _ _=>rfl)
  exact(aI 6)
  exact(aI 10)
  exact aX
  rfl
  rfl
  refine mR ?_
  refine hE ?_
  refine iE ?_
  refine cW D__law_size_holds (hr.mono (by decide)) rfl ?_
  refine aO ?_ ?_ ?_
  exact(aI 5)
  refine aO ?_ ?_ ?_
  exact(aI 6)
  exact aX
  rfl
  rfl
  refine cC ?_
  exact(dD .s iM)
  refine bU ?_ ?_
  refine vD 8 .s ?_
  refine CB ?_
  refine aO ?_ ?_ ?_
  exact(aI 13)
  refine aO ?_ ?_ ?_
  refine jK (n:=1) ?_
  refine yY (Ex rfl) Ds rfl B.list UI ?_
  refine aO ?_ ?_ ?_
  exact(aI 13)
  exact aX
  rfl
  exact aX
  rfl
  rfl
  refine bU ?_ ?_
  refine fC (i:=14) 1 .a ?_ ?_ ?_ ?_ ?_ ?_
  exact nd
  rfl
  first | exact bE rfl | exact bD rfl
  exact(lM (jZ D_Book_rows (hr.mono (by decide)) (aI 5) (aO (aI 10) aX)))
  rfl
  first | exact bE rfl | exact bD rfl | assumption
  refine bU ?_ ?_
  refine vD 14 .s ?_
  refine Ld ?_ ?_
  refine CB ?_
  refine aO ?_ ?_ ?_
  exact(aI 4)
  exact aX
  rfl
  exact(aI 7)
  refine bU ?_ ?_
  exact(YM 14 .s aZ)
  refine pR 14 ?_
  refine cC ?_
  refine fS .a ?_ ?_ gA
  refine kP ?_
  refine lN ?_ ?_
  refine hE ?_
  refine iE ?_
  refine cW D__law_rows_hold (hr.mono (by decide)) rfl ?_
  refine aO ?_ ?_ ?_
  refine jK (n:=1) ?_
  exact(lM (jZ D_Book_rows (hr.mono (by decide)) (aI 5) (aO (aI 10) aX)))
  refine aO ?_ ?_ ?_
  refine dX hv ?_ ?_ (fun _ _=>rfl)
  exact(aI 6)
  exact(aI 10)
  exact aX
  rfl
  rfl
  refine mR ?_
  refine hE ?_
  refine iE ?_
  refine cW D__law_size_holds (hr.mono (by decide)) rfl ?_
  refine aO ?_ ?_ ?_
  exact(aI 5)
  refine aO ?_ ?_ ?_
  exact(aI 6)
  exact aX
  rfl
  rfl
  refine cC ?_
  exact(dD .s iM)
  intro _; rfl
  refine pR 8 ?_
  refine pR 6 ?_
  refine bU ?_ ?_
  refine uG ?_ ?_ ?_ ?_ ?_ ?_
  exact qN
  rfl
  refine LG ?_
  exact(aI 6)
  exact(rU (i:=10) nd rfl (by first | exact bE rfl | exact bD rfl))
  refine cC ?_
  refine fS .a ?_ ?_ gA
  refine hE ?_
  refine iE ?_
  refine cW D__law_rows_hold (hr.mono (by decide)) rfl ?_
  refine aO ?_ ?_ ?_
  refine jK (n:=1) ?_
  exact(lM (jZ D_Book_rows (hr.mono (by decide)) (aI 5) (aO (aI 10) aX)))
  refine aO ?_ ?_ ?_
  refine dX hv ?_ ?_ (fun _ _=>rfl)
  exact(aI 6)
  exact(aI 10)
  exact aX
  rfl
  rfl
  refine cC ?_
  exact(dD .s iM)
  intro _; rfl
  refine bU ?_ ?_
  refine uG ?_ ?_ ?_ ?_ ?_ ?_
  exact qN
  rfl
  refine nV ?_
  exact(aI 8)
  exact(DR (i:=13) (j:=15) rfl nd rfl rfl (by first | exact bE rfl | exact bD rfl) (by first | exact bE rfl | exact bD rfl))
  refine cC ?_
  refine fS .s ?_ ?_ gA
  refine fK (CO hu) CF ?_ ?_ (fJ _)
  exact(aI 13)
  exact(aI 15)
  refine cC ?_
  exact(dD .s iM)
  intro _; rfl
  refine cC ?_
  refine dD .a ?_
  refine cW D__law_size_holds (hr.mono (by decide)) rfl ?_
  refine aO ?_ ?_ ?_
  exact(aI 5)
  refine aO ?_ ?_ ?_
  exact(aI 6)
  exact aX
  rfl
  rfl
end Aw
namespace L2
open PySem PySem.Spec PyProof.Rows
theorem ZO {F:SF}{T:aA->bC->Option bC}(P:Nat->bC->Prop){ds:List aA}{ρ:bC}(h0:P 0 ρ)
  (step : ∀ i d ρ,ds[i]?=some d->P i ρ -> ∃ ρ1 ρ2,T d ρ=some ρ1/\(F ρ1=some (.nx ρ2) \/ F ρ1=some (.ct ρ2))/\P (i+1) ρ2) : ∃ ρ',lJ F T ds ρ=some (.nx ρ')/\P ds.length ρ':=by
 have go : ∀ (rest:List aA) (i:Nat) (ρ:bC),ds.drop i=rest->i+rest.length=ds.length->P i ρ -> ∃ ρ',lJ F T rest ρ=some (.nx ρ')/\P ds.length ρ':=by
  intro rest
  induction rest with
  | nil=>
   intro i ρ _ hl p
   simp at hl
   subst hl
   exact⟨ρ,rfl,p⟩
  | cons d r ih=>
   intro i ρ hd hl p
   have hi:ds[i]?=some d:=by
    have:=congrArg (·[0]?) hd
    simpa using this
   obtain⟨ρ1,ρ2,e1,e2,p2⟩:=step i d ρ hi p
   have hd2:ds.drop (i+1)=r:=by
    have:=congrArg List.tail hd
    simpa using this
   obtain⟨ρ',e3,p3⟩:=ih (i+1) ρ2 hd2 (by simp at hl; omega) p2
   refine⟨ρ',?_,p3⟩
   show((T d ρ).bind fun ρ1=>(F ρ1).bind fun o=>match o with
    | .nx ρ'=>lJ F T r ρ'
    | .ct ρ'=>lJ F T r ρ'
    | .bk ρ'=>some (.nx ρ')
    | .rt d=>some (.rt d))=some (.nx ρ')
   rw[e1]
   rcases e2 with e2 | e2
   ·simp only[bM,e2]; exact e3
   ·simp only[bM,e2]; exact e3
 exact go ds 0 ρ (by simp) (by simp) h0
theorem KQ {T:aA->List (Option aA)->Option (List (Option aA))}{t:BF}{f:EF}{ρ:List (Option aA)}(R:aA->aA->Prop) : ∀ (ds:List aA),(∀ d∈ds,∃ ρ1 y,T d ρ=some ρ1/\t ρ1=some true/\f ρ1=some y/\R d y) ->
  ∃ ys,lcD T t f ρ ds=some ys/\dI R ds ys
 | [],_=>⟨[],rfl,.nil⟩
 | d::r,h=>by
  obtain⟨ρ1,y,e1,e2,e3,hr⟩:=h d bX
  obtain⟨ys,e4,hp⟩:=KQ R r fun d' m=>h d' (cD _ m)
  refine⟨y::ys,?_,.cons hr hp⟩
  show((T d ρ).bind fun ρ1=>(t ρ1).bind fun c=>if c=true then(f ρ1).bind fun y=>(lcD T t f ρ r).bind fun ys=>some (y::ys) else lcD T t f ρ r)=some (y::ys)
  simp[e1,e2,e3,e4]
theorem JY {T:aA->List (Option aA)->Option (List (Option aA))}{t:BF}{f:EF}{ρ:List (Option aA)}(g:aA->aA) : ∀ (ds:List aA),(∀ d∈ds,∃ ρ1,T d ρ=some ρ1/\t ρ1=some true/\f ρ1=some (g d))->lcD T t f ρ ds=some (ds.map g)
 | [],_=>rfl
 | d::r,h=>by
  obtain⟨ρ1,e1,e2,e3⟩:=h d bX
  have e4:=JY g r fun d' m=>h d' (cD _ m)
  show((T d ρ).bind fun ρ1=>(t ρ1).bind fun c=>if c=true then(f ρ1).bind fun y=>(lcD T t f ρ r).bind fun ys=>some (y::ys) else lcD T t f ρ r)=some (g d::r.map g)
  simp[e1,e2,e3,e4]
theorem Paired.mem_right {α β:Type}{R:α->β->Prop} : ∀ {as:List α} {bs:List β},dI R as bs -> ∀ b∈bs,∃ a∈as,R a b:=by
 intro as bs h
 induction h with
 | nil=>exact fun b m=>by simp at m
 | cons h _ ih=>
  intro b m
  rcases cP.mp m with rfl | m
  ·exact⟨_,bX,h⟩
  ·obtain⟨a,ha,hr⟩:=ih b m
   exact⟨a,cD _ ha,hr⟩
theorem Hy {F G:SF}{ρ ρ':bC}(h:F ρ=some (.nx ρ')):bH F G ρ=G ρ':=by
 unfold bH
 rw[h]
 rfl
theorem XW {F G:SF}{ρ:bC}{d:aA}(h:F ρ=some (.rt d)):bH F G ρ=some (.rt d):=by
 unfold bH
 rw[h]
 rfl
theorem Mh {m:Md}{fi:AF}{T:aA->bC->Option bC}{F:SF}{ρ:bC}{ds:List aA}{o:Out}(h:aV m fi ρ=some ds)(h2:lJ F T ds ρ=some o):iK m fi T F ρ=some o:=by
 unfold iK
 rw[h]
 exact h2
theorem JO {np n:Nat}{body:SF}{ds:List aA}{d:aA}(hl:ds.length=np)(h:body (ds.map (fun d=>some (0,d))++eA (n - np) none)=some (.rt d)):fnD np n body ds=some d:=by
 unfold fnD
 rw[if_pos hl,h]
 rfl
theorem Di {α β:Type}{R:α->β->Prop}{as:List α}{bs:List β}(h:dI R as bs):bs.length=as.length:=(nK h).symm
theorem SR {β:Type}{g:β->aA}{R:β->Prop} : ∀ (ys:List aA),(∀ y∈ys,∃ c,y=g c/\R c) -> ∃ cs:List β,ys=cs.map g /\ ∀ c∈cs,R c
 | [],_=>⟨[],rfl,fun _ m=>by simp at m⟩
 | y::r,h=>by
  obtain⟨c,e,hc⟩:=h y bX
  obtain⟨cs,e2,h2⟩:=SR r fun z m=>h z (cD _ m)
  refine⟨c::cs,by rw[e,e2]; rfl,fun x m=>?_⟩
  rcases cP.mp m with rfl | m
  ·exact hc
  ·exact h2 x m
theorem XX {ds:List aA}{k:Nat}(h:k≤ds.length):cutD ds none (some (k:Int))=ds.take k:=by
 unfold cutD
 rw[HT.A1s,HT.A5g]
 simp[Nat.min_eq_left h]
theorem kU {n:Nat}(h:n≤100000):n≤sizeLine:=jC h (by decide)
theorem yO {n:Nat}(h:n≤100000):n<sizeLine:=UM h (by decide)
noncomputable def letter (c:Nat):Bool:=decide (97≤c)&&decide (c≤122)
noncomputable def figure (c:Nat):Bool:=decide (48≤c)&&decide (c≤57)
noncomputable def iD (c:Nat):Bool:=letter c||figure c
theorem Bo {c:Nat}(h:letter c=true):iD c=true:=by simp[iD,h]
theorem FL {c:Nat}(h:iD c=true):c<128:=by
 simp[iD,letter,figure] at h
 omega
def XM (cs:List Nat):Prop:=∃ c r,cs=c::r/\letter c=true/\(∀ x∈cs,iD x=true)/\cs.length≤12
noncomputable abbrev iL (cs:List Nat):aD:=⟨cs.toArray⟩
def nameS (z:aD):Prop:=XM z.cps.toList
theorem YL {z:aD}(h : ∀ c∈z.cps.toList,iD c=true):cO (.str z)=true:=by
 have:z.cps.all (fun x=>decide (x<1114112))=true:=by
  rw[Array.all_eq_true']
  intro x hx
  have:=FL (h x (by simpa using hx))
  simp; omega
 simpa [cO,HX] using this
noncomputable def cV (c:Nat):aA:=.str ⟨#[c]⟩
noncomputable def SIGNS:aD:="abcdefghijklmnopqrstuvwxyz0123456789"
theorem signs_at : ∀ j<36,∃ c,SIGNS.cps.toList[j]?=some c/\iD c=true/\(j<26->letter c=true):=by decide +kernel
theorem MU {i:Int}(h0:0≤i)(h1:i<36) : ∃ c,gIx (.str SIGNS) (.int i)=some (cV c)/\iD c=true/\(i<26->letter c=true):=by
 obtain⟨j,rfl⟩:=qT h0
 obtain⟨c,e,h2,h3⟩:=signs_at j (by omega)
 refine⟨c,?_,h2,fun h=>h3 (by omega)⟩
 show(if SIGNS.length≤sizeLine then(atI SIGNS.cps.toList (j:Int)).bind fun c=>some (cT ⟨#[c]⟩) else none)=_
 rw[if_pos (by decide +kernel),pS e]
 rfl
theorem QF : ∀ cs:List Nat,oV (cs.map cV)=some (cs.map fun c=>(⟨#[c]⟩:aD))
 | []=>rfl
 | c::r=>by
  show((oV (r.map cV)).bind fun xs=>some ((⟨#[c]⟩:aD)::xs))=_
  rw[QF r]
  rfl
theorem NJ : ∀ cs:List Nat,((cs.map fun c=>(⟨#[c]⟩:aD)).map (·.length)).sum=cs.length
 | []=>rfl
 | c::r=>by
  rw[cY,cY,List.sum_cons,NJ r,eE]
  show 1+r.length=r.length+1
  omega
theorem LC {cs:List Nat}(h:cs.length≤1000):rA (.str "") (.list (cs.map cV))=some (.str (iL cs)):=by
 show((oV (cs.map cV)).bind fun ys=>if (ys.map (·.length)).sum+ys.length*(HM "").length≤16777216 then some (cT (jQ (HM "") ys)) else none)=_
 rw[QF]
 simp only[bM,NJ,cL]
 rw[if_pos (by
  have:(HM "").length=0:=by decide +kernel
  rw[this]; omega)]
 have:=PP cs
 have e:(HM "")=(⟨#[]⟩:aD):=by decide +kernel
 rw[e,this]
noncomputable def cJ (c k:Int):Int:=(c%2147483647*48271+k*k*69621+k+11)%2147483629*((c%2147483647*48271+k*k*69621+k+11)%2147483629)%2147483587
theorem gK (a:Int){b:Int}(h:0<b):0≤a%b/\a%b<b:=⟨Int.emod_nonneg _ (by omega),Int.emod_lt_of_pos _ h⟩
def Goes (F:SF)(ρ:bC)(P:Out->Prop):Prop:=∃ o,F ρ=some o/\P o
variable {F G:SF}{ρ:bC}{P:Out->Prop}{m:Md}
theorem zT {ρ':bC}(h:F ρ=some (.nx ρ'))(k:P (.nx ρ')):Goes F ρ P:=⟨_,h,k⟩
theorem fO {ρ':bC}(h:F ρ=some (.nx ρ'))(k:Goes G ρ' P):Goes (bH F G) ρ P:=by
 obtain⟨o,e,p⟩:=k
 exact⟨o,by rw[Hy h]; exact e,p⟩
theorem iV (I:bC->Prop)(h:Goes F ρ fun o=>∃ ρ',o = .nx ρ'/\I ρ')(k : ∀ ρ',I ρ'->Goes G ρ' P):Goes (bH F G) ρ P:=by
 obtain⟨o,e,ρ',rfl,i⟩:=h
 exact fO e (k ρ' i)
theorem Ju {d:aA}(h:F ρ=some (.rt d))(k:P (.rt d)):Goes (bH F G) ρ P:=⟨_,XW h,k⟩
theorem RP {t:BF}{b:Bool}(h:bV m t ρ=some b)(k:Goes (if b=true then F else G) ρ P):Goes (sIf m t F G) ρ P:=by
 obtain⟨o,e,p⟩:=k
 refine⟨o,?_,p⟩
 show((bV m t ρ).bind fun b=>if b=true then F ρ else G ρ)=some o
 rw[h]
 cases b
 ·exact e
 ·exact e
theorem rO {t:BF}(h:bV m t ρ=some true)(k:Goes F ρ P):Goes (sIf m t F G) ρ P:=RP h k
theorem Hq {t:BF}(h:bV m t ρ=some false)(k:Goes G ρ P):Goes (sIf m t F G) ρ P:=RP h k
theorem iT {t:BF}(h:bV m t ρ=some false):sIf m t F eQ ρ=some (.nx ρ):=by
 unfold sIf
 rw[h]
 rfl
theorem yF (h:Goes F ρ fun o=>∃ d,o = .rt d/\P o):Goes (bH F G) ρ P:=by
 obtain⟨o,e,d,rfl,p⟩:=h
 exact Ju e p
theorem JW {n:Nat}{f:EF}{d:aA}(h:f (vA ρ)=some d)(hf:fT n d=true)(k:P (.rt d)):Goes (cK n .a f) ρ P:=⟨_,by
 unfold cK eV
 simp only[h,bM,hf,BE,if_true],k⟩
theorem iF {n:Nat}{f:EF}{d:aA}(h:f (vS ρ)=some d)(k:P (.rt d)):Goes (cK n .s f) ρ P:=⟨_,by
 unfold cK eV
 simp only[h,bM],k⟩
theorem SC {i n:Nat}{f:EF}{d:aA}(h:eV n m f ρ=some d)(hl:i<ρ.length)(k:P (.nx (ρ.set i (some (n,d))))):Goes (cM i n m f) ρ P:=
 ⟨_,by unfold cM; rw[h]; simp only[bM,if_pos hl],k⟩
theorem JZ {i n:Nat}{f:EF}{d:aA}(h:f (vS ρ)=some d)(hl:i<ρ.length)(k:P (.nx (ρ.set i (some (n,d))))):Goes (cM i n .s f) ρ P:=SC h hl k
theorem uL {i:Nat}(h:Goes F (frz i ρ) P):Goes (nE i F) ρ P:=h
theorem Hg {n:Nat}(h:n≤1000000):BV 0 (n:Int)=some ((dN n).map fun(k:Nat)=>aS k):=by
 unfold BV
 rw[if_pos (by omega)]
 simp
theorem uF {fa:AF}{ρ:List (Option aA)}{n:Nat}(h:fa ρ=some [.int n])(hn:n≤1000000):iR1 fa ρ=some ((dN n).map fun(k:Nat)=>aS k):=by
 have e:=Hg hn
 generalize some ((dN n).map fun(k:Nat)=>aS k)=y at e ⊢
 rw[← e]
 unfold iR1
 rw[h,bM]
theorem avS {fi:AF}{ds:List aA}(h:fi (vS ρ)=some ds):aV .s fi ρ=some ds:=h
theorem rS {fi:AF}{T:aA->bC->Option bC}{ds:List aA}(I:Nat->bC->Prop)(h:aV m fi ρ=some ds)(h0:I 0 ρ)
  (step : ∀ i d ρ,ds[i]?=some d->I i ρ -> ∃ ρ1,T d ρ=some ρ1/\Goes F ρ1 fun o=>∃ ρ2,(o = .nx ρ2 \/ o = .ct ρ2)/\I (i+1) ρ2) (k : ∀ ρ',I ds.length ρ'->P (.nx ρ')):Goes (iK m fi T F) ρ P:=by
 obtain⟨ρ',e,i⟩:=ZO I h0 fun i d ρ hd p=>by
  obtain⟨ρ1,e1,o,e2,ρ2,e3,p2⟩:=step i d ρ hd p
  refine⟨ρ1,ρ2,e1,?_,p2⟩
  rcases e3 with rfl | rfl
  ·exact .inl e2
  ·exact .inr e2
 exact⟨_,Mh h e,k ρ' i⟩
theorem DY {fi:AF}{T:aA->bC->Option bC}{n:Nat}(I:Nat->bC->Prop)(h:aV m fi ρ=some ((dN n).map fun(k:Nat)=>aS k))(h0:I 0 ρ)
  (step : ∀ (i:Nat) ρ,i<n->I i ρ -> ∃ ρ1,T (.int i) ρ=some ρ1/\Goes F ρ1 fun o=>∃ ρ2,(o = .nx ρ2 \/ o = .ct ρ2)/\I (i+1) ρ2) (k : ∀ ρ',I n ρ'->P (.nx ρ')):Goes (iK m fi T F) ρ P:=by
 refine rS I h h0 (fun i d ρ hd p=>?_) (by simpa using k)
 have hlt:i<n:=by
  have:=(dU.mp hd).1
  simpa using this
 rw[eY,List.getElem?_range hlt] at hd
 have:aS (i:Int)=d:=by simpa using hd
 subst this
 exact step i ρ hlt p
theorem JG {np n:Nat}{body:SF}{ds:List aA}{Q:aA->Prop}(hl:ds.length=np)(h:Goes body (ds.map (fun d=>some (0,d))++eA (n - np) none) fun o=>∃ d,o = .rt d/\Q d) : ∃ d,fnD np n body ds=some d/\Q d:=by
 obtain⟨o,e,d,rfl,q⟩:=h
 exact⟨d,JO hl e,q⟩
theorem XS {cap:List (Option Nat)}{fi:AF}{T:aA->List (Option aA)->Option (List (Option aA))}{t:BF}{f:EF}{ρ:List (Option aA)}{ds:List aA}(R:aA->aA->Prop)(h1:fi ρ=some ds)(h2:ds.length≤100000)
  (h : ∀ d∈ds,∃ ρ1 y,T d (jF cap ρ)=some ρ1/\t ρ1=some true/\f ρ1=some y/\R d y) : ∃ ys,eLC cap fi T t f ρ=some (.list ys)/\dI R ds ys:=by
 obtain⟨ys,e,hp⟩:=KQ R ds h
 refine⟨ys,?_,hp⟩
 unfold eLC
 rw[h1,bM,e,bM,if_pos (kU h2)]
theorem CN {cap:List (Option Nat)}{fi:AF}{T:aA->List (Option aA)->Option (List (Option aA))}{t:BF}{f:EF}{ρ:List (Option aA)}{ds:List aA}(g:aA->aA)(h1:fi ρ=some ds)(h2:ds.length≤100000)
  (h : ∀ d∈ds,∃ ρ1,T d (jF cap ρ)=some ρ1/\t ρ1=some true/\f ρ1=some (g d)):eLC cap fi T t f ρ=some (.list (ds.map g)):=by
 unfold eLC
 rw[h1,bM,JY g ds h,bM,if_pos (kU h2)]
theorem Lc {cap:List (Option Nat)}{fi:AF}{T:aA->List (Option aA)->Option (List (Option aA))}{t:BF}{f:EF}{ρ:List (Option aA)}{n:Nat}{β:Type}(g:β->aA)(R:β->Prop)(h1:fi ρ=some ((dN n).map fun(k:Nat)=>aS k))(h2:n≤100000)
  (h : ∀ k<n,∃ ρ1 y,T (.int (k:Nat)) (jF cap ρ)=some ρ1/\t ρ1=some true/\f ρ1=some (g y)/\R y) : ∃ ys:List β,eLC cap fi T t f ρ=some (.list (ys.map g))/\ys.length=n /\ ∀ y∈ys,R y:=by
 obtain⟨ys,e,hp⟩:=XS (fun _ y=>∃ x,y=g x/\R x) h1 (by simpa using h2) fun d m=>by
  obtain⟨k,hk,rfl⟩:=cH.mp m
  obtain⟨ρ1,y,a1,a2,a3,a4⟩:=h k (by simpa using hk)
  exact⟨ρ1,g y,a1,a2,a3,y,rfl,a4⟩
 obtain⟨xs,rfl,hx⟩:=SR ys fun y m=>by
  obtain⟨_,_,x,e,hx⟩:=L2.Paired.mem_right hp y m
  exact⟨x,e,hx⟩
 have:=Di hp
 exact⟨xs,e,by simpa using this,hx⟩
end L2
namespace L2
open PySem PySem.Spec PyProof.Rows
variable {F G:SF}{ρ:bC}{P:Out->Prop}{m:Md}
theorem rX {f:EF}{ρ:List (Option aA)}{ds:List aA}(h:f ρ=some (.list ds)):iIt f ρ=some ds:=by
 unfold iIt
 rw[h]
 rfl
theorem Mi {f:EF}{ρ:List (Option aA)}{ds:List aA}(h:f ρ=some (.tuple ds)):iIt f ρ=some ds:=by
 unfold iIt
 rw[h]
 rfl
theorem bT {fa:AF}{g:List aA->Option aA}{ρ:List (Option aA)}{ds:List aA}{d:aA}(h:fa ρ=some ds)(h2:g ds=some d):aN g fa ρ=some d:=by
 unfold aN
 rw[h]
 exact h2
theorem bY {fa fb:EF}{g:aA->aA->Option aA}{ρ:List (Option aA)}{a b d:aA}(h:fa ρ=some a)(h2:fb ρ=some b)(h3:g a b=some d):eOp g fa fb ρ=some d:=by
 unfold eOp
 rw[h,h2]
 exact h3
theorem Ks {i:Nat}{f:EF}{d:aA}{ds:List aA}(h:f (vA ρ)=some d)(hf:eJ d=true)(hg:getL i ρ=some ds)(hl:ds.length<100000)(k:P (.nx (ρ.set i (some (1,.list (ds++[d])))))):Goes (kQ i .a f) ρ P:=⟨_,by
 unfold kQ eV
 simp only[h,bM,fT,hf,BE,if_true,hg,if_pos (yO (wU hl))],k⟩
theorem DC {i:Nat}{f:EF}{d:aA}{ds:List aA}(h:f (vS ρ)=some d)(hg:getL i ρ=some ds)(hl:ds.length<100000)(k:P (.nx (ρ.set i (some (1,.list (ds++[d])))))):Goes (kQ i .s f) ρ P:=⟨_,by
 unfold kQ eV
 simp only[h,bM,hg,if_pos (yO (wU hl))],k⟩
def XR (d:aA):Prop:=(∃ z,d = .str z/\nameS z) \/ ∃ i,d = .int i
theorem EV : ∀ {ts:List aA},(∀ t∈ts,bF t=true)->bP ts=true
 | [],_=>by simp[bP]
 | t::r,h=>by
  simp only[bP,xH]
  exact⟨h t bX,EV fun x m=>h x (cD _ m)⟩
theorem zB {n:Nat} : ∀ {ts:List aA},(∀ t∈ts,t.depth≤n)->dB ts≤n
 | [],_=>by simp[dB]
 | t::r,h=>by
  simp only[dB]
  exact Nat.max_le.mpr ⟨h t bX,zB fun x m=>h x (cD _ m)⟩
theorem GA : ∀ {ts:List aA},(∀ t∈ts,noDict t=true)->noDicts ts=true
 | [],_=>by simp[noDicts]
 | t::r,h=>by
  simp only[noDicts,xH]
  exact⟨h t bX,GA fun x m=>h x (cD _ m)⟩
structure Kn (kds:List (aA×aA)):Prop where
 fit : ∀ kd∈kds,(∃ z,kd.1 = .str z)/\XR kd.2
 once:(kds.map (·.1)).Nodup
theorem Kn.nil:Kn []:=⟨fun _ m=>by simp at m,by simp⟩
theorem Kn.int {kds:List (aA×aA)}(h:Kn kds)(i:Int):bZ kds (.inl i)=none:=by
 have:(kds.find? fun kd=>decide (cI kd.1=some (.inl i)))=none:=by
  rw[List.find?_eq_none]
  intro kd m
  obtain⟨⟨z,e⟩,_⟩:=h.fit kd m
  simp[e,cI]
 unfold bZ
 rw[this]
 rfl
theorem TB {kds:List (aA×aA)}(h : ∀ kd∈kds,kd.1 ≠ .none):plK kds=true:=by
 cases kds with
 | nil=>rfl
 | cons p r=>
  obtain⟨k,d⟩:=p
  have:=h (k,d) bX
  cases k <;> first | rfl | exact absurd rfl this
theorem Kn.pl {kds:List (aA×aA)}(h:Kn kds):plK kds=true:=TB fun kd m=>by
 obtain⟨⟨z,e⟩,_⟩:=h.fit kd m
 rw[e]
 exact fun q=>nomatch q
theorem LS : ∀ {kss:List (List aA)},(∀ k∈kss,bP k=true/\dB k≤6)->jU (kss.map gP)=some kss
 | [],_=>rfl
 | k::r,h=>by
  show(if bP k=true/\dB k≤6 then(jU (r.map gP)).bind fun kss=>some (k::kss) else none)=_
  rw[if_pos (h k bX),LS fun x m=>h x (cD _ m)]
  rfl
end L2
namespace L2
open PySem PySem.Spec PyProof.Rows
variable {F G:SF}{ρ:bC}{P:Out->Prop}{m:Md}
theorem NB {T:aA->List (Option aA)->Option (List (Option aA))}{t:BF}{f:EF}{ρ:List (Option aA)}{α:Type}{q:α->aA}(p:α->Bool)(g:α->aA) : ∀ (xs:List α),
  (∀ x∈xs,∃ ρ1,T (q x) ρ=some ρ1/\t ρ1=some (p x)/\(p x=true->f ρ1=some (g x)))->lcD T t f ρ (xs.map q)=some ((xs.filter p).map g)
 | [],_=>rfl
 | x::xs,h=>by
  obtain⟨ρ1,e1,e2,e3⟩:=h x bX
  have ih:=NB p g xs fun y m=>h y (cD _ m)
  show((T (q x) ρ).bind fun ρ1=>(t ρ1).bind fun c=>if c=true then(f ρ1).bind fun y=>(lcD T t f ρ (xs.map q)).bind fun ys=>some (y::ys) else lcD T t f ρ (xs.map q))=_
  rw[e1,bM,e2,bM,ih]
  cases hp:p x with
  | true=>rw[if_pos rfl,e3 hp,List.filter_cons_of_pos hp]; rfl
  | false=>rw[if_neg (by simp),List.filter_cons_of_neg (by simp[hp])]
theorem yB {cap:List (Option Nat)}{fi:AF}{T:aA->List (Option aA)->Option (List (Option aA))}{t:BF}{f:EF}{ρ:List (Option aA)}{α:Type}{xs:List α}{q:α->aA}(p:α->Bool)(g:α->aA)(h1:fi ρ=some (xs.map q))(h2:xs.length≤100000)
  (h : ∀ x∈xs,∃ ρ1,T (q x) (jF cap ρ)=some ρ1/\t ρ1=some (p x)/\(p x=true->f ρ1=some (g x))):eLC cap fi T t f ρ=some (.list ((xs.filter p).map g)):=by
 unfold eLC
 rw[h1,bM,NB p g xs h,bM,if_pos (kU (by simpa using h2))]
theorem SY {i n:Nat}{f:EF}{d:aA}(h:eV n m f ρ=some d)(hl:i<ρ.length):cM i n m f ρ=some (.nx (ρ.set i (some (n,d)))):=by
 obtain⟨o,e,q⟩:=SC (P:=fun o=>o = .nx (ρ.set i (some (n,d)))) h hl rfl
 rw[e,q]
theorem lQ {i n:Nat}{f:EF}{d:aA}(h:f (vS ρ)=some d)(hl:i<ρ.length)(k:Goes G (ρ.set i (some (n,d))) P):Goes (bH (cM i n .s f) G) ρ P:=fO (SY h hl) k
theorem KW {i n:Nat}{f:EF}{d:aA}(h:f (vA ρ)=some d)(hf:fT n d=true)(hl:i<ρ.length)(k:Goes G (ρ.set i (some (n,d))) P):Goes (bH (cM i n .a f) G) ρ P:=
 fO (SY (by show((f (vA ρ)).bind fun d=>if (fT n d||(xN ρ&&decide (n<9)&&hW n d)||(xT ρ&&decide (n=0)&&ftD d))=true then some d else none)=_; rw[h,bM,hf,BE,BE,if_pos rfl]) hl) k
theorem dY {f:EF}{g:AF}{ρ:List (Option aA)}{d:aA}{ds:List aA}(h:f ρ=some d)(h2:g ρ=some ds):aJ f g ρ=some (d::ds):=by
 unfold aJ
 rw[h,h2]
 rfl
end L2
namespace L2
open PySem PySem.Spec PyProof.Rows
structure KnR (R:aA->Prop)(kds:List (aA×aA)):Prop where
 fit : ∀ kd∈kds,(∃ z,kd.1 = .str z)/\R kd.2
 once:(kds.map (·.1)).Nodup
variable {R:aA->Prop}{kds:List (aA×aA)}
theorem KnR.nil:KnR R []:=⟨fun _ m=>by simp at m,by simp⟩
theorem KnR.pl (h:KnR R kds):plK kds=true:=TB fun kd m=>by
 obtain⟨⟨z,e⟩,_⟩:=h.fit kd m
 rw[e]
 exact fun q=>nomatch q
noncomputable def aU (r:List Int):aA:=.tuple (r.map aS)
noncomputable def bW (rs:List (List Int)):aA:=.list (rs.map aU)
theorem MN (r:List Int):bF (aU r)=true:=by
 refine EV fun t m=>?_
 obtain⟨i,_,rfl⟩:=cH.mp m
 rfl
theorem Ig {ds:List aA}{f:EF}{lo hi:OF}{ρ:List (Option aA)}{l u:Option Int}(e1:f ρ=some (.list ds))(e2:lo ρ=some l)(e3:hi ρ=some u):oX f lo hi ρ=some (.list (cutD ds l u)):=by
 unfold oX
 rw[e1,bM,e2,bM,e3,bM]
theorem Mg {fd fk fx:EF}{ρ:List (Option aA)}{kds:List (aA×aA)}{kd x:aA}{key:aL}(h1:fd ρ=some (.dict kds))(h2:fk ρ=some kd)(ha:cI kd=some key)(h3:fx ρ=some x)(hp:plK kds=true:=by first | assumption | rfl | simp):GU fd fk fx ρ=some ((bZ kds key).getD x):=by
 unfold GU
 rw[h1,bM,h2,bM,h3,bM]
 show(if plK kds=true then(cI kd).bind fun k=>some ((bZ kds k).getD x) else none)=_
 rw[if_pos hp,ha]
 rfl
end L2
namespace L2
open PySem
theorem Cb {ks:List aL} : ∀ {acc:List aL} {k:aL},k∈ks.foldl fX acc↔k∈acc \/ k∈ks:=by
 induction ks with
 | nil=>intro acc k; simp
 | cons x r ih=>
  intro acc k
  rw[xB,ih]
  unfold fX
  by_cases hx:x∈acc
  ·rw[if_pos hx]
   constructor
   ·rintro(h | h)
    ·exact .inl h
    ·exact .inr (cD _ h)
   ·rintro(h | h)
    ·exact .inl h
    ·rcases cP.mp h with rfl | h
     ·exact .inl hx
     ·exact .inr h
  ·rw[if_neg hx,nM,dH,cP,or_assoc]
theorem Nq {ks:List aL} : ∀ {acc:List aL},acc.Nodup->(ks.foldl fX acc).Nodup:=by
 induction ks with
 | nil=>intro acc h; exact h
 | cons x r ih=>
  intro acc h
  rw[xB]
  refine ih ?_
  unfold fX
  by_cases hx:x∈acc
  ·rw[if_pos hx]; exact h
  ·rw[if_neg hx]
   refine wV.mpr ⟨h,by simp,fun a ha b hb=>?_⟩
   rw[dH.mp hb]
   exact fun e=>hx (e ▸ ha)
end L2
namespace Aw
open PySem L2
noncomputable abbrev s0 (d:aA):L2.Slot:=some (0,d)
def zU (n:Nat)(z:aD):Prop:=cO (.str z)=true/\z.length≤n
theorem ZQ {n m:Nat}{y z:aD}(h:zU n y)(h2:zU m z)(hs:n+m≤100000):dC (.str y) (.str z)=some (.str (y++z)):=by
 show(if y.length+z.length≤sizeLine then some (cT (y++z)) else none)=_
 rw[if_pos (kU (by have:=h.2; have:=h2.2; omega))]
theorem Lj:zU 26 "abcdefghijklmnopqrstuvwxyz":=⟨by decide +kernel,by decide +kernel⟩
theorem Lh (a b:Int):gEq (.int a) (.int b)=some (.bool (decide (a=b))):=by
 congr 2
theorem Ly {α:Type}(q:α->aA)(xs:List α)(l u:Option Int) : ∃ ys,cutD (xs.map q) l u=ys.map q/\ys.length≤xs.length/\(ys≠[]->xs≠[]):=by
 refine⟨(xs.drop (HT.sIx (xs.map q).length 0 l)).take (HT.sIx (xs.map q).length (xs.map q).length u - HT.sIx (xs.map q).length 0 l),?_,?_,?_⟩
 ·unfold cutD
  rw[← List.map_drop,← UR]
 ·simp; omega
 ·rintro h rfl
  simp at h
theorem LQ (ds:List aA):cU [.tuple ds]=some (.int ds.length):=by simp[cU]
theorem mQ {f:EF}{ρ:List (Option aA)}{b:Bool}(h:f ρ=some (.bool b)):bOf f ρ=some b:=by
 unfold bOf
 rw[h]
 rfl
theorem Bv {α:Type}[DecidableEq α]{xs ys:List α}(h1:xs.Nodup)(h2:ys.Nodup)(h : ∀ a,a∈xs↔a∈ys):xs.length=ys.length:=
 Nat.le_antisymm (UX h1 fun a m=>(h a).mp m) (UX h2 fun a m=>(h a).mpr m)
theorem oF {a b:EF}{ρ:List (Option aA)}{x y:Bool}(h:a ρ=some (.bool x))(h2:x=true->b ρ=some (.bool y)):gJ a b ρ=some (.bool (x&&y)):=by
 unfold gJ
 cases x with
 | true=>rw[h,bM,show asB (.bool true)=some true from rfl,bM,if_pos rfl,h2 rfl]; rfl
 | false=>rw[h,bM,show asB (.bool false)=some false from rfl,bM,if_neg (by simp)]; rfl
theorem CK {fa:AF}{ρ:List (Option aA)}{ds:List aA}(h:fa ρ=some ds)(hl:ds.length≤1000:=by simp):sR fa ρ=some (.tuple ds):=by
 unfold sR
 rw[h,bM,if_pos (kU (by omega))]
theorem YY {fa:AF}{ρ:List (Option aA)}{ds:List aA}(h:fa ρ=some ds)(hl:ds.length≤1000:=by simp):lK fa ρ=some (.list ds):=by
 unfold lK
 rw[h,bM,if_pos (kU (by omega))]
theorem gZ (c k:Int)(h0:0≤k)(h1:k≤1000000):fL [.int c,.int k]=some (.int (cJ c k)):=by
 have b:=gK (c%2147483647*48271+k*k*69621+k+11) (show(0:Int)<2147483629 by decide)
 have hk:k.natAbs<18446744073709551616:=by omega
 have hn:((c%2147483647*48271+k*k*69621+k+11)%2147483629).natAbs<18446744073709551616:=by omega
 simp[fL,QN,fnD,bH,cM,cK,eV,vS,eOp,aF,eC,outD,dC,eT,cQ,g2C,hk,hn,cJ]
theorem yG {ns:List Int}{k:Int}(h0:0≤k)(h1:k≤1000000) : ∃ c,kB [.list (ns.map aS),.int k]=some (.int c):=by
 have hk:k.natAbs<18446744073709551616:=by omega
 have at_ : ∀ i:Int,0≤i->i<ns.length -> ∃ c,gIx (.list (ns.map aS)) (.int i)=some (.int c):=fun i a b=>by
  obtain⟨j,rfl⟩:=qT a
  have hj:j<ns.length:=by omega
  exact⟨ns[j],pS (by rw[eY,iP hj]; rfl)⟩
 by_cases hl:k<(ns.length:Int)
 ·obtain⟨c,e⟩:=at_ k h0 hl
  exact⟨c,by simp[kB,zM,fnD,bH,cM,cK,sIf,eQ,eV,bV,vS,eOp,aF,eC,aN,aJ,aM,bOf,asB,outD,dC,eT,cQ,g2I,g2C,gLt,gGt,cU,hl,e]⟩
 ·by_cases hz:(0:Int)<ns.length
  ·obtain⟨c,e⟩:=at_ (k*7%(ns.length:Int)) (gK _ hz).1 (gK _ hz).2
   have b:=gK (c*48271+k*7919) (show(0:Int)<2147483647 by decide)
   have hn:((c*48271+k*7919)%2147483647).natAbs<18446744073709551616:=by omega
   have hz':0<ns.length:=by omega
   exact⟨_,by simp[kB,zM,fnD,bH,cM,cK,sIf,eQ,eV,bV,vS,eOp,aF,eC,aN,aJ,aM,bOf,asB,outD,dC,eT,cQ,g2I,g2C,gLt,gGt,cU,hl,hz',hk,e,hn]; rfl⟩
  ·have hz':ns=[]:=by
    cases ns with
    | nil=>rfl
    | cons a r=>exact absurd (by simp) hz
   have hn:(k*7919+5).natAbs<18446744073709551616:=by omega
   have hl' : ¬ k<0:=by omega
   subst hz'
   exact⟨_,by simp[kB,zM,fnD,bH,cM,cK,sIf,eQ,eV,bV,vS,eOp,aF,eC,aN,aJ,aM,bOf,asB,outD,dC,eT,cQ,g2I,g2C,gLt,gGt,cU,hl',hk,hn]; rfl⟩
def baseOk (cs:List Nat)(s:Nat):Prop:=cs.length=s/\(∀ c∈cs,iD c=true) /\ ∃ c r,cs=c::r/\letter c=true
theorem baseOk.set {cs:List Nat}{s j c:Nat}(h:baseOk cs s)(hc:iD c=true)(hl:j=0->letter c=true):baseOk (cs.set j c) s:=by
 obtain⟨h1,h2,c0,r,e,h3⟩:=h
 refine⟨by simpa using h1,fun x m=>?_,?_⟩
 ·rcases Ox m with q | q
  ·exact h2 x q
  ·rw[q]; exact hc
 ·subst e
  cases j with
  | zero=>exact⟨c,r,rfl,hl rfl⟩
  | succ j=>exact⟨c0,r.set j c,rfl,h3⟩
theorem baseOk.name {cs:List Nat}{s:Nat}(h:baseOk cs s)(hs:s≤12):nameS (iL cs):=by
 obtain⟨h1,h2,c0,r,e,h3⟩:=h
 exact⟨c0,r,e,h3,h2,by show cs.length≤12; omega⟩
theorem PL (cs:List Nat)(j c:Nat):(cs.map cV).set j (cV c)=(cs.set j c).map cV:=by rw[List.map_set]
theorem EL {α β:Type}{f:α->β} : ∀ {l:List α},(∀ a∈l,∀ b∈l,f a=f b->a=b)->l.Nodup->(l.map f).Nodup
 | [],_,_=>by simp
 | x::l,h,nd=>by
  rw[fF] at nd
  rw[cY,fF]
  refine⟨fun m=>?_,EL (fun a ma b mb=>h a (cD _ ma) b (cD _ mb)) nd.2⟩
  obtain⟨y,my,e⟩:=cH.mp m
  exact nd.1 (h y (cD _ my) x bX e ▸ my)
noncomputable def sgn (j:Nat):Nat:=SIGNS.cps.toList.getD j 0
theorem DN : ∀ j<36,SIGNS.cps.toList[j]?=some (sgn j)/\iD (sgn j)=true/\(j<26->letter (sgn j)=true):=by decide +kernel
theorem Kr : ∀ i<36,∀ j<36,sgn i=sgn j->i=j:=by decide +kernel
theorem Hc {i:Int}(h0:0≤i)(h1:i<36):gIx (.str SIGNS) (.int i)=some (cV (sgn i.toNat)):=by
 obtain⟨j,rfl⟩:=qT h0
 obtain⟨e,_,_⟩:=DN j (by omega)
 show(if SIGNS.length≤sizeLine then(atI SIGNS.cps.toList (j:Int)).bind fun c=>some (cT ⟨#[c]⟩) else none)=_
 rw[if_pos (by decide +kernel),pS e]
 rfl
theorem MW {a b:List Nat}(h:iL a=iL b):a=b:=by
 have h:a.toArray=b.toArray:=by injection h
 simpa using h
theorem Ci {cs:List Nat}{s k:Nat}(h:baseOk cs s)(hs:s≤12):nameS (iL (cs.take (k+1))):=by
 obtain⟨h1,h2,c0,r,e,h3⟩:=h
 refine⟨c0,r.take k,by subst e; rfl,h3,fun x m=>h2 x (List.mem_of_mem_take m),?_⟩
 show(cs.take (k+1)).length≤12
 rw[qQ]; omega
theorem Ba (zs:List aD):fT 1 (.list (zs.map cT))=true:=by
 simp[fT,eJ]
theorem ZK (c:Int){n:Nat}(hn:n≤12) : ∃ zs:List aD,sL [.int c,.int n]=some (.list (zs.map cT))/\zs.length=n/\(∀ z∈zs,nameS z)/\zs.Nodup:=by
 suffices h : ∃ d,sL [.int c,.int n]=some d /\ ∃ zs:List aD,d = .list (zs.map cT)/\zs.length=n/\(∀ z∈zs,nameS z)/\zs.Nodup by
  obtain⟨_,e,zs,rfl,h⟩:=h
  exact⟨zs,e,h⟩
 refine JG rfl ?_
 refine fO (ρ':=[s0 (.int c),s0 (.int n),s0 (.str SIGNS),none,none,none,none,none]) (by simp[cM,eV,eC,SIGNS]) ?_
 refine fO (ρ':=[s0 (.int c),s0 (.int n),s0 (.str SIGNS),s0 (.int (1+cJ c 1%12)),none,none,none,none]) (by simp[cM,eV,vS,eOp,aF,eC,aN,aJ,aM,dC,cQ,g2C,gZ]) ?_
 have b1:=gK (cJ c 1) (show(0:Int)<12 by decide)
 refine iV (fun ρ'=>∃ s:Nat,1≤s/\s≤12/\(cJ c 2%3=0->s=12)/\ρ'=[s0 (.int c),s0 (.int n),s0 (.str SIGNS),s0 (.int s),none,none,none,none]) ?_ ?_
 ·by_cases h3:cJ c 2%3=0
  ·refine zT (ρ':=[s0 (.int c),s0 (.int n),s0 (.str SIGNS),s0 (.int 12),none,none,none,none]) (by simp[cM,sIf,eQ,eV,bV,vS,eOp,aF,eC,aN,aJ,aM,bOf,asB,cQ,g2C,gEq,dF,noDict,iO,cS,gZ,h3]) ⟨_,rfl,12,by omega,by omega,fun _=>rfl,rfl⟩
  ·refine zT (ρ':=[s0 (.int c),s0 (.int n),s0 (.str SIGNS),s0 (.int (1+cJ c 1%12)),none,none,none,none]) (by simp[cM,sIf,eQ,eV,bV,vS,eOp,aF,eC,aN,aJ,aM,bOf,asB,cQ,g2C,gEq,dF,noDict,iO,cS,gZ,h3]) ⟨_,rfl,(1+cJ c 1%12).toNat,by omega,by omega,fun h=>absurd h h3,?_⟩
   have e:((1+cJ c 1%12).toNat:Int)=1+cJ c 1%12:=by omega
   rw[e]
 rintro _ ⟨s,hs1,hs12,hsp,rfl⟩
 refine iV (fun ρ'=>∃ cs:List Nat,cs.length=s/\(∀ x∈cs,iD x=true)/\ρ'=[s0 (.int c),s0 (.int n),s0 (.str SIGNS),s0 (.int s),some (1,.list (cs.map cV)),none,none,none]) ?_ ?_
 ·obtain⟨cs,e,hl,ho⟩:=Lc (cap:=[none,some 2,some 0]) (fi:=iR1 (aJ (aF 3) aM)) (T:=gB 0) (t:=gT) (f:=(eOp gIx (aF 1) (eOp cQ (aN fL (aJ (aF 2) (aJ (eOp dC (eC (.int 30)) (aF 0)) aM))) (eC (.int 36)))))
    (ρ:=vS [s0 (.int c),s0 (.int n),s0 (.str SIGNS),s0 (.int s),none,none,none,none]) (n:=s) cV (fun x=>iD x=true) (uF rfl (by omega)) (by omega) (fun k hk=>by
    have b:=gK (cJ c (30+k)) (show(0:Int)<36 by decide)
    obtain⟨x,e,h1,_⟩:=MU b.1 b.2
    have e2:=gZ c (30+(k:Int)) (by omega) (by omega)
    refine⟨[some (.int k),some (.str SIGNS),some (.int c)],x,rfl,rfl,?_,h1⟩
    simp only[eOp,aF,eC,aN,aJ,aM,dC,cQ,g2C,bM,wZ,xA,AW,e2,if_pos (show(0:Int)<36 by decide),e])
  exact JZ e (by simp) ⟨_,rfl,cs,hl,ho,rfl⟩
 rintro _ ⟨cs0,hl,ho,rfl⟩
 refine iV (fun ρ'=>∃ cs:List Nat,baseOk cs s/\ρ'=[s0 (.int c),s0 (.int n),s0 (.str SIGNS),s0 (.int s),some (1,.list (cs.map cV)),none,none,none]) ?_ ?_
 ·have b:=gK (cJ c 50) (show(0:Int)<26 by decide)
  obtain⟨x,e,h1,h2⟩:=MU b.1 (by omega)
  have hb:baseOk (cs0.set 0 x) s:=by
   refine⟨by simpa using hl,fun y m=>?_,?_⟩
   ·rcases Ox m with q | q
    ·exact ho y q
    ·rw[q]; exact h1
   ·cases cs0 with
    | nil=>simp at hl; omega
    | cons a r=>exact⟨x,r,rfl,h2 b.2⟩
  have hix:ixN (cs0.map cV).length 0=some 0:=by
   unfold ixN
   rw[if_pos (by decide),if_pos (by rw[cL]; omega)]
   rfl
  refine zT (ρ':=[s0 (.int c),s0 (.int n),s0 (.str SIGNS),s0 (.int s),some (1,.list ((cs0.set 0 x).map cV)),none,none,none]) ?_ ⟨_,rfl,_,hb,rfl⟩
  simp only[tZ,eV,vS,eOp,aF,eC,aN,aJ,aM,cQ,g2C,getL,cY,wZ,xA,AW,bM,gZ c 50 (by omega) (by omega),if_pos (show(0:Int)<26 by decide),e,hix]
  rw[← PL]
  rfl
 rintro _ ⟨cs,hb,rfl⟩
 by_cases h3:cJ c 2%3=0
 ·have hs:=hsp h3
  subst hs
  have e:=CN (cap:=[none,some 4]) (fi:=iR1 (aJ (aF 1) aM)) (T:=gB 0) (t:=gT) (f:=(eOp rA (eC (.str "")) (oX (aF 1) oN (oS (eOp dC (aF 0) (eC (.int 1)))))))
    (ρ:=vA [s0 (.int c),s0 (.int n),s0 (.str SIGNS),s0 (.int (12:Nat)),some (1,.list (cs.map cV)),none,none,none]) (ds:=(dN n).map fun(k:Nat)=>aS k) (fun d=>match d with | .int k=>.str (iL (cs.take (k.toNat+1))) | d=>d) (uF rfl (by omega)) (by simp; omega) (fun d md=>by
    obtain⟨k,mk,rfl⟩:=cH.mp md
    have hk:=lD.mp mk
    have e1:=XX (ds:=cs.map cV) (k:=k+1) (by have:=hb.1; simp; omega)
    have e2:=LC (cs:=cs.take (k+1)) (by have:=hb.1; simp; omega)
    refine⟨[some (.int k),some (.list (cs.map cV))],rfl,rfl,?_⟩
    have e3:((k:Int)+1)=((k+1:Nat):Int):=by omega
    simp only[eOp,aF,eC,oX,oN,oS,dC,bM,wZ,xA,AW,e3,e1]
    rw[← UR,e2]
    rfl)
  rw[fG] at e
  have e':((dN n).map ((fun d=>match d with | .int k=>cT (iL (cs.take (k.toNat+1))) | d=>d)∘fun(k:Nat)=>aS k))=(((dN n).map fun k=>iL (cs.take (k+1))).map cT):=by
   rw[fG]
   rfl
  rw[e'] at e
  refine yF (rO ?_ (JW e (Ba _) ⟨_,rfl,_,rfl,_,rfl,by simp,fun z m=>?_,?_⟩))
  ·simp[bV,vS,eOp,aF,eC,aN,aJ,aM,bOf,asB,cQ,g2C,gEq,dF,noDict,iO,cS,gZ,h3]
  ·obtain⟨k,_,rfl⟩:=cH.mp m
   exact Ci hb (by omega)
  ·refine EL (fun a ma b mb q=>?_) List.nodup_range
   have ha:=lD.mp ma
   have hb':=lD.mp mb
   have:=congrArg wY (MW q)
   rw[qQ,qQ,hb.1] at this
   omega
 ·refine fO (ρ':=[s0 (.int c),s0 (.int n),s0 (.str SIGNS),s0 (.int s),some (1,.list (cs.map cV)),none,none,none]) (iT (by simp[bV,vS,eOp,aF,eC,aN,aJ,aM,bOf,asB,cQ,g2C,gEq,dF,noDict,iO,cS,gZ,h3])) ?_
  have hs0:(0:Int)<s:=by omega
  have ba:=gK (cJ c 3) hs0
  obtain⟨a,ha⟩:=qT ba.1
  have ha':a<s:=by omega
  refine fO (ρ':=[s0 (.int c),s0 (.int n),s0 (.str SIGNS),s0 (.int s),some (1,.list (cs.map cV)),s0 (.int a),none,none]) (by
   have:0<s:=by omega
   simp[cM,eV,vS,eOp,aF,eC,aN,aJ,aM,cQ,g2C,gZ,this,ha]) ?_
  refine fO (ρ':=[s0 (.int c),s0 (.int n),s0 (.str SIGNS),s0 (.int s),some (1,.list (cs.map cV)),s0 (.int a),some (1,.list []),none]) rfl ?_
  obtain⟨w,hw⟩ : ∃ w:Nat,w=if a=0 then 26 else 36:=⟨_,rfl⟩
  have hw1:26≤w/\w≤36:=by subst hw; split <;> omega
  let sg:Nat->Nat:=fun k=>sgn ((cJ c 4+k)%(w:Int)).toNat
  have sgb : ∀ k:Nat,((cJ c 4+k)%(w:Int)).toNat<w:=fun k=>by
   have:=gK (cJ c 4+k) (show(0:Int)<w by omega)
   omega
  have sg1 : ∀ k,iD (sg k)=true:=fun k=>(DN _ (by have:=sgb k; omega)).2.1
  have sg2 : ∀ k,a=0->letter (sg k)=true:=fun k h0=>(DN _ (by have:=sgb k; omega)).2.2 (by have:=sgb k; rw[if_pos h0] at hw; omega)
  refine iV (fun ρ'=>∃ (ds:List Nat) (x:L2.Slot),ρ'=[s0 (.int c),s0 (.int n),s0 (.str SIGNS),s0 (.int s),some (1,.list (ds.map cV)),s0 (.int a),some (1,.list (((dN n).map fun k=>iL (cs.set a (sg k))).map cT)),x]) ?_ ?_
  ·refine DY (n:=n) (fun i ρ'=>∃ (ds:List Nat) (x:L2.Slot),baseOk ds s/\(∀ y,ds.set a y=cs.set a y)/\ρ'=[s0 (.int c),s0 (.int n),s0 (.str SIGNS),s0 (.int s),some (1,.list (ds.map cV)),s0 (.int a),some (1,.list (((dN i).map fun k=>iL (cs.set a (sg k))).map cT)),x]) ?_ ⟨cs,none,hb,fun _=>rfl,rfl⟩ ?_ ?_
   ·exact avS (uF rfl (by omega))
   ·rintro i _ hi ⟨ds,x,hd,hset,rfl⟩
    generalize hZ:((dN i).map fun k=>iL (cs.set a (sg k)))=zs
    have hzl:zs.length=i:=by rw[← hZ]; simp
    refine⟨[s0 (.int c),s0 (.int n),s0 (.str SIGNS),s0 (.int s),some (1,.list (ds.map cV)),s0 (.int a),some (1,.list (zs.map cT)),s0 (.int i)],rfl,?_⟩
    have hcl:=hd.1
    have hix:ixN (ds.map cV).length (a:Int)=some a:=by
     unfold ixN
     rw[if_pos (by omega),if_pos (by rw[cL]; omega)]
     simp
    have ey:eV 0 .s (eOp gIx (aF 2) (eOp cQ (eOp dC (aN fL (aJ (aF 0) (aJ (eC (.int 4)) aM))) (aF 7)) (eOp dC (eC (.int 26)) (eOp eT (eC (.int 10)) (aN sO (aJ (eOp gGt (aF 5) (eC (.int 0))) aM)))))) [s0 (.int c),s0 (.int n),s0 (.str SIGNS),s0 (.int s),some (1,.list (ds.map cV)),s0 (.int a),some (1,.list (zs.map cT)),s0 (.int i)]=some (cV (sg i)):=by
     have hb1:=gK (cJ c 4+i) (show(0:Int)<w by omega)
     have e:=Hc hb1.1 (by omega)
     show _=some (cV (sgn ((cJ c 4+i)%(w:Int)).toNat))
     by_cases h0:a=0
     ·rw[if_pos h0] at hw
      subst hw
      have e:gIx (.str SIGNS) (.int ((cJ c 4+i)%26))=some (cV (sgn ((cJ c 4+i)%26).toNat)):=e
      simp[eV,vS,eOp,aF,eC,aN,aJ,aM,dC,eT,cQ,g2I,g2C,gGt,sO,gZ,h0,e]
     ·rw[if_neg h0] at hw
      subst hw
      have e:gIx (.str SIGNS) (.int ((cJ c 4+i)%36))=some (cV (sgn ((cJ c 4+i)%36).toNat)):=e
      have h1:0<a:=by omega
      simp[eV,vS,eOp,aF,eC,aN,aJ,aM,dC,eT,cQ,g2I,g2C,gGt,sO,gZ,h1,e]
    refine fO (ρ':=[s0 (.int c),s0 (.int n),s0 (.str SIGNS),s0 (.int s),some (1,.list ((cs.set a (sg i)).map cV)),s0 (.int a),some (1,.list (zs.map cT)),s0 (.int i)]) ?_ ?_
    ·unfold tZ
     rw[ey,← hset,← PL]
     simp only[eV,vS,aF,getL,cY,wZ,xA,AW,bM,hix]
     rfl
    ·have hb':=hb.set (j:=a) (sg1 i) (sg2 i)
     have ej:=LC (cs:=cs.set a (sg i)) (by have:=hb.1; simp; omega)
     refine zT (ρ':=[s0 (.int c),s0 (.int n),s0 (.str SIGNS),s0 (.int s),some (1,.list ((cs.set a (sg i)).map cV)),s0 (.int a),some (1,.list ((zs++[iL (cs.set a (sg i))]).map cT)),s0 (.int i)]) ?_ ⟨_,.inl rfl,cs.set a (sg i),s0 (.int i),hb',fun y=>by rw[List.set_set],?_⟩
     ·have hz:(zs.map cT).length<sizeLine:=yO (by simp; omega)
      have ee:eOp rA (eC (.str "")) (aF 4) (vA [s0 (.int c),s0 (.int n),s0 (.str SIGNS),s0 (.int s),some (1,.list ((cs.set a (sg i)).map cV)),s0 (.int a),some (1,.list (zs.map cT)),s0 (.int i)])=some (.str (iL (cs.set a (sg i)))):=by
       simp only[eOp,eC,aF,vA,cY,qO,wZ,xA,AW,bM,ej]
      unfold kQ eV
      simp only[ee,bM,fT,eJ,if_true,getL,wZ,xA,if_pos hz]
      simp
     ·have e:((dN (i+1)).map fun k=>iL (cs.set a (sg k)))=zs++[iL (cs.set a (sg i))]:=by
       rw[List.range_succ,wW,hZ]
       rfl
      rw[e]
   ·rintro _ ⟨ds,x,_,_,rfl⟩
    exact⟨_,rfl,ds,x,rfl⟩
  rintro _ ⟨ds,x,rfl⟩
  refine⟨_,rfl,_,rfl,_,rfl,by simp,fun z m=>?_,?_⟩
  ·obtain⟨k,_,rfl⟩:=cH.mp m
   exact(hb.set (sg1 k) (sg2 k)).name hs12
  ·refine EL (fun k mk k' mk' q=>?_) List.nodup_range
   have hk:=lD.mp mk
   have hk':=lD.mp mk'
   have e:=congrArg (fun l=>l[a]?) (MW q)
   have hcl:=hb.1
   simp only[lF (show a<cs.length by omega)] at e
   have e:=Kr _ (by have:=sgb k; omega) _ (by have:=sgb k'; omega) (dZ e)
   have b1:=gK (cJ c 4+k) (show(0:Int)<w by omega)
   have b2:=gK (cJ c 4+k') (show(0:Int)<w by omega)
   have e:(cJ c 4+k)%(w:Int)=(cJ c 4+k')%(w:Int):=by omega
   by_cases h0:a=0
   ·rw[if_pos h0] at hw
    subst hw
    omega
   ·rw[if_neg h0] at hw
    subst hw
    omega
noncomputable abbrev AB:aD:="abcdefghijklmnopqrstuvwxyz"
noncomputable abbrev ABF:aD:="abcdefghijklmnopqrstuvwxyz0123456789"
theorem Nj : ∀ c<128,iD c=true->(false != !(qW ABF ⟨#[c]⟩ 0 ABF.length 1).isEmpty)=true:=by decide +kernel
theorem Dh : ∀ c<128,letter c=true->(false != !(qW AB ⟨#[c]⟩ 0 AB.length 1).isEmpty)=true:=by decide +kernel
theorem Kv {c:Nat}(h:iD c=true):gIn false (cV c) (.str ABF)=some (.bool true):=by
 show some (fE (false != !(qW ABF ⟨#[c]⟩ 0 ABF.length 1).isEmpty))=_
 rw[Nj c (FL h) h]
theorem Ah {c:Nat}(h:letter c=true):gIn false (cV c) (.str AB)=some (.bool true):=by
 show some (fE (false != !(qW AB ⟨#[c]⟩ 0 AB.length 1).isEmpty))=_
 rw[Dh c (FL (Bo h)) h]
theorem YX:(AB++("0123456789" : aD))=ABF:=by decide +kernel
theorem Nt:zU 10 "0123456789":=⟨by decide +kernel,by decide +kernel⟩
theorem Ki:dC (.str AB) (.str "0123456789")=some (.str ABF):=by
 rw[ZQ Lj Nt (by omega),YX]
theorem OL : ∀ n:Nat,lL (eA n (.bool true))=some (eA n true)
 | 0=>rfl
 | n+1=>by
  show((lL (eA n (.bool true))).bind fun bs=>some (true::bs))=_
  rw[OL n]
  rfl
theorem OH {z:aD}(h:nameS z):jM [.str z]=some (.bool true):=by
 obtain⟨c,r,ez,hc,hs,hl⟩:=h
 have : ∃ d,jM [.str z]=some d/\d = .bool true:=by
  refine JG rfl ?_
  let R:bC:=[s0 (.str z)]
  have hz:z.length=z.cps.toList.length:=by simp[Str.length]
  have h1:1≤z.length:=by rw[hz,ez]; simp
  have h12:z.length≤12:=by rw[hz]; exact hl
  have el:aN cU (aJ (aF 0) aM) (vS R)=some (.int z.length):=bT (ds:=[.str z]) rfl (by simp[cU]; exact kU (by omega))
  have ec:jX gLe gLe (eC (.int 1)) (aN cU (aJ (aF 0) aM)) (eC (.int 12)) (vS R)=some (.bool true):=by
   unfold jX
   rw[el]
   show(if decide ((1:Int)≤(z.length:Int))=true then some (fE (decide ((z.length:Int)≤12))) else some (fE false))=_
   rw[decide_eq_true (by omega),if_pos rfl,decide_eq_true (by omega)]
  have g1:eUn (gG "str") (aF 0) (vS R)=some (.bool true):=rfl
  refine fO (ρ':=R) (iT ?_) ?_
  ·show bOr (eO (bOf _)) (eO (bOf _)) (vS R)=_
   simp only[bOr,eO,bOf,g1,ec,bM,asB]
   rfl
  refine iF (d:=.bool (true&&true)) (oF ?_ fun _=>?_) ⟨_,rfl,rfl⟩
  ·have ix:gIx (.str z) (.int 0)=some (cV c):=by
    show(if z.length≤sizeLine then(atI z.cps.toList 0).bind fun c=>some (cT ⟨#[c]⟩) else none)=_
    have e0:atI z.cps.toList 0=some c:=pS (j:=0) (by rw[ez]; rfl)
    rw[if_pos (kU (by omega)),e0]
    rfl
   exact bY (a:=cV c) (b:=.str AB) (bY (a:=.str z) (b:=.int 0) rfl rfl ix) rfl (Ah hc)
  ·have lc:=CN (cap:=[none]) (fi:=iIt (aF 0)) (T:=gB 0) (t:=gT) (f:=eOp (gIn false) (aF 0) (eOp dC (eC (.str "abcdefghijklmnopqrstuvwxyz")) (eC (.str "0123456789")))) (ρ:=vS R) (ds:=z.cps.toList.map cV) (fun _=>.bool true) rfl (by simp; simp at hl; omega) (fun d md=>by
    obtain⟨x,mx,rfl⟩:=cH.mp md
    exact⟨[some (cV x)],rfl,rfl,bY (a:=cV x) (b:=.str ABF) rfl (bY (a:=.str AB) (b:=.str "0123456789") rfl rfl Ki) (Kv (hs x mx))⟩)
   refine bT (dY lc rfl) ?_
   rw[List.map_const']
   show((lL (eA _ (.bool true))).bind fun bs=>some (fE (bs.all id)))=_
   rw[OL,bM]
   simp
 obtain⟨d,e,rfl⟩:=this
 exact e
end Aw
namespace L2
open PySem PySem.Spec PyProof.Rows
section
variable {K:aG}{H0 H B0:Hp}{P0:aB->Prop}{ρ:bC}{σ:St}{fp:Nat->List aB}{i j:Nat}
def AL (σ:St)(H:Hp)(i j:Nat)(k:aL):Prop:=∃ p ep xs q,σ[i]?=some (some (.ref p))/\H p=some (.dK ep xs)/\cZ xs k=some (.ref q)/\σ[j]?=some (some (.ref q))
theorem AL.set {k:aL}{l:Nat}{v:V}(h:AL σ H i j k)(hi:l≠i)(hj:l≠j):AL (σ.set l (some v)) H i j k:=by
 obtain⟨p,ep,xs,q,h1,h2,h3,h4⟩:=h
 exact⟨p,ep,xs,q,by rw[jT hi]; exact h1,h2,h3,by rw[jT hj]; exact h4⟩
end
end L2
namespace Aw
open PySem L2
noncomputable def asI:aA->Int
 | .int i=>i
 | _=>0
theorem uT (r:List Int):(r.map aS).map asI=r:=by
 rw[fG]
 have:(asI∘aS)=id:=rfl
 rw[this,tO]
theorem pW (r:List Int):bP (r.map aS)=true:=EV fun t m=>by
 obtain⟨i,_,rfl⟩:=cH.mp m
 rfl
theorem sE (r:List Int):dB (r.map aS)≤1:=zB fun t m=>by
 obtain⟨i,_,rfl⟩:=cH.mp m
 simp[iO]
theorem EB (r:List Int):dF (aU r)=true:=by
 have h1:noDicts (r.map aS)=true:=GA fun t m=>by
  obtain⟨i,_,rfl⟩:=cH.mp m
  rfl
 have h2:dB (r.map aS)≤1:=zB fun t m=>by
  obtain⟨i,_,rfl⟩:=cH.mp m
  simp[iO]
 simp[dF,aU,noDict,h1,iO]
 omega
theorem uO {a b:List Int}(h:aU a=aU b):a=b:=by
 have h:=AV h
 exact(uT a).symm.trans ((congrArg (List.map asI) h).trans (uT b))
theorem oA (a b:List Int):cS (aU a) (aU b)=decide (a=b):=by
 rw[ER _ _ (MN a) (MN b),decide_eq_decide]
 exact⟨uO,fun e=>by rw[e]⟩
noncomputable def srt (R:List (List Int)):List (List Int):=(iA (R.map fun r=>r.map aS)).map fun k=>k.map asI
theorem EY (R:List (List Int)):(srt R).Perm R:=by
 have h:=(vI (R.map fun r=>r.map aS)).map fun k=>k.map asI
 rw[fG] at h
 have e:(R.map ((fun k=>k.map asI)∘fun r=>r.map aS))=R:=by
  have:((fun k=>k.map asI)∘fun r=>r.map aS)=(id:List Int->List Int):=by funext r; exact uT r
  rw[this,tO]
 rw[e] at h
 exact h
theorem Arw {R:List (List Int)}{r:List Int}:r∈srt R↔r∈R:=(EY R).mem_iff
theorem DL (R:List (List Int)):(srt R).length=R.length:=(EY R).length_eq
theorem Ao (R:List (List Int)):jU (R.map aU)=some (R.map fun r=>r.map aS):=by
 have:=LS (kss:=R.map fun r=>r.map aS) fun k m=>by
  obtain⟨r,_,rfl⟩:=cH.mp m
  have:=sE r
  exact⟨pW r,by omega⟩
 rw[fG] at this
 exact this
theorem FA : ∀ (a b:List Int),a.length=b.length->dM (a.map aS) (b.map aS)=true
 | [],[],_=>rfl
 | x::a,y::b,h=>FA a b (by simpa using h)
 | [],_::_,h=>by simp at h
 | _::_,[],h=>by simp at h
theorem Lq {R:List (List Int)}{n:Nat}(hn:1≤n)(hw : ∀ r∈R,r.length=n)(hl:R.length<64):YS [bW R]=some (bW (srt R)):=by
 show((jU (R.map aU)).bind fun kss=>if okT kss=true/\kss.length<64 then some (HY ((iA kss).map gP)) else none)=_
 rw[Ao,bM]
 have ok:okT (R.map fun r=>r.map aS)=true:=by
  unfold okT
  rw[VC]
  refine .inr (kM.mpr ⟨fV.mpr fun k mk=>fV.mpr fun k' mk'=>?_,fV.mpr fun k mk=>?_⟩)
  ·obtain⟨a,ma,rfl⟩:=cH.mp mk
   obtain⟨b,mb,rfl⟩:=cH.mp mk'
   exact FA a b ((hw a ma).trans (hw b mb).symm)
  ·obtain⟨a,ma,rfl⟩:=cH.mp mk
   have:=hw a ma
   cases a with
   | nil=>simp at this; omega
   | cons x r=>rfl
 rw[if_pos ⟨ok,by rw[cL]; exact hl⟩]
 unfold bW srt
 rw[fG]
 congr 2
 refine nN fun k mk=>?_
 obtain⟨a,_,rfl⟩:=cH.mp ((vI _).mem_iff.mp mk)
 show _=gP (((a.map aS).map asI).map aS)
 rw[uT]
structure Bk (kds:List (aA×aA))(B:aD->List (List Int))(wd:aD->Nat):Prop where
 pl:plK kds=true
 at_ : ∀ t,(bZ kds (.inr t)).getD (.list [])=bW (B t)
 few : ∀ t,(B t).length<64
 pos : ∀ t,1≤wd t
 wid : ∀ t,∀ r∈B t,r.length=wd t
theorem Bk.get {kds:List (aA×aA)}{B:aD->List (List Int)}{wd:aD->Nat}(b:Bk kds B wd){fd fk:EF}{ρ:List (Option aA)}{t:aD}(h1:fd ρ=some (.dict kds))(h2:fk ρ=some (.str t)):GU fd fk (lK aM) ρ=some (bW (B t)):=by
 rw[Mg h1 h2 rfl rfl b.pl,b.at_]
theorem pH (c:Int)(n:Nat)(h:0<n):cQ (.int c) (.int n)=some (.int (c%n)):=by
 show(if 0<(n:Int) then some (aS (c%(n:Int))) else none)=_
 rw[if_pos (by omega)]
theorem JQ (c:Int)(n:Nat)(h:0<n)(h2:n<1000:=by omega):AA (.int c) (.int n)=some (.int (c / n)):=by
 show(if 0<(n:Int)/\(n:Int)<1073741824 then some (aS (c / (n:Int))) else none)=_
 rw[if_pos (by omega)]
theorem WE {a b:Int}(h:a.natAbs<2 ^ 64):eT (.int a) (.int b)=some (.int (a*b)):=by
 show(if (a.natAbs<2 ^ 64 \/ b.natAbs<2 ^ 64) \/ (a.natAbs<2 ^ 1000/\b.natAbs<2 ^ 1000) then some (aS (a*b)) else none)=_
 rw[if_pos (.inl (.inl h))]
theorem JK {a b:Int}(h:a.natAbs<2 ^ 200)(h2:b.natAbs<2 ^ 200):eT (.int a) (.int b)=some (.int (a*b)):=by
 show(if (a.natAbs<2 ^ 64 \/ b.natAbs<2 ^ 64) \/ (a.natAbs<2 ^ 1000/\b.natAbs<2 ^ 1000) then some (aS (a*b)) else none)=_
 have hp:(2:Nat) ^ 200≤2 ^ 1000:=Nat.pow_le_pow_right (by decide) (by decide)
 rw[if_pos (.inr ⟨gQ h hp,gQ h2 hp⟩)]
theorem uR {k:Nat}(h:k≤100):nD (.int 10) (.int k)=some (.int (10 ^ k)):=by
 show(if 0≤(k:Int)/\(k:Int)≤1000000/\(10:Int).natAbs<2 ^ 64 then some (aS (10 ^ (k:Int).toNat)) else none)=_
 rw[if_pos ⟨by omega,by omega,by decide⟩]
 rfl
theorem Jb {a b:BF}{ρ:List (Option aA)}{x y:Bool}(h:a ρ=some x)(h2:x=true->b ρ=some y):xS a b ρ=some (x&&y):=by
 unfold xS
 rw[h]
 cases x with
 | true=>exact h2 rfl
 | false=>rfl
theorem mS {a b:BF}{ρ:List (Option aA)}{x y:Bool}(h:a ρ=some x)(h2:x=false->b ρ=some y):bOr a b ρ=some (x||y):=by
 unfold bOr
 rw[h]
 cases x with
 | true=>rfl
 | false=>exact h2 rfl
theorem iW {f:EF}{ρ:List (Option aA)}{x:Bool}(h:f ρ=some (.bool x)):eO (bOf f) ρ=some (!x):=by
 unfold eO
 rw[mQ h]
 rfl
theorem GJ (R:List (List Int)):noDicts (R.map aU)=true:=GA fun t m=>by
 obtain⟨r,_,rfl⟩:=cH.mp m
 have:=EB r
 unfold dF at this
 exact(kM.mp this).1
theorem Iz (neg:Bool)(r:List Int)(R:List (List Int)):gIn neg (aU r) (bW R)=some (.bool (neg != decide (r∈R))):=by
 show(if (dF (aU r)&&noDicts (R.map aU))=true then some (fE (neg != (R.map aU).any fun z=>cS z (aU r))) else none)=_
 rw[EB,GJ,Bool.and_self,if_pos rfl]
 have:((R.map aU).any fun z=>cS z (aU r))=decide (r∈R):=by
  rw[List.any_map]
  by_cases h:r∈R
  ·rw[decide_eq_true h]
   exact IJ.mpr ⟨r,h,by simp[oA]⟩
  ·rw[decide_eq_false h,UW]
   intro x mx
   simp only[Function.comp,oA,decide_eq_true_eq]
   exact fun e=>h (e ▸ mx)
 rw[this]
theorem Jw {n j:Nat}(h:j<n):ixN n (j:Int)=some j:=by
 unfold ixN
 simp
 omega
theorem ZM {ρ:bC}{P:Out->Prop}{i:Nat}{f g:EF}{d kd:aA}{key:aL}{kds:List (aA×aA)}(h:f (vS ρ)=some d)(hg:AC i ρ=some kds)(hk:g (vS ρ)=some kd)(ha:cI kd=some key)(hn:bZ kds key=none)(hl:kds.length<100000)(k:P (.nx (ρ.set i (some (2,.dict (kds++[(kD key,d)])))))):Goes (xX i .s f .s g) ρ P:=⟨_,by
 have e1:eV 1 .s f ρ=some d:=h
 have e2:eV 0 .s g ρ=some kd:=hk
 unfold xX
 rw[e1,bM,hg,bM,e2,bM,ha,bM,if_pos ⟨hn,by have:=kU (n:=100000) (by omega); omega⟩],k⟩
theorem kS {np n:Nat}{body:SF}{ds:List aA}{d:aA}(hl:ds.length=np)(h:Goes body (ds.map (fun d=>some (0,d))++eA (n - np) none) fun o=>o = .rt d):fnD np n body ds=some d:=by
 obtain⟨o,e,rfl⟩:=h
 exact JO hl e
theorem MY {α:Type}(f:α->Bool) : ∀ xs:List α,lL (xs.map fun x=>.bool (f x))=some (xs.map f)
 | []=>rfl
 | x::xs=>by
  show((lL (xs.map fun x=>.bool (f x))).bind fun bs=>some (f x::bs))=_
  rw[MY f xs]
  rfl
theorem RX {α:Type}(f:α->Bool)(xs:List α):qE [.list (xs.map fun x=>.bool (f x))]=some (.bool (xs.all f)):=by
 show((lL (xs.map fun x=>.bool (f x))).bind fun bs=>some (fE (bs.all id)))=_
 rw[MY,bM,List.all_map]
 rfl
theorem OY : ∀ zs:List aD,qB (zs.map cT)=some (zs.map iG)
 | []=>rfl
 | z::zs=>by
  show((cI (.str z)).bind fun k=>(qB (zs.map cT)).bind fun ks=>some (k::ks))=_
  rw[OY zs]
  rfl
noncomputable def dQ (t:aD×Nat):aA:=.tuple [.str t.1,.int t.2]
def BQ (t:aD×Nat):Prop:=nameS t.1/\1≤t.2/\t.2≤6
noncomputable def tlE (d:aA):Option aA:=gJ (aN pX (aJ (aF 0) aM)) (gJ (aN jM (aJ (eOp gIx (aF 0) (eC (.int 0))) aM)) (aN nA (aJ (eOp gIx (aF 0) (eC (.int 1))) aM))) [some d]
theorem A9b {ds:List aA}:bV .s (bOr (eO (bOf (eUn (gG "list") (aF 0)))) (bOf (eOp gGt (aN cU (aJ (aF 0) aM)) (eC (.int 12))))) [s0 (.list ds)]=some (decide (12<ds.length)):=by
 have e:eOp gGt (aN cU (aJ (aF 0) aM)) (eC (.int 12)) (vS [s0 (.list ds)])=some (.bool (decide (12<ds.length))):=by
  refine bY (a:=.int ds.length) (b:=.int 12) (bT (ds:=[.list ds]) rfl rfl) rfl ?_
  show some (fE (decide ((ds.length:Int) > 12)))=_
  congr 2
  rw[decide_eq_decide]
  omega
 exact mS (x:=false) (iW (x:=true) rfl) (fun _=>mQ e)
theorem Hk {ds:List aA}(hl:ds.length≤12)(o:aA->Bool)(ho : ∀ d∈ds,tlE d=some (.bool (o d))):bV .s (eO (bOf (aN qE (aJ (eLC [none] (iIt (aF 0)) (gB 0) gT (gJ (aN pX (aJ (aF 0) aM)) (gJ (aN jM (aJ (eOp gIx (aF 0) (eC (.int 0))) aM)) (aN nA (aJ (eOp gIx (aF 0) (eC (.int 1))) aM))))) aM)))) [s0 (.list ds)]=some (!(ds.all o)):=by
 have lc:=yB (cap:=[none]) (fi:=iIt (aF 0)) (T:=gB 0) (t:=gT) (f:=gJ (aN pX (aJ (aF 0) aM)) (gJ (aN jM (aJ (eOp gIx (aF 0) (eC (.int 0))) aM)) (aN nA (aJ (eOp gIx (aF 0) (eC (.int 1))) aM)))) (ρ:=vS [s0 (.list ds)]) (xs:=ds) (q:=id) (fun _=>true) (fun d=>.bool (o d)) (by rw[tO]; exact rX rfl) (by omega) (fun d md=>⟨[some d],rfl,rfl,fun _=>ho d md⟩)
 rw[xC.mpr (by simp)] at lc
 exact iW (bT (dY lc rfl) (RX o ds))
theorem Cw (i:Int):nA [.int i]=some (.bool (decide (1≤i/\i≤6))):=by
 show fnD 1 1 QM [.int i]=_
 refine kS rfl (iF (d:=.bool (decide (1≤i/\i≤6))) ?_ rfl)
 have:jX gLe gLe (eC (.int 1)) (aF 0) (eC (.int 6)) (vS [s0 (.int i)])=some (.bool (decide (1≤i/\i≤6))):=by
  show(if decide (1≤i)=true then some (fE (decide (i≤6))) else some (.bool false))=_
  by_cases h:1≤i
  ·rw[if_pos (by simpa using h)]
   simp[h]
  ·rw[if_neg (by simpa using h)]
   simp[h]
 exact oF (x:=true) (bT (ds:=[.int i]) rfl rfl) fun _=>this
theorem Kg {a b:aA}{x y:Bool}(h1:jM [a]=some (.bool x))(h2:x=true->nA [b]=some (.bool y)):tlE (.tuple [a,b])=some (.bool (x&&y)):=
 oF (x:=true) (bT (ds:=[.tuple [a,b]]) rfl rfl) fun _=>oF (bT (ds:=[a]) rfl h1) fun z=>bT (ds:=[b]) rfl (h2 z)
theorem Jd {t:aD×Nat}(h:BQ t):tlE (dQ t)=some (.bool true):=by
 obtain⟨h1,h2,h3⟩:=h
 refine Kg (x:=true) (y:=true) (OH h1) fun _=>(Cw t.2).trans ?_
 rw[decide_eq_true (by omega)]
theorem LR : ∀ (ks acc:List aL),(ks.foldl fX acc).length≤acc.length+ks.length
 | [],acc=>by simp
 | k::ks,acc=>by
  rw[xB]
  have h:=LR ks (fX acc k)
  have h2:(fX acc k).length≤acc.length+1:=by
   unfold fX
   split <;> simp
  simp only[eE]
  omega
theorem RY : ∀ (ks acc:List aL),(ks.foldl fX acc).length=acc.length+ks.length->ks.Nodup /\ ∀ k∈ks,k∉acc
 | [],acc,_=>⟨.nil,fun k m=>by simp at m⟩
 | k::ks,acc,h=>by
  rw[xB] at h
  have h1:=LR ks (fX acc k)
  simp only[eE] at h
  by_cases c:k∈acc
  ·have:fX acc k=acc:=if_pos c
   rw[this] at h1
   rw[this] at h
   omega
  ·have e:fX acc k=acc++[k]:=if_neg c
   rw[e] at h
   obtain⟨h2,h3⟩:=RY ks (acc++[k]) (by simp; omega)
   refine⟨fF.mpr ⟨fun m=>h3 k m (by simp),h2⟩,fun x m=>?_⟩
   rcases cP.mp m with rfl | m
   ·exact c
   ·exact fun z=>h3 x m (by simp[z])
theorem ZW (ks:List aL):(fA ks).length=ks.length↔ks.Nodup:=by
 have hm : ∀ x,x∈fA ks↔x∈ks:=fun x=>by unfold fA; rw[Cb]; simp
 have nd:(fA ks).Nodup:=Nq (by simp)
 exact⟨fun h=>(RY ks [] (by rw[List.length_nil,Nat.zero_add]; exact h)).1,fun h=>Bv nd h hm⟩
theorem Ny {ts:List (aD×Nat)}(hl:ts.length≤12)(ht : ∀ t∈ts,BQ t) : ∃ b:Bool,oO [.list (ts.map dQ)]=some (.bool b)/\(b=true↔(ts.map (·.1)).Nodup):=by
 refine⟨decide ((fA ((ts.map (·.1)).map iG)).length=ts.length),?_,?_⟩
 ·refine kS rfl (fO (iT (A9b.trans (by rw[decide_eq_false (by rw[cL]; omega)]))) ?_)
  refine fO (iT ((Hk (by rw[cL]; omega) (fun _=>true) fun d m=>?_).trans ?_)) ?_
  ·obtain⟨t,mt,rfl⟩:=cH.mp m
   exact Jd (ht t mt)
  ·rw[show(ts.map dQ).all (fun _=>true)=true by simp]
   rfl
  ·have lc:=yB (cap:=[none]) (fi:=iIt (aF 0)) (T:=gB 0) (t:=gT) (f:=eOp gIx (aF 0) (eC (.int 0))) (ρ:=vS [s0 (.list (ts.map dQ))]) (xs:=ts) (q:=dQ) (fun _=>true) (fun t=>.str t.1) (rX rfl) (by omega) (fun t mt=>⟨[some (dQ t)],rfl,rfl,fun _=>rfl⟩)
   rw[xC.mpr (by simp)] at lc
   refine iF (d:=.bool (decide ((fA ((ts.map (·.1)).map iG)).length=ts.length))) ?_ rfl
   refine bY (a:=.int ((fA ((ts.map (·.1)).map iG)).length)) (b:=.int ts.length) (bT (dY lc rfl) ?_) (bT (ds:=[.list (ts.map dQ)]) rfl ?_) ?_
   ·show((qB (ts.map fun t=>cT t.1)).bind fun ks=>if ks.length≤4000 then some (aS (fA ks).length) else none)=_
    rw[show(ts.map fun t=>cT t.1)=(ts.map (·.1)).map cT by rw[fG]; rfl,OY,bM,if_pos (by simp; omega)]
   ·show some (aS (ts.map dQ).length)=_
    rw[cL]
   ·show some (fE (decide (((fA ((ts.map (·.1)).map iG)).length:Int)=ts.length)))=_
    congr 2
    rw[decide_eq_decide]
    omega
 ·rw[decide_eq_true_iff]
  have:=ZW ((ts.map (·.1)).map iG)
  rw[cL,cL] at this
  rw[this]
  constructor
  ·intro h
   exact(tN.mp h).imp fun h z=>h (by rw[z])
  ·intro h
   exact tN.mpr (h.imp fun h z=>h (Sum.inr.inj z))
end Aw
namespace L2
open PySem PySem.Spec PyProof.Rows PySem.NumText
noncomputable def tx (l:List Nat):aD:=⟨l.toArray⟩
theorem YU (l:List Nat):(tx l).length=l.length:=by simp[tx,Str.length]
noncomputable def JD (n:Nat):List Nat:=(Nat.toDigits 10 n).map Char.toNat
noncomputable def WD (i:Int):List Nat:=if i<0 then 45::JD i.natAbs else JD i.natAbs
noncomputable def jn:List (List Nat)->List Nat
 | []=>[]
 | [w]=>w
 | w::v::r=>w++32::jn (v::r)
def good (w:List Nat):Prop:=∃ v:Int,v.natAbs<10 ^ 70/\w=WD v
def plain (w:List Nat):Prop:=∀ c∈w,c<128
end L2
namespace Aw
open PySem L2
def nd0:aA->Prop
 | .dict k=>k=[]
 | _=>True
noncomputable def SQ:aA->Bool
 | .int _=>true
 | _=>false
theorem Ad (d:aA)(hd:nd0 d):oP [d]=some (.bool (SQ d)):=by
 cases d with
 | dict k=>cases(show k=[] from hd); rfl
 | _=>rfl
theorem len_str {w:List Nat}(hl:w.length≤100000):cU [.str (tx w)]=some (.int w.length):=by
 show(if (tx w).length≤sizeLine then some (aS ((tx w).length:Nat)) else none)=_
 rw[YU,if_pos (kU hl)]
theorem WG:eT (.int (10 ^ 35)) (.int (10 ^ 35))=some (.int (10 ^ 70)):=(JK (by decide) (by decide)).trans (congrArg (fun x=>some (aS x)) (by decide +kernel:(10:Int) ^ 35*10 ^ 35=10 ^ 70))
theorem WZ (ρ:List (Option aA)):eOp eT (eOp nD (eC (.int 10)) (eC (.int 35))) (eOp nD (eC (.int 10)) (eC (.int 35))) ρ=some (.int (10 ^ 70)):=
 bY (a:=.int (10 ^ 35)) (b:=.int (10 ^ 35)) (bY (a:=.int 10) (b:=.int 35) rfl rfl (uR (k:=35) (by omega))) (bY (a:=.int 10) (b:=.int 35) rfl rfl (uR (k:=35) (by omega))) WG
theorem LD {c n:Int}(h:0<n):cQ (.int c) (.int n)=some (.int (c%n)):=by
 show(if 0<n then some (aS (c%n)) else none)=_
 rw[if_pos h]
noncomputable def oW:aA->Bool
 | .int i=>decide (i.natAbs<10 ^ 70)
 | _=>false
theorem XQ:eT (.int (10 ^ 60)) (.int (10 ^ 10))=some (.int (10 ^ 70)):=(JK (by decide) (by decide)).trans (congrArg (fun x=>some (aS x)) (by decide +kernel:(10:Int) ^ 60*10 ^ 10=10 ^ 70))
theorem My (d:aA)(hd:nd0 d):sH [d]=some (.bool (oW d)):=by
 refine kS rfl ?_
 have hw:aN oP (aJ (aF 0) aM) (vS [s0 d])=some (.bool (SQ d)):=bT (ds:=[d]) rfl (Ad d hd)
 cases d with
 | int i=>
  refine iF (d:=.bool (true&&oW (.int i))) (oF hw fun _=>?_) rfl
  refine bY (a:=.int (if i<0 then -i else i)) (b:=.int (10 ^ 70)) (bT (ds:=[.int i]) rfl rfl) (bY (a:=.int (10 ^ 60)) (b:=.int (10 ^ 10)) (bY (a:=.int 10) (b:=.int 60) rfl rfl (uR (k:=60) (by omega))) (bY (a:=.int 10) (b:=.int 10) rfl rfl (uR (k:=10) (by omega))) XQ) ?_
  show some (fE (decide ((if i<0 then -i else i)<10 ^ 70)))=some (fE (decide (i.natAbs<10 ^ 70)))
  congr 2
  rw[decide_eq_decide]
  split <;> omega
 | _=>exact iF (d:=.bool (false&&true)) (oF hw fun h=>nomatch h) rfl
noncomputable def IY:aA->Bool
 | .tuple ds=>decide (1≤ds.length/\ds.length≤6)&&ds.all oW
 | _=>false
theorem YH {d:aA}(h : ∀ ds,d = .tuple ds->ds.length≤1000 /\ ∀ x∈ds,nd0 x)(h0:nd0 d):pV [d]=some (.bool (IY d)):=by
 refine kS rfl ?_
 cases d with
 | tuple ds=>
  obtain⟨hl,hn⟩:=h ds rfl
  let R:bC:=[s0 (.tuple ds)]
  have el:aN cU (aJ (aF 0) aM) (vS R)=some (.int ds.length):=bT (ds:=[.tuple ds]) rfl (LQ ds)
  have ec:jX gLe gLe (eC (.int 1)) (aN cU (aJ (aF 0) aM)) (eC (.int 6)) (vS R)=some (.bool (decide (1≤ds.length/\ds.length≤6))):=by
   unfold jX
   rw[el]
   show(if decide ((1:Int)≤(ds.length:Int))=true then some (fE (decide ((ds.length:Int)≤6))) else some (fE false))=_
   by_cases h1:1≤ds.length
   ·rw[decide_eq_true (by omega),if_pos rfl]
    congr 2
    rw[decide_eq_decide]
    omega
   ·rw[decide_eq_false (by omega),if_neg (by simp),decide_eq_false (by omega)]
  have t1:=mS (a:=eO (bOf (eUn (gG "tuple") (aF 0)))) (b:=eO (bOf (jX gLe gLe (eC (.int 1)) (aN cU (aJ (aF 0) aM)) (eC (.int 6))))) (ρ:=vS R) (iW (x:=true) rfl) (fun _=>iW ec)
  show Goes _ _ fun o=>o = .rt (.bool (decide (1≤ds.length/\ds.length≤6)&&ds.all oW))
  cases hb:decide (1≤ds.length/\ds.length≤6) with
  | false=>
   rw[hb] at t1
   exact yF (rO t1 (iF (d:=.bool false) rfl ⟨_,rfl,rfl⟩))
  | true=>
   rw[hb] at t1
   refine fO (iT t1) ?_
   have lc:=CN (cap:=[none]) (fi:=iIt (aF 0)) (T:=gB 0) (t:=gT) (f:=aN sH (aJ (aF 0) aM)) (ρ:=vS R) (ds:=ds) (fun d=>.bool (oW d)) (Mi rfl) (by omega) (fun d md=>⟨[some d],rfl,rfl,bT (ds:=[d]) rfl (My d (hn d md))⟩)
   exact iF (d:=.bool (true&&ds.all oW)) (bT (dY lc rfl) (RX oW ds)) rfl
 | dict k=>cases(show k=[] from h0); exact yF (rO rfl (iF (d:=.bool false) rfl ⟨_,rfl,rfl⟩))
 | _=>exact yF (rO rfl (iF (d:=.bool false) rfl ⟨_,rfl,rfl⟩))
def RwG (r:List Int):Prop:=1≤r.length/\r.length≤6 /\ ∀ v∈r,v.natAbs<10 ^ 70
theorem RwG.b {r:List Int}(h:RwG r):IY (aU r)=true:=by
 show(decide (1≤(r.map aS).length/\(r.map aS).length≤6)&&(r.map aS).all oW)=true
 rw[cL,decide_eq_true ⟨h.1,h.2.1⟩,Bool.true_and,fV]
 intro d m
 obtain⟨v,mv,rfl⟩:=cH.mp m
 exact decide_eq_true (h.2.2 v mv)
theorem RwG.row {r:List Int}(h:RwG r):pV [aU r]=some (.bool true):=by
 rw[YH (d:=aU r) (fun ds e=>by cases e; exact⟨by rw[cL]; have:=h.2.1; omega,fun x m=>by obtain⟨v,_,rfl⟩:=cH.mp m; trivial⟩) kE,h.b]
theorem JI {f:EF}{ρ:List (Option aA)}{i:Int}(h:f ρ=some (.int i)):oS f ρ=some (some i):=by
 unfold oS
 rw[h]
 rfl
noncomputable def kdS (p:aD×aA):aA×aA:=(.str p.1,p.2)
theorem Mf {A:List (aD×aA)}{z:aD}{d:aA}(h:z∉A.map (·.1)):putD (A.map kdS) (.inr z) d=(A++[(z,d)]).map kdS:=by
 unfold putD
 rw[if_neg]
 ·simp[kdS,kD]
 ·intro q
  obtain⟨kd,m,e⟩:=IJ.mp q
  obtain⟨p,mp,rfl⟩:=cH.mp m
  have:=of_decide_eq_true e
  simp[kdS,cI] at this
  exact h (cH.mpr ⟨p,mp,this⟩)
theorem NT : ∀ (M A:List (aD×aA)),((A++M).map (·.1)).Nodup->pQ (M.map fun p=>(iG p.1,p.2)) (A.map kdS)=(A++M).map kdS
 | [],A,_=>by simp[pQ]
 | p::M,A,h=>by
  show pQ (M.map fun p=>(iG p.1,p.2)) (putD (A.map kdS) (.inr p.1) p.2)=_
  have hn:p.1∉A.map (·.1):=fun m=>by
   rw[wW] at h
   exact(wV.mp h).2.2 p.1 m p.1 (by simp) rfl
  rw[Mf hn,NT M (A++[(p.1,p.2)]) (by simpa using h)]
  simp
theorem yP {z:aD}{d:aA} : ∀ {A:List (aD×aA)},(A.map (·.1)).Nodup->(z,d)∈A->bZ (A.map kdS) (.inr z)=some d
 | [],_,m=>by simp at m
 | p::A,nd,m=>by
  rw[cY,fF] at nd
  unfold bZ
  rw[cY,fR]
  rcases cP.mp m with e | m
  ·rw[← e]
   simp[kdS,cI]
  ·have hne:p.1≠z:=fun e=>nd.1 (cH.mpr ⟨(z,d),m,e.symm⟩)
   have:=yP nd.2 m
   unfold bZ at this
   simp only[kdS,cI,tL,Sum.inr.injEq,hne,decide_false]
   exact this
theorem QA {z:aD} : ∀ {A:List (aD×aA)},z∉A.map (·.1)->bZ (A.map kdS) (.inr z)=none
 | [],_=>rfl
 | p::A,h=>by
  have h':z≠p.1/\z∉A.map (·.1):=by simpa using h
  have:=QA h'.2
  unfold bZ at this ⊢
  rw[cY,fR]
  simp only[kdS,cI,tL,Sum.inr.injEq,h'.1.symm,decide_false]
  exact this
theorem CA (A:List (aD×aA)):plK (A.map kdS)=true:=by cases A <;> rfl
theorem Iy {A:List (aD×aA)}(h : ∀ p∈A,nameS p.1):((A.map kdS).all fun kd=>cO kd.1)=true:=fV.mpr fun d m=>by
 obtain⟨p,mp,rfl⟩:=cH.mp m
 obtain⟨_,_,_,_,h2,_⟩:=h p mp
 exact YL h2
theorem EH (A:List (aD×aA)):(A.map kdS).map (·.1)=(A.map (·.1)).map cT:=by
 rw[fG,fG]
 rfl
abbrev cE:=aD×Nat×List (List Int)
noncomputable def rwE (r:List Int):aA×aA:=(aU r,.bool true)
noncomputable def dtD (R:List (List Int)):aA:=.dict ((.none,.none)::R.map rwE)
noncomputable def wdT (t:cE):aD×aA:=(t.1,.int t.2.1)
noncomputable def hdT (t:cE):aD×aA:=(t.1,dtD t.2.2)
noncomputable def bkD (L:List cE):aA:=bG "Book" (.dict ((L.map wdT).map kdS)) (.dict ((L.map hdT).map kdS))
structure RsG (w:Nat)(R:List (List Int)):Prop where
 len:R.length≤59
 rw : ∀ r∈R,r.length=w/\RwG r
 nd:R.Nodup
structure BkG (L:List cE):Prop where
 len:L.length≤12
 nm : ∀ t∈L,nameS t.1
 wd : ∀ t∈L,1≤t.2.1/\t.2.1≤6
 rs : ∀ t∈L,RsG t.2.1 t.2.2
 nd:(L.map (·.1)).Nodup
theorem EO (L:List cE):(L.map wdT).map (·.1)=L.map (·.1):=by rw[fG]; rfl
theorem MM (L:List cE):(L.map hdT).map (·.1)=L.map (·.1):=by rw[fG]; rfl
noncomputable def t3 (t:aD×Nat):cE:=(t.1,t.2,[])
theorem NS : ∀ ts:List (aD×Nat),qA (ts.map dQ)=some (((ts.map t3).map wdT).map fun p=>(iG p.1,p.2))
 | []=>rfl
 | t::ts=>by
  show((qA (ts.map dQ)).bind fun r=>some ((iG t.1,aS t.2)::r))=_
  rw[NS ts]
  rfl
structure TsG (ts:List (aD×Nat)):Prop where
 len:ts.length≤12
 tb : ∀ t∈ts,BQ t
 nd:(ts.map (·.1)).Nodup
theorem yU (ts:List (aD×Nat)):(ts.map t3).map (·.1)=ts.map (·.1):=by rw[fG]; rfl
theorem TsG.bk {ts:List (aD×Nat)}(h:TsG ts):BkG (ts.map t3):=by
 refine⟨by rw[cL]; exact h.len,fun t m=>?_,fun t m=>?_,fun t m=>?_,by rw[yU]; exact h.nd⟩
 all_goals obtain⟨t,mt,rfl⟩:=cH.mp m
 ·exact(h.tb t mt).1
 ·exact(h.tb t mt).2
 ·exact⟨by simp[t3],fun r m=>by simp[t3] at m,.nil⟩
theorem Ja {ts:List (aD×Nat)}(h:TsG ts)(z:Option aD):sN z [.list (ts.map dQ)]=some (bkD (ts.map t3)):=by
 obtain⟨b,eb,hb⟩:=Ny h.len h.tb
 rw[hb.mpr h.nd] at eb
 have ed:pO [.list (ts.map dQ)]=some (.dict (((ts.map t3).map wdT).map kdS)):=by
  show((qA (ts.map dQ)).bind fun ps=>some (HZ (pQ ps [])))=_
  rw[NS,bM]
  have:=NT ((ts.map t3).map wdT) [] (by rw[List.nil_append,EO,yU]; exact h.nd)
  rw[List.map_nil,List.nil_append] at this
  rw[this]
 unfold sN uM
 show((oO [.list (ts.map dQ)]).bind _)=_
 rw[eb,bM]
 show((pO [.list (ts.map dQ)]).bind _)=_
 rw[ed,bM]
 have c1 : ∀ kd∈((ts.map t3).map wdT).map kdS,eJ kd.2=true:=fun kd m=>by
  obtain⟨p,mp,rfl⟩:=cH.mp m
  obtain⟨t,_,rfl⟩:=cH.mp mp
  rfl
 have c2:((((ts.map t3).map wdT).map kdS).map (·.1)).Nodup:=by
  rw[EH,EO,yU]
  exact tN.mpr (h.nd.imp fun h z=>h (PyData.str.inj z))
 have c3:(((ts.map t3).map wdT).map kdS).length<sizeLine:=by
  rw[cL,cL,cL]
  have:=h.len
  exact yO (by omega)
 refine(if_pos ⟨c1,c2,c3⟩).trans ?_
 unfold bkD rD
 congr 3
 simp[kdS,hdT,wdT,t3,dtD]
theorem uC (L:List cE):hX "Book" (bkD L)=some (.dict ((L.map wdT).map kdS),.dict ((L.map hdT).map kdS)):=rZ _ _ _
theorem KC (L:List cE):nR "Book" (bkD L)=some (.dict ((L.map wdT).map kdS)):=by unfold nR; rw[uC]; rfl
theorem DX (L:List cE):fH "Book" (bkD L)=some (.dict ((L.map hdT).map kdS)):=by unfold fH; rw[uC]; rfl
theorem nY {fo:EF}{fa:AF}{ρ:List (Option aA)}{L:List cE}{ds:List aA}(h:fo ρ=some (bkD L))(h2:fa ρ=some ds):eN "Book" fo fa ρ=some (bkD L::ds):=by
 unfold eN
 rw[h,bM,uC]
 show((fa ρ).bind fun ds=>some (bkD L::ds))=_
 rw[h2]
 rfl
theorem KB (R:List (List Int)):(R.map rwE).map (·.1)=R.map aU:=by
 rw[fG]
 rfl
theorem Ky {w:Nat}{R:List (List Int)}(hw:1≤w)(h:RsG w R):yJ [dtD R]=some (bW (srt R)):=by
 have e:=Lq (R:=R) (n:=w) hw (fun r m=>(h.rw r m).1) (by have:=h.len; omega)
 show((jU ((R.map rwE).map (·.1))).bind fun kss=>if okT kss=true/\kss.length<64 then some (HY ((iA kss).map gP)) else none)=_
 rw[KB]
 exact e
section
variable {L:List cE}(h:BkG L)
include h
theorem KZ {t:cE}(m:t∈L):bZ ((L.map wdT).map kdS) (.inr t.1)=some (.int t.2.1):=yP (by rw[EO]; exact h.nd) (cH.mpr ⟨t,m,rfl⟩)
theorem DU {t:cE}(m:t∈L):bZ ((L.map hdT).map kdS) (.inr t.1)=some (dtD t.2.2):=yP (by rw[MM]; exact h.nd) (cH.mpr ⟨t,m,rfl⟩)
theorem Ln (z:Option aD):vN z [bkD L]=some (.int ((L.map fun t=>(t.2.2.length:Int)).sum)):=by
 have hl:=h.len
 have hi:iDV (eUn (fH "Book") (aF 0)) (vS [s0 (bkD L)])=some (L.map fun t=>(hdT t).2):=by
  unfold iDV
  rw[show eUn (fH "Book") (aF 0) (vS [s0 (bkD L)])=some (.dict ((L.map hdT).map kdS)) from DX L,bM]
  show(if plK ((L.map hdT).map kdS)=true then some (((L.map hdT).map kdS).map (·.2)) else none)=_
  rw[CA,if_pos rfl,fG,fG]
  rfl
 have lc:=yB (cap:=[none]) (fi:=iDV (eUn (fH "Book") (aF 0))) (T:=gB 0) (t:=gT) (f:=aN rH (aJ (aF 0) aM)) (ρ:=vS [s0 (bkD L)]) (xs:=L) (q:=fun t=>(hdT t).2) (fun _=>true) (fun t=>.int t.2.2.length) hi (by omega) (fun t mt=>⟨[some (hdT t).2],rfl,rfl,fun _=>bT (ds:=[(hdT t).2]) rfl (by show some (aS ((t.2.2.map rwE).length:Nat))=_; rw[cL])⟩)
 rw[xC.mpr (by simp)] at lc
 refine kS rfl (iF (d:=.int ((L.map fun t=>(t.2.2.length:Int)).sum)) (bT (dY lc rfl) ?_) rfl)
 have : ∀ l:List cE,lH (l.map fun t=>aS t.2.2.length)=some (l.map fun t=>(t.2.2.length:Int)):=fun l=>by
  induction l with
  | nil=>rfl
  | cons a l ih=>
   show((lH (l.map fun t=>aS t.2.2.length)).bind fun is=>some ((a.2.2.length:Int)::is))=_
   rw[ih]
   rfl
 show((lH (L.map fun t=>aS t.2.2.length)).bind fun is=>some (aS is.sum))=_
 rw[this,bM]
theorem LB (z:Option aD){t:cE}(m:t∈L):oU z [bkD L,.str t.1]=some .none:=by
 have e1:aN jM (aJ (aF 1) aM) (vS [s0 (bkD L),s0 (.str t.1)])=some (.bool true):=bT (ds:=[.str t.1]) rfl (OH (h.nm t m))
 have e2:eOp (gIn true) (aF 1) (eUn (nR "Book") (aF 0)) (vS [s0 (bkD L),s0 (.str t.1)])=some (.bool false):=by
  refine bY (a:=.str t.1) (b:=.dict ((L.map wdT).map kdS)) rfl (KC L) ?_
  show(if plK ((L.map wdT).map kdS)=true then(cI (.str t.1)).bind fun k=>some (fE (true != (bZ ((L.map wdT).map kdS) k).isSome)) else _)=_
  rw[if_pos (CA _)]
  show some (fE (true != (bZ ((L.map wdT).map kdS) (.inr t.1)).isSome))=_
  rw[KZ h m]
  rfl
 show fnD 2 2 (zR z) [bkD L,.str t.1]=_
 have:zR z [s0 (bkD L),s0 (.str t.1)]=some (.nx [s0 (bkD L),s0 (.str t.1)]):=iT (mS (x:=false) (y:=false) (iW e1) fun _=>mQ e2)
 show outD (zR z [s0 (bkD L),s0 (.str t.1)])=_
 rw[this]
 rfl
theorem MQ {F:FX}{fa:AF}{ρ:bC}{G:SF}{P:Out->Prop}{ds:List aA}{z:Option aD}(e1:fa (vS ρ)=some ds)(e2:F z ds=some .none)(k:Goes G ρ P):Goes (bH (mT 0 .s (aN (F z) fa)) G) ρ P:=by
 refine fO (ρ':=ρ) ?_ k
 have e:eV 0 .s (aN (F z) fa) ρ=some .none:=bT e1 e2
 unfold mT
 rw[e]
 rfl
theorem KM (z:Option aD){t:cE}(m:t∈L):oM z [bkD L,.str t.1]=some (bW (srt t.2.2)):=by
 refine kS rfl (MQ h (nY (ds:=[.str t.1]) rfl rfl) (LB h z m) (iF (d:=bW (srt t.2.2)) (bT (ds:=[dtD t.2.2]) (dY (g:=aM) (bY (a:=.dict ((L.map hdT).map kdS)) (b:=.str t.1) (DX L) rfl (DU h m)) rfl) (Ky (h.wd t m).1 (h.rs t m))) rfl))
theorem LF (z:Option aD){t:cE}(m:t∈L){r:List Int}(hr:RwG r)(hl:r.length=t.2.1):gD z [bkD L,.str t.1,aU r]=some .none:=by
 show outD (zQ z [s0 (bkD L),s0 (.str t.1),s0 (aU r)])=_
 have t1:bV .s (bOr (eO (bOf (aN pV (aJ (aF 2) aM)))) (bOf (eOp gNe (aN cU (aJ (aF 2) aM)) (eOp gIx (eUn (nR "Book") (aF 0)) (aF 1))))) [s0 (bkD L),s0 (.str t.1),s0 (aU r)]=some false:=by
  refine mS (x:=false) (y:=false) (iW (bT (ds:=[aU r]) rfl hr.row)) fun _=>mQ (bY (a:=.int r.length) (b:=.int t.2.1) (bT (ds:=[aU r]) rfl ((LQ _).trans (by rw[cL]))) (bY (a:=.dict ((L.map wdT).map kdS)) (b:=.str t.1) (KC L) rfl (KZ h m)) ?_)
  show some (fE (!(cS (.int r.length) (.int t.2.1))))=_
  rw[hl]
  simp[cS]
 have:zQ z [s0 (bkD L),s0 (.str t.1),s0 (aU r)]=some (.nx [s0 (bkD L),s0 (.str t.1),s0 (aU r)]):=by
  unfold zQ
  have e:eV 0 .s (aN (oU z) (eN "Book" (aF 0) (aJ (aF 1) aM))) [s0 (bkD L),s0 (.str t.1),s0 (aU r)]=some .none:=bT (nY (ds:=[.str t.1]) rfl rfl) (LB h _ m)
  unfold bH mT
  rw[e]
  exact iT t1
 rw[this]
 rfl
end
theorem CZ : ∀ {L:List cE} {t:cE},(L.map (·.1)).Nodup->t∈L->L.find? (fun x=>decide (x.1=t.1))=some t
 | [],t,_,m=>by simp at m
 | x::L,t,nd,m=>by
  rw[cY,fF] at nd
  rw[fR]
  rcases cP.mp m with rfl | m
  ·simp
  ·have:x.1≠t.1:=fun e=>nd.1 (by rw[e]; exact cH.mpr ⟨t,m,rfl⟩)
   simp only[this,decide_false]
   exact CZ nd.2 m
theorem RL {L:List cE}(h:BkG L){t:cE}(m:t∈L) : ∀ x∈L,x.1=t.1->x=t:=fun x mx e=>by
 have h1:=CZ h.nd m
 have h2:=CZ h.nd mx
 rw[e] at h2
 exact dZ (h2.symm.trans h1)
noncomputable def chR (z:aD)(R:List (List Int))(t:cE):cE:=if t.1=z then(t.1,t.2.1,R) else t
theorem xU (z:aD)(R:List (List Int))(t:cE):(chR z R t).1=t.1:=by unfold chR; split <;> rfl
theorem AD (z:aD)(R:List (List Int))(t:cE):(chR z R t).2.1=t.2.1:=by unfold chR; split <;> rfl
theorem yW {z:aD}{R:List (List Int)}{t:cE}(e:t.1=z):chR z R t=(t.1,t.2.1,R):=if_pos e
theorem uV {z:aD}{R:List (List Int)}{t:cE}(e:t.1≠z):chR z R t=t:=if_neg e
theorem Bx (L:List cE)(z:aD)(R:List (List Int)):(L.map (chR z R)).map (·.1)=L.map (·.1):=by
 rw[fG]
 exact nN fun t _=>xU z R t
theorem Oj (L:List cE)(z:aD)(R:List (List Int)):(L.map (chR z R)).map (fun t=>(t.1,t.2.1))=L.map (fun t=>(t.1,t.2.1)):=by
 rw[fG]
 exact nN fun t _=>by
  show((chR z R t).1,(chR z R t).2.1)=_
  rw[xU,AD]
theorem YF (L:List cE)(z:aD)(R:List (List Int)):(L.map (chR z R)).map wdT=L.map wdT:=by
 rw[fG]
 refine nN fun t _=>?_
 show((chR z R t).1,aS (chR z R t).2.1)=_
 rw[xU,AD]
 rfl
theorem Ma (L:List cE)(z:aD)(R:List (List Int)):gR ((L.map hdT).map kdS) z (dtD R)=((L.map (chR z R)).map hdT).map kdS:=by
 unfold gR
 rw[fG,fG,fG,fG]
 refine nN fun x m=>?_
 show(if cI (.str x.1)=some (.inr z) then _ else _)=kdS (hdT (chR z R x))
 by_cases e:x.1=z
 ·rw[if_pos (show cI (.str x.1)=some (.inr z) by rw[e]; rfl),yW e]
  rfl
 ·rw[if_neg (fun q=>e (by simpa [cI] using q)),uV e]
noncomputable def mdT (t:cE):aD×aA:=(t.1,bW t.2.2)
noncomputable def mdD (L:List cE):aA:=.dict ((L.map mdT).map kdS)
theorem EE (L:List cE):(L.map mdT).map (·.1)=L.map (·.1):=by rw[fG]; rfl
theorem CW (z:aD)(R:List (List Int)) : ∀ {L:List cE},(L.map (·.1)).Nodup->iJ ((L.map mdT).map kdS) (.inr z) (bW R)=((L.map (chR z R)).map mdT).map kdS
 | [],_=>rfl
 | x::L,nd=>by
  rw[cY,fF] at nd
  show(if cI (.str x.1)=some (.inr z) then(cT x.1,bW R)::((L.map mdT).map kdS) else(cT x.1,bW x.2.2)::iJ ((L.map mdT).map kdS) (.inr z) (bW R))=kdS (mdT (chR z R x))::_
  by_cases e:x.1=z
  ·rw[if_pos (show cI (.str x.1)=some (.inr z) by rw[e]; rfl),yW e]
   have:L.map (chR z R)=L:=by
    have:=nN (f:=chR z R) (g:=id) (l:=L) fun t m=>uV fun q=>nd.1 (by rw[e,← q]; exact cH.mpr ⟨t,m,rfl⟩)
    rw[this,tO]
   rw[this]
   rfl
  ·rw[if_neg (fun q=>e (by simpa [cI] using q)),uV e,CW z R nd.2]
   rfl
theorem YC (L:List cE)(z:aD)(R:List (List Int)):bG "Book" (.dict ((L.map wdT).map kdS)) (.dict (gR ((L.map hdT).map kdS) z (dtD R)))=bkD (L.map (chR z R)):=by
 rw[Ma]
 unfold bkD
 rw[YF]
theorem Nl (R:List (List Int))(r:List Int):fI (R.map aU) (r.map aS)=decide (r∈R):=by
 show((R.map aU).any fun z=>cS z (aU r))=_
 rw[List.any_map]
 by_cases h:r∈R
 ·rw[decide_eq_true h]
  exact IJ.mpr ⟨r,h,by simp[oA]⟩
 ·rw[decide_eq_false h,UW]
  intro x mx
  simp only[Function.comp,oA,decide_eq_true_eq]
  exact fun e=>h (e ▸ mx)
noncomputable def kR (R:List (List Int))(r:List Int):List (List Int):=R.filter fun x=>decide (x≠r)
theorem LL : ∀ {R:List (List Int)} {r:List Int},R.Nodup->r∈R -> ∃ j,atD (R.map aU) (aU r)=some j/\(R.map aU).eraseIdx j=(kR R r).map aU
 | [],_,_,m=>by simp at m
 | x::R,r,nd,m=>by
  rw[fF] at nd
  by_cases e:x=r
  ·subst e
   refine⟨0,by simp[atD,List.findIdx?_cons,oA],?_⟩
   unfold kR
   rw[qR,if_neg (by simp)]
   rw[xC.mpr fun y my=>decide_eq_true (show y≠x from fun z=>nd.1 (z ▸ my))]
   rfl
  ·obtain⟨j,h1,h2⟩:=LL nd.2 ((cP.mp m).resolve_left fun z=>e z.symm)
   refine⟨j+1,?_,?_⟩
   ·unfold atD at h1 ⊢
    rw[cY,List.findIdx?_cons,oA,decide_eq_false e,h1]
    rfl
   ·unfold kR at h2 ⊢
    rw[cY,Oy,h2,qR,if_pos (by simpa using e),cY]
theorem Iv {R:List (List Int)}{r:List Int}(h:r∉R):atD (R.map aU) (aU r)=none:=by
 unfold atD
 rw[List.findIdx?_eq_none_iff]
 intro x m
 obtain⟨y,my,rfl⟩:=cH.mp m
 rw[oA]
 exact decide_eq_false (show ¬ y=r from fun z=>h (z ▸ my))
theorem Ap (R:List (List Int))(r:List Int):pK (R.map rwE) (r.map aS)=(kR R r).map rwE:=by
 unfold pK kR
 rw[List.filter_map]
 congr 1
 refine List.filter_congr fun x _=>?_
 show decide (aU x≠aU r)=decide (x≠r)
 exact decide_eq_decide.mpr ⟨fun h z=>h (by rw[z]),fun h z=>h (uO z)⟩
theorem RsG.add {w:Nat}{R:List (List Int)}(h:RsG w R)(hl:R.length<59){r:List Int}(hr:RwG r)(hw:r.length=w)(hn:r∉R):RsG w (R++[r]):=by
 refine⟨by rw[wX]; simp; omega,fun x m=>?_,?_⟩
 ·rcases nM.mp m with m | m
  ·exact h.rw x m
  ·rw[dH.mp m]; exact⟨hw,hr⟩
 ·refine wV.mpr ⟨h.nd,fF.mpr ⟨by simp,.nil⟩,fun a ma b mb=>?_⟩
  rw[dH.mp mb]
  intro z
  exact hn (z ▸ ma)
theorem RsG.less {w:Nat}{R:List (List Int)}(h:RsG w R)(r:List Int):RsG w (kR R r):=
 ⟨jC (List.length_filter_le _ _) h.len,fun x m=>h.rw x (AX.mp m).1,h.nd.sublist List.filter_sublist⟩
section
variable {L:List cE}(h:BkG L)
include h
theorem uQ {t:cE}(m:t∈L):bZ ((L.map mdT).map kdS) (.inr t.1)=some (bW t.2.2):=yP (by rw[EE]; exact h.nd) (cH.mpr ⟨t,m,rfl⟩)
theorem Jt {t:cE}(m:t∈L){R:List (List Int)}(hR:RsG t.2.1 R):BkG (L.map (chR t.1 R)):=by
 refine⟨by rw[cL]; exact h.len,fun x mx=>?_,fun x mx=>?_,fun x mx=>?_,by rw[Bx]; exact h.nd⟩
 all_goals obtain⟨y,my,rfl⟩:=cH.mp mx
 ·rw[xU]; exact h.nm y my
 ·rw[AD]; exact h.wd y my
 ·rw[AD]
  by_cases e:y.1=t.1
  ·rw[yW e]
   have:=RL h m y my e
   subst this
   exact hR
  ·rw[uV e]
   exact h.rs y my
theorem zY {g:List (aA×aA)->List aA->Option (Bool×List (aA×aA))}{t:cE}(m:t∈L){r:List Int}(hr:RwG r)(hw:r.length=t.2.1){b:Bool}{R:List (List Int)}(hg:g (t.2.2.map rwE) (r.map aS)=some (b,R.map rwE)) :
  pP "Book" gD g [bkD L,.str t.1,aU r]=some (b,if b=true then bkD (L.map (chR t.1 R)) else bkD L):=by
 have c2:(((L.map hdT).map kdS).map (·.1)).Nodup:=by
  rw[EH,MM]
  exact tN.mpr (h.nd.imp fun h z=>h (PyData.str.inj z))
 have d1:=pW r
 have d2:=sE r
 unfold pP
 show((hX "Book" (bkD L)).bind _)=_
 rw[uC,bM]
 show((gD none [bkD L,.str t.1,.tuple (r.map aS)]).bind _)=_
 rw[show gD none [bkD L,.str t.1,.tuple (r.map aS)]=some .none from LF h none m hr hw,bM,DU h m,bM]
 refine(if_pos ⟨d1,by omega,c2⟩).trans ?_
 rw[hg,bM]
 show some (b,if b=true then bG "Book" (.dict ((L.map wdT).map kdS)) (.dict (gR ((L.map hdT).map kdS) t.1 (dtD R))) else bkD L)=_
 rw[YC]
theorem zN {R:List (List Int)}{r:List Int}:gP (r.map aS)∈(R.map rwE).map (·.1)↔r∈R:=by
 rw[KB]
 refine⟨fun z=>?_,fun z=>cH.mpr ⟨r,z,rfl⟩⟩
 obtain⟨r',mr,e⟩:=cH.mp z
 exact uO e ▸ mr
theorem Jc {t:cE}(m:t∈L){r:List Int}(hr:RwG r)(hw:r.length=t.2.1)(hn:r∉t.2.2)(hl:t.2.2.length<59):oR [bkD L,.str t.1,aU r]=some (true,bkD (L.map (chR t.1 (t.2.2++[r])))):=by
 refine zY h m hr hw (b:=true) (R:=t.2.2++[r]) ?_
 unfold BW
 rw[if_neg (fun z=>hn ((zN h).mp z)),if_pos (by rw[cL]; omega),wW]
 rfl
theorem Jh {t:cE}(m:t∈L){r:List Int}(hr:RwG r)(hw:r.length=t.2.1)(hn:r∈t.2.2):oR [bkD L,.str t.1,aU r]=some (false,bkD L):=by
 refine zY h m hr hw (b:=false) (R:=t.2.2) ?_
 unfold BW
 rw[if_pos ((zN h).mpr hn)]
theorem Mv {t:cE}(m:t∈L){r:List Int}(hr:RwG r)(hw:r.length=t.2.1)(hn:r∈t.2.2):oK [bkD L,.str t.1,aU r]=some (true,bkD (L.map (chR t.1 (kR t.2.2 r)))):=by
 refine zY h m hr hw (b:=true) (R:=kR t.2.2 r) ?_
 unfold HC
 rw[if_pos ((zN h).mpr hn),Ap]
theorem Nw {t:cE}(m:t∈L){r:List Int}(hr:RwG r)(hw:r.length=t.2.1)(hn:r∉t.2.2):oK [bkD L,.str t.1,aU r]=some (false,bkD L):=by
 refine zY h m hr hw (b:=false) (R:=t.2.2) ?_
 unfold HC
 rw[if_neg (fun z=>hn ((zN h).mp z))]
end
theorem Av (R:List (List Int))(r:List Int):(iC (R.map rwE) (r.map aS)).isSome=decide (r∈R):=by
 induction R with
 | nil=>rfl
 | cons x R ih=>
  show(iC ((.tuple (x.map aS),.bool true)::R.map rwE) (r.map aS)).isSome=_
  rw[zF (pW x) (pW r)]
  by_cases e:x=r
  ·subst e
   rw[if_pos rfl]
   simp
  ·rw[if_neg (fun z=>e (uO (congrArg gP z))),ih]
   refine decide_eq_decide.mpr ⟨fun m=>cD _ m,fun m=>(cP.mp m).resolve_left fun z=>e z.symm⟩
theorem uP (a b:Bool):gC [.bool a,.bool b]=some (.bool (a == b)):=by cases a <;> cases b <;> rfl
section
variable {L:List cE}(h:BkG L)
include h
theorem Ho (z:Option aD){t:cE}(m:t∈L){r:List Int}(hr:RwG r)(hw:r.length=t.2.1):kY z [bkD L,.str t.1,aU r]=some (.bool (decide (r∈t.2.2))):=by
 refine kS rfl (MQ h (nY (ds:=[.str t.1,aU r]) rfl rfl) (LF h z m hr hw) (iF (d:=.bool (decide (r∈t.2.2))) (bY (a:=aU r) (b:=dtD t.2.2) rfl (bY (a:=.dict ((L.map hdT).map kdS)) (b:=.str t.1) (DX L) rfl (DU h m)) ?_) rfl))
 have d1:=pW r
 have d2:=sE r
 show(if (bP (r.map aS)&&decide (dB (r.map aS)≤6))=true then some (fE (false != (iC (t.2.2.map rwE) (r.map aS)).isSome)) else none)=_
 rw[d1,decide_eq_true (by omega),Av]
 simp
theorem Jp {t:cE}(m:t∈L){r:List Int}(hr:RwG r)(hw:r.length=t.2.1)(hl:t.2.2.length<59)(way:Int) : ∃ R,RsG t.2.1 R/\jL [bkD L,mdD L,.str t.1,aU r,.int way]=some (true,bkD (L.map (chR t.1 R)),mdD (L.map (chR t.1 R))):=by
 have hR:=h.rs t m
 have same:L.map (chR t.1 t.2.2)=L:=by
  have : ∀ x∈L,chR t.1 t.2.2 x=id x:=fun x mx=>by
   by_cases e:x.1=t.1
   ·have:=RL h m x mx e
    subst this
    exact yW rfl
   ·exact uV e
  rw[nN this,tO]
 have ed : ∀ q:Option (Bool×aA×aA),(if way<4 then(oR [bkD L,.str t.1,aU r]).bind fun q=>(gC [.bool q.1,.bool (!decide (r∈t.2.2))]).bind fun r'=>(asB r').bind fun r'=>some (r',q.2,if (!decide (r∈t.2.2)&&decide (t.2.2.length<60))=true then HZ (iJ ((L.map mdT).map kdS) (.inr t.1) (.list (t.2.2.map aU++[aU r]))) else mdD L)
    else if way<6 then(oK [bkD L,.str t.1,aU r]).bind fun q=>(gC [.bool q.1,.bool (decide (r∈t.2.2))]).bind fun r'=>(asB r').bind fun r'=>some (r',q.2,match atD (t.2.2.map aU) (aU r) with | some j=>.dict (iJ ((L.map mdT).map kdS) (.inr t.1) (.list ((t.2.2.map aU).eraseIdx j))) | none=>mdD L)
    else(kY none [bkD L,.str t.1,aU r]).bind fun b=>(gC [b,.bool (decide (r∈t.2.2))]).bind fun r'=>(asB r').bind fun r'=>some (r',bkD L,mdD L))=q->jL [bkD L,mdD L,.str t.1,aU r,.int way]=q:=fun q e=>by
  unfold jL
  show(match bZ ((L.map mdT).map kdS) (.inr t.1) with | some (.list rs)=>_ | _=>none)=q
  rw[uQ h m]
  show(if (hX "Book" (bkD L)).isSome=true/\dF (aU r)=true/\noDicts (t.2.2.map aU)=true/\(t.2.2.map aU).length<1000 then _ else none)=q
  rw[if_pos ⟨by rw[uC]; rfl,EB r,GJ _,by rw[cL]; omega⟩]
  rw[Nl,cL]
  exact e
 by_cases h4:way<4
 ·by_cases hn:r∈t.2.2
  ·refine⟨t.2.2,hR,ed _ ?_⟩
   rw[if_pos h4,Jh h m hr hw hn,same,decide_eq_true hn,bM]
   show((gC [.bool false,.bool false]).bind _)=_
   rw[uP]
   rfl
  ·refine⟨t.2.2++[r],hR.add hl hr hw hn,ed _ ?_⟩
   rw[if_pos h4,Jc h m hr hw hn hl,decide_eq_false hn,decide_eq_true (show t.2.2.length<60 by omega),bM]
   show((gC [.bool true,.bool true]).bind _)=_
   rw[uP]
   show some (true,_,HZ (iJ ((L.map mdT).map kdS) (.inr t.1) (.list (t.2.2.map aU++[aU r]))))=_
   have:HY (t.2.2.map aU++[aU r])=bW (t.2.2++[r]):=by unfold bW; rw[wW]; rfl
   rw[this,CW _ _ h.nd]
   rfl
 by_cases h6:way<6
 ·by_cases hn:r∈t.2.2
  ·refine⟨kR t.2.2 r,hR.less r,ed _ ?_⟩
   obtain⟨j,hj,ej⟩:=LL hR.nd hn
   rw[if_neg h4,if_pos h6,Mv h m hr hw hn,decide_eq_true hn,bM]
   show((gC [.bool true,.bool true]).bind _)=_
   rw[uP,hj]
   show some (true,_,HZ (iJ ((L.map mdT).map kdS) (.inr t.1) (.list ((t.2.2.map aU).eraseIdx j))))=_
   rw[ej,show HY ((kR t.2.2 r).map aU)=bW (kR t.2.2 r) from rfl,CW _ _ h.nd]
   rfl
  ·refine⟨t.2.2,hR,ed _ ?_⟩
   rw[if_neg h4,if_pos h6,Nw h m hr hw hn,same,decide_eq_false hn,bM]
   show((gC [.bool false,.bool false]).bind _)=_
   rw[uP,Iv hn]
   rfl
 ·refine⟨t.2.2,hR,ed _ ?_⟩
  rw[if_neg h4,if_neg h6,Ho h none m hr hw,same,bM,uP]
  simp[asB]
end
theorem SU {R:List (List Int)}{k:Nat}(h:k<(srt R).length):(iA (R.map fun r=>r.map aS))[k]?=some ((srt R)[k].map aS):=by
 have hk:k<(iA (R.map fun r=>r.map aS)).length:=by simpa [srt] using h
 rw[iP hk]
 congr 1
 have m:=(vI _).mem_iff.mp (pA hk)
 obtain⟨r,_,e⟩:=cH.mp m
 have e2:(srt R)[k]=r:=by
  show((iA (R.map fun r=>r.map aS)).map fun k=>k.map asI)[k]'(by simpa using hk)=r
  rw[List.getElem_map,← e,uT]
 rw[e2,e]
theorem ZD {w:Nat}{R:List (List Int)}(h:RsG w R){j k:Nat}(hjk:j<k)(hk:k<(srt R).length):xR (aU (srt R)[j]) (aU (srt R)[k])=some (.bool true):=by
 have hj:j<(srt R).length:=by omega
 let a:=(srt R)[j]
 let b:=(srt R)[k]
 have ma:a∈R:=Arw.mp (pA hj)
 have mb:b∈R:=Arw.mp (pA hk)
 have ne:a≠b:=fun e=>by
  have nd:(srt R).Nodup:=(EY R).nodup_iff.mpr h.nd
  have:=(List.getElem_inj (h₀:=hj) (h₁:=hk) nd).mp e
  omega
 have le:leT (a.map aS) (b.map aS)=true:=by
  have hp:=QU (R.map fun r=>r.map aS)
  have ea:=SU hj
  have eb:=SU hk
  obtain⟨la,ea⟩:=dU.mp ea
  obtain⟨lb,eb⟩:=dU.mp eb
  have:=(Ow.mp hp) j k la lb hjk
  rw[ea,eb] at this
  exact this
 have sm:dM (a.map aS) (b.map aS)=true:=FA a b ((h.rw a ma).1.trans (h.rw b mb).1.symm)
 have lt:bN (a.map aS)<bN (b.map aS):=Pe fun n=>ne (uO (congrArg gP (ML sm le (Ahj.mpr n))))
 have k1:=pW a
 have k2:=pW b
 have d1:=sE a
 have d2:=sE b
 show(if (bP (a.map aS)=true/\dB (a.map aS)≤6)/\(bP (b.map aS)=true/\dB (b.map aS)≤6)/\dM (a.map aS) (b.map aS)=true then some (fE (decide (bN (a.map aS)<bN (b.map aS)))) else none)=_
 rw[if_pos ⟨⟨k1,by omega⟩,⟨k2,by omega⟩,sm⟩,decide_eq_true lt]
theorem KG {f:EF}{ρ:List (Option aA)}{R:List (List Int)}{j:Nat}(e:aF 0 ρ=some (bW R))(ef:f ρ=some (.int j))(hj:j<R.length):eOp gIx (aF 0) f ρ=some (aU R[j]):=
 bY (a:=bW R) (b:=.int j) e ef (pS (by rw[eY,iP hj]; rfl))
theorem yZ (R:List (List Int)):cU [bW R]=some (.int R.length):=by
 show some (aS ((R.map aU).length:Nat))=_
 rw[cL]
theorem PH {w:Nat}{R:List (List Int)}(h:RsG w R):pY [bW (srt R),bW R]=some (.bool true):=by
 have hl:=h.len
 have sl:=DL R
 have lens : ∀ ρ:List (Option aA),aF 0 ρ=some (bW (srt R))->aN cU (aJ (aF 0) aM) ρ=some (.int R.length):=fun ρ e=>bT (ds:=[bW (srt R)]) (dY e rfl) ((yZ _).trans (by rw[sl]))
 refine kS rfl (fO (iT (mS (x:=false) (y:=false) (iW (x:=true) rfl) fun _=>mQ (bY (a:=.int R.length) (b:=.int R.length) (lens _ rfl) (bT (ds:=[bW R]) rfl (yZ R)) ?_))) ?_)
 ·unfold gNe
  show some (fE (!cS (.int R.length) (.int R.length)))=_
  simp[cS]
 refine iV (fun ρ'=>∃ x,ρ'=[s0 (bW (srt R)),s0 (bW R),x]) ?_ ?_
 ·refine DY (n:=R.length) (fun _ ρ'=>∃ x,ρ'=[s0 (bW (srt R)),s0 (bW R),x]) (avS (uF (dY (lens _ rfl) rfl) (by omega))) ⟨_,rfl⟩ ?_ ?_
  ·rintro i _ hi ⟨x,rfl⟩
   refine⟨[s0 (bW (srt R)),s0 (bW R),s0 (.int i)],rfl,?_⟩
   have hi2:i<(srt R).length:=by omega
   have e1:eOp gIx (aF 0) (aF 2) (vS [s0 (bW (srt R)),s0 (bW R),s0 (.int i)])=some (aU (srt R)[i]):=KG rfl rfl hi2
   refine⟨_,iT (mS (x:=false) (y:=false) (iW (x:=true) ?_) fun _=>mS (x:=false) (y:=false) (mQ (bY (a:=aU (srt R)[i]) (b:=bW R) e1 rfl ((Iz true _ R).trans ?_))) fun _=>?_),_,.inl rfl,_,rfl⟩
   ·show((eOp gIx (aF 0) (aF 2) (vS [s0 (bW (srt R)),s0 (bW R),s0 (.int i)])).bind (gG "tuple"))=_
    rw[e1]
    rfl
   ·rw[decide_eq_true (Arw.mp (pA hi2))]
    rfl
   ·by_cases h0:i=0
    ·subst h0
     rfl
    ·have hg:(0:Int)<i:=by omega
     refine Jb (x:=true) (y:=false) (mQ ?_) fun _=>?_
     ·show some (fE (decide ((0:Int)<(i:Int))))=_
      rw[decide_eq_true hg]
     ·refine iW (x:=true) (bY (a:=aU ((srt R)[i - 1]'(by omega))) (b:=aU (srt R)[i]) (KG (j:=i - 1) rfl ?_ (by omega)) e1 (ZD h (by omega) hi2))
      show some (aS ((i:Int) - 1))=_
      congr 2
      omega
  ·rintro _ ⟨x,rfl⟩
   exact⟨_,rfl,x,rfl⟩
 rintro _ ⟨x,rfl⟩
 exact iF rfl rfl
theorem SZ {L:List cE}(h:BkG L){f:EF}{ρ:List (Option aA)}(e:f ρ=some (mdD L)):iDK f ρ=some ((L.map (·.1)).map cT):=by
 unfold iDK
 rw[e]
 show(if (plK ((L.map mdT).map kdS)&&((L.map mdT).map kdS).all fun kd=>cO kd.1)=true then some (((L.map mdT).map kdS).map (·.1)) else none)=_
 rw[CA,Iy fun p m=>?_]
 ·show some _=_
  rw[EH,EE]
 ·obtain⟨t,mt,rfl⟩:=cH.mp m
  exact h.nm t mt
theorem FS {L:List cE}(h:BkG L):pZ [bkD L,mdD L]=some (.bool true):=by
 have hl:=h.len
 let n:Int:=(L.map fun t=>(t.2.2.length:Int)).sum
 refine kS rfl (lQ (d:=.int n) (bT (nY (ds:=[]) rfl rfl) (Ln h none)) (by simp) ?_)
 have hi:iDK (aF 1) (vS [s0 (bkD L),s0 (mdD L),s0 (.int n)])=some (L.map fun t=>cT t.1):=by
  rw[SZ h rfl,fG]
  rfl
 have lc:=yB (cap:=[none,some 1]) (fi:=iDK (aF 1)) (T:=gB 0) (t:=gT) (f:=aN cU (aJ (eOp gIx (aF 1) (aF 0)) aM)) (ρ:=vS [s0 (bkD L),s0 (mdD L),s0 (.int n)]) (xs:=L) (q:=fun t=>.str t.1) (fun _=>true) (fun t=>.int t.2.2.length) hi (by omega) (fun t mt=>⟨[some (.str t.1),some (mdD L)],rfl,rfl,fun _=>bT (ds:=[bW t.2.2]) (dY (g:=aM) (bY (a:=mdD L) (b:=.str t.1) rfl rfl (uQ h mt)) rfl) (yZ _)⟩)
 rw[xC.mpr (by simp)] at lc
 have asI' : ∀ l:List cE,lH (l.map fun t=>aS t.2.2.length)=some (l.map fun t=>(t.2.2.length:Int)):=fun l=>by
  induction l with
  | nil=>rfl
  | cons a l ih=>
   show((lH (l.map fun t=>aS t.2.2.length)).bind fun is=>some ((a.2.2.length:Int)::is))=_
   rw[ih]
   rfl
 refine iF (d:=.bool true) (oF (x:=true) (y:=true) rfl fun _=>oF (x:=true) (y:=true) rfl fun _=>bY (a:=.int n) (b:=.int n) rfl (bT (dY (g:=aM) lc rfl) ?_) ((Lh _ _).trans (by simp))) rfl
 show((lH (L.map fun t=>aS t.2.2.length)).bind fun is=>some (aS is.sum))=_
 rw[asI',bM]
theorem Aq (c:Int) : ∃ vs:List Int,vY [.int c]=some (.list (vs.map aS))/\vs.length=3 /\ ∀ v∈vs,v.natAbs<10 ^ 70:=by
 let far:Int:=10 ^ 70 - 1
 have hf:far=10 ^ 70 - 1:=rfl
 have b:=gK c (show(0:Int)<2*far+1 by rw[hf]; omega)
 have b2:=gK (cJ c 21) (show(0:Int)<(100:Nat) by decide)
 let big:Int:=c%(2*far+1) - far
 refine⟨[big,0 - big,cJ c 21%(100:Nat)],?_,rfl,fun v m=>?_⟩
 ·refine kS rfl (lQ (d:=.int far) (bY (a:=.int (10 ^ 70)) (b:=.int 1) (WZ _) rfl rfl) (by simp) ?_)
  have e2:eT (.int 2) (.int far)=some (.int (2*far)):=WE (by decide)
  refine lQ (d:=.int big) (bY (a:=.int (c%(2*far+1))) (b:=.int far) (bY (a:=.int c) (b:=.int (2*far+1)) rfl (bY (a:=.int (2*far)) (b:=.int 1) (bY (a:=.int 2) (b:=.int far) rfl rfl e2) rfl rfl) (LD (by rw[hf]; omega))) rfl rfl) (by simp) ?_
  exact iF (d:=.list ([big,0 - big,cJ c 21%(100:Nat)].map aS)) (YY (dY rfl (dY (bY (a:=.int 0) (b:=.int big) rfl rfl rfl) (dY (g:=aM) (bY (a:=.int (cJ c 21)) (b:=.int (100:Nat)) (bT (ds:=[.int c,.int 21]) rfl (gZ c 21 (by omega) (by omega))) rfl (pH _ 100 (by omega))) rfl)))) rfl
 ·have hb:big=c%(2*far+1) - far:=rfl
  simp only[cP,List.not_mem_nil,or_false] at m
  rcases m with rfl | rfl | rfl <;> omega
theorem Il (c:Int){vs:List Int}(h3:vs.length=3){w:Nat}(hw:w≤6) : ∃ r:List Int,vK [.int c,.list (vs.map aS),.int w]=some (aU r)/\r.length=w /\ ∀ v∈r,v∈vs:=by
 let V:aA:=.list (vs.map aS)
 have go:Goes GB [s0 (.int c),s0 V,s0 (.int w),none,none,none] fun o=>∃ r:List Int,o = .rt (aU r)/\r.length=w /\ ∀ v∈r,v∈vs:=by
  refine lQ (d:=.int (cJ c 22)) (bT (ds:=[.int c,.int 22]) rfl (gZ c 22 (by omega) (by omega))) (by simp) ?_
  refine fO (ρ':=[s0 (.int c),s0 V,s0 (.int w),s0 (.int (cJ c 22)),some (1,.list []),none]) rfl ?_
  refine iV (fun ρ'=>∃ (r:List Int) (n:Int) (x:L2.Slot),r.length=w/\(∀ v∈r,v∈vs)/\ρ'=[s0 (.int c),s0 V,s0 (.int w),s0 (.int n),some (1,.list (r.map aS)),x]) ?_ ?_
  ·refine DY (n:=w) (fun i ρ'=>∃ (r:List Int) (n:Int) (x:L2.Slot),r.length=i/\(∀ v∈r,v∈vs)/\ρ'=[s0 (.int c),s0 V,s0 (.int w),s0 (.int n),some (1,.list (r.map aS)),x]) (avS (uF rfl (by omega))) ⟨[],_,_,rfl,fun v m=>by simp at m,rfl⟩ ?_ ?_
   ·rintro i _ hi ⟨r,n,x,lr,hr,rfl⟩
    refine⟨[s0 (.int c),s0 V,s0 (.int w),s0 (.int n),some (1,.list (r.map aS)),s0 (.int i)],rfl,?_⟩
    have b:=gK n (show(0:Int)<(3:Nat) by decide)
    obtain⟨j,ej⟩:=qT b.1
    have hj:j<vs.length:=by omega
    refine iV (fun ρ'=>ρ'=[s0 (.int c),s0 V,s0 (.int w),s0 (.int n),some (1,.list ((r++[vs[j]]).map aS)),s0 (.int i)]) ?_ ?_
    ·refine DC (d:=.int vs[j]) (ds:=r.map aS) (bY (a:=V) (b:=.int j) rfl (bY (a:=.int n) (b:=.int (3:Nat)) rfl rfl ((pH _ 3 (by omega)).trans (by rw[ej]))) (pS (by rw[eY,iP hj]; rfl))) rfl (by simp; omega) ⟨_,rfl,?_⟩
     simp[wW]
    rintro _ rfl
    refine lQ (d:=.int (n / (3:Nat))) (bY (a:=.int n) (b:=.int (3:Nat)) rfl rfl (JQ _ 3 (by omega))) (by simp) ?_
    have keep : ∀ n':Int,∃ (r':List Int) (n2:Int) (x:L2.Slot),r'.length=i+1/\(∀ v∈r',v∈vs)/\[s0 (.int c),s0 V,s0 (.int w),s0 (.int n'),some (1,.list ((r++[vs[j]]).map aS)),s0 (.int i)]=[s0 (.int c),s0 V,s0 (.int w),s0 (.int n2),some (1,.list (r'.map aS)),x]:=fun n'=>⟨r++[vs[j]],n',_,by simp[lr],fun v m=>by
     rcases nM.mp m with m | m
     ·exact hr v m
     ·rw[dH.mp m]; exact pA hj,rfl⟩
    have t1:bV .s (bOf (eOp gGt (aF 5) (eC (.int 1)))) [s0 (.int c),s0 V,s0 (.int w),s0 (.int (n / (3:Nat))),some (1,.list ((r++[vs[j]]).map aS)),s0 (.int i)]=some (decide ((1:Int)<(i:Int))):=rfl
    by_cases q:(1:Int)<(i:Int)
    ·refine rO (t1.trans (by rw[decide_eq_true q])) (JZ (d:=.int (cJ c 22 / (9:Nat)%(2:Nat))) (bY (a:=.int (cJ c 22 / (9:Nat))) (b:=.int (2:Nat)) (bY (a:=.int (cJ c 22)) (b:=.int (9:Nat)) (bT (ds:=[.int c,.int 22]) rfl (gZ c 22 (by omega) (by omega))) rfl (JQ _ 9 (by omega))) rfl (pH _ 2 (by omega))) (by show 3<6; omega) ⟨_,.inl rfl,keep _⟩)
    ·exact⟨_,iT (t1.trans (by rw[decide_eq_false q])),_,.inl rfl,keep _⟩
   ·rintro _ ⟨r,n,x,h1,h2,rfl⟩
    exact⟨_,rfl,r,n,x,h1,h2,rfl⟩
  rintro _ ⟨r,n,x,h1,h2,rfl⟩
  refine uL ?_
  refine iF (d:=aU r) (bT (ds:=[.list (r.map aS)]) rfl ?_) ⟨r,rfl,h1,h2⟩
  rfl
 obtain⟨o,eo,r,rfl,h1,h2⟩:=go
 refine⟨r,?_,h1,h2⟩
 show outD (GB [s0 (.int c),s0 V,s0 (.int w),none,none,none])=_
 rw[eo]
 rfl
theorem Bq (r:List Int):eJ (aU r)=true:=by
 show lU (r.map aS)=true
 rw[QE,fV]
 intro d m
 obtain⟨i,_,rfl⟩:=cH.mp m
 rfl
theorem PY (R:List (List Int)):fT 1 (bW R)=true:=fV.mpr fun d m=>by
 obtain⟨r,_,rfl⟩:=cH.mp m
 exact Bq r
theorem Aa {f:EF}{ρ:bC}{t:aD×Nat}{ρ':bC}{i j:Nat}(h:f (vS ρ)=some (dQ t))(e:pD i j (dQ t) ρ=some ρ'):AE .s f (pD i j) ρ=some (.nx ρ'):=by
 unfold AE
 rw[show eV 0 .s f ρ=some (dQ t) from h,bM,e]
 rfl
theorem Hf {ts:List (aD×Nat)}{ρ:List (Option aA)}{fk:EF}{i:Nat}(hi:i<ts.length)(e1:aF 1 ρ=some (.list (ts.map dQ)))(ek:fk ρ=some (.int i)):eOp gIx (aF 1) fk ρ=some (dQ ts[i]):=
 bY (a:=.list (ts.map dQ)) (b:=.int i) e1 ek (pS (by rw[eY,iP hi]; rfl))
theorem NC (ts:List (aD×Nat)):cU [.list (ts.map dQ)]=some (.int ts.length):=by simp[cU]
theorem ZV (R:List (List Int)):dF (bW R)=true:=by
 have h1:noDicts (R.map aU)=true:=GJ R
 have h2:dB (R.map aU)≤2:=zB fun t m=>by
  obtain⟨r,_,rfl⟩:=cH.mp m
  have:=sE r
  simp only[aU,iO]
  omega
 show(noDict (.list (R.map aU))&&decide (iO (.list (R.map aU))≤60))=true
 have h3:iO (.list (R.map aU))=dB (R.map aU)+1:=by simp[iO]
 rw[h3,show noDict (.list (R.map aU))=true from h1,decide_eq_true (by omega)]
 rfl
theorem Ce (R:List (List Int)):cS (bW R) (bW R)=true:=by
 have go : ∀ l:List (List Int),oZ (l.map aU) (l.map aU)=true:=fun l=>by
  induction l with
  | nil=>simp[oZ]
  | cons a l ih=>
   have:cS (aU a) (aU a)=true:=by simp[oA]
   simp[oZ,this,ih]
 show cS (.list (R.map aU)) (.list (R.map aU))=true
 simp[cS,go]
theorem Kt (R:List (List Int)):gNe (bW R) (bW R)=some (.bool false):=by
 unfold gNe
 rw[ZV,Ce]
 rfl
theorem Lr {v:aA}{n:Nat}(h:n≤1000):rF (.tuple [v]) (.int n)=some (.tuple (eA ((n:Int)).toNat [v]).flatten):=by
 unfold rF
 refine if_pos ⟨by omega,by omega,?_⟩
 rw[List.length_singleton,Nat.one_mul]
 omega
noncomputable def hpD (S:List (List Int)):aA:=.tuple [bW S,bW S]
theorem YG (ns:List Int)(hl:ns.length≤63):GZ [.list (ns.map aS)]=some (.bool true):=by
 obtain⟨c0,e0⟩:=yG (ns:=ns) (k:=0) (by omega) (by omega)
 obtain⟨c1,e1⟩:=yG (ns:=ns) (k:=1) (by omega) (by omega)
 obtain⟨c2,e2⟩:=yG (ns:=ns) (k:=2) (by omega) (by omega)
 obtain⟨c3,e3⟩:=yG (ns:=ns) (k:=3) (by omega) (by omega)
 have b5:=gK (cJ c0 5) (show(0:Int)<(3:Nat) by decide)
 obtain⟨n5,en5⟩:=qT b5.1
 obtain⟨zs,ez,lz,hz,hnd⟩:=ZK c1 (n:=1+n5) (by omega)
 obtain⟨vs,ev,lv,hv⟩:=Aq c3
 let A:aA:=.list (ns.map aS)
 refine kS rfl ?_
 refine fO (ρ':=[s0 A,some (1,.list []),none,none,none,none,none,none,none,none,none,none,none,none,none,none]) rfl ?_
 refine iV (fun ρ'=>∃ (ts:List (aD×Nat)) (x:L2.Slot),ts.map (·.1)=zs/\(∀ t∈ts,1≤t.2/\t.2≤6)/\ρ'=[s0 A,some (1,.list (ts.map dQ)),x,none,none,none,none,none,none,none,none,none,none,none,none,none]) ?_ ?_
 ·refine rS (ds:=zs.map cT) (fun i ρ'=>∃ (ts:List (aD×Nat)) (x:L2.Slot),ts.map (·.1)=zs.take i/\(∀ t∈ts,1≤t.2/\t.2≤6)/\ρ'=[s0 A,some (1,.list (ts.map dQ)),x,none,none,none,none,none,none,none,none,none,none,none,none,none]) (avS (rX (bT (ds:=[.int c1,.int ((1+n5:Nat):Int)]) (dY (bT (ds:=[A,.int 1]) rfl e1) (dY (g:=aM) (bY (a:=.int 1) (b:=.int n5) rfl (bY (a:=.int (cJ c0 5)) (b:=.int (3:Nat)) (bT (ds:=[.int c0,.int 5]) (dY (bT (ds:=[A,.int 0]) rfl e0) rfl) (gZ c0 5 (by omega) (by omega))) rfl ((pH _ 3 (by omega)).trans (by rw[en5]))) (by show some (aS (1+(n5:Int)))=_; congr 2)) rfl)) ez))) ⟨[],none,rfl,fun _ m=>by simp at m,rfl⟩ ?_ ?_
  ·rintro i d _ hd ⟨ts,x,ht1,ht,rfl⟩
   rw[eY] at hd
   obtain⟨z,hz1,rfl⟩:=lC.mp hd
   have hi:i<zs.length:=(dU.mp hz1).1
   have hl2:ts.length=i:=by
    have:=congrArg wY ht1
    rw[cL,qQ] at this
    omega
   have b:=gK (cJ c2 (6+(i:Int))) (show(0:Int)<(6:Nat) by decide)
   obtain⟨q,hq⟩:=qT b.1
   let S:bC:=[s0 A,some (1,.list (ts.map dQ)),s0 (.str z),none,none,none,none,none,none,none,none,none,none,none,none,none]
   refine⟨S,rfl,?_⟩
   refine Ks (d:=dQ (z,1+q)) ?_ ?_ (ds:=ts.map dQ) rfl (by simp; omega) ⟨_,.inl rfl,ts++[(z,1+q)],s0 (.str z),?_,fun t m=>?_,by simp[S]⟩
   ·refine CK (ds:=[.str z,.int ((1+q:Nat):Int)]) (dY rfl (dY (g:=aM) (bY (a:=.int 1) (b:=.int q) rfl (bY (a:=.int (cJ c2 (6+(i:Int)))) (b:=.int (6:Nat)) (bT (ds:=[.int c2,.int (6+(i:Int))]) (dY (bT (ds:=[A,.int 2]) rfl e2) (dY (g:=aM) (bY (a:=.int 6) (b:=.int i) rfl (bT (ds:=[.list (ts.map dQ)]) rfl ((NC ts).trans (by rw[hl2]))) rfl) rfl)) (gZ c2 (6+(i:Int)) (by omega) (by omega))) rfl ((pH _ 6 (by omega)).trans (by rw[hq]))) (by show some (aS (1+(q:Int)))=_; congr 2)) rfl))
   ·simp[dQ,eJ,lU]
   ·rw[wW,ht1,IG,hz1]
    rfl
   ·rcases nM.mp m with m | m
    ·exact ht t m
    ·rw[dH.mp m]
     exact⟨by simp,by simp; omega⟩
  ·rintro _ ⟨ts,x,h1,h2,rfl⟩
   exact⟨_,rfl,ts,x,by simpa using h1,h2,rfl⟩
 rintro _ ⟨ts,x2,h1,h2,rfl⟩
 have lts:ts.length=1+n5:=by rw[← lz,← h1,cL]
 have hT:TsG ts:=⟨by omega,fun t m=>⟨hz _ (h1 ▸ cH.mpr ⟨t,m,rfl⟩),h2 t m⟩,by rw[h1]; exact hnd⟩
 have h0:0<ts.length:=by omega
 let B:aA:=.list (ts.map dQ)
 let V:aA:=.list (vs.map aS)
 show Goes _ [s0 A,s0 B,x2,none,none,none,none,none,none,none,none,none,none,none,none,none] _
 refine lQ (d:=V) (bT (ds:=[.int c3]) (dY (g:=aM) (bT (ds:=[A,.int 3]) rfl e3) rfl) ev) (by simp) ?_
 let far:Int:=c3%10 ^ 60+100
 refine lQ (d:=.int far) (bY (a:=.int (c3%10 ^ 60)) (b:=.int 100) (bY (a:=.int c3) (b:=.int (10 ^ 60)) (bT (ds:=[A,.int 3]) rfl e3) (bY (a:=.int 10) (b:=.int (60:Nat)) rfl rfl (uR (by omega))) (LD (by decide +kernel))) rfl rfl) (by simp) ?_
 refine lQ (d:=bkD (ts.map t3)) (bT (ds:=[B]) rfl (Ja hT none)) (by simp) ?_
 refine fO (ρ':=[s0 A,s0 B,x2,s0 V,s0 (.int far),some (9,bkD (ts.map t3)),some (2,.dict []),none,none,none,none,none,none,none,none,none]) rfl ?_
 refine iV (fun ρ'=>∃ x2 x7,ρ'=[s0 A,s0 B,x2,s0 V,s0 (.int far),some (9,bkD (ts.map t3)),some (2,mdD (ts.map t3)),x7,none,none,none,none,none,none,none,none]) ?_ ?_
 ·refine rS (ds:=ts.map dQ) (fun i ρ'=>∃ x2 x7,ρ'=[s0 A,s0 B,x2,s0 V,s0 (.int far),some (9,bkD (ts.map t3)),some (2,mdD ((ts.take i).map t3)),x7,none,none,none,none,none,none,none,none]) (avS (rX rfl)) ⟨_,_,rfl⟩ ?_ ?_
  ·rintro i d _ hd ⟨y2,y7,rfl⟩
   rw[eY] at hd
   obtain⟨t,ht,rfl⟩:=lC.mp hd
   refine⟨[s0 A,s0 B,s0 (.str t.1),s0 V,s0 (.int far),some (9,bkD (ts.map t3)),some (2,mdD ((ts.take i).map t3)),s0 (.int t.2),none,none,none,none,none,none,none,none],rfl,?_⟩
   have hn:t.1∉(((ts.take i).map t3).map mdT).map (·.1):=fun m=>by
    rw[EE,yU] at m
    rw[UR] at m
    have hi:i<(ts.map (·.1)).length:=by rw[cL]; exact(dU.mp ht).1
    have ht2:(ts.map (·.1))[i]?=some t.1:=by rw[eY,ht]; rfl
    obtain⟨j,hj⟩:=List.mem_iff_getElem?.mp m
    rw[List.getElem?_take] at hj
    split at hj
    ·rename_i lt
     have:=(List.getElem?_inj (l:=ts.map (·.1)) (i:=j) (j:=i) (dU.mp hj).1 hT.nd).mp (hj.trans ht2.symm)
     omega
    ·cases hj
   refine ZM (d:=.list []) (kd:=.str t.1) (key:=.inr t.1) (kds:=(((ts.take i).map t3).map mdT).map kdS) rfl rfl rfl rfl (QA hn) (by simp; omega) ⟨_,.inl rfl,s0 (.str t.1),s0 (.int t.2),?_⟩
   rw[IG,ht]
   show [s0 A,s0 B,s0 (.str t.1),s0 V,s0 (.int far),some (9,bkD (ts.map t3)),some (2,_),s0 (.int t.2),none,none,none,none,none,none,none,none]=_
   simp[mdD,mdT,t3,kdS,kD,bW]
  ·rintro _ ⟨y2,y7,rfl⟩
   exact⟨_,rfl,y2,y7,by simp⟩
 rintro _ ⟨y2,y7,rfl⟩
 refine fO (ρ':=[s0 A,s0 B,y2,s0 V,s0 (.int far),some (9,bkD (ts.map t3)),some (2,mdD (ts.map t3)),y7,some (1,.list []),none,none,none,none,none,none,none]) rfl ?_
 let S:List cE->List (List (List Int))->L2.Slot->L2.Slot->L2.Slot->L2.Slot->L2.Slot->L2.Slot->L2.Slot->L2.Slot->bC:=fun L hs x2 x7 x9 x10 x11 x12 x13 x14=>[s0 A,s0 B,x2,s0 V,s0 (.int far),some (9,bkD L),some (2,mdD L),x7,some (1,.list (hs.map hpD)),x9,x10,x11,x12,x13,x14,none]
 refine iV (fun ρ'=>∃ L hs x2 x7 x9 x10 x11 x12 x13 x14,BkG L/\L.map (fun t=>(t.1,t.2.1))=ts/\hs.length≤100/\ρ'=S L hs x2 x7 x9 x10 x11 x12 x13 x14) ?_ ?_
 ·obtain⟨ys,ey,ly,_⟩:=Ly aS ns (some 4) (some 84)
  have ei:aV .s (iIt (oX (aF 0) (oS (eC (.int 4))) (oS (eC (.int 84))))) (S (ts.map t3) [] y2 y7 none none none none none none)=some (ys.map aS):=rX ((Ig (ds:=ns.map aS) rfl (JI (i:=4) rfl) (JI (i:=84) rfl)).trans (by rw[ey]))
  refine rS (ds:=ys.map aS) (fun i ρ'=>∃ L hs x2 x7 x9 x10 x11 x12 x13 x14,BkG L/\L.map (fun t=>(t.1,t.2.1))=ts/\hs.length≤i/\ρ'=S L hs x2 x7 x9 x10 x11 x12 x13 x14) ei ⟨ts.map t3,[],y2,y7,none,none,none,none,none,none,hT.bk,?_,by simp,rfl⟩ ?_ ?_
  ·rw[fG]
   exact tO ts
  ·rintro i d _ hd ⟨L,hs,z2,z7,z9,z10,z11,z12,z13,z14,hB,hLt,hhs,rfl⟩
   rw[eY] at hd
   obtain⟨c,hc,rfl⟩:=lC.mp hd
   have hi:i<ys.length:=(dU.mp hc).1
   refine⟨S L hs z2 z7 (s0 (.int c)) z10 z11 z12 z13 z14,rfl,?_⟩
   have hl0:(0:Int)<(ts.length:Int):=by omega
   obtain⟨j,ej⟩:=qT (gK (cJ c 23) hl0).1
   have hj:j<ts.length:=by have:=(gK (cJ c 23) hl0).2; omega
   let t:=ts[j]
   have ht:=h2 t (pA hj)
   refine fO (ρ':=S L hs z2 (s0 (.int t.2)) (s0 (.int c)) (s0 (.str t.1)) z11 z12 z13 z14) (Aa (t:=t) (Hf hj rfl (bY (a:=.int (cJ c 23)) (b:=.int ts.length) (bT (ds:=[.int c,.int 23]) rfl (gZ c 23 (by omega) (by omega))) (bT (ds:=[B]) rfl (NC ts)) ((pH _ ts.length h0).trans (by rw[ej])))) rfl) ?_
   let way:Int:=cJ c 24%(9:Nat)
   refine lQ (d:=.int way) (bY (a:=.int (cJ c 24)) (b:=.int (9:Nat)) (bT (ds:=[.int c,.int 24]) rfl (gZ c 24 (by omega) (by omega))) rfl (pH _ 9 (by omega))) (by simp[S]) ?_
   show Goes _ (S L hs z2 (s0 (.int t.2)) (s0 (.int c)) (s0 (.str t.1)) (s0 (.int way)) z12 z13 z14) _
   obtain⟨x,mx,ex⟩:=cH.mp (show t∈L.map (fun t=>(t.1,t.2.1)) by rw[hLt]; exact pA hj)
   have ex1:x.1=t.1:=congrArg Prod.fst ex
   have ex2:x.2.1=t.2:=congrArg Prod.snd ex
   have t1:bV .s (bOf (eOp gLt (aF 11) (eC (.int 8)))) (S L hs z2 (s0 (.int t.2)) (s0 (.int c)) (s0 (.str t.1)) (s0 (.int way)) z12 z13 z14)=some (decide (way<8)):=rfl
   by_cases hw8:way<8
   ·refine rO (t1.trans (by rw[decide_eq_true hw8])) ?_
    obtain⟨r,er,lr,hr⟩:=Il c lv (w:=t.2) ht.2
    have gr:RwG r:=⟨by omega,by omega,fun v m=>hv v (hr v m)⟩
    refine lQ (d:=aU r) (bT (ds:=[.int c,V,.int t.2]) rfl er) (by simp[S]) ?_
    show Goes _ (S L hs z2 (s0 (.int t.2)) (s0 (.int c)) (s0 (.str t.1)) (s0 (.int way)) (s0 (aU r)) z13 z14) _
    have t2:bV .a (bOf (eOp gLt (aN cU (aJ (eOp gIx (aF 6) (aF 10)) aM)) (eC (.int 59)))) (S L hs z2 (s0 (.int t.2)) (s0 (.int c)) (s0 (.str t.1)) (s0 (.int way)) (s0 (aU r)) z13 z14)=some (decide ((x.2.2.length:Int)<59)):=mQ (bY (a:=.int x.2.2.length) (b:=.int 59) (bT (ds:=[bW x.2.2]) (dY (g:=aM) (bY (a:=mdD L) (b:=.str t.1) rfl rfl (ex1 ▸ uQ hB mx)) rfl) (yZ _)) rfl rfl)
    by_cases h59:(x.2.2.length:Int)<59
    ·obtain⟨R,hR,eD⟩:=Jp hB mx gr (lr.trans ex2.symm) (by omega) way
     rw[ex1] at eD
     refine⟨.nx (S (L.map (chR t.1 R)) hs z2 (s0 (.int t.2)) (s0 (.int c)) (s0 (.str t.1)) (s0 (.int way)) (s0 (aU r)) z13 z14),?_,_,.inl rfl,L.map (chR t.1 R),hs,_,_,_,_,_,_,_,_,?_,?_,by omega,rfl⟩
     ·unfold yI
      rw[t2,decide_eq_true h59]
      have em:pF 5 6 2 jL (aJ (aF 10) (aJ (aF 12) (aJ (aF 11) aM))) (S L hs z2 (s0 (.int t.2)) (s0 (.int c)) (s0 (.str t.1)) (s0 (.int way)) (s0 (aU r)) z13 z14)=some (true,S (L.map (chR t.1 R)) hs z2 (s0 (.int t.2)) (s0 (.int c)) (s0 (.str t.1)) (s0 (.int way)) (s0 (aU r)) z13 z14):=by
       unfold pF
       show(if (2:Nat)=2 then((some [cT t.1,aU r,.int way]).bind fun ds=>(jL (bkD L::mdD L::ds)).bind fun q=>some (q.1,_)) else none)=_
       rw[if_pos rfl,bM,eD,bM]
       rfl
      show((pF 5 6 2 jL _ _).bind fun q=>if q.1=true then some (Out.nx q.2) else none)=_
      rw[em]
      rfl
     ·rw[← ex1]
      exact Jt hB mx hR
     ·rw[Oj]
      exact hLt
    ·refine⟨.nx (S L hs z2 (s0 (.int t.2)) (s0 (.int c)) (s0 (.str t.1)) (s0 (.int way)) (s0 (aU r)) z13 z14),?_,_,.inl rfl,L,hs,_,_,_,_,_,_,_,_,hB,hLt,by omega,rfl⟩
     unfold yI
     rw[t2,decide_eq_false h59]
     rfl
   ·refine Hq (t1.trans (by rw[decide_eq_false hw8])) ?_
    let Z:=bW (srt x.2.2)
    have rw_:=KM hB none mx
    rw[ex1] at rw_
    have lk:=uQ hB mx
    rw[ex1] at lk
    have hold:=PH (hB.rs x mx)
    refine KW (d:=Z) (bT (nY (ds:=[.str t.1]) rfl rfl) rw_) (PY _) (by simp[S]) ?_
    refine uL ?_
    show Goes _ (S L hs z2 (s0 (.int t.2)) (s0 (.int c)) (s0 (.str t.1)) (s0 (.int way)) z12 (s0 Z) z14) _
    refine fO (iT (m:=.a) (mS (x:=false) (y:=false) (iW (x:=true) (bT (ds:=[Z,bW x.2.2]) (dY rfl (dY (g:=aM) (bY (a:=mdD L) (b:=.str t.1) rfl rfl lk) rfl)) hold)) fun _=>iW (x:=true) (bT (ds:=[bkD L,mdD L]) rfl (FS hB)))) ?_
    refine iV (fun ρ'=>ρ'=S L (hs++[srt x.2.2]) z2 (s0 (.int t.2)) (s0 (.int c)) (s0 (.str t.1)) (s0 (.int way)) z12 (s0 Z) z14) ?_ ?_
    ·refine DC (d:=hpD (srt x.2.2)) (ds:=hs.map hpD) (CK (ds:=[Z,Z]) (dY rfl (dY (g:=aM) (bT (ds:=[Z]) rfl rfl) rfl))) rfl (by simp; omega) ⟨_,rfl,?_⟩
     simp[S]
    rintro _ rfl
    refine KW (d:=Z) (bT (nY (ds:=[.str t.1]) rfl rfl) rw_) (PY _) (by simp[S]) ?_
    show Goes _ (S L (hs++[srt x.2.2]) z2 (s0 (.int t.2)) (s0 (.int c)) (s0 (.str t.1)) (s0 (.int way)) z12 (s0 Z) (some (1,Z))) _
    let sp:aA:=.tuple (eA ((t.2:Int)).toNat [aS far]).flatten
    refine iV (fun ρ'=>ρ'=S L (hs++[srt x.2.2]) z2 (s0 (.int t.2)) (s0 (.int c)) (s0 (.str t.1)) (s0 (.int way)) z12 (s0 Z) (some (1,.list ((srt x.2.2).map aU++[sp])))) ?_ ?_
    ·have hlen:=(hB.rs x mx).len
     have sl:=DL x.2.2
     refine DC (d:=sp) (ds:=(srt x.2.2).map aU) (bY (a:=.tuple [.int far]) (b:=.int t.2) (CK (ds:=[.int far]) rfl) rfl ?_) rfl (by rw[cL]; omega) ⟨_,rfl,rfl⟩
     exact Lr (by omega)
    rintro _ rfl
    have hlen:=(hB.rs x mx).len
    have sl:=DL x.2.2
    refine fO (ρ':=S L (hs++[srt x.2.2]) z2 (s0 (.int t.2)) (s0 (.int c)) (s0 (.str t.1)) (s0 (.int way)) z12 (s0 Z) (some (1,.list (((srt x.2.2).map aU++[sp]).eraseIdx 0)))) ?_ ?_
    ·unfold BN
     show((ixN ((srt x.2.2).map aU++[sp]).length (0:Int)).bind fun n=>if ((srt x.2.2).map aU++[sp]).length≤sizeLine then some (Out.nx _) else none)=_
     rw[show ixN ((srt x.2.2).map aU++[sp]).length (0:Int)=some 0 from Jw (j:=0) (by simp),bM,if_pos (kU (by simp; omega))]
     rfl
    refine uL ?_
    refine⟨.nx (S L (hs++[srt x.2.2]) z2 (s0 (.int t.2)) (s0 (.int c)) (s0 (.str t.1)) (s0 (.int way)) z12 (s0 Z) (s0 (.list (((srt x.2.2).map aU++[sp]).eraseIdx 0)))),iT (m:=.a) (mS (x:=false) (y:=false) (iW (x:=true) (bT (ds:=[Z,bW x.2.2]) (dY (bT (nY (ds:=[.str t.1]) rfl rfl) rw_) (dY (g:=aM) (bY (a:=mdD L) (b:=.str t.1) rfl rfl lk) rfl)) hold)) fun _=>iW (x:=true) (bT (ds:=[bkD L,mdD L]) rfl (FS hB))),_,.inl rfl,L,hs++[srt x.2.2],_,_,_,_,_,_,_,_,hB,hLt,by simp; omega,rfl⟩
  ·rintro _ ⟨L,hs,z2,z7,z9,z10,z11,z12,z13,z14,hB,hLt,hhs,rfl⟩
   rw[cL] at hhs
   exact⟨_,rfl,L,hs,z2,z7,z9,z10,z11,z12,z13,z14,hB,hLt,by omega,rfl⟩
 rintro _ ⟨L,hs,z2,z7,z9,z10,z11,z12,z13,z14,hB,hLt,hhs,rfl⟩
 refine uL (uL ?_)
 let E:L2.Slot->L2.Slot->L2.Slot->bC:=fun x10 x13 x15=>[s0 A,s0 B,z2,s0 V,s0 (.int far),some (9,bkD L),s0 (mdD L),z7,s0 (.list (hs.map hpD)),z9,x10,z11,z12,x13,z14,x15]
 show Goes _ (E z10 z13 none) _
 refine iV (fun ρ'=>∃ x10,ρ'=E x10 z13 none) ?_ ?_
 ·refine rS (ds:=(L.map (·.1)).map cT) (fun _ ρ'=>∃ x10,ρ'=E x10 z13 none) (avS (SZ hB rfl)) ⟨_,rfl⟩ ?_ ?_
  ·rintro i d _ hd ⟨x10,rfl⟩
   rw[fG,eY] at hd
   obtain⟨x,hx,rfl⟩:=lC.mp hd
   have mx:=nL hx
   refine⟨E (s0 (.str x.1)) z13 none,rfl,?_⟩
   exact⟨_,iT (m:=.a) (iW (x:=true) (bT (ds:=[bW (srt x.2.2),bW x.2.2]) (dY (bT (nY (ds:=[.str x.1]) rfl rfl) (KM hB none mx)) (dY (g:=aM) (bY (a:=mdD L) (b:=.str x.1) rfl rfl (uQ hB mx)) rfl)) (PH (hB.rs x mx)))),_,.inl rfl,_,rfl⟩
  ·rintro _ ⟨x10,rfl⟩
   exact⟨_,rfl,x10,rfl⟩
 rintro _ ⟨x10,rfl⟩
 refine iV (fun ρ'=>∃ x13 x15,ρ'=E x10 x13 x15) ?_ ?_
 ·refine rS (ds:=hs.map hpD) (fun _ ρ'=>∃ x13 x15,ρ'=E x10 x13 x15) (avS (rX rfl)) ⟨_,_,rfl⟩ ?_ ?_
  ·rintro i d _ hd ⟨x13,x15,rfl⟩
   rw[eY] at hd
   obtain⟨R,hx,rfl⟩:=lC.mp hd
   refine⟨E x10 (s0 (bW R)) (s0 (bW R)),rfl,?_⟩
   exact⟨_,iT (m:=.s) (mQ (bY (a:=bW R) (b:=bW R) rfl rfl (Kt R))),_,.inl rfl,_,_,rfl⟩
  ·rintro _ ⟨x13,x15,rfl⟩
   exact⟨_,rfl,x13,x15,rfl⟩
 rintro _ ⟨x13,x15,rfl⟩
 exact JW (d:=.bool true) (bT (ds:=[bkD L,mdD L]) rfl (FS hB)) rfl rfl
noncomputable def zV (K:aG):Sp:=fun vs H Q _=>∃ (a:aB) (ns:List Int),vs=[.ref a]/\SqL K H a (ns.map V.int)/\ns.length≤63 /\ ∀ H',Q (.bl true) H'
theorem Hu {K:aG} : ∀ vs H Q E,zV K vs H Q E->spF K 0 GZ vs H Q E:=fun vs H Q E gh=>by
 obtain⟨a,ns,ev,hS,hl,k⟩:=gh
 subst ev
 have e0:hid H (fun _=>False)=H:=by
  funext b
  unfold hid
  rw[if_neg (fun z=>z)]
 refine⟨fun _=>False,[.list (ns.map aS)],.bool true,fun _ z=>z.elim,?_,YG ns hl,cR fun v H' _ r=>?_⟩
 ·rw[e0]
  exact Aac.mpr ⟨_,_,rfl,Abm.mpr ⟨a,_,rfl,hS,NL ns⟩,Aai.mpr rfl⟩
 ·rw[Aan.mp r]
  exact k H'
def Hl (K:aG)(n:aD)(st:bK)(f:aB):Prop:=∃ (od an:Option aB) (sl:Array (Option aE)) (oc kV dc pm cd ct:aE),dA K cF n=some (some (.ref f))/\K.lookup f=some ⟨oc,od,.func (jA n n (jJ st) (hJ st) (bQ st) .none kV dc pm an cd ct),sl⟩/\tK K cd n=true/\kH K (.ref f)=true
def Hs (K:aG)(n:aD)(st:bK)(f:aB):Prop:=∃ fd,Fun K n n st f fd/\dA K cF n=some (some (.ref f))/\kH K (.ref f)=true
section
variable {K:aG}{n:aD}{st:bK}{f:aB}
theorem Bco {od an:Option aB}{sl:Array (Option aE)}{oc kV dc pm cd ct:aE}(a:dA K cF n=some (some (.ref f)))(l:K.lookup f=some ⟨oc,od,.func (jA n n (jJ st) (hJ st) (bQ st) .none kV dc pm an cd ct),sl⟩)(c:tK K cd n=true)(k:kH K (.ref f)=true):Hl K n st f:=⟨_,_,_,_,_,_,_,_,_,a,l,c,k⟩
theorem Ag8 {od an:Option aB}{sl:Array (Option aE)}{oc kV dc pm cd ct:aE}(a:dA K cF n=some (some (.ref f)))(l:K.lookup f=some ⟨oc,od,.func (jA n n (jJ st) (hJ st) (bQ st) .none kV dc pm an cd ct),sl⟩)(c:tK K cd n=true)(k:kH K (.ref f)=true):Hs K n st f:=⟨_,CG (st:=st) l c k,a,k⟩
noncomputable def Hs.fd (h:Hs K n st f):eM:=Classical.choose h
theorem Hs.fn (h:Hs K n st f):Fun K n n st f h.fd:=(tR h).1
theorem Hs.dfX {P:bB}{w:aW}{mg:aD->Option aE}{h base:aP}{k:Nat}{ps:List aD}{sp:Sp}(X:K.In h)(G:h.Ns cF mg)(H:Hs K n st f)(ok:FnOk P w K mg base (CXR base P w) k f H.fd ps sp)(b:Binds K H.fd ps []):DefX P w K mg base n k ps sp:=⟨_,_,ok,mD X G (tR H).2.1,(tR H).2.2,b⟩
theorem Hs.df {P:bB}{w:aW}{mg:aD->Option aE}{h base:aP}{k:Nat}{ps:List aD}{sp:Sp}(X:K.In h)(G:h.Ns cF mg)(H:Hs K n st f)(ok:FnOk P w K mg base CX0 k f H.fd ps sp)(b:Binds K H.fd ps []):Def P w K mg base n k ps sp:=⟨_,_,ok,mD X G (tR H).2.1,(tR H).2.2,b⟩
end
def Hm (K:aG)(m q:aD)(st:bK)(cB f:aB):Prop:=∃ fd,Fun K m q st f fd/\Meth K cB m f
section
variable {K:aG}{m q:aD}{st:bK}{cB f:aB}
theorem Anc {od an:Option aB}{sl:Array (Option aE)}{oc kV dc pm cd ct:aE}(a:jR K (.ref cB) m=some (some (.ref f)))(i:HP K (.ref f)=true)(l:K.lookup f=some ⟨oc,od,.func (jA m q (jJ st) (hJ st) (bQ st) .none kV dc pm an cd ct),sl⟩)(c:tK K cd q=true)(k:kH K (.ref f)=true):Hm K m q st cB f:=⟨_,CG (st:=st) l c k,a,i,k⟩
noncomputable def Hm.fd (h:Hm K m q st cB f):eM:=Classical.choose h
theorem Hm.fn (h:Hm K m q st cB f):Fun K m q st f h.fd:=(tR h).1
theorem Hm.me (h:Hm K m q st cB f):Meth K cB m f:=(tR h).2
end
theorem kW {us:List aE}{n:Nat}(h:us.length=n+1) : ∃ a r,us=a::r/\r.length=n:=by
 cases us with
 | nil=>exact absurd h (by simp)
 | cons a r=>exact⟨a,r,rfl,Nat.succ.inj h⟩
theorem lI {K:aG}{x qual:aD}{st:bK}{f:aB}{fd:eM}{ps:List aD}(F:Fun K x qual st f fd)(hp:ps.length=1)(h : ∀ (kV doc pm:aE) (an:Option aB) (cdv ct:aE) a,wJ (jA x qual (jJ st) (hJ st) (bQ st) .none kV doc pm an cdv ct) ⟨[a],[]⟩=pure (ps.zip [a])):Binds K fd ps []:=F.binds fun kV doc pm an cdv ct u0 hl=>by
 have g0:=hl.trans hp
 clear hl
 obtain⟨a,u1,rfl,g1⟩:=kW g0
 cases xD g1
 exact h kV doc pm an cdv ct a
theorem mL {K:aG}{x qual:aD}{st:bK}{f:aB}{fd:eM}{ps:List aD}(F:Fun K x qual st f fd)(hp:ps.length=2)(h : ∀ (kV doc pm:aE) (an:Option aB) (cdv ct:aE) a b,wJ (jA x qual (jJ st) (hJ st) (bQ st) .none kV doc pm an cdv ct) ⟨[a,b],[]⟩=pure (ps.zip [a,b])):Binds K fd ps []:=F.binds fun kV doc pm an cdv ct u0 hl=>by
 have g0:=hl.trans hp
 clear hl
 obtain⟨a,u1,rfl,g1⟩:=kW g0
 obtain⟨b,u2,rfl,g2⟩:=kW g1
 cases xD g2
 exact h kV doc pm an cdv ct a b
theorem qC {K:aG}{x qual:aD}{st:bK}{f:aB}{fd:eM}{ps:List aD}(F:Fun K x qual st f fd)(hp:ps.length=3)(h : ∀ (kV doc pm:aE) (an:Option aB) (cdv ct:aE) a b c,wJ (jA x qual (jJ st) (hJ st) (bQ st) .none kV doc pm an cdv ct) ⟨[a,b,c],[]⟩=pure (ps.zip [a,b,c])):Binds K fd ps []:=F.binds fun kV doc pm an cdv ct u0 hl=>by
 have g0:=hl.trans hp
 clear hl
 obtain⟨a,u1,rfl,g1⟩:=kW g0
 obtain⟨b,u2,rfl,g2⟩:=kW g1
 obtain⟨c,u3,rfl,g3⟩:=kW g2
 cases xD g3
 exact h kV doc pm an cdv ct a b c
theorem VZ {K:aG}{x qual:aD}{st:bK}{f:aB}{fd:eM}{ps:List aD}(F:Fun K x qual st f fd)(hp:ps.length=5)(h : ∀ (kV doc pm:aE) (an:Option aB) (cdv ct:aE) a b c d e,wJ (jA x qual (jJ st) (hJ st) (bQ st) .none kV doc pm an cdv ct) ⟨[a,b,c,d,e],[]⟩=pure (ps.zip [a,b,c,d,e])):Binds K fd ps []:=F.binds fun kV doc pm an cdv ct u0 hl=>by
 have g0:=hl.trans hp
 clear hl
 obtain⟨a,u1,rfl,g1⟩:=kW g0
 obtain⟨b,u2,rfl,g2⟩:=kW g1
 obtain⟨c,u3,rfl,g3⟩:=kW g2
 obtain⟨d,u4,rfl,g4⟩:=kW g3
 obtain⟨e,u5,rfl,g5⟩:=kW g4
 cases xD g5
 exact h kV doc pm an cdv ct a b c d e
set_option maxHeartbeats 4000000 in
theorem all_mk {l:UD}{w:aW}{K:aG}{h:aP}{mg:aD->Option aE}{fa f_is_whole f_is_name f_is_pair f_Book_tables f_Book_size f__law_cell f__law_mix f__law_told f__law_rows_hold f_is_value f_is_width f_Book_want_table f__law_names f__law_values f__law_row f__law_size_holds f_is_row f_are_widths f_Book_rows f_Book___init__ f_Book_want_row f_Book_put f_Book_drop f_Book_has f__law_deed f_law:aB}(X:K.In h)(G:h.Ns cF mg)(hfa:mg "law" = some (.ref fa)){t_LETTERS t_FIGURES t_MOST_SIGNS t_MOST_WIDTH t_MOST_TABLES t_MOST_ROWS:Tok}
  {cB:aB} (aC:dA K cF "Book" = some (some (.ref cB))) (pg:AS K cB Str.empty=true) (hd:HR K cB=true) (po:TR K cB=true) (sa:jR K (.ref cB) "__setattr__" = some (some (.builtin "object.__setattr__"))) (mk:TZ K cB=true) (kc:kH K (.ref cB)=true) (nW:jR K (.ref cB) "wide" = some none) (nH:jR K (.ref cB) "held" = some none)
  (h_is_whole:Hs K "is_whole" FV f_is_whole) (h_is_name:Hs K "is_name" zC f_is_name) (h_is_pair:Hs K "is_pair" FF f_is_pair) (h_Book_tables:Hm K "tables" "Book.tables" GM cB f_Book_tables) (h_Book_size:Hm K "size" "Book.size" zI cB f_Book_size) (h__law_cell:Hs K "_law_cell" GE f__law_cell) (h__law_mix:Hs K "_law_mix" FQ f__law_mix) (h__law_told:Hs K "_law_told" GI f__law_told) (h__law_rows_hold:Hs K "_law_rows_hold" GP f__law_rows_hold) (h_is_value:Hs K "is_value" GD f_is_value) (h_is_width:Hs K "is_width" FP f_is_width) (h_Book_want_table:Hm K "want_table" "Book.want_table" GR cB f_Book_want_table) (h__law_names:Hs K "_law_names" sJ f__law_names) (h__law_values:Hs K "_law_values" GL f__law_values) (h__law_row:Hs K "_law_row" FN f__law_row) (h__law_size_holds:Hs K "_law_size_holds" zS f__law_size_holds) (h_is_row:Hs K "is_row" yV f_is_row) (h_are_widths:Hs K "are_widths" wB f_are_widths) (h_Book_rows:Hm K "rows" "Book.rows" GH cB f_Book_rows) (h_Book___init__:Hm K "__init__" "Book.__init__" GO cB f_Book___init__) (h_Book_want_row:Hm K "want_row" "Book.want_row" GN cB f_Book_want_row) (h_Book_put:Hm K "put" "Book.put" zE cB f_Book_put) (h_Book_drop:Hm K "drop" "Book.drop" zJ cB f_Book_drop) (h_Book_has:Hm K "has" "Book.has" FU cB f_Book_has) (h__law_deed:Hs K "_law_deed" GG f__law_deed) (h_law:Hl K "law" pE f_law)
  {c_NoTable c_NoRow c_Full:aB} (y_NoTable:dA K cF "NoTable" = some (some (.ref c_NoTable))) (y_NoRow:dA K cF "NoRow" = some (some (.ref c_NoRow))) (y_Full:dA K cF "Full" = some (some (.ref c_Full)))
  (x_NoTable:wM K c_NoTable [.type "ValueError",.type "Exception",.type "BaseException",.type "object"] "ValueError.__new__" = true) (x_NoRow:wM K c_NoRow [.type "ValueError",.type "Exception",.type "BaseException",.type "object"] "ValueError.__new__" = true) (x_Full:wM K c_Full [.type "ValueError",.type "Exception",.type "BaseException",.type "object"] "ValueError.__new__" = true) (xc:XCls K c_NoTable)
  (z_isinstance:dA K cF "isinstance" = some none) (z_int:dA K cF "int" = some none) (z_bool:dA K cF "bool" = some none) (z_abs:dA K cF "abs" = some none) (z_range:dA K cF "range" = some none) (z_len:dA K cF "len" = some none) (z_str:dA K cF "str" = some none) (z_all:dA K cF "all" = some none) (z_any:dA K cF "any" = some none) (z_list:dA K cF "list" = some none) (z_tuple:dA K cF "tuple" = some none) (z_dict:dA K cF "dict" = some none) (z_set:dA K cF "set" = some none) (z_sorted:dA K cF "sorted" = some none) (z_sum:dA K cF "sum" = some none) (z_min:dA K cF "min" = some none) (z_max:dA K cF "max" = some none) (z_enumerate:dA K cF "enumerate" = some none) (z_zip:dA K cF "zip" = some none) (z_reversed:dA K cF "reversed" = some none) (z_ValueError:dA K cF "ValueError" = some none) (g_LETTERS:dA K cF "LETTERS" = some (some (.str "abcdefghijklmnopqrstuvwxyz" t_LETTERS))) (g_FIGURES:dA K cF "FIGURES" = some (some (.str "0123456789" t_FIGURES))) (g_MOST_SIGNS:dA K cF "MOST_SIGNS" = some (some (.int 12 t_MOST_SIGNS))) (g_MOST_WIDTH:dA K cF "MOST_WIDTH" = some (some (.int 6 t_MOST_WIDTH))) (g_MOST_TABLES:dA K cF "MOST_TABLES" = some (some (.int 12 t_MOST_TABLES))) (g_MOST_ROWS:dA K cF "MOST_ROWS" = some (some (.int 60 t_MOST_ROWS))) :
  ∃ fd:eM,(∀ (s:aH) (v:aE),qX s fd ⟨[v],[]⟩ [("_law_script",v)]) /\ ∀ base:aP,K.In base->base.Ns cF mg->FnOk l.prog w K mg base CX0 7 fa fd ["_law_script"] (zV K):=by
 obtain⟨_,an_law,_,_,kV_law,dc_law,pm_law,cd_law,ct_law,a_law,l_law,c_law,k_law⟩:=h_law
 have e:=hfa.symm.trans (mD X G a_law)
 cases e
 have B:Blt mg:=⟨gE X G z_isinstance,gE X G z_int,gE X G z_bool,gE X G z_abs,gE X G z_range,gE X G z_len,gE X G z_str,gE X G z_all,gE X G z_any,gE X G z_list,gE X G z_tuple,gE X G z_dict,gE X G z_set,gE X G z_sorted,gE X G z_sum,gE X G z_min,gE X G z_max,gE X G z_enumerate,gE X G z_zip,gE X G z_reversed,gE X G z_ValueError⟩
 have C:Cst mg:=⟨⟨_,mD X G g_LETTERS⟩,⟨_,mD X G g_FIGURES⟩,⟨_,mD X G g_MOST_SIGNS⟩,⟨_,mD X G g_MOST_WIDTH⟩,⟨_,mD X G g_MOST_TABLES⟩,⟨_,mD X G g_MOST_ROWS⟩⟩
 have cl:Cls K cB:=⟨pg,hd,po,sa⟩
 have hB:dP K "Book" = some (.ref cB):=Jz aC
 have V:Xcs K mg:=⟨⟨_,hB,cl,nW,nH⟩,⟨_,y_NoTable,x_NoTable⟩,⟨_,y_NoRow,x_NoRow⟩,⟨_,y_Full,x_Full⟩⟩
 refine⟨jA "law" "law" (jJ pE) (hJ pE) (bQ pE) .none kV_law dc_law pm_law an_law cd_law ct_law,fun s v=>.of_eq rfl,fun base _ _=>?_⟩
 have D_is_whole:Def l.prog w K mg base "is_whole" 1 sI (spF K 0 oP):=h_is_whole.df X G (Eu h_is_whole.fn B C V ) (lI h_is_whole.fn (ps:=sI) rfl fun _ _ _ _ _ _ _=>rfl)
 have D_is_name:Def l.prog w K mg base "is_name" 1 sG (spF K 0 jM):=h_is_name.df X G (Cs h_is_name.fn B C V ) (lI h_is_name.fn (ps:=sG) rfl fun _ _ _ _ _ _ _=>rfl)
 have D_is_pair:Def l.prog w K mg base "is_pair" 1 vF (spF K 0 pX):=h_is_pair.df X G (Df h_is_pair.fn B C V ) (lI h_is_pair.fn (ps:=vF) rfl fun _ _ _ _ _ _ _=>rfl)
 have D_Book_tables:MethX l.prog w K mg base "Book" "tables" 1 zO (spX K 1 RH):=⟨⟨_,_,_,hB,cl,h_Book_tables.me,Gn h_Book_tables.fn B C V ,(lI h_Book_tables.fn (ps:=zO) rfl fun _ _ _ _ _ _ _=>rfl)⟩⟩
 have D_Book_size:MethX l.prog w K mg base "Book" "size" 1 vV (spX K 0 vN):=⟨⟨_,_,_,hB,cl,h_Book_size.me,Ez h_Book_size.fn B C V ,(lI h_Book_size.fn (ps:=vV) rfl fun _ _ _ _ _ _ _=>rfl)⟩⟩
 have D__law_cell:Def l.prog w K mg base "_law_cell" 1 vP (spF K 0 kB):=h__law_cell.df X G (Fq h__law_cell.fn B C V ) (mL h__law_cell.fn (ps:=vP) rfl fun _ _ _ _ _ _ _ _=>rfl)
 have D__law_mix:Def l.prog w K mg base "_law_mix" 1 oT (spF K 0 fL):=h__law_mix.df X G (Fe h__law_mix.fn B C V ) (mL h__law_mix.fn (ps:=oT) rfl fun _ _ _ _ _ _ _ _=>rfl)
 have D__law_told:Def l.prog w K mg base "_law_told" 1 vO (spF K 0 gC):=h__law_told.df X G (Fb h__law_told.fn B C V ) (mL h__law_told.fn (ps:=vO) rfl fun _ _ _ _ _ _ _ _=>rfl)
 have D__law_rows_hold:Def l.prog w K mg base "_law_rows_hold" 1 wF (spF K 0 pY):=h__law_rows_hold.df X G (Gz h__law_rows_hold.fn B C V ) (mL h__law_rows_hold.fn (ps:=wF) rfl fun _ _ _ _ _ _ _ _=>rfl)
 have D_is_value:Def l.prog w K mg base "is_value" 2 vJ (spF K 0 sH):=h_is_value.df X G (Er h_is_value.fn B C V D_is_whole) (lI h_is_value.fn (ps:=vJ) rfl fun _ _ _ _ _ _ _=>rfl)
 have D_is_width:Def l.prog w K mg base "is_width" 2 vG (spF K 0 nA):=h_is_width.df X G (Ee h_is_width.fn B C V D_is_whole) (lI h_is_width.fn (ps:=vG) rfl fun _ _ _ _ _ _ _=>rfl)
 have D_Book_want_table:MethX l.prog w K mg base "Book" "want_table" 2 sM (spX K 0 oU):=⟨⟨_,_,_,hB,cl,h_Book_want_table.me,Ha h_Book_want_table.fn B C V D_is_name,(mL h_Book_want_table.fn (ps:=sM) rfl fun _ _ _ _ _ _ _ _=>rfl)⟩⟩
 have D__law_names:Def l.prog w K mg base "_law_names" 2 wC (spF K 1 sL):=h__law_names.df X G (Fz h__law_names.fn B C V D__law_mix) (mL h__law_names.fn (ps:=wC) rfl fun _ _ _ _ _ _ _ _=>rfl)
 have D__law_values:Def l.prog w K mg base "_law_values" 2 vX (spF K 1 vY):=h__law_values.df X G (Gm h__law_values.fn B C V D__law_mix) (lI h__law_values.fn (ps:=vX) rfl fun _ _ _ _ _ _ _=>rfl)
 have D__law_row:Def l.prog w K mg base "_law_row" 2 vH (spF K 0 vK):=h__law_row.df X G (Ed h__law_row.fn B C V D__law_mix) (qC h__law_row.fn (ps:=vH) rfl fun _ _ _ _ _ _ _ _ _=>rfl)
 have D__law_size_holds:Def l.prog w K mg base "_law_size_holds" 2 wG (spF K 0 pZ):=h__law_size_holds.df X G (Hb h__law_size_holds.fn B C V D_Book_size) (mL h__law_size_holds.fn (ps:=wG) rfl fun _ _ _ _ _ _ _ _=>rfl)
 have D_is_row:Def l.prog w K mg base "is_row" 3 uX (spF K 0 pV):=h_is_row.df X G (Am h_is_row.fn B C V D_is_value) (lI h_is_row.fn (ps:=uX) rfl fun _ _ _ _ _ _ _=>rfl)
 have D_are_widths:Def l.prog w K mg base "are_widths" 3 wA (spF K 0 oO):=h_are_widths.df X G (Gh h_are_widths.fn B C V D_is_name D_is_pair D_is_width) (lI h_are_widths.fn (ps:=wA) rfl fun _ _ _ _ _ _ _=>rfl)
 have D_Book_rows:MethX l.prog w K mg base "Book" "rows" 3 vM (spX K 1 oM):=⟨⟨_,_,_,hB,cl,h_Book_rows.me,Ey h_Book_rows.fn B C V D_Book_want_table,(mL h_Book_rows.fn (ps:=vM) rfl fun _ _ _ _ _ _ _ _=>rfl)⟩⟩
 have D_Book___init__:MakeX l.prog w K mg base "Book" 4 wD sN:=⟨⟨_,_,_,hB,⟨mk,h_Book___init__.me.at_,h_Book___init__.me.fn,kc⟩,Gv h_Book___init__.fn B C V D_are_widths,(mL h_Book___init__.fn (ps:=wD) rfl fun _ _ _ _ _ _ _ _=>rfl),mD X G aC⟩,Dl⟩
 have D_Book_want_row:MethX l.prog w K mg base "Book" "want_row" 4 nC (spX K 0 gD):=⟨⟨_,_,_,hB,cl,h_Book_want_row.me,Gy h_Book_want_row.fn B C V D_Book_want_table D_is_row,(qC h_Book_want_row.fn (ps:=nC) rfl fun _ _ _ _ _ _ _ _ _=>rfl)⟩⟩
 have D_Book_put:MethX l.prog w K mg base "Book" "put" 5 oQ (spX K 0 QB):=⟨⟨_,_,_,hB,cl,h_Book_put.me,Fh h_Book_put.fn B C V D_Book_want_row,(qC h_Book_put.fn (ps:=oQ) rfl fun _ _ _ _ _ _ _ _ _=>rfl)⟩⟩
 have DM_Book_put:MethM l.prog w K mg base "Book" "put" 5 oQ oR:=⟨⟨_,_,_,hB,cl,h_Book_put.me,Fo h_Book_put.fn B C V D_Book_want_row,(qC h_Book_put.fn (ps:=oQ) rfl fun _ _ _ _ _ _ _ _ _=>rfl)⟩,PN⟩
 have D_Book_drop:MethX l.prog w K mg base "Book" "drop" 5 oJ (spX K 0 QY):=⟨⟨_,_,_,hB,cl,h_Book_drop.me,Fn h_Book_drop.fn B C V D_Book_want_row,(qC h_Book_drop.fn (ps:=oJ) rfl fun _ _ _ _ _ _ _ _ _=>rfl)⟩⟩
 have DM_Book_drop:MethM l.prog w K mg base "Book" "drop" 5 oJ oK:=⟨⟨_,_,_,hB,cl,h_Book_drop.me,Gf h_Book_drop.fn B C V D_Book_want_row,(qC h_Book_drop.fn (ps:=oJ) rfl fun _ _ _ _ _ _ _ _ _=>rfl)⟩,PN⟩
 have D_Book_has:MethX l.prog w K mg base "Book" "has" 5 vL (spX K 0 kY):=⟨⟨_,_,_,hB,cl,h_Book_has.me,Ec h_Book_has.fn B C V D_Book_want_row,(qC h_Book_has.fn (ps:=vL) rfl fun _ _ _ _ _ _ _ _ _=>rfl)⟩⟩
 have DM__law_deed:DefX l.prog w K mg base "_law_deed" 6 vR (uK K 2 jL):=h__law_deed.dfX X G (Gg h__law_deed.fn B C V D__law_told D_Book_has DM_Book_put DM_Book_drop) (VZ h__law_deed.fn (ps:=vR) rfl fun _ _ _ _ _ _ _ _ _ _ _=>rfl)
 exact(ZG (CG (st:=pE) l_law c_law k_law) B C V D__law_cell D__law_mix D__law_rows_hold D__law_names D__law_values D__law_row D__law_size_holds D_Book_rows D_Book___init__ DM__law_deed).imp Hu
theorem walk {l:UD}{q:bB}{loose:List aD}{XP:(aD->Option aE)->aP->Prop}{YP:aW->aP->Prop}{d:DefRec}{K:Params->aG}(hn:l.most=some 63)(hdf:d.params.defaults=[])
  (hY : ∀ (w:aW) (h:aP),YP w h->(K w.params).In h)
  (F : ∀ (w:aW) (mg:aD->Option aE) (fa:aB) (h:aP),(K w.params).In h->h.Ns cF mg->mg d.name=some (.ref fa) ->
   ∃ fd:eM,(∀ (s:aH) (u:aE),qX s fd ⟨[u],[]⟩ [("_law_script",u)]) /\ ∀ base:aP,(K w.params).In base->base.Ns cF mg->FnOk l.prog w (K w.params) mg base CX0 7 fa fd ["_law_script"] (zV (K w.params))) :
  PySem.W.WalkO q loose XP YP l.row.toRowW d [] (fun f vs=>PySem.call f vs):=
 L2.A6h (n:=63) (k:=7) (x:="_law_script") (CX:=fun _=>CX0) (sp:=fun w=>zV (K w.params)) hn (by decide) hdf ⟨rfl,by decide,by decide⟩ hY F (fun _ _ a ns hl _ hS=>⟨a,ns,rfl,hS,hl,fun _=>rfl⟩) fun _ _ _ _ _ z=>z
end Aw
def PySem.W.Fast.tw7557189313813721546:=0
def PySem.W.Fast.tw10446358645954380962:=0
def PySem.W.Fast.tw15163910010205719823:=0
def PySem.W.Fast.tw3418143884296437887:=0
def PySem.W.Fast.tw4399036629401428972:=0
def PySem.W.Fast.tw10979093496979100619:=0
def PySem.W.Fast.tw10197151244663936639:=0
def PySem.W.Fast.tw15971383563460449398:=0
def PySem.W.Fast.tw18362120475692720522:=0
def PySem.W.Fast.tw39857484103824909:=0
def PySem.W.Fast.tw8199981547084810167:=0
def PySem.W.Fast.tw83523009047314656:=0
def PySem.W.Fast.tw17048220913651798526:=0
def PySem.W.Fast.tw5980285357054578570:=0
def PySem.W.Fast.tw11804271104928666348:=0
def PySem.W.Fast.tw10968520185179935491:=0
def PySem.W.Fast.tw15710921738316551105:=0
def PySem.W.Fast.tw7900285986615798111:=0
def PySem.W.Fast.tw6279446980346930630:=0
def PySem.W.Fast.tw6055738261964983686:=0
def PySem.W.Fast.tw18036399670264774002:=0
def PySem.W.Fast.tw14280598827776236626:=0
def PySem.W.Fast.tw5044425202257383644:=0
def PySem.W.Fast.tw2460460589136308164:=0
def PySem.W.Fast.tw18113952897926348253:=0
def PySem.W.Fast.tw468952732851090960:=0
def PySem.W.Fast.tw4041932507761965828:=0
def PySem.W.Fast.tw14682722869853642670:=0
def PySem.W.Fast.tw13947549987230529415:=0
def PySem.W.Fast.tw12015549484530992962:=0
def PySem.W.Fast.tw11289819460348675827:=0
def PySem.W.Fast.tw14590390825380463072:=0
def PySem.W.Fast.tw8701570978531512858:=0
def PySem.W.Fast.tw2562011131504817987:=0
def PySem.W.Fast.tw705043694172368485:=0
def PySem.W.Fast.tw11354206937775081494:=0
def PySem.W.Fast.tw7710801103332594480:=0
def PySem.W.Fast.tw7192540264561160245:=0
def PySem.W.Fast.tw1410442666490047045:=0
def PySem.W.Fast.tw16603015928221428454:=0
def PySem.W.Fast.tw12445194238364954578:=0
def PySem.W.Fast.tw10511408421321286708:=0
def PySem.W.Fast.tw12971660546393170768:=0
def PySem.W.Fast.tw10615850497835810854:=0
def PySem.W.Fast.tw12938129174347660509:=0
def PySem.W.Fast.tw5074796309605381598:=0
def PySem.W.Fast.tw16295312302497987961:=0
def PySem.W.Fast.tw7146423537338997235:=0
def PySem.W.Fast.tw18013229478138059871:=0
def PySem.W.Fast.tw10917260202994195807:=0
def PySem.W.Fast.tw443609590301409539:=0
def PySem.W.Fast.tw15594171353596503251:=0
def PySem.W.Fast.tw13808014611705621742:=0
def PySem.W.Fast.tw2437287422956926563:=0
def PySem.W.Fast.tw5693769583390542763:=0
def PySem.W.Fast.tw12327071778370239909:=0
def PySem.W.Fast.tw3754468769945681855:=0
def PySem.W.Fast.tw14842609330282430669:=0
def PySem.W.Fast.tw14772487307385477930:=0
def PySem.W.Fast.tw10223479689041826780:=0
def PySem.W.Fast.tw12165740310453803727:=0
def PySem.W.Fast.tw773793708664591854:=0
def PySem.W.Fast.tw7888817963955908222:=0
def PySem.W.Fast.tw7594013887065600710:=0
def PySem.W.Fast.tw7690741499177368756:=0
def PySem.W.Fast.tw12281301093911559264:=0
def PySem.W.Fast.tw3671117003508268165:=0
def PySem.W.Fast.tw609344361189648247:=0
def PySem.W.Fast.tw15897762996707954143:=0
def PySem.W.Fast.tw15421274585031855220:=0
def PySem.W.Fast.tw14692396222295022259:=0
def PySem.W.Fast.tw7127455342943581035:=0
def PySem.W.Fast.tw6512895960411364840:=0
def PySem.W.Fast.tw2496361595468275846:=0
def PySem.W.Fast.tw17258434114824205895:=0
def PySem.W.Fast.tw8389690279340716782:=0
def PySem.W.Fast.tw343306847285246592:=0
def PySem.W.Fast.tw10446054696918082735:=0
def PySem.W.Fast.tw14251634647567345662:=0
def PySem.W.Fast.tw6931446038590212807:=0
def PySem.W.Fast.tw2423796840099331785:=0
def PySem.W.Fast.tw2457641854681863683:=0
def PySem.W.Fast.tw18266520602836981382:=0
def PySem.W.Fast.tw16416872975131031194:=0
def PySem.W.Fast.tw13663953198465354490:=0
def PySem.W.Fast.tw17123898842759640135:=0
def PySem.W.Fast.tw7850029640682216944:=0
def PySem.W.Fast.tw1438257769578275561:=0
def PySem.W.Fast.tw7315509784962982385:=0
def PySem.W.Fast.tw17028664399221219479:=0
def PySem.W.Fast.tw3836998212643319425:=0
def PySem.W.Fast.tw955940886015997043:=0
def PySem.W.Fast.tw12821709628454612895:=0
def PySem.W.Fast.tw12302814647635582344:=0
def PySem.W.Fast.tw13694900922387974756:=0
def PySem.W.Fast.tw17830872905662773822:=0
def PySem.W.Fast.tw10402750487569229246:=0
def PySem.W.Fast.tw2122972775978862110:=0
def PySem.W.Fast.tw16417272351785400813:=0
def PySem.W.Fast.tw6283905450786373592:=0
def PySem.W.Fast.tw11172043042135431785:=0
def PySem.W.Fast.tw17366967677316971513:=0
def PySem.W.Fast.tw10538078515430246206:=0
def PySem.W.Fast.tw6071933474884201620:=0
def PySem.W.Fast.tw384522451323376733:=0
def PySem.W.Fast.tw16268466388527402289:=0
def PySem.W.Fast.tw5933973040804955093:=0
def PySem.W.Fast.tw9577002673186619047:=0
def PySem.W.Fast.tw12248869636260706793:=0
def PySem.W.Fast.tw105021717546116852:=0
def PySem.W.Fast.tw11809239244034799895:=0
def PySem.W.Fast.tw873210588391560014:=0
def PySem.W.Fast.tw15097292642138754428:=0
def PySem.W.Fast.tw7095887853707259861:=0
def PySem.W.Fast.tw11437699436435552709:=0
def PySem.W.Fast.tw17795375467341229825:=0
def PySem.W.Fast.tw9605266531277830504:=0
def PySem.W.Fast.tw7051213811845145564:=0
def PySem.W.Fast.tw938400894778687208:=0
def PySem.W.Fast.tw11712463369823900351:=0
def PySem.W.Fast.tw9839125389736889224:=0
def PySem.W.Fast.tw14590794720610784377:=0
def PySem.W.Fast.tw4052657502348470055:=0
def PySem.W.Fast.tw2332673914757146487:=0
def PySem.W.Fast.tw5121481173399830954:=0
def PySem.W.Fast.tw12470604575257658893:=0
def PySem.W.Fast.tw294985115919189148:=0
def PySem.W.Fast.tw2157691101111683597:=0
def PySem.W.Fast.tw711642527786298800:=0
def PySem.W.Fast.tw17550047998813708628:=0
def PySem.W.Fast.tw15072484993201809826:=0
def PySem.W.Fast.tw12250956901648379673:=0
def PySem.W.Fast.tw3844025265608412039:=0
def PySem.W.Fast.tw6353478723896245163:=0
def PySem.W.Fast.tw13328127430210533677:=0
def PySem.W.Fast.tw14818576063026416056:=0
def PySem.W.Fast.tw15083770924277064576:=0
def PySem.W.Fast.tw7655268721012448678:=0
def PySem.W.Fast.tw14323939940980437753:=0
def PySem.W.Fast.tw5470177142423740769:=0
def PySem.W.Fast.tw7028087531172457218:=0
def PySem.W.Fast.tw11404111996922671282:=0
def PySem.W.Fast.tw12954052765314452124:=0
def PySem.W.Fast.tw16043696142600434132:=0
def PySem.W.Fast.tw14802001677421696625:=0
def PySem.W.Fast.tw13659108678809762771:=0
def PySem.W.Fast.tw15396067929129943904:=0
def PySem.W.Fast.tw17380366545049184171:=0
def PySem.W.Fast.tw4091813696721599374:=0
def PySem.W.Fast.tw5413183190156133471:=0
def PySem.W.Fast.tw4962382402197775082:=0
def PySem.W.Fast.tw13829594027765390934:=0
def PySem.W.Fast.tw573918164888507270:=0
def PySem.W.Fast.tw16451041435004343449:=0
def PySem.W.Fast.tw4583360783956473817:=0
def PySem.W.Fast.tw8742230091766525653:=0
def PySem.W.Fast.tw7225206546223263405:=0
def PySem.W.Fast.tw1377068574379364380:=0
def PySem.W.Fast.tw12601791873925834000:=0
def PySem.W.Fast.tw15404692356225738537:=0
def PySem.W.Fast.tw10404229008074826861:=0
def PySem.W.Fast.tw16498312849314248723:=0
def PySem.W.Fast.tw9250260541951912534:=0
def PySem.W.Fast.tw13503288164117338048:=0
def PySem.W.Fast.tw8478432756624834506:=0
def PySem.W.Fast.tw8275110594519123106:=0
def PySem.W.Fast.tw9419028359536595215:=0
def PySem.W.Fast.tw1250728286141234740:=0
def PySem.W.Fast.tw13156481415469937330:=0
def PySem.W.Fast.tw14895221959109081808:=0
def PySem.W.Fast.tw16020701044985638648:=0
def PySem.W.Fast.tw12411094224958162265:=0
def PySem.W.Fast.tw7298795546877320729:=0
def PySem.W.Fast.tw7657188810832956443:=0
def PySem.W.Fast.tw16723033507222103366:=0
def PySem.W.Fast.tw9034613768086436551:=0
def PySem.W.Fast.tw7532561373872141726:=0
def PySem.W.Fast.tw13129005744988978684:=0
def PySem.W.Fast.tw18368611085727772410:=0
def PySem.W.Fast.tw14528511151647997334:=0
def PySem.W.Fast.tw4252361023640570115:=0
def PySem.W.Fast.tw8634809883782285814:=0
def PySem.W.Fast.tw16673718067634379219:=0
def PySem.W.Fast.tw8181762422035844426:=0
def PySem.W.Fast.tw18402648346791150924:=0
def PySem.W.Fast.tw12029598958825310906:=0
def PySem.W.Fast.tw6116295775903833294:=0
def PySem.W.Fast.tw13465210300078209842:=0
def PySem.W.Fast.tw16770178481470578988:=0
def PySem.W.Fast.tw8236083981568687352:=0
def PySem.W.Fast.tw3668021853187834103:=0
def PySem.W.Fast.tw13866036766486343257:=0
def PySem.W.Fast.tw16939724006735427409:=0
def PySem.W.Fast.tw11145385740837582180:=0
def PySem.W.Fast.tw14116420379669734866:=0
def PySem.W.Fast.tw1398254119153226548:=0
def PySem.W.Fast.tw2063969305196101107:=0
def PySem.W.Fast.tw2465874277053556865:=0
def PySem.W.Fast.tw8519815409013670374:=0
def PySem.W.Fast.tw34615450622771457:=0
def PySem.W.Fast.tw13980410149702302939:=0
def PySem.W.Fast.tw7326120311486132802:=0
def PySem.W.Fast.tw6193304336923320248:=0
def PySem.W.Fast.tw15342590778946403706:=0
def PySem.W.Fast.tw9238913935341106519:=0
def PySem.W.Fast.tw8023695496968166931:=0
def PySem.W.Fast.tw17359502981923048427:=0
def PySem.W.Fast.tw9177939620952181611:=0
def PySem.W.Fast.tw14788213916499429047:=0
def PySem.W.Fast.tw18369764647095832054:=0
def PySem.W.Fast.tw17593655024739581530:=0
def PySem.W.Fast.tw12477182843443188528:=0
def PySem.W.Fast.tw12869511035938626118:=0
def PySem.W.Fast.tw5851696095202157235:=0
def PySem.W.Fast.tw16482433460154484319:=0
def PySem.W.Fast.tw11784221736873497641:=0
def PySem.W.Fast.tw10658888635409981716:=0
def PySem.W.Fast.tw11864280317782899711:=0
def PySem.W.Fast.tw8000911638113624729:=0
def PySem.W.Fast.tw6609362545698960939:=0
def PySem.W.Fast.tw17153408655631133503:=0
def PySem.W.Fast.tw6628032432805556884:=0
def PySem.W.Fast.tw16081673953925195012:=0
def PySem.W.Fast.tw2886141448295899417:=0
def PySem.W.Fast.tw1736880359513976822:=0
def PySem.W.Fast.tw372634186694649553:=0
def PySem.W.Fast.tw11568326003518009986:=0
def PySem.W.Fast.tw8482181063754081208:=0
def PySem.W.Fast.tw18242589826923904127:=0
def PySem.W.Fast.tw10658029948304410066:=0
def PySem.W.Fast.tw9487282041677459156:=0
def PySem.W.Fast.tw14957864944161607245:=0
def PySem.W.Fast.tw12889974835565975681:=0
def PySem.W.Fast.tw12117140328600573482:=0
def PySem.W.Fast.tw1524702692564723224:=0
def PySem.W.Fast.tw17127130960767577200:=0
def PySem.W.Fast.tw3949461694178052595:=0
def PySem.W.Fast.tw16831577212387891663:=0
def PySem.W.Fast.tw3567000824487496834:=0
def PySem.W.Fast.tw2956874709907191521:=0
def PySem.W.Fast.tw16620115966988496487:=0
def PySem.W.Fast.tw14011876363988017144:=0
def PySem.W.Fast.tw13434228268055664345:=0
def PySem.W.Fast.tw16033449669213557386:=0
def PySem.W.Fast.tw17986958480615412429:=0
def PySem.W.Fast.tw3846196959349618725:=0
def PySem.W.Fast.tw2686838038275299909:=0
def PySem.W.Fast.tw235308184666012127:=0
def PySem.W.Fast.tw15277390091211141129:=0
def PySem.W.Fast.tw5191755699755025272:=0
def PySem.W.Fast.tw7049662999533200423:=0
def PySem.W.Fast.tw8232297114086906148:=0
def PySem.W.Fast.tw5325451169095804154:=0
def PySem.W.Fast.tw13863087922800576637:=0
def PySem.W.Fast.tw3518019000083709491:=0
open PySem PySem.W PyProof.Rows
set_option maxRecDepth 100000 in
set_option maxHeartbeats 0 in
theorem PySem.Challenge.cw_askwithin_k09_rows_put_and_dropped_holds : PySem.Challenge.rw_askwithin_k09_rows_put_and_dropped.Holds := by
 w_on; o_law; k_head; (case hw=>w_witness2)
 k_fill
 refine Aw.walk (l:=PySem.Challenge.rw_askwithin_k09_rows_put_and_dropped) rfl rfl (fun w h Y=>PySem.W.kIn_of Y) ?F
 case F=>
  intro w mg fa h KX G hmg
  refine' Aw.all_mk KX G hmg ?aC ?pg ?hd ?po ?sa ?mk ?kc ?nW ?nH (Aw.Ag8 ?a_is_whole ?l_is_whole ?c_is_whole ?k_is_whole) (Aw.Ag8 ?a_is_name ?l_is_name ?c_is_name ?k_is_name) (Aw.Ag8 ?a_is_pair ?l_is_pair ?c_is_pair ?k_is_pair) (Aw.Anc ?a_Book_tables ?i_Book_tables ?l_Book_tables ?c_Book_tables ?k_Book_tables) (Aw.Anc ?a_Book_size ?i_Book_size ?l_Book_size ?c_Book_size ?k_Book_size) (Aw.Ag8 ?a__law_cell ?l__law_cell ?c__law_cell ?k__law_cell) (Aw.Ag8 ?a__law_mix ?l__law_mix ?c__law_mix ?k__law_mix) (Aw.Ag8 ?a__law_told ?l__law_told ?c__law_told ?k__law_told) (Aw.Ag8 ?a__law_rows_hold ?l__law_rows_hold ?c__law_rows_hold ?k__law_rows_hold) (Aw.Ag8 ?a_is_value ?l_is_value ?c_is_value ?k_is_value) (Aw.Ag8 ?a_is_width ?l_is_width ?c_is_width ?k_is_width) (Aw.Anc ?a_Book_want_table ?i_Book_want_table ?l_Book_want_table ?c_Book_want_table ?k_Book_want_table) (Aw.Ag8 ?a__law_names ?l__law_names ?c__law_names ?k__law_names) (Aw.Ag8 ?a__law_values ?l__law_values ?c__law_values ?k__law_values) (Aw.Ag8 ?a__law_row ?l__law_row ?c__law_row ?k__law_row) (Aw.Ag8 ?a__law_size_holds ?l__law_size_holds ?c__law_size_holds ?k__law_size_holds) (Aw.Ag8 ?a_is_row ?l_is_row ?c_is_row ?k_is_row) (Aw.Ag8 ?a_are_widths ?l_are_widths ?c_are_widths ?k_are_widths) (Aw.Anc ?a_Book_rows ?i_Book_rows ?l_Book_rows ?c_Book_rows ?k_Book_rows) (Aw.Anc ?a_Book___init__ ?i_Book___init__ ?l_Book___init__ ?c_Book___init__ ?k_Book___init__) (Aw.Anc ?a_Book_want_row ?i_Book_want_row ?l_Book_want_row ?c_Book_want_row ?k_Book_want_row) (Aw.Anc ?a_Book_put ?i_Book_put ?l_Book_put ?c_Book_put ?k_Book_put) (Aw.Anc ?a_Book_drop ?i_Book_drop ?l_Book_drop ?c_Book_drop ?k_Book_drop) (Aw.Anc ?a_Book_has ?i_Book_has ?l_Book_has ?c_Book_has ?k_Book_has) (Aw.Ag8 ?a__law_deed ?l__law_deed ?c__law_deed ?k__law_deed) (Aw.Bco ?a_law ?l_law ?c_law ?k_law)  ?y_NoTable ?y_NoRow ?y_Full ?x_NoTable ?x_NoRow ?x_Full ⟨?xga,?xgh,?xcl,?xmo,?xmb,?xic⟩ ?z_isinstance ?z_int ?z_bool ?z_abs ?z_range ?z_len ?z_str ?z_all ?z_any ?z_list ?z_tuple ?z_dict ?z_set ?z_sorted ?z_sum ?z_min ?z_max ?z_enumerate ?z_zip ?z_reversed ?z_ValueError ?g_LETTERS ?g_FIGURES ?g_MOST_SIGNS ?g_MOST_WIDTH ?g_MOST_TABLES ?g_MOST_ROWS
  (case aC=>k_is); (case pg=>k_is); (case hd=>k_is); (case po=>k_is); (case sa=>k_is); (case mk=>k_is); (case kc=>k_is); (case nW=>k_is); (case nH=>k_is)
  (case a_is_whole=>k_is); (case l_is_whole=>k_is); (case c_is_whole=>k_is); (case k_is_whole=>k_is)
  (case a_is_name=>k_is); (case l_is_name=>k_is); (case c_is_name=>k_is); (case k_is_name=>k_is)
  (case a_is_pair=>k_is); (case l_is_pair=>k_is); (case c_is_pair=>k_is); (case k_is_pair=>k_is)
  (case a_Book_tables=>k_is); (case i_Book_tables=>k_is); (case l_Book_tables=>k_is); (case c_Book_tables=>k_is); (case k_Book_tables=>k_is)
  (case a_Book_size=>k_is); (case i_Book_size=>k_is); (case l_Book_size=>k_is); (case c_Book_size=>k_is); (case k_Book_size=>k_is)
  (case a__law_cell=>k_is); (case l__law_cell=>k_is); (case c__law_cell=>k_is); (case k__law_cell=>k_is)
  (case a__law_mix=>k_is); (case l__law_mix=>k_is); (case c__law_mix=>k_is); (case k__law_mix=>k_is)
  (case a__law_told=>k_is); (case l__law_told=>k_is); (case c__law_told=>k_is); (case k__law_told=>k_is)
  (case a__law_rows_hold=>k_is); (case l__law_rows_hold=>k_is); (case c__law_rows_hold=>k_is); (case k__law_rows_hold=>k_is)
  (case a_is_value=>k_is); (case l_is_value=>k_is); (case c_is_value=>k_is); (case k_is_value=>k_is)
  (case a_is_width=>k_is); (case l_is_width=>k_is); (case c_is_width=>k_is); (case k_is_width=>k_is)
  (case a_Book_want_table=>k_is); (case i_Book_want_table=>k_is); (case l_Book_want_table=>k_is); (case c_Book_want_table=>k_is); (case k_Book_want_table=>k_is)
  (case a__law_names=>k_is); (case l__law_names=>k_is); (case c__law_names=>k_is); (case k__law_names=>k_is)
  (case a__law_values=>k_is); (case l__law_values=>k_is); (case c__law_values=>k_is); (case k__law_values=>k_is)
  (case a__law_row=>k_is); (case l__law_row=>k_is); (case c__law_row=>k_is); (case k__law_row=>k_is)
  (case a__law_size_holds=>k_is); (case l__law_size_holds=>k_is); (case c__law_size_holds=>k_is); (case k__law_size_holds=>k_is)
  (case a_is_row=>k_is); (case l_is_row=>k_is); (case c_is_row=>k_is); (case k_is_row=>k_is)
  (case a_are_widths=>k_is); (case l_are_widths=>k_is); (case c_are_widths=>k_is); (case k_are_widths=>k_is)
  (case a_Book_rows=>k_is); (case i_Book_rows=>k_is); (case l_Book_rows=>k_is); (case c_Book_rows=>k_is); (case k_Book_rows=>k_is)
  (case a_Book___init__=>k_is); (case i_Book___init__=>k_is); (case l_Book___init__=>k_is); (case c_Book___init__=>k_is); (case k_Book___init__=>k_is)
  (case a_Book_want_row=>k_is); (case i_Book_want_row=>k_is); (case l_Book_want_row=>k_is); (case c_Book_want_row=>k_is); (case k_Book_want_row=>k_is)
  (case a_Book_put=>k_is); (case i_Book_put=>k_is); (case l_Book_put=>k_is); (case c_Book_put=>k_is); (case k_Book_put=>k_is)
  (case a_Book_drop=>k_is); (case i_Book_drop=>k_is); (case l_Book_drop=>k_is); (case c_Book_drop=>k_is); (case k_Book_drop=>k_is)
  (case a_Book_has=>k_is); (case i_Book_has=>k_is); (case l_Book_has=>k_is); (case c_Book_has=>k_is); (case k_Book_has=>k_is)
  (case a__law_deed=>k_is); (case l__law_deed=>k_is); (case c__law_deed=>k_is); (case k__law_deed=>k_is)
  (case a_law=>k_is); (case l_law=>k_is); (case c_law=>k_is); (case k_law=>k_is)
  (case y_NoTable=>k_is); (case y_NoRow=>k_is); (case y_Full=>k_is); (case x_NoTable=>k_exc); (case x_NoRow=>k_exc); (case x_Full=>k_exc); (case xga=>k_is); (case xgh=>k_is); (case xcl=>k_is); (case xmo=>k_is); (case xmb=>k_is); (case xic=>k_is)
  (case z_isinstance=>k_is); (case z_int=>k_is); (case z_bool=>k_is); (case z_abs=>k_is); (case z_range=>k_is); (case z_len=>k_is); (case z_str=>k_is); (case z_all=>k_is); (case z_any=>k_is); (case z_list=>k_is); (case z_tuple=>k_is); (case z_dict=>k_is); (case z_set=>k_is); (case z_sorted=>k_is); (case z_sum=>k_is); (case z_min=>k_is); (case z_max=>k_is); (case z_enumerate=>k_is); (case z_zip=>k_is); (case z_reversed=>k_is); (case z_ValueError=>k_is)
  (case g_LETTERS=>k_is); (case g_FIGURES=>k_is); (case g_MOST_SIGNS=>k_is); (case g_MOST_WIDTH=>k_is); (case g_MOST_TABLES=>k_is); (case g_MOST_ROWS=>k_is)
