import PyProof.Rows.All
import Wide.All
import OpenK.AllK
import Wide.FinOn
import Lean
import PyProof.EqAt
import PyProof.EqKinds
import PyProof.TupleCall
import PyProof.TupleOfStr
import PyProof.ListStr
import KE.KSortTup
import PyProof.Rows.SortShellK
import PyProof.MeetsSeq2
import PyProof.FactsAll.list_4
import PyProof.AutoSeq1
import PyProof.ConsumeWalk
import PyProof.ListMulRoad
import PyProof.Rows.SeqMore
import PyProof.FactsAll.tuple_2
import KE.KTryMore
import OpenK.KOwn
import PyProof.Rows.CatchBare
import KE.KIsAll
import PyProof.ExcArgsOwn
import PyProof.ExcAttrAll.ValueError
import KE.RegKTryMore
import KE.RegKIsAll
import PyProof.StrCalls2
import PyProof.StrLawsChain
import PyProof.StrLawsTight
import PyProof.Rows.StrNews
import KE.KIntText
import PyProof.Rows.StrNews2
import PyProof.Rows.StrLast
import PyProof.ZipIter
import PyProof.TupleIter
import PyProof.AttrMissHeap
import PyProof.Rows.SortStr
import PyProof.SetKind
import PyProof.Rows.SetFrom
import PyProof.AutoListH
import PyProof.ListNew
import PyProof.FactsAll.list_2
import PyProof.ListRange
import PyProof.CollectWalk
import PyProof.EnumMake
import PyProof.DictItemsLoops
import PyProof.DictWalks
import PyProof.DictValues
import PyProof.DictFindH
import PyProof.MeetsDictList
import PyProof.P3In
import PyProof.WalksMore
import PyProof.SeqI3
import PyProof.Rows.SumAny
import PyProof.IsRules
import PyProof.Rows.StrItems
import PySem.Challenge.RW_askwithin_k12_whole_books_apart
open PySem renaming PyData->aA,Addr->aB,Str->aD,Value->aE,Shared->aG,wpAny_bind->aJ,wpAny->aO,Heap->aP,model->aQ,Expr->aS,wpAny_pure->aT,World->aU,Obj->aW,Program->bB,starEach->bE,eval->bH,Pos->bQ,Around->bS,Stmt->bW,mainGlobals->cL,Paired->dB,Env->eR,compareOp->fH,backTo->fK,FuncData->fM,SetTable->fX,wpAny_holding->hU,assignEach->iJ,Scope->iK,boot_len->iL,sysModules->iU,wpAny_mono->kF,swapsWith->kG,binaryOp->kH,codeAny->kX,Reads->kZ,codeAny_builtin->lL,bootBuiltins->lM,attributeBase->lN,assign->lO,NameKind->lT,ReadsAll->mK,Spec->mL,sizeLine_eq->nL,merged->nM,holding->nO,atKey->nP,DictEntry->nY,codeAny_mono->pC,Keyword->pJ,wpAny_call_entry->qP,pyIter->qQ,plainId_quiet->qR,Result->qS,GenState->qZ,wpAny_truthy_bool->sT,stored->sU,keywordEach->sV,foldedSetIterable->sW,call_meets->sX,backToKw->sY,BindsTo->tK,valueAt->vI,standAt->vJ,sliceBounds->vK,relabel->vL,callerA->vM,wpAny_specialOf->yZ,wpAny_newList->zA,wpAny_dictEntries->zB,bindArgs->zC,behindInMarks->zD,wpAny_typeOf->EE,wpAny_setState_of->EG,wpAny_pyIter_list->EH,wpAny_passesOwn->EI,wpAny_newObj_type->EJ,wpAny_ite_split->EK,wpAny_forIn_list->EL,wpAny_call->EM,typeLookup->EN,scanBound->EO,ofAClassStatement->ER,hashByValue->ES,getMethod->ET,mem_of_lookup->EX,wpAny_typeNameOf_keyiter->MF,wpAny_typeNameOfWhole_keyiter->MG,wpAny_seqItems->MH,wpAny_Call_Name_kw->MI,subscripted->MJ,letOwnedTupleGo->ML,wpAny_notOrdered_dict->Ax,wpAny_isInstance->Ay,wpAny_callSpecial?_slot->Az,builtinLookup_eq_fast->Ba,SetTable->Bn,Builtin->Bs
open PySem.W renaming Frag->aH,nsIn->dP,mg_none_of->hV,fnOf->kI,findIn->lA,kia_one->lP,keepIn->lQ,mg_of->nQ,emptyDict->nR,instObj->pD,codeIn->vO,excIn->zE,plainGet->EY,lookIn->MQ,isFn->MR,hideAll_get->MS,hasDictIn->MT,callWith_K->MU,takerIn->Bb,plainOver->Bc,plainGet_of->Bd,of_hideAll->Be,methodObj->Bf,methodCall_KW->Bg,makesIn->Bh,kitx_list->Bi,kitx_dict->Bj,kitOne->Bl,OpenLaw->Bm
open PySem.PyData renaming int->aZ,str->cF,eqv->cM,canLay0->cQ,depthAll->cV,tuple->fL,bool->fP,depth->hW,eqvAll->qT,canLayAll0->zF,strOk->MW
open List renaming mem_cons_self->bD,mem_map->bF,mem_cons_of_mem->bJ,length_map->bX,mem_cons->cI,mem_singleton->cN,range->cW,map_cons->dC,getElem?_eq_some_iff->dM,flatten_cons->dQ,nodup_cons->dS,mem_flatten->dY,size_toArray->eB,length_cons->eD,all_eq_true->eE,replicate->fC,getElem?_map->fD,map_map->fQ,find?_cons->gH,toArray->iB,mem_range->iN,mem_append->iO,mem_of_getElem?->iW,lookup->jN,nodup_append->jV,getElem?_eq_getElem->jW,length_take->lC,getElem?_set_ne->lD,filter_cons->lE,mem_append_right->lU,lookup_cons->mM,getElem?_set_self->mO,length_append->nU,append_nil->nV,pairwise_map->pF,map_congr_left->pG,length->pH,foldl_cons->pI,getElem?_cons_succ->qX,map_id->tD,filter_eq_self->tH,take_add_one->vT,replicate_succ->vU,getElem?_append_left->vV,cons_append->vW,take_length->zJ,mem_filter->zK,map_append->zL,getElem_mem->zM,getElem?_cons_zero->zN,eq_nil_of_length_eq_zero->zO,cons_lt_cons_iff->zP,length_singleton->FK,length_range->FL,getElem?_append_right->FM,flatten_nil->FN,any_cons->FO,mem_iff_getElem?->NF,mem_filterMap->NG,mem_append_left->NH,map_take->NI,length_set->NJ,length_filter_le->NK,le_trans->NL,getElem?_inj->NM,foldl_append->NN,foldl->NO,flatten_singleton->NP,flatten_append->NQ,append_assoc->NR,zip_cons_cons->Bz,pairwise_mergeSort->Ca,pairwise_iff_getElem->Cb,of_mem_zip->Cc,nodup_range->Cd,nodup_nil->Ce,mergeSort_perm->Cf,mem_or_eq_of_mem_set->Cg,mem_iff_getElem->Ci,length_nil->Cj,getElem?_take->Ck,filterMap_cons->Cm,any_eq_true->Co,getElem?_take_of_lt->Xv,eraseIdx_cons_succ->Xw,drop_eq_getElem_cons->Xx
open Or renaming inr->bI,inl->bM
open Option renaming bind_some->bO,map_eq_some_iff->hX,isSome_iff_exists->pE,map_some->sZ,join_some->FF,none->MX,isSome_map->Bv
open Nat renaming le_refl->bP,ne_of_lt->dG,zero_le->eL,lt_of_lt_of_le->gG,le_trans->iA,lt_irrefl->lB,ne_of_gt->qV,le_succ->qW,lt_trans->vQ,le_of_lt->vR,lt_succ_of_lt->zH,lt_or_ge->zI,pow_succ->FG,mul_assoc->FH,mul_add->FI,mod_lt->FJ,mul_mul_mul_comm->MY,mul_comm->MZ,lt_trichotomy->NA,le_of_eq->NB,add_zero->NC,add_assoc->ND,mul_left_comm->Bw,lt_succ_self->Bx,le_succ_of_le->By
open PySem.Heap renaming lt_size->cG,get?_push_of_some->cJ,get?_push_size->eM,SameBut->mP,get?_update_self->zQ,size_push->FQ,get?_update_other->NT,get?_push_ne->Cr
open PySem.Value renaming ref->dD,none->fA,type->jC,str->EU,int->EV
open Option.some renaming inj->dZ,injEq->vP
open PySem.NameKind renaming free->fZ
open PyProof.Rows renaming seqObj->gF,envOfC->iV,AllBare->pK,boot_sorted->FB,boot_list->FC,slot_list_sort->MK,entry_list_sort->MM,args_list_sort->MN,boot_tuple->Bt,boot_dict->Bu,callWith_type1->Xu
open Bool renaming false_eq_true->gJ,and_eq_true_iff->iC,false_ne_true->rA,and_eq_true->vZ,not_true->zU,true_or->FU,or_eq_true_iff->Ct
open Array renaming length_toList->gV,getElem?_toList->rB,getElem?_eq_some_iff->tL,getElem?_eq_getElem->wB,toList_inj->FV,toList_filterMap->NW,getD_eq_getD_getElem?->NX,forIn_toList->NY,perm_iff_toList_perm->Yc
open PySem.Obj renaming mapSeq->iM,putSet->zG
open Sum renaming inr->jM,inl->vN
open True renaming intro->jU
open False renaming elim->jX
open PySem.F renaming called_set->jY,slot_tuple_mul->EZ,plainAttrs_list->FA,slot_tuple_hash->FR,slot_dict_keyiterator_next->FS,slot_dict_pop->MV,type_list_append->Bo,slot_list_append->Bp,entry_tuple_mul->Bq,args_tuple_mul_2->Br,slot_list_getattribute->Cs,plainAttrs_dict->Xp,excBase_ValueError->Xq,entry_tuple_add->Xr,args_tuple_add_2->Xs,args_dict_pop_2->Xt,slot_dict_itemiterator_iter->Xz,entry_dict_keyiterator_next->Ya,args_dict_keyiterator_next_1->Yb
open PySem.Paired renaming length->kJ
open PySem.Str renaming join->kY,ofString->MO
open Ne renaming symm->lR
open Int renaming ofNat->nX,eq_ofNat_of_zero_le->qY,toNat_natCast->Cq
open PySem.Around renaming under_plainId->nZ
open PySem.PassesOwn renaming never->qU
open PySem.Builtin.Str renaming occurrences->tJ
open PySem.Heap.SameBut renaming update->vX
open Classical renaming choose_spec->vY,byContradiction->NV
open PySem.AutoSeq1 renaming wpAny_loadPart'->wA,sub_tuple_tuple->Cu,idx_int->Cv
open ForInStep renaming yield->zR
open PyProof.Rows.F renaming plain_set_update_loop->zS,entry_set_update_loop->NU
open PySem.Builtin.Tuple renaming tupleHashOf->zT
open PySem.SetTable renaming fresh->EW,fill->MP
open PySem.PyData.tuple renaming inj->FD
open Prod.mk renaming injEq->FE
open List.Perm renaming refl->FP,eq_of_pairwise->Xy
open PySem.Calls renaming call_function_entry->FT
open Array.Perm renaming refl->FW
open List.Nodup renaming length_le_of_subset->NS
open List.cons renaming injEq->Cn
open List.Pairwise renaming imp_of_mem->Cp
theorem XBs {α β:Type}{x:Option α}{f:α->Option β}{b:β}(h:x.bind f=some b) : ∃ a,x=some a/\f a=some b:=Option.bind_eq_some_iff.mp h
set_option Elab.async false
set_option bootstrap.genMatcherCode false
set_option genSizeOfSpec false
set_option linter.all false
set_option maxRecDepth 100000
set_option exponentiation.threshold 2000
noncomputable section
namespace L2
open PySem PySem.Spec PyProof.Rows
variable {h h' base:aP}{ks:List aA}{a f C dx:aB}{xs:List (List aA×aB×aE)}{us:List aE}{x:aD}{u:aE}{o:aW}{t' i ep:Nat}{ch fp:List aB}{e c tg value:aS}{M:Model}{A:bS}{E Q:aE->aG->Prop}{s' s:aG}{pos pos' p:bQ}{pins:List (aB×aW)}{K:aH}{es:List aS}{op:CmpOp}{mA mg:aD->Option aE}{kw:List (aD×aE)}{prog:bB}{ps:List aD}
instance decEqData:DecidableEq aA:=fun a b=>Classical.propDecidable (a=b)
mutual
def bA:aA->Bool
 | .int _=>true
 | .str x=>cQ (.str x)
 | .tuple ds=>bU ds
 | _=>false
def bU:List aA->Bool
 | []=>true
 | d::r=>bA d&&bU r
end
mutual
theorem IZ : ∀ d:aA,bA d=true->d.canLay0=true
 | .int _,_=>by simp[cQ]
 | .str x,h=>by simpa [bA] using h
 | .tuple ds,h=>by
  simp only[cQ]
  exact VC ds (by simpa [bA] using h)
 | .none,h=>by simp[bA] at h
 | .bool _,h=>by simp[bA] at h
 | .list _,h=>by simp[bA] at h
 | .dict _,h=>by simp[bA] at h
theorem VC : ∀ ds:List aA,bU ds=true->zF ds=true
 | [],_=>by simp[zF]
 | d::r,h=>by
  have h':bA d=true/\bU r=true:=by simpa [bU] using h
  simp only[zF,IZ d h'.1,VC r h'.2,Bool.and_self]
end
mutual
theorem JC : ∀ x y:aA,bA x=true->bA y=true->cM x y=decide (x=y)
 | .int i,.int j,_,_=>by
  by_cases e:i=j
  ·subst e; simp[cM]
  ·have : ¬ aZ i = .int j:=fun q=>e (PyData.int.inj q)
   simp[cM,e]
 | .str i,.str j,_,_=>by
  by_cases e:i=j
  ·subst e; simp[cM]
  ·simp[cM,e]
 | .tuple xs,.tuple ys,h1,h2=>by
  have e:=JN xs ys (by simpa [bA] using h1) (by simpa [bA] using h2)
  simp only[cM,e]
  by_cases q:xs=ys
  ·subst q; simp
  ·have : ¬ fL xs = .tuple ys:=fun z=>q (FD z)
   rw[decide_eq_false q,decide_eq_false this]
 | .int _,.str _,_,_=>by simp[cM]
 | .int _,.tuple _,_,_=>by simp[cM]
 | .str _,.int _,_,_=>by simp[cM]
 | .str _,.tuple _,_,_=>by simp[cM]
 | .tuple _,.int _,_,_=>by simp[cM]
 | .tuple _,.str _,_,_=>by simp[cM]
 | .none,_,h,_=>by simp[bA] at h
 | .bool _,_,h,_=>by simp[bA] at h
 | .list _,_,h,_=>by simp[bA] at h
 | .dict _,_,h,_=>by simp[bA] at h
 | .int _,.none,_,h=>by simp[bA] at h
 | .int _,.bool _,_,h=>by simp[bA] at h
 | .int _,.list _,_,h=>by simp[bA] at h
 | .int _,.dict _,_,h=>by simp[bA] at h
 | .str _,.none,_,h=>by simp[bA] at h
 | .str _,.bool _,_,h=>by simp[bA] at h
 | .str _,.list _,_,h=>by simp[bA] at h
 | .str _,.dict _,_,h=>by simp[bA] at h
 | .tuple _,.none,_,h=>by simp[bA] at h
 | .tuple _,.bool _,_,h=>by simp[bA] at h
 | .tuple _,.list _,_,h=>by simp[bA] at h
 | .tuple _,.dict _,_,h=>by simp[bA] at h
theorem JN : ∀ xs ys:List aA,bU xs=true->bU ys=true->qT xs ys=decide (xs=ys)
 | [],[],_,_=>by simp[qT]
 | [],_::_,_,_=>by simp[qT]
 | _::_,[],_,_=>by simp[qT]
 | x::xs,y::ys,h1,h2=>by
  have h1':bA x=true/\bU xs=true:=by simpa [bU] using h1
  have h2':bA y=true/\bU ys=true:=by simpa [bU] using h2
  simp only[qT,JC x y h1'.1 h2'.1,JN xs ys h1'.2 h2'.2]
  by_cases e:x=y
  ·subst e
   by_cases q:xs=ys
   ·subst q; simp
   ·simp[q]
  ·simp[e]
end
mutual
def dI (w:aU):aA->Int
 | .int i=>hashInt i
 | .str x=>hashStr w x
 | .tuple ds=>reduceHash (zT (kR w ds))
 | _=>0
def kR (w:aU):List aA->List Int
 | []=>[]
 | d::r=>dI w d::kR w r
end
mutual
def pL:aA->Nat
 | .tuple ds=>mT ds+1
 | _=>1
def mT:List aA->Nat
 | []=>0
 | d::r=>pL d+mT r
end
theorem XI (a b:List aA):mT (a++b)=mT a+mT b:=by
 induction a with
 | nil=>simp[mT]
 | cons x r ih=>simp only[vW,mT,ih]; omega
theorem XM (w:aU)(a b:List aA):kR w (a++b)=kR w a++kR w b:=by
 induction a with
 | nil=>rfl
 | cons x r ih=>simp only[vW,kR,ih]
section
variable {w:aU}
theorem mW{v:aE}{as:List aB}(r:kZ h v (.tuple ks) as) : ∃ a o vs n,v = .ref a/\h.get? a=some o/\o.cls = .type "tuple" /\ o.data = .seq vs n/\mK h vs.toList ks as:=by
 cases r with
 | tuple h1 h2 h3 h4=>exact⟨_,_,_,_,rfl,h1,h2,h3,h4⟩
mutual
theorem WE : ∀ (d:aA) {A:bS} {E:aE->aG->Prop} {s:aG} {v:aE} {as:List aB} {Q:Int->aG->Prop},A.units+d.depth<cLine->bA d=true->kZ s.heap v d as ->
  Q (dI w d) { s with toks:=s.toks+pL d }->aO (aQ prog w) A (pyHash v) Q E s
 | .int i,A,E,s,v,as,Q,hu,hk,r,h=>by
  cases r with
  | int _ t=>exact wpAny_pyHash_int (by simpa [dI,pL] using h)
 | .str x,A,E,s,v,as,Q,hu,hk,r,h=>by
  cases r with
  | str _ t=>exact wpAny_pyHash_str (by simpa [dI,pL] using h)
 | .tuple ks,A,E,s,v,as,Q,hu,hk,r,h=>by
  obtain⟨a,o,items,n,rfl,ho,hc,hd,hi⟩:=mW r
  have hT:s.TypeIs (.ref a) "tuple":=⟨o,ho,hc⟩
  have hdep:A.units+(cV ks+1)<cLine:=by simpa [hW] using hu
  unfold pyHash
  first | unfold pyHashByItsType | skip
  first | refine aJ (wpAny_cRoomFor_or (.inr (by omega)) ?_) | skip
  refine aJ (yZ hT FR.lookup ?_)
  rw[if_neg (by rw[beq_builtin_none]; exact rA)]
  refine aJ (yZ hT FR.lookup ?_)
  refine aJ (wpAny_callSpecialIfBoundUnlessNone?_slot hT FR (qP FR hT F.entry_tuple_hash ?_ (F.args_tuple_hash_1 _)))
  show aO _ _ (Builtin.Tuple.tupleItemsOf (.ref a) >>= _) _ _ s
  refine aJ (wpAny_tupleItemsOf ho hd ?_)
  refine aJ ?_
  rw[← NY]
  refine EL _
   (fun rest (b:Array Int) s'=>∃ done left bs,ks=done++left/\mK s.heap rest left bs/\b.toList=kR w done/\s' = { s with toks:=s.toks+mT done })
   _ ?_ ?_ _ _ ⟨[],ks,as,rfl,hi,rfl,rfl⟩
  ·rintro x rest b s' ⟨done,left,bs,e,hl,hb,rfl⟩
   cases hl with
   | @cons _ _ d ds as1 bs1 h1 hl'=>
    have hm:d∈ks:=by rw[e]; exact lU _ bD
    have hk':bU ks=true:=by simpa [bA] using hk
    refine aJ (WR ks hm (by
     have:A.in1.units=A.units+1:=rfl
     omega) hk' h1 ?_)
    first
     | exact aT ⟨done++[d],ds,bs1,by simp[e],hl',by simp[hb,XM,kR],by simp[XI,mT,ND]⟩
     | exact aJ (aT (aT ⟨done++[d],ds,bs1,by simp[e],hl',by simp[hb,XM,kR],by simp[XI,mT,ND]⟩))
  ·rintro b s' ⟨done,left,bs,e,hl,hb,rfl⟩
   cases hl
   rw[nV] at e
   subst e
   show aO _ _ (retInt (zT b.toList)) _ _ _
   rw[hb]
   refine wpAny_ret_mkInt ?_
   show aO _ _ (if (decide (-(2:Int) ^ 63≤zT (kR w ks))&&decide (zT (kR w ks)<2 ^ 63))=true then _ else _) Q E _
   simp only[dI,pL] at h
   unfold reduceHash at h
   by_cases hr:(decide (-(2:Int) ^ 63≤zT (kR w ks))&&decide (zT (kR w ks)<2 ^ 63))=true
   ·rw[if_pos hr]
    rw[if_pos hr] at h
    exact aT (by simpa [ND] using h)
   ·rw[if_neg hr]
    rw[if_neg hr] at h
    exact aJ (wpAny_rule (aT (by simpa [ND] using h)))
 | .none,A,E,s,v,as,Q,hu,hk,r,h=>by simp[bA] at hk
 | .bool _,A,E,s,v,as,Q,hu,hk,r,h=>by simp[bA] at hk
 | .list _,A,E,s,v,as,Q,hu,hk,r,h=>by simp[bA] at hk
 | .dict _,A,E,s,v,as,Q,hu,hk,r,h=>by simp[bA] at hk
theorem WR : ∀ (ks:List aA) {d:aA},d∈ks -> ∀ {A:bS} {E:aE->aG->Prop} {s:aG} {v:aE} {as:List aB} {Q:Int->aG->Prop},A.units+cV ks<cLine->bU ks=true->kZ s.heap v d as ->
  Q (dI w d) { s with toks:=s.toks+pL d }->aO (aQ prog w) A (pyHash v) Q E s
 | [],_,hm,_,_,_,_,_,_,_,_,_,_=>by simp at hm
 | k::ks,d,hm,A,E,s,v,as,Q,hu,hk,r,h=>by
  have hk':bA k=true/\bU ks=true:=by simpa [bU] using hk
  have hdep:A.units+max k.depth (cV ks)<cLine:=by simpa [cV] using hu
  by_cases e:d=k
  ·exact WE k (by omega) hk'.1 (e ▸ r) (by rw[← e]; exact h)
  ·have hm':d∈ks:=by
    rcases cI.mp hm with q | q
    ·exact absurd q e
    ·exact q
   exact WR ks hm' (by omega) hk'.2 r h
end
end
section
variable {w:aU}
mutual
theorem CM : ∀ (d:aA) (n:Nat) {A:bS} {E:aE->aG->Prop} {s:aG} {v:aE} {as:List aB} {Q:Bool->aG->Prop},d.depth≤n->bA d=true->kZ s.heap v d as ->
  Q true s->aO (aQ prog w) A (eqIsQuiet n v) Q E s
 | .int i,n,A,E,s,v,as,Q,hu,hk,r,h=>by
  cases r with
  | int _ t=>
   rw[eqIsQuiet_byValue n (by rfl)]
   exact aT h
 | .str x,n,A,E,s,v,as,Q,hu,hk,r,h=>by
  cases r with
  | str _ t=>
   rw[eqIsQuiet_byValue n (by rfl)]
   exact aT h
 | .tuple ks,n,A,E,s,v,as,Q,hu,hk,r,h=>by
  obtain⟨a,o,items,m,rfl,ho,hc,hd,hi⟩:=mW r
  have hT:s.TypeIs (.ref a) "tuple":=⟨o,ho,hc⟩
  have hdep:cV ks+1≤n:=by simpa [hW] using hu
  obtain⟨n,rfl⟩ : ∃ m,n=m+1:=⟨n - 1,by omega⟩
  have hk':bU ks=true:=by simpa [bA] using hk
  unfold eqIsQuiet
  refine aJ (yZ hT F.slot_tuple_eq.lookup ?_)
  refine aJ (Ay hT isSubtype_tuple_tuple ?_)
  simp only[zU,gJ,if_false]
  refine aJ (MH ho hd ?_)
  refine aJ ?_
  rw[← NY]
  refine EL _ (fun rest r s'=>r.1=none/\s'=s /\ ∃ ds bs,mK s.heap rest ds bs /\ ∀ d∈ds,d∈ks) _ ?_ ?_ _ _ ⟨rfl,rfl,ks,as,hi,fun _ h=>h⟩
  ·rintro v rest r s' ⟨hr,rfl,ds,bs,hl,hall⟩
   cases hl with
   | @cons _ _ d ds as1 bs1 h1 hl'=>
    refine aJ (WV ks (hall d bD) n (by omega) hk' h1 ?_)
    simp only[zU,gJ,if_false]
    exact aT ⟨rfl,rfl,ds,bs1,hl',fun u hu'=>hall u (bJ _ hu')⟩
  ·rintro⟨r1,r2⟩ s' ⟨hr,rfl,_⟩
   simp only at hr
   subst hr
   exact aT h
 | .none,n,A,E,s,v,as,Q,hu,hk,r,h=>by simp[bA] at hk
 | .bool _,n,A,E,s,v,as,Q,hu,hk,r,h=>by simp[bA] at hk
 | .list _,n,A,E,s,v,as,Q,hu,hk,r,h=>by simp[bA] at hk
 | .dict _,n,A,E,s,v,as,Q,hu,hk,r,h=>by simp[bA] at hk
theorem WV : ∀ (ks:List aA) {d:aA},d∈ks -> ∀ (n:Nat) {A:bS} {E:aE->aG->Prop} {s:aG} {v:aE} {as:List aB} {Q:Bool->aG->Prop},cV ks≤n->bU ks=true->kZ s.heap v d as ->
  Q true s->aO (aQ prog w) A (eqIsQuiet n v) Q E s
 | [],_,hm,_,_,_,_,_,_,_,_,_,_,_=>by simp at hm
 | k::ks,d,hm,n,A,E,s,v,as,Q,hu,hk,r,h=>by
  have hk':bA k=true/\bU ks=true:=by simpa [bU] using hk
  have hdep:max k.depth (cV ks)≤n:=by simpa [cV] using hu
  by_cases e:d=k
  ·exact CM k n (by omega) hk'.1 (e ▸ r) h
  ·have hm':d∈ks:=by
    rcases cI.mp hm with q | q
    ·exact absurd q e
    ·exact q
   exact WV ks hm' n (by omega) hk'.2 r h
end
mutual
theorem VR(kp : ∀ b o vs n,h.get? b=some o->o.cls = .type "tuple" -> o.data = .seq vs n->h'.get? b=some o) : ∀ (d:aA) {v:aE} {as:List aB},bA d=true->kZ h v d as->kZ h' v d as
 | .int i,v,as,hk,r=>by
  cases r with
  | int _ t=>exact .int i t
 | .str x,v,as,hk,r=>by
  cases r with
  | str _ t=>exact .str x t
 | .tuple ks,v,as,hk,r=>by
  obtain⟨a,o,items,m,rfl,ho,hc,hd,hi⟩:=mW r
  exact .tuple (kp _ _ _ _ ho hc hd) hc hd (XO kp ks (by simpa [bA] using hk) hi)
 | .none,v,as,hk,r=>by simp[bA] at hk
 | .bool _,v,as,hk,r=>by simp[bA] at hk
 | .list _,v,as,hk,r=>by simp[bA] at hk
 | .dict _,v,as,hk,r=>by simp[bA] at hk
theorem XO(kp : ∀ b o vs n,h.get? b=some o->o.cls = .type "tuple" -> o.data = .seq vs n->h'.get? b=some o) : ∀ (ds:List aA) {vs:List aE} {as:List aB},bU ds=true->mK h vs ds as->mK h' vs ds as
 | [],vs,as,hk,r=>by
  cases r with
  | nil=>exact .nil
 | d::ds,vs,as,hk,r=>by
  have hk':bA d=true/\bU ds=true:=by simpa [bU] using hk
  cases r with
  | cons r1 r2=>exact .cons (VR kp d hk'.1 r1) (XO kp ds hk'.2 r2)
end
def Ada (h:aP)(ks:List aA)(a:aB):Prop:=bU ks=true/\cV ks≤6 /\ ∃ as,kZ h (.ref a) (.tuple ks) as
theorem Ada.keep(kp : ∀ b o vs n,h.get? b=some o->o.cls = .type "tuple" -> o.data = .seq vs n->h'.get? b=some o)(k:Ada h ks a):Ada h' ks a:=
 ⟨k.1,k.2.1,k.2.2.choose,VR kp (.tuple ks) (by simpa [bA] using k.1) k.2.2.choose_spec⟩
def lJ (prog:bB)(w:aU):HeapKind prog w (List aA) where
 is:=Ada
 hash:=fun ks=>dI w (.tuple ks)
 draws:=fun ks=>pL (.tuple ks)
 room:=fun A=>A.units+20<cLine
 inj:=fun {h a x y} hx hy=>by
  obtain⟨k1,_,as,r1⟩:=hx
  obtain⟨k2,_,bs,r2⟩:=hy
  exact FD (reads_det (fun _ _ e _=>e) r2 r1).1
 keeps:=fun {h h' k a d o es ep} x ho hd hs=>x.keep fun b ob vs n hb _ hd'=>by
  have hne:b≠d:=by
   rintro rfl
   rw[ho] at hb
   cases hb
   rw[hd] at hd'
   cases hd'
  exact(hs.2 b hne).trans hb
 pyHash:=fun {A E s k a Q} hu hk h=>by
  obtain⟨k1,k2,as,r⟩:=hk
  exact WE (.tuple k) (by simp only[hW]; omega) (by simpa [bA] using k1) r h
 eqBool:=fun {A E s x y a b Q} hu hx hy h=>by
  obtain⟨k1,d1,as,r1⟩:=hx
  obtain⟨k2,d2,bs,r2⟩:=hy
  have e:=JC (.tuple x) (.tuple y) (by simpa [bA] using k1) (by simpa [bA] using k2)
  have e2:decide ((fL x) = .tuple y)=decide (x=y):=by
   by_cases q:x=y
   ·subst q; simp
   ·rw[decide_eq_false q,decide_eq_false (fun z=>q (FD z))]
  have:=SeqAt.eqAt_reads (.tuple x) (.tuple y) A s (.ref a) (.ref b) as bs r1 r2 (IZ _ (by simpa [bA] using k1)) (IZ _ (by simpa [bA] using k2)) (by simp only[hW]; omega)
  rw[e,e2] at this
  exact this prog w E Q h
 quiet:=fun {A E s k a Q} hk h=>by
  obtain⟨k1,k2,as,r⟩:=hk
  exact CM (.tuple k) 8 (by simp only[hW]; omega) (by simpa [bA] using k1) r h
end
abbrev aL:=Sum Int aD
def uB:aL->aE->Bool
 | .inl k,v=>Value.isInt k v
 | .inr x,v=>Value.isStrOf x v
def Dw (w:aU):aL->Int
 | .inl k=>hashInt k
 | .inr x=>hashStr w x
theorem lK : ∀ {k:aL} {v:aE},uB k v=true->(∃ i t,k=vN i/\v=EV i t) \/ (∃ x t,k=jM x/\v=EU x t)
 | .inl i,v,h=>by
  obtain⟨t,e⟩:=Value.isInt_shape (k:=i) (v:=v) h
  exact .inl ⟨i,t,rfl,e⟩
 | .inr x,v,h=>by
  obtain⟨t,e⟩:=Value.isStrOf_shape (x:=x) (v:=v) h
  exact .inr ⟨x,t,rfl,e⟩
theorem Nm (i:Int)(t:Tok):uB (.inl i) (.int i t)=true:=by simp[uB,Value.isInt]
theorem Mw (x:aD)(t:Tok):uB (.inr x) (.str x t)=true:=by simp[uB,Value.isStrOf]
theorem Ih (a b:Int):decide ((vN a:aL)=vN b)=(a == b):=by
 by_cases e:a=b
 ·subst e; simp
 ·have h : ¬ (vN a:aL)=vN b:=fun q=>e (Sum.inl.inj q)
  rw[decide_eq_false h]
  exact(beq_eq_false_iff_ne.mpr e).symm
theorem Gb (a b:aD):decide ((jM a:aL)=jM b)=decide (a=b):=by
 by_cases e:a=b
 ·subst e; simp
 ·have h : ¬ (jM a:aL)=jM b:=fun q=>e (Sum.inr.inj q)
  rw[decide_eq_false h,decide_eq_false e]
theorem Gv (a:Int)(b:aD):decide ((vN a:aL)=jM b)=false:=decide_eq_false (fun q=>nomatch q)
theorem Gr (a:aD)(b:Int):decide ((jM a:aL)=vN b)=false:=decide_eq_false (fun q=>nomatch q)
def eZ (prog:bB)(w:aU):PySem.KeyKind prog w aL where
 is:=uB
 hash:=Dw w
 inj:=fun v a b ha hb=>by
  rcases lK ha with⟨i,t,rfl,rfl⟩ | ⟨x,t,rfl,rfl⟩
  ·rcases lK hb with⟨j,u,rfl,e⟩ | ⟨y,u,rfl,e⟩
   ·injection e with e1 _; rw[e1]
   ·exact nomatch e
  ·rcases lK hb with⟨j,u,rfl,e⟩ | ⟨y,u,rfl,e⟩
   ·exact nomatch e
   ·injection e with e1 _; rw[e1]
 byValue:=fun k v h=>by
  rcases lK h with⟨i,t,rfl,rfl⟩ | ⟨x,t,rfl,rfl⟩ <;> rfl
 pyHash:=fun hv h=>by
  rcases lK hv with⟨i,t,rfl,rfl⟩ | ⟨x,t,rfl,rfl⟩
  ·exact wpAny_pyHash_int h
  ·exact wpAny_pyHash_str h
 eqBool:=fun hu hv h=>by
  rcases lK hu with⟨i,t,rfl,rfl⟩ | ⟨x,t,rfl,rfl⟩
  ·rcases lK hv with⟨j,u,rfl,rfl⟩ | ⟨y,u,rfl,rfl⟩
   ·rw[Ih] at h; exact wpAny_eqBool_int h
   ·rw[Gv] at h; exact SeqAt.EqAt.int_str i t y u _ _ _ _ h
  ·rcases lK hv with⟨j,u,rfl,rfl⟩ | ⟨y,u,rfl,rfl⟩
   ·rw[Gr] at h; exact SeqAt.EqAt.str_int x t j u _ _ _ _ h
   ·rw[Gb] at h; exact wpAny_eqBool_str h
 «strs»:=fun k x t v h=>by
  rcases lK h with⟨i,u,rfl,e⟩ | ⟨y,u,rfl,e⟩
  ·exact nomatch e
  ·injection e with e1 _
   subst e1
   cases v <;> rfl
theorem KZ (prog:bB)(w:aU)(i:Int)(t:Tok):(eZ prog w).is (.inl i) (.int i t)=true:=Nm i t
theorem LF (prog:bB)(w:aU)(x:aD)(t:Tok):(eZ prog w).is (.inr x) (.str x t)=true:=Mw x t
inductive V where
 | non | bl (b:Bool) | int (i:Int) | str (x:aD) | byt (b:Array UInt8) | flt (b:UInt64) | ref (a:aB) | ty (n:String)
 deriving DecidableEq
def RelV:V->aE->Prop
 | .non,u=>u=fA
 | .bl b,u=>u=Value.bool b
 | .int i,u=>∃ t,u=EV i t
 | .str x,u=>∃ t,u=EU x t
 | .byt b,u=>∃ t,u=Value.bytes b t
 | .flt b,u=>∃ t,u=Value.float b t
 | .ref a,u=>u=dD a
 | .ty n,u=>u=jC n
abbrev Vals:List V->List aE->Prop:=dB RelV
theorem Vals.length {xs:List V}(r:Vals xs us):xs.length=us.length:=kJ r
theorem Vals.get : ∀ {xs:List V} {us:List aE} {i:Nat} {x:V},Vals xs us->xs[i]?=some x -> ∃ u,us[i]?=some u/\RelV x u
 | _,_,_,_,.nil,e=>by simp at e
 | _,_,0,_,.cons r _,e=>by simp at e; subst e; exact⟨_,rfl,r⟩
 | _,_,i+1,x,.cons _ t,e=>by
  obtain⟨u,h1,h2⟩:=Vals.get (i:=i) (x:=x) t (by simpa using e)
  exact⟨u,by simpa using h1,h2⟩
theorem Vals.set {x:V}(r:RelV x u) : ∀ {xs:List V} {us:List aE} (i:Nat),Vals xs us->Vals (xs.set i x) (us.set i u)
 | _,_,_,.nil=>.nil
 | _,_,0,.cons _ t=>.cons r t
 | _,_,i+1,.cons q t=>.cons q (Vals.set r i t)
theorem Vals.append : ∀ {xs ys:List V} {us ws:List aE},Vals xs us->Vals ys ws->Vals (xs++ys) (us++ws)
 | _,_,_,_,.nil,s=>s
 | _,_,_,_,.cons r t,s=>.cons r (Vals.append t s)
theorem Vals.take : ∀ {xs:List V} {us:List aE} (n:Nat),Vals xs us->Vals (xs.take n) (us.take n)
 | _,_,0,_=>.nil
 | _,_,_+1,.nil=>.nil
 | _,_,n+1,.cons r t=>.cons r (Vals.take n t)
theorem Vals.drop : ∀ {xs:List V} {us:List aE} (n:Nat),Vals xs us->Vals (xs.drop n) (us.drop n)
 | _,_,0,r=>r
 | _,_,_+1,.nil=>.nil
 | _,_,n+1,.cons _ t=>Vals.drop n t
def Ap3:Option V->Option aE->Prop
 | some v,some u=>RelV v u
 | none,none=>True
 | _,_=>False
def KV {κ:Type}:List (κ×V)->List (κ×aE)->Prop:=dB fun(p:κ×V) (q:κ×aE)=>p.1=q.1/\RelV p.2 q.2
def kV:aL->V
 | .inl i=>.int i
 | .inr x=>.str x
inductive HO where
 | lst (xs:List V)
 | tup (xs:List V)
 | dK (ep:Nat) (kvs:List (aL×V)) | dT (ep:Nat) (kvs:List (List aA×V))
 | set (S:Int->Bool) (n:Nat)
 | ins (C dx:aB) (fs:List (aD×V))
 | own (x:aB)
 | xd (fs:List (aD×V))
 | met (f x:aB)
 | rng (lo hi:Int)
 | frz (o:aW) (u:HO)
 | tbl (ps:Array aE)
 | ext (φ:aP->Prop)
abbrev Hp:=aB->Option HO
def upd (H:Hp)(a:aB)(o:HO):Hp:=fun b=>if b=a then some o else H b
theorem cP {H:Hp}{o:HO}:upd H a o a=some o:=by unfold upd; rw[if_pos rfl]
theorem bK {H:Hp}{b:aB}{o:HO}(h:b≠a):upd H a o b=H b:=by unfold upd; rw[if_neg h]
theorem OW {H:Hp}{b:aB}{o u:HO}(h:H a=some o)(h':H b=some u)(d:o≠u):a≠b:=by
 intro e; subst e; rw[h] at h'; exact d (dZ h')
theorem hJ {H:Hp}{b:aB}{o:HO}(h:H a=some o)(h':H b=none):a≠b:=by
 intro e; subst e; rw[h] at h'; cases h'
mutual
def Ah4 (H:Hp):aA->V->Prop
 | .int i,v=>v = .int i
 | .str x,v=>v = .str x
 | .tuple ds,v=>∃ a xs,v = .ref a/\H a=some (.tup xs)/\Aeu H ds xs
 | _,_=>False
def Aeu (H:Hp):List aA->List V->Prop
 | [],vs=>vs=[]
 | d::r,vs=>∃ x rr,vs=x::rr/\Ah4 H d x/\Aeu H r rr
end
mutual
theorem Ah4.keep {H H':Hp}(ht : ∀ b xs,H b=some (.tup xs)->H' b=some (.tup xs)) : ∀ {d:aA} {v:V},Ah4 H d v->Ah4 H' d v
 | .int _,_,k=>by simpa [Ah4] using k
 | .str _,_,k=>by simpa [Ah4] using k
 | .tuple ds,_,k=>by
  simp only[Ah4] at k ⊢
  obtain⟨a,xs,e,h,ks⟩:=k
  exact⟨a,xs,e,ht _ _ h,Aeu.keep ht ks⟩
 | .none,_,k=>by simp[Ah4] at k
 | .bool _,_,k=>by simp[Ah4] at k
 | .list _,_,k=>by simp[Ah4] at k
 | .dict _,_,k=>by simp[Ah4] at k
theorem Aeu.keep {H H':Hp}(ht : ∀ b xs,H b=some (.tup xs)->H' b=some (.tup xs)) : ∀ {ds:List aA} {vs:List V},Aeu H ds vs->Aeu H' ds vs
 | [],_,k=>by simpa [Aeu] using k
 | d::ds,_,k=>by
  simp only[Aeu] at k ⊢
  obtain⟨x,r,e,k1,k2⟩:=k
  exact⟨x,r,e,Ah4.keep ht k1,Aeu.keep ht k2⟩
end
def Ah6 (H:Hp)(ks:List aA)(a:aB):Prop:=bU ks=true/\cV ks≤6 /\ ∃ xs,H a=some (.tup xs)/\Aeu H ks xs
theorem Ah6.keep {H H':Hp}(k:Ah6 H ks a)(ht : ∀ b xs,H b=some (.tup xs)->H' b=some (.tup xs)):Ah6 H' ks a:=
 ⟨k.1,k.2.1,k.2.2.choose,ht _ _ k.2.2.choose_spec.1,k.2.2.choose_spec.2.keep ht⟩
def A9m (h:aP)(a:aB)(its:Array aE):Prop:=IsTup h a its /\ ∃ o,h.get? a=some o/\o.dict=none
theorem A9m.new (h:aP)(its:Array aE):A9m (h.push { cls:=.type "tuple",data:=.seq its }) h.objs.size its:=⟨IsTup.new _ _,_,eM _ rfl,rfl⟩
section
variable (P:bB)(w:aU)
def Ach (H:Hp)(h:aP)(a:aB):HO->Prop
 | .lst xs=>xs.length≤sizeLine /\ ∃ (its:List aE) (n:Nat),Vals xs its/\h.get? a=some { cls:=.type "list",data:=.seq its.toArray n }
 | .tup xs=>xs.length≤sizeLine /\ ∃ its:List aE,Vals xs its/\A9m h a its.toArray
 | .dK ep kvs=>kvs.length≤sizeLine/\(a == iU)=false /\ ∃ vs,KV kvs vs/\h.DictAt (eZ P w) a vs ep
 | .dT ep kvs=>kvs.length≤sizeLine/\(a == iU)=false /\ ∃ xs:List (List aA×aB×aE),
   dB (fun(p:List aA×V) (q:List aA×aB×aE)=>p.1=q.1/\Ah6 H p.1 q.2.1/\RelV p.2 q.2.2) kvs xs /\
   ∃ o es,h.get? a=some o/\o.ExactDict/\o.data = .dict es ep/\es.toList=xs.map (entryOfKey (lJ P w))/\(xs.map (·.1)).Nodup
 | .set S n=>h.SetOf (intKind P w) a S n
 | .ins C dx fs=>H dx=some (.own a)/\fs.length≤1000/\dx≠a/\h.get? a=some (pD C dx) /\
   ∃ mA,h.Ns1 dx mA/\(∀ f,Ap3 (fs.lookup f) (mA f))/\PySem.Within mA (fs.map (·.1))
 | .own _=>∃ o,h.get? a=some o
 | .xd fs=>∃ mA,h.Ns1 a mA /\ ∀ f,Ap3 (fs.lookup f) (mA f)
 | .rng lo hi=>∃ t u v,h.get? a=some { cls:=.type "range",data:=.fields #[.int lo t,.int hi u,.int 1 v] }
 | .frz o u=>h.get? a=some o/\Ach H h a u
 | .tbl ps=>h.get? a=some { cls:=.none,data:=.fields ps }
 | .met f x=>h.get? a=some (Bf (.ref f) (.ref x))
 | .ext φ=>φ h/\(∃ o,h.get? a=some o) /\ ∀ h1 h2:aP,φ h1->(∀ o,h1.get? a=some o->h2.get? a=some o)->φ h2
def HOk (H:Hp)(h:aP):Prop:=∀ a o,H a=some o->Ach P w H h a o
end
section
variable {P:bB}{w:aU}{H H':Hp}{o:HO}
theorem Ach.lt (x:Ach P w H h a o):a<h.objs.size:=by
 cases o with
 | lst xs=>obtain⟨_,_,_,_,e⟩:=x; exact cG e
 | tup xs=>obtain⟨_,_,_,p⟩:=x; exact p.1.lt
 | dK ep kvs=>obtain⟨_,_,_,_,o,_,e,_⟩:=x; exact cG e
 | dT ep kvs=>obtain⟨_,_,_,_,o,_,e,_⟩:=x; exact cG e
 | set S n=>obtain⟨o,_,_,_,e,_⟩:=x; exact cG e
 | ins C dx fs=>obtain⟨_,_,_,e,_⟩:=x; exact cG e
 | own y=>obtain⟨_,e⟩:=x; exact cG e
 | xd fs=>obtain⟨_,⟨_,_,_,e,_⟩,_⟩:=x; exact cG e
 | rng lo hi=>obtain⟨_,_,_,e⟩:=x; exact cG e
 | frz ob u=>obtain⟨e,_⟩:=x; exact cG e
 | tbl ps=>exact cG (show h.get? a=some _ from x)
 | met f y=>exact cG (show h.get? a=some _ from x)
 | ext φ=>obtain⟨_,⟨_,e⟩,_⟩:=x; exact cG e
theorem Paired.mapP {α β:Type}{F G:α->β->Prop} : ∀ {l₁:List α} {l₂:List β},dB F l₁ l₂->(∀ a b,F a b->G a b)->dB G l₁ l₂:=by
 intro l₁ l₂ h
 induction h with
 | nil=>exact fun _=>.nil
 | cons r _ ih=>exact fun f=>.cons (f _ _ r) (ih f)
theorem Ach.stay (x:Ach P w H h a o)(k : ∀ b u,(b=a \/ H b=some (.own a))->h.get? b=some u->h'.get? b=some u)
  (ho : ∀ b,H b=some (.own a)->H' b=some (.own a)) (ht : ∀ b xs,H b=some (.tup xs)->H' b=some (.tup xs)):Ach P w H' h' a o:=by
 induction o with
 | lst xs=>obtain⟨z,its,n,r,e⟩:=x; exact⟨z,its,n,r,k _ _ (.inl rfl) e⟩
 | tup xs=>obtain⟨z,its,r,⟨ob,e,c⟩,ob2,e2,c2⟩:=x; exact⟨z,its,r,⟨ob,k _ _ (.inl rfl) e,c⟩,ob2,k _ _ (.inl rfl) e2,c2⟩
 | dK ep kvs=>obtain⟨z,y,vs,r,ob,es,e,c⟩:=x; exact⟨z,y,vs,r,ob,es,k _ _ (.inl rfl) e,c⟩
 | dT ep kvs=>
  obtain⟨z,y,xs,r,ob,es,e,c⟩:=x
  exact⟨z,y,xs,Paired.mapP r fun p q z=>⟨z.1,z.2.1.keep ht,z.2.2⟩,ob,es,k _ _ (.inl rfl) e,c⟩
 | set S n=>obtain⟨ob,es,ep,t,e,c⟩:=x; exact⟨ob,es,ep,t,k _ _ (.inl rfl) e,c⟩
 | ins C dx fs=>
  obtain⟨d,z,ne,e,mA,⟨od,es,ep,e2,c⟩,r⟩:=x
  exact⟨ho _ d,z,ne,k _ _ (.inl rfl) e,mA,⟨od,es,ep,k _ _ (.inr d) e2,c⟩,r⟩
 | own y=>obtain⟨ob,e⟩:=x; exact⟨ob,k _ _ (.inl rfl) e⟩
 | xd fs=>obtain⟨mA,⟨od,es,ep,e,c⟩,r⟩:=x; exact⟨mA,⟨od,es,ep,k _ _ (.inl rfl) e,c⟩,r⟩
 | rng lo hi=>obtain⟨t,u,v,e⟩:=x; exact⟨t,u,v,k _ _ (.inl rfl) e⟩
 | frz ob u ih=>obtain⟨e,q⟩:=x; exact⟨k _ _ (.inl rfl) e,ih q⟩
 | tbl ps=>
  have e:h.get? a=some { cls:=.none,data:=.fields ps }:=x
  show h'.get? a=some { cls:=.none,data:=.fields ps }
  exact k a _ (.inl rfl) e
 | met f y=>
  have e:h.get? a=some (Bf (.ref f) (.ref y)):=x
  show h'.get? a=some (Bf (.ref f) (.ref y))
  exact k a _ (.inl rfl) e
 | ext φ=>obtain⟨p,⟨o,e⟩,st⟩:=x; exact⟨st _ _ p fun o q=>k _ _ (.inl rfl) q,⟨o,k _ _ (.inl rfl) e⟩,st⟩
theorem HOk.lt (x:HOk P w H h)(e:H a=some o):a<h.objs.size:=(x a o e).lt
theorem HOk.fresh (x:HOk P w H h)(e:h.objs.size≤a):H a=none:=by
 cases q:H a with
 | none=>rfl
 | some u=>exact absurd (gG (x.lt q) e) (lB _)
theorem HOk.kept (x:HOk P w H h)(k : ∀ b u,h.get? b=some u->h'.get? b=some u):HOk P w H h':=fun a o e=>
 (x a o e).stay (fun b u _ q=>k b u q) (fun _ q=>q) fun _ _ q=>q
theorem HOk.laid (x:HOk P w H h)(k : ∀ b u,h.get? b=some u->h'.get? b=some u)(hp:h.objs.size≤a)(new:Ach P w (upd H a o) h' a o):HOk P w (upd H a o) h':=fun b u e=>by
 have hn:=x.fresh hp
 by_cases hb:b=a
 ·subst hb; rw[cP] at e; cases e; exact new
 ·rw[bK hb] at e
  exact(x b u e).stay (fun c v _ q=>k c v q) (fun c q=>by rw[bK (hJ q hn)]; exact q) fun c xs q=>by rw[bK (hJ q hn)]; exact q
end
def Rd (H:Hp)(a:aB)(u:HO):Prop:=H a=some u \/ ∃ o,H a=some (.frz o u)
theorem Rd.ok {P:bB}{w:aU}{H:Hp}{u:HO}(r:Rd H a u)(x:HOk P w H h):Ach P w H h a u:=by
 rcases r with r | ⟨o,r⟩
 ·exact x a u r
 ·obtain⟨_,q⟩:=x a _ r
  exact q
def wC:Option HO->Prop
 | some (.lst _)=>True
 | some (.dK _ _)=>True
 | some (.dT _ _)=>True
 | some (.set _ _)=>True
 | some (.ins _ _ _)=>True
 | some (.ext _)=>True
 | _=>False
section
variable {P:bB}{w:aU}{H:Hp}{x e:aB}{o':HO}
theorem HOk.write (ok:HOk P w H h)(mu:wC (H x))(he:e=x \/ H e=some (.own x))(k : ∀ b u,b≠e->h.get? b=some u->h'.get? b=some u)(heo : ∃ u,h'.get? e=some u)
  (new:Ach P w (upd H x o') h' x o'):HOk P w (upd H x o') h':=fun b u q=>by
 have nown : ∀ c y,H c=some (.own y)->c≠x:=fun c y r z=>by subst z; rw[r] at mu; exact mu
 have ntup : ∀ c xs,H c=some (.tup xs)->c≠x:=fun c xs r z=>by subst z; rw[r] at mu; exact mu
 by_cases hb:b=x
 ·subst hb; rw[cP] at q; cases q; exact new
 ·rw[bK hb] at q
  by_cases hbe:b=e
  ·have q':H b=some (.own x):=by
    rcases he with z | z
    ·exact absurd (hbe.trans z) hb
    ·rw[hbe]; exact z
   rw[q] at q'; cases q'
   obtain⟨v,hv⟩:=heo
   exact⟨v,by rw[hbe]; exact hv⟩
  ·refine(ok b u q).stay (fun c v hc r=>k c v ?_ r) (fun c r=>by rw[bK (nown c b r)]; exact r) fun c xs r=>by rw[bK (ntup c xs r)]; exact r
   rcases hc with rfl | hc
   ·exact hbe
   ·rintro rfl
    rcases he with z | z
    ·exact nown c b hc z
    ·rw[hc] at z; cases z; exact hb rfl
end
structure Un (fs ex:List aB)(H H':Hp)(h h':aP):Prop where
 keep : ∀ b o,h.get? b=some o->H b=none->b∉fs->b∉ex->h'.get? b=some o
 slot : ∀ b o,h.get? b=some o->H b=none->b∈fs->b∉ex -> ∃ sl,h'.get? b=some { o with slots:=sl }
 free : ∀ b o,h.get? b=some o->H b=none->b∉ex->H' b=none
 there : ∀ b o,h.get? b=some o->b∉ex -> ∃ o',h'.get? b=some o'
 tups : ∀ b xs,H b=some (.tup xs)->H' b=some (.tup xs)
 frzs : ∀ b o u,H b=some (.frz o u)->H' b=some (.frz o u)
 tbls : ∀ b ps,H b=some (.tbl ps) -> ∃ more,H' b=some (.tbl (ps++more))
section
variable {fs fs' ex ex':List aB}{H H1 H2:Hp}{h1 h2:aP}{x e:aB}{o:HO}
theorem Un.any (u:Un fs ex H H1 h h1){b:aB}{ob:aW}(q:h.get? b=some ob)(n:H b=none)(hx:b∉ex) : ∃ sl,h1.get? b=some { ob with slots:=sl }:=by
 by_cases hb:b∈fs
 ·exact u.slot b ob q n hb hx
 ·exact⟨ob.slots,u.keep b ob q n hb hx⟩
theorem Un.trans (a:Un fs ex H H1 h h1)(b:Un fs ex H1 H2 h1 h2):Un fs ex H H2 h h2 where
 keep:=fun c ob q n hc hx=>b.keep c ob (a.keep c ob q n hc hx) (a.free c ob q n hx) hc hx
 slot:=fun c ob q n hc hx=>by
  obtain⟨sl,e1⟩:=a.slot c ob q n hc hx
  obtain⟨sl',e2⟩:=b.slot c _ e1 (a.free c ob q n hx) hc hx
  exact⟨sl',e2⟩
 free:=fun c ob q n hx=>by
  obtain⟨o',e1⟩:=a.there c ob q hx
  exact b.free c o' e1 (a.free c ob q n hx) hx
 there:=fun c ob q hx=>by
  obtain⟨o',e1⟩:=a.there c ob q hx
  exact b.there c o' e1 hx
 tups:=fun c xs q=>b.tups c xs (a.tups c xs q)
 frzs:=fun c ob xs q=>b.frzs c ob xs (a.frzs c ob xs q)
 tbls:=fun c ps q=>by
  obtain⟨m1,e1⟩:=a.tbls c ps q
  obtain⟨m2,e2⟩:=b.tbls c _ e1
  exact⟨m1++m2,by rw[e2,Array.append_assoc]⟩
theorem Un.kept (k : ∀ b u,h.get? b=some u->h'.get? b=some u):Un fs ex H H h h':=
 ⟨fun b ob q _ _ _=>k b ob q,fun b ob q _ _ _=>⟨ob.slots,k b ob q⟩,fun _ _ _ n _=>n,fun b ob q _=>⟨ob,k b ob q⟩,fun _ _ q=>q,fun _ _ _ q=>q,fun _ ps q=>⟨#[],by rw[q]; simp⟩⟩
theorem Un.refl:Un fs ex H H h h:=Un.kept fun _ _ q=>q
theorem Un.laid (k : ∀ b u,h.get? b=some u->h'.get? b=some u)(hp:h.objs.size≤a)(hn:H a=none):Un fs ex H (upd H a o) h h' where
 keep:=fun b u q _ _ _=>k b u q
 slot:=fun b u q _ _ _=>⟨u.slots,k b u q⟩
 free:=fun b u q n _=>by rw[bK (dG (gG (cG q) hp))]; exact n
 there:=fun b u q _=>⟨u,k b u q⟩
 tups:=fun b xs q=>by rw[bK (hJ q hn)]; exact q
 frzs:=fun b u xs q=>by rw[bK (hJ q hn)]; exact q
 tbls:=fun b ps q=>⟨#[],by rw[bK (hJ q hn),q]; simp⟩
theorem Un.write (mu:wC (H x))(he:e=x \/ H e=some (.own x))(k : ∀ b u,b≠e->h.get? b=some u->h'.get? b=some u)(heo : ∃ u,h'.get? e=some u):Un fs ex H (upd H x o) h h':=by
 have hx : ∀ b,H b=none->b≠x:=fun b n z=>by subst z; rw[n] at mu; exact mu
 have hb : ∀ b,H b=none->b≠e:=fun b n z=>by
  subst z
  rcases he with r | r
  ·exact hx b n r
  ·rw[n] at r; cases r
 have hm : ∀ b u,H b=some u -> ¬ wC (some u)->b≠x:=fun b u q nm z=>by subst z; rw[q] at mu; exact nm mu
 refine⟨fun b u q n _ _=>k b u (hb b n) q,fun b u q n _ _=>⟨u.slots,k b u (hb b n) q⟩,fun b u q n _=>by rw[bK (hx b n)]; exact n,fun b u q _=>?_,
  fun b xs q=>by rw[bK (hm b _ q fun z=>z)]; exact q,fun b u xs q=>by rw[bK (hm b _ q fun z=>z)]; exact q,fun b ps q=>⟨#[],by rw[bK (hm b _ q fun z=>z),q]; simp⟩⟩
 by_cases hbe:b=e
 ·subst hbe; exact heo
 ·exact⟨u,k b u hbe q⟩
end
def trk (h:aP)(H:Hp):List aB:=(cW h.objs.size).filter fun a=>(H a).isSome
def oV (h:aP)(H:Hp):aP:=PySem.W.hideAll h (trk h H)
theorem Nl (h:aP)(H:Hp):(oV h H).objs.size=h.objs.size:=PySem.W.hideAll_size _ _
theorem Ui{H:Hp}{b:aB}(e:h.get? b=some o)(n:H b=none):(oV h H).get? b=some o:=
 MS _ e fun hm=>by
  have q:(H b).isSome=true:=(zK.mp hm).2
  rw[n] at q; simp at q
theorem Kj{H:Hp}{b:aB}(e:(oV h H).get? b=some o):h.get? b=some o/\H b=none:=by
 have e':h.get? b=some o:=Be (trk h H) e
 refine⟨e',?_⟩
 cases q:H b with
 | none=>rfl
 | some x=>
  have hm:b∈trk h H:=zK.mpr ⟨iN.mpr (cG e'),by simp[q]⟩
  have z:(oV h H).get? b=none:=PySem.W.hideAll_none (trk h H) hm
  rw[z] at e; cases e
def Mh (g h:aP)(L:aB):List (aB×aW):=(cW h.objs.size).filterMap fun a=>if a=L \/ (g.get? a).isSome=true then none else(h.get? a).map fun o=>(a,o)
def rest (g h:aP)(L d:aB):List (aB×aW):=(Mh g h L).filter fun p=>decide (p.1≠d)
structure Mod (K:aH)(mg:aD->Option aE)(base:aP):Prop where
 kin:K.In base
 glob:base.Ns cL mg
 blt : ∃ mb,base.Ns builtinsNs mb /\ ∀ x:aD,x ≠ "__name__" -> mb x=lM x
 nolimit:base.NoLimit
structure Cx where
 prog:bB
 w:aU
 K:aH
 mg:aD->Option aE
 base:aP
 A:bS
 N:List aD
 s₀:aG
 H₀:Hp
 env:eR
 outer:List eR
 stack:List eR
 ex:List aB
 fn:aD->Bool
 calm:Bool
 pn:List (aB×aW)
 xe:aE->aG->Prop
def frs (l:List eR):List aB:=l.filterMap (·.frame)
abbrev Cx.fs (X:Cx):List aB:=frs X.outer
def jZ (sc:iK)(x:aD):Prop:=sc.names.lookup x=some .local \/ sc.names.lookup x=some .cell \/ sc.names.lookup x=some .free
def kK (sc:iK)(x:aD):Prop:=sc.names.lookup x=some .local \/ sc.names.lookup x=some .cell
def Look (env:eR)(h:aP)(m:aD->Option aE)(x:aD)(u:aE):Prop:=
 (env.kindOf x=some .local/\m x=some u) \/ ((env.kindOf x=some .cell \/ env.kindOf x=some .free) /\ ∃ c,env.cells.lookup x=some c/\h.IsCell c (some u))
structure Cx.Ok (X:Cx):Prop where
 mod:Mod X.K X.mg X.base
 kind:X.env.scope.kind = .function
 glob:X.env.globals=cL
 blt:X.env.builtins=builtinsNs
 above:X.s₀.heap.objs.size≤X.env.locals
 inj : ∀ x y c,X.env.cells.lookup x=some c->X.env.cells.lookup y=some c->x=y
 has : ∀ x,(X.env.kindOf x=some .cell \/ X.env.kindOf x=some .free) -> ∃ c,X.env.cells.lookup x=some c
 cab : ∀ x c,X.fn x=true->X.env.cells.lookup x=some c->X.s₀.heap.objs.size≤c
 hd:X.calm=true->X.A.handled=none
 frames:X.A.frames=some X.stack
 stk:X.stack=X.outer \/ (X.stack=X.env::X.outer/\X.env.frame=some X.env.locals)
 exf : ∀ b∈X.ex,b≠X.env.locals /\ ∀ x c,X.env.cells.lookup x=some c->c≠b
 bs : ∀ b o,X.base.get? b=some o->X.s₀.heap.get? b=some o/\X.H₀ b=none
 bsz:X.base.objs.size≤X.s₀.heap.objs.size
 noex : ∀ b o,X.base.get? b=some o->b∉X.ex
 exfs : ∀ b∈X.ex,b∉X.fs
 funs:X.s₀.heap.FunFrames X.base X.outer
 frf : ∀ b∈X.fs,X.H₀ b=none
structure Inv (X:Cx)(pins:List (aB×aW))(σ:List (Option V))(H:Hp)(s:aG):Prop where
 ok:X.Ok
 os:s.os=X.s₀.os
 bare:pK s.gens
 base:Un X.fs X.ex X.H₀ H X.s₀.heap s.heap
 loc : ∃ m,s.heap.Ns X.env.locals m /\ ∀ (i:Nat) (x:aD) (v:V),X.N[i]?=some x->σ[i]?=some (some v)->jZ X.env.scope x -> ∃ u,RelV v u/\Look X.env s.heap m x u
 cell : ∀ x c,X.env.cells.lookup x=some c -> ∃ v,s.heap.IsCell c v
 free:H X.env.locals=none
 freeC : ∀ x c,X.env.cells.lookup x=some c->H c=none
 pin : ∀ p∈X.pn++pins,s.heap.get? p.1=some p.2/\H p.1=none/\p.1≠X.env.locals/\p.1∉X.fs /\ ∀ v,p.2.data ≠ .cell v
 hok:HOk X.prog X.w H s.heap
 len:σ.length=X.N.length
section
variable {X:Cx}{σ:List (Option V)}{H H':Hp}
theorem Cx.Ok.nofr (ok:X.Ok){b:aB}(e:X.base.get? b=some o):b∉X.fs:=fun hb=>by
 have:=(ok.funs.mem hb).1
 rw[e] at this; cases this
theorem Inv.bs (I:Inv X pins σ H s) : ∀ b o,X.base.get? b=some o->s.heap.get? b=some o/\H b=none:=fun b o e=>
 ⟨I.base.keep b o (I.ok.bs b o e).1 (I.ok.bs b o e).2 (I.ok.nofr e) (I.ok.noex b o e),I.base.free b o (I.ok.bs b o e).1 (I.ok.bs b o e).2 (I.ok.noex b o e)⟩
theorem Inv.bk (I:Inv X pins σ H s) : ∀ b o,X.base.get? b=some o->s.heap.get? b=some o:=fun b o e=>(I.bs b o e).1
theorem Inv.mod (I:Inv X pins σ H s):Mod X.K X.mg X.base:=I.ok.mod
theorem Inv.kIn (I:Inv X pins σ H s):X.K.In s.heap:=I.ok.mod.kin.keeps I.bk
theorem Inv.lt (I:Inv X pins σ H s):X.env.locals<s.heap.objs.size:=let ⟨_,hn,_⟩:=I.loc; hn.lt
theorem Inv.sz (I:Inv X pins σ H s):X.s₀.heap.objs.size≤s.heap.objs.size:=iA I.ok.above (vR I.lt)
theorem Inv.nofs (I:Inv X pins σ H s)(h:s.heap.objs.size≤a):a∉X.fs:=fun hb=>by
 obtain⟨_,o,ho,_⟩:=I.ok.funs.mem hb
 exact absurd (gG (cG ho) (iA I.sz h)) (lB _)
theorem Inv.cne (I:Inv X pins σ H s) : ∀ x c,X.env.cells.lookup x=some c->c≠X.env.locals:=fun x c e z=>by
 obtain⟨v,o,ho,hd⟩:=I.cell x c e
 obtain⟨m,⟨o',es,ep,ho',hd',_⟩,_⟩:=I.loc
 rw[z,ho'] at ho; cases ho; rw[hd'] at hd; cases hd
theorem Inv.funs (I:Inv X pins σ H s):s.heap.FunFrames X.base X.outer:=by
 have all : ∀ (l:List eR),(∀ b∈frs l,b∈X.fs)->X.s₀.heap.FunFrames X.base l->s.heap.FunFrames X.base l:=by
  intro l
  induction l with
  | nil=>intro _ _; trivial
  | cons env r ih=>
   intro hs hl
   obtain⟨hk,⟨L,o,hf,hn,ho,hd⟩,hr⟩:=hl
   have hL:L∈X.fs:=hs L (by unfold frs; rw[Cm,hf]; exact bD)
   obtain⟨sl,e⟩:=I.base.slot L o ho (I.ok.frf L hL) hL fun z=>I.ok.exfs L z hL
   exact⟨hk,⟨L,_,hf,hn,e,hd⟩,ih (fun b hb=>hs b (by unfold frs; rw[Cm,hf]; exact bJ _ hb)) hr⟩
 exact all X.outer (fun _ hb=>hb) I.ok.funs
theorem Inv.stack (I:Inv X pins σ H s):s.heap.FunFrames X.base X.stack:=by
 rcases I.ok.stk with e | ⟨e,hf⟩
 ·rw[e]; exact I.funs
 ·rw[e]
  obtain⟨m,hn,_⟩:=I.loc
  refine .cons (by rw[I.ok.kind]; decide) hf hn ?_ I.funs
  exact Heap.get?_none_of_le (iA I.ok.bsz I.ok.above)
theorem Inv.stkSub (I:Inv X pins σ H s) : ∀ b∈frs X.stack,b∈X.env.locals::X.fs:=fun b hb=>by
 rcases I.ok.stk with e | ⟨e,hf⟩
 ·rw[e] at hb; exact bJ _ hb
 ·rw[e] at hb
  unfold frs at hb
  rw[Cm,hf] at hb
  exact hb
theorem Inv.stkFree (I:Inv X pins σ H s) : ∀ b∈frs X.stack,H b=none:=fun b hb=>by
 rcases cI.mp (I.stkSub b hb) with e | hb
 ·rw[e]; exact I.free
 ·obtain⟨_,o,ho,_⟩:=I.ok.funs.mem hb
  exact I.base.free b o ho (I.ok.frf b hb) fun z=>I.ok.exfs b z hb
theorem Inv.step {g':Array qZ}{d':Drawn}(I:Inv X pins σ H s)
  (hch : ∀ b∈ch,(b∈X.ex \/ X.s₀.heap.objs.size≤b)/\b≠X.env.locals/\(∀ x c,X.env.cells.lookup x=some c->c≠b) /\ ∀ p∈X.pn++pins,p.1≠b)
  (keep : ∀ b o,b≠X.env.locals->b∉X.fs->b∉ch->s.heap.get? b=some o->H b=none->h'.get? b=some o)
  (slot : ∀ b o,b≠X.env.locals->b∈X.fs->b∉ch->s.heap.get? b=some o->H b=none -> ∃ sl,h'.get? b=some { o with slots:=sl }) (free : ∀ b o,b∉ch->s.heap.get? b=some o->H b=none->H' b=none)
  (there : ∀ b o,b∉ch->s.heap.get? b=some o -> ∃ o',h'.get? b=some o')
  (tups : ∀ b xs,H b=some (.tup xs)->H' b=some (.tup xs)) (frzs : ∀ b o u,H b=some (.frz o u)->H' b=some (.frz o u)) (tbls : ∀ b ps,H b=some (.tbl ps) -> ∃ more,H' b=some (.tbl (ps++more)))
  (ns : ∀ m,s.heap.Ns X.env.locals m->h'.Ns X.env.locals m) (hok:HOk X.prog X.w H' h') (hg:pK g') :
  Inv X pins σ H' { s with heap:=h',gens:=g',drawn:=d',toks:=t' }:=by
 have neL : ∀ b o,X.s₀.heap.get? b=some o->b≠X.env.locals:=fun b o e=>dG (gG (cG e) I.ok.above)
 have neC : ∀ b o,X.s₀.heap.get? b=some o->b∉X.ex->b∉ch:=fun b o e hx hb=>by
  rcases(hch b hb).1 with z | z
  ·exact hx z
  ·exact absurd (gG (cG e) z) (lB _)
 have cellK : ∀ x c,X.env.cells.lookup x=some c -> ∀ v,s.heap.IsCell c v->h'.IsCell c v:=fun x c e v gh=>by
  obtain⟨o,ho,hd⟩:=gh
  have nch:c∉ch:=fun z=>(hch c z).2.2.1 x c e rfl
  by_cases hc:c∈X.fs
  ·obtain⟨sl,q⟩:=slot c o (I.cne x c e) hc nch ho (I.freeC x c e)
   exact⟨_,q,hd⟩
  ·exact⟨o,keep c o (I.cne x c e) hc nch ho (I.freeC x c e),hd⟩
 refine⟨I.ok,I.os,hg,⟨fun b o e n hb hx=>?_,fun b o e n hb hx=>?_,fun b o e n hx=>?_,fun b o e hx=>?_,fun b xs e=>tups b xs (I.base.tups b xs e),fun b o xs e=>frzs b o xs (I.base.frzs b o xs e),fun b ps e=>?_⟩,?_,fun x c e=>?_,?_,fun x c e=>?_,fun p hp=>?_,hok,I.len⟩
 ·exact keep b o (neL b o e) hb (neC b o e hx) (I.base.keep b o e n hb hx) (I.base.free b o e n hx)
 ·obtain⟨sl,e1⟩:=I.base.slot b o e n hb hx
  obtain⟨sl',e2⟩:=slot b _ (neL b o e) hb (neC b o e hx) e1 (I.base.free b o e n hx)
  exact⟨sl',e2⟩
 ·obtain⟨o',e1⟩:=I.base.there b o e hx
  exact free b o' (neC b o e hx) e1 (I.base.free b o e n hx)
 ·obtain⟨o',e1⟩:=I.base.there b o e hx
  exact there b o' (neC b o e hx) e1
 ·obtain⟨m1,e1⟩:=I.base.tbls b ps e
  obtain⟨m2,e2⟩:=tbls b _ e1
  exact⟨m1++m2,by rw[e2,Array.append_assoc]⟩
 ·obtain⟨m,hn,hl⟩:=I.loc
  refine⟨m,ns m hn,fun i x v e1 e2 e3=>?_⟩
  obtain⟨u,r,l⟩:=hl i x v e1 e2 e3
  refine⟨u,r,?_⟩
  rcases l with l | ⟨k,c,e,z⟩
  ·exact .inl l
  ·exact .inr ⟨k,c,e,cellK x c e _ z⟩
 ·obtain⟨v,z⟩:=I.cell x c e
  exact⟨v,cellK x c e v z⟩
 ·obtain⟨m,⟨o,_,_,ho,_⟩,_⟩:=I.loc
  exact free _ o (fun z=>(hch _ z).2.1 rfl) ho I.free
 ·obtain⟨v,o,ho,hd⟩:=I.cell x c e
  exact free c o (fun z=>(hch c z).2.2.1 x c e rfl) ho (I.freeC x c e)
 ·obtain⟨e,n,ne,nf,d⟩:=I.pin p hp
  have nch:p.1∉ch:=fun z=>(hch p.1 z).2.2.2 p hp rfl
  exact⟨keep p.1 p.2 ne nf nch e n,free p.1 p.2 nch e n,ne,nf,d⟩
theorem Inv.un(I:Inv X pins σ H s)(u:Un X.fs [] H H' s.heap h')(hok:HOk X.prog X.w H' h'):Inv X pins σ H' { s with heap:=h',toks:=t' }:=by
 obtain⟨m,⟨o,es,ep,ho,r⟩,_⟩:=id I.loc
 obtain⟨sl,hL⟩:=u.any ho I.free (by simp)
 exact I.step (g':=s.gens) (d':=s.drawn) (ch:=[]) (fun _ z=>nomatch z) (fun b o _ hb _ e n=>u.keep b o e n hb (by simp)) (fun b o _ hb _ e n=>u.slot b o e n hb (by simp)) (fun b o _ e n=>u.free b o e n (by simp)) (fun b o _ e=>u.there b o e (by simp)) u.tups u.frzs u.tbls (fun m' hm=>by
  obtain⟨o',es',ep',ho',r'⟩:=hm
  rw[ho] at ho'; cases ho'
  exact⟨_,es',ep',hL,r'⟩) hok I.bare
theorem Inv.call {g':Array qZ}{d':Drawn}(I:Inv X pins σ H s)(u:Un (frs X.stack) ch H H' s.heap h')(hok:HOk X.prog X.w H' h')(hg:pK g')
  (hch : ∀ b∈ch,(b∈X.ex \/ X.s₀.heap.objs.size≤b)/\b≠X.env.locals/\(∀ x c,X.env.cells.lookup x=some c->c≠b) /\ ∀ p∈X.pn++pins,p.1≠b) :
  Inv X pins σ H' { s with heap:=h',gens:=g',drawn:=d',toks:=t' }:=by
 obtain⟨m,⟨o,es,ep,ho,r⟩,_⟩:=id I.loc
 obtain⟨sl,hL⟩:=u.any ho I.free fun z=>(hch _ z).2.1 rfl
 exact I.step (ch:=ch) hch (fun b o hL hb hc e n=>u.keep b o e n (fun z=>(cI.mp (I.stkSub b z)).elim hL hb) hc) (fun b o _ _ hc e n=>u.any e n hc) (fun b o hc e n=>u.free b o e n hc) (fun b o hc e=>u.there b o e hc) u.tups u.frzs u.tbls (fun m' hm=>by
  obtain⟨o',es',ep',ho',r'⟩:=hm
  rw[ho] at ho'; cases ho'
  exact⟨_,es',ep',hL,r'⟩) hok hg
theorem Inv.turned{it:aB}(I:Inv X pins σ H s)(k : ∀ b o,b≠it->s.heap.get? b=some o->h'.get? b=some o)(hn:H it=none)(hL:it≠X.env.locals)
  (h1:it∈X.ex \/ X.s₀.heap.objs.size≤it) (h2 : ∀ x c,X.env.cells.lookup x=some c->c≠it) (h3 : ∀ p∈X.pn++pins,p.1≠it):Inv X pins σ H { s with heap:=h',toks:=t' }:=by
 have nit : ∀ b u,H b=some u->b≠it:=fun b u e z=>by rw[z,hn] at e; cases e
 refine I.step (g':=s.gens) (d':=s.drawn) (ch:=[it]) (fun b hb=>?_) (fun b o _ _ hc e _=>k b o (fun z=>hc (by simp[z])) e) (fun b o _ _ hc e _=>⟨o.slots,k b o (fun z=>hc (by simp[z])) e⟩) (fun _ _ _ _ n=>n)
  (fun b o hc e=>⟨o,k b o (fun z=>hc (by simp[z])) e⟩) (fun _ _ e=>e) (fun _ _ _ e=>e) (fun b ps e=>⟨#[],by rw[e]; simp⟩) (fun m hm=>?_) (fun b u e=>?_) I.bare
 ·have e:b=it:=by simpa using hb
  subst e
  exact⟨h1,hL,h2,h3⟩
 ·obtain⟨o,es,ep,ho,r⟩:=hm
  exact⟨o,es,ep,k _ o (lR hL) ho,r⟩
 ·refine(I.hok b u e).stay (fun c v hc q=>k c v ?_ q) (fun _ q=>q) fun _ _ q=>q
  rcases hc with z | z
  ·rw[z]; exact nit b u e
  ·exact nit c _ z
theorem Inv.tok (I:Inv X pins σ H s)(t:Nat):Inv X pins σ H { s with toks:=t }:=I.un (h':=s.heap) (t':=t) Un.refl I.hok
theorem Inv.kept(I:Inv X pins σ H s)(k : ∀ b u,s.heap.get? b=some u->h'.get? b=some u):Inv X pins σ H { s with heap:=h',toks:=t' }:=I.un (Un.kept k) (I.hok.kept k)
theorem Inv.laid{o:HO}(I:Inv X pins σ H s)(k : ∀ b u,s.heap.get? b=some u->h'.get? b=some u)(hp:s.heap.objs.size≤a)(new:Ach X.prog X.w (upd H a o) h' a o) :
  Inv X pins σ (upd H a o) { s with heap:=h',toks:=t' }:=I.un (Un.laid k hp (I.hok.fresh hp)) (I.hok.laid k hp new)
theorem Inv.write {x e:aB}{o:HO}(I:Inv X pins σ H s)(mu:wC (H x))(he:e=x \/ H e=some (.own x))(k : ∀ b u,b≠e->s.heap.get? b=some u->h'.get? b=some u)(heo : ∃ u,h'.get? e=some u)
  (new:Ach X.prog X.w (upd H x o) h' x o):Inv X pins σ (upd H x o) { s with heap:=h',toks:=t' }:=I.un (Un.write mu he k heo) (I.hok.write mu he k heo new)
theorem Inv.pins_of {pins':List (aB×aW)}(I:Inv X pins σ H s)(h : ∀ p∈pins',s.heap.get? p.1=some p.2/\H p.1=none/\p.1≠X.env.locals/\p.1∉X.fs /\ ∀ v,p.2.data ≠ .cell v):Inv X pins' σ H s:=
 ⟨I.ok,I.os,I.bare,I.base,I.loc,I.cell,I.free,I.freeC,fun p hp=>(iO.mp hp).elim (fun z=>I.pin p (NH _ z)) (h p),I.hok,I.len⟩
theorem SH {N:List aD}(hN:N.Nodup){j:Nat}(a:N[i]?=some x)(b:N[j]?=some x):i=j:=by
 obtain⟨h1,e1⟩:=dM.mp a
 obtain⟨h2,e2⟩:=dM.mp b
 exact(List.getElem_inj hN).mp (e1.trans e2.symm)
theorem TX{v:V}{Q:Unit->aG->Prop}(I:Inv X pins σ H s)(hN:X.N.Nodup)(hi:X.N[i]?=some x)(hx:kK X.env.scope x)(r:RelV v u)
  (h : ∀ s',Inv X pins (σ.set i (some v)) H s'->(∃ a,mP a s.heap s'.heap/\(a=X.env.locals \/ X.env.cells.lookup x=some a))->Q () s') (hf:X.fn x=true \/ X.env.scope.names.lookup x=some .local:=by first | exact .inl rfl | exact .inr rfl | assumption):aO M A (storeName X.env x u) Q E s:=by
 obtain⟨m,hn,hl⟩:=id I.loc
 have hcls:(X.env.scope.kind == .class||(X.env.scope.kind == .module&&X.env.locals != X.env.globals))=false:=by rw[I.ok.kind]; rfl
 have hiσ:i<σ.length:=by rw[I.len]; exact(dM.mp hi).1
 have cne:=I.cne
 have tracked : ∀ {a:aB} {h':aP},(∃ o,s.heap.get? a=some o/\H a=none)->mP a s.heap h'->HOk X.prog X.w H h':=fun {a h'} ha hs b ob e=>by
  obtain⟨_,_,hfree⟩:=ha
  refine(I.hok b ob e).stay (fun c w' hc q=>(hs.2 c ?_).trans q) (fun _ q=>q) fun _ _ q=>q
  rintro rfl
  rcases hc with rfl | hc
  ·rw[hfree] at e; cases e
  ·rw[hfree] at hc; cases hc
 rcases hx with hk | hk
 ·refine wpAny_storeName_local hk hn (fun h' hn' hs=>?_) hcls
  obtain⟨oL,_,_,hoL,_⟩:=id hn
  refine h _ ⟨I.ok,I.os,I.bare,⟨fun b o e n hb hx=>?_,fun b o e n hb hx=>?_,I.base.free,fun b o e hx=>?_,I.base.tups,I.base.frzs,I.base.tbls⟩,⟨_,hn',fun j y v' e1 e2 e3=>?_⟩,fun y c e=>?_,I.free,I.freeC,fun p hp=>?_,tracked ⟨oL,hoL,I.free⟩ hs,by simpa using I.len⟩ ⟨_,hs,.inl rfl⟩
  ·exact(hs.2 b (dG (gG (cG e) I.ok.above))).trans (I.base.keep b o e n hb hx)
  ·obtain⟨sl,e1⟩:=I.base.slot b o e n hb hx
   exact⟨sl,(hs.2 b (dG (gG (cG e) I.ok.above))).trans e1⟩
  ·obtain⟨o',e1⟩:=I.base.there b o e hx
   exact⟨o',(hs.2 b (dG (gG (cG e) I.ok.above))).trans e1⟩
  ·by_cases hj:j=i
   ·subst hj
    rw[hi] at e1; cases e1
    rw[mO hiσ] at e2
    cases e2
    exact⟨u,r,.inl ⟨hk,by simp⟩⟩
   ·rw[lD (lR hj)] at e2
    obtain⟨u',r',q⟩:=hl j y v' e1 e2 e3
    refine⟨u',r',?_⟩
    rcases q with⟨k,e⟩ | ⟨k,c,e,z⟩
    ·refine .inl ⟨k,?_⟩
     have:y≠x:=fun e=>hj (SH hN e1 (e ▸ hi))
     simp[this,e]
    ·exact .inr ⟨k,c,e,z.sameBut hs (cne y c e)⟩
  ·obtain⟨w',z⟩:=I.cell y c e
   exact⟨w',z.sameBut hs (cne y c e)⟩
  ·obtain⟨e,n,ne,nf,d⟩:=I.pin p hp
   exact⟨(hs.2 p.1 ne).trans e,n,ne,nf,d⟩
 ·have hfn:X.fn x=true:=by
   rcases hf with z | z
   ·exact z
   ·rw[z] at hk; cases hk
  obtain⟨c,hc⟩:=I.ok.has x (.inl hk)
  obtain⟨w',z⟩:=I.cell x c hc
  refine wpAny_storeName_cell I.ok.kind hk hc z (fun h' hc' hs=>?_)
  obtain⟨oc,hoc,hocd⟩:=id z
  refine h { s with heap:=h' } ⟨I.ok,I.os,I.bare,⟨fun b o e n hb hx=>?_,fun b o e n hb hx=>?_,I.base.free,fun b o e hx=>?_,I.base.tups,I.base.frzs,I.base.tbls⟩,⟨m,hn.sameBut hs (lR (cne x c hc)),fun j y v' e1 e2 e3=>?_⟩,fun y c' e=>?_,I.free,I.freeC,fun p hp=>?_,tracked ⟨oc,hoc,I.freeC x c hc⟩ hs,by simpa using I.len⟩ ⟨c,hs,.inr hc⟩
  ·exact(hs.2 b (dG (gG (cG e) (I.ok.cab x c hfn hc)))).trans (I.base.keep b o e n hb hx)
  ·obtain⟨sl,e1⟩:=I.base.slot b o e n hb hx
   exact⟨sl,(hs.2 b (dG (gG (cG e) (I.ok.cab x c hfn hc)))).trans e1⟩
  ·obtain⟨o',e1⟩:=I.base.there b o e hx
   exact⟨o',(hs.2 b (dG (gG (cG e) (I.ok.cab x c hfn hc)))).trans e1⟩
  ·by_cases hj:j=i
   ·subst hj
    rw[hi] at e1; cases e1
    rw[mO hiσ] at e2
    cases e2
    exact⟨u,r,.inr ⟨.inl hk,c,hc,hc'⟩⟩
   ·rw[lD (lR hj)] at e2
    obtain⟨u',r',q⟩:=hl j y v' e1 e2 e3
    refine⟨u',r',?_⟩
    rcases q with q | ⟨k,c',e,z'⟩
    ·exact .inl q
    ·refine .inr ⟨k,c',e,z'.sameBut hs ?_⟩
     rintro rfl
     exact hj (SH hN e1 (I.ok.inj _ _ _ e hc ▸ hi))
  ·by_cases hcc:c'=c
   ·subst hcc; exact⟨_,hc'⟩
   ·obtain⟨w2,z2⟩:=I.cell y c' e
    exact⟨w2,z2.sameBut hs hcc⟩
  ·obtain⟨e,n,ne,nf,d⟩:=I.pin p hp
   refine⟨(hs.2 p.1 ?_).trans e,n,ne,nf,d⟩
   intro q
   rw[q,hoc] at e
   have q':oc=p.2:=dZ e
   exact d w' (by rw[← q']; exact hocd)
theorem RC{v:V}{Q:Unit->aG->Prop}(I:Inv X pins σ H s)(hN:X.N.Nodup)(hi:X.N[i]?=some x)(hx:kK X.env.scope x)(r:RelV v u)
  (h : ∀ s',Inv X pins (σ.set i (some v)) H s'->Q () s') (hf:X.fn x=true \/ X.env.scope.names.lookup x=some .local:=by first | exact .inl rfl | exact .inr rfl | assumption):aO M A (storeName X.env x u) Q E s:=
 TX I hN hi hx r (fun s' I' _=>h s' I') hf
theorem Inv.call'(I:Inv X pins σ H s)(ho:s'.os=s.os)(u:Un (frs X.stack) ch H H' s.heap s'.heap)(hok:HOk X.prog X.w H' s'.heap)(hg:pK s'.gens)
  (hch : ∀ b∈ch,(b∈X.ex \/ X.s₀.heap.objs.size≤b)/\b≠X.env.locals/\(∀ x c,X.env.cells.lookup x=some c->c≠b) /\ ∀ p∈X.pn++pins,p.1≠b):Inv X pins σ H' s':=by
 obtain⟨h',g',d',t',o'⟩:=s'
 have e:o'=s.os:=ho
 subst e
 exact I.call (g':=g') (t':=t') (d':=d') u hok hg hch
end
abbrev XK:=aE->Option aB->Hp->Prop
abbrev St:=List (Option V)
abbrev VK:=V->Hp->Prop
abbrev TE:=St->Hp->VK->Prop
abbrev TT:=St->Hp->(Bool->Hp->Prop)->Prop
abbrev TA:=St->Hp->(List V->Hp->Prop)->Prop
structure Ends where
 nx:St->Hp->Prop
 rt:VK
 bk:St->Hp->Prop:=fun _ _=>False
 ct:St->Hp->Prop:=fun _ _=>False
abbrev TS:=Ends->St->Hp->Prop
def EP (X:Cx)(pins:List (aB×aW))(σ:St)(Q:VK)(u:aE)(s':aG):Prop:=∃ v H',Inv X pins σ H' s'/\RelV v u/\Q v H'
def TP (X:Cx)(pins:List (aB×aW))(σ:St)(Q:Bool->Hp->Prop)(b:Bool)(s':aG):Prop:=∃ H',Inv X pins σ H' s'/\Q b H'
def AP (X:Cx)(pins:List (aB×aW))(σ:St)(Q:List V->Hp->Prop)(us:List aE)(s':aG):Prop:=∃ vs H',Inv X pins σ H' s'/\Vals vs us/\Q vs H'
def SP (X:Cx)(pins:List (aB×aW))(D:Ends)(f:Flow)(s':aG):Prop:=
 match f with
 | .next=>∃ σ' H',Inv X pins σ' H' s'/\D.nx σ' H'
 | .brk=>∃ σ' H',Inv X pins σ' H' s'/\D.bk σ' H'
 | .cont=>∃ σ' H',Inv X pins σ' H' s'/\D.ct σ' H'
 | .ret u=>∃ v σ' H',Inv X pins σ' H' s'/\RelV v u/\D.rt v H'
def PE (X:Cx)(e:aS)(t:TE):Prop:=
 ∀ (pins:List (aB×aW)) (s:aG) (σ:St) (H:Hp) (Q:VK),Inv X pins σ H s->t σ H Q->aO (aQ X.prog X.w) X.A (bH e X.env) (EP X pins σ Q) X.xe s
def PT (X:Cx)(e:aS)(t:TT):Prop:=
 ∀ (pins:List (aB×aW)) (s:aG) (σ:St) (H:Hp) (Q:Bool->Hp->Prop),Inv X pins σ H s->t σ H Q->aO (aQ X.prog X.w) X.A (isTrue e X.env (bH e X.env)) (TP X pins σ Q) X.xe s
def PW (X:Cx)(e:aS)(t:TT):Prop:=
 ∀ (whole:Sem aE) (pins:List (aB×aW)) (s:aG) (σ:St) (H:Hp) (Q:Bool->Hp->Prop),Inv X pins σ H s->t σ H Q->aO (aQ X.prog X.w) X.A (isTrue e X.env whole) (TP X pins σ Q) X.xe s
theorem PW.pt {X:Cx}{t:TT}(h:PW X e t):PT X e t:=h _
def PA (X:Cx)(es:List aS)(t:TA):Prop:=
 ∀ (pos:bQ) (pins:List (aB×aW)) (s:aG) (σ:St) (H:Hp) (Q:List V->Hp->Prop),Inv X pins σ H s->t σ H Q->aO (aQ X.prog X.w) X.A (spliced (fK pos (bE es X.env))) (AP X pins σ Q) X.xe s
def PS (X:Cx)(st:bW)(t:TS):Prop:=
 ∀ (pins:List (aB×aW)) (s:aG) (σ:St) (H:Hp) (D:Ends),Inv X pins σ H s->t D σ H->aO (aQ X.prog X.w) X.A (exec st X.env) (SP X pins D) X.xe s
def PSs (X:Cx)(st:List bW)(t:TS):Prop:=
 ∀ (pins:List (aB×aW)) (s:aG) (σ:St) (H:Hp) (D:Ends),Inv X pins σ H s->t D σ H->aO (aQ X.prog X.w) X.A (execs st X.env) (SP X pins D) X.xe s
theorem thn {α:Type}{t:Sem α}{Q Q':α->aG->Prop}(h:aO M A t Q E s)(hQ : ∀ a s,Q a s->Q' a s):aO M A t Q' E s:=kF h hQ fun _ _ x=>x
section
variable {X:Cx}
abbrev nD (i:Nat):TE:=fun σ H Q=>∃ v,σ[i]?=some (some v)/\Q v H
abbrev tC (v:V):TE:=fun _ H Q=>Q v H
theorem lG(hN:X.N[i]?=some x)(hv:jZ X.env.scope x)(hd:(x == ("__debug__" : aD))=false:=by decide)(hcd:(x == ("__classdict__" : aD))=false:=by decide):PE X (.Name x pos) (nD i):=by
 intro pins s σ H Q I h
 obtain⟨v,e,h⟩:=h
 obtain⟨m,hn,hl⟩:=I.loc
 obtain⟨u,r,l⟩:=hl i x v hN e hv
 have fin:EP X pins σ Q u s:=⟨v,H,I,r,h⟩
 rcases l with⟨hk,hm⟩ | ⟨hk,c,hc,hcell⟩
 ·exact wpAny_Name (wpAny_loadName_local I.ok.kind hk hn hm fin) hd
 ·rcases hk with hk | hk
  ·exact wpAny_Name (wpAny_loadName_cell I.ok.kind hk hc hcell fin) hd
  ·exact wpAny_Name (wpAny_loadName_free I.ok.kind hk hc hcell fin hcd) hd
theorem YZ {i j pos}:PE X (.Constant (.int i) j pos) (tC (.int i)):=fun _ _ _ H _ I h=>wpAny_Constant_int ⟨.int i,H,I.tok _,⟨_,rfl⟩,h⟩
theorem tW {b j pos}:PE X (.Constant (.bool b) j pos) (tC (.bl b)):=fun _ _ _ H _ I h=>Constant_bool ⟨.bl b,H,I,rfl,h⟩
theorem XU {x j pos}:PE X (.Constant (.str x) j pos) (tC (.str x)):=fun _ _ _ H _ I h=>Calls.Constant_str ⟨.str x,H,I.tok _,⟨_,rfl⟩,h⟩
def Gl (X:Cx)(x:aD):Prop:=X.env.kindOf x=some .globalImplicit
theorem BB{σ:St}{H:Hp}(I:Inv X pins σ H s)(hg:Gl X x)(hm:X.mg x=some u)(h:Q u s)
  (hd:(x == ("__debug__" : aD))=false:=by decide):aO (aQ X.prog X.w) X.A (bH (.Name x pos) X.env) Q E s:=
 Calls.Name_function_global I.ok.kind hg (Calls.loadGlobal_global (by rw[I.ok.glob]; exact I.mod.glob.keeps I.bk) hm h) hd
theorem AM{σ:St}{H:Hp}(I:Inv X pins σ H s)(hg:Gl X x)(hm:X.mg x=none)(hv:lM x=some u)(h:Q u s)
  (hn:x ≠ "__name__":=by decide) (hd:(x == ("__debug__" : aD))=false:=by decide):aO (aQ X.prog X.w) X.A (bH (.Name x pos) X.env) Q E s:=by
 obtain⟨mb,h1,h2⟩:=I.mod.blt
 exact Calls.Name_function_global I.ok.kind hg (Calls.loadGlobal_builtin (by rw[I.ok.glob]; exact I.mod.glob.keeps I.bk) hm (by rw[I.ok.blt]; exact h1.keeps I.bk) ((h2 x hn).trans hv) h) hd
theorem ZT{v:V}(hg:Gl X x)(hm:X.mg x=some u)(r:RelV v u)(hd:(x == ("__debug__" : aD))=false:=by decide):PE X (.Name x pos) (tC v):=
 fun _ _ _ H _ I h=>BB I hg hm ⟨v,H,I,r,h⟩ hd
theorem Ki{v:V}(hg:Gl X x)(hm:X.mg x=none)(hv:lM x=some u)(r:RelV v u)(hn:x ≠ "__name__":=by decide)(hd:(x == ("__debug__" : aD))=false:=by decide):PE X (.Name x pos) (tC v):=
 fun _ _ _ H _ I h=>AM I hg hm hv ⟨v,H,I,r,h⟩ hn hd
variable {a b:aS}{ta tb:TE}
def tB (t:TE):TT:=fun σ H Q=>t σ H fun x H1=>∃ c,x = .bl c/\Q c H1
theorem Hg{t:TE}(h:PE X e t)(he : ∀ whole,isTrue e X.env whole=(do let v ← whole; vJ e.pos; nO [v] (truthy v)):=by intro _; rfl):PT X e (tB t):=by
 intro pins s σ H Q I hw
 refine isTrue_plain (thn (h pins s σ H _ I hw) fun v s1 ⟨x,H1,I1,r1,q1⟩=>?_) (he _)
 obtain⟨d,rfl,q⟩:=q1
 cases r1
 exact sT ⟨H1,I1,q⟩
variable {tA tB':TT}{rest:List aS}
def Da (t u:TT):TT:=fun σ H Q=>t σ H fun c H1=>if c=true then u σ H1 Q else Q false H1
def tOr (t u:TT):TT:=fun σ H Q=>t σ H fun c H1=>if c=true then Q true H1 else u σ H1 Q
def Cz (t:TT):TT:=fun σ H Q=>t σ H fun c H1=>Q (!c) H1
theorem Iy (ha:PT X a tA):PW X (.BoolOp .And [a] pos) tA:=by
 intro wh pins s σ H Q I h
 refine isTrue_and (thn (ha pins s σ H Q I h) fun c s1 e=>?_)
 cases c with
 | true=>exact isTrue_and_nil e
 | false=>exact e
theorem Gq (ha:PT X a tA):PW X (.BoolOp .Or [a] pos) tA:=by
 intro wh pins s σ H Q I h
 refine isTrue_or (thn (ha pins s σ H Q I h) fun c s1 e=>?_)
 cases c with
 | false=>exact isTrue_or_nil e
 | true=>exact e
theorem Hv (ha:PT X a tA)(hb:PW X (.BoolOp .And (b::rest) pos) tB'):PW X (.BoolOp .And (a::b::rest) pos) (Da tA tB'):=by
 intro wh pins s σ H Q I h
 refine isTrue_and (thn (ha pins s σ H _ I h) fun c s1 gh=>?_)
 obtain⟨H1,I1,q1⟩:=gh
 cases c with
 | true=>exact hb wh pins s1 σ H1 Q I1 q1
 | false=>exact⟨H1,I1,q1⟩
theorem Ey (ha:PT X a tA)(hb:PW X (.BoolOp .Or (b::rest) pos) tB'):PW X (.BoolOp .Or (a::b::rest) pos) (tOr tA tB'):=by
 intro wh pins s σ H Q I h
 refine isTrue_or (thn (ha pins s σ H _ I h) fun c s1 gh=>?_)
 obtain⟨H1,I1,q1⟩:=gh
 cases c with
 | true=>exact⟨H1,I1,q1⟩
 | false=>exact hb wh pins s1 σ H1 Q I1 q1
theorem Hz (ha:PT X a tA):PT X (.UnaryOp .Not a pos) (Cz tA):=by
 intro pins s σ H Q I h
 exact isTrue_not (ha pins s σ H (fun c H1=>Q (!c) H1) I h)
def Ei (ta tb:TE):TE:=fun σ H Q=>ta σ H fun x H1=>∃ c,x = .bl c/\if c=true then tb σ H1 Q else Q (.bl false) H1
def Ep (ta:TE):TE:=fun σ H Q=>ta σ H fun x H1=>∃ c,x = .bl c/\Q (.bl (!c)) H1
theorem Gc {op}{t:TE}(h:PE X a t):PE X (.BoolOp op [a] pos) t:=fun pins s σ H Q I hw=>BoolOp_one (h pins s σ H Q I hw)
theorem Ir (ha:PE X a ta)(hb:PE X (.BoolOp .And (b::rest) pos) tb):PE X (.BoolOp .And (a::b::rest) pos) (Ei ta tb):=by
 intro pins s σ H Q I h
 refine BoolOp_and (thn (ha pins s σ H _ I h) fun v s1 gh=>?_)
 obtain⟨x,H1,I1,r1,q1⟩:=gh
 obtain⟨c,rfl,q1⟩:=q1
 cases r1
 refine sT ?_
 cases c with
 | true=>exact hb pins s1 σ H1 Q I1 q1
 | false=>exact⟨.bl false,H1,I1,rfl,q1⟩
theorem Ib (ha:PE X a ta):PE X (.UnaryOp .Not a pos) (Ep ta):=by
 intro pins s σ H Q I h
 refine UnaryOp_ (thn (ha pins s σ H _ I h) fun v s1 gh=>?_)
 obtain⟨x,H1,I1,r1,q1⟩:=gh
 obtain⟨c,rfl,q1⟩:=q1
 cases r1
 exact not_of (sT ⟨.bl (!c),H1,I1,rfl,q1⟩)
end
def SqL (K:aH)(H:Hp)(a:aB)(xs:List V):Prop:=
 Rd H a (.lst xs) \/
  ∃ (o:aW) (its:Array aE) (n:Nat),K.lookup a=some o/\o.cls = .type "list" /\ o.dict=none/\o.data = .seq its n/\its.size≤sizeLine/\Vals xs its.toList
def SqT (K:aH)(H:Hp)(a:aB)(xs:List V):Prop:=
 Rd H a (.tup xs) \/
  ∃ (o:aW) (its:Array aE) (n:Nat),K.lookup a=some o/\o.cls = .type "tuple" /\ o.data = .seq its n/\its.size≤sizeLine/\Vals xs its.toList
def Dc:aE->Option V
 | .none=>some .non
 | .bool b=>some (.bl b)
 | .int i _=>some (.int i)
 | .str x _=>some (.str x)
 | .bytes b _=>some (.byt b)
 | .float b _=>some (.flt b)
 | .ref a=>some (.ref a)
 | .type n=>some (.ty n)
 | _=>none
theorem RelV.abs {x:V}(r:RelV x u):Dc u=some x:=by
 cases x with
 | non=>cases r; rfl
 | bl _=>cases r; rfl
 | int _=>obtain⟨t,rfl⟩:=r; rfl
 | str _=>obtain⟨t,rfl⟩:=r; rfl
 | byt _=>obtain⟨t,rfl⟩:=r; rfl
 | flt _=>obtain⟨t,rfl⟩:=r; rfl
 | ref _=>cases r; rfl
 | ty _=>cases r; rfl
theorem RelV.inj {x y:V}(r:RelV x u)(q:RelV y u):x=y:=dZ (r.abs.symm.trans q.abs)
theorem Vals.inj : ∀ {xs ys:List V} {us:List aE},Vals xs us->Vals ys us->xs=ys:=by
 intro xs ys us h
 induction h generalizing ys with
 | nil=>intro h; cases h; rfl
 | cons r _ ih=>
  intro h
  cases h with
  | cons r' t'=>rw[r.inj r',ih t']
section
variable {X:Cx}{σ:St}{H:Hp}{xs ys:List V}
theorem SqL.of(h:H a=some (.lst xs)):SqL K H a xs:=.inl (.inl h)
theorem SqT.of(h:H a=some (.tup xs)):SqT K H a xs:=.inl (.inl h)
theorem Inv.list (I:Inv X pins σ H s)(h:SqL X.K H a xs) : ∃ its:List aE,Vals xs its/\PlainL s.heap a its.toArray/\xs.length≤sizeLine:=by
 rcases h with h | ⟨o,its,n,hk,hc,hd,hs,hz,r⟩
 ·obtain⟨z,its,n,r,e⟩:=h.ok I.hok
  exact⟨its,r,⟨_,n,e,rfl,rfl,rfl⟩,z⟩
 ·refine⟨its.toList,r,⟨o,n,I.kIn a o hk,hc,hd,by simpa using hs⟩,?_⟩
  have e:=r.length
  simp only[gV] at e
  omega
theorem Inv.tuple (I:Inv X pins σ H s)(h:SqT X.K H a xs) : ∃ its:List aE,Vals xs its/\IsTup s.heap a its.toArray/\xs.length≤sizeLine:=by
 rcases h with h | ⟨o,its,n,hk,hc,hs,hz,r⟩
 ·obtain⟨z,its,r,p⟩:=h.ok I.hok
  exact⟨its,r,p.1,z⟩
 ·refine⟨its.toList,r,⟨o,I.kIn a o hk,hc,n,by simpa using hs⟩,?_⟩
  have e:=r.length
  simp only[gV] at e
  omega
theorem Inv.list_inj (I:Inv X pins σ H s)(h:SqL X.K H a xs)(h':SqL X.K H a ys):xs=ys:=by
 obtain⟨its,r,⟨o,n,e,_,_,d⟩,_⟩:=I.list h
 obtain⟨its',r',⟨o',n',e',_,_,d'⟩,_⟩:=I.list h'
 rw[e] at e'; cases e'
 rw[d] at d'
 injection d' with d1 _
 have:its=its':=by simpa using congrArg Array.toList d1
 subst this
 exact r.inj r'
theorem Inv.tuple_inj (I:Inv X pins σ H s)(h:SqT X.K H a xs)(h':SqT X.K H a ys):xs=ys:=by
 obtain⟨its,r,⟨o,e,_,n,d⟩,_⟩:=I.tuple h
 obtain⟨its',r',⟨o',e',_,n',d'⟩,_⟩:=I.tuple h'
 rw[e] at e'; cases e'
 rw[d] at d'
 injection d' with d1 _
 have:its=its':=by simpa using congrArg Array.toList d1
 subst this
 exact r.inj r'
end
abbrev Cx.wish (X:Cx)(E:aE->aG->Prop):Cx:={ X with xe:=E }
abbrev Cx.nox (X:Cx):Cx:=X.wish fun _ _=>False
theorem Cx.Ok.wish {X:Cx}(ok:X.Ok)(E:aE->aG->Prop):(X.wish E).Ok:=
 ⟨ok.mod,ok.kind,ok.glob,ok.blt,ok.above,ok.inj,ok.has,ok.cab,ok.hd,ok.frames,ok.stk,ok.exf,ok.bs,ok.bsz,ok.noex,ok.exfs,ok.funs,ok.frf⟩
theorem Cx.Ok.unwish {X:Cx}(ok:(X.wish E).Ok):X.Ok:=
 ⟨ok.mod,ok.kind,ok.glob,ok.blt,ok.above,ok.inj,ok.has,ok.cab,ok.hd,ok.frames,ok.stk,ok.exf,ok.bs,ok.bsz,ok.noex,ok.exfs,ok.funs,ok.frf⟩
section
variable {X:Cx}{σ:St}{H:Hp}
theorem Inv.wish (I:Inv X pins σ H s)(E:aE->aG->Prop):Inv (X.wish E) pins σ H s:=⟨I.ok.wish E,I.os,I.bare,I.base,I.loc,I.cell,I.free,I.freeC,I.pin,I.hok,I.len⟩
theorem Inv.unwish (I:Inv (X.wish E) pins σ H s):Inv X pins σ H s:=⟨I.ok.unwish,I.os,I.bare,I.base,I.loc,I.cell,I.free,I.freeC,I.pin,I.hok,I.len⟩
theorem SP.unwish {D:Ends}{f:Flow}(h:SP (X.wish E) pins D f s'):SP X pins D f s':=by
 cases f with
 | next=>obtain⟨σ',H',I,q⟩:=h; exact⟨σ',H',I.unwish,q⟩
 | brk=>obtain⟨σ',H',I,q⟩:=h; exact⟨σ',H',I.unwish,q⟩
 | cont=>obtain⟨σ',H',I,q⟩:=h; exact⟨σ',H',I.unwish,q⟩
 | ret u=>obtain⟨v,σ',H',I,r,q⟩:=h; exact⟨v,σ',H',I.unwish,r,q⟩
theorem PSs.nox {st:List bW}{t:TS}(h:PSs X.nox st t):PSs X st t:=fun pins s σ H D I hw=>
 kF (h pins s σ H D (I.wish _) hw) (fun _ _ q=>q.unwish) fun _ _ z=>jX z
end
section
variable {X:Cx}{st:bW}{rest:List bW}{t u:TS}{te:TE}
def PN:TS:=fun D σ H=>D.nx σ H
def ON (t u:TS):TS:=fun D σ H=>t { D with nx:=u D } σ H
theorem pZ:PSs X [] PN:=fun _ _ σ H _ I h=>wpAny_execs_nil ⟨σ,H,I,h⟩
theorem kC (h1:PS X st t)(h2:PSs X rest u):PSs X (st::rest) (ON t u):=by
 intro pins s σ H D I h
 refine wpAny_execs_cons (thn (h1 pins s σ H { D with nx:=u D } I h) fun f s1 q=>?_)
 cases f with
 | next=>
  obtain⟨σ',H',I',q⟩:=q
  exact h2 pins s1 σ' H' D I' q
 | ret v=>exact q
 | brk=>exact q
 | cont=>exact q
theorem kB (h1:PS X st t):PSs X [st] t:=by
 intro pins s σ H D I h
 refine wpAny_execs_cons (thn (h1 pins s σ H D I h) fun f s1 q=>?_)
 cases f with
 | next=>exact wpAny_execs_nil q
 | ret v=>exact q
 | brk=>exact q
 | cont=>exact q
theorem Inv.quiet{σ:St}{H:Hp}(I:Inv X pins σ H s):interactive X.env=false:=by simp[interactive,I.ok.kind]
def LP (te:TE):TS:=fun D σ H=>te σ H fun _ H1=>D.nx σ H1
theorem kT (he:PE X e te)(hs:kG e none pos.line X.env=pure false:=by rfl):PS X (.Expr e pos) (LP te):=by
 intro pins s σ H D I h
 exact wpAny_Expr_any (thn (he pins s σ H _ I h) fun v s1 ⟨x,H1,I1,r1,q1⟩=>⟨σ,H1,I1,q1⟩) I.quiet hs
def Dd (te:TE):TS:=fun D σ H=>te σ H D.rt
theorem uI (he:PE X e te):PS X (.Return (some e) pos) (Dd te):=by
 intro pins s σ H D I h
 exact wpAny_Return_some (thn (he pins s σ H _ I h) fun v s1 ⟨x,H1,I1,r1,q1⟩=>⟨x,σ,H1,I1,r1,q1⟩)
def OB (c:TT)(t u:TS):TS:=fun D σ H=>c σ H fun b H1=>if b=true then t D σ H1 else u D σ H1
theorem oH{a b:List bW}{tc:TT}(hc:PT X c tc)(ha:PSs X a t)(hb:PSs X b u):PS X (.If c a b pos) (OB tc t u):=by
 intro pins s σ H D I h
 refine wpAny_If (thn (hc pins s σ H _ I h) fun d s1 gh=>?_)
 obtain⟨H1,I1,q1⟩:=gh
 cases d with
 | true=>exact ha pins s1 σ H1 D I1 q1
 | false=>exact hb pins s1 σ H1 D I1 q1
def Gi:TS:=fun _ _ _=>False
theorem Xa {sts:List bW}:PSs X sts Gi:=fun _ _ _ _ _ _ h=>h.elim
end
abbrev TG:=V->St->Hp->(St->Hp->Prop)->Prop
abbrev TGs:=List V->St->Hp->(St->Hp->Prop)->Prop
def PG (X:Cx)(target:aS)(t:TG):Prop:=
 ∀ (pins:List (aB×aW)) (s:aG) (σ:St) (H:Hp) (v:V) (u:aE) (Q:St->Hp->Prop),Inv X pins σ H s->RelV v u->t v σ H Q ->
  aO (aQ X.prog X.w) X.A (lO target X.env u) (fun _ s'=>∃ σ' H',Inv X pins σ' H' s'/\Q σ' H') X.xe s
def PGs (X:Cx)(ts:List aS)(t:TGs):Prop:=
 ∀ (pins:List (aB×aW)) (s:aG) (σ:St) (H:Hp) (vs:List V) (us:List aE) (Q:St->Hp->Prop),Inv X pins σ H s->Vals vs us->t vs σ H Q ->
  aO (aQ X.prog X.w) X.A (assignInOrder ((iJ ts X.env).map (·.2)) us) (fun _ s'=>∃ σ' H',Inv X pins σ' H' s'/\Q σ' H') X.xe s
abbrev GJ:=V->V->V->Hp->(Hp->Prop)->Prop
def OS (X:Cx)(t:GJ):Prop:=
 ∀ (pins:List (aB×aW)) (s:aG) (σ:St) (H:Hp) (o i v:V) (ov iv u:aE) (Q:Hp->Prop),Inv X pins σ H s->RelV o ov->RelV i iv->RelV v u->t o i v H Q ->
  aO (aQ X.prog X.w) X.A (setItem ov iv u) (fun _ s'=>∃ H',Inv X pins σ H' s'/\Q H') X.xe s
section
variable {X:Cx}
def GN (i:Nat):TG:=fun v σ H Q=>Q (σ.set i (some v)) H
theorem sC(hN:X.N.Nodup)(hi:X.N[i]?=some x)(hx:kK X.env.scope x)(hf:X.fn x=true \/ X.env.scope.names.lookup x=some .local:=by first | exact .inl rfl | exact .inr rfl | assumption):PG X (.Name x pos) (GN i):=by
 intro pins s σ H v u Q I r h
 exact wpAny_assign_Name (RC I hN hi hx r (fun s' I'=>⟨_,H,I',h⟩) hf)
def Dl:TGs:=fun vs σ H Q=>vs=[]/\Q σ H
def Ea (t:TG)(u:TGs):TGs:=fun vs σ H Q=>∃ v r,vs=v::r/\t v σ H fun σ' H'=>u r σ' H' Q
theorem ZI:PGs X [] Dl:=by
 intro pins s σ H vs us Q I r h
 obtain⟨e,h⟩:=h
 subst e
 cases r
 exact assignInOrder_nil ⟨σ,H,I,h⟩
theorem BL{t:TG}{u:TGs}(h1:PG X e t)(h2:PGs X es u)
  (hs:(iJ (e::es) X.env).map (·.2)=lO e X.env::(iJ es X.env).map (·.2):=by rfl):PGs X (e::es) (Ea t u):=by
 intro pins s σ H vs us Q I r h
 obtain⟨v,vr,e1,h⟩:=h
 subst e1
 cases r with
 | cons r rr=>
  rw[hs]
  refine assignInOrder_cons (thn (h1 pins s σ H _ _ _ I r h) fun _ s1 gh=>?_)
  obtain⟨σ1,H1,I1,q1⟩:=gh
  exact h2 pins s1 σ1 H1 _ _ Q I1 rr q1
def Du (K:aH)(n:Nat)(t:TGs):TG:=fun v σ H Q=>∃ a xs,v = .ref a/\SqT K H a xs/\xs.length=n/\t xs σ H Q
theorem YB{k:Nat}{t:TGs}{n:Nat}(hc:X.calm=true)(h:PGs X es t)
  (hn:(iJ es X.env).length=n:=by rfl) (hst:(iJ es X.env).findIdx? (·.1)=none:=by rfl):PG X (.Tuple es k pos) (Du X.K n t):=by
 intro pins s σ H v u Q I r hw
 obtain⟨a,xs,e1,hq,hl,hw⟩:=hw
 subst e1
 cases r
 obtain⟨its,rv,ht,hz⟩:=I.tuple hq
 refine assign_Tuple_tuple (I.ok.hd hc) ht (by simp[hn,← hl,rv.length]) hst fun h' hx=>?_
 have I1:Inv X pins σ H { s with heap:=h' }:=I.kept (t':=s.toks) fun b o e=>hx b o (dG (cG e)) e
 exact h pins _ σ H xs _ Q I1 (by simpa using rv) hw
def Dq (to ti:TE)(t:GJ):TG:=fun v σ H Q=>to σ H fun o H1=>ti σ H1 fun i H2=>t o i v H2 fun H3=>Q σ H3
theorem Hy {o i:aS}{to ti:TE}{t:GJ}(ho:PE X o to)(hi:PE X i ti)(hs:OS X t)
  (ha : ∀ v,lO (.Subscript o i pos) X.env v=(do
   let ov ← nO [v] (bH o X.env)
   let iv ← nO [v,ov] (bH i X.env)
   vJ pos
   nO [v,ov,iv] (setItem ov iv v)
   release [v,ov,iv] []):=by intro _; rfl):PG X (.Subscript o i pos) (Dq to ti t):=by
 intro pins s σ H v u Q I r h
 rw[ha]
 refine aJ (hU (thn (ho pins s σ H _ I h) fun ov s1 gh=>?_))
 obtain⟨x,H1,I1,r1,q1⟩:=gh
 refine aJ (hU (thn (hi pins s1 σ H1 _ I1 q1) fun iv s2 gh=>?_))
 obtain⟨y,H2,I2,r2,q2⟩:=gh
 refine aJ (wpAny_standAt (aJ (hU (thn (hs pins s2 σ H2 x y v ov iv u _ I2 r1 r2 r q2) fun _ s3 gh=>?_))))
 obtain⟨H3,I3,q3⟩:=gh
 exact wpAny_release ⟨σ,H3,I3,q3⟩
def GF (te:TE)(g:TG):TS:=fun D σ H=>te σ H fun x H1=>g x σ H1 D.nx
theorem YK{te:TE}{g:TG}(he:PE X e te)(hg:PG X tg g)(hs:swapsWithSole [tg] e pos.line X.env=pure false:=by rfl)(hw:swappedStores [tg] e X.env=pure none:=by rfl)
  (h1:(iJ [tg] X.env).map (·.2)=[lO tg X.env]:=by rfl):PS X (.Assign [tg] e pos) (GF te g):=by
 intro pins s σ H D I h
 refine wpAny_Assign_stores (thn (he pins s σ H _ I h) fun v s1 ⟨x,H1,I1,r1,q1⟩=>?_) hs hw
 rw[h1]
 exact thn (hg pins s1 σ H1 x v _ I1 r1 q1) fun _ s2 q=>q
theorem ZE{te:TE}(hN:X.N.Nodup)(hi:X.N[i]?=some x)(hx:kK X.env.scope x)(he:PE X e te)(hs:kG e (some (.Name x pos')) pos.line X.env=pure false:=by rfl)(hf:X.fn x=true \/ X.env.scope.names.lookup x=some .local:=by first | exact .inl rfl | exact .inr rfl | assumption) :
  PS X (.Assign [.Name x pos'] e pos) (GF te (GN i)):=by
 intro pins s σ H D I h
 refine wpAny_Assign_Name (thn (he pins s σ H _ I h) fun v s1 ⟨y,H1,I1,r1,q1⟩=>?_) hs
 exact RC I1 hN hi hx r1 (fun s2 I2=>⟨_,H1,I2,q1⟩) hf
end
structure It where
 go:Nat->Hp->Prop
 yld:Nat->Hp->V->Hp->Prop
 stop:Nat->Hp->Prop
def jR (X:Cx)(pins:List (aB×aW))(H:Hp)(b:aB):Prop:=
 H b=none/\b≠X.env.locals/\b∉X.fs/\(b∈X.ex \/ X.s₀.heap.objs.size≤b)/\(∀ x c,X.env.cells.lookup x=some c->c≠b) /\ ∀ p∈X.pn++pins,p.1≠b
theorem Inv.fpOk {X:Cx}{σ:St}{H H':Hp}{b:aB}(I:Inv X pins σ H s)(hb:s.heap.objs.size≤b)(hn:H' b=none):jR X pins H' b:=by
 refine⟨hn,qV (gG I.lt hb),I.nofs hb,.inr (iA I.sz hb),fun x c e z=>?_,fun p hp z=>?_⟩
 ·obtain⟨v,q⟩:=I.cell x c e
  exact absurd (gG q.lt (by rw[z]; exact hb)) (lB _)
 ·exact absurd (gG (cG (I.pin p hp).1) (by rw[z]; exact hb)) (lB _)
structure Turn (P:bB)(w:aU)(K:aH)(tg:aS)(J:It)(fp:List aB)(it:aB)(tn:Nat->aP->Prop):Prop where
 mem:it∈fp
 obj : ∀ i h,tn i h -> ∀ b∈fp,∃ o,h.get? b=some o /\ ∀ v,o.data ≠ .cell v
 keep : ∀ i h h',tn i h->(∀ b∈fp,∀ o,h.get? b=some o->h'.get? b=some o)->tn i h'
 item : ∀ (X:Cx),X.prog=P->X.w=w->X.K=K->X.calm=true -> ∀ (i:Nat) (pins:List (aB×aW)) (s:aG) (σ:St) (H:Hp) (E:aE->aG->Prop),Inv X pins σ H s->(∀ b∈fp,jR X pins H b)->tn i s.heap->J.go i H ->
  aO (aQ P w) X.A (pyNext (.ref it)) (fun r s1=>∃ u,r=some u /\
   aO (aQ P w) X.A (ML tg (.ref it) u) (fun _ s2=>∃ x H',Inv X pins σ H' s2/\RelV x u/\J.yld i H x H'/\tn (i+1) s2.heap /\ ∀ b∈fp,H' b=none) E s1) E s
 done : ∀ (X:Cx),X.prog=P->X.w=w->X.K=K->X.calm=true -> ∀ (i:Nat) (pins:List (aB×aW)) (s:aG) (σ:St) (H:Hp) (E:aE->aG->Prop),Inv X pins σ H s->(∀ b∈fp,jR X pins H b)->tn i s.heap->J.stop i H ->
  aO (aQ P w) X.A (pyNext (.ref it)) (fun r s1=>r=none/\Inv X pins σ H s1) E s
 self : ∀ (A:bS) (i:Nat) (s:aG) (Q:aE->aG->Prop) (E:aE->aG->Prop),tn i s.heap->Q (.ref it) s->aO (aQ P w) A (qQ (.ref it)) Q E s
abbrev TI:=St->Hp->(It->Hp->Prop)->Prop
def PIE (X:Cx)(pins:List (aB×aW))(σ:St)(tg:aS)(R:It->Hp->Prop)(itv:aE)(s2:aG):Prop:=
 ∃ (it:aB) (fp:List aB) (tn:Nat->aP->Prop) (J:It) (H':Hp),itv = .ref it/\Inv X pins σ H' s2/\Turn X.prog X.w X.K tg J fp it tn/\tn 0 s2.heap/\(∀ b∈fp,jR X pins H' b)/\R J H'
def PI (X:Cx)(tg iter:aS)(wi:TI):Prop:=
 ∀ (pins:List (aB×aW)) (s:aG) (σ:St) (H:Hp) (R:It->Hp->Prop),Inv X pins σ H s->wi σ H R ->
  aO (aQ X.prog X.w) X.A (bH iter X.env) (fun v s1=>aO (aQ X.prog X.w) X.A (qQ v) (PIE X pins σ tg R) X.xe s1) X.xe s
theorem yY{it:aB}{n:String}{vs:Array aE}{Q:Unit->aG->Prop}(ho:s.heap.get? it=some o)(hc:o.cls = .type n)(hd:o.data = .fields vs)
    (hn:["enumerate","zip","dict_itemiterator","dict_reverseitemiterator","odict_iterator","itertools.zip_longest","itertools.pairwise"].contains n=false) (hQ:Q () s):aO M A (ML tg (.ref it) u) Q E s:=by
  unfold ML
  cases tg <;> first
    | exact aT hQ
    | (cases u <;> first
        | exact aT hQ
        | (refine aJ (wpAny_load ho ?_)
           rw[hc,hd]
           show aO M A (if (["enumerate","zip","dict_itemiterator","dict_reverseitemiterator","odict_iterator","itertools.zip_longest","itertools.pairwise"].contains n&&vs[0]? == some (rawInt _))=true then _ else _) Q E s
           rw[if_neg (by intro h; rw[hn,Bool.false_and] at h; cases h)]
           exact aT hQ))
def GA (K:aH)(a:aB):It:=
 ⟨fun i H=>∃ xs x,SqL K H a xs/\xs[i]?=some x,fun i H x H'=>H'=H /\ ∀ xs,SqL K H a xs->xs[i]?=some x,fun i H=>∃ xs,SqL K H a xs/\xs.length≤i⟩
def FY (K:aH)(a:aB):It:=
 ⟨fun i H=>∃ xs x,SqT K H a xs/\xs[i]?=some x,fun i H x H'=>H'=H /\ ∀ xs,SqT K H a xs->xs[i]?=some x,fun i H=>∃ xs,SqT K H a xs/\xs.length≤i⟩
def zW (lo:Int)(n:Nat):It:=⟨fun i _=>i<n,fun i H x H'=>H'=H/\x = .int (lo+i),fun i _=>n≤i⟩
theorem Mq {P:bB}{w:aU}(a it:aB):Turn P w K tg (GA K a) [it] it (fun i h=>h.IsListIter it a i) where
 mem:=by simp
 obj:=fun i h st b hb=>by
  have e:b=it:=by simpa using hb
  subst e
  obtain⟨o,e,c,d⟩:=st
  exact⟨o,e,fun v z=>by rw[d] at z; cases z⟩
 keep:=fun i h h' st k=>st.at fun o e=>k it (by simp) o e
 item:=by
  intro X hP hw hK hc i pins s σ H E I hf st hg
  subst hP hw hK
  obtain⟨xs,x,hq,hx⟩:=hg
  obtain⟨its,rv,p,hz⟩:=I.list hq
  obtain⟨u,hu,ru⟩:=rv.get hx
  obtain⟨f0,f1,f2,f3,f4,f5⟩:=hf it (by simp)
  refine wpAny_pyNext_list_item st p.isList (x:=u) (by simpa using hu) fun h' st' sb=>?_
  have I1:Inv X pins σ H { s with heap:=h' }:=I.turned (t':=s.toks) (fun b o hb e=>(sb.2 b hb).trans e) f0 f1 f3 f4 f5
  obtain⟨o,e,c,d⟩:=id st'
  exact⟨u,rfl,yY (s:={ s with heap:=h' }) e c d (by decide) ⟨x,H,I1,ru,⟨rfl,fun ys hy=>by rw[I.list_inj hy hq]; exact hx⟩,st',fun b hb=>(hf b hb).1⟩⟩
 done:=by
  intro X hP hw hK hc i pins s σ H E I hf st hg
  subst hP hw hK
  obtain⟨xs,hq,hx⟩:=hg
  obtain⟨its,rv,p,hz⟩:=I.list hq
  obtain⟨f0,f1,f2,f3,f4,f5⟩:=hf it (by simp)
  have hl:=rv.length
  exact wpAny_pyNext_list_end (I.ok.hd hc) st p.isList (by simp; omega) fun h' eb=>⟨rfl,I.turned (t':=s.toks) (fun b o hb e=>eb b o hb e) f0 f1 f3 f4 f5⟩
 self:=fun _ _ _ _ _ st h=>wpAny_pyIter_listiter st h
theorem Pe {P:bB}{w:aU}(a it:aB):Turn P w K tg (FY K a) [it] it (fun i h=>h.IsTupleIter it a i) where
 mem:=by simp
 obj:=fun i h st b hb=>by
  have e:b=it:=by simpa using hb
  subst e
  obtain⟨o,e,c,d⟩:=st
  exact⟨o,e,fun v z=>by rw[d] at z; cases z⟩
 keep:=fun i h h' st k=>st.at fun o e=>k it (by simp) o e
 item:=by
  intro X hP hw hK hc i pins s σ H E I hf st hg
  subst hP hw hK
  obtain⟨xs,x,hq,hx⟩:=hg
  obtain⟨its,rv,p,hz⟩:=I.tuple hq
  obtain⟨u,hu,ru⟩:=rv.get hx
  obtain⟨f0,f1,f2,f3,f4,f5⟩:=hf it (by simp)
  refine wpAny_pyNext_tuple_item st (show s.heap.IsTuple a its.toArray from p) (x:=u) (by simpa using hu) fun h' st' sb=>?_
  have I1:Inv X pins σ H { s with heap:=h' }:=I.turned (t':=s.toks) (fun b o hb e=>(sb.2 b hb).trans e) f0 f1 f3 f4 f5
  obtain⟨o,e,c,d⟩:=id st'
  exact⟨u,rfl,yY (s:={ s with heap:=h' }) e c d (by decide) ⟨x,H,I1,ru,⟨rfl,fun ys hy=>by rw[I.tuple_inj hy hq]; exact hx⟩,st',fun b hb=>(hf b hb).1⟩⟩
 done:=by
  intro X hP hw hK hc i pins s σ H E I hf st hg
  subst hP hw hK
  obtain⟨xs,hq,hx⟩:=hg
  obtain⟨its,rv,p,hz⟩:=I.tuple hq
  obtain⟨f0,f1,f2,f3,f4,f5⟩:=hf it (by simp)
  have hl:=rv.length
  exact wpAny_pyNext_tuple_end (I.ok.hd hc) st (show s.heap.IsTuple a its.toArray from p) (by simp; omega) fun h' eb=>⟨rfl,I.turned (t':=s.toks) (fun b o hb e=>eb b o hb e) f0 f1 f3 f4 f5⟩
 self:=fun _ _ _ _ _ st h=>wpAny_pyIter_tupleiter st h
theorem Oc {P:bB}{w:aU}(it:aB)(lo:Int)(n:Nat):Turn P w K tg (zW lo n) [it] it (fun i h=>IsRangeIter h it (lo+(i:Nat)*1) ((n:Int) - (i:Nat)) 1) where
 mem:=by simp
 obj:=fun i h st b hb=>by
  have e:b=it:=by simpa using hb
  subst e
  exact⟨_,st,fun v z=>by
   have z':Data.fields _=Data.cell v:=z
   cases z'⟩
 keep:=fun i h h' st k=>k it (by simp) _ st
 item:=by
  intro X hP hw hK hc i pins s σ H E I hf st hg
  subst hP hw hK
  obtain⟨f0,f1,f2,f3,f4,f5⟩:=hf it (by simp)
  have W:=Walks.range (prog:=X.prog) (w:=X.w) (I.ok.hd hc) it lo 1 n
  refine W.item i s _ _ hg st fun v h' tk hv st' kk=>?_
  obtain⟨t,rfl⟩:=hv
  have I1:Inv X pins σ H { s with heap:=h',toks:=tk }:=I.turned (fun b o hb e=>kk b o (by simpa using hb) e) f0 f1 f3 f4 f5
  refine⟨_,rfl,yY (s:={ s with heap:=h',toks:=tk }) (n:="range_iterator") st' rfl rfl (by decide) ⟨.int (lo+i),H,I1,⟨t,?_⟩,⟨rfl,rfl⟩,st',fun b hb=>(hf b hb).1⟩⟩
  rw[Int.mul_one]
 done:=by
  intro X hP hw hK hc i pins s σ H E I hf st hg
  subst hP hw hK
  obtain⟨f0,f1,f2,f3,f4,f5⟩:=hf it (by simp)
  exact wpAny_pyNext_range_end (I.ok.hd hc) st (by have:n≤i:=hg; omega) fun h' eb=>⟨rfl,I.turned (t':=s.toks) (fun b o hb e=>eb b o hb e) f0 f1 f3 f4 f5⟩
 self:=fun _ _ _ _ _ st h=>wpAny_pyIter_rangeiter st h
section
variable {X:Cx}
def Ew (K:aH)(tl:TE):TI:=fun σ H R=>tl σ H fun x H1=>∃ a,x = .ref a/\(∃ xs,SqL K H1 a xs)/\R (GA K a) H1
def Dj (K:aH)(tl:TE):TI:=fun σ H R=>tl σ H fun x H1=>∃ a,x = .ref a/\(∃ xs,SqT K H1 a xs)/\R (FY K a) H1
theorem Kw {l:aS}{tl:TE}(hl:PE X l tl):PI X tg l (Ew X.K tl):=by
 intro pins s σ H R I h
 refine thn (hl pins s σ H _ I h) fun v s1 gh=>?_
 obtain⟨x,H1,I1,r1,q1⟩:=gh
 obtain⟨a,e,⟨xs,hq⟩,q⟩:=q1
 subst e
 cases r1
 obtain⟨its,rv,p,hz⟩:=I1.list hq
 refine EH p.isList ?_
 refine⟨s1.heap.objs.size,[s1.heap.objs.size],_,_,H1,rfl,I1.kept (t':=s1.toks) fun b o e=>cJ _ e,Mq a _,⟨_,eM _ rfl,rfl,rfl⟩,fun b hb=>?_,q⟩
 have e:b=s1.heap.objs.size:=by simpa using hb
 subst e
 exact I1.fpOk (bP _) (I1.hok.fresh (bP _))
theorem Fv {l:aS}{tl:TE}(hl:PE X l tl):PI X tg l (Dj X.K tl):=by
 intro pins s σ H R I h
 refine thn (hl pins s σ H _ I h) fun v s1 gh=>?_
 obtain⟨x,H1,I1,r1,q1⟩:=gh
 obtain⟨a,e,⟨xs,hq⟩,q⟩:=q1
 subst e
 cases r1
 obtain⟨its,rv,p,hz⟩:=I1.tuple hq
 refine wpAny_pyIter_tuple (show s1.heap.IsTuple a its.toArray from p) ?_
 refine⟨s1.heap.objs.size,[s1.heap.objs.size],_,_,H1,rfl,I1.kept (t':=s1.toks) fun b o e=>cJ _ e,Pe a _,⟨_,eM _ rfl,rfl,rfl⟩,fun b hb=>?_,q⟩
 have e:b=s1.heap.objs.size:=by simpa using hb
 subst e
 exact I1.fpOk (bP _) (I1.hok.fresh (bP _))
theorem Ub{σ:St}{H:Hp}{R:It->Hp->Prop}{lo hi:Int}{t u v:Tok}{tk:Nat}(I:Inv X pins σ H s)(h1 : -(2 ^ 62)≤lo)(h2:lo<2 ^ 62)(h3 : -(2 ^ 62)≤hi)(h4:hi<2 ^ 62)
  (q:R (zW lo (hi - lo).toNat) H):aO (aQ X.prog X.w) X.A (qQ (.ref s.heap.objs.size)) (PIE X pins σ tg R) E { s with heap:=s.heap.push { cls:=.type "range",data:=.fields #[.int lo t,.int hi u,.int 1 v] },toks:=tk }:=by
 refine wpAny_pyIter_range (IsRange.new ..) (small_one h1 h2 h3 h4) ?_
 have I1:Inv X pins σ H { s with heap:=s.heap.push { cls:=.type "range",data:=.fields #[.int lo t,.int hi u,.int 1 v] },toks:=tk }:=I.kept fun b o e=>cJ _ e
 refine⟨(s.heap.push { cls:=.type "range",data:=.fields #[.int lo t,.int hi u,.int 1 v] }).objs.size,[(s.heap.push { cls:=.type "range",data:=.fields #[.int lo t,.int hi u,.int 1 v] }).objs.size],_,_,H,rfl,
  I1.kept (t':=tk) fun b o e=>cJ _ e,Oc _ lo (hi - lo).toNat,?_,fun b hb=>?_,q⟩
 ·have e1:lo+((0:Nat):Int)*1=lo:=by simp
  have e2:(((hi - lo).toNat:Nat):Int) - ((0:Nat):Int)=Builtin.Range.rangeSize lo hi 1:=by rw[rangeSize_one]; split <;> omega
  show IsRangeIter _ _ (lo+((0:Nat):Int)*1) ((((hi - lo).toNat:Nat):Int) - ((0:Nat):Int)) 1
  rw[e1,e2]
  exact eM _ rfl
 ·have e:b=(s.heap.push { cls:=.type "range",data:=.fields #[.int lo t,.int hi u,.int 1 v] }).objs.size:=by simpa using hb
  subst e
  exact I1.fpOk (bP _) (I1.hok.fresh (bP _))
def Ff (ta:TA):TI:=fun σ H R=>ta σ H fun vs H1=>∃ j:Int,vs=[.int j] /\ -(2 ^ 62)≤j/\j<2 ^ 62/\R (zW 0 j.toNat) H1
theorem Nc {a:aS}{ta:TA}(hg:Gl X "range")(hm:X.mg "range" = none)(ha:PA X [a] ta)(hs:bE [a] X.env=[(false,bH a X.env)]:=by rfl):PI X tg (.Call (.Name "range" p) [a] [] pos) (Ff ta):=by
 intro pins s σ H R I h
 refine Call_ (AM I hg hm boot_range (Xu (thn (ha pos pins s σ H _ I h) fun us s1 ⟨vs,H1,I1,r1,q1⟩=>?_) hs rfl))
 obtain⟨j,e,q1,q2,q⟩:=q1
 subst e
 cases r1 with
 | cons r rr=>
  cases rr
  obtain⟨t,rfl⟩:=r
  exact call_range_1 (Ub I1 (by omega) (by omega) q1 q2 (by simpa using q))
def Dg (wi:TI)(g:TG)(tb:TS):TS:=fun D σ H=>wi σ H fun J H1=>∃ W:Nat->Nat->St->Hp->Prop,(∃ m,W 0 m σ H1) /\ ∀ i m σ H,W i m σ H ->
 (J.stop i H/\D.nx σ H) \/ (J.go i H /\ ∃ N:St->Hp->Prop,(∀ σ' H',N σ' H' -> ∃ m',m'<m/\W (i+1) m' σ' H') /\ ∀ x H',J.yld i H x H'->g x σ H' fun σ2 H2=>tb { D with nx:=N,ct:=N,bk:=D.nx } σ2 H2)
def xC (fp:List aB)(h:aP):List (aB×aW):=fp.filterMap fun b=>(h.get? b).map fun o=>(b,o)
theorem CV{b:aB}(hb:b∈fp)(e:h.get? b=some o):(b,o)∈xC fp h:=NG.mpr ⟨b,hb,by rw[e]; rfl⟩
theorem Xl{p:aB×aW}(hp:p∈xC fp h):p.1∈fp/\h.get? p.1=some p.2:=by
 obtain⟨b,hb,e⟩:=NG.mp hp
 cases q:h.get? b with
 | none=>rw[q] at e; cases e
 | some o=>
  rw[q] at e
  have e':(b,o)=p:=dZ e
  subst e'
  exact⟨hb,q⟩
theorem Inv.pinned{σ:St}{H:Hp}(I:Inv X pins σ H s)(hf : ∀ b∈fp,jR X pins H b)(ho : ∀ b∈fp,∃ o,s.heap.get? b=some o /\ ∀ v,o.data ≠ .cell v):Inv X (pins++xC fp s.heap) σ H s:=
 I.pins_of fun p hp=>(iO.mp hp).elim (fun z=>I.pin p (lU _ z)) fun z=>by
  obtain⟨hb,e⟩:=Xl z
  obtain⟨f0,f1,f2,_⟩:=hf p.1 hb
  obtain⟨o,e',d⟩:=ho p.1 hb
  rw[e] at e'; cases e'
  exact⟨e,f0,f1,f2,d⟩
theorem Inv.unpinned {pl:List (aB×aW)}{σ:St}{H:Hp}(I:Inv X (pins++pl) σ H s):Inv X pins σ H s:=I.pins_of fun p hp=>I.pin p (lU _ (NH _ hp))
theorem YN {iter:aS}{body:List bW}{wi:TI}{g:TG}{tb:TS}(hp:PassesOwn (aQ X.prog X.w) X.A X.env X.xe)(hc:X.calm=true)(hi:PI X tg iter wi)(hg:PG X tg g)(hb:PSs X body tb)
  (hs : ∀ x,sW iter X.env x=pure x:=by intro _; rfl):PS X (.For tg iter body [] pos) (Dg wi g tb):=by
 intro pins s σ H D I h
 refine wpAny_For (thn (hi pins s σ H _ I h) fun v s1 h1=>thn h1 fun itv s2 h2=>?_) hs
 obtain⟨it,fp,tn,J,H2,e,I2,T,st2,f2,W,⟨m0,w0⟩,turn⟩:=h2
 subst e
 have stat : ∀ {H':Hp},(∀ b∈fp,H' b=none) -> ∀ b∈fp,jR X pins H' b:=fun hn b hb=>⟨hn b hb,(f2 b hb).2⟩
 refine codeAny_forLoop_any (fun n s'=>∃ i σ' H',Inv X pins σ' H' s'/\tn i s'.heap/\(∀ b∈fp,H' b=none)/\W i n σ' H') ?_ m0 ⟨0,σ,H2,I2,st2,fun b hb=>(f2 b hb).1,w0⟩
 rintro n s3 ⟨i,σ3,H3,I3,st3,fr3,w3⟩
 rcases turn i n σ3 H3 w3 with⟨stop,qn⟩ | ⟨go,N,hN,step⟩
 ·refine EI hp (thn (T.done X rfl rfl rfl hc i pins s3 σ3 H3 X.xe I3 (stat fr3) st3 stop) fun r s4 gh=>?_)
  obtain⟨hr,I4⟩:=gh
  subst hr
  exact wpAny_execs_nil ⟨σ3,H3,I4,qn⟩
 ·refine EI hp (thn (T.item X rfl rfl rfl hc i pins s3 σ3 H3 X.xe I3 (stat fr3) st3 go) fun r s4 gh=>?_)
  obtain⟨u,hr,h4⟩:=gh
  subst hr
  refine EI hp (thn h4 fun _ s5 gh=>?_)
  obtain⟨x,H5,I5,r5,y5,st5,fr5⟩:=gh
  have I5':=I5.pinned (stat fr5) (T.obj _ _ st5)
  refine EI hp (thn (hg _ s5 σ3 H5 x u _ I5' r5 (step x H5 y5)) fun _ s6 gh=>?_)
  obtain⟨σ6,H6,I6,q6⟩:=gh
  refine EI hp (thn (hb _ s6 σ6 H6 _ I6 q6) fun f s7 q7=>?_)
  have again : ∀ {σ7:St} {H7:Hp},Inv X (pins++xC fp s5.heap) σ7 H7 s7->N σ7 H7 -> ∃ m,m<n /\ ∃ i σ' H',Inv X pins σ' H' s7/\tn i s7.heap/\(∀ b∈fp,H' b=none)/\W i m σ' H':=fun {σ7 H7} I7 n7=>by
   obtain⟨m',hm,w7⟩:=hN σ7 H7 n7
   refine⟨m',hm,i+1,σ7,H7,I7.unpinned,T.keep _ _ _ st5 fun b hb o e=>(I7.pin (b,o) (lU _ (lU _ (CV hb e)))).1,fun b hb=>?_,w7⟩
   obtain⟨o,e,d⟩:=T.obj _ _ st5 b hb
   exact(I7.pin (b,o) (lU _ (lU _ (CV hb e)))).2.1
  cases f with
  | next=>obtain⟨σ7,H7,I7,n7⟩:=q7; exact again I7 n7
  | cont=>obtain⟨σ7,H7,I7,n7⟩:=q7; exact again I7 n7
  | brk=>obtain⟨σ7,H7,I7,q7⟩:=q7; exact⟨σ7,H7,I7.unpinned,q7⟩
  | ret v=>obtain⟨x7,σ7,H7,I7,r7,q7⟩:=q7; exact⟨x7,σ7,H7,I7.unpinned,r7,q7⟩
end
abbrev R2:=V->V->Hp->VK->Prop
def OpR (X:Cx)(f:aE->aE->Sem aE)(r:R2):Prop:=
 ∀ (pins:List (aB×aW)) (s:aG) (σ:St) (H:Hp) (x y:V) (v u:aE) (Q:VK),Inv X pins σ H s->RelV x v->RelV y u->r x y H Q ->
  aO (aQ X.prog X.w) X.A (f v u) (EP X pins σ Q) X.xe s
def Adg (X:Cx)(f:aE)(r:List V->Hp->VK->Prop):Prop:=
 ∀ (pins:List (aB×aW)) (s:aG) (σ:St) (H:Hp) (xs:List V) (us:List aE) (Q:VK),Inv X pins σ H s->Vals xs us->r xs H Q ->
  aO (aQ X.prog X.w) X.A (call f us) (EP X pins σ Q) X.xe s
def tOp (r:R2)(ta tb:TE):TE:=fun σ H Q=>ta σ H fun x H1=>tb σ H1 fun y H2=>r x y H2 Q
def rI (C:Int->Int->Prop)(g:Int->Int->V):R2:=fun x y H Q=>∃ i j,x = .int i/\y = .int j/\C i j/\Q (g i j) H
def rI0 (g:Int->Int->V):R2:=fun x y H Q=>∃ i j,x = .int i/\y = .int j/\Q (g i j) H
section
variable {X:Cx}{a b:aS}{ta tb tc:TE}
theorem GK (ha:PE X a ta)(hb:PE X b tb){σ:St}{H:Hp}{R:V->V->Hp->Prop}(I:Inv X pins σ H s)
  (h:ta σ H fun x H1=>tb σ H1 fun y H2=>R x y H2) {Q:aE->aG->Prop} {f:aE->aE->Sem aE}
  (hf : ∀ v u s2 x y H2,Inv X pins σ H2 s2->RelV x v->RelV y u->R x y H2->aO (aQ X.prog X.w) X.A (f v u) Q X.xe s2) :
  aO (aQ X.prog X.w) X.A (bH a X.env) (fun v s₁=>aO (aQ X.prog X.w) X.A (bH b X.env) (fun u s₂=>aO (aQ X.prog X.w) X.A (f v u) Q X.xe s₂) X.xe s₁) X.xe s:=by
 refine thn (ha pins s σ H _ I h) fun v s1 gh=>?_
 obtain⟨x,H1,I1,r1,q1⟩:=gh
 refine thn (hb pins s1 σ H1 _ I1 q1) fun u s2 gh=>?_
 obtain⟨y,H2,I2,r2,q2⟩:=gh
 exact hf v u s2 x y H2 I2 r1 r2 q2
theorem Ed {op:Operator}{r:R2}(ho:OpR X (kH op) r)(ha:PE X a ta)(hb:PE X b tb):PE X (.BinOp a op b pos) (tOp r ta tb):=by
 intro pins s σ H Q I h
 exact wpAny_BinOp (GK ha hb I h fun v u s2 x y H2 I2 rx ry q=>ho pins s2 σ H2 x y v u Q I2 rx ry q)
theorem opI {f:aE->aE->Sem aE}{C:Int->Int->Prop}{g:Int->Int->Int}
  (rule : ∀ (i j:Int) (t u:Tok) (s:aG) (Q:aE->aG->Prop) (E:aE->aG->Prop),C i j->Q (.int (g i j) s.toks) { s with toks:=s.toks+1 }->aO (aQ X.prog X.w) X.A (f (.int i t) (.int j u)) Q E s) :
  OpR X f (rI C fun i j=>.int (g i j)):=by
 intro pins s σ H x y v u Q I rx ry h
 obtain⟨i,j,rfl,rfl,hc,q⟩:=h
 obtain⟨t,rfl⟩:=rx
 obtain⟨t',rfl⟩:=ry
 exact rule i j t t' s _ _ hc ⟨.int (g i j),H,I.tok _,⟨_,rfl⟩,q⟩
theorem OA {f:aE->aE->Sem aE}{g:Int->Int->Int}
  (rule : ∀ (i j:Int) (t u:Tok) (s:aG) (Q:aE->aG->Prop) (E:aE->aG->Prop),Q (.int (g i j) s.toks) { s with toks:=s.toks+1 }->aO (aQ X.prog X.w) X.A (f (.int i t) (.int j u)) Q E s) :
  OpR X f (rI0 fun i j=>.int (g i j)):=by
 intro pins s σ H x y v u Q I rx ry h
 obtain⟨i,j,rfl,rfl,q⟩:=h
 obtain⟨t,rfl⟩:=rx
 obtain⟨t',rfl⟩:=ry
 exact rule i j t t' s _ _ ⟨.int (g i j),H,I.tok _,⟨_,rfl⟩,q⟩
theorem zY {f:aE->aE->Sem aE}{g:Int->Int->Bool}
  (rule : ∀ (i j:Int) (t u:Tok) (s:aG) (Q:aE->aG->Prop) (E:aE->aG->Prop),Q (.bool (g i j)) s->aO (aQ X.prog X.w) X.A (f (.int i t) (.int j u)) Q E s) :
  OpR X f (rI0 fun i j=>.bl (g i j)):=by
 intro pins s σ H x y v u Q I rx ry h
 obtain⟨i,j,rfl,rfl,q⟩:=h
 obtain⟨t,rfl⟩:=rx
 obtain⟨t',rfl⟩:=ry
 exact rule i j t t' s _ _ ⟨.bl (g i j),H,I,rfl,q⟩
def Dv (i j:Int):Prop:=0<j/\j<1073741824
def Dy (i j:Int):Prop:=0≤j/\j≤1000000/\i.natAbs<2 ^ 64
def Bhe (i j:Int):Prop:=(-(2 ^ 64)<i/\i<2 ^ 64) \/ (-(2 ^ 64)<j/\j<2 ^ 64)
theorem Bhe.ok {i j:Int}(h:Bhe i j):IntMulOk i j:=by
 rcases h with⟨h1,h2⟩ | ⟨h1,h2⟩
 ·exact .of_left (intBits_le_64 h1 h2)
 ·exact .of_right (intBits_le_64 h1 h2)
theorem Bd6:OpR X (kH .Add) (rI0 fun i j=>.int (i+j)):=OA fun _ _ _ _ _ _ _ q=>add_int q
theorem Hi:OpR X (kH .Sub) (rI0 fun i j=>.int (i - j)):=OA fun _ _ _ _ _ _ _ q=>sub_int q
theorem Gg:OpR X (kH .Mult) (rI Bhe fun i j=>.int (i*j)):=opI fun _ _ _ _ _ _ _ hc q=>mul_int q hc.ok
theorem Ke:OpR X (kH .FloorDiv) (rI Dv fun i j=>.int (i / j)):=opI fun i j _ _ _ _ _ hc q=>by
 have h1:(0:Int)<j:=hc.1
 have h2:j<1073741824:=hc.2
 exact floordiv_int (by omega) (by rw[Int.fdiv_eq_ediv_of_nonneg i (by omega)]; exact q) (.inl (PyProof.noPylong_small (by omega)))
theorem Gw:OpR X (kH .Mod) (rI (fun _ j=>0<j) fun i j=>.int (i%j)):=opI fun i j _ _ _ _ _ hc q=>by
 have h1:(0:Int)<j:=hc
 exact mod_int' (by omega) (by rw[Int.fmod_eq_emod_of_nonneg i (by omega)]; exact q)
theorem Gp:OpR X (kH .Pow) (rI Dy fun i j=>.int (i ^ j.toNat)):=opI fun _ _ _ _ _ _ _ hc q=>pow_int_small hc.1 hc.2.1 hc.2.2 q
end
section
variable {X:Cx}{a b:aS}{ta tb tc:TE}
theorem HG{σ:St}{H:Hp}{Q:VK}{k k':Bool}(I:Inv X pins σ H s)(q:Q (.bl k) H)(e:k=k'):EP X pins σ Q (.bool k') s:=by
 subst e
 exact⟨.bl k,H,I,rfl,q⟩
theorem A7g:OpR X (fH .Lt) (rI0 fun i j=>.bl (decide (i<j))):=zY fun _ _ _ _ _ _ _ q=>lt_int q
theorem Atf:OpR X (fH .LtE) (rI0 fun i j=>.bl (decide (i≤j))):=zY fun _ _ _ _ _ _ _ q=>le_int q
theorem tU:OpR X (fH .Gt) (rI0 fun i j=>.bl (decide (j<i))):=zY fun _ _ _ _ _ _ _ q=>gt_int q
theorem PC:OpR X (fH .GtE) (rI0 fun i j=>.bl (decide (j≤i))):=zY fun _ _ _ _ _ _ _ q=>ge_int q
theorem CH:OpR X (fH .Lt) (fun x y H Q=>∃ i j,x = .str i/\y = .str j/\Q (.bl (decide (i.cps.toList<j.cps.toList))) H):=by
 intro pins s σ H x y v u Q I rx ry h
 obtain⟨i,j,rfl,rfl,q⟩:=h
 obtain⟨t,rfl⟩:=rx
 obtain⟨t',rfl⟩:=ry
 exact lt_str (HG I q rfl)
theorem Xm:OpR X (fH .In) (fun x y H Q=>∃ i j,x = .str i/\y = .str j/\Q (.bl (!(tJ j i 0 j.length 1).isEmpty)) H):=by
 intro pins s σ H x y v u Q I rx ry h
 obtain⟨i,j,rfl,rfl,q⟩:=h
 obtain⟨t,rfl⟩:=rx
 obtain⟨t',rfl⟩:=ry
 exact in_str (HG I q rfl)
theorem OpR.or {f:aE->aE->Sem aE}{r r':R2}(h:OpR X f r)(h':OpR X f r'):OpR X f (fun x y H Q=>r x y H Q \/ r' x y H Q):=by
 intro pins s σ H x y v u Q I rx ry q
 rcases q with q | q
 ·exact h pins s σ H x y v u Q I rx ry q
 ·exact h' pins s σ H x y v u Q I rx ry q
theorem fU (b:aS)(h:op ≠ .In:=by decide)(h2:op ≠ .NotIn:=by decide):zD op b=false:=by
 have e1:(op == CmpOp.In)=false:=by cases op <;> first | rfl | exact absurd rfl h
 have e2:(op == CmpOp.NotIn)=false:=by cases op <;> first | rfl | exact absurd rfl h2
 cases b <;> simp[zD,e1,e2]
theorem Lo{r:R2}(ho:OpR X (fH op) r)(ha:PE X a ta)(hb:PE X b tb)(hm:zD op b=false):PE X (.Compare a [op] [b] pos) (tOp r ta tb):=by
 intro pins s σ H Q I h
 exact wpAny_Compare1 (GK ha hb I h fun v u s2 x y H2 I2 rx ry q=>ho pins s2 σ H2 x y v u Q I2 rx ry q) hm
def PJ (t:TE):TT:=fun σ H Q=>t σ H fun x H'=>∃ k,x = .bl k/\Q k H'
theorem Kx{r:R2}(ho:OpR X (fH op) r)(ha:PE X a ta)(hb:PE X b tb)(hm:zD op b=false):PT X (.Compare a [op] [b] pos) (PJ (tOp r ta tb)):=by
 intro pins s σ H Q I h
 refine wpAny_isTrue_Compare1 (thn (ha pins s σ H _ I h) fun v s1 ⟨x,H1,I1,r1,q1⟩=>thn (hb pins s1 σ H1 _ I1 q1) fun u s2 ⟨y,H2,I2,r2,q2⟩=>
  thn (ho pins s2 σ H2 x y v u _ I2 r1 r2 q2) fun c s3 ⟨z,H3,I3,r3,k,e,q3⟩=>?_) hm
 subst e
 cases r3
 exact sT ⟨H3,I3,q3⟩
def LX (r r':R2)(ta tb tc:TE):TE:=fun σ H Q=>ta σ H fun x H1=>tb σ H1 fun y H2=>r x y H2 fun z H3=>∃ k,z = .bl k /\
 (if k=true then tc σ H3 fun w' H4=>r' y w' H4 Q else Q (.bl false) H3)
theorem Tt {op':CmpOp}{r r':R2}(ho:OpR X (fH op) r)(ho':OpR X (fH op') r')(ha:PE X a ta)(hb:PE X b tb)(hc:PE X c tc)
  (hm:lastMarks [op,op'] [b,c]=false:=by with_unfolding_all rfl):PE X (.Compare a [op,op'] [b,c] pos) (LX r r' ta tb tc):=by
 intro pins s σ H Q I h
 refine Compare_chain (thn (ha pins s σ H _ I h) fun v s1 ⟨x,H1,I1,r1,q1⟩=>chain_link (thn (hb pins s1 σ H1 _ I1 q1) fun u s2 ⟨y,H2,I2,r2,q2⟩=>
  thn (ho pins s2 σ H2 x y v u _ I2 r1 r2 q2) fun d s3 ⟨z,H3,I3,r3,k,e,q3⟩=>?_)) hm
 subst e
 cases r3
 refine sT ?_
 cases k with
 | false=>exact ite_ff ⟨.bl false,H3,I3,rfl,q3⟩
 | true=>exact ite_tt (chain_last (thn (hc pins s3 σ H3 _ I3 q3) fun w' s4 ⟨z',H4,I4,r4,q4⟩=>ho' pins s4 σ H4 y z' u w' Q I4 r2 r4 q4))
theorem Va {op':CmpOp}{r r':R2}(ho:OpR X (fH op) r)(ho':OpR X (fH op') r')(ha:PE X a ta)(hb:PE X b tb)(hc:PE X c tc)
  (hm:lastMarks [op,op'] [b,c]=false:=by with_unfolding_all rfl):PT X (.Compare a [op,op'] [b,c] pos) (PJ (LX r r' ta tb tc)):=by
 intro pins s σ H Q I h
 refine isTrue_chain (thn (ha pins s σ H _ I h) fun v s1 ⟨x,H1,I1,r1,q1⟩=>test_link (thn (hb pins s1 σ H1 _ I1 q1) fun u s2 ⟨y,H2,I2,r2,q2⟩=>
  thn (ho pins s2 σ H2 x y v u _ I2 r1 r2 q2) fun d s3 ⟨z,H3,I3,r3,k,e,q3⟩=>?_)) hm
 subst e
 cases r3
 refine sT ?_
 cases k with
 | false=>
  obtain⟨k',e',q'⟩:=q3
  cases e'
  exact ite_ff ⟨H3,I3,q'⟩
 | true=>
  refine ite_tt (test_last (thn (hc pins s3 σ H3 _ I3 q3) fun w' s4 ⟨z',H4,I4,r4,q4⟩=>thn (ho' pins s4 σ H4 y z' u w' _ I4 r2 r4 q4) fun d' s5 gh=>?_))
  obtain⟨z2,H5,I5,r5,k2,e2,q5⟩:=gh
  subst e2
  cases r5
  exact sT ⟨H5,I5,q5⟩
theorem uK:(sizeLine:Nat)<2 ^ 63:=by rw[nL]; decide
theorem Axp:OpR X (kH .Add) (fun x y H Q=>∃ i j,x = .str i/\y = .str j/\i.length+j.length≤sizeLine/\Q (.str (i++j)) H):=by
 intro pins s σ H x y v u Q I rx ry h
 obtain⟨i,j,rfl,rfl,hz,q⟩:=h
 obtain⟨t,rfl⟩:=rx
 obtain⟨t',rfl⟩:=ry
 exact add_str (fun t' tk=>⟨.str (i++j),H,I.tok _,⟨_,rfl⟩,q⟩) hz
theorem vals1 {x:V}(r:Vals [x] us) : ∃ u,us=[u]/\RelV x u:=by
 cases r with
 | cons r1 r2=>cases r2; exact⟨_,rfl,r1⟩
theorem vals2 {x y:V}(r:Vals [x,y] us) : ∃ u w',us=[u,w']/\RelV x u/\RelV y w':=by
 cases r with
 | cons r1 r2=>
  cases r2 with
  | cons r3 r4=>cases r4; exact⟨_,_,rfl,r1,r3⟩
theorem Tn:Adg X (.builtin "abs") (fun xs H Q=>∃ i,xs=[.int i]/\Q (.int (if i<0 then -i else i)) H):=by
 intro pins s σ H xs us Q I r h
 obtain⟨i,rfl,q⟩:=h
 obtain⟨u,rfl,t,rfl⟩:=vals1 r
 exact call_abs_int fun u tk=>⟨.int (if i<0 then -i else i),H,I.tok _,⟨_,rfl⟩,q⟩
theorem Nj:Adg X (.type "int") (fun xs H Q=>(∃ i,xs=[.int i]/\Q (.int i) H) \/ ∃ k,xs=[.bl k]/\Q (.int (if k then 1 else 0)) H):=by
 intro pins s σ H xs us Q I r h
 rcases h with⟨i,rfl,q⟩ | ⟨k,rfl,q⟩
 ·obtain⟨u,rfl,t,rfl⟩:=vals1 r
  exact call_int_int ⟨.int i,H,I,⟨_,rfl⟩,q⟩
 ·obtain⟨u,rfl,r1⟩:=vals1 r
  cases r1
  exact call_int_bool ⟨.int (if k then 1 else 0),H,I.tok _,⟨_,rfl⟩,q⟩
end
structure ObjM (h:aP)(x dx C:aB)(mA:aD->Option aE):Prop where
 obj:h.get? x=some (pD C dx)
 ns:h.Ns1 dx mA
 ne:dx≠x
theorem Wr(n:h.Ns1 dx mA) : ∃ od,h.get? dx=some od /\ ∀ name,MQ name od=some (mA name):=by
 obtain⟨o,es,ep,ho,hd,hk,_,hm⟩:=n
 refine⟨o,ho,fun name=>?_⟩
 have e:=hm name
 unfold nsFind findBy at e
 rw[← Array.find?_toList] at e
 unfold MQ
 rw[hd]
 dsimp only
 split
 ·rename_i y q
  rw[q] at e
  exact congrArg some e
 ·rename_i q
  rw[q] at e
  have a:es.toList.any (·.refKey)=false:=by
   rw[List.any_eq_false]
   intro y hy
   obtain⟨z,t,hkey⟩:=hk y (Array.mem_toList_iff.mp hy)
   simp[DictEntry.refKey,hkey]
  have a' : ¬ es.toList.any (·.refKey)=true:=by rw[a]; exact rA
  rw[if_neg a']
  exact congrArg some e
theorem ObjM.look{x:aB}(I:ObjM h x dx C mA) : ∃ od,PySem.W.InstAt h x (pD C dx) C (some od) /\ ∀ name,MQ name od=some (mA name):=
 let ⟨od,ho,hl⟩:=Wr I.ns
 ⟨od,⟨I.obj,rfl,rfl,ho⟩,hl⟩
section
variable {w:aU}{x:aB}{name:aD}{v:aE}
theorem get_map {expr:Bool}(X:K.In s.heap)(I:ObjM s.heap x dx C mA)(hg:EY K C name=true)(hh:MT K C=true)
  (ha:lA K (.ref C) name=some none) (hv:mA name=some v) (hv':PySem.W.handedIn v=true) (h:Q v { s with toks:=s.toks+1 }) :
  aO (aQ prog w) A (getAttr (.ref x) name expr) Q E s:=by
 obtain⟨od,J,hl⟩:=I.look
 exact PySem.W.get_value X J (Bd hg).1 (PySem.W.findObj_own hh ha rfl (by rw[hl,hv])) hv' h
theorem Ta {pl:Sem Bool}{Q:aE×List aE->aG->Prop}(X:K.In s.heap)(I:ObjM s.heap x dx C mA)(hg:EY K C name=true)
  (hf:lA K (.ref C) name=some (some (.ref f))) (ht:MR K (.ref f)=true) (hv:mA name=none) (h:Q (.ref f,[.ref x]) s) :
  aO (aQ prog w) A (ET (.ref x) name pl) Q E s:=by
 obtain⟨od,J,hl⟩:=I.look
 exact PySem.W.method_fn X J (Bd hg).1 (Bd hg).2 hf (beq_iff_eq.mp ht) (by show(MQ name od).map (·.isSome)=some false; rw[hl,hv]; rfl) h
theorem Jp {ns:List aD}{Q:Unit->aG->Prop}(X:K.In s.heap)(I:ObjM s.heap x dx C mA)
  (hs:lA K (.ref C) "__setattr__" = some (some (.builtin "object.__setattr__"))) (hp:Bc K C=true) (ht:Bb K C name=some none) (hh:MT K C=true)
  (hw:PySem.Within mA ns) (hsz:ns.length≤sizeLine)
  (h : ∀ h',ObjM h' x dx C (fun y=>if y=name then some v else mA y)->mP dx s.heap h'->Q () { s with heap:=h',toks:=s.toks+2 }) :
  aO (aQ prog w) A (setAttr (.ref x) name v) Q E s:=by
 obtain⟨od,J,hl⟩:=I.look
 refine PySem.W.set_plain X J hs (PySem.W.osa_open (s:={ s with toks:=s.toks+1 }) (r:=none) X J hp ht fun b=>?_)
 obtain⟨cd,hc,hd'⟩:=PySem.W.any_some hh
 have hx:s.heap.get? x=some ⟨.ref C,some dx,.plain,#[]⟩:=I.obj
 refine aJ (aT (aJ (aJ (wpAny_loadPart hx (aJ (PySem.W.Looks.here (s:={ s with toks:=s.toks+1 }) (PySem.W.looks_clsIn X hc) ?_))))))
 rw[hd']
 refine aT (a:=some dx) (aJ (aT (aJ ?_)))
 refine wpAny_nsSet1 (s:={ s with toks:=s.toks+1 }) I.ns fun h' hn2 hs2=>?_
 obtain⟨oD,esD,epD,hoD,hdD,hcD⟩:=hn2.count (PySem.Within.cons name v hw)
 refine aJ (wpAny_lookBehind hoD (by rw[hdD]; exact pastItsLine_dict (iA hcD (by rw[eD]; omega))) ?_)
 exact aT (h _ ⟨(hs2.2 _ (lR I.ne)).trans I.obj,hn2,I.ne⟩ hs2)
theorem Ti {R:qS->aG->Prop}{vs:List aE}(X:K.In s.heap)(hm:Bh K C=true)
  (hi:lA K (.ref C) "__init__" = some (some (.ref f))) (hf:PySem.W.typeIn K (.ref f)=some (.type "function"))
  (h:kX (aQ prog w) (A.under (.builtin "type.__call__" ⟨.ref C::vs,kw⟩)) (.call (.ref f) ⟨.ref (s.heap.objs.size+1)::vs,kw⟩) (PySem.W.InitBack (s.heap.objs.size+1) R)
   { s with heap:=(s.heap.push nR).push (pD C s.heap.objs.size) }) :
  kX (aQ prog w) A (.call (.ref C) ⟨vs,kw⟩) R s:=by
 obtain⟨hh,g,d,t,os⟩:=s
 exact PySem.W.make_core (PySem.W.makes_of X hm) (PySem.W.looks_findIn X hi) (fun self=>PySem.W.bind_fn X self hf) (.inl rfl) h
end
def iE (f:aD)(v:V):List (aD×V)->List (aD×V)
 | []=>[(f,v)]
 | (g,x)::r=>if g=f then(g,v)::r else(g,x)::iE f v r
theorem WS (f g:aD)(v:V) : ∀ fs:List (aD×V),(iE f v fs).lookup g=if g=f then some v else fs.lookup g
 | []=>by
  show jN g [(f,v)]=_
  by_cases h:g=f
  ·have hb:(g == f)=true:=beq_iff_eq.mpr h
   simp only[jN,hb,if_pos h]
  ·have hb:(g == f)=false:=beq_eq_false_iff_ne.mpr h
   simp only[jN,hb,if_neg h]
 | (k,x)::r=>by
  have ih:=WS f g v r
  rw[show iE f v ((k,x)::r)=(if k=f then(k,v)::r else(k,x)::iE f v r) from rfl]
  by_cases hk:k=f
  ·rw[if_pos hk]
   by_cases h:g=k
   ·have hb:(g == k)=true:=beq_iff_eq.mpr h
    simp only[jN,hb,if_pos (h.trans hk)]
   ·have hb:(g == k)=false:=beq_eq_false_iff_ne.mpr h
    simp only[jN,hb,if_neg (fun e:g=f=>h (e.trans hk.symm))]
  ·rw[if_neg hk]
   by_cases h:g=k
   ·have hb:(g == k)=true:=beq_iff_eq.mpr h
    simp only[jN,hb,if_neg (fun e:g=f=>hk (h.symm.trans e))]
   ·have hb:(g == k)=false:=beq_eq_false_iff_ne.mpr h
    simp only[jN,hb]
    exact ih
theorem JL (f:aD)(v:V) : ∀ fs:List (aD×V),f∈(iE f v fs).map (·.1) /\ ∀ g,g∈fs.map (·.1)->g∈(iE f v fs).map (·.1)
 | []=>⟨by simp[iE],fun g h=>by simp at h⟩
 | (k,x)::r=>by
  obtain⟨i1,i2⟩:=JL f v r
  rw[show iE f v ((k,x)::r)=(if k=f then(k,v)::r else(k,x)::iE f v r) from rfl]
  by_cases hk:k=f
  ·rw[if_pos hk]
   subst hk
   exact⟨by simp,fun g h=>by simpa using h⟩
  ·rw[if_neg hk]
   refine⟨?_,fun g h=>?_⟩
   ·rw[dC]
    exact bJ _ i1
   ·rw[dC] at h ⊢
    rcases cI.mp h with e | e
    ·exact cI.mpr (.inl e)
    ·exact bJ _ (i2 g e)
theorem WQ (f:aD)(v:V) : ∀ fs:List (aD×V),(iE f v fs).length≤fs.length+1
 | []=>by simp[iE]
 | (k,x)::r=>by
  have ih:=WQ f v r
  rw[show iE f v ((k,x)::r)=(if k=f then(k,v)::r else(k,x)::iE f v r) from rfl]
  by_cases hk:k=f
  ·rw[if_pos hk,eD,eD]; omega
  ·rw[if_neg hk,eD,eD]; omega
theorem Ap3.some_of {v:V}{o:Option aE}(r:Ap3 (some v) o) : ∃ u,o=some u/\RelV v u:=by
 cases o with
 | none=>exact(show False from r).elim
 | some u=>exact⟨u,rfl,r⟩
theorem Ap3.none_of {o:Option aE}(r:Ap3 none o):o=none:=by
 cases o with
 | none=>rfl
 | some u=>exact(show False from r).elim
theorem Mt {v:V}(r:RelV v u):PySem.W.handedIn u=true:=by
 cases v with
 | non=>cases(show u=fA from r); rfl
 | bl b=>cases(show u=Value.bool b from r); rfl
 | int i=>obtain⟨t,e⟩:=(show ∃ t,u=EV i t from r); cases e; rfl
 | str x=>obtain⟨t,e⟩:=(show ∃ t,u=EU x t from r); cases e; rfl
 | byt b=>obtain⟨t,e⟩:=(show ∃ t,u=Value.bytes b t from r); cases e; rfl
 | flt b=>obtain⟨t,e⟩:=(show ∃ t,u=Value.float b t from r); cases e; rfl
 | ref a=>cases(show u=dD a from r); rfl
 | ty n=>cases(show u=jC n from r); rfl
section
variable {P:bB}{w:aU}{H H':Hp}{fs fs':List (aD×V)}
theorem BJ (hok:HOk P w H h)(e:H a=some (.ins C dx fs)) : ∃ mA,ObjM h a dx C mA/\(∀ f,Ap3 (fs.lookup f) (mA f))/\PySem.Within mA (fs.map (·.1))/\fs.length≤1000/\H dx=some (.own a):=by
 obtain⟨d,z,ne,ob,mA,n,r,q⟩:=(show Ach P w H h a (.ins C dx fs) from hok a _ e)
 exact⟨mA,⟨ob,n,ne⟩,r,q,z,d⟩
end
structure Cls (K:aH)(C:aB):Prop where
 pg:EY K C Str.empty=true
 hd:MT K C=true
 po:Bc K C=true
 sa:lA K (.ref C) "__setattr__" = some (some (.builtin "object.__setattr__"))
theorem Cls.get(c:Cls K C)(f:aD):EY K C f=true:=c.pg
def Akh (K:aH)(C:aB)(f:aD):Prop:=lA K (.ref C) f=some none
theorem Akh.taker{f:aD}(n:Akh K C f):Bb K C f=some none:=by
 unfold Bb
 rw[show lA K (.ref C) f=some none from n]
 rfl
structure Meth (K:aH)(C:aB)(m:aD)(f:aB):Prop where
 at_:lA K (.ref C) m=some (some (.ref f))
 fn:MR K (.ref f)=true
 kp:lQ K (.ref f)=true
section
variable {X:Cx}{σ:St}{H:Hp}{fs:List (aD×V)}{f:aD}{v:V}
theorem Oi {b:Bool}(I:Inv X pins σ H s)(e:H a=some (.ins C dx fs))(c:Cls X.K C)(n:Akh X.K C f)(l:fs.lookup f=some v)
  (h : ∀ u s',Inv X pins σ H s'->RelV v u->Q u s'):aO (aQ X.prog X.w) A (getAttr (.ref a) f b) Q E s:=by
 obtain⟨mA,O,r,_,_,_⟩:=BJ I.hok e
 obtain⟨u,hu,ru⟩:=Ap3.some_of (v:=v) (o:=mA f) (by rw[← l]; exact r f)
 exact get_map I.kIn O (c.get f) c.hd n hu (Mt ru) (h u _ (I.tok _) ru)
theorem KQ {m:aD}{g:aB}{pl:Sem Bool}{Q:aE×List aE->aG->Prop}(I:Inv X pins σ H s)(e:H a=some (.ins C dx fs))(c:Cls X.K C)(k:Meth X.K C m g)(l:fs.lookup m=none)
  (h:Q (.ref g,[.ref a]) s):aO (aQ X.prog X.w) A (ET (.ref a) m pl) Q E s:=by
 obtain⟨mA,O,r,_,_,_⟩:=BJ I.hok e
 have hn:mA m=none:=Ap3.none_of (by rw[← l]; exact r m)
 exact Ta I.kIn O (c.get m) k.at_ k.fn hn h
theorem Ol {y:V}{Q:Unit->aG->Prop}(I:Inv X pins σ H s)(e:H a=some (.ins C dx fs))(c:Cls X.K C)(n:Akh X.K C f)(hl:fs.length<1000)(ry:RelV y u)
  (h : ∀ s',Inv X pins σ (upd H a (.ins C dx (iE f y fs))) s'->Q () s'):aO (aQ X.prog X.w) A (setAttr (.ref a) f u) Q E s:=by
 obtain⟨mA,O,r,wi,_,ho⟩:=BJ I.hok e
 have hz:(fs.map (·.1)).length≤sizeLine:=by rw[bX,nL]; omega
 refine Jp I.kIn O c.sa c.po n.taker c.hd wi hz fun h' O' sb=>h _ ?_
 have hd : ∃ o,h'.get? dx=some o:=let ⟨o,_,_,e',_⟩:=O'.ns; ⟨o,e'⟩
 refine I.write (x:=a) (e:=dx) (by rw[e]; exact jU) (.inr ho) (fun b q hb z=>(sb.2 b hb).trans z) hd ?_
 refine⟨by rw[bK O.ne]; exact ho,?_,O.ne,O'.obj,_,O'.ns,fun g=>?_,fun g hg=>?_⟩
 ·have:=WQ f y fs; omega
 ·show Ap3 ((iE f y fs).lookup g) (if g=f then some u else mA g)
  rw[WS]
  by_cases q:g=f
  ·rw[if_pos q,if_pos q]; exact ry
  ·rw[if_neg q,if_neg q]; exact r g
 ·by_cases q:g=f
  ·rw[q]; exact(JL f y fs).1
  ·refine(JL f y fs).2 g (wi g fun z=>hg ?_)
   show(if g=f then some u else mA g)=none
   rw[if_neg q]; exact z
theorem Inv.made (I:Inv X pins σ H s):Inv X pins σ (upd (upd H s.heap.objs.size (.own (s.heap.objs.size+1))) (s.heap.objs.size+1) (.ins C s.heap.objs.size []))
  { s with heap:=(s.heap.push nR).push (pD C s.heap.objs.size) }:=by
 have e1:(s.heap.push nR).get? s.heap.objs.size=some nR:=eM s.heap rfl
 have e2:((s.heap.push nR).push (pD C s.heap.objs.size)).get? (s.heap.objs.size+1)=some (pD C s.heap.objs.size):=by
  have:=eM (s.heap.push nR) (o:=pD C s.heap.objs.size) rfl
  rwa [FQ] at this
 have e3:(s.heap.push nR).Ns s.heap.objs.size (fun _=>none):=⟨nR,#[],_,e1,rfl,(fun e he=>absurd he (by simp)),fun _=>rfl⟩
 have I1:=I.laid (a:=s.heap.objs.size) (o:=.own (s.heap.objs.size+1)) (h':=s.heap.push nR) (t':=s.toks) (fun b u q=>cJ _ q) (bP _) ⟨_,e1⟩
 refine I1.laid (a:=s.heap.objs.size+1) (o:=.ins C s.heap.objs.size []) (t':=s.toks) (fun b u q=>cJ _ q) (NB (FQ _ _)) ?_
 have ne:s.heap.objs.size≠s.heap.objs.size+1:=dG (Bx _)
 refine⟨by rw[bK ne,cP],eL _,ne,e2,fun _=>none,(Heap.Ns1.of_empty e3).at fun o q=>cJ _ q,fun _=>jU,fun y hy=>absurd rfl hy⟩
theorem Lv{w:aU}{env:eR}{f:aD}{s:aG}(hb:lN e f env (bH e env)=bH e env)
  (h:aO (aQ prog w) A (bH e env) (fun o s₁=>aO (aQ prog w) A (getAttr o f true) Q E s₁) E s):aO (aQ prog w) A (bH (.Attribute e f pos) env) Q E s:=
 Attribute_any_ h (by rw[arm_eval_Attribute,hb])
end
def Dz (K:aH)(ta:TE)(f:aD):TE:=fun σ H Q=>ta σ H fun x H1=>∃ a C dx fs v,x = .ref a/\H1 a=some (.ins C dx fs)/\Cls K C/\Akh K C f/\fs.lookup f=some v/\Q v H1
def Dx (K:aH)(ta tv:TE)(f:aD):TS:=fun D σ H=>tv σ H fun y H1=>ta σ H1 fun x H2=>∃ a C dx fs,x = .ref a/\H2 a=some (.ins C dx fs)/\Cls K C/\Akh K C f/\fs.length<1000 /\
 D.nx σ (upd H2 a (.ins C dx (iE f y fs)))
section
variable {X:Cx}{o:aS}{f:aD}{tpos:bQ}{ta tv:TE}
theorem uJ (he:PE X e ta)(hb:lN e f X.env (bH e X.env)=bH e X.env):PE X (.Attribute e f pos) (Dz X.K ta f):=by
 intro pins s σ H Q I h
 refine Lv hb (thn (he pins s σ H _ I h) fun u s1 gh=>?_)
 obtain⟨x,H1,I1,rx,a,C,dx,fs,v,ex,ea,c,n,l,q⟩:=gh
 subst ex
 obtain rfl:u=dD a:=rx
 exact Oi I1 ea c n l fun u' s2 I2 ru=>⟨v,H1,I2,ru,q⟩
theorem XW (ha:PE X o ta)(hv:PE X value tv)(hs:kG value (some (.Attribute o f pos')) pos.line X.env=pure false):PS X (.Assign [.Attribute o f pos'] value pos) (Dx X.K ta tv f):=by
 intro pins s σ H D I h
 refine plainObj_wpAny_Assign_Attribute (thn (hv pins s σ H _ I h) fun u s1 ⟨y,H1,I1,ry,q⟩=>thn (ha pins s1 σ H1 _ I1 q) fun ov s2 ⟨x,H2,I2,rx,a,C,dx,fs,ex,ea,c,n,l,q2⟩=>?_) hs
 subst ex
 obtain rfl:ov=dD a:=rx
 exact Ol I2 ea c n l ry fun s3 I3=>⟨σ,_,I3,q2⟩
end
section
variable {X:Cx}{σ:St}{H:Hp}{c:aE}{b:Bool}
inductive TyOf (K:aH)(H:Hp):V->aE->Prop where
 | non:TyOf K H .non (.type "NoneType")
 | bl (x:Bool):TyOf K H (.bl x) (.type "bool")
 | int (i:Int):TyOf K H (.int i) (.type "int")
 | str (x:aD):TyOf K H (.str x) (.type "str")
 | flt (x:UInt64):TyOf K H (.flt x) (.type "float")
 | lst {a:aB} {xs:List V} (e:H a=some (.lst xs)):TyOf K H (.ref a) (.type "list")
 | frz {a:aB} {o:aW} {xs:List V} (e:H a=some (.frz o (.lst xs))):TyOf K H (.ref a) (.type "list")
 | tup {a:aB} {xs:List V} (e:H a=some (.tup xs)):TyOf K H (.ref a) (.type "tuple")
 | dK {a:aB} {ep:Nat} {kvs:List (aL×V)} (e:H a=some (.dK ep kvs)):TyOf K H (.ref a) (.type "dict")
 | dT {a:aB} {ep:Nat} {kvs:List (List aA×V)} (e:H a=some (.dT ep kvs)):TyOf K H (.ref a) (.type "dict")
 | ins {a C dx:aB} {fs:List (aD×V)} (e:H a=some (.ins C dx fs)) (cl:Cls K C) (ha:lA K (.ref C) "__class__" = some (some (.builtin "object.__class__")))
   (hn:PySem.W.specialIn K (.builtin "object.__class__") "__get__" = some (some (.builtin "getset_descriptor.__get__"))) (htk:PySem.W.takesIn K (.builtin "object.__class__")=some true)
   (hm:PySem.W.mroIn K C (.type "object")=some true):TyOf K H (.ref a) (.ref C)
theorem Ms {x:V}{t:aE}(I:Inv X pins σ H s)(rx:RelV x u)(ty:TyOf X.K H x t)(e:Bl X.K t c=some b)(h : ∀ tk,Q (.bool b) { s with toks:=tk }) :
  aO (aQ X.prog X.w) A (call (.builtin "isinstance") [u,c]) Q E s:=by
 cases ty with
 | non=>cases(show u=fA from rx); exact lP PySem.W.kitx_none I.kIn jU e (fun z=>nomatch z) h
 | bl y=>cases(show u=Value.bool y from rx); exact lP PySem.W.kitx_bool I.kIn jU e (fun z=>nomatch z) h
 | int i=>obtain⟨t,q⟩:=(show ∃ t,u=EV i t from rx); cases q; exact lP PySem.W.kitx_int I.kIn jU e (fun z=>nomatch z) h
 | str y=>obtain⟨t,q⟩:=(show ∃ t,u=EU y t from rx); cases q; exact lP PySem.W.kitx_str I.kIn jU e (fun z=>nomatch z) h
 | flt y=>obtain⟨t,q⟩:=(show ∃ t,u=Value.float y t from rx); cases q; exact lP PySem.W.kitx_float I.kIn jU e (fun z=>nomatch z) h
 | @lst a xs ea=>
  cases(show u=dD a from rx)
  obtain⟨_,_,n,_,h1⟩:=(show Ach X.prog X.w H s.heap a (.lst xs) from I.hok a _ ea)
  exact lP Bi I.kIn ⟨_,h1,rfl⟩ e (fun z=>nomatch z) h
 | @frz a ob xs ea=>
  cases(show u=dD a from rx)
  obtain⟨_,_,_,n,_,h1⟩:=(show Ach X.prog X.w H s.heap a (.frz ob (.lst xs)) from I.hok a _ ea)
  exact lP Bi I.kIn ⟨_,h1,rfl⟩ e (fun z=>nomatch z) h
 | @tup a xs ea=>
  cases(show u=dD a from rx)
  obtain⟨_,_,_,p⟩:=(show Ach X.prog X.w H s.heap a (.tup xs) from I.hok a _ ea)
  obtain⟨o,h1,h2,_⟩:=p.1
  exact lP PySem.W.kitx_tuple I.kIn ⟨o,h1,h2⟩ e (fun z=>nomatch z) h
 | @dK a ep kvs ea=>
  cases(show u=dD a from rx)
  obtain⟨_,_,vs,_,p⟩:=(show Ach X.prog X.w H s.heap a (.dK ep kvs) from I.hok a _ ea)
  obtain⟨o,es,h1,h2,_⟩:=p
  exact lP Bj I.kIn ⟨o,h1,h2.1⟩ e (fun z=>nomatch z) h
 | @dT a ep kvs ea=>
  cases(show u=dD a from rx)
  obtain⟨_,_,xs,_,o,es,h1,h2,_⟩:=(show Ach X.prog X.w H s.heap a (.dT ep kvs) from I.hok a _ ea)
  exact lP Bj I.kIn ⟨o,h1,h2.1⟩ e (fun z=>nomatch z) h
 | @ins a C dx fs ea cl ha hn htk hm=>
  cases(show u=dD a from rx)
  obtain⟨mA,O,_⟩:=BJ I.hok ea
  obtain⟨od,J,_⟩:=O.look
  exact lP (PySem.W.kitx_own (cl.get _) cl.hd ha hn htk hm) I.kIn J e (fun z=>nomatch z) h
end
structure Room (k:Nat)(A:bS):Prop where
 hd:A.handled=none
 dp:A.depth+3*k+5<recursionLimit
 un:A.units+16*k+200<cLine
theorem Room.mono {j k:Nat}(r:Room k A)(h:j≤k):Room j A:=⟨r.hd,by have:=r.dp; omega,by have:=r.un; omega⟩
theorem Room.deeper {k:Nat}(r:Room (k+1) A)(env:eR):Room k (A.deeper env):=
 ⟨r.hd,by have:=r.dp; show A.depth+1+3*k+5<_; omega,by have:=r.un; show A.units+3+16*k+200<_; omega⟩
theorem Ox:(A.under (.builtin "type.__call__" ⟨.ref C::us,kw⟩)).depth=A.depth+1:=by
 first | rfl | simp[Around.under,Code.weight,Code.isCreation,Code.isGuard,Code.isCaller,Code.frames,Code.isFrame,guardIds]
theorem Nq:(A.under (.builtin "type.__call__" ⟨.ref C::us,kw⟩)).units=A.units+1:=by
 first | rfl | simp[Around.under,Code.cUnits,Code.frames,Code.isFrame]
theorem Room.make {k:Nat}(r:Room (k+1) A)(C:aB)(us:List aE)(kw:List (aD×aE)):Room k (A.under (.builtin "type.__call__" ⟨.ref C::us,kw⟩)):=
 ⟨r.hd,by have:=r.dp; rw[Ox]; omega,by have:=r.un; rw[Nq]; omega⟩
theorem Room.depth {k:Nat}(r:Room k A):A.depth<recursionLimit:=by have:=r.dp; omega
theorem Room.units {k:Nat}(r:Room k A):A.units+64<cLine:=by have:=r.un; omega
abbrev AD:TA:=fun _ H Q=>Q [] H
abbrev tZ (ta:TE)(tr:TA):TA:=fun σ H Q=>ta σ H fun x H1=>tr σ H1 fun xs H2=>Q (x::xs) H2
section
variable {X:Cx}{te:TE}{t:TA}
theorem iR:PA X [] AD:=fun _ _ _ _ H Q I h=>Calls.spliced_nil ⟨[],H,I,.nil,h⟩
theorem fV (ha:PE X e te)(hr:PA X es t)(hs:bE (e::es) X.env=(false,bH e X.env)::bE es X.env:=by rfl):PA X (e::es) (tZ te t):=by
 intro pos pins s σ H Q I h
 rw[hs]
 show aO _ _ (spliced ((false,bH e X.env)::fK pos (bE es X.env))) _ _ s
 refine Calls.spliced_cons (thn (ha pins s σ H _ I h) fun u s1 gh=>?_)
 obtain⟨x,H1,I1,r1,q1⟩:=gh
 exact thn (hr pos pins s1 σ H1 _ I1 q1) fun us s2 ⟨xs,H2,I2,r2,q2⟩=>⟨x::xs,H2,I2,.cons r1 r2,q2⟩
def De (t:TA):TE:=fun σ H Q=>t σ H fun xs H1=>xs.length≤sizeLine /\ ∀ p,H1 p=none->Q (.ref p) (upd H1 p (.tup xs))
def Ds (t:TA):TE:=fun σ H Q=>t σ H fun xs H1=>xs.length≤sizeLine /\ ∀ p,H1 p=none->Q (.ref p) (upd H1 p (.lst xs))
theorem Iq {x1}(h:PA X es t):PE X (.Tuple es x1 pos) (De t):=by
 intro pins s σ H Q I hq
 refine wpAny_Tuple_spliced (thn (h pos pins s σ H _ I hq) fun us s1 ⟨xs,H1,I1,r,z,q⟩=>⟨by rw[← r.length]; exact z,?_⟩)
 have hf:H1 s1.heap.objs.size=none:=I1.hok.fresh (bP _)
 refine⟨.ref s1.heap.objs.size,upd H1 s1.heap.objs.size (.tup xs),I1.laid (t':=s1.toks) (fun b u e=>cJ _ e) (bP _) ?_,rfl,q _ hf⟩
 exact⟨z,us,r,⟨_,eM _ rfl,rfl,_,rfl⟩,_,eM _ rfl,rfl⟩
theorem HE (h:PA X es t):PE X (.List es pos) (Ds t):=by
 intro pins s σ H Q I hq
 refine wpAny_List_spliced (thn (h pos pins s σ H _ I hq) fun us s1 ⟨xs,H1,I1,r,z,q⟩=>⟨by rw[← r.length]; exact z,?_⟩)
 have hf:H1 s1.heap.objs.size=none:=I1.hok.fresh (bP _)
 refine⟨.ref s1.heap.objs.size,upd H1 s1.heap.objs.size (.lst xs),I1.laid (t':=s1.toks) (fun b u e=>cJ _ e) (bP _) ?_,rfl,q _ hf⟩
 exact⟨z,us,0,r,eM _ rfl⟩
end
abbrev Sp:=List V->Hp->VK->XK->Prop
abbrev CXT:=List eR->Hp->aG->XK->aE->aG->Prop
structure Env0 (P:bB)(w:aU)(K:aH)(mg:aD->Option aE)(base:aP)(A:bS)(outer:List eR)(s:aG)(H:Hp):Prop where
 frames:A.frames=some outer
 mod:Mod K mg base
 bs : ∀ b o,base.get? b=some o->s.heap.get? b=some o/\H b=none
 bsz:base.objs.size≤s.heap.objs.size
 funs:s.heap.FunFrames base outer
 frf : ∀ b∈frs outer,H b=none
 hok:HOk P w H s.heap
 bare:pK s.gens
def CE (outer:List eR)(P:bB)(w:aU)(H:Hp)(s:aG)(Q:VK)(u:aE)(s':aG):Prop:=
 ∃ v H',s'.os=s.os/\pK s'.gens/\Un (frs outer) [] H H' s.heap s'.heap/\HOk P w H' s'.heap/\RelV v u/\Q v H'
def CR (CX:CXT)(outer:List eR)(P:bB)(w:aU)(H:Hp)(s:aG)(Q:VK)(E:XK)(r:qS)(s':aG):Prop:=
 match r with
 | .ok (.ret u)=>CE outer P w H s Q u s'
 | .ok _=>False
 | .error e=>CX outer H s E e s'
structure FnOk (P:bB)(w:aU)(K:aH)(mg:aD->Option aE)(base:aP)(CX:CXT)(k:Nat)(f:aB)(fd:fM)(ps:List aD)(sp:Sp):Prop where
 len : ∀ vs H Q E,sp vs H Q E->vs.length=ps.length
 run : ∀ (A:bS) (outer:List eR) (s:aG) (H:Hp) (args:Args) (us:List aE) (vs:List V) (Q:VK) (E:XK),Room k A->Env0 P w K mg base A outer s H->tK s fd args (ps.zip us)->Vals vs us->sp vs H Q E ->
  kX (aQ P w) A (.call (.ref f) args) (CR CX outer P w H s Q E) s
theorem FnOk.imp {P:bB}{w:aU}{CX:CXT}{k:Nat}{fd:fM}{sp sp':Sp}(F:FnOk P w K mg base CX k f fd ps sp)
  (h : ∀ vs H Q E,sp' vs H Q E->sp vs H Q E):FnOk P w K mg base CX k f fd ps sp':=
 ⟨fun vs H Q E q=>F.len vs H Q E (h _ _ _ _ q),fun A outer s H args us vs Q E hr he hb hv hs=>F.run A outer s H args us vs Q E hr he hb hv (h _ _ _ _ hs)⟩
theorem Env0.make {P:bB}{w:aU}{outer:List eR}{H:Hp}(e:Env0 P w K mg base A outer s H)(C:aB)(us:List aE)(kw:List (aD×aE)) :
  Env0 P w K mg base (A.under (.builtin "type.__call__" ⟨.ref C::us,kw⟩)) outer s H:=⟨by first | exact e.frames | (simpa [Around.under,Code.envs,Code.isFrame,pushEnvs] using e.frames),e.mod,e.bs,e.bsz,e.funs,e.frf,e.hok,e.bare⟩
section
variable {X:Cx}{σ:St}{H:Hp}
theorem Inv.env0 (I:Inv X pins σ H s):Env0 X.prog X.w X.K X.mg X.base X.A X.stack s H:=
 ⟨I.ok.frames,I.ok.mod,I.bs,iA I.ok.bsz I.sz,I.stack,I.stkFree,I.hok,I.bare⟩
theorem Inv.after {Q:VK}(I:Inv X pins σ H s)(h:CE X.stack X.prog X.w H s Q u s'):EP X pins σ Q u s':=by
 obtain⟨v,H',os,bare,un,hok,r,q⟩:=h
 obtain⟨hh,g,d,t,os'⟩:=s'
 obtain rfl:os'=s.os:=os
 exact⟨v,H',I.call (h':=hh) (g':=g) (d':=d) (t':=t) (ch:=[]) un hok bare (fun b z=>absurd z (by simp)),r,q⟩
end
def GS (sp:Sp)(dvs:List V)(E:XK)(t:TA):TE:=fun σ H Q=>t σ H fun vs H1=>sp (vs++dvs) H1 Q E
def GR (C:aB)(m:aD)(sp:Sp)(dvs:List V)(E:XK)(ta:TE)(t:TA):TE:=fun σ H Q=>ta σ H fun x H1=>∃ a dx fs,x = .ref a/\H1 a=some (.ins C dx fs)/\fs.lookup m=none /\
 t σ H1 fun vs H2=>sp (x::(vs++dvs)) H2 Q E
def Binds (K:aH)(fd:fM)(ps:List aD)(ds:List aE):Prop:=
 ∀ (s:aG) (us:List aE),K.In s.heap->(us++ds).length=ps.length->tK s fd ⟨us,[]⟩ (ps.zip (us++ds))
theorem Binds.all{fd:fM}(h : ∀ us:List aE,us.length=ps.length->zC fd ⟨us,[]⟩=pure (ps.zip us)):Binds K fd ps []:=fun s us _ hl=>by
 rw[nV] at hl ⊢
 exact .of_eq (h us hl)
def Passes (CX:CXT)(X:Cx)(E:XK):Prop:=∀ (pins:List (aB×aW)) (σ:St) (H:Hp) (s:aG) (e:aE) (s':aG),Inv X pins σ H s->CX X.stack H s E e s'->X.xe e s'
section
variable {X:Cx}{CX:CXT}{k:Nat}{fd:fM}{sp:Sp}{dvs:List V}{ds:List aE}{E:XK}{m:aD}{apos:bQ}{o:aS}{ta:TE}{t:TA}
theorem ZF{σ:St}{H:Hp}{Q:VK}{vs:List V}(F:FnOk X.prog X.w X.K X.mg X.base CX k f fd ps sp)(hr:Room k X.A)(hb:Binds X.K fd ps ds)(hd:Vals dvs ds)(hx:Passes CX X E)
  (I:Inv X pins σ H s) (r:Vals vs us) (h:sp (vs++dvs) H Q E):aO (aQ X.prog X.w) X.A (call (.ref f) us) (EP X pins σ Q) X.xe s:=by
 have r2:Vals (vs++dvs) (us++ds):=r.append hd
 have hl:(us++ds).length=ps.length:=by rw[← r2.length]; exact F.len _ _ _ _ h
 refine EM (pC (F.run X.A X.stack s H ⟨us,[]⟩ (us++ds) (vs++dvs) Q E hr I.env0 (hb s us I.kIn hl) r2 h) fun r s' hq=>?_)
 cases r with
 | error e=>exact hx pins σ H s e s' I hq
 | ok fl=>
  cases fl with
  | ret u=>exact I.after hq
  | next=>exact jX hq
  | brk=>exact jX hq
  | cont=>exact jX hq
theorem Am (F:FnOk X.prog X.w X.K X.mg X.base CX k f fd ps sp)(hr:Room k X.A)(hg:Gl X x)(hm:X.mg x=some (.ref f))(hk:lQ X.K (.ref f)=true)(hb:Binds X.K fd ps ds)(hd:Vals dvs ds)(hx:Passes CX X E)
  (ha:PA X (e::es) t) (hdb:(x == ("__debug__" : aD))=false:=by decide) (he:bE (e::es) X.env=(false,bH e X.env)::bE es X.env:=by rfl) (hpl:(fK pos (bE es X.env)).any (·.1)=false:=by rfl) :
  PE X (.Call (.Name x p) (e::es) [] pos) (GS sp dvs E t):=by
 intro pins s σ H Q I h
 refine MI (BB I hg hm ?_ hdb)
 refine MU (h₀:=X.base) I.ok.mod.kin hk (thn (ha pos pins s σ H _ I h) fun us s1 ⟨vs,H1,I1,r,q⟩=>⟨I1.kIn,?_⟩) he hpl
 exact ZF F hr hb hd hx I1 r q
theorem Af {pl:Sem Bool}(he:PE X o ta)(c:Cls X.K C)(hm:Meth X.K C m f)(F:FnOk X.prog X.w X.K X.mg X.base CX k f fd ps sp)(hr:Room k X.A)(hb:Binds X.K fd ps ds)(hd:Vals dvs ds)(hx:Passes CX X E)(ha:PA X (e::es) t)
  (hst:bE (e::es) X.env=(false,bH e X.env)::bE es X.env:=by rfl) (hpl:(fK pos (bE es X.env)).any (·.1)=false:=by rfl)
  (ht:bH (.Call (.Attribute o m apos) (e::es) [] pos) X.env=(do
   let ov ← bH o X.env
   vJ apos.atName
   let (f,first) ← nO [ov] (ET ov m pl)
   callWith pos f first (fK pos (bE (e::es) X.env)) (sY pos (sV [] X.env))):=by rfl) :
  PE X (.Call (.Attribute o m apos) (e::es) [] pos) (GR C m sp dvs E ta t):=by
 intro pins s σ H Q I h
 refine Bg (pl:=pl) (thn (he pins s σ H _ I h) fun u s1 ⟨x,H1,I1,rx,a,dx,fs,ex,ea,l,q⟩=>?_) ht
 subst ex
 obtain rfl:u=dD a:=rx
 refine KQ I1 ea c hm l ?_
 refine MU (first:=[.ref a]) (h₀:=X.base) I.ok.mod.kin hm.kp (thn (ha pos pins s1 σ H1 _ I1 q) fun us s2 ⟨vs,H2,I2,r,q2⟩=>⟨I2.kIn,?_⟩) hst hpl
 exact ZF (us:=.ref a::us) (vs:=.ref a::vs) F hr hb hd hx I2 (.cons rfl r) q2
structure Mk (K:aH)(C f:aB):Prop where
 makes:Bh K C=true
 init:lA K (.ref C) "__init__" = some (some (.ref f))
 fn:MR K (.ref f)=true
 kp:lQ K (.ref C)=true
end
structure FnScope (N P:List aD)(sc:iK):Prop where
 kind:sc.kind = .function
 co:sc.isCoroutine=false
 gen:sc.isGenerator=false
 nd:N.Nodup
 pre:N.take P.length=P
 par : ∀ x∈P,sc.names.lookup x=some .local \/ sc.names.lookup x=some .cell
 nofree : ∀ y∈sc.names,y.2 ≠ .free
theorem UQ {kindOf:aD->Option lT} : ∀ {binds:List (aD×aE)} {m:aD->Option aE},(∀ v,(x,v)∉binds)->bindL kindOf binds m x=m x
 | [],_,_=>rfl
 | (n,v)::r,m,h=>by
  unfold bindL
  rw[UQ fun w hw=>h w (bJ _ hw)]
  split
  ·have:x≠n:=by rintro rfl; exact h v bD
   simp[this]
  ·rfl
theorem US {kindOf:aD->Option lT} : ∀ {binds:List (aD×aE)} {m:aD->Option aE},(∀ v,(x,v)∉binds)->bindC kindOf binds m x=m x
 | [],_,_=>rfl
 | (n,v)::r,m,h=>by
  unfold bindC
  rw[US fun w hw=>h w (bJ _ hw)]
  split
  ·rfl
  ·have:x≠n:=by rintro rfl; exact h v bD
   simp[this]
theorem TN {kindOf:aD->Option lT}{x:aD}{v:aE} : ∀ {P:List aD} {vs:List aE} {i:Nat} {m:aD->Option aE},P.Nodup->P[i]?=some x->vs[i]?=some v->kindOf x=some .local ->
  bindL kindOf (P.zip vs) m x=some v
 | [],_,_,_,_,h,_,_=>by simp at h
 | _::_,[],_,_,_,_,h,_=>by simp at h
 | p::P,w::vs,0,m,nd,h1,h2,hk=>by
  simp at h1 h2; subst h1; subst h2
  show bindL kindOf ((p,w)::P.zip vs) m p=_
  unfold bindL
  rw[UQ fun v hv=>(dS.mp nd).1 (Cc hv).1,if_pos hk]
  simp
 | p::P,w::vs,i+1,m,nd,h1,h2,hk=>by
  show bindL kindOf ((p,w)::P.zip vs) m x=_
  unfold bindL
  exact TN (i:=i) (dS.mp nd).2 (by simpa using h1) (by simpa using h2) hk
theorem TH {kindOf:aD->Option lT}{x:aD}{v:aE} : ∀ {P:List aD} {vs:List aE} {i:Nat} {m:aD->Option aE},P.Nodup->P[i]?=some x->vs[i]?=some v->kindOf x≠some .local ->
  bindC kindOf (P.zip vs) m x=some v
 | [],_,_,_,_,h,_,_=>by simp at h
 | _::_,[],_,_,_,_,h,_=>by simp at h
 | p::P,w::vs,0,m,nd,h1,h2,hk=>by
  simp at h1 h2; subst h1; subst h2
  show bindC kindOf ((p,w)::P.zip vs) m p=_
  unfold bindC
  rw[US fun v hv=>(dS.mp nd).1 (Cc hv).1,if_neg hk]
  simp
 | p::P,w::vs,i+1,m,nd,h1,h2,hk=>by
  show bindC kindOf ((p,w)::P.zip vs) m x=_
  unfold bindC
  exact TH (i:=i) (dS.mp nd).2 (by simpa using h1) (by simpa using h2) hk
def start (N:List aD)(vs:List V):St:=vs.map some++fC (N.length - vs.length) none
def jQ (CX:CXT)(P:bB)(w:aU)(K:aH)(mg:aD->Option aE)(base:aP)(N:List aD)(qual:aD)(scope:iK)(f:aB)(cd:aE)(A:bS)(outer:List eR)(s:aG)(H:Hp)(E:XK):Cx where
 prog:=P
 w:=w
 K:=K
 mg:=mg
 base:=base
 A:=A.deeper (iV qual scope s.heap.objs.size f cd)
 N:=N
 s₀:=s
 H₀:=H
 env:=iV qual scope s.heap.objs.size f cd
 outer:=outer
 stack:=iV qual scope s.heap.objs.size f cd::outer
 ex:=[]
 calm:=true
 fn:=fun _=>true
 pn:=[]
 xe:=fun e s'=>aO (aQ P w) (A.deeper (iV qual scope s.heap.objs.size f cd)) (leaving (iV qual scope s.heap.objs.size f cd) e) (fun _ s''=>CX outer H s E e s'') (fun e' s''=>CX outer H s E e' s'') s'
theorem SJ {sc:iK}{n:Nat}(h:sc.names.lookup x=some .cell) : ∃ c,(cellsFrom n sc.names []).lookup x=some c:=by
 have q:=PySem.W.cellsFrom_some sc.names n [] (.inl h)
 exact pE.mp q
theorem Xo {CX:CXT}{P:bB}{w:aU}{N:List aD}{qual:aD}{scope:iK}{cd:aE}{outer:List eR}{s1:aG}{H:Hp}{E:XK}{vs:List V}
  (S:FnScope N ps scope) (hd:A.handled=none) (e0:Env0 P w K mg base A outer s H) (hl:vs.length=ps.length) (r:Vals vs us)
  (x:InCallC s s.heap.objs.size (bindL (iV qual scope s.heap.objs.size f cd).kindOf (ps.zip us) fun _=>none) (cellsFrom (s.heap.objs.size+1) scope.names []) (bindC (iV qual scope s.heap.objs.size f cd).kindOf (ps.zip us) fun _=>none) s1) :
  Inv (jQ CX P w K mg base N qual scope f cd A outer s H E) [] (start N vs) H s1:=by
 have hpl:ps.length≤N.length:=by have:=congrArg pH S.pre; rw[lC] at this; omega
 obtain⟨h1,tk,rfl,hk⟩:=x.done
 have noA : ∀ b:aB,b∉(jQ CX P w K mg base N qual scope f cd A outer s H E).ex:=fun b z=>absurd (show b∈([]:List aB) from z) (by simp)
 refine⟨⟨e0.mod,S.kind,rfl,rfl,bP _,fun y z c h1 h2=>?_,fun y hy=>?_,fun y c _ h=>?_,fun _=>hd,Around.frames_deeper e0.frames,.inr ⟨rfl,rfl⟩,fun b z=>absurd z (noA b),e0.bs,e0.bsz,fun b _ _=>noA b,fun b z=>absurd z (noA b),e0.funs,e0.frf⟩,
  rfl,e0.bare,Un.kept hk,⟨_,x.toInCall.ns,fun i y v h1 h2 h3=>?_⟩,fun y c h=>⟨_,x.cell y c h⟩,e0.hok.fresh (bP _),fun y c h=>?_,fun p hp=>absurd (show p∈([]:List (aB×aW)) from hp) (by simp),e0.hok.kept hk,?_⟩
 ·exact name_of_addr x.apart (EX h1) (EX h2)
 ·have hy:scope.names.lookup y=some .cell \/ scope.names.lookup y=some .free:=hy
  rcases hy with hy | hy
  ·exact SJ hy
  ·exact absurd rfl (S.nofree _ (EX hy))
 ·exact vR (x.above y c (EX h))
 ·have hi:i<vs.length:=by
   unfold start at h2
   by_cases hi:i<vs.length
   ·exact hi
   ·rw[FM (by simpa using hi)] at h2
    rw[List.getElem?_replicate] at h2
    split at h2 <;> cases h2
  have ha:vs[i]?=some v:=by
   unfold start at h2
   rw[vV (by simpa using hi),fD] at h2
   cases e:vs[i]? with
   | none=>rw[e] at h2; cases h2
   | some a=>rw[e] at h2; cases h2; rfl
  obtain⟨u,hu,rv⟩:=r.get ha
  have hp:ps[i]?=some y:=by
   rw[← S.pre,Xv (by omega)]; exact h1
  have ndP:ps.Nodup:=by rw[← S.pre]; exact S.nd.sublist (List.take_sublist _ _)
  refine⟨u,rv,?_⟩
  rcases S.par y (iW hp) with k | k
  ·exact .inl ⟨k,TN ndP hp hu k⟩
  ·obtain⟨c,e⟩:=SJ (n:=s.heap.objs.size+1) k
   refine .inr ⟨.inl k,c,e,?_⟩
   have q:=x.cell y c e
   rw[TH ndP hp hu (by show scope.names.lookup y≠_; rw[k]; decide)] at q
   exact q
 ·exact e0.hok.fresh (vR (x.above y c (EX h)))
 ·unfold start
  show _=N.length
  rw[nU,bX,List.length_replicate]
  omega
theorem PU {CX:CXT}{P:bB}{w:aU}{k:Nat}{name qual:aD}{params:Arguments}{body:List bW}{scope:iK}{dV kV doc pm cdv ct oc:aE}{an od:Option aB}
  {osl:Array (Option aE)} {N ps:List aD} {sp:Sp} (lk:K.lookup f=some ⟨oc,od,.func (kI name qual params body scope dV kV doc pm an cdv ct),osl⟩) (hcd:vO K cdv qual=true) (S:FnScope N ps scope)
  (len : ∀ vs H Q E,sp vs H Q E->vs.length=ps.length)
  (hbody : ∀ (A:bS) (outer:List eR) (s:aG) (H:Hp) (vs:List V) (Q:VK) (E:XK),Room k (A.deeper (iV qual scope s.heap.objs.size f cdv))->sp vs H Q E ->
   ∃ t,PSs (jQ CX P w K mg base N qual scope f cdv A outer s H E) body t/\t { nx:=fun _ H'=>Q .non H',rt:=Q } (start N vs) H) :
  FnOk P w K mg base CX (k+1) f (kI name qual params body scope dV kV doc pm an cdv ct) ps sp:=by
 refine⟨len,fun A outer s H args us vs Q E hr e0 hb r hsp=>?_⟩
 have hl:=len _ _ _ _ hsp
 have KX:K.In s.heap:=e0.mod.kin.keeps fun b o e=>(e0.bs b o e).1
 have lim:s.heap.NoLimit:=e0.mod.nolimit.keeps fun b o e=>(e0.bs b o e).1
 have hkind : ∀ y∈ps.zip us,scope.names.lookup y.1=some .local \/ (scope.names.lookup y.1=some .cell/\((cellsFrom (s.heap.objs.size+1) scope.names []).lookup y.1).isSome=true):=fun⟨n,v⟩ hy=>by
  rcases S.par n (Cc hy).1 with q | q
  ·exact .inl q
  ·exact .inr ⟨q,PySem.W.cellsFrom_some _ _ _ (.inl q)⟩
 refine codeAny_call_function hr.depth (KX _ _ lk) rfl S.co S.gen rfl (PySem.W.codeRec_of KX hcd) (hb _ _ _ _ ?_)
 refine wpAny_newFunctionEnv_cells S.kind hkind fun env he s1 x=>?_
 subst he
 refine⟨lim.keeps x.toInCall.keep,codeAny_func ?_⟩
 obtain⟨t,ht,hq⟩:=hbody A outer s H vs Q E (hr.deeper _) hsp
 have I:Inv (jQ CX P w K mg base N qual scope f cdv A outer s H E) [] (start N vs) H s1:=Xo S hr.hd e0 hl r x
 refine kF (ht [] s1 (start N vs) H _ I hq) (fun fl s' hs=>?_) fun e s' hs=>hs
 have fin : ∀ {σ':St} {H':Hp} {v:V} {u:aE},Inv (jQ CX P w K mg base N qual scope f cdv A outer s H E) [] σ' H' s'->RelV v u->Q v H'->CE outer P w H s Q u s':=
  fun {σ' H' v u} J rv q=>⟨v,H',J.os,J.bare,J.base,J.hok,rv,q⟩
 cases fl with
 | ret u=>
  obtain⟨v,σ',H',J,rv,q⟩:=hs
  exact fin J rv q
 | next=>
  obtain⟨σ',H',J,q⟩:=hs
  exact fin (v:=V.non) (u:=fA) J rfl q
 | brk=>
  obtain⟨_,_,_,q⟩:=hs
  exact jX q
 | cont=>
  obtain⟨_,_,_,q⟩:=hs
  exact jX q
section
variable {X:Cx}{t:TA}{id T:String}{r:List V->Hp->VK->Prop}
def tCB (r:List V->Hp->VK->Prop)(t:TA):TE:=fun σ H Q=>t σ H fun vs H1=>r vs H1 Q
theorem BR (hc:Adg X (.builtin id) r)(hg:Gl X x)(hm:X.mg x=none)(hv:lM x=some (.builtin id))(ha:PA X (e::es) t)(hn:x ≠ "__name__":=by decide)(hdb:(x == ("__debug__" : aD))=false:=by decide)
  (he:bE (e::es) X.env=(false,bH e X.env)::bE es X.env:=by rfl) (hpl:(fK pos (bE es X.env)).any (·.1)=false:=by rfl):PE X (.Call (.Name x p) (e::es) [] pos) (tCB r t):=by
 intro pins s σ H Q I h
 refine MI (AM I hg hm hv ?_ hn hdb)
 exact PyProof.Rows.callWith_builtin1 (thn (ha pos pins s σ H _ I h) fun us s1 ⟨vs,H1,I1,r1,q1⟩=>hc pins s1 σ H1 vs us Q I1 r1 q1) he hpl
theorem JX (hc:Adg X (.type T) r)(hg:Gl X x)(hm:X.mg x=none)(hv:lM x=some (.type T))(ha:PA X (e::es) t)(hn:x ≠ "__name__":=by decide)(hdb:(x == ("__debug__" : aD))=false:=by decide)
  (he:bE (e::es) X.env=(false,bH e X.env)::bE es X.env:=by rfl) (hpl:(fK pos (bE es X.env)).any (·.1)=false:=by rfl):PE X (.Call (.Name x p) (e::es) [] pos) (tCB r t):=by
 intro pins s σ H Q I h
 refine MI (AM I hg hm hv ?_ hn hdb)
 exact Xu (thn (ha pos pins s σ H _ I h) fun us s1 ⟨vs,H1,I1,r1,q1⟩=>hc pins s1 σ H1 vs us Q I1 r1 q1) he hpl
end
section
variable {κ:Type}[DecidableEq κ]
def cZ (kvs:List (κ×V))(k:κ):Option V:=(kvs.find? fun kv=>decide (kv.1=k)).map (·.2)
def putK (kvs:List (κ×V))(k:κ)(v:V):List (κ×V):=
 if (kvs.any fun kv=>decide (kv.1=k))=true then kvs.map (fun kv=>if kv.1=k then(kv.1,v) else kv) else kvs++[(k,v)]
theorem sG {p:κ×V}{r:List (κ×V)}{k:κ}(e:p.1=k):cZ (p::r) k=some p.2:=by simp[cZ,gH,e]
theorem qA {p:κ×V}{r:List (κ×V)}{k:κ}(e : ¬ p.1=k):cZ (p::r) k=cZ r k:=by simp[cZ,gH,e]
theorem xK (k:κ) : ∀ kvs:List (κ×V),(kvs.any fun kv=>decide (kv.1=k))=(cZ kvs k).isSome
 | []=>rfl
 | p::r=>by
  rw[FO]
  by_cases e:p.1=k
  ·simp only[sG e,decide_eq_true e,FU,Option.isSome_some]
  ·rw[qA e,decide_eq_false e,Bool.false_or]; exact xK k r
theorem KY (kvs:List (κ×V))(k:κ)(v:V):(putK kvs k v).length≤kvs.length+1:=by
 unfold putK
 split
 ·rw[bX]; omega
 ·rw[nU,eD,Cj]; omega
theorem SL {kvs:List (κ×V)}{k:κ}(v:V)(h:cZ kvs k=none):putK kvs k v=kvs++[(k,v)]:=by
 unfold putK
 rw[xK,h]
 exact if_neg (by decide)
theorem Ap3.isSome_eq {o:Option V}{u:Option aE}(r:Ap3 o u):o.isSome=u.isSome:=by
 cases o with
 | none=>cases u with
  | none=>rfl
  | some _=>exact(show False from r).elim
 | some _=>cases u with
  | none=>exact(show False from r).elim
  | some _=>rfl
theorem Ap3.getD {o:Option V}{u:Option aE}{d:V}{d':aE}(r:Ap3 o u)(rd:RelV d d'):RelV (o.getD d) (u.getD d'):=by
 cases o with
 | none=>cases u with
  | none=>exact rd
  | some _=>exact(show False from r).elim
 | some _=>cases u with
  | none=>exact(show False from r).elim
  | some _=>exact r
theorem KV.val {kvs:List (κ×V)}{vs:List (κ×aE)}(r:KV kvs vs)(k:κ):Ap3 (cZ kvs k) (vI vs k):=by
 unfold KV at r
 induction r with
 | nil=>exact jU
 | @cons p q ps qs h t ih=>
  obtain⟨h1,h2⟩:=h
  by_cases e:p.1=k
  ·have e':q.1=k:=h1.symm.trans e
   have b:vI (q::qs) k=some q.2:=by simp[vI,gH,e']
   rw[sG e,b]; exact h2
  ·have e' : ¬ q.1=k:=fun z=>e (h1.trans z)
   have b:vI (q::qs) k=vI qs k:=by simp[vI,gH,e']
   rw[qA e,b]; exact ih
theorem KV.any {kvs:List (κ×V)}{vs:List (κ×aE)}(r:KV kvs vs)(k:κ):(kvs.any fun kv=>decide (kv.1=k))=vs.any fun kv=>decide (kv.1=k):=by
 unfold KV at r
 induction r with
 | nil=>rfl
 | cons h t ih=>rw[FO,FO,ih,h.1]
theorem KV.repl {kvs:List (κ×V)}{vs:List (κ×aE)}(r:KV kvs vs)(k:κ){y:V}(ry:RelV y u) :
  KV (kvs.map fun kv=>if kv.1=k then(kv.1,y) else kv) (vs.map fun kv=>if kv.1=k then(kv.1,u) else kv):=by
 unfold KV at r ⊢
 induction r with
 | nil=>exact .nil
 | @cons p q ps qs h t ih=>
  rw[dC,dC]
  refine .cons ?_ ih
  obtain⟨h1,h2⟩:=h
  by_cases e:p.1=k
  ·rw[if_pos e,if_pos (h1.symm.trans e)]; exact⟨h1,ry⟩
  ·rw[if_neg e,if_neg (fun z=>e (h1.trans z))]; exact⟨h1,h2⟩
theorem KV.put {kvs:List (κ×V)}{vs:List (κ×aE)}(r:KV kvs vs)(k:κ){y:V}(ry:RelV y u):KV (putK kvs k y) (sU vs k u):=by
 unfold putK sU
 rw[r.any k]
 by_cases e:(vs.any fun kv=>decide (kv.1=k))=true
 ·rw[if_pos e,if_pos e]; exact r.repl k ry
 ·rw[if_neg e,if_neg e]; exact Paired.snoc r ⟨rfl,ry⟩
theorem KV.length {kvs:List (κ×V)}{vs:List (κ×aE)}(r:KV kvs vs):kvs.length=vs.length:=kJ r
end
theorem pO {P:bB}{w:aU}{k:aL}(r:RelV (kV k) u):(eZ P w).is k u=true:=by
 cases k with
 | inl i=>obtain⟨t,e⟩:=(show ∃ t,u=EV i t from r); subst e; exact KZ P w i t
 | inr x=>obtain⟨t,e⟩:=(show ∃ t,u=EU x t from r); subst e; exact LF P w x t
abbrev KT (H:Hp):List (List aA×V)->List (List aA×aB×aE)->Prop:=dB fun p q=>p.1=q.1/\Ah6 H p.1 q.2.1/\RelV p.2 q.2.2
theorem KT.val {H:Hp}{kvs:List (List aA×V)}(r:KT H kvs xs)(k:List aA):Ap3 (cZ kvs k) ((nP xs k).map (·.2)):=by
 induction r with
 | nil=>exact jU
 | @cons p q ps qs h t ih=>
  obtain⟨h1,_,h2⟩:=h
  by_cases e:p.1=k
  ·have e':q.1=k:=h1.symm.trans e
   have b:nP (q::qs) k=some q.2:=by simp[nP,gH,e']
   rw[sG e,b]; exact h2
  ·have e' : ¬ q.1=k:=fun z=>e (h1.trans z)
   have b:nP (q::qs) k=nP qs k:=by simp[nP,gH,e']
   rw[qA e,b]; exact ih
theorem KT.repl {H:Hp}{kvs:List (List aA×V)}(r:KT H kvs xs)(k:List aA){y:V}(ry:RelV y u) :
  KT H (kvs.map fun kv=>if kv.1=k then(kv.1,y) else kv) (xs.map (putAt k u)):=by
 induction r with
 | nil=>exact .nil
 | @cons p q ps qs h t ih=>
  rw[dC,dC]
  refine .cons ?_ ih
  obtain⟨h1,h2,h3⟩:=h
  unfold putAt
  by_cases e:p.1=k
  ·rw[if_pos e,if_pos (h1.symm.trans e)]; exact⟨h1,h2,ry⟩
  ·rw[if_neg e,if_neg (fun z=>e (h1.trans z))]; exact⟨h1,h2,h3⟩
theorem KT.put {H:Hp}{kvs:List (List aA×V)}(r:KT H kvs xs)(k:List aA){b:aB}{y:V}(hb:Ah6 H k b)(ry:RelV y u) :
  KT H (putK kvs k y) (storedH xs k b u):=by
 have e:(kvs.any fun kv=>decide (kv.1=k))=(nP xs k).isSome:=by
  rw[xK,(r.val k).isSome_eq,Bv]
 unfold putK storedH
 rw[e]
 by_cases q:(nP xs k).isSome=true
 ·rw[if_pos q,if_pos q]; exact r.repl k ry
 ·rw[if_neg q,if_neg q]; exact Paired.snoc r ⟨rfl,hb,ry⟩
theorem KT.keeps {H H':Hp}{kvs:List (List aA×V)}(r:KT H kvs xs)(ht : ∀ b ys,H b=some (.tup ys)->H' b=some (.tup ys)):KT H' kvs xs:=
 Paired.mapP r fun _ _ z=>⟨z.1,z.2.1.keep ht,z.2.2⟩
section
variable {P:bB}{w:aU}{H:Hp}
theorem PX {u:HO}(ok:HOk P w H h)(e:Rd H a u):Ach P w H h a u:=e.ok ok
theorem rM{kvs:List (aL×V)}(ok:HOk P w H h)(e:Rd H a (.dK ep kvs)):kvs.length≤sizeLine/\(a == iU)=false /\ ∃ vs,KV kvs vs/\h.DictAt (eZ P w) a vs ep:=
 show Ach P w H h a (.dK ep kvs) from PX ok e
theorem uC{kvs:List (aL×V)}(ok:HOk P w H h)(e:Rd H a (.dK ep kvs)):kvs.length≤sizeLine/\(a == iU)=false /\ ∃ vs,KV kvs vs/\h.DictOf (eZ P w) a vs:=
 let ⟨z,y,vs,r,d⟩:=rM ok e; ⟨z,y,vs,r,d.dictOf⟩
theorem uD{kvs:List (aL×V)}(ok:HOk P w H h)(e:H a=some (.dK ep kvs)):kvs.length≤sizeLine/\(a == iU)=false /\ ∃ vs,KV kvs vs/\h.DictOf (eZ P w) a vs:=uC ok (.inl e)
theorem yQ {P:bB}{w:aU}(hu:A.units+40<cLine):(lJ P w).room A.in1:=by
 show A.in1.units+20<cLine
 have:A.in1.units=A.units+1:=rfl
 omega
mutual
theorem TK (ok:HOk P w H h) : ∀ (d:aA) {v:V} {u:aE},Ah4 H d v->RelV v u -> ∃ as,kZ h u d as
 | .int i,v,u,k,r=>by
  have e:v = .int i:=by simpa [Ah4] using k
  subst e
  obtain⟨t,rfl⟩:=r
  exact⟨_,.int i t⟩
 | .str x,v,u,k,r=>by
  have e:v = .str x:=by simpa [Ah4] using k
  subst e
  obtain⟨t,rfl⟩:=r
  exact⟨_,.str x t⟩
 | .tuple ds,v,u,k,r=>by
  simp only[Ah4] at k
  obtain⟨a,xs,rfl,e,ks⟩:=k
  cases r
  obtain⟨_,its,rv,⟨o,h1,h2,n,h3⟩,_⟩:=(show Ach P w H h a (.tup xs) from ok a _ e)
  obtain⟨as,ra⟩:=UP ok ds ks rv
  exact⟨as,.tuple h1 h2 h3 (by simpa using ra)⟩
 | .none,v,u,k,r=>by simp[Ah4] at k
 | .bool _,v,u,k,r=>by simp[Ah4] at k
 | .list _,v,u,k,r=>by simp[Ah4] at k
 | .dict _,v,u,k,r=>by simp[Ah4] at k
theorem UP (ok:HOk P w H h) : ∀ (ds:List aA) {vs:List V} {us:List aE},Aeu H ds vs->Vals vs us -> ∃ as,mK h us ds as
 | [],vs,us,k,r=>by
  have e:vs=[]:=by simpa [Aeu] using k
  subst e
  cases r
  exact⟨_,.nil⟩
 | d::ds,vs,us,k,r=>by
  simp only[Aeu] at k
  obtain⟨x,rr,rfl,k1,k2⟩:=k
  cases r with
  | cons r1 r2=>
   obtain⟨as,ra⟩:=TK ok d k1 r1
   obtain⟨bs,rb⟩:=UP ok ds k2 r2
   exact⟨_,.cons ra rb⟩
end
theorem pR(ok:HOk P w H h)(e:Ah6 H ks a):(lJ P w).is h ks a:=by
 obtain⟨k1,k2,xs,e,ks'⟩:=e
 refine⟨k1,k2,?_⟩
 exact TK ok (.tuple ks) (v:=.ref a) (u:=.ref a) (by simp only[Ah4]; exact⟨a,xs,rfl,e,ks'⟩) rfl
theorem wR {kvs:List (List aA×V)}(ok:HOk P w H h)(e : ∃ ep,Rd H a (.dT ep kvs)):kvs.length≤sizeLine/\(a == iU)=false /\
  ∃ xs,KT H kvs xs/\h.DictOfH (lJ P w) a xs:=by
 obtain⟨ep,e⟩:=e
 obtain⟨z,y,xs,r,o,es,h1,h2,h3,h4,h5⟩:=(show Ach P w H h a (.dT ep kvs) from PX ok e)
 refine⟨z,y,xs,r,o,es,ep,h1,h2,h3,h4,fun x hx=>?_,h5⟩
 have all : ∀ {l:List (List aA×V)} {m:List (List aA×aB×aE)},KT H l m -> ∀ x∈m,(lJ P w).is h x.1 x.2.1:=by
  intro l m q
  induction q with
  | nil=>intro x hx; exact nomatch hx
  | @cons p q ps qs hq t ih=>
   intro x hx
   rcases cI.mp hx with e | hx
   ·subst e
    exact pR ok (by rw[← hq.1]; exact hq.2.1)
   ·exact ih x hx
 exact all r x hx
theorem GT{kvs:List (List aA×V)}(ok:HOk P w H h)(e:H a=some (.dT ep kvs)):kvs.length≤sizeLine/\(a == iU)=false /\
  ∃ xs,KT H kvs xs/\h.DictOfH (lJ P w) a xs:=wR ok ⟨ep,.inl e⟩
end
def Axa (H:Hp)(a:aB)(y:V)(r:Option V):Prop:=
 (∃ ep kvs k,Rd H a (.dK ep kvs)/\y=kV k/\r=cZ kvs k) \/ ∃ kvs k b,(∃ ep,Rd H a (.dT ep kvs))/\y = .ref b/\Ah6 H k b/\r=cZ kvs k
def A8q (H:Hp)(a:aB)(y v:V)(H':Nat->Hp):Prop:=
 (∃ ep kvs k,H a=some (.dK ep kvs)/\y=kV k/\kvs.length<sizeLine/\H'=fun n=>upd H a (.dK n (putK kvs k v))) \/
 ∃ kvs k b,(∃ ep,H a=some (.dT ep kvs))/\y = .ref b/\Ah6 H k b/\kvs.length<sizeLine/\H'=fun n=>upd H a (.dT n (putK kvs k v))
theorem Axa.k {H:Hp}{kvs:List (aL×V)}{k:aL}(e:H a=some (.dK ep kvs)):Axa H a (kV k) (cZ kvs k):=.inl ⟨ep,kvs,k,.inl e,rfl,rfl⟩
theorem Axa.t {H:Hp}{b:aB}{kvs:List (List aA×V)}{k:List aA}(e:H a=some (.dT ep kvs))(eb:Ah6 H k b):Axa H a (.ref b) (cZ kvs k):=.inr ⟨kvs,k,b,⟨ep,.inl e⟩,rfl,eb,rfl⟩
theorem A8q.k {H:Hp}{kvs:List (aL×V)}{k:aL}{v:V}(e:H a=some (.dK ep kvs))(hl:kvs.length<sizeLine):A8q H a (kV k) v (fun n=>upd H a (.dK n (putK kvs k v))):=.inl ⟨ep,kvs,k,e,rfl,hl,rfl⟩
theorem A8q.t {H:Hp}{b:aB}{kvs:List (List aA×V)}{k:List aA}{v:V}(e:H a=some (.dT ep kvs))(eb:Ah6 H k b)(hl:kvs.length<sizeLine) :
  A8q H a (.ref b) v (fun n=>upd H a (.dT n (putK kvs k v))):=.inr ⟨kvs,k,b,⟨ep,e⟩,rfl,eb,hl,rfl⟩
section
variable {X:Cx}{σ:St}{H:Hp}{y v:V}{r:aE}{o:Option V}
theorem Inv.big (I:Inv X pins σ H s):iU<s.heap.objs.size:=by
 have h:cL<s.heap.objs.size:=(I.mod.glob.keeps I.bk).lt
 exact vQ (by decide) h
theorem Xj(hu:A.units+40<cLine)(I:Inv X pins σ H s)(g:Axa H a y (some v))(ry:RelV y u)(h : ∀ w' s',Inv X pins σ H s'->RelV v w'->Q w' s') :
  aO (aQ X.prog X.w) A (getItem (.ref a) u) Q E s:=by
 rcases g with⟨ep,kvs,k,e,ey,l⟩ | ⟨kvs,k,b,e,ey,eb,l⟩
 ·subst ey
  obtain⟨z,hd,vs,rel,dd⟩:=uC I.hok e
  obtain⟨w',hw,rw'⟩:=Ap3.some_of (v:=v) (o:=vI vs k) (by rw[l]; exact rel.val k)
  exact wpAny_getItem_of (pO ry) dd.mapOf hw (h w' _ (I.tok _) rw')
 ·subst ey
  cases(show u=dD b from ry)
  obtain⟨z,hd,xs,rel,dd⟩:=wR I.hok e
  obtain⟨w',hw,rw'⟩:=Ap3.some_of (v:=v) (o:=(nP xs k).map (·.2)) (by rw[l]; exact rel.val k)
  obtain⟨p,hp,hp2⟩:=hX.mp hw
  refine wpAny_getItem_heap (yQ hu) (pR I.hok eb) dd hp ?_
  rw[hp2]
  exact h w' _ (I.tok _) rw'
theorem Dk(hu:A.units+40<cLine)(I:Inv X pins σ H s)(g:Axa H a y o)(ry:RelV y u)(h : ∀ s',Inv X pins σ H s'->Q (.bool o.isSome) s') :
  aO (aQ X.prog X.w) A (fH .In u (.ref a)) Q E s:=by
 rcases g with⟨ep,kvs,k,e,ey,l⟩ | ⟨kvs,k,b,e,ey,eb,l⟩
 ·subst ey
  obtain⟨z,hd,vs,rel,dd⟩:=uC I.hok e
  refine wpAny_in_of (pO ry) hd dd.mapOf ?_
  rw[← (rel.val k).isSome_eq,← l]
  exact h _ (I.tok _)
 ·subst ey
  cases(show u=dD b from ry)
  obtain⟨z,hd,xs,rel,dd⟩:=wR I.hok e
  refine wpAny_in_heap (yQ hu) (pR I.hok eb) hd dd ?_
  have q:=(rel.val k).isSome_eq
  rw[Bv] at q
  rw[← q,← l]
  exact h _ (I.tok _)
theorem Kq(hu:A.units+40<cLine)(I:Inv X pins σ H s)(g:Axa H a y o)(ry:RelV y u)(h : ∀ s',Inv X pins σ H s'->Q (.bool (!o.isSome)) s') :
  aO (aQ X.prog X.w) A (fH .NotIn u (.ref a)) Q E s:=by
 rcases g with⟨ep,kvs,k,e,ey,l⟩ | ⟨kvs,k,b,e,ey,eb,l⟩
 ·subst ey
  obtain⟨z,hd,vs,rel,dd⟩:=uC I.hok e
  refine wpAny_notIn_of (pO ry) hd dd.mapOf ?_
  rw[← (rel.val k).isSome_eq,← l]
  exact h _ (I.tok _)
 ·subst ey
  cases(show u=dD b from ry)
  obtain⟨z,hd,xs,rel,dd⟩:=wR I.hok e
  refine wpAny_notIn_heap (yQ hu) (pR I.hok eb) hd dd ?_
  have q:=(rel.val k).isSome_eq
  rw[Bv] at q
  rw[← q,← l]
  exact h _ (I.tok _)
theorem BA{ob:HO}(I:Inv X pins σ H s)(mu:wC (H a))(hs:mP a s.heap h')(he : ∃ q,h'.get? a=some q)(new:Ach X.prog X.w (upd H a ob) h' a ob) :
  Inv X pins σ (upd H a ob) { s with heap:=h',toks:=t' }:=
 I.write (x:=a) (e:=a) mu (.inl rfl) (fun b q hb z=>(hs.2 b hb).trans z) he new
theorem HB {P:bB}{w:aU}{H':Hp}{kvs:List (aL×V)}{vs:List (aL×aE)}(z:kvs.length≤sizeLine)(hd:(a == iU)=false)(rel:KV kvs vs)(dd:h'.DictAt (eZ P w) a vs ep) :
  Ach P w H' h' a (.dK ep kvs):=⟨z,hd,vs,rel,dd⟩
theorem Nf {H':Nat->Hp}{Q:Unit->aG->Prop}(hu:A.units+40<cLine)(I:Inv X pins σ H s)(g:A8q H a y v H')(ry:RelV y u)(rv:RelV v r)(h : ∀ n s',Inv X pins σ (H' n) s'->Q () s') :
  aO (aQ X.prog X.w) A (setItem (.ref a) u r) Q E s:=by
 rcases g with⟨ep,kvs,k,e,ey,l,eH⟩ | ⟨kvs,k,b,e,ey,eb,l,eH⟩
 ·subst ey eH
  obtain⟨z,hd,vs,rel,dd⟩:=uD I.hok e
  have hz:vs.length≤sizeLine:=by rw[← rel.length]; exact z
  have hl:(putK kvs k v).length≤sizeLine:=by have:=KY kvs k v; omega
  refine wpAny_setItem_pairs (hsz:=hz) (pO ry) dd fun h' dd' hs=>?_
  have he : ∃ q,h'.get? a=some q:=let ⟨q,_,_,hq,_⟩:=dd'; ⟨q,hq⟩
  obtain⟨n,da⟩:=dd'.dictAt
  exact h n _ (BA I (by rw[e]; exact jU) hs he (HB hl hd (rel.put k rv) da))
 ·subst ey eH
  cases(show u=dD b from ry)
  obtain⟨ep0,e⟩:=e
  obtain⟨z,hd,xs,rel,dd⟩:=GT I.hok e
  have hz:xs.length≤sizeLine:=by rw[← kJ rel]; exact z
  have hl:(putK kvs k v).length≤sizeLine:=by have:=KY kvs k v; omega
  refine wpAny_setItem_heap (hsz:=hz) (yQ hu) (pR I.hok eb) dd fun h' dd' hs=>?_
  obtain⟨q,es,ep,hq,h2,h3,h4,_,h5⟩:=dd'
  refine h ep _ ?_
  refine BA I (by rw[e]; exact jU) hs ⟨q,hq⟩ ⟨hl,hd,_,(rel.put k eb rv).keeps fun c ys ec=>?_,q,es,hq,h2,h3,h4,h5⟩
  rw[bK (OW ec e (fun z=>nomatch z))]
  exact ec
end
section
variable {X:Cx}{σ:St}{H:Hp}{kvs:List (aL×V)}{k:aL}
theorem Fj(I:Inv X pins σ H s)(e:Rd H a (.dK ep kvs))(h : ∀ t s',Inv X pins σ H s'->Q (.int kvs.length t) s'):aO (aQ X.prog X.w) A (call (.builtin "len") [.ref a]) Q E s:=by
 obtain⟨z,hd,vs,rel,dd⟩:=uC I.hok e
 refine call_len_dict hd dd (by rw[← rel.length]; rw[nL] at z; omega) ?_
 rw[← rel.length]
 exact h _ _ (I.tok _)
end
def AC (i:aS):Prop:=∀ ov iv,MJ i false ov iv=operate [ov,iv] (getItem ov iv)
theorem Ka{w:aU}{env:eR}{slice:aS}{T id:String}
  (hl:EN (.type T) "__getitem__" = pure (some (.builtin id))) (hs:AC slice)
  (h:aO (aQ prog w) A (bH value env) (fun o s₁=>aO (aQ prog w) A (bH slice env) (fun i s₂=>s₂.TypeIs o T/\aO (aQ prog w) A (getItem o i) Q E s₂) E s₁) E s) :
  aO (aQ prog w) A (bH (.Subscript value slice pos) env) Q E s:=by
 refine Subscript_ (kF h (fun o s₁ h₁=>kF h₁ (fun i s₂ h₂=>?_) fun _ _ x=>x) fun _ _ x=>x)
 obtain⟨hT,h₂⟩:=h₂
 unfold subscriptTail
 refine aJ ?_
 rw[getitemInPython_of_ne hT.not_modules]
 refine aJ (yZ hT hl ?_)
 have fin:aO (aQ prog w) A (MJ slice false o i) (fun r s₃=>aO (aQ prog w) A (letTemporaryGo value o r >>= fun _=>pure r) Q E s₃) E s₂:=by
  rw[hs o i]
  exact wpAny_operating (kF h₂ (fun r s₃ h₃=>aJ (wpAny_letTemporaryGo (aT h₃))) fun _ _ x=>x)
 first
  | exact aT (aJ fin)
  | exact aJ (aT (aJ fin))
  | exact aJ fin
theorem Ql {X:Cx}{σ:St}{H:Hp}{y:V}{o:Option V}(I:Inv X pins σ H s)(g:Axa H a y o):s.TypeIs (.ref a) "dict":=by
 rcases g with⟨ep,kvs,k,e,_,_⟩ | ⟨kvs,k,b,e,_,_,_⟩
 ·obtain⟨_,_,vs,_,dd⟩:=uC I.hok e
  exact dd.typeIs
 ·obtain⟨_,_,xs,_,dd⟩:=wR I.hok e
  exact dd.typeIs
def Eb (td ty:TE):TE:=fun σ H Q=>td σ H fun x H1=>ty σ H1 fun y H2=>∃ a v,x = .ref a/\Axa H2 a y (some v)/\Q v H2
def En (td ty tv:TE):TS:=fun D σ H=>tv σ H fun v H1=>td σ H1 fun x H2=>ty σ H2 fun y H3=>∃ a H4,x = .ref a/\A8q H3 a y v H4 /\ ∀ n,D.nx σ (H4 n)
section
variable {X:Cx}{o i:aS}{tpos:bQ}{td ty tv:TE}
theorem xG (hu:X.A.units+40<cLine)(ho:PE X o td)(hi:PE X i ty)(hs:AC i):PE X (.Subscript o i pos) (Eb td ty):=by
 intro pins s σ H Q I h
 refine Ka PySem.F.slot_dict_getitem.lookup hs (thn (ho pins s σ H _ I h) fun u s1 ⟨x,H1,I1,rx,q1⟩=>thn (hi pins s1 σ H1 _ I1 q1) fun iv s2 gh=>?_)
 obtain⟨y,H2,I2,ry,a,v,ex,g,q2⟩:=gh
 subst ex
 obtain rfl:u=dD a:=rx
 exact⟨Ql I2 g,Xj hu I2 g ry fun w' s3 I3 rw'=>⟨v,H2,I3,rw',q2⟩⟩
theorem AV (hu:X.A.units+40<cLine)(ho:PE X o td)(hi:PE X i ty)(hv:PE X value tv)(hs:kG value (some (.Subscript o i pos')) pos.line X.env=pure false) :
  PS X (.Assign [.Subscript o i pos'] value pos) (En td ty tv):=by
 intro pins s σ H D I h
 refine wpAny_Assign_Subscript (thn (hv pins s σ H _ I h) fun r s1 ⟨v,H1,I1,rv,q1⟩=>thn (ho pins s1 σ H1 _ I1 q1) fun u s2 ⟨x,H2,I2,rx,q2⟩=>thn (hi pins s2 σ H2 _ I2 q2) fun iv s3 ⟨y,H3,I3,ry,a,H4,ex,g,q3⟩=>?_) hs
 subst ex
 obtain rfl:u=dD a:=rx
 exact Nf hu I3 g ry rv fun n s4 I4=>⟨σ,H4 n,I4,q3 n⟩
end
theorem Vs {P:bB}{w:aU}{H:Hp}(h:aP)(hb:iU<h.objs.size):Ach P w H (h.push { cls:=.type "dict",data:=.dict #[] }) h.objs.size (.dK 0 []):=
 ⟨eL _,beq_eq_false_iff_ne.mpr (lR (dG hb)),[],.nil,_,#[],eM _ rfl,⟨rfl,rfl,rfl⟩,rfl,fun _ he=>by simp at he,Pairs.nil,Ce⟩
theorem Uo {P:bB}{w:aU}{H:Hp}(h:aP)(hb:iU<h.objs.size):Ach P w H (h.push { cls:=.type "dict",data:=.dict #[] }) h.objs.size (.dT 0 []):=
 ⟨eL _,beq_eq_false_iff_ne.mpr (lR (dG hb)),[],.nil,_,#[],eM _ rfl,⟨rfl,rfl,rfl⟩,rfl,rfl,Ce⟩
def Fu:TE:=fun _ H Q=>∀ p,H p=none->Q (.ref p) (upd H p (.dK 0 []))
def Ga:TE:=fun _ H Q=>∀ p,H p=none->Q (.ref p) (upd H p (.dT 0 []))
section
variable {X:Cx}
theorem BY:PE X (.Dict [] [] pos) Fu:=fun pins s σ H Q I h=>
 wpAny_Dict_empty ⟨.ref s.heap.objs.size,_,I.laid (a:=s.heap.objs.size) (o:=.dK 0 []) (t':=s.toks) (fun _ _ q=>cJ _ q) (bP _) (Vs s.heap I.big),rfl,h _ (I.hok.fresh (bP _))⟩
theorem Tp:PE X (.Dict [] [] pos) Ga:=fun pins s σ H Q I h=>
 wpAny_Dict_empty ⟨.ref s.heap.objs.size,_,I.laid (a:=s.heap.objs.size) (o:=.dT 0 []) (t':=s.toks) (fun _ _ q=>cJ _ q) (bP _) (Uo s.heap I.big),rfl,h _ (I.hok.fresh (bP _))⟩
end
def pQ (kvs more:List (aL×V)):List (aL×V):=more.foldl (fun acc kv=>putK acc kv.1 kv.2) kvs
theorem KV.merge : ∀ {more:List (aL×V)} {rs:List (aL×aE)} {kvs:List (aL×V)} {vs:List (aL×aE)},KV more rs->KV kvs vs->KV (pQ kvs more) (nM vs rs):=by
 intro more rs kvs vs r
 unfold KV at r
 induction r generalizing kvs vs with
 | nil=>intro q; exact q
 | @cons p q ps qs h t ih=>
  intro r0
  have e:KV (putK kvs p.1 p.2) (sU vs q.1 q.2):=by
   have:=r0.put p.1 h.2
   rw[← h.1]; exact this
  exact ih e
theorem XQ : ∀ (more kvs:List (aL×V)),(pQ kvs more).length≤kvs.length+more.length
 | [],kvs=>by show kvs.length≤kvs.length+0; omega
 | p::r,kvs=>by
  have h1:=XQ r (putK kvs p.1 p.2)
  have h2:=KY kvs p.1 p.2
  show(pQ (putK kvs p.1 p.2) r).length≤_
  rw[eD]; omega
end L2
namespace HT
open PySem PyProof.Rows
section
variable {prog:bB}{w:aU}{A:bS}{E:aE->aG->Prop}{s:aG}
theorem Bau {t b:aB}{vs ws:List aE}{Q:aE->aG->Prop}(ht:IsTup s.heap t vs.toArray)(hb:IsTup s.heap b ws.toArray)(hv:vs≠[])
  (h1:ws=[]->Q (.ref t) s) (h2:ws≠[]->Q (.ref s.heap.objs.size) { s with heap:=s.heap.push { cls:=.type "tuple",data:=.seq (vs++ws).toArray } })
  (hsz:vs.length+ws.length≤sizeLine):aO (aQ prog w) A (kH .Add (.ref t) (.ref b)) Q E s:=by
 obtain⟨⟨cls,dd,data,sl⟩,ho,hc,n,hd⟩:=id ht
 obtain⟨⟨cls2,dd2,data2,sl2⟩,ho2,hc2,n2,hd2⟩:=id hb
 simp only at hc hd hc2 hd2
 subst hc hd hc2 hd2
 have e:vs.toArray++ws.toArray=(vs++ws).toArray:=by simp
 by_cases hw:ws=[]
 ·exact concat_meets ⟨_,ho,rfl⟩ ⟨_,ho2,rfl⟩ noFill_tuple_add seq_tuple_add PySem.F.slot_tuple_add Xr (Xs _ _)
   (tuple_addW1 t b vs.toArray ws.toArray n n2 dd dd2 sl sl2 (by simpa using hv) (by simp[hw])) ⟨ho,ho2,h1 hw⟩
 ·refine concat_meets ⟨_,ho,rfl⟩ ⟨_,ho2,rfl⟩ noFill_tuple_add seq_tuple_add PySem.F.slot_tuple_add Xr (Xs _ _)
   (tuple_addW2 t b vs.toArray ws.toArray n n2 dd dd2 sl sl2 (by simpa using hv) (by simpa using hw) (by rw[eB,eB]; exact hsz)) ⟨ho,ho2,?_⟩
  rw[e]
  exact h2 hw
def sIx (n d:Nat):Option Int->Nat
 | none=>d
 | some v=>if v<0 then(v+(n:Int)).toNat else min v.toNat n
theorem A7b (n d:Nat):sIx n d none=d:=rfl
theorem Bbc (n d k:Nat):sIx n d (some (k:Int))=min k n:=by
 show(if (k:Int)<0 then((k:Int)+(n:Int)).toNat else min (k:Int).toNat n)=min k n
 rw[if_neg (by omega),Cq]
end
end HT
namespace L2
open PySem PySem.Spec PyProof.Rows
variable {xs:List V}{n:Nat}{pins:List (aB×aW)}{σ:St}{H:Hp}{s:aG}{its:List aE}{X:Cx}
abbrev TO:=St->Hp->(Option Int->Hp->Prop)->Prop
def PO (X:Cx)(e:Option aS)(t:TO):Prop:=
 ∀ (pins:List (aB×aW)) (s:aG) (σ:St) (H:Hp) (Q:Option Int->Hp->Prop),Inv X pins σ H s->t σ H Q ->
  aO (aQ X.prog X.w) X.A (evalPart e X.env) (fun u s'=>∃ o H',Inv X pins σ H' s'/\IsPart u o/\Q o H') X.xe s
def Ll:TO:=fun _ H Q=>Q none H
def Fd (t:TE):TO:=fun σ H Q=>t σ H fun x H1=>∃ i,x = .int i/\Q (some i) H1
section
variable {e:aS}{te:TE}{lo hi:Option aS}{tl th:TO}{pos p2:bQ}
theorem Js:PO X none Ll:=by
 intro pins s σ H Q I h
 rw[evalPart_none]
 exact aT ⟨none,H,I,.none,h⟩
theorem Km (h:PE X e te):PO X (some e) (Fd te):=by
 intro pins s σ H Q I hw
 rw[evalPart_some]
 refine thn (h pins s σ H _ I hw) fun u s1 gh=>?_
 obtain⟨x,H1,I1,r1,q1⟩:=gh
 obtain⟨i,rfl,q⟩:=q1
 obtain⟨t,rfl⟩:=r1
 exact⟨some i,H1,I1,.int i t,q⟩
def SlR (X:Cx)(r:V->Option Int->Option Int->Hp->VK->Prop):Prop:=
 ∀ (pins:List (aB×aW)) (s:aG) (σ:St) (H:Hp) (x:V) (v vl vu:aE) (lo hi:Option Int) (sl:aB) (Q:VK),Inv X pins σ H s->RelV x v->s.heap.IsSliceOf sl vl vu .none->IsPart vl lo->IsPart vu hi->r x lo hi H Q ->
  ∃ T id,EN (.type T) "__getitem__" = pure (some (.builtin id))/\s.TypeIs v T/\aO (aQ X.prog X.w) X.A (getItem v (.ref sl)) (EP X pins σ Q) X.xe s
def tSl (r:V->Option Int->Option Int->Hp->VK->Prop)(te:TE)(tl th:TO):TE:=fun σ H Q=>te σ H fun x H1=>tl σ H1 fun l H2=>th σ H2 fun u H3=>r x l u H3 Q
theorem Wa {r:V->Option Int->Option Int->Hp->VK->Prop}(hr:SlR X r)(he:PE X e te)(hl:PO X lo tl)(hu:PO X hi th):PE X (.Subscript e (.Slice lo hi none p2) pos) (tSl r te tl th):=by
 intro pins s σ H Q I h
 refine Subscript_ (thn (he pins s σ H _ I h) fun v s1 gh=>?_)
 obtain⟨x,H1,I1,r1,q1⟩:=gh
 refine wpAny_Slice (thn (hl pins s1 σ H1 _ I1 q1) fun vl s2 ⟨l,H2,I2,pl,q2⟩=>thn (hu pins s2 σ H2 _ I2 q2) fun vu s3 gh=>?_)
 obtain⟨u,H3,I3,pu,q3⟩:=gh
 rw[evalPart_none]
 refine aT ?_
 have I4:Inv X pins σ H3 { s3 with heap:=s3.heap.push { cls:=.type "slice",data:=.fields #[vl,vu,.none] } }:=I3.kept (t':=s3.toks) fun b ob q=>cJ _ q
 obtain⟨T,id,hT,ht,hg⟩:=hr pins { s3 with heap:=s3.heap.push { cls:=.type "slice",data:=.fields #[vl,vu,.none] } } σ H3 x v vl vu l u s3.heap.objs.size Q I4 r1 (Heap.IsSliceOf.new ..) pl pu q3
 show aO (aQ X.prog X.w) X.A (subscriptTail e (.Slice lo hi none p2) v (.ref s3.heap.objs.size)) (EP X pins σ Q) X.xe { s3 with heap:=s3.heap.push { cls:=.type "slice",data:=.fields #[vl,vu,.none] } }
 exact tail_any (ops:=[.ref s3.heap.objs.size,v]) ht hT hg (by with_unfolding_all rfl)
def wD (xs:List V)(lo hi:Option Int):List V:=(xs.drop (HT.sIx xs.length 0 lo)).take (HT.sIx xs.length xs.length hi - HT.sIx xs.length 0 lo)
theorem Pw (xs:List V)(lo hi:Option Int):(wD xs lo hi).length≤xs.length:=by
 unfold wD
 rw[lC,List.length_drop]
 omega
def PR (K:aH):R2:=fun x y H Q=>∃ a b xs ys,x = .ref a/\y = .ref b/\SqT K H a xs/\SqT K H b ys/\xs≠[]/\xs.length+ys.length≤sizeLine /\
 (ys=[]->Q (.ref a) H)/\(ys≠[] -> ∀ p,H p=none->Q (.ref p) (upd H p (.tup (xs++ys))))
theorem Vals.nil_iff{us:List aE}(r:Vals xs us):us=[]↔xs=[]:=by
 cases r with
 | nil=>simp
 | cons _ _=>simp
theorem Ss:OpR X (kH .Add) (PR X.K):=by
 intro pins s σ H x y v u Q I rx ry h
 obtain⟨a,b,xs,ys,rfl,rfl,ha,hb,hx,hz,q1,q2⟩:=h
 cases rx
 cases ry
 obtain⟨its,r1,p1,_⟩:=I.tuple ha
 obtain⟨its2,r2,p2,_⟩:=I.tuple hb
 refine HT.Bau p1 p2 (fun z=>hx (r1.nil_iff.mp z)) (fun z=>⟨.ref a,H,I,rfl,q1 (r2.nil_iff.mp z)⟩) (fun z=>?_) (by rw[← r1.length,← r2.length]; exact hz)
 refine⟨.ref s.heap.objs.size,_,I.laid (t':=s.toks) (o:=.tup (xs++ys)) (fun b ob q=>cJ _ q) (bP _) ?_,rfl,q2 (fun w=>z (r2.nil_iff.mpr w)) _ (I.hok.fresh (bP _))⟩
 exact⟨by rw[nU]; exact hz,_,r1.append r2,A9m.new _ _⟩
end
def ixN (n:Nat)(i:Int):Option Nat:=if 0≤i then(if i<n then some i.toNat else none) else if -(n:Int)≤i then some (i+n).toNat else none
def atI {α:Type}(xs:List α)(i:Int):Option α:=(ixN xs.length i).bind fun j=>xs[j]?
theorem QH{i:Int}{j:Nat}(h:ixN n i=some j):seqIndex? i n=some j/\j<n /\ -(n:Int)≤i/\i<n:=by
 unfold ixN at h
 by_cases h0:0≤i
 ·rw[if_pos h0] at h
  by_cases h1:i<n
  ·rw[if_pos h1] at h
   have e:i.toNat=j:=dZ h
   exact⟨by rw[seqIndex_of h0 h1,e],by omega,by omega,h1⟩
  ·rw[if_neg h1] at h; cases h
 ·rw[if_neg h0] at h
  by_cases h1 : -(n:Int)≤i
  ·rw[if_pos h1] at h
   have e:(i+n).toNat=j:=dZ h
   exact⟨by rw[seqIndex_neg (by omega) h1,e],by omega,h1,by omega⟩
  ·rw[if_neg h1] at h; cases h
theorem HV {α:Type}{xs:List α}{i:Int}{v:α}(h:atI xs i=some v) : ∃ j,seqIndex? i xs.length=some j/\xs[j]?=some v/\j<xs.length /\ -(xs.length:Int)≤i/\i<xs.length:=by
 unfold atI at h
 cases e:ixN xs.length i with
 | none=>rw[e] at h; cases h
 | some j=>
  rw[e] at h
  obtain⟨h1,h2,h3,h4⟩:=QH e
  exact⟨j,h1,h,h2,h3,h4⟩
theorem kU {α:Type}{xs:List α}{j:Nat}{v:α}(h:xs[j]?=some v):atI xs (j:Int)=some v:=by
 have hj:j<xs.length:=(dM.mp h).1
 have e:ixN xs.length (j:Int)=some j:=by
  unfold ixN
  rw[if_pos (by omega),if_pos (by omega)]; simp
 unfold atI; rw[e]; exact h
def xH (b:aS):Prop:=∀ o i,MJ b false o i=operate [o,i] (getItem o i)
def IxR (X:Cx)(r:R2):Prop:=
 ∀ (value slice:aS) (pins:List (aB×aW)) (s:aG) (σ:St) (H:Hp) (x y:V) (v u:aE) (Q:VK),Inv X pins σ H s->RelV x v->RelV y u->r x y H Q ->
  MJ slice false v u=operate [v,u] (getItem v u)->aO (aQ X.prog X.w) X.A (subscriptTail value slice v u) (EP X pins σ Q) X.xe s
def MtR (X:Cx)(id:String)(r:V->List V->Hp->VK->Prop):Prop:=
 ∀ (pins:List (aB×aW)) (s:aG) (σ:St) (H:Hp) (x:V) (xs:List V) (v:aE) (us:List aE) (Q:VK),Inv X pins σ H s->RelV x v->Vals xs us->r x xs H Q ->
  aO (aQ X.prog X.w) X.A (call (.builtin id) (v::us)) (EP X pins σ Q) X.xe s
section
variable {a b:aS}{ta tb:TE}{pos:bQ}
theorem IxR.or {r r':R2}(h:IxR X r)(h':IxR X r'):IxR X (fun x y H Q=>r x y H Q \/ r' x y H Q):=by
 intro value slice pins s σ H x y v u Q I rx ry q hs
 rcases q with q | q
 ·exact h value slice pins s σ H x y v u Q I rx ry q hs
 ·exact h' value slice pins s σ H x y v u Q I rx ry q hs
theorem wO {r:R2}(hr:IxR X r)(ha:PE X a ta)(hb:PE X b tb)(hs:xH b):PE X (.Subscript a b pos) (tOp r ta tb):=by
 intro pins s σ H Q I h
 exact Subscript_ (GK ha hb I h fun v u s2 x y H2 I2 rx ry q=>hr a b pins s2 σ H2 x y v u Q I2 rx ry q (hs _ _))
def OL (K:aH):R2:=fun x y H Q=>∃ p xs i v,x = .ref p/\y = .int i/\SqL K H p xs/\atI xs i=some v/\Q v H
def OD (K:aH):R2:=fun x y H Q=>∃ p xs i v,x = .ref p/\y = .int i/\SqT K H p xs/\atI xs i=some v/\Q v H
def OQ:R2:=fun x y H Q=>∃ z i c,x = .str z/\y = .int i/\z.length≤sizeLine/\atI z.cps.toList i=some c/\Q (.str ⟨#[c]⟩) H
theorem Alv:IxR X (OL X.K):=by
 intro value slice pins s σ H x y v u Q I rx ry h hs
 obtain⟨p,xs,i,z,rfl,rfl,hq,he,q⟩:=h
 cases rx
 obtain⟨t,rfl⟩:=ry
 obtain⟨its,r,pl,hz⟩:=I.list hq
 obtain⟨j,h1,h2,h3,h4,h5⟩:=HV he
 obtain⟨w,ew,rw'⟩:=r.get h2
 have hl:=r.length
 have hn:=uK
 have fin:EP X pins σ Q w s:=⟨z,H,I,rw',q⟩
 by_cases h0:0≤i
 ·have hj:i.toNat=j:=by
   rw[seqIndex_of h0 h5] at h1
   exact dZ h1
  exact item_listR pl.isList h0 (by omega) (by rw[hj]; simpa using ew) fin hs
 ·have hj:(i+(its.toArray.size:Int)).toNat=j:=by
   rw[seqIndex_neg (by omega) h4] at h1
   rw[eB,← hl]
   exact dZ h1
  exact subscriptTail_builtinR (x:=w) pl.isList.typeIs slot_list_getitem.lookup
   (wpAny_getItem_list_neg (Q:=fun r s'=>r=w/\EP X pins σ Q r s') pl.isList (by omega) (by rw[eB] <;> omega) (by omega) (by rw[hj]; simpa using ew) ⟨rfl,fin⟩) hs
theorem Ben:IxR X (OD X.K):=by
 intro value slice pins s σ H x y v u Q I rx ry h hs
 obtain⟨p,xs,i,z,rfl,rfl,hq,he,q⟩:=h
 cases rx
 obtain⟨t,rfl⟩:=ry
 obtain⟨its,r,pl,hz⟩:=I.tuple hq
 obtain⟨j,h1,h2,h3,h4,h5⟩:=HV he
 obtain⟨w,ew,rw'⟩:=r.get h2
 have hl:=r.length
 have hn:=uK
 have fin:EP X pins σ Q w s:=⟨z,H,I,rw',q⟩
 exact subscriptTail_builtinR (x:=w) pl.typeIs slot_tuple_getitem.lookup
  (getItem_tuple (j:=j) (Q:=fun r s'=>r=w/\EP X pins σ Q r s') pl (by omega) (by omega) (by rw[eB,← hl]; exact h1) (by simpa using ew) ⟨rfl,fin⟩) hs
theorem Gm:IxR X OQ:=by
 intro value slice pins s σ H x y v u Q I rx ry h hs
 obtain⟨z,i,c,rfl,rfl,hz,he,q⟩:=h
 obtain⟨t,rfl⟩:=rx
 obtain⟨t',rfl⟩:=ry
 obtain⟨j,h1,h2,h3,h4,h5⟩:=HV he
 have hl:z.cps.toList.length=z.length:=by simp[Str.length]
 rw[hl] at h1 h4 h5
 have hn:=uK
 exact tail_any (typeIs_str s z t) slot_str_getitem.lookup (getItem_str (c:=c) (by
  have e1:decide (i < -(2 ^ 63:Int))=false:=decide_eq_false (by omega)
  have e2:decide (i ≥ 2 ^ 63)=false:=decide_eq_false (by omega)
  rw[e1,e2,Bool.or_false]) (by rw[h1]; simpa using h2) ⟨.str ⟨#[c]⟩,H,I.tok _,⟨_,rfl⟩,q⟩) hs
def rIx (K:aH):R2:=fun x y H Q=>OL K x y H Q \/ OD K x y H Q \/ OQ x y H Q
theorem Ig:IxR X (rIx X.K):=Alv.or (Ben.or Gm)
theorem Nw (its:List aE)(n j:Nat)(u:aE):iM (·.setIfInBounds j u) { cls:=.type "list",data:=.seq its.toArray n } = { cls:=.type "list",data:=.seq (its.set j u).toArray n }:=by
 simp[iM]
theorem Inv.lst{p:aB}(I:Inv X pins σ H s)(h:H p=some (.lst xs)) :
  ∃ (its:List aE) (n:Nat),Vals xs its/\s.heap.get? p=some { cls:=.type "list",data:=.seq its.toArray n }/\xs.length≤sizeLine:=by
 obtain⟨z,its,n,r,e⟩:=I.hok p _ h
 exact⟨its,n,r,e,z⟩
theorem Inv.lstUpd{p:aB}{ys:List V}{its':List aE}{n':Nat}{f:aW->aW}(I:Inv X pins σ H s)(h:H p=some (.lst xs))
  (ho:s.heap.get? p=some { cls:=.type "list",data:=.seq its.toArray n }) (hf:f { cls:=.type "list",data:=.seq its.toArray n } = { cls:=.type "list",data:=.seq its'.toArray n' }) (r:Vals ys its') (hz:ys.length≤sizeLine) (t:Nat) :
  Inv X pins σ (upd H p (.lst ys)) { s with heap:=s.heap.update p f,toks:=t }:=by
 have e:(s.heap.update p f).get? p=some { cls:=.type "list",data:=.seq its'.toArray n' }:=by
  rw[zQ f ho (by rw[hf] <;> rfl),hf]
 refine I.write (x:=p) (e:=p) (by rw[h]; trivial) (.inl rfl) (fun b u hb q=>(NT _ _ (lR hb)).trans q) ⟨_,e⟩ ?_
 exact⟨hz,its',n',r,e⟩
def Fg:V->V->V->Hp->(Hp->Prop)->Prop:=fun o i v H Q=>∃ p xs k j,o = .ref p/\i = .int k/\H p=some (.lst xs)/\ixN xs.length k=some j/\Q (upd H p (.lst (xs.set j v)))
theorem set_list:OS X Fg:=by
 intro pins s σ H o i v ov iv u Q I ro ri rv h
 obtain⟨p,xs,k,j,rfl,rfl,hp,hj,q⟩:=h
 cases ro
 obtain⟨t,rfl⟩:=ri
 obtain⟨its,n,r,ho,hz⟩:=I.lst hp
 obtain⟨h1,h2,h3,h4⟩:=QH hj
 have hl:=r.length
 have hn:=uK
 have I':Inv X pins σ (upd H p (.lst (xs.set j v))) { s with heap:=s.heap.update p (iM (·.setIfInBounds j u)) }:=
  I.lstUpd hp ho (Nw its n j u) (r.set rv j) (by rw[NJ]; exact hz) s.toks
 by_cases h0:0≤k
 ·have hk:k.toNat=j:=by
   rw[seqIndex_of h0 h4] at h1
   exact dZ h1
  exact PySem.W.ki_setAt ho h0 (by omega) (by rw[eB,← hl]; exact h4) (by rw[hk]; exact⟨_,I',q⟩)
 ·have hk:(k+(its.toArray.size:Int)).toNat=j:=by
   rw[seqIndex_neg (by omega) h3] at h1
   rw[eB,← hl]
   exact dZ h1
  exact PySem.W.ki_setBack ho (by omega) (by rw[eB,← hl]; exact h3) (by omega) (by rw[hk]; exact⟨_,I',q⟩)
theorem Qu (lo hi:Option Int)(n:Nat):(vK lo hi none n).1=((HT.sIx n 0 lo:Nat):Int)/\(vK lo hi none n).2.1=((HT.sIx n n hi:Nat):Int)/\(vK lo hi none n).2.2=1:=by
 refine⟨?_,?_,rfl⟩
 ·cases lo with
  | none=>simp[vK,HT.sIx]
  | some i=>
   simp only[vK,HT.sIx,Option.getD_none,show(1:Int) > 0 by decide,if_true]
   by_cases h:i<0
   ·simp only[h,if_true] <;> omega
   ·simp only[h,if_false] <;> omega
 ·cases hi with
  | none=>simp[vK,HT.sIx]
  | some i=>
   simp only[vK,HT.sIx,Option.getD_none,show(1:Int) > 0 by decide,if_true]
   by_cases h:i<0
   ·simp only[h,if_true] <;> omega
   ·simp only[h,if_false] <;> omega
theorem Rr (its:List aE)(lo hi:Option Int):slicePick its.toArray lo hi none=((its.drop (HT.sIx its.length 0 lo)).take (HT.sIx its.length its.length hi - HT.sIx its.length 0 lo)).toArray:=by
 obtain⟨h1,h2,h3⟩:=Qu lo hi its.toArray.size
 unfold slicePick
 rw[h1,h2,h3]
 simp only[sliceRange_one,pick_run,eB] <;> rfl
def Dm (K:aH):V->Option Int->Option Int->Hp->VK->Prop:=fun x lo hi H Q=>∃ a xs,x = .ref a/\SqL K H a xs /\ ∀ p,H p=none->Q (.ref p) (upd H p (.lst (wD xs lo hi)))
theorem Jg:SlR X (Dm X.K):=by
 intro pins s σ H x v vl vu lo hi sl Q I rx hs pl pu h
 obtain⟨a,xs,rfl,hx,q⟩:=h
 cases rx
 obtain⟨its,r,ht,hz⟩:=I.list hx
 have hlen:=r.length
 refine⟨"list",_,slot_list_getitem.lookup,ht.isList.typeIs,?_⟩
 refine wpAny_getItem_list_slice ht.isList hs pl pu .none (by simp) ?_ (by rw[eB] <;> omega)
 rw[Rr,← hlen]
 refine⟨.ref s.heap.objs.size,_,I.laid (t':=s.toks) (o:=.lst (wD xs lo hi)) (fun b ob q=>cJ _ q) (bP _) ?_,rfl,q _ (I.hok.fresh (bP _))⟩
 exact⟨iA (Pw xs lo hi) hz,_,0,(r.drop (HT.sIx xs.length 0 lo)).take (HT.sIx xs.length xs.length hi - HT.sIx xs.length 0 lo),eM _ rfl⟩
theorem Qx:OpR X (fH .NotIn) (fun x y H Q=>∃ i j,x = .str i/\y = .str j/\Q (.bl (!(!(tJ j i 0 j.length 1).isEmpty))) H):=by
 intro pins s σ H x y v u Q I rx ry h
 obtain⟨i,j,rfl,rfl,q⟩:=h
 obtain⟨t,rfl⟩:=rx
 obtain⟨t',rfl⟩:=ry
 exact notIn_str ⟨.bl _,H,I,rfl,q⟩
theorem Aqr:Adg X (.builtin "len") (fun xs H Q=>∃ p ys,xs=[.ref p]/\(SqL X.K H p ys \/ SqT X.K H p ys)/\Q (.int ys.length) H):=by
 intro pins s σ H xs us Q I r h
 obtain⟨p,ys,rfl,hq,q⟩:=h
 obtain⟨u,rfl,rx⟩:=vals1 r
 cases rx
 have hn:=uK
 rcases hq with hq | hq
 ·obtain⟨its,r',pl,hz⟩:=I.list hq
  have hlen:=r'.length
  exact Calls.call_len_list pl.isList (by simp only[eB] <;> omega) ⟨.int ys.length,H,I.tok _,⟨s.toks+1,by rw[eB,hlen]⟩,q⟩
 ·obtain⟨its,r',pl,hz⟩:=I.tuple hq
  have hlen:=r'.length
  exact len_tuple pl (by simp only[eB] <;> omega) ⟨.int ys.length,H,I.tok _,⟨s.toks+1,by rw[eB,hlen]⟩,q⟩
theorem Aqe:Adg X (.builtin "len") (fun xs H Q=>∃ z,xs=[.str z]/\z.length≤sizeLine/\Q (.int z.length) H):=by
 intro pins s σ H xs us Q I r h
 obtain⟨z,rfl,hz,q⟩:=h
 obtain⟨u,rfl,t,rfl⟩:=vals1 r
 have hn:=uK
 exact len_str (by omega) ⟨.int z.length,H,I.tok _,⟨_,rfl⟩,q⟩
theorem Adg.or {f:aE}{r r':List V->Hp->VK->Prop}(h:Adg X f r)(h':Adg X f r'):Adg X f (fun xs H Q=>r xs H Q \/ r' xs H Q):=by
 intro pins s σ H xs us Q I rs q
 rcases q with q | q
 ·exact h pins s σ H xs us Q I rs q
 ·exact h' pins s σ H xs us Q I rs q
theorem Ar3:Adg X (.type "list") (fun xs H Q=>∃ p ys,xs=[.ref p]/\(SqL X.K H p ys \/ SqT X.K H p ys) /\ ∀ l,H l=none->Q (.ref l) (upd H l (.lst ys))):=by
 intro pins s σ H xs us Q I r h
 obtain⟨p,ys,rfl,hq,q⟩:=h
 obtain⟨u,rfl,rx⟩:=vals1 r
 cases rx
 have fin : ∀ (its:List aE),Vals ys its->ys.length≤sizeLine -> ∀ (h':aP) (c':Nat),(∀ b o',s.heap.get? b=some o'->h'.get? b=some o') ->
   h'.get? s.heap.objs.size=some { cls:=.type "list",dict:=none,data:=.seq its.toArray c',slots:=#[] }->EP X pins σ Q (.ref s.heap.objs.size) { s with heap:=h' }:=fun its r' hz h' c' kp e=>
  ⟨.ref s.heap.objs.size,_,I.laid (t':=s.toks) kp (bP _) (show Ach X.prog X.w _ h' _ (.lst ys) from⟨hz,its,c',r',e⟩),rfl,q _ (I.hok.fresh (bP _))⟩
 rcases hq with hq | hq
 ·obtain⟨its,r',pl,hz⟩:=I.list hq
  have hlen:=r'.length
  obtain⟨o,ho,hc,n,hd⟩:=pl.isList
  exact call_list_seq p (.inl rfl) ho hc hd (fun h' c' kp e=>fin its r' hz h' c' kp e) (by simp only[eB] <;> omega)
 ·obtain⟨its,r',pl,hz⟩:=I.tuple hq
  have hlen:=r'.length
  obtain⟨o,ho,hc,n,hd⟩:=pl
  exact call_list_seq p (.inr rfl) ho hc hd (fun h' c' kp e=>fin its r' hz h' c' kp e) (by simp only[eB] <;> omega)
theorem Rh:Adg X (.type "tuple") (fun xs H Q=>∃ p ys,xs=[.ref p]/\((SqL X.K H p ys /\ ∀ l,H l=none->Q (.ref l) (upd H l (.tup ys))) \/ (SqT X.K H p ys/\Q (.ref p) H))):=by
 intro pins s σ H xs us Q I r h
 obtain⟨p,ys,rfl,h⟩:=h
 obtain⟨u,rfl,rx⟩:=vals1 r
 cases rx
 rcases h with⟨hq,q⟩ | ⟨hq,q⟩
 ·obtain⟨its,r',pl,hz⟩:=I.list hq
  have hlen:=r'.length
  refine call_tuple_list pl.isList (fun h' kp=>?_) (by simp only[eB] <;> omega)
  have I1:Inv X pins σ H { s with heap:=h' }:=I.kept (t':=s.toks) kp
  have I2:Inv X pins σ (upd H h'.objs.size (.tup ys)) { s with heap:=h'.push { cls:=.type "tuple",data:=.seq its.toArray } }:=
   I1.laid (t':=s.toks) (fun b o e=>cJ _ e) (bP _) (show Ach X.prog X.w _ _ _ (.tup ys) from⟨hz,its,r',A9m.new _ _⟩)
  exact⟨.ref h'.objs.size,_,I2,rfl,q _ (I1.hok.fresh (bP _))⟩
 ·obtain⟨its,r',pl,hz⟩:=I.tuple hq
  exact call_tuple_same pl ⟨.ref p,H,I,rfl,q⟩
def tyV (K:aH)(T:String)(x:V)(H:Hp):Prop:=match x with
 | .str _=>T = "str"
 | .int _=>T = "int"
 | .ref p=>(T = "list" /\ ∃ xs,SqL K H p xs) \/ (T = "tuple" /\ ((∃ o,K.lookup p=some o/\o.cls = .type "tuple" /\ o.dict=none) \/ ∃ xs,H p=some (.tup xs))) \/
   (T = "dict" /\ ((∃ ep kvs,H p=some (.dK ep kvs)) \/ ∃ kvs,∃ ep,H p=some (.dT ep kvs))) \/ (T = "set" /\ ∃ S n,H p=some (.set S n))
 | _=>False
theorem YD{T:String}{x:V}{v:aE}(I:Inv X pins σ H s)(r:RelV x v)(ty:tyV X.K T x H) :
  s.TypeIs v T /\ ∀ a,v = .ref a -> ∃ ob,s.heap.get? a=some ob/\ob.dict=none:=by
 cases x with
 | str z=>
  obtain⟨t,rfl⟩:=r
  cases(show T = "str" from ty)
  exact⟨typeIs_str s z t,fun _ e=>nomatch e⟩
 | int i=>
  obtain⟨t,rfl⟩:=r
  cases(show T = "int" from ty)
  exact⟨typeIs_int s i t,fun _ e=>nomatch e⟩
 | ref p=>
  cases r
  rcases ty with⟨rfl,xs,hq⟩ | ⟨rfl,⟨o,hk,hc,hd⟩ | ⟨xs,hx⟩⟩ | ⟨rfl,hk⟩ | ⟨rfl,S,n,hk⟩
  ·obtain⟨its,_,pl,_⟩:=I.list hq
   refine⟨pl.isList.typeIs,fun a e=>?_⟩
   cases e
   obtain⟨o,n,e,c,hd,_⟩:=pl
   exact⟨o,e,hd⟩
  ·refine⟨⟨o,I.kIn p o hk,hc⟩,fun a e=>?_⟩
   cases e
   exact⟨o,I.kIn _ o hk,hd⟩
  ·obtain⟨_,_,_,⟨o,e,c,_⟩,n⟩:=(show Ach X.prog X.w H s.heap p (.tup xs) from I.hok p _ hx)
   refine⟨⟨o,e,c⟩,fun a e=>?_⟩
   cases e
   exact n
  ·have z : ∃ o,s.heap.get? p=some o/\o.ExactDict:=by
    rcases hk with⟨ep,kvs,hk⟩ | ⟨kvs,ep,hk⟩
    ·obtain⟨_,_,_,_,o,_,e,ex,_⟩:=I.hok p _ hk
     exact⟨o,e,ex⟩
    ·obtain⟨_,_,_,_,o,_,e,ex,_⟩:=I.hok p _ hk
     exact⟨o,e,ex⟩
   obtain⟨o,e,ex⟩:=z
   refine⟨⟨o,e,ex.1⟩,fun a e2=>?_⟩
   cases e2
   exact⟨o,e,ex.2.1⟩
  ·obtain⟨o,_,_,_,e,ex,_⟩:=I.hok p _ hk
   refine⟨⟨o,e,ex.1⟩,fun a e2=>?_⟩
   cases e2
   exact⟨o,e,ex.2.1⟩
 | _=>exact jX ty
def Dh (K:aH)(T:String)(r:V->List V->Hp->VK->Prop)(to:TE):TE:=fun σ H Q=>to σ H fun x H1=>tyV K T x H1/\r x [] H1 Q
def tBM (K:aH)(T:String)(r:V->List V->Hp->VK->Prop)(to:TE)(t:TA):TE:=fun σ H Q=>to σ H fun x H1=>tyV K T x H1/\t σ H1 fun xs H2=>r x xs H2 Q
variable {o e:aS}{es:List aS}{to:TE}{t:TA}{name:aD}{apos cpos:bQ}{T id:String}{r:V->List V->Hp->VK->Prop}
theorem Fx (pa:PlainAttrs T)(slot:Slot T name id)(hty:typeOf (.builtin id)=pure (.type "method_descriptor"))(hm:MtR X id r)(ho:PE X o to)
  (hbase:lN o name X.env (bH o X.env)=bH o X.env:=by rfl) (hline:(apos.endLine == cpos.line)=true:=by rfl):PE X (.Call (.Attribute o name apos) [] [] cpos) (Dh X.K T r to):=by
 intro pins s σ H Q I h
 refine wpAny_Call_method0_late hbase hline (thn (ho pins s σ H _ I h) fun v s1 gh=>?_)
 obtain⟨x,H1,I1,r1,ty,q1⟩:=gh
 obtain⟨h1,h2⟩:=YD I1 r1 ty
 exact⟨T,id,pa,slot,hty,h1,h2,Calls.callWith_builtin rfl (PySem.evalArgs_none (hm pins s1 σ H1 x [] v [] Q I1 r1 .nil q1))⟩
theorem rL (pa:PlainAttrs T)(slot:Slot T name id)(hty:typeOf (.builtin id)=pure (.type "method_descriptor"))(hm:MtR X id r)(ho:PE X o to)(ha:PA X (e::es) t)
  (hbase:lN o name X.env (bH o X.env)=bH o X.env:=by rfl)
  (hfew:((fK cpos (bE (e::es) X.env)).all (fun x=>!x.1)&&(sY cpos (sV [] X.env)).all (fun x=>x.1.isSome)
   && decide ((e::es).length+([]:List pJ).length+(if ([]:List pJ).isEmpty then 0 else 1)<30))=true:=by rfl)
  (hline:(apos.endLine == cpos.line)=true:=by rfl) (hs:bE (e::es) X.env=(false,bH e X.env)::bE es X.env:=by rfl) (hplain:(fK cpos (bE es X.env)).any (·.1)=false:=by rfl) :
  PE X (.Call (.Attribute o name apos) (e::es) [] cpos) (tBM X.K T r to t):=by
 intro pins s σ H Q I h
 refine wpAny_Call_method_late hbase hfew hline rfl (thn (ho pins s σ H _ I h) fun v s1 gh=>?_)
 obtain⟨x,H1,I1,r1,ty,q1⟩:=gh
 obtain⟨h1,h2⟩:=YD I1 r1 ty
 refine⟨T,id,pa,slot,hty,h1,h2,?_⟩
 have hA:=ha cpos pins s1 σ H1 _ I1 q1
 rw[hs] at hA ⊢
 refine Calls.callWith_builtin (by show(false||(fK cpos (bE es X.env)).any (·.1))=false; rw[hplain] <;> rfl) (Calls.evalArgs_plain ?_)
 exact thn hA fun us s2 ⟨vs,H2,I2,r2,q2⟩=>hm pins s2 σ H2 x vs v us Q I2 r1 r2 q2
end
def MtM (X:Cx)(id:String)(r:V->List V->Hp->VK->Prop):Prop:=
 ∀ (pins:List (aB×aW)) (s:aG) (σ:St) (H:Hp) (x:V) (xs:List V) (v:aE) (us:List aE) (Q:VK),Inv X pins σ H s->RelV x v->Vals xs us->r x xs H Q ->
  aO (aQ X.prog X.w) X.A (call (.builtin id) (v::us)) (EP X pins σ Q) X.xe s
theorem Vals.one : ∀ {x:V} {us:List aE},Vals [x] us -> ∃ u,us=[u]/\RelV x u:=by
 intro x us h
 cases h with
 | cons r t=>cases t; exact⟨_,rfl,r⟩
theorem Vals.zero : ∀ {us:List aE},Vals [] us->us=[]
 | _,.nil=>rfl
theorem Vals.eraseIdx : ∀ {xs:List V} {us:List aE} (i:Nat),Vals xs us->Vals (xs.eraseIdx i) (us.eraseIdx i)
 | _,_,_,.nil=>.nil
 | _,_,0,.cons _ t=>t
 | _,_,i+1,.cons r t=>.cons r (Vals.eraseIdx i t)
theorem TM {α:Type} : ∀ (l:List α) (i:Nat),(l.eraseIdx i).length≤l.length
 | [],_=>bP _
 | _::_,0=>qW _
 | _::r,i+1=>Nat.succ_le_succ (TM r i)
section
variable {l b:aB}{ys zs:List V}
theorem Inv.lset {its':List aE}{f:Array aE->Array aE}{t':Nat}(I:Inv X pins σ H s)(hH:H l=some (.lst xs))
  (e:s.heap.get? l=some { cls:=.type "list",data:=.seq its.toArray n }) (hf:f its.toArray=its'.toArray) (hv:Vals ys its') (hz:ys.length≤sizeLine) :
  Inv X pins σ (upd H l (.lst ys)) { s with heap:=s.heap.update l (iM f),toks:=t' }:=by
 have q:=PySem.IsL.update e f
 rw[hf] at q
 refine I.write (x:=l) (e:=l) (by rw[hH]; exact trivial) (.inl rfl) (fun b' u hb hu=>(NT s.heap (iM f) (lR hb)).trans hu) ⟨_,q⟩ ?_
 exact⟨hz,its',_,hv,q⟩
theorem Inv.lnew{t':Nat}(I:Inv X pins σ H s)(hv:Vals ys its)(hz:ys.length≤sizeLine) :
  Inv X pins σ (upd H s.heap.objs.size (.lst ys)) { s with heap:=s.heap.push { cls:=.type "list",data:=.seq its.toArray },toks:=t' }:=
 I.laid (fun _ _ q=>cJ _ q) (bP _) ⟨hz,its,0,hv,eM _ rfl⟩
theorem Inv.fresh (I:Inv X pins σ H s):H s.heap.objs.size=none:=I.hok.fresh (bP _)
theorem Inv.lstM (I:Inv X pins σ H s)(hH:H l=some (.lst xs)):xs.length≤sizeLine /\ ∃ (its:List aE) (n:Nat),Vals xs its/\xs.length=its.length/\s.heap.get? l=some { cls:=.type "list",data:=.seq its.toArray n }:=by
 obtain⟨z,its,n,r,e⟩:=I.hok l _ hH
 exact⟨z,its,n,r,r.length,e⟩
end
def Ld:V->List V->Hp->VK->Prop:=fun x vs H Q=>∃ l xs y,x = .ref l/\vs=[y]/\H l=some (.lst xs)/\xs.length<sizeLine/\Q .non (upd H l (.lst (xs++[y])))
theorem CO:MtM X "list.append" Ld:=by
 intro pins s σ H x vs v us Q I rx rv h
 obtain⟨l,xs,y,rfl,rfl,hH,hz,q⟩:=h
 cases rx
 obtain⟨u,rfl,ru⟩:=rv.one
 obtain⟨z,its,n,r,hl,e⟩:=I.lstM hH
 refine sX F.slot_list_append ⟨_,e,rfl⟩ F.entry_list_append (F.args_list_append_2 _ _) (PySem.list_append l its.toArray n u (by rw[eB]; omega)) ⟨e,?_⟩
 refine⟨.non,_,I.lset (its':=its++[u]) hH e (by simp) (r.append (.cons ru .nil)) ?_,rfl,q⟩
 rw[nU,FK]
 omega
def Fo:V->List V->Hp->VK->Prop:=fun x vs H Q=>∃ l xs,x = .ref l/\vs=[]/\H l=some (.lst xs)/\Q .non (upd H l (.lst []))
theorem Tv:MtM X "list.clear" Fo:=by
 intro pins s σ H x vs v us Q I rx rv h
 obtain⟨l,xs,rfl,rfl,hH,q⟩:=h
 cases rx
 have hus:=rv.zero
 subst hus
 obtain⟨z,its,n,r,hl,e⟩:=I.lstM hH
 refine sX F.slot_list_clear ⟨_,e,rfl⟩ F.entry_list_clear (F.args_list_clear_1 _) (AutoSeq1.list_clear_list_0 l its.toArray n (by rw[eB]; omega)) ⟨e,?_⟩
 exact⟨.non,_,I.lset (its':=[]) (ys:=[]) hH e rfl .nil (eL _),rfl,q⟩
end L2
namespace Att
open PySem PySem.W PySem.Calls PyProof.Rows
theorem Ry {P:Params}{h:aP} : ∀ (ns:List Int) (vs:List aE),WellAll P h vs (ns.map WData.int)->IntsAre vs ns:=by
 intro ns
 induction ns with
 | nil=>
  intro vs w
  rw[List.map_nil] at w
  cases w
  exact .nil
 | cons n ns ih=>
  intro vs w
  rw[dC] at w
  cases w with
  | cons a b=>
   cases a
   exact .cons _ _ (ih _ b)
theorem Xk {l:OpenLaw}{n:Nat}(hn:l.most=some n){P:Params}{h:aP}{args:List WData}{vals:List aE}
  (hpre:l.row.toRowW.claim.pre args=true) (hwl:WellAll P h vals args) :
  ∃ a vs ns,vals=[dD a]/\args=[WData.list (ns.map WData.int)]/\h.get? a=some { cls:=.type "list",data:=.seq vs.toArray }/\IntsAre vs ns/\ns.length≤n:=by
 have hsh:WShape.hasAll [] args [.list .int]=true:=(pre_splitW hpre).1
 have hc:l.pre.holds [] { args:=args }=true:=(pre_splitW hpre).2
 obtain⟨d,r,rfl,h1,h2⟩:=hasAllW_cons hsh
 obtain rfl:=hasAllW_nil h2
 obtain⟨xs,rfl,h3⟩:=hasW_list h1
 obtain⟨ns,rfl⟩:=items_int h3
 have hlen:ns.length≤n:=by
  unfold OpenLaw.pre at hc
  have h4:(WTm.not (.lt (.lit (.int (n:Int))) (.len (.arg 0)))).holds [] { args:=[.list (ns.map .int)] }=true:=by
   have h4:=(holds_andW hc).1
   rw[hn] at h4
   exact h4
  have h5:=condW_of h4 (w_not (w_lt w_lit (w_len_list (w_arg rfl))))
  rw[bX] at h5
  refine Nat.le_of_not_lt fun q=>?_
  have q':(n:Int)<((ns.length:Nat):Int):=by omega
  first
   | (rw[decide_eq_true q'] at h5; exact absurd h5 (by decide))
   | (simp at h5; omega)
 cases hwl with
 | cons w1 w2=>
  cases w2
  cases w1 with
  | list ho hall=>exact⟨_,_,ns,rfl,rfl,ho,Ry ns _ hall,hlen⟩
theorem Wq (l:OpenLaw)(args:List WData):l.row.toRowW.claim.post args (.bool true) args=true:=
 postW_of (r:=l.row.toRowW) (X:=(true == true))
  (show WShape.has [] (.bool true) .bool=true by first | rfl | decide | simp[WShape.has,WShape.arms,WShape.armsAll])
  (show(WTm.eq .res (.lit (.bool true))).value [] { args:=args,res:=some (.bool true),after:=args }=some (.bool (true == true)) from w_eq_bool (w_res rfl) w_lit) rfl
theorem Aub {l:OpenLaw}{n:Nat}{q:bB}{loose:List aD}{XP:(aD->Option aE)->aP->Prop}{YP:aU->aP->Prop}{d:DefRec}
  (hn:l.most=some n) (hdf:d.params.defaults=[])
  (call : ∀ (w:aU) (s₀ s₁:aG) (mg mb:aD->Option aE) (fa:aB) (o:aW) (pm cd doc:aE) (a:aB) (vs:List aE) (ns:List Int),
   Ground q loose [] XP w s₀ mg mb s₁.heap->YP w s₁.heap ->
   s₁.heap.get? fa=some o->o.data = .func (docDef d.name d.params d.body d.scope pm cd doc)->s₁.heap.CodeRec cd d.name->mg d.name=some (.ref fa) ->
   s₁.heap.get? a=some { cls:=.type "list",data:=.seq vs.toArray }->IntsAre vs ns->ns.length≤n->s₁.gens = #[] ->
   kX (aQ l.prog w) vM (.call (.ref fa) ⟨[.ref a],[]⟩) (fun r s'=>r = .ok (.ret (.bool true))/\OldK s₁.heap s'.heap/\s'.os=s₁.os/\pK s'.gens) s₁) :
  WalkO q loose XP YP l.row.toRowW d [] (fun f vs=>PySem.call f vs):=by
 intro w s₀ s₁ mg mb G Y fa o pm cd doc dV kV ho hd hcd hD hmg hg args vals as hpre hlay hrd hwl hlo
 obtain rfl:dV = .none:=Dflts.none hD hdf
 obtain rfl:kV = .none:=Dflts.noKw hD
 obtain⟨a,vs,ns,rfl,rfl,hobj,hints,hlen⟩:=Xk hn hpre hwl
 refine enter_call (pC (call w s₀ s₁ mg mb fa o pm cd doc a vs ns G Y ho (fd_plain hd) hcd hmg hobj hints hlen hg) fun r s' hq=>?_)
 obtain⟨rfl,h2,h3,h4⟩:=hq
 exact⟨.inl ⟨.bool true,.bool true,[],rfl,fun _=>rfl,.bool true,Wq l _,fun _=>⟨List.Pairwise.nil,fun _ hm=>(nomatch hm)⟩⟩,h2,h3,h4⟩
end Att
namespace L2
open PySem PySem.Spec PyProof.Rows
variable {P:bB}{mg:aD->Option aE}{a l f it C I:aB}{x qual c y:aD}{sp:Sp}{vs:List aE}{n i j n0 ep mask per:Nat}{d m W D d':aA}{X:Cx}{st:bW}{N ps:List aD}{A:bS}{pos px spos p1 p2 apos cpos py:bQ}{B H H1 H' B' B0 H0:Hp}{elt iter tg e ce:aS}{ifs es:List aS}{env:eR}{sc:iK}{fp:Nat->List aB}{h' h base:aP}{s' s s1:aG}{pins:List (aB×aW)}{E Q:aE->aG->Prop}{cap:List (Option Nat)}{p xs:Array Nat}{o:HO}{u cls:aE}{kds:List (aA×aA)}{ds:List aA}{R:qS->aG->Prop}{F wr:List aB}{ρ:List (Option aA)}{g g':aA->aA->Option aA}{r r':R2}{op:CmpOp}{tl:TE}{T:String}{z:Option aD}{P0:aB->Prop}{G:Array qZ->Array qZ->Prop}{ks kss:List (List aA)}{items:Array aE}{ow:Array (Option Nat)}
theorem UX : ∀ {vs:List aE} {ns:List Int},IntsAre vs ns->Vals (ns.map V.int) vs
 | _,_,.nil=>.nil
 | _,_,.cons n t h=>.cons ⟨t,rfl⟩ (UX h)
def Only (H:Hp):Prop:=∀ b,H b=none \/ ∃ o xs,H b=some (.frz o (.lst xs))
theorem Vd{w:aU}{K:aH}{mb:aD->Option aE}{CX:CXT}{k:Nat}{fa:aB}{fd:fM}{s₁:aG}{ns:List Int}
  (KX:K.In s₁.heap) (hns:s₁.heap.Ns cL mg) (hb:s₁.heap.Ns builtinsNs mb) (hbb : ∀ x:aD,x ≠ "__name__" -> mb x=lM x) (hlim:s₁.heap.NoLimit) (hg:s₁.gens = #[])
  (ha:s₁.heap.get? a=some { cls:=.type "list",data:=.seq vs.toArray }) (hi:IntsAre vs ns) (hl:ns.length≤sizeLine) (hr:Room k vM)
  (F : ∀ base:aP,K.In base->base.Ns cL mg->FnOk P w K mg base CX k fa fd [x] sp) (hbind : ∀ (s:aG) (u:aE),tK s fd ⟨[u],[]⟩ [(x,u)])
  (hsp : ∀ H:Hp,Only H->SqL K H a (ns.map V.int)->sp [.ref a] H (fun v _=>v = .bl true) fun _ _ _=>False)
  (hCX : ∀ H e s',CX [] H s₁ (fun _ _ _=>False) e s'->False) :
  kX (aQ P w) vM (.call (.ref fa) ⟨[.ref a],[]⟩) (fun r s'=>r = .ok (.ret (.bool true))/\OldK s₁.heap s'.heap/\s'.os=s₁.os/\pK s'.gens) s₁:=by
 have rv:=UX hi
 have lenV:=hi.length
 have core : ∀ H:Hp,Only H->SqL K H a (ns.map V.int)->HOk P w H s₁.heap->(∀ b,H b≠none->b=a)->(H a≠none->K.lookup a=none) ->
   kX (aQ P w) vM (.call (.ref fa) ⟨[.ref a],[]⟩) (fun r s'=>r = .ok (.ret (.bool true))/\OldK s₁.heap s'.heap/\s'.os=s₁.os/\pK s'.gens) s₁:=by
  intro H hO hS hok hA hK
  have base_of : ∀ {b:aB} {o:aW},s₁.heap.get? b=some o->H b=none->(oV s₁.heap H).get? b=some o:=fun e n=>Ui e n
  have noA : ∀ {b:aB} {o:aW} {es:Array nY} {ep:Nat},s₁.heap.get? b=some o->o.data = .dict es ep->H b=none:=fun {b o es ep} e d=>by
   cases q:H b with
   | none=>rfl
   | some u=>
    have e':b=a:=hA b (by rw[q]; simp)
    subst e'
    rw[ha] at e; cases e
    have d':Data.seq vs.toArray _=Data.dict es ep:=d
    cases d'
  have nsK : ∀ {b:aB} {m:aD->Option aE},s₁.heap.Ns b m->(oV s₁.heap H).Ns b m:=fun {b m} ⟨o,es,ep,e,d,r⟩=>⟨o,es,ep,base_of e (noA e d),d,r⟩
  have hKb:K.In (oV s₁.heap H):=fun b o e=>base_of (KX b o e) (by
   cases q:H b with
   | none=>rfl
   | some u=>
    have e':b=a:=hA b (by rw[q]; simp)
    subst e'
    rw[hK (by rw[q]; simp)] at e; cases e)
  have hM:Mod K mg (oV s₁.heap H):=⟨hKb,nsK hns,⟨mb,nsK hb,hbb⟩,let ⟨mc,h1,h2⟩:=hlim; ⟨mc,nsK h1,h2⟩⟩
  have e0:Env0 P w K mg (oV s₁.heap H) vM [] s₁ H:=⟨rfl,hM,fun b o e=>Kj e,NB (Nl _ _),trivial,fun b hb=>absurd (show b∈([]:List aB) from hb) (by simp),hok,.of_eq hg⟩
  refine pC ((F _ hKb (nsK hns)).run vM [] s₁ H ⟨[.ref a],[]⟩ [.ref a] [.ref a] _ _ hr e0 (hbind s₁ (.ref a)) (.cons rfl .nil) (hsp H hO hS)) fun r s' h=>?_
  cases r with
  | error e=>exact(hCX H e s' h).elim
  | ok fl=>
   cases fl with
   | next=>exact jX h
   | brk=>exact jX h
   | cont=>exact jX h
   | ret u=>
    obtain⟨v,H',os,bare,un,hok',r',q⟩:=h
    have q':v = .bl true:=q
    subst q'
    obtain rfl:u=Value.bool true:=r'
    refine⟨rfl,OldK.of_keep fun b o e=>?_,os,bare⟩
    cases q:H b with
    | none=>exact un.keep b o e q (by intro z; exact absurd (show b∈([]:List aB) from z) (by simp)) (by simp)
    | some u=>
     rcases hO b with z | ⟨ob,xs,z⟩
     ·rw[q] at z; cases z
     ·have z2:=un.frzs b ob _ z
      obtain⟨e1,_⟩:=hok b _ z
      obtain⟨e2,_⟩:=hok' b _ z2
      rw[e] at e1; cases e1
      exact e2
 cases hk:K.lookup a with
 | some o=>
  have e:=KX a o hk
  rw[ha] at e
  cases e
  refine core (fun _=>none) (fun _=>.inl rfl) (.inr ⟨_,vs.toArray,_,hk,rfl,rfl,rfl,by rw[eB,lenV]; exact hl,by simpa using rv⟩) (fun b u z=>by have z':(none:Option HO)=some u:=z; cases z') (fun b z=>absurd rfl z) fun z=>absurd rfl z
 | none=>
  refine core (fun b=>if b=a then some (.frz { cls:=.type "list",data:=.seq vs.toArray } (.lst (ns.map V.int))) else none) (fun b=>?_) (.inl (.inr ⟨{ cls:=.type "list",data:=.seq vs.toArray },if_pos rfl⟩)) (fun b u z=>?_) (fun b z=>?_) fun _=>hk
  ·by_cases hb:b=a
   ·exact .inr ⟨_,_,if_pos hb⟩
   ·exact .inl (if_neg hb)
  ·by_cases hb:b=a
   ·have z':=(if_pos hb).symm.trans z
    cases z'
    subst hb
    exact⟨ha,by rw[bX]; exact hl,vs,_,rv,ha⟩
   ·have z':=(if_neg hb).symm.trans z
    cases z'
  ·by_cases hb:b=a
   ·exact hb
   ·exact absurd (if_neg hb) z
theorem Bcx {l:Bm}{k:Nat}{q:bB}{loose:List aD}{XP:(aD->Option aE)->aP->Prop}{YP:aU->aP->Prop}{d:DefRec}{K:Params->aH}{CX:aU->CXT}{sp:aU->Sp}
  (hn:l.most=some n) (hn2:n≤sizeLine) (hdf:d.params.defaults=[]) (hr:Room k vM)
  (hY : ∀ (w:aU) (h:aP),YP w h->(K w.params).In h)
  (F : ∀ (w:aU) (mg:aD->Option aE) (fa:aB) (h:aP),(K w.params).In h->h.Ns cL mg->mg d.name=some (.ref fa) ->
   ∃ fd:fM,(∀ (s:aG) (u:aE),tK s fd ⟨[u],[]⟩ [(x,u)]) /\
    ∀ base:aP,(K w.params).In base->base.Ns cL mg->FnOk l.prog w (K w.params) mg base (CX w) k fa fd [x] (sp w))
  (hsp : ∀ (w:aU) (H:Hp) (a:aB) (ns:List Int),ns.length≤n->Only H->SqL (K w.params) H a (ns.map V.int)->sp w [.ref a] H (fun v _=>v = .bl true) fun _ _ _=>False)
  (hCX : ∀ (w:aU) (H:Hp) (s:aG) (e:aE) (s':aG),CX w [] H s (fun _ _ _=>False) e s'->False) :
  PySem.W.WalkO q loose XP YP l.row.toRowW d [] (fun f vs=>PySem.call f vs):=by
 refine Att.Aub hn hdf fun w s₀ s₁ mg mb fa o pm cd doc a vs ns G Y ho hd hcd hmg hobj hints hlen hg=>?_
 have KX:=hY w _ Y
 obtain⟨fd,hb,hF⟩:=F w mg fa _ KX G.T.g hmg
 exact Vd KX G.T.g G.T.b G.T.builtins G.T.nolimit hg hobj hints (iA hlen hn2) hr hF hb (fun H hO hS=>hsp w H a ns hlen hO hS) fun H e s'=>hCX w H s₁ e s'
def inClass (s:bW)(j:Nat):bW:=match s with
 | .ClassDef _ _ _ body _ _ _ _ _ _ _=>body.getD j (.Pass ⟨0,0,0,0⟩)
 | _=>.Pass ⟨0,0,0,0⟩
def kW (s:bW):Arguments:=match s with
 | .FunctionDef _ a _ _ _ _ _ _ _ _=>a
 | _=>{ posonlyargs:=[],args:=[],vararg:=none,kwonlyargs:=[],kw_defaults:=[],kwarg:=none,defaults:=[] }
def jB (s:bW):List bW:=match s with
 | .FunctionDef _ _ b _ _ _ _ _ _ _=>b
 | _=>[]
def cA (s:bW):iK:=match s with
 | .FunctionDef _ _ _ _ _ _ sc _ _ _=>sc
 | _=>{ kind:=.function,names:=[],isGenerator:=false,isCoroutine:=false }
abbrev CX0:CXT:=fun _ _ _ _ _ _=>False
abbrev E0:XK:=fun _ _ _=>False
theorem Fm:Passes CX0 X E0:=fun _ _ _ _ _ _ _ h=>h.elim
structure Fun (K:aH)(x qual:aD)(st:bW)(f:aB)(fd:fM):Prop where
 ex : ∃ (oc:aE) (od:Option aB) (kV doc pm:aE) (an:Option aB) (cdv ct:aE) (osl:Array (Option aE)),
  fd=kI x qual (kW st) (jB st) (cA st) .none kV doc pm an cdv ct/\K.lookup f=some ⟨oc,od,.func fd,osl⟩/\vO K cdv qual=true
 kp:lQ K (.ref f)=true
section
variable {w:aU}{K:aH}
theorem Fun.ok{fd:fM}{k:Nat}(F:Fun K x qual st f fd)(S:FnScope N ps (cA st))(len : ∀ vs H Q E,sp vs H Q E->vs.length=ps.length)
  (hbody : ∀ (cdv:aE) (A:bS) (outer:List eR) (s:aG) (H:Hp) (vs:List V) (Q:VK) (E:XK),Room k (A.deeper (iV qual (cA st) s.heap.objs.size f cdv))->sp vs H Q E ->
   ∃ t,PSs (jQ CX0 P w K mg base N qual (cA st) f cdv A outer s H E).nox (jB st) t/\t { nx:=fun _ H'=>Q .non H',rt:=Q } (start N vs) H):FnOk P w K mg base CX0 (k+1) f fd ps sp:=by
 obtain⟨oc,od,kV,doc,pm,an,cdv,ct,osl,rfl,lk,hcd⟩:=F.ex
 refine PU lk hcd S len fun A outer s H vs Q E hr hsp=>?_
 obtain⟨t,h,q⟩:=hbody cdv A outer s H vs Q E hr hsp
 exact⟨t,h.nox,q⟩
theorem Fun.binds{fd:fM}(F:Fun K x qual st f fd)
  (h : ∀ (kV doc pm:aE) (an:Option aB) (cdv ct:aE) (us:List aE),us.length=ps.length->zC (kI x qual (kW st) (jB st) (cA st) .none kV doc pm an cdv ct) ⟨us,[]⟩=pure (ps.zip us)):Binds K fd ps []:=by
 obtain⟨oc,od,kV,doc,pm,an,cdv,ct,osl,rfl,lk,hcd⟩:=F.ex
 exact .all (h kV doc pm an cdv ct)
theorem ME{oc:aE}{od an:Option aB}{osl:Array (Option aE)}{kV doc pm cdv ct:aE}(l:K.lookup f=some ⟨oc,od,.func (kI x qual (kW st) (jB st) (cA st) .none kV doc pm an cdv ct),osl⟩)
  (c:vO K cdv qual=true) (k:lQ K (.ref f)=true):Fun K x qual st f (kI x qual (kW st) (jB st) (cA st) .none kV doc pm an cdv ct):=⟨⟨oc,od,kV,doc,pm,an,cdv,ct,osl,rfl,l,c⟩,k⟩
end
theorem fG{k:Nat}(hr:Room k A):A.units+40<cLine:=Nat.lt_of_le_of_lt (Nat.add_le_add_left (by decide:40≤64) _) hr.units
theorem pv (i:Nat)(hN:X.N[i]?=some x:=by rfl)(hv:jZ X.env.scope x:=by first | exact bM rfl | exact bI (bM rfl) | exact bI (bI rfl))(hd:(x == ("__debug__" : aD))=false:=by decide)
  (hcd:(x == ("__classdict__" : aD))=false:=by decide):PE X (.Name x pos) (nD i):=lG hN hv hd hcd
theorem Ng:Adg X (.builtin "len") (fun xs H Q=>∃ a ep kvs,xs=[V.ref a]/\H a=some (.dK ep kvs)/\Q (.int kvs.length) H):=by
 intro pins s σ H xs us Q I r h
 obtain⟨a,ep,kvs,rfl,ha,q⟩:=h
 obtain⟨u,rfl,ru⟩:=vals1 r
 cases ru
 exact Fj I (.inl ha) fun t s' I'=>⟨.int kvs.length,H,I',⟨t,rfl⟩,q⟩
theorem mJ {A B:Prop}(h:B):if false=true then A else B:=by
 rw[if_neg rA]
 exact h
theorem nK {A B:Prop}(h:A):if true=true then A else B:=by
 rw[if_pos rfl]
 exact h
def Same (H H':Hp):Prop:=∀ b o,H b=some o->H' b=some o
theorem Same.trans {H2:Hp}(a:Same H H1)(b:Same H1 H2):Same H H2:=fun c o h=>b c o (a c o h)
theorem Same.free(e:Same H H')(h:H' l=MX):H l=MX:=by
 cases q:H l with
 | none=>rfl
 | some o=>
  rw[e l o q] at h
  cases h
section
variable {prog:bB}{w:aU}
theorem Qi {target:aS}{scope:iK}{it acc:aE}(I:Nat->aG->Prop)
  (turn : ∀ n s,I n s->aO (aQ prog w) A (pyNext it) (fun r s₁=>match r with
   | none=>R (.ok .next) s₁
   | some v=>aO (aQ prog w) A (ML target it v) (fun _ s₂=>aO (aQ prog w) A (lO target env v) (fun _ s₃=>
     aO (aQ prog w) A (forIn ifs true fun c r=>if r=true then do let ok ← isTrue c env (bH c env); pure (zR ok) else pure (zR r)) (fun ok s₄=>
      if ok=true then aO (aQ prog w) A (bH elt env) (fun x s₅=>
       aO (aQ prog w) A (call (.builtin "list.append") [acc,x]) (fun _ s₆=>∃ m,m<n/\I m s₆) (fun _ _=>False) s₅) (fun _ _=>False) s₄
      else ∃ m,m<n/\I m s₄) (fun _ _=>False) s₃) (fun _ _=>False) s₂) (fun _ _=>False) s₁) (fun _ _=>False) s)
  (n:Nat) (h:I n s):kX (aQ prog w) A (.compLoop (.ListComp elt [⟨target,iter,ifs,0⟩] scope pos) 0 it acc env) R s:=by
 refine codeAny_loop rfl I (fun n s hI=>?_) n h
 refine wpAny_noted ?_
 rw[compTurn_list]
 refine aJ (wpAny_standAt (aJ (kF (turn n s hI) (fun r s₁ h₁=>?_) fun _ _ h'=>h'.elim)))
 cases r with
 | none=>exact aT h₁
 | some v=>
  refine aJ (kF h₁ (fun _ s₂ h₂=>?_) fun _ _ h'=>h'.elim)
  refine aJ (kF h₂ (fun _ s₃ h₃=>aJ (kF h₃ (fun ok s₄ h₄=>?_) fun _ _ h'=>h'.elim)) fun _ _ h'=>h'.elim)
  cases ok with
  | false=>exact aT ⟨rfl,h₄⟩
  | true=>
   exact aJ (aJ (kF h₄ (fun x s₅ h₅=>aJ (kF h₅ (fun _ s₆ h₆=>aT (aT ⟨rfl,h₆⟩)) fun _ _ h'=>h'.elim)) fun _ _ h'=>h'.elim))
end
theorem cellOf_eq{n:aD}{c:aB}(h:env.cells.lookup n=some c):cellOf env n=pure c:=by
 unfold cellOf
 rw[h]
def fN (env:eR):List (aD×lT)->List (aD×aB)->List (aD×aB)
 | [],cs=>cs
 | (n,k)::r,cs=>fN env r (if (k == fZ)=true then(match env.cells.lookup n with | some c=>(n,c)::cs | none=>cs) else cs)
theorem XJ(h : ∀ n,(n,fZ)∈sc.names -> ∃ c,env.cells.lookup n=some c):closureFor sc env=pure (fN env sc.names []):=by
 unfold closureFor
 generalize sc.names=l at h
 have go : ∀ (l:List (aD×lT)) (cs:List (aD×aB)),(∀ n,(n,fZ)∈l -> ∃ c,env.cells.lookup n=some c) ->
   (forIn l cs (fun(x:aD×lT) (r:List (aD×aB))=>if (x.2 == fZ)=true then(do let c ← cellOf env x.1; pure (zR ((x.1,c)::r))) else pure (zR r)):Sem (List (aD×aB)))=pure (fN env l cs):=by
  intro l
  induction l with
  | nil=>intro cs _; rfl
  | cons p r ih=>
   intro cs hl
   obtain⟨n,k⟩:=p
   rw[List.forIn_cons]
   have hr : ∀ n,(n,fZ)∈r -> ∃ c,env.cells.lookup n=some c:=fun n hn=>hl n (bJ _ hn)
   cases hk:(k == fZ) with
   | true=>
    have ek:k=fZ:=by simpa using hk
    subst ek
    obtain⟨c,hc⟩:=hl n bD
    have e1:fN env ((n,fZ)::r) cs=fN env r ((n,c)::cs):=by
     show fN env r (if (fZ == fZ)=true then(match env.cells.lookup n with | some c=>(n,c)::cs | none=>cs) else cs)=_
     rw[hc]; rfl
    rw[e1]
    simp only[cellOf_eq hc,hk,if_true]
    exact ih ((n,c)::cs) hr
   | false=>
    have e1:fN env ((n,k)::r) cs=fN env r cs:=by
     show fN env r (if (k == fZ)=true then(match env.cells.lookup n with | some c=>(n,c)::cs | none=>cs) else cs)=_
     rw[hk]; rfl
    rw[e1]
    simp only[hk,gJ,if_false]
    exact ih cs hr
 have e:=go l [] h
 simp only[e]
 rfl
theorem KR : ∀ (l:List (aD×lT)) (cs:List (aD×aB)),(∀ x c,cs.lookup x=some c->env.cells.lookup x=some c) -> ∀ x c,(fN env l cs).lookup x=some c->env.cells.lookup x=some c
 | [],cs,h,x,c,e=>h x c e
 | (n,k)::r,cs,h,x,c,e=>by
  refine KR r _ ?_ x c e
  intro y d q
  by_cases hk:(k == fZ)=true
  ·rw[if_pos hk] at q
   cases hc:env.cells.lookup n with
   | none=>rw[hc] at q; exact h y d q
   | some a=>
    rw[hc] at q
    by_cases hy:(y == n)=true
    ·simp only[mM,hy] at q
     have:y=n:=by simpa using hy
     rw[this,hc]; exact q
    ·have hy':(y == n)=false:=by simpa using hy
     simp only[mM,hy'] at q
     exact h y d q
  ·rw[if_neg hk] at q; exact h y d q
theorem WT{c:aB}(hx:env.cells.lookup x=some c) : ∀ (l:List (aD×lT)) (cs:List (aD×aB)),cs.lookup x=some c->(fN env l cs).lookup x=some c
 | [],cs,h=>h
 | (n,k)::r,cs,h=>by
  refine WT hx r _ ?_
  by_cases hk:(k == fZ)=true
  ·rw[if_pos hk]
   cases hc:env.cells.lookup n with
   | none=>exact h
   | some a=>
    by_cases hy:(x == n)=true
    ·have:x=n:=by simpa using hy
     subst this
     rw[hx] at hc; cases hc
     simp[mM]
    ·have hy':(x == n)=false:=by simpa using hy
     simp only[mM,hy']; exact h
  ·rw[if_neg hk]; exact h
theorem KO{c:aB}(hx:env.cells.lookup x=some c) : ∀ (l:List (aD×lT)) (cs:List (aD×aB)),(x,fZ)∈l->(fN env l cs).lookup x=some c
 | [],cs,h=>by simp at h
 | (n,k)::r,cs,h=>by
  rcases cI.mp h with e | h
  ·cases e
   refine WT hx r _ ?_
   rw[if_pos (by rfl),hx]
   simp[mM]
  ·exact KO hx r _ h
theorem XG(x:aD):(vL sc env).names.lookup x=(sc.names.lookup x).map fun k=>if (k == fZ&&env.scope.kind == .function&&env.kindOf x == some .cell)=true then NameKind.cell else k:=by
 unfold vL
 induction sc.names with
 | nil=>rfl
 | cons p r ih=>
  obtain⟨n,k⟩:=p
  show jN x ((if (k == fZ&&env.scope.kind == .function&&env.kindOf n == some .cell)=true then(n,NameKind.cell) else(n,k))::List.map _ r)=_
  by_cases hy:(x == n)=true
  ·have:x=n:=by simpa using hy
   subst this
   by_cases hc:(k == fZ&&env.scope.kind == .function&&env.kindOf x == some .cell)=true
   ·rw[if_pos hc]
    simp only[mM,hy,sZ]
    rw[if_pos hc]
   ·rw[if_neg hc]
    simp only[mM,hy,sZ]
    rw[if_neg hc]
  ·have hy':(x == n)=false:=by simpa using hy
   have e2:jN x ((n,k)::r)=jN x r:=by simp only[mM,hy']
   rw[e2]
   by_cases hc:(k == fZ&&env.scope.kind == .function&&env.kindOf n == some .cell)=true
   ·rw[if_pos hc]
    simp only[mM,hy']
    exact ih
   ·rw[if_neg hc]
    simp only[mM,hy']
    exact ih
theorem lookup_mem {α:Type}{v:α} : ∀ {l:List (aD×α)},l.lookup x=some v->(x,v)∈l
 | [],h=>by simp at h
 | (n,k)::r,h=>by
  by_cases hy:(x == n)=true
  ·have:x=n:=by simpa using hy
   subst this
   simp[mM] at h
   subst h
   exact bD
  ·have hy':(x == n)=false:=by simpa using hy
   simp only[mM,hy'] at h
   exact bJ _ (lookup_mem h)
def iI (X:Cx)(N:List aD)(sc:iK)(cl:List (aD×aB))(C:aB)(s₀:aG)(H₀:Hp)(ex:List aB):Cx:=
 { X with N:=N,s₀:=s₀,H₀:=H₀,env:=compEnvC sc cl C X.env,outer:=X.stack,ex:=ex,fn:=fun _=>false,pn:=[],xe:=fun _ _=>False }
structure CompScope (X:Cx)(N:List aD)(cap:List (Option Nat))(sc:iK):Prop where
 kind:sc.kind = .function
 nocell : ∀ y∈sc.names,y.2 ≠ .cell
 nm : ∀ y∈sc.names,y.2 = .local->sc.names.lookup y.1=some .local
 fre : ∀ y∈sc.names,y.2 = .free->X.env.scope.names.lookup y.1=some .cell \/ X.env.scope.names.lookup y.1=some .free
 len:cap.length=N.length
 cap : ∀ (i j:Nat),cap[i]?=some (some j) -> ∃ x,N[i]?=some x/\X.N[j]?=some x/\sc.names.lookup x=some .free
def tP (cap:List (Option Nat))(σ:St):St:=cap.map fun o=>o.bind fun j=>(σ[j]?).join
def AH (X:Cx)(ifs:List aS)(t:TT):Prop:=
 ∀ (pins:List (aB×aW)) (s:aG) (σ:St) (H:Hp) (Q:Bool->Hp->Prop),Inv X pins σ H s->t σ H Q ->
  aO (aQ X.prog X.w) X.A (forIn ifs true fun c r=>if r=true then do let ok ← isTrue c X.env (bH c X.env); pure (zR ok) else pure (zR r)) (TP X pins σ Q) X.xe s
def Ex:TT:=fun _ H Q=>Q true H
theorem Jm:AH X [] Ex:=fun _ _ _ H _ I h=>wpAny_tests_nil ⟨H,I,h⟩
def OP (cap:List (Option Nat))(J:It)(g:TG)(tc:TT)(te:TE)(σ:St)(H1:Hp)(Q:VK):Prop:=∀ D,H1 D=none ->
 ∃ W:Nat->Nat->List V->St->Hp->Prop,(∃ m,W 0 m [] (tP cap σ) (upd H1 D (.lst []))) /\
  ∀ i m ys σ' H',W i m ys σ' H'->H' D=some (.lst ys)/\((J.stop i H'/\Q (.ref D) H') \/
   (J.go i H'/\ys.length<sizeLine /\ ∃ M:List V->St->Hp->Prop,(∀ zs σ2 H2,M zs σ2 H2 -> ∃ m',m'<m/\W (i+1) m' zs σ2 H2) /\ ∀ x H2,J.yld i H' x H2->g x σ' H2 fun σ3 H3=>tc σ3 H3 fun b H4=>
    if b=true then te σ3 H4 fun y H5=>H5 D=some (.lst ys)/\M (ys++[y]) σ3 (upd H5 D (.lst (ys++[y]))) else M ys σ3 H4))
def tLC (cap:List (Option Nat))(wi:TI)(g:TG)(tc:TT)(te:TE):TE:=fun σ H Q=>wi σ H fun J H1=>OP cap J g tc te σ H1 Q
section
variable {σ:St}
theorem CompScope.cells (S:CompScope X N cap sc)(ok:X.Ok) : ∀ n,(n,fZ)∈sc.names -> ∃ c,X.env.cells.lookup n=some c:=fun n hn=>ok.has n (S.fre _ hn rfl)
theorem Wz (S:CompScope X N cap sc){fp:List aB}(I:Inv X pins σ H s)(hf : ∀ b∈fp,jR X pins H b)(hl : ∀ b∈fp,b<s.heap.objs.size) :
  (iI X N sc (fN X.env sc.names []) s.heap.objs.size s H fp).Ok:=by
 have sub : ∀ x c,(fN X.env sc.names []).lookup x=some c->X.env.cells.lookup x=some c:=KR sc.names [] (fun x c e=>by simp at e)
 refine⟨I.ok.mod,?_,I.ok.glob,I.ok.blt,bP _,?_,?_,?_,I.ok.hd,I.ok.frames,.inl rfl,?_,I.bs,iA I.ok.bsz I.sz,?_,?_,I.stack,I.stkFree⟩
 ·exact S.kind
 ·intro x y c h1 h2
  exact I.ok.inj x y c (sub x c h1) (sub y c h2)
 ·intro x hx
  have hk:(vL sc X.env).names.lookup x=some .cell \/ (vL sc X.env).names.lookup x=some .free:=hx
  have hfree:sc.names.lookup x=some .free:=by
   rw[XG] at hk
   cases e:sc.names.lookup x with
   | none=>rw[e] at hk; simp at hk
   | some k=>
    rw[e] at hk
    have hm:=lookup_mem e
    have nc:=S.nocell _ hm
    simp only[sZ,vP] at hk
    by_cases hc:(k == fZ&&X.env.scope.kind == .function&&X.env.kindOf x == some .cell)=true
    ·have:(k == fZ)=true:=by
      simp only[vZ] at hc; exact hc.1.1
     rw[show k=fZ by simpa using this]
    ·rw[if_neg hc] at hk
     rcases hk with q | q
     ·exact absurd q nc
     ·rw[q]
  obtain⟨c,hc⟩:=S.cells I.ok x (lookup_mem hfree)
  exact⟨c,KO hc _ _ (lookup_mem hfree)⟩
 ·intro x c h1 _
  exact absurd (show false=true from h1) rA
 ·intro b hb
  refine⟨dG (hl b hb),fun x c e=>(hf b hb).2.2.2.2.1 x c (sub x c e)⟩
 ·intro b o e hb
  rcases(hf b hb).2.2.2.1 with z | z
  ·exact I.ok.noex b o e z
  ·exact absurd (gG (cG e) (iA I.ok.bsz z)) (lB _)
 ·intro b hb hz
  obtain⟨_,h1,h2,_⟩:=hf b hb
  rcases cI.mp (I.stkSub b hz) with e | e
  ·exact h1 e
  ·exact h2 e
theorem Tr (S:CompScope X N cap sc){fp:List aB}{tk:Nat}(I:Inv X pins σ H s)(hf : ∀ b∈fp,jR X pins H b)(hl : ∀ b∈fp,b<s.heap.objs.size)
  (hn:h'.Ns s.heap.objs.size fun _=>none) (hk : ∀ b o,s.heap.get? b=some o->h'.get? b=some o) :
  Inv (iI X N sc (fN X.env sc.names []) s.heap.objs.size s H fp) [] (tP cap σ) H { s with heap:=h',toks:=tk }:=by
 have sub : ∀ x c,(fN X.env sc.names []).lookup x=some c->X.env.cells.lookup x=some c:=KR sc.names [] (fun x c e=>by simp at e)
 have fr:H s.heap.objs.size=none:=I.hok.fresh (bP _)
 refine⟨Wz S I hf hl,rfl,I.bare,Un.kept hk,⟨_,hn,fun i x v e1 e2 e3=>?_⟩,fun x c e=>?_,fr,fun x c e=>I.freeC x c (sub x c e),fun p hp=>by simp[iI] at hp,I.hok.kept hk,?_⟩
 ·have e2':(cap.map fun o=>o.bind fun j=>(σ[j]?).join)[i]?=some (some v):=e2
  rw[fD] at e2'
  cases hc:cap[i]? with
  | none=>rw[hc] at e2'; simp at e2'
  | some o=>
   rw[hc] at e2'
   simp only[sZ,vP] at e2'
   cases o with
   | none=>simp at e2'
   | some j=>
    have e2':(σ[j]?).join=some v:=e2'
    have ej:σ[j]?=some (some v):=by
     cases q:σ[j]? with
     | none=>rw[q] at e2'; simp at e2'
     | some z=>rw[q] at e2'; simp at e2'; rw[e2']
    obtain⟨y,n1,n2,fr1⟩:=S.cap i j hc
    have exy:x=y:=dZ (e1.symm.trans n1)
    subst exy
    have hmem:=lookup_mem fr1
    have hkind:=S.fre _ hmem rfl
    obtain⟨m,_,hlk⟩:=I.loc
    obtain⟨u,r,l⟩:=hlk j x v n2 ej (.inr hkind)
    refine⟨u,r,.inr ⟨?_,?_⟩⟩
    ·show(vL sc X.env).names.lookup x=some .cell \/ (vL sc X.env).names.lookup x=some .free
     rw[XG,fr1]
     simp only[sZ,vP]
     by_cases hc:(fZ == fZ&&X.env.scope.kind == .function&&X.env.kindOf x == some .cell)=true
     ·exact .inl (if_pos hc)
     ·exact .inr (if_neg hc)
    ·rcases l with⟨k1,_⟩ | ⟨_,c,hc1,hcell⟩
     ·exfalso
      have k1':X.env.scope.names.lookup x=some .local:=k1
      rcases hkind with q | q
      ·rw[k1'] at q; cases q
      ·rw[k1'] at q; cases q
     ·obtain⟨oc,h1,h2⟩:=hcell
      exact⟨c,KO hc1 _ _ hmem,oc,hk _ _ h1,h2⟩
 ·obtain⟨v,oc,h1,h2⟩:=I.cell x c (sub x c e)
  exact⟨v,oc,hk _ _ h1,h2⟩
 ·show(cap.map _).length=N.length
  rw[bX,S.len]
theorem comp_back {fp:List aB}{cl:List (aD×aB)}{σ':St}{pl:List (aB×aW)}(I:Inv X pins σ H s)(hf : ∀ b∈fp,jR X pins H b)
  (I':Inv (iI X N sc cl s.heap.objs.size s H fp) pl σ' H' s'):Inv X pins σ H' s':=
 I.call' I'.os (show Un (frs X.stack) fp H H' s.heap s'.heap from I'.base) I'.hok I'.bare fun b hb=>⟨(hf b hb).2.2.2.1,(hf b hb).2.1,(hf b hb).2.2.2.2.1,(hf b hb).2.2.2.2.2⟩
end
section
variable {wi:TI}{g:TG}{tc:TT}{te:TE}
def Block (X:Cx)(N:List aD)(sc:iK)(tg elt:aS)(ifs:List aS)(g:TG)(tc:TT)(te:TE):Prop:=
 ∀ (cl:List (aD×aB)) (C:aB) (s₀:aG) (H₀:Hp) (ex:List aB),PG (iI X N sc cl C s₀ H₀ ex) tg g/\AH (iI X N sc cl C s₀ H₀ ex) ifs tc/\PE (iI X N sc cl C s₀ H₀ ex) elt te
theorem Aj{σ:St}{RR:aE->aB->qS->aG->Prop}(hc:X.calm=true)(S:CompScope X N cap sc)(hb:Block X N sc tg elt ifs g tc te)
  {it:aB} {fp:List aB} {tn:Nat->aP->Prop} {J:It} {Q:VK} (I:Inv X pins σ H s) (T:Turn X.prog X.w X.K tg J fp it tn) (st:tn 0 s.heap) (hf : ∀ b∈fp,jR X pins H b)
  (q:OP cap J g tc te σ H Q)
  (hRR : ∀ (D:aB) (s₀:aG) (H₀:Hp) (σ':St) (H':Hp) (s':aG),Inv X pins σ H₀ s₀->(∀ b∈fp,jR X pins H₀ b)->Inv (iI X N sc (fN X.env sc.names []) s₀.heap.objs.size s₀ H₀ fp) [] σ' H' s'->Q (.ref D) H' ->
   RR (.ref D) s₀.heap.objs.size (.ok .next) s') :
  aO (aQ X.prog X.w) X.A (newList []) (fun acc s₃=>aO (aQ X.prog X.w) X.A (newFunctionEnv sc X.env.globals (fN X.env sc.names []) [] X.env.qual none .none (some X.env)) (fun cenv s₄=>
   kX (aQ X.prog X.w) X.A (.compStart (.ListComp elt [⟨tg,iter,ifs,0⟩] sc pos) 0 (.ref it) acc { cenv with scope:=vL sc X.env }) (RR acc cenv.locals) s₄) E s₃) E s:=by
 have hl : ∀ b∈fp,b<s.heap.objs.size:=fun b hb=>by
  obtain⟨o,e,_⟩:=T.obj 0 _ st b hb
  exact cG e
 refine EJ (wpAny_newFunctionEnv S.nocell (by intro y hy; simp at hy) (fun h₁ hns₁ hsb₁=>?_) S.kind)
 dsimp only at hns₁ hsb₁ ⊢
 have I0:Inv X pins σ (upd H s.heap.objs.size (.lst [])) { s with heap:=s.heap.push { cls:=.type "list",data:=.seq ([]:List aE).toArray },toks:=s.toks }:=I.lnew (ys:=[]) .nil (by simp)
 obtain⟨W,⟨m0,w0⟩,turn⟩:=q s.heap.objs.size I.fresh
 generalize hs0:({ s with heap:=s.heap.push { cls:=.type "list",data:=.seq ([]:List aE).toArray },toks:=s.toks }:aG)=s0 at I0
 have hh:s.heap.push { cls:=.type "list",dict:=none,data:=.seq ([]:List aE).toArray }=s0.heap:=by rw[← hs0]
 have ht0:s0.toks=s.toks:=by rw[← hs0]
 have hg0:s0.gens=s.gens/\s0.drawn=s.drawn/\s0.os=s.os:=by rw[← hs0]; exact⟨rfl,rfl,rfl⟩
 rw[hh] at hns₁ hsb₁ ⊢
 have old0 : ∀ b o,s.heap.get? b=some o->s0.heap.get? b=some o:=fun b o e=>by rw[← hh]; exact cJ _ e
 have old1 : ∀ b o,s0.heap.get? b=some o->h₁.get? b=some o:=fun b o e=>hsb₁.extBut b o (dG (cG e)) (cJ _ e)
 have hl0 : ∀ b∈fp,b<s0.heap.objs.size:=fun b hb=>by
  obtain⟨o,e,_⟩:=T.obj 0 _ st b hb
  exact cG (old0 b o e)
 have hf0 : ∀ b∈fp,jR X pins (upd H s.heap.objs.size (.lst [])) b:=fun b hb=>by
  refine⟨?_,(hf b hb).2⟩
  rw[bK (dG (hl b hb))]
  exact(hf b hb).1
 have I1:Inv (iI X N sc (fN X.env sc.names []) s0.heap.objs.size s0 (upd H s.heap.objs.size (.lst [])) fp) [] (tP cap σ) (upd H s.heap.objs.size (.lst [])) { s0 with heap:=h₁,toks:=s.toks+0 }:=
  Tr S I0 hf0 hl0 hns₁ old1
 obtain⟨pg,pf,pe⟩:=hb (fN X.env sc.names []) s0.heap.objs.size s0 (upd H s.heap.objs.size (.lst [])) fp
 have st1:tn 0 h₁:=T.keep _ _ _ st fun b hb o e=>old1 b o (old0 b o e)
 have stat : ∀ {H':Hp},(∀ b∈fp,H' b=none) -> ∀ b∈fp,jR (iI X N sc (fN X.env sc.names []) s0.heap.objs.size s0 (upd H s.heap.objs.size (.lst [])) fp) [] H' b:=fun hn b hb=>
  ⟨hn b hb,(I1.ok.exf b hb).1,I1.ok.exfs b hb,.inl hb,(I1.ok.exf b hb).2,fun p hp=>by simp[iI] at hp⟩
 have loop : ∀ s3:aG,s3 = { s0 with heap:=h₁,toks:=s.toks+0 } ->
   kX (aQ X.prog X.w) X.A (.compLoop (.ListComp elt [⟨tg,iter,ifs,0⟩] sc pos) 0 (.ref it) (.ref s.heap.objs.size) (compEnvC sc (fN X.env sc.names []) s0.heap.objs.size X.env)) (RR (.ref s.heap.objs.size) s0.heap.objs.size) s3:=by
  rintro s3 rfl
  refine Qi (fun n s'=>∃ i ys σ' H',Inv (iI X N sc (fN X.env sc.names []) s0.heap.objs.size s0 (upd H s.heap.objs.size (.lst [])) fp) [] σ' H' s'/\tn i s'.heap/\(∀ b∈fp,H' b=none)/\W i n ys σ' H') ?_ m0
   ⟨0,[],tP cap σ,_,I1,st1,fun b hb=>(hf0 b hb).1,w0⟩
  rintro n s3 ⟨i,ys,σ3,H3,I3,st3,fr3,w3⟩
  obtain⟨hD,h3⟩:=turn i n ys σ3 H3 w3
  rcases h3 with⟨stop,qn⟩ | ⟨go,hlen,M,hM,step⟩
  ·refine thn (T.done (iI X N sc (fN X.env sc.names []) s0.heap.objs.size s0 (upd H s.heap.objs.size (.lst [])) fp) rfl rfl rfl hc i [] s3 σ3 H3 (fun _ _=>False) I3 (stat fr3) st3 stop) fun r s4 gh=>?_
   obtain⟨hr,I4⟩:=gh
   subst hr
   exact hRR _ s0 _ σ3 H3 s4 I0 hf0 I4 qn
  ·refine thn (T.item (iI X N sc (fN X.env sc.names []) s0.heap.objs.size s0 (upd H s.heap.objs.size (.lst [])) fp) rfl rfl rfl hc i [] s3 σ3 H3 (fun _ _=>False) I3 (stat fr3) st3 go) fun r s4 gh=>?_
   obtain⟨u,hr,h4⟩:=gh
   subst hr
   refine thn h4 fun _ s5 gh=>?_
   obtain⟨x,H5,I5,r5,y5,st5,fr5⟩:=gh
   have I5':=I5.pinned (stat fr5) (T.obj _ _ st5)
   refine thn (pg _ s5 σ3 H5 x u _ I5' r5 (step x H5 y5)) fun _ s6 gh=>?_
   obtain⟨σ6,H6,I6,q6⟩:=gh
   refine thn (pf _ s6 σ6 H6 _ I6 q6) fun b s7 gh=>?_
   obtain⟨H7,I7,q7⟩:=gh
   have again : ∀ {s8:aG} {H8:Hp} {zs:List V},Inv (iI X N sc (fN X.env sc.names []) s0.heap.objs.size s0 (upd H s.heap.objs.size (.lst [])) fp) ([]++xC fp s5.heap) σ6 H8 s8->M zs σ6 H8 ->
     ∃ m,m<n /\ ∃ i ys σ' H',Inv (iI X N sc (fN X.env sc.names []) s0.heap.objs.size s0 (upd H s.heap.objs.size (.lst [])) fp) [] σ' H' s8/\tn i s8.heap/\(∀ b∈fp,H' b=none)/\W i m ys σ' H':=fun {s8 H8 zs} I8 w8=>by
    obtain⟨m',hm,w8⟩:=hM _ _ _ w8
    refine⟨m',hm,i+1,zs,σ6,H8,I8.unpinned,T.keep _ _ _ st5 fun b hb o e=>(I8.pin (b,o) (lU _ (lU _ (CV hb e)))).1,fun b hb=>?_,w8⟩
    obtain⟨o,e,d⟩:=T.obj _ _ st5 b hb
    exact(I8.pin (b,o) (lU _ (lU _ (CV hb e)))).2.1
   cases b with
   | false=>
    rw[if_neg rA] at q7 ⊢
    exact again I7 q7
   | true=>
    rw[if_pos rfl] at q7 ⊢
    refine thn (pe _ s7 σ6 H7 _ I7 q7) fun v s8 gh=>?_
    obtain⟨y,H8,I8,r8,hD8,w8⟩:=gh
    refine thn (CO _ s8 σ6 H8 (.ref s.heap.objs.size) [y] (.ref s.heap.objs.size) [v] (fun _ H9=>H9=upd H8 s.heap.objs.size (.lst (ys++[y]))) I8 rfl (.cons r8 .nil) ⟨_,ys,y,rfl,rfl,hD8,hlen,rfl⟩) fun _ s9 gh=>?_
    obtain⟨_,H9,I9,_,e9⟩:=gh
    subst e9
    exact again I9 w8
 have e3:({ s with heap:=h₁,toks:=s.toks+([]:List (aD×aE)).length }:aG) = { s0 with heap:=h₁,toks:=s.toks+0 }:=by
  rw[← hs0]; rfl
 have fin:=codeAny_compStart_list (loop _ rfl) (T.self X.A 0 _ _ _ st1 (loop _ rfl))
 rw[← e3] at fin
 exact fin
theorem Fh (hc:X.calm=true)(S:CompScope X N cap sc)(hi:PI X tg iter wi)(hb:Block X N sc tg elt ifs g tc te)(hs : ∀ x,sW iter X.env x=pure x:=by intro _; rfl) :
  PE X (.ListComp elt [⟨tg,iter,ifs,0⟩] sc pos) (tLC cap wi g tc te):=by
 intro pins s σ H Q I h
 rw[eval_ListComp]
 refine wpAny_comprehension_free rfl hs (XJ (S.cells I.ok)) S.kind S.nm (thn (hi pins s σ H _ I h) fun v s1 h1=>thn h1 fun itv s2 h2=>?_)
 obtain⟨it,fp,tn,J,H2,e,I2,T,st2,f2,q2⟩:=h2
 subst e
 refine Aj hc S hb I2 T st2 f2 q2 ?_
 intro D s₀ H₀ σ' H' s' I0 f0 I' qD
 obtain⟨m,hn,_⟩:=id I'.loc
 have IX:=comp_back I0 f0 I'
 refine⟨m,hn,fun h' hs'=>⟨.ref D,H',?_,rfl,qD⟩⟩
 exact IX.turned (fun b o hb e=>(hs'.2 b hb).trans e) I'.free (qV I0.lt) (.inr I0.sz) (fun x c e z=>by
  obtain⟨v,oc,h1,_⟩:=I0.cell x c e
  exact absurd (cG h1) (by rw[z]; exact lB _)) fun p hp z=>by
   have h1:=(I0.pin p hp).1
   exact absurd (cG h1) (by rw[z]; exact lB _)
theorem Ts(hc:X.calm=true)(hN:X.N.Nodup)(hi':X.N[i]?=some x)(hx:kK X.env.scope x)(S:CompScope X N cap sc)(hi:PI X tg iter wi)(hb:Block X N sc tg elt ifs g tc te)
  (hsw:kG (.ListComp elt [⟨tg,iter,ifs,0⟩] sc pos) (some (.Name x px)) spos.line X.env=pure true:=by rfl)
  (hs : ∀ x,sW iter X.env x=pure x:=by intro _; rfl) (hf:X.fn x=true \/ X.env.scope.names.lookup x=some .local:=by first | exact .inl rfl | exact .inr rfl | assumption) :
  PS X (.Assign [.Name x px] (.ListComp elt [⟨tg,iter,ifs,0⟩] sc pos) spos) (GF (tLC cap wi g tc te) (GN i)):=by
 intro pins s σ H D I h
 rw[exec_Assign_Name_used _ _ _ _ hsw]
 refine aJ (wpAny_standAt (aJ ?_))
 refine aJ (kF (wpAny_comprehension_free rfl hs (XJ (S.cells I.ok)) S.kind S.nm
  (thn (hi pins s σ H _ I h) fun v s1 h1=>thn h1 fun itv s2 h2=>?_)) (fun _ s' hq=>aT (aT hq)) fun _ _ e=>e)
 obtain⟨it,fp,tn,J,H2,e,I2,T,st2,f2,q2⟩:=h2
 subst e
 refine Aj hc S hb I2 T st2 f2 q2 ?_
 intro D' s₀ H₀ σ' H' s' I0 f0 I' qD
 obtain⟨m,hn,_⟩:=id I'.loc
 have IX:=comp_back I0 f0 I'
 have cellNe : ∀ x c,X.env.cells.lookup x=some c->c≠s₀.heap.objs.size:=fun x c e z=>by
  obtain⟨v,oc,h1,_⟩:=I0.cell x c e
  exact absurd (cG h1) (by rw[z]; exact lB _)
 refine wpAny_assign_Name (TX IX hN hi' hx (show RelV (.ref D') (.ref D') from rfl) (fun s3 I3 ch=>?_) hf)
 obtain⟨a,sb,ha⟩:=ch
 have hne:s₀.heap.objs.size≠a:=by
  rcases ha with z | z
  ·rw[z]; exact qV I0.lt
  ·exact fun q=>cellNe x a z q.symm
 refine⟨m,Heap.Ns.sameBut hn sb hne,fun h' hs'=>⟨_,H',?_,qD⟩⟩
 exact I3.turned (fun b o hb e=>(hs'.2 b hb).trans e) I'.free (qV I0.lt) (.inr I0.sz) cellNe fun p hp z=>by
  have h1:=(I0.pin p hp).1
  exact absurd (cG h1) (by rw[z]; exact lB _)
end
def ZR (out:List (aD×lT))(XN N:List aD)(cap:List (Option Nat))(ns:List (aD×lT)):Bool:=
 ns.all (fun y=>y.2 != .cell)&&ns.all (fun y=>y.2 != .local||ns.lookup y.1 == some .local)&&ns.all (fun y=>y.2 != .free||out.lookup y.1 == some .cell||out.lookup y.1 == some .free) &&
 cap.length == N.length&&(cap.zip N).all (fun p=>match p.1 with | none=>true | some j=>XN[j]? == some p.2&&ns.lookup p.2 == some .free)
theorem mY{out:List (aD×lT)}{XN:List aD}(h1:X.env.scope.names=out)(h2:X.N=XN)(chk:ZR out XN N cap sc.names=true)(hk:sc.kind = .function):CompScope X N cap sc:=by
 unfold ZR at chk
 simp only[vZ,eE,bne_iff_ne,ne_eq,Bool.or_eq_true,beq_iff_eq] at chk
 obtain⟨⟨⟨⟨c1,c2⟩,c3⟩,c4⟩,c5⟩:=chk
 refine⟨hk,c1,fun y hy e=>?_,fun y hy e=>?_,c4,fun i j e=>?_⟩
 ·rcases c2 y hy with q | q
  ·exact absurd e q
  ·exact q
 ·rw[h1]
  rcases c3 y hy with(q | q) | q
  ·exact absurd e q
  ·exact .inl q
  ·exact .inr q
 ·have hi:=(dM.mp e).1
  have hi':i<N.length:=by omega
  have hm:(cap[i],N[i])∈cap.zip N:=by
   have:(cap.zip N)[i]?=some (cap[i],N[i]):=by
    rw[List.getElem?_zip_eq_some]
    exact⟨jW hi,jW hi'⟩
   exact iW this
  have q:=c5 _ hm
  have ec:cap[i]=some j:=by
   rw[jW hi] at e
   exact dZ e
  rw[ec] at q
  simp only[vZ,beq_iff_eq] at q
  exact⟨N[i],jW hi',by rw[h2]; exact q.1,q.2⟩
abbrev Ext (H H':Hp):Prop:=∀ b o,H b=some o->H' b=some o
theorem Ext.refl:Ext H H:=fun _ _ e=>e
theorem Ext.trans {H2:Hp}(a:Ext H H1)(b:Ext H1 H2):Ext H H2:=fun x o e=>b x o (a x o e)
theorem Ext.new{p:aB}(n:H p=none):Ext H (upd H p o):=fun b u e=>by
 rw[bK (hJ e n)]; exact e
theorem Ext.rd(x:Ext H H'){u:HO}(r:Rd H a u):Rd H' a u:=by
 rcases r with r | ⟨o,r⟩
 ·exact .inl (x _ _ r)
 ·exact .inr ⟨o,x _ _ r⟩
theorem Ext.sqL {K:aH}(x:Ext H H'){xs:List V}(h:SqL K H a xs):SqL K H' a xs:=h.imp x.rd id
theorem Ext.none(x:Ext H H')(h:H' a=MX):H a=MX:=by
 cases e:H a with
 | none=>rfl
 | some o=>rw[x a o e] at h; cases h
theorem Ext.ty {K:aH}(x:Ext H H'){v:V}{t:aE}(h:TyOf K H v t):TyOf K H' v t:=by
 cases h with
 | non=>exact .non
 | bl b=>exact .bl b
 | int i=>exact .int i
 | str y=>exact .str y
 | flt y=>exact .flt y
 | lst e=>exact .lst (x _ _ e)
 | frz e=>exact .frz (x _ _ e)
 | tup e=>exact .tup (x _ _ e)
 | dK e=>exact .dK (x _ _ e)
 | dT e=>exact .dT (x _ _ e)
 | ins e cl ha hn htk hm=>exact .ins (x _ _ e) cl ha hn htk hm
open Classical in
def hid (H:Hp)(P:aB->Prop):Hp:=fun a=>if P a then none else H a
theorem Abu{P:aB->Prop}:hid H P a=some o ↔ ¬ P a/\H a=some o:=by
 unfold hid
 by_cases h:P a <;> simp[h]
theorem eO{P:aB->Prop}(n : ¬ P a)(e:H a=some o):hid H P a=some o:=Abu.mpr ⟨n,e⟩
theorem Aay{P:aB->Prop}:Ext (hid H P) H:=fun _ _ e=>(Abu.mp e).2
theorem cE{P:aB->Prop}(x:Ext H H'):Ext (hid H P) (hid H' P):=fun b o e=>by
 obtain⟨n,e⟩:=Abu.mp e
 exact eO n (x b o e)
theorem gE{P P':aB->Prop}(s : ∀ a,P' a->P a):Ext (hid H P) (hid H P'):=fun b o e=>by
 obtain⟨n,e⟩:=Abu.mp e
 exact eO (fun q=>n (s b q)) e
inductive DQ where
 | inl (kvs:Nat×List (aL×V)) | inr (ts:Nat×List (List aA×V)) | ins (C dx:aB) (fs:List (aD×V))
def dO:DQ->HO
 | .inl kvs=>.dK kvs.1 kvs.2
 | .inr ts=>.dT ts.1 ts.2
 | .ins C dx fs=>.ins C dx fs
def Hid (P:aB->Prop)(H:Hp):Prop:=∀ a,P a->(∃ xs,H a=some (.lst xs)) \/ ∃ q:DQ,H a=some (dO q)
theorem Hid.ext {P:aB->Prop}(h:Hid P H)(x:Ext H H'):Hid P H':=fun a p=>(h a p).imp (fun⟨xs,e⟩=>⟨xs,x _ _ e⟩) fun⟨xs,e⟩=>⟨xs,x _ _ e⟩
theorem Hid.new {P:aB->Prop}(h:Hid P H)(n:H a=none) : ¬ P a:=fun p=>by
 rcases h a p with⟨xs,e⟩ | ⟨xs,e⟩ <;> rw[n] at e <;> cases e
theorem Hid.tup {P:aB->Prop}(h:Hid P H){xs:List V}(e:H a=some (.tup xs)):hid H P a=some (.tup xs):=eO (fun p=>by
 rcases h a p with⟨ys,e2⟩ | ⟨ys,e2⟩ <;> rw[e] at e2 <;> first | cases e2 | (cases ys <;> simp[dO] at e2)) e
abbrev orL (P:aB->Prop)(F:List aB):aB->Prop:=fun a=>P a \/ a∈F
theorem QS {P:aB->Prop}:orL P []=P:=by
 funext a
 simp[orL]
def kD:aL->aA
 | .inl i=>.int i
 | .inr x=>.str x
def OE (a:aB)(kvs:Nat×List (V×V)):HO:=.ext fun h=>kvs.2.length≤sizeLine/\(a == iU)=false /\ ∃ o es,h.get? a=some o/\o.ExactDict/\o.data = .dict es kvs.1/\dB (fun(p:V×V) (e:nY)=>RelV p.1 e.key/\RelV p.2 e.val) kvs.2 es.toList
def eK (K:aH)(c:aD):Option aE:=(dP K cL c).join
def Bg4 (x:aB)(cls:aE)(h:aP):Prop:=∃ o,h.get? x=some o/\o.cls=cls /\ ∃ vs,o.data = .fields vs
def exO (cls:aE)(a:aB):HO:=.ext (Bg4 a cls)
def A8d (K:aH)(H:Hp)(kds:List (aA×aA))(a:aB):Prop:=(∃ c cls,kds=[(.none,.str c),(.none,.none)]/\eK K c=some cls/\H a=some (exO cls a)) \/ ∃ c,kds=[(.none,.str c),(.none,.bool false)]/\eK K c=some (.ref a)
theorem A8d.mark {K:aH}(h:A8d K H kds a) : ∃ c m,kds=[(.none,.str c),(.none,m)]:=by
 rcases h with⟨c,_,e,_⟩ | ⟨c,e,_⟩
 ·exact⟨c,_,e⟩
 ·exact⟨c,_,e⟩
theorem A8d.ext {K:aH}(x:Ext H H')(h:A8d K H kds a):A8d K H' kds a:=h.imp (fun⟨c,cls,e,h1,h2⟩=>⟨c,cls,e,h1,x _ _ h2⟩) id
mutual
def Abb (K:aH)(H:Hp):aA->V->Prop
 | .none,v=>v = .non
 | .bool b,v=>v = .bl b
 | .int i,v=>v = .int i
 | .str x,v=>v = .str x/\cQ (.str x)=true
 | .list ds,v=>∃ a xs,v = .ref a/\SqL K H a xs/\Aan K H ds xs
 | .tuple ds,v=>∃ a xs,v = .ref a/\H a=some (.tup xs)/\Aan K H ds xs
 | .dict kds,v=>∃ a,v = .ref a/\((∃ kvs:Nat×List (aL×V),H a=some (.dK kvs.1 kvs.2)/\Abj K H kds kvs.2) \/ (∃ ts:Nat×List (List aA×V),H a=some (.dT ts.1 ts.2)/\Ayb K H kds ts.2) \/ (∃ xs,H a=some (OE a xs)/\Aze K H kds xs.2) \/ A8d K H kds a \/ A2m K H kds a)
def Aan (K:aH)(H:Hp):List aA->List V->Prop
 | [],xs=>xs=[]
 | d::ds,xs=>∃ x r,xs=x::r/\Abb K H d x/\Aan K H ds r
def Abj (K:aH)(H:Hp):List (aA×aA)->List (aL×V)->Prop
 | [],xs=>xs=[]
 | (k,d)::ds,xs=>∃ k' x r,xs=(k',x)::r/\k=kD k'/\Abb K H d x/\Abj K H ds r
def Ab5 (K:aH)(H:Hp):List (aA×aA)->List (List aA×V)->Prop
 | [],xs=>xs=[]
 | (k,d)::ds,xs=>∃ k' x r,xs=(k',x)::r/\(k = .tuple k'/\bU k'=true)/\Abb K H d x/\Ab5 K H ds r
def Ayb (K:aH)(H:Hp):List (aA×aA)->List (List aA×V)->Prop
 | [],_=>False
 | (k,_)::ds,xs=>k = .none/\Ab5 K H ds xs
def Aze (K:aH)(H:Hp):List (aA×aA)->List (V×V)->Prop
 | [],_=>False
 | (k,m)::ds,xs=>k = .none/\ds=[(.none,.none)]/\Ass K H m xs
def Ass (K:aH)(H:Hp):aA->List (V×V)->Prop
 | .list es,xs=>Ail K H es xs
 | _,_=>False
def Ail (K:aH)(H:Hp):List aA->List (V×V)->Prop
 | [],xs=>xs=[]
 | d::ds,xs=>∃ x r,xs=x::r/\An9 K H d x/\Ail K H ds r
def An9 (K:aH)(H:Hp):aA->V×V->Prop
 | .tuple ds,x=>Aan K H ds [x.1,x.2]
 | _,_=>False
def A2m (K:aH)(H:Hp):List (aA×aA)->aB->Prop
 | [],_=>False
 | (k,m)::ds,a=>k = .none /\ ∃ c C dx fs,m = .str c/\eK K c=some (.ref C)/\H a=some (.ins C dx fs)/\Ai6 K H ds fs
def Ai6 (K:aH)(H:Hp):List (aA×aA)->List (aD×V)->Prop
 | [],fs=>fs=[]
 | (k,m)::ds,fs=>∃ f x r,fs=(f,x)::r/\k = .none/\An9 K H m (.str f,x)/\Ai6 K H ds r
end
def plK:List (aA×aA)->Bool
 | (.none,_)::_=>false
 | _=>true
section
variable {K:aH}
theorem Ab8 {v:V}:Abb K H .none v↔v = .non:=by simp[Abb]
theorem Aat {b:Bool}{v:V}:Abb K H (.bool b) v↔v = .bl b:=by simp[Abb]
theorem Aaq {b:Int}{v:V}:Abb K H (.int b) v↔v = .int b:=by simp[Abb]
theorem Aau {b:aD}{v:V}:Abb K H (.str b) v↔v = .str b/\cQ (.str b)=true:=by simp only[Abb]
theorem Abf{v:V}:Abb K H (.list ds) v ↔ ∃ a xs,v = .ref a/\SqL K H a xs/\Aan K H ds xs:=by simp only[Abb]
theorem Aax{v:V}:Abb K H (.tuple ds) v ↔ ∃ a xs,v = .ref a/\H a=some (.tup xs)/\Aan K H ds xs:=by simp only[Abb]
theorem Aca {ds:List (aA×aA)}{v:V}:Abb K H (.dict ds) v ↔ ∃ a,v = .ref a/\((∃ kvs:Nat×List (aL×V),H a=some (.dK kvs.1 kvs.2)/\Abj K H ds kvs.2) \/ (∃ ts:Nat×List (List aA×V),H a=some (.dT ts.1 ts.2)/\Ayb K H ds ts.2) \/ (∃ xs,H a=some (OE a xs)/\Aze K H ds xs.2) \/ A8d K H ds a \/ A2m K H ds a):=by simp only[Abb]
theorem Ajs {k:aA}{ds:List (aA×aA)}:A2m K H ((k,m)::ds) a↔k = .none /\ ∃ c C dx fs,m = .str c/\eK K c=some (.ref C)/\H a=some (.ins C dx fs)/\Ai6 K H ds fs:=by simp only[A2m]
theorem Aky {fs:List (aD×V)}:Ai6 K H [] fs↔fs=[]:=by simp[Ai6]
theorem Ad9 {k:aA}{ds:List (aA×aA)}{fs:List (aD×V)}:Ai6 K H ((k,m)::ds) fs ↔ ∃ f x r,fs=(f,x)::r/\k = .none/\An9 K H m (.str f,x)/\Ai6 K H ds r:=by simp only[Ai6]
theorem VF : ∀ {ds:List (aA×aA)} {fs:List (aD×V)},Ai6 K H ds fs -> ∀ p∈ds,p.1 = .none
 | [],_,_,p,m=>by simp at m
 | (k,d)::ds,fs,h,p,m=>by
  obtain⟨_,_,_,_,rfl,_,h2⟩:=Ad9.mp h
  rcases cI.mp m with rfl | m
  ·rfl
  ·exact VF h2 p m
theorem BE {ds:List (aA×aA)}(h:A8d K H ds a \/ A2m K H ds a) : ∃ c r,ds=(.none,.str c)::r /\ ∀ p∈r,p.1 = .none:=by
 rcases h with h | h
 ·obtain⟨c,m,rfl⟩:=h.mark
  exact⟨c,_,rfl,fun p m=>by rw[cN.mp m]⟩
 ·cases ds with
  | nil=>simp[A2m] at h
  | cons p r=>
   obtain⟨k,m⟩:=p
   obtain⟨rfl,c,_,_,_,rfl,_,_,h2⟩:=Ajs.mp h
   exact⟨c,r,rfl,VF h2⟩
theorem Ag4 {k:aA}{ds:List (aA×aA)}{xs:List (V×V)}:Aze K H ((k,m)::ds) xs↔k = .none/\ds=[(.none,.none)]/\Ass K H m xs:=by simp only[Aze]
theorem Wo{xs:List (V×V)}(h:Ass K H m xs) : ∃ es,m = .list es/\Ail K H es xs:=by
 cases m with
 | list es=>exact⟨es,rfl,by simpa only[Ass] using h⟩
 | _=>simp[Ass] at h
theorem Avq {xs:List (V×V)}:Ail K H [] xs↔xs=[]:=by simp[Ail]
theorem Ar9{xs:List (V×V)}:Ail K H (d::ds) xs ↔ ∃ x r,xs=x::r/\An9 K H d x/\Ail K H ds r:=by simp only[Ail]
theorem xQ {ds:List (aA×aA)}{xs:List (V×V)}(h:Aze K H ds xs) : ∃ es,ds=[(.none,.list es),(.none,.none)]/\Ail K H es xs:=by
 cases ds with
 | nil=>simp[Aze] at h
 | cons p r=>
  obtain⟨k,m⟩:=p
  obtain⟨rfl,rfl,h1⟩:=Ag4.mp h
  obtain⟨es,rfl,h2⟩:=Wo h1
  exact⟨es,rfl,h2⟩
theorem Ab6 {xs:List (List aA×V)}:Ab5 K H [] xs↔xs=[]:=by simp[Ab5]
theorem Aa8 {k:aA}{ds:List (aA×aA)}{xs:List (List aA×V)}:Ab5 K H ((k,d)::ds) xs ↔ ∃ k' x r,xs=(k',x)::r/\(k = .tuple k'/\bU k'=true)/\Abb K H d x/\Ab5 K H ds r:=by simp only[Ab5]
theorem Adn {k:aA}{ds:List (aA×aA)}{xs:List (List aA×V)}:Ayb K H ((k,m)::ds) xs↔k = .none/\Ab5 K H ds xs:=by simp only[Ayb]
theorem Vn {ds:List (aA×aA)}{xs:List (List aA×V)}(hk:plK ds=true) : ¬ Ayb K H ds xs:=by
 cases ds with
 | nil=>simp[Ayb]
 | cons p r=>
  obtain⟨k,d⟩:=p
  intro h
  rw[(Adn.mp h).1] at hk
  simp[plK] at hk
theorem sF {ds:List (aA×aA)}{v:V}(hk:plK ds=true):Abb K H (.dict ds) v ↔ ∃ a,∃ kvs:Nat×List (aL×V),v = .ref a/\H a=some (.dK kvs.1 kvs.2)/\Abj K H ds kvs.2:=by
 rw[Aca]
 constructor
 ·rintro⟨a,e,⟨kvs,h,r⟩ | ⟨ts,h,r⟩ | ⟨xs,h,r⟩ | r⟩
  case inr.inr.inr=>
   obtain⟨_,_,rfl,_⟩:=BE r
   simp[plK] at hk
  ·exact⟨a,kvs,e,h,r⟩
  ·exact absurd r (Vn hk)
  ·obtain⟨es,rfl,_⟩:=xQ r
   simp[plK] at hk
 ·rintro⟨a,kvs,e,h,r⟩
  exact⟨a,e,.inl ⟨kvs,h,r⟩⟩
theorem JR {ds:List (aA×aA)}{v:V}{kvs:Nat×List (aL×V)}(e:v = .ref a)(h:H a=some (.dK kvs.1 kvs.2))(r:Abj K H ds kvs.2):Abb K H (.dict ds) v:=Aca.mpr ⟨a,e,.inl ⟨kvs,h,r⟩⟩
theorem Aaj {xs:List V}:Aan K H [] xs↔xs=[]:=by simp[Aan]
theorem Aac{xs:List V}:Aan K H (d::ds) xs ↔ ∃ x r,xs=x::r/\Abb K H d x/\Aan K H ds r:=by simp only[Aan]
theorem Abk {xs:List (aL×V)}:Abj K H [] xs↔xs=[]:=by simp[Abj]
theorem Aa0 {k:aA}{ds:List (aA×aA)}{xs:List (aL×V)}:Abj K H ((k,d)::ds) xs ↔ ∃ k' x r,xs=(k',x)::r/\k=kD k'/\Abb K H d x/\Abj K H ds r:=by simp only[Abj]
theorem qF{ds:List (aA×aA)}{v:V}(hm : ∀ es,m ≠ .list es:=by intro _ z; cases z)(hm2 : ∀ c,m ≠ .str c:=by intro _ z; cases z):Abb K H (.dict ((.none,m)::ds)) v ↔ ∃ a,∃ ts:Nat×List (List aA×V),v = .ref a/\H a=some (.dT ts.1 ts.2)/\Ab5 K H ds ts.2:=by
 rw[Aca]
 constructor
 ·rintro⟨a,e,⟨kvs,h,r⟩ | ⟨ts,h,r⟩ | ⟨xs,h,r⟩ | r⟩
  case inr.inr.inr=>
   obtain⟨_,_,z,_⟩:=BE r
   cases z
   exact absurd rfl (hm2 _)
  ·obtain⟨k',_,_,_,ek,_⟩:=Aa0.mp r
   cases k' <;> simp[kD] at ek
  ·exact⟨a,ts,e,h,(Adn.mp r).2⟩
  ·obtain⟨es,z,_⟩:=xQ r
   cases z
   exact absurd rfl (hm es)
 ·rintro⟨a,ts,e,h,r⟩
  exact⟨a,e,.inr (.inl ⟨ts,h,Adn.mpr ⟨rfl,r⟩⟩)⟩
end
mutual
theorem Abb.ext {K:aH}(x:Ext H H') : ∀ {d:aA} {v:V},Abb K H d v->Abb K H' d v
 | .none,_,h=>Ab8.mpr (Ab8.mp h)
 | .bool _,_,h=>Aat.mpr (Aat.mp h)
 | .int _,_,h=>Aaq.mpr (Aaq.mp h)
 | .str _,_,h=>Aau.mpr (Aau.mp h)
 | .list ds,_,h=>by
  obtain⟨a,xs,e,s,r⟩:=Abf.mp h
  exact Abf.mpr ⟨a,xs,e,x.sqL s,Aan.ext x r⟩
 | .tuple ds,_,h=>by
  obtain⟨a,xs,e,s,r⟩:=Aax.mp h
  exact Aax.mpr ⟨a,xs,e,x _ _ s,Aan.ext x r⟩
 | .dict ds,_,h=>by
  obtain⟨a,e,⟨kvs,r,q⟩ | ⟨ts,r,q⟩ | ⟨xs,r,q⟩ | r⟩:=Aca.mp h
  ·exact Aca.mpr ⟨a,e,.inl ⟨kvs,x _ _ r,Abj.ext x q⟩⟩
  ·exact Aca.mpr ⟨a,e,.inr (.inl ⟨ts,x _ _ r,Ayb.ext x q⟩)⟩
  ·exact Aca.mpr ⟨a,e,.inr (.inr (.inl ⟨xs,x _ _ r,Aze.ext x q⟩))⟩
  ·exact Aca.mpr ⟨a,e,.inr (.inr (.inr (r.imp (fun r=>r.ext x) fun r=>A2m.ext x r)))⟩
theorem A2m.ext {K:aH}(x:Ext H H') : ∀ {ds:List (aA×aA)} {a:aB},A2m K H ds a->A2m K H' ds a
 | [],_,h=>absurd h (by simp[A2m])
 | (k,d)::ds,_,h=>by
  obtain⟨e,c,C,dx,fs,e1,e2,e3,h2⟩:=Ajs.mp h
  exact Ajs.mpr ⟨e,c,C,dx,fs,e1,e2,x _ _ e3,Ai6.ext x h2⟩
theorem Ai6.ext {K:aH}(x:Ext H H') : ∀ {ds:List (aA×aA)} {fs:List (aD×V)},Ai6 K H ds fs->Ai6 K H' ds fs
 | [],_,h=>Aky.mpr (Aky.mp h)
 | (k,d)::ds,_,h=>by
  obtain⟨f,y,r,e,ek,h1,h2⟩:=Ad9.mp h
  exact Ad9.mpr ⟨f,y,r,e,ek,An9.ext x h1,Ai6.ext x h2⟩
theorem Aan.ext {K:aH}(x:Ext H H') : ∀ {ds:List aA} {vs:List V},Aan K H ds vs->Aan K H' ds vs
 | [],_,h=>Aaj.mpr (Aaj.mp h)
 | d::ds,_,h=>by
  obtain⟨y,r,e,h1,h2⟩:=Aac.mp h
  exact Aac.mpr ⟨y,r,e,Abb.ext x h1,Aan.ext x h2⟩
theorem Abj.ext {K:aH}(x:Ext H H') : ∀ {ds:List (aA×aA)} {vs:List (aL×V)},Abj K H ds vs->Abj K H' ds vs
 | [],_,h=>Abk.mpr (Abk.mp h)
 | (k,d)::ds,_,h=>by
  obtain⟨k',y,r,e,ek,h1,h2⟩:=Aa0.mp h
  exact Aa0.mpr ⟨k',y,r,e,ek,Abb.ext x h1,Abj.ext x h2⟩
theorem Ab5.ext {K:aH}(x:Ext H H') : ∀ {ds:List (aA×aA)} {vs:List (List aA×V)},Ab5 K H ds vs->Ab5 K H' ds vs
 | [],_,h=>Ab6.mpr (Ab6.mp h)
 | (k,d)::ds,_,h=>by
  obtain⟨k',y,r,e,ek,h1,h2⟩:=Aa8.mp h
  exact Aa8.mpr ⟨k',y,r,e,ek,Abb.ext x h1,Ab5.ext x h2⟩
theorem Ayb.ext {K:aH}(x:Ext H H') : ∀ {ds:List (aA×aA)} {vs:List (List aA×V)},Ayb K H ds vs->Ayb K H' ds vs
 | [],_,h=>absurd h (by simp[Ayb])
 | (k,d)::ds,_,h=>Adn.mpr ⟨(Adn.mp h).1,Ab5.ext x (Adn.mp h).2⟩
theorem Aze.ext {K:aH}(x:Ext H H') : ∀ {ds:List (aA×aA)} {vs:List (V×V)},Aze K H ds vs->Aze K H' ds vs
 | [],_,h=>absurd h (by simp[Aze])
 | (k,d)::ds,_,h=>Ag4.mpr ⟨(Ag4.mp h).1,(Ag4.mp h).2.1,Ass.ext x (Ag4.mp h).2.2⟩
theorem Ass.ext {K:aH}(x:Ext H H') : ∀ {d:aA} {vs:List (V×V)},Ass K H d vs->Ass K H' d vs
 | .list es,_,h=>by
  rw[Ass] at h ⊢
  exact Ail.ext x h
 | .none,_,h=>absurd h (by simp[Ass])
 | .bool _,_,h=>absurd h (by simp[Ass])
 | .int _,_,h=>absurd h (by simp[Ass])
 | .str _,_,h=>absurd h (by simp[Ass])
 | .tuple _,_,h=>absurd h (by simp[Ass])
 | .dict _,_,h=>absurd h (by simp[Ass])
theorem Ail.ext {K:aH}(x:Ext H H') : ∀ {ds:List aA} {vs:List (V×V)},Ail K H ds vs->Ail K H' ds vs
 | [],_,h=>Avq.mpr (Avq.mp h)
 | d::ds,_,h=>by
  obtain⟨y,r,e,h1,h2⟩:=Ar9.mp h
  exact Ar9.mpr ⟨y,r,e,An9.ext x h1,Ail.ext x h2⟩
theorem An9.ext {K:aH}(x:Ext H H') : ∀ {d:aA} {y:V×V},An9 K H d y->An9 K H' d y
 | .tuple ds,_,h=>by
  rw[An9] at h ⊢
  exact Aan.ext x h
 | .none,_,h=>absurd h (by simp[An9])
 | .bool _,_,h=>absurd h (by simp[An9])
 | .int _,_,h=>absurd h (by simp[An9])
 | .str _,_,h=>absurd h (by simp[An9])
 | .list _,_,h=>absurd h (by simp[An9])
 | .dict _,_,h=>absurd h (by simp[An9])
end
section
variable {K:aH}
theorem Aan.length : ∀ {ds:List aA} {vs:List V},Aan K H ds vs->vs.length=ds.length
 | [],_,h=>by rw[Aaj.mp h]; rfl
 | d::ds,_,h=>by
  obtain⟨y,r,e,h1,h2⟩:=Aac.mp h
  rw[e,eD,eD,Aan.length h2]
theorem Aan.get : ∀ {ds:List aA} {vs:List V} {i:Nat} {d:aA},Aan K H ds vs->ds[i]?=some d -> ∃ v,vs[i]?=some v/\Abb K H d v
 | [],_,_,_,h,e=>by simp at e
 | d::ds,_,0,d',h,e=>by
  obtain⟨y,r,rfl,h1,h2⟩:=Aac.mp h
  have:d=d':=by simpa using e
  subst this
  exact⟨y,rfl,h1⟩
 | d::ds,_,i+1,d',h,e=>by
  obtain⟨y,r,rfl,h1,h2⟩:=Aac.mp h
  obtain⟨v,h3,h4⟩:=Aan.get h2 (by simpa using e)
  exact⟨v,by simpa using h3,h4⟩
theorem Aan.append : ∀ {ds es:List aA} {vs ws:List V},Aan K H ds vs->Aan K H es ws->Aan K H (ds++es) (vs++ws)
 | [],es,_,_,h,g=>by rw[Aaj.mp h]; exact g
 | d::ds,es,_,_,h,g=>by
  obtain⟨y,r,rfl,h1,h2⟩:=Aac.mp h
  exact Aac.mpr ⟨y,_,rfl,h1,Aan.append h2 g⟩
theorem Aan.snoc{vs:List V}{v:V}(h:Aan K H ds vs)(g:Abb K H d v):Aan K H (ds++[d]) (vs++[v]):=
 h.append (Aac.mpr ⟨v,[],rfl,g,Aaj.mpr rfl⟩)
theorem Aan.drop : ∀ {ds:List aA} {vs:List V} (n:Nat),Aan K H ds vs->Aan K H (ds.drop n) (vs.drop n)
 | _,_,0,h=>h
 | [],_,n+1,h=>by rw[Aaj.mp h]; exact Aaj.mpr rfl
 | d::ds,_,n+1,h=>by
  obtain⟨y,r,rfl,h1,h2⟩:=Aac.mp h
  exact Aan.drop n h2
theorem Aan.take : ∀ {ds:List aA} {vs:List V} (n:Nat),Aan K H ds vs->Aan K H (ds.take n) (vs.take n)
 | _,_,0,h=>Aaj.mpr rfl
 | [],_,n+1,h=>by rw[Aaj.mp h]; exact Aaj.mpr rfl
 | d::ds,_,n+1,h=>by
  obtain⟨y,r,rfl,h1,h2⟩:=Aac.mp h
  exact Aac.mpr ⟨y,_,rfl,h1,Aan.take n h2⟩
theorem Aan.set{v:V}(g:Abb K H d v) : ∀ {ds:List aA} {vs:List V} (n:Nat),Aan K H ds vs->Aan K H (ds.set n d) (vs.set n v)
 | [],_,n,h=>by rw[Aaj.mp h]; exact Aaj.mpr rfl
 | e::ds,_,0,h=>by
  obtain⟨y,r,rfl,h1,h2⟩:=Aac.mp h
  exact Aac.mpr ⟨v,r,rfl,g,h2⟩
 | e::ds,_,n+1,h=>by
  obtain⟨y,r,rfl,h1,h2⟩:=Aac.mp h
  exact Aac.mpr ⟨y,_,rfl,h1,Aan.set g n h2⟩
theorem VE : ∀ ns:List Int,Aan K H (ns.map aZ) (ns.map V.int)
 | []=>Aaj.mpr rfl
 | n::r=>Aac.mpr ⟨_,_,rfl,Aaq.mpr rfl,VE r⟩
theorem WX {k:aL}{v:V}(h:Abb K H (kD k) v):v=kV k:=by
 cases k with
 | inl i=>exact Aaq.mp h
 | inr x=>exact(Aau.mp h).1
mutual
theorem Abb.key {K:aH}{H:Hp} : ∀ (d:aA) {v:V},bA d=true->Abb K H d v->Ah4 H d v
 | .int i,v,_,h=>by simpa [Ah4] using Aaq.mp h
 | .str i,v,_,h=>by simpa [Ah4] using(Aau.mp h).1
 | .tuple ds,v,k,h=>by
  obtain⟨a,xs,e,s,r⟩:=Aax.mp h
  simp only[Ah4]
  exact⟨a,xs,e,s,Aan.keys ds (by simpa [bA] using k) r⟩
 | .none,v,k,_=>by simp[bA] at k
 | .bool _,v,k,_=>by simp[bA] at k
 | .list _,v,k,_=>by simp[bA] at k
 | .dict _,v,k,_=>by simp[bA] at k
theorem Aan.keys {K:aH}{H:Hp} : ∀ (ds:List aA) {vs:List V},bU ds=true->Aan K H ds vs->Aeu H ds vs
 | [],vs,_,h=>by simpa [Aeu] using Aaj.mp h
 | d::ds,vs,k,h=>by
  have k':bA d=true/\bU ds=true:=by simpa [bU] using k
  obtain⟨y,r,e,h1,h2⟩:=Aac.mp h
  simp only[Aeu]
  exact⟨y,r,e,Abb.key d k'.1 h1,Aan.keys ds k'.2 h2⟩
end
end
mutual
def dU:aA->Bool
 | .list _=>false
 | .dict _=>false
 | .tuple ds=>lX ds
 | _=>true
def lX:List aA->Bool
 | []=>true
 | d::r=>dU d&&lX r
end
theorem KF : ∀ ds:List aA,lX ds=ds.all dU
 | []=>by simp[lX]
 | d::r=>by simp[lX,KF r]
mutual
theorem Abb.flat {K:aH}(x : ∀ a xs,H a=some (.tup xs)->H' a=some (.tup xs)) : ∀ (d:aA) {v:V},dU d=true->Abb K H d v->Abb K H' d v
 | .none,_,_,h=>Ab8.mpr (Ab8.mp h)
 | .bool _,_,_,h=>Aat.mpr (Aat.mp h)
 | .int _,_,_,h=>Aaq.mpr (Aaq.mp h)
 | .str _,_,_,h=>Aau.mpr (Aau.mp h)
 | .tuple ds,_,f,h=>by
  obtain⟨a,xs,e,s,r⟩:=Aax.mp h
  exact Aax.mpr ⟨a,xs,e,x _ _ s,Aan.flat x ds (by simpa [dU] using f) r⟩
 | .list _,_,f,_=>by simp[dU] at f
 | .dict _,_,f,_=>by simp[dU] at f
theorem Aan.flat {K:aH}(x : ∀ a xs,H a=some (.tup xs)->H' a=some (.tup xs)) : ∀ (ds:List aA) {vs:List V},lX ds=true->Aan K H ds vs->Aan K H' ds vs
 | [],_,_,h=>Aaj.mpr (Aaj.mp h)
 | d::ds,_,f,h=>by
  have f':dU d=true/\lX ds=true:=by simpa [lX] using f
  obtain⟨y,r,e,h1,h2⟩:=Aac.mp h
  exact Aac.mpr ⟨y,r,e,Abb.flat x d f'.1 h1,Aan.flat x ds f'.2 h2⟩
end
inductive All3 {α β γ:Type}(R:α->β->γ->Prop):List α->List β->List γ->Prop
 | nil:All3 R [] [] []
 | cons {a b c as bs cs}:R a b c->All3 R as bs cs->All3 R (a::as) (b::bs) (c::cs)
theorem All3.imp {α β γ:Type}{R S:α->β->γ->Prop} : ∀ {as:List α} {bs:List β} {cs:List γ},All3 R as bs cs->(∀ a b c,c∈cs->R a b c->S a b c)->All3 S as bs cs:=by
 intro as bs cs h
 induction h with
 | nil=>exact fun _=>.nil
 | cons h _ ih=>exact fun f=>.cons (f _ _ _ bD h) (ih fun a b c m=>f a b c (bJ _ m))
def Aei (K:aH)(B H:Hp):Nat->aA->V->List aB->Prop
 | 0,d,v,F=>F=[]/\Abb K B d v
 | n+1,d,v,F=>match d with
  | .list ds=>∃ p xs Fs,v = .ref p/\H p=some (.lst xs)/\F=p::Fs.flatten/\All3 (Aei K B H n) ds xs Fs
  | .dict kds=>∃ p,∃ kvs:Nat×List (aL×V),∃ Fs,v = .ref p/\H p=some (.dK kvs.1 kvs.2)/\F=p::Fs.flatten/\All3 (fun(kd:aA×aA) (kv:aL×V) f=>kd.1=kD kv.1/\Aei K B H n kd.2 kv.2 f) kds kvs.2 Fs
  | .tuple ds=>(n=0/\F=[]/\Abb K B (.tuple ds) v) \/ (n≠0 /\ ∃ p xs Fs,v = .ref p/\B p=some (.tup xs)/\F=Fs.flatten/\All3 (Aei K B H n) ds xs Fs)
  | d=>F=[]/\Abb K B d v
theorem Aei.keep {K:aH}(xb:Ext B B') : ∀ {n:Nat} {d:aA} {v:V} {F:List aB},(∀ a∈F,H' a=H a)->Aei K B H n d v F->Aei K B' H' n d v F
 | 0,d,v,F,_,h=>⟨h.1,h.2.ext xb⟩
 | n+1,.list ds,v,F,kp,h=>by
  obtain⟨p,xs,Fs,e,hp,rfl,q⟩:=h
  refine⟨p,xs,Fs,e,(kp p bD).trans hp,rfl,q.imp fun a b c m r=>Aei.keep xb (fun z hz=>kp z (bJ _ (dY.mpr ⟨c,m,hz⟩))) r⟩
 | n+1,.dict kds,v,F,kp,h=>by
  obtain⟨p,xs,Fs,e,hp,rfl,q⟩:=h
  refine⟨p,xs,Fs,e,(kp p bD).trans hp,rfl,q.imp fun a b c m r=>⟨r.1,Aei.keep xb (fun z hz=>kp z (bJ _ (dY.mpr ⟨c,m,hz⟩))) r.2⟩⟩
 | n+1,.none,v,F,_,h=>⟨h.1,h.2.ext xb⟩
 | n+1,.bool _,v,F,_,h=>⟨h.1,h.2.ext xb⟩
 | n+1,.int _,v,F,_,h=>⟨h.1,h.2.ext xb⟩
 | n+1,.str _,v,F,_,h=>⟨h.1,h.2.ext xb⟩
 | n+1,.tuple ds,v,F,kp,h=>by
  rcases h with⟨h0,h1,h2⟩ | ⟨h0,p,xs,Fs,e,hp,rfl,q⟩
  ·exact .inl ⟨h0,h1,h2.ext xb⟩
  ·exact .inr ⟨h0,p,xs,Fs,e,xb _ _ hp,rfl,q.imp fun a b c m r=>Aei.keep xb (fun z hz=>kp z (dY.mpr ⟨c,m,hz⟩)) r⟩
theorem JV {K:aH}{R:aA->V->List aB->Prop}(f : ∀ d v F,R d v F->Abb K B d v) : ∀ {ds:List aA} {xs:List V} {Fs:List (List aB)},All3 R ds xs Fs->Aan K B ds xs:=by
 intro ds xs Fs h
 induction h with
 | nil=>exact Aaj.mpr rfl
 | cons h _ ih=>exact Aac.mpr ⟨_,_,rfl,f _ _ _ h,ih⟩
theorem Wu {K:aH}{R:aA×aA->aL×V->List aB->Prop}(f : ∀ d v F,R d v F->d.1=kD v.1/\Abb K B d.2 v.2) : ∀ {ds:List (aA×aA)} {xs:List (aL×V)} {Fs:List (List aB)},All3 R ds xs Fs->Abj K B ds xs:=by
 intro ds xs Fs h
 induction h with
 | nil=>exact Abk.mpr rfl
 | @cons p q F ds xs Fs h _ ih=>
  obtain⟨k,d⟩:=p
  obtain⟨k',v⟩:=q
  exact Aa0.mpr ⟨_,_,_,rfl,(f _ _ _ h).1,(f _ _ _ h).2,ih⟩
theorem Aei.share {K:aH}(xb:Ext B B') : ∀ {n:Nat} {d:aA} {v:V} {F:List aB},(∀ a∈F,∀ o,H a=some o->B' a=some o)->Aei K B H n d v F->Abb K B' d v
 | 0,d,v,F,_,h=>h.2.ext xb
 | n+1,.list ds,v,F,kp,h=>by
  obtain⟨p,xs,Fs,e,hp,rfl,q⟩:=h
  refine Abf.mpr ⟨p,xs,e,SqL.of (kp p bD _ hp),?_⟩
  exact JV (fun d v F r=>r) (q.imp fun a b c m r=>Aei.share xb (fun z hz=>kp z (bJ _ (dY.mpr ⟨c,m,hz⟩))) r)
 | n+1,.dict kds,v,F,kp,h=>by
  obtain⟨p,xs,Fs,e,hp,rfl,q⟩:=h
  refine JR e (kp p bD _ hp) ?_
  exact Wu (fun d v F r=>r) (q.imp fun a b c m r=>⟨r.1,Aei.share xb (fun z hz=>kp z (bJ _ (dY.mpr ⟨c,m,hz⟩))) r.2⟩)
 | n+1,.none,v,F,_,h=>h.2.ext xb
 | n+1,.bool _,v,F,_,h=>h.2.ext xb
 | n+1,.int _,v,F,_,h=>h.2.ext xb
 | n+1,.str _,v,F,_,h=>h.2.ext xb
 | n+1,.tuple ds,v,F,kp,h=>by
  rcases h with⟨h0,h1,h2⟩ | ⟨h0,p,xs,Fs,e,hp,rfl,q⟩
  ·exact h2.ext xb
  ·refine Aax.mpr ⟨p,xs,e,xb _ _ hp,?_⟩
   exact JV (fun d v F r=>r) (q.imp fun a b c m r=>Aei.share xb (fun z hz=>kp z (dY.mpr ⟨c,m,hz⟩)) r)
def dX:Nat->aA->Bool
 | 0,d=>dU d
 | n+1,.list ds=>ds.all (dX n)
 | n+1,.dict kds=>kds.all fun kd=>dX n kd.2
 | n+2,.tuple ds=>ds.all (dX (n+1))
 | n+1,d=>dU d
theorem Aei.flat {K:aH}(xb : ∀ a xs,B a=some (.tup xs)->B' a=some (.tup xs)) : ∀ {n:Nat} {d:aA} {v:V} {F:List aB},dX n d=true->Aei K B H n d v F->Aei K B' H n d v F
 | 0,d,v,F,f,h=>⟨h.1,h.2.flat xb d f⟩
 | n+1,.list ds,v,F,f,h=>by
  obtain⟨p,xs,Fs,e,hp,rfl,q⟩:=h
  refine⟨p,xs,Fs,e,hp,rfl,?_⟩
  have f' : ∀ d∈ds,dX n d=true:=by simpa [dX] using f
  clear hp f e
  induction q with
  | nil=>exact .nil
  | cons h t ih=>exact .cons (Aei.flat xb (f' _ bD) h) (ih fun d m=>f' d (bJ _ m))
 | n+1,.dict kds,v,F,f,h=>by
  obtain⟨p,xs,Fs,e,hp,rfl,q⟩:=h
  refine⟨p,xs,Fs,e,hp,rfl,?_⟩
  have f' : ∀ d∈kds,dX n d.2=true:=fun d m=>by
   have:kds.all (fun kd=>dX n kd.2)=true:=by simpa [dX] using f
   exact eE.mp this d m
  clear hp f e
  obtain⟨xe,xs⟩:=xs
  replace q:All3 _ kds xs Fs:=q
  induction q with
  | nil=>exact .nil
  | cons h t ih=>exact .cons ⟨h.1,Aei.flat xb (f' _ bD) h.2⟩ (ih fun d m=>f' d (bJ _ m))
 | n+1,.none,v,F,f,h=>⟨h.1,h.2.flat xb _ f⟩
 | n+1,.bool _,v,F,f,h=>⟨h.1,h.2.flat xb _ f⟩
 | n+1,.int _,v,F,f,h=>⟨h.1,h.2.flat xb _ f⟩
 | n+1,.str _,v,F,f,h=>⟨h.1,h.2.flat xb _ f⟩
 | 1,.tuple ds,v,F,f,h=>by
  rcases h with⟨h0,h1,h2⟩ | ⟨h0,_⟩
  ·exact .inl ⟨h0,h1,h2.flat xb _ f⟩
  ·exact absurd rfl h0
 | n+2,.tuple ds,v,F,f,h=>by
  rcases h with⟨h0,_⟩ | ⟨h0,p,xs,Fs,e,hp,rfl,q⟩
  ·exact absurd h0 (by omega)
  ·refine .inr ⟨h0,p,xs,Fs,e,xb _ _ hp,rfl,?_⟩
   have f' : ∀ d∈ds,dX (n+1) d=true:=by simpa [dX] using f
   clear hp f e
   induction q with
   | nil=>exact .nil
   | cons h t ih=>exact .cons (Aei.flat xb (f' _ bD) h) (ih fun d m=>f' d (bJ _ m))
theorem All3.of {α β γ:Type}{R:α->β->γ->Prop} : ∀ {as:List α} {bs:List β} {cs:List γ},All3 R as bs cs -> ∀ c∈cs,∃ a b,R a b c:=by
 intro as bs cs h
 induction h with
 | nil=>exact fun c m=>by simp at m
 | cons h _ ih=>
  intro c m
  rcases cI.mp m with rfl | m
  ·exact⟨_,_,h⟩
  ·exact ih c m
mutual
def ndD:aA->Bool
 | .dict kds=>ndM kds
 | .list ds=>tQ ds
 | .tuple ds=>tQ ds
 | _=>true
def tQ:List aA->Bool
 | []=>true
 | d::r=>ndD d&&tQ r
def ndM:List (aA×aA)->Bool
 | (.none,.none)::r=>wH r
 | _=>false
def wH:List (aA×aA)->Bool
 | []=>true
 | (_,d)::r=>ndD d&&wH r
end
def jD:Nat->aA->Bool
 | 0,d=>ndD d
 | n+1,.list ds=>ds.all (jD n)
 | n+1,.dict kds=>kds.all fun kd=>jD n kd.2
 | _,_=>false
theorem Gn (xs:List V) : ∀ q,HO.lst xs≠dO q:=fun q z=>by cases q <;> cases z
theorem Ho (xs:List V) : ∀ q,HO.tup xs≠dO q:=fun q z=>by cases q <;> cases z
theorem Ft (o:aW)(u:HO) : ∀ q,HO.frz o u≠dO q:=fun q z=>by cases q <;> cases z
def NdX (H H':Hp):Prop:=∀ a o,H a=some o->(∀ q,o≠dO (.inl q))->H' a=some o
mutual
theorem Abb.nd {K:aH}(x:NdX H H') : ∀ (d:aA) {v:V},ndD d=true->Abb K H d v->Abb K H' d v
 | .none,_,_,h=>Ab8.mpr (Ab8.mp h)
 | .bool _,_,_,h=>Aat.mpr (Aat.mp h)
 | .int _,_,_,h=>Aaq.mpr (Aaq.mp h)
 | .str _,_,_,h=>Aau.mpr (Aau.mp h)
 | .tuple ds,_,f,h=>by
  obtain⟨a,xs,e,s,r⟩:=Aax.mp h
  exact Aax.mpr ⟨a,xs,e,x _ _ s (fun q=>Ho _ _),Aan.nd x ds (by simpa [ndD] using f) r⟩
 | .list ds,_,f,h=>by
  obtain⟨a,xs,e,s,r⟩:=Abf.mp h
  refine Abf.mpr ⟨a,xs,e,s.imp (fun s=>?_) id,Aan.nd x ds (by simpa [ndD] using f) r⟩
  rcases s with s | ⟨o,s⟩
  ·exact .inl (x _ _ s (fun q=>Gn _ _))
  ·exact .inr ⟨o,x _ _ s (fun q=>Ft _ _ _)⟩
 | .dict [],_,f,_=>by simp[ndD,ndM] at f
 | .dict ((k,m)::kds),_,f,h=>by
  have f:ndM ((k,m)::kds)=true:=by simpa only[ndD] using f
  cases k <;> cases m <;> first | (simp[ndM] at f; done) | skip
  obtain⟨a,ts,e,s,r⟩:=(qF).mp h
  exact(qF).mpr ⟨a,ts,e,x _ _ s (fun q z=>by cases z),Ab5.nd x kds (by simpa only[ndM] using f) r⟩
theorem Ab5.nd {K:aH}(x:NdX H H') : ∀ (kds:List (aA×aA)) {ts:List (List aA×V)},wH kds=true->Ab5 K H kds ts->Ab5 K H' kds ts
 | [],_,_,h=>Ab6.mpr (Ab6.mp h)
 | (k,d)::r,_,f,h=>by
  have f':ndD d=true/\wH r=true:=by simpa [wH] using f
  obtain⟨k',y,rr,e,ek,h1,h2⟩:=Aa8.mp h
  exact Aa8.mpr ⟨k',y,rr,e,ek,Abb.nd x d f'.1 h1,Ab5.nd x r f'.2 h2⟩
theorem Aan.nd {K:aH}(x:NdX H H') : ∀ (ds:List aA) {vs:List V},tQ ds=true->Aan K H ds vs->Aan K H' ds vs
 | [],_,_,h=>Aaj.mpr (Aaj.mp h)
 | d::ds,_,f,h=>by
  have f':ndD d=true/\tQ ds=true:=by simpa [tQ] using f
  obtain⟨y,r,e,h1,h2⟩:=Aac.mp h
  exact Aac.mpr ⟨y,r,e,Abb.nd x d f'.1 h1,Aan.nd x ds f'.2 h2⟩
end
theorem Aei.mut1 {K:aH} : ∀ {n:Nat} {d:aA} {v:V} {F:List aB},Aei K B H n d v F -> ∀ a∈F,(∃ xs,H a=some (.lst xs)) \/ ∃ q,H a=some (dO (.inl q))
 | 0,d,v,F,h,a,m=>by rw[h.1] at m; simp at m
 | n+1,.list ds,v,F,h,a,m=>by
  obtain⟨p,xs,Fs,e,hp,rfl,q⟩:=h
  rcases cI.mp m with e1 | m2
  ·rw[e1]; exact .inl ⟨xs,hp⟩
  ·obtain⟨f,hf,ha⟩:=dY.mp m2
   obtain⟨_,_,r⟩:=q.of f hf
   exact Aei.mut1 r a ha
 | n+1,.dict kds,v,F,h,a,m=>by
  obtain⟨p,xs,Fs,e,hp,rfl,q⟩:=h
  rcases cI.mp m with e1 | m2
  ·rw[e1]; exact .inr ⟨xs,hp⟩
  ·obtain⟨f,hf,ha⟩:=dY.mp m2
   obtain⟨_,_,r⟩:=q.of f hf
   exact Aei.mut1 r.2 a ha
 | n+1,.none,v,F,h,a,m=>by rw[h.1] at m; simp at m
 | n+1,.bool _,v,F,h,a,m=>by rw[h.1] at m; simp at m
 | n+1,.int _,v,F,h,a,m=>by rw[h.1] at m; simp at m
 | n+1,.str _,v,F,h,a,m=>by rw[h.1] at m; simp at m
 | n+1,.tuple ds,v,F,h,a,m=>by
  rcases h with⟨_,h1,_⟩ | ⟨h0,p,xs,Fs,e,hp,rfl,q⟩
  ·rw[h1] at m; simp at m
  ·obtain⟨f,hf,ha⟩:=dY.mp m
   obtain⟨_,_,r⟩:=q.of f hf
   exact Aei.mut1 r a ha
theorem Aei.mut {K:aH}{v:V}(h:Aei K B H n d v F) : ∀ a∈F,(∃ xs,H a=some (.lst xs)) \/ ∃ q:DQ,H a=some (dO q):=fun a m=>(h.mut1 a m).imp id fun⟨q,e⟩=>⟨.inl q,e⟩
mutual
def ftD:aA->Bool
 | .dict kds=>ftM kds
 | .list _=>false
 | .tuple ds=>wF ds
 | _=>true
def wF:List aA->Bool
 | []=>true
 | d::r=>ftD d&&wF r
def ftM:List (aA×aA)->Bool
 | (.none,.none)::r=>wG r
 | _=>false
def wG:List (aA×aA)->Bool
 | []=>true
 | (_,d)::r=>ftD d&&wG r
end
def FtX (H H':Hp):Prop:=∀ a o,H a=some o->((∃ xs,o = .tup xs) \/ ∃ q,o=dO (.inr q))->H' a=some o
mutual
theorem Abb.ft {K:aH}(x:FtX H H') : ∀ (d:aA) {v:V},ftD d=true->Abb K H d v->Abb K H' d v
 | .none,_,_,h=>Ab8.mpr (Ab8.mp h)
 | .bool _,_,_,h=>Aat.mpr (Aat.mp h)
 | .int _,_,_,h=>Aaq.mpr (Aaq.mp h)
 | .str _,_,_,h=>Aau.mpr (Aau.mp h)
 | .tuple ds,_,f,h=>by
  obtain⟨a,xs,e,s,r⟩:=Aax.mp h
  exact Aax.mpr ⟨a,xs,e,x _ _ s (.inl ⟨xs,rfl⟩),Aan.ft x ds (by simpa [ftD] using f) r⟩
 | .list ds,_,f,h=>by simp[ftD] at f
 | .dict [],_,f,_=>by simp[ftD,ftM] at f
 | .dict ((k,m)::kds),_,f,h=>by
  have f:ftM ((k,m)::kds)=true:=by simpa only[ftD] using f
  cases k <;> cases m <;> first | (simp[ftM] at f; done) | skip
  obtain⟨a,ts,e,s,r⟩:=(qF).mp h
  exact(qF).mpr ⟨a,ts,e,x _ _ s (.inr ⟨ts,rfl⟩),Ab5.ft x kds (by simpa only[ftM] using f) r⟩
theorem Ab5.ft {K:aH}(x:FtX H H') : ∀ (kds:List (aA×aA)) {ts:List (List aA×V)},wG kds=true->Ab5 K H kds ts->Ab5 K H' kds ts
 | [],_,_,h=>Ab6.mpr (Ab6.mp h)
 | (k,d)::r,_,f,h=>by
  have f':ftD d=true/\wG r=true:=by simpa [wG] using f
  obtain⟨k',y,rr,e,ek,h1,h2⟩:=Aa8.mp h
  exact Aa8.mpr ⟨k',y,rr,e,ek,Abb.ft x d f'.1 h1,Ab5.ft x r f'.2 h2⟩
theorem Aan.ft {K:aH}(x:FtX H H') : ∀ (ds:List aA) {vs:List V},wF ds=true->Aan K H ds vs->Aan K H' ds vs
 | [],_,_,h=>Aaj.mpr (Aaj.mp h)
 | d::ds,_,f,h=>by
  have f':ftD d=true/\wF ds=true:=by simpa [wF] using f
  obtain⟨y,r,e,h1,h2⟩:=Aac.mp h
  exact Aac.mpr ⟨y,r,e,Abb.ft x d f'.1 h1,Aan.ft x ds f'.2 h2⟩
end
theorem Aei.nd {K:aH}(xb:NdX B B') : ∀ {n:Nat} {d:aA} {v:V} {F:List aB},jD n d=true->Aei K B H n d v F->Aei K B' H n d v F
 | 0,d,v,F,f,h=>⟨h.1,h.2.nd xb d f⟩
 | n+1,.list ds,v,F,f,h=>by
  obtain⟨p,xs,Fs,e,hp,rfl,q⟩:=h
  refine⟨p,xs,Fs,e,hp,rfl,?_⟩
  have f' : ∀ d∈ds,jD n d=true:=by simpa [jD] using f
  clear hp f e
  induction q with
  | nil=>exact .nil
  | cons h t ih=>exact .cons (Aei.nd xb (f' _ bD) h) (ih fun d m=>f' d (bJ _ m))
 | n+1,.dict kds,v,F,f,h=>by
  obtain⟨p,xs,Fs,e,hp,rfl,q⟩:=h
  refine⟨p,xs,Fs,e,hp,rfl,?_⟩
  have f' : ∀ d∈kds,jD n d.2=true:=fun d m=>by
   have:kds.all (fun kd=>jD n kd.2)=true:=by simpa [jD] using f
   exact eE.mp this d m
  clear hp f e
  obtain⟨xe,xs⟩:=xs
  replace q:All3 _ kds xs Fs:=q
  induction q with
  | nil=>exact .nil
  | cons h t ih=>exact .cons ⟨h.1,Aei.nd xb (f' _ bD) h.2⟩ (ih fun d m=>f' d (bJ _ m))
 | n+1,.none,v,F,f,h=>by simp[jD] at f
 | n+1,.bool _,v,F,f,h=>by simp[jD] at f
 | n+1,.int _,v,F,f,h=>by simp[jD] at f
 | n+1,.str _,v,F,f,h=>by simp[jD] at f
 | n+1,.tuple ds,v,F,f,h=>by simp[jD] at f
def Aja (K:aH)(B H:Hp)(d:aA)(v:V)(F:List aB):Prop:=∃ kds p,∃ ts:Nat×List (List aA×V),d = .dict ((.none,.none)::kds)/\v = .ref p/\H p=some (.dT ts.1 ts.2)/\F=[p]/\(∀ kd∈kds,dU kd.2=true)/\Ab5 K B kds ts.2
def HeldAt (K:aH)(B H:Hp)(kd:aA×aA)(kv:aL×V)(p:aB):Prop:=kd.1=kD kv.1/\kv.2 = .ref p/\Aja K B H kd.2 (.ref p) [p]
abbrev bZ (c:aD)(W Hd:aA):aA:=.dict [(.none,.str c),(.none,.tuple [.str "wide",W]),(.none,.tuple [.str "held",Hd])]
structure RepB (K:aH)(B H:Hp)(d:aA)(v:V)(F:List aB):Prop where
 ex : ∃ c C dx a w q kds hds,∃ kvs hvs:Nat×List (aL×V),∃ ps,d=bZ c (.dict kds) (.dict hds)/\v = .ref a/\eK K c=some (.ref C)/\H a=some (.ins C dx [("wide",.ref w),("held",.ref q)])/\H w=some (.dK kvs.1 kvs.2)/\(∀ kd∈kds,dU kd.2=true)/\Abj K B kds kvs.2 /\
  H q=some (.dK hvs.1 hvs.2)/\F=a::w::q::ps/\All3 (HeldAt K B H) hds hvs.2 ps
def Ayc (K:aH)(B H:Hp)(d:aA)(v:V)(F:List aB):Prop:=∃ ds p xs Fs,d = .list ds/\v = .ref p/\H p=some (.lst xs)/\F=p::Fs.flatten/\All3 (RepB K B H) ds xs Fs
def Adw (K:aH)(B H:Hp)(n:Nat)(d:aA)(v:V)(F:List aB):Prop:=if n=9 then(d = .none/\v = .non/\F=[]) \/ Aja K B H d v F \/ RepB K B H d v F else if n=10 then(d = .none/\v = .non/\F=[]) \/ Ayc K B H d v F else Aei K B H n d v F
theorem Abj.flat {K:aH}(xb : ∀ a xs,B a=some (.tup xs)->B' a=some (.tup xs)) : ∀ {kds:List (aA×aA)} {ts:List (aL×V)},(∀ kd∈kds,dU kd.2=true)->Abj K B kds ts->Abj K B' kds ts
 | [],ts,_,h=>Abk.mpr (Abk.mp h)
 | (k,d)::r,ts,f,h=>by
  obtain⟨k',x,rr,e,ek,h1,h2⟩:=Aa0.mp h
  exact Aa0.mpr ⟨k',x,rr,e,ek,h1.flat xb _ (f (k,d) bD),Abj.flat xb (fun kd m=>f kd (bJ _ m)) h2⟩
theorem Ab5.flat {K:aH}(xb : ∀ a xs,B a=some (.tup xs)->B' a=some (.tup xs)) : ∀ {kds:List (aA×aA)} {ts:List (List aA×V)},(∀ kd∈kds,dU kd.2=true)->Ab5 K B kds ts->Ab5 K B' kds ts
 | [],ts,_,h=>Ab6.mpr (Ab6.mp h)
 | (k,d)::r,ts,f,h=>by
  obtain⟨k',x,rr,e,ek,h1,h2⟩:=Aa8.mp h
  exact Aa8.mpr ⟨k',x,rr,e,ek,h1.flat xb _ (f (k,d) bD),Ab5.flat xb (fun kd m=>f kd (bJ _ m)) h2⟩
section
variable {K:aH}{v:V}
theorem Aja.keep (xb:Ext B B')(kp : ∀ a∈F,H' a=H a)(h:Aja K B H d v F):Aja K B' H' d v F:=by
 obtain⟨kds,p,ts,e1,e2,hp,rfl,f,r⟩:=h
 exact⟨kds,p,ts,e1,e2,(kp p bD).trans hp,rfl,f,r.ext xb⟩
theorem Aja.flat (xb : ∀ a xs,B a=some (.tup xs)->B' a=some (.tup xs))(h:Aja K B H d v F):Aja K B' H d v F:=by
 obtain⟨kds,p,ts,e1,e2,hp,rfl,f,r⟩:=h
 exact⟨kds,p,ts,e1,e2,hp,rfl,f,r.flat xb f⟩
theorem Aja.share (xb:Ext B B')(kp : ∀ a∈F,∀ o,H a=some o->B' a=some o)(h:Aja K B H d v F):Abb K B' d v:=by
 obtain⟨kds,p,ts,rfl,e2,hp,rfl,f,r⟩:=h
 exact(qF).mpr ⟨p,ts,e2,kp p bD _ hp,r.ext xb⟩
theorem RepB.keep (xb:Ext B B')(kp : ∀ a∈F,H' a=H a)(h:RepB K B H d v F):RepB K B' H' d v F:=by
 obtain⟨c,C,dx,a,w,q,kds,hds,kvs,hvs,ps,e1,e2,e3,ha,hw,fl,rk,hq,rfl,h3⟩:=h.ex
 exact⟨c,C,dx,a,w,q,kds,hds,kvs,hvs,ps,e1,e2,e3,(kp a (by simp)).trans ha,(kp w (by simp)).trans hw,fl,rk.ext xb,(kp q (by simp)).trans hq,rfl,
  h3.imp fun kd kv p m r=>⟨r.1,r.2.1,r.2.2.keep xb fun b hb=>kp b (by rw[cN.mp hb]; simp[m])⟩⟩
theorem RepB.flat (xb : ∀ a xs,B a=some (.tup xs)->B' a=some (.tup xs))(h:RepB K B H d v F):RepB K B' H d v F:=by
 obtain⟨c,C,dx,a,w,q,kds,hds,kvs,hvs,ps,e1,e2,e3,ha,hw,fl,rk,hq,rfl,h3⟩:=h.ex
 exact⟨c,C,dx,a,w,q,kds,hds,kvs,hvs,ps,e1,e2,e3,ha,hw,fl,rk.flat xb fl,hq,rfl,h3.imp fun kd kv p m r=>⟨r.1,r.2.1,r.2.2.flat xb⟩⟩
theorem Ku{dx:aB}{w q:V}(hc:eK K c=some (.ref C))(ha:H a=some (.ins C dx [("wide",w),("held",q)]))(h1:Abb K H W w)(h2:Abb K H D q):Abb K H (bZ c W D) (.ref a):=by
 refine Aca.mpr ⟨a,rfl,.inr (.inr (.inr (.inr (Ajs.mpr ⟨rfl,c,C,dx,_,rfl,hc,ha,Ad9.mpr ⟨_,_,_,rfl,rfl,?_,Ad9.mpr ⟨_,_,_,rfl,rfl,?_,Aky.mpr rfl⟩⟩⟩))))⟩
 ·rw[An9]
  exact Aac.mpr ⟨_,_,rfl,Aau.mpr ⟨rfl,by decide +kernel⟩,Aac.mpr ⟨_,_,rfl,h1,Aaj.mpr rfl⟩⟩
 ·rw[An9]
  exact Aac.mpr ⟨_,_,rfl,Aau.mpr ⟨rfl,by decide +kernel⟩,Aac.mpr ⟨_,_,rfl,h2,Aaj.mpr rfl⟩⟩
theorem BS{v:V}(h:Abb K H (bZ c W D) v) : ∃ C dx a w q,v = .ref a/\eK K c=some (.ref C)/\H a=some (.ins C dx [("wide",w),("held",q)])/\Abb K H W w/\Abb K H D q:=by
 obtain⟨a,e,⟨kvs,_,r⟩ | ⟨ts,_,r⟩ | ⟨xs,_,r⟩ | r | r⟩:=Aca.mp h
 ·obtain⟨k',_,_,_,ek,_⟩:=Aa0.mp r
  cases k' <;> cases ek
 ·obtain⟨_,_,_,_,⟨z,_⟩,_⟩:=Aa8.mp (Adn.mp r).2
  cases z
 ·obtain⟨es,z,_⟩:=xQ r
  cases z
 ·obtain⟨_,_,z⟩:=r.mark
  cases z
 ·obtain⟨_,c',C,dx,fs,z,hc,ha,r⟩:=Ajs.mp r
  cases z
  obtain⟨f1,x1,r1,rfl,_,q1,r⟩:=Ad9.mp r
  obtain⟨f2,x2,r2,rfl,_,q2,r⟩:=Ad9.mp r
  rw[Aky.mp r] at ha
  rw[An9] at q1 q2
  obtain⟨_,_,z1,p1,q1⟩:=Aac.mp q1
  obtain⟨_,_,z2,p2,q2⟩:=Aac.mp q2
  cases z1
  cases z2
  obtain⟨_,_,z1,p3,_⟩:=Aac.mp q1
  obtain⟨_,_,z2,p4,_⟩:=Aac.mp q2
  cases z1
  cases z2
  have e1:=(Aau.mp p1).1
  have e2:=(Aau.mp p2).1
  cases e1
  cases e2
  exact⟨C,dx,a,_,_,e,hc,ha,p3,p4⟩
theorem RepB.share (xb:Ext B B')(kp : ∀ a∈F,∀ o,H a=some o->B' a=some o)(h:RepB K B H d v F):Abb K B' d v:=by
 obtain⟨c,C,dx,a,w,q,kds,hds,kvs,hvs,ps,rfl,rfl,e3,ha,hw,fl,rk,hq,rfl,h3⟩:=h.ex
 refine Ku e3 (kp a (by simp) _ ha) (JR rfl (kp w (by simp) _ hw) (rk.ext xb)) (JR rfl (kp q (by simp) _ hq) ?_)
 have kp2 : ∀ p∈ps,∀ o,H p=some o->B' p=some o:=fun p m=>kp p (by simp[m])
 clear hq ha kp h
 obtain⟨xe,hvs⟩:=hvs
 replace h3:All3 _ hds hvs ps:=h3
 induction h3 with
 | nil=>exact Abk.mpr rfl
 | cons h t ih=>
  refine Aa0.mpr ⟨_,_,_,rfl,h.1,?_,ih fun p m=>kp2 p (bJ _ m)⟩
  have:=h.2.2.share xb fun b hb=>kp2 b (by rw[cN.mp hb]; exact bD)
  rw[h.2.1]
  exact this
theorem RepB.mut (h:RepB K B H d v F) : ∀ a∈F,(∃ xs,H a=some (.lst xs)) \/ ∃ q:DQ,H a=some (dO q):=by
 obtain⟨c,C,dx,a,w,q,kds,hds,kvs,hvs,ps,rfl,rfl,e3,ha,hw,fl,rk,hq,rfl,h3⟩:=h.ex
 intro b m
 simp only[cI] at m
 rcases m with rfl | rfl | rfl | m
 ·exact .inr ⟨.ins _ _ _,ha⟩
 ·exact .inr ⟨.inl _,hw⟩
 ·exact .inr ⟨.inl _,hq⟩
 ·obtain⟨_,_,_,_,kds,p,ts,_,e2,hp,_⟩:=h3.of b m
  cases e2
  exact .inr ⟨.inr ts,hp⟩
theorem Ayc.keep (xb:Ext B B')(kp : ∀ a∈F,H' a=H a)(h:Ayc K B H d v F):Ayc K B' H' d v F:=by
 obtain⟨ds,p,xs,Fs,e,ev,hp,rfl,h⟩:=h
 exact⟨ds,p,xs,Fs,e,ev,by rw[kp p bD]; exact hp,rfl,h.imp fun a b c m r=>r.keep xb fun z mz=>kp z (bJ _ (dY.mpr ⟨c,m,mz⟩))⟩
theorem Ayc.share (xb:Ext B B')(kp : ∀ a∈F,∀ o,H a=some o->B' a=some o)(h:Ayc K B H d v F):Abb K B' d v:=by
 obtain⟨ds,p,xs,Fs,rfl,ev,hp,rfl,h⟩:=h
 refine Abf.mpr ⟨p,xs,ev,SqL.of (kp p bD _ hp),JV (R:=fun d v F=>Abb K B' d v) (fun _ _ _ h=>h) (h.imp fun a b c m r=>r.share xb fun z mz=>kp z (bJ _ (dY.mpr ⟨c,m,mz⟩)))⟩
theorem Ayc.flat (xb : ∀ a xs,B a=some (.tup xs)->B' a=some (.tup xs))(h:Ayc K B H d v F):Ayc K B' H d v F:=by
 obtain⟨ds,p,xs,Fs,e,ev,hp,eF,h⟩:=h
 exact⟨ds,p,xs,Fs,e,ev,hp,eF,h.imp fun a b c m r=>r.flat xb⟩
theorem Ayc.mut (h:Ayc K B H d v F) : ∀ a∈F,(∃ xs,H a=some (.lst xs)) \/ ∃ q:DQ,H a=some (dO q):=by
 obtain⟨ds,p,xs,Fs,e,ev,hp,rfl,h⟩:=h
 intro a m
 rcases cI.mp m with rfl | m
 ·exact .inl ⟨xs,hp⟩
 ·obtain⟨c,mc,ma⟩:=dY.mp m
  obtain⟨x,y,r⟩:=h.of c mc
  exact r.mut a ma
theorem Adw.keep (xb:Ext B B')(kp : ∀ a∈F,H' a=H a)(h:Adw K B H n d v F):Adw K B' H' n d v F:=by
 unfold Adw at h ⊢
 split at h
 ·rw[if_pos ‹_›]
  exact h.imp id fun h=>h.imp (fun h=>h.keep xb kp) fun h=>h.keep xb kp
 ·rw[if_neg ‹_›]
  split at h
  ·rw[if_pos ‹_›]
   exact h.imp id fun h=>h.keep xb kp
  ·rw[if_neg ‹_›]
   exact Aei.keep xb kp h
theorem Adw.share (xb:Ext B B')(kp : ∀ a∈F,∀ o,H a=some o->B' a=some o)(h:Adw K B H n d v F):Abb K B' d v:=by
 unfold Adw at h
 split at h
 ·rcases h with⟨rfl,rfl,_⟩ | h | h
  ·exact Ab8.mpr rfl
  ·exact h.share xb kp
  ·exact h.share xb kp
 ·split at h
  ·rcases h with⟨rfl,rfl,_⟩ | h
   ·exact Ab8.mpr rfl
   ·exact h.share xb kp
  ·exact Aei.share xb kp h
theorem Adw.flat (xb : ∀ a xs,B a=some (.tup xs)->B' a=some (.tup xs))(f:dX n d=true)(h:Adw K B H n d v F):Adw K B' H n d v F:=by
 unfold Adw at h ⊢
 split at h
 ·rw[if_pos ‹_›]
  exact h.imp id fun h=>h.imp (fun h=>h.flat xb) fun h=>h.flat xb
 ·rw[if_neg ‹_›]
  split at h
  ·rw[if_pos ‹_›]
   exact h.imp id fun h=>h.flat xb
  ·rw[if_neg ‹_›]
   exact Aei.flat xb f h
theorem Adw.nd (xb:NdX B B')(hn:n<9)(f:jD n d=true)(h:Adw K B H n d v F):Adw K B' H n d v F:=by
 unfold Adw at h ⊢
 rw[if_neg (by omega),if_neg (by omega)] at h ⊢
 exact Aei.nd xb f h
theorem Adw.mut (h:Adw K B H n d v F) : ∀ a∈F,(∃ xs,H a=some (.lst xs)) \/ ∃ q:DQ,H a=some (dO q):=by
 unfold Adw at h
 split at h
 ·rcases h with⟨_,_,rfl⟩ | ⟨kds,p,ts,e1,e2,hp,rfl,f,r⟩ | h
  ·exact fun a m=>by simp at m
  ·intro a m
   rw[cN.mp m]
   exact .inr ⟨.inr ts,hp⟩
  ·exact h.mut
 ·split at h
  ·rcases h with⟨_,_,rfl⟩ | h
   ·exact fun a m=>by simp at m
   ·exact h.mut
  ·exact Aei.mut h
end
abbrev EF:=List (Option aA)->Option aA
abbrev BF:=List (Option aA)->Option Bool
abbrev AF:=List (Option aA)->Option (List aA)
def Akd (K:aH)(B:Hp)(ρ:List (Option aA))(σ:St):Prop:=∀ (i:Nat) d,ρ[i]?=some (some d) -> ∃ v,σ[i]?=some (some v)/\Abb K B d v
theorem Akd.ext {K:aH}{σ:St}(h:Akd K B ρ σ)(x:Ext B B'):Akd K B' ρ σ:=fun i d e=>let ⟨v,h1,h2⟩:=h i d e; ⟨v,h1,h2.ext x⟩
def Res (K:aH)(P:aB->Prop)(n:Nat)(d:aA)(H:Hp)(Q:VK):Prop:=
 ∀ v H' Fr,Ext H H'->Fr.Nodup->(∀ a∈Fr,H a=none /\ ∃ o,H' a=some o)->Adw K (hid H' (orL P Fr)) H' n d v Fr->Q v H'
section
variable {K:aH}{P:aB->Prop}{Q:VK}{v:V}
theorem Res.zero (h:Res K P 0 d H Q)(x:Ext H H')(r:Abb K (hid H' P) d v):Q v H':=
 h v H' [] x .nil (fun a m=>by simp at m) ⟨rfl,by rw[QS]; exact r⟩
theorem dA (h : ∀ v H',Ext H H'->Abb K (hid H' P) d v->Q v H'):Res K P 0 d H Q:=fun v H' Fr x _ _ r=>by
 obtain⟨rfl,r⟩:=r
 rw[QS] at r
 exact h v H' x r
theorem Res.mono (h:Res K P n d H Q)(x:Ext H H'):Res K P n d H' Q:=fun v H2 Fr x2 nd fr r=>
 h v H2 Fr (x.trans x2) nd (fun a m=>⟨x.none (fr a m).1,(fr a m).2⟩) r
theorem Res.of (hP:Hid P H)(h:Res K P 0 d H Q):Res K P n d H Q:=fun v H2 Fr x2 nd fr r=>
 h.zero x2 (r.share (gE fun a p=>.inl p) fun a m o e=>eO (hP.new (fr a m).1) e)
theorem Res.lst{xs:List V}{p:aB}(hP:Hid P H)(h:Res K P 1 (.list ds) H Q)(n:H p=none)(r:Aan K (hid H P) ds xs):Q (.ref p) (upd H p (.lst xs)):=by
 refine h (.ref p) _ [p] (Ext.new n) (dS.mpr ⟨by simp,.nil⟩) (fun a m=>?_) ⟨p,xs,xs.map fun _=>[],rfl,cP,?_,?_⟩
 ·have:a=p:=by simpa using m
  subst this
  exact⟨n,_,cP⟩
 ·have : ∀ l:List V,(l.map fun _=>([]:List aB)).flatten=[]:=fun l=>by
   induction l with
   | nil=>rfl
   | cons a l ih=>rw[dC,dQ,ih]; rfl
  rw[this]
 ·have xe:Ext (hid H P) (hid (upd H p (.lst xs)) (orL P [p])):=fun b o e=>by
   obtain⟨nb,e⟩:=Abu.mp e
   have hb:=hJ e n
   exact eO (fun q=>q.elim nb fun m=>hb (by simpa using m)) (by rw[bK hb]; exact e)
  generalize hid (upd H p (.lst xs)) (orL P [p])=B at xe
  generalize upd H p (.lst xs)=H1
  clear h
  have go : ∀ (ds:List aA) (xs:List V),Aan K (hid H P) ds xs->All3 (Aei K B H1 0) ds xs (xs.map fun _=>[]):=by
   intro ds
   induction ds with
   | nil=>intro xs r; rw[Aaj.mp r]; exact .nil
   | cons d ds ih=>
    intro xs r
    obtain⟨y,t,rfl,h1,h2⟩:=Aac.mp r
    exact .cons ⟨rfl,h1.ext xe⟩ (ih t h2)
  exact go ds xs r
theorem Res.tup{xs:List V}{p:aB}(hP:Hid P H)(h:Res K P 0 (.tuple ds) H Q)(n:H p=none)(r:Aan K (hid H P) ds xs):Q (.ref p) (upd H p (.tup xs)):=by
 refine h.zero (Ext.new n) (Aax.mpr ⟨p,xs,rfl,eO (hP.new n) cP,r.ext fun b o e=>?_⟩)
 obtain⟨nb,e⟩:=Abu.mp e
 exact eO nb (Ext.new n _ _ e)
end
def tF (K:aH)(n:Nat)(f:EF):TE:=fun σ H Q=>∃ P ρ d,Hid P H/\Akd K (hid H P) ρ σ/\f ρ=some d/\Res K P n d H Q
def tTF (K:aH)(f:BF):TT:=fun σ H Q=>∃ P ρ b,Hid P H/\Akd K (hid H P) ρ σ/\f ρ=some b /\ ∀ H',Ext H H'->Q b H'
def tAF (K:aH)(f:AF):TA:=fun σ H Q=>∃ P ρ ds,Hid P H/\Akd K (hid H P) ρ σ/\f ρ=some ds /\ ∀ vs H',Ext H H'->Aan K (hid H' P) ds vs->Q vs H'
abbrev DF (n:Nat)(X:Cx)(e:aS)(f:EF):Prop:=PE X e (tF X.K n f)
abbrev DE (X:Cx)(e:aS)(f:EF):Prop:=PE X e (tF X.K 0 f)
abbrev DT (X:Cx)(e:aS)(f:BF):Prop:=PT X e (tTF X.K f)
abbrev DW (X:Cx)(e:aS)(f:BF):Prop:=PW X e (tTF X.K f)
abbrev DA (X:Cx)(es:List aS)(f:AF):Prop:=PA X es (tAF X.K f)
section
variable {a b:aS}
theorem PE.imp {t t':TE}(h:PE X e t)(w : ∀ σ H Q,t' σ H Q->t σ H Q):PE X e t':=fun pins s σ H Q I q=>h pins s σ H Q I (w _ _ _ q)
theorem PT.imp {t t':TT}(h:PT X e t)(w : ∀ σ H Q,t' σ H Q->t σ H Q):PT X e t':=fun pins s σ H Q I q=>h pins s σ H Q I (w _ _ _ q)
theorem PW.imp {t t':TT}(h:PW X e t)(w : ∀ σ H Q,t' σ H Q->t σ H Q):PW X e t':=fun whole pins s σ H Q I q=>h whole pins s σ H Q I (w _ _ _ q)
theorem PA.imp {t t':TA}(h:PA X es t)(w : ∀ σ H Q,t' σ H Q->t σ H Q):PA X es t':=fun pos pins s σ H Q I q=>h pos pins s σ H Q I (w _ _ _ q)
theorem jK {f:EF}(h:DF n X e f):DE X e f:=PE.imp h fun σ H Q ⟨P,ρ,d,hP,rs,ef,k⟩=>⟨P,ρ,d,hP,rs,ef,Res.of hP k⟩
def aF (i:Nat):EF:=fun ρ=>(ρ[i]?).join
theorem UF(h:aF i ρ=some d):ρ[i]?=some (some d):=by
 unfold aF at h
 cases e:ρ[i]? with
 | none=>rw[e] at h; simp at h
 | some o=>rw[e] at h; simp at h; rw[h]
theorem aI (i:Nat)(hN:X.N[i]?=some x:=by rfl)(hv:jZ X.env.scope x:=by first | exact bM rfl | exact bI (bM rfl) | exact bI (bI rfl))(hd:(x == ("__debug__" : aD))=false:=by decide)
  (hcd:(x == ("__classdict__" : aD))=false:=by decide):DE X (.Name x pos) (aF i):=PE.imp (lG hN hv hd hcd) fun σ H Q gh=>by
 obtain⟨P,ρ,d,hP,rs,ef,k⟩:=gh
 obtain⟨v,h1,h2⟩:=rs i d (UF ef)
 exact⟨v,h1,k.zero Ext.refl h2⟩
def eC (d:aA):EF:=fun _=>some d
theorem wK{v:V}(h:PE X e (tC v))(hr : ∀ H,Abb X.K H d v):DE X e (eC d):=PE.imp h fun σ H Q gh=>by
 obtain⟨P,ρ,d',hP,rs,ef,k⟩:=gh
 cases ef
 exact k.zero Ext.refl (hr _)
theorem bC {i j}:DE X (.Constant (.int i) j pos) (eC (.int i)):=wK YZ fun _=>Aaq.mpr rfl
theorem iG {i j}:DE X (.Constant (.bool i) j pos) (eC (.bool i)):=wK tW fun _=>Aat.mpr rfl
theorem LZ {i j}(h:cQ (.str i)=true:=by decide +kernel):DE X (.Constant (.str i) j pos) (eC (.str i)):=wK XU fun _=>Aau.mpr ⟨rfl,h⟩
theorem qB{i:Int}(hg:Gl X x)(hm:X.mg x=some u)(r:RelV (.int i) u)(hd:(x == ("__debug__" : aD))=false:=by decide):DE X (.Name x pos) (eC (.int i)):=wK (ZT hg hm r hd) fun _=>Aaq.mpr rfl
theorem JG{i:aD}(hg:Gl X x)(hm:X.mg x=some u)(r:RelV (.str i) u)(hl:cQ (.str i)=true:=by decide +kernel)(hd:(x == ("__debug__" : aD))=false:=by decide):DE X (.Name x pos) (eC (.str i)):=wK (ZT hg hm r hd) fun _=>Aau.mpr ⟨rfl,hl⟩
def aM:AF:=fun _=>some []
def aK (f:EF)(g:AF):AF:=fun ρ=>(f ρ).bind fun d=>(g ρ).bind fun ds=>some (d::ds)
theorem aX:DA X [] aM:=PA.imp iR fun σ H Q gh=>by
 obtain⟨P,ρ,d,hP,rs,ef,k⟩:=gh
 cases ef
 exact k [] H Ext.refl (Aaj.mpr rfl)
theorem aR {f:EF}{g:AF}(h1:DE X e f)(h2:DA X es g)(hs:bE (e::es) X.env=(false,bH e X.env)::bE es X.env:=by rfl):DA X (e::es) (aK f g):=
 PA.imp (fV h1 h2 hs) fun σ H Q gh=>by
  obtain⟨P,ρ,ds,hP,rs,ef,k⟩:=gh
  obtain⟨d,e1,ef⟩:=XBs ef
  obtain⟨r,e2,ef⟩:=XBs ef
  cases ef
  exact⟨P,ρ,d,hP,rs,e1,dA fun v H1 x1 r1=>⟨P,ρ,r,hP.ext x1,rs.ext (cE x1),e2,fun vs H2 x2 r2=>
   k _ _ (x1.trans x2) (Aac.mpr ⟨v,vs,rfl,r1.ext (cE x2),r2⟩)⟩⟩
def oZ (g:AF):EF:=fun ρ=>(g ρ).bind fun ds=>if ds.length≤sizeLine then some (.tuple ds) else none
def oX (g:AF):EF:=fun ρ=>(g ρ).bind fun ds=>if ds.length≤sizeLine then some (.list ds) else none
theorem cU {α:Type}{c:Prop}[Decidable c]{x y:α}(h:(if c then some x else none)=some y):c/\x=y:=by
 by_cases q:c
 ·rw[if_pos q] at h; exact⟨q,dZ h⟩
 ·rw[if_neg q] at h; cases h
theorem MB {g:AF}{x1}(h:DA X es g):DE X (.Tuple es x1 pos) (oZ g):=PE.imp (Iq h) fun σ H Q gh=>by
 obtain⟨P,ρ,d,hP,rs,ef,k⟩:=gh
 obtain⟨ds,e1,ef⟩:=XBs ef
 obtain⟨hl,rfl⟩:=cU ef
 exact⟨P,ρ,ds,hP,rs,e1,fun vs H1 x1 r1=>⟨by rw[r1.length]; exact hl,fun p hp=>(k.mono x1).tup (hP.ext x1) hp r1⟩⟩
theorem uL {g:AF}(h:DA X es g):DF 1 X (.List es pos) (oX g):=PE.imp (HE h) fun σ H Q gh=>by
 obtain⟨P,ρ,d,hP,rs,ef,k⟩:=gh
 obtain⟨ds,e1,ef⟩:=XBs ef
 obtain⟨hl,rfl⟩:=cU ef
 exact⟨P,ρ,ds,hP,rs,e1,fun vs H1 x1 r1=>⟨by rw[r1.length]; exact hl,fun p hp=>(k.mono x1).lst (hP.ext x1) hp r1⟩⟩
def OpD (K:aH)(n:Nat)(r:R2)(g:aA->aA->Option aA):Prop:=
 ∀ (P:aB->Prop) (H:Hp) (x y:V) (a b d:aA) (Q:VK),Hid P H->Abb K (hid H P) a x->Abb K (hid H P) b y->g a b=some d->Res K P n d H Q->r x y H Q
def eOp (g:aA->aA->Option aA)(fa fb:EF):EF:=fun ρ=>(fa ρ).bind fun a=>(fb ρ).bind fun b=>g a b
theorem GX{fa fb:EF}{K:aH}(hg:OpD K n r g) : ∀ σ H Q,tF K n (eOp g fa fb) σ H Q->tOp r (tF K 0 fa) (tF K 0 fb) σ H Q:=fun σ H Q gh=>by
 obtain⟨P,ρ,d,hP,rs,ef,k⟩:=gh
 obtain⟨d1,e1,ef⟩:=XBs ef
 obtain⟨d2,e2,ef⟩:=XBs ef
 exact⟨P,ρ,d1,hP,rs,e1,dA fun v H1 x1 r1=>⟨P,ρ,d2,hP.ext x1,rs.ext (cE x1),e2,dA fun u H2 x2 r2=>
  hg P H2 v u d1 d2 d Q (hP.ext (x1.trans x2)) (r1.ext (cE x2)) r2 ef (k.mono (x1.trans x2))⟩⟩
theorem rH {op:Operator}{fa fb:EF}(ho:OpR X (kH op) r)(hg:OpD X.K n r g)(ha:DE X a fa)(hb:DE X b fb):DF n X (.BinOp a op b pos) (eOp g fa fb):=PE.imp (Ed ho ha hb) (GX hg)
theorem oI{fa fb:EF}(ho:OpR X (fH op) r)(hg:OpD X.K 0 r g)(ha:DE X a fa)(hb:DE X b fb)(hm:zD op b=false):DE X (.Compare a [op] [b] pos) (eOp g fa fb):=PE.imp (Lo ho ha hb hm) (GX hg)
def eUn (g:aA->Option aA)(fa:EF):EF:=fun ρ=>(fa ρ).bind g
def CallD (K:aH)(n:Nat)(r:List V->Hp->VK->Prop)(g:List aA->Option aA):Prop:=
 ∀ (P:aB->Prop) (H:Hp) (xs:List V) (ds:List aA) (d:aA) (Q:VK),Hid P H->Aan K (hid H P) ds xs->g ds=some d->Res K P n d H Q->r xs H Q
def aN (g:List aA->Option aA)(fa:AF):EF:=fun ρ=>(fa ρ).bind g
variable {r:List V->Hp->VK->Prop}{g:List aA->Option aA}{fa:AF}{p:bQ}{id:String}
theorem eQ (hc:Adg X (.builtin id) r)(hg:CallD X.K n r g)(hgl:Gl X x)(hm:X.mg x=none)(hv:lM x=some (.builtin id))(ha:DA X (e::es) fa)(hn:x ≠ "__name__":=by decide)(hdb:(x == ("__debug__" : aD))=false:=by decide)
  (he:bE (e::es) X.env=(false,bH e X.env)::bE es X.env:=by rfl) (hpl:(fK pos (bE es X.env)).any (·.1)=false:=by rfl):DF n X (.Call (.Name x p) (e::es) [] pos) (aN g fa):=
 PE.imp (BR hc hgl hm hv ha hn hdb he hpl) fun σ H Q gh=>by
  obtain⟨P,ρ,d,hP,rs,ef,k⟩:=gh
  obtain⟨d1,e1,ef⟩:=XBs ef
  exact⟨P,ρ,d1,hP,rs,e1,fun vs H1 x1 r1=>hg P H1 vs d1 d Q (hP.ext x1) r1 ef (k.mono x1)⟩
theorem xU (hc:Adg X (.type T) r)(hg:CallD X.K n r g)(hgl:Gl X x)(hm:X.mg x=none)(hv:lM x=some (.type T))(ha:DA X (e::es) fa)(hn:x ≠ "__name__":=by decide)(hdb:(x == ("__debug__" : aD))=false:=by decide)
  (he:bE (e::es) X.env=(false,bH e X.env)::bE es X.env:=by rfl) (hpl:(fK pos (bE es X.env)).any (·.1)=false:=by rfl):DF n X (.Call (.Name x p) (e::es) [] pos) (aN g fa):=
 PE.imp (JX hc hgl hm hv ha hn hdb he hpl) fun σ H Q gh=>by
  obtain⟨P,ρ,d,hP,rs,ef,k⟩:=gh
  obtain⟨d1,e1,ef⟩:=XBs ef
  exact⟨P,ρ,d1,hP,rs,e1,fun vs H1 x1 r1=>hg P H1 vs d1 d Q (hP.ext x1) r1 ef (k.mono x1)⟩
def asB:aA->Option Bool
 | .bool b=>some b
 | _=>none
theorem uS{b:Bool}(h:asB d=some b):d = .bool b:=by
 cases d <;> simp[asB] at h
 rw[h]
def bOf (f:EF):BF:=fun ρ=>(f ρ).bind asB
theorem kA {f:EF}(h:DE X e f)(he : ∀ whole,isTrue e X.env whole=(do let v ← whole; vJ e.pos; nO [v] (truthy v)):=by intro _; rfl):DT X e (bOf f):=PT.imp (Hg h he) fun σ H Q gh=>by
 obtain⟨P,ρ,b,hP,rs,ef,k⟩:=gh
 obtain⟨d,e1,ef⟩:=XBs ef
 cases uS ef
 exact⟨P,ρ,_,hP,rs,e1,dA fun v H1 x1 r1=>⟨b,Aat.mp r1,k H1 x1⟩⟩
theorem fS{r:R2}{g:aA->aA->Option aA}{fa fb:EF}(ho:OpR X (fH op) r)(hg:OpD X.K 0 r g)(ha:DE X a fa)(hb:DE X b fb)(hm:zD op b=false):DT X (.Compare a [op] [b] pos) (bOf (eOp g fa fb)):=
 PT.imp (Kx ho ha hb hm) fun σ H Q gh=>by
  obtain⟨P,ρ,c,hP,rs,ef,k⟩:=gh
  obtain⟨d,e1,ef⟩:=XBs ef
  cases uS ef
  exact GX hg σ H _ ⟨P,ρ,_,hP,rs,e1,dA fun v H1 x1 r1=>⟨c,Aat.mp r1,k H1 x1⟩⟩
def fE (f:BF):BF:=fun ρ=>(f ρ).bind fun b=>some (!b)
def Dt (f g:BF):BF:=fun ρ=>(f ρ).bind fun b=>if b=true then g ρ else some false
def bOr (f g:BF):BF:=fun ρ=>(f ρ).bind fun b=>if b=true then some true else g ρ
variable {fB gB:BF}{rest:List aS}
theorem jH (h:DT X a fB):DT X (.UnaryOp .Not a pos) (fE fB):=PT.imp (Hz h) fun σ H Q gh=>by
 obtain⟨P,ρ,c,hP,rs,ef,k⟩:=gh
 obtain⟨b,e1,ef⟩:=XBs ef
 cases ef
 exact⟨P,ρ,b,hP,rs,e1,fun H1 x1=>k H1 x1⟩
theorem Ac (h:DT X a fB):DW X (.BoolOp .And [a] pos) fB:=Iy h
theorem oO (h:DT X a fB):DW X (.BoolOp .Or [a] pos) fB:=Gq h
theorem YA (h:DT X a fB)(h2:DW X (.BoolOp .And (b::rest) pos) gB):DW X (.BoolOp .And (a::b::rest) pos) (Dt fB gB):=PW.imp (Hv h h2) fun σ H Q gh=>by
 obtain⟨P,ρ,c,hP,rs,ef,k⟩:=gh
 obtain⟨b,e1,ef⟩:=XBs ef
 refine⟨P,ρ,b,hP,rs,e1,fun H1 x1=>?_⟩
 cases b with
 | true=>exact nK ⟨P,ρ,c,hP.ext x1,rs.ext (cE x1),by simpa using ef,fun H2 x2=>k H2 (x1.trans x2)⟩
 | false=>
  have:false=c:=by simpa using ef
  subst this
  exact mJ (k H1 x1)
theorem mR (h:DT X a fB)(h2:DW X (.BoolOp .Or (b::rest) pos) gB):DW X (.BoolOp .Or (a::b::rest) pos) (bOr fB gB):=PW.imp (Ey h h2) fun σ H Q gh=>by
 obtain⟨P,ρ,c,hP,rs,ef,k⟩:=gh
 obtain⟨b,e1,ef⟩:=XBs ef
 refine⟨P,ρ,b,hP,rs,e1,fun H1 x1=>?_⟩
 cases b with
 | true=>
  have:true=c:=by simpa using ef
  subst this
  exact nK (k H1 x1)
 | false=>exact mJ ⟨P,ρ,c,hP.ext x1,rs.ext (cE x1),by simpa using ef,fun H2 x2=>k H2 (x1.trans x2)⟩
theorem mI (h:DW X a fB):DT X a fB:=h.pt
def OT (f:EF):EF:=fun ρ=>(f ρ).bind fun d=>(asB d).bind fun b=>some (.bool (!b))
def iD (f g:EF):EF:=fun ρ=>(f ρ).bind fun d=>(asB d).bind fun b=>if b=true then g ρ else some (.bool false)
variable {f1 f2:EF}
theorem pS {op}(h:DE X a f1):DE X (.BoolOp op [a] pos) f1:=Gc h
theorem Fy (h:DE X a f1):DE X (.UnaryOp .Not a pos) (OT f1):=PE.imp (Ib h) fun σ H Q gh=>by
 obtain⟨P,ρ,c,hP,rs,ef,k⟩:=gh
 obtain⟨d,e1,ef⟩:=XBs ef
 obtain⟨b,e2,ef2⟩:=XBs ef
 clear ef
 have ef:=ef2
 clear ef2
 cases ef
 cases uS e2
 exact⟨P,ρ,_,hP,rs,e1,dA fun v H1 x1 r1=>⟨b,Aat.mp r1,k.zero x1 (Aat.mpr rfl)⟩⟩
theorem oM (h:DE X a f1)(h2:DE X (.BoolOp .And (b::rest) pos) f2):DE X (.BoolOp .And (a::b::rest) pos) (iD f1 f2):=PE.imp (Ir h h2) fun σ H Q gh=>by
 obtain⟨P,ρ,c,hP,rs,ef,k⟩:=gh
 obtain⟨d,e1,ef⟩:=XBs ef
 obtain⟨b,e2,ef2⟩:=XBs ef
 clear ef
 have ef:=ef2
 clear ef2
 cases uS e2
 refine⟨P,ρ,_,hP,rs,e1,dA fun v H1 x1 r1=>⟨b,Aat.mp r1,?_⟩⟩
 cases b with
 | true=>exact nK ⟨P,ρ,c,hP.ext x1,rs.ext (cE x1),by simpa using ef,k.mono x1⟩
 | false=>
  have:fP false=c:=by simpa using ef
  subst this
  exact mJ (k.zero x1 (Aat.mpr rfl))
def lI (g g':aA->aA->Option aA)(fa fb fc:EF):EF:=fun ρ=>(fa ρ).bind fun a=>(fb ρ).bind fun b=>(g a b).bind fun z=>(asB z).bind fun t=>if t=true then(fc ρ).bind fun c=>g' b c else some (.bool false)
theorem SD {r:R2}{g:aA->aA->Option aA}{fa fb fc:EF}{K:aH}(hg:OpD K 0 r g)(hg':OpD K 0 r' g') : ∀ σ H Q,tF K 0 (lI g g' fa fb fc) σ H Q->LX r r' (tF K 0 fa) (tF K 0 fb) (tF K 0 fc) σ H Q:=fun σ H Q gh=>by
 obtain⟨P,ρ,d,hP,rs,ef,k⟩:=gh
 obtain⟨d1,e1,ef⟩:=XBs ef
 obtain⟨d2,e2,ef⟩:=XBs ef
 obtain⟨z,e3,ef⟩:=XBs ef
 obtain⟨t,e4,ef2⟩:=XBs ef
 clear ef
 have ef:=ef2
 clear ef2
 cases uS e4
 refine⟨P,ρ,d1,hP,rs,e1,dA fun v H1 x1 r1=>⟨P,ρ,d2,hP.ext x1,rs.ext (cE x1),e2,dA fun u H2 x2 r2=>?_⟩⟩
 refine hg P H2 v u d1 d2 _ _ (hP.ext (x1.trans x2)) (r1.ext (cE x2)) r2 e3 (dA fun q H3 x3 r3=>⟨t,Aat.mp r3,?_⟩)
 cases t with
 | true=>
  obtain⟨d3,e5,ef⟩:=XBs (show((fc ρ).bind fun c=>g' d2 c)=some d by simpa using ef)
  exact nK ⟨P,ρ,d3,hP.ext ((x1.trans x2).trans x3),rs.ext (cE ((x1.trans x2).trans x3)),e5,dA fun w H4 x4 r4=>
   hg' P H4 u w d2 d3 d Q (hP.ext (((x1.trans x2).trans x3).trans x4)) (r2.ext (cE (x3.trans x4))) r4 ef (k.mono (((x1.trans x2).trans x3).trans x4))⟩
 | false=>
  have:fP false=d:=by simpa using ef
  subst this
  exact mJ (k.zero ((x1.trans x2).trans x3) (Aat.mpr rfl))
end
abbrev Slot:=Option (Nat×aA)
abbrev aY:=List Slot
def vS (ρ:aY):List (Option aA):=ρ.map fun s=>match s with | some (0,d)=>some d | _=>none
def vA (ρ:aY):List (Option aA):=ρ.map fun s=>s.map (·.2)
theorem Gx {ρ:aY}(h:(vS ρ)[i]?=some (some d)):ρ[i]?=some (some (0,d)):=by
 unfold vS at h
 rw[fD] at h
 cases e:ρ[i]? with
 | none=>rw[e] at h; simp at h
 | some s=>
  rw[e] at h
  simp only[sZ,vP] at h
  cases s with
  | none=>simp at h
  | some q=>
   obtain⟨n,d'⟩:=q
   cases n with
   | zero=>simp at h; rw[h]
   | succ n=>simp at h
theorem Fq {ρ:aY}(h:(vA ρ)[i]?=some (some d)) : ∃ n,ρ[i]?=some (some (n,d)):=by
 unfold vA at h
 rw[fD] at h
 cases e:ρ[i]? with
 | none=>rw[e] at h; simp at h
 | some s=>
  rw[e] at h
  cases s with
  | none=>simp at h
  | some q=>
   obtain⟨n,d'⟩:=q
   simp at h
   exact⟨n,by rw[h]⟩
abbrev Hd (P0:aB->Prop)(fp:Nat->List aB):aB->Prop:=fun a=>P0 a \/ ∃ i,a∈fp i
structure Sta (K:aH)(H0:Hp)(P0:aB->Prop)(B0:Hp)(ρ:aY)(σ:St)(H:Hp)(fp:Nat->List aB):Prop where
 len:σ.length=ρ.length
 nd : ∀ i,(fp i).Nodup
 dj : ∀ i j a,a∈fp i->a∈fp j->i=j
 own : ∀ i a,a∈fp i->H0 a=none/\((∃ xs,H a=some (.lst xs)) \/ ∃ q:DQ,H a=some (dO q))
 ext:Ext H0 H
 hd:Hid P0 H0
 base:Ext B0 (hid H (Hd P0 fp))
 slot : ∀ (i:Nat) n d,ρ[i]?=some (some (n,d)) -> ∃ v,σ[i]?=some (some v)/\Adw K (hid H (Hd P0 fp)) H n d v (fp i)
section
variable {K:aH}{ρ:aY}{σ:St}
theorem Sta.hid (S:Sta K H0 P0 B0 ρ σ H fp):Hid (Hd P0 fp) H:=fun a h=>by
 rcases h with h | ⟨i,h⟩
 ·exact S.hd.ext S.ext a h
 ·exact(S.own i a h).2
theorem Sta.np (S:Sta K H0 P0 B0 ρ σ H fp)(m:a∈fp i) : ¬ P0 a:=S.hd.new (S.own i a m).1
theorem Sta.grow (S:Sta K H0 P0 B0 ρ σ H fp)(x:Ext H H'):Sta K H0 P0 B0 ρ σ H' fp:=by
 refine⟨S.len,S.nd,S.dj,fun i a m=>⟨(S.own i a m).1,(S.own i a m).2.imp (fun⟨xs,e⟩=>⟨xs,x _ _ e⟩) fun⟨xs,e⟩=>⟨xs,x _ _ e⟩⟩,S.ext.trans x,S.hd,S.base.trans (cE x),fun i n d e=>?_⟩
 obtain⟨v,h1,h2⟩:=S.slot i n d e
 refine⟨v,h1,h2.keep (cE x) fun a m=>?_⟩
 rcases(S.own i a m).2 with⟨xs,e⟩ | ⟨xs,e⟩
 ·rw[e,x _ _ e]
 ·rw[e,x _ _ e]
theorem Sta.viewS (S:Sta K H0 P0 B0 ρ σ H fp):Akd K (L2.hid H (Hd P0 fp)) (vS ρ) σ:=fun i d e=>by
 obtain⟨v,h1,h2⟩:=S.slot i 0 d (Gx e)
 exact⟨v,h1,h2.2⟩
theorem Sta.viewA (S:Sta K H0 P0 B0 ρ σ H fp):Akd K (L2.hid H P0) (vA ρ) σ:=fun i d e=>by
 obtain⟨n,e⟩:=Fq e
 obtain⟨v,h1,h2⟩:=S.slot i n d e
 exact⟨v,h1,h2.share (gE fun a p=>.inl p) fun a m o e=>eO (S.np m) e⟩
def Tmp (K:aH)(H0:Hp)(P0:aB->Prop)(B0:Hp)(ρ:aY)(σ:St)(n:Nat)(d:aA)(v:V)(H:Hp):Prop:=
 ∃ fp,Sta K H0 P0 B0 ρ σ H fp/\Adw K (L2.hid H (Hd P0 fp)) H n d v (fp ρ.length)
inductive Md | s | a
def AE (ρ:aY):Bool:=ρ.all fun s=>match s with
 | some (0,_)=>true
 | some (1,.dict _)=>true
 | none=>true
 | _=>false
def AA (ρ:aY):Bool:=ρ.all fun s=>match s with
 | some (9,_)=>false
 | some (10,_)=>false
 | _=>true
def eV (n:Nat)(m:Md)(f:EF)(ρ:aY):Option aA:=match m with
 | .s=>f (vS ρ)
 | .a=>(f (vA ρ)).bind fun d=>if (dX n d||(AE ρ&&decide (n<9)&&jD n d)||(AA ρ&&decide (n=0)&&ftD d))=true then some d else none
def bV (m:Md)(f:BF)(ρ:aY):Option Bool:=match m with
 | .s=>f (vS ρ)
 | .a=>f (vA ρ)
def aV (m:Md)(f:AF)(ρ:aY):Option (List aA):=match m with
 | .s=>f (vS ρ)
 | .a=>f (vA ρ)
def tE (K:aH)(H0:Hp)(P0:aB->Prop)(n:Nat)(m:Md)(f:EF):TE:=fun σ H Q=>∃ B0 ρ fp d,Sta K H0 P0 B0 ρ σ H fp/\eV n m f ρ=some d /\ ∀ v H',Tmp K H0 P0 B0 ρ σ n d v H'->Q v H'
end
theorem Sta.trim {K:aH}{ρ:aY}{σ:St}(S:Sta K H0 P0 B0 ρ σ H fp) : ∃ fp',Sta K H0 P0 B0 ρ σ H fp' /\ ∀ i a,a∈fp' i->a∈fp i /\ ∃ n d,ρ[i]?=some (some (n,d)):=by
 let fp':Nat->List aB:=fun i=>match ρ[i]? with
  | some (some _)=>fp i
  | _=>[]
 have sub : ∀ i a,a∈fp' i->a∈fp i /\ ∃ n d,ρ[i]?=some (some (n,d)):=fun i a m=>by
  have m:a∈(match ρ[i]? with | some (some _)=>fp i | _=>[]):=m
  split at m
  ·rename_i x e
   exact⟨m,x.1,x.2,e⟩
  ·simp at m
 have same : ∀ i n d,ρ[i]?=some (some (n,d))->fp' i=fp i:=fun i n d e=>by
  show(match ρ[i]? with | some (some _)=>fp i | _=>[])=fp i
  rw[e]
 have xb:Ext (L2.hid H (Hd P0 fp)) (L2.hid H (Hd P0 fp')):=gE fun a h=>h.imp id fun⟨i,m⟩=>⟨i,(sub i a m).1⟩
 refine⟨fp',⟨S.len,fun i=>?_,fun i j a h1 h2=>S.dj i j a (sub i a h1).1 (sub j a h2).1,fun i a m=>S.own i a (sub i a m).1,S.ext,S.hd,S.base.trans xb,fun i n d e=>?_⟩,sub⟩
 ·show(match ρ[i]? with | some (some _)=>fp i | _=>[]).Nodup
  split
  ·exact S.nd i
  ·exact Ce
 ·obtain⟨v,h1,h2⟩:=S.slot i n d e
  rw[same i n d e]
  exact⟨v,h1,h2.keep xb fun a m=>rfl⟩
theorem Sta.dicts {K:aH}{ρ:aY}{σ:St}(S:Sta K H0 P0 B0 ρ σ H fp)(ho:AE ρ=true){n:Nat}(m:a∈fp i)(e:ρ[i]?=some (some (n,d))) : ∃ q,H a=some (dO (.inl q)):=by
 have:=eE.mp ho _ (iW e)
 obtain⟨v,h1,h2⟩:=S.slot i n d e
 split at this
 ·rename_i z
  cases z
  rw[h2.1] at m
  simp at m
 ·rename_i kds z
  cases z
  obtain⟨p,xs,Fs,_,hp,hF,h3⟩:=h2
  have hn : ∀ {ds:List (aA×aA)} {ys:List (aL×V)} {Gs:List (List aB)},All3 (fun(kd:aA×aA) (kv:aL×V) f=>kd.1=kD kv.1/\Aei K (L2.hid H (Hd P0 fp)) H 0 kd.2 kv.2 f) ds ys Gs->Gs.flatten=[]:=fun q=>by
   induction q with
   | nil=>rfl
   | cons h _ ih=>rw[dQ,h.2.1,ih]; rfl
  rw[hF,hn h3] at m
  rw[cN.mp m]
  exact⟨xs,hp⟩
 ·rename_i z
  cases z
 ·cases this
theorem Sta.no9 {K:aH}{ρ:aY}{σ:St}(S:Sta K H0 P0 B0 ρ σ H fp)(ho:AA ρ=true){n:Nat}(m:a∈fp i)(e:ρ[i]?=some (some (n,d))) : ∀ q,H a≠some (dO (.inr q)):=fun q z=>by
 have:=eE.mp ho _ (iW e)
 have n9:n≠9:=fun w=>by subst w; simp at this
 obtain⟨v,h1,h2⟩:=S.slot i n d e
 have n10:n≠10:=fun w=>by subst w; simp at this
 unfold Adw at h2
 rw[if_neg n9,if_neg n10] at h2
 rcases h2.mut1 a m with⟨xs,w⟩ | ⟨p,w⟩ <;> rw[z] at w <;> cases w
theorem GD {K:aH}{f:EF}(m:Md) : ∀ σ H Q,tE K H0 P0 n m f σ H Q->tF K n f σ H Q:=fun σ H Q gh=>by
 obtain⟨B0,ρ,fp,d,S,ef,k⟩:=gh
 cases m with
 | s=>
  refine⟨Hd P0 fp,vS ρ,d,S.hid,S.viewS,ef,fun v H' Fr x nd fr r=>k v H' ?_⟩
  have S':=S.grow x
  have hsub : ∀ a,Hd P0 (fun i=>if i=ρ.length then Fr else fp i) a->orL (Hd P0 fp) Fr a:=fun a h=>by
   rcases h with h | ⟨i,h⟩
   ·exact .inl (.inl h)
   ·by_cases hi:i=ρ.length
    ·simp only[hi,if_true] at h; exact .inr h
    ·simp only[hi,if_false] at h; exact .inl (.inr ⟨i,h⟩)
  have nfr : ∀ i a,a∈fp i->a∉Fr:=fun i a h1 h2=>by
   have:=(fr a h2).1
   rcases(S.own i a h1).2 with⟨xs,e⟩ | ⟨xs,e⟩ <;> rw[this] at e <;> first | cases e | (cases xs <;> simp[dO] at e)
  have xb:Ext (L2.hid H (Hd P0 fp)) (L2.hid H' (Hd P0 fun i=>if i=ρ.length then Fr else fp i)):=fun b o e=>by
   obtain⟨nb,e⟩:=Abu.mp e
   refine eO (fun q=>?_) (x _ _ e)
   rcases q with q | ⟨j,q⟩
   ·exact nb (.inl q)
   ·by_cases hj:j=ρ.length
    ·simp only[hj,if_true] at q; rw[(fr b q).1] at e; cases e
    ·simp only[hj,if_false] at q; exact nb (.inr ⟨j,q⟩)
  refine⟨fun i=>if i=ρ.length then Fr else fp i,⟨S.len,fun i=>?_,fun i j a hi hj=>?_,fun i a hi=>?_,S'.ext,S.hd,S.base.trans xb,fun i n' d' e'=>?_⟩,?_⟩
  ·by_cases hi:i=ρ.length
   ·simp only[hi,if_true]; exact nd
   ·simp only[hi,if_false]; exact S.nd i
  ·by_cases h1:i=ρ.length <;> by_cases h2:j=ρ.length
   ·rw[h1,h2]
   ·simp only[h1,if_true] at hi; simp only[h2,if_false] at hj; exact absurd hi (nfr _ _ hj)
   ·simp only[h1,if_false] at hi; simp only[h2,if_true] at hj; exact absurd hj (nfr _ _ hi)
   ·simp only[h1,if_false] at hi; simp only[h2,if_false] at hj; exact S.dj i j a hi hj
  ·by_cases h1:i=ρ.length
   ·simp only[h1,if_true] at hi
    exact⟨S.ext.none (fr a hi).1,r.mut a hi⟩
   ·simp only[h1,if_false] at hi
    exact S'.own i a hi
  ·have hlt:=(dM.mp e').1
   have h1:i≠ρ.length:=by omega
   obtain⟨v',q1,q2⟩:=S'.slot i n' d' e'
   refine⟨v',q1,?_⟩
   simp only[h1,if_false]
   obtain⟨v2,p1,p2⟩:=S.slot i n' d' e'
   have ev:=dZ (dZ (p1.symm.trans q1))
   subst ev
   refine p2.keep xb fun a m=>?_
   rcases(S.own i a m).2 with⟨xs,e⟩ | ⟨xs,e⟩
   ·rw[e,x _ _ e]
   ·rw[e,x _ _ e]
  ·simp only[if_true]
   exact r.keep (gE hsub) fun a m=>rfl
 | a=>
  obtain⟨d',ed,ef⟩:=XBs ef
  obtain⟨fl,rfl⟩:=cU ef
  obtain⟨fp,S,trm⟩:=S.trim
  refine⟨P0,vA ρ,d',S.hd.ext S.ext,S.viewA,ed,fun v H' Fr x nd fr r=>k v H' ?_⟩
  have S':=S.grow x
  have nfr : ∀ i a,a∈fp i->a∉Fr:=fun i a h1 h2=>by
   have:=(fr a h2).1
   rcases(S.own i a h1).2 with⟨xs,e⟩ | ⟨xs,e⟩ <;> rw[this] at e <;> first | cases e | (cases xs <;> simp[dO] at e)
  have xb:Ext (L2.hid H (Hd P0 fp)) (L2.hid H' (Hd P0 fun i=>if i=ρ.length then Fr else fp i)):=fun b o e=>by
   obtain⟨nb,e⟩:=Abu.mp e
   refine eO (fun q=>?_) (x _ _ e)
   rcases q with q | ⟨j,q⟩
   ·exact nb (.inl q)
   ·by_cases hj:j=ρ.length
    ·simp only[hj,if_true] at q; rw[(fr b q).1] at e; cases e
    ·simp only[hj,if_false] at q; exact nb (.inr ⟨j,q⟩)
  refine⟨fun i=>if i=ρ.length then Fr else fp i,⟨S.len,fun i=>?_,fun i j a hi hj=>?_,fun i a hi=>?_,S'.ext,S.hd,S.base.trans xb,fun i n' d' e'=>?_⟩,?_⟩
  ·by_cases hi:i=ρ.length
   ·simp only[hi,if_true]; exact nd
   ·simp only[hi,if_false]; exact S.nd i
  ·by_cases h1:i=ρ.length <;> by_cases h2:j=ρ.length
   ·rw[h1,h2]
   ·simp only[h1,if_true] at hi; simp only[h2,if_false] at hj; exact absurd hi (nfr _ _ hj)
   ·simp only[h1,if_false] at hi; simp only[h2,if_true] at hj; exact absurd hj (nfr _ _ hi)
   ·simp only[h1,if_false] at hi; simp only[h2,if_false] at hj; exact S.dj i j a hi hj
  ·by_cases h1:i=ρ.length
   ·simp only[h1,if_true] at hi
    exact⟨S.ext.none (fr a hi).1,r.mut a hi⟩
   ·simp only[h1,if_false] at hi
    exact S'.own i a hi
  ·have hlt:=(dM.mp e').1
   have h1:i≠ρ.length:=by omega
   obtain⟨v2,p1,p2⟩:=S.slot i n' d' e'
   refine⟨v2,p1,?_⟩
   simp only[h1,if_false]
   refine p2.keep xb fun a m=>?_
   rcases(S.own i a m).2 with⟨xs,e⟩ | ⟨xs,e⟩
   ·rw[e,x _ _ e]
   ·rw[e,x _ _ e]
  ·simp only[if_true]
   have up : ∀ a o,(L2.hid H' (orL P0 Fr)) a=some o->((∃ xs,o = .tup xs) \/ (AE ρ=true /\ ∀ q,o≠dO (.inl q)) \/ (AA ρ=true /\ ∃ q,o=dO (.inr q)))->(L2.hid H' (Hd P0 fun i=>if i=ρ.length then Fr else fp i)) a=some o:=fun a o e ho=>by
    obtain⟨na,e⟩:=Abu.mp e
    refine eO (fun q=>?_) e
    rcases q with q | ⟨j,q⟩
    ·exact na (.inl q)
    ·by_cases hj:j=ρ.length
     ·simp only[hj,if_true] at q; exact na (.inr q)
     ·simp only[hj,if_false] at q
      rcases ho with⟨xs,rfl⟩ | ⟨ho,hq⟩ | ⟨ho,qq,rfl⟩
      ·rcases(S'.own j a q).2 with⟨ys,e2⟩ | ⟨ys,e2⟩ <;> rw[e] at e2 <;> first | cases e2 | (cases ys <;> simp[dO] at e2)
      ·obtain⟨_,n',d',e'⟩:=trm j a q
       obtain⟨z,ez⟩:=S'.dicts ho q e'
       rw[e] at ez
       injection ez with ez
       exact hq z ez
      ·obtain⟨_,n',d',e'⟩:=trm j a q
       exact absurd e (S'.no9 ho q e' qq)
   rcases Ct.mp fl with fl | fl3
   rcases Ct.mp fl with fl | fl
   ·exact r.flat (fun a xs e=>up a _ e (.inl ⟨xs,rfl⟩)) fl
   ·have fl:=iC.mp fl
    have fl1:=iC.mp fl.1
    exact r.nd (fun a o e hq=>up a o e (.inr (.inl ⟨fl1.1,hq⟩))) (of_decide_eq_true fl1.2) fl.2
   ·have fl:=iC.mp fl3
    have fl1:=iC.mp fl.1
    have z:=of_decide_eq_true fl1.2
    subst z
    exact⟨r.1,r.2.ft (fun a o e hq=>up a o e (hq.imp id fun hq=>.inr ⟨fl1.1,hq⟩)) _ fl.2⟩
theorem ev {f:EF}(m:Md)(h:DF n X e f):PE X e (tE X.K H0 P0 n m f):=PE.imp h (GD m)
def tB' (K:aH)(H0:Hp)(P0:aB->Prop)(m:Md)(f:BF):TT:=fun σ H Q=>∃ B0 ρ fp b,Sta K H0 P0 B0 ρ σ H fp/\bV m f ρ=some b /\ ∀ H',Sta K H0 P0 B0 ρ σ H' fp->Q b H'
theorem evB {f:BF}(m:Md)(h:DT X e f):PT X e (tB' X.K H0 P0 m f):=PT.imp h fun σ H Q gh=>by
 obtain⟨B0,ρ,fp,b,S,ef,k⟩:=gh
 cases m with
 | s=>exact⟨Hd P0 fp,vS ρ,b,S.hid,S.viewS,ef,fun H' x=>k H' (S.grow x)⟩
 | a=>exact⟨P0,vA ρ,b,S.hd.ext S.ext,S.viewA,ef,fun H' x=>k H' (S.grow x)⟩
inductive Out where
 | nx (ρ:aY) | rt (d:aA) | bk (ρ:aY) | ct (ρ:aY)
abbrev SF:=aY->Option Out
def NZ (K:aH)(H0:Hp)(P0:aB->Prop)(n0:Nat)(d:aA)(v:V)(H':Hp):Prop:=
 ∃ Fr,Ext H0 H'/\Fr.Nodup/\(∀ a∈Fr,H0 a=none /\ ∃ o,H' a=some o)/\Adw K (hid H' (orL P0 Fr)) H' n0 d v Fr
def Eu (K:aH)(H0:Hp)(P0:aB->Prop)(B0:Hp)(n0:Nat)(D:Ends):Out->Prop
 | .nx ρ=>∀ σ H fp,Sta K H0 P0 B0 ρ σ H fp->D.nx σ H
 | .bk ρ=>∀ σ H fp,Sta K H0 P0 B0 ρ σ H fp->D.bk σ H
 | .ct ρ=>∀ σ H fp,Sta K H0 P0 B0 ρ σ H fp->D.ct σ H
 | .rt d=>∀ v H',NZ K H0 P0 n0 d v H'->D.rt v H'
def tS (K:aH)(H0:Hp)(P0:aB->Prop)(n0:Nat)(F:SF):TS:=fun D σ H=>∃ B0 ρ fp o,Sta K H0 P0 B0 ρ σ H fp/\F ρ=some o/\Eu K H0 P0 B0 n0 D o
abbrev DS (X:Cx)(H0:Hp)(P0:aB->Prop)(n0:Nat)(s:bW)(F:SF):Prop:=PS X s (tS X.K H0 P0 n0 F)
abbrev DSs (X:Cx)(H0:Hp)(P0:aB->Prop)(n0:Nat)(s:List bW)(F:SF):Prop:=PSs X s (tS X.K H0 P0 n0 F)
section
variable {s:bW}{ss:List bW}{F G:SF}{f:EF}
theorem PS.imp {t t':TS}(h:PS X s t)(w : ∀ D σ H,t' D σ H->t D σ H):PS X s t':=fun pins st σ H D I q=>h pins st σ H D I (w _ _ _ q)
theorem PSs.imp {t t':TS}(h:PSs X ss t)(w : ∀ D σ H,t' D σ H->t D σ H):PSs X ss t':=fun pins st σ H D I q=>h pins st σ H D I (w _ _ _ q)
def fF:SF:=fun ρ=>some (.nx ρ)
def bN (F G:SF):SF:=fun ρ=>(F ρ).bind fun o=>match o with
 | .nx ρ'=>G ρ'
 | o=>some o
theorem gD:DSs X H0 P0 n0 [] fF:=PSs.imp pZ fun D σ H gh=>by
 obtain⟨B0,ρ,fp,o,S,ef,k⟩:=gh
 cases ef
 exact k σ H fp S
theorem cD (h:DS X H0 P0 n0 s F):DSs X H0 P0 n0 [s] F:=kB h
theorem cC (h:DS X H0 P0 n0 s F)(h2:DSs X H0 P0 n0 ss G):DSs X H0 P0 n0 (s::ss) (bN F G):=PSs.imp (kC h h2) fun D σ H gh=>by
 obtain⟨B0,ρ,fp,o,S,ef,k⟩:=gh
 obtain⟨o1,e1,ef⟩:=XBs ef
 refine⟨B0,ρ,fp,o1,S,e1,?_⟩
 cases o1 with
 | nx ρ1=>exact fun σ1 H1 fp1 S1=>⟨B0,ρ1,fp1,o,S1,ef,k⟩
 | rt d=>cases ef; exact k
 | bk ρ1=>cases ef; exact k
 | ct ρ1=>cases ef; exact k
def sIf (m:Md)(t:BF)(F G:SF):SF:=fun ρ=>(bV m t ρ).bind fun b=>if b=true then F ρ else G ρ
theorem gC {c:aS}{a b:List bW}{t:BF}(m:Md)(hc:DT X c t)(ha:DSs X H0 P0 n0 a F)(hb:DSs X H0 P0 n0 b G):DS X H0 P0 n0 (.If c a b pos) (sIf m t F G):=
 PS.imp (oH (evB m hc) ha hb) fun D σ H gh=>by
  obtain⟨B0,ρ,fp,o,S,ef,k⟩:=gh
  obtain⟨b,e1,ef⟩:=XBs ef
  refine⟨B0,ρ,fp,b,S,e1,fun H1 S1=>?_⟩
  cases b with
  | true=>exact nK ⟨B0,ρ,fp,o,S1,by simpa using ef,k⟩
  | false=>exact mJ ⟨B0,ρ,fp,o,S1,by simpa using ef,k⟩
def frz (i:Nat)(ρ:aY):aY:=match ρ[i]? with
 | some (some (_,d))=>ρ.set i (some (0,d))
 | _=>ρ
theorem Sta.frz {K:aH}{ρ:aY}{σ:St}(S:Sta K H0 P0 B0 ρ σ H fp)(i:Nat) : ∃ fp',Sta K H0 P0 B0 (L2.frz i ρ) σ H fp':=by
 unfold L2.frz
 cases e:ρ[i]? with
 | none=>exact⟨fp,S⟩
 | some s=>
  cases s with
  | none=>exact⟨fp,S⟩
  | some q=>
   obtain⟨n,d⟩:=q
   have hi:=(dM.mp e).1
   have hsub : ∀ a,Hd P0 (fun j=>if j=i then [] else fp j) a->Hd P0 fp a:=fun a h=>by
    rcases h with h | ⟨j,h⟩
    ·exact .inl h
    ·by_cases hj:j=i
     ·simp only[hj,if_true] at h; simp at h
     ·simp only[hj,if_false] at h; exact .inr ⟨j,h⟩
   refine⟨fun j=>if j=i then [] else fp j,⟨by simp[S.len],fun j=>?_,fun j k a h1 h2=>?_,fun j a h1=>?_,S.ext,S.hd,S.base.trans (gE hsub),fun j n' d' e'=>?_⟩⟩
   ·by_cases hj:j=i
    ·simp only[hj,if_true]; exact .nil
    ·simp only[hj,if_false]; exact S.nd j
   ·by_cases hj:j=i
    ·simp only[hj,if_true] at h1; simp at h1
    ·by_cases hk:k=i
     ·simp only[hk,if_true] at h2; simp at h2
     ·simp only[hj,if_false] at h1; simp only[hk,if_false] at h2; exact S.dj j k a h1 h2
   ·by_cases hj:j=i
    ·simp only[hj,if_true] at h1; simp at h1
    ·simp only[hj,if_false] at h1; exact S.own j a h1
   ·by_cases hj:j=i
    ·subst hj
     rw[mO hi] at e'
     cases e'
     obtain⟨v,h1,h2⟩:=S.slot j n d e
     refine⟨v,h1,?_⟩
     simp only[if_true]
     refine⟨rfl,h2.share (gE hsub) fun a m o q=>eO (fun z=>?_) q⟩
     rcases z with z | ⟨k,z⟩
     ·exact S.np m z
     ·by_cases hk:k=j
      ·simp only[hk,if_true] at z; simp at z
      ·simp only[hk,if_false] at z; exact hk (S.dj k j a z m)
    ·rw[lD (fun z=>hj z.symm)] at e'
     obtain⟨v,h1,h2⟩:=S.slot j n' d' e'
     refine⟨v,h1,?_⟩
     simp only[hj,if_false]
     exact h2.keep (gE hsub) fun a m=>rfl
def pB (i:Nat)(F:SF):SF:=fun ρ=>F (frz i ρ)
theorem sA (i:Nat)(h:DSs X H0 P0 n0 ss F):DSs X H0 P0 n0 ss (pB i F):=PSs.imp h fun D σ H ⟨B0,ρ,fp,o,S,ef,k⟩=>let ⟨fp',S'⟩:=S.frz i; ⟨B0,_,fp',o,S',ef,k⟩
theorem Tmp.set {K:aH}{ρ:aY}{σ:St}{v:V}(t:Tmp K H0 P0 B0 ρ σ n d v H)(hi:i<ρ.length) : ∃ fp,Sta K H0 P0 B0 (ρ.set i (some (n,d))) (σ.set i (some v)) H fp:=by
 obtain⟨fp,S,r⟩:=t
 have hne:ρ.length≠i:=by omega
 have hsub : ∀ a,Hd P0 (fun j=>if j=i then fp ρ.length else if j=ρ.length then [] else fp j) a->Hd P0 fp a:=fun a h=>by
  rcases h with h | ⟨j,h⟩
  ·exact .inl h
  ·by_cases hj:j=i
   ·simp only[hj,if_true] at h; exact .inr ⟨_,h⟩
   ·by_cases hk:j=ρ.length
    ·simp only[hj,if_false,hk,if_true] at h
     rw[if_neg hne] at h
     simp at h
    ·simp only[hj,if_false,hk] at h; exact .inr ⟨j,h⟩
 have src : ∀ j a,a∈(if j=i then fp ρ.length else if j=ρ.length then [] else fp j)->(j=i/\a∈fp ρ.length) \/ (j≠i/\j≠ρ.length/\a∈fp j):=fun j a h=>by
  by_cases hj:j=i
  ·simp only[hj,if_true] at h; exact .inl ⟨hj,h⟩
  ·by_cases hk:j=ρ.length
   ·rw[if_neg hj,if_pos hk] at h; simp at h
   ·rw[if_neg hj,if_neg hk] at h; exact .inr ⟨hj,hk,h⟩
 refine⟨fun j=>if j=i then fp ρ.length else if j=ρ.length then [] else fp j,⟨by simp[S.len],fun j=>?_,fun j k a h1 h2=>?_,fun j a h1=>?_,S.ext,S.hd,S.base.trans (gE hsub),fun j n' d' e'=>?_⟩⟩
 ·by_cases hj:j=i
  ·rw[if_pos hj]; exact S.nd _
  ·by_cases hk:j=ρ.length
   ·rw[if_neg hj,if_pos hk]; exact .nil
   ·rw[if_neg hj,if_neg hk]; exact S.nd _
 ·rcases src j a h1 with⟨e1,m1⟩ | ⟨e1,l1,m1⟩ <;> rcases src k a h2 with⟨e2,m2⟩ | ⟨e2,l2,m2⟩
  ·rw[e1,e2]
  ·exact absurd (S.dj _ _ a m2 m1) l2
  ·exact absurd (S.dj _ _ a m1 m2) l1
  ·exact S.dj j k a m1 m2
 ·rcases src j a h1 with⟨e1,m1⟩ | ⟨e1,l1,m1⟩
  ·exact S.own _ a m1
  ·exact S.own _ a m1
 ·by_cases hj:j=i
  ·subst hj
   rw[mO hi] at e'
   cases e'
   refine⟨v,?_,?_⟩
   ·rw[mO (by rw[S.len]; exact hi)]
   ·rw[if_pos rfl]
    exact r.keep (gE hsub) fun a m=>rfl
  ·rw[lD (fun z=>hj z.symm)] at e'
   have hlt:=(dM.mp e').1
   have hk:j≠ρ.length:=by omega
   obtain⟨v',h1,h2⟩:=S.slot j n' d' e'
   refine⟨v',?_,?_⟩
   ·rw[lD (fun z=>hj z.symm)]; exact h1
   ·rw[if_neg hj,if_neg hk]
    exact h2.keep (gE hsub) fun a m=>rfl
def dH (i n:Nat)(m:Md)(f:EF):SF:=fun ρ=>(eV n m f ρ).bind fun d=>if i<ρ.length then some (.nx (ρ.set i (some (n,d)))) else none
theorem gU{pos':bQ}(n:Nat)(m:Md)(hN:X.N.Nodup)(hi:X.N[i]?=some x)(hx:kK X.env.scope x)(he:DF n X e f)(hs:kG e (some (.Name x pos')) pos.line X.env=pure false:=by rfl)(hf:X.fn x=true \/ X.env.scope.names.lookup x=some .local:=by first | exact .inl rfl | exact .inr rfl | assumption) :
  DS X H0 P0 n0 (.Assign [.Name x pos'] e pos) (dH i n m f):=PS.imp (ZE hN hi hx (ev m he) hs hf) fun D σ H gh=>by
 obtain⟨B0,ρ,fp,o,S,ef,k⟩:=gh
 obtain⟨d,e1,ef⟩:=XBs ef
 obtain⟨hl,rfl⟩:=cU ef
 refine⟨B0,ρ,fp,d,S,e1,fun v H' t=>?_⟩
 obtain⟨fp',S'⟩:=t.set hl
 exact k _ _ fp' S'
theorem Tmp.ret {K:aH}{ρ:aY}{σ:St}{v:V}(t:Tmp K H0 P0 B0 ρ σ n d v H):NZ K H0 P0 n d v H:=by
 obtain⟨fp,S,r⟩:=t
 refine⟨fp ρ.length,S.ext,S.nd _,fun a m=>⟨(S.own _ a m).1,?_⟩,r.keep (gE fun a h=>?_) fun a m=>rfl⟩
 ·rcases(S.own _ a m).2 with⟨xs,e⟩ | ⟨xs,e⟩
  ·exact⟨_,e⟩
  ·exact⟨_,e⟩
 ·rcases h with h | h
  ·exact .inl h
  ·exact .inr ⟨_,h⟩
def cS (n:Nat)(m:Md)(f:EF):SF:=fun ρ=>(eV n m f ρ).bind fun d=>some (.rt d)
theorem dR (m:Md)(he:DF n0 X e f):DS X H0 P0 n0 (.Return (some e) pos) (cS n0 m f):=PS.imp (uI (ev m he)) fun D σ H gh=>by
 obtain⟨B0,ρ,fp,o,S,ef,k⟩:=gh
 obtain⟨d,e1,ef⟩:=XBs ef
 cases ef
 exact⟨B0,ρ,fp,d,S,e1,fun v H' t=>k v H' t.ret⟩
def wQ (i n0:Nat):SF:=fun ρ=>match ρ[i]? with
 | some (some (n,d))=>if n=n0 then some (.rt d) else none
 | _=>none
theorem HN (i:Nat){p:bQ}(hN:X.N[i]?=some x:=by rfl)(hv:jZ X.env.scope x:=by first | exact bM rfl | exact bI (bM rfl) | exact bI (bI rfl))(hd:(x == ("__debug__" : aD))=false:=by decide)
  (hcd:(x == ("__classdict__" : aD))=false:=by decide):DS X H0 P0 n0 (.Return (some (.Name x p)) pos) (wQ i n0):=PS.imp (uI (lG hN hv hd hcd)) fun D σ H gh=>by
 obtain⟨B0,ρ,fp,o,S,ef,k⟩:=gh
 unfold wQ at ef
 cases e:ρ[i]? with
 | none=>rw[e] at ef; simp at ef
 | some q=>
  cases q with
  | none=>rw[e] at ef; simp at ef
  | some q=>
   obtain⟨n,d⟩:=q
   rw[e] at ef
   obtain⟨rfl,rfl⟩:=cU ef
   obtain⟨v,h1,h2⟩:=S.slot i n d e
   refine⟨v,h1,k v H ⟨fp i,S.ext,S.nd i,fun a m=>⟨(S.own i a m).1,?_⟩,h2.keep (gE fun a h=>?_) fun a m=>rfl⟩⟩
   ·rcases(S.own i a m).2 with⟨xs,e⟩ | ⟨xs,e⟩
    ·exact⟨_,e⟩
    ·exact⟨_,e⟩
   ·rcases h with h | h
    ·exact .inl h
    ·exact .inr ⟨_,h⟩
end
theorem Qk:Adg X (.builtin "isinstance") (fun xs H Q=>∃ x T t b,xs=[x,.ty T]/\TyOf X.K H x t/\Bl X.K t (.type T)=some b/\Q (.bl b) H):=by
 intro pins s σ H xs us Q I r h
 obtain⟨x,T,t,b,rfl,ty,e,q⟩:=h
 obtain⟨u,w',rfl,ru,rw'⟩:=vals2 r
 cases rw'
 exact Ms I ru ty e fun tk=>⟨.bl b,H,I.tok tk,rfl,q⟩
def zV (x:aD):It:=⟨fun i _=>i<x.cps.size,fun i H v H'=>H'=H /\ ∃ c,x.cps[i]?=some c/\v = .str ⟨#[c]⟩,fun i _=>x.cps.size≤i⟩
theorem UV{w:aU}{K:aH}{tk0:Tok}{ty:String}
  (W : ∀ A':bS,A'.handled=none->Walks P w A' it [it] [it] x.cps.size (SignAt x) (fun i h=>h.IsStrIter it ty x tk0 i))
  (sf : ∀ (A:bS) (i:Nat) (s:aG) (Q:aE->aG->Prop) (E:aE->aG->Prop),s.heap.IsStrIter it ty x tk0 i->Q (.ref it) s->aO (aQ P w) A (qQ (.ref it)) Q E s)
  (hno:["enumerate","zip","dict_itemiterator","dict_reverseitemiterator","odict_iterator","itertools.zip_longest","itertools.pairwise"].contains ty=false) :
  Turn P w K tg (zV x) [it] it (fun i h=>h.IsStrIter it ty x tk0 i/\i≤x.cps.size) where
 mem:=by simp
 obj:=fun i h st b hb=>by
  have e:b=it:=by simpa using hb
  subst e
  obtain⟨o,e,_,d⟩:=st.1
  exact⟨o,e,fun v z=>by rw[d] at z; cases z⟩
 keep:=fun i h h' st k=>⟨let ⟨o,e,r⟩:=st.1; ⟨o,k it (by simp) o e,r⟩,st.2⟩
 item:=by
  intro X hP hw hK hc i pins s σ H E I hf st hg
  subst hP hw hK
  obtain⟨f0,f1,f2,f3,f4,f5⟩:=hf it (by simp)
  refine(W X.A (I.ok.hd hc)).item i s _ _ hg st.1 fun v h' tk hv st' kk=>?_
  obtain⟨c,u,hcx,rfl⟩:=hv
  have I1:Inv X pins σ H { s with heap:=h',toks:=tk }:=I.turned (fun b o hb e=>kk b o (by simpa using hb) e) f0 f1 f3 f4 f5
  obtain⟨o,e,hcl,d⟩:=id st'
  exact⟨_,rfl,yY (s:={ s with heap:=h',toks:=tk }) e hcl d hno ⟨.str ⟨#[c]⟩,H,I1,⟨u,rfl⟩,⟨rfl,c,hcx,rfl⟩,⟨st',hg⟩,fun b hb=>(hf b hb).1⟩⟩
 done:=by
  intro X hP hw hK hc i pins s σ H E I hf st hg
  subst hP hw hK
  obtain⟨f0,f1,f2,f3,f4,f5⟩:=hf it (by simp)
  have hi:i=x.cps.size:=Nat.le_antisymm st.2 hg
  subst hi
  exact(W X.A (I.ok.hd hc)).done s _ _ st.1 fun h' tk kk=>⟨rfl,I.turned (fun b o hb e=>kk b o (by simpa using hb) e) f0 f1 f3 f4 f5⟩
 self:=fun A i s Q E st h=>sf A i s Q E st.1 h
def Di (tl:TE):TI:=fun σ H R=>tl σ H fun v H1=>∃ x,v = .str x/\R (zV x) H1
theorem Gj {X:Cx}{l:aS}(hl:PE X l tl):PI X tg l (Di tl):=by
 intro pins s σ H R I h
 refine thn (hl pins s σ H _ I h) fun v s1 gh=>?_
 obtain⟨y,H1,I1,r1,q1⟩:=gh
 obtain⟨x,rfl,q⟩:=q1
 obtain⟨t,rfl⟩:=r1
 have fin : ∀ (o:aW) (ty:String),Turn X.prog X.w X.K tg (zV x) [s1.heap.objs.size] s1.heap.objs.size (fun i h=>h.IsStrIter s1.heap.objs.size ty x t i/\i≤x.cps.size)->(s1.heap.push o).IsStrIter s1.heap.objs.size ty x t 0 ->
   PIE X pins σ tg R (.ref s1.heap.objs.size) { s1 with heap:=s1.heap.push o }:=fun o ty T st=>by
  refine⟨s1.heap.objs.size,[s1.heap.objs.size],_,_,H1,rfl,I1.kept fun b o e=>cJ _ e,T,⟨st,eL _⟩,fun b hb=>?_,q⟩
  have e:b=s1.heap.objs.size:=by simpa using hb
  subst e
  exact I1.fpOk (bP _) (I1.hok.fresh (bP _))
 cases ha:x.cps.all (· < 128)
 ·exact wpAny_pyIter_wide ha (fin _ "str_iterator" (UV (fun A' hA=>Walks.strWide hA _ x t) (fun A i s Q E st h=>wpAny_pyIter_striter_wide st h) (by decide)) ⟨_,eM _ rfl,rfl,rfl⟩)
 ·exact wpAny_pyIter_ascii ha (fin _ "str_ascii_iterator" (UV (fun A' hA=>Walks.strAscii hA _ x t) (fun A i s Q E st h=>wpAny_pyIter_striter_ascii st h) (by decide)) ⟨_,eM _ rfl,rfl,rfl⟩)
def allB (xs:List V):Bool:=xs.all fun v=>decide (v = .bl true)
theorem xY (hc:X.calm=true):Adg X (.builtin "all") (fun xs H Q=>∃ p ys,xs=[.ref p]/\SqL X.K H p ys/\(∀ y∈ys,∃ b,y = .bl b)/\Q (.bl (allB ys)) H):=by
 intro pins s σ H xs us Q I r h
 obtain⟨p,ys,rfl,hs,hb,q⟩:=h
 obtain⟨u,rfl,ru⟩:=vals1 r
 cases ru
 obtain⟨its,rv,pl,hz⟩:=I.list hs
 have hl:=pl.isList
 have hlt:p<s.heap.objs.size:=by obtain⟨o,n,e,_⟩:=pl; exact cG e
 have hh:=I.ok.hd hc
 have len:=rv.length
 refine call_all_walk (EH hl ⟨s.heap.objs.size,_,_,_,_,_,fun i=>decide (ys[i]?=some (.bl true)),rfl,Walks.list (A:=X.A.in1) hh s.heap.objs.size p (dG hlt) its.toArray,
  ⟨⟨_,eM _ rfl,rfl,rfl⟩,hl.at fun o e=>cJ _ e⟩,?_,?_⟩)
 ·intro i v s' Q' E' hv hq
  have hv':its[i]?=some v:=by simpa using hv
  have hi:i<ys.length:=by rw[len]; exact(dM.mp hv').1
  obtain⟨b,hy⟩:=hb ys[i] (zM hi)
  have hy':ys[i]?=some (.bl b):=by rw[jW hi,hy]
  obtain⟨u',h1,h2⟩:=rv.get hy'
  rw[hv'] at h1; cases h1
  cases h2
  refine sT ?_
  have:decide (ys[i]?=some (V.bl true))=b:=by rw[hy']; cases b <;> simp
  have hq:Q' (decide (ys[i]?=some (V.bl true))) s':=hq
  rw[this] at hq
  exact hq
 ·intro h' tk hk
  have e:((cW its.toArray.size).all fun i=>decide (ys[i]?=some (V.bl true)))=allB ys:=by
   have hn:its.toArray.size=ys.length:=by simp[len]
   rw[hn]
   unfold allB
   rw[Bool.eq_iff_iff]
   simp only[eE,iN,decide_eq_true_eq]
   constructor
   ·intro h v hv
    obtain⟨i,hi,rfl⟩:=List.getElem_of_mem hv
    have:=h i hi
    rw[jW hi] at this
    exact dZ this
   ·intro h i hi
    rw[jW hi,h _ (zM hi)]
  rw[e]
  refine⟨.bl (allB ys),H,?_,rfl,q⟩
  exact I.kept fun b o eb=>hk b o (by simp; exact dG (cG eb)) (cJ _ eb)
structure Def (P:bB)(w:aU)(K:aH)(mg:aD->Option aE)(base:aP)(x:aD)(k:Nat)(ps:List aD)(sp:Sp):Prop where
 ex : ∃ f fd,FnOk P w K mg base CX0 k f fd ps sp/\mg x=some (.ref f)/\lQ K (.ref f)=true/\Binds K fd ps []
section
variable {k:Nat}{t:TA}{p:bQ}
theorem Il (D:Def X.prog X.w X.K X.mg X.base x k ps sp)(hr:Room k X.A)(hg:Gl X x)(ha:PA X (e::es) t)(hdb:(x == ("__debug__" : aD))=false:=by decide)(he:bE (e::es) X.env=(false,bH e X.env)::bE es X.env:=by rfl)
  (hpl:(fK pos (bE es X.env)).any (·.1)=false:=by rfl):PE X (.Call (.Name x p) (e::es) [] pos) (GS sp [] E0 t):=by
 obtain⟨f,fd,F,hm,hk,hb⟩:=D.ex
 exact Am F hr hg hm hk hb .nil Fm ha hdb he hpl
end
def GB (a b:String):Option Bool:=if (jC a == jC b)=true then some true else if PySem.W.kitMeta b=true then(fastBuiltinMro a).map (·.contains (.type b)) else none
theorem Amg {K:aH}{a b:String}:Bl K (.type a) (.type b)=GB a b:=rfl
def kinds:List String:=["NoneType","bool","int","str","list","tuple","dict"]
def isK (t T:String):Bool:=t == T||(t == "bool" && T == "int")
theorem Wc:(kinds.all fun t=>["int","bool","str","list","tuple","dict"].all fun T=>decide (GB t T=some (isK t T)))=true:=by decide +kernel
theorem Sq {t:String}(ht:t∈kinds)(hT:T∈["int","bool","str","list","tuple","dict"]):GB t T=some (isK t T):=by
 have h:=eE.mp Wc t ht
 have h:=eE.mp h T hT
 exact of_decide_eq_true h
def Kd (K:aH)(H:Hp)(x:V)(t:String):Prop:=TyOf K H x (.type t)/\t∈kinds
theorem Kd.ext {K:aH}(x:Ext H H'){v:V}{t:String}(h:Kd K H v t):Kd K H' v t:=⟨x.ty h.1,h.2⟩
theorem Kd.int {K:aH}{x:V}(h:Kd K H x "int") : ∃ i,x = .int i:=by
 obtain⟨h,_⟩:=h
 generalize e:jC "int" = t at h
 cases h <;> first | exact⟨_,rfl⟩ | exact absurd (Value.type.inj e) (by decide) | cases e
theorem Kd.str {K:aH}{x:V}(h:Kd K H x "str") : ∃ i,x = .str i:=by
 obtain⟨h,_⟩:=h
 generalize e:jC "str" = t at h
 cases h <;> first | exact⟨_,rfl⟩ | exact absurd (Value.type.inj e) (by decide) | cases e
theorem Em(hg:Gl X x)(hm:X.mg x=none)(hv:lM x=some (.type T))(hn:x ≠ "__name__":=by decide)(hd:(x == ("__debug__" : aD))=false:=by decide):PE X (.Name x pos) (tC (.ty T)):=
 Ki hg hm hv rfl hn hd
theorem boot_isinstance:lM "isinstance" = some (.builtin "isinstance"):=by decide +kernel
theorem boot_abs:lM "abs" = some (.builtin "abs"):=by decide +kernel
theorem boot_all:lM "all" = some (.builtin "all"):=by decide +kernel
theorem bits_le {i:Int}(h:i.natAbs<2 ^ n):Builtin.Int.intBits i≤n:=by
 unfold Builtin.Int.intBits
 split
 ·exact eL _
 ·rename_i hne
  have h0:i.natAbs≠0:=by
   intro z; apply hne; simp[Int.natAbs_eq_zero.mp z]
  have:=(Nat.log2_lt h0).mpr h
  omega
theorem Mf:OpR X (kH .Mult) (rI (fun i j=>i.natAbs<2 ^ 1000/\j.natAbs<2 ^ 1000) fun i j=>.int (i*j)):=opI fun i j _ _ _ _ _ hc q=>
 mul_int q (PyProof.Rows.mulOk_of_bits (bits_le hc.1) (bits_le hc.2) (by decide))
theorem fI{k:Nat}(hr:Room k A):A.units+100<cLine:=by
 have:=hr.un
 omega
theorem XB : ∀ {xs:List V} {us:List aE},xs.length=us.length->(∀ (j:Nat) x u,xs[j]?=some x->us[j]?=some u->RelV x u)->Vals xs us
 | [],[],_,_=>.nil
 | [],_::_,h,_=>by simp at h
 | _::_,[],h,_=>by simp at h
 | x::xs,u::us,h,r=>.cons (r 0 x u rfl rfl) (XB (by simpa using h) fun j y w h1 h2=>r (j+1) y w (by simpa using h1) (by simpa using h2))
def OK:R2:=fun x y H Q=>∃ i j,x = .str i/\y = .str j/\Q (.bl (!(decide (j.cps.toList<i.cps.toList)))) H
def rN (c:Nat):V:=.str ⟨#[c]⟩
theorem Pj (hc:X.calm=true):Adg X (.type "list") (fun xs H Q=>∃ z:aD,xs=[.str z]/\z.length≤sizeLine /\ ∀ l,H l=none->Q (.ref l) (upd H l (.lst (z.cps.toList.map rN)))):=by
 intro pins s σ H xs us Q I r h
 obtain⟨z,rfl,hz,q⟩:=h
 obtain⟨u,rfl,t,rfl⟩:=vals1 r
 refine call_list_str (I.ok.hd hc) z t (fun h' tk acc' c' hk hS hacc=>?_) hz
 have hv:Vals (z.cps.toList.map rN) acc'.toList:=by
  refine XB (by simp[hacc.1]) fun j x u h1 h2=>?_
  obtain⟨c,t',hc1,rfl⟩:=hacc.2 j u (by simpa using h2)
  have:(z.cps.toList.map rN)[j]?=some (rN c):=by simp[hc1]
  rw[this] at h1
  cases h1
  exact⟨t',rfl⟩
 exact⟨.ref s.heap.objs.size,_,I.laid hk (bP _) (show Ach X.prog X.w _ h' _ (.lst (z.cps.toList.map rN)) from⟨by rw[bX,gV]; exact hz,acc'.toList,c',hv,by simpa using hS⟩),rfl,q _ I.fresh⟩
theorem sJ:OpR X (fH .LtE) OK:=by
 intro pins s σ H x y v u Q I rx ry h
 obtain⟨i,j,rfl,rfl,q⟩:=h
 obtain⟨t,rfl⟩:=rx
 obtain⟨t',rfl⟩:=ry
 exact PySem.P.le_str ⟨.bl _,H,I,rfl,q⟩
theorem Nt {ys:List aD} : ∀ {us:List aE},Vals (ys.map V.str) us->StrsAre us ys:=by
 induction ys with
 | nil=>intro us r; cases r; exact .nil
 | cons y r ih=>
  intro us h
  cases h with
  | cons h1 h2=>
   obtain⟨t,rfl⟩:=h1
   exact .cons y t (ih h2)
theorem Jj:MtR X "str.join" (fun x vs H Q=>∃ sep l ys,x = .str sep/\vs=[.ref l]/\SqL X.K H l (ys.map V.str)/\(ys.map (·.length)).sum+ys.length*sep.length≤16777216/\Q (.str (kY sep ys)) H):=by
 intro pins s σ H x xs v us Q I rx rv h
 obtain⟨sep,l,ys,rfl,rfl,hs,hok,q⟩:=h
 obtain⟨t,rfl⟩:=rx
 obtain⟨u,rfl,ru⟩:=vals1 rv
 cases ru
 obtain⟨its,r,pl,hz⟩:=I.list hs
 refine join_list pl.isList (by simpa using Nt r) hok fun t' k=>?_
 have e:Txt.join sep ys=kY sep ys:=StrLaws.glued_eq_join sep ys
 rw[e]
 exact⟨.str _,H,I.tok k,⟨t',rfl⟩,q⟩
theorem VY : ∀ cs:List Nat,kY ⟨#[]⟩ (cs.map fun c=>(⟨#[c]⟩:aD))=⟨cs.toArray⟩
 | []=>rfl
 | c::r=>by
  rw[dC,join_nil_cons,VY r]
  show(⟨#[c]++r.toArray⟩:aD)=⟨(c::r).toArray⟩
  simp
def ItD (K:aH)(B:Hp)(J:It)(ds:List aA):Prop:=∀ (i:Nat) (H2:Hp),Ext B H2 ->
 (∀ d,ds[i]?=some d->J.go i H2 /\ ∀ x H3,J.yld i H2 x H3->Ext H2 H3 /\ ∀ P2,Hid P2 H2->Ext B (hid H2 P2)->Abb K (hid H3 P2) d x)/\(ds.length=i->J.stop i H2)
def tI (K:aH)(f:AF):TI:=fun σ H R=>∃ P ρ ds,Hid P H/\Akd K (hid H P) ρ σ/\f ρ=some ds /\ ∀ J H',Ext H H'->ItD K (hid H' P) J ds->R J H'
def tI0 (K:aH)(f:AF):TI:=fun σ H R=>∃ P ρ ds,Hid P H/\Akd K (hid H P) ρ σ/\f ρ=some ds /\ ∀ J H',Ext H H'->ItD K (fun _=>none) J ds->R J H'
abbrev DI (X:Cx)(tg e:aS)(f:AF):Prop:=PI X tg e (tI X.K f)
abbrev DI0 (X:Cx)(tg e:aS)(f:AF):Prop:=PI X tg e (tI0 X.K f)
def itemsOf:aA->Option (List aA)
 | .list ds=>some ds
 | .tuple ds=>some ds
 | .str x=>some (x.cps.toList.map fun c=>.str ⟨#[c]⟩)
 | _=>none
def iIt (f:EF):AF:=fun ρ=>(f ρ).bind itemsOf
section
variable {a b:aS}{p:bQ}
theorem PI.imp {t t':TI}(h:PI X tg e t)(w : ∀ σ H R,t' σ H R->t σ H R):PI X tg e t':=fun pins s σ H R I q=>h pins s σ H R I (w _ _ _ q)
theorem PI.or {t t':TI}(h:PI X tg e t)(h':PI X tg e t'):PI X tg e (fun σ H R=>t σ H R \/ t' σ H R):=fun pins s σ H R I q=>q.elim (h pins s σ H R I) (h' pins s σ H R I)
theorem Vu {K:aH}{a:aB}{xs:List V}(h:SqL K B a xs)(r:Aan K B ds xs):ItD K B (GA K a) ds:=fun i H2 x2=>by
 have h2:=x2.sqL h
 refine⟨fun d hd=>?_,fun e=>⟨xs,h2,by rw[r.length]; omega⟩⟩
 obtain⟨v,h3,h4⟩:=r.get hd
 refine⟨⟨xs,v,h2,h3⟩,?_⟩
 rintro x H3 ⟨rfl,hx⟩
 have:=h3.symm.trans (hx xs h2)
 cases this
 exact⟨Ext.refl,fun P2 _ xb=>h4.ext xb⟩
theorem Jb {K:aH}{a:aB}{xs:List V}(h:B a=some (.tup xs))(r:Aan K B ds xs):ItD K B (FY K a) ds:=fun i H2 x2=>by
 have h2:SqT K H2 a xs:=SqT.of (x2 _ _ h)
 refine⟨fun d hd=>?_,fun e=>⟨xs,h2,by rw[r.length]; omega⟩⟩
 obtain⟨v,h3,h4⟩:=r.get hd
 refine⟨⟨xs,v,h2,h3⟩,?_⟩
 rintro x H3 ⟨rfl,hx⟩
 have:some v=some x:=h3.symm.trans (hx xs h2)
 cases this
 exact⟨Ext.refl,fun P2 _ xb=>h4.ext xb⟩
theorem JF {z:aD}{c:Nat}(h:cQ (.str z)=true)(hc:z.cps.toList[i]?=some c):cQ (.str ⟨#[c]⟩)=true:=by
 have hz : ∀ d∈z.cps,d<0x110000:=by
  have h':z.cps.all (· < 0x110000)=true:=by simpa only[cQ,MW] using h
  intro d hd
  exact of_decide_eq_true (Array.all_eq_true'.mp h' d hd)
 have:=hz c (by simpa using iW hc)
 simp[cQ,MW,this]
theorem Lg {K:aH}{z:aD}(hl:cQ (.str z)=true):ItD K B (zV z) (z.cps.toList.map fun c=>.str ⟨#[c]⟩):=fun i H2 x2=>by
 refine⟨fun d hd=>?_,fun e=>?_⟩
 ·rw[fD] at hd
  cases hc:z.cps.toList[i]? with
  | none=>rw[hc] at hd; simp at hd
  | some c=>
   rw[hc] at hd
   have hd:cF ⟨#[c]⟩=d:=by simpa using hd
   subst hd
   have hlt:i<z.cps.size:=by simpa using(dM.mp hc).1
   refine⟨hlt,?_⟩
   rintro x H3 ⟨rfl,c',hc',rfl⟩
   have:z.cps.toList[i]?=some c':=by simpa using hc'
   rw[hc] at this
   cases this
   exact⟨Ext.refl,fun P2 _ _=>Aau.mpr ⟨rfl,JF hl hc⟩⟩
 ·have:z.cps.size=i:=by simpa using e
  exact NB this
theorem Wh {K:aH}{lo:Int}:ItD K B (zW lo n) ((cW n).map fun(k:Nat)=>aZ (lo+k)):=fun i H2 x2=>by
 refine⟨fun d hd=>?_,fun e=>?_⟩
 ·have hlt:i<n:=by
   have:=(dM.mp hd).1
   simpa using this
  have hd':aZ (lo+i)=d:=by
   rw[fD,List.getElem?_range hlt] at hd
   simpa using hd
  subst hd'
  refine⟨hlt,?_⟩
  rintro x H3 ⟨rfl,rfl⟩
  exact⟨Ext.refl,fun P2 _ _=>Aaq.mpr rfl⟩
 ·have:n=i:=by simpa using e
  exact NB this
theorem lZ {f:EF}(h:DE X e f):DI X tg e (iIt f):=PI.imp (PI.or (Kw h) (PI.or (Fv h) (Gj h))) fun σ H R gh=>by
 obtain⟨P,ρ,ds,hP,rs,ef,k⟩:=gh
 obtain⟨d,e1,ef⟩:=XBs ef
 cases d with
 | list ds'=>
  have:ds'=ds:=by simpa [itemsOf] using ef
  subst this
  refine .inl ⟨P,ρ,_,hP,rs,e1,dA fun v H1 x1 r1=>?_⟩
  obtain⟨a,xs,rfl,hr,rr⟩:=Abf.mp r1
  exact⟨a,rfl,⟨xs,Aay.sqL hr⟩,k _ H1 x1 (Vu hr rr)⟩
 | tuple ds'=>
  have:ds'=ds:=by simpa [itemsOf] using ef
  subst this
  refine .inr (.inl ⟨P,ρ,_,hP,rs,e1,dA fun v H1 x1 r1=>?_⟩)
  obtain⟨a,xs,rfl,hr,rr⟩:=Aax.mp r1
  exact⟨a,rfl,⟨xs,SqT.of (Aay _ _ hr)⟩,k _ H1 x1 (Jb hr rr)⟩
 | str z=>
  have:z.cps.toList.map (fun c=>cF ⟨#[c]⟩)=ds:=by simpa [itemsOf] using ef
  subst this
  refine .inr (.inr ⟨P,ρ,_,hP,rs,e1,dA fun v H1 x1 r1=>?_⟩)
  exact⟨z,(Aau.mp r1).1,k _ H1 x1 (Lg (Aau.mp r1).2)⟩
 | _=>simp[itemsOf] at ef
def GC (lo hi:Int):Option (List aA):=if -(2 ^ 62)≤lo/\lo<2 ^ 62 /\ -(2 ^ 62)≤hi/\hi<2 ^ 62 then some ((cW (hi - lo).toNat).map fun(k:Nat)=>aZ (lo+k)) else none
def iR1 (fa:AF):AF:=fun ρ=>(fa ρ).bind fun ds=>match ds with
 | [.int j]=>GC 0 j
 | _=>none
theorem uX {fa:AF}(hg:Gl X "range")(hm:X.mg "range" = none)(ha:DA X [a] fa)(hs:bE [a] X.env=[(false,bH a X.env)]:=by rfl):DI0 X tg (.Call (.Name "range" p) [a] [] pos) (iR1 fa):=PI.imp (Nc hg hm ha hs) fun σ H R gh=>by
 obtain⟨P,ρ,ds,hP,rs,ef,k⟩:=gh
 obtain⟨as,e1,ef⟩:=XBs ef
 refine⟨P,ρ,as,hP,rs,e1,fun vs H1 x1 r1=>?_⟩
 split at ef
 ·rename_i j
  obtain⟨hb,rfl⟩:=cU ef
  obtain⟨v,t,rfl,h1,h2⟩:=Aac.mp r1
  obtain rfl:=Aaj.mp h2
  obtain rfl:=Aaq.mp h1
  have e0:(j - 0).toNat=j.toNat:=by simp
  refine⟨j,rfl,hb.2.2.1,hb.2.2.2,k _ H1 x1 ?_⟩
  rw[e0]
  exact Wh
 ·cases ef
theorem LR {f:AF}(h:DI0 X tg e f):DI X tg e f:=PI.imp h fun σ H R ⟨P,ρ,ds,hP,rs,ef,k⟩=>⟨P,ρ,ds,hP,rs,ef,fun J H' x it=>k J H' x fun i H2 x2=>by
 obtain⟨h1,h2⟩:=it i H2 (fun _ _ e=>by cases e)
 exact⟨fun d hd=>⟨(h1 d hd).1,fun v H3 y=>⟨((h1 d hd).2 v H3 y).1,fun P2 hp _=>((h1 d hd).2 v H3 y).2 P2 hp fun _ _ e=>by cases e⟩⟩,h2⟩⟩
def tI' (K:aH)(H0:Hp)(P0:aB->Prop)(m:Md)(f:AF):TI:=fun σ H R=>∃ B0 ρ fp ds,Sta K H0 P0 B0 ρ σ H fp/\aV m f ρ=some ds /\ ∀ J B1 H',Sta K H0 P0 B1 ρ σ H' fp->Ext B0 B1->ItD K B1 J ds->R J H'
theorem Sta.rebase {K:aH}{B1:Hp}{ρ:aY}{σ:St}(S:Sta K H0 P0 B0 ρ σ H fp)(b:Ext B1 (L2.hid H (Hd P0 fp))):Sta K H0 P0 B1 ρ σ H fp:=⟨S.len,S.nd,S.dj,S.own,S.ext,S.hd,b,S.slot⟩
theorem evI {f:AF}(h:DI X tg e f):PI X tg e (tI' X.K H0 P0 .s f):=PI.imp h fun σ H R ⟨B0,ρ,fp,ds,S,ef,k⟩=>
 ⟨Hd P0 fp,vS ρ,ds,S.hid,S.viewS,ef,fun J H' x it=>k J _ H' ((S.grow x).rebase Ext.refl) (S.grow x).base it⟩
theorem Dp {f:AF}(m:Md)(h:DI0 X tg e f):PI X tg e (tI' X.K H0 P0 m f):=PI.imp h fun σ H R gh=>by
 obtain⟨B0,ρ,fp,ds,S,ef,k⟩:=gh
 have up : ∀ {J:It} {B:Hp},ItD X.K (fun _=>none) J ds->ItD X.K B J ds:=fun {J B} it i H2 x2=>by
  obtain⟨h1,h2⟩:=it i H2 (fun _ _ e=>by cases e)
  exact⟨fun d hd=>⟨(h1 d hd).1,fun v H3 y=>⟨((h1 d hd).2 v H3 y).1,fun P2 hp _=>((h1 d hd).2 v H3 y).2 P2 hp fun _ _ e=>by cases e⟩⟩,h2⟩
 cases m with
 | s=>exact⟨Hd P0 fp,vS ρ,ds,S.hid,S.viewS,ef,fun J H' x it=>k J _ H' (S.grow x) Ext.refl (up it)⟩
 | a=>exact⟨P0,vA ρ,ds,S.hd.ext S.ext,S.viewA,ef,fun J H' x it=>k J _ H' (S.grow x) Ext.refl (up it)⟩
end
def tG (K:aH)(H0:Hp)(P0:aB->Prop)(T:aA->aY->Option aY):TG:=fun v σ H Q=>∃ B0 ρ fp d ρ',Sta K H0 P0 B0 ρ σ H fp/\Abb K (hid H (Hd P0 fp)) d v/\T d ρ=some ρ' /\ ∀ σ' fp',Sta K H0 P0 B0 ρ' σ' H fp'->Q σ' H
abbrev DG (X:Cx)(H0:Hp)(P0:aB->Prop)(tg:aS)(T:aA->aY->Option aY):Prop:=PG X tg (tG X.K H0 P0 T)
theorem PG.imp{t t':TG}(h:PG X tg t)(w : ∀ v σ H Q,t' v σ H Q->t v σ H Q):PG X tg t':=fun pins s σ H v u Q I r q=>h pins s σ H v u Q I r (w _ _ _ _ q)
theorem Sta.Aie {K:aH}{ρ:aY}{σ:St}{v:V}(S:Sta K H0 P0 B0 ρ σ H fp)(r:Abb K (L2.hid H (Hd P0 fp)) d v)(hi:i<ρ.length) : ∃ fp',Sta K H0 P0 B0 (ρ.set i (some (0,d))) (σ.set i (some v)) H fp':=by
 have hsub : ∀ a,Hd P0 (fun j=>if j=ρ.length then [] else fp j) a->Hd P0 fp a:=fun a h=>by
  rcases h with h | ⟨j,h⟩
  ·exact .inl h
  ·by_cases hj:j=ρ.length
   ·simp only[hj,if_true] at h; simp at h
   ·simp only[hj,if_false] at h; exact .inr ⟨j,h⟩
 have S2:Sta K H0 P0 B0 ρ σ H (fun j=>if j=ρ.length then [] else fp j):=by
  refine⟨S.len,fun j=>?_,fun j k a h1 h2=>?_,fun j a h1=>?_,S.ext,S.hd,S.base.trans (gE hsub),fun j n d e=>?_⟩
  ·by_cases hj:j=ρ.length
   ·simp only[hj,if_true]; exact .nil
   ·simp only[hj,if_false]; exact S.nd j
  ·by_cases hj:j=ρ.length
   ·simp only[hj,if_true] at h1; simp at h1
   ·by_cases hk:k=ρ.length
    ·simp only[hk,if_true] at h2; simp at h2
    ·simp only[hj,if_false] at h1; simp only[hk,if_false] at h2; exact S.dj j k a h1 h2
  ·by_cases hj:j=ρ.length
   ·simp only[hj,if_true] at h1; simp at h1
   ·simp only[hj,if_false] at h1; exact S.own j a h1
  ·have hlt:=(dM.mp e).1
   have hj:j≠ρ.length:=by omega
   obtain⟨v',h1,h2⟩:=S.slot j n d e
   refine⟨v',h1,?_⟩
   simp only[hj,if_false]
   exact h2.keep (gE hsub) fun a m=>rfl
 refine Tmp.set ⟨_,S2,?_⟩ hi
 simp only[if_true]
 exact⟨rfl,r.ext (gE hsub)⟩
def gNm (i:Nat):aA->aY->Option aY:=fun d ρ=>if i<ρ.length then some (ρ.set i (some (0,d))) else none
theorem pV(hN:X.N.Nodup)(hi:X.N[i]?=some x)(hx:kK X.env.scope x)(hf:X.fn x=true \/ X.env.scope.names.lookup x=some .local:=by first | exact .inl rfl | exact .inr rfl | assumption):DG X H0 P0 (.Name x pos) (gNm i):=
 PG.imp (sC hN hi hx hf) fun v σ H Q gh=>by
  obtain⟨B0,ρ,fp,d,ρ',S,r,ef,k⟩:=gh
  obtain⟨hl,rfl⟩:=cU ef
  obtain⟨fp',S'⟩:=S.Aie r hl
  exact k _ fp' S'
def rP (i j:Nat):aA->aY->Option aY:=fun d ρ=>match d with
 | .tuple [a,b]=>(gNm i a ρ).bind fun ρ'=>gNm j b ρ'
 | _=>none
theorem HQ{k}(hc:X.calm=true)(hN:X.N.Nodup)(hi:X.N[i]?=some x)(hj:X.N[j]?=some y)(hx:kK X.env.scope x)(hy:kK X.env.scope y)
  (hf:X.fn x=true \/ X.env.scope.names.lookup x=some .local:=by first | exact .inl rfl | exact .inr rfl | assumption) (hf2:X.fn y=true \/ X.env.scope.names.lookup y=some .local:=by first | exact .inl rfl | exact .inr rfl | assumption)
  (hn:(iJ [.Name x p1,.Name y p2] X.env).length=2:=by rfl) (hst:(iJ [.Name x p1,.Name y p2] X.env).findIdx? (·.1)=none:=by rfl)
  (h1:(iJ [.Name x p1,.Name y p2] X.env).map (·.2)=lO (.Name x p1) X.env::(iJ [.Name y p2] X.env).map (·.2):=by rfl) (h2:(iJ [.Name y p2] X.env).map (·.2)=lO (.Name y p2) X.env::(iJ [] X.env).map (·.2):=by rfl):DG X H0 P0 (.Tuple [.Name x p1,.Name y p2] k pos) (rP i j):=
 PG.imp (YB hc (BL (sC hN hi hx hf) (BL (sC hN hj hy hf2) ZI h2) h1) hn hst) fun v σ H Q gh=>by
  obtain⟨B0,ρ,fp,d,ρ',S,r,ef,k⟩:=gh
  unfold rP at ef
  split at ef
  ·rename_i a b
   obtain⟨ρ1,e1,e2⟩:=XBs ef
   obtain⟨l1,rfl⟩:=cU e1
   obtain⟨l2,rfl⟩:=cU e2
   obtain⟨p,xs,rfl,hp,rr⟩:=Aax.mp r
   obtain⟨v1,t1,rfl,r1,rr⟩:=Aac.mp rr
   obtain⟨v2,t2,rfl,r2,rr⟩:=Aac.mp rr
   obtain rfl:=Aaj.mp rr
   refine⟨p,_,rfl,SqT.of (Aay _ _ hp),rfl,v1,_,rfl,v2,_,rfl,rfl,?_⟩
   have Sb:=S.rebase Ext.refl
   obtain⟨fp1,S1⟩:=Sb.Aie r1 l1
   obtain⟨fp2,S2⟩:=S1.Aie (r2.ext S1.base) l2
   exact k _ fp2 (S2.rebase (S.base.trans S2.base))
  ·cases ef
def nE (F:SF)(T:aA->aY->Option aY):List aA->SF
 | [],ρ=>some (.nx ρ)
 | d::r,ρ=>(T d ρ).bind fun ρ1=>(F ρ1).bind fun o=>match o with
  | .nx ρ'=>nE F T r ρ'
  | .ct ρ'=>nE F T r ρ'
  | .bk ρ'=>some (.nx ρ')
  | .rt d=>some (.rt d)
def iY (m:Md)(fi:AF)(T:aA->aY->Option aY)(F:SF):SF:=fun ρ=>(aV m fi ρ).bind fun ds=>nE F T ds ρ
section
variable {body:List bW}{F:SF}{T:aA->aY->Option aY}{fi:AF}{m:Md}
theorem RP (hp:PassesOwn (aQ X.prog X.w) X.A X.env X.xe)(hc:X.calm=true)(hi:PI X tg iter (tI' X.K H0 P0 m fi))(hg:DG X H0 P0 tg T)(hb:DSs X H0 P0 n0 body F)
  (hs : ∀ x,sW iter X.env x=pure x:=by intro _; rfl):DS X H0 P0 n0 (.For tg iter body [] pos) (iY m fi T F):=PS.imp (YN hp hc hi hg hb hs) fun D σ H gh=>by
 obtain⟨B0,ρ,fp,o,S,ef,k⟩:=gh
 obtain⟨ds,e1,ef⟩:=XBs ef
 refine⟨B0,ρ,fp,ds,S,e1,fun J B1 H' S1 xb it=>?_⟩
 refine⟨fun i m σ H=>m=ds.length - i/\i≤ds.length /\ ∃ ρ fp,Sta X.K H0 P0 B1 ρ σ H fp/\nE F T (ds.drop i) ρ=some o,⟨ds.length,by simp,eL _,ρ,fp,S1,by simpa using ef⟩,?_⟩
 rintro i m σ2 H2 ⟨rfl,hi,ρ2,fp2,S2,e2⟩
 have x2:=S2.base.trans Aay
 obtain⟨go,st⟩:=it i H2 x2
 by_cases hlt:i<ds.length
 ·have hd:=jW hlt
  rw[Xx hlt] at e2
  obtain⟨ρ3,e3,e2⟩:=XBs e2
  obtain⟨o3,e4,e2⟩:=XBs e2
  obtain⟨g1,g2⟩:=go _ hd
  refine .inr ⟨g1,fun σ' H'=>i+1≤ds.length /\ ∃ ρ fp,Sta X.K H0 P0 B1 ρ σ' H' fp/\nE F T (ds.drop (i+1)) ρ=some o,fun σ' H' ⟨h1,h2⟩=>⟨ds.length - (i+1),by omega,rfl,h1,h2⟩,fun x H3 y=>?_⟩
  obtain⟨x3,r3⟩:=g2 x H3 y
  refine⟨B1,ρ2,fp2,_,ρ3,S2.grow x3,r3 _ S2.hid S2.base,e3,fun σ4 fp4 S4=>⟨B1,ρ3,fp4,o3,S4,e4,?_⟩⟩
  cases o3 with
  | nx ρ5=>exact fun σ5 H5 fp5 S5=>⟨hlt,ρ5,fp5,S5,e2⟩
  | ct ρ5=>exact fun σ5 H5 fp5 S5=>⟨hlt,ρ5,fp5,S5,e2⟩
  | bk ρ5=>
   cases e2
   exact fun σ5 H5 fp5 S5=>k σ5 H5 fp5 (S5.rebase (xb.trans S5.base))
  | rt d=>
   cases e2
   exact k
 ·have e:i=ds.length:=by omega
  subst e
  rw[List.drop_length] at e2
  cases e2
  exact .inl ⟨st rfl,k σ2 H2 fp2 (S2.rebase (xb.trans S2.base))⟩
theorem rR (hp:PassesOwn (aQ X.prog X.w) X.A X.env X.xe)(hc:X.calm=true)(hi:DI X tg iter fi)(hg:DG X H0 P0 tg T)(hb:DSs X H0 P0 n0 body F)
  (hs : ∀ x,sW iter X.env x=pure x:=by intro _; rfl):DS X H0 P0 n0 (.For tg iter body [] pos) (iY .s fi T F):=RP hp hc (evI hi) hg hb hs
theorem HS (m:Md)(hp:PassesOwn (aQ X.prog X.w) X.A X.env X.xe)(hc:X.calm=true)(hi:DI0 X tg iter fi)(hg:DG X H0 P0 tg T)(hb:DSs X H0 P0 n0 body F)
  (hs : ∀ x,sW iter X.env x=pure x:=by intro _; rfl):DS X H0 P0 n0 (.For tg iter body [] pos) (iY m fi T F):=RP hp hc (Dp m hi) hg hb hs
end
def lcD (T:aA->List (Option aA)->Option (List (Option aA)))(t:BF)(f:EF)(ρ:List (Option aA)):List aA->Option (List aA)
 | []=>some []
 | d::r=>(T d ρ).bind fun ρ1=>(t ρ1).bind fun c=>if c=true then(f ρ1).bind fun y=>(lcD T t f ρ r).bind fun ys=>some (y::ys) else lcD T t f ρ r
def kL (cap:List (Option Nat))(ρ:List (Option aA)):List (Option aA):=cap.map fun o=>o.bind fun j=>(ρ[j]?).join
def eLC (cap:List (Option Nat))(fi:AF)(T:aA->List (Option aA)->Option (List (Option aA)))(t:BF)(f:EF):EF:=fun ρ=>(fi ρ).bind fun ds=>(lcD T t f (kL cap ρ) ds).bind fun ys=>if ds.length≤sizeLine then some (.list ys) else none
def tGB (K:aH)(T:aA->List (Option aA)->Option (List (Option aA))):TG:=fun v σ H Q=>∃ P ρ d ρ',Hid P H/\Akd K (hid H P) ρ σ/\Abb K (hid H P) d v/\T d ρ=some ρ' /\ ∀ σ',Akd K (hid H P) ρ' σ'->Q σ' H
def TOk (T:aA->List (Option aA)->Option (List (Option aA))):Prop:=∀ d ρ ρ',T d ρ=some ρ' -> ∀ (i:Nat) d',ρ[i]?=some (some d')->ρ'[i]?=some (some d')
def gP:BF:=fun _=>some true
def gB (j:Nat):aA->List (Option aA)->Option (List (Option aA)):=fun d ρ=>match ρ[j]? with
 | some none=>some (ρ.set j (some d))
 | _=>none
theorem AU{ρ':List (Option aA)}(h:gB j d ρ=some ρ'):ρ[j]?=some none/\ρ.set j (some d)=ρ':=by
 unfold gB at h
 split at h
 ·rename_i e
  exact⟨e,dZ h⟩
 ·cases h
def gB2 (i j:Nat):aA->List (Option aA)->Option (List (Option aA)):=fun d ρ=>match d with
 | .tuple [a,b]=>(gB i a ρ).bind fun ρ'=>gB j b ρ'
 | _=>none
theorem lW:TOk (gB j):=fun d ρ ρ' e i d' h=>by
 obtain⟨hj,rfl⟩:=AU e
 by_cases q:j=i
 ·subst q; rw[hj] at h; cases h
 ·rw[lD q]; exact h
theorem Hk:TOk (gB2 i j):=fun d ρ ρ' e k d' h=>by
 unfold gB2 at e
 split at e
 ·obtain⟨ρ1,e1,e2⟩:=XBs e
  exact lW _ _ _ e2 k d' (lW _ _ _ e1 k d' h)
 ·cases e
section
variable {c:aS}{fi:AF}{T:aA->List (Option aA)->Option (List (Option aA))}{t:BF}{f:EF}
theorem mV:AH X [] (tTF X.K gP):=fun pins s σ H Q I gh=>by
 obtain⟨P,ρ,b,hP,rs,ef,k⟩:=gh
 cases ef
 exact Jm pins s σ H Q I (k H Ext.refl)
theorem Akd.set {K:aH}{σ:St}{v:V}(h:Akd K B ρ σ)(r:Abb K B d v)(hl:j<σ.length):Akd K B (ρ.set j (some d)) (σ.set j (some v)):=fun i d' e=>by
 by_cases q:j=i
 ·subst q
  have hj:j<ρ.length:=by
   have:=(dM.mp e).1
   simpa using this
  rw[mO hj] at e
  cases e
  exact⟨v,mO hl,r⟩
 ·rw[lD q] at e
  obtain⟨w,h1,h2⟩:=h i d' e
  exact⟨w,by rw[lD q]; exact h1,h2⟩
def DGB (X:Cx)(tg:aS)(T:aA->List (Option aA)->Option (List (Option aA))):Prop:=
 ∀ (pins:List (aB×aW)) (s:aG) (σ:St) (H:Hp) (v:V) (u:aE) (Q:St->Hp->Prop),Inv X pins σ H s->RelV v u->tGB X.K T v σ H Q ->
  aO (aQ X.prog X.w) X.A (lO tg X.env u) (fun _ s'=>∃ σ' H',Inv X pins σ' H' s'/\Q σ' H') X.xe s
theorem oP(hN:X.N.Nodup)(hi:X.N[j]?=some x)(hx:kK X.env.scope x)(hf:X.fn x=true \/ X.env.scope.names.lookup x=some .local:=by first | exact .inl rfl | exact .inr rfl | assumption):DGB X (.Name x pos) (gB j):=fun pins s σ H v u Q I r gh=>by
 obtain⟨P,ρ,d,ρ',hP,rs,rd,ef,k⟩:=gh
 obtain⟨hj,rfl⟩:=AU ef
 have hl:j<σ.length:=by rw[I.len]; exact(dM.mp hi).1
 exact sC hN hi hx hf pins s σ H v u Q I r (k _ (rs.set rd hl))
theorem Us{kk}(hc:X.calm=true)(hN:X.N.Nodup)(hi:X.N[i]?=some x)(hj:X.N[j]?=some y)(hx:kK X.env.scope x)(hy:kK X.env.scope y)
  (hf:X.fn x=true \/ X.env.scope.names.lookup x=some .local:=by first | exact .inl rfl | exact .inr rfl | assumption) (hf2:X.fn y=true \/ X.env.scope.names.lookup y=some .local:=by first | exact .inl rfl | exact .inr rfl | assumption)
  (hn:(iJ [.Name x p1,.Name y p2] X.env).length=2:=by rfl) (hst:(iJ [.Name x p1,.Name y p2] X.env).findIdx? (·.1)=none:=by rfl)
  (h1:(iJ [.Name x p1,.Name y p2] X.env).map (·.2)=lO (.Name x p1) X.env::(iJ [.Name y p2] X.env).map (·.2):=by rfl) (h2:(iJ [.Name y p2] X.env).map (·.2)=lO (.Name y p2) X.env::(iJ [] X.env).map (·.2):=by rfl):DGB X (.Tuple [.Name x p1,.Name y p2] kk pos) (gB2 i j):=fun pins s σ H v u Q I r gh=>by
 obtain⟨P,ρ,d,ρ',hP,rs,rd,ef,k⟩:=gh
 unfold gB2 at ef
 split at ef
 ·rename_i a b
  obtain⟨ρ1,e1,e2⟩:=XBs ef
  obtain⟨l1,rfl⟩:=AU e1
  obtain⟨l2,rfl⟩:=AU e2
  obtain⟨p,xs,rfl,hp,rr⟩:=Aax.mp rd
  obtain⟨v1,t1,rfl,r1,rr⟩:=Aac.mp rr
  obtain⟨v2,t2,rfl,r2,rr⟩:=Aac.mp rr
  obtain rfl:=Aaj.mp rr
  have hl:i<σ.length:=by rw[I.len]; exact(dM.mp hi).1
  have hl2:j<σ.length:=by rw[I.len]; exact(dM.mp hj).1
  exact YB hc (BL (sC hN hi hx hf) (BL (sC hN hj hy hf2) ZI h2) h1) hn hst pins s σ H _ u Q I r ⟨p,_,rfl,SqT.of (Aay _ _ hp),rfl,v1,_,rfl,v2,_,rfl,rfl,k _ ((rs.set r1 hl).set r2 (by simpa using hl2))⟩
 ·cases ef
theorem Vw {K:aH}{σ:St}(h:Akd K B ρ σ):Akd K B (kL cap ρ) (tP cap σ):=fun i d e=>by
 unfold kL at e
 unfold tP
 rw[fD] at e ⊢
 cases hc:cap[i]? with
 | none=>rw[hc] at e; simp at e
 | some o=>
  rw[hc] at e
  cases o with
  | none=>simp at e
  | some j=>
   simp only[sZ,bO,vP] at e ⊢
   obtain⟨v,h1,h2⟩:=h j d (UF e)
   exact⟨v,by rw[h1]; rfl,h2⟩
theorem OX {K:aH}(hT:TOk T) : ∀ σ H Q,tF K 1 (eLC cap fi T t f) σ H Q->tLC cap (tI K fi) (tGB K T) (tTF K t) (tF K 0 f) σ H Q:=fun σ H Q gh=>by
 obtain⟨P,ρ,d,hP,rs,ef,k⟩:=gh
 obtain⟨ds,e1,ef⟩:=XBs ef
 obtain⟨all,e2,ef⟩:=XBs ef
 obtain⟨hz,rfl⟩:=cU ef
 refine⟨P,ρ,ds,hP,rs,e1,fun J H1 x1 it A hA=>?_⟩
 have hPA:=(hP.ext x1).new hA
 have back : ∀ {H':Hp} {ys:List V},hid (upd H' A (.lst ys)) (orL P [A])=hid H' (orL P [A]):=fun {H' ys}=>by
  funext b
  unfold hid
  by_cases hb:orL P [A] b
  ·rw[if_pos hb,if_pos hb]
  ·rw[if_neg hb,if_neg hb]
   exact bK (fun z=>hb (.inr (by simp[z])))
 refine⟨fun i m ys σ' H'=>m=ds.length - i/\i≤ds.length/\H' A=some (.lst ys)/\Ext H1 H'/\Ext (hid H1 P) (hid H' (orL P [A]))/\Akd K (hid H' (orL P [A])) (kL cap ρ) σ'/\ys.length≤i /\
  ∃ done rest,Aan K (hid H' (orL P [A])) done ys/\lcD T t f (kL cap ρ) (ds.drop i)=some rest/\all=done++rest,⟨ds.length,?_⟩,?_⟩
 ·have xa:Ext (hid H1 P) (hid (upd H1 A (.lst [])) (orL P [A])):=fun b o e=>by
   obtain⟨nb,e⟩:=Abu.mp e
   have hb:=hJ e hA
   exact eO (fun z=>z.elim nb fun m=>hb (by simpa using m)) (by rw[bK hb]; exact e)
  exact⟨by simp,eL _,cP,Ext.new hA,xa,(Vw (rs.ext (cE x1))).ext xa,eL _,[],all,Aaj.mpr rfl,by simpa using e2,rfl⟩
 ·rintro i m ys σ' H' ⟨rfl,hi,hD,x2,xb,rs2,hl,done,rest,rd,e3,rfl⟩
  refine⟨hD,?_⟩
  obtain⟨go,st⟩:=it i H' (Aay.trans x2)
  have hid2:Hid (orL P [A]) H':=fun a h=>by
   rcases h with h | h
   ·exact(hP.ext (x1.trans x2)) a h
   ·have:a=A:=by simpa using h
    subst this
    exact .inl ⟨_,hD⟩
  by_cases hlt:i<ds.length
  ·have hd:=jW hlt
   rw[Xx hlt] at e3
   obtain⟨ρ1,e4,e3⟩:=XBs e3
   obtain⟨c,e5,e3⟩:=XBs e3
   obtain⟨g1,g2⟩:=go _ hd
   refine .inr ⟨g1,by omega,fun ys σ' H'=>i+1≤ds.length/\H' A=some (.lst ys)/\Ext H1 H'/\Ext (hid H1 P) (hid H' (orL P [A]))/\Akd K (hid H' (orL P [A])) (kL cap ρ) σ'/\ys.length≤i+1 /\
    ∃ d2 r2,Aan K (hid H' (orL P [A])) d2 ys/\lcD T t f (kL cap ρ) (ds.drop (i+1))=some r2/\done++rest=d2++r2,fun zs σ2 H2 h=>⟨ds.length - (i+1),by omega,rfl,h⟩,fun x H2 y=>?_⟩
   obtain⟨x3,r3⟩:=g2 x H2 y
   refine⟨orL P [A],kL cap ρ,_,ρ1,hid2.ext x3,rs2.ext (cE x3),r3 _ hid2 xb,e4,fun σ3 rs3=>?_⟩
   refine⟨orL P [A],ρ1,c,hid2.ext x3,rs3,e5,fun H4 x4=>?_⟩
   have rs4:Akd K (hid H2 (orL P [A])) (kL cap ρ) σ3:=fun j d' e=>rs3 j d' (hT _ _ _ e4 j d' e)
   cases c with
   | false=>
    rw[if_neg rA] at e3
    refine mJ ⟨hlt,x4 _ _ (x3 _ _ hD),x2.trans (x3.trans x4),xb.trans (cE (x3.trans x4)),rs4.ext (cE x4),by omega,done,rest,rd.ext (cE (x3.trans x4)),e3,rfl⟩
   | true=>
    rw[if_pos rfl] at e3
    obtain⟨yd,e6,e3⟩:=XBs e3
    obtain⟨r2,e7,e3⟩:=XBs e3
    cases e3
    refine nK ⟨orL P [A],ρ1,yd,hid2.ext (x3.trans x4),rs3.ext (cE x4),e6,dA fun v H5 x5 r5=>⟨x5 _ _ (x4 _ _ (x3 _ _ hD)),hlt,cP,?_,?_,?_,by simp; omega,done++[yd],r2,?_,e7,by simp⟩⟩
    ·intro b o e
     rw[bK (hJ e hA)]
     exact x5 _ _ (x4 _ _ (x3 _ _ (x2 _ _ e)))
    ·rw[back]; exact xb.trans (cE (x3.trans (x4.trans x5)))
    ·rw[back]; exact rs4.ext (cE (x4.trans x5))
    ·rw[back]; exact(rd.ext (cE (x3.trans (x4.trans x5)))).snoc r5
  ·have e:i=ds.length:=by omega
   subst e
   rw[List.drop_length] at e3
   cases e3
   rw[nV] at k
   refine .inl ⟨st rfl,?_⟩
   refine k (.ref A) H' [A] (x1.trans x2) (dS.mpr ⟨by simp,.nil⟩) (fun a m=>?_) ⟨A,ys,ys.map fun _=>[],rfl,hD,?_,?_⟩
   ·have:a=A:=by simpa using m
    subst this
    exact⟨x1.none hA,_,hD⟩
   ·have : ∀ l:List V,(l.map fun _=>([]:List aB)).flatten=[]:=fun l=>by
     induction l with
     | nil=>rfl
     | cons a l ih=>rw[dC,dQ,ih]; rfl
    rw[this]
   ·have go : ∀ (ds:List aA) (xs:List V),Aan K (hid H' (orL P [A])) ds xs->All3 (Aei K (hid H' (orL P [A])) H' 0) ds xs (xs.map fun _=>[]):=by
     intro ds
     induction ds with
     | nil=>intro xs r; rw[Aaj.mp r]; exact .nil
     | cons d ds ih=>
      intro xs r
      obtain⟨y,t,rfl,h1,h2⟩:=Aac.mp r
      exact .cons ⟨rfl,h1⟩ (ih t h2)
    exact go _ _ rd
def YC (X:Cx)(N:List aD)(sc:iK)(tg elt:aS)(ifs:List aS)(T:aA->List (Option aA)->Option (List (Option aA)))(t:BF)(f:EF):Prop:=
 ∀ (cl:List (aD×aB)) (C:aB) (s₀:aG) (H₀:Hp) (ex:List aB),DGB (iI X N sc cl C s₀ H₀ ex) tg T/\AH (iI X N sc cl C s₀ H₀ ex) ifs (tTF X.K t)/\DE (iI X N sc cl C s₀ H₀ ex) elt f
theorem oA (hc:X.calm=true)(S:CompScope X N cap sc)(hT:TOk T)(hi:DI X tg iter fi)(hb:YC X N sc tg elt ifs T t f)(hs : ∀ x,sW iter X.env x=pure x:=by intro _; rfl) :
  DF 1 X (.ListComp elt [⟨tg,iter,ifs,0⟩] sc pos) (eLC cap fi T t f):=PE.imp (Fh hc S hi (g:=tGB X.K T) (tc:=tTF X.K t) (te:=tF X.K 0 f) hb hs) (OX hT)
theorem Ux(m:Md)(hc:X.calm=true)(hN:X.N.Nodup)(hi':X.N[i]?=some x)(hx:kK X.env.scope x)(S:CompScope X N cap sc)(hT:TOk T)(hi:DI X tg iter fi)(hb:YC X N sc tg elt ifs T t f)
  (hsw:kG (.ListComp elt [⟨tg,iter,ifs,0⟩] sc pos) (some (.Name x px)) spos.line X.env=pure true:=by rfl)
  (hs : ∀ x,sW iter X.env x=pure x:=by intro _; rfl) (hf:X.fn x=true \/ X.env.scope.names.lookup x=some .local:=by first | exact .inl rfl | exact .inr rfl | assumption) :
  DS X H0 P0 n0 (.Assign [.Name x px] (.ListComp elt [⟨tg,iter,ifs,0⟩] sc pos) spos) (dH i 1 m (eLC cap fi T t f)):=PS.imp (Ts hc hN hi' hx S hi (g:=tGB X.K T) (tc:=tTF X.K t) (te:=tF X.K 0 f) hb hsw hs hf) fun D σ H gh=>by
 obtain⟨B0,ρ,fp,o,S,ef,k⟩:=gh
 obtain⟨d,e1,ef⟩:=XBs ef
 obtain⟨hl,rfl⟩:=cU ef
 refine OX hT σ H _ (GD m σ H _ ⟨B0,ρ,fp,d,S,e1,fun v H' t=>?_⟩)
 obtain⟨fp',S'⟩:=t.set hl
 exact k _ _ fp' S'
end
def outD:Option Out->Option aA
 | some (.rt d)=>some d
 | some (.nx _)=>some .none
 | _=>none
def fnD (np n:Nat)(body:SF):List aA->Option aA:=fun ds=>if ds.length=np then outD (body (ds.map (fun d=>some (0,d))++fC (n - np) none)) else none
def spF (K:aH)(n0:Nat)(F:List aA->Option aA):Sp:=fun vs H Q _=>∃ P ds d,Hid P H/\Aan K (hid H P) ds vs/\F ds=some d/\Res K P n0 d H Q
section
variable {w:aU}{K:aH}
theorem iZ{fd:fM}{k np:Nat}{body:SF}(F:Fun K x qual st f fd)(S:FnScope N ps (cA st))(hnp:np=ps.length)(hN:ps.length≤N.length)
  (hb : ∀ (cdv:aE) (A:bS) (outer:List eR) (s:aG) (H:Hp) (E:XK) (P0:aB->Prop),Room k (A.deeper (iV qual (cA st) s.heap.objs.size f cdv))->DSs (jQ CX0 P w K mg base N qual (cA st) f cdv A outer s H E).nox H P0 n0 (jB st) body) :
  FnOk P w K mg base CX0 (k+1) f fd ps (spF K n0 (fnD np N.length body)):=by
 refine F.ok S (fun vs H Q E h=>?_) (fun cdv A outer s H vs Q E hr h=>?_)
 ·obtain⟨P,ds,d,_,r,ef,_⟩:=h
  unfold fnD at ef
  by_cases hl:ds.length=np
  ·rw[r.length,hl,hnp]
  ·rw[if_neg hl] at ef; cases ef
 ·obtain⟨P0,ds,d,hP,r,ef,k⟩:=h
  refine⟨_,hb cdv A outer s H E P0 hr,?_⟩
  unfold fnD at ef
  by_cases hl:ds.length=np
  case neg=>rw[if_neg hl] at ef; cases ef
  rw[if_pos hl] at ef
  rw[← hl] at ef
  have hlen:=r.length
  have S0:Sta K H P0 (hid H P0) (ds.map (fun d=>some (0,d))++fC (N.length - ds.length) none) (start N vs) H (fun _=>[]):=by
   have eH:Hd P0 (fun _=>[])=P0:=by
    funext a
    simp[Hd]
   refine⟨by simp[start,hlen],fun _=>.nil,fun i j a h=>by simp at h,fun i a h=>by simp at h,Ext.refl,hP,by rw[eH]; exact Ext.refl,fun i n' d' e=>?_⟩
   rw[eH]
   by_cases hi:i<ds.length
   ·rw[vV (by simpa using hi),fD] at e
    cases q:ds[i]? with
    | none=>rw[q] at e; simp at e
    | some d2=>
     rw[q] at e
     have e':0=n'/\d2=d':=by simpa using e
     obtain⟨rfl,rfl⟩:=e'
     obtain⟨v,h1,h2⟩:=r.get q
     refine⟨v,?_,rfl,h2⟩
     unfold start
     rw[vV (by rw[bX,hlen]; exact hi),fD,h1]
     rfl
   ·rw[FM (by simpa using hi)] at e
    have:=iW e
    simp at this
  cases eb:body (ds.map (fun d=>some (0,d))++fC (N.length - ds.length) none) with
  | none=>rw[eb] at ef; cases ef
  | some o=>
   rw[eb] at ef
   refine⟨_,_,_,o,S0,eb,?_⟩
   cases o with
   | rt d'=>
    cases ef
    exact fun v H' ⟨Fr,h1,h2,h3,h4⟩=>k v H' Fr h1 h2 h3 h4
   | nx ρ'=>
    cases ef
    intro σ' H' fp' S'
    refine k .non H' [] S'.ext .nil (fun a m=>by simp at m) ?_
    cases n0 with
    | zero=>exact⟨rfl,Ab8.mpr rfl⟩
    | succ n=>
     unfold Adw
     split
     ·exact .inl ⟨rfl,rfl,rfl⟩
     split
     ·exact .inl ⟨rfl,rfl,rfl⟩
     ·exact⟨rfl,Ab8.mpr rfl⟩
   | bk _=>cases ef
   | ct _=>cases ef
variable {k np:Nat}{F:List aA->Option aA}{fa:AF}{p:bQ}
theorem dF (D:Def X.prog X.w X.K X.mg X.base x k ps (spF X.K n0 F))(hr:Room k X.A)(hg:Gl X x)(ha:DA X (e::es) fa)(hdb:(x == ("__debug__" : aD))=false:=by decide)(he:bE (e::es) X.env=(false,bH e X.env)::bE es X.env:=by rfl)
  (hpl:(fK pos (bE es X.env)).any (·.1)=false:=by rfl):DF n0 X (.Call (.Name x p) (e::es) [] pos) (aN F fa):=
 PE.imp (Il D hr hg ha hdb he hpl) fun σ H Q gh=>by
  obtain⟨P,ρ,d,hP,rs,ef,k⟩:=gh
  obtain⟨ds,e1,ef⟩:=XBs ef
  refine⟨P,ρ,ds,hP,rs,e1,fun vs H1 x1 r1=>?_⟩
  show spF X.K n0 F (vs++[]) H1 Q E0
  rw[nV]
  exact⟨P,ds,d,hP.ext x1,r1,ef,k.mono x1⟩
end
def g2I (g:Int->Int->aA):aA->aA->Option aA
 | .int i,.int j=>some (g i j)
 | _,_=>none
def g2C (C:Int->Int->Prop)[∀ i j,Decidable (C i j)](g:Int->Int->aA):aA->aA->Option aA
 | .int i,.int j=>if C i j then some (g i j) else none
 | _,_=>none
section
variable {K:aH}
theorem LS {g:Int->Int->V}{gd:Int->Int->aA}(h : ∀ i j H,Abb K H (gd i j) (g i j)):OpD K 0 (rI0 g) (g2I gd):=fun P H x y a b d Q hP ra rb e k=>by
 unfold g2I at e
 split at e
 ·rename_i i j
  cases e
  exact⟨i,j,Aaq.mp ra,Aaq.mp rb,k.zero Ext.refl (h i j _)⟩
 ·cases e
theorem DV {C C':Int->Int->Prop}[∀ i j,Decidable (C' i j)]{g:Int->Int->V}{gd:Int->Int->aA}(hC : ∀ i j,C' i j->C i j)(h : ∀ i j H,Abb K H (gd i j) (g i j)):OpD K 0 (rI C g) (g2C C' gd):=fun P H x y a b d Q hP ra rb e k=>by
 unfold g2C at e
 split at e
 ·rename_i i j
  obtain⟨hc,rfl⟩:=cU e
  exact⟨i,j,Aaq.mp ra,Aaq.mp rb,hC i j hc,k.zero Ext.refl (h i j _)⟩
 ·cases e
end
section
variable {a b c:aS}{fa fb fc:EF}
def LU:aA->aA->Option aA:=g2I fun i j=>.int (i - j)
theorem YV (ha:DE X a fa)(hb:DE X b fb):DE X (.BinOp a .Sub b pos) (eOp LU fa fb):=rH Hi (LS fun _ _ _=>Aaq.mpr rfl) ha hb
def fT:aA->aA->Option aA:=g2C (fun i j=>(i.natAbs<2 ^ 64 \/ j.natAbs<2 ^ 64) \/ (i.natAbs<2 ^ 1000/\j.natAbs<2 ^ 1000)) fun i j=>.int (i*j)
theorem Mx:OpR X (kH .Mult) (rI (fun i j=>(i.natAbs<2 ^ 64 \/ j.natAbs<2 ^ 64) \/ (i.natAbs<2 ^ 1000/\j.natAbs<2 ^ 1000)) fun i j=>.int (i*j)):=by
 intro pins s σ H x y v u Q I rx ry h
 obtain⟨i,j,ex,ey,hc,q⟩:=h
 rcases hc with hc | hc
 ·refine Gg pins s σ H x y v u Q I rx ry ⟨i,j,ex,ey,?_,q⟩
  rcases hc with hc | hc
  ·exact .inl ⟨by omega,by omega⟩
  ·exact .inr ⟨by omega,by omega⟩
 ·exact Mf pins s σ H x y v u Q I rx ry ⟨i,j,ex,ey,hc,q⟩
theorem kQ (ha:DE X a fa)(hb:DE X b fb):DE X (.BinOp a .Mult b pos) (eOp fT fa fb):=rH Mx (DV (fun _ _ h=>h) fun _ _ _=>Aaq.mpr rfl) ha hb
def yW:aA->aA->Option aA:=g2C (fun _ j=>0<j/\j<1073741824) fun i j=>.int (i / j)
theorem ZN (ha:DE X a fa)(hb:DE X b fb):DE X (.BinOp a .FloorDiv b pos) (eOp yW fa fb):=rH Ke (DV (fun _ _ h=>h) fun _ _ _=>Aaq.mpr rfl) ha hb
def cR:aA->aA->Option aA:=g2C (fun _ j=>0<j) fun i j=>.int (i%j)
theorem fW (ha:DE X a fa)(hb:DE X b fb):DE X (.BinOp a .Mod b pos) (eOp cR fa fb):=rH Gw (DV (fun _ _ h=>h) fun _ _ _=>Aaq.mpr rfl) ha hb
def wJ:aA->aA->Option aA:=g2C (fun i j=>0≤j/\j≤1000000/\i.natAbs<2 ^ 64) fun i j=>.int (i ^ j.toNat)
theorem HF (ha:DE X a fa)(hb:DE X b fb):DE X (.BinOp a .Pow b pos) (eOp wJ fa fb):=rH Gp (DV (fun _ _ h=>h) fun _ _ _=>Aaq.mpr rfl) ha hb
theorem KD(hx:cQ (.str x)=true)(hy:cQ (.str y)=true):cQ (.str (x++y))=true:=by
 have e:(x++y).cps=x.cps++y.cps:=rfl
 simp only[cQ,MW] at hx hy ⊢
 rw[e,Array.all_append,hx,hy]
 rfl
def dW:aA->aA->Option aA
 | .int i,.int j=>some (.int (i+j))
 | .str x,.str y=>if x.length+y.length≤sizeLine then some (.str (x++y)) else none
 | .tuple (x::xs),.tuple ys=>if (x::xs).length+ys.length≤sizeLine then some (.tuple ((x::xs)++ys)) else none
 | _,_=>none
theorem Kz {K:aH}:OpD K 0 (fun x y H Q=>rI0 (fun i j=>.int (i+j)) x y H Q \/ (∃ i j,x = .str i/\y = .str j/\i.length+j.length≤sizeLine/\Q (.str (i++j)) H) \/ PR K x y H Q) dW:=fun P H x y a b d Q hP ra rb e k=>by
 unfold dW at e
 split at e
 ·rename_i i j
  cases e
  exact .inl ⟨i,j,Aaq.mp ra,Aaq.mp rb,k.zero Ext.refl (Aaq.mpr rfl)⟩
 ·rename_i i j
  obtain⟨hc,rfl⟩:=cU e
  exact .inr (.inl ⟨i,j,(Aau.mp ra).1,(Aau.mp rb).1,hc,k.zero Ext.refl (Aau.mpr ⟨rfl,KD (Aau.mp ra).2 (Aau.mp rb).2⟩)⟩)
 ·rename_i z zs ys
  obtain⟨hc,rfl⟩:=cU e
  obtain⟨p,us,rfl,hp,r1⟩:=Aax.mp ra
  obtain⟨q,ws,rfl,hq,r2⟩:=Aax.mp rb
  have l1:=r1.length
  have l2:=r2.length
  refine .inr (.inr ⟨p,q,us,ws,rfl,rfl,SqT.of (Aay _ _ hp),SqT.of (Aay _ _ hq),fun z=>by rw[z] at l1; simp at l1,by rw[l1,l2]; exact hc,fun z=>?_,fun z r hr=>?_⟩)
  ·subst z
   have:ys=[]:=by simpa using l2.symm
   subst this
   refine k.zero Ext.refl ?_
   rw[nV]
   exact ra
  ·exact k.tup hP hr (r1.append r2)
 ·cases e
theorem jG (ha:DE X a fa)(hb:DE X b fb):DE X (.BinOp a .Add b pos) (eOp dW fa fb):=rH (Bd6.or (Axp.or Ss)) Kz ha hb
mutual
def noDict:aA->Bool
 | .dict _=>false
 | .list ds=>noDicts ds
 | .tuple ds=>noDicts ds
 | _=>true
def noDicts:List aA->Bool
 | []=>true
 | d::r=>noDict d&&noDicts r
end
mutual
theorem kE {X:Cx}{σ:St}(I:Inv X pins σ H s) : ∀ {d:aA} {v:V} {u:aE},noDict d=true->Abb X.K H d v->RelV v u->d.canLay0=true /\ ∃ as,kZ s.heap u d as
 | .none,v,u,_,h,r=>by
  obtain rfl:=Ab8.mp h
  cases r; exact⟨by simp[cQ],_,.none⟩
 | .bool b,v,u,_,h,r=>by
  obtain rfl:=Aat.mp h
  cases r; exact⟨by simp[cQ],_,.bool b⟩
 | .int i,v,u,_,h,r=>by
  obtain rfl:=Aaq.mp h
  obtain⟨t,rfl⟩:=r; exact⟨by simp[cQ],_,.int i t⟩
 | .str x,v,u,_,h,r=>by
  obtain⟨rfl,hl⟩:=Aau.mp h
  obtain⟨t,rfl⟩:=r; exact⟨hl,_,.str x t⟩
 | .list ds,v,u,n,h,r=>by
  obtain⟨a,xs,rfl,hs,hr⟩:=Abf.mp h
  cases r
  obtain⟨its,rv,⟨o,m,e,hc,_,hd⟩,_⟩:=I.list hs
  obtain⟨hl,as,ha⟩:=DC I (by simpa [noDict] using n) hr rv
  exact⟨by simpa [cQ] using hl,_,.list e hc hd (by simpa using ha)⟩
 | .tuple ds,v,u,n,h,r=>by
  obtain⟨a,xs,rfl,hs,hr⟩:=Aax.mp h
  cases r
  obtain⟨its,rv,⟨o,e,hc,m,hd⟩,_⟩:=I.tuple (SqT.of hs)
  obtain⟨hl,as,ha⟩:=DC I (by simpa [noDict] using n) hr rv
  exact⟨by simpa [cQ] using hl,_,.tuple e hc hd (by simpa using ha)⟩
 | .dict _,_,_,n,h,_=>by simp[noDict] at n
theorem DC {X:Cx}{σ:St}(I:Inv X pins σ H s) : ∀ {ds:List aA} {vs:List V} {us:List aE},noDicts ds=true->Aan X.K H ds vs->Vals vs us->zF ds=true /\ ∃ as,mK s.heap us ds as
 | [],vs,us,_,h,r=>by
  obtain rfl:=Aaj.mp h
  cases r; exact⟨by simp[zF],_,.nil⟩
 | d::ds,vs,us,n,h,r=>by
  have n':noDict d=true/\noDicts ds=true:=by simpa [noDicts] using n
  obtain⟨x,rr,rfl,h1,h2⟩:=Aac.mp h
  cases r with
  | cons r1 r2=>
   obtain⟨l1,as,ha⟩:=kE I n'.1 h1 r1
   obtain⟨l2,bs,hb⟩:=DC I n'.2 h2 r2
   exact⟨by simp[zF,l1,l2],_,.cons ha hb⟩
end
def cO (d:aA):Bool:=noDict d&&decide (d.depth≤60)
def gEq:aA->aA->Option aA:=fun a b=>if (cO a&&cO b)=true then some (.bool (cM a b)) else none
def gNe:aA->aA->Option aA:=fun a b=>if (cO a&&cO b)=true then some (.bool (!cM a b)) else none
def AG (K:aH)(neg:Bool):R2:=fun x y H Q=>∃ da db,Abb K H da x/\Abb K H db y/\cO da=true/\cO db=true/\Q (.bl (neg != cM da db)) H
theorem rS (hu:X.A.units+100<cLine):OpR X (fH .Eq) (AG X.K false):=by
 intro pins s σ H x y v u Q I rx ry h
 obtain⟨da,db,ra,rb,fa,fb,q⟩:=h
 have fa':noDict da=true/\da.depth≤60:=by simpa [cO] using fa
 have fb':noDict db=true/\db.depth≤60:=by simpa [cO] using fb
 obtain⟨la,as,ra⟩:=kE I fa'.1 ra rx
 obtain⟨lb,bs,rb⟩:=kE I fb'.1 rb ry
 exact SeqAt.compareEq_reads ra rb la lb (by omega) ⟨.bl _,H,I,rfl,by simpa using q⟩
theorem LV (hu:X.A.units+100<cLine):OpR X (fH .NotEq) (AG X.K true):=by
 intro pins s σ H x y v u Q I rx ry h
 obtain⟨da,db,ra,rb,fa,fb,q⟩:=h
 have fa':noDict da=true/\da.depth≤60:=by simpa [cO] using fa
 have fb':noDict db=true/\db.depth≤60:=by simpa [cO] using fb
 obtain⟨la,as,ra⟩:=kE I fa'.1 ra rx
 obtain⟨lb,bs,rb⟩:=kE I fb'.1 rb ry
 exact SeqAt.compareNe_reads ra rb la lb (by omega) ⟨.bl _,H,I,rfl,by simpa using q⟩
theorem rW {K:aH}:OpD K 0 (AG K false) gEq:=fun P H x y a b d Q hP ra rb e k=>by
 obtain⟨hc,rfl⟩:=cU e
 have hc':cO a=true/\cO b=true:=by simpa using hc
 exact⟨a,b,ra.ext Aay,rb.ext Aay,hc'.1,hc'.2,k.zero Ext.refl (Aat.mpr (by simp))⟩
theorem LY {K:aH}:OpD K 0 (AG K true) gNe:=fun P H x y a b d Q hP ra rb e k=>by
 obtain⟨hc,rfl⟩:=cU e
 have hc':cO a=true/\cO b=true:=by simpa using hc
 exact⟨a,b,ra.ext Aay,rb.ext Aay,hc'.1,hc'.2,k.zero Ext.refl (Aat.mpr (by simp))⟩
def GI (K:aH)(neg:Bool):R2:=fun x y H Q=>∃ d ds,Abb K H d x/\(Abb K H (.list ds) y \/ Abb K H (.tuple ds) y)/\cO d=true/\noDicts ds=true/\Q (.bl (neg != ds.any fun z=>cM z d)) H
theorem Io (hu:X.A.units+100<cLine):OpR X (fH .In) (GI X.K false):=by
 intro pins s σ H x y v u Q I rx ry h
 obtain⟨d,ds,ra,rb,fa,fb,q⟩:=h
 have fa':noDict d=true/\d.depth≤60:=by simpa [cO] using fa
 obtain⟨la,as,ra⟩:=kE I fa'.1 ra rx
 rcases rb with rb | rb
 ·obtain⟨lb,bs,rb⟩:=kE I (by simpa [noDict] using fb) rb ry
  exact SeqAt.in_list_reads rb ra (by simpa [cQ] using lb) la (by omega) ⟨.bl _,H,I,rfl,by simpa using q⟩
 ·obtain⟨lb,bs,rb⟩:=kE I (by simpa [noDict] using fb) rb ry
  exact SeqAt.in_tuple_reads rb ra (by simpa [cQ] using lb) la (by omega) ⟨.bl _,H,I,rfl,by simpa using q⟩
theorem Mo (hu:X.A.units+100<cLine):OpR X (fH .NotIn) (GI X.K true):=by
 intro pins s σ H x y v u Q I rx ry h
 obtain⟨d,ds,ra,rb,fa,fb,q⟩:=h
 have fa':noDict d=true/\d.depth≤60:=by simpa [cO] using fa
 obtain⟨la,as,ra⟩:=kE I fa'.1 ra rx
 rcases rb with rb | rb
 ·obtain⟨lb,bs,rb⟩:=kE I (by simpa [noDict] using fb) rb ry
  exact SeqAt.notIn_list_reads rb ra (by simpa [cQ] using lb) la (by omega) ⟨.bl _,H,I,rfl,by simpa using q⟩
 ·obtain⟨lb,bs,rb⟩:=kE I (by simpa [noDict] using fb) rb ry
  exact SeqAt.notIn_tuple_reads rb ra (by simpa [cQ] using lb) la (by omega) ⟨.bl _,H,I,rfl,by simpa using q⟩
end
theorem PE.or{t t':TE}(h:PE X e t)(h':PE X e t'):PE X e (fun σ H Q=>t σ H Q \/ t' σ H Q):=fun pins s σ H Q I q=>q.elim (h pins s σ H Q I) (h' pins s σ H Q I)
def gLt:aA->aA->Option aA
 | .int i,.int j=>some (.bool (decide (i<j)))
 | .str i,.str j=>some (.bool (decide (i.cps.toList<j.cps.toList)))
 | _,_=>none
def gLe:aA->aA->Option aA
 | .int i,.int j=>some (.bool (decide (i≤j)))
 | .str i,.str j=>some (.bool (!(decide (j.cps.toList<i.cps.toList))))
 | _,_=>none
def gGt:aA->aA->Option aA:=g2I fun i j=>.bool (decide (j<i))
def gGe:aA->aA->Option aA:=g2I fun i j=>.bool (decide (j≤i))
section
variable {K:aH}
theorem AK:OpD K 0 (fun x y H Q=>rI0 (fun i j=>.bl (decide (i<j))) x y H Q \/ ∃ i j,x = .str i/\y = .str j/\Q (.bl (decide (i.cps.toList<j.cps.toList))) H) gLt:=fun P H x y a b d Q hP ra rb e k=>by
 unfold gLt at e
 split at e
 ·cases e
  exact .inl ⟨_,_,Aaq.mp ra,Aaq.mp rb,k.zero Ext.refl (Aat.mpr rfl)⟩
 ·cases e
  exact .inr ⟨_,_,(Aau.mp ra).1,(Aau.mp rb).1,k.zero Ext.refl (Aat.mpr rfl)⟩
 ·cases e
theorem rY:OpD K 0 (fun x y H Q=>rI0 (fun i j=>.bl (decide (i≤j))) x y H Q \/ OK x y H Q) gLe:=fun P H x y a b d Q hP ra rb e k=>by
 unfold gLe at e
 split at e
 ·cases e
  exact .inl ⟨_,_,Aaq.mp ra,Aaq.mp rb,k.zero Ext.refl (Aat.mpr rfl)⟩
 ·cases e
  exact .inr ⟨_,_,(Aau.mp ra).1,(Aau.mp rb).1,k.zero Ext.refl (Aat.mpr rfl)⟩
 ·cases e
theorem uN:OpD K 0 (rI0 fun i j=>.bl (decide (j<i))) gGt:=LS fun _ _ _=>Aat.mpr rfl
theorem ZD:OpD K 0 (rI0 fun i j=>.bl (decide (j≤i))) gGe:=LS fun _ _ _=>Aat.mpr rfl
end
def bR:aA->Option aL
 | .int i=>some (.inl i)
 | .str x=>some (.inr x)
 | _=>none
theorem yD{k:aL}(h:bR d=some k):d=kD k:=by
 cases d <;> simp[bR] at h <;> subst h <;> rfl
def bG (kds:List (aA×aA))(k:aL):Option aA:=(kds.find? fun kd=>decide (bR kd.1=some k)).map (·.2)
theorem jL (k:aL):bR (kD k)=some k:=by cases k <;> rfl
theorem CB {K:aH}{k:aL} : ∀ {kds:List (aA×aA)} {kvs:List (aL×V)},Abj K H kds kvs->(bG kds k=none/\cZ kvs k=none) \/ ∃ d v,bG kds k=some d/\cZ kvs k=some v/\Abb K H d v
 | [],kvs,h=>by rw[Abk.mp h]; exact .inl ⟨rfl,rfl⟩
 | (k0,d)::r,kvs,h=>by
  obtain⟨k',x,rr,rfl,rfl,h1,h2⟩:=Aa0.mp h
  by_cases e:k'=k
  ·refine .inr ⟨d,x,?_,sG e,h1⟩
   simp[bG,gH,jL,e]
  ·have e1:bG ((kD k',d)::r) k=bG r k:=by simp[bG,gH,jL,e]
   rw[e1,qA e]
   exact CB h2
theorem WY {K:aH}{k:aL} : ∀ {kds:List (aA×aA)} {kvs:List (List aA×V)},Ab5 K H kds kvs->bG kds k=none
 | [],kvs,h=>rfl
 | (k0,d)::r,kvs,h=>by
  obtain⟨k',x,rr,rfl,⟨rfl,_⟩,h1,h2⟩:=Aa8.mp h
  have e1:bG ((.tuple k',d)::r) k=bG r k:=by simp[bG,gH,bR]
  rw[e1]
  exact WY h2
theorem Vc {K:aH}{k:aL}{v:V}(h:Abb K H (.dict kds) v)(e:bG kds k=some d) : ∃ a,∃ kvs:Nat×List (aL×V),v = .ref a/\H a=some (.dK kvs.1 kvs.2)/\Abj K H kds kvs.2:=by
 obtain⟨a,ev,⟨kvs,h1,r⟩ | ⟨ts,h1,r⟩ | ⟨xs,h1,r⟩ | r⟩:=Aca.mp h
 case inr.inr.inr=>
  obtain⟨c,r',rfl,hn⟩:=BE r
  have:bG ((.none,.str c)::r') k=none:=by
   unfold bG
   rw[List.find?_eq_none.mpr fun p m=>?_]
   ·rfl
   ·have:p.1 = .none:=(cI.mp m).elim (fun z=>by rw[z]) (hn p)
    rw[this]
    simp[bR]
  rw[this] at e
  cases e
 case inr.inr.inl=>
  obtain⟨es,rfl,_⟩:=xQ r
  cases e
 ·exact⟨a,kvs,ev,h1,r⟩
 ·cases kds with
  | nil=>simp[Ayb] at r
  | cons p q=>
   obtain⟨k0,m⟩:=p
   obtain⟨rfl,r2⟩:=Adn.mp r
   have e1:bG ((.none,m)::q) k=bG q k:=by simp[bG,gH,bR]
   rw[e1,WY r2] at e
   cases e
def kN (kds:List (aA×aA))(k:List aA):Option aA:=(kds.find? fun kd=>cM kd.1 (.tuple k)).map (·.2)
theorem Iz (a b:List aA):cM (.tuple a) (.tuple b)=qT a b:=by simp[cM]
theorem KM {a k:List aA}{r:List (aA×aA)}(ha:bU a=true)(hk:bU k=true):kN ((.tuple a,d)::r) k=if a=k then some d else kN r k:=by
 have e:cM (.tuple a) (.tuple k)=decide (a=k):=by rw[Iz,JN _ _ ha hk]
 unfold kN
 rw[gH,e]
 by_cases h:a=k
 ·rw[if_pos h,decide_eq_true h]; rfl
 ·rw[if_neg h,decide_eq_false h]
theorem TR {K:aH}{k:List aA}(hk:bU k=true) : ∀ {kds:List (aA×aA)} {kvs:List (List aA×V)},Ab5 K H kds kvs->(kN kds k=none/\cZ kvs k=none) \/ ∃ d v,kN kds k=some d/\cZ kvs k=some v/\Abb K H d v
 | [],kvs,h=>by rw[Ab6.mp h]; exact .inl ⟨rfl,rfl⟩
 | (k0,d)::r,kvs,h=>by
  obtain⟨k',x,rr,rfl,⟨rfl,hk'⟩,h1,h2⟩:=Aa8.mp h
  rw[KM hk' hk]
  by_cases e:k'=k
  ·rw[if_pos e]
   exact .inr ⟨d,x,rfl,sG e,h1⟩
  ·rw[if_neg e,qA e]
   exact TR hk h2
def putD (kds:List (aA×aA))(k:aL)(d:aA):List (aA×aA):=
 if (kds.any fun kd=>decide (bR kd.1=some k))=true then kds.map fun kd=>if bR kd.1=some k then(kd.1,d) else kd else kds++[(kD k,d)]
theorem QL {K:aH}{k:aL} : ∀ {kds:List (aA×aA)} {kvs:List (aL×V)},Abj K H kds kvs->(kds.any fun kd=>decide (bR kd.1=some k))=kvs.any fun kv=>decide (kv.1=k)
 | [],kvs,h=>by rw[Abk.mp h]; rfl
 | (k0,d)::r,kvs,h=>by
  obtain⟨k',x,rr,rfl,rfl,h1,h2⟩:=Aa0.mp h
  rw[FO,FO,QL h2,jL]
  simp
theorem IV {K:aH}{k:aL}{v:V}(rv:Abb K H d v) : ∀ {kds:List (aA×aA)} {kvs:List (aL×V)},Abj K H kds kvs ->
  Abj K H (kds.map fun kd=>if bR kd.1=some k then(kd.1,d) else kd) (kvs.map fun kv=>if kv.1=k then(kv.1,v) else kv)
 | [],kvs,h=>by rw[Abk.mp h]; exact Abk.mpr rfl
 | (k0,d0)::r,kvs,h=>by
  obtain⟨k',x,rr,rfl,rfl,h1,h2⟩:=Aa0.mp h
  rw[dC,dC]
  by_cases e:k'=k
  ·rw[if_pos (show bR (kD k',d0).1=some k by rw[jL,e]),if_pos (show(k',x).1=k from e)]
   exact Aa0.mpr ⟨k',v,_,rfl,rfl,rv,IV rv h2⟩
  ·rw[if_neg (show ¬ bR (kD k',d0).1=some k by rw[jL]; simpa using e),if_neg (show ¬ (k',x).1=k from e)]
   exact Aa0.mpr ⟨k',x,_,rfl,rfl,h1,IV rv h2⟩
theorem Abj.snoc {K:aH}{k:aL}{v:V}(rv:Abb K H d v) : ∀ {kds:List (aA×aA)} {kvs:List (aL×V)},Abj K H kds kvs->Abj K H (kds++[(kD k,d)]) (kvs++[(k,v)])
 | [],kvs,h=>by rw[Abk.mp h]; exact Aa0.mpr ⟨k,v,[],rfl,rfl,rv,Abk.mpr rfl⟩
 | (k0,d0)::r,kvs,h=>by
  obtain⟨k',x,rr,rfl,rfl,h1,h2⟩:=Aa0.mp h
  exact Aa0.mpr ⟨k',x,_,rfl,rfl,h1,Abj.snoc rv h2⟩
theorem Lj {K:aH}{k:aL}{v:V}{kvs:List (aL×V)}(h:Abj K H kds kvs)(rv:Abb K H d v):Abj K H (putD kds k d) (putK kvs k v):=by
 unfold putD putK
 rw[QL h]
 by_cases q:(kvs.any fun kv=>decide (kv.1=k))=true
 ·rw[if_pos q,if_pos q]; exact IV rv h
 ·rw[if_neg q,if_neg q]; exact Abj.snoc rv h
theorem Abj.length {K:aH} : ∀ {kds:List (aA×aA)} {kvs:List (aL×V)},Abj K H kds kvs->kvs.length=kds.length
 | [],kvs,h=>by rw[Abk.mp h]; rfl
 | (k0,d0)::r,kvs,h=>by
  obtain⟨k',x,rr,rfl,rfl,h1,h2⟩:=Aa0.mp h
  rw[eD,eD,Abj.length h2]
theorem qE {K:aH}{x:V}{k:aL}(h:bR d=some k)(r:Abb K H d x):x=kV k:=by
 rw[yD h] at r
 exact WX r
def gIx:aA->aA->Option aA
 | .list ds,.int i=>atI ds i
 | .tuple ds,.int i=>atI ds i
 | .str z,.int i=>if z.length≤sizeLine then(atI z.cps.toList i).bind fun c=>some (.str ⟨#[c]⟩) else none
 | .dict kds,d=>(bR d).bind fun k=>bG kds k
 | _,_=>none
theorem QD {K:aH}{xs:List V}{i:Int}(r:Aan K H ds xs)(h:atI ds i=some d) : ∃ v,atI xs i=some v/\Abb K H d v:=by
 unfold atI at h ⊢
 rw[r.length]
 obtain⟨j,h1,h2⟩:=XBs h
 obtain⟨v,h3,h4⟩:=r.get h2
 exact⟨v,by rw[h1]; exact h3,h4⟩
theorem Sv {α:Type}{xs:List α}{i:Int}{x:α}(h:atI xs i=some x) : ∃ j:Nat,xs[j]?=some x:=by
 unfold atI at h
 obtain⟨j,h1,h2⟩:=XBs h
 exact⟨j,h2⟩
section
variable {a b:aS}{fa fb f:EF}{p:bQ}
theorem eT (hu:X.A.units+40<cLine)(ha:DE X a fa)(hb:DE X b fb)(hs:xH b):DE X (.Subscript a b pos) (eOp gIx fa fb):=PE.imp (PE.or (wO Ig ha hb hs) (xG hu ha hb hs)) fun σ H Q h=>by
 obtain⟨P,ρ,d,hP,rs,ef,k⟩:=h
 obtain⟨d1,e1,ef2⟩:=XBs ef
 obtain⟨d2,e2,ef3⟩:=XBs ef2
 clear ef ef2
 have seq:(∀ (H2:Hp) (v u:V),Ext H H2->Abb X.K (hid H2 P) d1 v->Abb X.K (hid H2 P) d2 u->rIx X.K v u H2 Q)->tOp (rIx X.K) (tF X.K 0 fa) (tF X.K 0 fb) σ H Q:=fun z=>
  ⟨P,ρ,d1,hP,rs,e1,dA fun v H1 x1 r1=>⟨P,ρ,d2,hP.ext x1,rs.ext (cE x1),e2,dA fun u H2 x2 r2=>z H2 v u (x1.trans x2) (r1.ext (cE x2)) r2⟩⟩
 cases d1 with
 | list ds=>
  cases d2 with
  | int i=>
   refine .inl (seq fun H2 v u x r1 r2=>.inl ?_)
   obtain⟨q,xs,rfl,hq,rr⟩:=Abf.mp r1
   obtain⟨w,h1,h2⟩:=QD rr (show atI ds i=some d from ef3)
   exact⟨q,xs,i,w,rfl,Aaq.mp r2,Aay.sqL hq,h1,k.zero x h2⟩
  | _=>cases ef3
 | tuple ds=>
  cases d2 with
  | int i=>
   refine .inl (seq fun H2 v u x r1 r2=>.inr (.inl ?_))
   obtain⟨q,xs,rfl,hq,rr⟩:=Aax.mp r1
   obtain⟨w,h1,h2⟩:=QD rr (show atI ds i=some d from ef3)
   exact⟨q,xs,i,w,rfl,Aaq.mp r2,SqT.of (Aay _ _ hq),h1,k.zero x h2⟩
  | _=>cases ef3
 | str z=>
  cases d2 with
  | int i=>
   have ef3:(if z.length≤sizeLine then(atI z.cps.toList i).bind fun c=>some (.str ⟨#[c]⟩) else none)=some d:=ef3
   by_cases hz:z.length≤sizeLine
   ·rw[if_pos hz] at ef3
    obtain⟨c,h1,h2⟩:=XBs ef3
    cases h2
    obtain⟨j,hj⟩:=Sv h1
    refine .inl (seq fun H2 v u x r1 r2=>.inr (.inr ⟨z,i,c,(Aau.mp r1).1,Aaq.mp r2,hz,h1,k.zero x (Aau.mpr ⟨rfl,JF (Aau.mp r1).2 hj⟩)⟩))
   ·rw[if_neg hz] at ef3; cases ef3
  | _=>cases ef3
 | dict kds=>
  obtain⟨kk,h1,h2⟩:=XBs (show((bR d2).bind fun k=>bG kds k)=some d by cases d2 <;> exact ef3)
  refine .inr ⟨P,ρ,_,hP,rs,e1,dA fun v H1 x1 r1=>⟨P,ρ,d2,hP.ext x1,rs.ext (cE x1),e2,dA fun u H2 x2 r2=>?_⟩⟩
  obtain⟨q,kvs,rfl,hq,rr⟩:=Vc (r1.ext (cE x2)) h2
  rcases CB rr with⟨n1,_⟩ | ⟨d',v',s1,s2,rd⟩
  ·rw[h2] at n1; cases n1
  ·rw[h2] at s1
   cases s1
   refine⟨q,v',rfl,.inl ⟨kvs.1,kvs.2,kk,.inl (Aay _ _ hq),qE h1 r2,s2.symm⟩,k.zero (x1.trans x2) rd⟩
 | _=>cases d2 <;> cases ef3
def OH (neg:Bool):aA->List (aA×aA)->Option aA
 | .tuple _,(_,.list _)::_=>none
 | .tuple _,(_,.str _)::_=>none
 | .tuple k,(_,_)::kds=>if (bU k&&decide (cV k≤6))=true then some (.bool (neg != (kN kds k).isSome)) else none
 | _,_=>none
def gIn (neg:Bool):aA->aA->Option aA
 | d,.list ds=>if (cO d&&noDicts ds)=true then some (.bool (neg != ds.any fun z=>cM z d)) else none
 | d,.tuple ds=>if (cO d&&noDicts ds)=true then some (.bool (neg != ds.any fun z=>cM z d)) else none
 | .str i,.str j=>some (.bool (neg != !(tJ j i 0 j.length 1).isEmpty))
 | d,.dict kds=>if plK kds=true then(bR d).bind fun k=>some (.bool (neg != (bG kds k).isSome)) else OH neg d kds
 | _,_=>none
def HC (K:aH)(neg:Bool):R2:=fun x y H Q=>GI K neg x y H Q \/ (∃ i j,x = .str i/\y = .str j/\Q (.bl (neg != !(tJ j i 0 j.length 1).isEmpty)) H) \/ ∃ a o,y = .ref a/\Axa H a x o/\Q (.bl (neg != o.isSome)) H
theorem uT (hu:X.A.units+100<cLine):OpR X (fH .In) (HC X.K false):=by
 intro pins s σ H x y v u Q I rx ry h
 rcases h with h | ⟨i,j,ex,ey,q⟩ | ⟨a,o,rfl,g,q⟩
 ·exact Io hu pins s σ H x y v u Q I rx ry h
 ·exact Xm pins s σ H x y v u Q I rx ry ⟨i,j,ex,ey,by simpa using q⟩
 ·cases ry
  exact Dk (by omega) I g rx fun s' I'=>⟨.bl _,H,I',rfl,by simpa using q⟩
theorem DJ (hu:X.A.units+100<cLine):OpR X (fH .NotIn) (HC X.K true):=by
 intro pins s σ H x y v u Q I rx ry h
 rcases h with h | ⟨i,j,ex,ey,q⟩ | ⟨a,o,rfl,g,q⟩
 ·exact Mo hu pins s σ H x y v u Q I rx ry h
 ·exact Qx pins s σ H x y v u Q I rx ry ⟨i,j,ex,ey,by simpa using q⟩
 ·cases ry
  exact Kq (by omega) I g rx fun s' I'=>⟨.bl _,H,I',rfl,by simpa using q⟩
theorem mS {K:aH}{neg:Bool}:OpD K 0 (HC K neg) (gIn neg):=fun P H x y a b d Q hP ra rb e k=>by
 unfold gIn at e
 split at e
 ·obtain⟨hc,rfl⟩:=cU e
  have hc':=iC.mp hc
  exact .inl ⟨a,_,ra.ext Aay,.inl (rb.ext Aay),hc'.1,hc'.2,k.zero Ext.refl (Aat.mpr rfl)⟩
 ·obtain⟨hc,rfl⟩:=cU e
  have hc':=iC.mp hc
  exact .inl ⟨a,_,ra.ext Aay,.inr (rb.ext Aay),hc'.1,hc'.2,k.zero Ext.refl (Aat.mpr rfl)⟩
 ·cases e
  exact .inr (.inl ⟨_,_,(Aau.mp ra).1,(Aau.mp rb).1,k.zero Ext.refl (Aat.mpr rfl)⟩)
 ·rename_i kds
  by_cases pk:plK kds=true
  case neg=>
   rw[if_neg pk] at e
   have ek : ∃ m r,kds=(.none,m)::r:=by
    cases kds with
    | nil=>simp[plK] at pk
    | cons p r=>
     obtain⟨k0,m⟩:=p
     cases k0 <;> simp[plK] at pk
     exact⟨m,r,rfl⟩
   obtain⟨m,r,rfl⟩:=ek
   cases a with
   | tuple kk=>
    have hm : ∀ es,m ≠ .list es:=by
     rintro es rfl
     cases e
    have hm2 : ∀ c,m ≠ .str c:=by
     rintro c rfl
     cases e
    replace e:(if (bU kk&&decide (cV kk≤6))=true then some (fP (neg != (kN r kk).isSome)) else none)=some d:=by
     cases m with
     | list es=>exact absurd rfl (hm es)
     | str es=>cases e
     | _=>exact e
    obtain⟨hc,rfl⟩:=cU e
    have hc':bU kk=true/\cV kk≤6:=by simpa using hc
    obtain⟨q,ts,rfl,hq,rr⟩:=(qF hm hm2).mp rb
    obtain⟨b,xs,rfl,hb,rx⟩:=Aax.mp (ra.ext Aay)
    refine .inr (.inr ⟨q,cZ ts.2 kk,rfl,.inr ⟨ts.2,kk,b,⟨_,.inl (Aay _ _ hq)⟩,rfl,⟨hc'.1,hc'.2,xs,hb,Aan.keys kk hc'.1 rx⟩,rfl⟩,k.zero Ext.refl (Aat.mpr ?_)⟩)
    rcases TR hc'.1 rr with⟨n1,n2⟩ | ⟨d',v',s1,s2,rd⟩
    ·rw[n1,n2]; rfl
    ·rw[s1,s2]; rfl
   | _=>simp[OH] at e
  rw[if_pos pk] at e
  obtain⟨kk,h1,h2⟩:=XBs e
  cases h2
  obtain⟨q,kvs,rfl,hq,rr⟩:=(sF pk).mp rb
  refine .inr (.inr ⟨q,cZ kvs.2 kk,rfl,.inl ⟨kvs.1,kvs.2,kk,.inl (Aay _ _ hq),qE h1 ra,rfl⟩,k.zero Ext.refl (Aat.mpr ?_)⟩)
  rcases CB rr with⟨n1,n2⟩ | ⟨d',v',s1,s2,rd⟩
  ·rw[n1,n2]; rfl
  ·rw[s1,s2]; rfl
 ·cases e
end
def cY:List aA->Option aA
 | [.list ds]=>some (.int ds.length)
 | [.tuple ds]=>some (.int ds.length)
 | [.dict kds]=>if plK kds=true then some (.int kds.length) else none
 | [.str z]=>if z.length≤sizeLine then some (.int z.length) else none
 | _=>none
theorem hE {K:aH}{xs:List V}(r:Aan K H [d] xs) : ∃ v,xs=[v]/\Abb K H d v:=by
 obtain⟨v,t,rfl,h1,h2⟩:=Aac.mp r
 obtain rfl:=Aaj.mp h2
 exact⟨v,rfl,h1⟩
section
def OC (K:aH):List V->Hp->VK->Prop:=fun xs H Q=>(∃ p ys,xs=[.ref p]/\(SqL K H p ys \/ SqT K H p ys)/\Q (.int ys.length) H) \/ (∃ z,xs=[.str z]/\z.length≤sizeLine/\Q (.int z.length) H) \/ ∃ a ep kvs,xs=[V.ref a]/\H a=some (.dK ep kvs)/\Q (.int kvs.length) H
theorem iT:Adg X (.builtin "len") (OC X.K):=Aqr.or (Aqe.or Ng)
theorem iS {K:aH}:CallD K 0 (OC K) cY:=fun P H xs ds d Q hP r e k=>by
 unfold cY at e
 split at e
 ·cases e
  obtain⟨v,rfl,r'⟩:=hE r
  replace r:=r'
  obtain⟨q,ys,rfl,hq,rr⟩:=Abf.mp r
  exact .inl ⟨q,ys,rfl,.inl (Aay.sqL hq),k.zero Ext.refl (Aaq.mpr (by rw[rr.length]))⟩
 ·cases e
  obtain⟨v,rfl,r'⟩:=hE r
  replace r:=r'
  obtain⟨q,ys,rfl,hq,rr⟩:=Aax.mp r
  exact .inl ⟨q,ys,rfl,.inr (SqT.of (Aay _ _ hq)),k.zero Ext.refl (Aaq.mpr (by rw[rr.length]))⟩
 ·obtain⟨pk,rfl⟩:=cU e
  obtain⟨v,rfl,r'⟩:=hE r
  replace r:=r'
  obtain⟨q,ys,rfl,hq,rr⟩:=(sF pk).mp r
  exact .inr (.inr ⟨q,ys.1,ys.2,rfl,Aay _ _ hq,k.zero Ext.refl (Aaq.mpr (by rw[rr.length]))⟩)
 ·obtain⟨hz,rfl⟩:=cU e
  obtain⟨v,rfl,r'⟩:=hE r
  replace r:=r'
  exact .inr (.inl ⟨_,by rw[(Aau.mp r).1],hz,k.zero Ext.refl (Aaq.mpr rfl)⟩)
 ·cases e
def tV:aA->String
 | .none=>"NoneType"
 | .bool _=>"bool"
 | .int _=>"int"
 | .str _=>"str"
 | .list _=>"list"
 | .tuple _=>"tuple"
 | .dict _=>"dict"
def RJ:List String:=["int","bool","str","list","tuple","dict"]
theorem Wx (d:aA):tV d∈kinds:=by cases d <;> simp[tV,kinds]
def gL (T:String):aA->Option aA
 | .dict ((.none,.str _)::_)=>none
 | d=>some (.bool (isK (tV d) T))
theorem Wj:Adg X (.builtin "isinstance") (fun xs H Q=>∃ x T d b,xs=[x,.ty T]/\Abb X.K H d x/\T∈RJ/\gL T d=some (.bool b)/\Q (.bl b) H):=by
 intro pins s σ H xs us Q I r h
 obtain⟨x,T,d,b,rfl,rd,hT,hb,q⟩:=h
 have hb2:b=isK (tV d) T:=by
  unfold gL at hb
  split at hb
  ·cases hb
  ·cases hb; rfl
 subst hb2
 have ek:=Sq (Wx d) hT
 have by_ty:TyOf X.K H x (.type (tV d))->aO (aQ X.prog X.w) X.A (call (.builtin "isinstance") us) (EP X pins σ Q) X.xe s:=fun ty=>
  Qk pins s σ H _ us Q I r ⟨x,T,_,isK (tV d) T,rfl,ty,Amg.trans ek,q⟩
 cases d with
 | none=>obtain rfl:=Ab8.mp rd; exact by_ty .non
 | bool b=>obtain rfl:=Aat.mp rd; exact by_ty (.bl _)
 | int b=>obtain rfl:=Aaq.mp rd; exact by_ty (.int _)
 | str b=>obtain⟨rfl,_⟩:=Aau.mp rd; exact by_ty (.str _)
 | list b=>
  obtain⟨a,ys,rfl,h,_⟩:=Abf.mp rd
  obtain⟨u,w',rfl,ru,rw'⟩:=vals2 r
  cases rw'
  cases ru
  obtain⟨its,_,⟨o,n,e1,hc,_,_⟩,_⟩:=I.list h
  exact lP Bi I.kIn ⟨o,e1,hc⟩ (Amg.trans ek) (fun z=>nomatch z) fun tk=>⟨.bl _,H,I.tok tk,rfl,q⟩
 | tuple b=>obtain⟨_,_,rfl,h,_⟩:=Aax.mp rd; exact by_ty (.tup h)
 | dict b=>
  obtain⟨_,rfl,⟨_,h,_⟩ | ⟨_,h,_⟩ | ⟨_,h,_⟩ | h⟩:=Aca.mp rd
  case inr.inr.inr=>
   obtain⟨_,_,rfl,_⟩:=BE h
   cases hb
  ·exact by_ty (.dK h)
  ·exact by_ty (.dT h)
  ·obtain⟨u,w',rfl,ru,rw'⟩:=vals2 r
   cases rw'
   cases ru
   obtain⟨⟨_,_,o,_,e1,hc,_⟩,_⟩:=I.hok _ _ h
   exact lP Bj I.kIn ⟨o,e1,hc.1⟩ (Amg.trans ek) (fun z=>nomatch z) fun tk=>⟨.bl _,H,I.tok tk,rfl,q⟩
variable {a b:aS}{f:EF}{fa:AF}{p:bQ}
theorem mU(hgl:Gl X "isinstance")(hm:X.mg "isinstance" = none)(hg:Gl X x)(hmx:X.mg x=none)(hv:lM x=some (.type T))(hT:T∈RJ)(he:DE X e f)
  (hn:x ≠ "__name__":=by decide) (hd:(x == ("__debug__" : aD))=false:=by decide) (hs1:bE (e::[.Name x p2]) X.env=(false,bH e X.env)::bE [.Name x p2] X.env:=by rfl)
  (hs2:bE (.Name x p2::[]) X.env=(false,bH (.Name x p2) X.env)::bE [] X.env:=by rfl) (hpl:(fK pos (bE [.Name x p2] X.env)).any (·.1)=false:=by rfl):DE X (.Call (.Name "isinstance" p) [e,.Name x p2] [] pos) (eUn (gL T) f):=
 PE.imp (BR Wj hgl hm boot_isinstance (fV he (fV (Em hg hmx hv hn hd) iR hs2) hs1) (by decide) (by decide) hs1 hpl) fun σ H Q gh=>by
  obtain⟨P,ρ,d,hP,rs,ef,k⟩:=gh
  obtain⟨d1,e1,ef⟩:=XBs ef
  have hb : ∃ b,d = .bool b:=by
   unfold gL at ef
   split at ef
   ·cases ef
   ·cases ef; exact⟨_,rfl⟩
  obtain⟨b,rfl⟩:=hb
  exact⟨P,ρ,d1,hP,rs,e1,dA fun v H1 x1 r1=>⟨v,T,d1,b,rfl,r1.ext Aay,hT,ef,k.zero x1 (Aat.mpr rfl)⟩⟩
def HH:List aA->Option aA
 | [.list ds]=>some (.tuple ds)
 | [.tuple ds]=>some (.tuple ds)
 | _=>none
theorem Po {K:aH}:CallD K 0 (fun xs H Q=>∃ p ys,xs=[.ref p]/\((SqL K H p ys /\ ∀ l,H l=none->Q (.ref l) (upd H l (.tup ys))) \/ (SqT K H p ys/\Q (.ref p) H))) HH:=fun P H xs ds d Q hP r e k=>by
 unfold HH at e
 split at e
 ·cases e
  obtain⟨v,rfl,r'⟩:=hE r
  replace r:=r'
  obtain⟨q,ys,rfl,hq,rr⟩:=Abf.mp r
  exact⟨q,ys,rfl,.inl ⟨Aay.sqL hq,fun l hl=>k.tup hP hl rr⟩⟩
 ·cases e
  obtain⟨v,rfl,r'⟩:=hE r
  replace r:=r'
  obtain⟨q,ys,rfl,hq,rr⟩:=Aax.mp r
  exact⟨q,ys,rfl,.inr ⟨SqT.of (Aay _ _ hq),k.zero Ext.refl r⟩⟩
 ·cases e
def DY:List aA->Option aA
 | [.list ds]=>some (.list ds)
 | [.tuple ds]=>some (.list ds)
 | [.str z]=>if z.length≤sizeLine then some (.list (z.cps.toList.map fun c=>.str ⟨#[c]⟩)) else none
 | _=>none
def PD (K:aH):List V->Hp->VK->Prop:=fun xs H Q=>(∃ p ys,xs=[.ref p]/\(SqL K H p ys \/ SqT K H p ys) /\ ∀ l,H l=none->Q (.ref l) (upd H l (.lst ys))) \/ ∃ z:aD,xs=[.str z]/\z.length≤sizeLine /\ ∀ l,H l=none->Q (.ref l) (upd H l (.lst (z.cps.toList.map rN)))
theorem XF (hc:X.calm=true):Adg X (.type "list") (PD X.K):=Ar3.or (Pj hc)
theorem WC {K:aH} : ∀ {cs:List Nat},(∀ c∈cs,cQ (.str ⟨#[c]⟩)=true)->Aan K H (cs.map fun c=>.str ⟨#[c]⟩) (cs.map rN)
 | [],_=>Aaj.mpr rfl
 | c::r,h=>Aac.mpr ⟨_,_,rfl,Aau.mpr ⟨rfl,h c bD⟩,WC fun c' m=>h c' (bJ _ m)⟩
theorem VU {K:aH}:CallD K 1 (PD K) DY:=fun P H xs ds d Q hP r e k=>by
 unfold DY at e
 split at e
 ·cases e
  obtain⟨v,rfl,r'⟩:=hE r
  replace r:=r'
  obtain⟨q,ys,rfl,hq,rr⟩:=Abf.mp r
  exact .inl ⟨q,ys,rfl,.inl (Aay.sqL hq),fun l hl=>k.lst hP hl rr⟩
 ·cases e
  obtain⟨v,rfl,r'⟩:=hE r
  replace r:=r'
  obtain⟨q,ys,rfl,hq,rr⟩:=Aax.mp r
  exact .inl ⟨q,ys,rfl,.inr (SqT.of (Aay _ _ hq)),fun l hl=>k.lst hP hl rr⟩
 ·obtain⟨hz,rfl⟩:=cU e
  obtain⟨v,rfl,r'⟩:=hE r
  replace r:=r'
  refine .inr ⟨_,by rw[(Aau.mp r).1],hz,fun l hl=>k.lst hP hl (WC fun c m=>?_)⟩
  obtain⟨j,hj⟩:=NF.mp m
  exact JF (Aau.mp r).2 hj
 ·cases e
def tT:List aA->Option aA
 | [.int i]=>some (.int i)
 | [.bool b]=>some (.int (if b then 1 else 0))
 | _=>none
theorem Mr {K:aH}:CallD K 0 (fun xs H Q=>(∃ i,xs=[.int i]/\Q (.int i) H) \/ ∃ k,xs=[.bl k]/\Q (.int (if k then 1 else 0)) H) tT:=fun P H xs ds d Q hP r e k=>by
 unfold tT at e
 split at e
 ·cases e
  obtain⟨v,rfl,r'⟩:=hE r
  replace r:=r'
  exact .inl ⟨_,by rw[Aaq.mp r],k.zero Ext.refl (Aaq.mpr rfl)⟩
 ·cases e
  obtain⟨v,rfl,r'⟩:=hE r
  replace r:=r'
  exact .inr ⟨_,by rw[Aat.mp r],k.zero Ext.refl (Aaq.mpr rfl)⟩
 ·cases e
def GH:List aA->Option aA
 | [.int i]=>some (.int (if i<0 then -i else i))
 | _=>none
theorem Mn {K:aH}:CallD K 0 (fun xs H Q=>∃ i,xs=[.int i]/\Q (.int (if i<0 then -i else i)) H) GH:=fun P H xs ds d Q hP r e k=>by
 unfold GH at e
 split at e
 ·cases e
  obtain⟨v,rfl,r'⟩:=hE r
  replace r:=r'
  exact⟨_,by rw[Aaq.mp r],k.zero Ext.refl (Aaq.mpr rfl)⟩
 ·cases e
def nB:List aA->Option (List Bool)
 | []=>some []
 | .bool b::r=>(nB r).bind fun bs=>some (b::bs)
 | _::_=>none
def nC:List aA->Option aA
 | [.list ds]=>(nB ds).bind fun bs=>some (.bool (bs.all id))
 | _=>none
theorem RU {K:aH} : ∀ {ds:List aA} {xs:List V} {bs:List Bool},nB ds=some bs->Aan K H ds xs->xs=bs.map V.bl
 | [],xs,bs,e,r=>by
  cases e
  rw[Aaj.mp r]; rfl
 | .bool b::ds,xs,bs,e,r=>by
  obtain⟨bs',e1,e2⟩:=XBs (show((nB ds).bind fun bs=>some (b::bs))=some bs from e)
  cases e2
  obtain⟨v,t,rfl,h1,h2⟩:=Aac.mp r
  rw[Aat.mp h1,RU e1 h2]; rfl
 | .none::_,_,_,e,_=>by cases e
 | .int _::_,_,_,e,_=>by cases e
 | .str _::_,_,_,e,_=>by cases e
 | .list _::_,_,_,e,_=>by cases e
 | .tuple _::_,_,_,e,_=>by cases e
 | .dict _::_,_,_,e,_=>by cases e
theorem xV {K:aH}:CallD K 0 (fun xs H Q=>∃ p ys,xs=[.ref p]/\SqL K H p ys/\(∀ y∈ys,∃ b,y = .bl b)/\Q (.bl (allB ys)) H) nC:=fun P H xs ds d Q hP r e k=>by
 unfold nC at e
 split at e
 ·obtain⟨bs,e1,e2⟩:=XBs e
  cases e2
  obtain⟨v,rfl,r'⟩:=hE r
  replace r:=r'
  obtain⟨q,ys,rfl,hq,rr⟩:=Abf.mp r
  obtain rfl:=RU e1 rr
  refine⟨q,_,rfl,Aay.sqL hq,fun y m=>?_,k.zero Ext.refl (Aat.mpr ?_)⟩
  ·obtain⟨b,_,rfl⟩:=bF.mp m
   exact⟨b,rfl⟩
  ·unfold allB
   rw[List.all_map]
   congr 2
   funext b
   cases b <;> rfl
 ·cases e
def cutD (ds:List aA)(lo hi:Option Int):List aA:=(ds.drop (HT.sIx ds.length 0 lo)).take (HT.sIx ds.length ds.length hi - HT.sIx ds.length 0 lo)
abbrev OF:=List (Option aA)->Option (Option Int)
def tOF (K:aH)(f:OF):TO:=fun σ H Q=>∃ P ρ o,Hid P H/\Akd K (hid H P) ρ σ/\f ρ=some o /\ ∀ H',Ext H H'->Q o H'
abbrev DO (X:Cx)(e:Option aS)(f:OF):Prop:=PO X e (tOF X.K f)
def oN:OF:=fun _=>some none
def oS (f:EF):OF:=fun ρ=>(f ρ).bind fun d=>match d with
 | .int i=>some (some i)
 | _=>none
theorem PO.imp {o:Option aS}{t t':TO}(h:PO X o t)(w : ∀ σ H Q,t' σ H Q->t σ H Q):PO X o t':=fun pins s σ H Q I q=>h pins s σ H Q I (w _ _ _ q)
theorem Iu:DO X none oN:=PO.imp Js fun σ H Q gh=>by
 obtain⟨P,ρ,o,hP,rs,ef,k⟩:=gh
 cases ef
 exact k H Ext.refl
theorem IE (h:DE X e f):DO X (some e) (oS f):=PO.imp (Km h) fun σ H Q gh=>by
 obtain⟨P,ρ,o,hP,rs,ef,k⟩:=gh
 obtain⟨d,e1,ef⟩:=XBs ef
 refine⟨P,ρ,d,hP,rs,e1,dA fun v H1 x1 r1=>?_⟩
 cases d with
 | int i=>cases ef; exact⟨i,Aaq.mp r1,k H1 x1⟩
 | _=>cases ef
def qL (f:EF)(lo hi:OF):EF:=fun ρ=>(f ρ).bind fun d=>(lo ρ).bind fun l=>(hi ρ).bind fun h=>match d with
 | .list ds=>some (.list (cutD ds l h))
 | _=>none
theorem YY {lo hi:Option aS}{fl fh:OF}{pp:bQ}(he:DE X e f)(hl:DO X lo fl)(hh:DO X hi fh):DF 1 X (.Subscript e (.Slice lo hi none pp) pos) (qL f fl fh):=PE.imp (Wa Jg he hl hh) fun σ H Q gh=>by
 obtain⟨P,ρ,d,hP,rs,ef,k⟩:=gh
 obtain⟨d1,e1,ef2⟩:=XBs ef
 obtain⟨l,e2,ef3⟩:=XBs ef2
 obtain⟨h,e3,ef4⟩:=XBs ef3
 clear ef ef2 ef3
 cases d1 with
 | list ds=>
  cases ef4
  refine⟨P,ρ,_,hP,rs,e1,dA fun v H1 x1 r1=>⟨P,ρ,l,hP.ext x1,rs.ext (cE x1),e2,fun H2 x2=>⟨P,ρ,h,hP.ext (x1.trans x2),rs.ext (cE (x1.trans x2)),e3,fun H3 x3=>?_⟩⟩⟩
  obtain⟨q,ys,rfl,hq,rr⟩:=Abf.mp (r1.ext (cE (x2.trans x3)))
  refine⟨q,ys,rfl,Aay.sqL hq,fun p hp=>(k.mono ((x1.trans x2).trans x3)).lst (hP.ext ((x1.trans x2).trans x3)) hp ?_⟩
  unfold wD cutD
  rw[rr.length]
  exact(rr.drop _).take _
 | _=>cases ef4
def qM:List aA->Option (List aD)
 | []=>some []
 | .str x::r=>(qM r).bind fun xs=>some (x::xs)
 | _::_=>none
theorem RD {K:aH} : ∀ {ds:List aA} {xs:List V} {bs:List aD},qM ds=some bs->Aan K H ds xs->xs=bs.map V.str /\ ∀ b∈bs,cQ (.str b)=true
 | [],xs,bs,e,r=>by
  cases e
  rw[Aaj.mp r]; exact⟨rfl,fun b m=>by simp at m⟩
 | .str b::ds,xs,bs,e,r=>by
  obtain⟨bs',e1,e2⟩:=XBs (show((qM ds).bind fun bs=>some (b::bs))=some bs from e)
  cases e2
  obtain⟨v,t,rfl,h1,h2⟩:=Aac.mp r
  obtain⟨q1,q2⟩:=RD e1 h2
  rw[(Aau.mp h1).1,q1]
  refine⟨rfl,fun c m=>?_⟩
  rcases cI.mp m with rfl | m
  ·exact(Aau.mp h1).2
  ·exact q2 c m
 | .none::_,_,_,e,_=>by cases e
 | .int _::_,_,_,e,_=>by cases e
 | .bool _::_,_,_,e,_=>by cases e
 | .list _::_,_,_,e,_=>by cases e
 | .tuple _::_,_,_,e,_=>by cases e
 | .dict _::_,_,_,e,_=>by cases e
theorem QY {sep:aD}(hs:cQ (.str sep)=true) : ∀ {ys:List aD},(∀ b∈ys,cQ (.str b)=true)->cQ (.str (kY sep ys))=true
 | [],_=>by
  have:kY sep []=Str.empty:=by simp[kY]
  rw[this]
  decide +kernel
 | [x],h=>by
  have:kY sep [x]=x:=by simp[kY]
  rw[this]
  exact h x bD
 | x::y::r,h=>by
  have e:kY sep (x::y::r)=x++sep++kY sep (y::r):=by
   rw[kY]
   intro z; cases z
  rw[e]
  exact KD (KD (h x bD) hs) (QY hs fun b m=>h b (bJ _ m))
def uA:aA->aA->Option aA
 | .str sep,.list ds=>(qM ds).bind fun ys=>if (ys.map (·.length)).sum+ys.length*sep.length≤16777216 then some (.str (kY sep ys)) else none
 | _,_=>none
theorem ZP {g:EF}(ho:DE X a f)(he:DE X e g)(hbase:lN a "join" X.env (bH a X.env)=bH a X.env:=by rfl)
  (hfew:((fK cpos (bE (e::[]) X.env)).all (fun x=>!x.1)&&(sY cpos (sV [] X.env)).all (fun x=>x.1.isSome)
   && decide ((e::[]).length+([]:List pJ).length+(if ([]:List pJ).isEmpty then 0 else 1)<30))=true:=by rfl)
  (hline:(apos.endLine == cpos.line)=true:=by rfl) (hs:bE (e::[]) X.env=(false,bH e X.env)::bE [] X.env:=by rfl) (hplain:(fK cpos (bE [] X.env)).any (·.1)=false:=by rfl):DE X (.Call (.Attribute a "join" apos) [e] [] cpos) (eOp uA f g):=
 PE.imp (rL PySem.F.plainAttrs_str PySem.F.slot_str_join PySem.F.type_str_join Jj ho (fV he iR hs) hbase hfew hline hs hplain) fun σ H Q gh=>by
  obtain⟨P,ρ,d,hP,rs,ef,k⟩:=gh
  obtain⟨d1,e1,ef2⟩:=XBs ef
  obtain⟨d2,e2,ef3⟩:=XBs ef2
  clear ef ef2
  cases d1 with
  | str sep=>
   cases d2 with
   | list ds=>
    obtain⟨ys,h1,h2⟩:=XBs (show((qM ds).bind fun ys=>if (ys.map (·.length)).sum+ys.length*sep.length≤16777216 then some (cF (kY sep ys)) else none)=some d from ef3)
    obtain⟨hz,rfl⟩:=cU h2
    refine⟨P,ρ,_,hP,rs,e1,dA fun v H1 x1 r1=>⟨by rw[(Aau.mp r1).1]; rfl,P,ρ,_,hP.ext x1,rs.ext (cE x1),e2,dA fun u H2 x2 r2=>?_⟩⟩
    obtain⟨q,zs,rfl,hq,rr⟩:=Abf.mp r2
    obtain⟨rfl,hl⟩:=RD h1 rr
    exact⟨sep,q,ys,(Aau.mp r1).1,rfl,Aay.sqL hq,hz,k.zero (x1.trans x2) (Aau.mpr ⟨rfl,QY (Aau.mp r1).2 hl⟩)⟩
   | _=>cases ef3
  | _=>cases d2 <;> cases ef3
def Ee:aA->aA->aA->Option aA
 | .dict kds,k,x=>if plK kds=true then(bR k).bind fun k=>some ((bG kds k).getD x) else none
 | _,_,_=>none
def GW (fd fk fx:EF):EF:=fun ρ=>(fd ρ).bind fun d=>(fk ρ).bind fun k=>(fx ρ).bind fun x=>Ee d k x
theorem Res.dic {K:aH}{P:aB->Prop}{Q:VK}{kvs:List (aL×V)}{q:aB}(hP:Hid P H)(h:Res K P 1 (.dict kds) H Q)(n:H q=none)(r:Abj K (hid H P) kds kvs):Q (.ref q) (upd H q (.dK ep kvs)):=by
 refine h (.ref q) _ [q] (Ext.new n) (dS.mpr ⟨by simp,.nil⟩) (fun a m=>?_) ⟨q,(ep,kvs),kvs.map fun _=>[],rfl,cP,?_,?_⟩
 ·have:a=q:=by simpa using m
  subst this
  exact⟨n,_,cP⟩
 ·have : ∀ l:List (aL×V),(l.map fun _=>([]:List aB)).flatten=[]:=fun l=>by
   induction l with
   | nil=>rfl
   | cons a l ih=>rw[dC,dQ,ih]; rfl
  rw[this]
 ·have xe:Ext (hid H P) (hid (upd H q (.dK ep kvs)) (orL P [q])):=fun b o e=>by
   obtain⟨nb,e⟩:=Abu.mp e
   have hb:=hJ e n
   exact eO (fun z=>z.elim nb fun m=>hb (by simpa using m)) (by rw[bK hb]; exact e)
  generalize hid (upd H q (.dK ep kvs)) (orL P [q])=B at xe
  generalize upd H q (.dK ep kvs)=H1
  clear h
  have go : ∀ (ds:List (aA×aA)) (xs:List (aL×V)),Abj K (hid H P) ds xs->All3 (fun(kd:aA×aA) (kv:aL×V) f=>kd.1=kD kv.1/\Adw K B H1 0 kd.2 kv.2 f) ds xs (xs.map fun _=>[]):=by
   intro ds
   induction ds with
   | nil=>intro xs r; rw[Abk.mp r]; exact .nil
   | cons d ds ih=>
    intro xs r
    obtain⟨k',y,t,rfl,ek,h1,h2⟩:=Aa0.mp (show Abj K (hid H P) ((d.1,d.2)::ds) xs from r)
    exact .cons ⟨ek,rfl,h1.ext xe⟩ (ih t h2)
  exact go kds kvs r
end
section
variable {K:aH}{ρ:aY}{σ:St}
theorem CL : ∀ {ds:List aA} {xs:List V} {Fs:List (List aB)},All3 (Aei K B H 0) ds xs Fs->Aan K B ds xs/\Fs.flatten=[]:=by
 intro ds xs Fs h
 induction h with
 | nil=>exact⟨Aaj.mpr rfl,rfl⟩
 | cons h t ih=>
  obtain⟨rfl,r⟩:=h
  exact⟨Aac.mpr ⟨_,_,rfl,r,ih.1⟩,by rw[dQ,ih.2]; rfl⟩
theorem Pk : ∀ {ds:List (aA×aA)} {xs:List (aL×V)} {Fs:List (List aB)},All3 (fun(kd:aA×aA) (kv:aL×V) f=>kd.1=kD kv.1/\Aei K B H 0 kd.2 kv.2 f) ds xs Fs->Abj K B ds xs/\Fs.flatten=[]:=by
 intro ds xs Fs h
 induction h with
 | nil=>exact⟨Abk.mpr rfl,rfl⟩
 | @cons p q F ds xs Fs h t ih=>
  obtain⟨k,d⟩:=p
  obtain⟨k',v⟩:=q
  obtain⟨ek,rfl,r⟩:=h
  exact⟨Aa0.mpr ⟨_,_,_,rfl,ek,r,ih.1⟩,by rw[dQ,ih.2]; rfl⟩
theorem xX : ∀ {ds:List aA} {xs:List V},Aan K B ds xs->All3 (Aei K B H1 0) ds xs (xs.map fun _=>[])/\(xs.map fun _=>([]:List aB)).flatten=[]
 | [],xs,r=>by rw[Aaj.mp r]; exact⟨.nil,rfl⟩
 | d::ds,xs,r=>by
  obtain⟨y,t,rfl,h1,h2⟩:=Aac.mp r
  obtain⟨q1,q2⟩:=xX h2
  exact⟨.cons ⟨rfl,h1⟩ q1,by rw[dC,dQ,q2]; rfl⟩
theorem Sta.write {p:aB}(S:Sta K H0 P0 B0 ρ σ H fp)(hi:i<ρ.length)(hv:σ[i]?=some (some (.ref p)))(hp:p∈fp i)(ho:(∃ xs,o = .lst xs) \/ ∃ q:DQ,o=dO q)
  (new:Adw K (L2.hid H (Hd P0 fp)) (upd H p o) 1 d' (.ref p) (fp i)):Sta K H0 P0 B0 (ρ.set i (some (1,d'))) σ (upd H p o) fp:=by
 have hb:L2.hid (upd H p o) (Hd P0 fp)=L2.hid H (Hd P0 fp):=by
  funext b
  unfold L2.hid
  by_cases q:Hd P0 fp b
  ·rw[if_pos q,if_pos q]
  ·rw[if_neg q,if_neg q]
   exact bK fun z=>q (.inr ⟨i,by rw[z]; exact hp⟩)
 refine⟨by simp[S.len],S.nd,S.dj,fun j a m=>⟨(S.own j a m).1,?_⟩,fun b u e=>?_,S.hd,by rw[hb]; exact S.base,fun j n d e=>?_⟩
 ·by_cases q:a=p
  ·subst q
   rcases ho with⟨xs,rfl⟩ | ⟨xs,rfl⟩
   ·exact .inl ⟨xs,cP⟩
   ·exact .inr ⟨xs,cP⟩
  ·rw[bK q]; exact(S.own j a m).2
 ·rw[bK (hJ e (S.own i p hp).1)]; exact S.ext b u e
 ·by_cases q:j=i
  ·subst q
   rw[mO hi] at e
   cases e
   exact⟨_,hv,by rw[hb]; exact new⟩
  ·rw[lD (fun z=>q z.symm)] at e
   obtain⟨v,h1,h2⟩:=S.slot j n d e
   refine⟨v,h1,?_⟩
   rw[hb]
   exact h2.keep Ext.refl fun a m=>bK fun z=>q (S.dj j i a m (by rw[z]; exact hp))
theorem Sta.lst1(S:Sta K H0 P0 B0 ρ σ H fp)(e:ρ[i]?=some (some (1,.list ds))) : ∃ p xs,σ[i]?=some (some (.ref p))/\H p=some (.lst xs)/\Aan K (L2.hid H (Hd P0 fp)) ds xs /\
  ∀ ds' xs',Aan K (L2.hid H (Hd P0 fp)) ds' xs'->Sta K H0 P0 B0 (ρ.set i (some (1,.list ds'))) σ (upd H p (.lst xs')) fp:=by
 obtain⟨v,h1,h2⟩:=S.slot i 1 _ e
 obtain⟨p,xs,Fs,rfl,hp,hF,h3⟩:=h2
 obtain⟨r,hn⟩:=CL h3
 rw[hn] at hF
 refine⟨p,xs,h1,hp,r,fun ds' xs' r'=>S.write (dM.mp e).1 h1 (by rw[hF]; exact bD) (.inl ⟨_,rfl⟩) ?_⟩
 obtain⟨q1,q2⟩:=xX r'
 exact⟨p,xs',_,rfl,cP,by rw[hF,q2],q1⟩
end
def getL (i:Nat)(ρ:aY):Option (List aA):=match ρ[i]? with
 | some (some (1,.list ds))=>some ds
 | _=>none
theorem xS{ρ:aY}(h:getL i ρ=some ds):ρ[i]?=some (some (1,.list ds)):=by
 unfold getL at h
 split at h
 ·rename_i e; cases h; exact e
 ·cases h
section
variable {k o:aS}{f g:EF}
def nJ (i:Nat)(m:Md)(f:EF):SF:=fun ρ=>(eV 0 m f ρ).bind fun d=>(getL i ρ).bind fun ds=>if ds.length<sizeLine then some (.nx (ρ.set i (some (1,.list (ds++[d]))))) else none
theorem CG (i:Nat)(m:Md)(he:DE X e f)(hN:X.N[i]?=some x:=by rfl)(hv:jZ X.env.scope x:=by first | exact bM rfl | exact bI (bM rfl) | exact bI (bI rfl))(hd:(x == ("__debug__" : aD))=false:=by decide)
  (hcd:(x == ("__classdict__" : aD))=false:=by decide) (hbase:lN (.Name x px) "append" X.env (bH (.Name x px) X.env)=bH (.Name x px) X.env:=by rfl)
  (hfew:((fK cpos (bE (e::[]) X.env)).all (fun x=>!x.1)&&(sY cpos (sV [] X.env)).all (fun x=>x.1.isSome)
   && decide ((e::[]).length+([]:List pJ).length+(if ([]:List pJ).isEmpty then 0 else 1)<30))=true:=by rfl)
  (hline:(apos.endLine == cpos.line)=true:=by rfl) (hs:bE (e::[]) X.env=(false,bH e X.env)::bE [] X.env:=by rfl) (hplain:(fK cpos (bE [] X.env)).any (·.1)=false:=by rfl)
  (hsw:kG (.Call (.Attribute (.Name x px) "append" apos) [e] [] cpos) none pos.line X.env=pure false:=by rfl):DS X H0 P0 n0 (.Expr (.Call (.Attribute (.Name x px) "append" apos) [e] [] cpos) pos) (nJ i m f):=
 PS.imp (kT (rL FA Bp Bo CO (lG hN hv hd hcd) (fV (ev m he) iR hs) hbase hfew hline hs hplain) hsw) fun D σ H gh=>by
  obtain⟨B0,ρ,fp,o,S,ef,k⟩:=gh
  obtain⟨d,e1,ef2⟩:=XBs ef
  obtain⟨ds,e2,ef3⟩:=XBs ef2
  obtain⟨hl,rfl⟩:=cU ef3
  obtain⟨p,xs,h1,h2,_,_⟩:=S.lst1 (xS e2)
  refine⟨.ref p,h1,.inl ⟨rfl,xs,SqL.of h2⟩,B0,ρ,fp,d,S,e1,fun v H2 gh=>?_⟩
  obtain⟨fp2,S2,r2⟩:=gh
  obtain⟨p2,xs2,q1,q2,q3,q4⟩:=S2.lst1 (xS e2)
  have:p2=p:=by rw[h1] at q1; cases q1; rfl
  subst this
  exact⟨p2,xs2,v,rfl,rfl,q2,by rw[q3.length]; exact hl,k _ _ fp2 (q4 _ _ (q3.snoc r2.2))⟩
def OJ (i:Nat):SF:=fun ρ=>(getL i ρ).bind fun ds=>some (.nx (ρ.set i (some (1,.list []))))
theorem Up (i:Nat)(hN:X.N[i]?=some x:=by rfl)(hv:jZ X.env.scope x:=by first | exact bM rfl | exact bI (bM rfl) | exact bI (bI rfl))(hd:(x == ("__debug__" : aD))=false:=by decide)
  (hcd:(x == ("__classdict__" : aD))=false:=by decide) (hbase:lN (.Name x px) "clear" X.env (bH (.Name x px) X.env)=bH (.Name x px) X.env:=by rfl) (hline:(apos.endLine == cpos.line)=true:=by rfl)
  (hsw:kG (.Call (.Attribute (.Name x px) "clear" apos) [] [] cpos) none pos.line X.env=pure false:=by rfl):DS X H0 P0 n0 (.Expr (.Call (.Attribute (.Name x px) "clear" apos) [] [] cpos) pos) (OJ i):=
 PS.imp (kT (Fx FA PySem.F.slot_list_clear PySem.F.type_list_clear Tv (lG hN hv hd hcd) hbase hline) hsw) fun D σ H gh=>by
  obtain⟨B0,ρ,fp,o,S,ef,k⟩:=gh
  obtain⟨ds,e2,ef3⟩:=XBs ef
  cases ef3
  obtain⟨p,xs,h1,h2,h3,h4⟩:=S.lst1 (xS e2)
  exact⟨.ref p,h1,.inl ⟨rfl,xs,SqL.of h2⟩,p,xs,rfl,rfl,h2,k _ _ fp (h4 [] [] (Aaj.mpr rfl))⟩
def pM (i:Nat)(m:Md)(f:EF)(mk:Md)(g:EF):SF:=fun ρ=>(eV 0 m f ρ).bind fun d=>(getL i ρ).bind fun ds=>(eV 0 mk g ρ).bind fun k=>match k with
 | .int j=>(ixN ds.length j).bind fun j=>some (.nx (ρ.set i (some (1,.list (ds.set j d)))))
 | _=>none
theorem yX {K:aH}{m:Md}{σ:St}{ρ:aY}(S:Sta K H0 P0 B0 ρ σ H fp)(e:eV 0 m g ρ=some d){Q:VK}(hd:dU d=true)(k : ∀ v H',Ext H H'->Abb K (hid H' (Hd P0 fp)) d v->Q v H'):tF K 0 g σ H Q:=by
 cases m with
 | s=>exact⟨Hd P0 fp,vS ρ,d,S.hid,S.viewS,e,dA k⟩
 | a=>
  obtain⟨d',ed,ef⟩:=XBs e
  obtain⟨fl,rfl⟩:=cU ef
  refine⟨P0,vA ρ,d',S.hd.ext S.ext,S.viewA,ed,dA fun v H' x r=>k v H' x (r.flat (fun a xs e=>?_) _ hd)⟩
  obtain⟨na,e⟩:=Abu.mp e
  refine eO (fun q=>?_) e
  rcases q with q | ⟨j,q⟩
  ·exact na q
  ·rcases((S.grow x).own j a q).2 with⟨ys,e2⟩ | ⟨ys,e2⟩ <;> rw[e] at e2 <;> first | cases e2 | (cases ys <;> simp[dO] at e2)
theorem ID (i:Nat)(m mk:Md)(he:DE X e f)(hk:DE X k g)(hN:X.N[i]?=some x:=by rfl)(hv:jZ X.env.scope x:=by first | exact bM rfl | exact bI (bM rfl) | exact bI (bI rfl))(hd:(x == ("__debug__" : aD))=false:=by decide)
  (hcd:(x == ("__classdict__" : aD))=false:=by decide)
  (ha : ∀ v,lO (.Subscript (.Name x px) k apos) X.env v=(do
   let ov ← nO [v] (bH (.Name x px) X.env)
   let iv ← nO [v,ov] (bH k X.env)
   vJ apos
   nO [v,ov,iv] (setItem ov iv v)
   release [v,ov,iv] []):=by intro _; rfl)
  (hs:swapsWithSole [.Subscript (.Name x px) k apos] e pos.line X.env=pure false:=by rfl) (hw:swappedStores [.Subscript (.Name x px) k apos] e X.env=pure none:=by rfl)
  (h1:(iJ [.Subscript (.Name x px) k apos] X.env).map (·.2)=[lO (.Subscript (.Name x px) k apos) X.env]:=by rfl):DS X H0 P0 n0 (.Assign [.Subscript (.Name x px) k apos] e pos) (pM i m f mk g):=
 PS.imp (YK (ev m he) (Hy (lG hN hv hd hcd) hk set_list ha) hs hw h1) fun D σ H gh=>by
  obtain⟨B0,ρ,fp,o,S,ef,kk⟩:=gh
  obtain⟨d,e1,ef2⟩:=XBs ef
  obtain⟨ds,e2,ef3⟩:=XBs ef2
  obtain⟨kd,e3,ef4⟩:=XBs ef3
  clear ef ef2 ef3
  cases kd with
  | int j=>
   obtain⟨jn,e5,ef5⟩:=XBs (show((ixN ds.length j).bind fun j=>some (Out.nx (ρ.set i (some (1,.list (ds.set j d))))))=some o from ef4)
   cases ef5
   refine⟨B0,ρ,fp,d,S,e1,fun v H2 gh=>?_⟩
   obtain⟨fp2,S2,r2⟩:=gh
   obtain⟨p,xs,h1,h2,_,_⟩:=S2.lst1 (xS e2)
   refine⟨.ref p,h1,yX S2 e3 (by simp[dU]) fun u H3 x3 r3=>?_⟩
   have S3:=S2.grow x3
   obtain⟨p3,xs3,q1,q2,q3,q4⟩:=S3.lst1 (xS e2)
   have:p3=p:=by rw[h1] at q1; cases q1; rfl
   subst this
   exact⟨p3,xs3,j,jn,rfl,Aaq.mp r3,q2,by rw[q3.length]; exact e5,kk _ _ fp2 (q4 _ _ (q3.set (r2.2.ext (cE x3)) jn))⟩
  | _=>cases ef4
end
section
variable {a b c:aS}{fa fb fc:EF}
theorem Td {op':CmpOp}(ho:OpR X (fH op) r)(ho':OpR X (fH op') r')(hg:OpD X.K 0 r g)(hg':OpD X.K 0 r' g')(ha:DE X a fa)(hb:DE X b fb)(hc:DE X c fc)
  (hm:lastMarks [op,op'] [b,c]=false:=by with_unfolding_all rfl):DE X (.Compare a [op,op'] [b,c] pos) (lI g g' fa fb fc):=PE.imp (Tt ho ho' ha hb hc hm) (SD hg hg')
theorem QV {op':CmpOp}(ho:OpR X (fH op) r)(ho':OpR X (fH op') r')(hg:OpD X.K 0 r g)(hg':OpD X.K 0 r' g')(ha:DE X a fa)(hb:DE X b fb)(hc:DE X c fc)
  (hm:lastMarks [op,op'] [b,c]=false:=by with_unfolding_all rfl):DT X (.Compare a [op,op'] [b,c] pos) (bOf (lI g g' fa fb fc)):=PT.imp (Va ho ho' ha hb hc hm) fun σ H Q gh=>by
 obtain⟨P,ρ,t,hP,rs,ef,k⟩:=gh
 obtain⟨d,e1,ef⟩:=XBs ef
 cases uS ef
 exact SD hg hg' σ H _ ⟨P,ρ,_,hP,rs,e1,dA fun v H1 x1 r1=>⟨t,Aat.mp r1,k H1 x1⟩⟩
end
def Ax8 (h:aP)(d:aB)(es:Array nY)(ep:Nat):Prop:=∃ o,h.get? d=some o/\o.ExactDict/\o.data = .dict es ep
theorem Ax8.keep{d:aB}{es:Array nY}(x:Ax8 h d es ep)(k : ∀ o,h.get? d=some o->h'.get? d=some o):Ax8 h' d es ep:=
 let ⟨o,e,r⟩:=x; ⟨o,k o e,r⟩
theorem Ax8.ty{d:aB}{es:Array nY}(x:Ax8 s.heap d es ep):s.TypeIs (.ref d) "dict":=let ⟨o,e,c,_⟩:=x; ⟨o,e,c.1⟩
section
variable {prog:bB}{w:aU}{d:aB}{es:Array nY}
theorem Sz(nm:(d == iU)=false)(R:Ax8 s.heap d es ep)
  (q:Q (.ref s.heap.objs.size) { s with heap:=s.heap.push { cls:=.type "dict_keyiterator",data:=.fields #[.ref d,.int 0 0,.int es.size 0,.int ep 0] } }):aO (aQ prog w) A (qQ (.ref d)) Q E s:=by
 have ty:=R.ty
 obtain⟨o,eo,_,ed⟩:=R
 refine wpAny_pyIter_slot ty F.slot_dict_iter (qP F.slot_dict_iter ty F.entry_dict_iter
  ?_ (F.args_dict_iter_1 _))
 unfold Builtin.«dict.__iter__»
 refine aJ ?_
 unfold Builtin.Dict.dictSlotNone
 refine aJ (Ax ty ?_)
 refine aT ?_
 show aO _ _ (Builtin.Dict.showsAll d >>= _) _ _ s
 unfold Builtin.Dict.showsAll
 rw[if_neg (show ¬ (d == iU)=true by rw[nm]; exact rA)]
 refine aJ (aT ?_)
 refine aJ (zB eo ed ?_)
 refine aJ (wpAny_dictEpoch eo ed ?_)
 refine aJ (EJ (aT ⟨_,rfl,"dict_keyiterator",_,
  ⟨_,eM _ rfl,rfl⟩,FS.lookup,?_⟩))
 simpa [rawInt] using q
theorem Uk {e:nY}{Q:Option aE->aG->Prop}(K:s.heap.IsKeyIter it d i es.size ep)(R:Ax8 s.heap d es ep)(x:es[i]?=some e)
  (q : ∀ h',h'.IsKeyIter it d (i+1) es.size ep->mP it s.heap h'->Q (some e.key) { s with heap:=h' }):aO (aQ prog w) A (pyNext (.ref it)) Q E s:=by
 obtain⟨oi,ei,ci,di⟩:=id K
 obtain⟨o,eo,_,ed⟩:=R
 unfold pyNext
 refine aJ (wpAny_attempt (Az K.typeIs
  FS (qP FS K.typeIs
   Ya ?_ (Yb _))))
 refine aJ (aT ?_)
 refine aJ ?_
 refine aJ ?_
 first
  | refine aJ (MG K.typeIs (aT ?_))
  | refine aJ (MF K.typeIs (aT ?_))
 refine aJ (wpAny_fieldsOf ei di ?_)
 have own:Builtin.Dict_items.ownsTuple "dict_keyiterator" = false:=by decide
 simp only[own,gJ,if_false]
 show aO _ _ (if (dD d == fA)=true then _ else _) _ _ s
 rw[if_neg (show ¬ (dD d == fA)=true from rA)]
 refine aJ (aT ?_)
 refine aJ (zB eo ed ?_)
 rw[if_neg (by simp)]
 refine aJ (aT ?_)
 refine aJ (wpAny_dictEpoch eo ed ?_)
 rw[if_neg (by simp)]
 refine aT ?_
 simp only[show ¬ ((i:Int)<0) from by omega,if_false,Cq,x]
 refine aJ ?_
 first
  | refine aJ (MG K.typeIs (aT ?_))
  | refine aJ (MF K.typeIs (aT ?_))
 refine aJ (wpAny_isOneOf_keyiter K.typeIs ?_)
 show aO _ _ (setField (.ref it) 1 (rawInt ((i:Int)+1)) >>= _) _ _ s
 refine aJ (wpAny_setField ei di (by simp) ?_)
 have K':(s.heap.update it (Obj.mapFields (·.setIfInBounds 1 (rawInt ((i:Int)+1))))).IsKeyIter it d (i+1) es.size ep:=
  ⟨_,zQ _ ei (Obj.isFreed_of_fields (Obj.data_mapFields di _)),(Obj.cls_mapFields ..).trans ci,by
   rw[Obj.data_mapFields di]; simp[rawInt]⟩
 refine aJ (hU ?_)
 refine aJ (wpAny_isOneOf_keyiter
  K'.typeIs ?_)
 exact aT (aT ⟨_,rfl,aT (q _ K' (vX ..))⟩)
theorem Kl {Q:Option aE->aG->Prop}(hh:A.handled=none)(K:s.heap.IsKeyIter it d i es.size ep)(R:Ax8 s.heap d es ep)(x:es.size≤i)
  (q : ∀ h',Heap.ExtBut it s.heap h'->Q none { s with heap:=h' }):aO (aQ prog w) A (pyNext (.ref it)) Q E s:=by
 obtain⟨oi,ei,ci,di⟩:=id K
 obtain⟨o,eo,_,ed⟩:=R
 unfold pyNext
 refine aJ (wpAny_attempt (Az K.typeIs
  FS (qP FS K.typeIs
   Ya ?_ (Yb _))))
 refine aJ (aT ?_)
 refine aJ ?_
 refine aJ ?_
 first
  | refine aJ (MG K.typeIs (aT ?_))
  | refine aJ (MF K.typeIs (aT ?_))
 refine aJ (wpAny_fieldsOf ei di ?_)
 have own:Builtin.Dict_items.ownsTuple "dict_keyiterator" = false:=by decide
 simp only[own,gJ,if_false]
 show aO _ _ (if (dD d == fA)=true then _ else _) _ _ s
 rw[if_neg (show ¬ (dD d == fA)=true from rA)]
 refine aJ (aT ?_)
 refine aJ (zB eo ed ?_)
 rw[if_neg (by simp)]
 refine aJ (aT ?_)
 refine aJ (wpAny_dictEpoch eo ed ?_)
 rw[if_neg (by simp)]
 refine aT ?_
 simp only[show ¬ ((i:Int)<0) from by omega,if_false,Cq,Array.getElem?_eq_none x]
 refine aJ ?_
 first
  | refine aJ (MG K.typeIs (aT ?_))
  | refine aJ (MF K.typeIs (aT ?_))
 show aO _ _ (setField (.ref it) 0 .none >>= _) _ _ s
 refine aJ (wpAny_setField ei di (by simp) ?_)
 refine aJ ?_
 simp only[newExc,newTuple]
 refine aJ (EJ ?_ (by size_fits))
 refine aJ (wpAny_of_eq
  (by first | rfl | (simp only[firstArgMember]; rfl)) ?_)
 refine EJ ?_ (by size_fits)
 simp only[raiseNew]
 refine aJ (wpAny_handled ?_)
 rw[show A.in1.handled=none from hh]
 refine aJ (aT (wpAny_throw ?_))
 refine aJ (Ay
  ⟨_,eM _ rfl,rfl⟩ isSubtype_stop ?_)
 exact aT (q _ (((vX ..).extBut.push _).push _))
theorem Wi (hh:A.handled=none)(I d:aB)(ne:d≠I)(es:Array nY)(ep:Nat) :
  Walks prog w A I [I,d] [I] es.size (fun i v=>∃ e,es[i]?=some e/\v=e.key) (fun i h=>h.IsKeyIter I d i es.size ep/\Ax8 h d es ep) where
 sub:=fun b hb=>by simp at hb; simp[hb]
 frame:=fun _ _ _ st hk=>⟨st.1.at fun o e=>hk I (by simp) o e,st.2.keep fun o e=>hk d (by simp) o e⟩
 item:=fun i s Q E hi st hQ=>by
  have hx:=wB hi
  refine Uk st.1 st.2 hx fun h' K' hs=>?_
  exact hQ _ h' s.toks ⟨_,hx,rfl⟩ ⟨K',st.2.keep fun o e=>hs.extBut d o ne e⟩ fun b o hb e=>hs.extBut b o (fun h=>hb (by simp[h])) e
 done:=fun s Q E st hQ=>Kl hh st.1 st.2 (bP _) fun h' he=>hQ h' s.toks fun b o hb e=>he b o (fun h=>hb (by simp[h])) e
 self:=fun _ _ _ _ st hQ=>wpAny_pyIter_keyiter st.1 hQ
theorem Rk:EN (.type "dict") "__len__" = pure (some (.builtin "dict.__len__")):=by rw[typeLookup_type,Ba]; kernel_rfl
theorem Pb(hh:A.handled=none)(nm:(d == iU)=false)(D:Ax8 s.heap d es ep)(S:aB)(res:aE)(c₀:Nat)(hSd:S≠d)
  (hS:s.heap.get? S=some { cls:=.type "list",data:=.seq #[] c₀ }) (hn:es.size≤sizeLine)
  (q : ∀ h' tk acc c',(∀ b o,b≠S->s.heap.get? b=some o->h'.get? b=some o)->h'.get? S=some { cls:=.type "list",dict:=none,data:=.seq acc c',slots:=#[] } ->
   ItemsOf (fun i v=>∃ e,es[i]?=some e/\v=e.key) acc es.size->R (.ok (.ret res)) { s with heap:=h',toks:=tk }) :
  aO (aQ prog w) A.in1 (Builtin.List.listExtendWith (.ref S) (.ref d) res)
   (fun fin s'=>match fin with | .done f=>R (.ok f) s' | .again c'=>c'.quiet=true/\kX (aQ prog w) A c' R s') (fun e s'=>R (.error e) s') s:=by
 have ty:=D.ty
 unfold Builtin.List.listExtendWith
 refine aJ (EE ty ?_)
 have h1:Builtin.List.listSameRef (.ref S) (.ref d)=false:=by
  simp[Builtin.List.listSameRef,hSd]
 have h2:(jC "dict" == jC "list")=false:=by decide
 have h3:(jC "dict" == jC "tuple")=false:=by decide
 simp only[h1,h2,h3,Bool.or_false,gJ,if_false]
 refine aJ (Sz nm D ?_)
 refine aJ (hU ?_)
 have hd0:d<s.heap.objs.size:=by obtain⟨o,e,_⟩:=D; exact cG e
 have hS0:S<s.heap.objs.size:=cG hS
 have keepP : ∀ b o,s.heap.get? b=some o->(s.heap.push { cls:=.type "dict_keyiterator",data:=.fields #[.ref d,.int 0 0,.int es.size 0,.int ep 0] }).get? b=some o:=fun b o e=>cJ _ e
 have D':Ax8 (s.heap.push { cls:=.type "dict_keyiterator",data:=.fields #[.ref d,.int 0 0,.int es.size 0,.int ep 0] }) d es ep:=D.keep fun o e=>keepP d o e
 have itG:(s.heap.push { cls:=.type "dict_keyiterator",data:=.fields #[.ref d,.int 0 0,.int es.size 0,.int ep 0] }).IsKeyIter s.heap.objs.size d 0 es.size ep:=⟨_,eM _ rfl,rfl,rfl⟩
 unfold Builtin.List.listLengthHint
 refine aJ (yZ (T:="dict") (v:=.ref d) (by obtain⟨o,e,c,_⟩:=D'; exact⟨o,e,c.1⟩) Rk ?_)
 wp_delta
 refine aJ (Ay (T:="dict") (v:=.ref d) (b:=true) (by obtain⟨o,e,c,_⟩:=D'; exact⟨o,e,c.1⟩) (by rw[isSubtype_type]; kernel_rfl) ?_)
 show aO _ _ (typeOf (dD d) >>= _) _ _ _
 refine aJ (EE (T:="dict") (v:=.ref d) (by obtain⟨o,e,c,_⟩:=D'; exact⟨o,e,c.1⟩) ?_)
 refine aT ?_
 rw[if_pos (by decide)]
 refine aJ (wpAny_rule ?_)
 refine aJ ?_
 have S1:=keepP _ _ hS
 generalize(s.heap.push { cls:=.type "dict_keyiterator",data:=.fields #[.ref d,.int 0 0,.int es.size 0,.int ep 0] })=G at keepP D' S1 itG ⊢
 show aO _ _ (updateSeq S (·.push .none) >>= fun _=>updateSeq S (·.pop)) _ _ _
 refine aJ (wpAny_updateSeq S1 rfl ?_)
 have S2:=zQ (iM (·.push fA)) S1 rfl
 refine wpAny_updateSeq (hz:=by seq_fits) S2 rfl ?_
 have S3:=zQ (iM (·.pop)) S2 rfl
 have other : ∀ b o,b≠S->G.get? b=some o->((G.update S (iM (·.push fA))).update S (iM (·.pop))).get? b=some o:=fun b o hb e=>
  (NT _ _ (lR hb)).trans ((NT _ _ (lR hb)).trans e)
 have hne:d≠s.heap.objs.size:=dG hd0
 have hSf:S∉[s.heap.objs.size,d]:=fun hm=>by
  rcases cI.mp hm with z | z
  ·exact absurd hS0 (by rw[z]; exact lB _)
  ·exact hSd (cN.mp z)
 refine aT ⟨qR F.plain_extend_loop _,codeAny_extend_loopS (Wi (A:=A.in1) hh s.heap.objs.size d hne es ep).toS hn _ hSf _ es.size 0 _ _ _ rfl (eL _)
  ⟨itG.at fun o e=>other _ o (qV hS0) e,D'.keep fun o e=>other _ o (lR hSd) e⟩ S3 (ItemsOf.nil _) fun s' acc c' hm hS' hacc=>?_⟩
 rw[Moved.eq_with hm]
 refine q s'.heap s'.toks acc c' (fun b ob hb e=>hm.heap b ob (fun hmem=>?_) (other b ob hb (keepP _ _ e))) hS' hacc
 rcases cI.mp hmem with z | hmem
 ·exact hb z
 ·exact absurd (cG e) (by rw[cN.mp hmem]; exact lB _)
theorem XA {Q:List aE->aG->Prop}(hh:A.handled=none)(nm:(d == iU)=false)(D:Ax8 s.heap d es ep)(hn:es.size≤sizeLine)
  (q : ∀ s' acc,(∀ b o,s.heap.get? b=some o->s'.heap.get? b=some o)->s'.gens=s.gens->s'.drawn=s.drawn->s'.os=s.os->ItemsOf (fun i v=>∃ e,es[i]?=some e/\v=e.key) acc es.size->Q acc.toList s') :
  aO (aQ prog w) A (collect (.ref d)) Q E s:=by
 have hd0:d<s.heap.objs.size:=by obtain⟨o,e,_⟩:=D; exact cG e
 unfold collect
 refine aJ (wpAny_runValue (lL F.entry_proto_collect ?_))
 rw[nZ F.plain_proto_collect _]
 refine aJ (EJ ?_)
 refine aT ⟨qR F.plain_list_iadd _,lL F.entry_list_iadd ?_⟩
 rw[nZ F.plain_list_iadd _]
 have fin : ∀ (r:qS) (s':aG),(r = .ok (.ret (.ref s.heap.objs.size)) /\ ∃ h' tk acc c',s' = { s with heap:=h',toks:=tk }/\(∀ b o,b≠s.heap.objs.size->(s.heap.push { cls:=.type "list",data:=.seq ([]:List aE).toArray }).get? b=some o->h'.get? b=some o) /\
   h'.get? s.heap.objs.size=some { cls:=.type "list",dict:=none,data:=.seq acc c',slots:=#[] }/\ItemsOf (fun i v=>∃ e,es[i]?=some e/\v=e.key) acc es.size) ->
   (match r with
    | .ok (.ret v)=>aO (aQ prog w) A (match v with
      | .ref a=>do
       let o ← load a
       match o.data with
        | .seq xs _=>pure xs.toList
        | _=>unsupported "internal:collect"
      | _=>unsupported "internal:collect") Q E s'
    | .ok _=>False
    | .error e=>E e s'):=by
  rintro r s' ⟨rfl,h',tk,acc,c',rfl,hk,hS',hacc⟩
  refine aJ (wpAny_load hS' ?_)
  exact aT (q { s with heap:=h',toks:=tk } acc (fun b o e=>hk b o (dG (cG e)) (cJ _ e)) rfl rfl rfl hacc)
 refine kF (Pb
  (R:=fun r s'=>r = .ok (.ret (.ref s.heap.objs.size)) /\ ∃ h' tk acc c',s' = { s with heap:=h',toks:=tk }/\(∀ b o,b≠s.heap.objs.size->(s.heap.push { cls:=.type "list",data:=.seq ([]:List aE).toArray }).get? b=some o->h'.get? b=some o) /\
   h'.get? s.heap.objs.size=some { cls:=.type "list",dict:=none,data:=.seq acc c',slots:=#[] }/\ItemsOf (fun i v=>∃ e,es[i]?=some e/\v=e.key) acc es.size)
  hh nm (D.keep fun o e=>cJ _ e) s.heap.objs.size _ 0 (qV hd0) (eM _ rfl) hn fun h' tk acc c' hk hS' hacc=>⟨rfl,h',tk,acc,c',rfl,hk,hS',hacc⟩) (fun f s' hf=>?_) fun e s' hf=>absurd hf.1 (by intro z; cases z)
 cases f with
 | done f=>exact fin _ s' hf
 | again c=>exact⟨hf.1,pC hf.2 fun r s2 h2=>fin r s2 h2⟩
end
section
variable {σ:St}
theorem KG{w:aU} : ∀ {es:List nY} {kvs:List (aL×V)} {vs:List (aL×aE)},KV kvs vs->PySem.Pairs (eZ P w) es vs->Vals (kvs.map fun kv=>kV kv.1) (es.map (·.key))
 | [],kvs,vs,r,p=>by
  cases p
  cases r
  exact .nil
 | e::es,kvs,vs,r,p=>by
  cases p with
  | cons h hv t=>
   cases r with
   | cons h' t'=>
    refine .cons ?_ (KG t' t)
    show RelV (kV _) e.key
    rw[h'.1]
    rcases lK h with⟨i,tk,e1,e2⟩ | ⟨x,tk,e1,e2⟩
    ·rw[e1,e2]; exact⟨tk,rfl⟩
    ·rw[e1,e2]; exact⟨tk,rfl⟩
theorem UR {es:Array nY}{acc:Array aE}(h:ItemsOf (fun i v=>∃ e,es[i]?=some e/\v=e.key) acc es.size):acc.toList=es.toList.map (·.key):=by
 obtain⟨h1,h2⟩:=h
 apply List.ext_getElem?
 intro i
 rw[fD]
 by_cases hi:i<acc.size
 ·have ha:acc.toList[i]?=some acc[i]:=by simp[hi]
  obtain⟨e,he,hv⟩:=h2 i acc[i] (by simp[hi])
  have he':es.toList[i]?=some e:=by simpa using he
  rw[ha,he',hv]
  rfl
 ·have ha:acc.toList[i]?=none:=by simp; omega
  have he:es.toList[i]?=none:=by simp; omega
  rw[ha,he]
  rfl
theorem Hj {ep0:Nat}{kvs:List (aL×V)}(I:Inv X pins σ H s)(ha:H a=some (.dK ep0 kvs)):kvs.length≤sizeLine/\(a == iU)=false /\ ∃ es ep,Ax8 s.heap a es ep/\Vals (kvs.map fun kv=>kV kv.1) (es.toList.map (·.key))/\es.size=kvs.length:=by
 obtain⟨z,nm,vs,r,o,es,ep,e1,e2,e3,_,e5,_⟩:=uD I.hok ha
 refine⟨z,nm,es,ep,⟨o,e1,e2,e3⟩,KG r e5,?_⟩
 have l1:=(KG r e5).length
 simp at l1
 exact l1.symm
theorem Uz {H:Hp} : ∀ {kvs:List (List aA×V)} {ys:List (List aA×aB×aE)},dB (fun p q=>p.1=q.1/\Ah6 H p.1 q.2.1/\RelV p.2 q.2.2) kvs ys->dB (fun(p:List aA×V) (b:aB)=>Ah6 H p.1 b) kvs (ys.map fun y=>y.2.1):=by
 intro kvs ys h
 induction h with
 | nil=>exact .nil
 | cons h _ ih=>exact .cons h.2.1 ih
theorem VL{w:aU} : ∀ (ys:List (List aA×aB×aE)),Vals ((ys.map fun y=>y.2.1).map V.ref) ((ys.map (entryOfKey (lJ P w))).map (·.key))
 | []=>.nil
 | _::t=>.cons rfl (VL t)
theorem TL {K:aH} : ∀ {kds:List (aA×aA)} {kvs:List (aL×V)},Abj K H kds kvs->(∀ kd∈kds,cQ kd.1=true)->Aan K H (kds.map (·.1)) (kvs.map fun kv=>kV kv.1)
 | [],kvs,r,_=>by rw[Abk.mp r]; exact Aaj.mpr rfl
 | (k,d)::kds,kvs,r,h=>by
  obtain⟨k',x,rr,rfl,rfl,h1,h2⟩:=Aa0.mp r
  refine Aac.mpr ⟨_,_,rfl,?_,TL h2 fun kd m=>h kd (bJ _ m)⟩
  have hl:=h (kD k',d) bD
  cases k' with
  | inl i=>exact Aaq.mpr rfl
  | inr z=>exact Aau.mpr ⟨rfl,hl⟩
def oW (b:List (aA×aA)):List (aA×aA)->Bool
 | []=>true
 | (k,d)::r=>match (bR k).bind (bG b) with
  | none=>false
  | some e=>cM d e&&oW b r
def uM (a b:List (aA×aA)):Bool:=a.length == b.length&&oW b a
def valsOk (a:List (aA×aA)):Bool:=a.all fun kd=>cO kd.2
theorem Wb {b:List (aA×aA)}{k:aL}(h:valsOk b=true)(e:bG b k=some d):cO d=true:=by
 unfold bG at e
 cases q:b.find? fun kd=>decide (bR kd.1=some k) with
 | none=>rw[q] at e; cases e
 | some kd=>
  rw[q] at e
  have:kd.2=d:=by simpa using e
  subst this
  exact eE.mp h kd (List.mem_of_find?_eq_some q)
theorem QG (hu:X.A.units+100<cLine)(I:Inv X pins σ H s){kb:List (aA×aA)}{vb:List (aL×V)}{ub:List (aL×aE)}(rb:Abj X.K H kb vb)(qb:KV vb ub)(fb:valsOk kb=true) :
  ∀ {ka:List (aA×aA)} {va:List (aL×V)} {ua:List (aL×aE)},valsOk ka=true->Abj X.K H ka va->KV va ua->PySem.W.KeqHits X.A.in1 s ub ua (oW kb ka)
 | [],va,ua,_,ra,qa=>by
  obtain rfl:=Abk.mp ra
  cases qa
  exact .nil
 | (k,d)::ka,va,ua,fa,ra,qa=>by
  obtain⟨k',x,rr,rfl,rfl,h1,h2⟩:=Aa0.mp ra
  have fa':cO d=true/\valsOk ka=true:=by simpa [valsOk] using fa
  cases qa with
  | @cons _ u _ us h' t'=>
  obtain⟨g1,g2⟩:=h'
  obtain⟨uk,uv⟩:=u
  have e2:=g1
  subst e2
  have rel:=qb.val k'
  have eh:oW kb ((kD k',d)::ka)=(match bG kb k' with | none=>false | some e=>cM d e&&oW kb ka):=by
   show(match (bR (kD k')).bind (bG kb) with | none=>false | some e=>cM d e&&oW kb ka)=_
   rw[jL]
   rfl
  rcases CB rb with⟨n1,n2⟩ | ⟨d',v',s1,s2,rd⟩
  ·rw[n2] at rel
   rw[eh,n1]
   exact .miss rel.none_of
  ·rw[s2] at rel
   obtain⟨y,hy,ry⟩:=rel.some_of
   have f1:noDict d=true/\d.depth≤60:=by simpa [cO] using fa'.1
   have f2:noDict d'=true/\d'.depth≤60:=by simpa [cO] using Wb fb s1
   obtain⟨l1,as,ra'⟩:=kE I f1.1 h1 g2
   obtain⟨l2,bs,rb'⟩:=kE I f2.1 rd ry
   have eq:=SeqAt.eqAt_reads d d' X.A.in1 s uv y as bs ra' rb' l1 l2 (by
    have:X.A.in1.units=X.A.units+1:=rfl
    omega)
   rw[eh,s1]
   exact .hit hy eq (QG hu I rb qb fb fa'.2 h2 t')
def OG (K:aH)(neg:Bool):R2:=fun x y H Q=>∃ ka kb,Abb K H (.dict ka) x/\Abb K H (.dict kb) y/\(plK ka=true/\plK kb=true)/\valsOk ka=true/\valsOk kb=true/\Q (.bl (neg != uM ka kb)) H
theorem Fn (hu:X.A.units+100<cLine):OpR X (fH .NotEq) (OG X.K true):=by
 intro pins s σ H x y v u Q I rx ry h
 obtain⟨ka,kb,ra,rb,pk,fa,fb,q⟩:=h
 obtain⟨a,va,rfl,ha,ra⟩:=(sF pk.1).mp ra
 obtain⟨b,vb,rfl,hb,rb⟩:=(sF pk.2).mp rb
 cases rx
 cases ry
 obtain⟨_,na,ua,qa,da⟩:=uD I.hok ha
 obtain⟨_,nb,ub,qb,db⟩:=uD I.hok hb
 have l1:=(ra.length).symm.trans qa.length
 have l2:=(rb.length).symm.trans qb.length
 refine PySem.W.keq_ne na nb da db (by omega) (fun _=>QG hu I rb qb fb fa ra qa) ?_
 rw[← l1,← l2]
 exact⟨.bl _,H,I,rfl,by simpa [uM] using q⟩
def zZ (neg:Bool):aA->aA->Option aA
 | .dict a,.dict b=>if (valsOk a&&valsOk b&&(plK a&&plK b))=true then some (.bool (neg != uM a b)) else none
 | _,_=>none
theorem Kh {K:aH}{neg:Bool}:OpD K 0 (OG K neg) (zZ neg):=fun P H x y a b d Q hP ra rb e k=>by
 unfold zZ at e
 split at e
 ·obtain⟨hc,rfl⟩:=cU e
  have hc':=iC.mp hc
  have hv:=iC.mp hc'.1
  exact⟨_,_,ra.ext Aay,rb.ext Aay,iC.mp hc'.2,hv.1,hv.2,k.zero Ext.refl (Aat.mpr rfl)⟩
 ·cases e
end
def DZ (m:Md)(f:EF)(T:aA->aY->Option aY):SF:=fun ρ=>(eV 0 m f ρ).bind fun d=>(T d ρ).bind fun ρ'=>some (.nx ρ')
theorem Su{f:EF}{T:aA->aY->Option aY}(m:Md)(he:DE X e f)(hg:DG X H0 P0 tg T)(hs:swapsWithSole [tg] e pos.line X.env=pure false:=by rfl)(hw:swappedStores [tg] e X.env=pure none:=by rfl)
  (h1:(iJ [tg] X.env).map (·.2)=[lO tg X.env]:=by rfl):DS X H0 P0 n0 (.Assign [tg] e pos) (DZ m f T):=PS.imp (YK (ev m he) hg hs hw h1) fun D σ H gh=>by
 obtain⟨B0,ρ,fp,o,S,ef,k⟩:=gh
 obtain⟨d,e1,ef⟩:=XBs ef
 obtain⟨ρ',e2,ef⟩:=XBs ef
 cases ef
 refine⟨B0,ρ,fp,d,S,e1,fun v H' gh=>?_⟩
 obtain⟨fp',S',r⟩:=gh
 exact⟨B0,ρ,fp',d,ρ',S',r.2,e2,fun σ' fp2 S2=>k _ _ fp2 S2⟩
open PySem PySem.W PyProof.Rows
def evT {α:Type}(lt:Nat->Nat->Bool):KasT α->α
 | .ret a=>a
 | .ask i j k=>evT lt (k (lt i j))
theorem uQ {α β:Type}(lt:Nat->Nat->Bool)(f:α->KasT β) : ∀ t:KasT α,evT lt (t.bind f)=evT lt (f (evT lt t))
 | .ret _=>rfl
 | .ask i j k=>uQ lt f (k (lt i j))
structure Ord (lt:Nat->Nat->Bool):Prop where
 asym : ∀ a b,lt a b=true->lt b a=false
 tr : ∀ a b c,lt b a=false->lt c b=false->lt c a=false
section
variable {lt:Nat->Nat->Bool}(O:Ord lt)
abbrev at' (p:Array Nat)(i:Nat):Nat:=p.getD i 0
def gK (lt:Nat->Nat->Bool)(p:Array Nat)(m:Nat):Prop:=∀ i j,i≤j->j<m->lt (at' p j) (at' p i)=false
def rC (lt:Nat->Nat->Bool)(p:Array Nat)(m:Nat):Prop:=∀ i j,i≤j->j<m->lt (at' p i) (at' p j)=false
include O
theorem Ord.refl (a:Nat):lt a a=false:=by
 cases h:lt a a with
 | false=>rfl
 | true=>exact absurd (O.asym a a h) (by rw[h]; decide)
theorem Sn(h1:1≤n)(h:gK lt p n)(hl:lt (at' p n) (at' p (n - 1))=false):gK lt p (n+1):=fun i j hij hj=>by
 by_cases c:j<n
 ·exact h i j hij c
 ·obtain rfl:j=n:=by omega
  by_cases d:i=j
  ·subst d; exact O.refl _
  ·exact O.tr _ _ _ (h i (j - 1) (by omega) (by omega)) hl
theorem xF(h1:1≤n)(h:rC lt p n)(hl:lt (at' p (n - 1)) (at' p n)=false):rC lt p (n+1):=fun i j hij hj=>by
 by_cases c:j<n
 ·exact h i j hij c
 ·obtain rfl:j=n:=by omega
  by_cases d:i=j
  ·subst d; exact O.refl _
  ·exact O.tr _ _ _ hl (h i (j - 1) (by omega) (by omega))
theorem Lh (p:Array Nat):gK lt p 1:=fun i j hij hj=>by
 obtain rfl:j=0:=by omega
 obtain rfl:i=0:=by omega
 exact O.refl _
theorem HZ : ∀ (f n:Nat),1≤n->gK lt p n->n≤evT lt (kas_asc p f n)/\evT lt (kas_asc p f n)≤n+f/\gK lt p (evT lt (kas_asc p f n))/\(evT lt (kas_asc p f n)<n+f->lt (at' p (evT lt (kas_asc p f n))) (at' p (evT lt (kas_asc p f n) - 1))=true)
 | 0,n,h1,h=>⟨bP _,bP _,h,fun z=>absurd z (by show ¬ n<n+0; omega)⟩
 | f+1,n,h1,h=>by
  have e:evT lt (kas_asc p (f+1) n)=evT lt (if lt (at' p n) (at' p (n - 1))=true then KasT.ret n else kas_asc p f (n+1)):=rfl
  rw[e]
  by_cases c:lt (at' p n) (at' p (n - 1))=true
  ·rw[if_pos c]
   exact⟨bP _,by show n≤n+(f+1); omega,h,fun _=>c⟩
  ·rw[if_neg c]
   obtain⟨a1,a2,a3,a4⟩:=HZ f (n+1) (by omega) (Sn O h1 h (by simpa using c))
   exact⟨by omega,by omega,a3,fun z=>a4 (by omega)⟩
theorem JH{k:Nat}(h:gK lt p k) : ∀ (f l r:Nat),l≤r->r≤k->r - l≤f->(∀ i<l,lt (at' p k) (at' p i)=false)->(∀ i,r≤i->i<k->lt (at' p i) (at' p k)=false) ->
  evT lt (kas_place p k f l r)≤k/\(∀ i<evT lt (kas_place p k f l r),lt (at' p k) (at' p i)=false) /\ ∀ i,evT lt (kas_place p k f l r)≤i->i<k->lt (at' p i) (at' p k)=false
 | 0,l,r,h1,h2,h3,hl,hr=>by
  have e:evT lt (kas_place p k 0 l r)=l:=rfl
  obtain rfl:l=r:=by omega
  rw[e]
  exact⟨h2,hl,hr⟩
 | f+1,l,r,h1,h2,h3,hl,hr=>by
  unfold kas_place
  by_cases c:l ≥ r
  ·rw[if_pos c]
   obtain rfl:l=r:=by omega
   exact⟨h2,hl,hr⟩
  ·rw[if_neg c]
   show evT lt (if lt (at' p k) (at' p ((l+r) / 2))=true then kas_place p k f l ((l+r) / 2) else kas_place p k f ((l+r) / 2+1) r)≤k/\_
   by_cases d:lt (at' p k) (at' p ((l+r) / 2))=true
   ·have e:evT lt (KasT.ask (p.getD k 0) (p.getD ((l+r) / 2) 0) fun c=>if c=true then kas_place p k f l ((l+r) / 2) else kas_place p k f ((l+r) / 2+1) r)=evT lt (kas_place p k f l ((l+r) / 2)):=by
     show evT lt (if lt (at' p k) (at' p ((l+r) / 2))=true then _ else _)=_
     rw[if_pos d]
    rw[e,if_pos d]
    exact JH h f l ((l+r) / 2) (by omega) (by omega) (by omega) hl fun i a b=>O.tr _ _ _ (O.asym _ _ d) (h _ i a b)
   ·have d':lt (at' p k) (at' p ((l+r) / 2))=false:=by simpa using d
    have e:evT lt (KasT.ask (p.getD k 0) (p.getD ((l+r) / 2) 0) fun c=>if c=true then kas_place p k f l ((l+r) / 2) else kas_place p k f ((l+r) / 2+1) r)=evT lt (kas_place p k f ((l+r) / 2+1) r):=by
     show evT lt (if lt (at' p k) (at' p ((l+r) / 2))=true then _ else _)=_
     rw[if_neg d]
    rw[e,if_neg d]
    refine JH h f ((l+r) / 2+1) r (by omega) h2 (by omega) (fun i hi=>?_) hr
    exact O.tr _ _ _ (h i ((l+r) / 2) (by omega) (by omega)) d'
end
theorem at_of(i:Nat):at' p i=(p[i]?).getD 0:=NX
theorem YO{k l:Nat}(hk:k<p.size)(hl:l≤k)(i:Nat):at' (bubble p k (k - l)) i=if i=l then at' p k else if l<i/\i≤k then at' p (i - 1) else at' p i:=by
 have e:k - (k - l)=l:=by omega
 have q:=getElem?_bubble hk (k - l) (by omega) i
 rw[e] at q
 simp only[at_of,q]
 split
 ·rfl
 ·split <;> rfl
theorem lH(hj:j≤p.size)(k:Nat):at' (kas_rev p i j) k=if i≤k/\k<j then at' p (i+j - 1 - k) else at' p k:=by
 have q:=getElem?_mirror_all (i:=i) hj k
 simp only[at_of]
 unfold kas_rev
 rw[q]
 split <;> rfl
theorem JD (p:Array Nat)(i j:Nat):(kas_rev p i j).size=p.size:=mirror_size _ _ _ _
theorem qC (p:Array Nat)(i j:Nat):(kas_rev p i j).Perm p:=mirror_perm _ _ _ _
section
variable {lt:Nat->Nat->Bool}(O:Ord lt)
include O
theorem Al : ∀ (f:Nat) (p:Array Nat) (k:Nat),gK lt p k->k+f≤p.size->(evT lt (kas_bin f p k)).Perm p/\gK lt (evT lt (kas_bin f p k)) (k+f)
 | 0,p,k,h,_=>⟨FW _,h⟩
 | f+1,p,k,h,hz=>by
  have e:evT lt (kas_bin (f+1) p k)=evT lt (kas_bin f (bubble p k (k - evT lt (kas_place p k k 0 k))) (k+1)):=by
   show evT lt ((kas_place p k k 0 k).bind fun l=>kas_bin f (bubble p k (k - l)) (k+1))=_
   rw[uQ]
  obtain⟨h1,h2,h3⟩:=JH O h k 0 k (eL _) (bP _) (by omega) (fun i hi=>absurd hi (by omega)) (fun i a b=>absurd b (by omega))
  rw[e]
  generalize evT lt (kas_place p k k 0 k)=l at h1 h2 h3
  have hk:k<p.size:=by omega
  have A':gK lt (bubble p k (k - l)) (k+1):=fun i j hij hj=>by
   rw[YO hk h1,YO hk h1]
   by_cases ci:i=l
   ·rw[if_pos ci]
    by_cases cj:j=l
    ·rw[if_pos cj]; exact O.refl _
    ·rw[if_neg cj,if_pos ⟨by omega,by omega⟩]
     exact h3 (j - 1) (by omega) (by omega)
   ·rw[if_neg ci]
    by_cases cj:j=l
    ·rw[if_pos cj,if_neg (by omega)]
     exact h2 i (by omega)
    ·rw[if_neg cj]
     by_cases di:l<i/\i≤k
     ·rw[if_pos di,if_pos ⟨by omega,by omega⟩]
      exact h (i - 1) (j - 1) (by omega) (by omega)
     ·rw[if_neg di]
      by_cases dj:l<j/\j≤k
      ·rw[if_pos dj]
       exact h i (j - 1) (by omega) (by omega)
      ·rw[if_neg dj]
       exact h i j hij (by omega)
  obtain⟨a1,a2⟩:=Al f (bubble p k (k - l)) (k+1) A' (by rw[bubble_size]; omega)
  exact⟨a1.trans (bubble_perm _ _ _),by rw[show k+(f+1)=k+1+f by omega]; exact a2⟩
structure Fall (lt:Nat->Nat->Bool)(p:Array Nat)(n q:Nat):Prop where
 pos:q+1≤n
 dsc:rC lt p n
 eq : ∀ i j,n - (q+1)≤i->i<n->n - (q+1)≤j->j<n->lt (at' p i) (at' p j)=false
theorem Fall.rev{q:Nat}(F:Fall lt p n q)(hz:n≤p.size):Fall lt (kas_rev p (n - (q+1)) n) n q:=by
 have hp:=F.pos
 refine⟨hp,fun i j hij hj=>?_,fun i j a b c d=>?_⟩
 ·rw[lH hz,lH hz]
  by_cases ci:n - (q+1)≤i/\i<n
  ·rw[if_pos ci,if_pos ⟨by omega,hj⟩]
   exact F.eq _ _ (by omega) (by omega) (by omega) (by omega)
  ·rw[if_neg ci]
   by_cases cj:n - (q+1)≤j/\j<n
   ·rw[if_pos cj]
    exact F.dsc _ _ (by omega) (by omega)
   ·rw[if_neg cj]
    exact F.dsc i j hij hj
 ·rw[lH hz,lH hz,if_pos ⟨a,b⟩,if_pos ⟨c,d⟩]
  exact F.eq _ _ (by omega) (by omega) (by omega) (by omega)
theorem BN : ∀ (f:Nat) (p:Array Nat) (n q:Nat),Fall lt p n q->n+f≤p.size->(evT lt (kas_desc f p n q)).1.Perm p/\n≤(evT lt (kas_desc f p n q)).2.1/\(evT lt (kas_desc f p n q)).2.1≤n+f/\Fall lt (evT lt (kas_desc f p n q)).1 (evT lt (kas_desc f p n q)).2.1 (evT lt (kas_desc f p n q)).2.2
 | 0,p,n,q,F,_=>⟨FW _,bP _,bP _,F⟩
 | f+1,p,n,q,F,hz=>by
  have hp:=F.pos
  have e:evT lt (kas_desc (f+1) p n q)=evT lt (if lt (at' p n) (at' p (n - 1))=true then(if q > 0 then kas_desc f (kas_rev p (n - (q+1)) n) (n+1) 0 else kas_desc f p (n+1) 0) else KasT.ask (p.getD (n - 1) 0) (p.getD n 0) fun d=>if d=true then .ret (p,n,q) else kas_desc f p (n+1) (q+1)):=rfl
  rw[e]
  by_cases c:lt (at' p n) (at' p (n - 1))=true
  ·rw[if_pos c]
   by_cases hq:q > 0
   ·rw[if_pos hq]
    have F':=F.rev O (by omega)
    have hn:at' (kas_rev p (n - (q+1)) n) n=at' p n:=by rw[lH (by omega),if_neg (by omega)]
    have F2:Fall lt (kas_rev p (n - (q+1)) n) (n+1) 0:=by
     refine⟨by omega,xF O (by omega) F'.dsc ?_,fun i j a b c' d=>?_⟩
     ·rw[hn,lH (by omega),if_pos ⟨by omega,by omega⟩]
      exact O.tr _ _ _ (O.asym _ _ c) (F.eq _ _ (by omega) (by omega) (by omega) (by omega))
     ·obtain rfl:i=n:=by omega
      obtain rfl:j=i:=by omega
      exact O.refl _
    obtain⟨a1,a2,a3,a4⟩:=BN f _ (n+1) 0 F2 (by rw[JD]; omega)
    exact⟨a1.trans (qC _ _ _),by omega,by omega,a4⟩
   ·rw[if_neg hq]
    have F2:Fall lt p (n+1) 0:=by
     refine⟨by omega,xF O (by omega) F.dsc (O.asym _ _ c),fun i j a b c' d=>?_⟩
     obtain rfl:i=n:=by omega
     obtain rfl:j=i:=by omega
     exact O.refl _
    obtain⟨a1,a2,a3,a4⟩:=BN f _ (n+1) 0 F2 (by omega)
    exact⟨a1,by omega,by omega,a4⟩
  ·rw[if_neg c]
   have c':lt (at' p n) (at' p (n - 1))=false:=by simpa using c
   have e2:evT lt (KasT.ask (p.getD (n - 1) 0) (p.getD n 0) fun d=>if d=true then .ret (p,n,q) else kas_desc f p (n+1) (q+1))=evT lt (if lt (at' p (n - 1)) (at' p n)=true then .ret (p,n,q) else kas_desc f p (n+1) (q+1)):=rfl
   rw[e2]
   by_cases d:lt (at' p (n - 1)) (at' p n)=true
   ·rw[if_pos d]
    exact⟨FW _,bP _,by show n≤n+(f+1); omega,F⟩
   ·rw[if_neg d]
    have d':lt (at' p (n - 1)) (at' p n)=false:=by simpa using d
    have F2:Fall lt p (n+1) (q+1):=by
     refine⟨by omega,xF O (by omega) F.dsc d',fun i j a b a' b'=>?_⟩
     by_cases ci:i=n
     ·by_cases cj:j=n
      ·rw[ci,cj]; exact O.refl _
      ·rw[ci]
       exact O.tr _ _ _ (F.eq (n - 1) j (by omega) (by omega) (by omega) (by omega)) c'
     ·by_cases cj:j=n
      ·rw[cj]
       exact O.tr _ _ _ d' (F.eq i (n - 1) (by omega) (by omega) (by omega) (by omega))
      ·exact F.eq i j (by omega) (by omega) (by omega) (by omega)
    obtain⟨a1,a2,a3,a4⟩:=BN f _ (n+1) (q+1) F2 (by omega)
    exact⟨a1,by omega,by omega,a4⟩
end
section
variable {lt:Nat->Nat->Bool}(O:Ord lt)
include O
theorem Jz(h:rC lt p n)(hz:n≤p.size):gK lt (kas_rev p 0 n) n:=fun i j hij hj=>by
 rw[lH hz,lH hz,if_pos ⟨eL _,hj⟩,if_pos ⟨eL _,by omega⟩]
 exact h _ _ (by omega) (by omega)
theorem SS{m:Nat}(h1:1≤n)(hn:n≤m)(hz:m≤p.size)(h:rC lt p n):(evT lt (kas_tail3 n m p)).2.Perm p/\(evT lt (kas_tail3 n m p)).1≤m/\1≤(evT lt (kas_tail3 n m p)).1/\gK lt (evT lt (kas_tail3 n m p)).2 (evT lt (kas_tail3 n m p)).1:=by
 unfold kas_tail3
 rw[uQ]
 obtain⟨a1,a2,a3,_⟩:=HZ O (m - n) n h1 (Jz O h (by omega))
 exact⟨qC _ _ _,by show evT lt (kas_asc (kas_rev p 0 n) (m - n) n)≤m; omega,by show 1≤evT lt (kas_asc (kas_rev p 0 n) (m - n) n); omega,a3⟩
theorem SR{m:Nat}(h1:1≤n)(hn:n+1≤m)(hz:m≤p.size)(h:rC lt p (n+1)):(evT lt (kas_descPart n m p)).2.Perm p/\(evT lt (kas_descPart n m p)).1≤m/\1≤(evT lt (kas_descPart n m p)).1/\gK lt (evT lt (kas_descPart n m p)).2 (evT lt (kas_descPart n m p)).1:=by
 have F0:Fall lt p (n+1) 0:=⟨by omega,h,fun i j a b c d=>by
  obtain rfl:i=n:=by omega
  obtain rfl:j=i:=by omega
  exact O.refl _⟩
 obtain⟨a1,a2,a3,a4⟩:=BN O (m - (n+1)) p (n+1) 0 F0 (by omega)
 unfold kas_descPart
 rw[uQ]
 generalize evT lt (kas_desc (m - (n+1)) p (n+1) 0)=r at a1 a2 a3 a4
 have hs:=a1.size_eq
 split
 ·have F':=a4.rev O (by omega)
  obtain⟨b1,b2,b3,b4⟩:=SS O (by omega) (by omega) (by rw[JD]; omega) F'.dsc (m:=m)
  exact⟨b1.trans ((qC _ _ _).trans a1),b2,b3,b4⟩
 ·obtain⟨b1,b2,b3,b4⟩:=SS O (by omega) (by omega) (by omega) a4.dsc (m:=m)
  exact⟨b1.trans a1,b2,b3,b4⟩
theorem UN{m:Nat}(h1:1≤m)(hz:m≤p.size):(evT lt (kas_count m p)).2.Perm p/\(evT lt (kas_count m p)).1≤m/\1≤(evT lt (kas_count m p)).1/\gK lt (evT lt (kas_count m p)).2 (evT lt (kas_count m p)).1:=by
 obtain⟨a1,a2,a3,a4⟩:=HZ O (m - 1) 1 (bP _) (Lh O p)
 unfold kas_count
 rw[uQ]
 generalize evT lt (kas_asc p (m - 1) 1)=n at a1 a2 a3 a4
 by_cases c:(n == m)=true
 ·rw[if_pos c]
  exact⟨FW _,by show n≤m; omega,a1,a3⟩
 ·rw[if_neg c]
  have hnm:n≠m:=by simpa using c
  have hl:=a4 (by omega)
  by_cases d:n > 1
  ·rw[if_pos d]
   show(evT lt (if lt (at' p 0) (at' p (n - 1))=true then KasT.ret (n,p) else kas_descPart n m (kas_rev p 0 n))).2.Perm p/\(evT lt (if lt (at' p 0) (at' p (n - 1))=true then KasT.ret (n,p) else kas_descPart n m (kas_rev p 0 n))).1≤m/\1≤(evT lt (if lt (at' p 0) (at' p (n - 1))=true then KasT.ret (n,p) else kas_descPart n m (kas_rev p 0 n))).1/\gK lt (evT lt (if lt (at' p 0) (at' p (n - 1))=true then KasT.ret (n,p) else kas_descPart n m (kas_rev p 0 n))).2 (evT lt (if lt (at' p 0) (at' p (n - 1))=true then KasT.ret (n,p) else kas_descPart n m (kas_rev p 0 n))).1
   by_cases e:lt (at' p 0) (at' p (n - 1))=true
   ·rw[if_pos e]
    exact⟨FW _,by show n≤m; omega,a1,a3⟩
   ·rw[if_neg e]
    have e':lt (at' p 0) (at' p (n - 1))=false:=by simpa using e
    have same : ∀ i j,i<n->j<n->lt (at' p i) (at' p j)=false:=fun i j hi hj=>
     O.tr _ (at' p 0) _ (O.tr _ _ _ (a3 j (n - 1) (by omega) (by omega)) e') (a3 0 i (eL _) hi)
    have D:rC lt (kas_rev p 0 n) (n+1):=by
     refine xF O a1 (fun i j hij hj=>?_) ?_
     ·rw[lH (by omega),lH (by omega),if_pos ⟨eL _,by omega⟩,if_pos ⟨eL _,hj⟩]
      exact same _ _ (by omega) (by omega)
     ·rw[lH (by omega),lH (by omega),if_pos ⟨eL _,by omega⟩,if_neg (by omega)]
      exact O.tr _ _ _ (O.asym _ _ hl) (same _ _ (by omega) (by omega))
    obtain⟨b1,b2,b3,b4⟩:=SR O a1 (by omega) (by rw[JD]; exact hz) D (m:=m)
    exact⟨b1.trans (qC _ _ _),b2,b3,b4⟩
  ·rw[if_neg d]
   obtain rfl:n=1:=by omega
   exact SR O (bP _) (by omega) hz (xF O (bP _) (fun i j hij hj=>by
    obtain rfl:j=0:=by omega
    obtain rfl:i=0:=by omega
    exact O.refl _) (O.asym _ _ hl))
theorem SZ(h1:1≤n):(evT lt (kas_sort n)).Perm (iB (cW n))/\gK lt (evT lt (kas_sort n)) n:=by
 have hs:(iB (cW n)).size=n:=by simp
 obtain⟨a1,a2,a3,a4⟩:=UN O h1 (by rw[hs]; exact bP _)
 unfold kas_sort
 rw[uQ]
 generalize evT lt (kas_count n (iB (cW n)))=r at a1 a2 a3 a4
 have hz:=a1.size_eq.trans hs
 split
 ·have em:max r.1 1=r.1:=by omega
  rw[em]
  obtain⟨b1,b2⟩:=Al O (n - r.1) r.2 r.1 a4 (by omega)
  exact⟨b1.trans a1,by rw[show r.1+(n - r.1)=n by omega] at b2; exact b2⟩
 ·have:r.1=n:=by omega
  exact⟨a1,by rw[this] at a4; exact a4⟩
end
def gW {α:Type}(lt:Nat->Nat->Bool)(N:Nat):KasT α->Prop
 | .ret _=>True
 | .ask i j k=>(i<N/\j<N)/\gW lt N (k (lt i j))
theorem uR {α β:Type}{lt:Nat->Nat->Bool}{N:Nat}{f:α->KasT β} : ∀ {t:KasT α},gW lt N t->gW lt N (f (evT lt t))->gW lt N (t.bind f)
 | .ret _,_,h=>h
 | .ask i j k,h,h2=>⟨h.1,uR h.2 h2⟩
theorem PK {α:Type}{lt:Nat->Nat->Bool}{N:Nat}{cmp:Nat->Nat->(Bool->aG->Prop)->aG->Prop}(hc : ∀ i j (C:Bool->aG->Prop),i<N->j<N->C (lt i j) s->cmp i j C s){Q:α->aG->Prop} : ∀ {t:KasT α},gW lt N t->Q (evT lt t) s->t.kasWp cmp Q s
 | .ret _,_,h=>h
 | .ask i j k,h,q=>hc i j _ h.1.1 h.1.2 (PK hc h.2 q)
abbrev El (N:Nat)(p:Array Nat):Prop:=∀ x∈p,x<N
theorem El.at {N:Nat}(h:El N p)(h0:0<N)(i:Nat):at' p i<N:=by
 rw[at_of]
 cases e:p[i]? with
 | none=>exact h0
 | some v=>exact h v (Array.mem_of_getElem? e)
theorem El.perm {N:Nat}{q:Array Nat}(h:El N p)(x:q.Perm p):El N q:=fun v m=>h v (x.mem_iff.mp m)
section
variable {lt:Nat->Nat->Bool}{N:Nat}(h0:0<N)
include h0
theorem HI(h:El N p) : ∀ f n,gW lt N (kas_asc p f n)
 | 0,_=>trivial
 | f+1,n=>by
  refine⟨⟨h.at h0 _,h.at h0 _⟩,?_⟩
  show gW lt N (if lt (at' p n) (at' p (n - 1))=true then KasT.ret n else kas_asc p f (n+1))
  by_cases c:lt (at' p n) (at' p (n - 1))=true
  ·rw[if_pos c]; trivial
  ·rw[if_neg c]; exact HI h f (n+1)
theorem JA{k:Nat}(h:El N p) : ∀ f l r,gW lt N (kas_place p k f l r)
 | 0,_,_=>trivial
 | f+1,l,r=>by
  unfold kas_place
  by_cases c:l ≥ r
  ·rw[if_pos c]; trivial
  ·rw[if_neg c]
   refine⟨⟨h.at h0 _,h.at h0 _⟩,?_⟩
   show gW lt N (if lt (at' p k) (at' p ((l+r) / 2))=true then kas_place p k f l ((l+r) / 2) else kas_place p k f ((l+r) / 2+1) r)
   by_cases d:lt (at' p k) (at' p ((l+r) / 2))=true
   ·rw[if_pos d]; exact JA h f _ _
   ·rw[if_neg d]; exact JA h f _ _
theorem YG : ∀ (f:Nat) (p:Array Nat) (k:Nat),El N p->gW lt N (kas_bin f p k)
 | 0,_,_,_=>trivial
 | f+1,p,k,h=>uR (JA h0 h k 0 k) (YG f _ _ (h.perm (bubble_perm _ _ _)))
theorem AW : ∀ (f:Nat) (p:Array Nat) (n q:Nat),El N p->gW lt N (kas_desc f p n q)/\El N (evT lt (kas_desc f p n q)).1
 | 0,_,_,_,h=>⟨trivial,h⟩
 | f+1,p,n,q,h=>by
  have e:evT lt (kas_desc (f+1) p n q)=evT lt (if lt (at' p n) (at' p (n - 1))=true then(if q > 0 then kas_desc f (kas_rev p (n - (q+1)) n) (n+1) 0 else kas_desc f p (n+1) 0) else KasT.ask (p.getD (n - 1) 0) (p.getD n 0) fun d=>if d=true then .ret (p,n,q) else kas_desc f p (n+1) (q+1)):=rfl
  have g:gW lt N (kas_desc (f+1) p n q)↔(at' p n<N/\at' p (n - 1)<N)/\gW lt N (if lt (at' p n) (at' p (n - 1))=true then(if q > 0 then kas_desc f (kas_rev p (n - (q+1)) n) (n+1) 0 else kas_desc f p (n+1) 0) else KasT.ask (p.getD (n - 1) 0) (p.getD n 0) fun d=>if d=true then .ret (p,n,q) else kas_desc f p (n+1) (q+1)):=Iff.rfl
  rw[g,e]
  by_cases c:lt (at' p n) (at' p (n - 1))=true
  ·rw[if_pos c]
   by_cases hq:q > 0
   ·rw[if_pos hq]
    obtain⟨a,b⟩:=AW f _ (n+1) 0 (h.perm (qC p (n - (q+1)) n))
    exact⟨⟨⟨h.at h0 _,h.at h0 _⟩,a⟩,b⟩
   ·rw[if_neg hq]
    obtain⟨a,b⟩:=AW f _ (n+1) 0 h
    exact⟨⟨⟨h.at h0 _,h.at h0 _⟩,a⟩,b⟩
  ·rw[if_neg c]
   have e2:evT lt (KasT.ask (p.getD (n - 1) 0) (p.getD n 0) fun d=>if d=true then .ret (p,n,q) else kas_desc f p (n+1) (q+1))=evT lt (if lt (at' p (n - 1)) (at' p n)=true then .ret (p,n,q) else kas_desc f p (n+1) (q+1)):=rfl
   have g2:gW lt N (KasT.ask (p.getD (n - 1) 0) (p.getD n 0) fun d=>if d=true then .ret (p,n,q) else kas_desc f p (n+1) (q+1))↔(at' p (n - 1)<N/\at' p n<N)/\gW lt N (if lt (at' p (n - 1)) (at' p n)=true then .ret (p,n,q) else kas_desc f p (n+1) (q+1)):=Iff.rfl
   rw[g2,e2]
   by_cases d:lt (at' p (n - 1)) (at' p n)=true
   ·rw[if_pos d]
    exact⟨⟨⟨h.at h0 _,h.at h0 _⟩,⟨h.at h0 _,h.at h0 _⟩,trivial⟩,h⟩
   ·rw[if_neg d]
    obtain⟨a,b⟩:=AW f _ (n+1) (q+1) h
    exact⟨⟨⟨h.at h0 _,h.at h0 _⟩,⟨h.at h0 _,h.at h0 _⟩,a⟩,b⟩
theorem ZQ(n m:Nat)(h:El N p):gW lt N (kas_tail3 n m p):=uR (HI h0 (h.perm (qC _ _ _)) _ _) trivial
theorem ZW(n m:Nat)(h:El N p):gW lt N (kas_descPart n m p):=by
 obtain⟨a,b⟩:=AW h0 (m - (n+1)) p (n+1) 0 h
 refine uR a ?_
 split
 ·exact ZQ h0 _ _ (b.perm (qC _ _ _))
 ·exact ZQ h0 _ _ b
theorem Ue(m:Nat)(h:El N p):gW lt N (kas_count m p):=by
 refine uR (HI h0 h _ _) ?_
 generalize evT lt (kas_asc p (m - 1) 1)=n
 by_cases c:(n == m)=true
 ·rw[if_pos c]; trivial
 ·rw[if_neg c]
  by_cases d:n > 1
  ·rw[if_pos d]
   refine⟨⟨h.at h0 _,h.at h0 _⟩,?_⟩
   show gW lt N (if lt (at' p 0) (at' p (n - 1))=true then KasT.ret (n,p) else kas_descPart n m (kas_rev p 0 n))
   by_cases e:lt (at' p 0) (at' p (n - 1))=true
   ·rw[if_pos e]; trivial
   ·rw[if_neg e]; exact ZW h0 _ _ (h.perm (qC _ _ _))
  ·rw[if_neg d]; exact ZW h0 _ _ h
end
theorem Ji {lt:Nat->Nat->Bool}(O:Ord lt)(h1:1≤n):gW lt n (kas_sort n):=by
 have hs:(iB (cW n)).size=n:=by simp
 have h:El n (iB (cW n)):=fun x m=>by simpa using m
 refine uR (Ue (by omega) n h) ?_
 obtain⟨a1,_⟩:=UN O h1 (by rw[hs]; exact bP _)
 generalize evT lt (kas_count n (iB (cW n)))=r at a1
 split
 ·exact YG (by omega) _ _ _ (h.perm a1)
 ·trivial
theorem Jk {lt:Nat->Nat->Bool}(O:Ord lt)(h1:1≤n){cmp:Nat->Nat->(Bool->aG->Prop)->aG->Prop}(hc : ∀ i j (C:Bool->aG->Prop),i<n->j<n->C (lt i j) s->cmp i j C s){G:Array Nat->aG->Prop}
  (h : ∀ p:Array Nat,p.Perm (iB (cW n))->gK lt p n->G p s):(kas_sort n).kasWp cmp G s:=
 PK hc (Ji O h1) (h _ (SZ O h1).1 (SZ O h1).2)
section
variable {prog:bB}{w:aU}
abbrev Cw (a:aB)(h h':aP):Prop:=∀ b o,b≠a->h.get? b=some o->h'.get? b=some o
abbrev jS (h:aP)(a:aB)(vs:List aE):aP:=((h.update a (iM fun _=>#[])).push (gF "tuple" vs.toArray 0)).push (gF "list" #[] 0)
theorem QM:Cw a h (jS h a vs):=fun b o hb e=>
 cJ _ (cJ _ (((vX h a (iM fun _=>(#[]:Array aE))).2 b hb).trans e))
theorem ZU{κ:SortKind}{lt:Nat->Nat->Bool}{P:PySem.Fin->aG->Prop}(O:Ord lt)(ho:s.heap.get? a=some (gF "list" vs.toArray n))(h2:2≤vs.length)(h64:vs.length<64)
  (hk : ∀ (Q:SortKind->aG->Prop),Q κ { s with heap:=jS s.heap a vs }->aO (aQ prog w) A (keyKind' vs.toArray) Q E { s with heap:=jS s.heap a vs })
  (hc : ∀ i j (C:Bool->aG->Prop),i<vs.length->j<vs.length->C (lt i j) { s with heap:=jS s.heap a vs }->aO (aQ prog w) A (keyLt' κ (vs.getD i fA) (vs.getD j fA)) C (fun _ _=>False) { s with heap:=jS s.heap a vs })
  (h : ∀ p:Array Nat,p.Perm (iB (cW vs.length))->gK lt p vs.length->P (.done (.ret .none)) { s with heap:=sortedHeap s.heap a vs (iB (p.toList.map fun i=>vs.getD i fA)) }) :
  aO (aQ prog w) A (Builtin.«list.sort» ⟨[.ref a],[]⟩) P E s:=by
 have lz:vs.length≤sizeLine:=by rw[nL]; omega
 have ha:a<s.heap.objs.size:=cG ho
 obtain⟨e1,ho1⟩ : ∃ e,(s.heap.update a (iM fun _=>(#[]:Array aE))).get? a=some (gF "list" #[] e):=⟨_,get?_update_seq ho fun _=>#[]⟩
 have hoM:(jS s.heap a vs).get? a=some (gF "list" #[] e1):=cJ _ (cJ _ ho1)
 rw[list_sort_plain]
 refine aJ (listItems_at ho rfl (aJ (listUpdate_at ho rfl (aJ (seqEpoch_at ho1 rfl (aJ (wpAny_newTuple (aJ (zA (hU ?_) (eL _))) (by simpa using lz))))) (by rw[eB]; exact lz) (eL _))))
 show aO (aQ prog w) A _ P E { s with heap:=jS s.heap a vs }
 dsimp only
 have big : ¬ vs.toArray.size<2:=by rw[eB]; omega
 rw[if_neg big,if_neg big]
 refine aJ (hk _ ?_)
 have eS:SortSt.mk' κ (vs.toArray.zip vs.toArray) #[] 7 none=kas_st κ (pairsOf vs) (iB (cW vs.length)):=by
  have e:=kas_range (pairsOf vs)
  rw[pairsOf_size] at e
  unfold kas_st
  rw[e]
  rfl
 have run:=kas_runs (prog:=prog) (w:=w) (A:=A) (κ:=κ) (it:=pairsOf vs) (E:=E) (s:={ s with heap:=jS s.heap a vs }) (Q:=fun _ st' s'=>s' = { s with heap:=jS s.heap a vs } /\ ∃ p:Array Nat,p.Perm (iB (cW vs.length))/\gK lt p vs.length/\arrOf st'=p.map (kas_item (pairsOf vs))/\failedOf st'=none)
  (G:=fun p s'=>s' = { s with heap:=jS s.heap a vs }/\p.Perm (iB (cW vs.length))/\gK lt p vs.length) h2 h64 (fun p' st' s' a1 a2 a3 ⟨b1,b2,b3⟩=>⟨b1,p',b2,b3,a2,a3⟩)
  (Jk O (by omega) (fun i j C hi hj q=>by
   unfold kas_cmp
   rw[kas_item_eq,kas_item_eq]
   exact hc i j C hi hj q) fun p b1 b2=>⟨rfl,b1,b2⟩)
 rw[← eS] at run
 refine aJ (kF run ?_ fun _ _ e=>e)
 rintro⟨⟨⟩,st'⟩ s' ⟨rfl,p,b1,b2,har,hf⟩
 dsimp only
 have hout:(arrOf st').map (·.2)=iB (p.toList.map fun i=>vs.getD i fA):=by
  apply FV.mp
  rw[har,Array.map_map,Array.toList_map]
  exact pG fun i _=>congrArg Prod.snd (kas_item_eq vs i)
 have hps:p.size=vs.length:=by
  have:=b1.size_eq
  simpa using this
 have hsz:(iB (p.toList.map fun i=>vs.getD i fA)).size≤sizeLine:=by
  rw[eB,bX,gV,hps]; exact lz
 rw[hout]
 refine aJ (seqEpoch_at hoM rfl (aJ (listUpdate_at hoM rfl ?_ (eL _) (By hsz))))
 rw[hf]
 simp only[bne_self_eq_false,gJ,if_false]
 exact aT (h p b1 b2)
theorem Na{κ:SortKind}{lt:Nat->Nat->Bool}(O:Ord lt)(hl:s.heap.IsList l vs.toArray)(h2:2≤vs.length)(h64:vs.length<64)
  (hk : ∀ h',(∀ b o,s.heap.get? b=some o->h'.get? b=some o) -> ∀ (A':bS) (E':aE->aG->Prop) (R:SortKind->aG->Prop),R κ { s with heap:=h' }->aO (aQ prog w) A' (keyKind' vs.toArray) R E' { s with heap:=h' })
  (hc : ∀ h',(∀ b o,s.heap.get? b=some o->h'.get? b=some o) -> ∀ (A':bS),A'.units≤A.units+4 -> ∀ i j (C:Bool->aG->Prop),i<vs.length->j<vs.length->C (lt i j) { s with heap:=h' }->aO (aQ prog w) A' (keyLt' κ (vs.getD i fA) (vs.getD j fA)) C (fun _ _=>False) { s with heap:=h' })
  (h : ∀ p:Array Nat,p.Perm (iB (cW vs.length))->gK lt p vs.length->Q (.ref (s.heap.objs.size+1)) { s with heap:=sortedAll s.heap vs (iB (p.toList.map fun i=>vs.getD i fA)) }) :
  aO (aQ prog w) A (call (.builtin "sorted") [.ref l]) Q E s:=by
 refine FT kind_sorted plain_sorted entry_sorted (args_sorted1 _) ?_
 unfold Builtin.«sorted»
 refine aJ (aT (aJ (collect_list hl (aJ (zA ?_)))))
 have z:((s.heap.push (gF "list" #[] 0)).update s.heap.objs.size (iM (· ++ vs.toArray))).objs.size=s.heap.objs.size+1:=by rw[Heap.size_update,size_push']
 have hoL:(((s.heap.push (gF "list" #[] 0)).update s.heap.objs.size (iM (· ++ vs.toArray))).push (gF "list" vs.toArray 0)).get? (s.heap.objs.size+1)=some (gF "list" vs.toArray 0):=z ▸ eM _ rfl
 have kept : ∀ b o,s.heap.get? b=some o->(jS (((s.heap.push (gF "list" #[] 0)).update s.heap.objs.size (iM (· ++ vs.toArray))).push (gF "list" vs.toArray 0)) (s.heap.objs.size+1) vs).get? b=some o:=fun b o e=>by
  have hb:=cG e
  refine QM b o (fun q=>?_) (cJ _ (((vX _ s.heap.objs.size _).2 b (fun q=>?_)).trans (cJ _ e)))
  ·exact absurd hb (by rw[q]; exact Nat.not_lt.mpr (qW _))
  ·exact absurd hb (by rw[q]; exact lB _)
 rw[z]
 refine aJ (hU (qP MK ⟨_,hoL,rfl⟩ MM (ZU O hoL h2 h64 (fun R q=>hk _ kept _ _ R q) (fun i j C hi hj q=>hc _ kept _ ?_ i j C hi hj q) fun p b1 b2=>⟨_,rfl,?_⟩) (MN _)))
 ·first | (show A.units+1≤A.units+4; omega) | (show A.units+1+1≤A.units+4; omega) | (show A.units+1+1+1≤A.units+4; omega)
 ·exact aT ⟨_,rfl,h p b1 b2⟩
end
def gX:aA->List Int
 | .int i=>[0,i]
 | .str x=>1::x.cps.toList.map nX
 | _=>[2]
def cX (ks:List aA):List (List Int):=ks.map gX
theorem VI (a b:List (List Int))(h:a<b) : ¬ b<a:=List.lt_asymm h
theorem UK (a b c:List (List Int))(h1 : ¬ b<a)(h2 : ¬ c<b) : ¬ c<a:=by
 have h1:=h1
 have h2:=h2
 exact NL h1 h2
theorem IY {e:aA}(h1:(∃ i,d = .int i) \/ ∃ x,d = .str x)(h2:(∃ i,e = .int i) \/ ∃ x,e = .str x)(h:gX d=gX e):d=e:=by
 rcases h1 with⟨i,rfl⟩ | ⟨x,rfl⟩ <;> rcases h2 with⟨j,rfl⟩ | ⟨y,rfl⟩
 ·simp[gX] at h; rw[h]
 ·simp[gX] at h
 ·simp[gX] at h
 ·have h':x.cps.toList.map nX=y.cps.toList.map nX:=by simpa [gX] using h
  have:=(List.map_inj_right (fun a b q=>Int.ofNat.inj q)).mp h'
  have:x=y:=by
   cases x; cases y
   simp only at this
   rw[FV.mp this]
  rw[this]
def OI (kss:List (List aA))(i j:Nat):Bool:=decide (cX (kss.getD i [])<cX (kss.getD j []))
theorem XX (kss:List (List aA)):Ord (OI kss):=by
 refine⟨fun a b h=>?_,fun a b c h1 h2=>?_⟩
 ·have:=VI _ _ (of_decide_eq_true h)
  exact decide_eq_false this
 ·exact decide_eq_false (UK _ _ _ (of_decide_eq_false h1) (of_decide_eq_false h2))
mutual
theorem Ah4.rep {K:aH} : ∀ (d:aA) {v:V},bA d=true->Ah4 H d v->Abb K H d v
 | .int i,v,_,h=>Aaq.mpr (by simpa [Ah4] using h)
 | .str i,v,k,h=>Aau.mpr ⟨by simpa [Ah4] using h,by simpa [bA] using k⟩
 | .tuple ds,v,k,h=>by
  simp only[Ah4] at h
  obtain⟨a,xs,e,s,r⟩:=h
  exact Aax.mpr ⟨a,xs,e,s,Aeu.reps ds (by simpa [bA] using k) r⟩
 | .none,v,k,_=>by simp[bA] at k
 | .bool _,v,k,_=>by simp[bA] at k
 | .list _,v,k,_=>by simp[bA] at k
 | .dict _,v,k,_=>by simp[bA] at k
theorem Aeu.reps {K:aH} : ∀ (ds:List aA) {vs:List V},bU ds=true->Aeu H ds vs->Aan K H ds vs
 | [],vs,_,h=>Aaj.mpr (by simpa [Aeu] using h)
 | d::ds,vs,k,h=>by
  have k':bA d=true/\bU ds=true:=by simpa [bU] using k
  simp only[Aeu] at h
  obtain⟨x,r,e,h1,h2⟩:=h
  exact Aac.mpr ⟨x,r,e,Ah4.rep d k'.1 h1,Aeu.reps ds k'.2 h2⟩
end
theorem Ah6.rep {K:aH}{ks:List aA}(h:Ah6 H ks a):Abb K H (.tuple ks) (.ref a):=by
 obtain⟨k,_,xs,e,r⟩:=h
 exact Aax.mpr ⟨a,xs,rfl,e,Aeu.reps ks k r⟩
theorem Abb.tupK {K:aH}{ks:List aA}{v:V}(r:Abb K H (.tuple ks) v)(h1:bU ks=true)(h2:cV ks≤6) : ∃ a,v = .ref a/\Ah6 H ks a:=by
 obtain⟨a,xs,e,s,r⟩:=Aax.mp r
 exact⟨a,e,h1,h2,xs,s,Aan.keys ks h1 r⟩
def jO:List aA->Option (List (List aA))
 | []=>some []
 | .tuple ks::r=>if bU ks=true/\cV ks≤6 then(jO r).bind fun kss=>some (ks::kss) else none
 | _::_=>none
def gA (acc:List (List aA))(k:List aA):List (List aA):=if k∈acc then acc else acc++[k]
def fR (kss:List (List aA)):List (List aA):=kss.foldl gA []
theorem BM : ∀ {ds:List aA} {kss:List (List aA)},jO ds=some kss->ds=kss.map fL /\ ∀ ks∈kss,bU ks=true/\cV ks≤6
 | [],kss,h=>by cases h; exact⟨rfl,fun _ m=>by simp at m⟩
 | .tuple ks::r,kss,h=>by
  by_cases c:bU ks=true/\cV ks≤6
  ·have h':((jO r).bind fun kss=>some (ks::kss))=some kss:=by
    have:(if bU ks=true/\cV ks≤6 then(jO r).bind fun kss=>some (ks::kss) else none)=some kss:=h
    rw[if_pos c] at this
    exact this
   obtain⟨k2,e1,e2⟩:=XBs h'
   cases e2
   obtain⟨q1,q2⟩:=BM e1
   refine⟨by rw[q1]; rfl,fun x m=>?_⟩
   rcases cI.mp m with rfl | m
   ·exact c
   ·exact q2 x m
  ·have:(if bU ks=true/\cV ks≤6 then(jO r).bind fun kss=>some (ks::kss) else none)=some kss:=h
   rw[if_neg c] at this
   cases this
 | .none::_,_,h=>by cases h
 | .bool _::_,_,h=>by cases h
 | .int _::_,_,h=>by cases h
 | .str _::_,_,h=>by cases h
 | .list _::_,_,h=>by cases h
 | .dict _::_,_,h=>by cases h
open PySem PySem.Spec PySem.W PyProof.Rows
def gZ:List aA->List aA->Bool
 | [],[]=>true
 | .int _::r,.int _::r'=>gZ r r'
 | .str _::r,.str _::r'=>gZ r r'
 | _,_=>false
theorem PZ (i j:Int)(r r':List aA):(cX (.int i::r)<cX (.int j::r'))↔i<j \/ i=j/\cX r<cX r':=by
 show(gX (.int i)::cX r<gX (.int j)::cX r')↔_
 rw[zP]
 simp[gX,zP]
theorem map_lt (xs ys:List Nat):(xs.map nX<ys.map nX)↔xs<ys:=by
 induction xs generalizing ys with
 | nil=>cases ys <;> simp
 | cons x r ih=>
  cases ys with
  | nil=>simp
  | cons y r'=>
   rw[dC,dC,zP,zP,ih]
   have h1:(nX x<nX y)↔x<y:=Int.ofNat_lt
   have h2:(nX x=nX y)↔x=y:=⟨fun e=>Int.ofNat.inj e,fun e=>by rw[e]⟩
   rw[h1,h2]
theorem ZY (x y:aD)(r r':List aA):(cX (.str x::r)<cX (.str y::r'))↔x.cps.toList<y.cps.toList \/ x=y/\cX r<cX r':=by
 show(gX (.str x)::cX r<gX (.str y)::cX r')↔_
 rw[zP]
 have h1:(gX (.str x)<gX (.str y))↔x.cps.toList<y.cps.toList:=by
  show((1:Int)::x.cps.toList.map nX<(1:Int)::y.cps.toList.map nX)↔_
  rw[zP,map_lt]
  simp
 have h2:(gX (.str x)=gX (.str y))↔x=y:=⟨fun e=>by
  have:=IY (.inr ⟨x,rfl⟩) (.inr ⟨y,rfl⟩) e
  injection this,fun e=>by rw[e]⟩
 rw[h1,h2]
section
variable {prog:bB}{w:aU}{Q:Bool->aG->Prop}
theorem AJ {b:Bool} : ∀ (ks ks':List aA) {vs vs':List aE} {as as':List aB} (i:Nat),gZ ks ks'=true->mK s.heap vs ks as->mK s.heap vs' ks' as'->Q (decide (cX ks<cX ks')) s->KatLex prog w A b false Q (vs.zip vs') i s
 | [],[],vs,vs',as,as',i,_,r,r',h=>by
  cases r; cases r'
  exact kat_nil h
 | .int x::ks,.int y::ks',vs,vs',as,as',i,hs,r,r',h=>by
  cases r with
  | cons r1 r2=>
   cases r' with
   | cons r1' r2'=>
    cases r1 with
    | int _ t=>
     cases r1' with
     | int _ u=>
      rw[Bz]
      refine kat_cons ((eZ prog w).eqBool (KZ _ _ x t) (KZ _ _ y u) ?_)
      refine kat_go (fun e=>kat_yes ?_) fun e=>kat_no ?_
      ·have e':x=y:=by simpa using e
       subst e'
       refine AJ ks ks' (i+1) (by simpa [gZ] using hs) r2 r2' ?_
       have:decide (cX (.int x::ks)<cX (.int x::ks'))=decide (cX ks<cX ks'):=decide_eq_decide.mpr (by rw[PZ]; simp)
       rw[← this]; exact h
      ·have e':x≠y:=by simpa using e
       have:decide (cX (.int x::ks)<cX (.int y::ks'))=decide (x<y):=decide_eq_decide.mpr (by rw[PZ]; simp[e'])
       rw[this] at h
       cases(b&&i == 0) with
       | true=>exact oneLt_int h
       | false=>exact kat_one _ _ (lt_int h)
 | .str x::ks,.str y::ks',vs,vs',as,as',i,hs,r,r',h=>by
  cases r with
  | cons r1 r2=>
   cases r' with
   | cons r1' r2'=>
    cases r1 with
    | str _ t=>
     cases r1' with
     | str _ u=>
      rw[Bz]
      refine kat_cons ((eZ prog w).eqBool (LF _ _ x t) (LF _ _ y u) ?_)
      refine kat_go (fun e=>kat_yes ?_) fun e=>kat_no ?_
      ·have e':x=y:=by simpa using e
       subst e'
       refine AJ ks ks' (i+1) (by simpa [gZ] using hs) r2 r2' ?_
       have:decide (cX (.str x::ks)<cX (.str x::ks'))=decide (cX ks<cX ks'):=decide_eq_decide.mpr (by rw[ZY]; simp[List.lt_irrefl])
       rw[← this]; exact h
      ·have e':x≠y:=by simpa using e
       have:decide (cX (.str x::ks)<cX (.str y::ks'))=decide (x.cps.toList<y.cps.toList):=decide_eq_decide.mpr (by rw[ZY]; simp[e'])
       rw[this] at h
       cases(b&&i == 0) with
       | true=>exact oneLt_str h
       | false=>exact kat_one _ _ (lt_str h)
end
def kP:List aA->Option String
 | .int _::_=>some "int"
 | .str _::_=>some "str"
 | _=>none
theorem Tq {M:Model}{k:List aA}{b:aB}(hd:Ada h k b)(hk:kP k=some T) :
  ∃ o xs n f,h.get? b=some o/\o.cls = .type "tuple" /\ o.data = .seq xs n/\xs[0]?=some f/\Looks M h (typeOf f) (.type T):=by
 obtain⟨_,_,as,r⟩:=hd
 obtain⟨a,o,xs,n,e,ho,hc,hd,hi⟩:=mW r
 cases e
 match k,hk,hi with
 | .int i::r,hk,hi=>
  cases hk
  generalize hx:xs.toList=l at hi
  cases hi with
  | cons h1 _=>
   cases h1 with
   | int _ t=>exact⟨o,xs,n,.int i t,ho,hc,hd,by rw[← rB,hx]; rfl,Looks.of_pure rfl⟩
 | .str x::r,hk,hi=>
  cases hk
  generalize hx:xs.toList=l at hi
  cases hi with
  | cons h1 _=>
   cases h1 with
   | str _ t=>exact⟨o,xs,n,.str x t,ho,hc,hd,by rw[← rB,hx]; rfl,Looks.of_pure rfl⟩
abbrev Agg (h:aP)(vs:List aE)(kss:List (List aA)):Prop:=dB (fun v k=>∃ b,v=dD b/\Ada h k b) vs kss
theorem JJ {M:Model}{h:aP}{T:String} : ∀ {vs:List aE} {kss:List (List aA)},Agg h vs kss->(∀ k∈kss,kP k=some T) -> ∃ fs,KatTups h vs fs/\fs.length=vs.length /\ ∀ f∈fs,Looks M h (typeOf f) (.type T)
 | _,_,.nil,_=>⟨[],KatTups.nil,rfl,fun _ m=>by simp at m⟩
 | _,_,.cons ⟨b,e,hd⟩ t,hk=>by
  obtain⟨fs,h1,h2,h3⟩:=JJ (M:=M) t fun k m=>hk k (bJ _ m)
  obtain⟨o,xs,n,f,q1,q2,q3,q4,q5⟩:=Tq (M:=M) hd (hk _ bD)
  subst e
  refine⟨f::fs,KatTups.cons q1 q2 q3 q4 h1,by rw[eD,eD,h2],fun g m=>?_⟩
  rcases cI.mp m with rfl | m
  ·exact q5
  ·exact h3 g m
theorem Agg.get : ∀ {vs:List aE} {kss:List (List aA)},Agg h vs kss -> ∀ i,i<vs.length -> ∃ b,vs.getD i fA = .ref b/\Ada h (kss.getD i []) b/\kss.getD i []∈kss
 | _,_,.nil,i,hi=>absurd hi (by simp)
 | _,_,.cons ⟨b,e,hd⟩ t,0,_=>⟨b,e,hd,bD⟩
 | _,_,.cons _ t,i+1,hi=>by
  obtain⟨b,q1,q2,q3⟩:=Agg.get t i (by simpa using hi)
  exact⟨b,by simpa using q1,by simpa using q2,by simpa using bJ _ q3⟩
theorem Agg.keep(k : ∀ b o,h.get? b=some o->h'.get? b=some o) : ∀ {vs:List aE} {kss:List (List aA)},Agg h vs kss->Agg h' vs kss
 | _,_,.nil=>.nil
 | _,_,.cons ⟨b,e,hd⟩ t=>.cons ⟨b,e,hd.keep fun b o _ _ q _ _=>k b o q⟩ (Agg.keep k t)
theorem CJ : ∀ {k k':List aA},gZ k k'=true->k.length=k'.length
 | [],[],_=>rfl
 | .int _::r,.int _::r',h=>by rw[eD,eD,CJ (by simpa [gZ] using h)]
 | .str _::r,.str _::r',h=>by rw[eD,eD,CJ (by simpa [gZ] using h)]
theorem xR : ∀ {vs:List aE} {ks:List aA} {as:List aB},mK h vs ks as->vs.length=ks.length
 | _,_,_,.nil=>rfl
 | _,_,_,.cons _ t=>by rw[eD,eD,xR t]
section
variable {prog:bB}{w:aU}
theorem Pr(hl:s.heap.IsList l vs.toArray)(ht:Agg s.heap vs kss)(hT:T = "int" \/ T = "str")(hk : ∀ k∈kss,kP k=some T)(hs : ∀ k∈kss,∀ k'∈kss,gZ k k'=true)(h2:2≤vs.length)(h64:vs.length<64)
  (h : ∀ p:Array Nat,p.Perm (iB (cW vs.length))->gK (OI kss) p vs.length->Q (.ref (s.heap.objs.size+1)) { s with heap:=sortedAll s.heap vs (iB (p.toList.map fun i=>vs.getD i fA)) }) :
  aO (aQ prog w) A (call (.builtin "sorted") [.ref l]) Q E s:=by
 refine Na (κ:=tuples' (jC T != jC "tuple")) (XX kss) hl h2 h64 (fun h' kp A' E' R q=>?_) (fun h' kp A' _ i j C hi hj q=>?_) h
 ·obtain⟨fs,f1,f2,f3⟩:=JJ (M:=aQ prog w) (ht.keep kp) hk
  exact kat_kind (s:={ s with heap:=h' }) f1 (by omega) f3 (by rcases hT with rfl | rfl <;> decide) q
 ·have ht':=ht.keep kp
  obtain⟨b,e1,⟨_,_,as,r1⟩,m1⟩:=ht'.get i hi
  obtain⟨b',e2,⟨_,_,as',r2⟩,m2⟩:=ht'.get j hj
  rw[e1,e2]
  obtain⟨_,o,xs,n,z,ho,_,hd,hr⟩:=mW r1
  cases z
  obtain⟨_,o',xs',n',z,ho',_,hd',hr'⟩:=mW r2
  cases z
  have hsm:=hs _ m1 _ m2
  have l1:=xR hr
  have l2:=xR hr'
  have ll:=CJ hsm
  have:decide (xs.size<xs'.size)=false:=decide_eq_false (by simp only[gV] at l1 l2; omega)
  refine kat_lt (s:={ s with heap:=h' }) ho hd ho' hd' ?_
  rw[this]
  exact AJ _ _ 0 hsm hr hr' q
end
section
variable {prog:bB}{w:aU}
theorem RI{P:PySem.Fin->aG->Prop}(ho:s.heap.get? a=some (gF "list" vs.toArray n))(h2:vs.length<2)(h:P (.done (.ret .none)) { s with heap:=sortedHeap s.heap a vs vs.toArray }) :
  aO (aQ prog w) A (Builtin.«list.sort» ⟨[.ref a],[]⟩) P E s:=by
 have lz:vs.length≤sizeLine:=by rw[nL]; omega
 obtain⟨e1,ho1⟩ : ∃ e,(s.heap.update a (iM fun _=>(#[]:Array aE))).get? a=some (gF "list" #[] e):=⟨_,get?_update_seq ho fun _=>#[]⟩
 have hoM:(jS s.heap a vs).get? a=some (gF "list" #[] e1):=cJ _ (cJ _ ho1)
 rw[list_sort_plain]
 refine aJ (listItems_at ho rfl (aJ (listUpdate_at ho rfl (aJ (seqEpoch_at ho1 rfl (aJ (wpAny_newTuple (aJ (zA (hU ?_) (eL _))) (by simpa using lz))))) (by rw[eB]; exact lz) (eL _))))
 show aO (aQ prog w) A _ P E { s with heap:=jS s.heap a vs }
 dsimp only
 have few:vs.toArray.size<2:=by rw[eB]; exact h2
 rw[if_pos few,if_pos few]
 refine aJ (aT ?_)
 rw[StateT.run_pure]
 refine aJ (aT ?_)
 dsimp only
 have hout:(arrOf (SortSt.mk' general' (vs.toArray.zip vs.toArray) #[] 7 none)).map (·.2)=vs.toArray:=by
  show(vs.toArray.zip vs.toArray).map (·.2)=vs.toArray
  apply FV.mp
  have : ∀ l:List aE,List.map (fun x=>x.snd) (l.zip l)=l:=fun l=>by
   induction l with
   | nil=>rfl
   | cons a l ih=>rw[Bz,dC,ih]
  simpa using this vs
 rw[hout]
 refine aJ (seqEpoch_at hoM rfl (aJ (listUpdate_at hoM rfl ?_ (eL _) (By (by rw[eB]; exact lz)))))
 simp only[bne_self_eq_false,gJ,if_false]
 exact aT h
theorem Ot(hl:s.heap.IsList l vs.toArray)(h2:vs.length<2)(h:Q (.ref (s.heap.objs.size+1)) { s with heap:=sortedAll s.heap vs vs.toArray }) :
  aO (aQ prog w) A (call (.builtin "sorted") [.ref l]) Q E s:=by
 refine FT kind_sorted plain_sorted entry_sorted (args_sorted1 _) ?_
 unfold Builtin.«sorted»
 refine aJ (aT (aJ (collect_list hl (aJ (zA ?_)))))
 have z:((s.heap.push (gF "list" #[] 0)).update s.heap.objs.size (iM (· ++ vs.toArray))).objs.size=s.heap.objs.size+1:=by rw[Heap.size_update,size_push']
 have hoL:(((s.heap.push (gF "list" #[] 0)).update s.heap.objs.size (iM (· ++ vs.toArray))).push (gF "list" vs.toArray 0)).get? (s.heap.objs.size+1)=some (gF "list" vs.toArray 0):=z ▸ eM _ rfl
 rw[z]
 refine aJ (hU (qP MK ⟨_,hoL,rfl⟩ MM (RI hoL h2 ⟨_,rfl,?_⟩) (MN _)))
 exact aT ⟨_,rfl,h⟩
end
theorem IB : ∀ {a b:List aA},gZ a b=true->cX a=cX b->a=b
 | [],[],_,_=>rfl
 | .int i::r,.int j::r',h,e=>by
  have h':gZ r r'=true:=by simpa [gZ] using h
  have e':gX (.int i)=gX (.int j)/\cX r=cX r':=by simpa [cX] using e
  rw[IY (.inl ⟨i,rfl⟩) (.inl ⟨j,rfl⟩) e'.1,IB h' e'.2]
 | .str x::r,.str y::r',h,e=>by
  have h':gZ r r'=true:=by simpa [gZ] using h
  have e':gX (.str x)=gX (.str y)/\cX r=cX r':=by simpa [cX] using e
  rw[IY (.inr ⟨x,rfl⟩) (.inr ⟨y,rfl⟩) e'.1,IB h' e'.2]
def leT (a b:List aA):Bool:=!decide (cX b<cX a)
theorem Aid {a b:List aA}:leT a b=true ↔ ¬ cX b<cX a:=by simp[leT]
theorem Xn (a b c:List aA)(h1:leT a b=true)(h2:leT b c=true):leT a c=true:=Aid.mpr (UK _ _ _ (Aid.mp h1) (Aid.mp h2))
theorem We (a b:List aA):(leT a b||leT b a)=true:=by
 by_cases h:cX b<cX a
 ·have:=VI _ _ h
  simp[leT,h,this]
 ·simp[leT,h]
theorem Vm {a b:List aA}(hs:gZ a b=true)(h1:leT a b=true)(h2:leT b a=true):a=b:=by
 have h1:=Aid.mp h1
 have h2:=Aid.mp h2
 exact IB hs (List.le_antisymm h1 h2)
def jF (kss:List (List aA)):List (List aA):=kss.mergeSort leT
def sameAll (kss:List (List aA)):Bool:=kss.all fun k=>kss.all fun k'=>gZ k k'
def okT (kss:List (List aA)):Bool:=decide (kss.length<2)||(sameAll kss&&kss.all fun k=>(kP k).isSome)
theorem CQ (kss:List (List aA)):(jF kss).Perm kss:=Cf kss leT
theorem Qa (kss:List (List aA)):(jF kss).Pairwise fun a b=>leT a b=true:=Ca Xn We kss
theorem CN {qs:List (List aA)}(hs:okT kss=true)(hp:qs.Perm kss)(hr:qs.Pairwise fun a b=>leT a b=true):qs=jF kss:=by
 have hp':=hp.trans (CQ kss).symm
 by_cases h2:kss.length<2
 ·have l1:qs.length<2:=by rw[hp.length_eq]; exact h2
  match qs,l1,hp' with
  | [],_,hp'=>exact(List.nil_perm.mp hp').symm
  | [q],_,hp'=>exact List.singleton_perm.mp hp'
 ·have hs':sameAll kss=true:=by
   have:(sameAll kss&&kss.all fun k=>(kP k).isSome)=true:=by simpa [okT,h2] using hs
   exact(iC.mp this).1
  refine Xy (fun a b ma mb h1 h2=>Vm ?_ h1 h2) hr (Qa kss) hp'
  have ma':=hp.mem_iff.mp ma
  have mb':=(CQ kss).mem_iff.mp mb
  exact eE.mp (eE.mp hs' a ma') b mb'
theorem same_kind : ∀ {k k':List aA},gZ k k'=true->kP k=kP k'
 | [],[],_=>rfl
 | .int _::_,.int _::_,_=>rfl
 | .str _::_,.str _::_,_=>rfl
theorem QI {k:List aA}(h:kP k=some T):T = "int" \/ T = "str":=by
 unfold kP at h
 split at h
 ·cases h; exact .inl rfl
 ·cases h; exact .inr rfl
 ·cases h
section
variable {prog:bB}{w:aU}
theorem Oy(hl:s.heap.IsList l vs.toArray)(ht:Agg s.heap vs kss)(ok:okT kss=true)(h64:vs.length<64)
  (h : ∀ p:List Nat,p.Perm (cW vs.length)->p.map (fun i=>kss.getD i [])=jF kss->Q (.ref (s.heap.objs.size+1)) { s with heap:=sortedAll s.heap vs (iB (p.map fun i=>vs.getD i fA)) }) :
  aO (aQ prog w) A (call (.builtin "sorted") [.ref l]) Q E s:=by
 have ln:=kJ ht
 have idp : ∀ {α:Type} (xs:List α) (d:α),(cW xs.length).map (fun i=>xs.getD i d)=xs:=fun xs d=>by
  apply List.ext_getElem
  ·simp
  ·intro i h1 h2
   simp at h1
   simp[h1]
 by_cases h2:vs.length<2
 ·refine Ot hl h2 ?_
  have:=h (cW vs.length) (FP _) (by
   rw[ln,idp kss]
   refine CN ok (FP _) ?_
   match kss,ln with
   | [],_=>exact .nil
   | [k],_=>simp
   | _::_::_,ln=>simp at ln; omega)
  rw[idp vs] at this
  exact this
 ·have hs:sameAll kss=true/\(kss.all fun k=>(kP k).isSome)=true:=by
   have h2' : ¬ kss.length<2:=by omega
   have:(sameAll kss&&kss.all fun k=>(kP k).isSome)=true:=by simpa [okT,h2'] using ok
   exact iC.mp this
  obtain⟨k0,m0⟩ : ∃ k0,k0∈kss:=by
   cases hk:kss with
   | nil=>rw[hk] at ln; exact absurd ln (by simp; intro e; rw[e] at h2; simp at h2)
   | cons k r=>exact⟨k,bD⟩
  obtain⟨T,hT⟩:=pE.mp (eE.mp hs.2 k0 m0)
  have sm : ∀ k∈kss,∀ k'∈kss,gZ k k'=true:=fun k m k' m'=>eE.mp (eE.mp hs.1 k m) k' m'
  refine Pr hl ht (QI hT) (fun k m=>(same_kind (sm k m k0 m0)).trans hT) sm (by omega) h64 fun p hp ha=>?_
  have hp':p.toList.Perm (cW vs.length):=by simpa using Yc.mp hp
  have pl:p.toList.length=vs.length:=by rw[hp'.length_eq,FL]
  refine h p.toList hp' (CN ok ?_ ?_)
  ·have:=hp'.map (fun i=>kss.getD i [])
   rw[ln,idp kss] at this
   exact this
  ·rw[pF,Cb]
   intro i j hi hj hij
   refine Aid.mpr ?_
   have:=ha i j (vR hij) (by omega)
   have e1:at' p i=p.toList[i]:=by simp at hi; simp[at',hi]
   have e2:at' p j=p.toList[j]:=by simp at hj; simp[at',hj]
   rw[e1,e2] at this
   exact of_decide_eq_false this
end
abbrev rK (H:Hp)(ys:List V)(kss:List (List aA)):Prop:=dB (fun y k=>∃ b,y=V.ref b/\Ah6 H k b) ys kss
theorem SB {K:aH} : ∀ {kss:List (List aA)} {ys:List V},(∀ ks∈kss,bU ks=true/\cV ks≤6)->Aan K H (kss.map fL) ys->rK H ys kss
 | [],ys,_,r=>by rw[Aaj.mp r]; exact .nil
 | k::kss,ys,hk,r=>by
  obtain⟨v,t,rfl,r1,r2⟩:=Aac.mp r
  obtain⟨b,rfl,tk⟩:=r1.tupK (hk k bD).1 (hk k bD).2
  exact .cons ⟨b,rfl,tk⟩ (SB (fun x m=>hk x (bJ _ m)) r2)
theorem SM(x : ∀ c zs,H c=some (.tup zs)->H' c=some (.tup zs)) : ∀ {ys:List V} {kss:List (List aA)},rK H ys kss->rK H' ys kss
 | _,_,.nil=>.nil
 | _,_,.cons ⟨b,e,tk⟩ t=>.cons ⟨b,e,tk.keep x⟩ (SM x t)
theorem HW{w:aU}(ok:HOk P w H h) : ∀ {ys:List V} {kss:List (List aA)} {vs:List aE},rK H ys kss->Vals ys vs->Agg h vs kss
 | _,_,_,.nil,.nil=>.nil
 | _,_,_,.cons ⟨b,e,tk⟩ t,.cons r rr=>by
  subst e
  cases r
  exact .cons ⟨b,rfl,pR ok tk⟩ (HW ok t rr)
def rG (p:List Nat)(ys:List V):List V:=p.map fun i=>ys.getD i .non
theorem TJ : ∀ {ys:List V} {vs:List aE} (i:Nat),Vals ys vs->i<ys.length->RelV (ys.getD i .non) (vs.getD i fA)
 | _,_,0,.cons r _,_=>r
 | _,_,i+1,.cons _ t,h=>TJ i t (by simpa using h)
theorem VM {ys:List V}(r:Vals ys vs) : ∀ p:List Nat,(∀ i∈p,i<ys.length)->Vals (rG p ys) (p.map fun i=>vs.getD i fA)
 | [],_=>.nil
 | i::p,h=>.cons (TJ i r (h i bD)) (VM r p fun j m=>h j (bJ _ m))
theorem Rf:Adg X (.builtin "sorted") (fun xs H Q=>∃ p ys kss,xs=[.ref p]/\SqL X.K H p ys/\rK H ys kss/\okT kss=true/\kss.length<64 /\
  ∀ l q,H l=none->q.Perm (cW ys.length)->q.map (fun i=>kss.getD i [])=jF kss->Q (.ref l) (upd H l (.lst (rG q ys)))):=by
 intro pins s σ H xs us Q I r h
 obtain⟨p,ys,kss,rfl,hp,rf,ok,hl,q⟩:=h
 obtain⟨u,rfl,ru⟩:=vals1 r
 cases ru
 obtain⟨its,rv,pl,hz⟩:=I.list hp
 have e1:=rv.length
 have e2:=kJ rf
 refine Oy pl.isList (HW I.hok rf rv) ok (by omega) fun q' hp' hs=>?_
 have hq : ∀ i∈q',i<ys.length:=fun i m=>by
  have:=iN.mp (hp'.mem_iff.mp m)
  omega
 obtain⟨e,he⟩:=sortedAll_at s.heap its (iB (q'.map fun i=>its.getD i fA))
 have hn:=I.hok.fresh (qW _)
 have lz:(rG q' ys).length≤sizeLine:=by
  unfold rG
  rw[bX,hp'.length_eq,FL]
  omega
 exact⟨.ref (s.heap.objs.size+1),_,I.laid (t':=s.toks) (o:=.lst (rG q' ys)) (fun b ob g=>sortedAll_old g) (qW _) ⟨lz,_,e,VM rv q' hq,he⟩,rfl,q _ q' hn (by rw[e1]; exact hp') hs⟩
def AQ:List aA->Option aA
 | [.list ds]=>(jO ds).bind fun kss=>if okT kss=true/\kss.length<64 then some (.list ((jF kss).map fL)) else none
 | _=>none
theorem UY {K:aH} : ∀ {kss:List (List aA)} {ys:List V} (i:Nat),Aan K H (kss.map fL) ys->i<ys.length->Abb K H (.tuple (kss.getD i [])) (ys.getD i .non)
 | [],ys,i,r,h=>by rw[Aaj.mp r] at h; simp at h
 | k::kss,ys,0,r,h=>by
  obtain⟨v,t,rfl,r1,r2⟩:=Aac.mp r
  exact r1
 | k::kss,ys,i+1,r,h=>by
  obtain⟨v,t,rfl,r1,r2⟩:=Aac.mp r
  exact UY i r2 (by simpa using h)
theorem UU {K:aH}{ys:List V}(r:Aan K H (kss.map fL) ys) : ∀ p:List Nat,(∀ i∈p,i<ys.length)->Aan K H ((p.map fun i=>kss.getD i []).map fL) (rG p ys)
 | [],_=>Aaj.mpr rfl
 | i::p,h=>Aac.mpr ⟨_,_,rfl,UY i r (h i bD),UU r p fun j m=>h j (bJ _ m)⟩
theorem Pn {K:aH}:CallD K 1 (fun xs H Q=>∃ p ys kss,xs=[.ref p]/\SqL K H p ys/\rK H ys kss/\okT kss=true/\kss.length<64 /\
  ∀ l q,H l=none->q.Perm (cW ys.length)->q.map (fun i=>kss.getD i [])=jF kss->Q (.ref l) (upd H l (.lst (rG q ys)))) AQ:=fun P H xs ds d Q hP r e k=>by
 unfold AQ at e
 split at e
 ·obtain⟨kss,e1,e2⟩:=XBs e
  obtain⟨⟨ok,hl⟩,rfl⟩:=cU e2
  obtain⟨rfl,hk⟩:=BM e1
  obtain⟨v,rfl,r'⟩:=hE r
  obtain⟨q,ys,rfl,hq,rr⟩:=Abf.mp r'
  refine⟨q,ys,kss,rfl,Aay.sqL hq,?_,ok,hl,fun l p hn hp hs=>?_⟩
  ·exact SM (fun c zs g=>Aay _ _ g) (SB hk rr)
  ·have hi : ∀ i∈p,i<ys.length:=fun i m=>iN.mp (hp.mem_iff.mp m)
   have:=UU rr p hi
   rw[hs] at this
   exact k.lst hP hn this
 ·cases e
def sNo:SF:=fun _=>none
theorem PY{s:bW}:DS X H0 P0 n0 s sNo:=fun pins st σ H D I q=>by
 obtain⟨B0,ρ,fp,o,S,ef,k⟩:=q
 cases ef
theorem RE:EN (.type "tuple") "__rmul__" = pure (some (.builtin "tuple.__rmul__")):=by rw[typeLookup_type,Ba]; kernel_rfl
theorem Qr:fillsNumberSlot (.type "tuple") "mul" = pure false:=
 PySem.fillsNumberSlot_seq EZ.lookup (by decide +kernel) RE (by decide +kernel)
theorem Pf:seqRepeat? (.type "tuple")=pure (some (.builtin "tuple.__mul__")):=by
 unfold seqRepeat?
 rw[PySem.seqSlot_of (T:="tuple") (name:="__mul__") (id:="tuple.__mul__") EZ.lookup (by decide +kernel),PySem.seqSlot_of (T:="tuple") (name:="__rmul__") (id:="tuple.__rmul__") RE (by decide +kernel)]
 rfl
theorem Rq (a:Int)(t:Tok)(l:aB)(items:Array aE)(n:Nat)(dd:Option aB)(sl:Array (Option aE)) :
  Meets (Builtin.«int.__rmul__» ⟨[.int a t,.ref l],[]⟩) (fun _ R s=>s.heap.get? l=some { cls:=.type "tuple",dict:=dd,data:=.seq items n,slots:=sl }/\R (.ok (.ret Value.notImplemented)) s):=
 .of_wp fun prog w A R s h=>by obtain⟨hp,g,d,tk,os⟩:=s; obtain⟨hl,h⟩:=h; wp_walk; exact⟨_,rfl,h⟩
theorem Tg (l:aB)(items:Array aE)(n:Nat)(dd:Option aB)(sl:Array (Option aE))(x:Int)(u:Tok)(hlo:0≤x+1000)(hhi:x<1000000)(hc:(items.isEmpty||x == 1)=true) :
  Meets (Builtin.«tuple.__mul__» ⟨[.ref l,.int x u],[]⟩) (fun _ R s=>s.heap.get? l=some { cls:=.type "tuple",dict:=dd,data:=.seq items n,slots:=sl }/\R (.ok (.ret (.ref l))) s):=
 .of_wp fun prog w A R s h=>by
  obtain⟨hp,g,d,tk,os⟩:=s
  obtain⟨hl,h⟩:=h
  have f1:=Cv
  have f2:=Cu
  wp_walk using wA hl
  refine EK (fun hab=>absurd hab (by simp; omega)) (fun _=>?_)
  wp_walk using wA hl
  exact⟨_,rfl,h⟩
theorem Tx (l:aB)(items:Array aE)(n:Nat)(dd:Option aB)(sl:Array (Option aE))(x:Int)(u:Tok)(hlo:0≤x+1000)(hhi:x<1000000)(hc : ¬ (items.isEmpty||x == 1)=true)(hx:(decide (x≤0)||items.isEmpty)=true) :
  Meets (Builtin.«tuple.__mul__» ⟨[.ref l,.int x u],[]⟩) (fun _ R s=>s.heap.get? l=some { cls:=.type "tuple",dict:=dd,data:=.seq items n,slots:=sl }/\R (.ok (.ret (.ref s.heap.objs.size))) { s with heap:=s.heap.push { cls:=.type "tuple",data:=.seq #[] } }):=
 .of_wp fun prog w A R s h=>by
  obtain⟨hp,g,d,tk,os⟩:=s
  obtain⟨hl,h⟩:=h
  have f1:=Cv
  have f2:=Cu
  wp_walk using wA hl
  refine EK (fun hab=>absurd hab (by simp; omega)) (fun _=>?_)
  wp_walk using wA hl
  exact⟨_,rfl,h⟩
theorem Ud (l:aB)(items:Array aE)(n:Nat)(dd:Option aB)(sl:Array (Option aE))(x:Int)(u:Tok)(hlo:0≤x+1000)(hhi:x<1000000)(hc : ¬ (items.isEmpty||x == 1)=true)(hx : ¬ (decide (x≤0)||items.isEmpty)=true)
  (h3:(items.size:Int)*x≤1000000) (hsz:(NO (· ++ ·) #[] (fC x.toNat items)).size≤sizeLine) :
  Meets (Builtin.«tuple.__mul__» ⟨[.ref l,.int x u],[]⟩) (fun _ R s=>s.heap.get? l=some { cls:=.type "tuple",dict:=dd,data:=.seq items n,slots:=sl }/\R (.ok (.ret (.ref s.heap.objs.size))) { s with heap:=s.heap.push { cls:=.type "tuple",data:=.seq (NO (· ++ ·) #[] (fC x.toNat items)) } }):=
 .of_wp fun prog w A R s h=>by
  obtain⟨hp,g,d,tk,os⟩:=s
  obtain⟨hl,h⟩:=h
  have f1:=Cv
  have f2:=Cu
  wp_walk using wA hl
  refine EK (fun hab=>absurd hab (by simp; omega)) (fun _=>?_)
  wp_walk using wA hl
  refine EK (fun hab=>absurd hab (by omega)) (fun _=>?_)
  refine EK (fun hab=>absurd hab (by simp[Builtin.Tuple.tupleTooMany,sizeLine]; omega)) (fun _=>?_)
  wp_walk using wA hl
  exact⟨_,rfl,h⟩
theorem RK : ∀ (n:Nat) (acc its:Array aE),(NO (· ++ ·) acc (fC n its)).toList=acc.toList++(fC n its.toList).flatten
 | 0,acc,its=>by simp
 | n+1,acc,its=>by
  rw[vU,pI,RK n (acc++its) its,vU,dQ,Array.toList_append,NR]
theorem RL {xs:List V}{us:List aE}(r:Vals xs us) : ∀ n:Nat,Vals (fC n xs).flatten (fC n us).flatten
 | 0=>.nil
 | n+1=>by
  rw[vU,vU,dQ,dQ]
  exact r.append (RL r n)
theorem SY {K:aH}{xs:List V}(r:Aan K H ds xs) : ∀ n:Nat,Aan K H (fC n ds).flatten (fC n xs).flatten
 | 0=>Aaj.mpr rfl
 | n+1=>by
  rw[vU,vU,dQ,dQ]
  exact r.append (SY r n)
theorem IT {α:Type}(xs:List α)(n:Nat):(fC n xs).flatten.length=n*xs.length:=by
 induction n with
 | zero=>simp
 | succ n ih=>rw[vU,dQ,nU,ih]; rw[Nat.succ_mul]; omega
section
variable {a b:aS}{fa fb:EF}
def PM (K:aH):R2:=fun x y H Q=>∃ a xs n,x = .ref a/\y = .int n/\SqT K H a xs /\ -1000≤n/\n<1000000/\xs.length*n.toNat≤1000000 /\
 ((xs=[] \/ n=1)->Q (.ref a) H)/\(¬ (xs=[] \/ n=1) -> ∀ p,H p=none->Q (.ref p) (upd H p (.tup (fC n.toNat xs).flatten)))
theorem Kv:OpR X (kH .Mult) (PM X.K):=by
 intro pins s σ H x y v u Q I rx ry h
 obtain⟨a,xs,n,rfl,rfl,ha,hlo,hhi,hz,q1,q2⟩:=h
 cases rx
 obtain⟨t,rfl⟩:=ry
 obtain⟨its,r1,p1,_⟩:=I.tuple ha
 have hl:=r1.length
 obtain⟨⟨cls,dd,data,sl⟩,ho,hc,m,hd⟩:=p1
 simp only at hc hd
 subst hc hd
 have go : ∀ {Q1 E1:aE->aG->Prop},aO (aQ X.prog X.w) X.A (call (.builtin "tuple.__mul__") [.ref a,.int n t]) Q1 E1 s->aO (aQ X.prog X.w) X.A (kH .Mult (.ref a) (.int n t)) Q1 E1 s:=fun h=>
  wpAny_binaryOp_repeat_ref (by decide) ⟨_,ho,rfl⟩ (fun s'=>typeIs_int s' n t) Qr PySem.F.fills_int_mul PySem.F.slot_int_rmul Pf PySem.F.slot_int_index.lookup
   (sX PySem.F.slot_int_rmul (typeIs_int s n t) PySem.F.entry_int_rmul (PySem.F.args_int_rmul_2 _ _) (Rq n t a its.toArray m dd sl) ⟨ho,rfl,⟨_,ho,rfl⟩,h⟩)
 refine go ?_
 have ee:its.toArray.isEmpty=decide (xs=[]):=by
  cases its with
  | nil=>
   have:xs=[]:=by simpa using hl
   subst this; rfl
  | cons i r=>
   have:xs≠[]:=fun e=>by rw[e] at hl; simp at hl
   simp[this]
 have e1:(n == 1)=decide (n=1):=by
  rw[Bool.eq_iff_iff]
  simp
 by_cases c:xs=[] \/ n=1
 ·exact sX EZ ⟨_,ho,rfl⟩ Bq (Br _ _) (Tg a its.toArray m dd sl n t (by omega) (by omega) (by rw[ee,e1]; simpa using c)) ⟨ho,⟨.ref a,H,I,rfl,q1 c⟩⟩
 ·have nc : ¬ (its.toArray.isEmpty||n == 1)=true:=by rw[ee,e1]; simpa using c
  have hx:xs≠[]:=fun e=>c (.inl e)
  by_cases h0:n≤0
  ·refine sX EZ ⟨_,ho,rfl⟩ Bq (Br _ _) (Tx a its.toArray m dd sl n t (by omega) (by omega) nc (by simp[h0])) ⟨ho,?_⟩
   have en:(fC n.toNat xs).flatten=[]:=by
    rw[show n.toNat=0 by omega]
    rfl
   have:=q2 c _ (I.hok.fresh (bP s.heap.objs.size))
   rw[en] at this
   exact⟨.ref s.heap.objs.size,_,I.laid (fun b ob q=>cJ _ q) (bP _) (show Ach X.prog X.w _ _ _ (.tup []) from⟨eL _,[],.nil,A9m.new _ _⟩),rfl,this⟩
  ·have sz:(fC n.toNat its).flatten.length≤1000000:=by
    rw[IT,MZ,← hl]
    exact hz
   have l2:1000000≤sizeLine:=by rw[nL]; omega
   have ea:(NO (· ++ ·) #[] (fC n.toNat its.toArray))=(fC n.toNat its).flatten.toArray:=by
    apply FV.mp
    rw[RK]
    simp
   refine sX EZ ⟨_,ho,rfl⟩ Bq (Br _ _) (Ud a its.toArray m dd sl n t (by omega) (by omega) nc (by rw[ee]; simp[h0,hx]) ?_ (by rw[ea,eB]; omega)) ⟨ho,?_⟩
   ·rw[eB,← hl]
    have:(n.toNat:Int)=n:=by omega
    rw[← this,← Int.natCast_mul]
    omega
   ·rw[ea]
    refine⟨.ref s.heap.objs.size,_,I.laid (fun b ob q=>cJ _ q) (bP _) (show Ach X.prog X.w _ _ _ (.tup _) from⟨by rw[IT,MZ]; omega,_,RL r1 _,A9m.new _ _⟩),rfl,q2 c _ (I.hok.fresh (bP _))⟩
def oF:aA->aA->Option aA
 | .tuple xs,.int n=>if -1000≤n/\n<1000000/\xs.length*n.toNat≤1000000 then some (.tuple (fC n.toNat xs).flatten) else none
 | _,_=>none
theorem Uj {K:aH}:OpD K 0 (PM K) oF:=fun P H x y a b d Q hP ra rb e k=>by
 unfold oF at e
 split at e
 ·rename_i zs n
  obtain⟨hc,rfl⟩:=cU e
  obtain⟨p,us,rfl,hp,r1⟩:=Aax.mp ra
  have l1:=r1.length
  refine⟨p,us,n,rfl,Aaq.mp rb,SqT.of (Aay _ _ hp),hc.1,hc.2.1,by rw[l1]; exact hc.2.2,fun c=>?_,fun c q hq=>k.tup hP hq (SY r1 _)⟩
  rcases c with c | c
  ·subst c
   have:zs=[]:=by simpa using l1.symm
   subst this
   have en:(fC n.toNat ([]:List aA)).flatten=[]:=by
    apply zO
    rw[IT]
    simp
   rw[en] at k
   exact k.zero Ext.refl ra
  ·subst c
   refine k.zero Ext.refl ?_
   rw[show(1:Int).toNat=1 from rfl,List.replicate_one,dQ,FN,nV]
   exact ra
 ·cases e
theorem Ln (ha:DE X a fa)(hb:DE X b fb):DE X (.BinOp a .Mult b pos) (eOp oF fa fb):=rH Kv Uj ha hb
end
def CXR (base:aP)(P:bB)(w:aU):CXT:=fun outer H s E e s'=>∃ (ea:aB) (cls a0:aE) (H':Hp) (B:aP),e = .ref ea/\s'.os=s.os/\pK s'.gens/\Un (frs outer) [] H H' s.heap s'.heap/\HOk P w H' s'.heap /\
 base.StaysIn B/\(∀ b u,s.heap.get? b=some u->b∉frs outer -> ∃ u',B.get? b=some u')/\(∀ b o,H' b=some o -> ∃ u,B.get? b=some u)/\Heap.FlyingW B outer ea cls a0 s'.heap/\E cls none H'
def EC (K:aH)(c:aD)(H:Hp):XK:=fun cls _ H'=>eK K c=some cls/\Ext H H'
theorem CXR.imp{w:aU}{outer:List eR}{E E':XK}{e:aE}(h:CXR base P w outer H s E e s')(k : ∀ cls H',E cls none H'->E' cls none H'):CXR base P w outer H s E' e s':=by
 obtain⟨ea,cls,a0,H',B,h1,h2,h3,h4,h5,h6,h7,h8,h9,q⟩:=h
 exact⟨ea,cls,a0,H',B,h1,h2,h3,h4,h5,h6,h7,h8,h9,k _ _ q⟩
structure XOk (X:Cx)(H:Hp)(c:aD):Prop where
 pass:Passes (CXR X.base X.prog X.w) X (EC X.K c H)
 made : ∀ {cls:aE} {pins:List (aB×aW)} {σ:St} {H1:Hp} {s1:aG} {h':aP} {e:aB} {args:List aE},eK X.K c=some cls->Inv X pins σ H1 s1->Ext H H1->Heap.MadeExcOf s1.heap h' e cls args->X.xe (.ref e) { s1 with heap:=h' }
theorem Ach.here{w:aU}(x:Ach P w H h a o) : ∃ u,h.get? a=some u:=by
 cases o with
 | lst xs=>obtain⟨_,_,_,_,e⟩:=x; exact⟨_,e⟩
 | tup xs=>obtain⟨_,_,_,_,ob,e,_⟩:=x; exact⟨ob,e⟩
 | dK ep kvs=>obtain⟨_,_,_,_,o,_,e,_⟩:=x; exact⟨_,e⟩
 | dT ep kvs=>obtain⟨_,_,_,_,o,_,e,_⟩:=x; exact⟨_,e⟩
 | set S n=>obtain⟨o,_,_,_,e,_⟩:=x; exact⟨_,e⟩
 | ins C dx fs=>obtain⟨_,_,_,e,_⟩:=x; exact⟨_,e⟩
 | own y=>exact x
 | xd fs=>obtain⟨_,⟨_,_,_,e,_⟩,_⟩:=x; exact⟨_,e⟩
 | rng lo hi=>obtain⟨_,_,_,e⟩:=x; exact⟨_,e⟩
 | frz ob u=>obtain⟨e,_⟩:=x; exact⟨_,e⟩
 | tbl ps=>exact⟨_,show h.get? a=some _ from x⟩
 | met f y=>exact⟨_,show h.get? a=some _ from x⟩
 | ext φ=>obtain⟨_,e,_⟩:=x; exact e
theorem SK {B:aP}{b:aB}{u u':aW}(k:B.StaysIn h)(e:B.get? b=some u')(q:h.get? b=some u):u'=u:=dZ ((k b u' e).symm.trans q)
section
variable {w:aU}{K:aH}{scope:iK}{cd:aE}{outer:List eR}{E:XK}
theorem YU{σ:St}{h'' B:aP}{ea:aB}{a0:aE}
  (I:Inv (jQ (CXR base P w) P w K mg base N qual scope f cd A outer s H E) pins σ H' s') (hin : ∀ b u,s.heap.get? b=some u->b∉frs outer -> ∃ u',B.get? b=some u') (hT : ∀ b o,H' b=some o -> ∃ u,B.get? b=some u)
  (f1:B.StaysIn s'.heap) (f2:Heap.FlyingW B outer ea cls a0 h'') (up:s'.heap.UpToSlots h'') (hb:base.StaysIn B) (q:E cls none H'):CXR base P w outer H s E (.ref ea) { s' with heap:=h'' }:=by
 have f3:=f2.1
 have U:Un (frs outer) [] H H' s.heap s'.heap:=I.base
 have fr : ∀ b∈frs outer,∃ o,s'.heap.get? b=some o /\ ∀ vs,o.data ≠ .fields vs:=fun b m=>(I.funs.mem m).2
 refine⟨ea,cls,a0,H',B,rfl,I.os,I.bare,⟨fun b o e n hb he=>?_,fun b o e n hb he=>?_,U.free,fun b o e he=>?_,U.tups,U.frzs,U.tbls⟩,fun a o e=>?_,hb,hin,hT,f2,q⟩
 ·have z:=U.keep b o e n hb he
  obtain⟨u',z2⟩:=hin b o e hb
  exact f3 b o (SK f1 z2 z ▸ z2)
 ·obtain⟨sl,z⟩:=U.slot b o e n hb he
  obtain⟨o2,z2,nf⟩:=fr b hb
  obtain⟨sl2,z3⟩:=up b o2 z2 nf
  have:o2 = { o with slots:=sl }:=dZ (z2.symm.trans z)
  exact⟨sl2,by rw[z3,this]⟩
 ·by_cases hb:b∈frs outer
  ·obtain⟨o2,z2,nf⟩:=fr b hb
   obtain⟨sl2,z3⟩:=up b o2 z2 nf
   exact⟨_,z3⟩
  ·obtain⟨u',z2⟩:=hin b o e hb
   exact⟨u',f3 b u' z2⟩
 ·refine(I.hok a o e).stay (fun b u hb q=>?_) (fun _ q=>q) fun _ _ q=>q
  have ht : ∃ o2,H' b=some o2:=by
   rcases hb with rfl | hb
   ·exact⟨o,e⟩
   ·exact⟨_,hb⟩
  obtain⟨o2,ht⟩:=ht
  obtain⟨u',z2⟩:=hT b o2 ht
  exact f3 b u (SK f1 z2 q ▸ z2)
theorem XD{σ:St}(I:Inv X pins σ H1 s1){b:aB}{u:aW}(e:X.s₀.heap.get? b=some u)(n:b∉X.fs):b∉frs X.stack:=fun m=>by
 rcases cI.mp (I.stkSub b m) with z | z
 ·exact absurd (gG (cG e) I.ok.above) (by rw[z]; exact lB _)
 ·exact n z
theorem Um:Passes (CXR base P w) (jQ (CXR base P w) P w K mg base N qual scope f cd A outer s H E) E:=fun pins σ H1 s1 e s' I h=>by
 obtain⟨ea,cls,a0,H',B,rfl,os,bare,un,hok,hb,hB,hT,fl,q⟩:=h
 have I':=I.call' (ch:=[]) os un hok bare (fun _ z=>nomatch z)
 refine wpAny_leaves_onW (base:=B) (env:=iV qual scope s.heap.objs.size f cd) (outer:=outer) (L:=s.heap.objs.size) I.ok.frames rfl fl fun h'' fl'' up=>?_
 refine YU I' (fun b u e n=>?_) hT fl.1 fl'' up hb q
 obtain⟨o',z⟩:=I.base.there b u e (by show b∉[]; simp)
 exact hB b o' z (XD I e n)
theorem Tc{σ:St}{e:aB}{args:List aE}(I:Inv (jQ (CXR base P w) P w K mg base N qual scope f cd A outer s H E) pins σ H1 s1)(m:Heap.MadeExcOf s1.heap h' e cls args)(q:E cls none H1) :
  (jQ (CXR base P w) P w K mg base N qual scope f cd A outer s H E).xe (.ref e) { s1 with heap:=h' }:=by
 have I':=I.kept (t':=s1.toks) m.keeps
 have hin : ∀ env∈(iV qual scope s.heap.objs.size f cd::outer),∀ b,env.frame=some b->b∈frs (iV qual scope s.heap.objs.size f cd::outer):=fun env he b hb=>NG.mpr ⟨env,he,hb⟩
 have hl:s1.heap.FunFrames base (iV qual scope s.heap.objs.size f cd::outer):=I.stack
 refine wpAny_leaves_madeW (base:=PySem.W.hideAll s1.heap (frs (iV qual scope s.heap.objs.size f cd::outer))) (h:=s1.heap) (env:=iV qual scope s.heap.objs.size f cd) (outer:=outer) (L:=s.heap.objs.size) I.ok.frames rfl (fun b o q=>Be _ q) (PySem.W.funFrames_hide hl hin) m fun h'' t fl tup hnt up=>?_
 refine YU I' (fun b u e n=>?_) (fun b o e=>?_) (fun b o e=>m.keeps b o (Be _ e)) fl up (fun b o e=>?_) q
 ·obtain⟨o',z⟩:=I.base.there b u e (by show b∉[]; simp)
  exact⟨o',MS _ z (XD I e n)⟩
 ·have hn:b∉frs (iV qual scope s.heap.objs.size f cd::outer):=fun z=>by
   have:=I.stkFree b z
   rw[e] at this
   cases this
  obtain⟨u,hg⟩:=(I.hok b o e).here
  exact⟨u,MS _ hg hn⟩
 ·refine MS _ (I.bk b o e) fun z=>?_
  have:=(hl.mem z).1
  rw[e] at this
  cases this
theorem Ad(q : ∀ cls H',eK K c=some cls->Ext H H'->E cls none H'):XOk (jQ (CXR base P w) P w K mg base N qual scope f cd A outer s H E) H c:=
 ⟨fun pins σ H1 s1 e s' I h=>Um pins σ H1 s1 e s' I (h.imp fun cls H' z=>q cls H' z.1 z.2),fun hc I x m=>Tc I m (q _ _ hc x)⟩
end
abbrev FX:=Option aD->List aA->Option aA
def spX (K:aH)(n0:Nat)(F:FX):Sp:=fun vs H Q E=>∃ P ds d z,Hid P H/\Aan K (hid H P) ds vs/\F z ds=some d/\Res K P n0 d H Q /\ ∀ c,z=some c -> ∀ cls H',eK K c=some cls->Ext H H'->E cls none H'
def rsD (c:aD):aA:=.dict [(.none,.str c),(.none,.bool true)]
def isR:aA->Bool
 | .dict [(.none,.str _),(.none,.bool true)]=>true
 | _=>false
structure DefX (P:bB)(w:aU)(K:aH)(mg:aD->Option aE)(base:aP)(x:aD)(k:Nat)(ps:List aD)(sp:Sp):Prop where
 ex : ∃ f fd,FnOk P w K mg base (CXR base P w) k f fd ps sp/\mg x=some (.ref f)/\lQ K (.ref f)=true/\Binds K fd ps []
section
variable {w:aU}{K:aH}
theorem Fun.okX {CX:CXT}{fd:fM}{k:Nat}(F:Fun K x qual st f fd)(S:FnScope N ps (cA st))(len : ∀ vs H Q E,sp vs H Q E->vs.length=ps.length)
  (hb : ∀ (cdv:aE) (A:bS) (outer:List eR) (s:aG) (H:Hp) (vs:List V) (Q:VK) (E:XK),Room k (A.deeper (iV qual (cA st) s.heap.objs.size f cdv))->sp vs H Q E ->
   ∃ t,PSs (jQ CX P w K mg base N qual (cA st) f cdv A outer s H E) (jB st) t/\t { nx:=fun _ H'=>Q .non H',rt:=Q } (start N vs) H):FnOk P w K mg base CX (k+1) f fd ps sp:=by
 obtain⟨oc,od,kV,doc,pm,an,cdv,ct,osl,rfl,lk,hcd⟩:=F.ex
 exact PU lk hcd S len fun A outer s H vs Q E hr hsp=>hb cdv A outer s H vs Q E hr hsp
theorem Ly{np:Nat}{body:SF}{vs:List V}{Q:VK}(hP:Hid P0 H)(r:Aan K (hid H P0) ds vs)(ef:fnD np N.length body ds=some d)(k:Res K P0 n0 d H Q) :
  tS K H P0 n0 body { nx:=fun _ H'=>Q .non H',rt:=Q } (start N vs) H:=by
 unfold fnD at ef
 by_cases hl:ds.length=np
 case neg=>rw[if_neg hl] at ef; cases ef
 rw[if_pos hl] at ef
 rw[← hl] at ef
 have hlen:=r.length
 have eH:Hd P0 (fun _=>[])=P0:=by
  funext a
  simp[Hd]
 have S0:Sta K H P0 (hid H P0) (ds.map (fun d=>some (0,d))++fC (N.length - ds.length) none) (start N vs) H (fun _=>[]):=by
  refine⟨by simp[start,hlen],fun _=>.nil,fun i j a h=>by simp at h,fun i a h=>by simp at h,Ext.refl,hP,by rw[eH]; exact Ext.refl,fun i n' d' e=>?_⟩
  rw[eH]
  by_cases hi:i<ds.length
  ·rw[vV (by simpa using hi),fD] at e
   cases q:ds[i]? with
   | none=>rw[q] at e; simp at e
   | some d2=>
    rw[q] at e
    have e':0=n'/\d2=d':=by simpa using e
    obtain⟨rfl,rfl⟩:=e'
    obtain⟨v,h1,h2⟩:=r.get q
    refine⟨v,?_,rfl,h2⟩
    unfold start
    rw[vV (by rw[bX,hlen]; exact hi),fD,h1]
    rfl
  ·rw[FM (by simpa using hi)] at e
   have:=iW e
   simp at this
 cases eb:body (ds.map (fun d=>some (0,d))++fC (N.length - ds.length) none) with
 | none=>rw[eb] at ef; cases ef
 | some o=>
  rw[eb] at ef
  refine⟨_,_,_,o,S0,eb,?_⟩
  cases o with
  | rt d'=>
   cases ef
   exact fun v H' ⟨Fr,h1,h2,h3,h4⟩=>k v H' Fr h1 h2 h3 h4
  | nx ρ'=>
   cases ef
   intro σ' H' fp' S'
   refine k .non H' [] S'.ext .nil (fun a m=>by simp at m) ?_
   cases n0 with
   | zero=>exact⟨rfl,Ab8.mpr rfl⟩
   | succ n=>
    unfold Adw
    split
    ·exact .inl ⟨rfl,rfl,rfl⟩
    split
    ·exact .inl ⟨rfl,rfl,rfl⟩
    ·exact⟨rfl,Ab8.mpr rfl⟩
  | bk _=>cases ef
  | ct _=>cases ef
theorem pT{fd:fM}{k np:Nat}{body:Option aD->SF}(F:Fun K x qual st f fd)(S:FnScope N ps (cA st))(hnp:np=ps.length)(hN:ps.length≤N.length)
  (hb : ∀ (cdv:aE) (A:bS) (outer:List eR) (s:aG) (H:Hp) (E:XK) (P0:aB->Prop) (z:Option aD),Room k (A.deeper (iV qual (cA st) s.heap.objs.size f cdv))->(∀ c,z=some c->XOk (jQ (CXR base P w) P w K mg base N qual (cA st) f cdv A outer s H E) H c) ->
   DSs (jQ (CXR base P w) P w K mg base N qual (cA st) f cdv A outer s H E) H P0 n0 (jB st) (body z)) :
  FnOk P w K mg base (CXR base P w) (k+1) f fd ps (spX K n0 fun z=>fnD np N.length (body z)):=by
 refine F.okX S (fun vs H Q E h=>?_) (fun cdv A outer s H vs Q E hr h=>?_)
 ·obtain⟨P,ds,d,z,_,r,ef,_⟩:=h
  have ef:fnD np N.length (body z) ds=some d:=ef
  unfold fnD at ef
  by_cases hl:ds.length=np
  ·rw[r.length,hl,hnp]
  ·rw[if_neg hl] at ef; cases ef
 ·obtain⟨P0,ds,d,z,hP,r,ef,k,kx⟩:=h
  exact⟨_,hb cdv A outer s H E P0 z hr fun c hc=>Ad (kx c hc),Ly hP r ef k⟩
variable {k np:Nat}{F:FX}{fa:AF}{p:bQ}
theorem Mc{E:XK}{t:TA}(D:DefX X.prog X.w X.K X.mg X.base x k ps sp)(hr:Room k X.A)(hg:Gl X x)(hx:Passes (CXR X.base X.prog X.w) X E)(ha:PA X (e::es) t)(hdb:(x == ("__debug__" : aD))=false:=by decide)(he:bE (e::es) X.env=(false,bH e X.env)::bE es X.env:=by rfl)
  (hpl:(fK pos (bE es X.env)).any (·.1)=false:=by rfl):PE X (.Call (.Name x p) (e::es) [] pos) (GS sp [] E t):=by
 obtain⟨f,fd,F,hm,hk,hb⟩:=D.ex
 exact Am F hr hg hm hk hb .nil hx ha hdb he hpl
end
theorem Hc(h:isR d=true) : ∃ c,d=rsD c:=by
 unfold isR at h
 split at h
 ·exact⟨_,rfl⟩
 ·cases h
theorem Jc {k:aL}(e:PyData.none=kD k):False:=by cases k <;> cases e
theorem YQ {K:aH}{v:V} : ¬ Adw K B H n (rsD c) v F:=fun h=>by
 have hD : ¬ Abb K B (rsD c) v:=fun r=>by
  obtain⟨a,e,⟨kvs,_,r⟩ | ⟨ts,_,r⟩ | ⟨xs,h,r⟩ | r⟩:=Aca.mp r
  ·obtain⟨k',_,_,_,ek,_⟩:=Aa0.mp r
   cases k' <;> cases ek
  ·obtain⟨_,_,_,_,⟨z,_⟩,_⟩:=Aa8.mp (Adn.mp r).2
   cases z
  ·obtain⟨es,z,_⟩:=xQ r
   cases z
  ·rcases r with(⟨_,_,z,_⟩ | ⟨_,z,_⟩) | r
   ·cases z
   ·cases z
   ·obtain⟨_,c',C,dx,fs,z,hc,ha,r⟩:=Ajs.mp r
    obtain⟨f1,x1,r1,_,_,q1,_⟩:=Ad9.mp r
    simp[An9] at q1
 unfold Adw at h
 split at h
 ·rcases h with⟨z,_⟩ | ⟨kds,p,ts,z,_⟩ | ⟨⟨c',C,dx,a,w,q,kds,hds,kvs,hvs,ps,z,_⟩⟩ <;> cases z
 split at h
 ·rcases h with⟨z,_⟩ | ⟨ds,p,xs,Fs,z,_⟩ <;> cases z
 ·cases n with
  | zero=>exact hD h.2
  | succ n=>
   obtain⟨p,xs,Fs,e,hp,_,q⟩:=h
   obtain⟨_,xs⟩:=xs
   replace q:All3 _ _ xs Fs:=q
   cases q with
   | cons h _=>
    exact Jc h.1
section
variable {k np:Nat}{F:FX}{fa:AF}{p:bQ}
def oK (n:Nat)(m:Md)(f:EF):SF:=fun ρ=>(eV n m f ρ).bind fun d=>if isR d=true then some (.rt d) else some (.nx ρ)
theorem xM {f:EF}(n:Nat)(m:Md)(he:PE X e (tE X.K H0 P0 n m f))(hs:kG e none pos.line X.env=pure false:=by rfl):DS X H0 P0 n0 (.Expr e pos) (oK n m f):=PS.imp (kT he hs) fun D σ H gh=>by
 obtain⟨B0,ρ,fp,o,S,ef,k⟩:=gh
 obtain⟨d,e1,ef⟩:=XBs ef
 refine⟨B0,ρ,fp,d,S,e1,fun v H' t=>?_⟩
 by_cases h:isR d=true
 ·obtain⟨c,rfl⟩:=Hc h
  obtain⟨fp',_,r⟩:=t
  exact(YQ r).elim
 ·rw[if_neg h] at ef
  cases ef
  obtain⟨fp',S',_⟩:=t
  exact k _ _ fp' S'
end
def AI (K:aH)(c:aD):Prop:=∃ C,dP K cL c=some (some (.ref C))/\zE K C [.type "ValueError",.type "Exception",.type "BaseException",.type "object"] "ValueError.__new__" = true
theorem Jw {K:aH}{bmB:List aE}{newId:String}(X:K.In h)(q:zE K C bmB newId=true) :
  ∃ bm N nm q bs hdct sn sub ab col dd k0 k1 k2 k3 k5 mN,h.get? C=some (excClassObj nm q C N bs bm hdct sn sub ab col dd k0 k1 k2 k3 k5 newId)/\h.Ns N mN/\mN "__init__" = none/\OwnTail h bmB bm:=by
 unfold zE at q
 split at q
 ·rename_i dd cd sl ho
  split at q
  ·rename_i C' bm k0 k1 k2 k3 n k5 hm hs
   simp only[vZ,beq_iff_eq,Bool.not_eq_true'] at q
   obtain⟨⟨⟨⟨⟨rfl,rfl⟩,hdel⟩,ht⟩,hok⟩,hni⟩:=q
   obtain⟨nm,bs,mro,ns,qn,hd,sn,sub,ab,col,del⟩:=cd
   dsimp only at hm hdel hok hni
   subst hm hdel
   have hsl:sl = #[k0,k1,k2,k3,some (.builtin n),k5]:=by
    obtain⟨l⟩:=sl
    simp only at hs
    rw[hs]
   subst hsl
   exact⟨bm,ns,nm,qn,bs,hd,sn,sub,ab,col,dd,k0,k1,k2,k3,k5,_,X _ _ ho,.of_isNs (PySem.W.isNs_of_in X hok),PySem.W.nsMap_none_of_in X hok hni,PySem.W.tail_of_in X ht⟩
  ·cases q
 ·cases q
def AS (z:Option aD)(c:aD):SF:=fun _=>if z=some c then some (.rt (rsD c)) else none
section
variable {t:aD}{np tp:bQ}
theorem BP (hz : ∀ c,z=some c->XOk X H0 c)(V:AI X.K c)(hc:X.calm=true)(hg:Gl X c)(hd:(c == ("__debug__" : aD))=false:=by decide):DS X H0 P0 n0 (.Raise (some (.Call (.Name c np) [.Constant (.str t) j tp] [] cpos)) none pos) (AS z c):=by
 intro pins s σ H D I ⟨B0,ρ,fp,o,S,ef,k⟩
 obtain⟨he,_⟩:=cU ef
 obtain⟨C,hC,hx⟩:=V
 have hm:=nQ I.mod.kin I.mod.glob hC
 have hcv:eK X.K c=some (.ref C):=by unfold eK; rw[hC]; rfl
 obtain⟨tl,N,nm,q,bs,hdct,sn,sub,ab,col,dd,k0,k1,k2,k3,k5,mN,oC,oN,hni,T⟩:=Jw I.mod.kin hx
 refine wpAny_Raise_call_subT (C:=C) (nm:=nm) (q:=q) (N:=N) (bs:=bs) (bm:=tl) (hdct:=hdct) (sn:=sn) (sub:=sub) (ab:=ab) (col:=col) (dd:=dd) (k0:=k0) (k1:=k1) (k2:=k2) (k3:=k3) (k5:=k5)
  Xq (mN:=mN) (T.hasType Xq.hasBase) (I.ok.hd hc) rfl hni (BB I hg hm ⟨rfl,?_⟩ hd)
 refine Calls.evalArgs_plain ?_
 refine thn ((fV XU iR) cpos pins s σ H (fun vs H1=>vs.length=1/\H1=H) I ⟨rfl,rfl⟩) fun vs s2 gh=>?_
 obtain⟨vv,H1,I1,r,hl,e1⟩:=gh
 subst e1
 have hl2:vs.length=1:=by rw[← r.length]; exact hl
 exact⟨rfl,by show vs.length≤sizeLine; rw[hl2]; decide,I1.bk _ _ oC,oN.keeps I1.bk,T.keeps I1.bk,fun h' e m=>(hz c he).made hcv I1 S.ext m⟩
end
section
variable {k:Nat}{T:aD}{F:FX}{fa:AF}{p np hpos:bQ}{CT:aE}{b₀:bW}{suite:List bW}{V:aA->SF}{G:SF}{nm:Option aD}{W:TE->TS}
def CallAt (X:Cx)(ce:aS)(n:Nat)(F:FX)(fa:AF):Prop:=∀ {pins:List (aB×aW)} {σ:St} {H:Hp} {s:aG} {z:Option aD} {Q:VK} {P:aB->Prop} {ρ:List (Option aA)} {ds:List aA} {d:aA},Inv X pins σ H s->Hid P H->Akd X.K (hid H P) ρ σ->fa ρ=some ds->F z ds=some d->Res X.K P n d H Q ->
  (∀ H1 s1 v s',Inv X pins σ H1 s1->Ext H H1->CXR X.base X.prog X.w X.stack H1 s1 (fun cls _ H'=>(∃ c,z=some c/\eK X.K c=some cls)/\Ext H1 H') v s'->X.xe v s') ->
  aO (aQ X.prog X.w) X.A (bH ce X.env) (EP X pins σ Q) X.xe s
end
open PySem PySem.Spec PySem.Calls PyProof.Rows PySem.W PySem.Builtin PySem.Builtin.ObjectAttr PySem.Builtin.Getset_descriptor
section
variable {prog:bB}{w:aU}{g:Array qZ}{d:Drawn}{t:Nat}{os:OsState}{K:Frag}{x:aB}{ox:aW}{vs:Array aE}
structure XCls (K:Frag)(C:aB):Prop where
 ga:findIn K (.ref C) "__getattribute__" = some (some (.builtin "BaseException.__getattribute__"))
 gh:findIn K (.ref C) "__getattr__" = some none
 cl:findIn K (.ref C) "__class__" = some (some (.builtin "object.__class__"))
 mo:mroIn K C (.type "object")=some true
 mb:mroIn K C (.type "BaseException")=some true
 ic:hasDictIn K C=true
theorem Bg4.ty {M:Model}(e:Bg4 x cls h):Looks M h (typeOf (.ref x)) cls:=by
 obtain⟨o,h1,rfl,_⟩:=e
 exact(Looks.ld h1).andThen .now
end
theorem Mg {K:aH}{v:aE}(h:dP K cL c=some (some v)):eK K c=some v:=by unfold eK; rw[h]; rfl
def isFn (i:Nat)(c:aD)(ρ:List (Option aA)):Bool:=match aF i ρ with
 | some (.dict [(.none,.str c'),(.none,.bool false)])=>decide (c'=c)
 | _=>false
open PySem
structure Sub (P:bB)(w:aU)(it:aB)(own:List aB)(St:Nat->aP->Prop)(xs:Array aE):Prop where
 mem:it∈own
 obj : ∀ k h,St k h -> ∀ c∈own,∃ o,h.get? c=some o
 keep : ∀ k h h',St k h->(∀ c∈own,∀ o,h.get? c=some o->h'.get? c=some o)->St k h'
 item : ∀ (A:bS) (E:aE->aG->Prop) (s:aG) (Q:aE->aG->Prop) (k:Nat) (x:aE),St k s.heap->xs[k]?=some x ->
  (∀ h',St (k+1) h'->mP it s.heap h'->Q x { s with heap:=h' })->aO (aQ P w) A (Builtin.SmallTypes.nextOf (.ref it)) Q E s
 done : ∀ (A:bS) (E:aE->aG->Prop) (s:aG) (Q:aE->aG->Prop) (k:Nat),A.handled=none->St k s.heap->xs[k]?=none ->
  (∀ h' e,Heap.ExtBut it s.heap h'->(∃ o,h'.get? e=some o/\o.cls = .type "StopIteration")->E (.ref e) { s with heap:=h' })->aO (aQ P w) A (Builtin.SmallTypes.nextOf (.ref it)) Q E s
def SqB (b:Bool)(h:aP)(l:aB)(us:Array aE):Prop:=match b with
 | true=>h.IsList l us
 | false=>h.IsTuple l us
theorem SqB.keep {b:Bool}{us:Array aE}(q:SqB b h l us)(k : ∀ o,h.get? l=some o->h'.get? l=some o):SqB b h' l us:=by
 cases b with
 | true=>
  obtain⟨o,e,r⟩:=q
  exact⟨o,k o e,r⟩
 | false=>
  obtain⟨o,e,r⟩:=q
  exact⟨o,k o e,r⟩
def ItB (b:Bool)(j l:aB)(k:Nat)(h:aP):Prop:=match b with
 | true=>h.IsListIter j l k
 | false=>h.IsTupleIter j l k
theorem ItB.get {b:Bool}{j:aB}{k:Nat}(q:ItB b j l k h) : ∃ o,h.get? j=some o /\ ∀ v,o.data ≠ .cell v:=by
 cases b with
 | true=>
  obtain⟨o,e,_,d⟩:=q
  exact⟨o,e,fun v z=>by rw[d] at z; cases z⟩
 | false=>
  obtain⟨o,e,_,d⟩:=q
  exact⟨o,e,fun v z=>by rw[d] at z; cases z⟩
theorem ItB.keep {b:Bool}{j:aB}{k:Nat}(q:ItB b j l k h)(kp : ∀ o,h.get? j=some o->h'.get? j=some o):ItB b j l k h':=by
 cases b with
 | true=>
  obtain⟨o,e,r⟩:=q
  exact⟨o,kp o e,r⟩
 | false=>
  obtain⟨o,e,r⟩:=q
  exact⟨o,kp o e,r⟩
section
variable {σ:St}
theorem Inv.turnM {t':Nat}{fp:List aB}(I:Inv X pins σ H s)(hf : ∀ b∈fp,jR X pins H b)(k : ∀ b o,b∉fp->s.heap.get? b=some o->h'.get? b=some o):Inv X pins σ H { s with heap:=h',toks:=t' }:=by
 have out : ∀ b u,H b=some u->b∉fp:=fun b u e m=>by
  rw[(hf b m).1] at e
  cases e
 have loc:X.env.locals∉fp:=fun m=>(hf _ m).2.1 rfl
 refine I.step (fun b m=>⟨(hf b m).2.2.2.1,(hf b m).2.1,(hf b m).2.2.2.2.1,(hf b m).2.2.2.2.2⟩) (fun b o _ _ n e _=>k b o n e) (fun b o _ _ n e _=>⟨o.slots,k b o n e⟩) (fun _ _ _ _ n=>n)
  (fun b o n e=>⟨o,k b o n e⟩) (fun _ _ e=>e) (fun _ _ _ e=>e) (fun b ps e=>⟨#[],by rw[e]; simp⟩) (fun m hm=>?_) (fun b u e=>?_) I.bare
 ·obtain⟨o,es,ep,ho,r⟩:=hm
  exact⟨o,es,ep,k _ o loc ho,r⟩
 ·refine(I.hok b u e).stay (fun c v hc q=>k c v ?_ q) (fun _ q=>q) fun _ _ q=>q
  rcases hc with z | z
  ·rw[z]; exact out b u e
  ·exact out c _ z
end
theorem ZL{w:aU}{k:aL}(h:(eZ P w).is k u=true):RelV (kV k) u:=by
 rcases lK h with⟨i,tk,e1,e2⟩ | ⟨x,tk,e1,e2⟩
 ·rw[e1,e2]; exact⟨tk,rfl⟩
 ·rw[e1,e2]; exact⟨tk,rfl⟩
theorem LW : ∀ {kvs:List (aL×V)} {vs:List (aL×aE)} {i:Nat} {kv:aL×V},KV kvs vs->kvs[i]?=some kv -> ∃ u,vs[i]?=some u/\kv.1=u.1/\RelV kv.2 u.2
 | _,_,0,_,.cons h _,e=>by
  cases e
  exact⟨_,rfl,h.1,h.2⟩
 | _,_,i+1,_,.cons _ t,e=>by
  obtain⟨u,g⟩:=LW t (by simpa using e)
  exact⟨u,by simpa using g⟩
def tM (a:aB)(ep n:Nat):It:=
 ⟨fun i H=>∃ kvs kv,H a=some (.dK ep kvs)/\kvs.length=n/\kvs[i]?=some kv,fun i H x H'=>H'=H /\ ∀ kvs,H a=some (.dK ep kvs) -> ∃ kv,kvs[i]?=some kv/\x=kV kv.1,fun i H=>∃ kvs,H a=some (.dK ep kvs)/\kvs.length=n/\n≤i⟩
theorem Wg{w:aU}{K:aH}(a it:aB)(ep n:Nat):Turn P w K tg (tM a ep n) [it] it (fun i h=>h.IsKeyIter it a i n ep) where
 mem:=cN.mpr rfl
 obj:=fun i h ⟨o,e,_,d⟩ b hb=>by
  rw[cN.mp hb]
  exact⟨o,e,fun v z=>by rw[d] at z; cases z⟩
 keep:=fun i h h' st k=>st.at fun o e=>k it (cN.mpr rfl) o e
 item:=by
  intro X hP hw hK hc i pins s σ H E I hf st hg
  subst hP hw hK
  obtain⟨kvs,kv,ha,hn,hk⟩:=hg
  subst hn
  obtain⟨z,nm,vs,r,d⟩:=rM I.hok (.inl ha)
  have hl:kvs.length=vs.length:=r.length
  obtain⟨u,hu,r1,r2⟩:=LW r hk
  obtain⟨uk,uv⟩:=u
  rw[hl] at st
  refine wpAny_pyNext_dict_item st d hu fun key h' hkey st' sb=>?_
  have I1:Inv X pins σ H { s with heap:=h' }:=I.turnM (t':=s.toks) hf fun b o nb e=>sb.extBut b o (fun q=>nb (cN.mpr q)) e
  obtain⟨o,e,c,dd⟩:=id st'
  have r1':kv.1=uk:=r1
  refine⟨key,rfl,yY (s:={ s with heap:=h' }) e c dd (by decide) ⟨kV kv.1,H,I1,by rw[r1']; exact ZL hkey,⟨rfl,fun kvs' h2=>?_⟩,by rw[hl]; exact st',fun b hb=>(hf b hb).1⟩⟩
  rw[ha] at h2
  cases h2
  exact⟨kv,hk,rfl⟩
 done:=by
  intro X hP hw hK hc i pins s σ H E I hf st hg
  subst hP hw hK
  obtain⟨kvs,ha,hn,hi⟩:=hg
  subst hn
  obtain⟨z,nm,vs,r,d⟩:=rM I.hok (.inl ha)
  have hl:kvs.length=vs.length:=r.length
  rw[hl] at st
  exact wpAny_pyNext_dict_end (I.ok.hd hc) st d (by simp; omega) fun h' eb=>⟨rfl,I.turnM (t':=s.toks) hf fun b o nb e=>eb b o (fun q=>nb (cN.mpr q)) e⟩
 self:=fun _ _ _ _ _ st h=>wpAny_pyIter_keyiter st h
section
variable {l:aS}
def Df (tl:TE):TI:=fun σ H R=>tl σ H fun x H1=>∃ a ep kvs,x = .ref a/\H1 a=some (.dK ep kvs)/\R (tM a ep kvs.length) H1
theorem Ao(hl:PE X l tl):PI X tg l (Df tl):=by
 intro pins s σ H R I h
 refine thn (hl pins s σ H _ I h) fun v s1 gh=>?_
 obtain⟨x,H1,I1,r1,q1⟩:=gh
 obtain⟨a,ep,kvs,rfl,ha,q⟩:=q1
 cases r1
 obtain⟨z,nm,vs,r,d⟩:=rM I1.hok (.inl ha)
 have hn:=r.length
 refine wpAny_pyIter_dict nm d ?_
 refine⟨s1.heap.objs.size,[s1.heap.objs.size],_,_,H1,rfl,I1.kept fun b o e=>cJ _ e,Wg a _ ep kvs.length,⟨_,eM _ rfl,rfl,by rw[hn]; rfl⟩,fun b hb=>?_,q⟩
 rw[cN.mp hb]
 exact I1.fpOk (bP _) (I1.hok.fresh (bP _))
def iDK (f:EF):AF:=fun ρ=>(f ρ).bind fun d=>match d with
 | .dict kds=>if (plK kds&&kds.all fun kd=>cQ kd.1)=true then some (kds.map (·.1)) else none
 | _=>none
theorem IK {K:aH} : ∀ {kds:List (aA×aA)} {kvs:List (aL×V)} {i:Nat} {kd:aA×aA},Abj K H kds kvs->kds[i]?=some kd -> ∃ kv,kvs[i]?=some kv/\kd.1=kD kv.1/\Abb K H kd.2 kv.2
 | (k,d)::ds,kvs,0,kd,r,e=>by
  obtain⟨k',y,t,rfl,ek,h1,h2⟩:=Aa0.mp r
  cases e
  exact⟨(k',y),rfl,ek,h1⟩
 | (k,d)::ds,kvs,i+1,kd,r,e=>by
  obtain⟨k',y,t,rfl,ek,h1,h2⟩:=Aa0.mp r
  obtain⟨kv,g1,g2⟩:=IK h2 (by simpa using e)
  exact⟨kv,by simpa using g1,g2⟩
theorem Ag {K:aH}{k:aL}(h:cQ (kD k)=true):Abb K H (kD k) (kV k):=by
 cases k with
 | inl i=>exact Aaq.mpr rfl
 | inr x=>exact Aau.mpr ⟨rfl,h⟩
theorem Vf {K:aH}{kvs:List (aL×V)}(h:B a=some (.dK ep kvs))(r:Abj K B kds kvs)(hl:(kds.all fun kd=>cQ kd.1)=true):ItD K B (tM a ep kvs.length) (kds.map (·.1)):=fun i H2 x2=>by
 have h2:=x2 _ _ h
 refine⟨fun d hd=>?_,fun e=>⟨kvs,h2,rfl,by rw[← e,bX,r.length]; exact bP _⟩⟩
 rw[fD] at hd
 obtain⟨kd,hk,rfl⟩:=hX.mp hd
 obtain⟨kv,g1,g2,g3⟩:=IK r hk
 refine⟨⟨kvs,kv,h2,rfl,g1⟩,?_⟩
 rintro x H3 ⟨rfl,hx⟩
 obtain⟨kv',q1,rfl⟩:=hx kvs h2
 have:=dZ (q1.symm.trans g1)
 subst this
 refine⟨Ext.refl,fun P2 _ xb=>?_⟩
 rw[g2]
 have:=eE.mp hl kd (iW hk)
 exact Ag (by rw[← g2]; exact this)
theorem Ak {f:EF}(h:DE X e f):DI X tg e (iDK f):=PI.imp (Ao h) fun σ H R gh=>by
 obtain⟨P,ρ,ds,hP,rs,ef,k⟩:=gh
 obtain⟨d,e1,ef⟩:=XBs ef
 cases d with
 | dict kds=>
  obtain⟨hl,rfl⟩:=cU ef
  refine⟨P,ρ,_,hP,rs,e1,dA fun v H1 x1 r1=>?_⟩
  obtain⟨pk,hl⟩:=iC.mp hl
  obtain⟨a,kvs,rfl,hq,rr⟩:=(sF pk).mp r1
  exact⟨a,kvs.1,kvs.2,rfl,Aay _ _ hq,k _ H1 x1 (Vf hq rr hl)⟩
 | _=>cases ef
end
theorem XC:entryFor table "dict.update.loop" = some Builtin.«dict.update.loop»:=entryFor_of_tree (by kernel_rfl)
theorem DH:plainId "dict.update.loop" = true:=by decide +kernel
theorem Qz:EN (.type "list") "keys" = pure none:=by rw[typeLookup_type,Ba]; kernel_rfl
section
variable {prog:bB}{w:aU}
set_option maxHeartbeats 4000000 in
theorem So{xs:Array aE}{k:Nat}{sl:Array (Option aE)}{Q:Option aE->aG->Prop}(hx:s.heap.get? a=some { cls:=.type "list",dict:=none,data:=.seq xs k,slots:=sl })(hA:A.handled=none)
  (h : ∀ h' tk,(∀ b o,s.heap.get? b=some o->h'.get? b=some o)->Q none { s with heap:=h',toks:=tk }):aO (aQ prog w) A (getAttr? (.ref a) "keys") Q E s:=by
 obtain⟨hp,g,d,tk,os⟩:=s
 have hT : ∀ tk',(⟨hp,g,d,tk',os⟩:aG).TypeIs (.ref a) "list":=fun _=>⟨_,hx,rfl⟩
 have f1:=sub_AttributeError
 have f3:=Cs.lookup
 have f4:=Cs.bind (.ref a)
 have f5:=am_list_getattr_none
 unfold getAttr? getAttrBy? getAttrBy
 repeat (any_goals (first | assumption | exact hT _ | ((with_reducible show aO _ _ (call (Value.builtin "list.__getattribute__") _ _) _ _ _); refine sX Cs (hT _) am_entry_list_getattribute (F.args_list_getattribute_2 _ _) (meets_getattribute_miss_list a xs k sl _ _ Qz (by decide +kernel)) ⟨hx,hA,fun h' tk' e hx'=>?_⟩) | wp_step))
 obtain⟨t',u',he⟩:=hx'.there
 unfold getattributeRaised
 repeat (any_goals (first | assumption | wp_step))
 exact h _ _ hx'.keeps
def Aow (h:aP)(D:aB)(wr:List aB)(items:Array aE)(kvs:List (aL×aE)):Prop:=
 ∀ (j:Nat) v,items[j]?=some v -> ∃ b kv p,v = .ref b/\kvs[j]?=some p/\h.IsTuple b #[kv,p.2]/\(eZ prog w).is p.1 kv=true/\b≠D/\b∉wr
theorem Aow.keep{D:aB}{kvs:List (aL×aE)}(q:Aow (prog:=prog) (w:=w) h D wr items kvs)(k : ∀ b o,b≠D->b∉wr->h.get? b=some o->h'.get? b=some o):Aow (prog:=prog) (w:=w) h' D wr items kvs:=fun j v e=>by
 obtain⟨b,kv,p,rfl,e1,⟨o,e2,e3⟩,e4,e5,e6⟩:=q j v e
 exact⟨b,kv,p,rfl,e1,⟨o,k b o e5 e6 e2,e3⟩,e4,e5,e6⟩
theorem VQ : ∀ (more kvs:List (aL×aE)),(nM kvs more).length≤kvs.length+more.length
 | [],kvs=>bP _
 | p::r,kvs=>by
  have h1:=VQ r (sU kvs p.1 p.2)
  have h2:(sU kvs p.1 p.2).length≤kvs.length+1:=by
   unfold sU
   split <;> simp
  show(nM (sU kvs p.1 p.2) r).length≤_
  rw[eD]
  omega
theorem My{fp:List aB}{St:Nat->aG->Prop}
  (W:WalksS prog w A.in1 I fp wr G n (fun i v=>items[i]?=some v) St) (D:aB) (hDf:D∉fp) (kvs:List (aL×aE)) (hn:n≤sizeLine) (hkl:kvs.length=n) :
  ∀ (k i:Nat) (s:aG),n - i=k->i≤n->St i s->s.heap.DictOf (eZ prog w) D (nM [] (kvs.take i))->Aow (prog:=prog) (w:=w) s.heap D wr items kvs ->
   (∀ s',Moved (D::wr) G s s'->s'.heap.DictOf (eZ prog w) D (nM [] kvs)->R (.ok (.ret .none)) s') ->
   kX (aQ prog w) A (.builtin "dict.update.loop" ⟨[.ref D,.ref I,rawInt (i:Int),.none],[]⟩) R s:=by
 have hDw:D∉wr:=fun z=>hDf (W.sub _ z)
 have more : ∀ b∈wr,b∈D::wr:=fun b z=>bJ _ z
 intro k
 induction k with
 | zero=>
  intro i s hk hi hst hS hT hR
  obtain rfl:i=n:=by omega
  refine lL XC ?_
  rw[nZ DH _]
  refine aJ (W.done s _ _ hst fun s' hm=>?_)
  refine aJ (aT (aT (hR s' (hm.mono more) ?_)))
  obtain⟨o,es,ep,ho,r⟩:=hS
  rw[← hkl,zJ] at r
  exact⟨o,es,ep,hm.heap D o hDw ho,r⟩
 | succ k ih=>
  intro i s hk hi hst hS hT hR
  have hlt:i<n:=by omega
  refine lL XC ?_
  rw[nZ DH _]
  refine aJ (W.item i s _ _ hlt hst fun v s' hPi hst' hm=>?_)
  have hT':=hT.keep fun b o _ h2 e=>hm.heap b o h2 e
  obtain⟨b,kv,p,rfl,e1,tb,e4,e5,e6⟩:=hT' i v hPi
  have hS':s'.heap.DictOf (eZ prog w) D (nM [] (kvs.take i)):=by
   obtain⟨o,es,ep,ho,r⟩:=hS
   exact⟨o,es,ep,hm.heap D o hDw ho,r⟩
  have hstep:nM [] (kvs.take (i+1))=sU (nM [] (kvs.take i)) p.1 p.2:=by
   rw[vT,e1]
   simp[nM,NN]
  have hlen:(nM [] (kvs.take i)).length≤sizeLine:=by
   have:=VQ (kvs.take i) []
   rw[lC] at this
   simp at this
   omega
  refine aJ (hU (aJ (wpAny_tryCatch ?_)))
  unfold Builtin.Dict.pairItems
  refine aJ (EE tb.typeIs ?_)
  obtain⟨ob,g1,g2,nb,g3⟩:=tb
  refine aJ (MH g1 g3 (aT ?_))
  refine hU (wpAny_dictSet_pairs e4 hS' (fun h' d' sb=>?_) hlen)
  refine aT ⟨qR DH _,?_⟩
  refine ih (i+1) _ (by omega) hlt (W.frame _ s' _ _ hst' (qW _) fun c hc o e=>?_) (by rw[hstep]; exact d') (hT'.keep fun b o h1 _ e=>(sb.2 b h1).trans e) fun s'' hm'' S4=>?_
  ·exact(sb.2 c (fun z=>hDf (z ▸ hc))).trans e
  ·exact hR s'' (Moved.trans W.gtrans ((hm.mono more).then_heap (qW _) fun c o hc e=>(sb.2 c (fun z=>hc (z ▸ bD))).trans e) hm'') S4
theorem On{nl:Nat}{sl:Array (Option aE)}{kvs:List (aL×aE)}(hh:A.handled=none)(hl:s.heap.get? l=some { cls:=.type "list",dict:=none,data:=.seq items nl,slots:=sl })
  (hkl:kvs.length=items.size) (hz:items.size≤sizeLine) (hp : ∀ (j:Nat) v,items[j]?=some v -> ∃ b kv p,v = .ref b/\kvs[j]?=some p/\s.heap.IsTuple b #[kv,p.2]/\(eZ prog w).is p.1 kv=true)
  (h : ∀ h' tk,h'.DictOf (eZ prog w) s.heap.objs.size (nM [] kvs)->(∀ b o,s.heap.get? b=some o->h'.get? b=some o)->Q (.ref s.heap.objs.size) { s with heap:=h',toks:=tk }) :
  aO (aQ prog w) A (call (.type "dict") [.ref l]) Q E s:=by
 refine callType_codes (Q₁:=fun obj s₁=>obj = .ref s.heap.objs.size/\s₁ = { s with heap:=s.heap.push { cls:=.type "dict",data:=.dict #[] } }) F.kt_called_dict (F.kt_typeCall_dict_1 _) F.entry_dict_init (kt_code_dict_new _ ⟨rfl,rfl⟩) ?_
 rintro obj s₁ ⟨rfl,rfl⟩
 have dn:(s.heap.push { cls:=.type "dict",data:=.dict #[] }).DictOf (eZ prog w) s.heap.objs.size []:=Heap.DictOf.new s.heap
 have l1:(s.heap.push { cls:=.type "dict",data:=.dict #[] }).get? l=some { cls:=.type "list",dict:=none,data:=.seq items nl,slots:=sl }:=cJ _ hl
 refine⟨dn.typeIs,F.args_dict_init_2 _ _,?_⟩
 unfold Builtin.«dict.__init__»
 refine aJ ?_
 unfold Builtin.Dict.selfAndRest
 refine aJ (Ax dn.typeIs (aT ?_))
 show aO _ _ (Builtin.Dict.updateFrom "dict.__init__" s.heap.objs.size (.ref l) [] .none) _ _ _
 unfold Builtin.Dict.updateFrom
 refine aJ (EE (T:="list") ⟨_,l1,rfl⟩ ?_)
 rw[if_pos (by decide)]
 refine aJ (So l1 (by simp[hh]) fun h1 tk k1=>?_)
 show aO _ _ (rule _ >>= fun _=>qQ (.ref l) >>= _) _ _ _
 have l2:h1.get? l=some { cls:=.type "list",dict:=none,data:=.seq items nl,slots:=sl }:=k1 _ _ l1
 have L2:h1.IsList l items:=⟨_,l2,rfl,nl,rfl⟩
 refine aJ (wpAny_rule (aJ (EH L2 (aT ⟨qR DH _,?_⟩))))
 have lS:l<s.heap.objs.size:=cG hl
 have d1:h1.DictOf (eZ prog w) s.heap.objs.size []:=by
  obtain⟨o,es,ep,ho,r⟩:=dn
  exact⟨o,es,ep,k1 _ _ ho,r⟩
 have sD:s.heap.objs.size<h1.objs.size:=by
  obtain⟨o,es,ep,ho,r⟩:=d1
  exact cG ho
 have nI:l≠h1.objs.size:=dG (vQ lS sD)
 have nS:s.heap.objs.size∉[h1.objs.size,l]:=fun z=>by
  rcases cI.mp z with z | z
  ·exact absurd z (dG sD)
  ·exact absurd (cN.mp z) (qV lS)
 have old : ∀ b o,s.heap.get? b=some o->(h1.push { cls:=.type "list_iterator",data:=.fields #[.ref l,.int 0 0] }).get? b=some o:=fun b o e=>cJ _ (k1 _ _ (cJ _ e))
 refine My (w:=w) ((Walks.list (by simp[hh]) _ l nI items).toS) s.heap.objs.size nS kvs hz hkl (items.size - 0) 0 _ rfl (eL _) ⟨⟨_,eM _ rfl,rfl,rfl⟩,L2.push _⟩ (d1.push _) ?_ fun s' hm S'=>?_
 ·intro j v e
  obtain⟨b,kv,p,rfl,e1,⟨o,e2,e3⟩,e4⟩:=hp j v e
  have lb:b<s.heap.objs.size:=cG e2
  exact⟨b,kv,p,rfl,e1,⟨o,old b o e2,e3⟩,e4,dG lb,fun z=>absurd (cN.mp z) (dG (vQ lb sD))⟩
 ·obtain⟨h',g',d',tk',os'⟩:=s'
  obtain rfl:g'=s.gens:=hm.gens
  obtain rfl:d'=s.drawn:=hm.drawn
  obtain rfl:os'=s.os:=hm.os
  refine⟨rfl,h h' tk' S' fun b o e=>?_⟩
  have lb:b<s.heap.objs.size:=cG e
  refine hm.heap b o (fun z=>?_) (old b o e)
  rcases cI.mp z with z | z
  ·exact absurd z (dG lb)
  ·exact absurd (cN.mp z) (dG (vQ lb sD))
end
theorem Ht {α β:Type}{R R':α->β->Prop}(f : ∀ a b,R a b->R' a b) : ∀ {as:List α} {bs:List β},dB R as bs->dB R' as bs:=by
 intro as bs h
 induction h with
 | nil=>exact .nil
 | cons h _ ih=>exact .cons (f _ _ h) ih
abbrev GZ (K:aH)(H:Hp)(ys:List V)(ps:List (aL×V)):Prop:=dB (fun y (p:aL×V)=>∃ b,y=V.ref b/\SqT K H b [kV p.1,p.2]) ys ps
theorem Vj{σ:St}(I:Inv X pins σ H s) : ∀ {ys:List V} {ps:List (aL×V)} {its:List aE},GZ X.K H ys ps->Vals ys its ->
  ∃ kvs:List (aL×aE),KV ps kvs/\kvs.length=its.length /\ ∀ (j:Nat) v,its[j]?=some v -> ∃ b kv p,v = .ref b/\kvs[j]?=some p/\s.heap.IsTuple b #[kv,p.2]/\(eZ X.prog X.w).is p.1 kv=true:=by
 intro ys ps its hp
 induction hp generalizing its with
 | nil=>
  intro r
  cases r
  exact⟨[],.nil,rfl,fun j v e=>by simp at e⟩
 | @cons y p ys ps hq t ih=>
  intro r
  obtain⟨b,e,q⟩:=hq
  subst e
  cases r with
  | cons r rr=>
   cases r
   obtain⟨kvs,h1,h2,h3⟩:=ih rr
   obtain⟨us,rv,tb,_⟩:=I.tuple q
   cases rv with
   | cons ra rb=>
    cases rb with
    | cons rb rc=>
     cases rc
     refine⟨(p.1,_)::kvs,.cons ⟨rfl,rb⟩ h1,by simp[h2],fun j v e=>?_⟩
     cases j with
     | zero=>
      cases e
      exact⟨b,_,(p.1,_),rfl,rfl,tb,pO ra⟩
     | succ j=>exact h3 j v (by simpa using e)
theorem Qh (hc:X.calm=true):Adg X (.type "dict") (fun xs H Q=>∃ p ys ps,xs=[.ref p]/\SqL X.K H p ys/\GZ X.K H ys ps /\ ∀ q n,H q=none->Q (.ref q) (upd H q (.dK n (pQ [] ps)))):=by
 intro pins s σ H xs us Q I r h
 obtain⟨p,ys,ps,rfl,hp,hv,q⟩:=h
 obtain⟨u,rfl,ru⟩:=vals1 r
 cases ru
 obtain⟨its,rv,⟨o,n,ho,hc1,hc2,hc3⟩,hz⟩:=I.list hp
 obtain⟨kvs,h1,h2,h3⟩:=Vj I hv rv
 have e1:=rv.length
 obtain⟨c,dct,dat,sl⟩:=o
 simp only at hc1 hc2 hc3
 subst hc1 hc2 hc3
 refine On (I.ok.hd hc) ho (by rw[eB]; exact h2) (by rw[eB]; omega) (fun j v e=>h3 j v (by simpa using e)) fun h' tk dd hk=>?_
 obtain⟨m,da⟩:=dd.dictAt
 have lz:(pQ [] ps).length≤sizeLine:=by
  have l1:=XQ ps []
  have l2:=kJ h1
  simp at l1
  omega
 exact⟨.ref s.heap.objs.size,_,I.laid hk (bP _) (HB lz (beq_eq_false_iff_ne.mpr (lR (dG I.big))) (h1.merge .nil) da),rfl,q _ m I.fresh⟩
def rE:List aA->Option (List (aL×aA))
 | []=>some []
 | .tuple [k,d]::r=>(bR k).bind fun k=>(rE r).bind fun ps=>some ((k,d)::ps)
 | _::_=>none
def rT (ps:List (aL×aA))(kds:List (aA×aA)):List (aA×aA):=ps.foldl (fun acc p=>putD acc p.1 p.2) kds
def rU:List aA->Option aA
 | [.list ds]=>(rE ds).bind fun ps=>some (.dict (rT ps []))
 | _=>none
theorem Wm {K:aH} : ∀ {ps:List (aL×aA)} {qs:List (aL×V)},dB (fun(p:aL×aA) (q:aL×V)=>p.1=q.1/\Abb K H p.2 q.2) ps qs -> ∀ {kds:List (aA×aA)} {kvs:List (aL×V)},Abj K H kds kvs->Abj K H (rT ps kds) (pQ kvs qs):=by
 intro ps qs hp
 induction hp with
 | nil=>exact fun r=>r
 | @cons p q ps qs hq t ih=>
  intro kds kvs r
  have:=ih (Lj (k:=p.1) r hq.2)
  show Abj K H (rT _ (putD kds p.1 p.2)) (pQ (putK kvs q.1 q.2) _)
  rw[← hq.1]
  exact this
theorem Tu {K:aH} : ∀ {ds:List aA} {ps:List (aL×aA)} {ys:List V},rE ds=some ps->Aan K H ds ys -> ∃ qs:List (aL×V),dB (fun(y:V) (q:aL×V)=>∃ b,y=V.ref b/\H b=some (.tup [kV q.1,q.2])) ys qs/\dB (fun(p:aL×aA) (q:aL×V)=>p.1=q.1/\Abb K H p.2 q.2) ps qs:=by
 intro ds
 induction ds with
 | nil=>
  intro ps ys e r
  cases e
  rw[Aaj.mp r]
  exact⟨[],.nil,.nil⟩
 | cons z ds ih=>
  intro ps ys e r
  cases z with
  | tuple zs=>
   cases zs with
   | nil=>cases e
   | cons k zs=>
    cases zs with
    | nil=>cases e
    | cons d zs=>
     cases zs with
     | cons _ _=>cases e
     | nil=>
      obtain⟨key,e1,e⟩:=XBs (show((bR k).bind fun k=>(rE ds).bind fun ps=>some ((k,d)::ps))=some ps from e)
      obtain⟨ps',e2,e⟩:=XBs e
      cases e
      obtain⟨v,t,rfl,r1,r2⟩:=Aac.mp r
      obtain⟨qs,h1,h2⟩:=ih e2 r2
      obtain⟨b,xs,rfl,hb,rx⟩:=Aax.mp r1
      obtain⟨u1,t1,rfl,a1,a2⟩:=Aac.mp rx
      obtain⟨u2,rfl,a3⟩:=hE a2
      rw[qE e1 a1] at hb
      exact⟨(key,u2)::qs,.cons ⟨b,rfl,hb⟩ h1,.cons ⟨rfl,a3⟩ h2⟩
  | _=>cases e
theorem Pz {K:aH}:CallD K 1 (fun xs H Q=>∃ p ys ps,xs=[.ref p]/\SqL K H p ys/\GZ K H ys ps /\ ∀ q n,H q=none->Q (.ref q) (upd H q (.dK n (pQ [] ps)))) rU:=fun P H xs ds d Q hP r e k=>by
 unfold rU at e
 split at e
 ·obtain⟨ps,e1,e2⟩:=XBs e
  cases e2
  obtain⟨v,rfl,r'⟩:=hE r
  obtain⟨q,ys,rfl,hq,rr⟩:=Abf.mp r'
  obtain⟨qs,h1,h2⟩:=Tu e1 rr
  refine⟨q,ys,qs,rfl,Aay.sqL hq,?_,fun l n hn=>k.dic hP hn (Wm h2 (Abk.mpr rfl))⟩
  exact Ht (fun y p ⟨b,e,hb⟩=>⟨b,e,SqT.of (Aay _ _ hb)⟩) h1
 ·cases e
abbrev TE3:=List aA×aB×aE
theorem Ah6.ext(x:Ext H H'){k:List aA}{c:aB}(t:Ah6 H k c):Ah6 H' k c:=t.keep fun b xs e=>x _ _ e
theorem Ab5.length {K:aH} : ∀ {kds:List (aA×aA)} {ts:List (List aA×V)},Ab5 K H kds ts->ts.length=kds.length
 | [],ts,h=>by rw[Ab6.mp h]; rfl
 | (k,d)::r,ts,h=>by
  obtain⟨k',x,rr,rfl,_,_,h2⟩:=Aa8.mp h
  simp[Ab5.length h2]
section
variable {k:aS}{f g:EF}
theorem Os {prog:bB}{w:aU}(d:aB)(hd:(d == iU)=false) :
  MeetsIn prog w (Builtin.«dict.__len__» ⟨[.ref d],[]⟩) (fun _ R s=>∃ xs,s.heap.DictOfH (lJ prog w) d xs/\R (.ok (.ret (.int xs.length s.toks))) { s with toks:=s.toks+1 }):=
 .of_wp fun A R s gh=>by
  obtain⟨xs,hm,h⟩:=gh
  obtain⟨o,es,ep,ho,hc,hdat,hes,_,_⟩:=hm
  show aO _ _ (dictSize d >>= _) _ _ s
  unfold dictSize
  refine aJ (aJ (zB ho hdat (aT ?_)))
  refine aJ (wpAny_pendingCount_other hd (wpAny_ret_mkInt ?_))
  have:=size_of_entries hes
  rw[NC,this]
  exact h
theorem Dn {prog:bB}{w:aU}{d:aB}{xs:List TE3}(hd:(d == iU)=false)(hm:s.heap.DictOfH (lJ prog w) d xs)(hz:(xs.length:Int)<2 ^ 63)(h : ∀ t s',s' = { s with toks:=s.toks+1+1 }->Q (.int xs.length t) s') :
  aO (aQ prog w) A (call (.builtin "len") [.ref d]) Q E s:=by
 refine FT kind_len plain_len entry_len (args_len1 _) ?_
 unfold Builtin.«len»
 refine aJ (aT ?_)
 refine aJ (Az hm.typeIs F.slot_dict_len (call_meetsIn F.slot_dict_len hm.typeIs F.entry_dict_len (F.args_dict_len_1 _) (Os d hd) ⟨xs,hm,?_⟩))
 refine aJ (hU (aT ?_))
 refine aJ (wpAny_letGo ?_)
 rw[if_neg (by omega)]
 rw[if_neg (by omega)]
 exact aJ (wpAny_mkInt (aT ⟨_,rfl,h _ _ rfl⟩))
theorem VA:Adg X (.builtin "len") (fun xs H Q=>∃ a ep ts,xs=[V.ref a]/\H a=some (.dT ep ts)/\Q (.int ts.length) H):=by
 intro pins s σ H xs us Q I r h
 obtain⟨a,ep,ts,rfl,ha,q⟩:=h
 obtain⟨u,rfl,ru⟩:=vals1 r
 cases ru
 obtain⟨z,hd,ys,kt,dd⟩:=GT I.hok ha
 have e:=kJ kt
 refine Dn hd dd (by rw[← e]; rw[nL] at z; omega) fun t s' es=>?_
 subst es
 exact⟨.int ts.length,H,I.tok _,⟨t,by rw[e]⟩,q⟩
def DU:List aA->Option aA
 | [.dict ((.none,.none)::kds)]=>some (.int kds.length)
 | _=>none
theorem WI {K:aH}:CallD K 0 (fun xs H Q=>∃ a ep ts,xs=[V.ref a]/\H a=some (.dT ep ts)/\Q (.int ts.length) H) DU:=fun P H xs ds d Q hP r e k=>by
 unfold DU at e
 split at e
 ·cases e
  obtain⟨v,rfl,r'⟩:=hE r
  obtain⟨a,ts,rfl,ha,rr⟩:=(qF).mp r'
  exact⟨a,ts.1,ts.2,rfl,Aay _ _ ha,k.zero Ext.refl (Aaq.mpr (by rw[rr.length]))⟩
 ·cases e
end
def iQ (c:aD):aA->Option (aA×aA)
 | .dict [(.none,.str c'),(.none,.tuple [.str a,W]),(.none,.tuple [.str b,D])]=>if c'=c/\a = "wide" /\ b = "held" then some (W,D) else none
 | _=>none
theorem uV{p:aA×aA}(h:iQ c d=some p):d=bZ c p.1 p.2:=by
 unfold iQ at h
 split at h
 ·obtain⟨⟨rfl,rfl,rfl⟩,rfl⟩:=cU h
  rfl
 ·cases h
theorem xN (c:aD)(W D:aA):iQ c (bZ c W D)=some (W,D):=by simp[iQ,bZ]
def oE (c:aD)(d:aA):Option aA:=(iQ c d).map (·.1)
def gO (c:aD)(d:aA):Option aA:=(iQ c d).map (·.2)
structure InsC (K:aH)(c:aD):Prop where
 ex : ∃ C,eK K c=some (.ref C)/\Cls K C/\Akh K C "wide" /\ Akh K C "held"
theorem pU {K:aH}{C':aB}(h:eK K c=some (.ref C))(h':eK K c=some (.ref C')):C'=C:=by
 rw[h] at h'
 injection h' with h'
 injection h' with h'
 exact h'.symm
theorem UG (w q:V):jN ("wide" : aD) [(("wide" : aD),w),("held",q)]=some w:=by simp[jN]
theorem CC (w q:V):jN ("held" : aD) [(("wide" : aD),w),("held",q)]=some q:=by
 have:(("held" : aD) == ("wide" : aD))=false:=by decide +kernel
 simp[jN,this]
section
variable {o:aS}{f fo:EF}{fa:AF}{m:aD}{k:Nat}{F:FX}
theorem IA (T:InsC X.K c)(h:DE X e f)(hb:lN e "wide" X.env (bH e X.env)=bH e X.env:=by rfl):DE X (.Attribute e "wide" pos) (eUn (oE c) f):=
 PE.imp (uJ h hb) fun σ H Q gh=>by
  obtain⟨P,ρ,d,hP,rs,ef,k⟩:=gh
  obtain⟨d1,e1,ef⟩:=XBs ef
  refine⟨P,ρ,d1,hP,rs,e1,dA fun v H1 x1 r1=>?_⟩
  obtain⟨p,ep,rfl⟩:=hX.mp ef
  rw[uV ep] at r1
  obtain⟨C,dx,a,w,q,rfl,hc,ha,h1,h2⟩:=BS r1
  obtain⟨C',c1,c2,c3,c4⟩:=T.ex
  obtain rfl:=pU c1 hc
  exact⟨a,_,dx,_,w,rfl,Aay _ _ ha,c2,c3,UG w q,k.zero x1 h1⟩
theorem pY (T:InsC X.K c)(h:DE X e f)(hb:lN e "held" X.env (bH e X.env)=bH e X.env:=by rfl):DE X (.Attribute e "held" pos) (eUn (gO c) f):=
 PE.imp (uJ h hb) fun σ H Q gh=>by
  obtain⟨P,ρ,d,hP,rs,ef,k⟩:=gh
  obtain⟨d1,e1,ef⟩:=XBs ef
  refine⟨P,ρ,d1,hP,rs,e1,dA fun v H1 x1 r1=>?_⟩
  obtain⟨p,ep,rfl⟩:=hX.mp ef
  rw[uV ep] at r1
  obtain⟨C,dx,a,w,q,rfl,hc,ha,h1,h2⟩:=BS r1
  obtain⟨C',c1,c2,c3,c4⟩:=T.ex
  obtain rfl:=pU c1 hc
  exact⟨a,_,dx,_,q,rfl,Aay _ _ ha,c2,c4,CC w q,k.zero x1 h2⟩
theorem mQ(h:CallAt X ce n F fa):DF n X ce (aN (F none) fa):=fun pins s σ H Q I gh=>by
 obtain⟨P,ρ,d,hP,rs,ef,k⟩:=gh
 obtain⟨ds,e1,ef⟩:=XBs ef
 exact h I hP rs e1 ef k fun H1 s1 v s' I1 x1 hc=>by
  obtain⟨_,_,_,_,_,_,_,_,_,_,_,_,_,_,⟨c',z,_⟩,_⟩:=hc
  cases z
theorem wL(m:Md)(hz : ∀ c,z=some c->XOk X H0 c)(h:CallAt X ce n F fa):PE X ce (tE X.K H0 P0 n m (aN (F z) fa)):=by
 cases z with
 | none=>exact ev m (mQ h)
 | some c=>
  intro pins s σ H Q I hq
  obtain⟨B0,ρ0,fp,d0,S,_,_⟩:=id hq
  obtain⟨P,ρ,d,hP,rs,ef,k⟩:=GD m σ H Q hq
  obtain⟨ds,e1,ef⟩:=XBs ef
  exact h I hP rs e1 ef k fun H1 s1 v s' I1 x1 hc=>(hz c rfl).pass pins σ H1 s1 v s' I1 (hc.imp fun cls H' ⟨⟨c',z1,z2⟩,z3⟩=>by
   cases z1
   exact⟨z2,S.ext.trans (x1.trans z3)⟩)
theorem XY {fa':aB}{fd:fM}{σ:St}{us:List aE}{vs:List V}{P:aB->Prop}{Q:VK}(Fk:FnOk X.prog X.w X.K X.mg X.base (CXR X.base X.prog X.w) k fa' fd ps (spX X.K n F))(hr:Room k X.A)(hb:Binds X.K fd ps [])
  (I1:Inv X pins σ H1 s1) (r:Vals vs us) (hP:Hid P H1) (rd:Aan X.K (hid H1 P) ds vs) (ef:F z ds=some d) (k':Res X.K P n d H1 Q)
  (hx : ∀ v s',CXR X.base X.prog X.w X.stack H1 s1 (fun cls _ H'=>(∃ c,z=some c/\eK X.K c=some cls)/\Ext H1 H') v s'->X.xe v s'):aO (aQ X.prog X.w) X.A (call (.ref fa') us) (EP X pins σ Q) X.xe s1:=by
 have q:spX X.K n F vs H1 Q (fun cls _ H'=>(∃ c,z=some c/\eK X.K c=some cls)/\Ext H1 H'):=⟨P,ds,d,z,hP,rd,ef,k',fun c hc cls H' e2 x2=>⟨⟨c,hc,e2⟩,x2⟩⟩
 have hl:us.length=ps.length:=by rw[← r.length]; exact Fk.len _ _ _ _ q
 have hbs:tK s1 fd ⟨us,[]⟩ (ps.zip us):=by
  have:=hb s1 us I1.kIn (by simpa using hl)
  simpa using this
 refine EM (pC (Fk.run X.A X.stack s1 H1 ⟨us,[]⟩ us vs Q _ hr I1.env0 hbs r q) fun r s' hq=>?_)
 cases r with
 | error e=>exact hx e s' hq
 | ok fl=>
  cases fl with
  | ret u=>exact I1.after hq
  | next=>exact jX hq
  | brk=>exact jX hq
  | cont=>exact jX hq
structure MethX (P:bB)(w:aU)(K:aH)(mg:aD->Option aE)(base:aP)(c m:aD)(k:Nat)(ps:List aD)(sp:Sp):Prop where
 ex : ∃ C f fd,eK K c=some (.ref C)/\Cls K C/\Meth K C m f/\FnOk P w K mg base (CXR base P w) k f fd ps sp/\Binds K fd ps []
def fY (c:aD)(fo:EF)(fa:AF):AF:=fun ρ=>(fo ρ).bind fun d=>if (iQ c d).isSome=true then(fa ρ).bind fun ds=>some (d::ds) else none
theorem UM(h:fY c fo fa ρ=some ds) : ∃ W D ds',fo ρ=some (bZ c W D)/\fa ρ=some ds'/\ds=bZ c W D::ds':=by
 obtain⟨d,e1,h⟩:=XBs h
 by_cases q:(iQ c d).isSome=true
 ·rw[if_pos q] at h
  obtain⟨ds',e2,h⟩:=XBs h
  cases h
  obtain⟨p,ep⟩:=pE.mp q
  have:=uV ep
  subst this
  exact⟨_,_,ds',e1,e2,rfl⟩
 ·rw[if_neg q] at h; cases h
theorem pW {pl:Sem Bool}(M:MethX X.prog X.w X.K X.mg X.base c m k ps (spX X.K n F))(hr:Room k X.A)(ho:DE X o fo)(ha:DA X (e::es) fa)(hlk : ∀ w q:V,jN m [(("wide" : aD),w),("held",q)]=none:=by intro _ _; rfl)
  (hst:bE (e::es) X.env=(false,bH e X.env)::bE es X.env:=by rfl) (hpl:(fK pos (bE es X.env)).any (·.1)=false:=by rfl)
  (ht:bH (.Call (.Attribute o m apos) (e::es) [] pos) X.env=(do
   let ov ← bH o X.env
   vJ apos.atName
   let (f,first) ← nO [ov] (ET ov m pl)
   callWith pos f first (fK pos (bE (e::es) X.env)) (sY pos (sV [] X.env))):=by rfl):CallAt X (.Call (.Attribute o m apos) (e::es) [] pos) n F (fY c fo fa):=by
 intro pins σ H s z Q P ρ ds d I hP rs e1 ef k' hx
 obtain⟨C,f,fd,hc,cl,me,Fk,hb⟩:=M.ex
 obtain⟨W,D,ds',e0,e1',rfl⟩:=UM e1
 refine Bg (pl:=pl) (thn (ho pins s σ H (fun v H1=>Ext H H1/\Abb X.K (hid H1 P) (bZ c W D) v) I ⟨P,ρ,_,hP,rs,e0,dA fun v H1 x1 r1=>⟨x1,r1⟩⟩) fun u s1 ⟨x,H1,I1,rx,x1,r1⟩=>?_) ht
 obtain⟨C',dx,a,w,q,rfl,hc',ha',h1,h2⟩:=BS r1
 obtain rfl:=pU hc hc'
 obtain rfl:u=dD a:=rx
 refine KQ I1 (Aay _ _ ha') cl me (hlk w q) ?_
 refine MU (first:=[.ref a]) (h₀:=X.base) I.ok.mod.kin me.kp (thn (ha pos pins s1 σ H1 (fun vs H2=>Ext H1 H2/\Aan X.K (hid H2 P) ds' vs) I1 ⟨P,ρ,ds',hP.ext x1,rs.ext (cE x1),e1',fun vs H2 x2 r2=>⟨x2,r2⟩⟩) fun us s2 ⟨vs,H2,I2,r,x2,r2⟩=>⟨I2.kIn,?_⟩) hst hpl
 exact XY (us:=.ref a::us) (vs:=.ref a::vs) Fk hr hb I2 (.cons rfl r) (hP.ext (x1.trans x2)) (Aac.mpr ⟨_,_,rfl,r1.ext (cE x2),r2⟩) ef (k'.mono (x1.trans x2)) fun v s' hc=>hx H2 s2 v s' I2 (x1.trans x2) hc
theorem BZ {pl:Sem Bool}(M:MethX X.prog X.w X.K X.mg X.base c m k ps (spX X.K n F))(hr:Room k X.A)(ho:DE X o fo)(hlk : ∀ w q:V,jN m [(("wide" : aD),w),("held",q)]=none:=by intro _ _; rfl)
  (ht:bH (.Call (.Attribute o m apos) [] [] pos) X.env=(do
   let ov ← bH o X.env
   vJ apos.atName
   let (f,first) ← nO [ov] (ET ov m pl)
   callWith pos f first (fK pos (bE [] X.env)) (sY pos (sV [] X.env))):=by rfl):CallAt X (.Call (.Attribute o m apos) [] [] pos) n F (fY c fo aM):=by
 intro pins σ H s z Q P ρ ds d I hP rs e1 ef k' hx
 obtain⟨C,f,fd,hc,cl,me,Fk,hb⟩:=M.ex
 obtain⟨W,D,ds',e0,e1',rfl⟩:=UM e1
 cases e1'
 refine Bg (pl:=pl) (thn (ho pins s σ H (fun v H1=>Ext H H1/\Abb X.K (hid H1 P) (bZ c W D) v) I ⟨P,ρ,_,hP,rs,e0,dA fun v H1 x1 r1=>⟨x1,r1⟩⟩) fun u s1 ⟨x,H1,I1,rx,x1,r1⟩=>?_) ht
 obtain⟨C',dx,a,w,q,rfl,hc',ha',h1,h2⟩:=BS r1
 obtain rfl:=pU hc hc'
 obtain rfl:u=dD a:=rx
 refine KQ I1 (Aay _ _ ha') cl me (hlk w q) ?_
 exact PySem.W.callWith_K0 (first:=[.ref a]) I1.kIn me.kp (XY (us:=[.ref a]) (vs:=[.ref a]) Fk hr hb I1 (.cons rfl .nil) (hP.ext x1) (Aac.mpr ⟨_,_,rfl,r1,Aaj.mpr rfl⟩) ef (k'.mono x1) fun v s' hc=>hx H1 s1 v s' I1 x1 hc)
def MC (K:aH)(c:aD)(F:FX):Sp:=fun vs H Q E=>∃ x dx C v1 P d1 d z,vs=[.ref x,v1]/\H x=some (.ins C dx [])/\eK K c=some (.ref C)/\Hid P H/\Abb K (hid H P) d1 v1/\F z [d1]=some d /\
 (∀ H' Fr,(∀ b o,b≠x->H b=some o->H' b=some o)->Fr.Nodup->(∀ a∈Fr,(a=x \/ H a=none) /\ ∃ o,H' a=some o)->Adw K (hid H' (orL P Fr)) H' 9 d (.ref x) Fr->Q .non H') /\ ∀ c',z=some c' -> ∀ cls H',eK K c'=some cls->Ext H H'->E cls none H'
structure MakeX (P:bB)(w:aU)(K:aH)(mg:aD->Option aE)(base:aP)(c:aD)(k:Nat)(ps:List aD)(F:FX):Prop where
 ex : ∃ C f fd,eK K c=some (.ref C)/\Mk K C f/\FnOk P w K mg base (CXR base P w) k f fd ps (MC K c F)/\Binds K fd ps []/\mg c=some (.ref C)
 one : ∀ z ds d,F z ds=some d -> ∃ d1,ds=[d1]
theorem QK {p:bQ}(D:MakeX X.prog X.w X.K X.mg X.base c k ps F)(hr:Room (k+1) X.A)(hg:Gl X c)(ha:DA X (e::es) fa)(hdb:(c == ("__debug__" : aD))=false:=by decide)(he:bE (e::es) X.env=(false,bH e X.env)::bE es X.env:=by rfl)
  (hpl:(fK pos (bE es X.env)).any (·.1)=false:=by rfl):CallAt X (.Call (.Name c p) (e::es) [] pos) 9 F fa:=by
 intro pins σ H s z Q P ρ ds d I hP rs e1 ef k' hx
 obtain⟨C,f,fd,hc,M,Fk,hb,hm⟩:=D.ex
 obtain⟨d1,rfl⟩:=D.one _ _ _ ef
 refine MI (BB I hg hm ?_ hdb)
 refine MU (h₀:=X.base) I.ok.mod.kin M.kp (thn (ha pos pins s σ H (fun vs H1=>Ext H H1/\Aan X.K (hid H1 P) [d1] vs) I ⟨P,ρ,_,hP,rs,e1,fun vs H1 x1 r1=>⟨x1,r1⟩⟩) fun us s1 ⟨vs,H1,I1,r,x1,r1⟩=>⟨I1.kIn,?_⟩) he hpl
 obtain⟨v1,rfl,r3⟩:=hE r1
 obtain⟨u1,rfl,ru⟩:=vals1 r
 have fx:H1 (s1.heap.objs.size+1)=none:=I1.hok.fresh (qW _)
 have fdx:H1 s1.heap.objs.size=none:=I1.hok.fresh (bP _)
 have I2:=Inv.made (C:=C) I1
 have x2:Ext H1 (upd (upd H1 s1.heap.objs.size (.own (s1.heap.objs.size+1))) (s1.heap.objs.size+1) (.ins C s1.heap.objs.size [])):=fun b o q=>by
  rw[bK (hJ q fx),bK (hJ q fdx)]
  exact q
 have hq:MC X.K c F [.ref (s1.heap.objs.size+1),v1] (upd (upd H1 s1.heap.objs.size (.own (s1.heap.objs.size+1))) (s1.heap.objs.size+1) (.ins C s1.heap.objs.size [])) (fun v H2=>v = .non/\Q (.ref (s1.heap.objs.size+1)) H2)
   (fun cls _ H'=>(∃ c,z=some c/\eK X.K c=some cls)/\Ext (upd (upd H1 s1.heap.objs.size (.own (s1.heap.objs.size+1))) (s1.heap.objs.size+1) (.ins C s1.heap.objs.size [])) H'):=by
  refine⟨_,_,C,v1,P,d1,d,z,rfl,cP,hc,hP.ext (x1.trans x2),r3.ext (cE x2),ef,fun H' Fr kp nd fr ro=>⟨rfl,?_⟩,fun c' hc' cls H' e2 x3=>⟨⟨c',hc',e2⟩,x3⟩⟩
  refine k' _ H' Fr (fun b o q=>?_) nd (fun a m=>⟨?_,(fr a m).2⟩) ro
  ·exact kp b o (hJ (x1 _ _ q) fx) (x2 _ _ (x1 _ _ q))
  ·rcases(fr a m).1 with rfl | q
   ·exact x1.none fx
   ·exact x1.none (x2.none q)
 have r2:Vals [V.ref (s1.heap.objs.size+1),v1] [dD (s1.heap.objs.size+1),u1]:=.cons rfl (.cons ru .nil)
 have hl:[dD (s1.heap.objs.size+1),u1].length=ps.length:=by
  have e:=r2.length
  rw[Fk.len _ _ _ _ hq] at e
  exact e.symm
 have hbs:tK { s1 with heap:=(s1.heap.push nR).push (pD C s1.heap.objs.size) } fd ⟨[dD (s1.heap.objs.size+1),u1],[]⟩ (ps.zip [dD (s1.heap.objs.size+1),u1]):=by
  have:=hb { s1 with heap:=(s1.heap.push nR).push (pD C s1.heap.objs.size) } [dD (s1.heap.objs.size+1),u1] I2.kIn (by simpa using hl)
  simpa using this
 refine EM (Ti (f:=f) I1.kIn M.makes M.init (beq_iff_eq.mp M.fn) (pC (Fk.run _ X.stack _ _ ⟨[dD (s1.heap.objs.size+1),u1],[]⟩ [dD (s1.heap.objs.size+1),u1] _ _ _ (hr.make C [u1] [])
  (I2.env0.make C [u1] []) hbs r2 hq) fun r s' hq'=>?_))
 cases r with
 | error e=>exact hx _ _ e s' I2 (x1.trans x2) hq'
 | ok fl=>
  cases fl with
  | ret u=>
   obtain⟨v,H',I3,rv,ev,q3⟩:=I2.after hq'
   subst ev
   exact⟨rv,⟨V.ref (s1.heap.objs.size+1),H',I3,rfl,q3⟩⟩
  | next=>exact jX hq'
  | brk=>exact jX hq'
  | cont=>exact jX hq'
end
def leS (a b:aD):Prop:=a.cps.toList≤b.cps.toList
theorem Mz {a b:aD}(h1:leS a b)(h2:leS b c):leS a c:=NL h1 h2
theorem Uc {a b:aD}(h1:leS a b)(h2:leS b a):a=b:=by
 have e:=List.le_antisymm h1 h2
 obtain⟨x⟩:=a
 obtain⟨y⟩:=b
 have e':x.toList=y.toList:=e
 rw[FV.mp e']
theorem WN : ∀ {p:aD} {l:List aD},risingS p l=true->(∀ x∈l,leS p x)/\l.Pairwise leS
 | p,[],_=>⟨fun x m=>by simp at m,.nil⟩
 | p,x::r,h=>by
  have h':=h
  obtain⟨h1,h2⟩:=iC.mp h'
  rw[ltCps_eq] at h1
  have l1:leS p x:=by
   have:decide (x.cps.toList<p.cps.toList)=false:=by simpa using h1
   exact List.not_lt.mp (of_decide_eq_false this)
  obtain⟨a1,a2⟩:=WN h2
  refine⟨fun y m=>?_,.cons a1 a2⟩
  rcases cI.mp m with rfl | m
  ·exact l1
  ·exact Mz l1 (a1 y m)
theorem Qn : ∀ {l:List aD},sortedS l=true->l.Pairwise leS
 | [],_=>.nil
 | x::r,h=>by
  obtain⟨a1,a2⟩:=WN h
  exact .cons a1 a2
def cT (ss:List aD):List aD:=open Classical in if h : ∃ js:List aD,js.Perm ss/\js.Pairwise leS then h.choose else ss
theorem CF {ss js:List aD}(hp:js.Perm ss)(hr:js.Pairwise leS):js=cT ss:=by
 have h : ∃ js:List aD,js.Perm ss/\js.Pairwise leS:=⟨js,hp,hr⟩
 unfold cT
 rw[dif_pos h]
 exact Xy (fun a b _ _ h1 h2=>Uc h1 h2) hr h.choose_spec.2 (hp.trans h.choose_spec.1.symm)
section
theorem OY : ∀ {ns:List aD} {vs:List aE},Vals (ns.map V.str) vs->StrsAre vs ns
 | [],_,.nil=>.nil
 | n::ns,_,.cons ⟨t,e⟩ r=>by
  subst e
  exact .cons n t (OY r)
theorem PL : ∀ {ns:List aD} {vs:List aE},StrsAre vs ns->Vals (ns.map V.str) vs
 | _,_,.nil=>.nil
 | _,_,.cons n t h=>.cons ⟨t,rfl⟩ (PL h)
def rD:List aA->Option (List aD)
 | []=>some []
 | .str i::r=>(rD r).bind fun is=>some (i::is)
 | _::_=>none
theorem ZJ : ∀ {ds:List aA} {is:List aD},rD ds=some is->ds=is.map cF
 | [],is,e=>by cases e; rfl
 | .str i::ds,is,e=>by
  obtain⟨is',e1,e2⟩:=XBs (show((rD ds).bind fun is=>some (i::is))=some is from e)
  cases e2
  rw[ZJ e1]
  rfl
 | .none::_,_,e=>by cases e
 | .bool _::_,_,e=>by cases e
 | .int _::_,_,e=>by cases e
 | .list _::_,_,e=>by cases e
 | .tuple _::_,_,e=>by cases e
 | .dict _::_,_,e=>by cases e
theorem SG : ∀ ss:List aD,rD (ss.map cF)=some ss
 | []=>rfl
 | s::ss=>by
  show((rD (ss.map cF)).bind fun is=>some (s::is))=_
  rw[SG ss]
  rfl
theorem XE {K:aH} : ∀ {is:List aD} {ys:List V},Aan K H (is.map cF) ys->ys=is.map V.str /\ ∀ i∈is,cQ (.str i)=true
 | [],ys,r=>⟨Aaj.mp r,fun i m=>by simp at m⟩
 | i::is,ys,r=>by
  obtain⟨v,t,rfl,r1,r2⟩:=Aac.mp r
  obtain⟨e1,c1⟩:=Aau.mp r1
  obtain⟨e2,c2⟩:=XE r2
  refine⟨by rw[e1,e2]; rfl,fun j m=>?_⟩
  rcases cI.mp m with rfl | m
  ·exact c1
  ·exact c2 j m
theorem WD {K:aH} : ∀ {is:List aD},(∀ i∈is,cQ (.str i)=true)->Aan K H (is.map cF) (is.map V.str)
 | [],_=>Aaj.mpr rfl
 | i::is,h=>Aac.mpr ⟨_,_,rfl,Aau.mpr ⟨rfl,h i bD⟩,WD fun j m=>h j (bJ _ m)⟩
variable {k:Nat}{F:List aA->Option aA}{p:bQ}
end
open PySem PySem.SetTable
def lV (xs:Array Nat):Prop:=∀ a b u v:Nat,a<b->xs[a]?=some u->xs[b]?=some v->u<v
theorem IL(hr:lV xs) : ∀ fuel lo hi,hi≤xs.size->lo≤hi->hi - lo≤fuel->(∀ k<lo,∀ v,xs[k]?=some v->v<j)->(∀ k,hi≤k -> ∀ v,xs[k]?=some v->j≤v) ->
  below.go xs j fuel lo hi≤xs.size/\(∀ k<below.go xs j fuel lo hi,∀ v,xs[k]?=some v->v<j) /\ ∀ k,below.go xs j fuel lo hi≤k -> ∀ v,xs[k]?=some v->j≤v
 | 0,lo,hi,h1,h2,h3,hl,hh=>by
  have:lo=hi:=by omega
  subst this
  unfold below.go
  exact⟨h1,hl,hh⟩
 | fuel+1,lo,hi,h1,h2,h3,hl,hh=>by
  unfold below.go
  by_cases c:lo<hi
  ·rw[if_pos c]
   have hm:(lo+hi) / 2<xs.size:=by omega
   have em:=wB hm
   have eg:xs.getD ((lo+hi) / 2) j=xs[(lo+hi) / 2]:=by simp[Array.getD,hm]
   simp only[eg]
   by_cases d:xs[(lo+hi) / 2]<j
   ·rw[if_pos d]
    refine IL hr fuel _ _ h1 (by omega) (by omega) (fun k hk v ev=>?_) hh
    by_cases q:k=(lo+hi) / 2
    ·subst q; rw[em] at ev; cases ev; exact d
    ·have:=hr k ((lo+hi) / 2) v _ (by omega) ev em
     omega
   ·rw[if_neg d]
    refine IL hr fuel _ _ (by omega) (by omega) (by omega) hl (fun k hk v ev=>?_)
    by_cases q:k=(lo+hi) / 2
    ·subst q; rw[em] at ev; cases ev; omega
    ·have:=hr ((lo+hi) / 2) k _ v (by omega) em ev
     omega
  ·rw[if_neg c]
   have:lo=hi:=by omega
   subst this
   exact⟨h1,hl,hh⟩
theorem JZ(hr:lV xs)(j:Nat):below xs j≤xs.size/\(∀ k<below xs j,∀ v,xs[k]?=some v->v<j) /\ ∀ k,below xs j≤k -> ∀ v,xs[k]?=some v->j≤v:=
 IL hr xs.size 0 xs.size (bP _) (eL _) (by omega) (fun k hk=>absurd hk (by omega)) (fun k hk v ev=>by
  have:=(tL.mp ev).1
  omega)
theorem below_at(hr:lV xs)(h:xs[i]?=some j):below xs j=i:=by
 obtain⟨h1,h2,h3⟩:=JZ hr j
 rcases NA (below xs j) i with q | q | q
 ·have hi:=(tL.mp h).1
  have e:xs[below xs j]?=some (xs[below xs j]'(by omega)):=wB (by omega)
  have a:=h3 _ (bP _) _ e
  have b:=hr _ _ _ _ q e h
  omega
 ·exact q
 ·have:=h2 i q j h
  omega
theorem HM (j:Nat):has #[] j=false:=by simp[has]
theorem CK {t:fX}(hd:t.dummies = #[])(hr:lV t.place):t.slot j = .live i↔t.place[i]?=some j:=by
 unfold slot
 rw[hd,HM]
 dsimp only
 constructor
 ·intro h
  split at h
  ·rename_i c
   cases h
   simpa using c
  ·simp at h
 ·intro h
  rw[below_at hr h,h]
  simp
theorem Pa {t:fX}(hd:t.dummies = #[])(hr:lV t.place)(h : ∀ i:Nat,t.place[i]?≠some j):t.slot j = .empty:=by
 unfold slot
 rw[hd,HM]
 dsimp only
 rw[if_neg (by simpa using h _)]
 rfl
def adv (mask:Nat)(p:Probe):Probe:=if p.more > 0 then { p with j:=p.j+1,more:=p.more - 1 } else
 { p with j:=(leap mask p.i p.perturb).1,more:=runEnd mask (leap mask p.i p.perturb).1 - (leap mask p.i p.perturb).1,i:=(leap mask p.i p.perturb).1,perturb:=(leap mask p.i p.perturb).2 }
theorem KH (t:fX)(p:Probe):t.advance p=adv t.mask p:=by
 unfold advance adv
 rfl
def pN (mask:Nat)(p:Probe):Nat->Probe
 | 0=>p
 | n+1=>adv mask (pN mask p n)
theorem MA (mask:Nat)(p:Probe)(a:Nat) : ∀ b,pN mask (pN mask p a) b=pN mask p (a+b)
 | 0=>rfl
 | b+1=>by
  show adv mask (pN mask (pN mask p a) b)=adv mask (pN mask p (a+b))
  rw[MA mask p a b]
def blk (mask i per:Nat):Probe:={ j:=i,more:=runEnd mask i - i,i,perturb:=per,dummy:=none }
theorem Gh (mask i:Nat):runEnd mask i - i≤9:=by
 unfold runEnd
 split <;> omega
theorem HP (mask i per:Nat) : ∀ k,k≤runEnd mask i - i->pN mask (blk mask i per) k = { j:=i+k,more:=runEnd mask i - i - k,i,perturb:=per,dummy:=none }
 | 0,_=>rfl
 | k+1,h=>by
  show adv mask (pN mask (blk mask i per) k)=_
  rw[HP mask i per k (by omega)]
  unfold adv
  rw[if_pos (by show runEnd mask i - i - k > 0; omega)]
  rfl
theorem SW (mask i per:Nat):pN mask (blk mask i per) (runEnd mask i - i+1)=blk mask (leap mask i per).1 (leap mask i per).2:=by
 show adv mask (pN mask (blk mask i per) (runEnd mask i - i))=_
 rw[HP mask i per _ (bP _)]
 unfold adv
 rw[if_neg (by show ¬ (runEnd mask i - i - (runEnd mask i - i) > 0); omega)]
 rfl
def lp (mask:Nat)(s:Nat×Nat):Nat->Nat×Nat
 | 0=>s
 | m+1=>leap mask (lp mask s m).1 (lp mask s m).2
theorem RY (mask i per:Nat) : ∀ m,∃ n,n≤10*m/\pN mask (blk mask i per) n=blk mask (lp mask (i,per) m).1 (lp mask (i,per) m).2
 | 0=>⟨0,by omega,rfl⟩
 | m+1=>by
  obtain⟨n,hn,e⟩:=RY mask i per m
  have b:=Gh mask (lp mask (i,per) m).1
  refine⟨n+(runEnd mask (lp mask (i,per) m).1 - (lp mask (i,per) m).1+1),by omega,?_⟩
  rw[← MA,e,SW]
  rfl
theorem XZ (mask i per:Nat) : ∀ m,(lp mask (i,per) m).2=per / 32 ^ m
 | 0=>by simp[lp]
 | m+1=>by
  show(lp mask (i,per) m).2 / 32=_
  rw[XZ mask i per m,Nat.div_div_eq_div_mul,FG]
def lcg (mask:Nat)(i:Nat):Nat->Nat
 | 0=>i
 | m+1=>(lcg mask i m*5+1)%(mask+1)
def mX (mask:Nat):Prop:=mask=7 \/ mask=31 \/ mask=127 \/ mask=511 \/ mask=2047 \/ mask=8191
def gN (x:Nat):Nat->Nat
 | 0=>x
 | m+1=>gN x m*5+1
theorem YF (x a:Nat) : ∀ b,gN (gN x a) b=gN x (a+b)
 | 0=>rfl
 | b+1=>by
  show gN (gN x a) b*5+1=gN x (a+b)*5+1
  rw[YF x a b]
theorem YM (x:Nat) : ∀ m,4*gN x m+1=5 ^ m*(4*x+1)
 | 0=>by simp[gN]
 | m+1=>by
  show 4*(gN x m*5+1)+1=5 ^ (m+1)*(4*x+1)
  have:=YM x m
  rw[FG,MZ (5 ^ m) 5,FH,← this]
  omega
theorem SX : ∀ k,∃ q,5 ^ 2 ^ k=1+2 ^ k*(4*(2*q+1))
 | 0=>⟨0,rfl⟩
 | k+1=>by
  obtain⟨q,e⟩:=SX k
  refine⟨q+2 ^ k*((2*q+1)*(2*q+1)),?_⟩
  rw[FG 2 k,MZ (2 ^ k) 2,Nat.two_mul,Nat.pow_add,e]
  generalize 2 ^ k=M
  generalize hu:2*q+1=u
  have e2:2*(q+M*(u*u))+1=u+2*(M*(u*u)):=by omega
  rw[e2]
  have h1:M*(4*u)*(M*(4*u))=16*(M*(M*(u*u))):=by
   rw[show M*(4*u)=4*(M*u) by rw[Bw],MY]
   rw[show M*u*(M*u)=M*(M*(u*u)) by rw[MY,FH]]
  have h2:(M+M)*(4*(u+2*(M*(u*u))))=8*(M*u)+16*(M*(M*(u*u))):=by
   rw[← Nat.two_mul,FI 4,FI]
   rw[show 2*M*(4*u)=8*(M*u) by rw[MY]]
   rw[show 4*(2*(M*(u*u)))=8*(M*(u*u)) by omega,MY]
  rw[Nat.add_mul,FI,FI,h1,h2,show M*(4*u)=4*(M*u) by rw[Bw]]
  omega
theorem Lk (x k:Nat) : ∃ q,gN x (2 ^ k)=x+2 ^ k*(2*q+1):=by
 obtain⟨q,e⟩:=SX k
 have h:=YM x (2 ^ k)
 rw[e] at h
 refine⟨q*(4*x+1)+2*x,?_⟩
 have e2:2*(q*(4*x+1)+2*x)+1=(2*q+1)*(4*x+1):=by
  rw[Nat.add_mul,FI 2,← FH 2 q]
  omega
 rw[e2]
 generalize 2 ^ k=M at h
 generalize(2*q+1)=u at h
 rw[Nat.add_mul,Nat.one_mul,show M*(4*u)*(4*x+1)=4*(M*(u*(4*x+1))) by rw[Bw M 4 u,FH,FH]] at h
 omega
theorem XT : ∀ (k x e:Nat),∃ m,m<2 ^ k/\gN x m%2 ^ k=e%2 ^ k
 | 0,x,e=>⟨0,by simp,by simp[Nat.mod_one]⟩
 | k+1,x,e=>by
  obtain⟨m,hm,h⟩:=XT k x e
  have hM:=Nat.two_pow_pos k
  have sp : ∀ y:Nat,y%2 ^ (k+1)=y%2 ^ k+2 ^ k*(y / 2 ^ k%2):=fun y=>by rw[FG,Nat.mod_mul]
  have hp:2 ^ (k+1)=2 ^ k+2 ^ k:=by rw[FG]; omega
  by_cases c:gN x m / 2 ^ k%2=e / 2 ^ k%2
  ·exact⟨m,by omega,by rw[sp,sp,h,c]⟩
  ·obtain⟨q,hq⟩:=Lk (gN x m) k
   refine⟨m+2 ^ k,by omega,?_⟩
   rw[← YF,hq,sp,sp,Nat.add_mul_mod_self_left,Nat.add_mul_div_left _ _ hM,h]
   congr 2
   omega
theorem YH (mask i:Nat)(hi:i≤mask) : ∀ m,lcg mask i m=gN i m%(mask+1)
 | 0=>by
  show i=i%(mask+1)
  exact(Nat.mod_eq_of_lt (by omega)).symm
 | m+1=>by
  show(lcg mask i m*5+1)%(mask+1)=(gN i m*5+1)%(mask+1)
  rw[YH mask i hi m]
  simp[Nat.add_mod,Nat.mul_mod]
theorem uO {k:Nat}(hk:mask+1=2 ^ k){e:Nat}(hi:i≤mask)(he:e≤mask) : ∃ m,m≤mask/\lcg mask i m=e:=by
 obtain⟨m,h1,h2⟩:=XT k i e
 refine⟨m,by omega,?_⟩
 rw[YH mask i hi,hk,h2,← hk]
 exact Nat.mod_eq_of_lt (by omega)
theorem Kc(hm:mX mask){e:Nat}(hi:i≤mask)(he:e≤mask) : ∃ m,m≤mask/\lcg mask i m=e:=by
 rcases hm with rfl | rfl | rfl | rfl | rfl | rfl
 ·exact uO (k:=3) rfl hi he
 ·exact uO (k:=5) rfl hi he
 ·exact uO (k:=7) rfl hi he
 ·exact uO (k:=9) rfl hi he
 ·exact uO (k:=11) rfl hi he
 ·exact uO (k:=13) rfl hi he
theorem QO (h:Int):bits h<2 ^ 64:=by
 unfold bits
 have:=Int.emod_lt_of_pos h (show(0:Int)<2 ^ 64 by decide)
 have:=Int.emod_nonneg h (show(2 ^ 64:Int)≠0 by decide)
 omega
theorem YS(hp:per<2 ^ 64) : ∀ m,(lp mask (i,per) (13+m)).1=lcg mask (lp mask (i,per) 13).1 m
 | 0=>rfl
 | m+1=>by
  show((lp mask (i,per) (13+m)).1*5+1+(lp mask (i,per) (13+m)).2 / 32)%(mask+1)=(lcg mask (lp mask (i,per) 13).1 m*5+1)%(mask+1)
  rw[YS hp m,XZ]
  have:per / 32 ^ (13+m)=0:=by
   apply Nat.div_eq_of_lt
   refine gG hp ?_
   rw[Nat.pow_add]
   calc 2 ^ 64≤32 ^ 13:=by decide
    _≤32 ^ 13*32 ^ m:=Nat.le_mul_of_pos_right _ (Nat.pow_pos (by decide))
  rw[this]
theorem Ef : ∀ m,0<m->(lp mask (i,per) m).1≤mask
 | 0,h=>absurd h (by omega)
 | m+1,_=>by
  show((lp mask (i,per) m).1*5+1+(lp mask (i,per) m).2 / 32)%(mask+1)≤mask
  have:=FJ ((lp mask (i,per) m).1*5+1+(lp mask (i,per) m).2 / 32) (show 0<mask+1 by omega)
  omega
theorem SV(hm:mX mask){e:Nat}(hp:per<2 ^ 64)(he:e≤mask) : ∃ m,m≤13+mask/\(lp mask (i,per) m).1=e:=by
 obtain⟨m,h1,h2⟩:=Kc hm (Ef 13 (by omega)) he
 exact⟨13+m,by omega,by rw[YS hp]; exact h2⟩
def rd (mask:Nat)(h:Int)(n:Nat):Probe:=pN mask (blk mask (bits h%(mask+1)) (bits h)) n
theorem SQ(hm:mX mask)(h:Int){e:Nat}(he:e≤mask) : ∃ n,n<10*turns mask/\(rd mask h n).j=e:=by
 obtain⟨m,h1,h2⟩:=SV hm (QO h) he
 obtain⟨n,h3,h4⟩:=RY mask (bits h%(mask+1)) (bits h) m
 refine⟨n,by unfold turns; omega,?_⟩
 unfold rd
 rw[h4]
 exact h2
theorem Ws (mask:Nat)(p:Probe):(adv mask p).dummy=p.dummy:=by
 unfold adv
 split <;> rfl
theorem TF (mask:Nat)(h:Int) : ∀ n,(rd mask h n).dummy=none
 | 0=>rfl
 | n+1=>by
  show(adv mask (rd mask h n)).dummy=none
  rw[Ws]
  exact TF mask h n
def iX (t:fX)(j:Nat):Prop:=∃ i:Nat,t.place[i]?=some j
structure Good (t:fX)(es:Array (Int×aE)):Prop where
 small:mX t.mask
 nod:t.dummies = #[]
 ris:lV t.place
 len:t.place.size=es.size
 inb : ∀ i j:Nat,t.place[i]?=some j->j≤t.mask
 room:es.size≤t.mask
 reach : ∀ (i j:Nat) (e:Int×aE),t.place[i]?=some j->es[i]?=some e -> ∃ n,(rd t.mask e.1 n).j=j /\ ∀ m<n,iX t (rd t.mask e.1 m).j
theorem rank(hr:lV xs) : ∀ e,(∀ v≤e,∃ i:Nat,xs[i]?=some v) -> ∃ i:Nat,xs[i]?=some e/\e≤i
 | 0,h=>by
  obtain⟨i,q⟩:=h 0 (bP _)
  exact⟨i,q,eL _⟩
 | e+1,h=>by
  obtain⟨i,q,hi⟩:=rank hr e fun v hv=>h v (by omega)
  obtain⟨k,qk⟩:=h (e+1) (bP _)
  refine⟨k,qk,?_⟩
  rcases NA i k with c | c | c
  ·omega
  ·subst c; rw[q] at qk; simp at qk
  ·have:=hr k i _ _ c qk q
   omega
theorem Good.empty {t:fX}{es:Array (Int×aE)}(G:Good t es) : ∃ e,e≤t.mask /\ ¬ iX t e:=by
 apply NV
 intro hn
 have hall : ∀ v≤t.mask,∃ i:Nat,t.place[i]?=some v:=fun v hv=>NV fun q=>hn ⟨v,hv,q⟩
 obtain⟨i,q,hi⟩:=rank G.ris t.mask hall
 have h1:=(tL.mp q).1
 have h2:=G.len
 have h3:=G.room
 omega
theorem RW {t:fX}(h : ¬ iX t j) : ∀ i:Nat,t.place[i]?≠some j:=fun i e=>h ⟨i,e⟩
section
variable {t:fX}{hashAt:Nat->Int}{h:Int}
theorem QX (hd:t.dummies = #[])(hr:lV t.place) : ∀ k n fuel,k<fuel->(∀ m,n≤m->m<n+k -> ∃ i:Nat,t.place[i]?=some (rd t.mask h m).j/\hashAt i≠h) -> ¬ iX t (rd t.mask h (n+k)).j ->
  probe.go t hashAt h fuel (rd t.mask h n)=some (.empty (rd t.mask h (n+k)).j none)
 | _,_,0,hf,_,_=>absurd hf (by omega)
 | 0,n,fuel+1,_,_,he=>by
  rw[NC] at he ⊢
  unfold probe.go
  rw[Pa hd hr (RW he),TF]
  rfl
 | k+1,n,fuel+1,hf,hm,he=>by
  obtain⟨i,e,hne⟩:=hm n (bP _) (by omega)
  unfold probe.go
  rw[(CK hd hr).mpr e]
  dsimp only
  rw[if_neg (by simpa using hne),KH]
  have:=QX hd hr k (n+1) fuel (by omega) (fun m a b=>hm m (by omega) (by omega)) (by rw[show n+1+k=n+(k+1) by omega]; exact he)
  rw[show n+1+k=n+(k+1) by omega] at this
  exact this
theorem QQ (hd:t.dummies = #[])(hr:lV t.place){i0:Nat}(h0:hashAt i0=h) : ∀ k n fuel,k<fuel->(∀ m,n≤m->m<n+k -> ∃ i:Nat,t.place[i]?=some (rd t.mask h m).j/\hashAt i≠h)->t.place[i0]?=some (rd t.mask h (n+k)).j ->
  probe.go t hashAt h fuel (rd t.mask h n)=some (.candidate (rd t.mask h (n+k)).j i0 (rd t.mask h (n+k+1)))
 | _,_,0,hf,_,_=>absurd hf (by omega)
 | 0,n,fuel+1,_,_,he=>by
  rw[NC] at he ⊢
  unfold probe.go
  rw[(CK hd hr).mpr he]
  dsimp only
  rw[if_pos (by simpa using h0),KH]
  rfl
 | k+1,n,fuel+1,hf,hm,he=>by
  obtain⟨i,e,hne⟩:=hm n (bP _) (by omega)
  unfold probe.go
  rw[(CK hd hr).mpr e]
  dsimp only
  rw[if_neg (by simpa using hne),KH]
  have:=QQ hd hr h0 k (n+1) fuel (by omega) (fun m a b=>hm m (by omega) (by omega)) (by rw[show n+1+k=n+(k+1) by omega]; exact he)
  rw[show n+1+k=n+(k+1) by omega] at this
  exact this
theorem WO (S:Nat->Prop) : ∀ d n,S (n+d) -> ∃ k,k≤d/\(∀ m,n≤m->m<n+k -> ¬ S m)/\S (n+k)
 | 0,n,h=>⟨0,bP _,fun m a b=>absurd b (by omega),h⟩
 | d+1,n,h=>by
  by_cases c:S n
  ·exact⟨0,eL _,fun m a b=>absurd b (by omega),c⟩
  ·obtain⟨k,h1,h2,h3⟩:=WO S d (n+1) (by rw[show n+1+d=n+(d+1) by omega]; exact h)
   refine⟨k+1,by omega,fun m a b=>?_,by rw[show n+(k+1)=n+1+k by omega]; exact h3⟩
   by_cases q:m=n
   ·subst q; exact c
   ·exact h2 m (by omega) (by omega)
theorem Good.next {es:Array (Int×aE)}(G:Good t es)(h:Int)(hv : ∀ m<n,iX t (rd t.mask h m).j) : ∃ k,n+k<10*turns t.mask/\(∀ m,n≤m->m<n+k -> ∃ i:Nat,t.place[i]?=some (rd t.mask h m).j/\hashAt i≠h) /\
  ((¬ iX t (rd t.mask h (n+k)).j/\t.probe hashAt h (rd t.mask h n)=some (.empty (rd t.mask h (n+k)).j none)) \/
   ∃ i:Nat,t.place[i]?=some (rd t.mask h (n+k)).j/\hashAt i=h/\t.probe hashAt h (rd t.mask h n)=some (.candidate (rd t.mask h (n+k)).j i (rd t.mask h (n+k+1)))):=by
 obtain⟨e,he,hne⟩:=G.empty
 obtain⟨N,hN,eN⟩:=SQ G.small h he
 have hnN:n≤N:=by
  rcases zI N n with c | c
  ·exact absurd (eN ▸ hv N c) hne
  ·exact c
 obtain⟨d,rfl⟩:=Nat.exists_eq_add_of_le hnN
 obtain⟨k,hk,h1,h2⟩:=WO (fun m=>¬ iX t (rd t.mask h m).j \/ ∃ i:Nat,t.place[i]?=some (rd t.mask h m).j/\hashAt i=h) d n (.inl (by rw[eN]; exact hne))
 have hm : ∀ m,n≤m->m<n+k -> ∃ i:Nat,t.place[i]?=some (rd t.mask h m).j/\hashAt i≠h:=fun m a b=>by
  have q:=h1 m a b
  obtain⟨i,ei⟩:=NV fun z=>q (.inl z)
  exact⟨i,ei,fun z=>q (.inr ⟨i,ei,z⟩)⟩
 refine⟨k,by omega,hm,?_⟩
 rcases h2 with h2 | ⟨i,ei,hi⟩
 ·exact .inl ⟨h2,QX G.nod G.ris k n _ (by omega) hm h2⟩
 ·exact .inr ⟨i,ei,hi,QQ G.nod G.ris hi k n _ (by omega) hm ei⟩
end
theorem PH (mask:Nat)(h:Int) : ∀ n,(rd mask h n).j+(rd mask h n).more≤mask
 | 0=>by
  show bits h%(mask+1)+(runEnd mask (bits h%(mask+1)) - bits h%(mask+1))≤mask
  have:=FJ (bits h) (show 0<mask+1 by omega)
  unfold runEnd
  split <;> omega
 | n+1=>by
  have ih:=PH mask h n
  show(adv mask (rd mask h n)).j+(adv mask (rd mask h n)).more≤mask
  unfold adv
  split
  ·show(rd mask h n).j+1+((rd mask h n).more - 1)≤mask
   omega
  ·show(leap mask (rd mask h n).i (rd mask h n).perturb).1+(runEnd mask (leap mask (rd mask h n).i (rd mask h n).perturb).1 - (leap mask (rd mask h n).i (rd mask h n).perturb).1)≤mask
   have:(leap mask (rd mask h n).i (rd mask h n).perturb).1<mask+1:=FJ _ (by omega)
   unfold runEnd
   split <;> omega
theorem Eg (mask:Nat)(h:Int)(n:Nat):(rd mask h n).j≤mask:=by
 have:=PH mask h n
 omega
theorem uY {α:Type}(xs:Array α){p:Nat}(hp:p≤xs.size)(x:α)(k:Nat):(insertAt xs p x)[k]?=if k<p then xs[k]? else if k=p then some x else xs[k - 1]?:=by
 rw[← rB,toList_insertAt]
 by_cases c:k<p
 ·rw[if_pos c,vV (by rw[lC,gV]; omega),Xv c,rB]
 ·rw[if_neg c,FM (by rw[lC,gV]; omega),lC,gV,Nat.min_eq_left hp]
  by_cases d:k=p
  ·subst d; simp
  ·rw[if_neg d]
   obtain⟨r,rfl⟩ : ∃ r,k=p+1+r:=⟨k - p - 1,by omega⟩
   rw[show p+1+r - p=r+1 by omega,qX,List.getElem?_drop,rB,show p+1+r - 1=p+r by omega]
theorem Lr(hr:lV xs)(hj : ∀ i:Nat,xs[i]?≠some j):lV (insertAt xs (below xs j) j):=by
 obtain⟨h1,h2,h3⟩:=JZ hr j
 intro a b u v hab ea eb
 rw[uY xs h1] at ea eb
 have lt_of : ∀ k w,below xs j≤k->xs[k]?=some w->j<w:=fun k w hk e=>by
  have a:=h3 k hk w e
  rcases zI j w with c | c
  ·exact c
  ·have:w=j:=by omega
   subst this
   exact absurd e (hj k)
 split at ea
 ·split at eb
  ·exact hr a b u v hab ea eb
  ·split at eb
   ·cases eb; exact h2 a (by omega) u ea
   ·exact vQ (h2 a (by omega) u ea) (lt_of _ v (by omega) eb)
 ·split at ea
  ·cases ea
   rw[if_neg (by omega),if_neg (by omega)] at eb
   exact lt_of _ v (by omega) eb
  ·rw[if_neg (by omega),if_neg (by omega)] at eb
   exact hr (a - 1) (b - 1) u v (by omega) ea eb
theorem BX {α:Type}(xs:Array α)(p:Nat)(x:α):(insertAt xs p x).size=xs.size+1:=by
 rw[← gV,(insertAt_perm xs p x).length_eq,gV,Array.size_push]
theorem Gu {t:fX}(hd:t.dummies = #[])(j:Nat):t.put j=({ t with place:=insertAt t.place (below t.place j) j },below t.place j):=by
 unfold put
 rw[hd,HM]
 cases t
 simp at hd
 subst hd
 rfl
theorem Good.put {t:fX}{es:Array (Int×aE)}(G:Good t es){h:Int}{x:aE}(hv : ∀ m<n,iX t (rd t.mask h m).j)(hn : ¬ iX t (rd t.mask h n).j)  (hroom:es.size<t.mask)(pl:Bool) :
  Good { t with place:=insertAt t.place (below t.place (rd t.mask h n).j) (rd t.mask h n).j,plain:=pl } (insertAt es (below t.place (rd t.mask h n).j) (h,x)):=by
 have hb:=(JZ G.ris (rd t.mask h n).j).1
 have hbe:below t.place (rd t.mask h n).j≤es.size:=by rw[← G.len]; exact hb
 have mono : ∀ j,iX t j -> ∃ i:Nat,(insertAt t.place (below t.place (rd t.mask h n).j) (rd t.mask h n).j)[i]?=some j:=fun j gh=>by
  obtain⟨i,e⟩:=gh
  by_cases c:i<below t.place (rd t.mask h n).j
  ·exact⟨i,by rw[uY _ hb,if_pos c]; exact e⟩
  ·exact⟨i+1,by rw[uY _ hb,if_neg (by omega),if_neg (by omega)]; exact e⟩
 refine⟨G.small,G.nod,Lr G.ris (RW hn),?_,fun i j e=>?_,?_,fun i j e ei ee=>?_⟩
 ·rw[BX,BX,G.len]
 ·have e':=e
  rw[uY _ hb] at e'
  split at e'
  ·exact G.inb i j e'
  ·split at e'
   ·cases e'; exact Eg _ _ _
   ·exact G.inb _ j e'
 ·rw[BX]; exact hroom
 ·have ei':=ei
  rw[uY _ hb] at ei'
  rw[uY _ hbe] at ee
  by_cases c:i<below t.place (rd t.mask h n).j
  ·rw[if_pos c] at ei' ee
   obtain⟨m,h1,h2⟩:=G.reach i j e ei' ee
   exact⟨m,h1,fun q hq=>mono _ (h2 q hq)⟩
  ·rw[if_neg c] at ei' ee
   by_cases d:i=below t.place (rd t.mask h n).j
   ·rw[if_pos d] at ei' ee
    cases ei'; cases ee
    exact⟨n,rfl,fun q hq=>mono _ (hv q hq)⟩
   ·rw[if_neg d] at ei' ee
    obtain⟨m,h1,h2⟩:=G.reach _ j e ei' ee
    exact⟨m,h1,fun q hq=>mono _ (h2 q hq)⟩
structure Own (mask:Nat)(hs:List Int)(ow:Array (Option Nat)):Prop where
 size:ow.size=mask+1
 lt : ∀ j i:Nat,ow[j]?=some (some i)->i<hs.length
 inj : ∀ j j' i:Nat,ow[j]?=some (some i)->ow[j']?=some (some i)->j=j'
 all : ∀ i<hs.length,∃ j:Nat,ow[j]?=some (some i)
 reach : ∀ (j i:Nat) (h:Int),ow[j]?=some (some i)->hs[i]?=some h -> ∃ n,(rd mask h n).j=j /\ ∀ m<n,∃ i':Nat,ow[(rd mask h m).j]?=some (some i')
theorem xO(hj:j<ow.size):ow[j]?=some none \/ ∃ i,ow[j]?=some (some i):=by
 rw[wB hj]
 cases ow[j] with
 | none=>exact .inl rfl
 | some i=>exact .inr ⟨i,rfl⟩
theorem Own.free{hs:List Int}(O:Own mask hs ow)(hl:hs.length≤mask) : ∃ e,e≤mask/\ow[e]?=some none:=by
 apply NV
 intro hn
 have hall : ∀ j≤mask,∃ i:Nat,ow[j]?=some (some i):=fun j hj=>by
  rcases xO (ow:=ow) (j:=j) (by rw[O.size]; omega) with c | c
  ·exact absurd ⟨j,hj,c⟩ hn
  ·exact c
 have hnd:((cW (mask+1)).map fun j=>((ow[j]?).join).getD 0).Nodup:=by
  unfold List.Nodup
  rw[pF]
  refine Cp ?_ List.pairwise_lt_range
  intro a b ha hb hab e
  obtain⟨i,ei⟩:=hall a (by have:=iN.mp ha; omega)
  obtain⟨i',ei'⟩:=hall b (by have:=iN.mp hb; omega)
  rw[ei,ei'] at e
  have:i=i':=by simpa using e
  subst this
  have:=O.inj a b i ei ei'
  omega
 have:=NS hnd (fun v m=>by
  obtain⟨j,hj,rfl⟩:=bF.mp m
  obtain⟨i,ei⟩:=hall j (by have:=iN.mp hj; omega)
  rw[ei]
  exact iN.mpr (O.lt j i ei))
 simp at this
 omega
theorem SE (mask i per:Nat) : ∀ m,lp mask (i,per) (m+1)=lp mask (leap mask i per) m
 | 0=>rfl
 | m+1=>by
  show leap mask (lp mask (i,per) (m+1)).1 (lp mask (i,per) (m+1)).2=_
  rw[SE mask i per m]
  rfl
theorem UZ(hz:ow.size=mask+1) : ∀ (fuel i per m:Nat),i≤mask->m<fuel->ow[(lp mask (i,per) m).1]?=some none ->
  ∃ n,layClean.free mask ow fuel i per=some (pN mask (blk mask i per) n).j/\ow[(pN mask (blk mask i per) n).j]?=some none /\ ∀ q<n,∃ i':Nat,ow[(pN mask (blk mask i per) q).j]?=some (some i')
 | 0,_,_,_,_,h,_=>absurd h (by omega)
 | fuel+1,i,per,m,hi,hm,he=>by
  have hrun:runEnd mask i≤mask/\i≤runEnd mask i:=by unfold runEnd; split <;> omega
  have hat : ∀ k,k≤runEnd mask i - i->(pN mask (blk mask i per) k).j=i+k:=fun k hk=>by rw[HP mask i per k hk]
  have hg : ∀ k,k≤runEnd mask i - i->((ow.getD (i+k) (some 0)).isNone=true↔ow[i+k]?=some none):=fun k hk=>by
   rw[NX]
   rcases xO (ow:=ow) (j:=i+k) (by omega) with c | ⟨x,c⟩ <;> rw[c] <;> simp
  unfold layClean.free
  cases ef:(cW (runEnd mask i+1 - i)).find? fun k=>(ow.getD (i+k) (some 0)).isNone with
  | some k=>
   obtain⟨h1,h2,h3⟩:=List.find?_range_eq_some.mp ef
   have hk:k≤runEnd mask i - i:=by have:=iN.mp h2; omega
   refine⟨k,by rw[hat k hk],by rw[hat k hk]; exact(hg k hk).mp h1,fun q hq=>?_⟩
   rw[hat q (by omega)]
   rcases xO (ow:=ow) (j:=i+q) (by omega) with c | c
   ·have:=h3 q hq
    rw[(hg q (by omega)).mpr c] at this
    exact absurd this (by decide)
   ·exact c
  | none=>
   have h3:=List.find?_range_eq_none.mp ef
   have hall : ∀ k,k≤runEnd mask i - i -> ∃ i':Nat,ow[i+k]?=some (some i'):=fun k hk=>by
    rcases xO (ow:=ow) (j:=i+k) (by omega) with c | c
    ·have:=h3 k (by omega)
     rw[(hg k hk).mpr c] at this
     exact absurd this (by decide)
    ·exact c
   cases m with
   | zero=>
    obtain⟨i',e'⟩:=hall 0 (by omega)
    have he':ow[i]?=some none:=he
    rw[NC,he'] at e'
    cases e'
   | succ m=>
    rw[SE] at he
    have hle:(leap mask i per).1≤mask:=by
     have:(leap mask i per).1<mask+1:=FJ _ (by omega)
     omega
    obtain⟨n,e1,e2,e3⟩:=UZ hz fuel (leap mask i per).1 (leap mask i per).2 m hle (by omega) he
    have hp : ∀ q,pN mask (blk mask i per) (runEnd mask i - i+1+q)=pN mask (blk mask (leap mask i per).1 (leap mask i per).2) q:=fun q=>by
     rw[← MA,SW]
    refine⟨runEnd mask i - i+1+n,?_,by rw[hp]; exact e2,fun q hq=>?_⟩
    ·rw[hp]; exact e1
    ·by_cases c:q≤runEnd mask i - i
     ·rw[hat q c]; exact hall q c
     ·obtain⟨r,rfl⟩ : ∃ r,q=runEnd mask i - i+1+r:=⟨q - (runEnd mask i - i+1),by omega⟩
      rw[hp]
      exact e3 r (by omega)
theorem Own.add(hm:mX mask){hs:List Int}(O:Own mask hs ow)(hl:hs.length≤mask)(h:Int) :
  ∃ j,layClean.free mask ow (turns mask) (bits h%(mask+1)) (bits h)=some j/\Own mask (hs++[h]) (ow.setIfInBounds j (some hs.length)):=by
 obtain⟨e,he,hne⟩:=O.free hl
 obtain⟨m,h1,h2⟩:=SV hm (QO h) he
 have hi:bits h%(mask+1)≤mask:=by
  have:=FJ (bits h) (show 0<mask+1 by omega)
  omega
 obtain⟨n,e1,e2,e3⟩:=UZ O.size (turns mask) (bits h%(mask+1)) (bits h) m hi (by unfold turns; omega) (by rw[h2]; exact hne)
 have e2':ow[(rd mask h n).j]?=some none:=e2
 have hjs:(rd mask h n).j<ow.size:=(tL.mp e2').1
 have get : ∀ k:Nat,(ow.setIfInBounds (rd mask h n).j (some hs.length))[k]?=if (rd mask h n).j=k then some (some hs.length) else ow[k]?:=fun k=>by
  rw[Array.getElem?_setIfInBounds]
  by_cases c:(rd mask h n).j=k
  ·subst c
   simp[hjs]
  ·rw[if_neg c,if_neg c]
 have mono : ∀ k i:Nat,ow[k]?=some (some i)->(ow.setIfInBounds (rd mask h n).j (some hs.length))[k]?=some (some i):=fun k i q=>by
  rw[get,if_neg (by rintro rfl; rw[e2'] at q; cases q)]
  exact q
 refine⟨_,e1,by simpa using O.size,fun j i q=>?_,fun j j' i q q'=>?_,fun i hi=>?_,fun j i x q qx=>?_⟩
 ·have q:(ow.setIfInBounds (rd mask h n).j (some hs.length))[j]?=some (some i):=q
  rw[get] at q
  rw[nU,FK]
  split at q
  ·cases q; omega
  ·have:=O.lt j i q; omega
 ·have q:(ow.setIfInBounds (rd mask h n).j (some hs.length))[j]?=some (some i):=q
  have q':(ow.setIfInBounds (rd mask h n).j (some hs.length))[j']?=some (some i):=q'
  rw[get] at q q'
  split at q
  ·split at q'
   ·omega
   ·cases q
    have:=O.lt j' _ q'
    omega
  ·split at q'
   ·cases q'
    have:=O.lt j _ q
    omega
   ·exact O.inj j j' i q q'
 ·rw[nU,FK] at hi
  by_cases c:i=hs.length
  ·exact⟨(rd mask h n).j,by show(ow.setIfInBounds (rd mask h n).j (some hs.length))[(rd mask h n).j]?=_; rw[get,if_pos rfl,c]⟩
  ·obtain⟨j,q⟩:=O.all i (by omega)
   exact⟨j,mono j i q⟩
 ·have q:(ow.setIfInBounds (rd mask h n).j (some hs.length))[j]?=some (some i):=q
  rw[get] at q
  split at q
  ·rename_i hj
   cases q
   rw[FM (bP _)] at qx
   have:h=x:=by simpa using qx
   subst this
   refine⟨n,hj,fun q hq=>?_⟩
   obtain⟨i',w⟩:=e3 q hq
   exact⟨i',mono _ i' w⟩
  ·have hlt:=O.lt j i q
   rw[vV hlt] at qx
   obtain⟨n',a,b⟩:=O.reach j i x q qx
   refine⟨n',a,fun r hr=>?_⟩
   obtain⟨i',w⟩:=b r hr
   exact⟨i',mono _ i' w⟩
theorem YR(hm:mX mask) : ∀ (rest hs:List Int) (ow:Array (Option Nat)),Own mask hs ow->hs.length+rest.length≤mask+1 ->
  ∃ ow',rest.foldl (fun acc h=>do
   let (owner,k) ← acc
   let j ← layClean.free mask owner (turns mask) (bits h%(mask+1)) (bits h)
   pure (owner.setIfInBounds j (some k),k+1)) (some (ow,hs.length))=some (ow',(hs++rest).length)/\Own mask (hs++rest) ow'
 | [],hs,ow,O,_=>⟨ow,by simp,by simpa using O⟩
 | h::r,hs,ow,O,hl=>by
  rw[eD] at hl
  obtain⟨j,e,O'⟩:=O.add hm (by omega) h
  obtain⟨ow',e2,O2⟩:=YR hm r (hs++[h]) _ O' (by rw[nU,FK]; omega)
  refine⟨ow',?_,by simpa using O2⟩
  rw[pI]
  have:(do
   let (owner,k) ← some (ow,hs.length)
   let j ← layClean.free mask owner (turns mask) (bits h%(mask+1)) (bits h)
   pure (owner.setIfInBounds j (some k),k+1))=some (ow.setIfInBounds j (some hs.length),(hs++[h]).length):=by
   show((layClean.free mask ow (turns mask) (bits h%(mask+1)) (bits h)).bind fun j=>some (ow.setIfInBounds j (some hs.length),hs.length+1))=_
   rw[e]
   simp
  rw[this,e2]
  simp
theorem Li (mask:Nat):Own mask [] (Array.replicate (mask+1) none):=by
 have hn : ∀ j i:Nat,(Array.replicate (mask+1) (none:Option Nat))[j]?≠some (some i):=fun j i q=>by
  rw[Array.getElem?_replicate] at q
  split at q <;> cases q
 exact⟨by simp,fun j i q=>absurd q (hn j i),fun j _ i q=>absurd q (hn j i),fun i hi=>absurd hi (by simp),fun j i _ q=>absurd q (hn j i)⟩
theorem Np(hm:mX mask)(hs:Array Int)(hl:hs.size≤mask+1) : ∃ ow,layClean mask hs=some ow/\Own mask hs.toList ow:=by
 obtain⟨ow,e,O⟩:=YR hm hs.toList [] _ (Li mask) (by simpa using hl)
 refine⟨ow,?_,by simpa using O⟩
 unfold layClean
 rw[← Array.foldl_toList]
 have e':=congrArg (Option.map (·.1)) e
 exact e'
theorem YI {α β:Type}{f:α->Option β} : ∀ (l:List α),(∀ k∈l,(f k).isSome=true) -> ∀ i:Nat,(l.filterMap f)[i]?=(l[i]?).bind f
 | [],_,i=>by simp
 | a::r,h,i=>by
  obtain⟨b,e⟩:=pE.mp (h a bD)
  rw[List.filterMap_cons_some e]
  cases i with
  | zero=>simp[e]
  | succ i=>
   rw[qX,qX]
   exact YI r (fun k m=>h k (bJ _ m)) i
def iF (mask:Nat)(ow:Array (Option Nat)):List (Nat×Nat):=(cW (mask+1)).filterMap fun j=>(ow.getD j none).map (j,·)
theorem mB(hz:ow.size=mask+1):(j,i)∈iF mask ow↔ow[j]?=some (some i):=by
 unfold iF
 rw[NG]
 constructor
 ·rintro⟨j',hj,e⟩
  obtain⟨i',e1,e2⟩:=hX.mp e
  have e3:=congrArg Prod.fst e2
  have e4:=congrArg Prod.snd e2
  subst e3
  subst e4
  have hlt:j'<ow.size:=by have:=iN.mp hj; omega
  rw[NX] at e1
  rcases xO hlt with c | ⟨x,c⟩
  ·rw[c] at e1; cases e1
  ·rw[c] at e1; cases e1; exact c
 ·intro e
  have hlt:=(tL.mp e).1
  exact⟨j,iN.mpr (by omega),by rw[NX,e]; rfl⟩
theorem JM (mask:Nat)(ow:Array (Option Nat)):(iF mask ow).Pairwise (fun a b=>a.1<b.1):=by
 unfold iF
 rw[List.pairwise_filterMap]
 refine List.Pairwise.imp ?_ List.pairwise_lt_range
 intro a b hab x hx y hy
 obtain⟨_,_,rfl⟩:=hX.mp hx
 obtain⟨_,_,rfl⟩:=hX.mp hy
 exact hab
theorem Nn(hm:mX mask)(es:Array (Int×aE))(hl:es.size≤mask)(fg mv:Nat)(led pl:Bool) :
  ∃ t' order,laid mask fg mv led pl (es.map (·.1))=some (t',order)/\Good t' (order.filterMap (es[·]?))/\(order.filterMap (es[·]?)).toList.Perm es.toList/\t'.mask=mask/\t'.led=led/\t'.plain=pl/\t'.dummies = #[]:=by
 obtain⟨ow,e,O⟩:=Np hm (es.map (·.1)) (by rw[Array.size_map]; omega)
 have hz:=O.size
 have hlen:(es.map (·.1)).toList.length=es.size:=by simp
 refine⟨{ mask,place:=((iF mask ow).map (·.1)).toArray,dummies:=#[],finger:=fg,led,moves:=mv,plain:=pl },((iF mask ow).map (·.2)).toArray,?_,?_,?_,rfl,rfl,rfl,rfl⟩
 ·unfold laid
  rw[e]
  rfl
 ·have hsome : ∀ k∈(iF mask ow).map (·.2),(es[k]?).isSome=true:=fun k m=>by
   obtain⟨⟨j,i⟩,mm,rfl⟩:=bF.mp m
   have:=O.lt j i ((mB hz).mp mm)
   rw[hlen] at this
   rw[wB this]
   rfl
  have hget : ∀ i:Nat,((((iF mask ow).map (·.2)).toArray).filterMap (es[·]?))[i]?=(((iF mask ow)[i]?).bind fun p=>es[p.2]?):=fun i=>by
   rw[← rB,NW,YI _ hsome,fD]
   cases(iF mask ow)[i]? <;> rfl
  have hpl : ∀ i:Nat,(((iF mask ow).map (·.1)).toArray)[i]?=((iF mask ow)[i]?).map (·.1):=fun i=>by simp
  refine⟨hm,rfl,?_,?_,?_,?_,?_⟩
  ·intro a b u v hab ea eb
   have ea:=ea
   have eb:=eb
   rw[hpl] at ea eb
   obtain⟨x,hx,rfl⟩:=hX.mp ea
   obtain⟨y,hy,rfl⟩:=hX.mp eb
   obtain⟨ha,rfl⟩:=dM.mp hx
   obtain⟨hb,rfl⟩:=dM.mp hy
   exact Cb.mp (JM mask ow) a b ha hb hab
  ·have:(List.filterMap (es[·]?) ((iF mask ow).map (·.2))).length=((iF mask ow).map (·.2)).length:=by
    rw[List.length_filterMap_eq_countP,List.countP_eq_length]
    exact hsome
   rw[← gV (xs:=Array.filterMap _ _),NW,this]
   simp
  ·intro i j q
   have q:=q
   rw[hpl] at q
   obtain⟨⟨j',i'⟩,hx,rfl⟩:=hX.mp q
   have:=(mB hz).mp (iW hx)
   have:=(tL.mp this).1
   show j'≤mask
   omega
  ·have hnd:((iF mask ow).map (·.2)).Nodup:=by
    unfold List.Nodup
    rw[pF]
    refine Cp ?_ (JM mask ow)
    rintro⟨a,i⟩ ⟨b,i'⟩ ma mb hab e'
    have e':=e'
    subst e'
    have:=O.inj a b i ((mB hz).mp ma) ((mB hz).mp mb)
    have hab:=hab
    omega
   have:=NS hnd (fun v m=>by
    obtain⟨⟨j,i⟩,mm,rfl⟩:=bF.mp m
    have:=O.lt j i ((mB hz).mp mm)
    rw[hlen] at this
    exact iN.mpr this)
   have h2:((((iF mask ow).map (·.2)).toArray).filterMap (es[·]?)).size≤((iF mask ow).map (·.2)).length:=by
    rw[← gV,NW]
    exact List.length_filterMap_le _ _
   rw[FL] at this
   show _≤mask
   omega
  ·intro i j x q qx
   have q:=q
   rw[hpl] at q
   obtain⟨⟨j',k⟩,hx,rfl⟩:=hX.mp q
   rw[hget,hx,bO] at qx
   have hw:=(mB hz).mp (iW hx)
   have hk:(es.map (·.1)).toList[k]?=some x.1:=by
    have qx:=qx
    rw[rB,Array.getElem?_map,qx]
    rfl
   obtain⟨n,a,b⟩:=O.reach j' k x.1 hw hk
   refine⟨n,a,fun m hm'=>?_⟩
   obtain⟨i',w⟩:=b m hm'
   obtain⟨r,hr,er⟩:=Ci.mp ((mB hz).mpr w)
   refine⟨r,?_⟩
   rw[hpl,jW hr,er]
   rfl
 ·rw[NW]
  have hnd:((iF mask ow).map (·.2)).Nodup:=by
   unfold List.Nodup
   rw[pF]
   refine Cp ?_ (JM mask ow)
   rintro⟨a,i⟩ ⟨b,i'⟩ ma mb hab e'
   have e':=e'
   subst e'
   have:=O.inj a b i ((mB hz).mp ma) ((mB hz).mp mb)
   have hab:=hab
   omega
  have hp:((iF mask ow).map (·.2)).Perm (cW es.size):=by
   rw[List.perm_ext_iff_of_nodup hnd Cd]
   intro v
   constructor
   ·intro m
    obtain⟨⟨j,i⟩,mm,rfl⟩:=bF.mp m
    have:=O.lt j i ((mB hz).mp mm)
    rw[hlen] at this
    exact iN.mpr this
   ·intro m
    obtain⟨j,q⟩:=O.all v (by rw[hlen]; exact iN.mp m)
    exact bF.mpr ⟨(j,v),(mB hz).mpr q,rfl⟩
  exact(hp.filterMap _).trans (by rw[filterMap_getElem?_range])
structure Fine (t:fX)(es:Array (Int×aE)):Prop where
 good:Good t es
 few:es.size*5<t.mask*3/\es.size≤4914
theorem Fine.fits {t:fX}{es:Array (Int×aE)}(F:Fine t es):t.fits es.size=true:=by
 have h1:=F.good.len
 have h2:=F.good.nod
 have h3:=F.good.room
 simp[SetTable.fits,MP,h1,h2,h3]
theorem Fine.odd {t:fX}{es:Array (Int×aE)}(F:Fine t es):t.gaveWay=false:=by
 rcases F.good.small with e | e | e | e | e | e <;> simp[SetTable.gaveWay,e]
theorem Pd (led:Bool):Fine (EW 0 0 led) #[]:=
 ⟨⟨.inl rfl,rfl,fun a b u v _ h=>by simp[EW] at h,rfl,fun i j h=>by simp[EW] at h,by simp,fun i j e h=>by simp[EW] at h⟩,by simp[EW]⟩
theorem Mp {t:fX}(hs:mX t.mask)(h1:(n - 1)*5<t.mask*3)(h0:0<n)(hf:t.mask*3≤n*5)(hn:n≤4914) : ∃ M,mX M/\n*5<M*3/\SetTable.sizeAbove (SetTable.grown n)=M+1:=by
 rcases hs with e | e | e | e | e | e <;> rw[e] at h1 hf
 ·have h5:n=5:=by omega
  exact⟨31,.inr (.inl rfl),by omega,by rw[h5]; decide⟩
 ·have h5:n=19:=by omega
  exact⟨127,.inr (.inr (.inl rfl)),by omega,by rw[h5]; decide⟩
 ·have h5:n=77:=by omega
  exact⟨511,.inr (.inr (.inr (.inl rfl))),by omega,by rw[h5]; decide⟩
 ·have h5:n=307:=by omega
  exact⟨2047,.inr (.inr (.inr (.inr (.inl rfl)))),by omega,by rw[h5]; decide⟩
 ·have h5:n=1229:=by omega
  exact⟨8191,.inr (.inr (.inr (.inr (.inr rfl)))),by omega,by rw[h5]; decide⟩
 ·omega
open PySem PySem.Spec PyProof.Rows PySem.SetTable
def oG (w:aU):Bool:=w.params.followText "set-order"
abbrev Aie (led:Bool):aW:={ cls:=.type "set",dict:=none,data:=.set #[] 0 (.fresh 0 0 led) }
theorem Qp {prog:bB}{w:aU}(v:aE){Q₁:aE->aG->Prop}(h:Q₁ (.ref s.heap.objs.size) { s with heap:=s.heap.push (Aie (!oG w)) }) :
  kX (aQ prog w) A (.call (.builtin "set.__new__") ⟨[.type "set",v],[]⟩) (wants Q₁ E) s:=by
 refine codeAny_of_tree (show aO _ A.in1 (do checkBuiltinCall "set.__new__" ⟨[.type "set",v],[]⟩; again (.builtin "set.__new__" ⟨[.type "set",v],[]⟩)) _ _ s from ?_)
 refine aJ (wpAny_of_eq (F.newCall_set_1 v) (aT ⟨qR F.plain_set_new _,lL F.entry_set_new ?_⟩))
 rw[nZ F.plain_set_new _]
 unfold Builtin.«set.__new__» Builtin.Frozenset.newClass
 have sub1:=sub_set_self
 obtain⟨hp,g,d,tk,os⟩:=s
 dsimp only
 wp_walk
 refine wpAny_askSetting (aT ?_)
 dsimp only
 simp only[newObj]
 exact aJ (wpAny_alloc (aT (aT h)))
section
variable {prog:bB}{w:aU}
mutual
theorem JP : ∀ (d:aA) (n:Nat) {A:bS} {E:aE->aG->Prop} {s:aG} {v:aE} {as:List aB} {Q:Bool->aG->Prop},d.depth≤n->bA d=true->kZ s.heap v d as ->
  Q false s->aO (aQ prog w) A (ER n v) Q E s
 | .int i,n,A,E,s,v,as,Q,hu,hk,r,h=>by
  cases r with
  | int _ t=>
   unfold ER
   exact aT h
 | .str x,n,A,E,s,v,as,Q,hu,hk,r,h=>by
  cases r with
  | str _ t=>
   unfold ER
   exact aT h
 | .tuple ks,n,A,E,s,v,as,Q,hu,hk,r,h=>by
  obtain⟨a,o,items,m,rfl,ho,hc,hd,hi⟩:=mW r
  have hT:s.TypeIs (.ref a) "tuple":=⟨o,ho,hc⟩
  have hdep:cV ks+1≤n:=by simpa [hW] using hu
  obtain⟨n,rfl⟩ : ∃ m,n=m+1:=⟨n - 1,by omega⟩
  have hk':bU ks=true:=by simpa [bA] using hk
  unfold ER
  refine aJ (EE hT ?_)
  dsimp only
  rw[if_pos (by decide)]
  refine aJ (aT ?_)
  simp only[zU,gJ,if_false]
  refine aJ (MH ho hd ?_)
  dsimp only
  refine aJ ?_
  rw[← NY]
  refine EL _ (fun rest r s'=>r.1=none/\s'=s /\ ∃ ds bs,mK s.heap rest ds bs /\ ∀ d∈ds,d∈ks) _ ?_ ?_ _ _ ⟨rfl,rfl,ks,as,hi,fun _ h=>h⟩
  ·rintro v rest r s' ⟨hr,rfl,ds,bs,hl,hall⟩
   cases hl with
   | @cons _ _ d ds as1 bs1 h1 hl'=>
    refine aJ (VX ks (hall d bD) n (by omega) hk' h1 ?_)
    simp only[gJ,if_false]
    exact aT ⟨rfl,rfl,ds,bs1,hl',fun u hu'=>hall u (bJ _ hu')⟩
  ·rintro⟨r1,r2⟩ s' ⟨hr,rfl,_⟩
   simp only at hr
   subst hr
   exact aT h
 | .none,n,A,E,s,v,as,Q,hu,hk,r,h=>by simp[bA] at hk
 | .bool _,n,A,E,s,v,as,Q,hu,hk,r,h=>by simp[bA] at hk
 | .list _,n,A,E,s,v,as,Q,hu,hk,r,h=>by simp[bA] at hk
 | .dict _,n,A,E,s,v,as,Q,hu,hk,r,h=>by simp[bA] at hk
theorem VX : ∀ (ks:List aA) {d:aA},d∈ks -> ∀ (n:Nat) {A:bS} {E:aE->aG->Prop} {s:aG} {v:aE} {as:List aB} {Q:Bool->aG->Prop},cV ks≤n->bU ks=true->kZ s.heap v d as ->
  Q false s->aO (aQ prog w) A (ER n v) Q E s
 | [],_,hm,_,_,_,_,_,_,_,_,_,_,_=>by simp at hm
 | k::ks,d,hm,n,A,E,s,v,as,Q,hu,hk,r,h=>by
  have hk':bA k=true/\bU ks=true:=by simpa [bU] using hk
  have hdep:max k.depth (cV ks)≤n:=by simpa [cV] using hu
  by_cases e:d=k
  ·exact JP k n (by omega) hk'.1 (e ▸ r) h
  ·have hm':d∈ks:=by
    rcases cI.mp hm with q | q
    ·exact absurd q e
    ·exact q
   exact VX ks hm' n (by omega) hk'.2 r h
end
mutual
theorem VN : ∀ (d:aA) (n:Nat) {A:bS} {E:aE->aG->Prop} {s:aG} {v:aE} {as:List aB} {Q:Bool->aG->Prop},d.depth≤n->bA d=true->kZ s.heap v d as ->
  (∀ b,Q b s)->aO (aQ prog w) A (ES n v) Q E s
 | .int i,n,A,E,s,v,as,Q,hu,hk,r,h=>by
  cases r with
  | int _ t=>
   cases n <;> (unfold ES; exact aT (h _))
 | .str x,n,A,E,s,v,as,Q,hu,hk,r,h=>by
  cases r with
  | str _ t=>
   cases n <;> (unfold ES; exact aT (h _))
 | .tuple ks,n,A,E,s,v,as,Q,hu,hk,r,h=>by
  obtain⟨a,o,items,m,rfl,ho,hc,hd,hi⟩:=mW r
  have hT:s.TypeIs (.ref a) "tuple":=⟨o,ho,hc⟩
  have hdep:cV ks+1≤n:=by simpa [hW] using hu
  obtain⟨n,rfl⟩ : ∃ m,n=m+1:=⟨n - 1,by omega⟩
  have hk':bU ks=true:=by simpa [bA] using hk
  unfold ES
  refine aJ (yZ hT FR.lookup ?_)
  refine aJ (MH ho hd ?_)
  refine aJ ?_
  rw[← NY]
  refine EL _ (fun rest r s'=>s'=s /\ ∃ ds bs,mK s.heap rest ds bs /\ ∀ d∈ds,d∈ks) _ ?_ ?_ _ _ ⟨rfl,ks,as,hi,fun _ h=>h⟩
  ·rintro v rest r s' ⟨rfl,ds,bs,hl,hall⟩
   cases hl with
   | @cons _ _ d ds as1 bs1 h1 hl'=>
    refine aJ (WL ks (hall d bD) n (by omega) hk' h1 fun b=>?_)
    cases b
    ·simp only[Bool.not_false,if_true]
     exact aT (aT (h _))
    ·simp only[zU,gJ,if_false]
     exact aT ⟨rfl,ds,bs1,hl',fun u hu'=>hall u (bJ _ hu')⟩
  ·rintro⟨r1,r2⟩ s' ⟨rfl,_⟩
   cases r1 with
   | none=>exact aT (h _)
   | some b=>exact aT (h _)
 | .none,n,A,E,s,v,as,Q,hu,hk,r,h=>by simp[bA] at hk
 | .bool _,n,A,E,s,v,as,Q,hu,hk,r,h=>by simp[bA] at hk
 | .list _,n,A,E,s,v,as,Q,hu,hk,r,h=>by simp[bA] at hk
 | .dict _,n,A,E,s,v,as,Q,hu,hk,r,h=>by simp[bA] at hk
theorem WL : ∀ (ks:List aA) {d:aA},d∈ks -> ∀ (n:Nat) {A:bS} {E:aE->aG->Prop} {s:aG} {v:aE} {as:List aB} {Q:Bool->aG->Prop},cV ks≤n->bU ks=true->kZ s.heap v d as ->
  (∀ b,Q b s)->aO (aQ prog w) A (ES n v) Q E s
 | [],_,hm,_,_,_,_,_,_,_,_,_,_,_=>by simp at hm
 | k::ks,d,hm,n,A,E,s,v,as,Q,hu,hk,r,h=>by
  have hk':bA k=true/\bU ks=true:=by simpa [bU] using hk
  have hdep:max k.depth (cV ks)≤n:=by simpa [cV] using hu
  by_cases e:d=k
  ·exact VN k n (by omega) hk'.1 (e ▸ r) h
  ·have hm':d∈ks:=by
    rcases cI.mp hm with q | q
    ·exact absurd q e
    ·exact q
   exact WL ks hm' n (by omega) hk'.2 r h
end
theorem Jf{k:List aA}{b:aB}{ys:List aE}{Q:Bool->aG->Prop}(hk:Ada s.heap k b)(hy : ∀ y∈ys,∃ k' b',y = .ref b'/\Ada s.heap k' b')(h:Q false s) :
  aO (aQ prog w) A (searchCouldBeSeen (.ref b) ys) Q E s:=by
 unfold searchCouldBeSeen
 refine aJ ?_
 refine EL _ (fun rest r s'=>r.1=none/\s'=s /\ ∀ y∈rest,∃ k' b',y = .ref b'/\Ada s.heap k' b') _ ?_ ?_ _ _ ⟨rfl,rfl,hy⟩
 ·rintro v rest r s' ⟨hr,rfl,hall⟩
  obtain⟨k',b',rfl,hk'⟩:=hall v bD
  have hrest : ∀ y∈rest,∃ k' b',y = .ref b'/\Ada s'.heap k' b':=fun y m=>hall y (bJ _ m)
  dsimp only
  split
  ·exact aT ⟨rfl,rfl,hrest⟩
  ·obtain⟨a1,a2,as,ra⟩:=hk
   obtain⟨b1,b2,bs,rb⟩:=hk'
   have ka:bA (.tuple k)=true:=by simpa [bA] using a1
   have kb:bA (.tuple k')=true:=by simpa [bA] using b1
   have da:(fL k).depth≤8:=by simp only[hW]; omega
   have db:(fL k').depth≤8:=by simp only[hW]; omega
   refine aJ (CM (.tuple k) 8 da ka ra ?_)
   simp only[zU,gJ,if_false]
   refine aJ (CM (.tuple k') 8 db kb rb ?_)
   simp only[zU,gJ,if_false]
   refine aJ (JP (.tuple k) 8 da ka ra ?_)
   simp only[gJ,if_false]
   refine aJ (JP (.tuple k') 8 db kb rb ?_)
   simp only[gJ,if_false]
   exact aT ⟨rfl,rfl,hrest⟩
 ·rintro⟨r1,r2⟩ s' ⟨hr,rfl,_⟩
  simp only at hr
  subst hr
  exact aT h
end
theorem wU {α β:Type}{R:α->β->Prop} : ∀ {as:List α} {bs:List β},dB R as bs -> ∀ {i:Nat} {a:α},as[i]?=some a -> ∃ b,bs[i]?=some b/\R a b
 | _,_,.nil,i,a,h=>by simp at h
 | _,_,.cons h t,0,a,e=>⟨_,rfl,by simp at e; exact e ▸ h⟩
 | _,_,.cons h t,i+1,a,e=>wU t (by simpa using e)
theorem BH {α β:Type}{R:α->β->Prop} : ∀ {as:List α} {bs:List β},dB R as bs -> ∀ {i:Nat} {b:β},bs[i]?=some b -> ∃ a,as[i]?=some a/\R a b
 | _,_,.nil,i,a,h=>by simp at h
 | _,_,.cons h t,0,a,e=>⟨_,rfl,by simp at e; exact e ▸ h⟩
 | _,_,.cons h t,i+1,a,e=>BH t (by simpa using e)
theorem Good.met {t:fX}{es:Array (Int×aE)}{f:Nat->Int}{h:Int}{r:Option Met}(G:Good t es)(hv : ∀ m<n,iX t (rd t.mask h m).j)(heq:t.probe f h (rd t.mask h n)=r)(hf : ∀ (i:Nat) e,es[i]?=some e->f i=e.1) :
  ∃ N,n≤N/\N<10*turns t.mask/\(∀ m,n≤m->m<N -> ∃ (i:Nat) (e:Int×aE),t.place[i]?=some (rd t.mask h m).j/\es[i]?=some e/\e.1≠h) /\
   ((¬ iX t (rd t.mask h N).j/\r=some (.empty (rd t.mask h N).j none)) \/ ∃ (i:Nat) (e:Int×aE),t.place[i]?=some (rd t.mask h N).j/\es[i]?=some e/\e.1=h/\r=some (.candidate (rd t.mask h N).j i (rd t.mask h (N+1)))):=by
 obtain⟨k,h1,h2,h3⟩:=G.next h hv
 have el : ∀ i j:Nat,t.place[i]?=some j -> ∃ e,es[i]?=some e:=fun i j q=>by
  have:=(tL.mp q).1
  rw[G.len] at this
  exact⟨es[i],wB this⟩
 refine⟨n+k,by omega,h1,fun m a b=>?_,?_⟩
 ·obtain⟨i,e1,e2⟩:=h2 m a b
  obtain⟨e,ee⟩:=el i _ e1
  exact⟨i,e,e1,ee,by rw[← hf i e ee]; exact e2⟩
 ·rcases h3 with⟨a,b⟩ | ⟨i,a,b,c⟩
  ·exact .inl ⟨a,heq.symm.trans b⟩
  ·obtain⟨e,ee⟩:=el i _ a
   exact .inr ⟨i,e,a,ee,by rw[← hf i e ee]; exact b,heq.symm.trans c⟩
theorem Good.nope {t:fX}{es:Array (Int×aE)}{f:Nat->Int}{h:Int}(G:Good t es)(hv : ∀ m<n,iX t (rd t.mask h m).j)(hn : ∀ met,t.probe f h (rd t.mask h n)=some met->False):False:=by
 obtain⟨k,_,_,h3⟩:=G.next h hv
 rcases h3 with⟨_,q⟩ | ⟨_,_,_,q⟩
 ·exact hn _ q
 ·exact hn _ q
section
variable {prog:bB}{w:aU}{B:List aA->aB->Prop}
def ElT (w:aU)(B:List aA->aB->Prop)(h:aP)(e:Int×aE)(k:List aA):Prop:=∃ b,e.2 = .ref b/\e.1=dI w (.tuple k)/\Ada h k b/\B k b
structure SetAt (w:aU)(B:List aA->aB->Prop)(h:aP)(a:aB)(o:aW)(es:Array (Int×aE))(ep:Nat)(t:fX)(ks:List (List aA)):Prop where
 get:h.get? a=some o
 exact:o.ExactSet
 data:o.data = .set es ep t
 fine:Fine t es
 led:t.led = !oG w
 els:dB (ElT w B h) es.toList ks
 nod:ks.Nodup
theorem UA{b:aB}{o:aW}{es:Array (Int×aE)}{t:fX}{k:List aA}{Q:SetFound->aG->Prop}
  (S:SetAt w B s.heap a o es ep t ks) (hk:Ada s.heap k b) (hu:A.units+20<cLine) (h1:k∈ks->Q (.there none) s)
  (h2:k∉ks -> ∀ N,(∀ m<N,iX t (rd t.mask (dI w (.tuple k)) m).j) -> ¬ iX t (rd t.mask (dI w (.tuple k)) N).j->Q (.free (rd t.mask (dI w (.tuple k)) N).j false) s) :
  ∀ fuel n stand,stand.getD (t.probeStart (dI w (.tuple k)))=rd t.mask (dI w (.tuple k)) n->(∀ m<n,∃ i:Nat,t.place[i]?=some (rd t.mask (dI w (.tuple k)) m).j /\ ∀ k',ks[i]?=some k'->k'≠k)->10*turns t.mask<fuel+n ->
   aO (aQ prog w) A (setSearchFrom a (.ref b) (dI w (.tuple k)) true fuel stand) Q E s
 | 0,n,stand,_,hv,hf=>by
  obtain⟨e,he,hne⟩:=S.fine.good.empty
  obtain⟨N,hN,eN⟩:=SQ S.fine.good.small (dI w (.tuple k)) he
  obtain⟨i,q,_⟩:=hv N (by omega)
  exact absurd ⟨i,eN ▸ q⟩ hne
 | fuel+1,n,stand,hst,hv,hf=>by
  have G:=S.fine.good
  have hv' : ∀ m<n,iX t (rd t.mask (dI w (.tuple k)) m).j:=fun m hm=>by
   obtain⟨i,q,_⟩:=hv m hm
   exact⟨i,q⟩
  have keyAt : ∀ (i:Nat) (e:Int×aE),es[i]?=some e -> ∃ k',ks[i]?=some k'/\ElT w B s.heap e k':=fun i e q=>wU S.els (by rw[rB]; exact q)
  unfold setSearchFrom
  refine aJ (EG S.get S.data S.fine.fits ?_)
  dsimp only
  rw[S.fine.odd]
  simp only[gJ,if_false]
  rw[hst]
  split
  ·rename_i met heq
   obtain⟨N,hnN,hN,hm,hc⟩:=G.met hv' heq (fun i e he=>by
    show(es[i]?.map (·.1)).getD 0=e.1
    rw[he]
    rfl)
   have hlive : ∀ m<N,iX t (rd t.mask (dI w (.tuple k)) m).j:=fun m hmN=>by
    rcases zI m n with c | c
    ·exact hv' m c
    ·obtain⟨i,e,q,_⟩:=hm m c hmN
     exact⟨i,q⟩
   rcases hc with⟨hne,hr⟩ | ⟨i,e,hp,hes,hh,hr⟩
   ·cases hr
    dsimp only
    have hnk:k∉ks:=fun mem=>by
     obtain⟨i,hi,ei⟩:=Ci.mp mem
     have ei':ks[i]?=some k:=by rw[jW hi,ei]
     obtain⟨e,q,b',_,hh,_⟩:=BH S.els ei'
     rw[rB] at q
     have hi2:=(tL.mp q).1
     have hi3:i<t.place.size:=by rw[G.len]; exact hi2
     have hpl:=wB hi3
     obtain⟨M,hM,hMl⟩:=G.reach i _ e hpl q
     rw[hh] at hM hMl
     rcases NA N M with c | c | c
     ·exact hne (hMl N c)
     ·subst c; exact hne ⟨i,by rw[hpl,hM]⟩
     ·have uniq : ∀ i':Nat,t.place[i']?=some (rd t.mask (dI w (.tuple k)) M).j->i'=i:=fun i' q'=>by
       rw[hM] at q'
       rcases NA i' i with z | z | z
       ·have:=G.ris _ _ _ _ z q' hpl; omega
       ·exact z
       ·have:=G.ris _ _ _ _ z hpl q'; omega
      rcases zI M n with z | z
      ·obtain⟨i',q',hne'⟩:=hv M z
       have:=uniq i' q'
       subst this
       exact hne' k ei' rfl
      ·obtain⟨i',e',q',qe,hne'⟩:=hm M z c
       have:=uniq i' q'
       subst this
       rw[q] at qe
       cases qe
       exact hne' hh
    exact aT (h2 hnk N hlive hne)
   ·cases hr
    dsimp only
    obtain⟨k',hk',b',eb,eh,hd',_⟩:=keyAt i e hes
    have hseen : ∀ y∈((es.filter (·.1 == dI w (.tuple k))).toList.map (·.2)),∃ k' b',y = .ref b'/\Ada s.heap k' b':=fun y my=>by
     obtain⟨e',me,rfl⟩:=bF.mp my
     rw[Array.toList_filter] at me
     obtain⟨q1,_⟩:=zK.mp me
     obtain⟨i',hi',ei'⟩:=Ci.mp q1
     obtain⟨k2,_,b2,z1,_,z2,_⟩:=wU S.els (by rw[jW hi',ei'])
     exact⟨k2,b2,z1,z2⟩
    obtain⟨eh0,ey⟩:=e
    have eb:=eb
    have hh:=hh
    subst eb
    have hnext:k'≠k->aO (aQ prog w) A (setSearchFrom a (.ref b) (dI w (.tuple k)) true fuel (some (rd t.mask (dI w (.tuple k)) (N+1)))) Q E s:=fun hne=>by
     refine UA S hk hu h1 h2 fuel (N+1) _ rfl (fun m hmN=>?_) (by omega)
     rcases zI m n with c | c
     ·exact hv m c
     ·rcases zI m N with c2 | c2
      ·obtain⟨i',e',q',qe,hne'⟩:=hm m c c2
       refine⟨i',q',fun k2 hk2 e2=>?_⟩
       obtain⟨k3,hk3,_,_,z,_⟩:=keyAt i' e' qe
       rw[hk2] at hk3
       cases hk3
       subst e2
       exact hne' z
      ·have:m=N:=by omega
       subst this
       refine⟨i,hp,fun k2 hk2 e2=>?_⟩
       rw[hk'] at hk2
       cases hk2
       exact hne e2
    have hsm:t.sameMemory t.moves t.mask=some true:=by simp[sameMemory]
    split
    case' isTrue=>refine aJ (Jf hk hseen ?_); simp only[gJ,if_false]
    all_goals
     rw[hes]
     dsimp only
     refine aJ (hU ((lJ prog w).eqBool hu hd' hk ?_))
     refine aJ (EG S.get S.data S.fine.fits ?_)
     dsimp only
     by_cases ek:k'=k
     ·rw[decide_eq_true ek]
      simp only[Bool.and_self,if_true]
      exact aT (h1 (by rw[← ek]; exact iW hk'))
     ·rw[decide_eq_false ek]
      simp only[Bool.and_false,gJ,if_false]
      rw[hsm]
      dsimp only
      simp only[if_true]
      rw[(CK G.nod G.ris).mpr hp]
      dsimp only
      rw[hes]
      dsimp only
      refine aJ (wpAny_isSame_ref_self (aJ (aT ?_)))
      simp only[if_true]
      exact hnext ek
  ·rename_i heq
   exact(G.nope hv' heq).elim
end
section
variable {prog:bB}{w:aU}{B:List aA->aB->Prop}
theorem SI{o:aW}{es:Array (Int×aE)}{t:fX}(ho:h.get? a=some o)(hd:o.data = .set es ep t)(hs:mP a h h'){k:List aA}{b:aB}(hk:Ada h k b):Ada h' k b:=
 hk.keep fun c oc vs n hc _ hd'=>by
  have hne:c≠a:=by
   rintro rfl
   rw[ho] at hc
   cases hc
   rw[hd] at hd'
   cases hd'
  exact(hs.2 c hne).trans hc
theorem wW {α β:Type}{R R':α->β->Prop}(f : ∀ a b,R a b->R' a b) : ∀ {as:List α} {bs:List β},dB R as bs->dB R' as bs
 | _,_,.nil=>.nil
 | _,_,.cons h t=>.cons (f _ _ h) (wW f t)
theorem ZX {α β:Type}{R:α->β->Prop}{as as':List α}(p:as'.Perm as) : ∀ {bs:List β},dB R as bs -> ∃ bs',dB R as' bs'/\bs'.Perm bs:=by
 induction p with
 | nil=>intro bs h; exact⟨bs,h,.refl _⟩
 | cons x p ih=>
  intro bs h
  cases h with
  | cons h t=>
   obtain⟨bs',h1,h2⟩:=ih t
   exact⟨_,.cons h h1,h2.cons _⟩
 | swap x y l=>
  intro bs h
  cases h with
  | cons h t=>
   cases t with
   | cons h' t'=>exact⟨_,.cons h' (.cons h t'),.swap _ _ _⟩
 | trans p q ih1 ih2=>
  intro bs h
  obtain⟨b1,h1,h2⟩:=ih2 h
  obtain⟨b2,h3,h4⟩:=ih1 h1
  exact⟨b2,h3,h4.trans h2⟩
theorem YT {α β:Type}{R:α->β->Prop}{a:α}{b:β}(h:R a b) : ∀ {as:List α} {bs:List β},dB R as bs->dB R (as++[a]) (bs++[b])
 | _,_,.nil=>.cons h .nil
 | _,_,.cons h' t=>.cons h' (YT h t)
def SetT (w:aU)(B:List aA->aB->Prop)(h:aP)(a:aB)(ks:List (List aA)):Prop:=∃ o es ep t ks',SetAt w B h a o es ep t ks'/\ks'.Perm ks
theorem UB{o:aW}{es:Array (Int×aE)}{t:fX}(ho:h.get? a=some o)(hex:o.ExactSet)(hd:o.data = .set es ep t)(es':Array (Int×aE))(t':fX) :
  ∃ o',(h.update a (zG es' t')).get? a=some o'/\o'.ExactSet/\o'.data = .set es' (ep+1) t'/\mP a h (h.update a (zG es' t')):=by
 have hg:=zQ (zG es' t') ho (by rw[putSet_of es' t' hd]; rfl)
 rw[putSet_of es' t' hd] at hg
 exact⟨_,hg,hex,rfl,vX h a _⟩
theorem Ie{b:aB}{o:aW}{es:Array (Int×aE)}{t:fX}{k:List aA}{Q:Bool->aG->Prop}{fuel:Nat}
  (S:SetAt w B s.heap a o es ep t ks) (hk:Ada s.heap k b) (hB:B k b) (hu:A.units+20<cLine) (hroom:es.size+1≤4914)
  (h : ∀ h',mP a s.heap h'->SetT w B h' a (if k∈ks then ks else ks++[k])->Q (decide (k∉ks)) { s with heap:=h' }) :
  aO (aQ prog w) A (setAddHashedIn a (.ref b) (dI w (.tuple k)) (fuel+1)) Q E s:=by
 have G:=S.fine.good
 have e0:s = { s with heap:=s.heap }:=by cases s; rfl
 unfold setAddHashedIn
 refine aJ (EG S.get S.data S.fine.fits ?_)
 dsimp only
 have hbs:byScan (.ref b) es=false:=by simp[byScan,Value.scannable]
 rw[hbs]
 simp only[gJ,if_false]
 unfold setSearch
 refine aJ (UA S hk hu (fun mem=>?_) (fun hn N hl hne=>?_) 100000 0 none rfl (fun m hm=>absurd hm (by omega)) (by
  rcases G.small with e | e | e | e | e | e <;> rw[e] <;> decide))
 ·dsimp only
  refine aT ?_
  have:=h s.heap (Heap.SameBut.refl a s.heap) (by rw[if_pos mem]; exact⟨o,es,ep,t,ks,S,.refl _⟩)
  rw[e0,show false=decide (k∉ks) from(decide_eq_false (fun z=>z mem)).symm]
  exact this
 ·dsimp only
  refine aJ (EG S.get S.data S.fine.fits ?_)
  dsimp only
  rw[Gu G.nod]
  dsimp only
  have hroom2:es.size<t.mask:=by
   have:=S.fine.few
   rcases G.small with e | e | e | e | e | e <;> rw[e] at this ⊢ <;> omega
  have tail : ∀ pl:Bool,aO (aQ prog w) A (do
    storeSet a (insertAt es (below t.place (rd t.mask (dI w (.tuple k)) N).j) (dI w (.tuple k),.ref b)) { t with place:=insertAt t.place (below t.place (rd t.mask (dI w (.tuple k)) N).j) (rd t.mask (dI w (.tuple k)) N).j,plain:=pl }
    if (!false&&({ t with place:=insertAt t.place (below t.place (rd t.mask (dI w (.tuple k)) N).j) (rd t.mask (dI w (.tuple k)) N).j,plain:=pl }:fX).tooFull)=true then do
      setRelay a (SetTable.grown (es.size+1))
      pure true
     else pure true) Q E s:=fun pl=>by
   have G':=G.put (x:=.ref b) hl hne hroom2 pl
   have hperm:=insertAt_perm es (below t.place (rd t.mask (dI w (.tuple k)) N).j) (dI w (.tuple k),dD b)
   rw[Array.toList_push] at hperm
   have hsz:=BX es (below t.place (rd t.mask (dI w (.tuple k)) N).j) (dI w (.tuple k),dD b)
   generalize insertAt es (below t.place (rd t.mask (dI w (.tuple k)) N).j) (dI w (.tuple k),dD b)=es1 at *
   generalize ht1:({ t with place:=insertAt t.place (below t.place (rd t.mask (dI w (.tuple k)) N).j) (rd t.mask (dI w (.tuple k)) N).j,plain:=pl }:fX)=t1 at *
   have hm1:t1.mask=t.mask:=by rw[← ht1]
   have le1:t1.led = !oG w:=by rw[← ht1]; exact S.led
   obtain⟨o1,g1,x1,d1,sb1⟩:=UB S.get S.exact S.data es1 t1
   have els0:dB (ElT w B s.heap) (es.toList++[(dI w (.tuple k),dD b)]) (ks++[k]):=YT ⟨b,rfl,rfl,hk,hB⟩ S.els
   obtain⟨ks1,els1,p1⟩:=ZX hperm els0
   have nod1:ks1.Nodup:=p1.nodup_iff.mpr (jV.mpr ⟨S.nod,by simp,fun x hx y hy e=>hn (by rw[← cN.mp hy,← e]; exact hx)⟩)
   have keep1 : ∀ e k',ElT w B s.heap e k'->ElT w B (s.heap.update a (zG es1 t1)) e k':=fun e k' ⟨b',q1,q2,q3,q4⟩=>⟨b',q1,q2,SI S.get S.data sb1 q3,q4⟩
   refine aJ (wpAny_storeSet_of S.get S.data ?_ (by have:sizeLine=sizeLine:=rfl; rw[nL]; omega))
   have fits1:t1.fits es1.size=true:=by
    have a1:=G'.len
    have a2:=G'.nod
    have a3:=G'.room
    simp[SetTable.fits,MP,a1,a2,a3]
   by_cases hf:t1.tooFull=true
   ·rw[if_pos (by simpa using hf)]
    have a1:=G'.len
    have a2:=G'.nod
    have hfew:=S.fine.few
    have hfull:t1.mask*3≤es1.size*5:=by
     simp[SetTable.tooFull,MP,a1,a2] at hf
     exact hf
    obtain⟨M,hM,hM2,hre0⟩:=Mp (t:=t) (n:=es.size+1) G.small (by simpa using hfew.1) (by omega) (by rw[hm1,hsz] at hfull; exact hfull) hroom
    have hM3:es1.size≤M:=by
     rcases hM with e | e | e | e | e | e <;> rw[e] at hM2 ⊢ <;> omega
    obtain⟨t2,order,el,G2,p2,m2,le2,_,_⟩:=Nn (mask:=M) hM es1 hM3 t1.finger (t1.movedTo M) t1.led t1.plain
    have hre:t1.relaid (es1.map (·.1)) (SetTable.grown (es.size+1))=some (t2,order):=by
     unfold SetTable.relaid
     rw[hre0]
     exact el
    have hsz2:(order.filterMap (es1[·]?)).size=es1.size:=by
     rw[← gV,p2.length_eq,gV]
    refine aJ ?_
    unfold setRelay
    refine aJ (EG g1 d1 fits1 ?_)
    dsimp only
    rw[if_neg (by rw[nL,hre0]; rcases hM with e | e | e | e | e | e <;> rw[e] <;> decide),hre]
    refine aJ (show aO (aQ prog w) A (do
     let es':=order.filterMap (es1[·]?)
     if es'.size != es1.size then unsupported "internal:set-table-lost-an-element"
     pure (es',t2)) _ E _ from ?_)
    dsimp only
    rw[if_neg (by rw[hsz2]; simp)]
    refine aT ?_
    generalize order.filterMap (es1[·]?)=es2 at *
    obtain⟨o2,g2,x2,d2,sb2⟩:=UB g1 x1 d1 es2 t2
    dsimp only
    refine wpAny_storeSet_of g1 d1 ?_ (by rw[nL]; omega)
    refine aT ?_
    obtain⟨ks2,els2,q2⟩:=ZX p2 els1
    have keep2 : ∀ e k',ElT w B s.heap e k'->ElT w B ((s.heap.update a (zG es1 t1)).update a (zG es2 t2)) e k':=fun e k' z=>by
     obtain⟨b',z1,z2,z3,z4⟩:=keep1 e k' z
     exact⟨b',z1,z2,SI g1 d1 sb2 z3,z4⟩
    rw[show true=decide (k∉ks) from(decide_eq_true hn).symm]
    exact h _ (sb1.trans sb2) (by rw[if_neg hn]; exact⟨o2,es2,ep+1+1,t2,ks2,⟨g2,x2,d2,⟨G2,by rw[hsz2,m2,hsz]; exact hM2,by omega⟩,le2.trans le1,wW (fun e k'=>keep2 e k') els2,q2.nodup_iff.mpr nod1⟩,q2.trans p1⟩)
   ·rw[if_neg (by simpa using hf)]
    have few:es1.size*5<t1.mask*3/\es1.size≤4914:=by
     have a1:=G'.len
     have a2:=G'.nod
     refine⟨?_,by omega⟩
     simp[SetTable.tooFull,MP,a1,a2] at hf
     omega
    refine aT ?_
    rw[show true=decide (k∉ks) from(decide_eq_true hn).symm]
    exact h _ sb1 (by rw[if_neg hn]; exact⟨o1,es1,ep+1,t1,ks1,⟨g1,x1,d1,⟨G',few⟩,le1,wW (fun e k'=>keep1 e k') els1,nod1⟩,p1⟩)
  obtain⟨k1,k2,as,rk⟩:=id hk
  split
  ·refine aJ (VN (.tuple k) 8 (by simp only[hW]; omega) (by simpa [bA] using k1) rk fun bb=>?_)
   cases bb
   ·simp only[gJ,if_false]
    exact tail false
   ·simp only[if_true]
    exact tail t.plain
  ·refine aJ (aT ?_)
   simp only[if_true]
   exact tail t.plain
end
section
variable {prog:bB}{w:aU}{B:List aA->aB->Prop}
theorem SetT.len(S:SetT w B h a ks) : ∃ o es ep t,h.get? a=some o/\o.ExactSet/\o.data = .set es ep t/\t.fits es.size=true/\es.size=ks.length:=by
 obtain⟨o,es,ep,t,ks',Z,p⟩:=S
 refine⟨o,es,ep,t,Z.get,Z.exact,Z.data,Z.fine.fits,?_⟩
 have:=kJ Z.els
 rw[gV] at this
 rw[this,p.length_eq]
theorem SetT.keep(S:SetT w B h a ks)(k1 : ∀ o,h.get? a=some o->h'.get? a=some o)(k2 : ∀ b o vs n,h.get? b=some o->o.cls = .type "tuple" -> o.data = .seq vs n->h'.get? b=some o):SetT w B h' a ks:=by
 obtain⟨o,es,ep,t,ks',Z,p⟩:=S
 exact⟨o,es,ep,t,ks',⟨k1 o Z.get,Z.exact,Z.data,Z.fine,Z.led,wW (fun e k ⟨b,q1,q2,q3,q4⟩=>⟨b,q1,q2,q3.keep k2,q4⟩) Z.els,Z.nod⟩,p⟩
theorem Vz {ls:List (List aA)}(p:ks.Perm ls)(k:List aA):(if k∈ks then ks else ks++[k]).Perm (gA ls k):=by
 unfold gA
 by_cases m:k∈ks
 ·rw[if_pos m,if_pos (p.mem_iff.mp m)]
  exact p
 ·rw[if_neg m,if_neg (fun z=>m (p.mem_iff.mpr z))]
  exact p.append_right [k]
theorem JK (kss:List (List aA)):(fR kss).length≤kss.length:=by
 have go : ∀ (l acc:List (List aA)),(l.foldl gA acc).length≤acc.length+l.length:=by
  intro l
  induction l with
  | nil=>intro acc; simp
  | cons x r ih=>
   intro acc
   have h2:(gA acc x).length≤acc.length+1:=by unfold gA; split <;> simp
   have:=ih (gA acc x)
   simp only[pI,eD]
   omega
 have:=go kss []
 simpa [fR] using this
theorem Iw{b:aB}{k:List aA}{Q:Bool->aG->Prop}
  (S:SetT w B s.heap a ks) (hk:Ada s.heap k b) (hB:B k b) (hu:A.units+20<cLine) (hroom:ks.length+1≤4914)
  (h : ∀ h' c,mP a s.heap h'->SetT w B h' a (gA ks k)->Q c { s with heap:=h',toks:=s.toks+pL (.tuple k) }) :
  aO (aQ prog w) A (setAdd a (.ref b)) Q E s:=by
 obtain⟨o,es,ep,t,ks',Z,p⟩:=S
 unfold setAdd
 refine hU (aJ ((lJ prog w).pyHash hu hk ?_))
 unfold setAddHashed
 have hes:es.size=ks.length:=by
  have:=kJ Z.els
  rw[gV] at this
  rw[this,p.length_eq]
 refine hU (Ie Z hk hB hu (by omega) fun h' sb S'=>h h' _ sb ?_)
 obtain⟨o',es',ep',t',ks2,Z',p'⟩:=S'
 exact⟨o',es',ep',t',ks2,Z',p'.trans (Vz p k)⟩
theorem Wk (acc:List (List aA))(k:List aA):acc.length≤(gA acc k).length:=by
 unfold gA
 split
 ·exact bP _
 ·simp
theorem WB : ∀ (kss acc:List (List aA)),acc.length≤(kss.foldl gA acc).length
 | [],acc=>bP _
 | k::r,acc=>iA (Wk acc k) (WB r (gA acc k))
theorem Oh (kss:List (List aA))(i:Nat):(fR (kss.take i)).length≤(fR kss).length:=by
 have e:fR kss=(kss.drop i).foldl gA (fR (kss.take i)):=by
  unfold fR
  rw[← NN,List.take_append_drop]
 rw[e]
 exact WB _ _
theorem Vx{fp:List aB}{P:Nat->aE->Prop}{St:Nat->aG->Prop}
  (W:WalksS prog w A.in1 I fp wr G n P St) (hu:A.units+30<cLine) (S:aB) (hSf:S∉fp) (kss:List (List aA)) (hn:(fR kss).length≤4900)
  (hT : ∀ i s,St i s -> ∀ c∈wr,∀ o,s.heap.get? c=some o->o.cls ≠ .type "tuple") :
  ∀ (k i:Nat) (s:aG),n - i=k->i≤n->St i s->SetT w B s.heap S (fR (kss.take i))->(∀ j v,P j v -> ∃ b q,v = .ref b/\kss[j]?=some q/\Ada s.heap q b/\B q b) ->
   (∀ s',Moved (S::wr) G s s'->SetT w B s'.heap S (fR (kss.take n))->R (.ok (.ret .none)) s') ->
   kX (aQ prog w) A (.builtin "set.update.loop" ⟨[.ref S,.ref I],[]⟩) R s:=by
 have hSw:S∉wr:=fun z=>hSf (W.sub _ z)
 have more : ∀ b∈wr,b∈S::wr:=fun b z=>bJ _ z
 have stays : ∀ {i s s'},St i s->Moved wr G s s' -> ∀ b o vs m,s.heap.get? b=some o->o.cls = .type "tuple" -> o.data = .seq vs m->s'.heap.get? b=some o:=fun {i s s'} st hm b o vs m q c _=>
  hm.heap b o (fun z=>hT i s st b z o q c) q
 intro k
 induction k with
 | zero=>
  intro i s hk hi hst hS hP hR
  obtain rfl:i=n:=by omega
  refine lL NU ?_
  rw[nZ zS _]
  refine aJ (W.done s _ _ hst fun s' hm=>?_)
  exact aT (hR s' (hm.mono more) (hS.keep (fun o q=>hm.heap S o hSw q) (stays hst hm)))
 | succ k ih=>
  intro i s hk hi hst hS hP hR
  have hlt:i<n:=by omega
  refine lL NU ?_
  rw[nZ zS _]
  refine aJ (W.item i s _ _ hlt hst fun v s' hPi hst' hm=>?_)
  obtain⟨b,q,rfl,hq,hd,hB⟩:=hP i v hPi
  have hS':=hS.keep (fun o z=>hm.heap S o hSw z) (stays hst hm)
  have hstep:fR (kss.take (i+1))=gA (fR (kss.take i)) q:=by
   rw[vT,hq]
   simp[fR,NN]
  have hlen:=iA (Oh kss i) hn
  refine aJ (hU (Iw hS' (hd.keep (stays hst hm)) hB (by show A.units+1+20<cLine; omega) (by omega) fun h' c sb S2=>?_))
  obtain⟨o2,es2,ep2,t2,g2,_,d2,_⟩:=hS'.len
  have kt : ∀ b o vs m,s'.heap.get? b=some o->o.cls = .type "tuple" -> o.data = .seq vs m->h'.get? b=some o:=fun b o vs m z _ z'=>by
   have hne:b≠S:=by
    rintro rfl
    rw[g2] at z
    cases z
    rw[d2] at z'
    cases z'
   exact(sb.2 b hne).trans z
  refine aT ⟨qR zS _,ih (i+1) _ (by omega) hlt (W.frame _ s' _ _ hst' (Nat.le_add_right _ _) fun c hc o e=>?_) (by rw[hstep]; exact S2) (fun j v z=>?_) fun s'' hm'' S3=>?_⟩
  ·exact(sb.2 c (fun z=>hSf (z ▸ hc))).trans e
  ·obtain⟨b',q',e1,e2,e3,e4⟩:=hP j v z
   exact⟨b',q',e1,e2,(e3.keep (stays hst hm)).keep kt,e4⟩
  ·exact hR s'' (Moved.trans W.gtrans ((hm.mono more).then_heap (Nat.le_add_right _ _) fun c o hc e=>(sb.2 c (fun z=>hc (z ▸ bD))).trans e) hm'') S3
end
section
variable {B:List aA->aB->Prop}{prog:bB}{w:aU}
theorem Ut(e:h.get? a=some (Aie (!oG w))):SetT w B h a []:=
 ⟨Aie (!oG w),#[],0,.fresh 0 0 (!oG w),[],⟨e,⟨rfl,rfl,rfl⟩,rfl,Pd _,rfl,.nil,.nil⟩,.refl _⟩
set_option maxHeartbeats 4000000 in
theorem Xi(hh:A.handled=none)(hu:A.units+40<cLine)(hl:s.heap.IsList l items)
  (hd : ∀ (j:Nat) v,items[j]?=some v -> ∃ b q,v = .ref b/\kss[j]?=some q/\Ada s.heap q b/\B q b) (hlen:(fR kss).length≤4900) (hkl:kss.length=items.size)
  (h : ∀ (h':aP) (tk:Nat),s.toks≤tk->SetT w B h' s.heap.objs.size (fR kss)->(∀ b o,b<s.heap.objs.size->s.heap.get? b=some o->h'.get? b=some o)->Q (.ref s.heap.objs.size) { s with heap:=h',toks:=tk }) :
  aO (aQ prog w) A (call (.type "set") [.ref l]) Q E s:=by
 obtain⟨c,tl,hmro⟩:=jY.mro
 have hmade:=jY.made
 have hsub:=jY.sub
 refine EM (codeAny_of_tree (show aO _ _ (callAny (.type "set") _) _ _ _ from ?_))
 refine aT ⟨Code.quiet_builtin _ (by decide +kernel),lL F.entry_type_call ?_⟩
 rw[Around.under_plain (weight_type_call_type "set" [.ref l] []) rfl]
 have z1:=jY.notType
 have z2:=jY.canCreate
 have z3:=F.typeCall_set_1 (.ref l)
 repeat (any_goals (first | assumption | wp_step))
 refine pC (Qp (.ref l) (E:=E) (Q₁:=fun u s₁=>u = .ref s.heap.objs.size/\s₁ = { s with heap:=s.heap.push (Aie (!oG w)) }) ⟨rfl,rfl⟩) fun r s₁ hr=>?_
 match r,hr with
 | .error e,hr=>exact hr
 | .ok (.ret u),hr=>
  obtain⟨rfl,rfl⟩:=hr
  generalize hled:(!oG w)=led
  have gS:(s.heap.push (Aie led)).get? s.heap.objs.size=some (Aie led):=eM _ rfl
  have hT:Shared.TypeIs { s with heap:=s.heap.push (Aie led) } (.ref s.heap.objs.size) "set":=⟨_,gS,rfl⟩
  have y1:=jY.init.lookup
  have y2:=jY.init.bind (.ref s.heap.objs.size)
  repeat (any_goals (first | assumption | wp_step))
  refine pC (codeAny_call_builtin (R:=wants (fun r s₂=>r = .none /\ ∃ h' tk,s.toks≤tk/\s₂ = { s with heap:=h',toks:=tk }/\SetT w B h' s.heap.objs.size (fR kss)/\(∀ b o,b<s.heap.objs.size->s.heap.get? b=some o->h'.get? b=some o)) E) jY.init.plain F.entry_set_init (check_set_init_1 hT ?_)) fun r₂ s₂ hr₂=>?_
  ·obtain⟨ol,gl,cl,nl,dl⟩:=hl
   obtain⟨ocls,odict,odata,oslots⟩:=ol
   simp only at cl dl
   subst cl
   subst dl
   have gl':(s.heap.push (Aie led)).get? l=some { cls:=.type "list",dict:=odict,data:=.seq items nl,slots:=oslots }:=cJ _ gl
   have x1:=F.sub_list_set
   have x2:=F.sub_list_frozenset
   have x3:(jC "list" == jC "dict")=false:=by decide
   have L1:(s.heap.push (Aie led)).IsList l items:=⟨_,gl',rfl,nl,rfl⟩
   unfold Builtin.«set.__init__» noKeywords Builtin.Frozenset.updateFrom
   generalize hPI:qQ=PI
   wp_walk
   subst hPI
   refine EH L1 (aJ (wpAny_runValue ?_))
   have lS:l<s.heap.objs.size:=cG gl
   have hI:(s.heap.push (Aie led)).objs.size=s.heap.objs.size+1:=FQ _ _
   have nI:l≠(s.heap.push (Aie led)).objs.size:=by rw[hI]; exact dG (zH lS)
   have nS:s.heap.objs.size∉[(s.heap.push (Aie led)).objs.size,l]:=by
    intro z
    rw[hI] at z
    rcases cI.mp z with z | z
    ·exact absurd z (dG (Bx _))
    ·exact absurd (cN.mp z) (qV lS)
   have gI:((s.heap.push (Aie led)).push { cls:=.type "list_iterator",data:=.fields #[.ref l,.int 0 0] }).get? s.heap.objs.size=some (Aie led):=cJ _ gS
   refine Vx (w:=w) (B:=B) ((Walks.list (by simp[hh]) _ l nI items).toS) (by show A.units+1+1+30<cLine; omega) s.heap.objs.size nS kss hlen (fun i s1 st c hc o e z=>?_) (items.size - 0) 0 _ rfl (eL _) ⟨⟨_,eM _ rfl,rfl,rfl⟩,L1.push _⟩ (Ut (by rw[hled]; exact gI)) (fun j v e=>?_) fun s' hm S'=>?_
   ·obtain⟨⟨o',g',c',_⟩,_⟩:=st
    rw[cN.mp hc,g'] at e
    cases e
    rw[c'] at z
    exact absurd z (by decide)
   ·obtain⟨b,q,q1,q2,q3,q4⟩:=hd j v e
    exact⟨b,q,q1,q2,q3.keep fun b o vs m z _ _=>cJ _ (cJ _ z),q4⟩
   ·obtain⟨h',g',d',tk',os'⟩:=s'
    obtain rfl:g'=s.gens:=hm.gens
    obtain rfl:d'=s.drawn:=hm.drawn
    obtain rfl:os'=s.os:=hm.os
    show aO _ _ _ _ _ _
    refine aT ?_
    show aO _ _ (ret fA) _ _ _
    refine aT ⟨rfl,h',tk',hm.toks,rfl,by rw[← zJ (l:=kss),hkl]; exact S',fun b o hb e=>?_⟩
    refine hm.heap b o (fun z=>?_) (cJ _ (cJ _ e))
    rw[hI] at z
    rcases cI.mp z with z | z
    ·exact absurd z (dG hb)
    ·exact absurd (cN.mp z) (dG (zH hb))
  ·match r₂,hr₂ with
   | .error e,hr₂=>exact hr₂
   | .ok (.ret v),hr₂=>
    obtain⟨rfl,h',tk,ht,rfl,S',hk'⟩:=hr₂
    repeat (any_goals (first | assumption | wp_step))
    exact h _ _ ht S' hk'
end
def OM (H:Hp)(o:aW)(kss:List (List aA)):Prop:=∃ es ep t ks as,o.ExactSet/\o.data = .set es ep t/\t.fits es.size=true/\es.toList.map (·.2)=as.map dD/\dB (Ah6 H) ks as/\ks.Perm kss/\es.size≤4914
abbrev isO (a:aB)(o:aW):HO:=.ext fun h=>h.get? a=some o
theorem TY {w:aU} : ∀ {es:List (Int×aE)} {ks:List (List aA)},dB (ElT w (Ah6 H) h) es ks -> ∃ as,es.map (·.2)=as.map dD/\dB (Ah6 H) ks as
 | _,_,.nil=>⟨[],rfl,.nil⟩
 | _,_,.cons ⟨b,e,_,_,q⟩ t=>by
  obtain⟨as,e2,p⟩:=TY t
  exact⟨b::as,by rw[dC,dC,e,e2],.cons q p⟩
abbrev Refs (H:Hp)(ys:List V)(kss:List (List aA)):Prop:=dB (fun y k=>∃ b,y=V.ref b/\Ah6 H k b) ys kss
theorem Wt (hc:X.calm=true)(hu:X.A.units+40<cLine):Adg X (.type "set") (fun xs H Q=>∃ p ys kss,xs=[.ref p]/\SqL X.K H p ys/\Refs H ys kss/\kss.length≤75 /\ ∀ a o,H a=none->OM H o (fR kss)->Q (.ref a) (upd H a (isO a o))):=by
 intro pins s σ H xs us Q I r h
 obtain⟨p,ys,kss,rfl,hp,rf,hl,q⟩:=h
 obtain⟨u,rfl,ru⟩:=vals1 r
 cases ru
 obtain⟨its,rv,pl,_⟩:=I.list hp
 have e1:=rv.length
 have e2:=kJ rf
 refine Xi (B:=Ah6 H) (kss:=kss) (I.ok.hd hc) hu pl.isList (fun j v ev=>?_) (iA (iA (JK _) hl) (by decide)) (by rw[eB]; omega) fun h' tk ht S' hk=>?_
 ·have ev':its[j]?=some v:=by simpa using ev
  obtain⟨y,hy,ry⟩:=BH rv ev'
  obtain⟨k,hk,b,rfl,tk⟩:=wU rf hy
  cases ry
  exact⟨b,k,rfl,hk,pR I.hok tk,tk⟩
 ·obtain⟨o,es,ep,t,ks',Z,pm⟩:=S'
  obtain⟨as,ea,pa⟩:=TY Z.els
  have I':=I.laid (t':=tk) (h':=h') (o:=isO s.heap.objs.size o) (fun b u e=>hk b u (cG e) e) (bP _) (show Ach X.prog X.w _ _ _ (.ext _) from⟨Z.get,⟨o,Z.get⟩,fun _ _ e k=>k _ e⟩)
  exact⟨.ref s.heap.objs.size,_,I',rfl,q _ o I.fresh ⟨es,ep,t,ks',as,Z.exact,Z.data,Z.fine.fits,ea,pa,pm,Z.fine.few.2⟩⟩
theorem Xg:Adg X (.builtin "len") (fun xs H Q=>∃ a o kss,xs=[.ref a]/\H a=some (isO a o)/\(∃ H0,OM H0 o kss)/\Q (.int kss.length) H):=by
 intro pins s σ H xs us Q I r h
 obtain⟨a,o,kss,rfl,ha,⟨H0,es,ep,t,ks,as,hx,hd,hf,e1,e2,e3,e4⟩,q⟩:=h
 obtain⟨u,rfl,ru⟩:=vals1 r
 cases ru
 obtain⟨g,_,_⟩:=(show Ach X.prog X.w H s.heap a (.ext _) from I.hok a _ ha)
 have hz:es.size=kss.length:=by
  have:=congrArg pH e1
  rw[bX,bX,gV] at this
  rw[this,← kJ e2,e3.length_eq]
 exact call_len_set g hx hd hf (by omega) ⟨.int kss.length,H,I.tok _,⟨s.toks+1,by rw[hz]⟩,q⟩
def As:List aA->Option aA
 | [.list ds]=>(jO ds).bind fun kss=>if kss.length≤75 then some (.int (fR kss).length) else none
 | _=>none
theorem QB {K:aH} : ∀ {kss:List (List aA)} {ys:List V},(∀ ks∈kss,bU ks=true/\cV ks≤6)->Aan K H (kss.map fL) ys->Refs H ys kss
 | [],ys,_,r=>by rw[Aaj.mp r]; exact .nil
 | k::kss,ys,hk,r=>by
  obtain⟨v,t,rfl,r1,r2⟩:=Aac.mp r
  obtain⟨b,rfl,tk⟩:=r1.tupK (hk k bD).1 (hk k bD).2
  exact .cons ⟨b,rfl,tk⟩ (QB (fun x m=>hk x (bJ _ m)) r2)
theorem Refs.le(x : ∀ c zs,H c=some (.tup zs)->H' c=some (.tup zs)){ys:List V}(r:Refs H ys kss):Refs H' ys kss:=wW (fun y k ⟨b,e,t⟩=>⟨b,e,t.keep x⟩) r
theorem Mu{fe:EF}{pos1 pos2:bQ}(hc:X.calm=true)(hu:X.A.units+40<cLine)(g1:Gl X "len")(m1:X.mg "len" = none)(g2:Gl X "set")(m2:X.mg "set" = none)(he:DE X e fe)
  (hs1:bE [Expr.Call (.Name "set" p2) [e] [] pos2] X.env=[(false,bH (Expr.Call (.Name "set" p2) [e] [] pos2) X.env)]:=by rfl) (hs2:bE [e] X.env=[(false,bH e X.env)]:=by rfl) :
  DE X (.Call (.Name "len" p1) [.Call (.Name "set" p2) [e] [] pos2] [] pos1) (aN As (aK fe aM)):=by
 have h1:PE X (.Call (.Name "set" p2) [e] [] pos2) _:=JX (Wt hc hu) g2 m2 rfl (fV he iR hs2) (by decide) (by decide) hs2 rfl
 have h2:PE X (.Call (.Name "len" p1) [.Call (.Name "set" p2) [e] [] pos2] [] pos1) _:=BR Xg g1 m1 rfl (fV h1 iR hs1) (by decide) (by decide) hs1 rfl
 refine PE.imp h2 fun σ H Q gh=>?_
 obtain⟨P,ρ,d,hP,rs,ef,k⟩:=gh
 obtain⟨ds0,e0,ef⟩:=XBs ef
 obtain⟨d1,e1,e0⟩:=XBs e0
 have e0:[d1]=ds0:=by simpa [aM] using e0
 subst e0
 cases d1 with
 | list ds=>
  obtain⟨kss,e2,ef⟩:=XBs (show((jO ds).bind fun kss=>if kss.length≤75 then some (aZ (fR kss).length) else none)=some d from ef)
  obtain⟨hl,rfl⟩:=cU ef
  obtain⟨rfl,hk⟩:=BM e2
  refine⟨P,ρ,.list (kss.map fL),hP,rs,e1,dA fun v H1 x1 r1=>?_⟩
  obtain⟨q,ys,rfl,hq,rr⟩:=Abf.mp r1
  exact⟨q,ys,kss,rfl,Aay.sqL hq,Refs.le (fun c zs e=>Aay _ _ e) (QB hk rr),hl,fun a o hn S=>⟨a,o,fR kss,rfl,cP,⟨H1,S⟩,k.zero (x1.trans (Ext.new hn)) (Aaq.mpr rfl)⟩⟩
 | _=>cases ef
instance memK (k:aL)(acc:List aL):Decidable (k∈acc):=decidable_of_iff (acc.any (fun x=>decide (x=k))=true) (by simp[Co])
def gY (acc:List aL)(k:aL):List aL:=if k∈acc then acc else acc++[k]
def dN (ks:List aL):List aL:=ks.foldl gY []
theorem Wl (ks:List aL):(dN ks).length≤ks.length:=by
 have go : ∀ (l acc:List aL),(l.foldl gY acc).length≤acc.length+l.length:=by
  intro l
  induction l with
  | nil=>intro acc; simp
  | cons x r ih=>
   intro acc
   have h2:(gY acc x).length≤acc.length+1:=by unfold gY; split <;> simp
   have:=ih (gY acc x)
   simp only[pI,eD]
   omega
 have:=go ks []
 simpa [dN] using this
def Ayd (prog:bB)(w:aU)(h:aP)(a:aB)(ks:List aL):Prop:=h.SetOf (eZ prog w) a (fun k=>decide (k∈ks)) ks.length
section
variable {prog:bB}{w:aU}
theorem Sx{led:Bool}(e:h.get? a=some (Aie led)):Ayd prog w h a []:=
 ⟨_,#[],0,_,e,⟨rfl,rfl,rfl⟩,rfl,fun e he=>by simp at he,fun k=>by simp,by decide,by rfl,rfl⟩
theorem Ayd.keep{ks:List aL}(S:Ayd prog w h a ks)(k : ∀ o,h.get? a=some o->h'.get? a=some o):Ayd prog w h' a ks:=by
 obtain⟨o,es,ep,t,ho,rest⟩:=S
 exact⟨o,es,ep,t,k o ho,rest⟩
theorem Ayd.congr{S:aL->Bool}{ks:List aL}(x:h.SetOf (eZ prog w) a S n)(e1 : ∀ k,S k=decide (k∈ks))(e2:n=ks.length):Ayd prog w h a ks:=by
 have:S=fun k=>decide (k∈ks):=funext e1
 subst this
 subst e2
 exact x
theorem Xb{fp:List aB}{P:Nat->aE->Prop}{St:Nat->aG->Prop}
  (W:WalksS prog w A.in1 I fp wr G n P St) (S:aB) (hSf:S∉fp) (kss:List aL) (hn:n+1<EO) (hP : ∀ j v,P j v -> ∃ q,kss[j]?=some q/\(eZ prog w).is q v=true/\v.scannable=true) :
  ∀ (k i:Nat) (s:aG),n - i=k->i≤n->St i s->Ayd prog w s.heap S (dN (kss.take i)) ->
   (∀ s',Moved (S::wr) G s s'->Ayd prog w s'.heap S (dN (kss.take n))->R (.ok (.ret .none)) s') ->
   kX (aQ prog w) A (.builtin "set.update.loop" ⟨[.ref S,.ref I],[]⟩) R s:=by
 have hSw:S∉wr:=fun z=>hSf (W.sub _ z)
 have more : ∀ b∈wr,b∈S::wr:=fun b z=>bJ _ z
 intro k
 induction k with
 | zero=>
  intro i s hk hi hst hS hR
  obtain rfl:i=n:=by omega
  refine lL NU ?_
  rw[nZ zS _]
  refine aJ (W.done s _ _ hst fun s' hm=>?_)
  exact aT (hR s' (hm.mono more) (hS.keep fun o q=>hm.heap S o hSw q))
 | succ k ih=>
  intro i s hk hi hst hS hR
  have hlt:i<n:=by omega
  refine lL NU ?_
  rw[nZ zS _]
  refine aJ (W.item i s _ _ hlt hst fun v s' hPi hst' hm=>?_)
  obtain⟨q,hq,his,hsc⟩:=hP i v hPi
  have hS':=hS.keep fun o z=>hm.heap S o hSw z
  have hstep:dN (kss.take (i+1))=gY (dN (kss.take i)) q:=by
   rw[vT,hq]
   simp[dN,NN]
  have hlen:(dN (kss.take i)).length≤i:=iA (Wl _) (by rw[lC]; omega)
  refine aJ (hU ?_)
  unfold setAdd
  refine hU (aJ ((eZ prog w).pyHash his ?_))
  refine wpAny_setAddHashed_of his hsc hS' (by omega) fun h' sb S2=>?_
  have S3:Ayd prog w h' S (dN (kss.take (i+1))):=by
   rw[hstep]
   refine Ayd.congr S2 (fun k'=>?_) ?_
   ·unfold gY
    by_cases m:q∈dN (kss.take i)
    ·rw[if_pos m]
     by_cases c:k'=q
     ·subst c; simp[m]
     ·simp[c]
    ·rw[if_neg m]
     simp
   ·unfold gY
    by_cases m:q∈dN (kss.take i)
    ·simp[m]
    ·simp[m]
  refine aT ⟨qR zS _,ih (i+1) _ (by omega) hlt (W.frame _ s' _ _ hst' (qW _) fun c hc o e=>?_) S3 fun s'' hm'' S4=>?_⟩
  ·exact(sb.2 c (fun z=>hSf (z ▸ hc))).trans e
  ·exact hR s'' (Moved.trans W.gtrans ((hm.mono more).then_heap (qW _) fun c o hc e=>(sb.2 c (fun z=>hc (z ▸ bD))).trans e) hm'') S4
set_option maxHeartbeats 4000000 in
theorem Mj{kss:List aL}(hh:A.handled=none)(hl:s.heap.IsList l items)
  (hd : ∀ (j:Nat) v,items[j]?=some v -> ∃ q,kss[j]?=some q/\(eZ prog w).is q v=true/\v.scannable=true) (hlen:items.size+1<EO) (hkl:kss.length=items.size)
  (h : ∀ (h':aP) (tk:Nat),s.toks≤tk->Ayd prog w h' s.heap.objs.size (dN kss)->(∀ b o,b<s.heap.objs.size->s.heap.get? b=some o->h'.get? b=some o)->Q (.ref s.heap.objs.size) { s with heap:=h',toks:=tk }) :
  aO (aQ prog w) A (call (.type "set") [.ref l]) Q E s:=by
 obtain⟨c,tl,hmro⟩:=jY.mro
 have hmade:=jY.made
 have hsub:=jY.sub
 refine EM (codeAny_of_tree (show aO _ _ (callAny (.type "set") _) _ _ _ from ?_))
 refine aT ⟨Code.quiet_builtin _ (by decide +kernel),lL F.entry_type_call ?_⟩
 rw[Around.under_plain (weight_type_call_type "set" [.ref l] []) rfl]
 have z1:=jY.notType
 have z2:=jY.canCreate
 have z3:=F.typeCall_set_1 (.ref l)
 repeat (any_goals (first | assumption | wp_step))
 refine pC (code_set_new_1 (.ref l) (E:=E) (Q₁:=fun u s₁=>∃ led:Bool,u = .ref s.heap.objs.size/\s₁ = { s with heap:=s.heap.push (Aie led) }) fun led=>⟨led,rfl,rfl⟩) fun r s₁ hr=>?_
 match r,hr with
 | .error e,hr=>exact hr
 | .ok (.ret u),hr=>
  obtain⟨led,rfl,rfl⟩:=hr
  have gS:(s.heap.push (Aie led)).get? s.heap.objs.size=some (Aie led):=eM _ rfl
  have hT:Shared.TypeIs { s with heap:=s.heap.push (Aie led) } (.ref s.heap.objs.size) "set":=⟨_,gS,rfl⟩
  have y1:=jY.init.lookup
  have y2:=jY.init.bind (.ref s.heap.objs.size)
  repeat (any_goals (first | assumption | wp_step))
  refine pC (codeAny_call_builtin (R:=wants (fun r s₂=>r = .none /\ ∃ h' tk,s.toks≤tk/\s₂ = { s with heap:=h',toks:=tk }/\Ayd prog w h' s.heap.objs.size (dN kss)/\(∀ b o,b<s.heap.objs.size->s.heap.get? b=some o->h'.get? b=some o)) E) jY.init.plain F.entry_set_init (check_set_init_1 hT ?_)) fun r₂ s₂ hr₂=>?_
  ·obtain⟨ol,gl,cl,nl,dl⟩:=hl
   obtain⟨ocls,odict,odata,oslots⟩:=ol
   simp only at cl dl
   subst cl
   subst dl
   have gl':(s.heap.push (Aie led)).get? l=some { cls:=.type "list",dict:=odict,data:=.seq items nl,slots:=oslots }:=cJ _ gl
   have x1:=F.sub_list_set
   have x2:=F.sub_list_frozenset
   have x3:(jC "list" == jC "dict")=false:=by decide
   have L1:(s.heap.push (Aie led)).IsList l items:=⟨_,gl',rfl,nl,rfl⟩
   unfold Builtin.«set.__init__» noKeywords Builtin.Frozenset.updateFrom
   generalize hPI:qQ=PI
   wp_walk
   subst hPI
   refine EH L1 (aJ (wpAny_runValue ?_))
   have lS:l<s.heap.objs.size:=cG gl
   have hI:(s.heap.push (Aie led)).objs.size=s.heap.objs.size+1:=FQ _ _
   have nI:l≠(s.heap.push (Aie led)).objs.size:=by rw[hI]; exact dG (zH lS)
   have nS:s.heap.objs.size∉[(s.heap.push (Aie led)).objs.size,l]:=by
    intro z
    rw[hI] at z
    rcases cI.mp z with z | z
    ·exact absurd z (dG (Bx _))
    ·exact absurd (cN.mp z) (qV lS)
   have gI:((s.heap.push (Aie led)).push { cls:=.type "list_iterator",data:=.fields #[.ref l,.int 0 0] }).get? s.heap.objs.size=some (Aie led):=cJ _ gS
   refine Xb (w:=w) ((Walks.list (by simp[hh]) _ l nI items).toS) s.heap.objs.size nS kss hlen hd (items.size - 0) 0 _ rfl (eL _) ⟨⟨_,eM _ rfl,rfl,rfl⟩,L1.push _⟩ (Sx gI) fun s' hm S'=>?_
   ·obtain⟨h',g',d',tk',os'⟩:=s'
    obtain rfl:g'=s.gens:=hm.gens
    obtain rfl:d'=s.drawn:=hm.drawn
    obtain rfl:os'=s.os:=hm.os
    show aO _ _ _ _ _ _
    refine aT ?_
    show aO _ _ (ret fA) _ _ _
    refine aT ⟨rfl,h',tk',hm.toks,rfl,by rw[← zJ (l:=kss),hkl]; exact S',fun b o hb e=>?_⟩
    refine hm.heap b o (fun z=>?_) (cJ _ (cJ _ e))
    rw[hI] at z
    rcases cI.mp z with z | z
    ·exact absurd z (dG hb)
    ·exact absurd (cN.mp z) (dG (zH hb))
  ·match r₂,hr₂ with
   | .error e,hr₂=>exact hr₂
   | .ok (.ret v),hr₂=>
    obtain⟨rfl,h',tk,ht,rfl,S',hk'⟩:=hr₂
    repeat (any_goals (first | assumption | wp_step))
    exact h _ _ ht S' hk'
end
def PV (prog:bB)(w:aU)(o:aW)(ks:List aL):Prop:=∃ es ep t,o.ExactSet/\o.data = .set es ep t/\ElemsOf (eZ prog w) es.toList/\(∀ k,k∈ks ↔ ∃ e∈es.toList,(eZ prog w).is k e.2=true)/\es.size<EO/\t.fits es.size=true/\es.size=ks.length
theorem Nr (hc:X.calm=true):Adg X (.type "set") (fun xs H Q=>∃ p ks,xs=[.ref p]/\SqL X.K H p (ks.map kV)/\ks.length≤4000 /\ ∀ a o,H a=none->PV X.prog X.w o (dN ks)->Q (.ref a) (upd H a (isO a o))):=by
 intro pins s σ H xs us Q I r h
 obtain⟨p,ks,rfl,hp,hl,q⟩:=h
 obtain⟨u,rfl,ru⟩:=vals1 r
 cases ru
 obtain⟨its,rv,pl,_⟩:=I.list hp
 have e1:=rv.length
 rw[bX] at e1
 refine Mj (I.ok.hd hc) pl.isList (fun j v ev=>?_) (by rw[eB]; unfold EO; omega) (by rw[eB]; omega) fun h' tk ht S' hk=>?_
 ·have ev':its[j]?=some v:=by simpa using ev
  obtain⟨y,hy,ry⟩:=BH rv ev'
  rw[fD] at hy
  obtain⟨k,hk,rfl⟩:=hX.mp hy
  refine⟨k,hk,pO ry,?_⟩
  cases k with
  | inl i=>obtain⟨t,rfl⟩:=ry; rfl
  | inr z=>obtain⟨t,rfl⟩:=ry; rfl
 ·obtain⟨o,es,ep,t,ho,hex,hd,hel,hmem,hb,hf,hn⟩:=S'
  have I':=I.laid (t':=tk) (h':=h') (o:=isO s.heap.objs.size o) (fun b u e=>hk b u (cG e) e) (bP _) (show Ach X.prog X.w _ _ _ (.ext _) from⟨ho,⟨o,ho⟩,fun _ _ e k=>k _ e⟩)
  exact⟨.ref s.heap.objs.size,_,I',rfl,q _ o I.fresh ⟨es,ep,t,hex,hd,hel,fun k=>by rw[← hmem k]; simp,hb,hf,hn⟩⟩
theorem Oo:Adg X (.builtin "len") (fun xs H Q=>∃ a o ks,xs=[.ref a]/\H a=some (isO a o)/\PV X.prog X.w o ks/\Q (.int ks.length) H):=by
 intro pins s σ H xs us Q I r h
 obtain⟨a,o,ks,rfl,ha,⟨es,ep,t,hx,hd,_,_,hb,hf,hz⟩,q⟩:=h
 obtain⟨u,rfl,ru⟩:=vals1 r
 cases ru
 obtain⟨g,_,_⟩:=(show Ach X.prog X.w H s.heap a (.ext _) from I.hok a _ ha)
 exact call_len_set g hx hd hf (by unfold EO at hb; omega) ⟨.int ks.length,H,I.tok _,⟨s.toks+1,by rw[hz]⟩,q⟩
def nG:List aA->Option (List aL)
 | []=>some []
 | d::r=>(bR d).bind fun k=>(nG r).bind fun ks=>some (k::ks)
theorem UJ {K:aH} : ∀ {ds:List aA} {ks:List aL} {ys:List V},nG ds=some ks->Aan K H ds ys->ys=ks.map kV
 | [],ks,ys,e,r=>by cases e; exact Aaj.mp r
 | d::ds,ks,ys,e,r=>by
  obtain⟨k,e1,e⟩:=XBs e
  obtain⟨ks',e2,e⟩:=XBs e
  cases e
  obtain⟨v,t,rfl,r1,r2⟩:=Aac.mp r
  rw[qE e1 r1,UJ e2 r2]
  rfl
def IP:List aA->Option aA
 | [.list ds]=>(nG ds).bind fun ks=>if ks.length≤4000 then some (.int (dN ks).length) else none
 | _=>none
theorem VT{fe:EF}{pos1 pos2:bQ}(hc:X.calm=true)(g1:Gl X "len")(m1:X.mg "len" = none)(g2:Gl X "set")(m2:X.mg "set" = none)(he:DE X e fe)
  (hs1:bE [Expr.Call (.Name "set" p2) [e] [] pos2] X.env=[(false,bH (Expr.Call (.Name "set" p2) [e] [] pos2) X.env)]:=by rfl) (hs2:bE [e] X.env=[(false,bH e X.env)]:=by rfl) :
  DE X (.Call (.Name "len" p1) [.Call (.Name "set" p2) [e] [] pos2] [] pos1) (aN IP (aK fe aM)):=by
 have h1:PE X (.Call (.Name "set" p2) [e] [] pos2) _:=JX (Nr hc) g2 m2 rfl (fV he iR hs2) (by decide) (by decide) hs2 rfl
 have h2:PE X (.Call (.Name "len" p1) [.Call (.Name "set" p2) [e] [] pos2] [] pos1) _:=BR Oo g1 m1 rfl (fV h1 iR hs1) (by decide) (by decide) hs1 rfl
 refine PE.imp h2 fun σ H Q gh=>?_
 obtain⟨P,ρ,d,hP,rs,ef,k⟩:=gh
 obtain⟨ds0,e0,ef⟩:=XBs ef
 obtain⟨d1,e1,e0⟩:=XBs e0
 have e0:[d1]=ds0:=by simpa [aM] using e0
 subst e0
 cases d1 with
 | list ds=>
  obtain⟨ks,e2,ef⟩:=XBs (show((nG ds).bind fun ks=>if ks.length≤4000 then some (aZ (dN ks).length) else none)=some d from ef)
  obtain⟨hl,rfl⟩:=cU ef
  refine⟨P,ρ,.list ds,hP,rs,e1,dA fun v H1 x1 r1=>?_⟩
  obtain⟨q,ys,rfl,hq,rr⟩:=Abf.mp r1
  obtain rfl:=UJ e2 rr
  exact⟨q,ks,rfl,Aay.sqL hq,hl,fun a o hn S=>⟨a,o,dN ks,rfl,cP,S,k.zero (x1.trans (Ext.new hn)) (Aaq.mpr rfl)⟩⟩
 | _=>cases ef
section
variable {prog:bB}{w:aU}
def ElI (prog:bB)(w:aU)(e:Int×aE)(n:Int):Prop:=e.1=(intKind prog w).hash n /\ ∃ t,e.2 = .int n t
structure IntsAt (prog:bB)(w:aU)(h:aP)(a:aB)(o:aW)(es:Array (Int×aE))(ep:Nat)(t:fX)(ns:List Int):Prop where
 get:h.get? a=some o
 exact:o.ExactSet
 data:o.data = .set es ep t
 fine:Fine t es
 led:t.led = !oG w
 plain:t.plain=true
 els:dB (ElI prog w) es.toList ns
 nod:ns.Nodup
def Bg8 (prog:bB)(w:aU)(h:aP)(a:aB)(ns:List Int):Prop:=∃ o es ep t ns',IntsAt prog w h a o es ep t ns'/\ns'.Perm ns
theorem Bg8.keep{ns:List Int}(S:Bg8 prog w h a ns)(k : ∀ o,h.get? a=some o->h'.get? a=some o):Bg8 prog w h' a ns:=by
 obtain⟨o,es,ep,t,ns',S,p⟩:=S
 exact⟨o,es,ep,t,ns',⟨k o S.get,S.exact,S.data,S.fine,S.led,S.plain,S.els,S.nod⟩,p⟩
end
open PySem PySem.Spec PySem.W PyProof.Rows PySem.SetTable
theorem IJ {α:Type}(xs:List α)(d:α):(cW xs.length).map (fun i=>xs.getD i d)=xs:=by
 apply List.ext_getElem
 ·simp
 ·intro i h1 h2
  simp at h1
  simp[h1]
section
variable {prog:bB}{w:aU}
theorem Ug {h0:aP}{P:PySem.Fin->aG->Prop}(ho:s.heap.get? a=some (gF "list" vs.toArray n))(ht:Agg h0 vs kss)(kp : ∀ b o,h0.get? b=some o->(jS s.heap a vs).get? b=some o)(ok:okT kss=true)(h64:vs.length<64)
  (h : ∀ p:List Nat,p.Perm (cW vs.length)->p.map (fun i=>kss.getD i [])=jF kss->P (.done (.ret .none)) { s with heap:=sortedHeap s.heap a vs (iB (p.map fun i=>vs.getD i fA)) }) :
  aO (aQ prog w) A (Builtin.«list.sort» ⟨[.ref a],[]⟩) P E s:=by
 have ln:=kJ ht
 by_cases h2:vs.length<2
 ·refine RI ho h2 ?_
  have:=h (cW vs.length) (FP _) (by
   rw[ln,IJ kss]
   refine CN ok (FP _) ?_
   match kss,ln with
   | [],_=>exact .nil
   | [k],_=>simp
   | _::_::_,ln=>simp at ln; omega)
  rw[IJ vs] at this
  exact this
 ·have hs:sameAll kss=true/\(kss.all fun k=>(kP k).isSome)=true:=by
   have h2' : ¬ kss.length<2:=by omega
   have:(sameAll kss&&kss.all fun k=>(kP k).isSome)=true:=by simpa [okT,h2'] using ok
   exact iC.mp this
  obtain⟨k0,m0⟩ : ∃ k0,k0∈kss:=by
   cases hk:kss with
   | nil=>rw[hk] at ln; exact absurd ln (by simp; intro e; rw[e] at h2; simp at h2)
   | cons k r=>exact⟨k,bD⟩
  obtain⟨T,hT⟩:=pE.mp (eE.mp hs.2 k0 m0)
  have sm : ∀ k∈kss,∀ k'∈kss,gZ k k'=true:=fun k m k' m'=>eE.mp (eE.mp hs.1 k m) k' m'
  have ht':=ht.keep kp
  refine ZU (κ:=tuples' (jC T != jC "tuple")) (XX kss) ho (by omega) h64 (fun R q=>?_) (fun i j C hi hj q=>?_) fun p hp ha=>?_
  ·obtain⟨fs,f1,f2,f3⟩:=JJ (M:=aQ prog w) ht' fun k m=>(same_kind (sm k m k0 m0)).trans hT
   exact kat_kind f1 (by omega) f3 (by rcases QI hT with rfl | rfl <;> decide) q
  ·obtain⟨b,e1,⟨_,_,as,r1⟩,m1⟩:=ht'.get i hi
   obtain⟨b',e2,⟨_,_,as',r2⟩,m2⟩:=ht'.get j hj
   rw[e1,e2]
   obtain⟨_,o,xs,n,z,ho,_,hd,hr⟩:=mW r1
   cases z
   obtain⟨_,o',xs',n',z,ho',_,hd',hr'⟩:=mW r2
   cases z
   have hsm:=sm _ m1 _ m2
   have l1:=xR hr
   have l2:=xR hr'
   have ll:=CJ hsm
   have:decide (xs.size<xs'.size)=false:=decide_eq_false (by simp only[gV] at l1 l2; omega)
   refine kat_lt (s:={ s with heap:=jS s.heap a vs }) ho hd ho' hd' ?_
   rw[this]
   exact AJ _ _ 0 hsm hr hr' q
  ·have hp':p.toList.Perm (cW vs.length):=by simpa using Yc.mp hp
   have pl:p.toList.length=vs.length:=by rw[hp'.length_eq,FL]
   refine h p.toList hp' (CN ok ?_ ?_)
   ·have:=hp'.map (fun i=>kss.getD i [])
    rw[ln,IJ kss] at this
    exact this
   ·rw[pF,Cb]
    intro i j hi hj hij
    refine Aid.mpr ?_
    have:=ha i j (vR hij) (by omega)
    have e1:at' p i=p.toList[i]:=by simp at hi; simp[at',hi]
    have e2:at' p j=p.toList[j]:=by simp at hj; simp[at',hj]
    rw[e1,e2] at this
    exact of_decide_eq_false this
theorem Ai {α β:Type}{R:α->β->Prop}{as:List α}{bs:List β}(h:dB R as bs)(x:α)(y:β) : ∀ p:List Nat,(∀ i∈p,i<as.length)->dB R (p.map fun i=>as.getD i x) (p.map fun i=>bs.getD i y)
 | [],_=>.nil
 | i::p,hi=>by
  refine .cons ?_ (Ai h x y p fun j m=>hi j (bJ _ m))
  have hlt:=hi i bD
  obtain⟨b,hb,r⟩:=wU h (jW hlt)
  have e1:as.getD i x=as[i]:=by simp[hlt]
  have e2:bs.getD i y=b:=by simp[hb]
  show R (as.getD i x) (bs.getD i y)
  rw[e1,e2]
  exact r
end
theorem Uq{kvs:List (aL×V)}{g:TG}{tb:TS}{D:Ends}{σ:St}(Pv:Nat->St->Hp->Prop)(h0:Pv 0 σ H)(hl : ∀ i σ H,i≤kvs.length->Pv i σ H->H a=some (.dK ep kvs))
  (hs : ∀ i kv σ H,kvs[i]?=some kv->Pv i σ H->g (kV kv.1) σ H fun σ2 H2=>tb { D with nx:=Pv (i+1),ct:=Pv (i+1),bk:=D.nx } σ2 H2) (hd : ∀ σ H,Pv kvs.length σ H->D.nx σ H) :
  ∃ W:Nat->Nat->St->Hp->Prop,(∃ m,W 0 m σ H) /\ ∀ i m σ H,W i m σ H ->
   ((tM a ep kvs.length).stop i H/\D.nx σ H) \/ ((tM a ep kvs.length).go i H /\ ∃ N:St->Hp->Prop,(∀ σ' H',N σ' H' -> ∃ m',m'<m/\W (i+1) m' σ' H') /\ ∀ x H',(tM a ep kvs.length).yld i H x H'->g x σ H' fun σ2 H2=>tb { D with nx:=N,ct:=N,bk:=D.nx } σ2 H2):=by
 refine⟨fun i m σ H=>m=kvs.length - i/\i≤kvs.length/\Pv i σ H,⟨kvs.length,by simp,eL _,h0⟩,?_⟩
 rintro i m σ H ⟨rfl,hi,p⟩
 have q:=hl i σ H hi p
 by_cases hlt:i<kvs.length
 ·refine .inr ⟨⟨kvs,kvs[i],q,rfl,by simp[hlt]⟩,Pv (i+1),fun σ' H' p'=>⟨kvs.length - (i+1),by omega,rfl,hlt,p'⟩,fun x H' y=>?_⟩
  obtain⟨rfl,y⟩:=y
  obtain⟨kv,h1,rfl⟩:=y kvs q
  exact hs i kv σ _ h1 p
 ·have e:i=kvs.length:=by omega
  subst e
  exact .inl ⟨⟨kvs,q,rfl,bP _⟩,hd σ H p⟩
theorem LJ (hc:X.calm=true):Adg X (.builtin "sorted") (fun xs H Q=>∃ a ep kvs,∃ ns:List aD,xs=[.ref a]/\H a=some (.dK ep kvs)/\(kvs.map fun kv=>kV kv.1)=ns.map V.str/\ns.length<64 /\ ∀ (l:aB) (ns':List aD),H l=none->ns'.Perm ns->ns'.Pairwise leS->Q (.ref l) (upd H l (.lst (ns'.map V.str)))):=by
 intro pins s σ H xs us Q I r h
 obtain⟨a,ep1,kvs,ns,rfl,ha,hk,hl,q⟩:=h
 obtain⟨u,rfl,ru⟩:=vals1 r
 cases ru
 obtain⟨z,nm,es,ep,D,rv,el⟩:=Hj I ha
 have hh:=I.ok.hd hc
 refine FT kind_sorted plain_sorted entry_sorted (args_sorted1 _) ?_
 unfold Builtin.«sorted»
 have hkl:kvs.length=ns.length:=by simpa using congrArg pH hk
 refine aJ (aT (aJ (XA (by simp[hh]) nm D (by omega) fun s' acc hkp hg hd hos hacc=>aJ (zA ?_ (by
  have:=hacc.1
  rw[gV,this]
  omega)))))
 obtain⟨h',g',d',tk',os'⟩:=s'
 have e1:=hg
 have e2:=hd
 have e3:=hos
 subst e1 e2 e3
 rw[← UR hacc,hk] at rv
 have hS:=OY rv
 have hlen:acc.toList.length<64:=by
  have:=hacc.1
  rw[gV,this]
  omega
 generalize acc.toList=vs at rv hS hlen
 have hoL:(h'.push (gF "list" vs.toArray 0)).get? h'.objs.size=some (gF "list" vs.toArray 0):=eM _ rfl
 refine aJ (hU (qP MK ⟨_,hoL,rfl⟩ MM (list_sort_treeK strKind_oneLt hoL hS.keysOf (fun v₁ v₂ rest e=>keyKind_strs (by rw[← e]; exact hS)) hlen fun st' a1 a2=>⟨_,rfl,?_⟩) (MN _)))
 refine aT ⟨_,rfl,?_⟩
 obtain⟨ss',h1,h2,h3⟩:=sorted_out_str hS a1 a2
 obtain⟨e,he⟩:=sortedHeap_at hoL
 have I1:Inv X pins σ H { s with heap:=h',toks:=tk' }:=I.kept (t':=tk') hkp
 refine⟨.ref h'.objs.size,_,I1.laid (t':=tk') (a:=h'.objs.size) (o:=.lst (ss'.map V.str)) (fun b ob eb=>?_) (bP _) ⟨by rw[bX,h2.length_eq]; omega,_,e,PL h1,he⟩,rfl,q _ ss' I1.fresh h2 (Qn h3)⟩
 have hb:=cG (show h'.get? b=some ob from eb)
 rw[sortedHeap_old (dG hb) (by rw[size_push']; exact zH hb),Cr _ _ _ (dG hb)]
 exact eb
def uP:List aA->Option aA
 | [.dict kds]=>(rD (kds.map (·.1))).bind fun is=>if (plK kds&&kds.all fun kd=>cQ kd.1)=true/\is.length<64 then some (.list ((cT is).map cF)) else none
 | _=>none
theorem LA {K:aH}:CallD K 1 (fun xs H Q=>∃ a ep kvs,∃ ns:List aD,xs=[.ref a]/\H a=some (.dK ep kvs)/\(kvs.map fun kv=>kV kv.1)=ns.map V.str/\ns.length<64 /\ ∀ (l:aB) (ns':List aD),H l=none->ns'.Perm ns->ns'.Pairwise leS->Q (.ref l) (upd H l (.lst (ns'.map V.str)))) uP:=fun P H xs ds d Q hP r e k=>by
 unfold uP at e
 split at e
 ·obtain⟨is,e1,e2⟩:=XBs e
  obtain⟨⟨hl,hn⟩,rfl⟩:=cU e2
  obtain⟨pk,hl⟩:=iC.mp hl
  obtain⟨v,rfl,r'⟩:=hE r
  obtain⟨a,kvs,rfl,hq,rr⟩:=(sF pk).mp r'
  have rk:=TL rr fun kd m=>eE.mp hl kd m
  rw[ZJ e1] at rk
  obtain⟨ek,hc⟩:=XE rk
  refine⟨a,kvs.1,kvs.2,is,rfl,Aay _ _ hq,ek,hn,fun l ns' hf hp hr=>?_⟩
  have hc' : ∀ i∈ns',cQ (.str i)=true:=fun i m=>hc i (hp.mem_iff.mp m)
  obtain rfl:=CF hp hr
  exact k.lst hP hf (WD hc')
 ·cases e
theorem Ru (hc:X.calm=true):Adg X (.builtin "sorted") (fun xs H Q=>∃ a ep,∃ kvs:List (List aA×V),xs=[.ref a]/\H a=some (.dT ep kvs)/\okT (kvs.map (·.1))=true/\kvs.length<64 /\ ∀ (l:aB) (as:List aB),H l=none->dB (fun(k:List aA) (b:aB)=>Ah6 H k b) (jF (kvs.map (·.1))) as->Q (.ref l) (upd H l (.lst (as.map V.ref)))):=by
 intro pins s σ H xs us Q I r h
 obtain⟨a,ep,kvs,rfl,ha,ok,hl,q⟩:=h
 obtain⟨u,rfl,ru⟩:=vals1 r
 cases ru
 obtain⟨z,nm,ys,kt,o,es,e1,e2,e3,e4,_⟩:=(show Ach X.prog X.w H s.heap a (.dT ep kvs) from I.hok a _ ha)
 have el:es.size=kvs.length:=by
  have:=congrArg pH e4
  rw[bX,← kJ kt] at this
  simpa using this
 have hp:dB (fun(p:List aA×V) (b:aB)=>Ah6 H p.1 b) kvs (ys.map fun y=>y.2.1):=Uz kt
 have rv:Vals ((ys.map fun y=>y.2.1).map V.ref) (es.toList.map (·.key)):=by
  rw[e4]
  exact VL ys
 have hh:=I.ok.hd hc
 generalize(ys.map fun y=>y.2.1)=as at hp rv
 refine FT kind_sorted plain_sorted entry_sorted (args_sorted1 _) ?_
 unfold Builtin.«sorted»
 refine aJ (aT (aJ (XA (by simp[hh]) nm ⟨o,e1,e2,e3⟩ (by omega) fun s' acc hkp hg hd hos hacc=>aJ (zA ?_ (by
  have:=hacc.1
  rw[gV,this]
  omega)))))
 obtain⟨h',g',d',tk',os'⟩:=s'
 have e1:=hg
 have e2:=hd
 have e3:=hos
 subst e1 e2 e3
 rw[← UR hacc] at rv
 have hlen:acc.toList.length<64:=by
  have:=hacc.1
  rw[gV,this]
  omega
 generalize acc.toList=vs at rv hlen
 have rf:rK H (as.map V.ref) (kvs.map (·.1)):=by
  clear rv ha ok hl q z kt el
  induction hp with
  | nil=>exact .nil
  | cons h t ih=>exact .cons ⟨_,rfl,h⟩ ih
 have tv:=HW I.hok rf rv
 have hoL:(h'.push (gF "list" vs.toArray 0)).get? h'.objs.size=some (gF "list" vs.toArray 0):=eM _ rfl
 refine aJ (hU (qP MK ⟨_,hoL,rfl⟩ MM (Ug hoL tv (fun b ob eb=>?_) ok hlen fun p hp' hs=>⟨_,rfl,?_⟩) (MN _)))
 ·have hb:=cG (hkp b ob eb)
  exact QM b ob (dG hb) (cJ _ (hkp b ob eb))
 refine aT ⟨_,rfl,?_⟩
 obtain⟨e,he⟩:=sortedHeap_at hoL
 have I1:Inv X pins σ H { s with heap:=h',toks:=tk' }:=I.kept (t':=tk') hkp
 have hv:vs.length=as.length:=by simpa using rv.length.symm
 have hi : ∀ i∈p,i<as.length:=fun i m=>by
  have:=iN.mp (hp'.mem_iff.mp m)
  omega
 have pk:=Ai rf (V.ref 0) [] p (by simpa using hi)
 have pv:Vals (p.map fun i=>(as.map V.ref).getD i (V.ref 0)) (p.map fun i=>vs.getD i fA):=by
  have : ∀ q:List Nat,(∀ i∈q,i<as.length)->Vals (q.map fun i=>(as.map V.ref).getD i (V.ref 0)) (q.map fun i=>vs.getD i fA):=fun q=>by
   induction q with
   | nil=>exact fun _=>.nil
   | cons i q ih=>
    intro h
    refine .cons ?_ (ih fun j m=>h j (bJ _ m))
    have hi:=h i bD
    show RelV ((as.map V.ref).getD i (V.ref 0)) (vs.getD i fA)
    obtain⟨u,g1,g2⟩:=Vals.get (i:=i) (x:=.ref as[i]) rv (by simp[hi])
    have:(as.map V.ref).getD i (V.ref 0) = .ref as[i]:=by simp[List.getD,hi]
    rw[this]
    have:vs.getD i fA=u:=by simp[List.getD,g1]
    rw[this]
    exact g2
  exact this p hi
 rw[hs] at pk
 have em:(p.map fun i=>(as.map V.ref).getD i (V.ref 0))=(p.map fun i=>as.getD i 0).map V.ref:=by
  rw[fQ]
  refine pG fun i m=>?_
  simp[List.getD,hi i m]
 rw[em] at pk pv
 have pk2:dB (fun(k:List aA) (b:aB)=>Ah6 H k b) (jF (kvs.map (·.1))) (p.map fun i=>as.getD i 0):=by
  generalize(p.map fun i=>as.getD i 0)=bs at pk
  generalize jF (kvs.map (·.1))=kss at pk
  clear pv em he hs
  induction bs generalizing kss with
  | nil=>cases pk; exact .nil
  | cons b bs ih=>
   cases pk with
   | cons h t=>
    obtain⟨b',e',h⟩:=h
    cases e'
    exact .cons h (ih _ t)
 have hz:((p.map fun i=>as.getD i 0).map V.ref).length≤sizeLine:=by
  rw[bX,bX,hp'.length_eq,FL,nL]
  omega
 refine⟨.ref h'.objs.size,_,I1.laid (t':=tk') (a:=h'.objs.size) (o:=.lst ((p.map fun i=>as.getD i 0).map V.ref)) (fun b ob eb=>?_) (bP _) ⟨hz,_,e,pv,he⟩,rfl,q _ _ I1.fresh pk2⟩
 have hb:=cG (show h'.get? b=some ob from eb)
 rw[sortedHeap_old (dG hb) (by rw[size_push']; exact zH hb),Cr _ _ _ (dG hb)]
 exact eb
def BD:List aA->Option aA
 | [.dict ((.none,.none)::kds)]=>(jO (kds.map (·.1))).bind fun kss=>if okT kss=true/\kss.length<64 then some (.list ((jF kss).map fL)) else none
 | _=>none
theorem AZ {K:aH} : ∀ {kds:List (aA×aA)} {ts:List (List aA×V)},Ab5 K H kds ts->kds.map (·.1)=(ts.map (·.1)).map fL
 | [],ts,r=>by rw[Ab6.mp r]; rfl
 | (k,d)::kds,ts,r=>by
  obtain⟨k',x,rr,rfl,⟨rfl,_⟩,h1,h2⟩:=Aa8.mp r
  rw[dC,AZ h2]
  rfl
theorem QE {K:aH}{G:Hp}(x : ∀ c ys,H1 c=some (.tup ys)->G c=some (.tup ys)) : ∀ {kss:List (List aA)} {as:List aB},dB (fun(k:List aA) (b:aB)=>Ah6 H1 k b) kss as->Aan K G (kss.map fL) (as.map V.ref)
 | _,_,.nil=>Aaj.mpr rfl
 | _,_,.cons h t=>Aac.mpr ⟨_,_,rfl,(h.keep x).rep,QE x t⟩
theorem Ra {K:aH}:CallD K 1 (fun xs H Q=>∃ a ep,∃ kvs:List (List aA×V),xs=[.ref a]/\H a=some (.dT ep kvs)/\okT (kvs.map (·.1))=true/\kvs.length<64 /\ ∀ (l:aB) (as:List aB),H l=none->dB (fun(k:List aA) (b:aB)=>Ah6 H k b) (jF (kvs.map (·.1))) as->Q (.ref l) (upd H l (.lst (as.map V.ref)))) BD:=fun P H xs ds d Q hP r e k=>by
 unfold BD at e
 split at e
 ·obtain⟨kss,e1,e2⟩:=XBs e
  obtain⟨⟨ok,hn⟩,rfl⟩:=cU e2
  obtain⟨v,rfl,r'⟩:=hE r
  obtain⟨a,ts,rfl,hq,rr⟩:=(qF).mp r'
  have ek:=AZ rr
  have ek2:=(BM e1).1
  rw[ek2] at ek
  have:ts.2.map (·.1)=kss:=by
   have inj : ∀ l l':List (List aA),l.map fL=l'.map fL->l=l':=fun l=>by
    induction l with
    | nil=>intro l' h; cases l' <;> simp at h ⊢
    | cons a l ih=>
     intro l' h
     cases l' with
     | nil=>simp at h
     | cons b l'=>
      simp only[dC,Cn,PyData.tuple.injEq] at h
      rw[h.1,ih l' h.2]
   exact(inj _ _ ek).symm
  subst this
  refine⟨a,ts.1,ts.2,rfl,Aay _ _ hq,ok,by simpa using hn,fun l as hf pr=>k.lst hP hf ?_⟩
  exact QE (fun c ys ec=>hP.tup ec) pr
 ·cases e
def FZ (a:aB)(ep n:Nat):It:=
  ⟨fun i H=>∃ kvs kv,H a=some (.dK ep kvs)/\kvs.length=n/\kvs[i]?=some kv,
   fun i H v H'=>∃ T kv,H T=none/\v = .ref T/\(∀ kvs,H a=some (.dK ep kvs)->kvs[i]?=some kv)/\H'=upd H T (.tup [kV kv.1,kv.2]),
   fun i H=>∃ kvs,H a=some (.dK ep kvs)/\kvs.length=n/\n≤i⟩
theorem Rw:entryFor table "dict_itemiterator.__iter__" = some Builtin.«dict_keyiterator.__iter__»:=entryFor_alias (id':="dict_keyiterator.__iter__") (by kernel_rfl) rfl (by decide +kernel) (by kernel_rfl)
theorem Rz {prog:bB}{w:aU}(hT:s.TypeIs (.ref it) "dict_itemiterator")(h:Q (.ref it) s):aO (aQ prog w) A (qQ (.ref it)) Q E s:=by
 refine wpAny_pyIter_slot hT Xz (qP Xz hT Rw ?_ (F.args_dict_itemiterator_iter_1 _))
 exact aT ⟨_,rfl,"dict_itemiterator",_,hT,F.slot_dict_itemiterator_next.lookup,h⟩
theorem Oq{w:aU}{K:aH}{cx}{pos:bQ}(a it:aB)(ep n:Nat) :
  Turn P w K (.Tuple es cx pos) (FZ a ep n) [it] it (fun i h=>∃ ok ov,IsItemIter h it a i n ep ok ov) where
 mem:=cN.mpr rfl
 obj:=fun i h ⟨ok,ov,g⟩ b hb=>by
  rw[cN.mp hb]
  exact⟨_,g,fun v z=>by cases z⟩
 keep:=fun i h h' ⟨ok,ov,g⟩ k=>⟨ok,ov,k it (cN.mpr rfl) _ g⟩
 item:=by
  intro X hP hw hK hc i pins s σ H E I hf st hg
  subst hP hw hK
  obtain⟨kvs,kv,ha,hn,hk⟩:=hg
  subst hn
  obtain⟨z,nm,vs,r,d⟩:=rM I.hok (.inl ha)
  have hl:kvs.length=vs.length:=r.length
  obtain⟨u,hu,r1,r2⟩:=LW r hk
  obtain⟨uk,uv⟩:=u
  obtain⟨ok,ov,st⟩:=st
  rw[hl] at st
  have young:it<s.heap.objs.size:=cG st
  refine wpAny_pyNext_items_item st d hu fun key h' hkey eo pr sz keep=>?_
  have r1':kv.1=uk:=r1
  have rk:RelV (kV kv.1) key:=by rw[r1']; exact ZL hkey
  have fr:H s.heap.objs.size=none:=I.hok.fresh (bP _)
  have I0:Inv X pins σ (upd H s.heap.objs.size (.tup [kV kv.1,kv.2])) { s with heap:=s.heap.push { cls:=.type "tuple",data:=.seq #[key,uv] },toks:=s.toks }:=
   I.laid (t':=s.toks) (o:=.tup [kV kv.1,kv.2]) (fun b ob q=>cJ _ q) (bP _) ⟨by show 2≤sizeLine; decide,[key,uv],.cons rk (.cons r2 .nil),A9m.new _ _⟩
  have hf' : ∀ b∈[it],jR X pins (upd H s.heap.objs.size (.tup [kV kv.1,kv.2])) b:=fun b m=>⟨by rw[bK (dG (by rw[cN.mp m]; exact young))]; exact(hf b m).1,(hf b m).2⟩
  have I1:Inv X pins σ (upd H s.heap.objs.size (.tup [kV kv.1,kv.2])) { s with heap:=h',toks:=s.toks }:=I0.turnM (t':=s.toks) hf' fun b o n g=>by
   have n:b≠it:=fun q=>n (cN.mpr q)
   by_cases hb:b=s.heap.objs.size
   ·subst hb
    have e':(s.heap.push { cls:=.type "tuple",data:=.seq #[key,uv] }).get? s.heap.objs.size=some { cls:=.type "tuple",data:=.seq #[key,uv] }:=eM _ rfl
    have:some o=some _:=g.symm.trans e'
    rw[this]
    exact pr
   ·exact keep b o n ((Cr _ _ _ hb).symm.trans g)
  refine⟨_,rfl,wpAny_letOwnedTupleGo_items eo fun h2 ge sb=>?_⟩
  have I2:Inv X pins σ (upd H s.heap.objs.size (.tup [kV kv.1,kv.2])) { s with heap:=h2,toks:=s.toks }:=I1.turnM (t':=s.toks) hf' fun b o n g=>sb.extBut b o (fun q=>n (cN.mpr q)) g
  exact⟨.ref s.heap.objs.size,_,I2,rfl,⟨_,kv,fr,rfl,fun kvs' h=>by rw[ha] at h; cases h; exact hk,rfl⟩,⟨_,_,by rw[hl]; exact ge⟩,fun b m=>(hf' b m).1⟩
 done:=by
  intro X hP hw hK hc i pins s σ H E I hf st hg
  subst hP hw hK
  obtain⟨kvs,ha,hn,hi⟩:=hg
  subst hn
  obtain⟨z,nm,vs,r,d⟩:=rM I.hok (.inl ha)
  have hl:kvs.length=vs.length:=r.length
  obtain⟨ok,ov,st⟩:=st
  rw[hl] at st
  exact wpAny_pyNext_items_end (I.ok.hd hc) st d (by simp; omega) fun h' eb=>⟨rfl,I.turnM (t':=s.toks) hf fun b o nb e=>eb b o (fun q=>nb (cN.mpr q)) e⟩
 self:=fun _ _ _ _ _ st h=>by
  obtain⟨ok,ov,st⟩:=st
  exact Rz ⟨_,st,rfl⟩ h
section
variable {l:aS}{tpos:bQ}{cx:Nat}
def Dr (tl:TE):TI:=fun σ H R=>tl σ H fun x H1=>∃ a ep kvs,x = .ref a/\H1 a=some (.dK ep kvs)/\R (FZ a ep kvs.length) H1
theorem Tb(hl:PE X l tl)(hbase:lN l "items" X.env (bH l X.env)=bH l X.env:=by rfl)(hline:(apos.endLine == pos.line)=true:=by rfl):PI X (.Tuple es cx tpos) (.Call (.Attribute l "items" apos) [] [] pos) (Dr tl):=by
 intro pins s σ H R I h
 refine wpAny_Call_method hbase rfl hline F.plainAttrs_dict F.slot_dict_items F.type_dict_items (thn (hl pins s σ H _ I h) fun v s1 gh=>?_)
 obtain⟨x,H1,I1,r1,q1⟩:=gh
 obtain⟨a,ep,kvs,rfl,ha,q⟩:=q1
 cases r1
 obtain⟨z,nm,vs,r,d⟩:=rM I1.hok (.inl ha)
 obtain⟨_,_,vs2,_,dd⟩:=uD I1.hok ha
 have hn:=r.length
 refine⟨dd.typeIs,dd.mapOf.noDict,?_⟩
 refine method_meetsIn F.slot_dict_items F.entry_dict_items rfl (PySem.evalArgs_none ⟨rfl,dd.typeIs,F.args_dict_items_1 _,_,meets_dict_items _ a nm,⟨vs2,dd⟩,?_⟩)
 have d2:(s1.heap.push { cls:=.type "dict_items",data:=.fields #[.ref a] }).DictAt (eZ X.prog X.w) a vs ep:=by
  obtain⟨o,es,ho,rr⟩:=d
  exact⟨o,es,cJ _ ho,rr⟩
 refine wpAny_pyIter_items ⟨_,eM _ rfl,rfl,rfl⟩ d2 ?_
 have all : ∀ b o,s1.heap.get? b=some o->((s1.heap.push { cls:=.type "dict_items",data:=.fields #[.ref a] }).push { cls:=.type "dict_itemiterator",data:=.fields #[.none,.bool false,.ref a,.int 0 0,.int vs.length 0,.int ep 0,.none,.none] }).get? b=some o:=fun b o e=>cJ _ (cJ _ e)
 refine⟨_,[_],_,_,H1,rfl,I1.kept all,Oq a _ ep kvs.length,⟨.none,.none,?_⟩,fun b hb=>?_,q⟩
 ·rw[hn]
  exact eM _ rfl
 ·rw[cN.mp hb]
  have le:s1.heap.objs.size≤(s1.heap.push { cls:=.type "dict_items",data:=.fields #[.ref a] }).objs.size:=by
   rw[FQ]
   omega
  exact I1.fpOk le (I1.hok.fresh le)
def iDI (f:EF):AF:=fun ρ=>(f ρ).bind fun d=>match d with
 | .dict kds=>if (plK kds&&kds.all fun kd=>cQ kd.1)=true then some (kds.map fun kd=>.tuple [kd.1,kd.2]) else none
 | _=>none
theorem Wn {K:aH}{kvs:List (aL×V)}(h:B a=some (.dK ep kvs))(r:Abj K B kds kvs)(hl:(kds.all fun kd=>cQ kd.1)=true):ItD K B (FZ a ep kvs.length) (kds.map fun kd=>.tuple [kd.1,kd.2]):=fun i H2 x2=>by
 have h2:=x2 _ _ h
 refine⟨fun d hd=>?_,fun e=>⟨kvs,h2,rfl,by rw[← e,bX,r.length]; exact bP _⟩⟩
 rw[fD] at hd
 obtain⟨kd,hk,rfl⟩:=hX.mp hd
 obtain⟨kv,g1,g2,g3⟩:=IK r hk
 refine⟨⟨kvs,kv,h2,rfl,g1⟩,?_⟩
 rintro x H3 ⟨T,kv',fr,rfl,hx,rfl⟩
 have:kv'=kv:=dZ ((hx kvs h2).symm.trans g1)
 subst this
 have ext:Ext H2 (upd H2 T (.tup [kV kv'.1,kv'.2])):=fun b u e=>by rw[bK (hJ e fr)]; exact e
 refine⟨ext,fun P2 hP2 xb=>?_⟩
 have nT : ¬ P2 T:=fun q=>by
  rcases hP2 T q with⟨o,e⟩ | ⟨o,e⟩ <;> rw[fr] at e <;> cases e
 have gT:hid (upd H2 T (.tup [kV kv'.1,kv'.2])) P2 T=some (.tup [kV kv'.1,kv'.2]):=eO nT cP
 have xx:Ext B (hid (upd H2 T (.tup [kV kv'.1,kv'.2])) P2):=xb.trans (cE ext)
 have lay:=eE.mp hl kd (iW hk)
 refine Aax.mpr ⟨T,_,rfl,gT,Aac.mpr ⟨_,_,rfl,?_,Aac.mpr ⟨_,_,rfl,g3.ext xx,Aaj.mpr rfl⟩⟩⟩
 rw[g2]
 exact Ag (by rw[← g2]; exact lay)
theorem Vq {f:EF}(h:DE X l f)(hbase:lN l "items" X.env (bH l X.env)=bH l X.env:=by rfl)(hline:(apos.endLine == pos.line)=true:=by rfl):DI X (.Tuple es cx tpos) (.Call (.Attribute l "items" apos) [] [] pos) (iDI f):=PI.imp (Tb h hbase hline) fun σ H R gh=>by
 obtain⟨P,ρ,ds,hP,rs,ef,k⟩:=gh
 obtain⟨d,e1,ef⟩:=XBs ef
 cases d with
 | dict kds=>
  obtain⟨hl,rfl⟩:=cU ef
  refine⟨P,ρ,_,hP,rs,e1,dA fun v H1 x1 r1=>?_⟩
  obtain⟨pk,hl⟩:=iC.mp hl
  obtain⟨a,kvs,rfl,hq,rr⟩:=(sF pk).mp r1
  exact⟨a,kvs.1,kvs.2,rfl,Aay _ _ hq,k _ H1 x1 (Wn hq rr hl)⟩
 | _=>cases ef
end
def tY (kds:List (aA×aA)):List (aA×aA):=kds.map fun kd=>(kd.1,.dict [(.none,.none)])
def wZ (c x:aD)(Fa:List aA->Option aA):FX:=open Classical in fun z ds=>match ds with
 | [d]=>(Fa [d]).bind fun b=>match b with
  | .bool true=>(rU [d]).bind fun w=>match w with
   | .dict kds=>if (∀ kd∈kds,dU kd.2=true)/\(kds.map (·.1)).Nodup/\kds.length<sizeLine then some (bZ c (.dict kds) (.dict (tY kds))) else none
   | _=>none
  | .bool false=>if z=some x then some (rsD x) else none
  | _=>none
 | _=>none
theorem Oa{Fa:List aA->Option aA} : ∀ z ds d,wZ c x Fa z ds=some d -> ∃ d1,ds=[d1]:=fun z ds d h=>by
 unfold wZ at h
 split at h
 ·exact⟨_,rfl⟩
 ·cases h
theorem Qt{Fa:List aA->Option aA}{d1:aA}(h:wZ c x Fa z [d1]=some d) :
  (Fa [d1]=some (.bool false)/\z=some x/\d=rsD x) \/ ∃ kds,Fa [d1]=some (.bool true)/\rU [d1]=some (.dict kds)/\(∀ kd∈kds,dU kd.2=true)/\(kds.map (·.1)).Nodup/\kds.length<sizeLine/\d=bZ c (.dict kds) (.dict (tY kds)):=by
 have h:((Fa [d1]).bind fun b=>_)=some d:=h
 obtain⟨b,e1,h⟩:=XBs h
 split at h
 ·obtain⟨w,e2,h⟩:=XBs h
  split at h
  ·obtain⟨⟨h1,h2,h3⟩,rfl⟩:=cU h
   exact .inr ⟨_,e1,e2,h1,h2,h3,rfl⟩
  ·cases h
 ·obtain⟨h1,rfl⟩:=cU h
  exact .inl ⟨e1,h1,rfl⟩
 ·cases h
def hvZ (kvs:List (aL×V))(ps:List aB):List (aL×V):=List.zipWith (fun kv p=>(kv.1,V.ref p)) kvs ps
theorem RX : ∀ {kvs:List (aL×V)} {ps:List aB} {kv:aL×V} {p:aB},kvs[ps.length]?=some kv->hvZ kvs (ps++[p])=hvZ kvs ps++[(kv.1,V.ref p)]
 | k::kvs,[],kv,p,e=>by
  cases e
  simp[hvZ]
 | k::kvs,q::ps,kv,p,e=>by
  show _::hvZ kvs (ps++[p])=_::(hvZ kvs ps++_)
  rw[RX (kv:=kv) (by simpa using e)]
 | [],ps,kv,p,e=>by simp at e
theorem Jo : ∀ {kvs:List (aL×V)} {ps:List aB},ps.length≤kvs.length->(hvZ kvs ps).length=ps.length:=fun {kvs ps} h=>by
 unfold hvZ
 rw[List.length_zipWith]
 omega
theorem ZZ : ∀ {kvs:List (aL×V)} {ps:List aB} {e:aL×V},e∈hvZ kvs ps -> ∃ i kv,i<ps.length/\kvs[i]?=some kv/\e.1=kv.1
 | [],ps,e,m=>by simp[hvZ] at m
 | k::kvs,[],e,m=>by simp[hvZ] at m
 | k::kvs,p::ps,e,m=>by
  have m:e∈(k.1,V.ref p)::hvZ kvs ps:=m
  rcases cI.mp m with rfl | m
  ·exact⟨0,k,by simp,rfl,rfl⟩
  ·obtain⟨i,kv,h1,h2,h3⟩:=ZZ m
   exact⟨i+1,kv,by simpa using h1,by simpa using h2,h3⟩
theorem UH {k:aL} : ∀ {l:List (aL×V)},(∀ e∈l,e.1≠k)->cZ l k=none
 | [],_=>rfl
 | e::l,h=>by
  have h1:=h e bD
  have h2:=UH fun e m=>h e (bJ _ m)
  unfold cZ at h2 ⊢
  simp[gH,h1] at h2 ⊢
  first | exact h2 | simp_all
theorem Mb {kvs:List (aL×V)}{ps:List aB}{kv:aL×V}(nd:(kvs.map (·.1)).Nodup)(e:kvs[ps.length]?=some kv):cZ (hvZ kvs ps) kv.1=none:=UH fun x m=>by
 obtain⟨i,kv',h1,h2,h3⟩:=ZZ m
 rw[h3]
 intro z
 have hl:=(dM.mp e).1
 have g1:(kvs.map (·.1))[i]?=some kv'.1:=by rw[fD,h2]; rfl
 have g2:(kvs.map (·.1))[ps.length]?=some kv.1:=by rw[fD,e]; rfl
 have:=(NM (l:=kvs.map (·.1)) (i:=i) (j:=ps.length) (by simpa using(dM.mp h2).1) nd).mp (by rw[g1,g2,z])
 omega
theorem UT {K:aH} : ∀ {kds:List (aA×aA)} {kvs:List (aL×V)},Abj K H kds kvs->kds.map (·.1)=(kvs.map (·.1)).map kD
 | [],kvs,r=>by rw[Abk.mp r]; rfl
 | (k,d)::ds,kvs,r=>by
  obtain⟨k',x,t,rfl,ek,r1,r2⟩:=Aa0.mp r
  rw[dC,UT r2,ek]
  rfl
theorem QU {K:aH}{B2:Hp} : ∀ {kds:List (aA×aA)} {kvs:List (aL×V)} {ps:List aB},Abj K B2 kds kvs->ps.length=kvs.length->(∀ p∈ps,H p=some (.dT 0 []))->All3 (HeldAt K B H) (tY kds) (hvZ kvs ps) ps
 | [],kvs,ps,r,hl,hp=>by
  rw[Abk.mp r] at hl ⊢
  cases ps with
  | nil=>exact .nil
  | cons _ _=>simp at hl
 | (k,d)::kds,kvs,ps,r,hl,hp=>by
  obtain⟨k',y,t,rfl,ek,h1,h2⟩:=Aa0.mp r
  cases ps with
  | nil=>simp at hl
  | cons p ps=>exact .cons ⟨ek,rfl,[],p,(0,[]),rfl,rfl,hp p bD,rfl,fun kd m=>by simp at m,Ab6.mpr rfl⟩ (QU h2 (by simpa using hl) fun q m=>hp q (bJ _ m))
theorem Tw {K:aH}{Hw:Hp}{dx x w q:aB}{kvs:Nat×List (aL×V)}{ps:List aB}(hc:eK K c=some (.ref C))(hx:H' x=some (.ins C dx [("wide",.ref w),("held",.ref q)]))(hw:H' w=some (.dK kvs.1 kvs.2))
  (hq:H' q=some (.dK n (hvZ kvs.2 ps))) (hl:ps.length=kvs.2.length) (hp : ∀ p∈ps,H' p=some (.dT 0 [])) (fl : ∀ kd∈kds,dU kd.2=true) (rk:Abj K (hid Hw (orL P0 [w])) kds kvs.2) (kp : ∀ b o,b≠x->Hw b=some o->H' b=some o) (hn : ∀ xs,Hw x≠some (.tup xs)) :
  Adw K (hid H' (orL P0 (x::w::q::ps))) H' 9 (bZ c (.dict kds) (.dict (tY kds))) (.ref x) (x::w::q::ps):=by
 refine(bI (.inr ⟨⟨c,C,dx,x,w,q,kds,tY kds,kvs,(n,hvZ kvs.2 ps),ps,rfl,rfl,hc,hx,hw,fl,?_,hq,rfl,QU rk hl hp⟩⟩):_ \/ Aja _ _ _ _ _ _ \/ RepB _ _ _ _ _ _)
 refine rk.flat (fun a xs e=>?_) fl
 obtain⟨na,e⟩:=Abu.mp e
 have nx:a≠x:=fun z=>by rw[z] at e; exact hn xs e
 have e2:=kp a _ nx e
 refine eO (fun z=>?_) e2
 rcases z with z | z
 ·exact na (.inl z)
 ·simp only[cI] at z
  rcases z with z | z | z | z
  ·exact nx z
  ·rw[z,hw] at e2; cases e2
  ·rw[z,hq] at e2; cases e2
  ·rw[hp a z] at e2; cases e2
def iP (hds:List (aA×aA))(t:aD)(d:aA):List (aA×aA):=hds.map fun kd=>if bR kd.1=some (.inr t) then(kd.1,d) else kd
theorem Lw {hds:List (aA×aA)}{t:aD}(h : ∀ kd∈hds,kd.1 ≠ .str t):iP hds t d=hds:=by
 unfold iP
 refine(pG fun kd m=>?_).trans (tD hds)
 rw[if_neg]
 ·rfl
 ·intro e
  apply h kd m
  cases q:kd.1 <;> rw[q] at e <;> simp[bR] at e
  rw[e]
theorem Ap {K:aH}{t:aD}{dd:aA} : ∀ {hds:List (aA×aA)} {hvs:List (aL×V)} {ps:List aB},All3 (HeldAt K B H) hds hvs ps->bG hds (.inr t)=some dd->(hds.map (·.1)).Nodup->ps.Nodup ->
  ∃ p,cZ hvs (.inr t)=some (.ref p)/\p∈ps/\Aja K B H dd (.ref p) [p] /\ ∀ B' H' dd',Ext B B'->(∀ q∈ps,q≠p->H' q=H q)->Aja K B' H' dd' (.ref p) [p]->All3 (HeldAt K B' H') (iP hds t dd') hvs ps
 | _,_,_,.nil,e,_,_=>by cases e
 | kd::hds,kv::hvs,p::ps,.cons h t',e,nd,np=>by
  rw[dC,dS] at nd
  rw[dS] at np
  by_cases c:kv.1 = .inr t
  ·have ck:kd.1 = .str t:=by rw[h.1,c]; rfl
   have ek:bR kd.1=some (.inr t):=by rw[ck]; rfl
   have ed:kd.2=dd:=by
    unfold bG at e
    rw[gH,ek] at e
    simpa using e
   refine⟨p,?_,bD,by rw[← ed]; exact h.2.2,fun B' H' dd' xb kp r=>?_⟩
   ·unfold cZ
    rw[gH,c]
    simp[h.2.1]
   ·have e1:iP (kd::hds) t dd'=(kd.1,dd')::iP hds t dd':=by
     unfold iP
     rw[dC,if_pos ek]
    rw[e1,Lw fun x m z=>nd.1 (by rw[ck]; exact bF.mpr ⟨x,m,z⟩)]
    refine .cons ⟨h.1,h.2.1,r⟩ (t'.imp fun a b q m hq=>⟨hq.1,hq.2.1,hq.2.2.keep xb fun z mz=>?_⟩)
    rw[cN.mp mz]
    exact kp q (bJ _ m) fun z=>np.1 (z ▸ m)
  ·have ek:bR kd.1≠some (.inr t):=by
    rw[h.1,jL]
    exact fun z=>c (dZ z)
   have e':bG hds (.inr t)=some dd:=by
    unfold bG at e ⊢
    rw[gH] at e
    simpa [ek] using e
   obtain⟨p',h1,h2,h3,h4⟩:=Ap t' e' nd.2 np.2
   refine⟨p',?_,bJ _ h2,h3,fun B' H' dd' xb kp r=>?_⟩
   ·unfold cZ at h1 ⊢
    rw[gH]
    simpa [c] using h1
   ·have e1:iP (kd::hds) t dd'=kd::iP hds t dd':=by
     unfold iP
     rw[dC,if_neg ek]
    rw[e1]
    refine .cons ⟨h.1,h.2.1,h.2.2.keep xb fun z mz=>?_⟩ (h4 B' H' dd' xb (fun q m=>kp q (bJ _ m)) r)
    rw[cN.mp mz]
    exact kp p bD fun z=>np.1 (z ▸ h2)
theorem RepB.at {K:aH}{t:aD}{hds:List (aA×aA)}{v:V}(h:RepB K B H (bZ c W (.dict hds)) v F)(nF:F.Nodup)(e:bG hds (.inr t)=some (.dict ((.none,.none)::kds)))(nd:(hds.map (·.1)).Nodup) :
  ∃ a C dx w q p,∃ hvs:Nat×List (aL×V),∃ ts:Nat×List (List aA×V),v = .ref a/\eK K c=some (.ref C)/\H a=some (.ins C dx [("wide",.ref w),("held",.ref q)])/\H q=some (.dK hvs.1 hvs.2)/\cZ hvs.2 (.inr t)=some (.ref p)/\p∈F/\H p=some (.dT ts.1 ts.2)/\(∀ kd∈kds,dU kd.2=true)/\Ab5 K B kds ts.2 /\
   ∀ B' H' kds',∀ ts':Nat×List (List aA×V),Ext B B'->(∀ b∈F,b≠p->H' b=H b)->H' p=some (.dT ts'.1 ts'.2)->(∀ kd∈kds',dU kd.2=true)->Ab5 K B' kds' ts'.2->RepB K B' H' (bZ c W (.dict (iP hds t (.dict ((.none,.none)::kds'))))) v F:=by
 obtain⟨c',C,dx,a,w,q,wds,hds',kvs,hvs,ps,e1,rfl,e3,ha,hw,fl,rk,hq,rfl,h3⟩:=h.ex
 have e1':c'=c/\W = .dict wds/\hds'=hds:=by
  simp only[bZ,PyData.dict.injEq,Cn,FE,PyData.str.injEq,PyData.tuple.injEq,and_true,true_and] at e1
  exact⟨e1.1.symm,e1.2.1,e1.2.2.symm⟩
 obtain⟨rfl,rfl,rfl⟩:=e1'
 have np:a∉w::q::ps/\w∉q::ps/\q∉ps/\ps.Nodup:=by
  simp only[dS] at nF
  exact⟨nF.1,nF.2.1,nF.2.2.1,nF.2.2.2⟩
 obtain⟨p,h1,h2,h4,h5⟩:=Ap h3 e nd np.2.2.2
 obtain⟨kds2,p2,ts,e4,e5,hp,_,fl2,r2⟩:=h4
 cases e4
 cases e5
 refine⟨a,C,dx,w,q,p,hvs,ts,rfl,e3,ha,hq,h1,by simp[h2],hp,fl2,r2,fun B' H' kds' ts' xb kp hp' fl' r'=>?_⟩
 have ap:a≠p:=fun z=>np.1 (by rw[z]; simp[h2])
 have wp:w≠p:=fun z=>np.2.1 (by rw[z]; simp[h2])
 have qp:q≠p:=fun z=>np.2.2.1 (by rw[z]; exact h2)
 exact⟨c',C,dx,a,w,q,wds,_,kvs,hvs,ps,rfl,rfl,e3,(kp a (by simp) ap).trans ha,(kp w (by simp) wp).trans hw,fl,rk.ext xb,(kp q (by simp) qp).trans hq,rfl,h5 B' H' _ xb (fun x m nx=>kp x (by simp[m]) nx) ⟨kds',p,ts',rfl,rfl,hp',rfl,fl',r'⟩⟩
def uE (K:aH)(G:List aA->Option (Bool×aA)):Sp:=fun vs H Q _=>∃ P F0 a us d ds r d',vs = .ref a::us/\Hid P H/\(∀ b∈F0,¬ P b)/\F0.Nodup/\RepB K (hid H (orL P F0)) H d (.ref a) F0/\Aan K (hid H (orL P F0)) ds us/\G (d::ds)=some (r,d') /\
 ∀ H',(∀ b o,b∉F0->H b=some o->H' b=some o)->RepB K (hid H' (orL P F0)) H' d' (.ref a) F0->Q (.bl r) H'
structure MethM (P:bB)(w:aU)(K:aH)(mg:aD->Option aE)(base:aP)(c m:aD)(k:Nat)(ps:List aD)(G:List aA->Option (Bool×aA)):Prop where
 ex : ∃ C f fd,eK K c=some (.ref C)/\Cls K C/\Meth K C m f/\FnOk P w K mg base (CXR base P w) k f fd ps (uE K G)/\Binds K fd ps []
 ins : ∀ d ds q,G (d::ds)=some q -> ∃ W D,d=bZ c W D
theorem JE {K:aH}{ks:List aA}(hk:bU ks=true) : ∀ {kds:List (aA×aA)} {ts:List (List aA×V)},Ab5 K H kds ts -> .tuple ks∉kds.map (·.1)->kN kds ks=none
 | [],_,_,_=>rfl
 | (k,d)::kds,_,r,nin=>by
  obtain⟨k',x,rr,rfl,⟨rfl,hk'⟩,h1,h2⟩:=Aa8.mp r
  rw[KM hk' hk,if_neg (fun z=>nin (by rw[z]; simp))]
  exact JE hk h2 fun m=>nin (bJ _ m)
theorem TQ {K:aH}{ks:List aA}{v:V}(hk:bU ks=true)(hd:Abb K H d v) : ∀ {kds:List (aA×aA)} {ts:List (List aA×V)},Ab5 K H kds ts->Ab5 K H (kds++[(.tuple ks,d)]) (ts++[(ks,v)])
 | [],ts,r=>by
  rw[Ab6.mp r]
  exact Aa8.mpr ⟨ks,v,[],rfl,⟨rfl,hk⟩,hd,Ab6.mpr rfl⟩
 | (k,d')::kds,_,r=>by
  obtain⟨k',x,rr,rfl,e,h1,h2⟩:=Aa8.mp r
  exact Aa8.mpr ⟨k',x,_,rfl,e,h1,TQ hk hd h2⟩
theorem VG {k:List aA} : ∀ {l:List (List aA×V)},(∀ e∈l,e.1≠k)->cZ l k=none
 | [],_=>rfl
 | e::l,h=>by
  have h1:=h e bD
  have h2:=VG fun e m=>h e (bJ _ m)
  unfold cZ at h2 ⊢
  simp[gH,h1] at h2 ⊢
  first | exact h2 | simp_all
section
variable {prog:bB}{w:aU}{K:Type}[DecidableEq K]{knd:HeapKind prog w K}
theorem UE {k:K}{p:aB×aE} : ∀ {xs:List (K×aB×aE)} {j:Nat},(xs.map (·.1)).Nodup->xs[j]?=some (k,p)->xs.eraseIdx j=xs.filter fun x=>decide (x.1≠k)
 | [],j,_,e=>by simp at e
 | x::xs,0,nd,e=>by
  rw[dC,dS] at nd
  cases e
  rw[List.eraseIdx_cons_zero,lE,if_neg (by simp)]
  refine(tH.mpr fun y m=>?_).symm
  exact decide_eq_true fun z=>nd.1 (z ▸ bF.mpr ⟨y,m,rfl⟩)
 | x::xs,j+1,nd,e=>by
  rw[dC,dS] at nd
  have e':xs[j]?=some (k,p):=by simpa using e
  have hx:x.1≠k:=fun z=>nd.1 (by rw[z]; exact bF.mpr ⟨(k,p),iW e',rfl⟩)
  rw[Xw,lE,if_pos (by simp[hx]),UE nd.2 e']
theorem UL {α β:Type}(f:α->β) : ∀ (l:List α) (j:Nat),(l.eraseIdx j).map f=(l.map f).eraseIdx j
 | [],j=>by simp
 | a::l,0=>by simp
 | a::l,j+1=>by simp[UL f l j]
theorem Qy {d:aB}{xs:List (K×aB×aE)}{k:K}{p:aB×aE}{Q:Option nY->aG->Prop}(hu:knd.room A)(hkey:knd.is s.heap k a)(hm:s.heap.DictOfH knd d xs)(hp:nP xs k=some p)
  (hQ : ∀ h',h'.DictOfH knd d (xs.filter fun x=>decide (x.1≠k))->mP d s.heap h'->Q (some (entryOfKey knd (k,p))) { s with heap:=h',toks:=s.toks+knd.draws k }) (hsz:xs.length≤sizeLine) :
  aO (aQ prog w) A (Builtin.Dict.takeOut d (.ref a)) Q E s:=by
 obtain⟨o,es,ep,ho,hc,hd,he,his,hn⟩:=hm
 unfold Builtin.Dict.takeOut
 try with_reducible refine hU ?_
 refine aJ (knd.pyHash hu hkey ?_)
 refine aJ (wpAny_dictFind_heap (s:={ s with toks:=s.toks+knd.draws k }) hu hkey ho hd he his hn ?_ ?_)
 ·intro hno
  rw[atKey_none_of_get hno] at hp
  cases hp
 ·intro j p' hj
  rw[atKey_of_get hn hj] at hp
  cases hp
  refine aJ (zB (s:={ s with toks:=s.toks+knd.draws k }) ho hd ?_)
  have he':es[j]?=some (entryOfKey knd (k,p)):=by rw[entry_at he j,hj]; rfl
  rw[he']
  refine aJ (wpAny_updateDictKeys (hz:=by have e:=size_of_entries he; omega) (s:={ s with toks:=s.toks+knd.draws k }) ho hd (aT (hQ _ ⟨_,_,ep+1,zQ _ ho (Obj.isFreed_of_dict (Obj.data_mapDictKeys hd _)),
   hc.mapDictKeys _,Obj.data_mapDictKeys hd _,?_,fun x hx=>?_,?_⟩ (vX ..))))
  ·rw[← UE hn hj,UL,← he]
   obtain⟨l⟩:=es
   simp
  ·exact knd.keeps (his x (zK.mp hx).1) ho hd (vX ..)
  ·exact hn.sublist (List.filter_sublist.map _)
theorem Ow (d a:aB)(k:K):MeetsIn prog w (Builtin.«dict.pop» ⟨[.ref d,.ref a],[]⟩) (fun A R s=>knd.room A.in1 /\ ∃ xs p,s.heap.DictOfH knd d xs/\xs.length≤sizeLine/\knd.is s.heap k a/\nP xs k=some p /\
   ∀ h' tk,h'.DictOfH knd d (xs.filter fun x=>decide (x.1≠k))->mP d s.heap h'->R (.ok (.ret p.2)) { s with heap:=h',toks:=tk }):=fun A R s gh=>by
 obtain⟨hu,xs,p,hm,hsz,hkey,hp,h⟩:=gh
 obtain⟨o,es,ep,ho,hc,hd,he,his,hn⟩:=id hm
 have hes:es.isEmpty=false:=by
  cases q:es.isEmpty with
  | false=>rfl
  | true=>
   have hz:es.size=0:=by simpa using q
   rw[size_of_entries he] at hz
   have:xs=[]:=zO hz
   rw[this] at hp
   cases hp
 unfold Builtin.«dict.pop»
 refine aJ ?_
 unfold Builtin.Dict.keyAndDefault
 refine aJ (Ax hm.typeIs ?_)
 show aO _ _ (pure (d,dD a,none)) _ _ s
 refine aT ?_
 have hk:(keyPart (dD a)).isSome=false:=rfl
 simp only[hk,gJ,if_false]
 refine aJ (zB ho hd (aJ (aT ?_)))
 simp only[hes,gJ,if_false]
 refine aJ (Qy hu hkey hm hp (fun h' hm' hs'=>?_) hsz)
 simp only[Option.isNone_some,gJ,if_false]
 exact aJ (wpAny_letGo (aT (h h' _ hm' hs')))
end
def oY (kvs:List (List aA×V))(k:List aA):List (List aA×V):=kvs.filter fun kv=>decide (kv.1≠k)
theorem KT.out(k:List aA) : ∀ {kvs:List (List aA×V)} {xs:List (List aA×aB×aE)},KT H kvs xs->KT H (oY kvs k) (xs.filter fun x=>decide (x.1≠k))
 | _,_,.nil=>.nil
 | p::_,q::_,.cons h t=>by
  unfold oY
  rw[lE,lE]
  by_cases c:p.1=k
  ·rw[if_neg (by simp[c]),if_neg (by rw[← h.1]; simp[c])]
   exact KT.out k t
  ·rw[if_pos (by simp[c]),if_pos (by rw[← h.1]; simp[c])]
   exact .cons h (KT.out k t)
def Ia:V->List V->Hp->VK->Prop:=fun x vs H Q=>∃ d ep kvs k b u,x = .ref d/\vs=[.ref b]/\H d=some (.dT ep kvs)/\Ah6 H k b/\cZ kvs k=some u /\ ∀ n,Q u (upd H d (.dT n (oY kvs k)))
theorem Vp (hu:X.A.units+40<cLine):MtM X "dict.pop" Ia:=by
 intro pins s σ H x vs v us Q I rx rv h
 obtain⟨d,ep,kvs,k,b,u,rfl,rfl,e,eb,hu',q⟩:=h
 cases rx
 cases rv with
 | @cons _ key _ _ rk rr=>
  cases rr
  cases(show key=dD b from rk)
  obtain⟨z,hd,xs,rel,dd⟩:=GT I.hok e
  have rl:=rel.val k
  rw[hu'] at rl
  obtain⟨w',e1,e2⟩:=rl.some_of
  obtain⟨p,ep',rfl⟩:=hX.mp e1
  refine call_meetsIn MV dd.typeIs PySem.F.entry_dict_pop (Xt _ _) (Ow (knd:=lJ X.prog X.w) d b k) ⟨yQ hu,xs,p,dd,by rw[← kJ rel]; exact z,pR I.hok eb,ep',fun h' tk dd' hs=>?_⟩
  obtain⟨o,es,ep2,ho,h2,h3,h4,_,h5⟩:=dd'
  have hl:(oY kvs k).length≤sizeLine:=iA (NK _ _) z
  refine⟨u,_,BA (ob:=.dT ep2 (oY kvs k)) I (by rw[e]; exact jU) hs ⟨o,ho⟩ ⟨hl,hd,_,(rel.out k).keeps fun c ys ec=>?_,o,es,ho,h2,h3,h4,h5⟩,e2,q ep2⟩
  rw[bK (OW ec e (fun z=>nomatch z))]
  exact ec
theorem CA {K:aH}{ks:List aA}(hk:bU ks=true) : ∀ {kds:List (aA×aA)} {ts:List (List aA×V)},Ab5 K H kds ts -> .tuple ks∈kds.map (·.1)->(kN kds ks).isSome=true/\(cZ ts ks).isSome=true
 | [],_,_,m=>by simp at m
 | (k,d)::kds,_,r,m=>by
  obtain⟨k',x,rr,rfl,⟨rfl,hk'⟩,h1,h2⟩:=Aa8.mp r
  rw[KM hk' hk]
  by_cases e:k'=ks
  ·subst e
   refine⟨by simp,?_⟩
   unfold cZ
   simp[gH]
  ·have m' : .tuple ks∈kds.map (·.1):=by
    rcases cI.mp m with z | m
    ·exact absurd (FD z).symm e
    ·exact m
   obtain⟨g1,g2⟩:=CA hk h2 m'
   refine⟨by rw[if_neg e]; exact g1,?_⟩
   unfold cZ at g2 ⊢
   simp only[gH,e,decide_false]
   exact g2
def rQ (kds:List (aA×aA))(ks:List aA):List (aA×aA):=open Classical in kds.filter fun kd=>decide (kd.1 ≠ .tuple ks)
theorem IU {K:aH}(ks:List aA) : ∀ {kds:List (aA×aA)} {ts:List (List aA×V)},Ab5 K H kds ts->Ab5 K H (rQ kds ks) (oY ts ks)
 | [],ts,r=>by
  rw[Ab6.mp r]
  exact Ab6.mpr rfl
 | (k,d)::kds,_,r=>by
  obtain⟨k',x,rr,rfl,⟨rfl,hk'⟩,h1,h2⟩:=Aa8.mp r
  unfold rQ oY
  rw[lE,lE]
  by_cases e:k'=ks
  ·rw[if_neg (by simp[e]),if_neg (by simp[e])]
   exact IU ks h2
  ·rw[if_pos (by simp[e]),if_pos (by simp[e])]
   exact Aa8.mpr ⟨k',x,_,rfl,⟨rfl,hk'⟩,h1,IU ks h2⟩
def rZ (c:aD)(Fw:FX)(g:List (aA×aA)->List aA->Option (Bool×List (aA×aA))):List aA->Option (Bool×aA):=open Classical in fun ds=>match ds with
 | [d,.str t,.tuple ks]=>(iQ c d).bind fun p=>match p.2 with
  | .dict hds=>(Fw none [d,.str t,.tuple ks]).bind fun _=>(bG hds (.inr t)).bind fun h=>match h with
   | .dict ((.none,.none)::kds)=>if bU ks=true/\cV ks≤6/\(hds.map (·.1)).Nodup then(g kds ks).bind fun q=>some (q.1,if q.1=true then bZ c p.1 (.dict (iP hds t (.dict ((.none,.none)::q.2)))) else d) else none
   | _=>none
  | _=>none
 | _=>none
theorem IC {α:Type}{c:Prop}[Decidable c]{x:Option α}{y:α}(h:(if c then x else none)=some y):c/\x=some y:=by
 by_cases q:c
 ·rw[if_pos q] at h; exact⟨q,h⟩
 ·rw[if_neg q] at h; cases h
theorem yK{Fw:FX}{g:List (aA×aA)->List aA->Option (Bool×List (aA×aA))}{q:Bool×aA}(h:rZ c Fw g ds=some q) : ∃ W hds t ks kds u,∃ p:Bool×List (aA×aA),ds=[bZ c W (.dict hds),.str t,.tuple ks]/\Fw none ds=some u/\bG hds (.inr t)=some (.dict ((.none,.none)::kds))/\bU ks=true/\cV ks≤6/\(hds.map (·.1)).Nodup/\g kds ks=some p /\
  q=(p.1,if p.1=true then bZ c W (.dict (iP hds t (.dict ((.none,.none)::p.2)))) else bZ c W (.dict hds)):=by
 unfold rZ at h
 split at h
 ·obtain⟨p,e1,h⟩:=XBs h
  have e1:=uV e1
  subst e1
  obtain⟨W,D⟩:=p
  dsimp only at h
  split at h
  ·obtain⟨u,e2,h⟩:=XBs h
   obtain⟨hh,e3,h⟩:=XBs h
   split at h
   ·obtain⟨cc,h⟩:=IC h
    obtain⟨p,e4,h⟩:=XBs h
    exact⟨W,_,_,_,_,u,p,rfl,e2,e3,cc.1,cc.2.1,cc.2.2,e4,(dZ h).symm⟩
   ·cases h
  ·cases h
 ·cases h
theorem WA{Fw:FX}{g:List (aA×aA)->List aA->Option (Bool×List (aA×aA))} : ∀ d ds q,rZ c Fw g (d::ds)=some q -> ∃ W D,d=bZ c W D:=fun d ds q h=>by
 obtain⟨W,hds,t,ks,kds,u,p,e,_⟩:=yK h
 cases e
 exact⟨_,_,rfl⟩
def OO (kds:List (aA×aA))(ks:List aA):Option (Bool×List (aA×aA)):=open Classical in if .tuple ks∈kds.map (·.1) then some (false,kds) else if kds.length<60 then some (true,kds++[(.tuple ks,.bool true)]) else none
def GY (kds:List (aA×aA))(ks:List aA):Option (Bool×List (aA×aA)):=open Classical in if .tuple ks∈kds.map (·.1) then some (true,rQ kds ks) else some (false,kds)
section
open MeetsSeq
theorem Om (l:aB)(items:Array aE)(n:Nat)(x:aE)(e:aE->Bool)(j:Nat)(hj:j<items.size)(hit:e items[j]=true)(hz:items.size≤sizeLine)(k:Nat) :
  ∀ i:Nat,j - i=k->i≤j->(∀ m (hm:m<items.size),m<j->e items[m]=false)->Meets (Builtin.«list.remove.loop» ⟨[.ref l,x,rawInt i],[]⟩)
   (fun A R s=>s.heap.get? l=some { cls:=.type "list",data:=.seq items n }/\(∀ y,y∈items->SeqAt.EqAt A.in1 s y x (e y))/\R (.ok (.ret .none)) { s with heap:=s.heap.update l (iM fun xs=>xs.eraseIdxIfInBounds j) }):=by
 induction k with
 | zero=>
  intro i hk hij hno prog w A R s h
  obtain⟨hp,g,d,tk,os⟩:=s
  obtain⟨hl,he,h⟩:=h
  obtain rfl:i=j:=by omega
  wp_walk using wpAny_loadPart' hl
  rw[show items[((i:Nat):Int).toNat]?=some items[i] by simp[hj]]
  refine aJ (he _ (Array.getElem_mem hj) prog w _ _ ?_)
  rw[hit]
  have z2:(items.eraseIdxIfInBounds i).size≤sizeLine+1:=iA (size_erased items _) (By hz)
  wp_walk using(wpAny_updateSeq hl rfl (hz:=hz) (_hz':=z2)),wpAny_loadPart' hl
  simpa using h
 | succ k ih=>
  intro i hk hij hno prog w A R s h
  obtain⟨hp,g,d,tk,os⟩:=s
  obtain⟨hl,he,h⟩:=h
  have hlt:i<items.size:=by omega
  wp_walk using wpAny_loadPart' hl
  rw[show items[((i:Nat):Int).toNat]?=some items[i] by simp[hlt]]
  refine aJ (he _ (Array.getElem_mem hlt) prog w _ _ ?_)
  rw[hno i hlt (by omega)]
  wp_walk
  rw[show((i:Int)+1)=((i+1:Nat):Int) by push_cast; rfl]
  exact⟨qR plain_remove_loop _,lL entry_remove_loop (by
   rw[nZ plain_remove_loop _]
   exact ih (i+1) (by omega) (by omega) hno prog w A R _ ⟨hl,he,h⟩)⟩
theorem Hq (l:aB)(items:Array aE)(n:Nat)(x:aE)(e:aE->Bool)(j:Nat)(hj:j<items.size)(hit:e items[j]=true)(hno : ∀ m (hm:m<items.size),m<j->e items[m]=false)(hz:items.size≤sizeLine) :
  Meets (Builtin.«list.remove» ⟨[.ref l,x],[]⟩)
   (fun A R s=>s.heap.get? l=some { cls:=.type "list",data:=.seq items n }/\(∀ y,y∈items->SeqAt.EqAt A.in1 s y x (e y))/\R (.ok (.ret .none)) { s with heap:=s.heap.update l (iM fun xs=>xs.eraseIdxIfInBounds j) }):=by
 intro prog w A R s h
 obtain⟨hp,g,d,tk,os⟩:=s
 obtain⟨hl,he,h⟩:=h
 wp_walk using wpAny_loadPart' hl
 exact⟨qR plain_remove_loop _,lL entry_remove_loop (by
  rw[nZ plain_remove_loop _]
  exact Om l items n x e j hj hit hz _ 0 rfl (eL _) hno prog w A R _ ⟨hl,he,h⟩)⟩
end
theorem Aan.erase {K:aH} : ∀ {ds:List aA} {vs:List V} (j:Nat),Aan K H ds vs->Aan K H (ds.eraseIdx j) (vs.eraseIdx j)
 | [],vs,j,h=>by
  obtain rfl:=Aaj.mp h
  simpa using Aaj.mpr rfl
 | d::ds,vs,0,h=>by
  obtain⟨v,r,rfl,h1,h2⟩:=Aac.mp h
  exact h2
 | d::ds,vs,j+1,h=>by
  obtain⟨v,r,rfl,h1,h2⟩:=Aac.mp h
  exact Aac.mpr ⟨v,_,rfl,h1,h2.erase j⟩
def atD (ds:List aA)(d:aA):Option Nat:=ds.findIdx? fun z=>cM z d
def RQ (K:aH):V->List V->Hp->VK->Prop:=fun x vs H Q=>∃ p xs y ds d j,x = .ref p/\vs=[y]/\H p=some (.lst xs)/\Aan K H ds xs/\Abb K H d y/\cO d=true/\noDicts ds=true/\atD ds d=some j/\Q .non (upd H p (.lst (xs.eraseIdx j)))
theorem Ov (hu:X.A.units+100<cLine):MtM X "list.remove" (RQ X.K):=by
 intro pins s σ H x vs v us Q I rx rv h
 obtain⟨p,xs,y,ds,d,j,rfl,rfl,hp,rs,rd,ok,nds,hj,q⟩:=h
 cases rx
 obtain⟨u,rfl,ru⟩:=rv.one
 obtain⟨z,its,n,r,hl,e⟩:=I.lstM hp
 have ok':noDict d=true/\d.depth≤60:=by simpa [cO] using ok
 obtain⟨la,as,ra⟩:=kE I ok'.1 rd ru
 obtain⟨lb,bs,rb⟩:=DC I nds rs r
 have em:its.map (SeqAt.readOf s.heap)=ds:=SeqAt.readsAll_map ds its bs lb rb
 obtain⟨hj1,hj2,hj3⟩:=List.findIdx?_eq_some_iff_getElem.mp hj
 have lj:ds.length=its.length:=by rw[← em,bX]
 have at' : ∀ m (hm:m<its.length),ds[m]'(by omega)=SeqAt.readOf s.heap its[m]:=fun m hm=>by
  simp only[← em,List.getElem_map]
 refine sX F.slot_list_remove ⟨_,e,rfl⟩ F.entry_list_remove (F.args_list_remove_2 _ _) (Hq p its.toArray n u (fun y=>cM (SeqAt.readOf s.heap y) d) j (by simpa using(by omega:j<its.length)) ?_ (fun m hm hlt=>?_) (by rw[eB]; omega)) ⟨e,SeqAt.items_eqAt (by simpa using rb) ra lb la (by omega),?_⟩
 ·have:=at' j (by omega)
  rw[this] at hj2
  simpa using hj2
 ·have hm':m<its.length:=by simpa using hm
  have h3:=hj3 m hlt
  rw[at' m hm'] at h3
  simpa using h3
 refine⟨.non,_,I.lset hp e ?_ (r.eraseIdx j) ?_,rfl,q⟩
 ·rw[List.eraseIdxIfInBounds_toArray]
 ·have:=TM xs j
  omega
section
variable {k:aS}{f g:EF}
theorem Tmp.free {K:aH}{ρ:aY}{σ:St}{v:V}(t:Tmp K H0 P0 B0 ρ σ n d v H) : ∃ fp,Sta K H0 P0 B0 ρ σ H fp/\Abb K (L2.hid H (Hd P0 fp)) d v:=by
 obtain⟨fp,S,r⟩:=t
 have hsub : ∀ a,Hd P0 (fun j=>if j=ρ.length then [] else fp j) a->Hd P0 fp a:=fun a h=>by
  rcases h with h | ⟨j,h⟩
  ·exact .inl h
  ·by_cases hj:j=ρ.length
   ·simp only[hj,if_true] at h; simp at h
   ·simp only[hj,if_false] at h; exact .inr ⟨j,h⟩
 refine⟨fun j=>if j=ρ.length then [] else fp j,⟨S.len,fun j=>?_,fun j k a h1 h2=>?_,fun j a h1=>?_,S.ext,S.hd,S.base.trans (gE hsub),fun j n' d' e'=>?_⟩,r.share (gE hsub) fun a m o q=>eO (fun z=>?_) q⟩
 ·by_cases hj:j=ρ.length
  ·simp only[hj,if_true]; exact .nil
  ·simp only[hj,if_false]; exact S.nd j
 ·by_cases hj:j=ρ.length
  ·simp only[hj,if_true] at h1; simp at h1
  ·by_cases hk:k=ρ.length
   ·simp only[hk,if_true] at h2; simp at h2
   ·simp only[hj,if_false] at h1; simp only[hk,if_false] at h2; exact S.dj j k a h1 h2
 ·by_cases hj:j=ρ.length
  ·simp only[hj,if_true] at h1; simp at h1
  ·simp only[hj,if_false] at h1; exact S.own j a h1
 ·have hlt:=(dM.mp e').1
  have hj:j≠ρ.length:=by omega
  obtain⟨v',h1,h2⟩:=S.slot j n' d' e'
  refine⟨v',h1,?_⟩
  simp only[hj,if_false]
  exact h2.keep (gE hsub) fun a m=>rfl
 ·rcases z with z | ⟨k,z⟩
  ·exact S.np m z
  ·by_cases hk:k=ρ.length
   ·simp only[hk,if_true] at z; simp at z
   ·simp only[hk,if_false] at z; exact hk (S.dj k _ a z m)
end
section
variable {K:aH}{ρ:aY}{σ:St}
theorem Sta.change{fp':Nat->List aB}{v:V}(S:Sta K H0 P0 B0 ρ σ H fp)(hi:i<ρ.length)(hv:σ[i]?=some (some v))
  (hf : ∀ j,j≠i->j<ρ.length->fp' j=fp j) (hz : ∀ j,ρ.length≤j->fp' j=[] \/ fp' j=fp j) (nd:(fp' i).Nodup) (sub : ∀ a∈fp' i,∃ j,a∈fp j/\(j=i \/ fp' j=[]))
  (kp : ∀ a,a∉fp i->H' a=H a) (ow : ∀ a∈fp' i,(∃ xs,H' a=some (.lst xs)) \/ ∃ q:DQ,H' a=some (dO q))
  (new:Ext (L2.hid H (Hd P0 fp)) (L2.hid H' (Hd P0 fp'))->Adw K (L2.hid H' (Hd P0 fp')) H' n d' v (fp' i)):Sta K H0 P0 B0 (ρ.set i (some (n,d'))) σ H' fp':=by
 have same : ∀ j,j≠i -> ∀ a∈fp' j,a∈fp j:=fun j hj a m=>by
  by_cases h:j<ρ.length
  ·rw[hf j hj h] at m; exact m
  ·rcases hz j (by omega) with e | e
   ·rw[e] at m; simp at m
   ·rw[e] at m; exact m
 have from_ : ∀ j,∀ a∈fp' j,∃ l,a∈fp l:=fun j a m=>by
  by_cases h:j=i
  ·subst h
   obtain⟨l,ml,_⟩:=sub a m
   exact⟨l,ml⟩
  ·exact⟨j,same j h a m⟩
 have xb:Ext (L2.hid H (Hd P0 fp)) (L2.hid H' (Hd P0 fp')):=fun b o e=>by
  obtain⟨nb,e⟩:=Abu.mp e
  refine eO (fun q=>nb ?_) ?_
  ·rcases q with q | ⟨j,q⟩
   ·exact .inl q
   ·obtain⟨l,ml⟩:=from_ j b q
    exact .inr ⟨l,ml⟩
  ·rw[kp b fun q=>nb (.inr ⟨i,q⟩)]; exact e
 have other : ∀ j,j≠i -> ∀ a∈fp' j,H' a=H a:=fun j hj a m=>kp a fun q=>hj (S.dj j i a (same j hj a m) q)
 refine⟨by simp[S.len],fun j=>?_,fun j l a h1 h2=>?_,fun j a m=>?_,fun b u e=>?_,S.hd,S.base.trans xb,fun j n' d2 e=>?_⟩
 ·by_cases h:j=i
  ·rw[h]; exact nd
  ·by_cases h2:j<ρ.length
   ·rw[hf j h h2]; exact S.nd j
   ·rcases hz j (by omega) with e | e
    ·rw[e]; exact .nil
    ·rw[e]; exact S.nd j
 ·by_cases e1:j=i <;> by_cases e2:l=i
  ·rw[e1,e2]
  ·subst e1
   obtain⟨m,hm,hm2⟩:=sub a h1
   have:=S.dj m l a hm (same l e2 a h2)
   subst this
   rcases hm2 with hm2 | hm2
   ·exact hm2.symm
   ·rw[hm2] at h2; simp at h2
  ·subst e2
   obtain⟨m,hm,hm2⟩:=sub a h2
   have:=S.dj m j a hm (same j e1 a h1)
   subst this
   rcases hm2 with hm2 | hm2
   ·exact hm2
   ·rw[hm2] at h1; simp at h1
  ·exact S.dj j l a (same j e1 a h1) (same l e2 a h2)
 ·obtain⟨l,ml⟩:=from_ j a m
  refine⟨(S.own l a ml).1,?_⟩
  by_cases h:j=i
  ·subst h; exact ow a m
  ·rw[other j h a m]; exact(S.own j a (same j h a m)).2
 ·rw[kp b fun q=>by rw[(S.own i b q).1] at e; cases e]
  exact S.ext b u e
 ·by_cases q:j=i
  ·subst q
   rw[mO hi] at e
   cases e
   exact⟨v,hv,new xb⟩
  ·rw[lD (fun z=>q z.symm)] at e
   obtain⟨v2,h1,h2⟩:=S.slot j n' d2 e
   have hj:=(dM.mp e).1
   refine⟨v2,h1,?_⟩
   have:=other j q
   rw[hf j q hj] at this ⊢
   exact h2.keep xb this
abbrev R1 (K:aH)(B H:Hp):aA×aA->aL×V->List aB->Prop:=fun kd kv f=>kd.1=kD kv.1/\Adw K B H 1 kd.2 kv.2 f
theorem Sta.dic2 {ds:List (aA×aA)}(S:Sta K H0 P0 B0 ρ σ H fp)(e:ρ[i]?=some (some (2,.dict ds))) : ∃ p ep xs Fs,σ[i]?=some (some (.ref p))/\H p=some (.dK ep xs)/\fp i=p::Fs.flatten/\All3 (R1 K (L2.hid H (Hd P0 fp)) H) ds xs Fs:=by
 obtain⟨v,h1,h2⟩:=S.slot i 2 _ e
 obtain⟨p,xs,Fs,rfl,hp,hF,h3⟩:=h2
 exact⟨p,xs.1,xs.2,Fs,h1,hp,hF,h3⟩
def gM:List (aA×aA)->aL->aA->List (aA×aA)
 | [],_,_=>[]
 | (k0,d0)::r,k,d=>if bR k0=some k then(k0,d)::r else(k0,d0)::gM r k d
theorem KJ (k0 d0:aA)(r:List (aA×aA))(k:aL):bG ((k0,d0)::r) k=if bR k0=some k then some d0 else bG r k:=by
 unfold bG
 rw[gH]
 by_cases h:bR k0=some k
 ·rw[if_pos h]; simp[h]
 ·rw[if_neg h]; simp[h]
theorem JS{k:aL} : ∀ {ds:List (aA×aA)} {xs:List (aL×V)} {Fs:List (List aB)},All3 (R1 K B H) ds xs Fs->Fs.flatten.Nodup -> ∀ d,bG ds k=some d ->
  ∃ v f,f∈Fs/\cZ xs k=some v/\Adw K B H 1 d v f /\ ∀ (B' H':Hp) (d':aA),Ext B B'->Adw K B' H' 1 d' v f->(∀ a,a∉f->H' a=H a)->All3 (R1 K B' H') (gM ds k d') xs Fs
 | _,_,_,.nil,_,d,e=>by simp[bG] at e
 | (k0,d0)::ds,(k',v0)::xs,f0::Fs,.cons h t,nd,d,e=>by
  obtain⟨ek,h⟩:=h
  have ek:=ek
  subst ek
  rw[KJ,jL] at e
  rw[dQ,jV] at nd
  by_cases q:k'=k
  ·rw[if_pos (by rw[q])] at e
   cases e
   refine⟨v0,f0,bD,sG q,h,fun B' H' d' xb r kp=>?_⟩
   show All3 _ (if bR (kD k')=some k then(kD k',d')::ds else _) _ _
   rw[if_pos (by rw[jL,q])]
   refine .cons ⟨rfl,r⟩ (t.imp fun a b c m rr=>⟨rr.1,rr.2.keep xb fun z hz=>kp z fun z2=>?_⟩)
   exact nd.2.2 z z2 z (dY.mpr ⟨c,m,hz⟩) rfl
  ·rw[if_neg (fun z=>q (dZ z))] at e
   obtain⟨v,f,m,h1,h2,h3⟩:=JS t nd.2.1 d e
   refine⟨v,f,bJ _ m,(qA q).trans h1,h2,fun B' H' d' xb r kp=>?_⟩
   show All3 _ (if bR (kD k')=some k then(kD k',d')::ds else(kD k',d0)::gM ds k d') _ _
   rw[if_neg (by rw[jL]; exact fun z=>q (dZ z))]
   refine .cons ⟨rfl,h.keep xb fun z hz=>kp z fun z2=>?_⟩ (h3 B' H' d' xb r kp)
   exact nd.2.2 z hz z (dY.mpr ⟨f,m,z2⟩) rfl
theorem Sta.inner {ds:List (aA×aA)}{k:aL}{es:List aA}(S:Sta K H0 P0 B0 ρ σ H fp)(e:ρ[i]?=some (some (2,.dict ds)))(hk:bG ds k=some (.list es)) : ∃ p ep xs q ys,σ[i]?=some (some (.ref p))/\H p=some (.dK ep xs)/\cZ xs k=some (.ref q)/\H q=some (.lst ys)/\Aan K (L2.hid H (Hd P0 fp)) es ys /\
  ∀ es' ys',Aan K (L2.hid H (Hd P0 fp)) es' ys'->Sta K H0 P0 B0 (ρ.set i (some (2,.dict (gM ds k (.list es'))))) σ (upd H q (.lst ys')) fp:=by
 obtain⟨p,ep,xs,Fs,h1,h2,h3,h4⟩:=S.dic2 e
 have nd:=S.nd i
 rw[h3,dS] at nd
 obtain⟨v,f,mf,hv,hr,up⟩:=JS h4 nd.2 _ hk
 obtain⟨q,ys,Gs,rfl,hq,hF,g3⟩:=hr
 obtain⟨r,hn⟩:=CL g3
 rw[hn] at hF
 refine⟨p,ep,xs,q,ys,h1,h2,hv,hq,r,fun es' ys' r'=>?_⟩
 have mq:q∈fp i:=by
  rw[h3]
  exact bJ _ (dY.mpr ⟨f,mf,by rw[hF]; exact bD⟩)
 have npq:p≠q:=fun z=>nd.1 (dY.mpr ⟨f,mf,by rw[hF,z]; exact bD⟩)
 refine S.change (dM.mp e).1 h1 (fun _ _ _=>rfl) (fun _ _=>.inr rfl) (S.nd i) (fun a m=>⟨i,m,.inl rfl⟩) (fun a na=>bK fun z=>na (z ▸ mq)) (fun a m=>?_) fun xb=>?_
 ·by_cases z:a=q
  ·subst z; exact .inl ⟨ys',cP⟩
  ·rw[bK z]; exact(S.own i a m).2
 ·refine⟨p,(ep,xs),Fs,rfl,by rw[bK npq]; exact h2,h3,up _ _ _ xb ?_ fun a na=>bK fun z=>na (by rw[hF,z]; exact bD)⟩
  obtain⟨q1,q2⟩:=xX (r'.ext xb)
  exact⟨q,ys',_,rfl,cP,by rw[hF,q2],q1⟩
theorem JY{kd:aA×aA}{kv:aL×V}{f:List aB}(h:R1 K B H kd kv f) : ∀ {ds:List (aA×aA)} {xs:List (aL×V)} {Fs:List (List aB)},All3 (R1 K B H) ds xs Fs->All3 (R1 K B H) (ds++[kd]) (xs++[kv]) (Fs++[f])
 | _,_,_,.nil=>.cons h .nil
 | _,_,_,.cons h' t=>.cons h' (JY h t)
theorem JO{k:aL} : ∀ {ds:List (aA×aA)} {xs:List (aL×V)} {Fs:List (List aB)},All3 (R1 K B H) ds xs Fs->bG ds k=none->cZ xs k=none
 | _,_,_,.nil,_=>rfl
 | (k0,d0)::ds,(k',v0)::xs,f0::Fs,.cons h t,e=>by
  obtain⟨ek,h⟩:=h
  have ek:=ek
  subst ek
  rw[KJ,jL] at e
  by_cases q:k'=k
  ·rw[if_pos (by rw[q])] at e; cases e
  ·rw[if_neg (fun z=>q (dZ z))] at e
   exact(qA q).trans (JO t e)
theorem IQ : ∀ {ds:List (aA×aA)} {xs:List (aL×V)} {Fs:List (List aB)},All3 (R1 K B H) ds xs Fs->xs.length=ds.length
 | _,_,_,.nil=>rfl
 | _,_,_,.cons _ t=>by rw[eD,eD,IQ t]
theorem Sta.newKey {ds:List (aA×aA)}{k:aL}{v:V}(S:Sta K H0 P0 B0 ρ σ H fp)(e:ρ[i]?=some (some (2,.dict ds)))(hk:bG ds k=none)(r:Adw K (L2.hid H (Hd P0 fp)) H 1 d v (fp ρ.length)) : ∃ p ep xs,σ[i]?=some (some (.ref p))/\H p=some (.dK ep xs)/\xs.length=ds.length /\
  ∀ n,∃ fp',Sta K H0 P0 B0 (ρ.set i (some (2,.dict (ds++[(kD k,d)])))) σ (upd H p (.dK n (putK xs k v))) fp':=by
 obtain⟨p,ep,xs,Fs,h1,h2,h3,h4⟩:=S.dic2 e
 have hi:=(dM.mp e).1
 refine⟨p,ep,xs,h1,h2,IQ h4,fun n=>?_⟩
 have ep':putK xs k v=xs++[(k,v)]:=by
  unfold putK
  rw[xK,JO h4 hk]
  rfl
 have mp:p∈fp i:=by rw[h3]; exact bD
 have nl : ∀ a∈fp ρ.length,a∉fp i:=fun a m m2=>by
  have:=S.dj _ _ a m m2
  omega
 refine⟨fun j=>if j=i then p::(Fs++[fp ρ.length]).flatten else if j=ρ.length then [] else fp j,S.change hi h1 (fun j a b=>?_) (fun j a=>?_) ?_ (fun a m=>?_) (fun a na=>bK fun z=>na (by rw[show a=p from z]; exact mp)) (fun a m=>?_) fun xb=>?_⟩
 ·simp only[a,if_false]
  rw[if_neg (by omega)]
 ·have:j≠i:=by omega
  simp only[this,if_false]
  by_cases z:j=ρ.length
  ·rw[if_pos z]; exact .inl rfl
  ·rw[if_neg z]; exact .inr rfl
 ·simp only[if_true,NQ,NP]
  have nd:=S.nd i
  rw[h3] at nd
  rw[← vW]
  refine jV.mpr ⟨nd,S.nd _,fun a ha b hb e=>?_⟩
  subst e
  exact nl a hb (by rw[h3]; exact ha)
 ·simp only[if_true,NQ,NP] at m
  rw[← vW] at m
  rcases iO.mp m with m | m
  ·exact⟨i,by rw[h3]; exact m,.inl rfl⟩
  ·refine⟨ρ.length,m,.inr ?_⟩
   have:ρ.length≠i:=by omega
   simp only[this,if_false,if_true]
 ·simp only[if_true,NQ,NP] at m
  rw[← vW] at m
  by_cases z:a=p
  ·subst z; exact .inr ⟨.inl (n,_),cP⟩
  ·rw[bK z]
   rcases iO.mp m with m | m
   ·exact(S.own i a (by rw[h3]; exact m)).2
   ·exact(S.own _ a m).2
 ·simp only[if_true]
  have nd:=S.nd i
  rw[h3,dS] at nd
  rw[ep'] at xb ⊢
  refine⟨p,(n,xs++[(k,v)]),Fs++[fp ρ.length],rfl,cP,rfl,?_⟩
  have rk:=Adw.keep xb (H':=upd H p (.dK n (xs++[(k,v)]))) (fun a m=>bK fun z=>nl a m (by rw[show a=p from z]; exact mp)) r
  refine JY ⟨rfl,rk⟩ (h4.imp fun a b c m rr=>⟨rr.1,Adw.keep xb (fun z hz=>bK fun z2=>nd.1 ?_) rr.2⟩)
  have z2:=z2
  rw[← z2]
  exact dY.mpr ⟨c,m,hz⟩
end
def tX (i:Nat)(ρ:aY):Option (List (aA×aA)):=match ρ[i]? with
 | some (some (2,.dict ds))=>some ds
 | _=>none
theorem vC{ρ:aY}{ds:List (aA×aA)}(h:tX i ρ=some ds):ρ[i]?=some (some (2,.dict ds)):=by
 unfold tX at h
 split at h
 ·rename_i e; cases h; exact e
 ·cases h
section
variable {k o:aS}{f g:EF}
theorem RS:DF 2 X (.Dict [] [] pos) (eC (.dict [])):=PE.imp BY fun σ H Q gh=>by
 obtain⟨P,ρ,d,hP,rs,ef,k⟩:=gh
 cases ef
 refine fun q hq=>k (.ref q) _ [q] (Ext.new hq) (dS.mpr ⟨by simp,.nil⟩) (fun a m=>?_) ⟨q,(0,[]),[],rfl,cP,rfl,.nil⟩
 have:a=q:=by simpa using m
 subst this
 exact⟨hq,_,cP⟩
def uG (i:Nat)(m:Md)(f:EF)(mk:Md)(g:EF):SF:=fun ρ=>(eV 1 m f ρ).bind fun d=>(tX i ρ).bind fun kds=>(eV 0 mk g ρ).bind fun k=>(bR k).bind fun k=>if bG kds k=none/\kds.length<sizeLine then some (.nx (ρ.set i (some (2,.dict (kds++[(kD k,d)]))))) else none
theorem SO (i:Nat)(m mk:Md)(hu:X.A.units+40<cLine)(he:DF 1 X e f)(hk:DE X k g)(hN:X.N[i]?=some x:=by rfl)(hv:jZ X.env.scope x:=by first | exact bM rfl | exact bI (bM rfl) | exact bI (bI rfl))(hd:(x == ("__debug__" : aD))=false:=by decide)
  (hcd:(x == ("__classdict__" : aD))=false:=by decide) (hs:kG e (some (.Subscript (.Name x px) k apos)) pos.line X.env=pure false:=by rfl):DS X H0 P0 n0 (.Assign [.Subscript (.Name x px) k apos] e pos) (uG i m f mk g):=
 PS.imp (AV hu (lG hN hv hd hcd) hk (ev (H0:=H0) (P0:=P0) m he) hs) fun D σ H gh=>by
  obtain⟨B0,ρ,fp,o,S,ef,kk⟩:=gh
  obtain⟨d,e1,ef2⟩:=XBs ef
  obtain⟨kds,e2,ef3⟩:=XBs ef2
  obtain⟨kd,e3,ef4⟩:=XBs ef3
  obtain⟨key,e4,ef5⟩:=XBs ef4
  obtain⟨⟨hn,hl⟩,rfl⟩:=cU ef5
  clear ef ef2 ef3 ef4
  refine⟨B0,ρ,fp,d,S,e1,fun v H2 gh=>?_⟩
  obtain⟨fp2,S2,r2⟩:=gh
  obtain⟨p,ep,xs,h1,h2,_,_⟩:=S2.newKey (vC e2) hn r2
  have hf:dU kd=true:=by rw[yD e4]; cases key <;> simp[kD,dU]
  refine⟨.ref p,h1,yX S2 e3 hf fun u H3 x3 r3=>?_⟩
  have S3:=S2.grow x3
  have r4:Adw X.K (hid H3 (Hd P0 fp2)) H3 1 d v (fp2 ρ.length):=r2.keep (cE x3) fun a m=>by
   rcases(S2.own _ a m).2 with⟨xs,e⟩ | ⟨xs,e⟩
   ·rw[e,x3 _ _ e]
   ·rw[e,x3 _ _ e]
  obtain⟨p3,ep3,xs3,q1,q2,q3,q4⟩:=S3.newKey (vC e2) hn r4
  have:p3=p:=by rw[h1] at q1; cases q1; rfl
  subst this
  refine⟨p3,_,rfl,.inl ⟨ep3,xs3,key,q2,qE e4 r3,by rw[q3]; exact hl,rfl⟩,fun n=>?_⟩
  obtain⟨fp',S4⟩:=q4 n
  exact kk _ _ fp' S4
end
theorem Sta.told2 {K:aH}{ρ:aY}{σ:St}{n':Nat}{m':aA}{v u:V}(S:Sta K H0 P0 B0 ρ σ H fp)(ij:i≠j)(hi:i<ρ.length)(hj:j<ρ.length)(hv:σ[i]?=some (some v))(hu:σ[j]?=some (some u))(kp : ∀ b o,b∉fp i->b∉fp j->H b=some o->H' b=some o)(new:Adw K (L2.hid H' (Hd P0 fp)) H' n d' v (fp i))(new2:Adw K (L2.hid H' (Hd P0 fp)) H' n' m' u (fp j)) :
  Sta K H0 P0 B0 ((ρ.set i (some (n,d'))).set j (some (n',m'))) σ H' fp:=by
 have xb:Ext (L2.hid H (Hd P0 fp)) (L2.hid H' (Hd P0 fp)):=fun b o e=>by
  obtain⟨nb,e⟩:=Abu.mp e
  exact eO nb (kp b o (fun m=>nb (.inr ⟨i,m⟩)) (fun m=>nb (.inr ⟨j,m⟩)) e)
 refine⟨by simp[S.len],S.nd,S.dj,fun l a m=>⟨(S.own l a m).1,?_⟩,fun b u e=>kp b u (fun m=>?_) (fun m=>?_) (S.ext b u e),S.hd,S.base.trans xb,fun l n2 d e=>?_⟩
 ·by_cases h:l=i
  ·subst h; exact new.mut a m
  by_cases h2:l=j
  ·subst h2; exact new2.mut a m
  have na:a∉fp i:=fun z=>h (S.dj l i a m z)
  have nb:a∉fp j:=fun z=>h2 (S.dj l j a m z)
  rcases(S.own l a m).2 with⟨xs,e⟩ | ⟨xs,e⟩
  ·exact .inl ⟨xs,kp _ _ na nb e⟩
  ·exact .inr ⟨xs,kp _ _ na nb e⟩
 ·rw[(S.own i b m).1] at e; cases e
 ·rw[(S.own j b m).1] at e; cases e
 ·by_cases h2:l=j
  ·subst h2
   rw[mO (by simpa using hj)] at e
   cases e
   exact⟨u,hu,new2⟩
  rw[lD (fun z=>h2 z.symm)] at e
  by_cases h:l=i
  ·subst h
   rw[mO hi] at e
   cases e
   exact⟨v,hv,new⟩
  ·rw[lD (fun z=>h z.symm)] at e
   obtain⟨v',h1,h3⟩:=S.slot l n2 d e
   refine⟨v',h1,h3.keep xb fun a m=>?_⟩
   have na:a∉fp i:=fun z=>h (S.dj l i a m z)
   have nb:a∉fp j:=fun z=>h2 (S.dj l j a m z)
   rcases(S.own l a m).2 with⟨xs,e⟩ | ⟨xs,e⟩
   ·rw[e,kp _ _ na nb e]
   ·rw[e,kp _ _ na nb e]
section
variable {K:aH}{F0 F1:List aB}{p:aB}{m1:aA}{Hx:Hp}{us:List V}{Q:VK}{E:XK}
theorem Uu (hPx:Hid P0 Hx)(rmx:Adw K (hid Hx (orL (orL P0 F1) F0)) Hx n m1 (.ref p) F1):Hid (orL P0 F1) Hx:=fun b h=>by
 rcases h with h | h
 ·exact hPx b h
 ·exact rmx.mut b h
theorem Nb(hdj : ∀ b∈F0,b∉F1)(rmx:Adw K (hid Hx (orL (orL P0 F1) F0)) Hx n m1 (.ref p) F1)(kp : ∀ b o,b∉F0->Hx b=some o->H' b=some o):Adw K (hid H' (orL (orL P0 F1) F0)) H' n m1 (.ref p) F1:=by
 refine rmx.keep (fun b o e=>?_) fun b m=>?_
 ·obtain⟨nb,e⟩:=Abu.mp e
  exact eO nb (kp b o (fun m=>nb (.inr m)) e)
 ·have nb:b∉F0:=fun z=>hdj b z m
  rcases rmx.mut b m with⟨xs,q⟩ | ⟨xs,q⟩ <;> rw[q,kp _ _ nb q]
theorem Iv {G:List aA->Option (Bool×aA)}{q:Bool×aA}(hPx:Hid P0 Hx)(hF0 : ∀ b∈F0,¬ P0 b)(hdj : ∀ b∈F0,b∉F1)(nF0:F0.Nodup)(rbx:RepB K (hid Hx (orL (orL P0 F1) F0)) Hx d (.ref a) F0)(rmx:Adw K (hid Hx (orL (orL P0 F1) F0)) Hx n m1 (.ref p) F1)(rd:Aan K (hid Hx (orL (orL P0 F1) F0)) ds us)(eG:G (d::ds)=some q)
  (k : ∀ H',(∀ b o,b∉F0->Hx b=some o->H' b=some o)->RepB K (hid H' (orL (orL P0 F1) F0)) H' q.2 (.ref a) F0->Adw K (hid H' (orL (orL P0 F1) F0)) H' n m1 (.ref p) F1->Q (.bl q.1) H'):uE K G (.ref a::us) Hx Q E:=
 ⟨orL P0 F1,F0,a,us,d,ds,q.1,q.2,rfl,Uu hPx rmx,fun b m h=>h.elim (hF0 b m) (hdj b m),nF0,rbx,rd,eG,fun H' kp rb'=>k H' kp rb' (Nb hdj rmx kp)⟩
theorem RepB.ins{v:V}(h:RepB K B H (bZ c W D) v F)(hc:eK K c=some (.ref C)) : ∃ a dx w q,v = .ref a/\H a=some (.ins C dx [("wide",w),("held",q)]):=by
 obtain⟨c',C',dx,a',w',qq,wds,hds,kvs,hvs,pps,e3,ea,e4,hia,_⟩:=h.ex
 have e3':c'=c:=by
  simp only[bZ,PyData.dict.injEq,Cn,FE,PyData.str.injEq,and_true,true_and] at e3
  exact e3.1.symm
 subst e3'
 obtain rfl:=pU hc e4
 exact⟨a',dx,_,_,ea,hia⟩
end
theorem IR {α β γ:Type}{R:α->β->List γ->Prop} : ∀ {ds:List α} {xs:List β} {Fs:List (List γ)},All3 R ds xs Fs->Fs.flatten.Nodup -> ∀ {w:Nat} {d:α},ds[w]?=some d ->
  ∃ x F,xs[w]?=some x/\F∈Fs/\R d x F /\ ∀ (S:α->β->List γ->Prop) d',S d' x F->(∀ a b c,c∈Fs->(∀ z∈c,z∉F)->R a b c->S a b c)->All3 S (ds.set w d') xs Fs
 | _,_,_,.nil,_,w,d,e=>by simp at e
 | d0::ds,x0::xs,F0::Fs,.cons h t,nd,0,d,e=>by
  cases e
  rw[dQ,jV] at nd
  exact⟨x0,F0,rfl,bD,h,fun S d' s o=>.cons s (t.imp fun a b c m r=>o a b c (bJ _ m) (fun z hz hz2=>nd.2.2 z hz2 z (dY.mpr ⟨c,m,hz⟩) rfl) r)⟩
 | d0::ds,x0::xs,F0::Fs,.cons h t,nd,w+1,d,e=>by
  rw[dQ,jV] at nd
  obtain⟨x,F,e1,mF,r,k⟩:=IR t nd.2.1 (w:=w) (d:=d) (by simpa using e)
  exact⟨x,F,e1,bJ _ mF,r,fun S d' s o=>.cons (o _ _ _ bD (fun z hz hz2=>nd.2.2 z hz z (dY.mpr ⟨F,mF,hz2⟩) rfl) h) (k S d' s fun a b c m=>o a b c (bJ _ m))⟩
section
variable {K:aH}{v:V}
theorem CW : ∀ {Fs:List (List aB)} {F0:List aB},Fs.flatten.Nodup->F0∈Fs->F0.Nodup
 | f::Fs,F0,nd,m=>by
  rw[dQ,jV] at nd
  rcases cI.mp m with rfl | m
  ·exact nd.1
  ·exact CW nd.2.1 m
theorem RB {bs:List aA}{w:Nat}(h:Adw K B H 10 (.list bs) v F)(nd:F.Nodup)(e:bs[w]?=some d) : ∃ p xs x F0,v = .ref p/\H p=some (.lst xs)/\xs[w]?=some x/\(∀ a∈F0,a∈F)/\F0.Nodup/\p∈F/\p∉F0/\RepB K B H d x F0 /\
  ∀ B' H' d',Ext B B'->(∀ a∈F,a∉F0->H' a=H a)->RepB K B' H' d' x F0->Adw K B' H' 10 (.list (bs.set w d')) v F:=by
 rcases(show _ \/ Ayc K B H (.list bs) v F from h) with⟨z,_⟩ | ⟨ds,p,xs,Fs,e0,ev,hp,eF,h3⟩
 ·cases z
 cases e0
 subst eF
 rw[dS] at nd
 obtain⟨x,F0,e1,mF,r,up⟩:=IR h3 nd.2 e
 have sub : ∀ a∈F0,a∈Fs.flatten:=fun a m=>dY.mpr ⟨F0,mF,m⟩
 refine⟨p,xs,x,F0,ev,hp,e1,fun a m=>bJ _ (sub a m),CW nd.2 mF,bD,fun m=>nd.1 (sub p m),r,fun B' H' d' xb kp rn=>?_⟩
 refine bI ⟨_,p,xs,Fs,rfl,ev,by rw[kp p bD fun m=>nd.1 (sub p m)]; exact hp,rfl,up _ d' rn fun a b c mc dj r=>r.keep xb fun z mz=>kp z (bJ _ (dY.mpr ⟨c,mc,mz⟩)) (dj z mz)⟩
theorem WJ {k:aL} : ∀ {ds:List (aA×aA)} {xs:List (aL×V)} {Fs:List (List aB)},All3 (R1 K B H) ds xs Fs->Fs.flatten.Nodup -> ∀ d,bG ds k=some d ->
  ∃ v f,f∈Fs/\cZ xs k=some v/\Adw K B H 1 d v f /\ ∀ (B' H':Hp) (d':aA),Ext B B'->Adw K B' H' 1 d' v f->(∀ a∈Fs.flatten,a∉f->H' a=H a)->All3 (R1 K B' H') (gM ds k d') xs Fs
 | _,_,_,.nil,_,d,e=>by simp[bG] at e
 | (k0,d0)::ds,(k',v0)::xs,f0::Fs,.cons h t,nd,d,e=>by
  obtain⟨ek,h⟩:=h
  have ek:=ek
  subst ek
  rw[KJ,jL] at e
  rw[dQ,jV] at nd
  by_cases q:k'=k
  ·rw[if_pos (by rw[q])] at e
   cases e
   refine⟨v0,f0,bD,sG q,h,fun B' H' d' xb r kp=>?_⟩
   show All3 _ (if bR (kD k')=some k then(kD k',d')::ds else _) _ _
   rw[if_pos (by rw[jL,q])]
   refine .cons ⟨rfl,r⟩ (t.imp fun a b c m rr=>⟨rr.1,rr.2.keep xb fun z hz=>kp z ?_ fun z2=>?_⟩)
   ·rw[dQ]
    exact lU _ (dY.mpr ⟨c,m,hz⟩)
   ·exact nd.2.2 z z2 z (dY.mpr ⟨c,m,hz⟩) rfl
  ·rw[if_neg (fun z=>q (dZ z))] at e
   obtain⟨v,f,m,h1,h2,h3⟩:=WJ t nd.2.1 d e
   refine⟨v,f,bJ _ m,(qA q).trans h1,h2,fun B' H' d' xb r kp=>?_⟩
   show All3 _ (if bR (kD k')=some k then(kD k',d')::ds else(kD k',d0)::gM ds k d') _ _
   rw[if_neg (by rw[jL]; exact fun z=>q (dZ z))]
   refine .cons ⟨rfl,h.keep xb fun z hz=>kp z ?_ fun z2=>?_⟩ (h3 B' H' d' xb r fun a ma=>kp a ?_)
   ·rw[dQ]
    exact NH _ hz
   ·exact nd.2.2 z hz z (dY.mpr ⟨f,m,z2⟩) rfl
   ·rw[dQ]
    exact lU _ ma
theorem VH {ms:List aA}{w:Nat}{k:aL}{es:List aA}(h:Adw K B H 3 (.list ms) v F)(nd:F.Nodup)(e:ms[w]?=some (.dict kds))(hk:bG kds k=some (.list es)) : ∃ p xs p2 ep kvs q ys,v = .ref p/\H p=some (.lst xs)/\xs[w]?=some (.ref p2)/\H p2=some (.dK ep kvs)/\cZ kvs k=some (.ref q)/\H q=some (.lst ys)/\q∈F/\Aan K B es ys /\
  ∀ B' H' es' ys',Ext B B'->(∀ a∈F,a≠q->H' a=H a)->H' q=some (.lst ys')->Aan K B' es' ys'->Adw K B' H' 3 (.list (ms.set w (.dict (gM kds k (.list es'))))) v F:=by
 obtain⟨p,xs,Fs,ev,hp,eF,h3⟩:=(show Aei K B H 3 (.list ms) v F from h)
 subst eF
 rw[dS] at nd
 obtain⟨x,F0,e1,mF,r,up⟩:=IR h3 nd.2 e
 obtain⟨p2,kvs,Gs,rfl,hp2,eG,g3⟩:=r
 have nd0:=CW nd.2 mF
 rw[eG,dS] at nd0
 obtain⟨v2,f,mf,hv,hr,up2⟩:=WJ (show All3 (R1 K B H) kds kvs.2 Gs from g3) nd0.2 _ hk
 obtain⟨q,ys,Es,rfl,hq,hF2,g4⟩:=hr
 obtain⟨rr,hn⟩:=CL g4
 rw[hn] at hF2
 have mqG:q∈Gs.flatten:=dY.mpr ⟨f,mf,by rw[hF2]; exact bD⟩
 have mq0:q∈F0:=by rw[eG]; exact bJ _ mqG
 have mq:q∈Fs.flatten:=dY.mpr ⟨F0,mF,mq0⟩
 refine⟨p,xs,p2,kvs.1,kvs.2,q,ys,ev,hp,e1,hp2,hv,hq,bJ _ mq,rr,fun B' H' es' ys' xb kp hq' r'=>?_⟩
 have n1:p≠q:=fun z=>nd.1 (z ▸ mq)
 have n2:p2≠q:=fun z=>nd0.1 (z ▸ mqG)
 show Aei K B' H' 3 (.list (ms.set w (.dict (gM kds k (.list es'))))) v (p::Fs.flatten)
 refine⟨p,xs,Fs,ev,by rw[kp p bD n1]; exact hp,rfl,up _ _ ?_ fun a b c mc dj r=>Aei.keep xb (fun z mz=>kp z (bJ _ (dY.mpr ⟨c,mc,mz⟩)) fun zq=>dj z mz (zq ▸ mq0)) r⟩
 have mp2:p2∈Fs.flatten:=dY.mpr ⟨F0,mF,by rw[eG]; exact bD⟩
 refine⟨p2,kvs,Gs,rfl,by rw[kp p2 (bJ _ mp2) n2]; exact hp2,eG,up2 B' H' (.list es') xb ?_ fun a ma nf=>kp a (bJ _ (dY.mpr ⟨F0,mF,by rw[eG]; exact bJ _ ma⟩)) fun z=>nf (by rw[hF2,z]; exact bD)⟩
 obtain⟨q1,q2⟩:=xX r'
 exact⟨q,ys',_,rfl,hq',by rw[hF2,q2],q1⟩
end
def wV (K:aH)(G:List aA->Option (aA×List aA)):Sp:=fun vs H Q _=>∃ P F0 a p us d rs ys ds d' rs',vs = .ref a :: .ref p::us/\Hid P H/\(∀ b∈F0,¬ P b) /\ ¬ P p/\p∉F0/\F0.Nodup /\
 RepB K (hid H (orL (orL P [p]) F0)) H d (.ref a) F0/\H p=some (.lst ys)/\Aan K (hid H (orL (orL P [p]) F0)) rs ys/\Aan K (hid H (orL (orL P [p]) F0)) ds us/\G (d :: .list rs::ds)=some (d',rs') /\
 ∀ H' ys',(∀ b o,b∉F0->b≠p->H b=some o->H' b=some o)->RepB K (hid H' (orL (orL P [p]) F0)) H' d' (.ref a) F0->H' p=some (.lst ys')->Aan K (hid H' (orL (orL P [p]) F0)) rs' ys'->Q .non H'
def asW:aA->Option Nat
 | .int i=>if 0≤i then some i.toNat else none
 | _=>none
theorem Vt{w:Nat}(h:asW d=some w):d = .int w:=by
 unfold asW at h
 split at h
 ·obtain⟨h0,rfl⟩:=cU h
  congr 1
  omega
 ·cases h
def zX (i:Nat)(ρ:aY):Option (List aA):=match ρ[i]? with
 | some (some (10,.list bs))=>some bs
 | _=>none
theorem Xh{ρ:aY}{bs:List aA}(h:zX i ρ=some bs):ρ[i]?=some (some (10,.list bs)):=by
 unfold zX at h
 split at h
 ·rename_i e; cases h; exact e
 ·cases h
def getM (i:Nat)(ρ:aY):Option (List aA):=match ρ[i]? with
 | some (some (3,.list bs))=>some bs
 | _=>none
theorem getM_some{ρ:aY}{bs:List aA}(h:getM i ρ=some bs):ρ[i]?=some (some (3,.list bs)):=by
 unfold getM at h
 split at h
 ·rename_i e; cases h; exact e
 ·cases h
def wN:aA->Option (List (aA×aA))
 | .dict kds=>some kds
 | _=>none
theorem WK{k:List (aA×aA)}(h:wN d=some k):d = .dict k:=by
 unfold wN at h
 split at h
 ·cases h; rfl
 ·cases h
def DN:aA->Option (List aA)
 | .list ds=>some ds
 | _=>none
theorem Oz{k:List aA}(h:DN d=some k):d = .list k:=by
 unfold DN at h
 split at h
 ·cases h; rfl
 ·cases h
def DX (i j:Nat)(G:List aA->Option (aA×List aA))(fw ft:EF)(fa:AF)(ρ:aY):Option aY:=(zX i ρ).bind fun bs=>(getM j ρ).bind fun ms=>(fw (vS ρ)).bind fun w=>(asW w).bind fun w=>(ft (vS ρ)).bind fun t=>(bR t).bind fun k=>(fa (vS ρ)).bind fun ds=>(bs[w]?).bind fun d=>(ms[w]?).bind fun m=>(wN m).bind fun kds=>(bG kds k).bind fun l=>(DN l).bind fun rs=>
 (G (d :: .list rs::ds)).bind fun q=>some ((ρ.set i (some (10,.list (bs.set w q.1)))).set j (some (3,.list (ms.set w (.dict (gM kds k (.list q.2)))))))
theorem Qj{G:List aA->Option (aA×List aA)}{fw ft:EF}{fa:AF}{ρ ρ':aY}(h:DX i j G fw ft fa ρ=some ρ') : ∃ bs ms w t k ds d kds rs q,ρ[i]?=some (some (10,.list bs))/\ρ[j]?=some (some (3,.list ms))/\fw (vS ρ)=some (.int (w:Nat))/\ft (vS ρ)=some t/\bR t=some k/\fa (vS ρ)=some ds/\bs[w]?=some d/\ms[w]?=some (.dict kds)/\bG kds k=some (.list rs)/\G (d :: .list rs::ds)=some q /\
  ρ'=(ρ.set i (some (10,.list (bs.set w q.1)))).set j (some (3,.list (ms.set w (.dict (gM kds k (.list q.2)))))):=by
 obtain⟨bs,b1,h⟩:=XBs h
 obtain⟨ms,b2,h⟩:=XBs h
 obtain⟨w,e1,h⟩:=XBs h
 obtain⟨w',e2,h⟩:=XBs h
 obtain⟨t,e3,h⟩:=XBs h
 obtain⟨k,e4,h⟩:=XBs h
 obtain⟨ds,e5,h⟩:=XBs h
 obtain⟨d,e6,h⟩:=XBs h
 obtain⟨m,e7,h⟩:=XBs h
 obtain⟨kds,e8,h⟩:=XBs h
 obtain⟨l,e9,h⟩:=XBs h
 obtain⟨rs,e10,h⟩:=XBs h
 obtain⟨q,e11,h⟩:=XBs h
 exact⟨bs,ms,w',t,k,ds,d,kds,rs,q,Xh b1,getM_some b2,by rw[e1,Vt e2],e3,e4,e5,e6,by rw[e7,WK e8],by rw[e9,Oz e10],e11,(dZ h).symm⟩
section
variable {ew et:aS}{fw ft:EF}{fa:AF}{z:aD}{pz p3:bQ}{k:Nat}{G:List aA->Option (aA×List aA)}
def OZ (K:aH)(H0:Hp)(P0:aB->Prop)(i j:Nat)(G:List aA->Option (aA×List aA))(fw ft:EF)(fa:AF):TE:=fun σ H Q=>∃ B0 ρ fp ρ',Sta K H0 P0 B0 ρ σ H fp/\DX i j G fw ft fa ρ=some ρ' /\ ∀ H' fp',Sta K H0 P0 B0 ρ' σ H' fp'->Q .non H'
theorem Lx {ew2:aS}(i j:Nat)(hu:X.A.units+40<cLine)(D:DefX X.prog X.w X.K X.mg X.base x k ps (wV X.K G))(hr:Room k X.A)(hg:Gl X x)(ij:i≠j)(hw:DE X ew fw)(hw2:DE X ew2 fw)(ht:DE X et ft)(ha:DA X (e::es) fa)(hp1:xH ew)(hp3:xH ew2)(hp2:AC et)
  (hN:X.N[i]?=some y:=by rfl) (hv:jZ X.env.scope y:=by first | exact bM rfl | exact bI (bM rfl) | exact bI (bI rfl)) (hd:(y == ("__debug__" : aD))=false:=by decide) (hcd:(y == ("__classdict__" : aD))=false:=by decide)
  (hN2:X.N[j]?=some z:=by rfl) (hv2:jZ X.env.scope z:=by first | exact bM rfl | exact bI (bM rfl) | exact bI (bI rfl)) (hd2:(z == ("__debug__" : aD))=false:=by decide) (hcd2:(z == ("__classdict__" : aD))=false:=by decide)
  (hdb:(x == ("__debug__" : aD))=false:=by decide) (hs1:bE (.Subscript (.Name y py) ew p1 :: .Subscript (.Subscript (.Name z pz) ew2 p2) et p3::e::es) X.env=(false,bH (.Subscript (.Name y py) ew p1) X.env)::bE (.Subscript (.Subscript (.Name z pz) ew2 p2) et p3::e::es) X.env:=by rfl)
  (hs2:bE (.Subscript (.Subscript (.Name z pz) ew2 p2) et p3::e::es) X.env=(false,bH (.Subscript (.Subscript (.Name z pz) ew2 p2) et p3) X.env)::bE (e::es) X.env:=by rfl)
  (hpl:(fK pos (bE (.Subscript (.Subscript (.Name z pz) ew2 p2) et p3::e::es) X.env)).any (·.1)=false:=by rfl) :
  PE X (.Call (.Name x px) (.Subscript (.Name y py) ew p1 :: .Subscript (.Subscript (.Name z pz) ew2 p2) et p3::e::es) [] pos) (OZ X.K H0 P0 i j G fw ft fa):=by
 refine PE.imp (Mc (E:=fun _ _ _=>False) D hr hg (fun _ _ _ _ _ _ _ h=>by obtain⟨_,_,_,_,_,_,_,_,_,_,_,_,_,_,q⟩:=h; exact q.elim) (fV (wO Alv (lG hN hv hd hcd) hw hp1) (fV (xG hu (wO Alv (lG hN2 hv2 hd2 hcd2) hw2 hp3) ht hp2) ha hs2) hs1) hdb hs1 hpl) fun σ H Q gh=>?_
 obtain⟨B0,ρ,fp,ρ',S,ev,kk⟩:=gh
 obtain⟨bs,ms,w,t,key,ds,d,kds,rs,q,es1,es2,e1,e2,e3,e4,e5,e6,e7,e8,rfl⟩:=Qj ev
 obtain⟨v,hv1,ro⟩:=S.slot i 10 _ es1
 obtain⟨u,hu1,rm⟩:=S.slot j 3 _ es2
 obtain⟨p,xs,xv,F0,rfl,hp,hx,sub,nF0,mp,np,rb,up⟩:=RB ro (S.nd i) e5
 obtain⟨a,ea⟩ : ∃ a,xv = .ref a:=by
  obtain⟨c',C',dx,a',w',qq,wds,hds,kvs,hvs,pps,e3,ea,_⟩:=rb.ex
  exact⟨a',ea⟩
 subst ea
 have ex2 : ∃ p' xs' p2' ep kvs q2 ys,u = .ref p'/\H p'=some (.lst xs')/\xs'[w]?=some (.ref p2')/\H p2'=some (.dK ep kvs)/\cZ kvs key=some (.ref q2)/\H q2=some (.lst ys)/\q2∈fp j:=by
  obtain⟨p',xs',p2',ep,kvs,q2,ys,h1,h2,h3,h4,h5,h6,h7,_⟩:=VH rm (S.nd j) e6 e7
  exact⟨p',xs',p2',ep,kvs,q2,ys,h1,h2,h3,h4,h5,h6,h7⟩
 obtain⟨p',xs',p2',ep,kvs,q2,ys,rfl,hp',hx',hp2',hval,hq,mq⟩:=ex2
 have grow : ∀ {H1:Hp},Ext H H1->Sta X.K H0 P0 B0 ρ σ H1 fp:=fun x1=>S.grow x1
 refine⟨.ref p,hv1,Hd P0 fp,vS ρ,.int w,S.hid,S.viewS,e1,dA fun vw H1 x1 rw1=>?_⟩
 obtain rfl:=Aaq.mp rw1
 refine⟨p,xs,(w:Int),.ref a,rfl,rfl,SqL.of (x1 _ _ hp),kU hx,?_⟩
 refine⟨.ref p',hu1,Hd P0 fp,vS ρ,.int w,(grow x1).hid,(grow x1).viewS,e1,dA fun vw H2 x2 rw2=>?_⟩
 obtain rfl:=Aaq.mp rw2
 have x12:=x1.trans x2
 refine⟨p',xs',(w:Int),.ref p2',rfl,rfl,SqL.of (x12 _ _ hp'),kU hx',?_⟩
 refine⟨Hd P0 fp,vS ρ,t,(grow x12).hid,(grow x12).viewS,e2,dA fun vt H3 x3 rt=>?_⟩
 have x13:=x12.trans x3
 have ekt:vt=kV key:=WX (by rw[yD e3] at rt; exact rt)
 subst ekt
 refine⟨p2',.ref q2,rfl,by rw[← hval]; exact Axa.k (x13 _ _ hp2'),?_⟩
 refine⟨Hd P0 fp,vS ρ,ds,(grow x13).hid,(grow x13).viewS,e4,fun vs H4 x4 r4=>?_⟩
 have x14:=x13.trans x4
 show wV X.K G (.ref a :: .ref q2::(vs++[])) H4 Q _
 rw[nV]
 have S4:=S.grow x14
 obtain⟨v4,hv4,ro4⟩:=S4.slot i 10 _ es1
 obtain⟨u4,hu4,rm4⟩:=S4.slot j 3 _ es2
 rw[hv1] at hv4
 cases hv4
 rw[hu1] at hu4
 cases hu4
 obtain⟨p4,xs4,xv4,F4,ep4,hp4,hx4,sub4,nF4,mp4,np4,rb4,up4⟩:=RB ro4 (S4.nd i) e5
 cases ep4
 have eX:=x14 _ _ hp
 rw[hp4] at eX
 cases eX
 rw[hx] at hx4
 cases hx4
 obtain⟨p5,xs5,p25,ep5,kvs5,q5,ys5,eu5,hp5,hx5,hp25,hval5,hq5,mq5,rrs5,upm5⟩:=VH rm4 (S4.nd j) e6 e7
 cases eu5
 have eX:=x14 _ _ hp'
 rw[hp5] at eX
 cases eX
 rw[hx'] at hx5
 cases hx5
 have eX:=x14 _ _ hp2'
 rw[hp25] at eX
 cases eX
 rw[hval] at hval5
 cases hval5
 have dj : ∀ b∈F4,b≠q2:=fun b m z=>ij (S4.dj i j b (sub4 b m) (z ▸ mq5))
 have dj2 : ∀ b,b∈fp i->b≠q2:=fun b m z=>ij (S4.dj i j b m (z ▸ mq5))
 have eP:orL (orL (fun b=>Hd P0 fp b/\b∉F4/\b≠q2) [q2]) F4=Hd P0 fp:=by
  funext b
  refine propext ⟨fun h=>?_,fun h=>?_⟩
  ·rcases h with(h | h) | h
   ·exact h.1
   ·rw[cN.mp h]; exact .inr ⟨j,mq5⟩
   ·exact .inr ⟨i,sub4 b h⟩
  ·by_cases h1:b∈F4
   ·exact .inr h1
   by_cases h2:b=q2
   ·exact .inl (.inr (cN.mpr h2))
   ·exact .inl (.inl ⟨h,h1,h2⟩)
 refine⟨fun b=>Hd P0 fp b/\b∉F4/\b≠q2,F4,a,q2,vs,d,rs,ys5,ds,q.1,q.2,rfl,fun b h=>S4.hid b h.1,fun b m h=>h.2.1 m,fun h=>h.2.2 rfl,fun m=>dj q2 m rfl,nF4,by rw[eP]; exact rb4,hq5,by rw[eP]; exact rrs5,by rw[eP]; exact r4,e8,fun H' ys' kp rn hn rr=>?_⟩
 rw[eP] at rn rr
 have xb:Ext (hid H4 (Hd P0 fp)) (hid H' (Hd P0 fp)):=fun b o e=>by
  obtain⟨nb,e⟩:=Abu.mp e
  exact eO nb (kp b o (fun m=>nb (.inr ⟨i,sub4 b m⟩)) (fun z=>nb (.inr ⟨j,z ▸ mq5⟩)) e)
 have same : ∀ l b,b∈fp l->b∉F4->b≠q2->H' b=H4 b:=fun l b m n1 n2=>by
  rcases(S4.own l b m).2 with⟨xs,e⟩ | ⟨xs,e⟩
  ·rw[e,kp _ _ n1 n2 e]
  ·rw[e,kp _ _ n1 n2 e]
 exact kk H' fp (S4.told2 ij (dM.mp es1).1 (dM.mp es2).1 hv1 hu1 (fun b o n1 n2 e=>kp b o (fun m=>n1 (sub4 b m)) (fun z=>n2 (z ▸ mq5)) e) (up4 _ _ _ xb (fun b m n1=>same i b m n1 (dj2 b m)) rn) (upm5 _ _ _ _ xb (fun b m n2=>same j b m (fun m4=>ij (S4.dj i j b (sub4 b m4) m)) n2) hn rr))
def wM (i j:Nat)(G:List aA->Option (aA×List aA))(fw ft:EF)(fa:AF):SF:=fun ρ=>(DX i j G fw ft fa ρ).bind fun ρ'=>some (.nx ρ')
theorem Kf(h:PE X ce (OZ X.K H0 P0 i j G fw ft fa))(hs:kG ce none pos.line X.env=pure false:=by rfl):DS X H0 P0 n0 (.Expr ce pos) (wM i j G fw ft fa):=PS.imp (kT h hs) fun D σ H gh=>by
 obtain⟨B0,ρ,fp,o,S,ef,k⟩:=gh
 obtain⟨q,e1,ef⟩:=XBs ef
 cases ef
 exact⟨B0,ρ,fp,q,S,e1,fun H' fp' S'=>k _ _ fp' S'⟩
end
theorem Gy (hs1:bE [.Dict [] [] p1,.Dict [] [] p2] X.env=(false,bH (.Dict [] [] p1) X.env)::bE [.Dict [] [] p2] X.env:=by rfl)(hs2:bE [.Dict [] [] p2] X.env=(false,bH (.Dict [] [] p2) X.env)::bE [] X.env:=by rfl) :
  DF 3 X (.List [.Dict [] [] p1,.Dict [] [] p2] pos) (eC (.list [.dict [],.dict []])):=PE.imp (HE (fV BY (fV BY iR hs2) hs1)) fun σ H Q gh=>by
 obtain⟨P,ρ,d,hP,rs,ef,k⟩:=gh
 cases ef
 intro q1 h1 q2 h2
 refine⟨show 2≤sizeLine by decide,fun p hp=>?_⟩
 have n12:q2≠q1:=fun z=>by rw[z,cP] at h2; cases h2
 have h2':H q2=none:=by rw[bK n12] at h2; exact h2
 have n2:p≠q2:=fun z=>by rw[z,cP] at hp; cases hp
 have hp1:upd H q1 (.dK 0 []) p=none:=by rw[bK n2] at hp; exact hp
 have n1:p≠q1:=fun z=>by rw[z,cP] at hp1; cases hp1
 have hp':H p=none:=by rw[bK n1] at hp1; exact hp1
 have g1:upd (upd (upd H q1 (.dK 0 [])) q2 (.dK 0 [])) p (.lst [.ref q1,.ref q2]) q1=some (.dK 0 []):=by
  rw[bK (fun z=>n1 z.symm),bK (fun z=>n12 z.symm),cP]
 have g2:upd (upd (upd H q1 (.dK 0 [])) q2 (.dK 0 [])) p (.lst [.ref q1,.ref q2]) q2=some (.dK 0 []):=by
  rw[bK (fun z=>n2 z.symm),cP]
 refine k (.ref p) _ [p,q1,q2] (((Ext.new h1).trans (Ext.new h2)).trans (Ext.new hp)) ?_ (fun a m=>?_) ?_
 ·simp only[dS,cI,List.not_mem_nil,or_false,not_or,not_false_eq_true,and_true]
  exact⟨⟨n1,n2⟩,fun z=>n12 z.symm,trivial,.nil⟩
 ·simp only[cI,List.not_mem_nil,or_false] at m
  rcases m with rfl | rfl | rfl
  ·exact⟨hp',_,cP⟩
  ·exact⟨h1,_,g1⟩
  ·exact⟨h2',_,g2⟩
 ·show Aei X.K _ _ 3 (.list [.dict [],.dict []]) (.ref p) [p,q1,q2]
  exact⟨p,[.ref q1,.ref q2],[[q1],[q2]],rfl,cP,rfl,.cons ⟨q1,(0,[]),[],rfl,g1,rfl,.nil⟩ (.cons ⟨q2,(0,[]),[],rfl,g2,rfl,.nil⟩ .nil)⟩
theorem SA {L:List aB} : ∀ {Fs:List (List aB)} {w:Nat} {F:List aB},Fs[w]?=some F->((Fs.set w (F++L)).flatten).Perm (Fs.flatten++L)
 | [],w,F,e=>by simp at e
 | f::Fs,0,F,e=>by
  cases e
  rw[List.set_cons_zero,dQ,dQ,NR,NR]
  exact List.perm_append_comm.append_left _
 | f::Fs,w+1,F,e=>by
  rw[List.set_cons_succ,dQ,dQ,NR]
  exact(SA (by simpa using e)).append_left f
theorem UC {α β γ:Type}{R:α->β->List γ->Prop} : ∀ {ds:List α} {xs:List β} {Fs:List (List γ)},All3 R ds xs Fs->Fs.flatten.Nodup -> ∀ {w:Nat} {d:α},ds[w]?=some d ->
  ∃ x F,xs[w]?=some x/\Fs[w]?=some F/\R d x F /\ ∀ (S:α->β->List γ->Prop) d' F',S d' x F'->(∀ a b c,c∈Fs->(∀ z∈c,z∉F)->R a b c->S a b c)->All3 S (ds.set w d') xs (Fs.set w F')
 | _,_,_,.nil,_,w,d,e=>by simp at e
 | d0::ds,x0::xs,F0::Fs,.cons h t,nd,0,d,e=>by
  cases e
  rw[dQ,jV] at nd
  exact⟨x0,F0,rfl,rfl,h,fun S d' F' s o=>.cons s (t.imp fun a b c m r=>o a b c (bJ _ m) (fun z hz hz2=>nd.2.2 z hz2 z (dY.mpr ⟨c,m,hz⟩) rfl) r)⟩
 | d0::ds,x0::xs,F0::Fs,.cons h t,nd,w+1,d,e=>by
  rw[dQ,jV] at nd
  obtain⟨x,F,e1,e2,r,k⟩:=UC t nd.2.1 (w:=w) (d:=d) (by simpa using e)
  exact⟨x,F,e1,by simpa using e2,r,fun S d' F' s o=>.cons (o _ _ _ bD (fun z hz hz2=>nd.2.2 z hz z (dY.mpr ⟨F,iW e2,hz2⟩) rfl) h) (k S d' F' s fun a b c m=>o a b c (bJ _ m))⟩
section
variable {K:aH}{ρ:aY}{σ:St}
theorem Sta.newKey3 {ms:List aA}{w:Nat}{k:aL}{v:V}(S:Sta K H0 P0 B0 ρ σ H fp)(e:ρ[i]?=some (some (3,.list ms)))(em:ms[w]?=some (.dict kds))(hk:bG kds k=none)(r:Adw K (L2.hid H (Hd P0 fp)) H 1 d v (fp ρ.length)) :
  ∃ p xs p2 ep kvs,σ[i]?=some (some (.ref p))/\H p=some (.lst xs)/\xs[w]?=some (.ref p2)/\H p2=some (.dK ep kvs)/\kvs.length=kds.length /\
  ∀ n,∃ fp',Sta K H0 P0 B0 (ρ.set i (some (3,.list (ms.set w (.dict (kds++[(kD k,d)])))))) σ (upd H p2 (.dK n (putK kvs k v))) fp':=by
 obtain⟨u,h1,ro⟩:=S.slot i 3 _ e
 obtain⟨p,xs,Fs,rfl,hp,h3,h4⟩:=(show Aei K (L2.hid H (Hd P0 fp)) H 3 (.list ms) u (fp i) from ro)
 have hi:=(dM.mp e).1
 have nd:=S.nd i
 rw[h3,dS] at nd
 obtain⟨x,F,hx,hF,rF,up⟩:=UC h4 nd.2 em
 obtain⟨p2,kvs,Gs,rfl,hp2,eG,g3⟩:=rF
 have mF:=iW hF
 have nd0:=CW nd.2 mF
 rw[eG,dS] at nd0
 have g3':All3 (R1 K (L2.hid H (Hd P0 fp)) H) kds kvs.2 Gs:=g3
 refine⟨p,xs,p2,kvs.1,kvs.2,h1,hp,hx,hp2,IQ g3',fun n=>?_⟩
 have ep':putK kvs.2 k v=kvs.2++[(k,v)]:=by
  unfold putK
  rw[xK,JO g3' hk]
  rfl
 have mp2F:p2∈F:=by rw[eG]; exact bD
 have mp2:p2∈fp i:=by rw[h3]; exact bJ _ (dY.mpr ⟨F,mF,mp2F⟩)
 have nl : ∀ a∈fp ρ.length,a∉fp i:=fun a m m2=>by
  have:=S.dj _ _ a m m2
  omega
 have pm:(p::(Fs.set w (F++fp ρ.length)).flatten).Perm (fp i++fp ρ.length):=by
  rw[h3,vW]
  exact(SA hF).cons p
 have npp:p≠p2:=fun z=>nd.1 (z ▸ dY.mpr ⟨F,mF,mp2F⟩)
 refine⟨fun j=>if j=i then p::(Fs.set w (F++fp ρ.length)).flatten else if j=ρ.length then [] else fp j,S.change hi h1 (fun j a b=>?_) (fun j a=>?_) ?_ (fun a m=>?_) (fun a na=>bK fun z=>na (by rw[show a=p2 from z]; exact mp2)) (fun a m=>?_) fun xb=>?_⟩
 ·simp only[a,if_false]
  rw[if_neg (by omega)]
 ·have:j≠i:=by omega
  simp only[this,if_false]
  by_cases z:j=ρ.length
  ·rw[if_pos z]; exact .inl rfl
  ·rw[if_neg z]; exact .inr rfl
 ·simp only[if_true]
  refine pm.nodup_iff.mpr (jV.mpr ⟨S.nd i,S.nd _,fun a ha b hb e=>?_⟩)
  subst e
  exact nl a hb ha
 ·simp only[if_true] at m
  rcases iO.mp (pm.mem_iff.mp m) with m | m
  ·exact⟨i,m,.inl rfl⟩
  ·refine⟨ρ.length,m,.inr ?_⟩
   have:ρ.length≠i:=by omega
   simp only[this,if_false,if_true]
 ·simp only[if_true] at m
  by_cases z:a=p2
  ·subst z; exact .inr ⟨.inl (n,_),cP⟩
  ·rw[bK z]
   rcases iO.mp (pm.mem_iff.mp m) with m | m
   ·exact(S.own i a m).2
   ·exact(S.own _ a m).2
 ·simp only[if_true]
  rw[ep'] at xb ⊢
  show Aei K _ _ 3 (.list (ms.set w (.dict (kds++[(kD k,d)])))) (.ref p) _
  refine⟨p,xs,Fs.set w (F++fp ρ.length),rfl,by rw[bK npp]; exact hp,rfl,up _ _ _ ?_ fun a b c mc dj rr=>Aei.keep xb (fun z hz=>bK fun z2=>dj z hz (by rw[show z=p2 from z2]; exact mp2F)) rr⟩
  refine⟨p2,(n,kvs.2++[(k,v)]),Gs++[fp ρ.length],rfl,cP,by rw[eG,NQ,NP,vW],?_⟩
  have rk:=Adw.keep xb (H':=upd H p2 (.dK n (kvs.2++[(k,v)]))) (fun a m=>bK fun z=>nl a m (by rw[show a=p2 from z]; exact mp2)) r
  refine JY (show R1 K _ _ (kD k,d) (k,v) (fp ρ.length) from⟨rfl,rk⟩) (g3'.imp fun a b c m rr=>⟨rr.1,Adw.keep xb (fun z hz=>bK fun z2=>nd0.1 ?_) rr.2⟩)
  rw[← show z=p2 from z2]
  exact dY.mpr ⟨c,m,hz⟩
end
section
variable {c jj:Nat}{k:aS}{f g:EF}{p0:bQ}
def xA (i c:Nat)(m:Md)(f:EF)(mk:Md)(g:EF):SF:=fun ρ=>(eV 1 m f ρ).bind fun d=>(getM i ρ).bind fun ms=>(ms[c]?).bind fun mm=>(wN mm).bind fun kds=>(eV 0 mk g ρ).bind fun kd=>(bR kd).bind fun key=>if bG kds key=none/\kds.length<sizeLine then some (.nx (ρ.set i (some (3,.list (ms.set c (.dict (kds++[(kD key,d)]))))))) else none
theorem RG (i:Nat)(m mk:Md)(hu:X.A.units+40<cLine)(he:DF 1 X e f)(hk:DE X k g)(hpi:xH (.Constant (.int (c:Int)) jj p0):=by intro _ _; rfl)(hN:X.N[i]?=some x:=by rfl)(hv:jZ X.env.scope x:=by first | exact bM rfl | exact bI (bM rfl) | exact bI (bI rfl))(hd:(x == ("__debug__" : aD))=false:=by decide)
  (hcd:(x == ("__classdict__" : aD))=false:=by decide) (hs:kG e (some (.Subscript (.Subscript (.Name x px) (.Constant (.int (c:Int)) jj p0) p1) k apos)) pos.line X.env=pure false:=by rfl):DS X H0 P0 n0 (.Assign [.Subscript (.Subscript (.Name x px) (.Constant (.int (c:Int)) jj p0) p1) k apos] e pos) (xA i c m f mk g):=
 PS.imp (AV hu (wO Alv (lG hN hv hd hcd) YZ hpi) hk (ev (H0:=H0) (P0:=P0) m he) hs) fun D σ H gh=>by
  obtain⟨B0,ρ,fp,o,S,ef,kk⟩:=gh
  obtain⟨d,e1,ef1⟩:=XBs ef
  obtain⟨ms,e2,ef2⟩:=XBs ef1
  obtain⟨mm,e5,ef3⟩:=XBs ef2
  obtain⟨kds,e6,ef4⟩:=XBs ef3
  obtain⟨kd,e3,ef5⟩:=XBs ef4
  obtain⟨key,e4,ef6⟩:=XBs ef5
  obtain⟨⟨hn,hl⟩,rfl⟩:=cU ef6
  clear ef ef1 ef2 ef3 ef4 ef5
  rw[WK e6] at e5
  refine⟨B0,ρ,fp,d,S,e1,fun v H2 gh=>?_⟩
  obtain⟨fp2,S2,r2⟩:=gh
  obtain⟨p,xs,p2,ep,kvs,h1,h2,h3,h4,h5,_⟩:=S2.newKey3 (getM_some e2) e5 hn r2
  have hf:dU kd=true:=by rw[yD e4]; cases key <;> simp[kD,dU]
  refine⟨.ref p,h1,p,xs,(c:Int),.ref p2,rfl,rfl,SqL.of h2,kU h3,yX S2 e3 hf fun u H3 x3 r3=>?_⟩
  have S3:=S2.grow x3
  have r4:Adw X.K (hid H3 (Hd P0 fp2)) H3 1 d v (fp2 ρ.length):=r2.keep (cE x3) fun a m=>by
   rcases(S2.own _ a m).2 with⟨xs,e⟩ | ⟨xs,e⟩
   ·rw[e,x3 _ _ e]
   ·rw[e,x3 _ _ e]
  obtain⟨p',xs',p2',ep',kvs',q1,q2,q3,q4,q5,q6⟩:=S3.newKey3 (getM_some e2) e5 hn r4
  rw[h1] at q1
  cases q1
  have eX:=x3 _ _ h2
  rw[q2] at eX
  cases eX
  rw[h3] at q3
  cases q3
  refine⟨p2,_,rfl,.inl ⟨ep',kvs',key,q4,qE e4 r3,by rw[q5]; exact hl,rfl⟩,fun n=>?_⟩
  obtain⟨fp',S4⟩:=q6 n
  exact kk _ _ fp' S4
end
def AO (c:aD)(f1 f2:EF):EF:=fun ρ=>(f1 ρ).bind fun d1=>(f2 ρ).bind fun d2=>if (iQ c d1).isSome=true/\(iQ c d2).isSome=true then some (.list [d1,d2]) else none
theorem TB {K:aH}{v:V}(h:Adw K B H 9 d v F)(hd:(iQ c d).isSome=true):RepB K B H d v F:=by
 obtain⟨q,e⟩:=pE.mp hd
 have e:=uV e
 subst e
 rcases(show _ \/ Aja _ _ _ _ _ _ \/ RepB _ _ _ _ _ _ from h) with⟨z,_⟩ | ⟨_,_,_,z,_⟩ | h
 ·cases z
 ·cases z
 ·exact h
section
variable {e1 e2:aS}{f1 f2:EF}
theorem Vl (h1:DF 9 X e1 f1)(h2:DF 9 X e2 f2)(hs1:bE [e1,e2] X.env=(false,bH e1 X.env)::bE [e2] X.env:=by rfl)(hs2:bE [e2] X.env=(false,bH e2 X.env)::bE [] X.env:=by rfl) :
  DF 10 X (.List [e1,e2] pos) (AO c f1 f2):=PE.imp (HE (fV h1 (fV h2 iR hs2) hs1)) fun σ H Q gh=>by
 obtain⟨P,ρ,d,hP,rs,ef,k⟩:=gh
 obtain⟨d1,g1,ef1⟩:=XBs ef
 obtain⟨d2,g2,ef2⟩:=XBs ef1
 obtain⟨⟨i1,i2⟩,rfl⟩:=cU ef2
 clear ef ef1
 refine⟨P,ρ,d1,hP,rs,g1,fun v1 H1 Fr1 x1 nd1 fr1 ro1=>?_⟩
 have rb1:=TB ro1 i1
 have xb1:Ext (hid H P) (hid H1 (orL P Fr1)):=fun b o e=>by
  obtain⟨nb,e⟩:=Abu.mp e
  refine eO (fun z=>z.elim nb fun z=>?_) (x1 _ _ e)
  rw[(fr1 b z).1] at e
  cases e
 have hP1:Hid (orL P Fr1) H1:=fun b h=>by
  rcases h with h | h
  ·exact hP.ext x1 b h
  ·exact rb1.mut b h
 refine⟨orL P Fr1,ρ,d2,hP1,rs.ext xb1,g2,fun v2 H2 Fr2 x2 nd2 fr2 ro2=>?_⟩
 have rb2:=TB ro2 i2
 refine⟨show 2≤sizeLine by decide,fun p hp=>?_⟩
 have x3:Ext H2 (upd H2 p (.lst [v1,v2])):=Ext.new hp
 have n1:p∉Fr1:=fun m=>by
  rcases rb1.mut p m with⟨xs,q⟩ | ⟨xs,q⟩ <;> rw[x2 _ _ q] at hp <;> cases hp
 have n2:p∉Fr2:=fun m=>by
  rcases rb2.mut p m with⟨xs,q⟩ | ⟨xs,q⟩ <;> rw[q] at hp <;> cases hp
 have hpH:H p=none:=(x1.trans x2).none hp
 have d12 : ∀ a∈Fr1,a∉Fr2:=fun a m1 m2=>by
  have:=(fr2 a m2).1
  rcases rb1.mut a m1 with⟨xs,q⟩ | ⟨xs,q⟩ <;> rw[q] at this <;> cases this
 refine k (.ref p) _ (p::[Fr1,Fr2].flatten) ((x1.trans x2).trans x3) ?_ (fun a m=>?_) (bI ⟨[d1,d2],p,[v1,v2],[Fr1,Fr2],rfl,rfl,cP,rfl,.cons ?_ (.cons ?_ .nil)⟩)
 ·simp only[dQ,FN,nV]
  refine dS.mpr ⟨fun m=>(iO.mp m).elim n1 n2,jV.mpr ⟨nd1,nd2,fun a ha b hb e=>?_⟩⟩
  subst e
  exact d12 a ha hb
 ·simp only[dQ,FN,nV] at m
  rcases cI.mp m with rfl | m
  ·exact⟨hpH,_,cP⟩
  rcases iO.mp m with m | m
  ·obtain⟨h1,o,h2⟩:=fr1 a m
   exact⟨h1,o,x3 _ _ (x2 _ _ h2)⟩
  ·obtain⟨h1,o,h2⟩:=fr2 a m
   exact⟨x1.none h1,o,x3 _ _ h2⟩
 ·refine rb1.keep (fun b o e=>?_) fun b m=>?_
  ·obtain⟨nb,e⟩:=Abu.mp e
   refine eO (fun z=>?_) (x3 _ _ (x2 _ _ e))
   simp only[dQ,FN,nV] at z
   rcases z with z | z
   ·exact nb (.inl z)
   rcases cI.mp z with rfl | z
   ·rw[x2 _ _ e] at hp; cases hp
   rcases iO.mp z with z | z
   ·exact nb (.inr z)
   ·rw[(fr2 b z).1] at e; cases e
  ·rcases rb1.mut b m with⟨xs,q⟩ | ⟨xs,q⟩ <;> rw[q,x3 _ _ (x2 _ _ q)]
 ·refine rb2.keep (fun b o e=>?_) fun b m=>?_
  ·obtain⟨nb,e⟩:=Abu.mp e
   refine eO (fun z=>?_) (x3 _ _ e)
   simp only[dQ,FN,nV] at z
   rcases z with z | z
   ·exact nb (.inl (.inl z))
   rcases cI.mp z with rfl | z
   ·rw[e] at hp; cases hp
   rcases iO.mp z with z | z
   ·exact nb (.inl (.inr z))
   ·exact nb (.inr z)
  ·rcases rb2.mut b m with⟨xs,q⟩ | ⟨xs,q⟩ <;> rw[q,x3 _ _ q]
end
theorem Lc:OpR X (fH .IsNot) (fun x y H Q=>∃ a b,x = .bl a/\y = .bl b/\Q (.bl (!decide (a=b))) H):=by
 intro pins s σ H x y v u Q I rx ry h
 obtain⟨a,b,rfl,rfl,q⟩:=h
 cases rx
 cases ry
 refine wpAny_isNot_plain rfl (HG I q ?_)
 cases a <;> cases b <;> rfl
def LQ:aA->aA->Option aA
 | .bool a,.bool b=>some (.bool (!decide (a=b)))
 | _,_=>none
theorem To {K:aH}:OpD K 0 (fun x y H Q=>∃ a b,x = .bl a/\y = .bl b/\Q (.bl (!decide (a=b))) H) LQ:=fun P H x y a b d Q hP ra rb e k=>by
 unfold LQ at e
 split at e
 ·cases e
  exact⟨_,_,Aat.mp ra,Aat.mp rb,k.zero Ext.refl (Aat.mpr rfl)⟩
 ·cases e
section
variable {K:aH}{ρ:aY}{σ:St}
def AL (σ:St)(H:Hp)(i j:Nat)(k:aL):Prop:=∃ p ep xs q,σ[i]?=some (some (.ref p))/\H p=some (.dK ep xs)/\cZ xs k=some (.ref q)/\σ[j]?=some (some (.ref q))
theorem AL.set {k:aL}{l:Nat}{v:V}(h:AL σ H i j k)(hi:l≠i)(hj:l≠j):AL (σ.set l (some v)) H i j k:=by
 obtain⟨p,ep,xs,q,h1,h2,h3,h4⟩:=h
 exact⟨p,ep,xs,q,by rw[lD hi]; exact h1,h2,h3,by rw[lD hj]; exact h4⟩
end
section
variable {k o:aS}{f g:EF}
def GU (i:Nat)(mk:Md)(g:EF)(m:Md)(f:EF):SF:=fun ρ=>(tX i ρ).bind fun kds=>(eV 0 mk g ρ).bind fun k=>(bR k).bind fun k=>(bG kds k).bind fun l=>match l with
 | .list es=>(eV 0 m f ρ).bind fun d=>if dU d=true/\es.length<sizeLine then some (.nx (ρ.set i (some (2,.dict (gM kds k (.list (es++[d]))))))) else none
 | _=>none
theorem La (i:Nat)(mk m:Md)(hu:X.A.units+40<cLine)(hk:DE X k g)(he:DE X e f)(hN:X.N[i]?=some x:=by rfl)(hv:jZ X.env.scope x:=by first | exact bM rfl | exact bI (bM rfl) | exact bI (bI rfl))(hd:(x == ("__debug__" : aD))=false:=by decide)
  (hcd:(x == ("__classdict__" : aD))=false:=by decide) (hns:AC k:=by exact fun _ _=>rfl) (hbase:lN (.Subscript (.Name x px) k spos) "append" X.env (bH (.Subscript (.Name x px) k spos) X.env)=bH (.Subscript (.Name x px) k spos) X.env:=by rfl)
  (hfew:((fK cpos (bE (e::[]) X.env)).all (fun x=>!x.1)&&(sY cpos (sV [] X.env)).all (fun x=>x.1.isSome)
   && decide ((e::[]).length+([]:List pJ).length+(if ([]:List pJ).isEmpty then 0 else 1)<30))=true:=by rfl)
  (hline:(apos.endLine == cpos.line)=true:=by rfl) (hs:bE (e::[]) X.env=(false,bH e X.env)::bE [] X.env:=by rfl) (hplain:(fK cpos (bE [] X.env)).any (·.1)=false:=by rfl)
  (hsw:kG (.Call (.Attribute (.Subscript (.Name x px) k spos) "append" apos) [e] [] cpos) none pos.line X.env=pure false:=by rfl):DS X H0 P0 n0 (.Expr (.Call (.Attribute (.Subscript (.Name x px) k spos) "append" apos) [e] [] cpos) pos) (GU i mk g m f):=
 PS.imp (kT (rL FA Bp Bo CO (xG hu (lG hN hv hd hcd) hk hns) (fV he iR hs) hbase hfew hline hs hplain) hsw) fun D σ H gh=>by
  obtain⟨B0,ρ,fp,o,S,ef,kk⟩:=gh
  obtain⟨kds,e2,ef3⟩:=XBs ef
  obtain⟨kd,e3,ef4⟩:=XBs ef3
  obtain⟨key,e4,ef5⟩:=XBs ef4
  obtain⟨l,e5,ef6⟩:=XBs ef5
  clear ef ef3 ef4 ef5
  cases l with
  | list es=>
   obtain⟨d,e1,ef7⟩:=XBs ef6
   obtain⟨⟨hfd,lz⟩,rfl⟩:=cU ef7
   have hf:dU kd=true:=by rw[yD e4]; cases key <;> simp[kD,dU]
   obtain⟨p,ep,xs,q,ys,h1,h2,h3,h4,_,_⟩:=S.inner (vC e2) e5
   refine⟨.ref p,h1,yX S e3 hf fun u H2 x2 r2=>⟨p,.ref q,rfl,.inl ⟨ep,xs,key,.inl (x2 _ _ h2),qE e4 r2,h3.symm⟩,.inl ⟨rfl,ys,SqL.of (x2 _ _ h4)⟩,yX (S.grow x2) e1 hfd fun v H3 x3 r3=>?_⟩⟩
   have S3:=S.grow (x2.trans x3)
   obtain⟨p3,ep3,xs3,q3,ys3,g1,g2,g3,g4,g5,g6⟩:=S3.inner (vC e2) e5
   have ep':p3=p:=by rw[h1] at g1; cases g1; rfl
   subst ep'
   have ex:=g2.symm.trans (x3 _ _ (x2 _ _ h2))
   injection ex with ex
   injection ex with ex1 ex2
   subst ex2
   have eq':q3=q:=by
    have:=g3.symm.trans h3
    injection this with this
    injection this
   subst eq'
   exact⟨q3,ys3,v,rfl,rfl,g4,by rw[g5.length]; exact lz,kk _ _ fp (g6 _ _ (g5.snoc r3))⟩
  | _=>cases ef6
end
def pA (kvs:List (aL×V))(k:aL):List (aL×V):=kvs.filter fun kv=>decide (kv.1≠k)
theorem KV.out (k:aL) : ∀ {kvs:List (aL×V)} {vs:List (aL×aE)},KV kvs vs->KV (pA kvs k) (without vs k)
 | _,_,.nil=>.nil
 | p::_,q::_,.cons h t=>by
  have e:=h.1
  unfold pA without
  rw[lE,lE]
  by_cases c:p.1=k
  ·rw[if_neg (by simp[c]),if_neg (by rw[← e]; simp[c])]
   exact KV.out k t
  ·rw[if_pos (by simp[c]),if_pos (by rw[← e]; simp[c])]
   exact .cons h (KV.out k t)
def Er:V->List V->Hp->VK->Prop:=fun x vs H Q=>∃ d ep kvs k u,x = .ref d/\vs=[kV k]/\H d=some (.dK ep kvs)/\cZ kvs k=some u /\ ∀ n,Q u (upd H d (.dK n (pA kvs k)))
theorem Jn:MtM X "dict.pop" Er:=by
 intro pins s σ H x vs v us Q I rx rv h
 obtain⟨d,ep,kvs,k,u,rfl,rfl,e,hu,q⟩:=h
 cases rx
 cases rv with
 | @cons _ key _ _ rk rr=>
  cases rr
  obtain⟨z,hd,ws,rel,dd⟩:=uD I.hok e
  have rl:=rel.val k
  rw[hu] at rl
  obtain⟨w',e1,e2⟩:=rl.some_of
  have hp:(keyPart key).isSome=true:=by
   rcases lK (pO (P:=X.prog) (w:=X.w) rk) with⟨i,tk,_,e2⟩ | ⟨x,tk,_,e2⟩ <;> rw[e2] <;> rfl
  refine call_meetsIn MV dd.typeIs PySem.F.entry_dict_pop (Xt _ _) (meets_dict_pop_there (eZ X.prog X.w) d (pO rk) [] (.inl rfl) hp) ⟨ws,w',dd,by rw[← rel.length]; exact z,e1,fun h' dd' sb=>?_⟩
  have he : ∃ q,h'.get? d=some q:=let ⟨q,_,_,hq,_⟩:=dd'; ⟨q,hq⟩
  obtain⟨n,da⟩:=dd'.dictAt
  have hl:(pA kvs k).length≤sizeLine:=iA (NK _ _) z
  exact⟨u,_,BA I (by rw[e]; exact jU) sb he (HB hl hd (rel.out k) da),e2,q n⟩
section
variable {K:aH}{ρ:aY}{σ:St}
def tN (kds:List (aA×aA))(k:aL):List (aA×aA):=kds.filter fun kd=>decide (bR kd.1≠some k)
theorem SU{k:aL} : ∀ {ds:List (aA×aA)} {xs:List (aL×V)} {Fs:List (List aB)},All3 (R1 K B H) ds xs Fs -> ∃ Gs:List (List aB),Gs.flatten.Sublist Fs.flatten /\ ∀ (B' H':Hp),Ext B B'->(∀ a∈Fs.flatten,H' a=H a)->All3 (R1 K B' H') (tN ds k) (pA xs k) Gs
 | _,_,_,.nil=>⟨[],.slnil,fun _ _ _ _=>.nil⟩
 | (k0,d0)::ds,(k',v0)::xs,f0::Fs,.cons h t=>by
  obtain⟨ek,h⟩:=h
  have ek:=ek
  subst ek
  obtain⟨Gs,sub,up⟩:=SU t
  by_cases c:k'=k
  ·refine⟨Gs,?_,fun B' H' xb kp=>?_⟩
   ·rw[dQ]
    exact sub.trans (List.sublist_append_right _ _)
   ·unfold tN pA
    rw[lE,lE,if_neg (by simp[jL,c]),if_neg (by simp[c])]
    exact up B' H' xb fun a m=>kp a (by rw[dQ]; exact iO.mpr (.inr m))
  ·refine⟨f0::Gs,?_,fun B' H' xb kp=>?_⟩
   ·rw[dQ,dQ]
    exact List.Sublist.append (List.Sublist.refl _) sub
   ·unfold tN pA
    rw[lE,lE,if_pos (by simp[jL,c]),if_pos (by simp[c])]
    exact .cons ⟨rfl,h.keep xb fun a m=>kp a (by rw[dQ]; exact iO.mpr (.inl m))⟩ (up B' H' xb fun a m=>kp a (by rw[dQ]; exact iO.mpr (.inr m)))
theorem Sta.outKey {ds:List (aA×aA)}{k:aL}(S:Sta K H0 P0 B0 ρ σ H fp)(e:ρ[i]?=some (some (2,.dict ds)))(hk:bG ds k=some d) : ∃ p ep xs u,σ[i]?=some (some (.ref p))/\H p=some (.dK ep xs)/\cZ xs k=some u /\
  ∀ n,∃ fp',Sta K H0 P0 B0 (ρ.set i (some (2,.dict (tN ds k)))) σ (upd H p (.dK n (pA xs k))) fp':=by
 obtain⟨p,ep,xs,Fs,h1,h2,h3,h4⟩:=S.dic2 e
 have hi:=(dM.mp e).1
 have nd:=S.nd i
 rw[h3,dS] at nd
 obtain⟨u,f,_,hu,_⟩:=JS h4 nd.2 _ hk
 refine⟨p,ep,xs,u,h1,h2,hu,fun n=>?_⟩
 obtain⟨Gs,sub,up⟩:=SU h4
 have mp:p∈fp i:=by rw[h3]; exact bD
 have inF : ∀ a∈p::Gs.flatten,a∈fp i:=fun a m=>by
  rw[h3]
  rcases cI.mp m with m | m
  ·rw[m]; exact bD
  ·exact bJ _ (sub.subset m)
 refine⟨fun j=>if j=i then p::Gs.flatten else fp j,S.change hi h1 (fun j a b=>by simp only[a,if_false]) (fun j a=>?_) ?_ (fun a m=>?_) (fun a na=>bK fun z=>na (by rw[show a=p from z]; exact mp)) (fun a m=>?_) fun xb=>?_⟩
 ·have:j≠i:=by omega
  simp only[this,if_false]
  exact .inr trivial
 ·simp only[if_true]
  exact dS.mpr ⟨fun m=>nd.1 (sub.subset m),nd.2.sublist sub⟩
 ·simp only[if_true] at m
  exact⟨i,inF a m,.inl rfl⟩
 ·simp only[if_true] at m
  by_cases z:a=p
  ·subst z; exact .inr ⟨.inl (n,_),cP⟩
  ·rw[bK z]; exact(S.own i a (inF a m)).2
 ·simp only[if_true]
  refine⟨p,(n,pA xs k),Gs,rfl,cP,rfl,up _ _ xb fun a m=>bK fun z=>nd.1 ?_⟩
  have z:=z
  rw[← z]
  exact m
end
section
variable {k:aS}{g:EF}
def GO (i:Nat)(mk:Md)(g:EF):SF:=fun ρ=>(tX i ρ).bind fun kds=>(eV 0 mk g ρ).bind fun k=>(bR k).bind fun k=>if (bG kds k).isSome=true then some (.nx (ρ.set i (some (2,.dict (tN kds k))))) else none
theorem Ik (i:Nat)(mk:Md)(hk:DE X k g)(hN:X.N[i]?=some x:=by rfl)(hv:jZ X.env.scope x:=by first | exact bM rfl | exact bI (bM rfl) | exact bI (bI rfl))(hd:(x == ("__debug__" : aD))=false:=by decide)
  (hcd:(x == ("__classdict__" : aD))=false:=by decide) (hbase:lN (.Name x px) "pop" X.env (bH (.Name x px) X.env)=bH (.Name x px) X.env:=by rfl)
  (hfew:((fK cpos (bE (k::[]) X.env)).all (fun x=>!x.1)&&(sY cpos (sV [] X.env)).all (fun x=>x.1.isSome)
   && decide ((k::[]).length+([]:List pJ).length+(if ([]:List pJ).isEmpty then 0 else 1)<30))=true:=by rfl)
  (hline:(apos.endLine == cpos.line)=true:=by rfl) (hs:bE (k::[]) X.env=(false,bH k X.env)::bE [] X.env:=by rfl) (hplain:(fK cpos (bE [] X.env)).any (·.1)=false:=by rfl)
  (hsw:kG (.Call (.Attribute (.Name x px) "pop" apos) [k] [] cpos) none pos.line X.env=pure false:=by rfl):DS X H0 P0 n0 (.Expr (.Call (.Attribute (.Name x px) "pop" apos) [k] [] cpos) pos) (GO i mk g):=
 PS.imp (kT (rL Xp MV PySem.F.type_dict_pop Jn (lG hN hv hd hcd) (fV (ev mk hk) iR hs) hbase hfew hline hs hplain) hsw) fun D σ H gh=>by
  obtain⟨B0,ρ,fp,o,S,ef,kk⟩:=gh
  obtain⟨kds,e2,ef3⟩:=XBs ef
  obtain⟨kd,e3,ef4⟩:=XBs ef3
  obtain⟨key,e4,ef5⟩:=XBs ef4
  obtain⟨hn,rfl⟩:=cU ef5
  obtain⟨d0,hn⟩:=pE.mp hn
  obtain⟨p,ep,xs,u,h1,h2,_,_⟩:=S.outKey (vC e2) hn
  refine⟨.ref p,h1,.inr (.inr (.inl ⟨rfl,.inl ⟨ep,xs,h2⟩⟩)),B0,ρ,fp,kd,S,e3,fun v1 H2 gh=>?_⟩
  obtain⟨fp2,S2,r2⟩:=gh
  have ev1:=qE e4 r2.2
  subst ev1
  obtain⟨p3,ep3,xs3,u3,q1,q2,q3,q4⟩:=S2.outKey (vC e2) hn
  have:p3=p:=by rw[h1] at q1; cases q1; rfl
  subst this
  refine⟨p3,ep3,xs3,key,u3,rfl,rfl,q2,q3,fun n=>?_⟩
  obtain⟨fp',S4⟩:=q4 n
  exact kk _ _ fp' S4
end
end L2
namespace Aw
open PySem L2
def top (i:Nat):bW:=PySem.Challenge.pw_askwithin_k12_whole_books_apart.main.body.getD i (.Pass ⟨0,0,0,0⟩)
abbrev KC:bW:=top 10
abbrev Nu:List aD:=["thing"]
abbrev uZ:List aD:=["thing"]
theorem Alm:FnScope Nu uZ (cA KC):=⟨rfl,rfl,rfl,by decide +kernel,rfl,by decide +kernel,by decide +kernel⟩
abbrev KI:bW:=top 11
abbrev Pi:List aD:=["thing"]
abbrev yC:List aD:=["thing"]
theorem Al6:FnScope Pi yC (cA KI):=⟨rfl,rfl,rfl,by decide +kernel,rfl,by decide +kernel,by decide +kernel⟩
abbrev CI:bW:=top 12
abbrev TZ:List aD:=["thing"]
abbrev sM:List aD:=["thing"]
theorem Anq:FnScope TZ sM (cA CI):=⟨rfl,rfl,rfl,by decide +kernel,rfl,by decide +kernel,by decide +kernel⟩
abbrev JQ:bW:=top 13
abbrev Wp:List aD:=["thing"]
abbrev xW:List aD:=["thing"]
theorem Anw:FnScope Wp xW (cA JQ):=⟨rfl,rfl,rfl,by decide +kernel,rfl,by decide +kernel,by decide +kernel⟩
abbrev DK:bW:=top 14
abbrev XS:List aD:=["things"]
abbrev yT:List aD:=["things"]
theorem Agl:FnScope XS yT (cA DK):=⟨rfl,rfl,rfl,by decide +kernel,rfl,by decide +kernel,by decide +kernel⟩
abbrev BQ:bW:=top 19
abbrev RA:List aD:=["thing"]
abbrev uU:List aD:=["thing"]
theorem Arp:FnScope RA uU (cA BQ):=⟨rfl,rfl,rfl,by decide +kernel,rfl,by decide +kernel,by decide +kernel⟩
abbrev CS:bW:=top 20
abbrev WU:List aD:=["thing"]
abbrev yB:List aD:=["thing"]
theorem Amk:FnScope WU yB (cA CS):=⟨rfl,rfl,rfl,by decide +kernel,rfl,by decide +kernel,by decide +kernel⟩
abbrev CD:bW:=top 21
abbrev VO:List aD:=["thing"]
abbrev xT:List aD:=["thing"]
theorem Ani:FnScope VO xT (cA CD):=⟨rfl,rfl,rfl,by decide +kernel,rfl,by decide +kernel,by decide +kernel⟩
abbrev KN:bW:=top 22
abbrev Ou:List aD:=["thing"]
abbrev yA:List aD:=["thing"]
theorem Ame:FnScope Ou yA (cA KN):=⟨rfl,rfl,rfl,by decide +kernel,rfl,by decide +kernel,by decide +kernel⟩
abbrev yG:bW:=top 23
abbrev LH:List aD:=["thing"]
abbrev yJ:List aD:=["thing"]
theorem Ai3:FnScope LH yJ (cA yG):=⟨rfl,rfl,rfl,by decide +kernel,rfl,by decide +kernel,by decide +kernel⟩
abbrev LL:bW:=inClass (top 24) 0
abbrev XR:List aD:=["self","widths","table"]
abbrev yU:List aD:=["self","widths"]
theorem Agh:FnScope XR yU (cA LL):=⟨rfl,rfl,rfl,by decide +kernel,rfl,by decide +kernel,by decide +kernel⟩
abbrev LO:bW:=inClass (top 24) 1
abbrev Sg:List aD:=["self","table"]
abbrev vG:List aD:=["self","table"]
theorem Afe:FnScope Sg vG (cA LO):=⟨rfl,rfl,rfl,by decide +kernel,rfl,by decide +kernel,by decide +kernel⟩
abbrev LM:bW:=inClass (top 24) 2
abbrev Rx:List aD:=["self","table","row"]
abbrev oU:List aD:=["self","table","row"]
theorem Agf:FnScope Rx oU (cA LM):=⟨rfl,rfl,rfl,by decide +kernel,rfl,by decide +kernel,by decide +kernel⟩
abbrev CU:bW:=inClass (top 24) 3
abbrev VS:List aD:=["self","table","row"]
abbrev qG:List aD:=["self","table","row"]
theorem Af3:FnScope VS qG (cA CU):=⟨rfl,rfl,rfl,by decide +kernel,rfl,by decide +kernel,by decide +kernel⟩
abbrev DB:bW:=inClass (top 24) 4
abbrev XH:List aD:=["self","table","row"]
abbrev qI:List aD:=["self","table","row"]
theorem Afh:FnScope XH qI (cA DB):=⟨rfl,rfl,rfl,by decide +kernel,rfl,by decide +kernel,by decide +kernel⟩
abbrev KU:bW:=inClass (top 24) 5
abbrev Nx:List aD:=["self","table","row"]
abbrev CY:List aD:=["self","table","row"]
theorem Alu:FnScope Nx CY (cA KU):=⟨rfl,rfl,rfl,by decide +kernel,rfl,by decide +kernel,by decide +kernel⟩
abbrev KW:bW:=inClass (top 24) 6
abbrev Qb:List aD:=["self","table"]
abbrev yO:List aD:=["self","table"]
theorem Akg:FnScope Qb yO (cA KW):=⟨rfl,rfl,rfl,by decide +kernel,rfl,by decide +kernel,by decide +kernel⟩
abbrev LK:bW:=inClass (top 24) 7
abbrev Rl:List aD:=["self"]
abbrev yP:List aD:=["self"]
theorem Ahy:FnScope Rl yP (cA LK):=⟨rfl,rfl,rfl,by decide +kernel,rfl,by decide +kernel,by decide +kernel⟩
abbrev LI:bW:=inClass (top 24) 10
abbrev Qw:List aD:=["self","book","table"]
abbrev yI:List aD:=["self"]
theorem Ai1:FnScope Qw yI (cA LI):=⟨rfl,rfl,rfl,by decide +kernel,rfl,by decide +kernel,by decide +kernel⟩
abbrev LG:bW:=top 26
abbrev Qf:List aD:=["_law_script","_law_k","_law_number"]
abbrev yF:List aD:=["_law_script","_law_k"]
theorem Akb:FnScope Qf yF (cA LG):=⟨rfl,rfl,rfl,by decide +kernel,rfl,by decide +kernel,by decide +kernel⟩
abbrev KS:bW:=top 27
abbrev Of:List aD:=["_law_cell_here","_law_k","_law_number"]
abbrev sP:List aD:=["_law_cell_here","_law_k"]
theorem Ald:FnScope Of sP (cA KS):=⟨rfl,rfl,rfl,by decide +kernel,rfl,by decide +kernel,by decide +kernel⟩
abbrev vF:bW:=top 28
abbrev CZ:List aD:=["_law_cell_here","_law_count","_law_signs","_law_size","_law_base","_law_at","_law_found","_law_k"]
abbrev yH:List aD:=["_law_cell_here","_law_count"]
theorem Ai0:FnScope CZ yH (cA vF):=⟨rfl,rfl,rfl,by decide +kernel,rfl,by decide +kernel,by decide +kernel⟩
abbrev KB:bW:=top 29
abbrev Pg:List aD:=["_law_cell_here","_law_wide","_law_row_here","_law_k"]
abbrev xZ:List aD:=["_law_cell_here","_law_wide"]
theorem Al0:FnScope Pg xZ (cA KB):=⟨rfl,rfl,rfl,by decide +kernel,rfl,by decide +kernel,by decide +kernel⟩
abbrev LD:bW:=top 30
abbrev Pt:List aD:=["_law_plain","_law_found","_law_table"]
abbrev yM:List aD:=["_law_plain"]
theorem Aki:FnScope Pt yM (cA LD):=⟨rfl,rfl,rfl,by decide +kernel,rfl,by decide +kernel,by decide +kernel⟩
abbrev LN:bW:=top 31
abbrev Sj:List aD:=["_law_plain","_law_model","_law_table","_law_rows"]
abbrev yV:List aD:=["_law_plain","_law_model"]
theorem Ae6:FnScope Sj yV (cA LN):=⟨rfl,rfl,rfl,by decide +kernel,rfl,by decide +kernel,by decide +kernel⟩
abbrev LC:bW:=top 32
abbrev WW:List aD:=["_law_book","_law_rows","_law_table","_law_row_here","_law_way"]
abbrev yN:List aD:=["_law_book","_law_rows","_law_table","_law_row_here","_law_way"]
theorem Akm:FnScope WW yN (cA LC):=⟨rfl,rfl,rfl,by decide +kernel,rfl,by decide +kernel,by decide +kernel⟩
abbrev rO:bW:=top 33
abbrev Ej:List aD:=["_law_script","_law_pairs","_law_name","_law_listed","_law_books","_law_models","_law_wide","_law_held","_law_cell_here","_law_which","_law_table","_law_plain","_law_spoiled","_law_k","_law_kept"]
abbrev PQ:List aD:=["_law_script"]
theorem A8h:FnScope Ej PQ (cA rO):=⟨rfl,rfl,rfl,by decide +kernel,rfl,by decide +kernel,by decide +kernel⟩
structure Blt (mg:aD->Option aE):Prop where
 «isinstance» : mg "isinstance" = none
 «int» : mg "int" = none
 «bool» : mg "bool" = none
 «abs» : mg "abs" = none
 «range» : mg "range" = none
 «len» : mg "len" = none
 «str» : mg "str" = none
 «all» : mg "all" = none
 «any» : mg "any" = none
 «list» : mg "list" = none
 «tuple» : mg "tuple" = none
 «dict» : mg "dict" = none
 «set» : mg "set" = none
 «sorted» : mg "sorted" = none
 «sum» : mg "sum" = none
 «min» : mg "min" = none
 «max» : mg "max" = none
 «enumerate» : mg "enumerate" = none
 «zip» : mg "zip" = none
 «reversed» : mg "reversed" = none
 «ValueError» : mg "ValueError" = none
structure Cst (mg:aD->Option aE):Prop where
 LETTERS : ∃ t,mg "LETTERS" = some (.str "abcdefghijklmnopqrstuvwxyz" t)
 FIGURES : ∃ t,mg "FIGURES" = some (.str "0123456789" t)
 MOST_SIGNS : ∃ t,mg "MOST_SIGNS" = some (.int 12 t)
 MOST_WIDTH : ∃ t,mg "MOST_WIDTH" = some (.int 6 t)
 MOST_TABLES : ∃ t,mg "MOST_TABLES" = some (.int 12 t)
 MOST_ROWS : ∃ t,mg "MOST_ROWS" = some (.int 60 t)
structure Xcs (K:aH)(mg:aD->Option aE):Prop where
 bk:InsC K "Book"
 r_NoTable:AI K "NoTable"
 r_NoRow:AI K "NoRow"
 r_Full:AI K "Full"
set_option maxHeartbeats 4000000
variable {P:bB}{w:aU}{K:aH}{mg:aD->Option aE}{base:aP}{f:aB}{fd:fM}
def Nv:SF:=(cS 0 .s (iD (eUn (gL "int") (aF 0)) (OT (eUn (gL "bool") (aF 0)))))
def qH:List aA->Option aA:=fnD 1 1 Nv
theorem Qd (F:Fun K "is_whole" "is_whole" KC f fd)(B:Blt mg)(C:Cst mg)(V:Xcs K mg):FnOk P w K mg base CX0 1 f fd uZ (spF K 0 qH):=by
 have nd:=Alm.nd
 exact iZ F Alm rfl (by decide) fun cdv A outer s H E P0 hr=>by
  have hu:=fI hr
  have hv:=fG hr
  exact(cD (dR .s (oM (mU (T:="int") rfl B.isinstance rfl B.int PyProof.Rows.boot_int (by decide) (aI 0)) (pS (Fy (mU (T:="bool") rfl B.isinstance rfl B.bool PyProof.Rows.boot_bool (by decide) (aI 0)))))))
def Xe:SF:=(bN (sIf .s (bOr (fE (bOf (eUn (gL "str") (aF 0)))) (fE (bOf (lI gLe gLe (eC (.int 1)) (aN cY (aK (aF 0) aM)) (eC (.int 12)))))) (cS 0 .s (eC (.bool false))) fF)
 (cS 0 .s (iD (eOp (gIn false) (eOp gIx (aF 0) (eC (.int 0))) (eC (.str "abcdefghijklmnopqrstuvwxyz"))) (aN nC (aK (eLC [none] (iIt (aF 0)) (gB 0) gP (eOp (gIn false) (aF 0) (eOp dW (eC (.str "abcdefghijklmnopqrstuvwxyz")) (eC (.str "0123456789"))))) aM)))))
def jJ:List aA->Option aA:=fnD 1 1 Xe
theorem Pc (F:Fun K "is_name" "is_name" CI f fd)(B:Blt mg)(C:Cst mg)(V:Xcs K mg):FnOk P w K mg base CX0 1 f fd sM (spF K 0 jJ):=by
 obtain⟨_,h_FIGURES⟩:=C.FIGURES
 obtain⟨_,h_LETTERS⟩:=C.LETTERS
 obtain⟨_,h_MOST_SIGNS⟩:=C.MOST_SIGNS
 have nd:=Anq.nd
 exact iZ F Anq rfl (by decide) fun cdv A outer s H E P0 hr=>by
  have hu:=fI hr
  have hv:=fG hr
  exact(cC (gC .s (mI (mR (jH (kA (mU (T:="str") rfl B.isinstance rfl B.str PyProof.Rows.boot_str (by decide) (aI 0)))) (oO (jH (QV (Atf.or sJ) (Atf.or sJ) rY rY bC (eQ iT iS rfl B.len iL (aR (aI 0) aX)) (qB (i:=12) rfl h_MOST_SIGNS ⟨_,rfl⟩)))))) (cD (dR .s iG)) gD)
   (cD (dR .s (oM (oI (uT hu) mS (eT hv (aI 0) bC (fun _ _=>rfl)) (JG (i:="abcdefghijklmnopqrstuvwxyz") rfl h_LETTERS ⟨_,rfl⟩) (by with_unfolding_all rfl)) (pS (eQ (xY rfl) xV rfl B.all boot_all (aR (jK (n:=1) (oA rfl (mY (N:=["sign"]) (cap:=[none]) (out:=(cA CI).names) (XN:=TZ) rfl rfl (by decide +kernel) rfl) lW (lZ (aI 0)) (fun cl C s₀ H₀ ex=>⟨oP (j:=0) (show(["sign"]:List aD).Nodup by decide +kernel) rfl (bM rfl),mV,(oI (uT hu) mS (aI 0) (jG (JG (i:="abcdefghijklmnopqrstuvwxyz") rfl h_LETTERS ⟨_,rfl⟩) (JG (i:="0123456789") rfl h_FIGURES ⟨_,rfl⟩)) (by with_unfolding_all rfl))⟩))) aX)))))))
def Mv:SF:=(cS 0 .s (iD (eUn (gL "tuple") (aF 0)) (eOp gEq (aN cY (aK (aF 0) aM)) (eC (.int 2)))))
def sL:List aA->Option aA:=fnD 1 1 Mv
theorem Ny (F:Fun K "is_pair" "is_pair" JQ f fd)(B:Blt mg)(C:Cst mg)(V:Xcs K mg):FnOk P w K mg base CX0 1 f fd xW (spF K 0 sL):=by
 have nd:=Anw.nd
 exact iZ F Anw rfl (by decide) fun cdv A outer s H E P0 hr=>by
  have hu:=fI hr
  have hv:=fG hr
  exact(cD (dR .s (oM (mU (T:="tuple") rfl B.isinstance rfl B.tuple Bt (by decide) (aI 0)) (pS (oI (rS hu) rW (eQ iT iS rfl B.len iL (aR (aI 0) aX)) bC (fU _))))))
def Sf:SF:=(cS 0 .s (eOp gLe (aN IP (aK (eLC [none] (iIt (aF 0)) (gB 0) gP (aN cY (aK (aF 0) aM))) aM)) (eC (.int 1))))
def yS:List aA->Option aA:=fnD 1 1 Sf
theorem Se (F:Fun K "of_one_length" "of_one_length" DK f fd)(B:Blt mg)(C:Cst mg)(V:Xcs K mg):FnOk P w K mg base CX0 1 f fd yT (spF K 0 yS):=by
 have nd:=Agl.nd
 exact iZ F Agl rfl (by decide) fun cdv A outer s H E P0 hr=>by
  have hu:=fI hr
  have hv:=fG hr
  exact(cD (dR .s (oI (Atf.or sJ) rY (VT rfl rfl B.len rfl B.set (jK (n:=1) (oA rfl (mY (N:=["thing"]) (cap:=[none]) (out:=(cA DK).names) (XN:=XS) rfl rfl (by decide +kernel) rfl) lW (lZ (aI 0)) (fun cl C s₀ H₀ ex=>⟨oP (j:=0) (show(["thing"]:List aD).Nodup by decide +kernel) rfl (bM rfl),mV,(eQ iT iS rfl B.len iL (aR (aI 0) aX))⟩)))) bC (fU _))))
def Rp (z:Option aD):SF:=(cS 1 .s (aN uP (aK (eUn (oE "Book") (aF 0)) aM)))
def yR:FX:=fun z=>fnD 1 1 (Rp z)
theorem Rv (F:Fun K "tables" "Book.tables" LK f fd)(B:Blt mg)(C:Cst mg)(V:Xcs K mg):FnOk P w K mg base (CXR base P w) 1 f fd yP (spX K 1 yR):=by
 have nd:=Ahy.nd
 exact pT F Ahy rfl (by decide) fun cdv A outer s H E P0 z hr hz=>by
  have hu:=fI hr
  have hv:=fG hr
  exact(cD (dR .s (eQ (LJ rfl) LA rfl B.sorted FB (aR (IA V.bk (aI 0)) aX))))
def DD:SF:=(bN (sIf .s (bOf (eOp gLt (aF 1) (aN cY (aK (aF 0) aM)))) (cS 0 .s (eOp gIx (aF 0) (aF 1))) fF)
 (bN (dH 2 0 .s (eOp dW (eOp fT (aF 1) (eC (.int 7919))) (eC (.int 5))))
 (bN (sIf .s (bOf (eOp gGt (aN cY (aK (aF 0) aM)) (eC (.int 0)))) (dH 2 0 .s (eOp cR (eOp dW (eOp fT (eOp gIx (aF 0) (eOp cR (eOp fT (aF 1) (eC (.int 7))) (aN cY (aK (aF 0) aM)))) (eC (.int 48271))) (eOp fT (aF 1) (eC (.int 7919)))) (eC (.int 2147483647)))) fF)
 (cS 0 .s (eOp cR (eOp fT (aF 2) (aF 2)) (eC (.int 2147483629)))))))
def mZ:List aA->Option aA:=fnD 2 3 DD
theorem Rb (F:Fun K "_law_cell" "_law_cell" LG f fd)(B:Blt mg)(C:Cst mg)(V:Xcs K mg):FnOk P w K mg base CX0 1 f fd yF (spF K 0 mZ):=by
 have nd:=Akb.nd
 exact iZ F Akb rfl (by decide) fun cdv A outer s H E P0 hr=>by
  have hu:=fI hr
  have hv:=fG hr
  exact(cC (gC .s (fS (A7g.or CH) AK (aI 1) (eQ iT iS rfl B.len iL (aR (aI 0) aX)) (fU _)) (cD (dR .s (eT hv (aI 0) (aI 1) (fun _ _=>rfl)))) gD)
   (cC (gU (i:=2) 0 .s nd rfl (by first | exact bM rfl | exact bI rfl) (jG (kQ (aI 1) bC) bC))
   (cC (gC .s (fS tU uN (eQ iT iS rfl B.len iL (aR (aI 0) aX)) bC (fU _)) (cD (gU (i:=2) 0 .s nd rfl (by first | exact bM rfl | exact bI rfl) (fW (jG (kQ (eT hv (aI 0) (fW (kQ (aI 1) bC) (eQ iT iS rfl B.len iL (aR (aI 0) aX))) (fun _ _=>rfl)) bC) (kQ (aI 1) bC)) bC))) gD)
   (cD (dR .s (fW (kQ (aI 2) (aI 2)) bC))))))
def WG:SF:=(bN (dH 2 0 .s (eOp cR (eOp dW (eOp dW (eOp dW (eOp fT (eOp cR (aF 0) (eC (.int 2147483647))) (eC (.int 48271))) (eOp fT (eOp fT (aF 1) (aF 1)) (eC (.int 69621)))) (aF 1)) (eC (.int 11))) (eC (.int 2147483629))))
 (cS 0 .s (eOp cR (eOp fT (aF 2) (aF 2)) (eC (.int 2147483587)))))
def fJ:List aA->Option aA:=fnD 2 3 WG
theorem Py (F:Fun K "_law_mix" "_law_mix" KS f fd)(B:Blt mg)(C:Cst mg)(V:Xcs K mg):FnOk P w K mg base CX0 1 f fd sP (spF K 0 fJ):=by
 have nd:=Ald.nd
 exact iZ F Ald rfl (by decide) fun cdv A outer s H E P0 hr=>by
  have hu:=fI hr
  have hv:=fG hr
  exact(cC (gU (i:=2) 0 .s nd rfl (by first | exact bM rfl | exact bI rfl) (fW (jG (jG (jG (kQ (fW (aI 0) bC) bC) (kQ (kQ (aI 1) (aI 1)) bC)) (aI 1)) bC) bC))
   (cD (dR .s (fW (kQ (aI 2) (aI 2)) bC))))
def Pq:SF:=(bN (dH 1 2 .s (eC (.dict [])))
 (bN (iY .s (iDK (aF 0)) (gNm 2) (uG 1 .s (aN DY (aK (eOp gIx (aF 0) (aF 2)) aM)) .s (aF 2)))
 (wQ 1 2)))
def yE:List aA->Option aA:=fnD 1 3 Pq
theorem Rm (F:Fun K "_law_copy" "_law_copy" LD f fd)(B:Blt mg)(C:Cst mg)(V:Xcs K mg):FnOk P w K mg base CX0 1 f fd yM (spF K 2 yE):=by
 have nd:=Aki.nd
 exact iZ F Aki rfl (by decide) fun cdv A outer s H E P0 hr=>by
  have hu:=fI hr
  have hv:=fG hr
  exact(cC (gU (i:=1) 2 .s nd rfl (by first | exact bM rfl | exact bI rfl) RS)
   (cC (rR qU rfl (Ak (aI 0)) (pV (i:=2) nd rfl (by first | exact bM rfl | exact bI rfl)) (cD (SO 1 .s .s hv (xU (XF rfl) VU rfl B.list FC (aR (eT hv (aI 0) (aI 2) (fun _ _=>rfl)) aX)) (aI 2))))
   (cD (HN 1))))
def Og:SF:=(cS 0 .s (iD (aN qH (aK (aF 0) aM)) (eOp gLt (aN GH (aK (aF 0) aM)) (eOp fT (eOp wJ (eC (.int 10)) (eC (.int 60))) (eOp wJ (eC (.int 10)) (eC (.int 10)))))))
def vB:List aA->Option aA:=fnD 1 1 Og
theorem Px (F:Fun K "is_value" "is_value" KI f fd)(B:Blt mg)(C:Cst mg)(V:Xcs K mg)(D_is_whole:Def P w K mg base "is_whole" 1 uZ (spF K 0 qH)):FnOk P w K mg base CX0 2 f fd yC (spF K 0 vB):=by
 have nd:=Al6.nd
 exact iZ F Al6 rfl (by decide) fun cdv A outer s H E P0 hr=>by
  have hu:=fI hr
  have hv:=fG hr
  exact(cD (dR .s (oM (dF D_is_whole (hr.mono (by decide)) rfl (aR (aI 0) aX)) (pS (oI (A7g.or CH) AK (eQ Tn Mn rfl B.abs boot_abs (aR (aI 0) aX)) (kQ (HF bC bC) (HF bC bC)) (fU _))))))
def VZ:SF:=(cS 0 .s (iD (aN qH (aK (aF 0) aM)) (lI gLe gLe (eC (.int 1)) (aF 0) (eC (.int 6)))))
def oT:List aA->Option aA:=fnD 1 1 VZ
theorem Qe (F:Fun K "is_width" "is_width" KN f fd)(B:Blt mg)(C:Cst mg)(V:Xcs K mg)(D_is_whole:Def P w K mg base "is_whole" 1 uZ (spF K 0 qH)):FnOk P w K mg base CX0 2 f fd yA (spF K 0 oT):=by
 obtain⟨_,h_MOST_WIDTH⟩:=C.MOST_WIDTH
 have nd:=Ame.nd
 exact iZ F Ame rfl (by decide) fun cdv A outer s H E P0 hr=>by
  have hu:=fI hr
  have hv:=fG hr
  exact(cD (dR .s (oM (dF D_is_whole (hr.mono (by decide)) rfl (aR (aI 0) aX)) (pS (Td (Atf.or sJ) (Atf.or sJ) rY rY bC (aI 0) (qB (i:=6) rfl h_MOST_WIDTH ⟨_,rfl⟩))))))
def DM (z:Option aD):SF:=(sIf .s (bOr (fE (bOf (aN jJ (aK (aF 1) aM)))) (bOf (eOp (gIn true) (aF 1) (eUn (oE "Book") (aF 0))))) (AS z "NoTable") fF)
def qK:FX:=fun z=>fnD 2 2 (DM z)
theorem Si (F:Fun K "want_table" "Book.want_table" LO f fd)(B:Blt mg)(C:Cst mg)(V:Xcs K mg)(D_is_name:Def P w K mg base "is_name" 1 sM (spF K 0 jJ)):FnOk P w K mg base (CXR base P w) 2 f fd vG (spX K 0 qK):=by
 have nd:=Afe.nd
 exact pT F Afe rfl (by decide) fun cdv A outer s H E P0 z hr hz=>by
  have hu:=fI hr
  have hv:=fG hr
  exact(cD (gC .s (mI (mR (jH (kA (dF D_is_name (hr.mono (by decide)) rfl (aR (aI 1) aX)))) (oO (fS (DJ hu) mS (aI 1) (IA V.bk (aI 0)) (by with_unfolding_all rfl))))) (cD (BP hz V.r_NoTable rfl rfl)) gD))
def Re:SF:=(bN (dH 2 0 .s (eC (.str "abcdefghijklmnopqrstuvwxyz0123456789")))
 (bN (dH 3 0 .s (eOp dW (eC (.int 1)) (eOp cR (aN fJ (aK (aF 0) (aK (eC (.int 1)) aM))) (eC (.int 12)))))
 (bN (sIf .s (bOf (eOp gEq (eOp cR (aN fJ (aK (aF 0) (aK (eC (.int 2)) aM))) (eC (.int 3))) (eC (.int 0)))) (dH 3 0 .s (eC (.int 12))) fF)
 (bN (dH 4 1 .s (eLC [none,some 2,some 0] (iR1 (aK (aF 3) aM)) (gB 0) gP (eOp gIx (aF 1) (eOp cR (aN fJ (aK (aF 2) (aK (eOp dW (eC (.int 30)) (aF 0)) aM))) (eC (.int 36))))))
 (bN (pM 4 .s (eOp gIx (aF 2) (eOp cR (aN fJ (aK (aF 0) (aK (eC (.int 50)) aM))) (eC (.int 26)))) .s (eC (.int 0)))
 (bN (sIf .s (bOf (eOp gEq (eOp cR (aN fJ (aK (aF 0) (aK (eC (.int 2)) aM))) (eC (.int 3))) (eC (.int 0)))) (cS 1 .a (eLC [none,some 4] (iR1 (aK (aF 1) aM)) (gB 0) gP (eOp uA (eC (.str "")) (qL (aF 1) oN (oS (eOp dW (aF 0) (eC (.int 1)))))))) fF)
 (bN (dH 5 0 .s (eOp cR (aN fJ (aK (aF 0) (aK (eC (.int 3)) aM))) (aF 3)))
 (bN (dH 6 1 .s (oX aM))
 (bN (iY .s (iR1 (aK (aF 1) aM)) (gNm 7) (bN (pM 4 .s (eOp gIx (aF 2) (eOp cR (eOp dW (aN fJ (aK (aF 0) (aK (eC (.int 4)) aM))) (aF 7)) (eOp dW (eC (.int 26)) (eOp fT (eC (.int 10)) (aN tT (aK (eOp gGt (aF 5) (eC (.int 0))) aM)))))) .s (aF 5))
 (nJ 6 .a (eOp uA (eC (.str "")) (aF 4)))))
 (pB 4 (wQ 6 1)))))))))))
def vE:List aA->Option aA:=fnD 2 8 Re
theorem Rn (F:Fun K "_law_names" "_law_names" vF f fd)(B:Blt mg)(C:Cst mg)(V:Xcs K mg)(D__law_mix:Def P w K mg base "_law_mix" 1 sP (spF K 0 fJ)):FnOk P w K mg base CX0 2 f fd yH (spF K 1 vE):=by
 have nd:=Ai0.nd
 exact iZ F Ai0 rfl (by decide) fun cdv A outer s H E P0 hr=>by
  have hu:=fI hr
  have hv:=fG hr
  exact(cC (gU (i:=2) 0 .s nd rfl (by first | exact bM rfl | exact bI rfl) LZ)
   (cC (gU (i:=3) 0 .s nd rfl (by first | exact bM rfl | exact bI rfl) (jG bC (fW (dF D__law_mix (hr.mono (by decide)) rfl (aR (aI 0) (aR bC aX))) bC)))
   (cC (gC .s (fS (rS hu) rW (fW (dF D__law_mix (hr.mono (by decide)) rfl (aR (aI 0) (aR bC aX))) bC) bC (fU _)) (cD (gU (i:=3) 0 .s nd rfl (by first | exact bM rfl | exact bI rfl) bC)) gD)
   (cC (by first | exact(Ux (i:=4) .s rfl nd rfl (by first | exact bM rfl | exact bI rfl) (mY (N:=["_law_k","_law_signs","_law_cell_here"]) (cap:=[none,some 2,some 0]) (out:=(cA vF).names) (XN:=CZ) rfl rfl (by decide +kernel) rfl) lW (LR (uX rfl B.range (aR (aI 3) aX))) (fun cl C s₀ H₀ ex=>⟨oP (j:=0) (show(["_law_k","_law_signs","_law_cell_here"]:List aD).Nodup by decide +kernel) rfl (bM rfl),mV,(eT hv (aI 1) (fW (dF D__law_mix (hr.mono (by decide)) rfl (aR (aI 2) (aR (jG bC (aI 0)) aX))) bC) (fun _ _=>rfl))⟩)) | exact(gU (i:=4) 1 .s nd rfl (by first | exact bM rfl | exact bI rfl) (oA rfl (mY (N:=["_law_k","_law_signs","_law_cell_here"]) (cap:=[none,some 2,some 0]) (out:=(cA vF).names) (XN:=CZ) rfl rfl (by decide +kernel) rfl) lW (LR (uX rfl B.range (aR (aI 3) aX))) (fun cl C s₀ H₀ ex=>⟨oP (j:=0) (show(["_law_k","_law_signs","_law_cell_here"]:List aD).Nodup by decide +kernel) rfl (bM rfl),mV,(eT hv (aI 1) (fW (dF D__law_mix (hr.mono (by decide)) rfl (aR (aI 2) (aR (jG bC (aI 0)) aX))) bC) (fun _ _=>rfl))⟩))))
   (cC (ID 4 .s .s (eT hv (aI 2) (fW (dF D__law_mix (hr.mono (by decide)) rfl (aR (aI 0) (aR bC aX))) bC) (fun _ _=>rfl)) bC)
   (cC (gC .s (fS (rS hu) rW (fW (dF D__law_mix (hr.mono (by decide)) rfl (aR (aI 0) (aR bC aX))) bC) bC (fU _)) (cD (dR .a (oA rfl (mY (N:=["_law_k","_law_base"]) (cap:=[none,some 4]) (out:=(cA vF).names) (XN:=CZ) rfl rfl (by decide +kernel) rfl) lW (LR (uX rfl B.range (aR (aI 1) aX))) (fun cl C s₀ H₀ ex=>⟨oP (j:=0) (show(["_law_k","_law_base"]:List aD).Nodup by decide +kernel) rfl (bM rfl),mV,(ZP LZ (jK (n:=1) (YY (aI 1) Iu (IE (jG (aI 0) bC)))))⟩)))) gD)
   (cC (gU (i:=5) 0 .s nd rfl (by first | exact bM rfl | exact bI rfl) (fW (dF D__law_mix (hr.mono (by decide)) rfl (aR (aI 0) (aR bC aX))) (aI 3)))
   (cC (gU (i:=6) 1 .s nd rfl (by first | exact bM rfl | exact bI rfl) (uL aX))
   (cC (HS .s qU rfl (uX rfl B.range (aR (aI 1) aX)) (pV (i:=7) nd rfl (by first | exact bM rfl | exact bI rfl)) (cC (ID 4 .s .s (eT hv (aI 2) (fW (jG (dF D__law_mix (hr.mono (by decide)) rfl (aR (aI 0) (aR bC aX))) (aI 7)) (jG bC (kQ bC (xU Nj Mr rfl B.int PyProof.Rows.boot_int (aR (oI tU uN (aI 5) bC (fU _)) aX))))) (fun _ _=>rfl)) (aI 5))
   (cD (CG 6 .a (ZP LZ (aI 4))))))
   (sA 4 (cD (HN 6))))))))))))
def KP:SF:=(bN (dH 2 1 .s (oX aM))
 (bN (iY .s (iR1 (aK (aF 1) aM)) (gNm 3) (nJ 2 .s (eOp LU (eOp cR (aN fJ (aK (aF 0) (aK (eOp dW (eC (.int 11)) (aF 3)) aM))) (eC (.int 3))) (eC (.int 1)))))
 (bN (pM 2 .s (eOp fT (eOp yW (eOp cR (aF 0) (eOp wJ (eC (.int 10)) (eC (.int 60)))) (eC (.int 7))) (eOp LU (eC (.int 1)) (eOp fT (eC (.int 2)) (eOp cR (aN fJ (aK (aF 0) (aK (eC (.int 19)) aM))) (eC (.int 2)))))) .s (eOp cR (aN fJ (aK (aF 0) (aK (eC (.int 18)) aM))) (aF 1)))
 (pB 2 (cS 0 .s (aN HH (aK (aF 2) aM)))))))
def sN:List aA->Option aA:=fnD 2 4 KP
theorem Qc (F:Fun K "_law_row" "_law_row" KB f fd)(B:Blt mg)(C:Cst mg)(V:Xcs K mg)(D__law_mix:Def P w K mg base "_law_mix" 1 sP (spF K 0 fJ)):FnOk P w K mg base CX0 2 f fd xZ (spF K 0 sN):=by
 have nd:=Al0.nd
 exact iZ F Al0 rfl (by decide) fun cdv A outer s H E P0 hr=>by
  have hu:=fI hr
  have hv:=fG hr
  exact(cC (gU (i:=2) 1 .s nd rfl (by first | exact bM rfl | exact bI rfl) (uL aX))
   (cC (HS .s qU rfl (uX rfl B.range (aR (aI 1) aX)) (pV (i:=3) nd rfl (by first | exact bM rfl | exact bI rfl)) (cD (CG 2 .s (YV (fW (dF D__law_mix (hr.mono (by decide)) rfl (aR (aI 0) (aR (jG bC (aI 3)) aX))) bC) bC))))
   (cC (ID 2 .s .s (kQ (ZN (fW (aI 0) (HF bC bC)) bC) (YV bC (kQ bC (fW (dF D__law_mix (hr.mono (by decide)) rfl (aR (aI 0) (aR bC aX))) bC)))) (fW (dF D__law_mix (hr.mono (by decide)) rfl (aR (aI 0) (aR bC aX))) (aI 1)))
   (sA 2 (cD (dR .s (xU Rh Po rfl B.tuple Bt (aR (aI 2) aX))))))))
def Vh:SF:=(bN (sIf .s (bOr (fE (bOf (eUn (gL "tuple") (aF 0)))) (fE (bOf (lI gLe gLe (eC (.int 1)) (aN cY (aK (aF 0) aM)) (eC (.int 6)))))) (cS 0 .s (eC (.bool false))) fF)
 (cS 0 .s (aN nC (aK (eLC [none] (iIt (aF 0)) (gB 0) gP (aN vB (aK (aF 0) aM))) aM))))
def mC:List aA->Option aA:=fnD 1 1 Vh
theorem Wv (F:Fun K "is_row" "is_row" BQ f fd)(B:Blt mg)(C:Cst mg)(V:Xcs K mg)(D_is_value:Def P w K mg base "is_value" 2 yC (spF K 0 vB)):FnOk P w K mg base CX0 3 f fd uU (spF K 0 mC):=by
 obtain⟨_,h_MOST_WIDTH⟩:=C.MOST_WIDTH
 have nd:=Arp.nd
 exact iZ F Arp rfl (by decide) fun cdv A outer s H E P0 hr=>by
  have hu:=fI hr
  have hv:=fG hr
  exact(cC (gC .s (mI (mR (jH (kA (mU (T:="tuple") rfl B.isinstance rfl B.tuple Bt (by decide) (aI 0)))) (oO (jH (QV (Atf.or sJ) (Atf.or sJ) rY rY bC (eQ iT iS rfl B.len iL (aR (aI 0) aX)) (qB (i:=6) rfl h_MOST_WIDTH ⟨_,rfl⟩)))))) (cD (dR .s iG)) gD)
   (cD (dR .s (eQ (xY rfl) xV rfl B.all boot_all (aR (jK (n:=1) (oA rfl (mY (N:=["value"]) (cap:=[none]) (out:=(cA BQ).names) (XN:=RA) rfl rfl (by decide +kernel) rfl) lW (lZ (aI 0)) (fun cl C s₀ H₀ ex=>⟨oP (j:=0) (show(["value"]:List aD).Nodup by decide +kernel) rfl (bM rfl),mV,(dF D_is_value (hr.mono (by decide)) rfl (aR (aI 0) aX))⟩))) aX)))))
def Qs:SF:=(bN (sIf .s (bOr (fE (bOf (eUn (gL "list") (aF 0)))) (bOf (eOp gGt (aN cY (aK (aF 0) aM)) (eC (.int 12))))) (cS 0 .s (eC (.bool false))) fF)
 (bN (sIf .s (fE (bOf (aN nC (aK (eLC [none] (iIt (aF 0)) (gB 0) gP (iD (aN sL (aK (aF 0) aM)) (iD (aN jJ (aK (eOp gIx (aF 0) (eC (.int 0))) aM)) (aN oT (aK (eOp gIx (aF 0) (eC (.int 1))) aM))))) aM)))) (cS 0 .s (eC (.bool false))) fF)
 (cS 0 .s (eOp gEq (aN IP (aK (eLC [none] (iIt (aF 0)) (gB 0) gP (eOp gIx (aF 0) (eC (.int 0)))) aM)) (aN cY (aK (aF 0) aM))))))
def qJ:List aA->Option aA:=fnD 1 1 Qs
theorem Ro (F:Fun K "are_widths" "are_widths" yG f fd)(B:Blt mg)(C:Cst mg)(V:Xcs K mg)(D_is_name:Def P w K mg base "is_name" 1 sM (spF K 0 jJ))(D_is_pair:Def P w K mg base "is_pair" 1 xW (spF K 0 sL))(D_is_width:Def P w K mg base "is_width" 2 yA (spF K 0 oT)):FnOk P w K mg base CX0 3 f fd yJ (spF K 0 qJ):=by
 obtain⟨_,h_MOST_TABLES⟩:=C.MOST_TABLES
 have nd:=Ai3.nd
 exact iZ F Ai3 rfl (by decide) fun cdv A outer s H E P0 hr=>by
  have hu:=fI hr
  have hv:=fG hr
  exact(cC (gC .s (mI (mR (jH (kA (mU (T:="list") rfl B.isinstance rfl B.list FC (by decide) (aI 0)))) (oO (fS tU uN (eQ iT iS rfl B.len iL (aR (aI 0) aX)) (qB (i:=12) rfl h_MOST_TABLES ⟨_,rfl⟩) (fU _))))) (cD (dR .s iG)) gD)
   (cC (gC .s (jH (kA (eQ (xY rfl) xV rfl B.all boot_all (aR (jK (n:=1) (oA rfl (mY (N:=["pair"]) (cap:=[none]) (out:=(cA yG).names) (XN:=LH) rfl rfl (by decide +kernel) rfl) lW (lZ (aI 0)) (fun cl C s₀ H₀ ex=>⟨oP (j:=0) (show(["pair"]:List aD).Nodup by decide +kernel) rfl (bM rfl),mV,(oM (dF D_is_pair (hr.mono (by decide)) rfl (aR (aI 0) aX)) (oM (dF D_is_name (hr.mono (by decide)) rfl (aR (eT hv (aI 0) bC (fun _ _=>rfl)) aX)) (pS (dF D_is_width (hr.mono (by decide)) rfl (aR (eT hv (aI 0) bC (fun _ _=>rfl)) aX)))))⟩))) aX)))) (cD (dR .s iG)) gD)
   (cD (dR .s (oI (rS hu) rW (VT rfl rfl B.len rfl B.set (jK (n:=1) (oA rfl (mY (N:=["pair"]) (cap:=[none]) (out:=(cA yG).names) (XN:=LH) rfl rfl (by decide +kernel) rfl) lW (lZ (aI 0)) (fun cl C s₀ H₀ ex=>⟨oP (j:=0) (show(["pair"]:List aD).Nodup by decide +kernel) rfl (bM rfl),mV,(eT hv (aI 0) bC (fun _ _=>rfl))⟩)))) (eQ iT iS rfl B.len iL (aR (aI 0) aX)) (fU _))))))
def Qm (z:Option aD):SF:=(bN (oK 0 .s (aN (qK z) (fY "Book" (aF 0) (aK (aF 1) aM))))
 (cS 1 .s (aN BD (aK (eOp gIx (eUn (gO "Book") (aF 0)) (aF 1)) aM))))
def vD:FX:=fun z=>fnD 2 2 (Qm z)
theorem Qo (F:Fun K "rows" "Book.rows" KW f fd)(B:Blt mg)(C:Cst mg)(V:Xcs K mg)(D_Book_want_table:MethX P w K mg base "Book" "want_table" 2 vG (spX K 0 qK)):FnOk P w K mg base (CXR base P w) 3 f fd yO (spX K 1 vD):=by
 have nd:=Akg.nd
 exact pT F Akg rfl (by decide) fun cdv A outer s H E P0 z hr hz=>by
  have hu:=fI hr
  have hv:=fG hr
  exact(cC (xM 0 .s (wL .s hz (pW D_Book_want_table (hr.mono (by decide)) (aI 0) (aR (aI 1) aX))))
   (cD (dR .s (eQ (Ru rfl) Ra rfl B.sorted FB (aR (eT hv (pY V.bk (aI 0)) (aI 1) (fun _ _=>rfl)) aX)))))
def Oj:SF:=(bN (sIf .s (bOr (fE (bOf (eUn (gL "list") (aF 0)))) (bOf (eOp gGt (aN cY (aK (aF 0) aM)) (eC (.int 60))))) (cS 0 .s (eC (.bool false))) fF)
 (bN (sIf .s (fE (bOf (aN nC (aK (eLC [none] (iIt (aF 0)) (gB 0) gP (aN mC (aK (aF 0) aM))) aM)))) (cS 0 .s (eC (.bool false))) fF)
 (cS 0 .s (iD (aN yS (aK (aF 0) aM)) (eOp gEq (aN As (aK (aF 0) aM)) (aN cY (aK (aF 0) aM)))))))
def sO:List aA->Option aA:=fnD 1 1 Oj
theorem Pu (F:Fun K "are_rows" "are_rows" CS f fd)(B:Blt mg)(C:Cst mg)(V:Xcs K mg)(D_of_one_length:Def P w K mg base "of_one_length" 1 yT (spF K 0 yS))(D_is_row:Def P w K mg base "is_row" 3 uU (spF K 0 mC)):FnOk P w K mg base CX0 4 f fd yB (spF K 0 sO):=by
 obtain⟨_,h_MOST_ROWS⟩:=C.MOST_ROWS
 have nd:=Amk.nd
 exact iZ F Amk rfl (by decide) fun cdv A outer s H E P0 hr=>by
  have hu:=fI hr
  have hv:=fG hr
  exact(cC (gC .s (mI (mR (jH (kA (mU (T:="list") rfl B.isinstance rfl B.list FC (by decide) (aI 0)))) (oO (fS tU uN (eQ iT iS rfl B.len iL (aR (aI 0) aX)) (qB (i:=60) rfl h_MOST_ROWS ⟨_,rfl⟩) (fU _))))) (cD (dR .s iG)) gD)
   (cC (gC .s (jH (kA (eQ (xY rfl) xV rfl B.all boot_all (aR (jK (n:=1) (oA rfl (mY (N:=["row"]) (cap:=[none]) (out:=(cA CS).names) (XN:=WU) rfl rfl (by decide +kernel) rfl) lW (lZ (aI 0)) (fun cl C s₀ H₀ ex=>⟨oP (j:=0) (show(["row"]:List aD).Nodup by decide +kernel) rfl (bM rfl),mV,(dF D_is_row (hr.mono (by decide)) rfl (aR (aI 0) aX))⟩))) aX)))) (cD (dR .s iG)) gD)
   (cD (dR .s (oM (dF D_of_one_length (hr.mono (by decide)) rfl (aR (aI 0) aX)) (pS (oI (rS hu) rW (Mu rfl hv rfl B.len rfl B.set (aI 0)) (eQ iT iS rfl B.len iL (aR (aI 0) aX)) (fU _))))))))
end Aw
namespace Aw
open PySem L2
set_option maxHeartbeats 4000000
variable {P:bB}{w:aU}{K:aH}{mg:aD->Option aE}{base:aP}{f:aB}{fd:fM}
def sS:FX:=wZ "Book" "NoTable" qJ
set_option maxHeartbeats 4000000 in
theorem Sa {P:bB}{w:aU}{K:aH}{mg:aD->Option aE}{base:aP}{f:aB}{fd:fM}(F:Fun K "__init__" "Book.__init__" LL f fd)(B:Blt mg)(C:Cst mg)(V:Xcs K mg)(D_are_widths:Def P w K mg base "are_widths" 3 yJ (spF K 0 qJ)):FnOk P w K mg base (CXR base P w) (3+1) f fd yU (MC K "Book" sS):=by
 have nd:=Agh.nd
 refine F.okX Agh (fun vs H Q E h=>?_) (fun cdv A outer s H vs Q E hr h=>?_)
 ·obtain⟨x,dx,C,v1,P,d1,d,z,rfl,_⟩:=h
  rfl
 ·obtain⟨x,dx,C0,v1,P0,d1,d,z,rfl,hx,hc,hP,r1,ef,kq,kx⟩:=h
  have hu:=fG hr
  obtain⟨C9,c1,cl,nW,nH⟩:=V.bk.ex
  obtain rfl:=pU c1 hc
  refine⟨_,kC (oH (jH (kA (dF D_are_widths (hr.mono (by decide)) rfl (aR (aI 1) aX)))) (kB (BP (H0:=H) (P0:=P0) (n0:=0) (z:=z) (fun c hc=>Ad (kx c hc)) V.r_NoTable rfl rfl)) pZ)
   (kC (XW (pv 0) (xU (Qh rfl) Pz rfl B.dict Bu (aR (aI 1) aX)) rfl)
   (kC (XW (pv 0) BY rfl)
   (kB (YN PassesOwn.leaving rfl (Ao (uJ (pv 0) rfl)) (sC (i:=2) nd rfl (by first | exact bM rfl | exact bI rfl)) (kB (AV hu (uJ (pv 0) rfl) (pv 2) Tp rfl)))))),?_⟩
  have rs:Akd K (hid H P0) [none,some d1,none] (start XR [.ref x,v1]):=fun i d' e=>by
   match i,e with
   | 0,e=>cases e
   | 1,e=>cases e; exact⟨v1,rfl,r1⟩
   | 2,e=>cases e
   | i+3,e=>simp at e
  rcases Qt ef with⟨e1,hz,rfl⟩ | ⟨kds,e1,e2,fl,ndk,hlen,rfl⟩
  ·refine⟨P0,[none,some d1,none],true,hP,rs,?_,fun H1 x1=>?_⟩
   ·show((qJ [d1]).bind asB).bind _=_
    rw[e1]
    rfl
   refine nK ⟨hid H1 P0,[none,none,none],fun _=>[],.rt (rsD "NoTable"),⟨rfl,fun _=>.nil,fun i j a h=>by simp at h,fun i a h=>by simp at h,x1,hP,?_,fun i n d e=>?_⟩,?_,?_⟩
   ·exact gE fun a h=>h.elim id fun⟨i,h⟩=>by simp at h
   ·match i,e with
    | 0,e=>cases e
    | 1,e=>cases e
    | 2,e=>cases e
    | i+3,e=>simp at e
   ·exact if_pos hz
   ·exact fun v H' ⟨_,_,_,_,r⟩=>(YQ r).elim
  ·refine⟨P0,[none,some d1,none],false,hP,rs,?_,fun H1 x1=>?_⟩
   ·show((qJ [d1]).bind asB).bind _=_
    rw[e1]
    rfl
   refine mJ ⟨P0,[none,some d1,none],_,hP.ext x1,rs.ext (cE x1),(show(rU [d1])=_ from e2),fun v Hw Fr xw nf fr ro=>?_⟩
   obtain⟨wa,kvs,Fs,rfl,hw,hF,h3⟩:=ro
   obtain⟨rk,hn⟩:=Pk h3
   rw[hn] at hF
   subst hF
   have hwx:Hw x=some (.ins C0 dx []):=xw _ _ (x1 _ _ hx)
   have nwx:wa≠x:=fun z=>by rw[z,hwx] at hw; cases hw
   refine⟨_,rfl,x,C0,dx,[],rfl,hwx,cl,nW,(by show 0<1000; decide),?_⟩
   intro q hq
   have nqx:q≠x:=fun z=>by rw[z,cP] at hq; cases hq
   have hq0:Hw q=none:=by rw[bK nqx] at hq; exact hq
   have nqw:wa≠q:=hJ hw hq0
   refine⟨_,rfl,x,C0,dx,_,rfl,(by rw[bK nqx.symm]; exact cP),cl,nH,(by show 1<1000; decide),?_⟩
   have eput:iE "held" (.ref q) (iE "wide" (.ref wa) [])=([("wide",.ref wa),("held",.ref q)]:List (aD×L2.V)):=by
    have : ¬ (("wide" : aD) = "held"):=by decide +kernel
    simp[iE,this]
   rw[eput]
   have lk:kvs.2.length=kds.length:=rk.length
   have nk:(kvs.2.map (·.1)).Nodup:=by
    have:kds.map (·.1)=(kvs.2.map (·.1)).map kD:=UT rk
    rw[this] at ndk
    exact(pF.mp ndk).imp fun h z=>h (by rw[z])
   refine⟨_,rfl,x,C0,dx,_,_,rfl,cP,cl,nW,UG _ _,wa,kvs.1,kvs.2,rfl,(by rw[bK nwx,bK nqw,bK nwx]; exact hw),?_⟩
   refine Uq (fun i σ H2=>∃ v,σ=[some (.ref x),some v1,v]/\(∀ b o,b≠x->Hw b=some o->H2 b=some o)/\H2 x=some (.ins C0 dx [("wide",.ref wa),("held",.ref q)]) /\ ∃ n ps,H2 q=some (.dK n (hvZ kvs.2 ps))/\ps.length=i/\i≤kvs.2.length/\ps.Nodup /\ ∀ p∈ps,Hw p=none/\p≠q/\H2 p=some (.dT 0 []))
    ⟨none,rfl,fun b o nb e=>?_,cP,0,[],?_,rfl,eL _,.nil,fun p m=>by simp at m⟩ (fun i σ H2 _ ⟨_,_,kp,_⟩=>kp _ _ nwx hw) ?_ ?_
   ·rw[bK nb,bK (hJ e hq0),bK nb]
    exact e
   ·rw[bK nqx,cP]
    simp[hvZ]
   ·rintro i kv σ H2 hk ⟨v,rfl,kp,hx2,n,ps,hq2,hpl,hil,ndp,hps⟩
    intro p hp
    have npx:p≠x:=fun z=>by rw[z,hx2] at hp; cases hp
    have npq:p≠q:=fun z=>by rw[z,hq2] at hp; cases hp
    have hl2:(hvZ kvs.2 ps).length<sizeLine:=by
     rw[Jo (by omega)]
     have:=(dM.mp hk).1
     omega
    refine⟨_,rfl,x,C0,dx,_,_,rfl,(by rw[bK npx.symm]; exact hx2),cl,nH,CC _ _,_,rfl,q,_,rfl,A8q.k (k:=kv.1) (by rw[bK npq.symm]; exact hq2) hl2,fun n2=>⟨_,rfl,fun b o nb e=>?_,?_,n2,ps++[p],?_,by simp[hpl],(dM.mp hk).1,?_,fun p' m=>?_⟩⟩
    ·rw[bK (hJ e hq0),bK (hJ (kp b o nb e) hp)]
     exact kp b o nb e
    ·rw[bK nqx.symm,bK npx.symm]
     exact hx2
    ·rw[cP,SL _ (Mb nk (by rw[hpl]; exact hk)),RX (by rw[hpl]; exact hk)]
    ·refine jV.mpr ⟨ndp,dS.mpr ⟨by simp,.nil⟩,fun a ma b mb=>?_⟩
     rw[cN.mp mb]
     intro z
     rw[z] at ma
     rw[(hps p ma).2.2] at hp
     cases hp
    ·rcases iO.mp m with m | m
     ·obtain⟨g1,g2,g3⟩:=hps p' m
      refine⟨g1,g2,?_⟩
      rw[bK g2,bK (hJ g3 hp)]
      exact g3
     ·rw[cN.mp m]
      refine⟨?_,npq,by rw[bK npq,cP]⟩
      cases g:Hw p with
      | none=>rfl
      | some o=>rw[kp p o npx g] at hp; cases hp
   ·rintro σ H2 ⟨v,rfl,kp,hx2,n,ps,hq2,hpl,hil,ndp,hps⟩
    have hwp : ∀ p∈ps,p≠wa:=fun p m z=>by
     have:=(hps p m).1
     rw[z,hw] at this
     cases this
    have hxp : ∀ p∈ps,p≠x:=fun p m z=>by
     have:=(hps p m).1
     rw[z,hwx] at this
     cases this
    refine kq H2 (x::wa::q::ps) (fun b o nb e=>kp b o nb (xw _ _ (x1 _ _ e))) ?_ ?_ (Tw c1 hx2 (kp _ _ nwx hw) hq2 hpl (fun p m=>(hps p m).2.2) fl rk kp fun xs z=>by rw[hwx] at z; cases z)
    ·refine dS.mpr ⟨?_,dS.mpr ⟨?_,dS.mpr ⟨fun m=>(hps q m).2.1 rfl,ndp⟩⟩⟩
     ·simp only[cI,not_or]
      exact⟨nwx.symm,nqx.symm,fun m=>hxp x m rfl⟩
     ·simp only[cI,not_or]
      exact⟨nqw,fun m=>hwp wa m rfl⟩
    ·intro a m
     simp only[cI] at m
     rcases m with rfl | rfl | rfl | m
     ·exact⟨.inl rfl,_,hx2⟩
     ·exact⟨.inr (x1.none (fr _ bD).1),_,kp _ _ nwx hw⟩
     ·exact⟨.inr (x1.none (xw.none hq0)),_,hq2⟩
     ·exact⟨.inr (x1.none (xw.none (hps a m).1)),_,(hps a m).2.2⟩
def DL (z:Option aD):SF:=(bN (oK 0 .s (aN (qK z) (fY "Book" (aF 0) (aK (aF 1) aM))))
 (sIf .s (bOr (fE (bOf (aN mC (aK (aF 2) aM)))) (bOf (eOp gNe (aN cY (aK (aF 2) aM)) (eOp gIx (eUn (oE "Book") (aF 0)) (aF 1))))) (AS z "NoRow") fF))
def hG:FX:=fun z=>fnD 3 3 (DL z)
theorem Sd (F:Fun K "want_row" "Book.want_row" LM f fd)(B:Blt mg)(C:Cst mg)(V:Xcs K mg)(D_Book_want_table:MethX P w K mg base "Book" "want_table" 2 vG (spX K 0 qK))(D_is_row:Def P w K mg base "is_row" 3 uU (spF K 0 mC)):FnOk P w K mg base (CXR base P w) 4 f fd oU (spX K 0 hG):=by
 have nd:=Agf.nd
 exact pT F Agf rfl (by decide) fun cdv A outer s H E P0 z hr hz=>by
  have hu:=fI hr
  have hv:=fG hr
  exact(cC (xM 0 .s (wL .s hz (pW D_Book_want_table (hr.mono (by decide)) (aI 0) (aR (aI 1) aX))))
   (cD (gC .s (mI (mR (jH (kA (dF D_is_row (hr.mono (by decide)) rfl (aR (aI 2) aX)))) (oO (fS (LV hu) LY (eQ iT iS rfl B.len iL (aR (aI 2) aX)) (eT hv (IA V.bk (aI 0)) (aI 1) (fun _ _=>rfl)) (fU _))))) (cD (BP hz V.r_NoRow rfl rfl)) gD)))
def Qv (z:Option aD):SF:=(bN (dH 1 2 .s (eC (.dict [])))
 (bN (iY .s (iIt (aN (yR none) (fY "Book" (aF 0) aM))) (gNm 2) (uG 1 .s (aN (vD none) (fY "Book" (aF 0) (aK (aF 2) aM))) .s (aF 2)))
 (wQ 1 2)))
def sR:FX:=fun z=>fnD 1 3 (Qv z)
theorem Ri (F:Fun K "plain" "Book.plain" LI f fd)(B:Blt mg)(C:Cst mg)(V:Xcs K mg)(D_Book_tables:MethX P w K mg base "Book" "tables" 1 yP (spX K 1 yR))(D_Book_rows:MethX P w K mg base "Book" "rows" 3 yO (spX K 1 vD)):FnOk P w K mg base (CXR base P w) 4 f fd yI (spX K 2 sR):=by
 have nd:=Ai1.nd
 exact pT F Ai1 rfl (by decide) fun cdv A outer s H E P0 z hr hz=>by
  have hu:=fI hr
  have hv:=fG hr
  exact(cC (gU (i:=1) 2 .s nd rfl (by first | exact bM rfl | exact bI rfl) RS)
   (cC (rR PassesOwn.leaving rfl (lZ (jK (n:=1) (mQ (BZ D_Book_tables (hr.mono (by decide)) (aI 0))))) (pV (i:=2) nd rfl (by first | exact bM rfl | exact bI rfl)) (cD (SO 1 .s .s hv (mQ (pW D_Book_rows (hr.mono (by decide)) (aI 0) (aR (aI 2) aX))) (aI 2))))
   (cD (HN 1))))
def Mm:SF:=(bN (sIf .s (bOr (fE (bOf (eUn (gL "dict") (aF 0)))) (bOf (eOp gGt (aN cY (aK (aF 0) aM)) (eC (.int 12))))) (cS 0 .s (eC (.bool false))) fF)
 (cS 0 .s (aN nC (aK (eLC [none,none] (iDI (aF 0)) (gB2 0 1) gP (iD (aN jJ (aK (aF 0) aM)) (aN sO (aK (aF 1) aM)))) aM))))
def xP:List aA->Option aA:=fnD 1 1 Mm
theorem Nk (F:Fun K "is_book" "is_book" CD f fd)(B:Blt mg)(C:Cst mg)(V:Xcs K mg)(D_is_name:Def P w K mg base "is_name" 1 sM (spF K 0 jJ))(D_are_rows:Def P w K mg base "are_rows" 4 yB (spF K 0 sO)):FnOk P w K mg base CX0 5 f fd xT (spF K 0 xP):=by
 obtain⟨_,h_MOST_TABLES⟩:=C.MOST_TABLES
 have nd:=Ani.nd
 exact iZ F Ani rfl (by decide) fun cdv A outer s H E P0 hr=>by
  have hu:=fI hr
  have hv:=fG hr
  exact(cC (gC .s (mI (mR (jH (kA (mU (T:="dict") rfl B.isinstance rfl B.dict Bu (by decide) (aI 0)))) (oO (fS tU uN (eQ iT iS rfl B.len iL (aR (aI 0) aX)) (qB (i:=12) rfl h_MOST_TABLES ⟨_,rfl⟩) (fU _))))) (cD (dR .s iG)) gD)
   (cD (dR .s (eQ (xY rfl) xV rfl B.all boot_all (aR (jK (n:=1) (oA rfl (mY (N:=["table","rows"]) (cap:=[none,none]) (out:=(cA CD).names) (XN:=VO) rfl rfl (by decide +kernel) rfl) Hk (Vq (aI 0)) (fun cl C s₀ H₀ ex=>⟨Us (i:=0) (j:=1) rfl (show(["table","rows"]:List aD).Nodup by decide +kernel) rfl rfl (bM rfl) (bM rfl),mV,(oM (dF D_is_name (hr.mono (by decide)) rfl (aR (aI 0) aX)) (pS (dF D_are_rows (hr.mono (by decide)) rfl (aR (aI 1) aX))))⟩))) aX)))))
def Od (z:Option aD):SF:=(bN (oK 0 .s (aN (hG z) (fY "Book" (aF 0) (aK (aF 1) (aK (aF 2) aM)))))
 (bN (sIf .s (bOf (eOp (gIn false) (aF 2) (eOp gIx (eUn (gO "Book") (aF 0)) (aF 1)))) (cS 0 .s (eC (.bool false))) fF)
 (bN (sIf .s (bOf (eOp gGe (aN DU (aK (eOp gIx (eUn (gO "Book") (aF 0)) (aF 1)) aM)) (eC (.int 60)))) (AS z "Full") fF)
 (bN sNo
 (cS 0 .s (eC (.bool true)))))))
def VV:FX:=fun z=>fnD 3 3 (Od z)
theorem Pp (F:Fun K "put" "Book.put" CU f fd)(B:Blt mg)(C:Cst mg)(V:Xcs K mg)(D_Book_want_row:MethX P w K mg base "Book" "want_row" 4 oU (spX K 0 hG)):FnOk P w K mg base (CXR base P w) 5 f fd qG (spX K 0 VV):=by
 obtain⟨_,h_MOST_ROWS⟩:=C.MOST_ROWS
 have nd:=Af3.nd
 exact pT F Af3 rfl (by decide) fun cdv A outer s H E P0 z hr hz=>by
  have hu:=fI hr
  have hv:=fG hr
  exact(cC (xM 0 .s (wL .s hz (pW D_Book_want_row (hr.mono (by decide)) (aI 0) (aR (aI 1) (aR (aI 2) aX)))))
   (cC (gC .s (fS (uT hu) mS (aI 2) (eT hv (pY V.bk (aI 0)) (aI 1) (fun _ _=>rfl)) (by with_unfolding_all rfl)) (cD (dR .s iG)) gD)
   (cC (gC .s (fS PC ZD (eQ VA WI rfl B.len iL (aR (eT hv (pY V.bk (aI 0)) (aI 1) (fun _ _=>rfl)) aX)) (qB (i:=60) rfl h_MOST_ROWS ⟨_,rfl⟩) (fU _)) (cD (BP hz V.r_Full rfl rfl)) gD)
   (cC PY
   (cD (dR .s iG))))))
def sQ:List aA->Option (Bool×aA):=rZ "Book" hG OO
set_option maxHeartbeats 4000000 in
theorem Rc {P:bB}{w:aU}{K:aH}{mg:aD->Option aE}{base:aP}{f:aB}{fd:fM}(F:Fun K "put" "Book.put" CU f fd)(B:Blt mg)(C:Cst mg)(V:Xcs K mg)(D_Book_want_row:MethX P w K mg base "Book" "want_row" 4 oU (spX K 0 hG)):FnOk P w K mg base (CXR base P w) (4+1) f fd qG (uE K sQ):=by
 obtain⟨_,h_MOST_ROWS⟩:=C.MOST_ROWS
 have nd:=Af3.nd
 refine F.okX Af3 (fun vs H Q E h=>?_) (fun cdv A outer s H vs Q E hr h=>?_)
 ·obtain⟨P,F0,a,us,d,ds,r,d',rfl,_,_,_,_,rd,e,_⟩:=h
  obtain⟨W,hds,t,ks,kds,u,pq,e2,_⟩:=yK e
  cases e2
  rw[eD,rd.length]
  rfl
 ·obtain⟨P0,F0,a,us,d,ds,r,d',rfl,hP,hF,nF,rb,rd,e,kq⟩:=h
  have hu:=fI hr
  have hv:=fG hr
  obtain⟨W,hds,t,ks,kds,u,pq,e2,ew,el,k1,k2,ndk,eg,e3⟩:=yK e
  cases e2
  obtain⟨e3a,e3b⟩:=Prod.mk.inj e3
  obtain⟨v1,us1,rfl,r1,rd⟩:=Aac.mp rd
  obtain⟨v2,us2,rfl,r2,rd⟩:=Aac.mp rd
  obtain rfl:=Aaj.mp rd
  obtain⟨C9,c1,cl,nW,nH⟩:=V.bk.ex
  refine⟨_,kC (kT (mQ (pW D_Book_want_row (hr.mono (by decide)) (aI 0) (aR (aI 1) (aR (aI 2) aX)))) rfl)
   (kC (oH (fS (uT hu) mS (aI 2) (eT hv (pY V.bk (aI 0)) (aI 1) (fun _ _=>rfl)) (by with_unfolding_all rfl)) (kB (uI tW)) pZ)
   (kC (oH (fS PC ZD (eQ VA WI rfl B.len iL (aR (eT hv (pY V.bk (aI 0)) (aI 1) (fun _ _=>rfl)) aX)) (qB (i:=60) rfl h_MOST_ROWS ⟨_,rfl⟩) (fU _)) Xa pZ)
   (kC (AV hv (xG hv (uJ (pv 0) rfl) (pv 1) (fun _ _=>rfl)) (pv 2) tW rfl)
   (kB (uI tW))))),?_⟩
  have sub:Ext (hid H (orL P0 F0)) (hid H P0):=gE fun b h=>.inl h
  have rs:Akd K (hid H P0) [some (bZ "Book" W (.dict hds)),some (.str t),some (.tuple ks)] (start VS [.ref a,v1,v2]):=fun i d' e=>by
   match i,e with
   | 0,e=>cases e; exact⟨.ref a,rfl,rb.share sub fun b m o q=>eO (hF b m) q⟩
   | 1,e=>cases e; exact⟨v1,rfl,r1.ext sub⟩
   | 2,e=>cases e; exact⟨v2,rfl,r2.ext sub⟩
   | i+3,e=>simp at e
  have eI:eOp gIx (eUn (gO "Book") (aF 0)) (aF 1) [some (bZ "Book" W (.dict hds)),some (.str t),some (.tuple ks)]=some (.dict ((.none,.none)::kds)):=by
   show(((gO "Book") (bZ "Book" W (.dict hds))).bind fun x=>gIx x (.str t))=_
   rw[show gO "Book" (bZ "Book" W (.dict hds))=some (.dict hds) by unfold gO; rw[xN]; rfl]
   exact el
  have eW:aN (hG none) (fY "Book" (aF 0) (aK (aF 1) (aK (aF 2) aM))) [some (bZ "Book" W (.dict hds)),some (.str t),some (.tuple ks)]=some u:=by
   show(fY "Book" (aF 0) (aK (aF 1) (aK (aF 2) aM)) [some (bZ "Book" W (.dict hds)),some (.str t),some (.tuple ks)]).bind (hG none)=_
   have:fY "Book" (aF 0) (aK (aF 1) (aK (aF 2) aM)) [some (bZ "Book" W (.dict hds)),some (.str t),some (.tuple ks)]=some [bZ "Book" W (.dict hds),.str t,.tuple ks]:=by
    show(if (iQ "Book" (bZ "Book" W (.dict hds))).isSome=true then some [bZ "Book" W (.dict hds),cF t,fL ks] else none)=_
    rw[xN]
    rfl
   rw[this]
   exact ew
  obtain⟨_,_,_,_,_,_,_,_,_,_,_,_,_,_,_,_,rt0,_⟩:=rb.at nF el ndk
  refine⟨P0,_,u,hP,rs,eW,dA fun _ H1 x1 _=>?_⟩
  have eIn : ∀ neg:Bool,bOf (eOp (gIn neg) (aF 2) (eOp gIx (eUn (gO "Book") (aF 0)) (aF 1))) [some (bZ "Book" W (.dict hds)),some (.str t),some (.tuple ks)]=some (neg != (kN kds ks).isSome):=fun neg=>by
   show((eOp gIx (eUn (gO "Book") (aF 0)) (aF 1) [some (bZ "Book" W (.dict hds)),some (.str t),some (.tuple ks)]).bind fun x=>gIn neg (.tuple ks) x).bind asB=_
   rw[eI]
   show(if (bU ks&&decide (cV ks≤6))=true then some (fP (neg != (kN kds ks).isSome)) else none).bind asB=_
   rw[k1,decide_eq_true k2]
   rfl
  have same : ∀ {H2:Hp},Ext H H2->r=false->Q (.bl false) H2:=fun {H2} x2 er=>by
   have:=kq H2 (fun b o _ q=>x2 _ _ q) (by
    rw[e3b,if_neg (by rw[← e3a,er]; decide)]
    exact rb.keep (cE x2) fun b m=>by
     rcases rb.mut b m with⟨xs,q⟩ | ⟨xs,q⟩ <;> rw[q,x2 _ _ q])
   rwa [er] at this
  by_cases hin : .tuple ks∈kds.map (·.1)
  ·have eg:some (false,kds)=some pq:=(if_pos hin).symm.trans eg
   cases eg
   refine⟨P0,_,true,hP.ext x1,rs.ext (cE x1),?_,fun H2 x2=>nK ?_⟩
   ·rw[eIn,(CA k1 rt0 hin).1]
    rfl
   ·exact same (x1.trans x2) e3a
  have nin:=hin
  have eg:(if kds.length<60 then some (true,kds++[(.tuple ks,.bool true)]) else none)=some pq:=(if_neg hin).symm.trans eg
  obtain⟨hl60,rfl⟩:=cU eg
  have nlook:=JE k1 rt0 nin
  refine⟨P0,_,false,hP.ext x1,rs.ext (cE x1),?_,fun H2 x2=>mJ ?_⟩
  ·rw[eIn,nlook]
   rfl
  have x12:=x1.trans x2
  refine⟨P0,_,false,hP.ext x12,rs.ext (cE x12),?_,fun H3 x3=>mJ ?_⟩
  ·show((((eOp gIx (eUn (gO "Book") (aF 0)) (aF 1) [some (bZ "Book" W (.dict hds)),some (.str t),some (.tuple ks)]).bind fun d=>some [d]).bind DU).bind fun x=>gGe x (.int 60)).bind asB=_
   rw[eI]
   show some (decide ((60:Int)≤(kds.length:Int)))=_
   rw[decide_eq_false (by omega)]
  have x13:=x12.trans x3
  have rb3:RepB K (hid H3 (orL P0 F0)) H3 (bZ "Book" W (.dict hds)) (.ref a) F0:=rb.keep (cE x13) fun b m=>by
   rcases rb.mut b m with⟨xs,q⟩ | ⟨xs,q⟩ <;> rw[q,x13 _ _ q]
  obtain⟨a',C',dx,wa,q,p,hvs,ts,ea,hc,ha,hq,hval,hpF,hp,fl,rt,hnew⟩:=rb3.at nF el ndk
  cases ea
  obtain rfl:=pU c1 hc
  obtain rfl:=(Aau.mp r1).1
  have r2':=(r2.ext (cE x13)).ext Aay
  obtain⟨b,rfl,tk⟩:=r2'.tupK k1 k2
  have lt:ts.2.length=kds.length:=by
   have:=congrArg pH (AZ rt)
   simpa using this.symm
  have nv:cZ ts.2 ks=none:=VG fun x m z=>nin (by
   rw[AZ rt]
   exact bF.mpr ⟨x.1,bF.mpr ⟨x,m,rfl⟩,by rw[z]⟩)
  refine⟨_,rfl,a,_,dx,_,_,rfl,ha,cl,nH,CC _ _,_,rfl,q,.ref p,rfl,(by rw[← hval]; exact Axa.k (k:=.inr t) hq),_,rfl,p,_,rfl,A8q.t hp tk (by rw[lt]; exact gG hl60 (by decide)),fun n=>?_⟩
  have e3b':d'=bZ "Book" W (.dict (iP hds t (.dict ((.none,.none)::(kds++[(.tuple ks,.bool true)]))))):=e3b
  have e3a':r=true:=e3a
  subst e3b'
  subst e3a'
  refine kq _ (fun b' o nb q'=>?_) ?_
  ·rw[bK (fun z=>nb (by rw[z]; exact hpF))]
   exact x13 _ _ q'
  ·have xb:Ext (hid H3 (orL P0 F0)) (hid (upd H3 p (.dT n (putK ts.2 ks (.bl true)))) (orL P0 F0)):=fun b' o q'=>by
    obtain⟨nb,q'⟩:=Abu.mp q'
    exact eO nb (by rw[bK (fun z=>nb (.inr (by rw[z]; exact hpF)))]; exact q')
   refine hnew _ _ _ (n,putK ts.2 ks (.bl true)) xb (fun b' m nb=>bK nb) cP (fun kd m=>?_) ?_
   ·rcases iO.mp m with m | m
    ·exact fl kd m
    ·rw[cN.mp m]; rfl
   ·have:=TQ k1 (Aat.mpr rfl:Abb K _ (.bool true) (.bl true)) (rt.ext xb)
    rw[← SL (.bl true) nv] at this
    exact this
def Pl (z:Option aD):SF:=(bN (oK 0 .s (aN (hG z) (fY "Book" (aF 0) (aK (aF 1) (aK (aF 2) aM)))))
 (bN (sIf .s (bOf (eOp (gIn true) (aF 2) (eOp gIx (eUn (gO "Book") (aF 0)) (aF 1)))) (cS 0 .s (eC (.bool false))) fF)
 (bN sNo
 (cS 0 .s (eC (.bool true))))))
def WZ:FX:=fun z=>fnD 3 3 (Pl z)
theorem Rg (F:Fun K "drop" "Book.drop" DB f fd)(B:Blt mg)(C:Cst mg)(V:Xcs K mg)(D_Book_want_row:MethX P w K mg base "Book" "want_row" 4 oU (spX K 0 hG)):FnOk P w K mg base (CXR base P w) 5 f fd qI (spX K 0 WZ):=by
 have nd:=Afh.nd
 exact pT F Afh rfl (by decide) fun cdv A outer s H E P0 z hr hz=>by
  have hu:=fI hr
  have hv:=fG hr
  exact(cC (xM 0 .s (wL .s hz (pW D_Book_want_row (hr.mono (by decide)) (aI 0) (aR (aI 1) (aR (aI 2) aX)))))
   (cC (gC .s (fS (DJ hu) mS (aI 2) (eT hv (pY V.bk (aI 0)) (aI 1) (fun _ _=>rfl)) (by with_unfolding_all rfl)) (cD (dR .s iG)) gD)
   (cC PY
   (cD (dR .s iG)))))
def mG:List aA->Option (Bool×aA):=rZ "Book" hG GY
set_option maxHeartbeats 4000000 in
theorem Rj {P:bB}{w:aU}{K:aH}{mg:aD->Option aE}{base:aP}{f:aB}{fd:fM}(F:Fun K "drop" "Book.drop" DB f fd)(B:Blt mg)(C:Cst mg)(V:Xcs K mg)(D_Book_want_row:MethX P w K mg base "Book" "want_row" 4 oU (spX K 0 hG)):FnOk P w K mg base (CXR base P w) (4+1) f fd qI (uE K mG):=by
 have nd:=Afh.nd
 refine F.okX Afh (fun vs H Q E h=>?_) (fun cdv A outer s H vs Q E hr h=>?_)
 ·obtain⟨P,F0,a,us,d,ds,r,d',rfl,_,_,_,_,rd,e,_⟩:=h
  obtain⟨W,hds,t,ks,kds,u,pq,e2,_⟩:=yK e
  cases e2
  rw[eD,rd.length]
  rfl
 ·obtain⟨P0,F0,a,us,d,ds,r,d',rfl,hP,hF,nF,rb,rd,e,kq⟩:=h
  have hu:=fI hr
  have hv:=fG hr
  obtain⟨W,hds,t,ks,kds,u,pq,e2,ew,el,k1,k2,ndk,eg,e3⟩:=yK e
  cases e2
  obtain⟨e3a,e3b⟩:=Prod.mk.inj e3
  obtain⟨v1,us1,rfl,r1,rd⟩:=Aac.mp rd
  obtain⟨v2,us2,rfl,r2,rd⟩:=Aac.mp rd
  obtain rfl:=Aaj.mp rd
  obtain⟨C9,c1,cl,nW,nH⟩:=V.bk.ex
  refine⟨_,kC (kT (mQ (pW D_Book_want_row (hr.mono (by decide)) (aI 0) (aR (aI 1) (aR (aI 2) aX)))) rfl)
   (kC (oH (fS (DJ hu) mS (aI 2) (eT hv (pY V.bk (aI 0)) (aI 1) (fun _ _=>rfl)) (by with_unfolding_all rfl)) (kB (uI tW)) pZ)
   (kC (kT (rL Xp MV PySem.F.type_dict_pop (Vp hv) (xG hv (uJ (pv 0) rfl) (pv 1) (fun _ _=>rfl)) (fV (pv 2) iR)) rfl)
   (kB (uI tW)))),?_⟩
  have sub:Ext (hid H (orL P0 F0)) (hid H P0):=gE fun b h=>.inl h
  have rs:Akd K (hid H P0) [some (bZ "Book" W (.dict hds)),some (.str t),some (.tuple ks)] (start XH [.ref a,v1,v2]):=fun i d' e=>by
   match i,e with
   | 0,e=>cases e; exact⟨.ref a,rfl,rb.share sub fun b m o q=>eO (hF b m) q⟩
   | 1,e=>cases e; exact⟨v1,rfl,r1.ext sub⟩
   | 2,e=>cases e; exact⟨v2,rfl,r2.ext sub⟩
   | i+3,e=>simp at e
  have eI:eOp gIx (eUn (gO "Book") (aF 0)) (aF 1) [some (bZ "Book" W (.dict hds)),some (.str t),some (.tuple ks)]=some (.dict ((.none,.none)::kds)):=by
   show(((gO "Book") (bZ "Book" W (.dict hds))).bind fun x=>gIx x (.str t))=_
   rw[show gO "Book" (bZ "Book" W (.dict hds))=some (.dict hds) by unfold gO; rw[xN]; rfl]
   exact el
  have eW:aN (hG none) (fY "Book" (aF 0) (aK (aF 1) (aK (aF 2) aM))) [some (bZ "Book" W (.dict hds)),some (.str t),some (.tuple ks)]=some u:=by
   show(fY "Book" (aF 0) (aK (aF 1) (aK (aF 2) aM)) [some (bZ "Book" W (.dict hds)),some (.str t),some (.tuple ks)]).bind (hG none)=_
   have:fY "Book" (aF 0) (aK (aF 1) (aK (aF 2) aM)) [some (bZ "Book" W (.dict hds)),some (.str t),some (.tuple ks)]=some [bZ "Book" W (.dict hds),.str t,.tuple ks]:=by
    show(if (iQ "Book" (bZ "Book" W (.dict hds))).isSome=true then some [bZ "Book" W (.dict hds),cF t,fL ks] else none)=_
    rw[xN]
    rfl
   rw[this]
   exact ew
  obtain⟨_,_,_,_,_,_,_,_,_,_,_,_,_,_,_,_,rt0,_⟩:=rb.at nF el ndk
  refine⟨P0,_,u,hP,rs,eW,dA fun _ H1 x1 _=>?_⟩
  have eIn : ∀ neg:Bool,bOf (eOp (gIn neg) (aF 2) (eOp gIx (eUn (gO "Book") (aF 0)) (aF 1))) [some (bZ "Book" W (.dict hds)),some (.str t),some (.tuple ks)]=some (neg != (kN kds ks).isSome):=fun neg=>by
   show((eOp gIx (eUn (gO "Book") (aF 0)) (aF 1) [some (bZ "Book" W (.dict hds)),some (.str t),some (.tuple ks)]).bind fun x=>gIn neg (.tuple ks) x).bind asB=_
   rw[eI]
   show(if (bU ks&&decide (cV ks≤6))=true then some (fP (neg != (kN kds ks).isSome)) else none).bind asB=_
   rw[k1,decide_eq_true k2]
   rfl
  have same : ∀ {H2:Hp},Ext H H2->r=false->Q (.bl false) H2:=fun {H2} x2 er=>by
   have:=kq H2 (fun b o _ q=>x2 _ _ q) (by
    rw[e3b,if_neg (by rw[← e3a,er]; decide)]
    exact rb.keep (cE x2) fun b m=>by
     rcases rb.mut b m with⟨xs,q⟩ | ⟨xs,q⟩ <;> rw[q,x2 _ _ q])
   rwa [er] at this
  by_cases hin : .tuple ks∈kds.map (·.1)
  case neg=>
   have eg:some (false,kds)=some pq:=(if_neg hin).symm.trans eg
   cases eg
   refine⟨P0,_,true,hP.ext x1,rs.ext (cE x1),?_,fun H2 x2=>nK ?_⟩
   ·rw[eIn,JE k1 rt0 hin]
    rfl
   ·exact same (x1.trans x2) e3a
  have eg:some (true,rQ kds ks)=some pq:=(if_pos hin).symm.trans eg
  cases eg
  refine⟨P0,_,false,hP.ext x1,rs.ext (cE x1),?_,fun H3 x2=>mJ ?_⟩
  ·rw[eIn,(CA k1 rt0 hin).1]
   rfl
  have x13:=x1.trans x2
  have rb3:RepB K (hid H3 (orL P0 F0)) H3 (bZ "Book" W (.dict hds)) (.ref a) F0:=rb.keep (cE x13) fun b m=>by
   rcases rb.mut b m with⟨xs,q⟩ | ⟨xs,q⟩ <;> rw[q,x13 _ _ q]
  obtain⟨a',C',dx,wa,q,p,hvs,ts,ea,hc,ha,hq,hval,hpF,hp,fl,rt,hnew⟩:=rb3.at nF el ndk
  cases ea
  obtain rfl:=pU c1 hc
  obtain rfl:=(Aau.mp r1).1
  have r2':=(r2.ext (cE x13)).ext Aay
  obtain⟨b,rfl,tk⟩:=r2'.tupK k1 k2
  obtain⟨uu,hu2⟩:=pE.mp (CA k1 rt hin).2
  refine⟨_,rfl,a,_,dx,_,_,rfl,ha,cl,nH,CC _ _,_,rfl,q,.ref p,rfl,(by rw[← hval]; exact Axa.k (k:=.inr t) hq),.inr (.inr (.inl ⟨rfl,.inr ⟨_,_,hp⟩⟩)),_,rfl,p,_,_,ks,b,uu,rfl,rfl,hp,tk,hu2,fun n=>?_⟩
  have e3b':d'=bZ "Book" W (.dict (iP hds t (.dict ((.none,.none)::rQ kds ks)))):=e3b
  have e3a':r=true:=e3a
  subst e3b'
  subst e3a'
  refine kq _ (fun b' o nb q'=>?_) ?_
  ·rw[bK (fun z=>nb (by rw[z]; exact hpF))]
   exact x13 _ _ q'
  ·have xb:Ext (hid H3 (orL P0 F0)) (hid (upd H3 p (.dT n (oY ts.2 ks))) (orL P0 F0)):=fun b' o q'=>by
    obtain⟨nb,q'⟩:=Abu.mp q'
    exact eO nb (by rw[bK (fun z=>nb (.inr (by rw[z]; exact hpF)))]; exact q')
   refine hnew _ _ _ (n,oY ts.2 ks) xb (fun b' m nb=>bK nb) cP (fun kd m=>?_) ?_
   ·exact fl kd (zK.mp m).1
   ·exact IU ks (rt.ext xb)
def Nz (z:Option aD):SF:=(bN (oK 0 .s (aN (hG z) (fY "Book" (aF 0) (aK (aF 1) (aK (aF 2) aM)))))
 (cS 0 .s (eOp (gIn false) (aF 2) (eOp gIx (eUn (gO "Book") (aF 0)) (aF 1)))))
def WH:FX:=fun z=>fnD 3 3 (Nz z)
theorem Qq (F:Fun K "has" "Book.has" KU f fd)(B:Blt mg)(C:Cst mg)(V:Xcs K mg)(D_Book_want_row:MethX P w K mg base "Book" "want_row" 4 oU (spX K 0 hG)):FnOk P w K mg base (CXR base P w) 5 f fd CY (spX K 0 WH):=by
 have nd:=Alu.nd
 exact pT F Alu rfl (by decide) fun cdv A outer s H E P0 z hr hz=>by
  have hu:=fI hr
  have hv:=fG hr
  exact(cC (xM 0 .s (wL .s hz (pW D_Book_want_row (hr.mono (by decide)) (aI 0) (aR (aI 1) (aR (aI 2) aX)))))
   (cD (dR .s (oI (uT hu) mS (aI 2) (eT hv (pY V.bk (aI 0)) (aI 1) (fun _ _=>rfl)) (by with_unfolding_all rfl)))))
def Sh:SF:=(bN (sIf .s (bOr (fE (bOf (eUn (gL "dict") (aF 0)))) (bOr (bOf (eOp gNe (aN uP (aK (aF 0) aM)) (aN uP (aK (aF 1) aM)))) (bOf (eOp LQ (aN xP (aK (aF 0) aM)) (eC (.bool true)))))) (cS 0 .s (eC (.bool false))) fF)
 (bN (iY .s (iDK (aF 1)) (gNm 2) (bN (dH 3 0 .s (eOp gIx (aF 0) (aF 2)))
 (sIf .s (bOr (fE (bOf (eUn (gL "list") (aF 3)))) (bOf (eOp gNe (aF 3) (aN AQ (aK (eOp gIx (aF 1) (aF 2)) aM))))) (cS 0 .s (eC (.bool false))) fF)))
 (cS 0 .s (eC (.bool true)))))
def vH:List aA->Option aA:=fnD 2 4 Sh
theorem Sk (F:Fun K "_law_plain_holds" "_law_plain_holds" LN f fd)(B:Blt mg)(C:Cst mg)(V:Xcs K mg)(D_is_book:Def P w K mg base "is_book" 5 xT (spF K 0 xP)):FnOk P w K mg base CX0 6 f fd yV (spF K 0 vH):=by
 have nd:=Ae6.nd
 exact iZ F Ae6 rfl (by decide) fun cdv A outer s H E P0 hr=>by
  have hu:=fI hr
  have hv:=fG hr
  exact(cC (gC .s (mI (mR (jH (kA (mU (T:="dict") rfl B.isinstance rfl B.dict Bu (by decide) (aI 0)))) (mR (fS (LV hu) LY (jK (n:=1) (eQ (LJ rfl) LA rfl B.sorted FB (aR (aI 0) aX))) (jK (n:=1) (eQ (LJ rfl) LA rfl B.sorted FB (aR (aI 1) aX))) (fU _)) (oO (fS Lc To (dF D_is_book (hr.mono (by decide)) rfl (aR (aI 0) aX)) iG (fU _)))))) (cD (dR .s iG)) gD)
   (cC (rR qU rfl (Ak (aI 1)) (pV (i:=2) nd rfl (by first | exact bM rfl | exact bI rfl)) (cC (gU (i:=3) 0 .s nd rfl (by first | exact bM rfl | exact bI rfl) (eT hv (aI 0) (aI 2) (fun _ _=>rfl)))
   (cD (gC .s (mI (mR (jH (kA (mU (T:="list") rfl B.isinstance rfl B.list FC (by decide) (aI 3)))) (oO (fS (LV hu) LY (aI 3) (jK (n:=1) (eQ Rf Pn rfl B.sorted FB (aR (eT hv (aI 1) (aI 2) (fun _ _=>rfl)) aX))) (fU _))))) (cD (dR .s iG)) gD))))
   (cD (dR .s iG))))
def mH (rs ks:List aA):Bool:=rs.any fun z=>cM z (.tuple ks)
def GP:aA->Option (List aA)
 | .tuple ks=>some ks
 | _=>none
theorem Ph {d:aA}{k:List aA}(h:GP d=some k):d = .tuple k:=by
 unfold GP at h
 split at h
 ·cases h; rfl
 ·cases h
def tR (rs ks:List aA):List aA:=match atD rs (.tuple ks) with
 | some j=>rs.eraseIdx j
 | none=>rs
def uF (rs ks:List aA)(way:Int):Option (List aA):=if (decide (0<rs.length)&&decide (way=2))=true then(rs[rs.length / 2]?).bind GP else some ks
def mE:List aA->Option (aA×List aA):=fun ds=>match ds with
 | [d,.list rs,.str t,.tuple ks,.int way]=>if (iQ "Book" d).isSome=true/\cO (.tuple ks)=true/\noDicts rs=true/\rs.length<1000 then
   if way<2 then if (!mH rs ks&&decide (rs.length<50))=true then(sQ [d,.str t,.tuple ks]).bind fun q=>some (q.2,rs++[.tuple ks]) else some (d,rs)
   else(uF rs ks way).bind fun k'=>if cO (.tuple k')=true then(mG [d,.str t,.tuple k']).bind fun q=>some (q.2,tR rs k') else none
  else none
 | _=>none
theorem WM {ds:List aA}{q:aA×List aA}(h:mE ds=some q) : ∃ W D rs t ks way,ds=[bZ "Book" W D,.list rs,.str t,.tuple ks,.int way]/\cO (.tuple ks)=true/\noDicts rs=true/\rs.length<1000 /\
  (if way<2 then if (!mH rs ks&&decide (rs.length<50))=true then(sQ [bZ "Book" W D,.str t,.tuple ks]).bind fun q=>some (q.2,rs++[.tuple ks]) else some (bZ "Book" W D,rs)
   else(uF rs ks way).bind fun k'=>if cO (.tuple k')=true then(mG [bZ "Book" W D,.str t,.tuple k']).bind fun q=>some (q.2,tR rs k') else none)=some q:=by
 unfold mE at h
 split at h
 ·obtain⟨⟨c1,c2,c3,c4⟩,h⟩:=IC h
  obtain⟨p,e⟩:=pE.mp c1
  have e:=uV e
  subst e
  exact⟨p.1,p.2,_,_,_,_,rfl,c2,c3,c4,h⟩
 ·cases h
theorem GL {c a b:Prop}[Decidable c](h:c)(x:a):if c then a else b:=by rw[if_pos h]; exact x
theorem GE {c a b:Prop}[Decidable c](h : ¬ c)(x:b):if c then a else b:=by rw[if_neg h]; exact x
set_option maxHeartbeats 8000000 in
theorem Rt {P:bB}{w:aU}{K:aH}{mg:aD->Option aE}{base:aP}{f:aB}{fd:fM}(F:Fun K "_law_deed" "_law_deed" LC f fd)(B:Blt mg)(C:Cst mg)(V:Xcs K mg)
  (DM_Book_put:MethM P w K mg base "Book" "put" 5 qG sQ) (DM_Book_drop:MethM P w K mg base "Book" "drop" 5 qI mG):FnOk P w K mg base (CXR base P w) (5+1) f fd yN (wV K mE):=by
 have nd:=Akm.nd
 obtain⟨C1,f1,fd1,hc1,cl1,me1,Fk1,hb1⟩:=DM_Book_put.ex
 obtain⟨C2,f2,fd2,hc2,cl2,me2,Fk2,hb2⟩:=DM_Book_drop.ex
 refine F.okX Akm (fun vs H Q E h=>?_) (fun cdv A outer s H vs Q E hr h=>?_)
 ·obtain⟨P,F0,a,p,us,d,rs,ys,ds,d',rs',rfl,_,_,_,_,_,_,_,_,rd,e,_⟩:=h
  obtain⟨W,D,rs,t,ks,way,e2,_⟩:=WM e
  cases e2
  rw[eD,eD,rd.length]
  rfl
 ·obtain⟨P0,F0,a,p,us,d,rs,ys,ds,d',rs',rfl,hP,hF0,hPp,hpF,nF0,rb,hq,rrs,rd,e,kq⟩:=h
  have hu:=fI hr
  have hv:=fG hr
  obtain⟨W,D,rs2,t,ks,way,e2,ok1,ok2,l1000,eg⟩:=WM e
  cases e2
  obtain⟨v2,us2,rfl,r2,rd⟩:=Aac.mp rd
  obtain⟨v3,us3,rfl,r3,rd⟩:=Aac.mp rd
  obtain⟨v4,us4,rfl,r4,rd⟩:=Aac.mp rd
  obtain rfl:=Aaj.mp rd
  obtain rfl:=(Aau.mp r2).1
  obtain rfl:=Aaq.mp r4
  refine⟨_,kB (oH (fS (A7g.or CH) AK (aI 4) bC (fU _))
    (kB (oH (mI (YA (fS (DJ hu) mS (aI 3) (aI 1) (by with_unfolding_all rfl)) (Ac (fS (A7g.or CH) AK (eQ iT iS rfl B.len iL (aR (aI 1) aX)) bC (fU _)))))
     (kC (kT (rL FA Bp Bo CO (pv 1) (fV (pv 3) iR)) rfl)
     (kB (kT (Af (pl:=_) (E:=fun _ _ _=>False) (pv 0) cl1 me1 Fk1 (hr.mono (by decide)) hb1 .nil (fun _ _ _ _ _ _ _ h=>by obtain⟨_,_,_,_,_,_,_,_,_,_,_,_,_,_,q⟩:=h; exact q.elim) (fV (pv 2) (fV (pv 3) iR))) rfl))) pZ))
    (kC (oH (mI (YA (fS tU uN (eQ iT iS rfl B.len iL (aR (aI 1) aX)) bC (fU _)) (Ac (fS (rS hu) rW (aI 4) bC (fU _)))))
     (kB (ZE (i:=3) nd rfl (by first | exact bM rfl | exact bI rfl) (wO Alv (pv 1) (ZN (eQ iT iS rfl B.len iL (aR (aI 1) aX)) bC) (fun _ _=>rfl)))) pZ)
    (kC (oH (fS (uT hu) mS (aI 3) (aI 1) (by with_unfolding_all rfl))
     (kB (kT (rL FA PySem.F.slot_list_remove PySem.F.type_list_remove (Ov hu) (pv 1) (fV (pv 3) iR)) rfl)) pZ)
    (kB (kT (Af (pl:=_) (E:=fun _ _ _=>False) (pv 0) cl2 me2 Fk2 (hr.mono (by decide)) hb2 .nil (fun _ _ _ _ _ _ _ h=>by obtain⟨_,_,_,_,_,_,_,_,_,_,_,_,_,_,q⟩:=h; exact q.elim) (fV (pv 2) (fV (pv 3) iR))) rfl))))),?_⟩
  have sub:Ext (hid H (orL (orL P0 [p]) F0)) (hid H P0):=gE fun b h=>.inl (.inl h)
  have hp1:p∈[p]:=bD
  have rsX : ∀ {H2:Hp} {σ:St} {k':List aA} {v:L2.V},Ext H H2->σ[1]?=some (some (.ref p))->σ[3]?=some (some v)->σ[4]?=some (some (.int way))->Abb K (hid H P0) (.tuple k') v->Akd K (hid H2 P0) [none,some (.list rs),none,some (.tuple k'),some (.int way)] σ:=fun {H2 σ k' v} x s1 s3 s4 rv i d' e=>by
   match i,e with
   | 0,e=>cases e
   | 1,e=>cases e; exact⟨_,s1,(Abf.mpr ⟨p,ys,rfl,SqL.of (eO hPp hq),rrs.ext sub⟩:Abb K (hid H P0) _ _).ext (cE x)⟩
   | 2,e=>cases e
   | 3,e=>cases e; exact⟨_,s3,rv.ext (cE x)⟩
   | 4,e=>cases e; exact⟨_,s4,Aaq.mpr rfl⟩
   | i+5,e=>simp at e
  have eIn : ∀ (neg:Bool) (k':List aA),cO (.tuple k')=true->gIn neg (.tuple k') (.list rs)=some (.bool (neg != mH rs k')):=fun neg k' ok'=>by
   show(if (cO (.tuple k')&&noDicts rs)=true then some (fP (neg != rs.any fun z=>cM z (.tuple k'))) else none)=_
   rw[ok',ok2]
   rfl
  have fin : ∀ {C:aB} {mm:aD} {G:List aA->Option (Bool×aA)} {Hx:Hp} {rs1 k':List aA} {ys1:List L2.V} {v:L2.V} {qv:Bool×aA} {σ:St},eK K "Book" = some (.ref C)->(∀ w q:L2.V,jN mm [(("wide" : aD),w),("held",q)]=none)->(∀ b o,b≠p->H b=some o->Hx b=some o) ->
    Hx p=some (.lst ys1)->(∀ B:Hp,Ext (hid H (orL (orL P0 [p]) F0)) B->Aan K B rs1 ys1)->Abb K (hid H (orL (orL P0 [p]) F0)) (.tuple k') v->G [bZ "Book" W D,.str t,.tuple k']=some qv->qv.2=d'->rs1=rs'->σ[0]?=some (some (.ref a))->σ[2]?=some (some (.str t))->σ[3]?=some (some v) ->
    GR C mm (uE K G) [] (fun _ _ _=>False) (nD 0) (tZ (nD 2) (tZ (nD 3) AD)) σ Hx (fun _ H1=>Q .non H1):=fun {C mm G Hx rs1 k' ys1 v qv σ} hc hlk kp hpx rr rv eG ed em s0 s2 s3=>by
   subst ed
   subst em
   have xb:Ext (hid H (orL (orL P0 [p]) F0)) (hid Hx (orL (orL P0 [p]) F0)):=fun b o e=>by
    obtain⟨nb,e⟩:=Abu.mp e
    exact eO nb (kp b o (fun z=>nb (.inl (.inr (cN.mpr z)))) e)
   have rbx:RepB K (hid Hx (orL (orL P0 [p]) F0)) Hx (bZ "Book" W D) (.ref a) F0:=rb.keep xb fun b m=>by
    have nb:b≠p:=fun z=>hpF (z ▸ m)
    rcases rb.mut b m with⟨xs,q⟩ | ⟨xs,q⟩ <;> rw[q,kp _ _ nb q]
   have hPx:Hid P0 Hx:=fun b h=>by
    have nb:b≠p:=fun z=>hPp (z ▸ h)
    rcases hP b h with⟨xs,e⟩ | ⟨xs,e⟩
    ·exact .inl ⟨xs,kp _ _ nb e⟩
    ·exact .inr ⟨xs,kp _ _ nb e⟩
   have rmx:Adw K (hid Hx (orL (orL P0 [p]) F0)) Hx 1 (.list rs1) (.ref p) [p]:=by
    obtain⟨q1,q2⟩:=xX (K:=K) (H1:=Hx) (rr _ xb)
    exact⟨p,ys1,_,rfl,hpx,by rw[q2],q1⟩
   obtain⟨a',dx,w',qq,ea,hia⟩:=rbx.ins hc
   cases ea
   refine⟨.ref a,s0,a,dx,_,rfl,hia,hlk _ _,.str t,s2,v,s3,?_⟩
   refine Iv (ds:=[.str t,.tuple k']) (q:=qv) hPx hF0 (fun b m z=>hpF (by rw[← cN.mp z]; exact m)) nF0 rbx rmx (Aac.mpr ⟨_,_,rfl,r2.ext xb,Aac.mpr ⟨_,_,rfl,rv.ext xb,Aaj.mpr rfl⟩⟩) eG fun H5 kp5 rb5 rm5=>?_
   obtain⟨p5,ys5,Gs5,e5,h5,hF5,g5⟩:=(show Aei K _ H5 1 (.list rs1) (.ref p) [p] from rm5)
   cases e5
   exact kq H5 ys5 (fun b o n0 n1 e=>kp5 _ _ n0 (kp _ _ n1 e)) rb5 h5 (CL g5).1
  have kpu : ∀ {H3:Hp} (o':HO),Ext H H3 -> ∀ b o,b≠p->H b=some o->upd H3 p o' b=some o:=fun {H3} o' x b o nb e=>by
   rw[bK nb]
   exact x _ _ e
  have same : ∀ {H2:Hp},Ext H H2->d'=bZ "Book" W D->rs'=rs->Q .non H2:=fun {H2} x ed em=>by
   subst ed
   subst em
   refine kq H2 ys (fun b o _ _ e=>x _ _ e) (rb.keep (cE x) fun b m=>?_) (x _ _ hq) (rrs.ext (cE x))
   rcases rb.mut b m with⟨xs,q⟩ | ⟨xs,q⟩ <;> rw[q,x _ _ q]
  let σ0:=start WW [.ref a,.ref p,.str t,v3,.int way]
  by_cases h2:way<2
  ·rw[if_pos h2] at eg
   refine⟨P0,_,true,hP,rsX (σ:=σ0) Ext.refl rfl rfl rfl (r3.ext sub),?_,fun H1 x1=>nK ?_⟩
   ·show some (decide (way<2))=_
    rw[decide_eq_true h2]
   refine⟨P0,_,(!mH rs ks&&decide (rs.length<50)),hP.ext x1,rsX (σ:=σ0) x1 rfl rfl rfl (r3.ext sub),?_,fun H2 x2=>?_⟩
   ·show((gIn true (.tuple ks) (.list rs)).bind asB).bind (fun b=>if b=true then some (decide ((rs.length:Int)<50)) else some false)=_
    rw[eIn true ks ok1]
    cases mH rs ks with
    | true=>rfl
    | false=>
     show some (decide ((rs.length:Int)<50))=some (true&&decide (rs.length<50))
     rw[Bool.true_and]
     exact congrArg some (decide_eq_decide.mpr ⟨fun h=>by omega,fun h=>by omega⟩)
   have x12:=x1.trans x2
   by_cases hc:(!mH rs ks&&decide (rs.length<50))=true
   ·rw[if_pos hc] at eg
    obtain⟨qv,e1,eg⟩:=XBs eg
    have eg:=dZ eg
    simp only[FE] at eg
    refine GL hc ⟨.ref p,rfl,.inl ⟨rfl,ys,SqL.of (x12 _ _ hq)⟩,v3,rfl,p,ys,v3,rfl,rfl,x12 _ _ hq,?_,?_⟩
    ·rw[rrs.length]
     exact gG l1000 (by decide)
    ·exact fin (σ:=σ0) hc1 (fun _ _=>rfl) (kpu _ x12) cP (fun B xB=>(rrs.ext xB).snoc (r3.ext xB)) r3 e1 eg.1 eg.2 rfl rfl rfl
   ·rw[if_neg hc] at eg
    have eg:=dZ eg
    simp only[FE] at eg
    exact GE hc (same x12 eg.1.symm eg.2.symm)
  rw[if_neg h2] at eg
  obtain⟨k',ek,eg⟩:=XBs eg
  obtain⟨ok',eg⟩:=IC eg
  obtain⟨qv,e1,eg⟩:=XBs eg
  have eg:=dZ eg
  simp only[FE] at eg
  refine⟨P0,_,false,hP,rsX (σ:=σ0) Ext.refl rfl rfl rfl (r3.ext sub),?_,fun H1 x1=>mJ ?_⟩
  ·show some (decide (way<2))=_
   rw[decide_eq_false h2]
  have rest : ∀ {H2:Hp} {σ:St} {v:L2.V},Ext H H2->σ[0]?=some (some (.ref a))->σ[1]?=some (some (.ref p))->σ[2]?=some (some (.str t))->σ[3]?=some (some v)->σ[4]?=some (some (.int way))->Abb K (hid H (orL (orL P0 [p]) F0)) (.tuple k') v ->
    ON (OB (tTF K (bOf (eOp (gIn false) (aF 3) (aF 1)))) (LP (tBM K "list" (RQ K) (nD 1) (tZ (nD 3) AD))) PN) (LP (GR C2 "drop" (uE K mG) [] (fun _ _ _=>False) (nD 0) (tZ (nD 2) (tZ (nD 3) AD)))) { nx:=fun _ H'=>Q .non H',rt:=Q } σ H2:=fun {H2 σ v} x2 s0 s1 s2 s3 s4 rv=>by
   refine⟨P0,_,mH rs k',hP.ext x2,rsX x2 s1 s3 s4 (rv.ext sub),?_,fun H3 x3=>?_⟩
   ·show(gIn false (.tuple k') (.list rs)).bind asB=_
    rw[eIn false k' ok']
    cases mH rs k' <;> rfl
   have x13:=x2.trans x3
   have ha:(atD rs (.tuple k')).isSome=mH rs k':=List.findIdx?_isSome
   by_cases hc:mH rs k'=true
   ·rw[hc] at ha
    obtain⟨j,hj⟩:=pE.mp ha
    refine GL hc ⟨.ref p,s1,.inl ⟨rfl,ys,SqL.of (x13 _ _ hq)⟩,v,s3,p,ys,v,rs,.tuple k',j,rfl,rfl,x13 _ _ hq,(rrs.ext (cE x13)).ext Aay,(rv.ext (cE x13)).ext Aay,ok',ok2,hj,?_⟩
    exact fin hc2 (fun _ _=>rfl) (kpu _ x13) cP (fun B xB=>(rrs.ext xB).erase j) rv e1 eg.1 (by rw[← eg.2]; unfold tR; rw[hj]) s0 s2 s3
   ·rw[Bool.eq_false_iff.mpr hc] at ha
    have hj:atD rs (.tuple k')=none:=by
     cases q:atD rs (.tuple k') with
     | none=>rfl
     | some j=>rw[q] at ha; cases ha
    exact GE hc (fin hc2 (fun _ _=>rfl) (fun b o _ e=>x13 _ _ e) (x13 _ _ hq) (fun B xB=>rrs.ext xB) rv e1 eg.1 (by rw[← eg.2]; unfold tR; rw[hj]) s0 s2 s3)
  refine⟨P0,_,(decide (0<rs.length)&&decide (way=2)),hP.ext x1,rsX (σ:=σ0) x1 rfl rfl rfl (r3.ext sub),?_,fun H2 x2=>?_⟩
  ·show(some (decide ((0:Int)<(rs.length:Int)))).bind (fun b=>if b=true then(some (fP (cM (.int way) (.int 2)))).bind asB else some false)=_
   have q1:decide ((0:Int)<(rs.length:Int))=decide (0<rs.length):=decide_eq_decide.mpr ⟨fun h=>by omega,fun h=>by omega⟩
   have q2:cM (.int way) (.int 2)=decide (way=2):=by
    simp only[cM]
    rfl
   rw[q1,q2]
   cases decide (0<rs.length) <;> rfl
  have x12:=x1.trans x2
  unfold uF at ek
  by_cases hc:(decide (0<rs.length)&&decide (way=2))=true
  ·rw[if_pos hc] at ek
   obtain⟨dk,ek1,ek2⟩:=XBs ek
   have ek3:=Ph ek2
   subst ek3
   obtain⟨v',hv',rv'⟩:=rrs.get ek1
   refine GL hc ⟨.ref p,rfl,P0,_,.int ((rs.length / 2:Nat):Int),hP.ext x12,rsX (σ:=σ0) x12 rfl rfl rfl (r3.ext sub),?_,dA fun vi H3 x3 ri=>?_⟩
   ·show(cY [.list rs]).bind (fun x=>yW x (.int 2))=_
    show yW (.int rs.length) (.int (2:Nat))=_
    show(if 0<((2:Nat):Int)/\((2:Nat):Int)<1073741824 then some (aZ ((rs.length:Int) / ((2:Nat):Int))) else none)=_
    rw[if_pos (by omega)]
    rfl
   obtain rfl:=Aaq.mp ri
   exact⟨p,ys,_,v',rfl,rfl,SqL.of ((x12.trans x3) _ _ hq),kU hv',rest (σ:=σ0.set 3 (some v')) (x12.trans x3) rfl rfl rfl rfl rfl rv'⟩
  ·rw[if_neg hc] at ek
   cases ek
   exact GE hc (rest (σ:=σ0) x12 rfl rfl rfl rfl rfl r3)
end Aw
namespace Aw
open PySem L2
set_option maxHeartbeats 4000000
variable {P:bB}{w:aU}{K:aH}{mg:aD->Option aE}{base:aP}{f:aB}{fd:fM}
def Eh:SF:=(bN (dH 1 1 .s (oX aM))
 (bN (iY .s (iIt (aN vE (aK (aN mZ (aK (aF 0) (aK (eC (.int 0)) aM))) (aK (eOp dW (eC (.int 1)) (eOp cR (aN fJ (aK (aN mZ (aK (aF 0) (aK (eC (.int 1)) aM))) (aK (eC (.int 5)) aM))) (eC (.int 3)))) aM)))) (gNm 2) (nJ 1 .a (oZ (aK (aF 2) (aK (eOp dW (eC (.int 1)) (eOp cR (aN fJ (aK (aN mZ (aK (aF 0) (aK (eC (.int 1)) aM))) (aK (eOp dW (eC (.int 6)) (aN cY (aK (aF 1) aM))) aM))) (eC (.int 6)))) aM)))))
 (pB 1 (bN (dH 3 1 .s (aN DY (aK (aF 1) aM)))
 (bN (dH 4 10 .a (AO "Book" (aN (sS none) (aK (aF 3) aM)) (aN (sS none) (aK (aF 3) aM))))
 (bN (OJ 3)
 (pB 3 (bN (dH 5 3 .s (eC (.list [.dict [],.dict []])))
 (bN (iY .s (iIt (aF 1)) (rP 2 6) (bN (xA 5 0 .s (oX aM) .s (aF 2))
 (xA 5 1 .s (oX aM) .s (aF 2))))
 (bN (dH 7 1 .s (oX aM))
 (bN (iY .s (iIt (qL (aF 0) (oS (eC (.int 2))) (oS (eC (.int 82))))) (gNm 8) (bN (dH 9 0 .s (eOp cR (aN fJ (aK (aF 8) (aK (eC (.int 20)) aM))) (eC (.int 2))))
 (bN (DZ .s (eOp gIx (aF 1) (eOp cR (aN fJ (aK (aF 8) (aK (eC (.int 21)) aM))) (aN cY (aK (aF 1) aM)))) (rP 10 6))
 (bN (wM 4 5 mE (aF 9) (aF 10) (aK (aF 10) (aK (aN sN (aK (aF 8) (aK (aF 6) aM))) (aK (eOp cR (aN fJ (aK (aF 8) (aK (eC (.int 22)) aM))) (eC (.int 4))) aM))))
 (sIf .s (bOf (eOp gEq (eOp cR (aN fJ (aK (aF 8) (aK (eC (.int 23)) aM))) (eC (.int 5))) (eC (.int 0)))) (bN (dH 11 2 .a (aN (sR none) (fY "Book" (eOp gIx (aF 4) (aF 9)) aM)))
 (pB 11 (bN (sIf .a (fE (bOf (aN vH (aK (aF 11) (aK (eOp gIx (aF 5) (aF 9)) aM))))) (cS 0 .s (eC (.bool false))) fF)
 (bN (nJ 7 .s (oZ (aK (aF 11) (aK (aN yE (aK (aF 11) aM)) aM))))
 (bN (dH 12 2 .a (aN (sR none) (fY "Book" (eOp gIx (aF 4) (aF 9)) aM)))
 (bN (GU 12 .s (aF 10) .s (eOp oF (oZ (aK (eC (.int 9)) aM)) (aF 6)))
 (GO 12 .s (eOp gIx (eOp gIx (aF 1) (eC (.int 0))) (eC (.int 0)))))))))) fF)))))
 (pB 5 (pB 7 (bN (iY .s (iR1 (aK (eC (.int 2)) aM)) (gNm 13) (sIf .a (fE (bOf (aN vH (aK (aN (sR none) (fY "Book" (eOp gIx (aF 4) (aF 13)) aM)) (aK (eOp gIx (aF 5) (aF 13)) aM))))) (cS 0 .s (eC (.bool false))) fF))
 (bN (iY .s (iIt (aF 7)) (rP 11 14) (sIf .s (bOf (eOp (zZ true) (aF 11) (aF 14))) (cS 0 .s (eC (.bool false))) fF))
 (cS 0 .s (eC (.bool true))))))))))))))))))
def GV:List aA->Option aA:=fnD 1 15 Eh
theorem Ge (F:Fun K "law" "law" rO f fd)(B:Blt mg)(C:Cst mg)(V:Xcs K mg)(D__law_cell:Def P w K mg base "_law_cell" 1 yF (spF K 0 mZ))(D__law_mix:Def P w K mg base "_law_mix" 1 sP (spF K 0 fJ))(D__law_copy:Def P w K mg base "_law_copy" 1 yM (spF K 2 yE))(D__law_names:Def P w K mg base "_law_names" 2 yH (spF K 1 vE))(D__law_row:Def P w K mg base "_law_row" 2 xZ (spF K 0 sN))(D_Book___init__:MakeX P w K mg base "Book" 4 yU sS)(D_Book_plain:MethX P w K mg base "Book" "plain" 4 yI (spX K 2 sR))(D__law_plain_holds:Def P w K mg base "_law_plain_holds" 6 yV (spF K 0 vH))(DM__law_deed:DefX P w K mg base "_law_deed" 6 yN (wV K mE)):FnOk P w K mg base CX0 7 f fd PQ (spF K 0 GV):=by
 have nd:=A8h.nd
 exact iZ F A8h rfl (by decide) fun cdv A outer s H E P0 hr=>by
  have hu:=fI hr
  have hv:=fG hr
  refine cC ?_ ?_
  refine gU (i:=1) 1 .s ?_ ?_ ?_ ?_ ?_ ?_
  exact nd
  rfl
  first | exact bM rfl | exact bI rfl
  exact(uL aX)
  rfl
  first | exact bM rfl | exact bI rfl | assumption
  refine cC ?_ ?_
  refine rR ?_ ?_ ?_ ?_ ?_ ?_
  exact qU
  rfl
  refine lZ ?_
  refine jK (n:=1) ?_
  refine dF D__law_names (hr.mono (by decide)) rfl ?_
  refine aR ?_ ?_ ?_
  refine dF D__law_cell (hr.mono (by decide)) rfl ?_
  refine aR ?_ ?_ ?_
  exact(aI 0)
  refine aR ?_ ?_ ?_
  exact bC
  exact aX
  rfl
  rfl
  refine aR ?_ ?_ ?_
  refine jG bC ?_
  refine fW ?_ bC
  refine dF D__law_mix (hr.mono (by decide)) rfl ?_
  refine aR ?_ ?_ ?_
  refine dF D__law_cell (hr.mono (by decide)) rfl ?_
  refine aR ?_ ?_ ?_
  exact(aI 0)
  refine aR ?_ ?_ ?_
  exact bC
  exact aX
  rfl
  rfl
  refine aR ?_ ?_ ?_
  exact bC
  exact aX
  rfl
  rfl
  exact aX
  rfl
  rfl
  exact(pV (i:=2) nd rfl (by first | exact bM rfl | exact bI rfl))
  refine cD ?_
  refine CG 1 .a ?_
  refine MB ?_
  refine aR ?_ ?_ ?_
  exact(aI 2)
  refine aR ?_ ?_ ?_
  refine jG bC ?_
  refine fW ?_ bC
  refine dF D__law_mix (hr.mono (by decide)) rfl ?_
  refine aR ?_ ?_ ?_
  refine dF D__law_cell (hr.mono (by decide)) rfl ?_
  refine aR ?_ ?_ ?_
  exact(aI 0)
  refine aR ?_ ?_ ?_
  exact bC
  exact aX
  rfl
  rfl
  refine aR ?_ ?_ ?_
  refine jG bC ?_
  refine eQ iT iS rfl B.len iL ?_
  refine aR ?_ ?_ ?_
  exact(aI 1)
  exact aX
  rfl
  exact aX
  rfl
  rfl
  exact aX
  rfl
  rfl
  intro _; rfl
  refine sA 1 ?_
  refine cC ?_ ?_
  refine gU (i:=3) 1 .s ?_ ?_ ?_ ?_ ?_ ?_
  exact nd
  rfl
  first | exact bM rfl | exact bI rfl
  refine xU (XF rfl) VU rfl B.list FC ?_
  refine aR ?_ ?_ ?_
  exact(aI 1)
  exact aX
  rfl
  rfl
  first | exact bM rfl | exact bI rfl | assumption
  refine cC ?_ ?_
  refine gU (i:=4) 10 .a ?_ ?_ ?_ ?_ ?_ ?_
  exact nd
  rfl
  first | exact bM rfl | exact bI rfl
  refine Vl (c:="Book") ?_ ?_
  exact(mQ (QK D_Book___init__ (hr.mono (by decide)) (by rfl) (aR (aI 3) aX)))
  exact(mQ (QK D_Book___init__ (hr.mono (by decide)) (by rfl) (aR (aI 3) aX)))
  rfl
  first | exact bM rfl | exact bI rfl | assumption
  refine cC ?_ ?_
  exact(Up 3)
  refine sA 3 ?_
  refine cC ?_ ?_
  exact(gU (i:=5) 3 .s nd rfl (by first | exact bM rfl | exact bI rfl) Gy)
  refine cC ?_ ?_
  refine rR ?_ ?_ ?_ ?_ ?_ ?_
  exact qU
  rfl
  refine lZ ?_
  exact(aI 1)
  exact(HQ (i:=2) (j:=6) rfl nd rfl rfl (by first | exact bM rfl | exact bI rfl) (by first | exact bM rfl | exact bI rfl))
  refine cC ?_ ?_
  refine RG (c:=0) 5 .s .s hv ?_ ?_
  exact(uL aX)
  exact(aI 2)
  refine cD ?_
  refine RG (c:=1) 5 .s .s hv ?_ ?_
  exact(uL aX)
  exact(aI 2)
  intro _; rfl
  refine cC ?_ ?_
  refine gU (i:=7) 1 .s ?_ ?_ ?_ ?_ ?_ ?_
  exact nd
  rfl
  first | exact bM rfl | exact bI rfl
  exact(uL aX)
  rfl
  first | exact bM rfl | exact bI rfl | assumption
  refine cC ?_ ?_
  refine rR ?_ ?_ ?_ ?_ ?_ ?_
  exact qU
  rfl
  refine lZ ?_
  refine jK (n:=1) ?_
  refine YY ?_ ?_ ?_
  exact(aI 0)
  exact(IE bC)
  exact(IE bC)
  exact(pV (i:=8) nd rfl (by first | exact bM rfl | exact bI rfl))
  refine cC ?_ ?_
  refine gU (i:=9) 0 .s ?_ ?_ ?_ ?_ ?_ ?_
  exact nd
  rfl
  first | exact bM rfl | exact bI rfl
  refine fW ?_ bC
  refine dF D__law_mix (hr.mono (by decide)) rfl ?_
  refine aR ?_ ?_ ?_
  exact(aI 8)
  refine aR ?_ ?_ ?_
  exact bC
  exact aX
  rfl
  rfl
  rfl
  first | exact bM rfl | exact bI rfl | assumption
  refine cC ?_ ?_
  refine Su .s ?_ ?_
  refine eT hv ?_ ?_ (fun _ _=>rfl)
  exact(aI 1)
  refine fW ?_ ?_
  refine dF D__law_mix (hr.mono (by decide)) rfl ?_
  refine aR ?_ ?_ ?_
  exact(aI 8)
  refine aR ?_ ?_ ?_
  exact bC
  exact aX
  rfl
  rfl
  refine eQ iT iS rfl B.len iL ?_
  refine aR ?_ ?_ ?_
  exact(aI 1)
  exact aX
  rfl
  exact(HQ (i:=10) (j:=6) rfl nd rfl rfl (by first | exact bM rfl | exact bI rfl) (by first | exact bM rfl | exact bI rfl))
  refine cC ?_ ?_
  exact(Kf (Lx 4 5 hv DM__law_deed (hr.mono (by decide)) rfl (by decide) (aI 9) (aI 9) (aI 10) (aR (aI 10) (aR (dF D__law_row (hr.mono (by decide)) rfl (aR (aI 8) (aR (aI 6) aX))) (aR (fW (dF D__law_mix (hr.mono (by decide)) rfl (aR (aI 8) (aR bC aX))) bC) aX))) (by intro _ _; rfl) (by intro _ _; rfl) (by intro _ _; rfl)))
  refine cD ?_
  refine gC .s ?_ ?_ gD
  refine fS (rS hu) rW ?_ bC (fU _)
  refine fW ?_ bC
  refine dF D__law_mix (hr.mono (by decide)) rfl ?_
  refine aR ?_ ?_ ?_
  exact(aI 8)
  refine aR ?_ ?_ ?_
  exact bC
  exact aX
  rfl
  rfl
  refine cC ?_ ?_
  refine gU (i:=11) 2 .a ?_ ?_ ?_ ?_ ?_ ?_
  exact nd
  rfl
  first | exact bM rfl | exact bI rfl
  exact(mQ (BZ D_Book_plain (hr.mono (by decide)) (eT hv (aI 4) (aI 9) (fun _ _=>rfl))))
  rfl
  first | exact bM rfl | exact bI rfl | assumption
  refine sA 11 ?_
  refine cC ?_ ?_
  refine gC .a ?_ ?_ gD
  refine jH ?_
  refine kA ?_
  refine dF D__law_plain_holds (hr.mono (by decide)) rfl ?_
  refine aR ?_ ?_ ?_
  exact(aI 11)
  refine aR ?_ ?_ ?_
  refine eT hv ?_ ?_ (fun _ _=>rfl)
  exact(aI 5)
  exact(aI 9)
  exact aX
  rfl
  rfl
  refine cD ?_
  exact(dR .s iG)
  refine cC ?_ ?_
  refine CG 7 .s ?_
  refine MB ?_
  refine aR ?_ ?_ ?_
  exact(aI 11)
  refine aR ?_ ?_ ?_
  refine jK (n:=2) ?_
  refine dF D__law_copy (hr.mono (by decide)) rfl ?_
  refine aR ?_ ?_ ?_
  exact(aI 11)
  exact aX
  rfl
  exact aX
  rfl
  rfl
  refine cC ?_ ?_
  refine gU (i:=12) 2 .a ?_ ?_ ?_ ?_ ?_ ?_
  exact nd
  rfl
  first | exact bM rfl | exact bI rfl
  exact(mQ (BZ D_Book_plain (hr.mono (by decide)) (eT hv (aI 4) (aI 9) (fun _ _=>rfl))))
  rfl
  first | exact bM rfl | exact bI rfl | assumption
  refine cC ?_ ?_
  refine La 12 .s .s hv ?_ ?_
  exact(aI 10)
  refine Ln ?_ ?_
  refine MB ?_
  refine aR ?_ ?_ ?_
  exact bC
  exact aX
  rfl
  exact(aI 6)
  refine cD ?_
  refine Ik 12 .s ?_
  refine eT hv ?_ bC (fun _ _=>rfl)
  refine eT hv ?_ bC (fun _ _=>rfl)
  exact(aI 1)
  intro _; rfl
  refine sA 5 ?_
  refine sA 7 ?_
  refine cC ?_ ?_
  refine HS .s qU rfl ?_ ?_ ?_
  refine uX rfl B.range ?_
  refine aR ?_ ?_ ?_
  exact bC
  exact aX
  rfl
  exact(pV (i:=13) nd rfl (by first | exact bM rfl | exact bI rfl))
  refine cD ?_
  refine gC .a ?_ ?_ gD
  refine jH ?_
  refine kA ?_
  refine dF D__law_plain_holds (hr.mono (by decide)) rfl ?_
  refine aR ?_ ?_ ?_
  refine jK (n:=2) ?_
  exact(mQ (BZ D_Book_plain (hr.mono (by decide)) (eT hv (aI 4) (aI 13) (fun _ _=>rfl))))
  refine aR ?_ ?_ ?_
  refine eT hv ?_ ?_ (fun _ _=>rfl)
  exact(aI 5)
  exact(aI 13)
  exact aX
  rfl
  rfl
  refine cD ?_
  exact(dR .s iG)
  refine cC ?_ ?_
  refine rR ?_ ?_ ?_ ?_ ?_ ?_
  exact qU
  rfl
  refine lZ ?_
  exact(aI 7)
  exact(HQ (i:=11) (j:=14) rfl nd rfl rfl (by first | exact bM rfl | exact bI rfl) (by first | exact bM rfl | exact bI rfl))
  refine cD ?_
  refine gC .s ?_ ?_ gD
  refine fS (Fn hu) Kh ?_ ?_ (fU _)
  exact(aI 11)
  exact(aI 14)
  refine cD ?_
  exact(dR .s iG)
  intro _; rfl
  refine cD ?_
  exact(dR .s iG)
end Aw
namespace L2
open PySem PySem.Spec PyProof.Rows
variable {F G:SF}{T:aA->List (Option aA)->Option (List (Option aA))}{ds:List aA}{ρ ρ':aY}{f:EF}{d:aA}{fi:AF}{n i:Nat}{cap:List (Option Nat)}
theorem Sw{T:aA->aY->Option aY}(P:Nat->aY->Prop)(h0:P 0 ρ)
  (step : ∀ i d ρ,ds[i]?=some d->P i ρ -> ∃ ρ1 ρ2,T d ρ=some ρ1/\(F ρ1=some (.nx ρ2) \/ F ρ1=some (.ct ρ2))/\P (i+1) ρ2) : ∃ ρ',nE F T ds ρ=some (.nx ρ')/\P ds.length ρ':=by
 have go : ∀ (rest:List aA) (i:Nat) (ρ:aY),ds.drop i=rest->i+rest.length=ds.length->P i ρ -> ∃ ρ',nE F T rest ρ=some (.nx ρ')/\P ds.length ρ':=by
  intro rest
  induction rest with
  | nil=>
   intro i ρ _ hl p
   simp at hl
   subst hl
   exact⟨ρ,rfl,p⟩
  | cons d r ih=>
   intro i ρ hd hl p
   have hi:ds[i]?=some d:=by
    have:=congrArg (·[0]?) hd
    simpa using this
   obtain⟨ρ1,ρ2,e1,e2,p2⟩:=step i d ρ hi p
   have hd2:ds.drop (i+1)=r:=by
    have:=congrArg List.tail hd
    simpa using this
   obtain⟨ρ',e3,p3⟩:=ih (i+1) ρ2 hd2 (by simp at hl; omega) p2
   refine⟨ρ',?_,p3⟩
   show((T d ρ).bind fun ρ1=>(F ρ1).bind fun o=>match o with
    | .nx ρ'=>nE F T r ρ'
    | .ct ρ'=>nE F T r ρ'
    | .bk ρ'=>some (.nx ρ')
    | .rt d=>some (.rt d))=some (.nx ρ')
   rw[e1]
   rcases e2 with e2 | e2
   ·simp only[bO,e2]; exact e3
   ·simp only[bO,e2]; exact e3
 exact go ds 0 ρ (by simp) (by simp) h0
theorem ZO{t:BF}{ρ:List (Option aA)}(R:aA->aA->Prop) : ∀ (ds:List aA),(∀ d∈ds,∃ ρ1 y,T d ρ=some ρ1/\t ρ1=some true/\f ρ1=some y/\R d y) ->
  ∃ ys,lcD T t f ρ ds=some ys/\dB R ds ys
 | [],_=>⟨[],rfl,.nil⟩
 | d::r,h=>by
  obtain⟨ρ1,y,e1,e2,e3,hr⟩:=h d bD
  obtain⟨ys,e4,hp⟩:=ZO R r fun d' m=>h d' (bJ _ m)
  refine⟨y::ys,?_,.cons hr hp⟩
  show((T d ρ).bind fun ρ1=>(t ρ1).bind fun c=>if c=true then(f ρ1).bind fun y=>(lcD T t f ρ r).bind fun ys=>some (y::ys) else lcD T t f ρ r)=some (y::ys)
  simp[e1,e2,e3,e4]
theorem QC{t:BF}{ρ:List (Option aA)}(g:aA->aA) : ∀ (ds:List aA),(∀ d∈ds,∃ ρ1,T d ρ=some ρ1/\t ρ1=some true/\f ρ1=some (g d))->lcD T t f ρ ds=some (ds.map g)
 | [],_=>rfl
 | d::r,h=>by
  obtain⟨ρ1,e1,e2,e3⟩:=h d bD
  have e4:=QC g r fun d' m=>h d' (bJ _ m)
  show((T d ρ).bind fun ρ1=>(t ρ1).bind fun c=>if c=true then(f ρ1).bind fun y=>(lcD T t f ρ r).bind fun ys=>some (y::ys) else lcD T t f ρ r)=some (g d::r.map g)
  simp[e1,e2,e3,e4]
theorem Paired.mem_right {α β:Type}{R:α->β->Prop} : ∀ {as:List α} {bs:List β},dB R as bs -> ∀ b∈bs,∃ a∈as,R a b:=by
 intro as bs h
 induction h with
 | nil=>exact fun b m=>by simp at m
 | cons h _ ih=>
  intro b m
  rcases cI.mp m with rfl | m
  ·exact⟨_,bD,h⟩
  ·obtain⟨a,ha,hr⟩:=ih b m
   exact⟨a,bJ _ ha,hr⟩
theorem Ic(h:F ρ=some (.nx ρ')):bN F G ρ=G ρ':=by
 unfold bN
 rw[h]
 rfl
theorem Gf(h:F ρ=some (.rt d)):bN F G ρ=some (.rt d):=by
 unfold bN
 rw[h]
 rfl
theorem Lp {m:Md}{T:aA->aY->Option aY}{o:Out}(h:aV m fi ρ=some ds)(h2:nE F T ds ρ=some o):iY m fi T F ρ=some o:=by
 unfold iY
 rw[h]
 exact h2
theorem OV {np:Nat}{body:SF}(hl:ds.length=np)(h:body (ds.map (fun d=>some (0,d))++fC (n - np) none)=some (.rt d)):fnD np n body ds=some d:=by
 unfold fnD
 rw[if_pos hl,h]
 rfl
theorem Oe {α β:Type}{R:α->β->Prop}{as:List α}{bs:List β}(h:dB R as bs):bs.length=as.length:=(kJ h).symm
theorem ZC {β:Type}{g:β->aA}{R:β->Prop} : ∀ (ys:List aA),(∀ y∈ys,∃ c,y=g c/\R c) -> ∃ cs:List β,ys=cs.map g /\ ∀ c∈cs,R c
 | [],_=>⟨[],rfl,fun _ m=>by simp at m⟩
 | y::r,h=>by
  obtain⟨c,e,hc⟩:=h y bD
  obtain⟨cs,e2,h2⟩:=ZC r fun z m=>h z (bJ _ m)
  refine⟨c::cs,by rw[e,e2]; rfl,fun x m=>?_⟩
  rcases cI.mp m with rfl | m
  ·exact hc
  ·exact h2 x m
theorem Hb{k:Nat}(h:k≤ds.length):cutD ds none (some (k:Int))=ds.take k:=by
 unfold cutD
 rw[HT.A7b,HT.Bbc]
 simp[Nat.min_eq_left h]
theorem oR(h:n≤100000):n≤sizeLine:=iA h (by decide)
theorem sE(h:n≤100000):n<sizeLine:=Nat.lt_of_le_of_lt h (by decide)
def letter (c:Nat):Bool:=decide (97≤c)&&decide (c≤122)
def figure (c:Nat):Bool:=decide (48≤c)&&decide (c≤57)
def jI (c:Nat):Bool:=letter c||figure c
theorem Xd {c:Nat}(h:letter c=true):jI c=true:=by simp[jI,h]
theorem JI {c:Nat}(h:jI c=true):c<128:=by
 simp[jI,letter,figure] at h
 omega
def Fb (cs:List Nat):Prop:=∃ c r,cs=c::r/\letter c=true/\(∀ x∈cs,jI x=true)/\cs.length≤12
abbrev jP (cs:List Nat):aD:=⟨cs.toArray⟩
def nameS (z:aD):Prop:=Fb z.cps.toList
theorem Hu {z:aD}(h : ∀ c∈z.cps.toList,jI c=true):cQ (.str z)=true:=by
 have:z.cps.all (fun x=>decide (x<1114112))=true:=by
  rw[Array.all_eq_true']
  intro x hx
  have:=JI (h x (by simpa using hx))
  simp; omega
 simpa [cQ,MW] using this
def dE (c:Nat):aA:=.str ⟨#[c]⟩
def SIGNS:aD:="abcdefghijklmnopqrstuvwxyz0123456789"
theorem signs_at : ∀ j<36,∃ c,SIGNS.cps.toList[j]?=some c/\jI c=true/\(j<26->letter c=true):=by decide +kernel
theorem RV {i:Int}(h0:0≤i)(h1:i<36) : ∃ c,gIx (.str SIGNS) (.int i)=some (dE c)/\jI c=true/\(i<26->letter c=true):=by
 obtain⟨j,rfl⟩:=qY h0
 obtain⟨c,e,h2,h3⟩:=signs_at j (by omega)
 refine⟨c,?_,h2,fun h=>h3 (by omega)⟩
 show(if SIGNS.length≤sizeLine then(atI SIGNS.cps.toList (j:Int)).bind fun c=>some (cF ⟨#[c]⟩) else none)=_
 rw[if_pos (by decide +kernel),kU e]
 rfl
theorem VW : ∀ cs:List Nat,qM (cs.map dE)=some (cs.map fun c=>(⟨#[c]⟩:aD))
 | []=>rfl
 | c::r=>by
  show((qM (r.map dE)).bind fun xs=>some ((⟨#[c]⟩:aD)::xs))=_
  rw[VW r]
  rfl
theorem SC : ∀ cs:List Nat,((cs.map fun c=>(⟨#[c]⟩:aD)).map (·.length)).sum=cs.length
 | []=>rfl
 | c::r=>by
  rw[dC,dC,List.sum_cons,SC r,eD]
  show 1+r.length=r.length+1
  omega
theorem ZK {cs:List Nat}(h:cs.length≤1000):uA (.str "") (.list (cs.map dE))=some (.str (jP cs)):=by
 show((qM (cs.map dE)).bind fun ys=>if (ys.map (·.length)).sum+ys.length*(MO "").length≤16777216 then some (cF (kY (MO "") ys)) else none)=_
 rw[VW]
 simp only[bO,SC,bX]
 rw[if_pos (by
  have:(MO "").length=0:=by decide +kernel
  rw[this]; omega)]
 have:=VY cs
 have e:(MO "")=(⟨#[]⟩:aD):=by decide +kernel
 rw[e,this]
def cK (c k:Int):Int:=(c%2147483647*48271+k*k*69621+k+11)%2147483629*((c%2147483647*48271+k*k*69621+k+11)%2147483629)%2147483587
theorem gQ (a:Int){b:Int}(h:0<b):0≤a%b/\a%b<b:=⟨Int.emod_nonneg _ (by omega),Int.emod_lt_of_pos _ h⟩
def Goes (F:SF)(ρ:aY)(P:Out->Prop):Prop:=∃ o,F ρ=some o/\P o
variable {P:Out->Prop}{m:Md}
theorem ED(h:F ρ=some (.nx ρ'))(k:P (.nx ρ')):Goes F ρ P:=⟨_,h,k⟩
theorem eY(h:F ρ=some (.nx ρ'))(k:Goes G ρ' P):Goes (bN F G) ρ P:=by
 obtain⟨o,e,p⟩:=k
 exact⟨o,by rw[Ic h]; exact e,p⟩
theorem jT (I:aY->Prop)(h:Goes F ρ fun o=>∃ ρ',o = .nx ρ'/\I ρ')(k : ∀ ρ',I ρ'->Goes G ρ' P):Goes (bN F G) ρ P:=by
 obtain⟨o,e,ρ',rfl,i⟩:=h
 exact eY e (k ρ' i)
theorem Me(h:F ρ=some (.rt d))(k:P (.rt d)):Goes (bN F G) ρ P:=⟨_,Gf h,k⟩
theorem Ek {t:BF}{b:Bool}(h:bV m t ρ=some b)(k:Goes (if b=true then F else G) ρ P):Goes (sIf m t F G) ρ P:=by
 obtain⟨o,e,p⟩:=k
 refine⟨o,?_,p⟩
 show((bV m t ρ).bind fun b=>if b=true then F ρ else G ρ)=some o
 rw[h]
 cases b
 ·exact e
 ·exact e
theorem wX {t:BF}(h:bV m t ρ=some true)(k:Goes F ρ P):Goes (sIf m t F G) ρ P:=Ek h k
theorem jE {t:BF}(h:bV m t ρ=some false):sIf m t F fF ρ=some (.nx ρ):=by
 unfold sIf
 rw[h]
 rfl
theorem AX (h:Goes F ρ fun o=>∃ d,o = .rt d/\P o):Goes (bN F G) ρ P:=by
 obtain⟨o,e,d,rfl,p⟩:=h
 exact Me e p
theorem Lq(h:f (vA ρ)=some d)(hf:dX n d=true)(k:P (.rt d)):Goes (cS n .a f) ρ P:=⟨_,by
 unfold cS eV
 simp only[h,bO,hf,FU,if_true],k⟩
theorem jA(h:f (vS ρ)=some d)(k:P (.rt d)):Goes (cS n .s f) ρ P:=⟨_,by
 unfold cS eV
 simp only[h,bO],k⟩
theorem ZA(h:eV n m f ρ=some d)(hl:i<ρ.length)(k:P (.nx (ρ.set i (some (n,d))))):Goes (dH i n m f) ρ P:=
 ⟨_,by unfold dH; rw[h]; simp only[bO,if_pos hl],k⟩
theorem Lm(h:f (vS ρ)=some d)(hl:i<ρ.length)(k:P (.nx (ρ.set i (some (n,d))))):Goes (dH i n .s f) ρ P:=ZA h hl k
theorem uH(h:Goes F (frz i ρ) P):Goes (pB i F) ρ P:=h
theorem Gk(h:n≤1000000):GC 0 (n:Int)=some ((cW n).map fun(k:Nat)=>aZ k):=by
 unfold GC
 rw[if_pos (by omega)]
 simp
theorem wY {fa:AF}{ρ:List (Option aA)}(h:fa ρ=some [.int n])(hn:n≤1000000):iR1 fa ρ=some ((cW n).map fun(k:Nat)=>aZ k):=by
 have e:=Gk hn
 generalize some ((cW n).map fun(k:Nat)=>aZ k)=y at e ⊢
 rw[← e]
 unfold iR1
 rw[h,bO]
theorem avS(h:fi (vS ρ)=some ds):aV .s fi ρ=some ds:=h
theorem pP{T:aA->aY->Option aY}(I:Nat->aY->Prop)(h:aV m fi ρ=some ds)(h0:I 0 ρ)
  (step : ∀ i d ρ,ds[i]?=some d->I i ρ -> ∃ ρ1,T d ρ=some ρ1/\Goes F ρ1 fun o=>∃ ρ2,(o = .nx ρ2 \/ o = .ct ρ2)/\I (i+1) ρ2) (k : ∀ ρ',I ds.length ρ'->P (.nx ρ')):Goes (iY m fi T F) ρ P:=by
 obtain⟨ρ',e,i⟩:=Sw I h0 fun i d ρ hd p=>by
  obtain⟨ρ1,e1,o,e2,ρ2,e3,p2⟩:=step i d ρ hd p
  refine⟨ρ1,ρ2,e1,?_,p2⟩
  rcases e3 with rfl | rfl
  ·exact .inl e2
  ·exact .inr e2
 exact⟨_,Lp h e,k ρ' i⟩
theorem IF{T:aA->aY->Option aY}(I:Nat->aY->Prop)(h:aV m fi ρ=some ((cW n).map fun(k:Nat)=>aZ k))(h0:I 0 ρ)
  (step : ∀ (i:Nat) ρ,i<n->I i ρ -> ∃ ρ1,T (.int i) ρ=some ρ1/\Goes F ρ1 fun o=>∃ ρ2,(o = .nx ρ2 \/ o = .ct ρ2)/\I (i+1) ρ2) (k : ∀ ρ',I n ρ'->P (.nx ρ')):Goes (iY m fi T F) ρ P:=by
 refine pP I h h0 (fun i d ρ hd p=>?_) (by simpa using k)
 have hlt:i<n:=by
  have:=(dM.mp hd).1
  simpa using this
 rw[fD,List.getElem?_range hlt] at hd
 have:aZ (i:Int)=d:=by simpa using hd
 subst this
 exact step i ρ hlt p
theorem PP {np:Nat}{body:SF}{Q:aA->Prop}(hl:ds.length=np)(h:Goes body (ds.map (fun d=>some (0,d))++fC (n - np) none) fun o=>∃ d,o = .rt d/\Q d) : ∃ d,fnD np n body ds=some d/\Q d:=by
 obtain⟨o,e,d,rfl,q⟩:=h
 exact⟨d,OV hl e,q⟩
theorem Et{t:BF}{ρ:List (Option aA)}(R:aA->aA->Prop)(h1:fi ρ=some ds)(h2:ds.length≤100000)
  (h : ∀ d∈ds,∃ ρ1 y,T d (kL cap ρ)=some ρ1/\t ρ1=some true/\f ρ1=some y/\R d y) : ∃ ys,eLC cap fi T t f ρ=some (.list ys)/\dB R ds ys:=by
 obtain⟨ys,e,hp⟩:=ZO R ds h
 refine⟨ys,?_,hp⟩
 unfold eLC
 rw[h1,bO,e,bO,if_pos (oR h2)]
theorem AR{t:BF}{ρ:List (Option aA)}(g:aA->aA)(h1:fi ρ=some ds)(h2:ds.length≤100000)
  (h : ∀ d∈ds,∃ ρ1,T d (kL cap ρ)=some ρ1/\t ρ1=some true/\f ρ1=some (g d)):eLC cap fi T t f ρ=some (.list (ds.map g)):=by
 unfold eLC
 rw[h1,bO,QC g ds h,bO,if_pos (oR h2)]
theorem Sr{t:BF}{ρ:List (Option aA)}{β:Type}(g:β->aA)(R:β->Prop)(h1:fi ρ=some ((cW n).map fun(k:Nat)=>aZ k))(h2:n≤100000)
  (h : ∀ k<n,∃ ρ1 y,T (.int (k:Nat)) (kL cap ρ)=some ρ1/\t ρ1=some true/\f ρ1=some (g y)/\R y) : ∃ ys:List β,eLC cap fi T t f ρ=some (.list (ys.map g))/\ys.length=n /\ ∀ y∈ys,R y:=by
 obtain⟨ys,e,hp⟩:=Et (fun _ y=>∃ x,y=g x/\R x) h1 (by simpa using h2) fun d m=>by
  obtain⟨k,hk,rfl⟩:=bF.mp m
  obtain⟨ρ1,y,a1,a2,a3,a4⟩:=h k (by simpa using hk)
  exact⟨ρ1,g y,a1,a2,a3,y,rfl,a4⟩
 obtain⟨xs,rfl,hx⟩:=ZC ys fun y m=>by
  obtain⟨_,_,x,e,hx⟩:=L2.Paired.mem_right hp y m
  exact⟨x,e,hx⟩
 have:=Oe hp
 exact⟨xs,e,by simpa using this,hx⟩
end L2
namespace L2
open PySem PySem.Spec PyProof.Rows
variable {f:EF}{ds:List aA}{d:aA}{kds:List (aA×aA)}
variable {F G:SF}{ρ:aY}{P:Out->Prop}{m:Md}
theorem oQ{ρ:List (Option aA)}(h:f ρ=some (.list ds)):iIt f ρ=some ds:=by
 unfold iIt
 rw[h]
 rfl
theorem Kr{ρ:List (Option aA)}(h:f ρ=some (.tuple ds)):iIt f ρ=some ds:=by
 unfold iIt
 rw[h]
 rfl
theorem bT {fa:AF}{g:List aA->Option aA}{ρ:List (Option aA)}(h:fa ρ=some ds)(h2:g ds=some d):aN g fa ρ=some d:=by
 unfold aN
 rw[h]
 exact h2
theorem cH {fa fb:EF}{g:aA->aA->Option aA}{ρ:List (Option aA)}{a b:aA}(h:fa ρ=some a)(h2:fb ρ=some b)(h3:g a b=some d):eOp g fa fb ρ=some d:=by
 unfold eOp
 rw[h,h2]
 exact h3
theorem Ii {i:Nat}(h:f (vA ρ)=some d)(hf:dU d=true)(hg:getL i ρ=some ds)(hl:ds.length<100000)(k:P (.nx (ρ.set i (some (1,.list (ds++[d])))))):Goes (nJ i .a f) ρ P:=⟨_,by
 unfold nJ eV
 simp only[h,bO,dX,hf,FU,if_true,hg,if_pos (sE (vR hl))],k⟩
theorem Aq {i:Nat}(h:f (vS ρ)=some d)(hg:getL i ρ=some ds)(hl:ds.length<100000)(k:P (.nx (ρ.set i (some (1,.list (ds++[d])))))):Goes (nJ i .s f) ρ P:=⟨_,by
 unfold nJ eV
 simp only[h,bO,hg,if_pos (sE (vR hl))],k⟩
def Eo (d:aA):Prop:=(∃ z,d = .str z/\nameS z) \/ ∃ i,d = .int i
theorem IW : ∀ {ts:List aA},(∀ t∈ts,bA t=true)->bU ts=true
 | [],_=>by simp[bU]
 | t::r,h=>by
  simp only[bU,vZ]
  exact⟨h t bD,IW fun x m=>h x (bJ _ m)⟩
theorem JT {n:Nat} : ∀ {ts:List aA},(∀ t∈ts,t.depth≤n)->cV ts≤n
 | [],_=>by simp[cV]
 | t::r,h=>by
  simp only[cV]
  exact Nat.max_le.mpr ⟨h t bD,JT fun x m=>h x (bJ _ m)⟩
theorem KA : ∀ {ts:List aA},(∀ t∈ts,noDict t=true)->noDicts ts=true
 | [],_=>by simp[noDicts]
 | t::r,h=>by
  simp only[noDicts,vZ]
  exact⟨h t bD,KA fun x m=>h x (bJ _ m)⟩
structure Kn (kds:List (aA×aA)):Prop where
 fit : ∀ kd∈kds,(∃ z,kd.1 = .str z)/\Eo kd.2
 once:(kds.map (·.1)).Nodup
theorem Kn.nil:Kn []:=⟨fun _ m=>by simp at m,by simp⟩
theorem Kn.int(h:Kn kds)(i:Int):bG kds (.inl i)=none:=by
 have:(kds.find? fun kd=>decide (bR kd.1=some (.inl i)))=none:=by
  rw[List.find?_eq_none]
  intro kd m
  obtain⟨⟨z,e⟩,_⟩:=h.fit kd m
  simp[e,bR]
 unfold bG
 rw[this]
 rfl
theorem YE(h : ∀ kd∈kds,kd.1 ≠ .none):plK kds=true:=by
 cases kds with
 | nil=>rfl
 | cons p r=>
  obtain⟨k,d⟩:=p
  have:=h (k,d) bD
  cases k <;> first | rfl | exact absurd rfl this
theorem Kn.pl(h:Kn kds):plK kds=true:=YE fun kd m=>by
 obtain⟨⟨z,e⟩,_⟩:=h.fit kd m
 rw[e]
 exact fun q=>nomatch q
theorem TC : ∀ (kss acc:List (List aA)),(acc++kss).Nodup->kss.foldl gA acc=acc++kss
 | [],acc,_=>by simp
 | k::r,acc,h=>by
  have hk:k∉acc:=by
   intro m
   exact(jV.mp h).2.2 k m k bD rfl
  have e:gA acc k=acc++[k]:=if_neg hk
  rw[pI,e,TC r (acc++[k]) (by simpa using h)]
  simp
theorem Vy {kss:List (List aA)}(h:kss.Nodup):fR kss=kss:=by
 have:=TC kss [] (by simpa using h)
 simpa [fR] using this
theorem QT : ∀ {kss:List (List aA)},(∀ k∈kss,bU k=true/\cV k≤6)->jO (kss.map fL)=some kss
 | [],_=>rfl
 | k::r,h=>by
  show(if bU k=true/\cV k≤6 then(jO (r.map fL)).bind fun kss=>some (k::kss) else none)=_
  rw[if_pos (h k bD),QT fun x m=>h x (bJ _ m)]
  rfl
end L2
namespace L2
open PySem PySem.Spec PyProof.Rows
variable {f:EF}{i n:Nat}{d:aA}
variable {F G:SF}{ρ:aY}{P:Out->Prop}{m:Md}
theorem SN {T:aA->List (Option aA)->Option (List (Option aA))}{t:BF}{ρ:List (Option aA)}{α:Type}{q:α->aA}(p:α->Bool)(g:α->aA) : ∀ (xs:List α),
  (∀ x∈xs,∃ ρ1,T (q x) ρ=some ρ1/\t ρ1=some (p x)/\(p x=true->f ρ1=some (g x)))->lcD T t f ρ (xs.map q)=some ((xs.filter p).map g)
 | [],_=>rfl
 | x::xs,h=>by
  obtain⟨ρ1,e1,e2,e3⟩:=h x bD
  have ih:=SN p g xs fun y m=>h y (bJ _ m)
  show((T (q x) ρ).bind fun ρ1=>(t ρ1).bind fun c=>if c=true then(f ρ1).bind fun y=>(lcD T t f ρ (xs.map q)).bind fun ys=>some (y::ys) else lcD T t f ρ (xs.map q))=_
  rw[e1,bO,e2,bO,ih]
  cases hp:p x with
  | true=>rw[if_pos rfl,e3 hp,List.filter_cons_of_pos hp]; rfl
  | false=>rw[if_neg (by simp),List.filter_cons_of_neg (by simp[hp])]
theorem BC {cap:List (Option Nat)}{fi:AF}{T:aA->List (Option aA)->Option (List (Option aA))}{t:BF}{ρ:List (Option aA)}{α:Type}{xs:List α}{q:α->aA}(p:α->Bool)(g:α->aA)(h1:fi ρ=some (xs.map q))(h2:xs.length≤100000)
  (h : ∀ x∈xs,∃ ρ1,T (q x) (kL cap ρ)=some ρ1/\t ρ1=some (p x)/\(p x=true->f ρ1=some (g x))):eLC cap fi T t f ρ=some (.list ((xs.filter p).map g)):=by
 unfold eLC
 rw[h1,bO,SN p g xs h,bO,if_pos (oR (by simpa using h2))]
theorem YW(h:eV n m f ρ=some d)(hl:i<ρ.length):dH i n m f ρ=some (.nx (ρ.set i (some (n,d)))):=by
 obtain⟨o,e,q⟩:=ZA (P:=fun o=>o = .nx (ρ.set i (some (n,d)))) h hl rfl
 rw[e,q]
theorem HA(h:f (vS ρ)=some d)(hl:i<ρ.length)(k:Goes G (ρ.set i (some (n,d))) P):Goes (bN (dH i n .s f) G) ρ P:=eY (YW h hl) k
theorem HR(h:f (vA ρ)=some d)(hf:dX n d=true)(hl:i<ρ.length)(k:Goes G (ρ.set i (some (n,d))) P):Goes (bN (dH i n .a f) G) ρ P:=
 eY (YW (by show((f (vA ρ)).bind fun d=>if (dX n d||(AE ρ&&decide (n<9)&&jD n d)||(AA ρ&&decide (n=0)&&ftD d))=true then some d else none)=_; rw[h,bO,hf,FU,FU,if_pos rfl]) hl) k
theorem fO{g:AF}{ρ:List (Option aA)}{ds:List aA}(h:f ρ=some d)(h2:g ρ=some ds):aK f g ρ=some (d::ds):=by
 unfold aK
 rw[h,h2]
 rfl
end L2
namespace L2
open PySem PySem.Spec PyProof.Rows
structure KnR (R:aA->Prop)(kds:List (aA×aA)):Prop where
 fit : ∀ kd∈kds,(∃ z,kd.1 = .str z)/\R kd.2
 once:(kds.map (·.1)).Nodup
variable {R:aA->Prop}{kds:List (aA×aA)}
theorem KnR.nil:KnR R []:=⟨fun _ m=>by simp at m,by simp⟩
theorem KnR.pl (h:KnR R kds):plK kds=true:=YE fun kd m=>by
 obtain⟨⟨z,e⟩,_⟩:=h.fit kd m
 rw[e]
 exact fun q=>nomatch q
def bL (r:List Int):aA:=.tuple (r.map aZ)
def dJ (rs:List (List Int)):aA:=.list (rs.map bL)
theorem RF (r:List Int):bA (bL r)=true:=by
 refine IW fun t m=>?_
 obtain⟨i,_,rfl⟩:=bF.mp m
 rfl
theorem Jd {ρ:aY}{P:Out->Prop}{i:Nat}{f g:EF}{d:aA}{j:Int}{jn:Nat}{ds:List aA}(h:f (vS ρ)=some d)(hg:getL i ρ=some ds)(hk:g (vS ρ)=some (.int j))(hj:ixN ds.length j=some jn)(k:P (.nx (ρ.set i (some (1,.list (ds.set jn d)))))):Goes (pM i .s f .s g) ρ P:=by
 refine⟨_,?_,k⟩
 have e1:eV 0 .s f ρ=some d:=h
 have e2:eV 0 .s g ρ=some (.int j):=hk
 unfold pM
 rw[e1,bO,hg,bO,e2,bO]
 show((ixN ds.length j).bind fun j=>some (Out.nx (ρ.set i (some (1,.list (ds.set j d))))))=_
 rw[hj]
 rfl
theorem Fp {ds:List aA}{f:EF}{lo hi:OF}{ρ:List (Option aA)}{l u:Option Int}(e1:f ρ=some (.list ds))(e2:lo ρ=some l)(e3:hi ρ=some u):qL f lo hi ρ=some (.list (cutD ds l u)):=by
 unfold qL
 rw[e1,bO,e2,bO,e3,bO]
theorem Ij {fd fk fx:EF}{ρ:List (Option aA)}{kds:List (aA×aA)}{kd x:aA}{key:aL}(h1:fd ρ=some (.dict kds))(h2:fk ρ=some kd)(ha:bR kd=some key)(h3:fx ρ=some x)(hp:plK kds=true:=by first | assumption | rfl | simp):GW fd fk fx ρ=some ((bG kds key).getD x):=by
 unfold GW
 rw[h1,bO,h2,bO,h3,bO]
 show(if plK kds=true then(bR kd).bind fun k=>some ((bG kds k).getD x) else none)=_
 rw[if_pos hp,ha]
 rfl
end L2
namespace L2
open PySem
theorem UD {ks:List aL} : ∀ {acc:List aL} {k:aL},k∈ks.foldl gY acc↔k∈acc \/ k∈ks:=by
 induction ks with
 | nil=>intro acc k; simp
 | cons x r ih=>
  intro acc k
  rw[pI,ih]
  unfold gY
  by_cases hx:x∈acc
  ·rw[if_pos hx]
   constructor
   ·rintro(h | h)
    ·exact .inl h
    ·exact .inr (bJ _ h)
   ·rintro(h | h)
    ·exact .inl h
    ·rcases cI.mp h with rfl | h
     ·exact .inl hx
     ·exact .inr h
  ·rw[if_neg hx,iO,cN,cI,or_assoc]
theorem RN {ks:List aL} : ∀ {acc:List aL},acc.Nodup->(ks.foldl gY acc).Nodup:=by
 induction ks with
 | nil=>intro acc h; exact h
 | cons x r ih=>
  intro acc h
  rw[pI]
  refine ih ?_
  unfold gY
  by_cases hx:x∈acc
  ·rw[if_pos hx]; exact h
  ·rw[if_neg hx]
   refine jV.mpr ⟨h,by simp,fun a ha b hb=>?_⟩
   rw[cN.mp hb]
   exact fun e=>hx (e ▸ ha)
end L2
namespace Aw
open PySem L2
variable {n s c:Nat}{y x:Bool}{f:EF}{ρ:List (Option aA)}{a:Int}{ds:List aA}{cs:List Nat}
abbrev s0 (d:aA):L2.Slot:=some (0,d)
def DR (n:Nat)(z:aD):Prop:=cQ (.str z)=true/\z.length≤n
theorem Vo {m:Nat}{y z:aD}(h:DR n y)(h2:DR m z)(hs:n+m≤100000):dW (.str y) (.str z)=some (.str (y++z)):=by
 show(if y.length+z.length≤sizeLine then some (cF (y++z)) else none)=_
 rw[if_pos (oR (by have:=h.2; have:=h2.2; omega))]
theorem Jh:DR 26 "abcdefghijklmnopqrstuvwxyz":=⟨by decide +kernel,by decide +kernel⟩
theorem Au (a b:Int):gEq (.int a) (.int b)=some (.bool (decide (a=b))):=by
 congr 2
theorem Lb {α:Type}(q:α->aA)(xs:List α)(l u:Option Int) : ∃ ys,cutD (xs.map q) l u=ys.map q/\ys.length≤xs.length/\(ys≠[]->xs≠[]):=by
 refine⟨(xs.drop (HT.sIx (xs.map q).length 0 l)).take (HT.sIx (xs.map q).length (xs.map q).length u - HT.sIx (xs.map q).length 0 l),?_,?_,?_⟩
 ·unfold cutD
  rw[← List.map_drop,← NI]
 ·simp; omega
 ·rintro h rfl
  simp at h
theorem IG (ds:List aA):cY [.tuple ds]=some (.int ds.length):=by simp[cY]
theorem lY{b:Bool}(h:f ρ=some (.bool b)):bOf f ρ=some b:=by
 unfold bOf
 rw[h]
 rfl
theorem Ww {α:Type}[DecidableEq α]{xs ys:List α}(h1:xs.Nodup)(h2:ys.Nodup)(h : ∀ a,a∈xs↔a∈ys):xs.length=ys.length:=
 Nat.le_antisymm (NS h1 fun a m=>(h a).mp m) (NS h2 fun a m=>(h a).mpr m)
theorem pX {a b:EF}(h:a ρ=some (.bool x))(h2:x=true->b ρ=some (.bool y)):iD a b ρ=some (.bool (x&&y)):=by
 unfold iD
 cases x with
 | true=>rw[h,bO,show asB (.bool true)=some true from rfl,bO,if_pos rfl,h2 rfl]; rfl
 | false=>rw[h,bO,show asB (.bool false)=some false from rfl,bO,if_neg (by simp)]; rfl
theorem HJ {fa:AF}(h:fa ρ=some ds)(hl:ds.length≤1000:=by simp):oZ fa ρ=some (.tuple ds):=by
 unfold oZ
 rw[h,bO,if_pos (oR (by omega))]
theorem iH (c k:Int)(h0:0≤k)(h1:k≤1000000):fJ [.int c,.int k]=some (.int (cK c k)):=by
 have b:=gQ (c%2147483647*48271+k*k*69621+k+11) (show(0:Int)<2147483629 by decide)
 have hk:k.natAbs<18446744073709551616:=by omega
 have hn:((c%2147483647*48271+k*k*69621+k+11)%2147483629).natAbs<18446744073709551616:=by omega
 simp[fJ,WG,fnD,bN,dH,cS,eV,vS,eOp,aF,eC,outD,dW,fT,cR,g2C,hk,hn,cK]
theorem QP {ns:List Int}{k:Int}(h0:0≤k)(h1:k≤1000000) : ∃ c,mZ [.list (ns.map aZ),.int k]=some (.int c):=by
 have hk:k.natAbs<18446744073709551616:=by omega
 have at_ : ∀ i:Int,0≤i->i<ns.length -> ∃ c,gIx (.list (ns.map aZ)) (.int i)=some (.int c):=fun i a b=>by
  obtain⟨j,rfl⟩:=qY a
  have hj:j<ns.length:=by omega
  exact⟨ns[j],kU (by rw[fD,jW hj]; rfl)⟩
 by_cases hl:k<(ns.length:Int)
 ·obtain⟨c,e⟩:=at_ k h0 hl
  exact⟨c,by simp[mZ,DD,fnD,bN,dH,cS,sIf,fF,eV,bV,vS,eOp,aF,eC,aN,aK,aM,bOf,asB,outD,dW,fT,cR,g2I,g2C,gLt,gGt,cY,hl,e]⟩
 ·by_cases hz:(0:Int)<ns.length
  ·obtain⟨c,e⟩:=at_ (k*7%(ns.length:Int)) (gQ _ hz).1 (gQ _ hz).2
   have b:=gQ (c*48271+k*7919) (show(0:Int)<2147483647 by decide)
   have hn:((c*48271+k*7919)%2147483647).natAbs<18446744073709551616:=by omega
   have hz':0<ns.length:=by omega
   exact⟨_,by simp[mZ,DD,fnD,bN,dH,cS,sIf,fF,eV,bV,vS,eOp,aF,eC,aN,aK,aM,bOf,asB,outD,dW,fT,cR,g2I,g2C,gLt,gGt,cY,hl,hz',hk,e,hn]; rfl⟩
  ·have hz':ns=[]:=by
    cases ns with
    | nil=>rfl
    | cons a r=>exact absurd (by simp) hz
   have hn:(k*7919+5).natAbs<18446744073709551616:=by omega
   have hl' : ¬ k<0:=by omega
   subst hz'
   exact⟨_,by simp[mZ,DD,fnD,bN,dH,cS,sIf,fF,eV,bV,vS,eOp,aF,eC,aN,aK,aM,bOf,asB,outD,dW,fT,cR,g2I,g2C,gLt,gGt,cY,hl',hk,hn]; rfl⟩
def baseOk (cs:List Nat)(s:Nat):Prop:=cs.length=s/\(∀ c∈cs,jI c=true) /\ ∃ c r,cs=c::r/\letter c=true
theorem baseOk.set{j:Nat}(h:baseOk cs s)(hc:jI c=true)(hl:j=0->letter c=true):baseOk (cs.set j c) s:=by
 obtain⟨h1,h2,c0,r,e,h3⟩:=h
 refine⟨by simpa using h1,fun x m=>?_,?_⟩
 ·rcases Cg m with q | q
  ·exact h2 x q
  ·rw[q]; exact hc
 ·subst e
  cases j with
  | zero=>exact⟨c,r,rfl,hl rfl⟩
  | succ j=>exact⟨c0,r.set j c,rfl,h3⟩
theorem baseOk.name(h:baseOk cs s)(hs:s≤12):nameS (jP cs):=by
 obtain⟨h1,h2,c0,r,e,h3⟩:=h
 exact⟨c0,r,e,h3,h2,by show cs.length≤12; omega⟩
theorem TU (cs:List Nat)(j c:Nat):(cs.map dE).set j (dE c)=(cs.set j c).map dE:=by rw[List.map_set]
theorem BO {α β:Type}{f:α->β} : ∀ {l:List α},(∀ a∈l,∀ b∈l,f a=f b->a=b)->l.Nodup->(l.map f).Nodup
 | [],_,_=>by simp
 | x::l,h,nd=>by
  rw[dS] at nd
  rw[dC,dS]
  refine⟨fun m=>?_,BO (fun a ma b mb=>h a (bJ _ ma) b (bJ _ mb)) nd.2⟩
  obtain⟨y,my,e⟩:=bF.mp m
  exact nd.1 (h y (bJ _ my) x bD e ▸ my)
def sgn (j:Nat):Nat:=SIGNS.cps.toList.getD j 0
theorem HL : ∀ j<36,SIGNS.cps.toList[j]?=some (sgn j)/\jI (sgn j)=true/\(j<26->letter (sgn j)=true):=by decide +kernel
theorem Kb : ∀ i<36,∀ j<36,sgn i=sgn j->i=j:=by decide +kernel
theorem Gz {i:Int}(h0:0≤i)(h1:i<36):gIx (.str SIGNS) (.int i)=some (dE (sgn i.toNat)):=by
 obtain⟨j,rfl⟩:=qY h0
 obtain⟨e,_,_⟩:=HL j (by omega)
 show(if SIGNS.length≤sizeLine then(atI SIGNS.cps.toList (j:Int)).bind fun c=>some (cF ⟨#[c]⟩) else none)=_
 rw[if_pos (by decide +kernel),kU e]
 rfl
theorem RH {a b:List Nat}(h:jP a=jP b):a=b:=by
 have h:a.toArray=b.toArray:=by injection h
 simpa using h
theorem Xc{k:Nat}(h:baseOk cs s)(hs:s≤12):nameS (jP (cs.take (k+1))):=by
 obtain⟨h1,h2,c0,r,e,h3⟩:=h
 refine⟨c0,r.take k,by subst e; rfl,h3,fun x m=>h2 x (List.mem_of_mem_take m),?_⟩
 show(cs.take (k+1)).length≤12
 rw[lC]; omega
theorem Wf (zs:List aD):dX 1 (.list (zs.map cF))=true:=by
 simp[dX,dU]
theorem Uv (c:Int)(hn:n≤12) : ∃ zs:List aD,vE [.int c,.int n]=some (.list (zs.map cF))/\zs.length=n/\(∀ z∈zs,nameS z)/\zs.Nodup:=by
 suffices h : ∃ d,vE [.int c,.int n]=some d /\ ∃ zs:List aD,d = .list (zs.map cF)/\zs.length=n/\(∀ z∈zs,nameS z)/\zs.Nodup by
  obtain⟨_,e,zs,rfl,h⟩:=h
  exact⟨zs,e,h⟩
 refine PP rfl ?_
 refine eY (ρ':=[s0 (.int c),s0 (.int n),s0 (.str SIGNS),none,none,none,none,none]) (by simp[dH,eV,eC,SIGNS]) ?_
 refine eY (ρ':=[s0 (.int c),s0 (.int n),s0 (.str SIGNS),s0 (.int (1+cK c 1%12)),none,none,none,none]) (by simp[dH,eV,vS,eOp,aF,eC,aN,aK,aM,dW,cR,g2C,iH]) ?_
 have b1:=gQ (cK c 1) (show(0:Int)<12 by decide)
 refine jT (fun ρ'=>∃ s:Nat,1≤s/\s≤12/\(cK c 2%3=0->s=12)/\ρ'=[s0 (.int c),s0 (.int n),s0 (.str SIGNS),s0 (.int s),none,none,none,none]) ?_ ?_
 ·by_cases h3:cK c 2%3=0
  ·refine ED (ρ':=[s0 (.int c),s0 (.int n),s0 (.str SIGNS),s0 (.int 12),none,none,none,none]) (by simp[dH,sIf,fF,eV,bV,vS,eOp,aF,eC,aN,aK,aM,bOf,asB,cR,g2C,gEq,cO,noDict,hW,cM,iH,h3]) ⟨_,rfl,12,by omega,by omega,fun _=>rfl,rfl⟩
  ·refine ED (ρ':=[s0 (.int c),s0 (.int n),s0 (.str SIGNS),s0 (.int (1+cK c 1%12)),none,none,none,none]) (by simp[dH,sIf,fF,eV,bV,vS,eOp,aF,eC,aN,aK,aM,bOf,asB,cR,g2C,gEq,cO,noDict,hW,cM,iH,h3]) ⟨_,rfl,(1+cK c 1%12).toNat,by omega,by omega,fun h=>absurd h h3,?_⟩
   have e:((1+cK c 1%12).toNat:Int)=1+cK c 1%12:=by omega
   rw[e]
 rintro _ ⟨s,hs1,hs12,hsp,rfl⟩
 refine jT (fun ρ'=>∃ cs:List Nat,cs.length=s/\(∀ x∈cs,jI x=true)/\ρ'=[s0 (.int c),s0 (.int n),s0 (.str SIGNS),s0 (.int s),some (1,.list (cs.map dE)),none,none,none]) ?_ ?_
 ·obtain⟨cs,e,hl,ho⟩:=Sr (cap:=[none,some 2,some 0]) (fi:=iR1 (aK (aF 3) aM)) (T:=gB 0) (t:=gP) (f:=(eOp gIx (aF 1) (eOp cR (aN fJ (aK (aF 2) (aK (eOp dW (eC (.int 30)) (aF 0)) aM))) (eC (.int 36)))))
    (ρ:=vS [s0 (.int c),s0 (.int n),s0 (.str SIGNS),s0 (.int s),none,none,none,none]) (n:=s) dE (fun x=>jI x=true) (wY rfl (by omega)) (by omega) (fun k hk=>by
    have b:=gQ (cK c (30+k)) (show(0:Int)<36 by decide)
    obtain⟨x,e,h1,_⟩:=RV b.1 b.2
    have e2:=iH c (30+(k:Int)) (by omega) (by omega)
    refine⟨[some (.int k),some (.str SIGNS),some (.int c)],x,rfl,rfl,?_,h1⟩
    simp only[eOp,aF,eC,aN,aK,aM,dW,cR,g2C,bO,zN,qX,FF,e2,if_pos (show(0:Int)<36 by decide),e])
  exact Lm e (by simp) ⟨_,rfl,cs,hl,ho,rfl⟩
 rintro _ ⟨cs0,hl,ho,rfl⟩
 refine jT (fun ρ'=>∃ cs:List Nat,baseOk cs s/\ρ'=[s0 (.int c),s0 (.int n),s0 (.str SIGNS),s0 (.int s),some (1,.list (cs.map dE)),none,none,none]) ?_ ?_
 ·have b:=gQ (cK c 50) (show(0:Int)<26 by decide)
  obtain⟨x,e,h1,h2⟩:=RV b.1 (by omega)
  have hb:baseOk (cs0.set 0 x) s:=by
   refine⟨by simpa using hl,fun y m=>?_,?_⟩
   ·rcases Cg m with q | q
    ·exact ho y q
    ·rw[q]; exact h1
   ·cases cs0 with
    | nil=>simp at hl; omega
    | cons a r=>exact⟨x,r,rfl,h2 b.2⟩
  have hix:ixN (cs0.map dE).length 0=some 0:=by
   unfold ixN
   rw[if_pos (by decide),if_pos (by rw[bX]; omega)]
   rfl
  refine ED (ρ':=[s0 (.int c),s0 (.int n),s0 (.str SIGNS),s0 (.int s),some (1,.list ((cs0.set 0 x).map dE)),none,none,none]) ?_ ⟨_,rfl,_,hb,rfl⟩
  simp only[pM,eV,vS,eOp,aF,eC,aN,aK,aM,cR,g2C,getL,dC,zN,qX,FF,bO,iH c 50 (by omega) (by omega),if_pos (show(0:Int)<26 by decide),e,hix]
  rw[← TU]
  rfl
 rintro _ ⟨cs,hb,rfl⟩
 by_cases h3:cK c 2%3=0
 ·have hs:=hsp h3
  subst hs
  have e:=AR (cap:=[none,some 4]) (fi:=iR1 (aK (aF 1) aM)) (T:=gB 0) (t:=gP) (f:=(eOp uA (eC (.str "")) (qL (aF 1) oN (oS (eOp dW (aF 0) (eC (.int 1)))))))
    (ρ:=vA [s0 (.int c),s0 (.int n),s0 (.str SIGNS),s0 (.int (12:Nat)),some (1,.list (cs.map dE)),none,none,none]) (ds:=(cW n).map fun(k:Nat)=>aZ k) (fun d=>match d with | .int k=>.str (jP (cs.take (k.toNat+1))) | d=>d) (wY rfl (by omega)) (by simp; omega) (fun d md=>by
    obtain⟨k,mk,rfl⟩:=bF.mp md
    have hk:=iN.mp mk
    have e1:=Hb (ds:=cs.map dE) (k:=k+1) (by have:=hb.1; simp; omega)
    have e2:=ZK (cs:=cs.take (k+1)) (by have:=hb.1; simp; omega)
    refine⟨[some (.int k),some (.list (cs.map dE))],rfl,rfl,?_⟩
    have e3:((k:Int)+1)=((k+1:Nat):Int):=by omega
    simp only[eOp,aF,eC,qL,oN,oS,dW,bO,zN,qX,FF,e3,e1]
    rw[← NI,e2]
    rfl)
  rw[fQ] at e
  have e':((cW n).map ((fun d=>match d with | .int k=>cF (jP (cs.take (k.toNat+1))) | d=>d)∘fun(k:Nat)=>aZ k))=(((cW n).map fun k=>jP (cs.take (k+1))).map cF):=by
   rw[fQ]
   rfl
  rw[e'] at e
  refine AX (wX ?_ (Lq e (Wf _) ⟨_,rfl,_,rfl,_,rfl,by simp,fun z m=>?_,?_⟩))
  ·simp[bV,vS,eOp,aF,eC,aN,aK,aM,bOf,asB,cR,g2C,gEq,cO,noDict,hW,cM,iH,h3]
  ·obtain⟨k,_,rfl⟩:=bF.mp m
   exact Xc hb (by omega)
  ·refine BO (fun a ma b mb q=>?_) Cd
   have ha:=iN.mp ma
   have hb':=iN.mp mb
   have:=congrArg pH (RH q)
   rw[lC,lC,hb.1] at this
   omega
 ·refine eY (ρ':=[s0 (.int c),s0 (.int n),s0 (.str SIGNS),s0 (.int s),some (1,.list (cs.map dE)),none,none,none]) (jE (by simp[bV,vS,eOp,aF,eC,aN,aK,aM,bOf,asB,cR,g2C,gEq,cO,noDict,hW,cM,iH,h3])) ?_
  have hs0:(0:Int)<s:=by omega
  have ba:=gQ (cK c 3) hs0
  obtain⟨a,ha⟩:=qY ba.1
  have ha':a<s:=by omega
  refine eY (ρ':=[s0 (.int c),s0 (.int n),s0 (.str SIGNS),s0 (.int s),some (1,.list (cs.map dE)),s0 (.int a),none,none]) (by
   have:0<s:=by omega
   simp[dH,eV,vS,eOp,aF,eC,aN,aK,aM,cR,g2C,iH,this,ha]) ?_
  refine eY (ρ':=[s0 (.int c),s0 (.int n),s0 (.str SIGNS),s0 (.int s),some (1,.list (cs.map dE)),s0 (.int a),some (1,.list []),none]) rfl ?_
  obtain⟨w,hw⟩ : ∃ w:Nat,w=if a=0 then 26 else 36:=⟨_,rfl⟩
  have hw1:26≤w/\w≤36:=by subst hw; split <;> omega
  let sg:Nat->Nat:=fun k=>sgn ((cK c 4+k)%(w:Int)).toNat
  have sgb : ∀ k:Nat,((cK c 4+k)%(w:Int)).toNat<w:=fun k=>by
   have:=gQ (cK c 4+k) (show(0:Int)<w by omega)
   omega
  have sg1 : ∀ k,jI (sg k)=true:=fun k=>(HL _ (by have:=sgb k; omega)).2.1
  have sg2 : ∀ k,a=0->letter (sg k)=true:=fun k h0=>(HL _ (by have:=sgb k; omega)).2.2 (by have:=sgb k; rw[if_pos h0] at hw; omega)
  refine jT (fun ρ'=>∃ (ds:List Nat) (x:L2.Slot),ρ'=[s0 (.int c),s0 (.int n),s0 (.str SIGNS),s0 (.int s),some (1,.list (ds.map dE)),s0 (.int a),some (1,.list (((cW n).map fun k=>jP (cs.set a (sg k))).map cF)),x]) ?_ ?_
  ·refine IF (n:=n) (fun i ρ'=>∃ (ds:List Nat) (x:L2.Slot),baseOk ds s/\(∀ y,ds.set a y=cs.set a y)/\ρ'=[s0 (.int c),s0 (.int n),s0 (.str SIGNS),s0 (.int s),some (1,.list (ds.map dE)),s0 (.int a),some (1,.list (((cW i).map fun k=>jP (cs.set a (sg k))).map cF)),x]) ?_ ⟨cs,none,hb,fun _=>rfl,rfl⟩ ?_ ?_
   ·exact avS (wY rfl (by omega))
   ·rintro i _ hi ⟨ds,x,hd,hset,rfl⟩
    generalize hZ:((cW i).map fun k=>jP (cs.set a (sg k)))=zs
    have hzl:zs.length=i:=by rw[← hZ]; simp
    refine⟨[s0 (.int c),s0 (.int n),s0 (.str SIGNS),s0 (.int s),some (1,.list (ds.map dE)),s0 (.int a),some (1,.list (zs.map cF)),s0 (.int i)],rfl,?_⟩
    have hcl:=hd.1
    have hix:ixN (ds.map dE).length (a:Int)=some a:=by
     unfold ixN
     rw[if_pos (by omega),if_pos (by rw[bX]; omega)]
     simp
    have ey:eV 0 .s (eOp gIx (aF 2) (eOp cR (eOp dW (aN fJ (aK (aF 0) (aK (eC (.int 4)) aM))) (aF 7)) (eOp dW (eC (.int 26)) (eOp fT (eC (.int 10)) (aN tT (aK (eOp gGt (aF 5) (eC (.int 0))) aM)))))) [s0 (.int c),s0 (.int n),s0 (.str SIGNS),s0 (.int s),some (1,.list (ds.map dE)),s0 (.int a),some (1,.list (zs.map cF)),s0 (.int i)]=some (dE (sg i)):=by
     have hb1:=gQ (cK c 4+i) (show(0:Int)<w by omega)
     have e:=Gz hb1.1 (by omega)
     show _=some (dE (sgn ((cK c 4+i)%(w:Int)).toNat))
     by_cases h0:a=0
     ·rw[if_pos h0] at hw
      subst hw
      have e:gIx (.str SIGNS) (.int ((cK c 4+i)%26))=some (dE (sgn ((cK c 4+i)%26).toNat)):=e
      simp[eV,vS,eOp,aF,eC,aN,aK,aM,dW,fT,cR,g2I,g2C,gGt,tT,iH,h0,e]
     ·rw[if_neg h0] at hw
      subst hw
      have e:gIx (.str SIGNS) (.int ((cK c 4+i)%36))=some (dE (sgn ((cK c 4+i)%36).toNat)):=e
      have h1:0<a:=by omega
      simp[eV,vS,eOp,aF,eC,aN,aK,aM,dW,fT,cR,g2I,g2C,gGt,tT,iH,h1,e]
    refine eY (ρ':=[s0 (.int c),s0 (.int n),s0 (.str SIGNS),s0 (.int s),some (1,.list ((cs.set a (sg i)).map dE)),s0 (.int a),some (1,.list (zs.map cF)),s0 (.int i)]) ?_ ?_
    ·unfold pM
     rw[ey,← hset,← TU]
     simp only[eV,vS,aF,getL,dC,zN,qX,FF,bO,hix]
     rfl
    ·have hb':=hb.set (j:=a) (sg1 i) (sg2 i)
     have ej:=ZK (cs:=cs.set a (sg i)) (by have:=hb.1; simp; omega)
     refine ED (ρ':=[s0 (.int c),s0 (.int n),s0 (.str SIGNS),s0 (.int s),some (1,.list ((cs.set a (sg i)).map dE)),s0 (.int a),some (1,.list ((zs++[jP (cs.set a (sg i))]).map cF)),s0 (.int i)]) ?_ ⟨_,.inl rfl,cs.set a (sg i),s0 (.int i),hb',fun y=>by rw[List.set_set],?_⟩
     ·have hz:(zs.map cF).length<sizeLine:=sE (by simp; omega)
      have ee:eOp uA (eC (.str "")) (aF 4) (vA [s0 (.int c),s0 (.int n),s0 (.str SIGNS),s0 (.int s),some (1,.list ((cs.set a (sg i)).map dE)),s0 (.int a),some (1,.list (zs.map cF)),s0 (.int i)])=some (.str (jP (cs.set a (sg i)))):=by
       simp only[eOp,eC,aF,vA,dC,sZ,zN,qX,FF,bO,ej]
      unfold nJ eV
      simp only[ee,bO,dX,dU,if_true,getL,zN,qX,if_pos hz]
      simp
     ·have e:((cW (i+1)).map fun k=>jP (cs.set a (sg k)))=zs++[jP (cs.set a (sg i))]:=by
       rw[List.range_succ,zL,hZ]
       rfl
      rw[e]
   ·rintro _ ⟨ds,x,_,_,rfl⟩
    exact⟨_,rfl,ds,x,rfl⟩
  rintro _ ⟨ds,x,rfl⟩
  refine⟨_,rfl,_,rfl,_,rfl,by simp,fun z m=>?_,?_⟩
  ·obtain⟨k,_,rfl⟩:=bF.mp m
   exact(hb.set (sg1 k) (sg2 k)).name hs12
  ·refine BO (fun k mk k' mk' q=>?_) Cd
   have hk:=iN.mp mk
   have hk':=iN.mp mk'
   have e:=congrArg (fun l=>l[a]?) (RH q)
   have hcl:=hb.1
   simp only[mO (show a<cs.length by omega)] at e
   have e:=Kb _ (by have:=sgb k; omega) _ (by have:=sgb k'; omega) (dZ e)
   have b1:=gQ (cK c 4+k) (show(0:Int)<w by omega)
   have b2:=gQ (cK c 4+k') (show(0:Int)<w by omega)
   have e:(cK c 4+k)%(w:Int)=(cK c 4+k')%(w:Int):=by omega
   by_cases h0:a=0
   ·rw[if_pos h0] at hw
    subst hw
    omega
   ·rw[if_neg h0] at hw
    subst hw
    omega
abbrev AB:aD:="abcdefghijklmnopqrstuvwxyz"
abbrev ABF:aD:="abcdefghijklmnopqrstuvwxyz0123456789"
theorem Th : ∀ c<128,jI c=true->(false != !(tJ ABF ⟨#[c]⟩ 0 ABF.length 1).isEmpty)=true:=by decide +kernel
theorem Ob : ∀ c<128,letter c=true->(false != !(tJ AB ⟨#[c]⟩ 0 AB.length 1).isEmpty)=true:=by decide +kernel
theorem Ju(h:jI c=true):gIn false (dE c) (.str ABF)=some (.bool true):=by
 show some (fP (false != !(tJ ABF ⟨#[c]⟩ 0 ABF.length 1).isEmpty))=_
 rw[Th c (JI h) h]
theorem Wy(h:letter c=true):gIn false (dE c) (.str AB)=some (.bool true):=by
 show some (fP (false != !(tJ AB ⟨#[c]⟩ 0 AB.length 1).isEmpty))=_
 rw[Ob c (JI (Xd h)) h]
theorem Hr:(AB++("0123456789" : aD))=ABF:=by decide +kernel
theorem Sy:DR 10 "0123456789":=⟨by decide +kernel,by decide +kernel⟩
theorem Ks:dW (.str AB) (.str "0123456789")=some (.str ABF):=by
 rw[Vo Jh Sy (by omega),Hr]
theorem UO : ∀ n:Nat,nB (fC n (.bool true))=some (fC n true)
 | 0=>rfl
 | n+1=>by
  show((nB (fC n (.bool true))).bind fun bs=>some (true::bs))=_
  rw[UO n]
  rfl
theorem JU {z:aD}(h:nameS z):jJ [.str z]=some (.bool true):=by
 obtain⟨c,r,ez,hc,hs,hl⟩:=h
 have : ∃ d,jJ [.str z]=some d/\d = .bool true:=by
  refine PP rfl ?_
  let R:aY:=[s0 (.str z)]
  have hz:z.length=z.cps.toList.length:=by simp[Str.length]
  have h1:1≤z.length:=by rw[hz,ez]; simp
  have h12:z.length≤12:=by rw[hz]; exact hl
  have el:aN cY (aK (aF 0) aM) (vS R)=some (.int z.length):=bT (ds:=[.str z]) rfl (by simp[cY]; exact oR (by omega))
  have ec:lI gLe gLe (eC (.int 1)) (aN cY (aK (aF 0) aM)) (eC (.int 12)) (vS R)=some (.bool true):=by
   unfold lI
   rw[el]
   show(if decide ((1:Int)≤(z.length:Int))=true then some (fP (decide ((z.length:Int)≤12))) else some (fP false))=_
   rw[decide_eq_true (by omega),if_pos rfl,decide_eq_true (by omega)]
  have g1:eUn (gL "str") (aF 0) (vS R)=some (.bool true):=rfl
  refine eY (ρ':=R) (jE ?_) ?_
  ·show bOr (fE (bOf _)) (fE (bOf _)) (vS R)=_
   simp only[bOr,fE,bOf,g1,ec,bO,asB]
   rfl
  refine jA (d:=.bool (true&&true)) (pX ?_ fun _=>?_) ⟨_,rfl,rfl⟩
  ·have ix:gIx (.str z) (.int 0)=some (dE c):=by
    show(if z.length≤sizeLine then(atI z.cps.toList 0).bind fun c=>some (cF ⟨#[c]⟩) else none)=_
    have e0:atI z.cps.toList 0=some c:=kU (j:=0) (by rw[ez]; rfl)
    rw[if_pos (oR (by omega)),e0]
    rfl
   exact cH (a:=dE c) (b:=.str AB) (cH (a:=.str z) (b:=.int 0) rfl rfl ix) rfl (Wy hc)
  ·have lc:=AR (cap:=[none]) (fi:=iIt (aF 0)) (T:=gB 0) (t:=gP) (f:=eOp (gIn false) (aF 0) (eOp dW (eC (.str "abcdefghijklmnopqrstuvwxyz")) (eC (.str "0123456789")))) (ρ:=vS R) (ds:=z.cps.toList.map dE) (fun _=>.bool true) rfl (by simp; simp at hl; omega) (fun d md=>by
    obtain⟨x,mx,rfl⟩:=bF.mp md
    exact⟨[some (dE x)],rfl,rfl,cH (a:=dE x) (b:=.str ABF) rfl (cH (a:=.str AB) (b:=.str "0123456789") rfl rfl Ks) (Ju (hs x mx))⟩)
   refine bT (fO lc rfl) ?_
   rw[List.map_const']
   show((nB (fC _ (.bool true))).bind fun bs=>some (fP (bs.all id)))=_
   rw[UO,bO]
   simp
 obtain⟨d,e,rfl⟩:=this
 exact e
def asI:aA->Int
 | .int i=>i
 | _=>0
theorem AY (r:List Int):(r.map aZ).map asI=r:=by
 rw[fQ]
 have:(asI∘aZ)=id:=rfl
 rw[this,tD]
theorem RZ (r:List Int):bU (r.map aZ)=true:=IW fun t m=>by
 obtain⟨i,_,rfl⟩:=bF.mp m
 rfl
theorem UI (r:List Int):cV (r.map aZ)≤1:=JT fun t m=>by
 obtain⟨i,_,rfl⟩:=bF.mp m
 simp[hW]
theorem IM (r:List Int):cO (bL r)=true:=by
 have h1:noDicts (r.map aZ)=true:=KA fun t m=>by
  obtain⟨i,_,rfl⟩:=bF.mp m
  rfl
 have h2:cV (r.map aZ)≤1:=JT fun t m=>by
  obtain⟨i,_,rfl⟩:=bF.mp m
  simp[hW]
 simp[cO,bL,noDict,h1,hW]
 omega
theorem BI {a b:List Int}(h:bL a=bL b):a=b:=by
 have h:=FD h
 exact(AY a).symm.trans ((congrArg (List.map asI) h).trans (AY b))
theorem xE (a b:List Int):cM (bL a) (bL b)=decide (a=b):=by
 rw[JC _ _ (RF a) (RF b),decide_eq_decide]
 exact⟨BI,fun e=>by rw[e]⟩
def srt (R:List (List Int)):List (List Int):=(jF (R.map fun r=>r.map aZ)).map fun k=>k.map asI
theorem JB (R:List (List Int)):(srt R).Perm R:=by
 have h:=(CQ (R.map fun r=>r.map aZ)).map fun k=>k.map asI
 rw[fQ] at h
 have e:(R.map ((fun k=>k.map asI)∘fun r=>r.map aZ))=R:=by
  have:((fun k=>k.map asI)∘fun r=>r.map aZ)=(id:List Int->List Int):=by funext r; exact AY r
  rw[this,tD]
 rw[e] at h
 exact h
theorem Ati {R:List (List Int)}{r:List Int}:r∈srt R↔r∈R:=(JB R).mem_iff
theorem Ar (R:List (List Int)):(srt R).length=R.length:=(JB R).length_eq
theorem TV (R:List (List Int)):jO (R.map bL)=some (R.map fun r=>r.map aZ):=by
 have:=QT (kss:=R.map fun r=>r.map aZ) fun k m=>by
  obtain⟨r,_,rfl⟩:=bF.mp m
  have:=UI r
  exact⟨RZ r,by omega⟩
 rw[fQ] at this
 exact this
theorem UW : ∀ (a b:List Int),a.length=b.length->gZ (a.map aZ) (b.map aZ)=true
 | [],[],_=>rfl
 | x::a,y::b,h=>UW a b (by simpa using h)
 | [],_::_,h=>by simp at h
 | _::_,[],h=>by simp at h
theorem QJ {R:List (List Int)}(hn:1≤n)(hw : ∀ r∈R,r.length=n)(hl:R.length<64):AQ [dJ R]=some (dJ (srt R)):=by
 show((jO (R.map bL)).bind fun kss=>if okT kss=true/\kss.length<64 then some (PyData.list ((jF kss).map fL)) else none)=_
 rw[TV,bO]
 have ok:okT (R.map fun r=>r.map aZ)=true:=by
  unfold okT
  rw[Ct]
  refine .inr (iC.mpr ⟨eE.mpr fun k mk=>eE.mpr fun k' mk'=>?_,eE.mpr fun k mk=>?_⟩)
  ·obtain⟨a,ma,rfl⟩:=bF.mp mk
   obtain⟨b,mb,rfl⟩:=bF.mp mk'
   exact UW a b ((hw a ma).trans (hw b mb).symm)
  ·obtain⟨a,ma,rfl⟩:=bF.mp mk
   have:=hw a ma
   cases a with
   | nil=>simp at this; omega
   | cons x r=>rfl
 rw[if_pos ⟨ok,by rw[bX]; exact hl⟩]
 unfold dJ srt
 rw[fQ]
 congr 2
 refine pG fun k mk=>?_
 obtain⟨a,_,rfl⟩:=bF.mp ((CQ _).mem_iff.mp mk)
 show _=fL (((a.map aZ).map asI).map aZ)
 rw[AY]
structure Bk (kds:List (aA×aA))(B:aD->List (List Int))(wd:aD->Nat):Prop where
 pl:plK kds=true
 at_ : ∀ t,(bG kds (.inr t)).getD (.list [])=dJ (B t)
 few : ∀ t,(B t).length<64
 pos : ∀ t,1≤wd t
 wid : ∀ t,∀ r∈B t,r.length=wd t
theorem Bk.get {kds:List (aA×aA)}{B:aD->List (List Int)}{wd:aD->Nat}(b:Bk kds B wd){fd fk:EF}{t:aD}(h1:fd ρ=some (.dict kds))(h2:fk ρ=some (.str t)):GW fd fk (oX aM) ρ=some (dJ (B t)):=by
 rw[Ij h1 h2 rfl rfl b.pl,b.at_]
theorem oB (c:Int)(n:Nat)(h:0<n):cR (.int c) (.int n)=some (.int (c%n)):=by
 show(if 0<(n:Int) then some (aZ (c%(n:Int))) else none)=_
 rw[if_pos (by omega)]
theorem Fl (c:Int)(n:Nat)(h:0<n)(h2:n<1000:=by omega):yW (.int c) (.int n)=some (.int (c / n)):=by
 show(if 0<(n:Int)/\(n:Int)<1073741824 then some (aZ (c / (n:Int))) else none)=_
 rw[if_pos (by omega)]
theorem Ez {b:Int}(h:a.natAbs<2 ^ 64):fT (.int a) (.int b)=some (.int (a*b)):=by
 show(if (a.natAbs<2 ^ 64 \/ b.natAbs<2 ^ 64) \/ (a.natAbs<2 ^ 1000/\b.natAbs<2 ^ 1000) then some (aZ (a*b)) else none)=_
 rw[if_pos (.inl (.inl h))]
theorem mul_r {b:Int}(h:b.natAbs<2 ^ 64):fT (.int a) (.int b)=some (.int (a*b)):=by
 show(if (a.natAbs<2 ^ 64 \/ b.natAbs<2 ^ 64) \/ (a.natAbs<2 ^ 1000/\b.natAbs<2 ^ 1000) then some (aZ (a*b)) else none)=_
 rw[if_pos (.inl (.inr h))]
theorem Ec {b:Int}(h:a.natAbs<2 ^ 200)(h2:b.natAbs<2 ^ 200):fT (.int a) (.int b)=some (.int (a*b)):=by
 show(if (a.natAbs<2 ^ 64 \/ b.natAbs<2 ^ 64) \/ (a.natAbs<2 ^ 1000/\b.natAbs<2 ^ 1000) then some (aZ (a*b)) else none)=_
 have hp:(2:Nat) ^ 200≤2 ^ 1000:=Nat.pow_le_pow_right (by decide) (by decide)
 rw[if_pos (.inr ⟨gG h hp,gG h2 hp⟩)]
theorem IH {k:Nat}(h:k≤100):wJ (.int 10) (.int k)=some (.int (10 ^ k)):=by
 show(if 0≤(k:Int)/\(k:Int)≤1000000/\(10:Int).natAbs<2 ^ 64 then some (aZ (10 ^ (k:Int).toNat)) else none)=_
 rw[if_pos ⟨by omega,by omega,by decide⟩]
 rfl
theorem oJ {a b:BF}(h:a ρ=some x)(h2:x=false->b ρ=some y):bOr a b ρ=some (x||y):=by
 unfold bOr
 rw[h]
 cases x with
 | true=>rfl
 | false=>exact h2 rfl
theorem kS(h:f ρ=some (.bool x)):fE (bOf f) ρ=some (!x):=by
 unfold fE
 rw[lY h]
 rfl
theorem Pm (R:List (List Int)):noDicts (R.map bL)=true:=KA fun t m=>by
 obtain⟨r,_,rfl⟩:=bF.mp m
 have:=IM r
 unfold cO at this
 exact(iC.mp this).1
theorem Ko {j:Nat}(h:j<n):ixN n (j:Int)=some j:=by
 unfold ixN
 simp
 omega
theorem Vi {ρ:aY}{P:Out->Prop}{i:Nat}{g:EF}{d kd:aA}{key:aL}{kds:List (aA×aA)}(h:f (vS ρ)=some d)(hg:tX i ρ=some kds)(hk:g (vS ρ)=some kd)(ha:bR kd=some key)(hn:bG kds key=none)(hl:kds.length<100000)(k:P (.nx (ρ.set i (some (2,.dict (kds++[(kD key,d)])))))):Goes (uG i .s f .s g) ρ P:=⟨_,by
 have e1:eV 1 .s f ρ=some d:=h
 have e2:eV 0 .s g ρ=some kd:=hk
 unfold uG
 rw[e1,bO,hg,bO,e2,bO,ha,bO,if_pos ⟨hn,by have:=oR (n:=100000) (by omega); omega⟩],k⟩
theorem kO {np:Nat}{body:SF}{d:aA}(hl:ds.length=np)(h:Goes body (ds.map (fun d=>some (0,d))++fC (n - np) none) fun o=>o = .rt d):fnD np n body ds=some d:=by
 obtain⟨o,e,rfl⟩:=h
 exact OV hl e
theorem RT {α:Type}(f:α->Bool) : ∀ xs:List α,nB (xs.map fun x=>.bool (f x))=some (xs.map f)
 | []=>rfl
 | x::xs=>by
  show((nB (xs.map fun x=>.bool (f x))).bind fun bs=>some (f x::bs))=_
  rw[RT f xs]
  rfl
theorem AN {α:Type}(f:α->Bool)(xs:List α):nC [.list (xs.map fun x=>.bool (f x))]=some (.bool (xs.all f)):=by
 show((nB (xs.map fun x=>.bool (f x))).bind fun bs=>some (fP (bs.all id)))=_
 rw[RT,bO,List.all_map]
 rfl
theorem VJ : ∀ zs:List aD,nG (zs.map cF)=some (zs.map jM)
 | []=>rfl
 | z::zs=>by
  show((bR (.str z)).bind fun k=>(nG (zs.map cF)).bind fun ks=>some (k::ks))=_
  rw[VJ zs]
  rfl
def eJ (t:aD×Nat):aA:=.tuple [.str t.1,.int t.2]
def GG (t:aD×Nat):Prop:=nameS t.1/\1≤t.2/\t.2≤6
def tlE (d:aA):Option aA:=iD (aN sL (aK (aF 0) aM)) (iD (aN jJ (aK (eOp gIx (aF 0) (eC (.int 0))) aM)) (aN oT (aK (eOp gIx (aF 0) (eC (.int 1))) aM))) [some d]
theorem Bdv:bV .s (bOr (fE (bOf (eUn (gL "list") (aF 0)))) (bOf (eOp gGt (aN cY (aK (aF 0) aM)) (eC (.int 12))))) [s0 (.list ds)]=some (decide (12<ds.length)):=by
 have e:eOp gGt (aN cY (aK (aF 0) aM)) (eC (.int 12)) (vS [s0 (.list ds)])=some (.bool (decide (12<ds.length))):=by
  refine cH (a:=.int ds.length) (b:=.int 12) (bT (ds:=[.list ds]) rfl rfl) rfl ?_
  show some (fP (decide ((ds.length:Int) > 12)))=_
  congr 2
  rw[decide_eq_decide]
  omega
 exact oJ (x:=false) (kS (x:=true) rfl) (fun _=>lY e)
theorem Ha(hl:ds.length≤12)(o:aA->Bool)(ho : ∀ d∈ds,tlE d=some (.bool (o d))):bV .s (fE (bOf (aN nC (aK (eLC [none] (iIt (aF 0)) (gB 0) gP (iD (aN sL (aK (aF 0) aM)) (iD (aN jJ (aK (eOp gIx (aF 0) (eC (.int 0))) aM)) (aN oT (aK (eOp gIx (aF 0) (eC (.int 1))) aM))))) aM)))) [s0 (.list ds)]=some (!(ds.all o)):=by
 have lc:=BC (cap:=[none]) (fi:=iIt (aF 0)) (T:=gB 0) (t:=gP) (f:=iD (aN sL (aK (aF 0) aM)) (iD (aN jJ (aK (eOp gIx (aF 0) (eC (.int 0))) aM)) (aN oT (aK (eOp gIx (aF 0) (eC (.int 1))) aM)))) (ρ:=vS [s0 (.list ds)]) (xs:=ds) (q:=id) (fun _=>true) (fun d=>.bool (o d)) (by rw[tD]; exact oQ rfl) (by omega) (fun d md=>⟨[some d],rfl,rfl,fun _=>ho d md⟩)
 rw[tH.mpr (by simp)] at lc
 exact kS (bT (fO lc rfl) (AN o ds))
theorem Nd (i:Int):oT [.int i]=some (.bool (decide (1≤i/\i≤6))):=by
 show fnD 1 1 VZ [.int i]=_
 refine kO rfl (jA (d:=.bool (decide (1≤i/\i≤6))) ?_ rfl)
 have:lI gLe gLe (eC (.int 1)) (aF 0) (eC (.int 6)) (vS [s0 (.int i)])=some (.bool (decide (1≤i/\i≤6))):=by
  show(if decide (1≤i)=true then some (fP (decide (i≤6))) else some (.bool false))=_
  by_cases h:1≤i
  ·rw[if_pos (by simpa using h)]
   simp[h]
  ·rw[if_neg (by simpa using h)]
   simp[h]
 exact pX (x:=true) (bT (ds:=[.int i]) rfl rfl) fun _=>this
theorem Kg {a b:aA}(h1:jJ [a]=some (.bool x))(h2:x=true->oT [b]=some (.bool y)):tlE (.tuple [a,b])=some (.bool (x&&y)):=
 pX (x:=true) (bT (ds:=[.tuple [a,b]]) rfl rfl) fun _=>pX (bT (ds:=[a]) rfl h1) fun z=>bT (ds:=[b]) rfl (h2 z)
theorem Kt {t:aD×Nat}(h:GG t):tlE (eJ t)=some (.bool true):=by
 obtain⟨h1,h2,h3⟩:=h
 refine Kg (x:=true) (y:=true) (JU h1) fun _=>(Nd t.2).trans ?_
 rw[decide_eq_true (by omega)]
theorem QR : ∀ (ks acc:List aL),(ks.foldl gY acc).length≤acc.length+ks.length
 | [],acc=>by simp
 | k::ks,acc=>by
  rw[pI]
  have h:=QR ks (gY acc k)
  have h2:(gY acc k).length≤acc.length+1:=by
   unfold gY
   split <;> simp
  simp only[eD]
  omega
theorem YJ : ∀ (ks acc:List aL),(ks.foldl gY acc).length=acc.length+ks.length->ks.Nodup /\ ∀ k∈ks,k∉acc
 | [],acc,_=>⟨.nil,fun k m=>by simp at m⟩
 | k::ks,acc,h=>by
  rw[pI] at h
  have h1:=QR ks (gY acc k)
  simp only[eD] at h
  by_cases c:k∈acc
  ·have:gY acc k=acc:=if_pos c
   rw[this] at h1
   rw[this] at h
   omega
  ·have e:gY acc k=acc++[k]:=if_neg c
   rw[e] at h
   obtain⟨h2,h3⟩:=YJ ks (acc++[k]) (by simp; omega)
   refine⟨dS.mpr ⟨fun m=>h3 k m (by simp),h2⟩,fun x m=>?_⟩
   rcases cI.mp m with rfl | m
   ·exact c
   ·exact fun z=>h3 x m (by simp[z])
theorem Vg (ks:List aL):(dN ks).length=ks.length↔ks.Nodup:=by
 have hm : ∀ x,x∈dN ks↔x∈ks:=fun x=>by unfold dN; rw[UD]; simp
 have nd:(dN ks).Nodup:=RN (by simp)
 exact⟨fun h=>(YJ ks [] (by rw[Cj,Nat.zero_add]; exact h)).1,fun h=>Ww nd h hm⟩
theorem Vk {ts:List (aD×Nat)}(hl:ts.length≤12)(ht : ∀ t∈ts,GG t) : ∃ b:Bool,qJ [.list (ts.map eJ)]=some (.bool b)/\(b=true↔(ts.map (·.1)).Nodup):=by
 refine⟨decide ((dN ((ts.map (·.1)).map jM)).length=ts.length),?_,?_⟩
 ·refine kO rfl (eY (jE (Bdv.trans (by rw[decide_eq_false (by rw[bX]; omega)]))) ?_)
  refine eY (jE ((Ha (by rw[bX]; omega) (fun _=>true) fun d m=>?_).trans ?_)) ?_
  ·obtain⟨t,mt,rfl⟩:=bF.mp m
   exact Kt (ht t mt)
  ·rw[show(ts.map eJ).all (fun _=>true)=true by simp]
   rfl
  ·have lc:=BC (cap:=[none]) (fi:=iIt (aF 0)) (T:=gB 0) (t:=gP) (f:=eOp gIx (aF 0) (eC (.int 0))) (ρ:=vS [s0 (.list (ts.map eJ))]) (xs:=ts) (q:=eJ) (fun _=>true) (fun t=>.str t.1) (oQ rfl) (by omega) (fun t mt=>⟨[some (eJ t)],rfl,rfl,fun _=>rfl⟩)
   rw[tH.mpr (by simp)] at lc
   refine jA (d:=.bool (decide ((dN ((ts.map (·.1)).map jM)).length=ts.length))) ?_ rfl
   refine cH (a:=.int ((dN ((ts.map (·.1)).map jM)).length)) (b:=.int ts.length) (bT (fO lc rfl) ?_) (bT (ds:=[.list (ts.map eJ)]) rfl ?_) ?_
   ·show((nG (ts.map fun t=>cF t.1)).bind fun ks=>if ks.length≤4000 then some (aZ (dN ks).length) else none)=_
    rw[show(ts.map fun t=>cF t.1)=(ts.map (·.1)).map cF by rw[fQ]; rfl,VJ,bO,if_pos (by simp; omega)]
   ·show some (aZ (ts.map eJ).length)=_
    rw[bX]
   ·show some (fP (decide (((dN ((ts.map (·.1)).map jM)).length:Int)=ts.length)))=_
    congr 2
    rw[decide_eq_decide]
    omega
 ·rw[decide_eq_true_iff]
  have:=Vg ((ts.map (·.1)).map jM)
  rw[bX,bX] at this
  rw[this]
  constructor
  ·intro h
   exact(pF.mp h).imp fun h z=>h (by rw[z])
  ·intro h
   exact pF.mpr (h.imp fun h z=>h (Sum.inr.inj z))
end Aw
namespace L2
open PySem PySem.Spec PyProof.Rows PySem.NumText
def tx (l:List Nat):aD:=⟨l.toArray⟩
theorem Hh (l:List Nat):(tx l).length=l.length:=by simp[tx,Str.length]
def OR (n:Nat):List Nat:=(Nat.toDigits 10 n).map Char.toNat
def Cy (i:Int):List Nat:=if i<0 then 45::OR i.natAbs else OR i.natAbs
def jn:List (List Nat)->List Nat
 | []=>[]
 | [w]=>w
 | w::v::r=>w++32::jn (v::r)
def good (w:List Nat):Prop:=∃ v:Int,v.natAbs<10 ^ 70/\w=Cy v
def plain (w:List Nat):Prop:=∀ c∈w,c<128
end L2
namespace Aw
open PySem L2
variable {w i:Nat}{d:aA}{r:List Int}{f:aB}{ρ:List (Option aA)}{A:List (aD×aA)}{z x qual:aD}{ts:List (aD×Nat)}{fa:AF}{ds:List aA}{R:List (List Int)}{K:aH}{od an:Option aB}{sl:Array (Option aE)}{oc dc pm cd ct:aE}{mg:aD->Option aE}{ps:List aD}{st:bW}
def nd0:aA->Prop
 | .dict k=>k=[]
 | _=>True
def ZG:aA->Bool
 | .int _=>true
 | _=>false
theorem Vr (d:aA)(hd:nd0 d):qH [d]=some (.bool (ZG d)):=by
 cases d with
 | dict k=>cases(show k=[] from hd); rfl
 | _=>rfl
theorem len_str {w:List Nat}(hl:w.length≤100000):cY [.str (tx w)]=some (.int w.length):=by
 show(if (tx w).length≤sizeLine then some (aZ ((tx w).length:Nat)) else none)=_
 rw[Hh,if_pos (oR hl)]
theorem Je {c n:Int}(h:0<n):cR (.int c) (.int n)=some (.int (c%n)):=by
 show(if 0<n then some (aZ (c%n)) else none)=_
 rw[if_pos h]
def qO:aA->Bool
 | .int i=>decide (i.natAbs<10 ^ 70)
 | _=>false
theorem Fe:fT (.int (10 ^ 60)) (.int (10 ^ 10))=some (.int (10 ^ 70)):=(Ec (by decide) (by decide)).trans (congrArg (fun x=>some (aZ x)) (by decide +kernel:(10:Int) ^ 60*10 ^ 10=10 ^ 70))
theorem Ve (d:aA)(hd:nd0 d):vB [d]=some (.bool (qO d)):=by
 refine kO rfl ?_
 have hw:aN qH (aK (aF 0) aM) (vS [s0 d])=some (.bool (ZG d)):=bT (ds:=[d]) rfl (Vr d hd)
 cases d with
 | int i=>
  refine jA (d:=.bool (true&&qO (.int i))) (pX hw fun _=>?_) rfl
  refine cH (a:=.int (if i<0 then -i else i)) (b:=.int (10 ^ 70)) (bT (ds:=[.int i]) rfl rfl) (cH (a:=.int (10 ^ 60)) (b:=.int (10 ^ 10)) (cH (a:=.int 10) (b:=.int 60) rfl rfl (IH (k:=60) (by omega))) (cH (a:=.int 10) (b:=.int 10) rfl rfl (IH (k:=10) (by omega))) Fe) ?_
  show some (fP (decide ((if i<0 then -i else i)<10 ^ 70)))=some (fP (decide (i.natAbs<10 ^ 70)))
  congr 2
  rw[decide_eq_decide]
  split <;> omega
 | _=>exact jA (d:=.bool (false&&true)) (pX hw fun h=>nomatch h) rfl
def wI:aA->Bool
 | .tuple ds=>decide (1≤ds.length/\ds.length≤6)&&ds.all qO
 | _=>false
theorem YL(h : ∀ ds,d = .tuple ds->ds.length≤1000 /\ ∀ x∈ds,nd0 x)(h0:nd0 d):mC [d]=some (.bool (wI d)):=by
 refine kO rfl ?_
 cases d with
 | tuple ds=>
  obtain⟨hl,hn⟩:=h ds rfl
  let R:aY:=[s0 (.tuple ds)]
  have el:aN cY (aK (aF 0) aM) (vS R)=some (.int ds.length):=bT (ds:=[.tuple ds]) rfl (IG ds)
  have ec:lI gLe gLe (eC (.int 1)) (aN cY (aK (aF 0) aM)) (eC (.int 6)) (vS R)=some (.bool (decide (1≤ds.length/\ds.length≤6))):=by
   unfold lI
   rw[el]
   show(if decide ((1:Int)≤(ds.length:Int))=true then some (fP (decide ((ds.length:Int)≤6))) else some (fP false))=_
   by_cases h1:1≤ds.length
   ·rw[decide_eq_true (by omega),if_pos rfl]
    congr 2
    rw[decide_eq_decide]
    omega
   ·rw[decide_eq_false (by omega),if_neg (by simp),decide_eq_false (by omega)]
  have t1:=oJ (a:=fE (bOf (eUn (gL "tuple") (aF 0)))) (b:=fE (bOf (lI gLe gLe (eC (.int 1)) (aN cY (aK (aF 0) aM)) (eC (.int 6))))) (ρ:=vS R) (kS (x:=true) rfl) (fun _=>kS ec)
  show Goes _ _ fun o=>o = .rt (.bool (decide (1≤ds.length/\ds.length≤6)&&ds.all qO))
  cases hb:decide (1≤ds.length/\ds.length≤6) with
  | false=>
   rw[hb] at t1
   exact AX (wX t1 (jA (d:=.bool false) rfl ⟨_,rfl,rfl⟩))
  | true=>
   rw[hb] at t1
   refine eY (jE t1) ?_
   have lc:=AR (cap:=[none]) (fi:=iIt (aF 0)) (T:=gB 0) (t:=gP) (f:=aN vB (aK (aF 0) aM)) (ρ:=vS R) (ds:=ds) (fun d=>.bool (qO d)) (Kr rfl) (by omega) (fun d md=>⟨[some d],rfl,rfl,bT (ds:=[d]) rfl (Ve d (hn d md))⟩)
   exact jA (d:=.bool (true&&ds.all qO)) (bT (fO lc rfl) (AN qO ds)) rfl
 | dict k=>cases(show k=[] from h0); exact AX (wX rfl (jA (d:=.bool false) rfl ⟨_,rfl,rfl⟩))
 | _=>exact AX (wX rfl (jA (d:=.bool false) rfl ⟨_,rfl,rfl⟩))
def RwG (r:List Int):Prop:=1≤r.length/\r.length≤6 /\ ∀ v∈r,v.natAbs<10 ^ 70
theorem RwG.b(h:RwG r):wI (bL r)=true:=by
 show(decide (1≤(r.map aZ).length/\(r.map aZ).length≤6)&&(r.map aZ).all qO)=true
 rw[bX,decide_eq_true ⟨h.1,h.2.1⟩,Bool.true_and,eE]
 intro d m
 obtain⟨v,mv,rfl⟩:=bF.mp m
 exact decide_eq_true (h.2.2 v mv)
theorem RwG.row(h:RwG r):mC [bL r]=some (.bool true):=by
 rw[YL (d:=bL r) (fun ds e=>by cases e; exact⟨by rw[bX]; have:=h.2.1; omega,fun x m=>by obtain⟨v,_,rfl⟩:=bF.mp m; trivial⟩) jU,h.b]
theorem PF {f:EF}{i:Int}(h:f ρ=some (.int i)):oS f ρ=some (some i):=by
 unfold oS
 rw[h]
 rfl
def kdS (p:aD×aA):aA×aA:=(.str p.1,p.2)
theorem Ls(h:z∉A.map (·.1)):putD (A.map kdS) (.inr z) d=(A++[(z,d)]).map kdS:=by
 unfold putD
 rw[if_neg]
 ·simp[kdS,kD]
 ·intro q
  obtain⟨kd,m,e⟩:=Co.mp q
  obtain⟨p,mp,rfl⟩:=bF.mp m
  have:=of_decide_eq_true e
  simp[kdS,bR] at this
  exact h (bF.mpr ⟨p,mp,this⟩)
theorem VB : ∀ (M A:List (aD×aA)),((A++M).map (·.1)).Nodup->rT (M.map fun p=>(jM p.1,p.2)) (A.map kdS)=(A++M).map kdS
 | [],A,_=>by simp[rT]
 | p::M,A,h=>by
  show rT (M.map fun p=>(jM p.1,p.2)) (putD (A.map kdS) (.inr p.1) p.2)=_
  have hn:p.1∉A.map (·.1):=fun m=>by
   rw[zL] at h
   exact(jV.mp h).2.2 p.1 m p.1 (by simp) rfl
  rw[Ls hn,VB M (A++[(p.1,p.2)]) (by simpa using h)]
  simp
theorem sI : ∀ {A:List (aD×aA)},(A.map (·.1)).Nodup->(z,d)∈A->bG (A.map kdS) (.inr z)=some d
 | [],_,m=>by simp at m
 | p::A,nd,m=>by
  rw[dC,dS] at nd
  unfold bG
  rw[dC,gH]
  rcases cI.mp m with e | m
  ·rw[← e]
   simp[kdS,bR]
  ·have hne:p.1≠z:=fun e=>nd.1 (bF.mpr ⟨(z,d),m,e.symm⟩)
   have:=sI nd.2 m
   unfold bG at this
   simp only[kdS,bR,vP,Sum.inr.injEq,hne,decide_false]
   exact this
theorem CP : ∀ {A:List (aD×aA)},z∉A.map (·.1)->bG (A.map kdS) (.inr z)=none
 | [],_=>rfl
 | p::A,h=>by
  have h':z≠p.1/\z∉A.map (·.1):=by simpa using h
  have:=CP h'.2
  unfold bG at this ⊢
  rw[dC,gH]
  simp only[kdS,bR,vP,Sum.inr.injEq,h'.1.symm,decide_false]
  exact this
theorem rV (A:List (aD×aA)):plK (A.map kdS)=true:=by cases A <;> rfl
theorem BG(h : ∀ p∈A,nameS p.1):((A.map kdS).all fun kd=>cQ kd.1)=true:=eE.mpr fun d m=>by
 obtain⟨p,mp,rfl⟩:=bF.mp m
 obtain⟨_,_,_,_,h2,_⟩:=h p mp
 exact Hu h2
theorem xJ (A:List (aD×aA)):(A.map kdS).map (·.1)=(A.map (·.1)).map cF:=by
 rw[fQ,fQ]
 rfl
theorem IS(h : ∀ p∈A,nameS p.1)(hl:A.length<64):uP [.dict (A.map kdS)]=some (.list ((cT (A.map (·.1))).map cF)):=by
 show((rD ((A.map kdS).map (·.1))).bind fun is=>if (plK (A.map kdS)&&(A.map kdS).all fun kd=>cQ kd.1)=true/\is.length<64 then some (PyData.list ((cT is).map cF)) else none)=_
 rw[xJ,SG,bO,if_pos ⟨by rw[rV,BG h]; rfl,by rw[bX]; exact hl⟩]
abbrev bY:=aD×Nat×List (List Int)
def rwE (r:List Int):aA×aA:=(bL r,.bool true)
def dtD (R:List (List Int)):aA:=.dict ((.none,.none)::R.map rwE)
def wdT (t:bY):aD×aA:=(t.1,.int t.2.1)
def hdT (t:bY):aD×aA:=(t.1,dtD t.2.2)
def bkD (L:List bY):aA:=bZ "Book" (.dict ((L.map wdT).map kdS)) (.dict ((L.map hdT).map kdS))
structure RsG (w:Nat)(R:List (List Int)):Prop where
 len:R.length≤59
 rw : ∀ r∈R,r.length=w/\RwG r
 nd:R.Nodup
structure BkG (L:List bY):Prop where
 len:L.length≤12
 nm : ∀ t∈L,nameS t.1
 wd : ∀ t∈L,1≤t.2.1/\t.2.1≤6
 rs : ∀ t∈L,RsG t.2.1 t.2.2
 nd:(L.map (·.1)).Nodup
theorem BW (L:List bY):(L.map wdT).map (·.1)=L.map (·.1):=by rw[fQ]; rfl
theorem QZ (L:List bY):(L.map hdT).map (·.1)=L.map (·.1):=by rw[fQ]; rfl
def t3 (t:aD×Nat):bY:=(t.1,t.2,[])
theorem VD : ∀ ts:List (aD×Nat),rE (ts.map eJ)=some (((ts.map t3).map wdT).map fun p=>(jM p.1,p.2))
 | []=>rfl
 | t::ts=>by
  show((rE (ts.map eJ)).bind fun r=>some ((jM t.1,aZ t.2)::r))=_
  rw[VD ts]
  rfl
structure TsG (ts:List (aD×Nat)):Prop where
 len:ts.length≤12
 tb : ∀ t∈ts,GG t
 nd:(ts.map (·.1)).Nodup
theorem BV (ts:List (aD×Nat)):(ts.map t3).map (·.1)=ts.map (·.1):=by rw[fQ]; rfl
theorem TsG.bk(h:TsG ts):BkG (ts.map t3):=by
 refine⟨by rw[bX]; exact h.len,fun t m=>?_,fun t m=>?_,fun t m=>?_,by rw[BV]; exact h.nd⟩
 all_goals obtain⟨t,mt,rfl⟩:=bF.mp m
 ·exact(h.tb t mt).1
 ·exact(h.tb t mt).2
 ·exact⟨by simp[t3],fun r m=>by simp[t3] at m,.nil⟩
theorem Av(h:TsG ts)(z:Option aD):sS z [.list (ts.map eJ)]=some (bkD (ts.map t3)):=by
 obtain⟨b,eb,hb⟩:=Vk h.len h.tb
 rw[hb.mpr h.nd] at eb
 have ed:rU [.list (ts.map eJ)]=some (.dict (((ts.map t3).map wdT).map kdS)):=by
  show((rE (ts.map eJ)).bind fun ps=>some (PyData.dict (rT ps [])))=_
  rw[VD,bO]
  have:=VB ((ts.map t3).map wdT) [] (by rw[List.nil_append,BW,BV]; exact h.nd)
  rw[List.map_nil,List.nil_append] at this
  rw[this]
 unfold sS wZ
 show((qJ [.list (ts.map eJ)]).bind _)=_
 rw[eb,bO]
 show((rU [.list (ts.map eJ)]).bind _)=_
 rw[ed,bO]
 have c1 : ∀ kd∈((ts.map t3).map wdT).map kdS,dU kd.2=true:=fun kd m=>by
  obtain⟨p,mp,rfl⟩:=bF.mp m
  obtain⟨t,_,rfl⟩:=bF.mp mp
  rfl
 have c2:((((ts.map t3).map wdT).map kdS).map (·.1)).Nodup:=by
  rw[xJ,BW,BV]
  exact pF.mpr (h.nd.imp fun h z=>h (PyData.str.inj z))
 have c3:(((ts.map t3).map wdT).map kdS).length<sizeLine:=by
  rw[bX,bX,bX]
  have:=h.len
  exact sE (by omega)
 refine(if_pos ⟨c1,c2,c3⟩).trans ?_
 unfold bkD tY
 congr 3
 simp[kdS,hdT,wdT,t3,dtD]
theorem rJ (L:List bY):iQ "Book" (bkD L)=some (.dict ((L.map wdT).map kdS),.dict ((L.map hdT).map kdS)):=xN _ _ _
theorem HX (L:List bY):oE "Book" (bkD L)=some (.dict ((L.map wdT).map kdS)):=by unfold oE; rw[rJ]; rfl
theorem Sm (L:List bY):gO "Book" (bkD L)=some (.dict ((L.map hdT).map kdS)):=by unfold gO; rw[rJ]; rfl
theorem rX {fo:EF}{L:List bY}(h:fo ρ=some (bkD L))(h2:fa ρ=some ds):fY "Book" fo fa ρ=some (bkD L::ds):=by
 unfold fY
 rw[h,bO,rJ]
 show((fa ρ).bind fun ds=>some (bkD L::ds))=_
 rw[h2]
 rfl
theorem Aa (R:List (List Int)):(R.map rwE).map (·.1)=R.map bL:=by
 rw[fQ]
 rfl
theorem Ma(hw:1≤w)(h:RsG w R):BD [dtD R]=some (dJ (srt R)):=by
 have e:=QJ (R:=R) (n:=w) hw (fun r m=>(h.rw r m).1) (by have:=h.len; omega)
 show((jO ((R.map rwE).map (·.1))).bind fun kss=>if okT kss=true/\kss.length<64 then some (PyData.list ((jF kss).map fL)) else none)=_
 rw[Aa]
 exact e
section
variable {L:List bY}(h:BkG L)
include h
theorem Fc : ∀ p∈L.map wdT,nameS p.1:=fun p m=>by
 obtain⟨t,mt,rfl⟩:=bF.mp m
 exact h.nm t mt
theorem ZM {t:bY}(m:t∈L):bG ((L.map wdT).map kdS) (.inr t.1)=some (.int t.2.1):=sI (by rw[BW]; exact h.nd) (bF.mpr ⟨t,m,rfl⟩)
theorem Ah {t:bY}(m:t∈L):bG ((L.map hdT).map kdS) (.inr t.1)=some (dtD t.2.2):=sI (by rw[QZ]; exact h.nd) (bF.mpr ⟨t,m,rfl⟩)
theorem Ni (z:Option aD):yR z [bkD L]=some (.list ((cT (L.map (·.1))).map cF)):=by
 refine kO rfl (jA (d:=.list ((cT (L.map (·.1))).map cF)) (bT (fO (f:=eUn (oE "Book") (aF 0)) (g:=aM) (HX L) rfl) ?_) rfl)
 have:=IS (Fc h) (by have:=h.len; simp; omega)
 rw[BW] at this
 exact this
theorem ZH (z:Option aD){t:bY}(m:t∈L):qK z [bkD L,.str t.1]=some .none:=by
 have e1:aN jJ (aK (aF 1) aM) (vS [s0 (bkD L),s0 (.str t.1)])=some (.bool true):=bT (ds:=[.str t.1]) rfl (JU (h.nm t m))
 have e2:eOp (gIn true) (aF 1) (eUn (oE "Book") (aF 0)) (vS [s0 (bkD L),s0 (.str t.1)])=some (.bool false):=by
  refine cH (a:=.str t.1) (b:=.dict ((L.map wdT).map kdS)) rfl (HX L) ?_
  show(if plK ((L.map wdT).map kdS)=true then(bR (.str t.1)).bind fun k=>some (fP (true != (bG ((L.map wdT).map kdS) k).isSome)) else _)=_
  rw[if_pos (rV _)]
  show some (fP (true != (bG ((L.map wdT).map kdS) (.inr t.1)).isSome))=_
  rw[ZM h m]
  rfl
 show fnD 2 2 (DM z) [bkD L,.str t.1]=_
 have:DM z [s0 (bkD L),s0 (.str t.1)]=some (.nx [s0 (bkD L),s0 (.str t.1)]):=jE (oJ (x:=false) (y:=false) (kS e1) fun _=>lY e2)
 show outD (DM z [s0 (bkD L),s0 (.str t.1)])=_
 rw[this]
 rfl
theorem Tf {F:FX}{ρ:aY}{G:SF}{P:Out->Prop}{z:Option aD}(e1:fa (vS ρ)=some ds)(e2:F z ds=some .none)(k:Goes G ρ P):Goes (bN (oK 0 .s (aN (F z) fa)) G) ρ P:=by
 refine eY (ρ':=ρ) ?_ k
 have e:eV 0 .s (aN (F z) fa) ρ=some .none:=bT e1 e2
 unfold oK
 rw[e]
 rfl
theorem Jt (z:Option aD){t:bY}(m:t∈L):vD z [bkD L,.str t.1]=some (dJ (srt t.2.2)):=by
 refine kO rfl (Tf h (rX (ds:=[.str t.1]) rfl rfl) (ZH h z m) (jA (d:=dJ (srt t.2.2)) (bT (ds:=[dtD t.2.2]) (fO (g:=aM) (cH (a:=.dict ((L.map hdT).map kdS)) (b:=.str t.1) (Sm L) rfl (Ah h m)) rfl) (Ma (h.wd t m).1 (h.rs t m))) rfl))
theorem Jr (z:Option aD){t:bY}(m:t∈L)(hr:RwG r)(hl:r.length=t.2.1):hG z [bkD L,.str t.1,bL r]=some .none:=by
 show outD (DL z [s0 (bkD L),s0 (.str t.1),s0 (bL r)])=_
 have t1:bV .s (bOr (fE (bOf (aN mC (aK (aF 2) aM)))) (bOf (eOp gNe (aN cY (aK (aF 2) aM)) (eOp gIx (eUn (oE "Book") (aF 0)) (aF 1))))) [s0 (bkD L),s0 (.str t.1),s0 (bL r)]=some false:=by
  refine oJ (x:=false) (y:=false) (kS (bT (ds:=[bL r]) rfl hr.row)) fun _=>lY (cH (a:=.int r.length) (b:=.int t.2.1) (bT (ds:=[bL r]) rfl ((IG _).trans (by rw[bX]))) (cH (a:=.dict ((L.map wdT).map kdS)) (b:=.str t.1) (HX L) rfl (ZM h m)) ?_)
  show some (fP (!(cM (.int r.length) (.int t.2.1))))=_
  rw[hl]
  simp[cM]
 have:DL z [s0 (bkD L),s0 (.str t.1),s0 (bL r)]=some (.nx [s0 (bkD L),s0 (.str t.1),s0 (bL r)]):=by
  unfold DL
  have e:eV 0 .s (aN (qK z) (fY "Book" (aF 0) (aK (aF 1) aM))) [s0 (bkD L),s0 (.str t.1),s0 (bL r)]=some .none:=bT (rX (ds:=[.str t.1]) rfl rfl) (ZH h _ m)
  unfold bN oK
  rw[e]
  exact jE t1
 rw[this]
 rfl
end
theorem BK : ∀ {L:List bY} {t:bY},(L.map (·.1)).Nodup->t∈L->L.find? (fun x=>decide (x.1=t.1))=some t
 | [],t,_,m=>by simp at m
 | x::L,t,nd,m=>by
  rw[dC,dS] at nd
  rw[gH]
  rcases cI.mp m with rfl | m
  ·simp
  ·have:x.1≠t.1:=fun e=>nd.1 (by rw[e]; exact bF.mpr ⟨t,m,rfl⟩)
   simp only[this,decide_false]
   exact BK nd.2 m
theorem OU {L:List bY}(h:BkG L){t:bY}(m:t∈L) : ∀ x∈L,x.1=t.1->x=t:=fun x mx e=>by
 have h1:=BK h.nd m
 have h2:=BK h.nd mx
 rw[e] at h2
 exact dZ (h2.symm.trans h1)
def chR (z:aD)(R:List (List Int))(t:bY):bY:=if t.1=z then(t.1,t.2.1,R) else t
theorem DP (z:aD)(R:List (List Int))(t:bY):(chR z R t).1=t.1:=by unfold chR; split <;> rfl
theorem EA (z:aD)(R:List (List Int))(t:bY):(chR z R t).2.1=t.2.1:=by unfold chR; split <;> rfl
theorem xI{t:bY}(e:t.1=z):chR z R t=(t.1,t.2.1,R):=if_pos e
theorem uW{t:bY}(e:t.1≠z):chR z R t=t:=if_neg e
theorem Nh (L:List bY)(z:aD)(R:List (List Int)):(L.map (chR z R)).map (·.1)=L.map (·.1):=by
 rw[fQ]
 exact pG fun t _=>DP z R t
theorem Ur (L:List bY)(z:aD)(R:List (List Int)):(L.map (chR z R)).map (fun t=>(t.1,t.2.1))=L.map (fun t=>(t.1,t.2.1)):=by
 rw[fQ]
 exact pG fun t _=>by
  show((chR z R t).1,(chR z R t).2.1)=_
  rw[DP,EA]
theorem Hf (L:List bY)(z:aD)(R:List (List Int)):(L.map (chR z R)).map wdT=L.map wdT:=by
 rw[fQ]
 refine pG fun t _=>?_
 show((chR z R t).1,aZ (chR z R t).2.1)=_
 rw[DP,EA]
 rfl
theorem Ja (L:List bY)(z:aD)(R:List (List Int)):iP ((L.map hdT).map kdS) z (dtD R)=((L.map (chR z R)).map hdT).map kdS:=by
 unfold iP
 rw[fQ,fQ,fQ,fQ]
 refine pG fun x m=>?_
 show(if bR (.str x.1)=some (.inr z) then _ else _)=kdS (hdT (chR z R x))
 by_cases e:x.1=z
 ·rw[if_pos (show bR (.str x.1)=some (.inr z) by rw[e]; rfl),xI e]
  rfl
 ·rw[if_neg (fun q=>e (by simpa [bR] using q)),uW e]
def mdT (t:bY):aD×aA:=(t.1,dJ t.2.2)
def mdD (L:List bY):aA:=.dict ((L.map mdT).map kdS)
theorem BU (L:List bY):(L.map mdT).map (·.1)=L.map (·.1):=by rw[fQ]; rfl
theorem HY (z:aD)(R:List (List Int)) : ∀ {L:List bY},(L.map (·.1)).Nodup->gM ((L.map mdT).map kdS) (.inr z) (dJ R)=((L.map (chR z R)).map mdT).map kdS
 | [],_=>rfl
 | x::L,nd=>by
  rw[dC,dS] at nd
  show(if bR (.str x.1)=some (.inr z) then(cF x.1,dJ R)::((L.map mdT).map kdS) else(cF x.1,dJ x.2.2)::gM ((L.map mdT).map kdS) (.inr z) (dJ R))=kdS (mdT (chR z R x))::_
  by_cases e:x.1=z
  ·rw[if_pos (show bR (.str x.1)=some (.inr z) by rw[e]; rfl),xI e]
   have:L.map (chR z R)=L:=by
    have:=pG (f:=chR z R) (g:=id) (l:=L) fun t m=>uW fun q=>nd.1 (by rw[e,← q]; exact bF.mpr ⟨t,m,rfl⟩)
    rw[this,tD]
   rw[this]
   rfl
  ·rw[if_neg (fun q=>e (by simpa [bR] using q)),uW e,HY z R nd.2]
   rfl
theorem Im (L:List bY)(z:aD)(R:List (List Int)):bZ "Book" (.dict ((L.map wdT).map kdS)) (.dict (iP ((L.map hdT).map kdS) z (dtD R)))=bkD (L.map (chR z R)):=by
 rw[Ja]
 unfold bkD
 rw[Hf]
theorem Wd (R:List (List Int))(r:List Int):mH (R.map bL) (r.map aZ)=decide (r∈R):=by
 show((R.map bL).any fun z=>cM z (bL r))=_
 rw[List.any_map]
 by_cases h:r∈R
 ·rw[decide_eq_true h]
  exact Co.mpr ⟨r,h,by simp[xE]⟩
 ·rw[decide_eq_false h,List.any_eq_false]
  intro x mx
  simp only[Function.comp,xE,decide_eq_true_eq]
  exact fun e=>h (e ▸ mx)
def lF (R:List (List Int))(r:List Int):List (List Int):=R.filter fun x=>decide (x≠r)
theorem QA : ∀ {R:List (List Int)} {r:List Int},R.Nodup->r∈R -> ∃ j,atD (R.map bL) (bL r)=some j/\(R.map bL).eraseIdx j=(lF R r).map bL
 | [],_,_,m=>by simp at m
 | x::R,r,nd,m=>by
  rw[dS] at nd
  by_cases e:x=r
  ·subst e
   refine⟨0,by simp[atD,List.findIdx?_cons,xE],?_⟩
   unfold lF
   rw[lE,if_neg (by simp)]
   rw[tH.mpr fun y my=>decide_eq_true (show y≠x from fun z=>nd.1 (z ▸ my))]
   rfl
  ·obtain⟨j,h1,h2⟩:=QA nd.2 ((cI.mp m).resolve_left fun z=>e z.symm)
   refine⟨j+1,?_,?_⟩
   ·unfold atD at h1 ⊢
    rw[dC,List.findIdx?_cons,xE,decide_eq_false e,h1]
    rfl
   ·unfold lF at h2 ⊢
    rw[dC,Xw,h2,lE,if_pos (by simpa using e),dC]
theorem Jy(h:r∉R):atD (R.map bL) (bL r)=none:=by
 unfold atD
 rw[List.findIdx?_eq_none_iff]
 intro x m
 obtain⟨y,my,rfl⟩:=bF.mp m
 rw[xE]
 exact decide_eq_false (show ¬ y=r from fun z=>h (z ▸ my))
theorem Mi (R:List (List Int))(r:List Int):rQ (R.map rwE) (r.map aZ)=(lF R r).map rwE:=by
 unfold rQ lF
 rw[List.filter_map]
 congr 1
 refine List.filter_congr fun x _=>?_
 show decide (bL x≠bL r)=decide (x≠r)
 exact decide_eq_decide.mpr ⟨fun h z=>h (by rw[z]),fun h z=>h (BI z)⟩
theorem RsG.add(h:RsG w R)(hl:R.length<59)(hr:RwG r)(hw:r.length=w)(hn:r∉R):RsG w (R++[r]):=by
 refine⟨by rw[nU]; simp; omega,fun x m=>?_,?_⟩
 ·rcases iO.mp m with m | m
  ·exact h.rw x m
  ·rw[cN.mp m]; exact⟨hw,hr⟩
 ·refine jV.mpr ⟨h.nd,dS.mpr ⟨by simp,.nil⟩,fun a ma b mb=>?_⟩
  rw[cN.mp mb]
  intro z
  exact hn (z ▸ ma)
theorem RsG.less(h:RsG w R)(r:List Int):RsG w (lF R r):=
 ⟨iA (NK _ _) h.len,fun x m=>h.rw x (zK.mp m).1,h.nd.sublist List.filter_sublist⟩
section
variable {L:List bY}(h:BkG L)
include h
theorem ZV {t:bY}(m:t∈L):bG ((L.map mdT).map kdS) (.inr t.1)=some (dJ t.2.2):=sI (by rw[BU]; exact h.nd) (bF.mpr ⟨t,m,rfl⟩)
theorem Lz {t:bY}(m:t∈L)(hR:RsG t.2.1 R):BkG (L.map (chR t.1 R)):=by
 refine⟨by rw[bX]; exact h.len,fun x mx=>?_,fun x mx=>?_,fun x mx=>?_,by rw[Nh]; exact h.nd⟩
 all_goals obtain⟨y,my,rfl⟩:=bF.mp mx
 ·rw[DP]; exact h.nm y my
 ·rw[EA]; exact h.wd y my
 ·rw[EA]
  by_cases e:y.1=t.1
  ·rw[xI e]
   have:=OU h m y my e
   subst this
   exact hR
  ·rw[uW e]
   exact h.rs y my
theorem GQ {g:List (aA×aA)->List aA->Option (Bool×List (aA×aA))}{t:bY}(m:t∈L)(hr:RwG r)(hw:r.length=t.2.1){b:Bool}(hg:g (t.2.2.map rwE) (r.map aZ)=some (b,R.map rwE)) :
  rZ "Book" hG g [bkD L,.str t.1,bL r]=some (b,if b=true then bkD (L.map (chR t.1 R)) else bkD L):=by
 have c2:(((L.map hdT).map kdS).map (·.1)).Nodup:=by
  rw[xJ,QZ]
  exact pF.mpr (h.nd.imp fun h z=>h (PyData.str.inj z))
 have d1:=RZ r
 have d2:=UI r
 unfold rZ
 show((iQ "Book" (bkD L)).bind _)=_
 rw[rJ,bO]
 show((hG none [bkD L,.str t.1,.tuple (r.map aZ)]).bind _)=_
 rw[show hG none [bkD L,.str t.1,.tuple (r.map aZ)]=some .none from Jr h none m hr hw,bO,Ah h m,bO]
 refine(if_pos ⟨d1,by omega,c2⟩).trans ?_
 rw[hg,bO]
 show some (b,if b=true then bZ "Book" (.dict ((L.map wdT).map kdS)) (.dict (iP ((L.map hdT).map kdS) t.1 (dtD R))) else bkD L)=_
 rw[Im]
theorem LB:fL (r.map aZ)∈(R.map rwE).map (·.1)↔r∈R:=by
 rw[Aa]
 refine⟨fun z=>?_,fun z=>bF.mpr ⟨r,z,rfl⟩⟩
 obtain⟨r',mr,e⟩:=bF.mp z
 exact BI e ▸ mr
theorem Kk {t:bY}(m:t∈L)(hr:RwG r)(hw:r.length=t.2.1)(hn:r∉t.2.2)(hl:t.2.2.length<59):sQ [bkD L,.str t.1,bL r]=some (true,bkD (L.map (chR t.1 (t.2.2++[r])))):=by
 refine GQ h m hr hw (b:=true) (R:=t.2.2++[r]) ?_
 unfold OO
 rw[if_neg (fun z=>hn ((LB h).mp z)),if_pos (by rw[bX]; omega),zL]
 rfl
theorem Uh {t:bY}(m:t∈L)(hr:RwG r)(hw:r.length=t.2.1)(hn:r∈t.2.2):mG [bkD L,.str t.1,bL r]=some (true,bkD (L.map (chR t.1 (lF t.2.2 r)))):=by
 refine GQ h m hr hw (b:=true) (R:=lF t.2.2 r) ?_
 unfold GY
 rw[if_pos ((LB h).mpr hn),Mi]
theorem Vb {t:bY}(m:t∈L)(hr:RwG r)(hw:r.length=t.2.1)(hn:r∉t.2.2):mG [bkD L,.str t.1,bL r]=some (false,bkD L):=by
 refine GQ h m hr hw (b:=false) (R:=t.2.2) ?_
 unfold GY
 rw[if_neg (fun z=>hn ((LB h).mp z))]
end
theorem yL (ss:List aD):(cT ss).Perm ss:=by
 have hp:=Cf ss fun a b=>decide (a.cps.toList≤b.cps.toList)
 have hr:(ss.mergeSort fun a b=>decide (a.cps.toList≤b.cps.toList)).Pairwise leS:=by
  have:=Ca (le:=fun a b:aD=>decide (a.cps.toList≤b.cps.toList)) (fun a b c h1 h2=>decide_eq_true (NL (of_decide_eq_true h1) (of_decide_eq_true h2))) (fun a b=>by
   rcases List.le_total a.cps.toList b.cps.toList with h | h <;> simp[h]) ss
  exact this.imp fun h=>of_decide_eq_true h
 rw[← CF hp hr]
 exact hp
mutual
theorem eqv_refl : ∀ d:aA,noDict d=true->cM d d=true
 | .none,_=>by simp[cM]
 | .bool b,_=>by simp[cM]
 | .int i,_=>by simp[cM]
 | .str x,_=>by simp[cM]
 | .list xs,h=>by
  have h':noDicts xs=true:=by simpa [noDict] using h
  simpa [cM] using JW xs h'
 | .tuple xs,h=>by
  have h':noDicts xs=true:=by simpa [noDict] using h
  simpa [cM] using JW xs h'
 | .dict _,h=>by simp[noDict] at h
theorem JW : ∀ ds:List aA,noDicts ds=true->qT ds ds=true
 | [],_=>by simp[qT]
 | d::ds,h=>by
  have h':noDict d=true/\noDicts ds=true:=by simpa [noDicts] using h
  simp[qT,eqv_refl d h'.1,JW ds h'.2]
end
theorem ne_self(h:cO d=true):gNe d d=some (.bool false):=by
 have h1:noDict d=true:=(iC.mp h).1
 unfold gNe
 rw[h,eqv_refl d h1]
 rfl
theorem PB(h : ∀ d∈ds,noDict d=true/\d.depth≤5):cO (.list ds)=true:=by
 have h1:noDicts ds=true:=by
  induction ds with
  | nil=>rfl
  | cons d ds ih=>simp[noDicts,(h d bD).1,ih fun x m=>h x (bJ _ m)]
 have h2:cV ds≤5:=by
  clear h1
  induction ds with
  | nil=>simp[cV]
  | cons d ds ih=>
   have:=(h d bD).2
   have:=ih fun x m=>h x (bJ _ m)
   simp[cV]
   omega
 simp[cO,noDict,h1,hW]
 omega
theorem Ky (zs:List aD):cO (.list (zs.map cF))=true:=PB fun d m=>by
 obtain⟨z,_,rfl⟩:=bF.mp m
 exact⟨rfl,by simp[hW]⟩
def rowsOf (L:List bY)(z:aD):List (List Int):=((L.find? fun t=>decide (t.1=z)).map (·.2.2)).getD []
def eP (L:List bY)(z:aD):aD×aA:=(z,dJ (srt (rowsOf L z)))
theorem sH (L:List bY)(zs:List aD):(zs.map (eP L)).map (·.1)=zs:=by
 rw[fQ]
 exact tD zs
def plD (L:List bY):aA:=.dict (((cT (L.map (·.1))).map (eP L)).map kdS)
section
variable {L:List bY}(h:BkG L)
include h
theorem KL {t:bY}(m:t∈L):rowsOf L t.1=t.2.2:=by
 unfold rowsOf
 rw[BK h.nd m]
 rfl
theorem QF(m:z∈cT (L.map (·.1))) : ∃ t∈L,t.1=z:=by
 have:=(yL (L.map (·.1))).mem_iff.mp m
 obtain⟨t,mt,e⟩:=bF.mp this
 exact⟨t,mt,e⟩
theorem xD:(cT (L.map (·.1))).Nodup:=(yL _).nodup_iff.mpr h.nd
theorem Ae:(cT (L.map (·.1))).length=L.length:=(yL _).length_eq.trans (bX _)
theorem II (z:Option aD):sR z [bkD L]=some (plD L):=by
 have hl:=h.len
 have ln:=Ae h
 have nd:=xD h
 refine kO rfl (eY (ρ':=[s0 (bkD L),some (2,.dict []),none]) rfl ?_)
 refine jT (fun ρ'=>∃ x,ρ'=[s0 (bkD L),some (2,.dict (((cT (L.map (·.1))).map (eP L)).map kdS)),x]) ?_ ?_
 ·refine pP (ds:=(cT (L.map (·.1))).map cF) (fun i ρ'=>∃ x,ρ'=[s0 (bkD L),some (2,.dict ((((cT (L.map (·.1))).take i).map (eP L)).map kdS)),x]) (avS (oQ (bT (rX (ds:=[]) rfl rfl) (Ni h none)))) ⟨none,rfl⟩ ?_ ?_
  ·rintro i d _ hd ⟨x,rfl⟩
   rw[fD] at hd
   obtain⟨s,hs,rfl⟩:=hX.mp hd
   obtain⟨t,mt,rfl⟩:=QF h (iW hs)
   refine⟨[s0 (bkD L),some (2,.dict ((((cT (L.map (·.1))).take i).map (eP L)).map kdS)),s0 (.str t.1)],rfl,?_⟩
   refine⟨.nx [s0 (bkD L),some (2,.dict ((((cT (L.map (·.1))).take (i+1)).map (eP L)).map kdS)),s0 (.str t.1)],?_,_,.inl rfl,_,rfl⟩
   unfold uG
   rw[show eV 1 .s (aN (vD none) (fY "Book" (aF 0) (aK (aF 2) aM))) [s0 (bkD L),some (2,.dict ((((cT (L.map (·.1))).take i).map (eP L)).map kdS)),s0 (.str t.1)]=some (dJ (srt t.2.2)) from bT (rX (ds:=[.str t.1]) rfl rfl) (Jt h none mt),bO]
   have hn:t.1∉(cT (L.map (·.1))).take i:=fun m=>by
    obtain⟨j,hj⟩:=NF.mp m
    rw[Ck] at hj
    split at hj
    ·rename_i lt
     have:=(NM (l:=cT (L.map (·.1))) (i:=j) (j:=i) (dM.mp hj).1 nd).mp (hj.trans hs.symm)
     omega
    ·cases hj
   refine(if_pos (t:=some (Out.nx [s0 (bkD L),some (2,.dict ((((cT (L.map (·.1))).take i).map (eP L)).map kdS++[(kD (.inr t.1),dJ (srt t.2.2))])),s0 (.str t.1)])) (e:=none) (show bG ((((cT (L.map (·.1))).take i).map (eP L)).map kdS) (.inr t.1)=none/\((((cT (L.map (·.1))).take i).map (eP L)).map kdS).length<sizeLine from⟨CP (by rw[sH]; exact hn),?_⟩)).trans ?_
   ·rw[bX,bX,lC]
    exact sE (by omega)
   ·rw[vT,hs]
    simp[kdS,eP,kD,KL h mt]
  ·rintro _ ⟨x,rfl⟩
   refine⟨_,rfl,x,?_⟩
   rw[bX,zJ]
 rintro _ ⟨x,rfl⟩
 exact⟨_,rfl,rfl⟩
theorem Tz (r:List Int):dU (bL r)=true:=by
 show lX (r.map aZ)=true
 rw[KF,eE]
 intro d m
 obtain⟨v,_,rfl⟩:=bF.mp m
 rfl
theorem An:dX 2 (plD L)=true:=by
 show((((cT (L.map (·.1))).map (eP L)).map kdS).all fun kd=>dX 1 kd.2)=true
 refine eE.mpr fun kd m=>?_
 obtain⟨p,mp,rfl⟩:=bF.mp m
 obtain⟨s,_,rfl⟩:=bF.mp mp
 show((srt (rowsOf L s)).map bL).all (dX 0)=true
 refine eE.mpr fun d m=>?_
 obtain⟨r,_,rfl⟩:=bF.mp m
 exact Tz h r
theorem HU (R:List (List Int)):cO (dJ R)=true:=PB fun d m=>by
 obtain⟨r,_,rfl⟩:=bF.mp m
 have : ∀ l:List Int,noDicts (l.map aZ)=true/\cV (l.map aZ)≤1:=fun l=>by
  induction l with
  | nil=>simp[noDicts,cV]
  | cons a l ih=>simp[noDicts,noDict,cV,hW,ih.1,ih.2]
 have:=this r
 exact⟨by simp[bL,noDict,this.1],by simp[bL,hW]; omega⟩
theorem Tj:zZ true (plD L) (plD L)=some (.bool false):=by
 have nd:((((cT (L.map (·.1))).map (eP L))).map (·.1)).Nodup:=by rw[sH]; exact xD h
 have hv:valsOk (((cT (L.map (·.1))).map (eP L)).map kdS)=true:=eE.mpr fun kd m=>by
  obtain⟨p,mp,rfl⟩:=bF.mp m
  obtain⟨s,_,rfl⟩:=bF.mp mp
  exact HU h _
 have hit : ∀ A:List (aD×aA),(∀ p∈A,p∈(cT (L.map (·.1))).map (eP L))->oW (((cT (L.map (·.1))).map (eP L)).map kdS) (A.map kdS)=true:=fun A=>by
  induction A with
  | nil=>intro _; rfl
  | cons p A ih=>
   intro hA
   have mp:=hA p bD
   have lk:=sI (z:=p.1) (d:=p.2) nd mp
   obtain⟨s,_,e⟩:=bF.mp mp
   have ev:cM p.2 p.2=true:=by
    rw[← e]
    exact eqv_refl _ (iC.mp (HU h (srt (rowsOf L s)))).1
   show(match (bR (.str p.1)).bind (bG (((cT (L.map (·.1))).map (eP L)).map kdS)) with | none=>false | some e=>cM p.2 e&&oW _ (A.map kdS))=true
   rw[show(bR (.str p.1)).bind (bG (((cT (L.map (·.1))).map (eP L)).map kdS))=some p.2 from lk]
   show(cM p.2 p.2&&oW _ (A.map kdS))=true
   rw[ev,ih fun q m=>hA q (bJ _ m)]
   rfl
 show(if (valsOk _&&valsOk _&&(plK _&&plK _))=true then some (fP (true != uM _ _)) else none)=_
 rw[hv,rV]
 show some (fP (true != uM _ _))=_
 unfold uM
 rw[hit _ fun p m=>m]
 simp
end
section
variable {L:List bY}(h:BkG L)
include h
theorem QN {t:bY}(m:t∈L):L.map (chR t.1 t.2.2)=L:=by
 have : ∀ x∈L,chR t.1 t.2.2 x=id x:=fun x mx=>by
  by_cases e:x.1=t.1
  ·have:=OU h m x mx e
   subst this
   exact xI rfl
  ·exact uW e
 rw[pG this,tD]
theorem Te(nd:R.Nodup)(r:List Int):tR (R.map bL) (r.map aZ)=(lF R r).map bL:=by
 show(match atD (R.map bL) (bL r) with | some j=>(R.map bL).eraseIdx j | none=>R.map bL)=_
 by_cases hn:r∈R
 ·obtain⟨j,e1,e2⟩:=QA nd hn
  rw[e1]
  exact e2
 ·rw[Jy hn]
  unfold lF
  rw[tH.mpr fun y my=>decide_eq_true (show y≠r from fun z=>hn (z ▸ my))]
theorem Le {t:bY}(m:t∈L)(hr:RwG r)(hw:r.length=t.2.1)(hl:t.2.2.length≤50)(way:Int) : ∃ R,RsG t.2.1 R/\R.length≤50/\mE [bkD L,dJ t.2.2,.str t.1,bL r,.int way]=some (bkD (L.map (chR t.1 R)),R.map bL):=by
 have hR:=h.rs t m
 have ed : ∀ q:Option (aA×List aA),(if way<2 then if (!decide (r∈t.2.2)&&decide (t.2.2.length<50))=true then(sQ [bkD L,.str t.1,bL r]).bind fun q=>some (q.2,t.2.2.map bL++[bL r]) else some (bkD L,t.2.2.map bL)
   else(uF (t.2.2.map bL) (r.map aZ) way).bind fun k'=>if cO (.tuple k')=true then(mG [bkD L,.str t.1,.tuple k']).bind fun q=>some (q.2,tR (t.2.2.map bL) k') else none)=q->mE [bkD L,dJ t.2.2,.str t.1,bL r,.int way]=q:=fun q e=>by
  unfold mE
  show(if (iQ "Book" (bkD L)).isSome=true/\cO (bL r)=true/\noDicts (t.2.2.map bL)=true/\(t.2.2.map bL).length<1000 then _ else none)=q
  rw[if_pos ⟨by rw[rJ]; rfl,IM r,Pm _,by rw[bX]; omega⟩]
  rw[Wd,bX]
  exact e
 by_cases h2:way<2
 ·by_cases c:r∉t.2.2/\t.2.2.length<50
  ·obtain⟨hn,hl2⟩:=c
   refine⟨t.2.2++[r],hR.add (by omega) hr hw hn,by rw[nU]; simp; omega,ed _ ?_⟩
   rw[if_pos h2,decide_eq_false hn,decide_eq_true hl2,Kk h m hr hw hn (by omega),zL]
   rfl
  ·refine⟨t.2.2,hR,hl,ed _ ?_⟩
   have:(!decide (r∈t.2.2)&&decide (t.2.2.length<50))=false:=by
    by_cases a:r∈t.2.2
    ·simp[a]
    ·have : ¬ t.2.2.length<50:=fun b=>c ⟨a,b⟩
     simp[this]
   rw[if_pos h2,this,QN h m]
   rfl
 ·obtain⟨r',ek,hr',hw'⟩ : ∃ r':List Int,uF (t.2.2.map bL) (r.map aZ) way=some (r'.map aZ)/\RwG r'/\r'.length=t.2.1:=by
   unfold uF
   rw[bX]
   by_cases c:(decide (0<t.2.2.length)&&decide (way=2))=true
   ·rw[if_pos c]
    have h0:0<t.2.2.length:=of_decide_eq_true (iC.mp c).1
    have hj:t.2.2.length / 2<t.2.2.length:=by omega
    refine⟨t.2.2[t.2.2.length / 2],?_,(hR.rw _ (zM hj)).2,(hR.rw _ (zM hj)).1⟩
    rw[fD,jW hj]
    rfl
   ·rw[if_neg c]
    exact⟨r,rfl,hr,hw⟩
  refine⟨lF t.2.2 r',hR.less r',iA (NK _ _) hl,ed _ ?_⟩
  rw[if_neg h2,ek,bO,if_pos (show cO (.tuple (r'.map aZ))=true from IM r'),Te h hR.nd]
  by_cases hn:r'∈t.2.2
  ·rw[show mG [bkD L,.str t.1,.tuple (r'.map aZ)]=_ from Uh h m hr' hw' hn]
   rfl
  ·rw[show mG [bkD L,.str t.1,.tuple (r'.map aZ)]=_ from Vb h m hr' hw' hn]
   have:lF t.2.2 r'=t.2.2:=tH.mpr fun y my=>decide_eq_true (show y≠r' from fun z=>hn (z ▸ my))
   rw[this,QN h m]
   rfl
end
theorem VP : ∀ is:List Nat,nG (is.map fun(n:Nat)=>aZ n)=some (is.map fun(n:Nat)=>(.inl n:aL))
 | []=>rfl
 | i::is=>by
  show((bR (.int i)).bind fun k=>(nG (is.map fun(n:Nat)=>aZ n)).bind fun ks=>some (k::ks))=_
  rw[VP is]
  rfl
theorem Jv (ks:List aL):(dN ks).length≤1 ↔ ∀ x∈ks,∀ y∈ks,x=y:=by
 have hm : ∀ x,x∈dN ks↔x∈ks:=fun x=>by unfold dN; rw[UD]; simp
 have nd:(dN ks).Nodup:=RN (by simp)
 constructor
 ·intro h x mx y my
  have mx:=(hm x).mpr mx
  have my:=(hm y).mpr my
  match e:dN ks,h with
  | [],_=>rw[e] at mx; simp at mx
  | [z],_=>
   rw[e] at mx my
   rw[cN.mp mx,cN.mp my]
  | a::b::r,h=>simp at h
 ·intro h
  match e:dN ks with
  | []=>simp
  | [z]=>simp
  | a::b::r=>
   rw[e] at nd
   have:=h a ((hm a).mp (by rw[e]; simp)) b ((hm b).mp (by rw[e]; simp))
   rw[this] at nd
   simp at nd
theorem Xf (hs:List (List Int))(hl:hs.length≤100) : ∃ b:Bool,yS [.list (hs.map bL)]=some (.bool b)/\(b=true ↔ ∀ x∈hs,∀ y∈hs,x.length=y.length):=by
 let ks:List aL:=(hs.map pH).map fun(n:Nat)=>(.inl n:aL)
 refine⟨decide ((dN ks).length≤1),?_,?_⟩
 ·refine kO rfl ?_
  have lc:=BC (cap:=[none]) (fi:=iIt (aF 0)) (T:=gB 0) (t:=gP) (f:=aN cY (aK (aF 0) aM)) (ρ:=vS [s0 (.list (hs.map bL))]) (xs:=hs) (q:=bL) (fun _=>true) (fun h=>.int h.length) (oQ rfl) (by omega) (fun h _=>⟨[some (bL h)],rfl,rfl,fun _=>bT (ds:=[bL h]) rfl ((IG _).trans (by rw[bX]))⟩)
  rw[tH.mpr (by simp)] at lc
  have e:(hs.map fun h=>aZ (h.length:Int))=(hs.map pH).map fun(n:Nat)=>aZ n:=by rw[fQ]; rfl
  rw[e] at lc
  refine jA (d:=.bool (decide ((dN ks).length≤1))) (cH (a:=.int (dN ks).length) (b:=.int 1) (bT (fO lc rfl) ?_) rfl ?_) rfl
  ·show((nG ((hs.map pH).map fun(n:Nat)=>aZ n)).bind fun ks=>if ks.length≤4000 then some (aZ (dN ks).length) else none)=_
   rw[VP,bO,if_pos (by simp; omega)]
  ·show some (fP (decide (((dN ks).length:Int)≤1)))=_
   congr 2
   rw[decide_eq_decide]
   omega
 ·rw[decide_eq_true_eq,Jv]
  constructor
  ·intro h x mx y my
   have:=h (.inl x.length) (bF.mpr ⟨_,bF.mpr ⟨x,mx,rfl⟩,rfl⟩) (.inl y.length) (bF.mpr ⟨_,bF.mpr ⟨y,my,rfl⟩,rfl⟩)
   have:=Sum.inl.inj this
   omega
  ·intro h x mx y my
   obtain⟨n,mn,rfl⟩:=bF.mp mx
   obtain⟨m,mm,rfl⟩:=bF.mp my
   obtain⟨p,mp,rfl⟩:=bF.mp mn
   obtain⟨q,mq,rfl⟩:=bF.mp mm
   rw[h p mp q mq]
theorem Lf (ds:List aA):bV .s (bOr (fE (bOf (eUn (gL "list") (aF 0)))) (bOf (eOp gGt (aN cY (aK (aF 0) aM)) (eC (.int 60))))) [s0 (.list ds)]=some (decide (60<ds.length)):=by
 have e:eOp gGt (aN cY (aK (aF 0) aM)) (eC (.int 60)) (vS [s0 (.list ds)])=some (.bool (decide (60<ds.length))):=by
  refine cH (a:=.int ds.length) (b:=.int 60) (bT (ds:=[.list ds]) rfl (by simp[cY])) rfl ?_
  show some (fP (decide ((ds.length:Int) > 60)))=_
  congr 2
  rw[decide_eq_decide]
  omega
 exact oJ (a:=fE (bOf (eUn (gL "list") (aF 0)))) (ρ:=vS [s0 (.list ds)]) (kS (x:=true) rfl) (fun _=>lY e)
theorem Ul(hl:ds.length≤60)(h : ∀ d∈ds,nd0 d /\ ∀ es,d = .tuple es->es.length≤1000 /\ ∀ x∈es,nd0 x):bV .s (fE (bOf (aN nC (aK (eLC [none] (iIt (aF 0)) (gB 0) gP (aN mC (aK (aF 0) aM))) aM)))) [s0 (.list ds)]=some (!ds.all wI):=by
 have lc:=AR (cap:=[none]) (fi:=iIt (aF 0)) (T:=gB 0) (t:=gP) (f:=aN mC (aK (aF 0) aM)) (ρ:=vS [s0 (.list ds)]) (ds:=ds) (fun d=>.bool (wI d)) (oQ rfl) (by omega) (fun d md=>⟨[some d],rfl,rfl,bT (ds:=[d]) rfl (YL (h d md).2 (h d md).1)⟩)
 exact kS (bT (fO lc rfl) (AN wI ds))
theorem JK {kss:List (List aA)}:(fR kss).length=kss.length↔kss.Nodup:=by
 have go : ∀ (l acc:List (List aA)),(l.foldl gA acc).length≤acc.length+l.length/\((l.foldl gA acc).length=acc.length+l.length->l.Nodup /\ ∀ a∈l,a∉acc):=by
  intro l
  induction l with
  | nil=>intro acc; exact⟨by simp,fun _=>⟨by simp,by simp⟩⟩
  | cons x r ih=>
   intro acc
   rw[pI]
   by_cases hx:x∈acc
   ·have e:gA acc x=acc:=by unfold gA; rw[if_pos hx]
    rw[e]
    have:=(ih acc).1
    simp only[eD]
    exact⟨by omega,fun h=>by omega⟩
   ·have e:gA acc x=acc++[x]:=by unfold gA; rw[if_neg hx]
    rw[e]
    obtain⟨i1,i2⟩:=ih (acc++[x])
    simp only[nU,eD,Cj] at i1 i2 ⊢
    refine⟨by omega,fun h=>?_⟩
    obtain⟨h1,h2⟩:=i2 (by omega)
    refine⟨dS.mpr ⟨fun m=>h2 x m (by simp),h1⟩,fun a m=>?_⟩
    rcases cI.mp m with rfl | m
    ·exact hx
    ·exact fun q=>h2 a m (NH _ q)
 constructor
 ·intro h
  exact((go kss []).2 (by unfold fR at h; rw[h]; simp)).1
 ·intro h
  rw[Vy h]
theorem Kp(hl:R.length≤60)(hR : ∀ r∈R,RwG r) : ∃ b:Bool,sO [dJ R]=some (.bool b)/\(b=true↔(∀ x∈R,∀ y∈R,x.length=y.length)/\R.Nodup):=by
 obtain⟨b1,e1,h1⟩:=Xf R (by omega)
 refine⟨b1&&decide (R.Nodup),?_,by rw[vZ,h1,decide_eq_true_eq]⟩
 have hds : ∀ d∈R.map bL,nd0 d /\ ∀ es,d = .tuple es->es.length≤1000 /\ ∀ x∈es,nd0 x:=fun d m=>by
  obtain⟨r,mr,rfl⟩:=bF.mp m
  refine⟨jU,fun es e=>?_⟩
  cases e
  refine⟨by rw[bX]; have:=(hR r mr).2.1; omega,fun x mx=>?_⟩
  obtain⟨v,_,rfl⟩:=bF.mp mx
  exact jU
 refine kO rfl (eY (jE ((Lf (R.map bL)).trans (by rw[decide_eq_false (by simp; omega)]))) (eY (jE ((Ul (by simpa using hl) hds).trans ?_)) ?_))
 ·rw[eE.mpr fun d m=>?_]
  ·rfl
  ·obtain⟨r,mr,rfl⟩:=bF.mp m
   exact(hR r mr).b
 ·refine jA (d:=.bool (b1&&decide (R.Nodup))) (pX (bT (ds:=[dJ R]) rfl e1) fun _=>?_) rfl
  refine cH (a:=.int (fR (R.map fun r=>r.map aZ)).length) (b:=.int R.length) (bT (ds:=[dJ R]) rfl ?_) (bT (ds:=[dJ R]) rfl (by simp[cY,dJ])) ((Au _ _).trans ?_)
  ·show((jO (R.map bL)).bind fun kss=>if kss.length≤75 then some (aZ (fR kss).length) else none)=_
   rw[TV,bO,if_pos (by simp; omega)]
  ·congr 2
   rw[decide_eq_decide]
   have k:=JK (kss:=R.map fun r=>r.map aZ)
   rw[bX] at k
   have nd:(R.map fun r=>r.map aZ).Nodup↔R.Nodup:=by
    constructor
    ·intro h
     exact List.Pairwise.of_map (fun r:List Int=>r.map aZ) (fun a b hab e=>hab (by rw[e])) h
    ·intro h
     exact BO (fun a _ b _ e=>BI (congrArg fL e)) h
   rw[← nd,← k]
   omega
theorem Uy (ss:List aD):(cT ss).Pairwise leS:=by
 have hp:=Cf ss fun a b=>decide (a.cps.toList≤b.cps.toList)
 have hr:(ss.mergeSort fun a b=>decide (a.cps.toList≤b.cps.toList)).Pairwise leS:=by
  have:=Ca (le:=fun a b:aD=>decide (a.cps.toList≤b.cps.toList)) (fun a b c h1 h2=>decide_eq_true (NL (of_decide_eq_true h1) (of_decide_eq_true h2))) (fun a b=>by
   rcases List.le_total a.cps.toList b.cps.toList with h | h <;> simp[h]) ss
  exact this.imp fun h=>of_decide_eq_true h
 rw[← CF hp hr]
 exact hr
theorem Qg (ss:List aD):cT (cT ss)=cT ss:=(CF (FP _) (Uy ss)).symm
theorem ZS (A:List (aD×aA)):gL "dict" (.dict (A.map kdS))=some (.bool true):=by cases A <;> rfl
theorem Jl (A:List (aD×aA)):cY [.dict (A.map kdS)]=some (.int A.length):=by
 show(if plK (A.map kdS)=true then some (aZ ((A.map kdS).length:Nat)) else none)=_
 rw[if_pos (rV A),bX]
section
variable {L:List bY}(h:BkG L)
include h
theorem Ml(hR:RsG w R):sO [dJ (srt R)]=some (.bool true):=by
 have hl:=hR.len
 have sl:=Ar R
 obtain⟨b,e,hb⟩:=Kp (R:=srt R) (by omega) fun r m=>(hR.rw r (Ati.mp m)).2
 rw[e,hb.mpr ⟨fun x mx y my=>(hR.rw x (Ati.mp mx)).1.trans (hR.rw y (Ati.mp my)).1.symm,(JB R).nodup_iff.mpr hR.nd⟩]
theorem MD {p:aD×aA}(m:p∈(cT (L.map (·.1))).map (eP L)) : ∃ t∈L,p=(t.1,dJ (srt t.2.2)):=by
 obtain⟨z,mz,rfl⟩:=bF.mp m
 obtain⟨t,mt,rfl⟩:=QF h mz
 exact⟨t,mt,by unfold eP; rw[KL h mt]⟩
theorem GM : ∀ p∈(cT (L.map (·.1))).map (eP L),nameS p.1:=fun p m=>by
 obtain⟨t,mt,rfl⟩:=MD h m
 exact h.nm t mt
theorem HD:((cT (L.map (·.1))).map (eP L)).length=L.length:=by rw[bX]; exact Ae h
theorem HK {t:bY}(m:t∈L):bG (((cT (L.map (·.1))).map (eP L)).map kdS) (.inr t.1)=some (dJ (srt t.2.2)):=by
 refine sI (by rw[sH]; exact xD h) (bF.mpr ⟨t.1,(yL _).mem_iff.mpr (bF.mpr ⟨t,m,rfl⟩),?_⟩)
 unfold eP
 rw[KL h m]
theorem Lu:xP [plD L]=some (.bool true):=by
 have hl:=h.len
 let A:=(cT (L.map (·.1))).map (eP L)
 have pl:A.length=L.length:=HD h
 refine kO rfl ?_
 have el:eOp gGt (aN cY (aK (aF 0) aM)) (eC (.int 12)) (vS [s0 (plD L)])=some (.bool false):=by
  refine cH (a:=.int A.length) (b:=.int 12) (bT (ds:=[plD L]) rfl (Jl A)) rfl ?_
  show some (fP (decide ((A.length:Int) > 12)))=_
  congr 2
  exact decide_eq_false (by show ¬ ((A.length:Int) > 12); omega)
 have eu:eUn (gL "dict") (aF 0) (vS [s0 (plD L)])=some (.bool true):=ZS A
 refine eY (jE (oJ (x:=false) (y:=false) (kS (x:=true) eu) fun _=>lY el)) ?_
 have hi:iDI (aF 0) (vS [s0 (plD L)])=some (A.map fun p=>fL [.str p.1,p.2]):=by
  show(if (plK (A.map kdS)&&(A.map kdS).all fun kd=>cQ kd.1)=true then some ((A.map kdS).map fun kd=>fL [kd.1,kd.2]) else none)=_
  rw[rV,BG (GM h),fQ]
  rfl
 have lc:=BC (cap:=[none,none]) (fi:=iDI (aF 0)) (T:=gB2 0 1) (t:=gP) (f:=iD (aN jJ (aK (aF 0) aM)) (aN sO (aK (aF 1) aM))) (ρ:=vS [s0 (plD L)]) (xs:=A) (q:=fun p=>fL [.str p.1,p.2]) (fun _=>true) (fun _=>.bool true) hi (by show A.length≤_; omega) (fun p mp=>⟨[some (.str p.1),some p.2],rfl,rfl,fun _=>by
  obtain⟨t,mt,rfl⟩:=MD h mp
  exact pX (x:=true) (y:=true) (bT (ds:=[.str t.1]) rfl (JU (h.nm t mt))) fun _=>bT (ds:=[dJ (srt t.2.2)]) rfl (Ml h (h.rs t mt))⟩)
 rw[tH.mpr (by simp)] at lc
 exact jA (d:=.bool true) (bT (fO lc rfl) ((AN (fun _=>true) A).trans (by rw[eE.mpr fun _ _=>rfl]))) rfl
theorem Ip {f:EF}(e:f ρ=some (mdD L)):iDK f ρ=some ((L.map (·.1)).map cF):=by
 unfold iDK
 rw[e]
 show(if (plK ((L.map mdT).map kdS)&&((L.map mdT).map kdS).all fun kd=>cQ kd.1)=true then some (((L.map mdT).map kdS).map (·.1)) else none)=_
 rw[rV,BG fun p m=>?_]
 ·show some _=_
  rw[xJ,BU]
 ·obtain⟨t,mt,rfl⟩:=bF.mp m
  exact h.nm t mt
theorem Fi : ∀ p∈L.map mdT,nameS p.1:=fun p m=>by
 obtain⟨t,mt,rfl⟩:=bF.mp m
 exact h.nm t mt
theorem QW:vH [plD L,mdD L]=some (.bool true):=by
 have hl:=h.len
 have pl:=HD h
 have s1:=IS (GM h) (by omega)
 rw[sH,Qg] at s1
 have s2:=IS (Fi h) (by rw[bX]; omega)
 rw[BU] at s2
 let W:aA:=.list ((cT (L.map (·.1))).map cF)
 let R:L2.Slot->L2.Slot->aY:=fun x y=>[s0 (plD L),s0 (mdD L),x,y]
 refine kO rfl (eY (ρ':=R none none) (jE (oJ (x:=false) (y:=false) (kS (x:=true) (ZS _)) fun _=>oJ (x:=false) (y:=false) (lY (cH (a:=W) (b:=W) (bT (ds:=[plD L]) rfl s1) (bT (ds:=[mdD L]) rfl s2) (ne_self (Ky _)))) fun _=>lY (cH (a:=.bool true) (b:=.bool true) (bT (ds:=[plD L]) rfl (Lu h)) rfl rfl))) ?_)
 refine jT (fun ρ'=>∃ x y,ρ'=R x y) ?_ ?_
 ·refine pP (ds:=(L.map (·.1)).map cF) (fun _ ρ'=>∃ x y,ρ'=R x y) (avS (Ip h rfl)) ⟨_,_,rfl⟩ ?_ ?_
  ·rintro i d _ hd ⟨x,y,rfl⟩
   rw[fQ,fD] at hd
   obtain⟨t,ht,rfl⟩:=hX.mp hd
   have mt:=iW ht
   refine⟨R (s0 (.str t.1)) y,rfl,?_⟩
   refine HA (d:=dJ (srt t.2.2)) (cH (a:=plD L) (b:=.str t.1) rfl rfl (HK h mt)) (by simp[R]) ?_
   have so:=QJ (R:=t.2.2) (n:=t.2.1) (h.wd t mt).1 (fun r m=>((h.rs t mt).rw r m).1) (by have:=(h.rs t mt).len; omega)
   exact⟨_,jE (oJ (x:=false) (y:=false) (kS (x:=true) rfl) fun _=>lY (cH (a:=dJ (srt t.2.2)) (b:=dJ (srt t.2.2)) rfl (bT (ds:=[dJ t.2.2]) (fO (g:=aM) (cH (a:=mdD L) (b:=.str t.1) rfl rfl (ZV h mt)) rfl) so) (ne_self (HU h _)))),_,.inl rfl,_,_,rfl⟩
  ·rintro _ ⟨x,y,rfl⟩
   exact⟨_,rfl,x,y,rfl⟩
 rintro _ ⟨x,y,rfl⟩
 exact jA rfl rfl
theorem Jq:yE [plD L]=some (plD L):=by
 have hl:=h.len
 have nd:=xD h
 let A:=(cT (L.map (·.1))).map (eP L)
 have pl:A.length=L.length:=HD h
 have nA:(A.map (·.1)).Nodup:=by rw[sH]; exact nd
 have hi : ∀ ρ:List (Option aA),aF 0 ρ=some (plD L)->iDK (aF 0) ρ=some (A.map fun p=>cF p.1):=fun ρ e=>by
  unfold iDK
  rw[e]
  show(if (plK (A.map kdS)&&(A.map kdS).all fun kd=>cQ kd.1)=true then some ((A.map kdS).map (·.1)) else none)=_
  rw[rV,BG (GM h),xJ,fQ]
  rfl
 refine kO rfl (eY (ρ':=[s0 (plD L),some (2,.dict []),none]) rfl ?_)
 refine jT (fun ρ'=>∃ x,ρ'=[s0 (plD L),some (2,plD L),x]) ?_ ?_
 ·refine pP (ds:=A.map fun p=>cF p.1) (fun i ρ'=>∃ x,ρ'=[s0 (plD L),some (2,.dict ((A.take i).map kdS)),x]) (avS (hi _ rfl)) ⟨none,rfl⟩ ?_ ?_
  ·rintro i d _ hd ⟨x,rfl⟩
   rw[fD] at hd
   obtain⟨p,hp,rfl⟩:=hX.mp hd
   obtain⟨t,mt,rfl⟩:=MD h (iW hp)
   refine⟨[s0 (plD L),some (2,.dict ((A.take i).map kdS)),s0 (.str t.1)],rfl,?_⟩
   have hn:t.1∉(A.take i).map (·.1):=fun m=>by
    rw[NI] at m
    have hp2:(A.map (·.1))[i]?=some t.1:=by rw[fD,hp]; rfl
    obtain⟨j,hj⟩:=NF.mp m
    rw[Ck] at hj
    split at hj
    ·rename_i lt
     have:=(NM (l:=A.map (·.1)) (i:=j) (j:=i) (dM.mp hj).1 nA).mp (hj.trans hp2.symm)
     omega
    ·cases hj
   refine Vi (d:=dJ (srt t.2.2)) (kd:=.str t.1) (key:=.inr t.1) (kds:=(A.take i).map kdS) (bT (ds:=[dJ (srt t.2.2)]) (fO (g:=aM) (cH (a:=plD L) (b:=.str t.1) rfl rfl (HK h mt)) rfl) rfl) rfl rfl rfl (CP hn) (by rw[bX,lC]; show min i A.length<_; omega) ⟨_,.inl rfl,s0 (.str t.1),?_⟩
   rw[vT,hp]
   simp[kdS,kD]
  ·rintro _ ⟨x,rfl⟩
   refine⟨_,rfl,x,?_⟩
   rw[bX,zJ]
   rfl
 rintro _ ⟨x,rfl⟩
 exact⟨_,rfl,rfl⟩
end
theorem Hn (c:Int)(h1:1≤w)(hw:w≤6) : ∃ r:List Int,sN [.int c,.int w]=some (bL r)/\r.length=w/\RwG r:=by
 have big:(10:Nat) ^ 60<10 ^ 70:=by decide +kernel
 have go:Goes KP [s0 (.int c),s0 (.int w),none,none] fun o=>∃ r:List Int,o = .rt (bL r)/\r.length=w/\RwG r:=by
  refine eY (ρ':=[s0 (.int c),s0 (.int w),some (1,.list []),none]) rfl ?_
  refine jT (fun ρ'=>∃ (r:List Int) (x:L2.Slot),r.length=w/\(∀ v∈r,v.natAbs<10 ^ 70)/\ρ'=[s0 (.int c),s0 (.int w),some (1,.list (r.map aZ)),x]) ?_ ?_
  ·refine IF (n:=w) (fun i ρ'=>∃ (r:List Int) (x:L2.Slot),r.length=i/\(∀ v∈r,v.natAbs<10 ^ 70)/\ρ'=[s0 (.int c),s0 (.int w),some (1,.list (r.map aZ)),x]) (avS (wY rfl (by omega))) ⟨[],_,rfl,fun v m=>by simp at m,rfl⟩ ?_ ?_
   ·rintro i _ hi ⟨r,x,lr,hr,rfl⟩
    refine⟨[s0 (.int c),s0 (.int w),some (1,.list (r.map aZ)),s0 (.int i)],rfl,?_⟩
    have b:=gQ (cK c (11+(i:Int))) (show(0:Int)<(3:Nat) by decide)
    let v:Int:=cK c (11+(i:Int))%(3:Nat) - 1
    refine Aq (d:=.int v) (ds:=r.map aZ) (cH (a:=.int (cK c (11+(i:Int))%(3:Nat))) (b:=.int 1) (cH (a:=.int (cK c (11+(i:Int)))) (b:=.int (3:Nat)) (bT (ds:=[.int c,.int (11+(i:Int))]) rfl (iH c _ (by omega) (by omega))) rfl (oB _ 3 (by omega))) rfl rfl) rfl (by simp; omega) ⟨_,.inl rfl,r++[v],s0 (.int i),by simp[lr],fun y m=>?_,?_⟩
    ·rcases iO.mp m with m | m
     ·exact hr y m
     ·rw[cN.mp m]
      have hv:v=cK c (11+(i:Int))%(3:Nat) - 1:=rfl
      have:v.natAbs<10 ^ 60:=gG (show v.natAbs<2 by omega) (by decide +kernel)
      exact vQ this big
    ·simp[zL]
   ·rintro _ ⟨r,x,h1,h2,rfl⟩
    exact⟨_,rfl,r,x,h1,h2,rfl⟩
  rintro _ ⟨r,x,l1,l2,rfl⟩
  have hb:=gQ (cK c 18) (show(0:Int)<(w:Nat) by omega)
  obtain⟨j,ej⟩:=qY hb.1
  have hj:j<r.length:=by omega
  have b60:=gQ c (show(0:Int)<10 ^ 60 by decide +kernel)
  have b2:=gQ (cK c 19) (show(0:Int)<(2:Nat) by decide)
  let y:Int:=cK c 19%(2:Nat)
  have hy:y=0 \/ y=1:=by
   have:y=cK c 19%(2:Nat):=rfl
   omega
  let q:Int:=c%10 ^ 60 / (7:Nat)
  have hq:q.natAbs<10 ^ 60:=by
   have:q=c%10 ^ 60 / (7:Nat):=rfl
   generalize c%10 ^ 60=z at *
   omega
  let v:Int:=q*(1 - 2*y)
  have hv:v.natAbs<10 ^ 70:=by
   have:v.natAbs=q.natAbs:=by
    have:v=q*(1 - 2*y):=rfl
    rcases hy with e | e <;> rw[this,e] <;> omega
   rw[this]
   exact vQ hq big
  refine jT (fun ρ'=>ρ'=[s0 (.int c),s0 (.int w),some (1,.list ((r.set j v).map aZ)),x]) ?_ ?_
  ·refine Jd (d:=.int v) (ds:=r.map aZ) (j:=(j:Int)) (jn:=j) (cH (a:=.int q) (b:=.int (1 - 2*y)) (cH (a:=.int (c%10 ^ 60)) (b:=.int (7:Nat)) (cH (a:=.int c) (b:=.int (10 ^ 60)) rfl (cH (a:=.int 10) (b:=.int (60:Nat)) rfl rfl (IH (by omega))) (Je (by decide +kernel))) rfl (Fl _ 7 (by omega))) (cH (a:=.int 1) (b:=.int (2*y)) rfl (cH (a:=.int 2) (b:=.int y) rfl (cH (a:=.int (cK c 19)) (b:=.int (2:Nat)) (bT (ds:=[.int c,.int 19]) rfl (iH c 19 (by omega) (by omega))) rfl (oB _ 2 (by omega))) (Ez (by decide))) rfl) (mul_r ?_)) rfl (cH (a:=.int (cK c 18)) (b:=.int w) (bT (ds:=[.int c,.int 18]) rfl (iH c 18 (by omega) (by omega))) rfl ((oB _ w (by omega)).trans (by rw[ej]))) (Ko (by rw[bX]; exact hj)) ⟨_,rfl,?_⟩
   ·have:(1 - 2*y).natAbs<2:=by rcases hy with e | e <;> rw[e] <;> decide
    exact gG this (by decide)
   ·rw[List.map_set]
    rfl
  rintro _ rfl
  refine uH (jA (d:=bL (r.set j v)) (bT (ds:=[.list ((r.set j v).map aZ)]) rfl rfl) ⟨r.set j v,rfl,by rw[NJ]; exact l1,by rw[NJ]; omega,by rw[NJ]; omega,fun z m=>?_⟩)
  rcases Cg m with m | rfl
  ·exact l2 z m
  ·exact hv
 obtain⟨o,eo,r,rfl,h1,h2⟩:=go
 refine⟨r,?_,h1,h2⟩
 show outD (KP [s0 (.int c),s0 (.int w),none,none])=_
 rw[eo]
 rfl
theorem Uw {f:EF}{ρ:aY}{t:aD×Nat}{ρ':aY}{j:Nat}(h:f (vS ρ)=some (eJ t))(e:rP i j (eJ t) ρ=some ρ'):DZ .s f (rP i j) ρ=some (.nx ρ'):=by
 unfold DZ
 rw[show eV 0 .s f ρ=some (eJ t) from h,bO,e]
 rfl
theorem YX{fk:EF}(hi:i<ts.length)(e1:aF 1 ρ=some (.list (ts.map eJ)))(ek:fk ρ=some (.int i)):eOp gIx (aF 1) fk ρ=some (eJ ts[i]):=
 cH (a:=.list (ts.map eJ)) (b:=.int i) e1 ek (kU (by rw[fD,jW hi]; rfl))
theorem RO (ts:List (aD×Nat)):cY [.list (ts.map eJ)]=some (.int ts.length):=by simp[cY]
theorem Jx {v:aA}{n:Nat}(h:n≤1000):oF (.tuple [v]) (.int n)=some (.tuple (fC ((n:Int)).toNat [v]).flatten):=by
 unfold oF
 refine if_pos ⟨by omega,by omega,?_⟩
 rw[FK,Nat.one_mul]
 omega
def hpD (L:List bY):aA:=.tuple [plD L,plD L]
theorem Ab {j:Nat}{G:List aA->Option (aA×List aA)}{fw ft:EF}{ρ:aY}{bs ms rs:List aA}{t:aA}{k:aL}{kds:List (aA×aA)}{q:aA×List aA}(b1:zX i ρ=some bs)(b2:getM j ρ=some ms)(e1:fw (vS ρ)=some (.int (w:Int)))(e3:ft (vS ρ)=some t)(e4:bR t=some k)(e5:fa (vS ρ)=some ds)(e6:bs[w]?=some d)(e7:ms[w]?=some (.dict kds))(e9:bG kds k=some (.list rs))(e11:G (d :: .list rs::ds)=some q) :
  wM i j G fw ft fa ρ=some (.nx ((ρ.set i (some (10,.list (bs.set w q.1)))).set j (some (3,.list (ms.set w (.dict (gM kds k (.list q.2)))))))):=by
 have ew:asW (.int (w:Int))=some w:=by
  show(if 0≤(w:Int) then some (w:Int).toNat else none)=_
  rw[if_pos (by omega)]
  rfl
 unfold wM DX
 rw[b1,bO,b2,bO,e1,bO,ew,bO,e3,bO,e4,bO,e5,bO,e6,bO,e7,bO]
 show(((bG kds k).bind fun l=>(DN l).bind fun rs=>(G (d :: .list rs::ds)).bind fun q=>_).bind _)=_
 rw[e9,bO]
 show(((G (d :: .list rs::ds)).bind fun q=>_).bind _)=_
 rw[e11]
 rfl
theorem RM (z:aD)(d:aA) : ∀ A:List (aD×aA),∃ A':List (aD×aA),gM (A.map kdS) (.inr z) d=A'.map kdS/\A'.map (·.1)=A.map (·.1)
 | []=>⟨[],rfl,rfl⟩
 | x::A=>by
  by_cases e:x.1=z
  ·refine⟨(x.1,d)::A,?_,rfl⟩
   show(if bR (.str x.1)=some (.inr z) then(cF x.1,d)::A.map kdS else _)=_
   rw[if_pos (show bR (.str x.1)=some (.inr z) by rw[e]; rfl)]
   rfl
  ·obtain⟨A',e1,e2⟩:=RM z d A
   refine⟨x::A',?_,by rw[dC,dC,e2]⟩
   show(if bR (.str x.1)=some (.inr z) then _ else(cF x.1,x.2)::gM (A.map kdS) (.inr z) d)=_
   rw[if_neg (fun q=>e (by simpa [bR] using q)),e1]
   rfl
theorem Sl(nd:(A.map (·.1)).Nodup)(m:z∈A.map (·.1)):(bG (A.map kdS) (.inr z)).isSome=true:=by
 obtain⟨p,mp,rfl⟩:=bF.mp m
 rw[sI (d:=p.2) nd mp]
 rfl
theorem Vv (ts:List (aD×Nat)):dX 10 (.list [bkD (ts.map t3),bkD (ts.map t3)])=true:=by
 have w:dX 7 (.dict (((ts.map t3).map wdT).map kdS))=true:=eE.mpr fun kd m=>by
  obtain⟨p,mp,rfl⟩:=bF.mp m
  obtain⟨t,_,rfl⟩:=bF.mp mp
  rfl
 have d:dX 7 (.dict (((ts.map t3).map hdT).map kdS))=true:=eE.mpr fun kd m=>by
  obtain⟨p,mp,rfl⟩:=bF.mp m
  obtain⟨u,mu,rfl⟩:=bF.mp mp
  obtain⟨t,_,rfl⟩:=bF.mp mu
  rfl
 have b:dX 9 (bkD (ts.map t3))=true:=by
  show(dX 8 (cF "Book")&&((dX 7 (cF "wide")&&(dX 7 (.dict (((ts.map t3).map wdT).map kdS))&&true))&&((dX 7 (cF "held")&&(dX 7 (.dict (((ts.map t3).map hdT).map kdS))&&true))&&true)))=true
  rw[w,d]
  rfl
 show(dX 9 (bkD (ts.map t3))&&(dX 9 (bkD (ts.map t3))&&true))=true
 rw[b]
 rfl
theorem Ua {f1 f2:EF}{L0 L1:List bY}(e1:f1 ρ=some (bkD L0))(e2:f2 ρ=some (bkD L1)):AO "Book" f1 f2 ρ=some (.list [bkD L0,bkD L1]):=by
 unfold AO
 rw[e1,bO,e2,bO,if_pos ⟨by rw[rJ]; rfl,by rw[rJ]; rfl⟩]
structure Gd (ts:List (aD×Nat))(L:List bY):Prop where
 bk:BkG L
 tb:L.map (fun t=>(t.1,t.2.1))=ts
 few : ∀ t∈L,t.2.2.length≤50
theorem Gd.new(h:TsG ts):Gd ts (ts.map t3):=⟨h.bk,by rw[fQ]; exact tD ts,fun t m=>by
 obtain⟨u,_,rfl⟩:=bF.mp m
 simp[t3]⟩
theorem Gd.at{L:List bY}(h:Gd ts L){t:aD×Nat}(m:t∈ts) : ∃ x∈L,x.1=t.1/\x.2.1=t.2:=by
 obtain⟨x,mx,ex⟩:=bF.mp (show t∈L.map (fun t=>(t.1,t.2.1)) by rw[h.tb]; exact m)
 exact⟨x,mx,congrArg Prod.fst ex,congrArg Prod.snd ex⟩
theorem Gd.step{L:List bY}(h:Gd ts L){t:aD×Nat}(m:t∈ts)(hr:RwG r)(hw:r.length=t.2)(way:Int) : ∃ (R old:List (List Int)),Gd ts (L.map (chR t.1 R))/\bG ((L.map mdT).map kdS) (.inr t.1)=some (dJ old)/\mE [bkD L,dJ old,.str t.1,bL r,.int way]=some (bkD (L.map (chR t.1 R)),R.map bL):=by
 obtain⟨x,mx,e1,e2⟩:=h.at m
 obtain⟨R,hR,hl,e⟩:=Le h.bk mx hr (hw.trans e2.symm) (h.few x mx) way
 refine⟨R,x.2.2,⟨?_,by rw[Ur]; exact h.tb,fun y my=>?_⟩,?_,?_⟩
 ·rw[← e1]
  exact Lz h.bk mx hR
 ·obtain⟨u,mu,rfl⟩:=bF.mp my
  by_cases c:u.1=t.1
  ·rw[xI c]
   exact hl
  ·rw[uW c]
   exact h.few u mu
 ·rw[← e1]
  exact ZV h.bk mx
 ·rw[← e1]
  exact e
theorem He (ns:List Int)(hl:ns.length≤63):GV [.list (ns.map aZ)]=some (.bool true):=by
 obtain⟨c0,e0⟩:=QP (ns:=ns) (k:=0) (by omega) (by omega)
 obtain⟨c1,e1⟩:=QP (ns:=ns) (k:=1) (by omega) (by omega)
 have b5:=gQ (cK c1 5) (show(0:Int)<(3:Nat) by decide)
 obtain⟨n5,en5⟩:=qY b5.1
 obtain⟨zs,ez,lz,hz,hnd⟩:=Uv c0 (n:=1+n5) (by omega)
 let A:aA:=.list (ns.map aZ)
 refine kO rfl ?_
 refine eY (ρ':=[s0 A,some (1,.list []),none,none,none,none,none,none,none,none,none,none,none,none,none]) rfl ?_
 refine jT (fun ρ'=>∃ (ts:List (aD×Nat)) (x:L2.Slot),ts.map (·.1)=zs/\(∀ t∈ts,1≤t.2/\t.2≤6)/\ρ'=[s0 A,some (1,.list (ts.map eJ)),x,none,none,none,none,none,none,none,none,none,none,none,none]) ?_ ?_
 ·refine pP (ds:=zs.map cF) (fun i ρ'=>∃ (ts:List (aD×Nat)) (x:L2.Slot),ts.map (·.1)=zs.take i/\(∀ t∈ts,1≤t.2/\t.2≤6)/\ρ'=[s0 A,some (1,.list (ts.map eJ)),x,none,none,none,none,none,none,none,none,none,none,none,none]) (avS (oQ (bT (ds:=[.int c0,.int ((1+n5:Nat):Int)]) (fO (bT (ds:=[A,.int 0]) rfl e0) (fO (g:=aM) (cH (a:=.int 1) (b:=.int n5) rfl (cH (a:=.int (cK c1 5)) (b:=.int (3:Nat)) (bT (ds:=[.int c1,.int 5]) (fO (bT (ds:=[A,.int 1]) rfl e1) rfl) (iH c1 5 (by omega) (by omega))) rfl ((oB _ 3 (by omega)).trans (by rw[en5]))) (by show some (aZ (1+(n5:Int)))=_; congr 2)) rfl)) ez))) ⟨[],none,rfl,fun _ m=>by simp at m,rfl⟩ ?_ ?_
  ·rintro i d _ hd ⟨ts,x,ht1,ht,rfl⟩
   rw[fD] at hd
   obtain⟨z,hz1,rfl⟩:=hX.mp hd
   have hi:i<zs.length:=(dM.mp hz1).1
   have hl2:ts.length=i:=by
    have:=congrArg pH ht1
    rw[bX,lC] at this
    omega
   have b:=gQ (cK c1 (6+(i:Int))) (show(0:Int)<(6:Nat) by decide)
   obtain⟨q,hq⟩:=qY b.1
   let S:aY:=[s0 A,some (1,.list (ts.map eJ)),s0 (.str z),none,none,none,none,none,none,none,none,none,none,none,none]
   refine⟨S,rfl,?_⟩
   refine Ii (d:=eJ (z,1+q)) ?_ ?_ (ds:=ts.map eJ) rfl (by simp; omega) ⟨_,.inl rfl,ts++[(z,1+q)],s0 (.str z),?_,fun t m=>?_,by simp[S]⟩
   ·refine HJ (ds:=[.str z,.int ((1+q:Nat):Int)]) (fO rfl (fO (g:=aM) (cH (a:=.int 1) (b:=.int q) rfl (cH (a:=.int (cK c1 (6+(i:Int)))) (b:=.int (6:Nat)) (bT (ds:=[.int c1,.int (6+(i:Int))]) (fO (bT (ds:=[A,.int 1]) rfl e1) (fO (g:=aM) (cH (a:=.int 6) (b:=.int i) rfl (bT (ds:=[.list (ts.map eJ)]) rfl ((RO ts).trans (by rw[hl2]))) rfl) rfl)) (iH c1 (6+(i:Int)) (by omega) (by omega))) rfl ((oB _ 6 (by omega)).trans (by rw[hq]))) (by show some (aZ (1+(q:Int)))=_; congr 2)) rfl))
   ·simp[eJ,dU,lX]
   ·rw[zL,ht1,vT,hz1]
    rfl
   ·rcases iO.mp m with m | m
    ·exact ht t m
    ·rw[cN.mp m]
     exact⟨by simp,by simp; omega⟩
  ·rintro _ ⟨ts,x,h1,h2,rfl⟩
   exact⟨_,rfl,ts,x,by simpa using h1,h2,rfl⟩
 rintro _ ⟨ts,x2,h1,h2,rfl⟩
 have lts:ts.length=1+n5:=by rw[← lz,← h1,bX]
 have hT:TsG ts:=⟨by omega,fun t m=>⟨hz _ (h1 ▸ bF.mpr ⟨t,m,rfl⟩),h2 t m⟩,by rw[h1]; exact hnd⟩
 have h0:0<ts.length:=by omega
 let B:aA:=.list (ts.map eJ)
 let E0:aA:=.list []
 refine uH ?_
 show Goes _ [s0 A,s0 B,x2,none,none,none,none,none,none,none,none,none,none,none,none] _
 refine HA (d:=B) (bT (ds:=[B]) rfl rfl) (by simp) ?_
 refine HR (n:=10) (d:=.list [bkD (ts.map t3),bkD (ts.map t3)]) (Ua (bT (ds:=[B]) rfl (Av hT none)) (bT (ds:=[B]) rfl (Av hT none))) (Vv ts) (by simp) ?_
 refine eY (ρ':=[s0 A,s0 B,x2,some (1,E0),some (10,.list [bkD (ts.map t3),bkD (ts.map t3)]),none,none,none,none,none,none,none,none,none,none]) rfl ?_
 refine uH ?_
 refine eY (ρ':=[s0 A,s0 B,x2,s0 E0,some (10,.list [bkD (ts.map t3),bkD (ts.map t3)]),some (3,.list [.dict [],.dict []]),none,none,none,none,none,none,none,none,none]) rfl ?_
 let U:Nat->aA:=fun i=>mdD ((ts.take i).map t3)
 let S0:Nat->Nat->L2.Slot->L2.Slot->aY:=fun i j x2 x6=>[s0 A,s0 B,x2,s0 E0,some (10,.list [bkD (ts.map t3),bkD (ts.map t3)]),some (3,.list [U i,U j]),x6,none,none,none,none,none,none,none,none]
 have h3 : ∀ (c i j:Nat) (t:aD×Nat) (x6:L2.Slot) (k:Nat),ts[k]?=some t->(c=0/\i=k \/ c=1/\j=k)->xA 5 c .s (oX aM) .s (aF 2) (S0 i j (s0 (.str t.1)) x6)=some (.nx (S0 (if c=0 then k+1 else i) (if c=0 then j else k+1) (s0 (.str t.1)) x6)):=fun c i j t x6 k ht hc=>by
  have hn:t.1∉(((ts.take k).map t3).map mdT).map (·.1):=fun m=>by
   rw[BU,BV] at m
   rw[NI] at m
   have hi:k<(ts.map (·.1)).length:=by rw[bX]; exact(dM.mp ht).1
   have ht2:(ts.map (·.1))[k]?=some t.1:=by rw[fD,ht]; rfl
   obtain⟨j,hj⟩:=NF.mp m
   rw[Ck] at hj
   split at hj
   ·rename_i lt
    have:=(NM (l:=ts.map (·.1)) (i:=j) (j:=k) (dM.mp hj).1 hT.nd).mp (hj.trans ht2.symm)
    omega
   ·cases hj
  have up:PyData.dict ((((ts.take k).map t3).map mdT).map kdS++[(kD (.inr t.1),.list [])])=U (k+1):=by
   show _=mdD ((ts.take (k+1)).map t3)
   rw[vT,ht]
   simp[mdD,mdT,t3,kdS,kD,dJ]
  unfold xA
  show((some [U i,U j]).bind fun ms=>(ms[c]?).bind fun mm=>(wN mm).bind fun kds=>(some (cF t.1)).bind fun kd=>(bR kd).bind fun key=>if bG kds key=none/\kds.length<sizeLine then some (Out.nx ((S0 i j (s0 (.str t.1)) x6).set 5 (some (3,.list (ms.set c (.dict (kds++[(kD key,.list [])]))))))) else none)=_
  have cnd:bG ((((ts.take k).map t3).map mdT).map kdS) (.inr t.1)=none/\((((ts.take k).map t3).map mdT).map kdS).length<sizeLine:=⟨CP hn,by
   rw[bX,bX,bX,lC]
   exact sE (by omega)⟩
  rcases hc with⟨rfl,rfl⟩ | ⟨rfl,rfl⟩
  ·show(if bG ((((ts.take i).map t3).map mdT).map kdS) (.inr t.1)=none/\((((ts.take i).map t3).map mdT).map kdS).length<sizeLine then some (Out.nx ((S0 i j (s0 (.str t.1)) x6).set 5 (some (3,.list ([U i,U j].set 0 (.dict ((((ts.take i).map t3).map mdT).map kdS++[(kD (.inr t.1),.list [])]))))))) else none)=_
   rw[if_pos cnd,up]
   rfl
  ·show(if bG ((((ts.take j).map t3).map mdT).map kdS) (.inr t.1)=none/\((((ts.take j).map t3).map mdT).map kdS).length<sizeLine then some (Out.nx ((S0 i j (s0 (.str t.1)) x6).set 5 (some (3,.list ([U i,U j].set 1 (.dict ((((ts.take j).map t3).map mdT).map kdS++[(kD (.inr t.1),.list [])]))))))) else none)=_
   rw[if_pos cnd,up]
   rfl
 refine jT (fun ρ'=>∃ x2 x6,ρ'=S0 ts.length ts.length x2 x6) ?_ ?_
 ·refine pP (ds:=ts.map eJ) (fun i ρ'=>∃ x2 x6,ρ'=S0 i i x2 x6) (avS (oQ rfl)) ⟨_,_,rfl⟩ ?_ ?_
  ·rintro i d _ hd ⟨y2,y6,rfl⟩
   rw[fD] at hd
   obtain⟨t,ht,rfl⟩:=hX.mp hd
   refine⟨S0 i i (s0 (.str t.1)) (s0 (.int t.2)),rfl,?_⟩
   refine eY (h3 0 i i t _ i ht (.inl ⟨rfl,rfl⟩)) ?_
   exact⟨_,h3 1 (i+1) i t _ i ht (.inr ⟨rfl,rfl⟩),_,.inl rfl,_,_,rfl⟩
  ·rintro _ ⟨y2,y6,rfl⟩
   exact⟨_,rfl,y2,y6,by rw[bX]⟩
 rintro _ ⟨y2,y6,rfl⟩
 have eU:U ts.length=mdD (ts.map t3):=by
  show mdD ((ts.take ts.length).map t3)=_
  rw[zJ]
 let S:List bY->List bY->List (List bY)->L2.Slot->L2.Slot->L2.Slot->L2.Slot->L2.Slot->L2.Slot->L2.Slot->aY:=fun L0 L1 hs x2 x6 x8 x9 x10 x11 x12=>[s0 A,s0 B,x2,s0 E0,some (10,.list [bkD L0,bkD L1]),some (3,.list [mdD L0,mdD L1]),x6,some (1,.list (hs.map hpD)),x8,x9,x10,x11,x12,none,none]
 have hS0:S0 ts.length ts.length y2 y6=[s0 A,s0 B,y2,s0 E0,some (10,.list [bkD (ts.map t3),bkD (ts.map t3)]),some (3,.list [mdD (ts.map t3),mdD (ts.map t3)]),y6,none,none,none,none,none,none,none,none]:=by
  show [s0 A,s0 B,y2,s0 E0,some (10,.list [bkD (ts.map t3),bkD (ts.map t3)]),some (3,.list [U ts.length,U ts.length]),y6,none,none,none,none,none,none,none,none]=_
  rw[eU]
 rw[hS0]
 refine eY (ρ':=S (ts.map t3) (ts.map t3) [] y2 y6 none none none none none) rfl ?_
 have gn:=Gd.new hT
 refine jT (fun ρ'=>∃ L0 L1 hs x2 x6 x8 x9 x10 x11 x12,Gd ts L0/\Gd ts L1/\(∀ L∈hs,BkG L)/\ρ'=S L0 L1 hs x2 x6 x8 x9 x10 x11 x12) ?_ ?_
 ·obtain⟨ys,ey,ly,_⟩:=Lb aZ ns (some 2) (some 82)
  have ei:aV .s (iIt (qL (aF 0) (oS (eC (.int 2))) (oS (eC (.int 82))))) (S (ts.map t3) (ts.map t3) [] y2 y6 none none none none none)=some (ys.map aZ):=oQ ((Fp (ds:=ns.map aZ) rfl (PF (i:=2) rfl) (PF (i:=82) rfl)).trans (by rw[ey]))
  refine pP (ds:=ys.map aZ) (fun i ρ'=>∃ L0 L1 hs x2 x6 x8 x9 x10 x11 x12,Gd ts L0/\Gd ts L1/\(∀ L∈hs,BkG L)/\hs.length≤i/\ρ'=S L0 L1 hs x2 x6 x8 x9 x10 x11 x12) ei ⟨ts.map t3,ts.map t3,[],y2,y6,none,none,none,none,none,gn,gn,by simp,by simp,rfl⟩ ?_ ?_
  ·rintro i d _ hd ⟨L0,L1,hs,z2,z6,z8,z9,z10,z11,z12,g0,g1,hh,lh,rfl⟩
   rw[fD] at hd
   obtain⟨c,hc,rfl⟩:=hX.mp hd
   have hi:i<ys.length:=(dM.mp hc).1
   refine⟨S L0 L1 hs z2 z6 (s0 (.int c)) z9 z10 z11 z12,rfl,?_⟩
   have bw:=gQ (cK c 20) (show(0:Int)<(2:Nat) by decide)
   obtain⟨w,ew⟩:=qY bw.1
   refine HA (d:=.int w) (cH (a:=.int (cK c 20)) (b:=.int (2:Nat)) (bT (ds:=[.int c,.int 20]) rfl (iH c 20 (by omega) (by omega))) rfl ((oB _ 2 (by omega)).trans (by rw[ew]))) (by simp[S]) ?_
   show Goes _ (S L0 L1 hs z2 z6 (s0 (.int c)) (s0 (.int w)) z10 z11 z12) _
   have hl0:(0:Int)<(ts.length:Int):=by omega
   obtain⟨j,ej⟩:=qY (gQ (cK c 21) hl0).1
   have hj:j<ts.length:=by have:=(gQ (cK c 21) hl0).2; omega
   let t:=ts[j]
   have mt:t∈ts:=zM hj
   have ht:=h2 t mt
   refine eY (ρ':=S L0 L1 hs z2 (s0 (.int t.2)) (s0 (.int c)) (s0 (.int w)) (s0 (.str t.1)) z11 z12) (Uw (t:=t) (YX hj rfl (cH (a:=.int (cK c 21)) (b:=.int ts.length) (bT (ds:=[.int c,.int 21]) rfl (iH c 21 (by omega) (by omega))) (bT (ds:=[B]) rfl (RO ts)) ((oB _ ts.length (by omega)).trans (by rw[ej])))) rfl) ?_
   obtain⟨r,er,lr,gr⟩:=Hn c ht.1 ht.2
   let way:Int:=cK c 22%(4:Nat)
   obtain⟨N0,N1,N,n0,n1,nN,ib,im,es⟩ : ∃ N0 N1 N,Gd ts N0/\Gd ts N1/\Gd ts N/\[bkD N0,bkD N1][w]?=some (bkD N)/\[mdD N0,mdD N1][w]?=some (mdD N)/\wM 4 5 mE (aF 9) (aF 10) (aK (aF 10) (aK (aN sN (aK (aF 8) (aK (aF 6) aM))) (aK (eOp cR (aN fJ (aK (aF 8) (aK (eC (.int 22)) aM))) (eC (.int 4))) aM))) (S L0 L1 hs z2 (s0 (.int t.2)) (s0 (.int c)) (s0 (.int w)) (s0 (.str t.1)) z11 z12)=some (.nx (S N0 N1 hs z2 (s0 (.int t.2)) (s0 (.int c)) (s0 (.int w)) (s0 (.str t.1)) z11 z12)):=by
    have ea:(aK (aF 10) (aK (aN sN (aK (aF 8) (aK (aF 6) aM))) (aK (eOp cR (aN fJ (aK (aF 8) (aK (eC (.int 22)) aM))) (eC (.int 4))) aM))) (vS (S L0 L1 hs z2 (s0 (.int t.2)) (s0 (.int c)) (s0 (.int w)) (s0 (.str t.1)) z11 z12))=some [.str t.1,bL r,.int way]:=fO rfl (fO (bT (ds:=[.int c,.int t.2]) rfl er) (fO (g:=aM) (cH (a:=.int (cK c 22)) (b:=.int (4:Nat)) (bT (ds:=[.int c,.int 22]) rfl (iH c 22 (by omega) (by omega))) rfl (oB _ 4 (by omega))) rfl))
    have hw2:w=0 \/ w=1:=by omega
    rcases hw2 with rfl | rfl
    ·obtain⟨R,old,gR,lk,eG⟩:=g0.step mt gr lr way
     refine⟨L0.map (chR t.1 R),L1,L0.map (chR t.1 R),gR,g1,gR,rfl,rfl,?_⟩
     refine(Ab (bs:=[bkD L0,bkD L1]) (ms:=[mdD L0,mdD L1]) (w:=0) (t:=.str t.1) (k:=.inr t.1) rfl rfl rfl rfl rfl ea rfl rfl lk eG).trans ?_
     rw[show gM ((L0.map mdT).map kdS) (.inr t.1) (.list (R.map bL))=_ from HY t.1 R g0.bk.nd]
     rfl
    ·obtain⟨R,old,gR,lk,eG⟩:=g1.step mt gr lr way
     refine⟨L0,L1.map (chR t.1 R),L1.map (chR t.1 R),g0,gR,gR,rfl,rfl,?_⟩
     refine(Ab (bs:=[bkD L0,bkD L1]) (ms:=[mdD L0,mdD L1]) (w:=1) (t:=.str t.1) (k:=.inr t.1) rfl rfl rfl rfl rfl ea rfl rfl lk eG).trans ?_
     rw[show gM ((L1.map mdT).map kdS) (.inr t.1) (.list (R.map bL))=_ from HY t.1 R g1.bk.nd]
     rfl
   refine eY es ?_
   have ib2:gIx (.list [bkD N0,bkD N1]) (.int w)=some (bkD N):=kU ib
   have im2:gIx (.list [mdD N0,mdD N1]) (.int w)=some (mdD N):=kU im
   let T:List (List bY)->L2.Slot->L2.Slot->aY:=fun hs x11 x12=>S N0 N1 hs z2 (s0 (.int t.2)) (s0 (.int c)) (s0 (.int w)) (s0 (.str t.1)) x11 x12
   show Goes _ (T hs z11 z12) _
   have t1 : ∃ b,bV .s (bOf (eOp gEq (eOp cR (aN fJ (aK (aF 8) (aK (eC (.int 23)) aM))) (eC (.int 5))) (eC (.int 0)))) (T hs z11 z12)=some b:=⟨_,lY (cH (a:=.int (cK c 23%(5:Nat))) (b:=.int 0) (cH (a:=.int (cK c 23)) (b:=.int (5:Nat)) (bT (ds:=[.int c,.int 23]) rfl (iH c 23 (by omega) (by omega))) rfl (oB _ 5 (by omega))) rfl (Au _ _))⟩
   obtain⟨b,t1⟩:=t1
   cases b with
   | false=>exact⟨_,jE t1,_,.inl rfl,N0,N1,hs,_,_,_,_,_,_,_,n0,n1,hh,by omega,rfl⟩
   | true=>
    refine wX t1 ?_
    refine HR (n:=2) (d:=plD N) (bT (rX (ds:=[]) (cH (a:=.list [bkD N0,bkD N1]) (b:=.int w) rfl rfl ib2) rfl) (II nN.bk none)) (An nN.bk) (by simp[T,S]) ?_
    refine uH ?_
    show Goes _ (T hs (s0 (plD N)) z12) _
    refine eY (jE (m:=.a) (kS (x:=true) (bT (ds:=[plD N,mdD N]) (fO rfl (fO (g:=aM) (cH (a:=.list [mdD N0,mdD N1]) (b:=.int w) rfl rfl im2) rfl)) (QW nN.bk)))) ?_
    refine jT (fun ρ'=>ρ'=T (hs++[N]) (s0 (plD N)) z12) ?_ ?_
    ·refine Aq (d:=hpD N) (ds:=hs.map hpD) (HJ (ds:=[plD N,plD N]) (fO rfl (fO (g:=aM) (bT (ds:=[plD N]) rfl (Jq nN.bk)) rfl))) rfl (by rw[bX]; omega) ⟨_,rfl,?_⟩
     simp[T,S]
    rintro _ rfl
    refine HR (n:=2) (d:=plD N) (bT (rX (ds:=[]) (cH (a:=.list [bkD N0,bkD N1]) (b:=.int w) rfl rfl ib2) rfl) (II nN.bk none)) (An nN.bk) (by simp[T,S]) ?_
    show Goes _ (T (hs++[N]) (s0 (plD N)) (some (2,plD N))) _
    obtain⟨x,mx,ex1,ex2⟩:=nN.at mt
    have lk:=HK nN.bk mx
    rw[ex1] at lk
    let sp:aA:=.tuple (fC ((t.2:Int)).toNat [aZ 9]).flatten
    have fsp:dU sp=true:=by
     show lX _=true
     rw[KF,eE]
     intro d m
     obtain⟨l,ml,mm⟩:=dY.mp m
     rw[List.eq_of_mem_replicate ml] at mm
     rw[cN.mp mm]
     rfl
    let Q:=gM (((cT (N.map (·.1))).map (eP N)).map kdS) (.inr t.1) (.list ((srt x.2.2).map bL++[sp]))
    have hlen:=(nN.bk.rs x mx).len
    have sl:=Ar x.2.2
    refine eY (ρ':=T (hs++[N]) (s0 (plD N)) (some (2,.dict Q))) ?_ ?_
    ·have em:eV 0 .s (eOp oF (oZ (aK (eC (.int 9)) aM)) (aF 6)) (T (hs++[N]) (s0 (plD N)) (some (2,plD N)))=some sp:=cH (a:=.tuple [.int 9]) (b:=.int t.2) (HJ (ds:=[.int 9]) rfl) rfl (Jx (by omega))
     unfold GU
     show((bG (((cT (N.map (·.1))).map (eP N)).map kdS) (.inr t.1)).bind fun l=>match l with | .list es=>(eV 0 .s (eOp oF (oZ (aK (eC (.int 9)) aM)) (aF 6)) (T (hs++[N]) (s0 (plD N)) (some (2,plD N)))).bind fun d=>if dU d=true/\es.length<sizeLine then some (Out.nx ((T (hs++[N]) (s0 (plD N)) (some (2,plD N))).set 12 (some (2,.dict (gM (((cT (N.map (·.1))).map (eP N)).map kdS) (.inr t.1) (.list (es++[d]))))))) else none | _=>none)=_
     rw[lk,bO]
     show((eV 0 .s (eOp oF (oZ (aK (eC (.int 9)) aM)) (aF 6)) (T (hs++[N]) (s0 (plD N)) (some (2,plD N)))).bind _)=_
     rw[em,bO,if_pos ⟨fsp,by rw[bX]; exact sE (by omega)⟩]
     rfl
    obtain⟨A',eA,nA⟩:=RM t.1 (.list ((srt x.2.2).map bL++[sp])) ((cT (N.map (·.1))).map (eP N))
    let u:=ts[0]'(by omega)
    have lk2:(bG Q (.inr u.1)).isSome=true:=by
     show(bG (gM _ _ _) _).isSome=true
     rw[eA]
     refine Sl (by rw[nA,sH]; exact xD nN.bk) ?_
     rw[nA,sH]
     refine(yL _).mem_iff.mpr ?_
     obtain⟨y,my,ey1,_⟩:=nN.at (zM (show 0<ts.length by omega))
     exact bF.mpr ⟨y,my,ey1⟩
    refine⟨.nx (T (hs++[N]) (s0 (plD N)) (some (2,.dict (tN Q (.inr u.1))))),?_,_,.inl rfl,N0,N1,hs++[N],_,_,_,_,_,_,_,n0,n1,fun L m=>?_,by simp; omega,rfl⟩
    ·have e0:eV 0 .s (eOp gIx (eOp gIx (aF 1) (eC (.int 0))) (eC (.int 0))) (T (hs++[N]) (s0 (plD N)) (some (2,.dict Q)))=some (.str u.1):=cH (a:=eJ u) (b:=.int 0) (YX (i:=0) (by omega) rfl rfl) rfl rfl
     unfold GO
     show((eV 0 .s (eOp gIx (eOp gIx (aF 1) (eC (.int 0))) (eC (.int 0))) (T (hs++[N]) (s0 (plD N)) (some (2,.dict Q)))).bind fun k=>(bR k).bind fun k=>if (bG Q k).isSome=true then _ else none)=_
     rw[e0]
     show(if (bG Q (.inr u.1)).isSome=true then some (Out.nx _) else none)=_
     rw[if_pos lk2]
     rfl
    ·rcases iO.mp m with m | m
     ·exact hh L m
     ·rw[cN.mp m]; exact nN.bk
  ·rintro _ ⟨L0,L1,hs,z2,z6,z8,z9,z10,z11,z12,g0,g1,hh,lh,rfl⟩
   exact⟨_,rfl,L0,L1,hs,z2,z6,z8,z9,z10,z11,z12,g0,g1,hh,rfl⟩
 rintro _ ⟨L0,L1,hs,z2,z6,z8,z9,z10,z11,z12,g0,g1,hh,rfl⟩
 refine uH (uH ?_)
 let Z:L2.Slot->L2.Slot->L2.Slot->aY:=fun x11 x13 x14=>[s0 A,s0 B,z2,s0 E0,some (10,.list [bkD L0,bkD L1]),s0 (.list [mdD L0,mdD L1]),z6,s0 (.list (hs.map hpD)),z8,z9,z10,x11,z12,x13,x14]
 show Goes _ (Z z11 none none) _
 refine jT (fun ρ'=>∃ x13,ρ'=Z z11 x13 none) ?_ ?_
 ·refine IF (n:=2) (fun _ ρ'=>∃ x13,ρ'=Z z11 x13 none) (avS (wY rfl (by omega))) ⟨_,rfl⟩ ?_ ?_
  ·rintro i _ hi ⟨x13,rfl⟩
   refine⟨Z z11 (s0 (.int i)) none,rfl,?_⟩
   obtain⟨N,nN,ib,im⟩ : ∃ N,Gd ts N/\[bkD L0,bkD L1][i]?=some (bkD N)/\[mdD L0,mdD L1][i]?=some (mdD N):=by
    have:i=0 \/ i=1:=by omega
    rcases this with rfl | rfl
    ·exact⟨L0,g0,rfl,rfl⟩
    ·exact⟨L1,g1,rfl,rfl⟩
   have ib2:gIx (.list [bkD L0,bkD L1]) (.int i)=some (bkD N):=kU ib
   have im2:gIx (.list [mdD L0,mdD L1]) (.int i)=some (mdD N):=kU im
   exact⟨_,jE (m:=.a) (kS (x:=true) (bT (ds:=[plD N,mdD N]) (fO (bT (rX (ds:=[]) (cH (a:=.list [bkD L0,bkD L1]) (b:=.int i) rfl rfl ib2) rfl) (II nN.bk none)) (fO (g:=aM) (cH (a:=.list [mdD L0,mdD L1]) (b:=.int i) rfl rfl im2) rfl)) (QW nN.bk))),_,.inl rfl,_,rfl⟩
  ·rintro _ ⟨x13,rfl⟩
   exact⟨_,rfl,x13,rfl⟩
 rintro _ ⟨x13,rfl⟩
 refine jT (fun ρ'=>∃ x11 x14,ρ'=Z x11 x13 x14) ?_ ?_
 ·refine pP (ds:=hs.map hpD) (fun _ ρ'=>∃ x11 x14,ρ'=Z x11 x13 x14) (avS (oQ rfl)) ⟨_,_,rfl⟩ ?_ ?_
  ·rintro i d _ hd ⟨x11,x14,rfl⟩
   rw[fD] at hd
   obtain⟨N,hx,rfl⟩:=hX.mp hd
   refine⟨Z (s0 (plD N)) x13 (s0 (plD N)),rfl,?_⟩
   exact⟨_,jE (m:=.s) (lY (cH (a:=plD N) (b:=plD N) rfl rfl (Tj (hh N (iW hx))))),_,.inl rfl,_,_,rfl⟩
  ·rintro _ ⟨x11,x14,rfl⟩
   exact⟨_,rfl,x11,x14,rfl⟩
 rintro _ ⟨x11,x14,rfl⟩
 exact jA (d:=.bool true) rfl rfl
def EB (K:aH):Sp:=fun vs H Q _=>∃ (a:aB) (ns:List Int),vs=[.ref a]/\SqL K H a (ns.map V.int)/\ns.length≤63 /\ ∀ H',Q (.bl true) H'
theorem Fz : ∀ vs H Q E,EB K vs H Q E->spF K 0 GV vs H Q E:=fun vs H Q E gh=>by
 obtain⟨a,ns,ev,hS,hl,k⟩:=gh
 subst ev
 have e0:hid H (fun _=>False)=H:=by
  funext b
  unfold hid
  rw[if_neg (fun z=>z)]
 refine⟨fun _=>False,[.list (ns.map aZ)],.bool true,fun _ z=>z.elim,?_,He ns hl,dA fun v H' _ r=>?_⟩
 ·rw[e0]
  exact Aac.mpr ⟨_,_,rfl,Abf.mpr ⟨a,_,rfl,hS,VE ns⟩,Aaj.mpr rfl⟩
 ·rw[Aat.mp r]
  exact k H'
def Hl (K:aH)(n:aD)(st:bW)(f:aB):Prop:=∃ (od an:Option aB) (sl:Array (Option aE)) (oc kV dc pm cd ct:aE),dP K cL n=some (some (.ref f))/\K.lookup f=some ⟨oc,od,.func (kI n n (kW st) (jB st) (cA st) .none kV dc pm an cd ct),sl⟩/\vO K cd n=true/\lQ K (.ref f)=true
def Hs (K:aH)(n:aD)(st:bW)(f:aB):Prop:=∃ fd,Fun K n n st f fd/\dP K cL n=some (some (.ref f))/\lQ K (.ref f)=true
section
variable {n:aD}
theorem Bhi{kV:aE}(a:dP K cL n=some (some (.ref f)))(l:K.lookup f=some ⟨oc,od,.func (kI n n (kW st) (jB st) (cA st) .none kV dc pm an cd ct),sl⟩)(c:vO K cd n=true)(k:lQ K (.ref f)=true):Hl K n st f:=⟨_,_,_,_,_,_,_,_,_,a,l,c,k⟩
theorem Agq{kV:aE}(a:dP K cL n=some (some (.ref f)))(l:K.lookup f=some ⟨oc,od,.func (kI n n (kW st) (jB st) (cA st) .none kV dc pm an cd ct),sl⟩)(c:vO K cd n=true)(k:lQ K (.ref f)=true):Hs K n st f:=⟨_,ME (st:=st) l c k,a,k⟩
def Hs.fd (h:Hs K n st f):fM:=Classical.choose h
theorem Hs.fn (h:Hs K n st f):Fun K n n st f h.fd:=(vY h).1
theorem Hs.dfX {P:bB}{w:aU}{h base:aP}{k:Nat}{sp:Sp}(X:K.In h)(G:h.Ns cL mg)(H:Hs K n st f)(ok:FnOk P w K mg base (CXR base P w) k f H.fd ps sp)(b:Binds K H.fd ps []):DefX P w K mg base n k ps sp:=⟨_,_,ok,nQ X G (vY H).2.1,(vY H).2.2,b⟩
theorem Hs.df {P:bB}{w:aU}{h base:aP}{k:Nat}{sp:Sp}(X:K.In h)(G:h.Ns cL mg)(H:Hs K n st f)(ok:FnOk P w K mg base CX0 k f H.fd ps sp)(b:Binds K H.fd ps []):Def P w K mg base n k ps sp:=⟨_,_,ok,nQ X G (vY H).2.1,(vY H).2.2,b⟩
end
def Hm (K:aH)(m q:aD)(st:bW)(cB f:aB):Prop:=∃ fd,Fun K m q st f fd/\Meth K cB m f
section
variable {m q:aD}{cB:aB}
theorem Ao8{kV:aE}(a:lA K (.ref cB) m=some (some (.ref f)))(i:MR K (.ref f)=true)(l:K.lookup f=some ⟨oc,od,.func (kI m q (kW st) (jB st) (cA st) .none kV dc pm an cd ct),sl⟩)(c:vO K cd q=true)(k:lQ K (.ref f)=true):Hm K m q st cB f:=⟨_,ME (st:=st) l c k,a,i,k⟩
def Hm.fd (h:Hm K m q st cB f):fM:=Classical.choose h
theorem Hm.fn (h:Hm K m q st cB f):Fun K m q st f h.fd:=(vY h).1
theorem Hm.me (h:Hm K m q st cB f):Meth K cB m f:=(vY h).2
end
theorem mD {us:List aE}{n:Nat}(h:us.length=n+1) : ∃ a r,us=a::r/\r.length=n:=by
 cases us with
 | nil=>exact absurd h (by simp)
 | cons a r=>exact⟨a,r,rfl,Nat.succ.inj h⟩
theorem kM{fd:fM}(F:Fun K x qual st f fd)(hp:ps.length=1)(h : ∀ (kV doc pm:aE) (an:Option aB) (cdv ct:aE) a,zC (kI x qual (kW st) (jB st) (cA st) .none kV doc pm an cdv ct) ⟨[a],[]⟩=pure (ps.zip [a])):Binds K fd ps []:=F.binds fun kV doc pm an cdv ct u0 hl=>by
 have g0:=hl.trans hp
 clear hl
 obtain⟨a,u1,rfl,g1⟩:=mD g0
 cases zO g1
 exact h kV doc pm an cdv ct a
theorem qN{fd:fM}(F:Fun K x qual st f fd)(hp:ps.length=2)(h : ∀ (kV doc pm:aE) (an:Option aB) (cdv ct:aE) a b,zC (kI x qual (kW st) (jB st) (cA st) .none kV doc pm an cdv ct) ⟨[a,b],[]⟩=pure (ps.zip [a,b])):Binds K fd ps []:=F.binds fun kV doc pm an cdv ct u0 hl=>by
 have g0:=hl.trans hp
 clear hl
 obtain⟨a,u1,rfl,g1⟩:=mD g0
 obtain⟨b,u2,rfl,g2⟩:=mD g1
 cases zO g2
 exact h kV doc pm an cdv ct a b
theorem tO{fd:fM}(F:Fun K x qual st f fd)(hp:ps.length=3)(h : ∀ (kV doc pm:aE) (an:Option aB) (cdv ct:aE) a b c,zC (kI x qual (kW st) (jB st) (cA st) .none kV doc pm an cdv ct) ⟨[a,b,c],[]⟩=pure (ps.zip [a,b,c])):Binds K fd ps []:=F.binds fun kV doc pm an cdv ct u0 hl=>by
 have g0:=hl.trans hp
 clear hl
 obtain⟨a,u1,rfl,g1⟩:=mD g0
 obtain⟨b,u2,rfl,g2⟩:=mD g1
 obtain⟨c,u3,rfl,g3⟩:=mD g2
 cases zO g3
 exact h kV doc pm an cdv ct a b c
theorem Do{fd:fM}(F:Fun K x qual st f fd)(hp:ps.length=5)(h : ∀ (kV doc pm:aE) (an:Option aB) (cdv ct:aE) a b c d e,zC (kI x qual (kW st) (jB st) (cA st) .none kV doc pm an cdv ct) ⟨[a,b,c,d,e],[]⟩=pure (ps.zip [a,b,c,d,e])):Binds K fd ps []:=F.binds fun kV doc pm an cdv ct u0 hl=>by
 have g0:=hl.trans hp
 clear hl
 obtain⟨a,u1,rfl,g1⟩:=mD g0
 obtain⟨b,u2,rfl,g2⟩:=mD g1
 obtain⟨c,u3,rfl,g3⟩:=mD g2
 obtain⟨d,u4,rfl,g4⟩:=mD g3
 obtain⟨e,u5,rfl,g5⟩:=mD g4
 cases zO g5
 exact h kV doc pm an cdv ct a b c d e
set_option maxHeartbeats 4000000 in
theorem all_mk {l:Bm}{w:aU}{h:aP}{fa f_is_whole f_is_name f_is_pair f_of_one_length f_Book_tables f__law_cell f__law_mix f__law_copy f_is_value f_is_width f_Book_want_table f__law_names f__law_row f_is_row f_are_widths f_Book_rows f_are_rows f_Book___init__ f_Book_want_row f_Book_plain f_is_book f_Book_put f_Book_drop f_Book_has f__law_plain_holds f__law_deed f_law:aB}(X:K.In h)(G:h.Ns cL mg)(hfa:mg "law" = some (.ref fa)){t_LETTERS t_FIGURES t_MOST_SIGNS t_MOST_WIDTH t_MOST_TABLES t_MOST_ROWS:Tok}
  {cB:aB} (aC:dP K cL "Book" = some (some (.ref cB))) (pg:EY K cB Str.empty=true) (hd:MT K cB=true) (po:Bc K cB=true) (sa:lA K (.ref cB) "__setattr__" = some (some (.builtin "object.__setattr__"))) (mk:Bh K cB=true) (kc:lQ K (.ref cB)=true) (nW:lA K (.ref cB) "wide" = some none) (nH:lA K (.ref cB) "held" = some none)
  (h_is_whole:Hs K "is_whole" KC f_is_whole) (h_is_name:Hs K "is_name" CI f_is_name) (h_is_pair:Hs K "is_pair" JQ f_is_pair) (h_of_one_length:Hs K "of_one_length" DK f_of_one_length) (h_Book_tables:Hm K "tables" "Book.tables" LK cB f_Book_tables) (h__law_cell:Hs K "_law_cell" LG f__law_cell) (h__law_mix:Hs K "_law_mix" KS f__law_mix) (h__law_copy:Hs K "_law_copy" LD f__law_copy) (h_is_value:Hs K "is_value" KI f_is_value) (h_is_width:Hs K "is_width" KN f_is_width) (h_Book_want_table:Hm K "want_table" "Book.want_table" LO cB f_Book_want_table) (h__law_names:Hs K "_law_names" vF f__law_names) (h__law_row:Hs K "_law_row" KB f__law_row) (h_is_row:Hs K "is_row" BQ f_is_row) (h_are_widths:Hs K "are_widths" yG f_are_widths) (h_Book_rows:Hm K "rows" "Book.rows" KW cB f_Book_rows) (h_are_rows:Hs K "are_rows" CS f_are_rows) (h_Book___init__:Hm K "__init__" "Book.__init__" LL cB f_Book___init__) (h_Book_want_row:Hm K "want_row" "Book.want_row" LM cB f_Book_want_row) (h_Book_plain:Hm K "plain" "Book.plain" LI cB f_Book_plain) (h_is_book:Hs K "is_book" CD f_is_book) (h_Book_put:Hm K "put" "Book.put" CU cB f_Book_put) (h_Book_drop:Hm K "drop" "Book.drop" DB cB f_Book_drop) (h_Book_has:Hm K "has" "Book.has" KU cB f_Book_has) (h__law_plain_holds:Hs K "_law_plain_holds" LN f__law_plain_holds) (h__law_deed:Hs K "_law_deed" LC f__law_deed) (h_law:Hl K "law" rO f_law)
  {c_NoTable c_NoRow c_Full:aB} (y_NoTable:dP K cL "NoTable" = some (some (.ref c_NoTable))) (y_NoRow:dP K cL "NoRow" = some (some (.ref c_NoRow))) (y_Full:dP K cL "Full" = some (some (.ref c_Full)))
  (x_NoTable:zE K c_NoTable [.type "ValueError",.type "Exception",.type "BaseException",.type "object"] "ValueError.__new__" = true) (x_NoRow:zE K c_NoRow [.type "ValueError",.type "Exception",.type "BaseException",.type "object"] "ValueError.__new__" = true) (x_Full:zE K c_Full [.type "ValueError",.type "Exception",.type "BaseException",.type "object"] "ValueError.__new__" = true) (xc:XCls K c_NoTable)
  (z_isinstance:dP K cL "isinstance" = some none) (z_int:dP K cL "int" = some none) (z_bool:dP K cL "bool" = some none) (z_abs:dP K cL "abs" = some none) (z_range:dP K cL "range" = some none) (z_len:dP K cL "len" = some none) (z_str:dP K cL "str" = some none) (z_all:dP K cL "all" = some none) (z_any:dP K cL "any" = some none) (z_list:dP K cL "list" = some none) (z_tuple:dP K cL "tuple" = some none) (z_dict:dP K cL "dict" = some none) (z_set:dP K cL "set" = some none) (z_sorted:dP K cL "sorted" = some none) (z_sum:dP K cL "sum" = some none) (z_min:dP K cL "min" = some none) (z_max:dP K cL "max" = some none) (z_enumerate:dP K cL "enumerate" = some none) (z_zip:dP K cL "zip" = some none) (z_reversed:dP K cL "reversed" = some none) (z_ValueError:dP K cL "ValueError" = some none) (g_LETTERS:dP K cL "LETTERS" = some (some (.str "abcdefghijklmnopqrstuvwxyz" t_LETTERS))) (g_FIGURES:dP K cL "FIGURES" = some (some (.str "0123456789" t_FIGURES))) (g_MOST_SIGNS:dP K cL "MOST_SIGNS" = some (some (.int 12 t_MOST_SIGNS))) (g_MOST_WIDTH:dP K cL "MOST_WIDTH" = some (some (.int 6 t_MOST_WIDTH))) (g_MOST_TABLES:dP K cL "MOST_TABLES" = some (some (.int 12 t_MOST_TABLES))) (g_MOST_ROWS:dP K cL "MOST_ROWS" = some (some (.int 60 t_MOST_ROWS))) :
  ∃ fd:fM,(∀ (s:aG) (v:aE),tK s fd ⟨[v],[]⟩ [("_law_script",v)]) /\ ∀ base:aP,K.In base->base.Ns cL mg->FnOk l.prog w K mg base CX0 7 fa fd ["_law_script"] (EB K):=by
 obtain⟨_,an_law,_,_,kV_law,dc_law,pm_law,cd_law,ct_law,a_law,l_law,c_law,k_law⟩:=h_law
 have e:=hfa.symm.trans (nQ X G a_law)
 cases e
 have B:Blt mg:=⟨hV X G z_isinstance,hV X G z_int,hV X G z_bool,hV X G z_abs,hV X G z_range,hV X G z_len,hV X G z_str,hV X G z_all,hV X G z_any,hV X G z_list,hV X G z_tuple,hV X G z_dict,hV X G z_set,hV X G z_sorted,hV X G z_sum,hV X G z_min,hV X G z_max,hV X G z_enumerate,hV X G z_zip,hV X G z_reversed,hV X G z_ValueError⟩
 have C:Cst mg:=⟨⟨_,nQ X G g_LETTERS⟩,⟨_,nQ X G g_FIGURES⟩,⟨_,nQ X G g_MOST_SIGNS⟩,⟨_,nQ X G g_MOST_WIDTH⟩,⟨_,nQ X G g_MOST_TABLES⟩,⟨_,nQ X G g_MOST_ROWS⟩⟩
 have cl:Cls K cB:=⟨pg,hd,po,sa⟩
 have hB:eK K "Book" = some (.ref cB):=Mg aC
 have V:Xcs K mg:=⟨⟨_,hB,cl,nW,nH⟩,⟨_,y_NoTable,x_NoTable⟩,⟨_,y_NoRow,x_NoRow⟩,⟨_,y_Full,x_Full⟩⟩
 refine⟨kI "law" "law" (kW rO) (jB rO) (cA rO) .none kV_law dc_law pm_law an_law cd_law ct_law,fun s v=>.of_eq rfl,fun base _ _=>?_⟩
 have D_is_whole:Def l.prog w K mg base "is_whole" 1 uZ (spF K 0 qH):=h_is_whole.df X G (Qd h_is_whole.fn B C V ) (kM h_is_whole.fn (ps:=uZ) rfl fun _ _ _ _ _ _ _=>rfl)
 have D_is_name:Def l.prog w K mg base "is_name" 1 sM (spF K 0 jJ):=h_is_name.df X G (Pc h_is_name.fn B C V ) (kM h_is_name.fn (ps:=sM) rfl fun _ _ _ _ _ _ _=>rfl)
 have D_is_pair:Def l.prog w K mg base "is_pair" 1 xW (spF K 0 sL):=h_is_pair.df X G (Ny h_is_pair.fn B C V ) (kM h_is_pair.fn (ps:=xW) rfl fun _ _ _ _ _ _ _=>rfl)
 have D_of_one_length:Def l.prog w K mg base "of_one_length" 1 yT (spF K 0 yS):=h_of_one_length.df X G (Se h_of_one_length.fn B C V ) (kM h_of_one_length.fn (ps:=yT) rfl fun _ _ _ _ _ _ _=>rfl)
 have D_Book_tables:MethX l.prog w K mg base "Book" "tables" 1 yP (spX K 1 yR):=⟨⟨_,_,_,hB,cl,h_Book_tables.me,Rv h_Book_tables.fn B C V ,(kM h_Book_tables.fn (ps:=yP) rfl fun _ _ _ _ _ _ _=>rfl)⟩⟩
 have D__law_cell:Def l.prog w K mg base "_law_cell" 1 yF (spF K 0 mZ):=h__law_cell.df X G (Rb h__law_cell.fn B C V ) (qN h__law_cell.fn (ps:=yF) rfl fun _ _ _ _ _ _ _ _=>rfl)
 have D__law_mix:Def l.prog w K mg base "_law_mix" 1 sP (spF K 0 fJ):=h__law_mix.df X G (Py h__law_mix.fn B C V ) (qN h__law_mix.fn (ps:=sP) rfl fun _ _ _ _ _ _ _ _=>rfl)
 have D__law_copy:Def l.prog w K mg base "_law_copy" 1 yM (spF K 2 yE):=h__law_copy.df X G (Rm h__law_copy.fn B C V ) (kM h__law_copy.fn (ps:=yM) rfl fun _ _ _ _ _ _ _=>rfl)
 have D_is_value:Def l.prog w K mg base "is_value" 2 yC (spF K 0 vB):=h_is_value.df X G (Px h_is_value.fn B C V D_is_whole) (kM h_is_value.fn (ps:=yC) rfl fun _ _ _ _ _ _ _=>rfl)
 have D_is_width:Def l.prog w K mg base "is_width" 2 yA (spF K 0 oT):=h_is_width.df X G (Qe h_is_width.fn B C V D_is_whole) (kM h_is_width.fn (ps:=yA) rfl fun _ _ _ _ _ _ _=>rfl)
 have D_Book_want_table:MethX l.prog w K mg base "Book" "want_table" 2 vG (spX K 0 qK):=⟨⟨_,_,_,hB,cl,h_Book_want_table.me,Si h_Book_want_table.fn B C V D_is_name,(qN h_Book_want_table.fn (ps:=vG) rfl fun _ _ _ _ _ _ _ _=>rfl)⟩⟩
 have D__law_names:Def l.prog w K mg base "_law_names" 2 yH (spF K 1 vE):=h__law_names.df X G (Rn h__law_names.fn B C V D__law_mix) (qN h__law_names.fn (ps:=yH) rfl fun _ _ _ _ _ _ _ _=>rfl)
 have D__law_row:Def l.prog w K mg base "_law_row" 2 xZ (spF K 0 sN):=h__law_row.df X G (Qc h__law_row.fn B C V D__law_mix) (qN h__law_row.fn (ps:=xZ) rfl fun _ _ _ _ _ _ _ _=>rfl)
 have D_is_row:Def l.prog w K mg base "is_row" 3 uU (spF K 0 mC):=h_is_row.df X G (Wv h_is_row.fn B C V D_is_value) (kM h_is_row.fn (ps:=uU) rfl fun _ _ _ _ _ _ _=>rfl)
 have D_are_widths:Def l.prog w K mg base "are_widths" 3 yJ (spF K 0 qJ):=h_are_widths.df X G (Ro h_are_widths.fn B C V D_is_name D_is_pair D_is_width) (kM h_are_widths.fn (ps:=yJ) rfl fun _ _ _ _ _ _ _=>rfl)
 have D_Book_rows:MethX l.prog w K mg base "Book" "rows" 3 yO (spX K 1 vD):=⟨⟨_,_,_,hB,cl,h_Book_rows.me,Qo h_Book_rows.fn B C V D_Book_want_table,(qN h_Book_rows.fn (ps:=yO) rfl fun _ _ _ _ _ _ _ _=>rfl)⟩⟩
 have D_are_rows:Def l.prog w K mg base "are_rows" 4 yB (spF K 0 sO):=h_are_rows.df X G (Pu h_are_rows.fn B C V D_of_one_length D_is_row) (kM h_are_rows.fn (ps:=yB) rfl fun _ _ _ _ _ _ _=>rfl)
 have D_Book___init__:MakeX l.prog w K mg base "Book" 4 yU sS:=⟨⟨_,_,_,hB,⟨mk,h_Book___init__.me.at_,h_Book___init__.me.fn,kc⟩,Sa h_Book___init__.fn B C V D_are_widths,(qN h_Book___init__.fn (ps:=yU) rfl fun _ _ _ _ _ _ _ _=>rfl),nQ X G aC⟩,Oa⟩
 have D_Book_want_row:MethX l.prog w K mg base "Book" "want_row" 4 oU (spX K 0 hG):=⟨⟨_,_,_,hB,cl,h_Book_want_row.me,Sd h_Book_want_row.fn B C V D_Book_want_table D_is_row,(tO h_Book_want_row.fn (ps:=oU) rfl fun _ _ _ _ _ _ _ _ _=>rfl)⟩⟩
 have D_Book_plain:MethX l.prog w K mg base "Book" "plain" 4 yI (spX K 2 sR):=⟨⟨_,_,_,hB,cl,h_Book_plain.me,Ri h_Book_plain.fn B C V D_Book_tables D_Book_rows,(kM h_Book_plain.fn (ps:=yI) rfl fun _ _ _ _ _ _ _=>rfl)⟩⟩
 have D_is_book:Def l.prog w K mg base "is_book" 5 xT (spF K 0 xP):=h_is_book.df X G (Nk h_is_book.fn B C V D_is_name D_are_rows) (kM h_is_book.fn (ps:=xT) rfl fun _ _ _ _ _ _ _=>rfl)
 have D_Book_put:MethX l.prog w K mg base "Book" "put" 5 qG (spX K 0 VV):=⟨⟨_,_,_,hB,cl,h_Book_put.me,Pp h_Book_put.fn B C V D_Book_want_row,(tO h_Book_put.fn (ps:=qG) rfl fun _ _ _ _ _ _ _ _ _=>rfl)⟩⟩
 have DM_Book_put:MethM l.prog w K mg base "Book" "put" 5 qG sQ:=⟨⟨_,_,_,hB,cl,h_Book_put.me,Rc h_Book_put.fn B C V D_Book_want_row,(tO h_Book_put.fn (ps:=qG) rfl fun _ _ _ _ _ _ _ _ _=>rfl)⟩,WA⟩
 have D_Book_drop:MethX l.prog w K mg base "Book" "drop" 5 qI (spX K 0 WZ):=⟨⟨_,_,_,hB,cl,h_Book_drop.me,Rg h_Book_drop.fn B C V D_Book_want_row,(tO h_Book_drop.fn (ps:=qI) rfl fun _ _ _ _ _ _ _ _ _=>rfl)⟩⟩
 have DM_Book_drop:MethM l.prog w K mg base "Book" "drop" 5 qI mG:=⟨⟨_,_,_,hB,cl,h_Book_drop.me,Rj h_Book_drop.fn B C V D_Book_want_row,(tO h_Book_drop.fn (ps:=qI) rfl fun _ _ _ _ _ _ _ _ _=>rfl)⟩,WA⟩
 have D_Book_has:MethX l.prog w K mg base "Book" "has" 5 CY (spX K 0 WH):=⟨⟨_,_,_,hB,cl,h_Book_has.me,Qq h_Book_has.fn B C V D_Book_want_row,(tO h_Book_has.fn (ps:=CY) rfl fun _ _ _ _ _ _ _ _ _=>rfl)⟩⟩
 have D__law_plain_holds:Def l.prog w K mg base "_law_plain_holds" 6 yV (spF K 0 vH):=h__law_plain_holds.df X G (Sk h__law_plain_holds.fn B C V D_is_book) (qN h__law_plain_holds.fn (ps:=yV) rfl fun _ _ _ _ _ _ _ _=>rfl)
 have DM__law_deed:DefX l.prog w K mg base "_law_deed" 6 yN (wV K mE):=h__law_deed.dfX X G (Rt h__law_deed.fn B C V DM_Book_put DM_Book_drop) (Do h__law_deed.fn (ps:=yN) rfl fun _ _ _ _ _ _ _ _ _ _ _=>rfl)
 exact(Ge (ME (st:=rO) l_law c_law k_law) B C V D__law_cell D__law_mix D__law_copy D__law_names D__law_row D_Book___init__ D_Book_plain D__law_plain_holds DM__law_deed).imp Fz
theorem walk {l:Bm}{q:bB}{loose:List aD}{XP:(aD->Option aE)->aP->Prop}{YP:aU->aP->Prop}{d:DefRec}{K:Params->aH}(hn:l.most=some 63)(hdf:d.params.defaults=[])
  (hY : ∀ (w:aU) (h:aP),YP w h->(K w.params).In h)
  (F : ∀ (w:aU) (mg:aD->Option aE) (fa:aB) (h:aP),(K w.params).In h->h.Ns cL mg->mg d.name=some (.ref fa) ->
   ∃ fd:fM,(∀ (s:aG) (u:aE),tK s fd ⟨[u],[]⟩ [("_law_script",u)]) /\ ∀ base:aP,(K w.params).In base->base.Ns cL mg->FnOk l.prog w (K w.params) mg base CX0 7 fa fd ["_law_script"] (EB (K w.params))) :
  PySem.W.WalkO q loose XP YP l.row.toRowW d [] (fun f vs=>PySem.call f vs):=
 L2.Bcx (n:=63) (k:=7) (x:="_law_script") (CX:=fun _=>CX0) (sp:=fun w=>EB (K w.params)) hn (by decide) hdf ⟨rfl,by decide,by decide⟩ hY F (fun _ _ a ns hl _ hS=>⟨a,ns,rfl,hS,hl,fun _=>rfl⟩) fun _ _ _ _ _ z=>z
end Aw
def PySem.W.Fast.tw13475577219369467700:=0
def PySem.W.Fast.tw13791338574429873946:=0
def PySem.W.Fast.tw12545897817836712057:=0
def PySem.W.Fast.tw8191943363339567267:=0
def PySem.W.Fast.tw2117268783651652042:=0
def PySem.W.Fast.tw4595303375803328469:=0
def PySem.W.Fast.tw5118126732697009103:=0
def PySem.W.Fast.tw1147556246358573935:=0
def PySem.W.Fast.tw2924378197366102959:=0
def PySem.W.Fast.tw9756674102073579497:=0
def PySem.W.Fast.tw10451141932141134549:=0
def PySem.W.Fast.tw7766010231933610785:=0
def PySem.W.Fast.tw15259807164418778580:=0
def PySem.W.Fast.tw1625269799083473269:=0
def PySem.W.Fast.tw10124612408661268818:=0
def PySem.W.Fast.tw12428794454576041752:=0
def PySem.W.Fast.tw12387759604277248901:=0
def PySem.W.Fast.tw497323958916664864:=0
def PySem.W.Fast.tw12065708064822490892:=0
def PySem.W.Fast.tw2680109795533254287:=0
def PySem.W.Fast.tw3467461306059449460:=0
def PySem.W.Fast.tw5735412943926001559:=0
def PySem.W.Fast.tw1701455916729052530:=0
def PySem.W.Fast.tw11903318789814668397:=0
def PySem.W.Fast.tw4724484331598570714:=0
def PySem.W.Fast.tw6804644469675620041:=0
def PySem.W.Fast.tw15998039732208819831:=0
def PySem.W.Fast.tw450356955570673562:=0
def PySem.W.Fast.tw1508974509279417377:=0
def PySem.W.Fast.tw13706783159599848177:=0
def PySem.W.Fast.tw14923826417023326664:=0
def PySem.W.Fast.tw14789566410232592109:=0
def PySem.W.Fast.tw5452015608063298865:=0
def PySem.W.Fast.tw14904406711273996009:=0
def PySem.W.Fast.tw15097635233463481732:=0
def PySem.W.Fast.tw13628673826037990858:=0
def PySem.W.Fast.tw17452805196879282577:=0
def PySem.W.Fast.tw7476004062621967281:=0
def PySem.W.Fast.tw11591798483546176622:=0
def PySem.W.Fast.tw12906456051020621098:=0
def PySem.W.Fast.tw2670343522977775999:=0
def PySem.W.Fast.tw4208950931487927614:=0
def PySem.W.Fast.tw459785330270565497:=0
def PySem.W.Fast.tw248685527690715945:=0
def PySem.W.Fast.tw8196829793297008886:=0
def PySem.W.Fast.tw1668144290026324755:=0
def PySem.W.Fast.tw12709197193307221279:=0
def PySem.W.Fast.tw5009645137126304800:=0
def PySem.W.Fast.tw13947656957122176565:=0
def PySem.W.Fast.tw3402145362185338825:=0
def PySem.W.Fast.tw15223395791850304616:=0
def PySem.W.Fast.tw8333677595495527495:=0
def PySem.W.Fast.tw7527940067076260784:=0
def PySem.W.Fast.tw3981052031597580183:=0
def PySem.W.Fast.tw7177179807912065193:=0
def PySem.W.Fast.tw15246459920595909948:=0
def PySem.W.Fast.tw5340694232144548288:=0
def PySem.W.Fast.tw5836046307361057776:=0
def PySem.W.Fast.tw12514581751944959541:=0
def PySem.W.Fast.tw1908000213335269631:=0
def PySem.W.Fast.tw17176821873212276021:=0
def PySem.W.Fast.tw10780636081601321347:=0
def PySem.W.Fast.tw16968895209622567078:=0
def PySem.W.Fast.tw1525553734797704203:=0
def PySem.W.Fast.tw7989124161894972800:=0
def PySem.W.Fast.tw2918129991770228032:=0
def PySem.W.Fast.tw18399093539934067018:=0
def PySem.W.Fast.tw8276713031364599594:=0
def PySem.W.Fast.tw893359810939422275:=0
def PySem.W.Fast.tw7124668739072819297:=0
def PySem.W.Fast.tw8328930734259404981:=0
def PySem.W.Fast.tw7179855547117855075:=0
def PySem.W.Fast.tw2674674446294160310:=0
def PySem.W.Fast.tw7042750363182526837:=0
def PySem.W.Fast.tw664411832683497254:=0
def PySem.W.Fast.tw3415380067623737032:=0
def PySem.W.Fast.tw15598692838124277553:=0
def PySem.W.Fast.tw7543785310608880374:=0
def PySem.W.Fast.tw12309734251124750518:=0
def PySem.W.Fast.tw15609262861438136857:=0
def PySem.W.Fast.tw18205192819735991100:=0
def PySem.W.Fast.tw10366650617147194477:=0
def PySem.W.Fast.tw2007649855939506527:=0
def PySem.W.Fast.tw1343916341461822661:=0
def PySem.W.Fast.tw10585678019803548872:=0
def PySem.W.Fast.tw10389117844339251716:=0
def PySem.W.Fast.tw1677447739229353624:=0
def PySem.W.Fast.tw4580015415175989065:=0
def PySem.W.Fast.tw9668819649450697601:=0
def PySem.W.Fast.tw14526376580381054087:=0
def PySem.W.Fast.tw13345123078414213119:=0
def PySem.W.Fast.tw13914632418010764695:=0
def PySem.W.Fast.tw16478256005853120649:=0
def PySem.W.Fast.tw16170610555380735174:=0
def PySem.W.Fast.tw17411937678428896506:=0
def PySem.W.Fast.tw16929767299672819328:=0
def PySem.W.Fast.tw6373912641843229184:=0
def PySem.W.Fast.tw4603360973088655072:=0
def PySem.W.Fast.tw11731729574912326146:=0
def PySem.W.Fast.tw3691780448728918700:=0
def PySem.W.Fast.tw8936612376658456731:=0
def PySem.W.Fast.tw548408210822898675:=0
def PySem.W.Fast.tw7357361475777362153:=0
def PySem.W.Fast.tw16736358271998654248:=0
def PySem.W.Fast.tw8376393230231699658:=0
def PySem.W.Fast.tw15084418251340396362:=0
def PySem.W.Fast.tw16369924065870623673:=0
def PySem.W.Fast.tw12536059544403151280:=0
def PySem.W.Fast.tw5708416341280155796:=0
def PySem.W.Fast.tw2475141036886683198:=0
def PySem.W.Fast.tw12287279291850680343:=0
def PySem.W.Fast.tw13429683248985439233:=0
def PySem.W.Fast.tw11295127462607415753:=0
def PySem.W.Fast.tw1317893244399529060:=0
def PySem.W.Fast.tw13132485368385804647:=0
def PySem.W.Fast.tw11944410654441886244:=0
def PySem.W.Fast.tw4532985497034377147:=0
def PySem.W.Fast.tw11991940581177172009:=0
def PySem.W.Fast.tw971190443359330923:=0
def PySem.W.Fast.tw2994486057402143727:=0
def PySem.W.Fast.tw17294540131761536550:=0
def PySem.W.Fast.tw9184287739316509043:=0
def PySem.W.Fast.tw2256286043210050065:=0
def PySem.W.Fast.tw3784963704453952736:=0
def PySem.W.Fast.tw16141407955039725955:=0
def PySem.W.Fast.tw8705090868814140951:=0
def PySem.W.Fast.tw10466359439570500043:=0
def PySem.W.Fast.tw17687465393638818333:=0
def PySem.W.Fast.tw10332059298999761919:=0
def PySem.W.Fast.tw3812307538864603570:=0
def PySem.W.Fast.tw15666239456857528046:=0
def PySem.W.Fast.tw10471933719206788555:=0
def PySem.W.Fast.tw15682763519329917456:=0
def PySem.W.Fast.tw3899925207103916908:=0
def PySem.W.Fast.tw16600364736537693103:=0
def PySem.W.Fast.tw910559758320074668:=0
def PySem.W.Fast.tw8437504610540875505:=0
def PySem.W.Fast.tw1900274628669142821:=0
def PySem.W.Fast.tw6528587615463965419:=0
def PySem.W.Fast.tw13173194838307093614:=0
def PySem.W.Fast.tw8324227753862115592:=0
def PySem.W.Fast.tw14189902233289511952:=0
def PySem.W.Fast.tw6252007854375499816:=0
def PySem.W.Fast.tw11460044111840177644:=0
def PySem.W.Fast.tw179775677896264092:=0
def PySem.W.Fast.tw2703109881837914677:=0
def PySem.W.Fast.tw16752035107319788757:=0
def PySem.W.Fast.tw2721455613817093393:=0
def PySem.W.Fast.tw11108871993880078823:=0
def PySem.W.Fast.tw10857786493406851030:=0
def PySem.W.Fast.tw16564834119531430593:=0
def PySem.W.Fast.tw2728338020675315821:=0
def PySem.W.Fast.tw12053344452342073296:=0
def PySem.W.Fast.tw15406582031009504073:=0
def PySem.W.Fast.tw6109277074669395036:=0
def PySem.W.Fast.tw10253152165057873711:=0
def PySem.W.Fast.tw13066149137109278664:=0
def PySem.W.Fast.tw418031846743141016:=0
def PySem.W.Fast.tw15869184275323100911:=0
def PySem.W.Fast.tw7063811936546750197:=0
def PySem.W.Fast.tw10855877867346941554:=0
def PySem.W.Fast.tw11213449184770717490:=0
def PySem.W.Fast.tw15494489238247506244:=0
def PySem.W.Fast.tw17371325800708021787:=0
def PySem.W.Fast.tw2805440009147660692:=0
def PySem.W.Fast.tw16279489539860628258:=0
def PySem.W.Fast.tw16878093924746952958:=0
def PySem.W.Fast.tw5336183376770895156:=0
def PySem.W.Fast.tw16532017313355687948:=0
def PySem.W.Fast.tw7968828793512233884:=0
def PySem.W.Fast.tw13731550538701085881:=0
def PySem.W.Fast.tw6896225231391693514:=0
def PySem.W.Fast.tw295199799477489162:=0
def PySem.W.Fast.tw2663603046166823522:=0
def PySem.W.Fast.tw1016645522802410095:=0
def PySem.W.Fast.tw5792674676708872367:=0
def PySem.W.Fast.tw8539221328496600584:=0
def PySem.W.Fast.tw4471299300873817813:=0
def PySem.W.Fast.tw17640718705940075441:=0
def PySem.W.Fast.tw5344869306340019296:=0
def PySem.W.Fast.tw14540148553493576466:=0
def PySem.W.Fast.tw14898431154343482456:=0
def PySem.W.Fast.tw2490505958413335652:=0
def PySem.W.Fast.tw7440219259554979886:=0
def PySem.W.Fast.tw14776987199223571989:=0
def PySem.W.Fast.tw12489827288157587909:=0
def PySem.W.Fast.tw17773360229000425652:=0
def PySem.W.Fast.tw832196643526892944:=0
def PySem.W.Fast.tw16381464631283225628:=0
def PySem.W.Fast.tw13569527278641555979:=0
def PySem.W.Fast.tw664185175916598210:=0
def PySem.W.Fast.tw3890865918634124196:=0
def PySem.W.Fast.tw4431641189070034287:=0
def PySem.W.Fast.tw9008745529188583094:=0
def PySem.W.Fast.tw17936208102254762465:=0
def PySem.W.Fast.tw6986802593909817773:=0
def PySem.W.Fast.tw13616518787217706772:=0
def PySem.W.Fast.tw4322521841017824670:=0
def PySem.W.Fast.tw4680321391914211428:=0
def PySem.W.Fast.tw10056825349348585656:=0
def PySem.W.Fast.tw8675516689983943826:=0
def PySem.W.Fast.tw15273873906757348920:=0
def PySem.W.Fast.tw15081957154421003179:=0
def PySem.W.Fast.tw1592489400373196110:=0
def PySem.W.Fast.tw270105705462092282:=0
def PySem.W.Fast.tw15285732131307853370:=0
def PySem.W.Fast.tw3146269330527200287:=0
def PySem.W.Fast.tw2642988834502661423:=0
def PySem.W.Fast.tw5923047843800620795:=0
def PySem.W.Fast.tw11182556691333566929:=0
def PySem.W.Fast.tw6077286941951298806:=0
def PySem.W.Fast.tw13188166446432567393:=0
def PySem.W.Fast.tw1273619917522597763:=0
def PySem.W.Fast.tw2419606938127532498:=0
def PySem.W.Fast.tw1974130431197565447:=0
def PySem.W.Fast.tw5246478783596778217:=0
def PySem.W.Fast.tw12530404832052216413:=0
def PySem.W.Fast.tw7357099706888942396:=0
def PySem.W.Fast.tw17020293051263628279:=0
def PySem.W.Fast.tw12883961682585284651:=0
def PySem.W.Fast.tw7661119539373269212:=0
def PySem.W.Fast.tw6605533906154394030:=0
def PySem.W.Fast.tw13675516155466149651:=0
def PySem.W.Fast.tw1183306591138073910:=0
def PySem.W.Fast.tw1582769955098302509:=0
def PySem.W.Fast.tw4029850122748652404:=0
def PySem.W.Fast.tw2795011807716419776:=0
def PySem.W.Fast.tw1310388025944676016:=0
def PySem.W.Fast.tw16977173087179245170:=0
def PySem.W.Fast.tw12797291831212295871:=0
def PySem.W.Fast.tw18113503879625591494:=0
def PySem.W.Fast.tw4942916954588397609:=0
def PySem.W.Fast.tw4390448792496747400:=0
def PySem.W.Fast.tw2227404287967049987:=0
def PySem.W.Fast.tw12322086827340087528:=0
def PySem.W.Fast.tw8291274735169178296:=0
def PySem.W.Fast.tw6051325199718655340:=0
def PySem.W.Fast.tw5100812255718702834:=0
def PySem.W.Fast.tw18339216501673315723:=0
def PySem.W.Fast.tw7551175703750728469:=0
def PySem.W.Fast.tw12311034285284617056:=0
def PySem.W.Fast.tw8962440052921120803:=0
def PySem.W.Fast.tw15293327443575995805:=0
def PySem.W.Fast.tw3169226592099823364:=0
def PySem.W.Fast.tw8916358939826148842:=0
def PySem.W.Fast.tw11934598274924102085:=0
def PySem.W.Fast.tw2831870087346498249:=0
def PySem.W.Fast.tw4320596918480608874:=0
def PySem.W.Fast.tw1079917550866579305:=0
def PySem.W.Fast.tw17617500214068908970:=0
def PySem.W.Fast.tw7380492849081347324:=0
def PySem.W.Fast.tw2481533638807089423:=0
def PySem.W.Fast.tw6847087862931537327:=0
def PySem.W.Fast.tw3493317234546862025:=0
def PySem.W.Fast.tw12548111905559175543:=0
def PySem.W.Fast.tw16991179252784261304:=0
def PySem.W.Fast.tw13726383658955812682:=0
def PySem.W.Fast.tw12745570842037653176:=0
def PySem.W.Fast.tw17186551989400363236:=0
open PySem PySem.W PyProof.Rows
set_option maxRecDepth 100000 in
set_option maxHeartbeats 0 in
theorem PySem.Challenge.cw_askwithin_k12_whole_books_apart_holds : PySem.Challenge.rw_askwithin_k12_whole_books_apart.Holds := by
 w_on; o_law; k_head; (case hw=>w_witness2)
 k_fill
 refine Aw.walk (l:=PySem.Challenge.rw_askwithin_k12_whole_books_apart) rfl rfl (fun w h Y=>PySem.W.kIn_of Y) ?F
 case F=>
  intro w mg fa h KX G hmg
  refine' Aw.all_mk KX G hmg ?aC ?pg ?hd ?po ?sa ?mk ?kc ?nW ?nH (Aw.Agq ?_ ?_ ?_ ?_) (Aw.Agq ?_ ?_ ?_ ?_) (Aw.Agq ?_ ?_ ?_ ?_) (Aw.Agq ?_ ?_ ?_ ?_) (Aw.Ao8 ?_ ?i_Book_tables ?_ ?_ ?_) (Aw.Agq ?_ ?_ ?_ ?_) (Aw.Agq ?_ ?_ ?_ ?_) (Aw.Agq ?_ ?_ ?_ ?_) (Aw.Agq ?_ ?_ ?_ ?_) (Aw.Agq ?_ ?_ ?_ ?_) (Aw.Ao8 ?_ ?i_Book_want_table ?_ ?_ ?_) (Aw.Agq ?_ ?_ ?_ ?_) (Aw.Agq ?_ ?_ ?_ ?_) (Aw.Agq ?_ ?_ ?_ ?_) (Aw.Agq ?_ ?_ ?_ ?_) (Aw.Ao8 ?_ ?i_Book_rows ?_ ?_ ?_) (Aw.Agq ?_ ?_ ?_ ?_) (Aw.Ao8 ?_ ?i_Book___init__ ?_ ?_ ?_) (Aw.Ao8 ?_ ?i_Book_want_row ?_ ?_ ?_) (Aw.Ao8 ?_ ?i_Book_plain ?_ ?_ ?_) (Aw.Agq ?_ ?_ ?_ ?_) (Aw.Ao8 ?_ ?i_Book_put ?_ ?_ ?_) (Aw.Ao8 ?_ ?i_Book_drop ?_ ?_ ?_) (Aw.Ao8 ?_ ?i_Book_has ?_ ?_ ?_) (Aw.Agq ?_ ?_ ?_ ?_) (Aw.Agq ?_ ?_ ?_ ?_) (Aw.Bhi ?_ ?_ ?_ ?_)  ?y_NoTable ?y_NoRow ?y_Full ?x_NoTable ?x_NoRow ?x_Full ⟨?xga,?xgh,?xcl,?xmo,?xmb,?xic⟩ ?_ ?_ ?_ ?_ ?_ ?_ ?_ ?_ ?_ ?_ ?_ ?_ ?_ ?_ ?_ ?_ ?_ ?_ ?_ ?_ ?_ ?_ ?_ ?_ ?_ ?_ ?_
  any_goals k_is
  (case x_NoTable=>k_exc);(case x_NoRow=>k_exc);(case x_Full=>k_exc)
